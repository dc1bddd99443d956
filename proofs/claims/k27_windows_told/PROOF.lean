import PyProof.Rows.All
import Wide.All
import OpenK.AllK
import Wide.FinOn
import Lean
import PyProof.EqAt
import PyProof.EqKinds
import PyProof.TupleCall
import KE.KIsAll
import KE.KMinKey
import KE.KTupSum
import KE.KxSplit
import KE.KxAffix
import KE.KIntText
import PyProof.NeKinds
import PyProof.Rows.EqBoolInt
import KE.KSortTup
import KE.KDictLaws
import KE.KNestM
import PyProof.Conv_int_bool
import PySem.Challenge.RW_rowdam_k27_windows_told
noncomputable section
set_option Elab.async false
set_option linter.all false
set_option compiler.extract_closed false
set_option maxRecDepth 100000
def tG:=@PySem.wpAny_bind
def xaa:=@if_pos
def xab:=@Nat.le_refl
def xac:=@PySem.wpAny_pure
def xad:=@if_neg
def xae:=@List.length_map
def xaf:=@List.getElem?_eq_getElem
def xag:=@Option.map_eq_some_iff
def xah:=@List.size_toArray
def xai:=@PySem.Heap.get?_push_of_some
theorem xaj:type_of%@Array.length_toList:=by intros;rfl
def xak:=@List.mem_cons_of_mem
def xal:=@Nat.lt_of_lt_of_le
def xam:=@PySem.Heap.lt_size
def xan:=@List.mem_cons
def xao:=@Nat.le_trans
def xap:=@Bool.false_ne_true
def xaq:=@List.length_append
def xar:=@List.getElem?_map
def xas:=@Option.some.inj
def xat:=@List.getElem?_eq_some_iff
def xau:=@List.mem_cons_self
def xav:=@Bool.and_eq_true
def xaw:=@List.getElem?_append_right
def xax:=@List.mem_append_right
def xay:=@List.map_cons
def xaz:=@List.mem_singleton
def xaA:=@List.getElem?_append_left
def xaB:=@List.mem_map
def xaC:=@decide_eq_false
def xaD:=@Nat.ne_of_lt
def xaE:=@Array.getElem_mem
theorem xaF:type_of%@List.length_cons:=by intros;rfl
def xaG:=@decide_false
def xaH:=@PySem.Heap.get?_push_size
def xaI:=@List.mem_append
def xaJ:=@List.mem_of_getElem?
def xaK:=@Bool.false_eq_true
def xaL:=@List.append_nil
def xaM:=@List.length_set
def xaN:=@List.append_assoc
def xaO:=@Nat.lt_or_ge
def xaP:=@List.map_append
def xaQ:=@PySem.W.kia_one
def xaR:=@PySem.wpAny_mono
def xaS:=@List.drop_eq_getElem_cons
def xaT:=@List.pairwise_append
def xaU:=@PySem.Heap.get?_update_other
def xaV:=@Int.emod_lt_of_pos
def xaW:=@decide_eq_true
def xaX:=@beq_self_eq_true
def xaY:=@List.all_eq_true
def xaZ:=@beq_eq_false_iff_ne
def xa0:=@List.getElem?_eq_none
def xa2:=@Array.getD_eq_getD_getElem?
def xa3:=@List.getElem?_replicate
def xa4:=@if_false
def xa5:=@List.getD_eq_getElem?_getD
def xa6:=@Array.mem_toList_iff
def xa7:=@Int.emod_nonneg
def xa8:=@Nat.zero_le
def xa9:=@decide_true
def xba:=@Array.getElem?_eq_getElem
def xbb:=@Array.toList_append
def xbc:=@decide_eq_true_eq
def xbd:=@List.getElem?_set
def xbe:=@Nat.le_of_lt_succ
def xbf:=@PySem.F.slot_dict_keyiterator_next
def xbg:=@Nat.le_of_lt
theorem xbh:type_of%@List.length_singleton:=by intros;rfl
def xbi:=@Array.getElem?_toList
def xbj:=@Nat.le_antisymm
def xbk:=@List.getElem_mem
def xbl:=@List.mem_reverse
def xbm:=@PySem.W.mg_none_of
def xbn:=@PySem.sizeLine_eq
def xbo:=@PySem.wpAny_newObj_type
def xbp:=@Array.toList_push
def xbq:=@of_decide_eq_true
def xbr:=@PySem.mem_of_lookup
theorem xbs:type_of%@Option.map_some:=by intros;rfl
theorem xbt:type_of%@List.extract_eq_take_drop:=by intros;rfl
def xbu:=@Ne.symm
def xbv:=@List.length_take
def xbw:=@PySem.Obj.data_mapFields
def xbx:=@List.length_range
def xby:=@Bool.eq_iff_iff
theorem xbz:type_of%@List.length_nil:=by intros;rfl
theorem xbA:type_of%@List.nil_append:=by intros;rfl
def xbB:=@PySem.PassesOwn.never
theorem xbC:type_of%@List.filterMap_cons:=by intros;rfl
def xbD:=@Nat.le_of_not_lt
def xbE:=@List.length_replicate
def xbF:=@if_true
def xbG:=@Nat.lt_of_le_of_lt
def xbH:=@List.pairwise_iff_getElem
def xbI:=@List.nodup_cons
def xbJ:=@Array.toList_extract
def xbK:=@List.pairwise_map
def xbL:=@Nat.lt_irrefl
def xbM:=@PySem.wpAny_typeNameOfWhole_keyiter
theorem xbN:type_of%@List.getElem?_cons_succ:=by intros;rfl
def xbO:=@PySem.Heap.SameBut.update
def xbP:=@List.reverse_append
def xbQ:=@List.mem_map_of_mem
def xbR:=@PySem.wpAny_call_entry
theorem xbS:type_of%@List.lookup_cons:=by intros;rfl
def xbT:=@List.take_of_length_le
def xbU:=@PyProof.Rows.callWith_type1
theorem xbV:type_of%@List.set_cons_zero:=by intros;rfl
def xbW:=@List.mem_filter
def xbX:=@PySem.wpAny_passesOwn
theorem xbY:type_of%@List.find?_cons:=by intros;rfl
def xbZ:=@PySem.Heap.get?_update_self
def xb0:=@PySem.wpAny_holding
theorem xb1:type_of%@List.all_cons:=by intros;rfl
def xb2:=@Array.getElem?_eq_some_iff
def xb3:=@List.mem_range
def xb4:=@List.length_drop
def xb5:=@Nat.lt_succ_self
def xb6:=@PySem.wpAny_typeNameOf_keyiter
def xb7:=@List.length_reverse
def xb8:=@List.getElem?_range
def xb9:=@List.getElem_of_mem
def xca:=@PyProof.Rows.slot_tuple_getitem
def xcb:=@PySem.wpAny_getItem_str_slice
theorem xcc:type_of%@List.any_cons:=by intros;rfl
def xcd:=@List.mem_filterMap
theorem xce:type_of%@List.foldl_cons:=by intros;rfl
def xcf:=@Nat.not_lt_zero
theorem xcg:type_of%@List.set_cons_succ:=by intros;rfl
def xch:=@Nat.le_succ
def xci:=@PySem.wpAny_truthy_bool
theorem xcj:type_of%@Int.toNat_natCast:=by intros;rfl
def xck:=@List.reverse_cons
def xcl:=@Nat.lt_succ_of_lt
def xcm:=@List.take_append_drop
def xcn:=@PySem.boot_len
def xco:=@List.mem_append_left
def xcp:=@Array.toList_reverse
def xcq:=@PySem.Paired.length
def xcr:=@PySem.W.mg_of
def xcs:=@List.getElem?_take_of_lt
def xct:=@PySem.SeqAt.EqAt.int_int
def xcu:=@PySem.SeqAt.EqAt.str_str
def xcv:=@Nat.sub_self
theorem xcw:type_of%@List.zip_cons_cons:=by intros;rfl
def xcx:=@Array.size_extract
def xcy:=@PySem.F.args_dict_keyiterator_next_1
def xcz:=@PySem.wpAny_setField
def xcA:=@List.drop_zero
def xcB:=@List.lt_irrefl
def xcC:=@PySem.F.entry_dict_keyiterator_next
def xcD:=@PySem.wpAny_callSpecial?_slot
def xcE:=@List.filter_cons_of_pos
def xcF:=@List.filter_cons_of_neg
def xcG:=@Nat.le_succ_of_le
def xcH:=@PySem.wpAny_dictEntries
def xcI:=@List.getElem?_set_self
def xcJ:=@PySem.wpAny_field
def xcK:=@PyProof.Rows.mirror_perm
def xcL:=@List.Perm.append_right
def xcM:=@List.drop_eq_nil_of_le
theorem xcN:type_of%@List.sum_cons:=by intros;rfl
theorem xcO:type_of%@Option.getD_some:=by intros;rfl
def xcP:=@List.drop_length
def xcQ:=@Array.toList_inj
def xcR:=@PySem.Obj.isFreed_of_fields
def xcS:=@List.Perm.append_left
def xcT:=@List.perm_append_comm
def xcU:=@PySem.wpAny_isOneOf_keyiter
def xcV:=@Array.toList_eraseIdxIfInBounds
def xcW:=@List.getElem?_set_ne
def xcX:=@List.of_mem_zip
def xcY:=@PySem.SeqAt.EqAt.same
def xcZ:=@List.map_nil
def xc1:=@PySem.post_val_or_str
def xc2:=@PyProof.Rows.get?_update_seq
def xc3:=@List.mem_of_mem_take
def xc4:=@PySem.size_of_entries
def xc5:=@Nat.add_le_add_left
def xc6:=@Bool.and_false
def xc7:=@Array.getElem?_setIfInBounds
def xc8:=@PySem.F.slot_dict_setdefault
def xc9:=@PySem.wpAny_fieldsOf
def xda:=@PySem.SeqAt.EqAt.int_str
def xdb:=@PySem.SeqAt.EqAt.str_int
def xdc:=@PySem.wpAny_Call_Name_kw
def xdd:=@List.filterMap_map
def xde:=@of_decide_eq_false
def xdf:=@Int.sub_add_cancel
def xdh:=@Int.mul_lt_mul_of_pos_right
def xdi:=@PySem.Calls.Name_function_global
def xdj:=@Int.fdiv_eq_ediv_of_nonneg
def xdk:=@PyProof.Rows.listUpdate_at
def xdl:=@PySem.wpAny_newList
def xdm:=@Array.toList_setIfInBounds
def xdn:=@PySem.wpAny_assign_Name
def xdo:=@PySem.W.kitx_list
def xdp:=@PySem.W.kitx_dict
def xdq:=@List.ext_getElem?
def xdr:=@Array.Perm.toList
def xds:=@List.nodup_append
def xdt:=@beq_iff_eq
def xdu:=@Nat.not_le
def xdv:=@List.mem_or_eq_of_mem_set
def xdw:=@PySem.Calls.call_function_entry
def xdx:=@PySem.wpAny_rule
def xdy:=@PySem.codeAny_mono
def xdz:=@PySem.Txt.slice_le
def xdA:=@PySem.wpAny_isInstance
def xdB:=@PySem.wpAny_comprehension_free
def xdC:=@PySem.SeqAt.RcAt.lists_lengths
def xdD:=@PySem.F.slot_list_append
def xdE:=@PySem.F.type_list_append
def xdF:=@List.eq_of_mem_replicate
def xdG:=@Array.size_setIfInBounds
def xdH:=@Int.mul_comm
def xdI:=@List.map_map
def xdJ:=@List.filterMap_cons_some
def xdK:=@List.filterMap_cons_none
def xdL:=@PySem.F.plainAttrs_list
def xdM:=@List.pairwise_singleton
def xdN:=@Int.dvd_of_emod_eq_zero
def xdO:=@PySem.wpAny_execs_nil
def xdP:=@PySem.wpAny_specialOf
def xdQ:=@List.cons.injEq
def xdR:=@PySem.wpAny_dictEpoch
def xdS:=@PySem.W.cellsFrom_some
def xdT:=@List.not_lt
def xdU:=@PySem.F.slot_dict_iter
def xdV:=@Int.le_ediv_iff_mul_le
def xdW:=@Int.le_refl
def xdX:=@List.pairwise_lt_range
def xdY:=@Bool.false_and
def xdZ:=@List.mem_iff_getElem?
def xd0:=@List.Perm.refl
def xd1:=@List.drop_drop
theorem xd2:type_of%@List.take_zero:=by intros;rfl
def xd3:=@List.countP_mono_left
def xd4:=@Classical.choose_spec
def xd5:=@List.length_filter_le
theorem xd6:type_of%@PySem.typeIs_str:=by intros;rfl
def xd7:=@Nat.not_lt
def xd8:=@Bool.and_eq_true_iff
def xd9:=@List.mem_of_mem_drop
def xea:=@List.reverse_reverse
def xeb:=@Bool.and_self
def xec:=@Bool.and_true
def xed:=@Bool.not_true
def xee:=@PySem.wpAny_attempt
def xef:=@List.lt_trans
def xeg:=@Int.toNat_of_nonneg
def xeh:=@Array.append_assoc
def xei:=@Nat.ne_of_gt
def xej:=@PySem.W.kitx_tuple
def xek:=@Nat.le_of_eq
theorem xel:type_of%@Nat.sub_zero:=by intros;rfl
def xem:=@Nat.min_self
def xen:=@List.getElem?_drop
def xeo:=@Int.zero_add
def xep:=@List.take_sublist
def xeq:=@Option.some.injEq
def xer:=@bne_self_eq_false
def xes:=@List.getElem_drop
def xet:=@List.getElem_take
def xeu:=@List.flatMap_cons
def xev:=@List.map_id
def xew:=@Prod.ext
def xex:=@eq_false
abbrev Fgx:=PySem.W.Frag
abbrev Mgx:=PySem.Str->Option PySem.Value
abbrev Pnx:=List (PySem.Addr×PySem.Obj)
local macro_rules | `(tactic| x_go)=> `(tactic| decide +kernel)
namespace HQ
open PySem PySem.W PySem.Calls PyProof.Rows
noncomputable def Jz {α:Type} (t:BT):(BT->α)->α:= @BT.rec (fun _=>(BT->α)->α) (fun k=>k .nil) (fun v _ _ a b k=>a fun l=>b fun r=>k (.node v l r)) t
theorem Dh {α:Type}:∀(t:BT) (k:BT->α),Jz t k=k t
 |.nil,_=>rfl
 |.node _ l r,_=>(Dh l _).trans (Dh r _)
noncomputable def zf {α:Type} (n:Nat) (k:Nat->α):α:= @Nat.rec (fun _=>α) (k 0) (fun n _=>k (Nat.succ n)) n
theorem JB {α:Type}(n:Nat)(k:Nat->α):zf n k=k n:=by cases n<;>rfl
def frs {α:Type}(s:SharedT)(k:SharedT->α):α:= @SharedT.rec (fun _=>α) (fun T n l g d i o=>Jz T fun T=>zf n fun n=>zf i fun i=>k ⟨T,n,l,g,d,i,o⟩) s
theorem Qx {α:Type}(s:SharedT)(k:SharedT->α):frs s k=k s:=(Dh _ _).trans ((JB _ _).trans (JB _ _))
abbrev qd:Code->Sem Fin:=Fast.tw11892475500146522536 Fast.tw14364793385576792824
noncomputable def Gx (p:Program) (w:World):SharedT->Thread->Option (SharedT×Thread)
  |⟨T,n,l,g,d,i,o⟩,⟨c,cd,q,fs⟩=>match c with
    |.load .. |.update .. |.alloc .. |.loadIfAlive .. =>Fast.tw10156331382660048174 qd p w ⟨T,n,l,g,d,i,o⟩ ⟨c,cd,q,fs⟩
    |c=>match Fast.tw8437177126325714943 qd p w ⟨{},g,d,i,o⟩ ⟨c,cd,q,fs⟩ with
      |.go ⟨_,g,d,i,o⟩ t=>some (⟨T,n,l,g,d,i,o⟩,t)
      |.halt _ _=>none
theorem zbu {p:Program}{w:World}(s:SharedT)(t:Thread):Gx p w s t=stepT (denote treeTable) p w s t:=by
 obtain⟨T,n,l,g,d,i,o⟩:=s;obtain⟨c,cd,q,fs⟩:=t;rw[show denote treeTable=qd by unfold qd;rw[<-Fast.te11892475500146522536, <-Fast.te14364793385576792824]];cases c<;>(unfold Gx;dsimp only;first |rw[<-Fast.te10156331382660048174] |(unfold stepT;dsimp only;rw[<-Fast.te8437177126325714943];cases step qd p w _ _<;>rfl))
abbrev OS:=Option SharedT
noncomputable def bd (p:Program) (w:World) (n:Nat) (ih:SharedT->Thread->OS) (s:SharedT) (t:Thread):OS:=
 @Bool.rec (fun _=>OS) (@Bool.rec (fun _=>OS) none (@Option.rec _ (fun _=>OS) none (fun r=> @Prod.rec _ _ (fun _=>OS) (fun s t=> @Bool.rec (fun _=>OS) (ih s t) (frs s fun s=>ih s t) (Nat.beq (n % 64) 0)) r) (Gx p w s t)) (Fast.tw6613529449190102663 11 (some (.ref 6)) t)) (some s) (through t)
noncomputable def go (p:Program) (w:World) (n:Nat):SharedT->Thread->OS:= @Nat.rec (fun _=>SharedT->Thread->OS) (fun _ _=>none) (bd p w) n
theorem sJ {p:Program}{w:World}:∀{n:Nat} {s s':SharedT} {t:Thread},go p w n s t=some s'->topRun treeTable p w 11 (some (.ref 6)) n s.abs t=some s'.abs
  |0,_,_,_,h=>by cases h
  |n + 1,s,s',t,h=>by
    rw[show go p w (n + 1) s t=bd p w n (go p w n) s t from rfl]at h;unfold bd at h;rw[zbu, <-Fast.te6613529449190102663]at h;unfold topRun
    cases ht:through t with
    |true=>rw[ht]at h;cases h;rfl
    |false=>
      rw[ht]at h
      cases hk:stepOk 11 (some (.ref 6)) t with
      |false=>rw[hk]at h;cases h
      |true=>
        rw[hk]at h
        cases hs:stepT (denote treeTable) p w s t with
        |none=>rw[hs]at h;cases h
        |some r=>
          obtain⟨s₂,t₂⟩:=r;rw[hs]at h;dsimp only at h ⊢;rw[stepT_spec hs];rw[Qx]at h;exact sJ (by revert h;cases Nat.beq (n % 64) 0<;>exact id)
noncomputable def mkT:List Obj->Nat->BT->BT
 | [],_,t=>t
 |o::l,i,t=>mkT l (i + 1) (t.ins i o)
noncomputable def bS (w:World) (o:OsState):SharedT:=⟨mkT (boot_heap w.params).objs.toList 0 .nil,11,{},⟨[]⟩,boot_drawn,boot_toks,o⟩
theorem Ot (w:World)(o:OsState):(bS w o).abs=⟨boot_heap w.params,⟨[]⟩,boot_drawn,boot_toks,o⟩:=by kernel_rfl
theorem Ou (P:Params):((boot_heap P).isNs mainGlobals && (Array.mk []:Array GenState).size==0,(boot_heap P).objs.size,(boot_heap P).nsMap mainGlobals "__annotations__")=(true,11,some (.ref 6)):=by kernel_rfl
noncomputable def lst {α:Type} (T:BT) (n:Nat):List Obj->(List Obj->α)->α:=
 @Nat.rec (fun _=>List Obj->(List Obj->α)->α) (fun a k=>k a) (fun i ih a k=> @Option.rec Obj (fun _=>α) (ih (default::a) k) (fun o=> @Obj.rec (fun _=>α) (fun c d t l=>ih (⟨c,d,t,l⟩::a) k) o) (T.get i)) n
theorem Kf {α:Type}(T:BT):∀(n:Nat) (a:List Obj) (k:List Obj->α),lst T n a k=k (T.list n ++ a)
  |0,_,_=>rfl
  |n + 1,a,k=>by
    rw[show T.list (n + 1)=T.list n ++ [(T.get n).getD default] by unfold BT.list;rw[List.range_succ,xaP];rfl,xaN];unfold lst;dsimp only;cases T.get n<;>exact Kf T n _ k
noncomputable def HJ {α:Type} (s:SharedT) (k:Shared->α):α:= @SharedT.rec (fun _=>α) (fun T n l g d i o=>lst T n [] fun a=>k ⟨⟨⟨a⟩,l⟩,g,d,i,o⟩) s
theorem HN {α:Type}(s:SharedT)(k:Shared->α):HJ s k=k s.abs:=(Kf _ _ _ _).trans (by rw[xaL];rfl)
section
variable {p q:Program}{lo:List Str}{Xt:Shared->Bool}{α:Type}{Yf:Shared->α}{Ya:World->α}{N:Nat}{g0:Bool}{B C:Prop}
abbrev Pre (_:LeftO p q lo Xt Yf Ya N g0/\B->C):Prop:=(opening p=plainProg p.main.scope.names/\∀s,fenceModules? p s=some s)/\Nat.ble 600 N=true
abbrev See {β:Type}(p:Program)(N:Nat)(v:World->World)(f:World->Shared->β)(y:World->β):Prop:=∀w o,(go p (v w) N (bS (v w) o) (topStub p)).map (fun s=>HJ s (f (v w)))=some (y (v w))
abbrev gY (v:World->World)(_:LeftO p q lo Xt Yf Ya N g0/\B->C):Prop:=
 See p N v (fun w s=>(staticsOk (importedModules p.main.body) (boot_heap w.params) s.heap && namesBound p s.heap && gensDone s && laidKept (boot_heap w.params) s.heap,Yf s)) fun w=>(true,Ya w)
abbrev gZ (v:World->World)(_:LeftO p q lo Xt Yf Ya N g0/\B->C):Prop:=See p N v (fun _ s=>Fast.tw4187177175401517315 q lo (importedModules p.main.body) Xt g0 s) fun _=>openGood q lo
theorem left {v:World->World}{H:LeftO p q lo Xt Yf Ya N g0/\B->C}(e:Pre H)(a:gY v H)(b:gZ v H)(w:World):
  (openEnds treeTable p (v w) N).map (fun s=>(openSeen q lo (importedModules p.main.body) Xt g0 s,Yf s))=some (openGood q lo,Ya (v w)):=by
 obtain⟨⟨h,gs,d,k,o⟩,e1,e2⟩:=xag.mp (boot_open e.1.1 e.2 e.1.2 (v w));obtain⟨rfl,rfl,rfl,rfl⟩:h=boot_heap (v w).params/\gs=⟨[]⟩/\d=boot_drawn/\k=boot_toks:=by simpa using e2
 obtain⟨s,hs,hv⟩:=xag.mp (a w o);have hb:=b w o;rw[hs,xbs,HN, <-Fast.te4187177175401517315]at hb;rw[HN]at hv;obtain⟨l1,l3⟩:=Prod.mk.inj hv;obtain⟨z1,z2,z3⟩:_/\_/\_:=by simpa only[Prod.mk.injEq] using Ou (v w).params
 have hr:=sJ hs;rw[Ot]at hr;have t:topFrom treeTable p (v w) N ⟨boot_heap (v w).params,⟨[]⟩,boot_drawn,boot_toks,o⟩=some s.abs:=by
  unfold topFrom;dsimp only;rw[z1,z2,z3,hr];dsimp only[Option.bind_some];rw[l1]
 unfold openEnds;rw[e1,Option.bind_some,t];exact congrArg some (xew (xas hb) l3)
theorem two (row:String){H:LeftO p q lo Xt Yf Ya N g0/\B->C}(e:Pre H)(a:gY (·.withFollow row false) H)(b:gZ (·.withFollow row false) H)(c:gY (·.withFollow row true) H)(d:gZ (·.withFollow row true) H)(hB:B):C:=
 H ⟨fun w=>by
  have x:=left e a b w;have y:=left e c d w;have z:=World.withFollow_self w row;cases h:w.params.followText row<;>rw[h]at z<;>simp only[z]at x y<;>assumption,hB⟩
end
end HQ
section
local macro_rules
  | `(tactic| refine $f:term $as:term*)=>do
    let mut bs:= #[]
    let mut hit:=false
    for a in as do
      if a.raw.isOfKind ``Lean.Parser.Term.syntheticHole && a.raw[1].getId== `hl then
        hit:=true
        bs:=bs.push (<- `((And.left ?hx)))
      else if a.raw.isOfKind ``Lean.Parser.Term.syntheticHole && a.raw[1].getId== `hc then
        bs:=bs.push (<- `((And.right ?hx)))
      else bs:=bs.push a
    if hit then `(tactic| refine $f $bs*) else Lean.Macro.throwUnsupported
set_option maxHeartbeats 0 in
open_top My.hdAll for PySem.Challenge.rw_rowdam_k27_windows_told
theorem My.he:HQ.Pre My.hdAll:=⟨⟨by kernel_rfl,fun _=>by kernel_rfl⟩,by kernel_rfl⟩
theorem My.hBf:HQ.gZ (·.withFollow "special-get-raises" false) My.hdAll:=fun _ _=>by kernel_rfl
theorem My.hBt:HQ.gZ (·.withFollow "special-get-raises" true) My.hdAll:=fun _ _=>by kernel_rfl
theorem My.hAf:HQ.gY (·.withFollow "special-get-raises" false) My.hdAll:=fun _ _=>by kernel_rfl
theorem My.hAt:HQ.gY (·.withFollow "special-get-raises" true) My.hdAll:=fun _ _=>by kernel_rfl
end
namespace L2
open PySem PySem.Spec PyProof.Rows
abbrev Key:=Sum Int Str
noncomputable def sO:Key->Value->Bool
 |.inl k,v=>Value.isInt k v
 |.inr x,v=>Value.isStrOf x v
def Dw (w:World):Key->Int
 |.inl k=>hashInt k
 |.inr x=>hashStr w x
theorem mJ:∀{k:Key} {v:Value},sO k v=true->(∃i t,k=Sum.inl i/\v=Value.int i t)\/(∃x t,k=Sum.inr x/\v=Value.str x t)
  |.inl i,v,h=>by
    obtain⟨t,e⟩:=Value.isInt_shape (k:=i) (v:=v) h;exact .inl ⟨i,t,rfl,e⟩
  |.inr x,v,h=>by
    obtain⟨t,e⟩:=Value.isStrOf_shape (x:=x) (v:=v) h;exact .inr ⟨x,t,rfl,e⟩
theorem Rq (i:Int)(t:Tok):sO (.inl i) (.int i t)=true:=by simp[sO,Value.isInt]
theorem Rr (x:Str)(t:Tok):sO (.inr x) (.str x t)=true:=by simp[sO,Value.isStrOf]
theorem Ru (a b:Int):decide ((Sum.inl a:Key)=Sum.inl b)=(a==b):=by
 by_cases e:a=b
 ·subst e;simp
 ·have h:¬ (Sum.inl a:Key)=Sum.inl b:=fun q=>e (Sum.inl.inj q);rw[xaC h];exact(xaZ.mpr e).symm
theorem RB (a b:Str):decide ((Sum.inr a:Key)=Sum.inr b)=decide (a=b):=by
 by_cases e:a=b
 ·subst e;simp
 ·have h:¬ (Sum.inr a:Key)=Sum.inr b:=fun q=>e (Sum.inr.inj q);rw[xaC h,xaC e]
theorem Rw (a:Int)(b:Str):decide ((Sum.inl a:Key)=Sum.inr b)=false:=xaC (fun q=>nomatch q)
theorem Rz (a:Str)(b:Int):decide ((Sum.inr a:Key)=Sum.inl b)=false:=xaC (fun q=>nomatch q)
noncomputable def f9 (prog:Program) (w:World):PySem.KeyKind prog w Key where
 is:=sO
 hash:=Dw w
 inj:=fun v a b ha hb=>by
  rcases mJ ha with⟨i,t,rfl,rfl⟩ |⟨x,t,rfl,rfl⟩
  ·rcases mJ hb with⟨j,u,rfl,e⟩ |⟨y,u,rfl,e⟩
   ·injection e with e1 _;rw[e1]
   ·exact nomatch e
  ·rcases mJ hb with⟨j,u,rfl,e⟩ |⟨y,u,rfl,e⟩
   ·exact nomatch e
   ·injection e with e1 _;rw[e1]
 byValue:=fun k v h=>by
  rcases mJ h with⟨i,t,rfl,rfl⟩ |⟨x,t,rfl,rfl⟩<;>rfl
 pyHash:=fun hv h=>by
  rcases mJ hv with⟨i,t,rfl,rfl⟩ |⟨x,t,rfl,rfl⟩
  ·exact wpAny_pyHash_int h
  ·exact wpAny_pyHash_str h
 eqBool:=fun hu hv h=>by
  rcases mJ hu with⟨i,t,rfl,rfl⟩ |⟨x,t,rfl,rfl⟩
  ·rcases mJ hv with⟨j,u,rfl,rfl⟩ |⟨y,u,rfl,rfl⟩
   ·rw[Ru]at h;exact wpAny_eqBool_int h
   ·rw[Rw]at h;exact xda i t y u _ _ _ _ h
  ·rcases mJ hv with⟨j,u,rfl,rfl⟩ |⟨y,u,rfl,rfl⟩
   ·rw[Rz]at h;exact xdb x t j u _ _ _ _ h
   ·rw[RB]at h;exact wpAny_eqBool_str h
 «strs» :=fun k x t v h=>by
  rcases mJ h with⟨i,u,rfl,e⟩ |⟨y,u,rfl,e⟩
  ·exact nomatch e
  ·injection e with e1 _
   subst e1;cases v<;>rfl
theorem Sw (prog:Program)(w:World)(i:Int)(t:Tok):(f9 prog w).is (.inl i) (.int i t)=true:=Rq i t
theorem Sx (prog:Program)(w:World)(x:Str)(t:Tok):(f9 prog w).is (.inr x) (.str x t)=true:=Rr x t
inductive V where
 |non |bl (b:Bool) |int (i:Int) |str (x:Str) |byt (b:Array UInt8) |flt (b:UInt64) |ref (a:Addr) |ty (n:String)
 deriving DecidableEq
noncomputable def RelV:V->Value->Prop
 |.non,u=>u=Value.none
 |.bl b,u=>u=Value.bool b
 |.int i,u=>∃t,u=Value.int i t
 |.str x,u=>∃t,u=Value.str x t
 |.byt b,u=>∃t,u=Value.bytes b t
 |.flt b,u=>∃t,u=Value.float b t
 |.ref a,u=>u=Value.ref a
 |.ty n,u=>u=Value.type n
abbrev Vals:List V->List Value->Prop:=Paired RelV
theorem Vals.length {xs:List V}{us:List Value}(r:Vals xs us):xs.length=us.length:=xcq r
theorem Vals.get:∀{xs:List V} {us:List Value} {i:Nat} {x:V},Vals xs us->xs[i]? =some x->∃u,us[i]? =some u/\RelV x u
  |_,_,_,_,.nil,e=>by simp at e
  |_,_,0,_,.cons r _,e=>by simp at e;subst e;exact⟨_,rfl,r⟩
  |_,_,i + 1,x,.cons _ t,e=>by
    obtain⟨u,h1,h2⟩:=Vals.get (i:=i) (x:=x) t (by simpa using e);exact⟨u,by simpa using h1,h2⟩
theorem Vals.append:∀{xs ys:List V} {us ws:List Value},Vals xs us->Vals ys ws->Vals (xs ++ ys) (us ++ ws)
 |_,_,_,_,.nil,s=>s
 |_,_,_,_,.cons r t,s=>.cons r (Vals.append t s)
theorem Vals.take:∀{xs:List V} {us:List Value} (n:Nat),Vals xs us->Vals (xs.take n) (us.take n)
 |_,_,0,_=>.nil
 |_,_,_ + 1,.nil=>.nil
 |_,_,n + 1,.cons r t=>.cons r (Vals.take n t)
theorem Vals.drop:∀{xs:List V} {us:List Value} (n:Nat),Vals xs us->Vals (xs.drop n) (us.drop n)
 |_,_,0,r=>r
 |_,_,_ + 1,.nil=>.nil
 |_,_,n + 1,.cons _ t=>Vals.drop n t
noncomputable def dW:Option V->Option Value->Prop
 |some v,some u=>RelV v u
 |none,none=>True
 |_,_=>False
def KV {κ:Type}:List (κ×V)->List (κ×Value)->Prop:=Paired fun(p:κ×V) (q:κ×Value)=>p.1=q.1/\RelV p.2 q.2
def kV:Key->V
 |.inl i=>.int i
 |.inr x=>.str x
inductive HO where
  |lst (xs:List V)
  |tup (xs:List V)
  |dK (kvs:List (Key×V)) |dT (kvs:List (List Key×V))
  |set (S:Int->Bool) (n:Nat)
  |ins (C dx:Addr) (fs:List (Str×V))
  |own (x:Addr)
  |xd (fs:List (Str×V))
  |met (f x:Addr)
  |rng (lo hi:Int)
  |frz (o:Obj) (u:HO)
  |tbl (ps:Array Value)
  |ext (φ:Heap->Prop)
abbrev Hp:=Addr->Option HO
noncomputable def upd (H:Hp) (a:Addr) (o:HO):Hp:=fun b=>if b=a then some o else H b
theorem cN {H:Hp}{a:Addr}{o:HO}:upd H a o a=some o:=by unfold upd;rw[xaa rfl]
theorem bw {H:Hp}{a b:Addr}{o:HO}(h:b≠a):upd H a o b=H b:=by unfold upd;rw[xad h]
theorem zaP {H:Hp}{a:Addr}{o u:HO}:upd (upd H a o) a u=upd H a u:=by
 funext b;unfold upd;split<;>rfl
theorem Kw {H:Hp}{a b:Addr}{o u:HO}(h:H a=some o)(h':H b=some u)(d:o≠u):a≠b:=by
 intro e;subst e;rw[h]at h';exact d (xas h')
theorem sW {H:Hp}{a b:Addr}{o:HO}(h:H a=some o)(h':H b=none):a≠b:=by
 intro e;subst e;rw[h]at h';cases h'
section
variable (P:Program)(w:World)
noncomputable def cA (H:Hp) (h:Heap) (a:Addr):HO->Prop
 |.lst xs=>xs.length<=sizeLine/\∃(its:List Value) (n:Nat),Vals xs its/\h.get? a=some {cls:=.type "list",data:=.seq its.toArray n}
 |.tup xs=>xs.length<=sizeLine/\∃its:List Value,Vals xs its/\IsTup h a its.toArray
 |.dK kvs=>kvs.length<=sizeLine/\(a==sysModules)=false/\∃vs,KV kvs vs/\h.DictOf (f9 P w) a vs
 |.dT kvs=>kvs.length<=sizeLine/\(a==sysModules)=false/\∃xs:List (List Key×Addr×Value),
   Paired (fun(p:List Key×V) (q:List Key×Addr×Value)=>p.1=q.1/\H q.2.1=some (.tup (p.1.map kV))/\RelV p.2 q.2.2) kvs xs/\
   ∃o es ep,h.get? a=some o/\o.ExactDict/\o.data=.dict es ep/\es.toList=xs.map (entryOfKey (tupleKind (f9 P w)))/\(xs.map (·.1)).Nodup
 |.set S n=>h.SetOf (intKind P w) a S n
 |.ins C dx fs=>H dx=some (.own a)/\fs.length<=1000/\dx≠a/\h.get? a=some (PySem.W.instObj C dx)/\
   ∃mA,h.Ns1 dx mA/\(∀f,dW (fs.lookup f) (mA f))/\PySem.Within mA (fs.map (·.1))
 |.own _=>∃o,h.get? a=some o
 |.xd fs=>∃mA,h.Ns1 a mA/\∀f,dW (fs.lookup f) (mA f)
 |.rng lo hi=>∃t u v,h.get? a=some {cls:=.type "range",data:=.fields #[.int lo t,.int hi u,.int 1 v]}
 |.frz o u=>h.get? a=some o/\cA H h a u
 |.tbl ps=>h.get? a=some {cls:=.none,data:=.fields ps}
 |.met f x=>h.get? a=some (PySem.W.methodObj (.ref f) (.ref x))
 |.ext φ=>φ h/\(∃o,h.get? a=some o)/\∀h1 h2:Heap,φ h1->(∀o,h1.get? a=some o->h2.get? a=some o)->φ h2
def bN (H:Hp)(h:Heap):Prop:=∀a o,H a=some o->cA P w H h a o
end
section
variable {P:Program}{w:World}{H H':Hp}{h h':Heap}{a:Addr}{o:HO}
theorem cA.lt (x:cA P w H h a o):a<h.objs.size:=by
 cases o with
 |lst xs=>obtain⟨_,_,_,_,e⟩:=x;exact xam e
 |tup xs=>obtain⟨_,_,_,p⟩:=x;exact p.lt
 |dK kvs=>obtain⟨_,_,_,_,o,_,_,e,_⟩:=x;exact xam e
 |dT kvs=>obtain⟨_,_,_,_,o,_,_,e,_⟩:=x;exact xam e
 |set S n=>obtain⟨o,_,_,_,e,_⟩:=x;exact xam e
 |ins C dx fs=>obtain⟨_,_,_,e,_⟩:=x;exact xam e
 |own y=>obtain⟨_,e⟩:=x;exact xam e
 |xd fs=>obtain⟨_,⟨_,_,_,e,_⟩,_⟩:=x;exact xam e
 |rng lo hi=>obtain⟨_,_,_,e⟩:=x;exact xam e
 |frz ob u=>obtain⟨e,_⟩:=x;exact xam e
 |tbl ps=>exact xam (show h.get? a=some _ from x)
 |met f y=>exact xam (show h.get? a=some _ from x)
 |ext φ=>obtain⟨_,⟨_,e⟩,_⟩:=x;exact xam e
theorem Paired.mapP {α β:Type}{F G:α->β->Prop}:∀{l₁:List α} {l₂:List β},Paired F l₁ l₂->(∀a b,F a b->G a b)->Paired G l₁ l₂
 |_,_,.nil,_=>.nil
 |_,_,.cons r t,f=>.cons (f _ _ r) (Paired.mapP t f)
theorem cA.stay (x:cA P w H h a o)(k:∀b u,(b=a\/H b=some (.own a))->h.get? b=some u->h'.get? b=some u)
    (ho:∀b,H b=some (.own a)->H' b=some (.own a)) (ht:∀b xs,H b=some (.tup xs)->H' b=some (.tup xs)):cA P w H' h' a o:=by
  induction o with
  |lst xs=>obtain⟨z,its,n,r,e⟩:=x;exact⟨z,its,n,r,k _ _ (.inl rfl) e⟩
  |tup xs=>obtain⟨z,its,r,ob,e,c⟩:=x;exact⟨z,its,r,ob,k _ _ (.inl rfl) e,c⟩
  |dK kvs=>obtain⟨z,y,vs,r,ob,es,ep,e,c⟩:=x;exact⟨z,y,vs,r,ob,es,ep,k _ _ (.inl rfl) e,c⟩
  |dT kvs=>
    obtain⟨z,y,xs,r,ob,es,ep,e,c⟩:=x;exact⟨z,y,xs,Paired.mapP r fun p q z=>⟨z.1,ht _ _ z.2.1,z.2.2⟩,ob,es,ep,k _ _ (.inl rfl) e,c⟩
  |set S n=>obtain⟨ob,es,ep,t,e,c⟩:=x;exact⟨ob,es,ep,t,k _ _ (.inl rfl) e,c⟩
  |ins C dx fs=>
    obtain⟨d,z,ne,e,mA,⟨od,es,ep,e2,c⟩,r⟩:=x;exact⟨ho _ d,z,ne,k _ _ (.inl rfl) e,mA,⟨od,es,ep,k _ _ (.inr d) e2,c⟩,r⟩
  |own y=>obtain⟨ob,e⟩:=x;exact⟨ob,k _ _ (.inl rfl) e⟩
  |xd fs=>obtain⟨mA,⟨od,es,ep,e,c⟩,r⟩:=x;exact⟨mA,⟨od,es,ep,k _ _ (.inl rfl) e,c⟩,r⟩
  |rng lo hi=>obtain⟨t,u,v,e⟩:=x;exact⟨t,u,v,k _ _ (.inl rfl) e⟩
  |frz ob u ih=>obtain⟨e,q⟩:=x;exact⟨k _ _ (.inl rfl) e,ih q⟩
  |tbl ps=>
    have e:h.get? a=some {cls:=.none,data:=.fields ps}:=x;show h'.get? a=some {cls:=.none,data:=.fields ps};exact k a _ (.inl rfl) e
  |met f y=>
    have e:h.get? a=some (PySem.W.methodObj (.ref f) (.ref y)):=x;show h'.get? a=some (PySem.W.methodObj (.ref f) (.ref y));exact k a _ (.inl rfl) e
  |ext φ=>obtain⟨p,⟨o,e⟩,st⟩:=x;exact⟨st _ _ p fun o q=>k _ _ (.inl rfl) q,⟨o,k _ _ (.inl rfl) e⟩,st⟩
theorem bN.lt (x:bN P w H h)(e:H a=some o):a<h.objs.size:=(x a o e).lt
theorem bN.fresh (x:bN P w H h)(e:h.objs.size<=a):H a=none:=by
 cases q:H a with
 |none=>rfl
 |some u=>exact absurd (xal (x.lt q) e) (xbL _)
theorem bN.kept (x:bN P w H h)(k:∀b u,h.get? b=some u->h'.get? b=some u):bN P w H h':=fun a o e=>
 (x a o e).stay (fun b u _ q=>k b u q) (fun _ q=>q) fun _ _ q=>q
theorem bN.laid (x:bN P w H h)(k:∀b u,h.get? b=some u->h'.get? b=some u)(hp:h.objs.size<=a)(new:cA P w (upd H a o) h' a o):bN P w (upd H a o) h':=fun b u e=>by
 have hn:=x.fresh hp
 by_cases hb:b=a
 ·subst hb;rw[cN]at e;cases e;exact new
 ·rw[bw hb]at e;exact(x b u e).stay (fun c v _ q=>k c v q) (fun c q=>by rw[bw (sW q hn)];exact q) fun c xs q=>by rw[bw (sW q hn)];exact q
end
def Rd (H:Hp)(a:Addr)(u:HO):Prop:=H a=some u\/∃o,H a=some (.frz o u)
theorem Rd.ok {P:Program}{w:World}{H:Hp}{h:Heap}{a:Addr}{u:HO}(r:Rd H a u)(x:bN P w H h):cA P w H h a u:=by
 rcases r with r |⟨o,r⟩
 ·exact x a u r
 ·obtain⟨_,q⟩:=x a _ r;exact q
noncomputable def vg:Option HO->Prop
 |some (.lst _)=>True
 |some (.dK _)=>True
 |some (.dT _)=>True
 |some (.set _ _)=>True
 |some (.ins _ _ _)=>True
 |some (.ext _)=>True
 |_=>False
section
variable {P:Program}{w:World}{H:Hp}{h h':Heap}{x e:Addr}{o':HO}
theorem bN.write (ok:bN P w H h)(mu:vg (H x))(he:e=x\/H e=some (.own x))(k:∀b u,b≠e->h.get? b=some u->h'.get? b=some u)(heo:∃u,h'.get? e=some u)
  (new:cA P w (upd H x o') h' x o'):bN P w (upd H x o') h':=fun b u q=>by
 have nown:∀c y,H c=some (.own y)->c≠x:=fun c y r z=>by subst z;rw[r]at mu;exact mu
 have ntup:∀c xs,H c=some (.tup xs)->c≠x:=fun c xs r z=>by subst z;rw[r]at mu;exact mu
 by_cases hb:b=x
 ·subst hb;rw[cN]at q;cases q;exact new
 ·rw[bw hb]at q
  by_cases hbe:b=e
  ·have q':H b=some (.own x):=by
    rcases he with z |z
    ·exact absurd (hbe.trans z) hb
    ·rw[hbe];exact z
   rw[q]at q';cases q';obtain⟨v,hv⟩:=heo;exact⟨v,by rw[hbe];exact hv⟩
  ·refine(ok b u q).stay (fun c v hc r=>k c v ?_ r) (fun c r=>by rw[bw (nown c b r)];exact r) fun c xs r=>by rw[bw (ntup c xs r)];exact r
   rcases hc with rfl |hc
   ·exact hbe
   ·rintro rfl;rcases he with z |z
    ·exact nown c b hc z
    ·rw[hc]at z;cases z;exact hb rfl
end
structure Un (fs ex:List Addr)(H H':Hp)(h h':Heap):Prop where
 keep:∀b o,h.get? b=some o->H b=none->b∉fs->b∉ex->h'.get? b=some o
 slot:∀b o,h.get? b=some o->H b=none->b∈fs->b∉ex->∃sl,h'.get? b=some {o with slots:=sl}
 free:∀b o,h.get? b=some o->H b=none->b∉ex->H' b=none
 there:∀b o,h.get? b=some o->b∉ex->∃o',h'.get? b=some o'
 tups:∀b xs,H b=some (.tup xs)->H' b=some (.tup xs)
 frzs:∀b o u,H b=some (.frz o u)->H' b=some (.frz o u)
 tbls:∀b ps,H b=some (.tbl ps)->∃more,H' b=some (.tbl (ps ++ more))
section
variable {fs fs' ex ex':List Addr}{H H1 H2:Hp}{h h1 h2 h':Heap}{a x e:Addr}{o:HO}
theorem Un.any (u:Un fs ex H H1 h h1){b:Addr}{ob:Obj}(q:h.get? b=some ob)(n:H b=none)(hx:b∉ex):∃sl,h1.get? b=some {ob with slots:=sl}:=by
 by_cases hb:b∈fs
 ·exact u.slot b ob q n hb hx
 ·exact⟨ob.slots,u.keep b ob q n hb hx⟩
theorem Un.trans (a:Un fs ex H H1 h h1)(b:Un fs ex H1 H2 h1 h2):Un fs ex H H2 h h2 where
 keep:=fun c ob q n hc hx=>b.keep c ob (a.keep c ob q n hc hx) (a.free c ob q n hx) hc hx
 slot:=fun c ob q n hc hx=>by
  obtain⟨sl,e1⟩:=a.slot c ob q n hc hx;obtain⟨sl',e2⟩:=b.slot c _ e1 (a.free c ob q n hx) hc hx;exact⟨sl',e2⟩
 free:=fun c ob q n hx=>by
  obtain⟨o',e1⟩:=a.there c ob q hx;exact b.free c o' e1 (a.free c ob q n hx) hx
 there:=fun c ob q hx=>by
  obtain⟨o',e1⟩:=a.there c ob q hx;exact b.there c o' e1 hx
 tups:=fun c xs q=>b.tups c xs (a.tups c xs q)
 frzs:=fun c ob xs q=>b.frzs c ob xs (a.frzs c ob xs q)
 tbls:=fun c ps q=>by
  obtain⟨m1,e1⟩:=a.tbls c ps q;obtain⟨m2,e2⟩:=b.tbls c _ e1;exact⟨m1 ++ m2,by rw[e2,xeh]⟩
theorem Un.kept (k:∀b u,h.get? b=some u->h'.get? b=some u):Un fs ex H H h h':=
 ⟨fun b ob q _ _ _=>k b ob q,fun b ob q _ _ _=>⟨ob.slots,k b ob q⟩,fun _ _ _ n _=>n,fun b ob q _=>⟨ob,k b ob q⟩,fun _ _ q=>q,fun _ _ _ q=>q,fun _ ps q=>⟨#[],by rw[q];simp⟩⟩
theorem Un.refl:Un fs ex H H h h:=Un.kept fun _ _ q=>q
theorem Un.laid (k:∀b u,h.get? b=some u->h'.get? b=some u)(hp:h.objs.size<=a)(hn:H a=none):Un fs ex H (upd H a o) h h' where
 keep:=fun b u q _ _ _=>k b u q
 slot:=fun b u q _ _ _=>⟨u.slots,k b u q⟩
 free:=fun b u q n _=>by rw[bw (xaD (xal (xam q) hp))];exact n
 there:=fun b u q _=>⟨u,k b u q⟩
 tups:=fun b xs q=>by rw[bw (sW q hn)];exact q
 frzs:=fun b u xs q=>by rw[bw (sW q hn)];exact q
 tbls:=fun b ps q=>⟨#[],by rw[bw (sW q hn),q];simp⟩
theorem Un.write (mu:vg (H x))(he:e=x\/H e=some (.own x))(k:∀b u,b≠e->h.get? b=some u->h'.get? b=some u)(heo:∃u,h'.get? e=some u):Un fs ex H (upd H x o) h h':=by
 have hx:∀b,H b=none->b≠x:=fun b n z=>by subst z;rw[n]at mu;exact mu
 have hb:∀b,H b=none->b≠e:=fun b n z=>by
  subst z;rcases he with r |r
  ·exact hx b n r
  ·rw[n]at r;cases r
 have hm:∀b u,H b=some u->¬ vg (some u)->b≠x:=fun b u q nm z=>by subst z;rw[q]at mu;exact nm mu
 refine ⟨fun b u q n _ _=>k b u (hb b n) q,fun b u q n _ _=>⟨u.slots,k b u (hb b n) q⟩,fun b u q n _=>by rw[bw (hx b n)];exact n,fun b u q _=>?_,
  fun b xs q=>by rw[bw (hm b _ q fun z=>z)];exact q,fun b u xs q=>by rw[bw (hm b _ q fun z=>z)];exact q,fun b ps q=>⟨#[],by rw[bw (hm b _ q fun z=>z),q];simp⟩⟩
 by_cases hbe:b=e
 ·subst hbe;exact heo
 ·exact⟨u,k b u hbe q⟩
theorem Un.mono (u:Un fs ex H H1 h h1)(hs:∀b∈fs,b∈fs')(hx:∀b∈ex,b∈ex'):Un fs' ex' H H1 h h1:=
 ⟨fun b ob q n hb he=>u.keep b ob q n (fun z=>hb (hs b z)) fun z=>he (hx b z),fun _ _ q n _ he=>u.any q n fun z=>he (hx _ z),fun b ob q n he=>u.free b ob q n fun z=>he (hx b z),fun b ob q he=>u.there b ob q fun z=>he (hx b z),u.tups,u.frzs,u.tbls⟩
end
noncomputable def Bc (h:Heap) (H:Hp):List Addr:=(List.range h.objs.size).filter fun a=>(H a).isSome
def d8 (h:Heap)(H:Hp):Heap:=PySem.W.hideAll h (Bc h H)
theorem QK (h:Heap)(H:Hp):(d8 h H).objs.size=h.objs.size:=PySem.W.hideAll_size _ _
theorem QJ {h:Heap}{H:Hp}{b:Addr}{o:Obj}(e:h.get? b=some o)(n:H b=none):(d8 h H).get? b=some o:=
 PySem.W.hideAll_get _ e fun hm=>by
  have q:(H b).isSome=true:=(xbW.mp hm).2;rw[n]at q;simp at q
theorem Ur {h:Heap}{H:Hp}{b:Addr}{o:Obj}(e:(d8 h H).get? b=some o):h.get? b=some o/\H b=none:=by
  have e':h.get? b=some o:=PySem.W.of_hideAll (Bc h H) e;refine⟨e',?_⟩
  cases q:H b with
  |none=>rfl
  |some x=>
    have hm:b∈Bc h H:=xbW.mpr ⟨xb3.mpr (xam e'),by simp[q]⟩;have z:(d8 h H).get? b=none:=PySem.W.hideAll_none (Bc h H) hm;rw[z]at e;cases e
structure Mod (K:Fgx)(mg:Mgx)(base:Heap):Prop where
 kin:K.In base
 glob:base.Ns mainGlobals mg
 blt:∃mb,base.Ns builtinsNs mb/\∀x:Str,x≠"__name__"->mb x=bootBuiltins x
 nolimit:base.NoLimit
structure Cx where
 prog:Program
 w:World
 K:Fgx
 mg:Mgx
 base:Heap
 A:Around
 N:List Str
 s₀:Shared
 H₀:Hp
 env:Env
 outer:List Env
 stack:List Env
 ex:List Addr
 fn:Str->Bool
 calm:Bool
 pn:Pnx
 xe:Value->Shared->Prop
def frs (l:List Env):List Addr:=l.filterMap (·.frame)
abbrev Cx.fs (X:Cx):List Addr:=frs X.outer
def pH (sc:Scope)(x:Str):Prop:=sc.names.lookup x=some .local\/sc.names.lookup x=some .cell\/sc.names.lookup x=some .free
def Loc (sc:Scope)(x:Str):Prop:=sc.names.lookup x=some .local\/sc.names.lookup x=some .cell
def Look (env:Env)(h:Heap)(m:Mgx)(x:Str)(u:Value):Prop:=
 (env.kindOf x=some .local/\m x=some u)\/((env.kindOf x=some .cell\/env.kindOf x=some .free)/\∃c,env.cells.lookup x=some c/\h.IsCell c (some u))
structure Cx.Ok (X:Cx):Prop where
 mod:Mod X.K X.mg X.base
 kind:X.env.scope.kind=.function
 glob:X.env.globals=mainGlobals
 blt:X.env.builtins=builtinsNs
 above:X.s₀.heap.objs.size<=X.env.locals
 inj:∀x y c,X.env.cells.lookup x=some c->X.env.cells.lookup y=some c->x=y
 has:∀x,(X.env.kindOf x=some .cell\/X.env.kindOf x=some .free)->∃c,X.env.cells.lookup x=some c
 cab:∀x c,X.fn x=true->X.env.cells.lookup x=some c->X.s₀.heap.objs.size<=c
 hd:X.calm=true->X.A.handled=none
 frames:X.A.frames=some X.stack
 stk:X.stack=X.outer\/(X.stack=X.env::X.outer/\X.env.frame=some X.env.locals)
 exf:∀b∈X.ex,b≠X.env.locals/\∀x c,X.env.cells.lookup x=some c->c≠b
 bs:∀b o,X.base.get? b=some o->X.s₀.heap.get? b=some o/\X.H₀ b=none
 bsz:X.base.objs.size<=X.s₀.heap.objs.size
 noex:∀b o,X.base.get? b=some o->b∉X.ex
 exfs:∀b∈X.ex,b∉X.fs
 funs:X.s₀.heap.FunFrames X.base X.outer
 frf:∀b∈X.fs,X.H₀ b=none
structure Inv (X:Cx)(pins:Pnx)(σ:List (Option V))(H:Hp)(s:Shared):Prop where
 ok:X.Ok
 os:s.os=X.s₀.os
 bare:AllBare s.gens
 base:Un X.fs X.ex X.H₀ H X.s₀.heap s.heap
 loc:∃m,s.heap.Ns X.env.locals m/\∀(i:Nat) (x:Str) (v:V),X.N[i]? =some x->σ[i]? =some (some v)->pH X.env.scope x->∃u,RelV v u/\Look X.env s.heap m x u
 cell:∀x c,X.env.cells.lookup x=some c->∃v,s.heap.IsCell c v
 free:H X.env.locals=none
 freeC:∀x c,X.env.cells.lookup x=some c->H c=none\/(X.fn x=false/\∃o u,H c=some (.frz o u))
 pin:∀p∈X.pn ++ pins,s.heap.get? p.1=some p.2/\H p.1=none/\p.1≠X.env.locals/\p.1∉X.fs/\∀v,p.2.data≠ .cell v
 hok:bN X.prog X.w H s.heap
 len:σ.length=X.N.length
section
variable {X:Cx}{pins:Pnx}{σ:List (Option V)}{H H':Hp}{s:Shared}{h':Heap}
theorem Cx.Ok.nofr (ok:X.Ok){b:Addr}{o:Obj}(e:X.base.get? b=some o):b∉X.fs:=fun hb=>by
 have:=(ok.funs.mem hb).1;rw[e]at this;cases this
theorem Inv.bs (I:Inv X pins σ H s):∀b o,X.base.get? b=some o->s.heap.get? b=some o/\H b=none:=fun b o e=>
 ⟨I.base.keep b o (I.ok.bs b o e).1 (I.ok.bs b o e).2 (I.ok.nofr e) (I.ok.noex b o e),I.base.free b o (I.ok.bs b o e).1 (I.ok.bs b o e).2 (I.ok.noex b o e)⟩
theorem Inv.bk (I:Inv X pins σ H s):∀b o,X.base.get? b=some o->s.heap.get? b=some o:=fun b o e=>(I.bs b o e).1
theorem Inv.mod (I:Inv X pins σ H s):Mod X.K X.mg X.base:=I.ok.mod
theorem Inv.kIn (I:Inv X pins σ H s):X.K.In s.heap:=I.ok.mod.kin.keeps I.bk
theorem Inv.fr (I:Inv X pins σ H s):∃m,Fr X.base X.env.locals s.heap m:=
 let ⟨m,hn,_⟩:=I.loc
 ⟨m,hn,I.bk,xao I.ok.bsz I.ok.above⟩
theorem Inv.lt (I:Inv X pins σ H s):X.env.locals<s.heap.objs.size:=let ⟨_,hn,_⟩:=I.loc;hn.lt
theorem Inv.sz (I:Inv X pins σ H s):X.s₀.heap.objs.size<=s.heap.objs.size:=xao I.ok.above (xbg I.lt)
theorem Inv.nofs (I:Inv X pins σ H s){a:Addr}(h:s.heap.objs.size<=a):a∉X.fs:=fun hb=>by
 obtain⟨_,o,ho,_⟩:=I.ok.funs.mem hb;exact absurd (xal (xam ho) (xao I.sz h)) (xbL _)
theorem Inv.cne (I:Inv X pins σ H s):∀x c,X.env.cells.lookup x=some c->c≠X.env.locals:=fun x c e z=>by
 obtain⟨v,o,ho,hd⟩:=I.cell x c e;obtain⟨m,⟨o',es,ep,ho',hd',_⟩,_⟩:=I.loc;rw[z,ho']at ho;cases ho;rw[hd']at hd;cases hd
theorem Inv.funs (I:Inv X pins σ H s):s.heap.FunFrames X.base X.outer:=by
  have all:∀(l:List Env),(∀b∈frs l,b∈X.fs)->X.s₀.heap.FunFrames X.base l->s.heap.FunFrames X.base l:=by
    intro l
    induction l with
    |nil=>intro _ _;trivial
    |cons env r ih=>
      intro hs hl;obtain⟨hk,⟨L,o,hf,hn,ho,hd⟩,hr⟩:=hl;have hL:L∈X.fs:=hs L (by unfold frs;rw[xbC,hf];exact xau);obtain⟨sl,e⟩:=I.base.slot L o ho (I.ok.frf L hL) hL fun z=>I.ok.exfs L z hL;exact⟨hk,⟨L,_,hf,hn,e,hd⟩,ih (fun b hb=>hs b (by unfold frs;rw[xbC,hf];exact xak _ hb)) hr⟩
  exact all X.outer (fun _ hb=>hb) I.ok.funs
theorem Inv.stack (I:Inv X pins σ H s):s.heap.FunFrames X.base X.stack:=by
 rcases I.ok.stk with e |⟨e,hf⟩
 ·rw[e];exact I.funs
 ·rw[e];obtain⟨m,hn,_⟩:=I.loc;refine .cons (by rw[I.ok.kind];decide) hf hn ?_ I.funs;exact Heap.get?_none_of_le (xao I.ok.bsz I.ok.above)
theorem Inv.stkSub (I:Inv X pins σ H s):∀b∈frs X.stack,b∈X.env.locals::X.fs:=fun b hb=>by
 rcases I.ok.stk with e |⟨e,hf⟩
 ·rw[e]at hb;exact xak _ hb
 ·rw[e]at hb;unfold frs at hb;rw[xbC,hf]at hb;exact hb
theorem Inv.stkFree (I:Inv X pins σ H s):∀b∈frs X.stack,H b=none:=fun b hb=>by
 rcases xan.mp (I.stkSub b hb) with e |hb
 ·rw[e];exact I.free
 ·obtain⟨_,o,ho,_⟩:=I.ok.funs.mem hb;exact I.base.free b o ho (I.ok.frf b hb) fun z=>I.ok.exfs b z hb
theorem Inv.step {g':Array GenState}{t':Nat}{d':Drawn}{ch:List Addr}(I:Inv X pins σ H s)
  (hch:∀b∈ch,(b∈X.ex\/X.s₀.heap.objs.size<=b)/\b≠X.env.locals/\(∀x c,X.env.cells.lookup x=some c->c≠b)/\∀p∈X.pn ++ pins,p.1≠b)
  (keep:∀b o,b≠X.env.locals->b∉X.fs->b∉ch->s.heap.get? b=some o->H b=none->h'.get? b=some o)
  (slot:∀b o,b≠X.env.locals->b∈X.fs->b∉ch->s.heap.get? b=some o->H b=none->∃sl,h'.get? b=some {o with slots:=sl}) (free:∀b o,b∉ch->s.heap.get? b=some o->H b=none->H' b=none)
  (there:∀b o,b∉ch->s.heap.get? b=some o->∃o',h'.get? b=some o')
  (tups:∀b xs,H b=some (.tup xs)->H' b=some (.tup xs)) (frzs:∀b o u,H b=some (.frz o u)->H' b=some (.frz o u)) (tbls:∀b ps,H b=some (.tbl ps)->∃more,H' b=some (.tbl (ps ++ more)))
  (ns:∀m,s.heap.Ns X.env.locals m->h'.Ns X.env.locals m) (hok:bN X.prog X.w H' h') (hg:AllBare g'):
  Inv X pins σ H' {s with heap:=h',gens:=g',drawn:=d',toks:=t'}:=by
 have neL:∀b o,X.s₀.heap.get? b=some o->b≠X.env.locals:=fun b o e=>xaD (xal (xam e) I.ok.above);have neC:∀b o,X.s₀.heap.get? b=some o->b∉X.ex->b∉ch:=fun b o e hx hb=>by
  rcases(hch b hb).1 with z |z
  ·exact hx z
  ·exact absurd (xal (xam e) z) (xbL _)
 have cellK:∀x c,X.env.cells.lookup x=some c->∀v,s.heap.IsCell c v->h'.IsCell c v:=fun x c e v ⟨o,ho,hd⟩=>by
  have nch:c∉ch:=fun z=>(hch c z).2.2.1 x c e rfl;rcases I.freeC x c e with fc |⟨_,o',u',fc⟩
  ·by_cases hc:c∈X.fs
   ·obtain⟨sl,q⟩:=slot c o (I.cne x c e) hc nch ho fc;exact⟨_,q,hd⟩
   ·exact⟨o,keep c o (I.cne x c e) hc nch ho fc,hd⟩
  ·obtain⟨e1,_⟩:=I.hok c _ fc;obtain⟨e2,_⟩:=hok c _ (frzs c _ _ fc);rw[ho]at e1;cases e1;exact⟨o,e2,hd⟩
 refine⟨I.ok,I.os,hg,⟨fun b o e n hb hx=>?_,fun b o e n hb hx=>?_,fun b o e n hx=>?_,fun b o e hx=>?_,fun b xs e=>tups b xs (I.base.tups b xs e),fun b o xs e=>frzs b o xs (I.base.frzs b o xs e),fun b ps e=>?_⟩,?_,fun x c e=>?_,?_,fun x c e=>?_,fun p hp=>?_,hok,I.len⟩
 ·exact keep b o (neL b o e) hb (neC b o e hx) (I.base.keep b o e n hb hx) (I.base.free b o e n hx)
 ·obtain⟨sl,e1⟩:=I.base.slot b o e n hb hx;obtain⟨sl',e2⟩:=slot b _ (neL b o e) hb (neC b o e hx) e1 (I.base.free b o e n hx);exact⟨sl',e2⟩
 ·obtain⟨o',e1⟩:=I.base.there b o e hx;exact free b o' (neC b o e hx) e1 (I.base.free b o e n hx)
 ·obtain⟨o',e1⟩:=I.base.there b o e hx;exact there b o' (neC b o e hx) e1
 ·obtain⟨m1,e1⟩:=I.base.tbls b ps e;obtain⟨m2,e2⟩:=tbls b _ e1;exact⟨m1 ++ m2,by rw[e2,xeh]⟩
 ·obtain⟨m,hn,hl⟩:=I.loc;refine⟨m,ns m hn,fun i x v e1 e2 e3=>?_⟩;obtain⟨u,r,l⟩:=hl i x v e1 e2 e3;refine⟨u,r,?_⟩;rcases l with l |⟨k,c,e,z⟩
  ·exact .inl l
  ·exact .inr ⟨k,c,e,cellK x c e _ z⟩
 ·obtain⟨v,z⟩:=I.cell x c e;exact⟨v,cellK x c e v z⟩
 ·obtain⟨m,⟨o,_,_,ho,_⟩,_⟩:=I.loc;exact free _ o (fun z=>(hch _ z).2.1 rfl) ho I.free
 ·obtain⟨v,o,ho,hd⟩:=I.cell x c e;rcases I.freeC x c e with fc |⟨fn,o',u',fc⟩
  ·exact .inl (free c o (fun z=>(hch c z).2.2.1 x c e rfl) ho fc)
  ·exact .inr ⟨fn,o',u',frzs c _ _ fc⟩
 ·obtain⟨e,n,ne,nf,d⟩:=I.pin p hp;have nch:p.1∉ch:=fun z=>(hch p.1 z).2.2.2 p hp rfl;exact⟨keep p.1 p.2 ne nf nch e n,free p.1 p.2 nch e n,ne,nf,d⟩
theorem Inv.un {t':Nat}(I:Inv X pins σ H s)(u:Un X.fs [] H H' s.heap h')(hok:bN X.prog X.w H' h'):Inv X pins σ H' {s with heap:=h',toks:=t'}:=by
 obtain ⟨m, ⟨o, es, ep, ho, r⟩, _⟩ := id I.loc;obtain ⟨sl, hL⟩ := u.any ho I.free (by simp);exact I.step (g' := s.gens) (d' := s.drawn) (ch := []) (fun _ z => nomatch z) (fun b o _ hb _ e n => u.keep b o e n hb (by simp)) (fun b o _ hb _ e n => u.slot b o e n hb (by simp)) (fun b o _ e n => u.free b o e n (by simp)) (fun b o _ e => u.there b o e (by simp)) u.tups u.frzs u.tbls (fun m' hm=>by
  obtain⟨o',es',ep',ho',r'⟩:=hm;rw[ho]at ho';cases ho';exact⟨_,es',ep',hL,r'⟩) hok I.bare
theorem Inv.call {g':Array GenState}{t':Nat}{d':Drawn}{ch:List Addr}(I:Inv X pins σ H s)(u:Un (frs X.stack) ch H H' s.heap h')(hok:bN X.prog X.w H' h')(hg:AllBare g')
  (hch:∀b∈ch,(b∈X.ex\/X.s₀.heap.objs.size<=b)/\b≠X.env.locals/\(∀x c,X.env.cells.lookup x=some c->c≠b)/\∀p∈X.pn ++ pins,p.1≠b):
  Inv X pins σ H' {s with heap:=h',gens:=g',drawn:=d',toks:=t'}:=by
 obtain ⟨m, ⟨o, es, ep, ho, r⟩, _⟩ := id I.loc;obtain ⟨sl, hL⟩ := u.any ho I.free fun z => (hch _ z).2.1 rfl;exact I.step (ch := ch) hch (fun b o hL hb hc e n => u.keep b o e n (fun z => (xan.mp (I.stkSub b z)).elim hL hb) hc) (fun b o _ _ hc e n => u.any e n hc) (fun b o hc e n => u.free b o e n hc) (fun b o hc e => u.there b o e hc) u.tups u.frzs u.tbls (fun m' hm=>by
  obtain⟨o',es',ep',ho',r'⟩:=hm;rw[ho]at ho';cases ho';exact⟨_,es',ep',hL,r'⟩) hok hg
theorem Inv.turned {t':Nat}{it:Addr}(I:Inv X pins σ H s)(k:∀b o,b≠it->s.heap.get? b=some o->h'.get? b=some o)(hn:H it=none)(hL:it≠X.env.locals)
  (h1:it∈X.ex\/X.s₀.heap.objs.size<=it) (h2:∀x c,X.env.cells.lookup x=some c->c≠it) (h3:∀p∈X.pn ++ pins,p.1≠it):Inv X pins σ H {s with heap:=h',toks:=t'}:=by
 have nit:∀b u,H b=some u->b≠it:=fun b u e z=>by rw[z,hn]at e;cases e
 refine I.step (g':=s.gens) (d':=s.drawn) (ch:=[it]) (fun b hb=>?_) (fun b o _ _ hc e _=>k b o (fun z=>hc (by simp[z])) e) (fun b o _ _ hc e _=>⟨o.slots,k b o (fun z=>hc (by simp[z])) e⟩) (fun _ _ _ _ n=>n)
  (fun b o hc e=>⟨o,k b o (fun z=>hc (by simp[z])) e⟩) (fun _ _ e=>e) (fun _ _ _ e=>e) (fun b ps e=>⟨#[],by rw[e];simp⟩) (fun m hm=>?_) (fun b u e=>?_) I.bare
 ·have e:b=it:=by simpa using hb
  subst e;exact⟨h1,hL,h2,h3⟩
 ·obtain⟨o,es,ep,ho,r⟩:=hm;exact⟨o,es,ep,k _ o (xbu hL) ho,r⟩
 ·refine(I.hok b u e).stay (fun c v hc q=>k c v ?_ q) (fun _ q=>q) fun _ _ q=>q;rcases hc with z |z
  ·rw[z];exact nit b u e
  ·exact nit c _ z
theorem Inv.tok (I:Inv X pins σ H s)(t:Nat):Inv X pins σ H {s with toks:=t}:=I.un (h':=s.heap) (t':=t) Un.refl I.hok
theorem Inv.kept {t':Nat}(I:Inv X pins σ H s)(k:∀b u,s.heap.get? b=some u->h'.get? b=some u):Inv X pins σ H {s with heap:=h',toks:=t'}:=I.un (Un.kept k) (I.hok.kept k)
theorem Inv.laid {a:Addr}{o:HO}{t':Nat}(I:Inv X pins σ H s)(k:∀b u,s.heap.get? b=some u->h'.get? b=some u)(hp:s.heap.objs.size<=a)(new:cA X.prog X.w (upd H a o) h' a o):
  Inv X pins σ (upd H a o) {s with heap:=h',toks:=t'}:=I.un (Un.laid k hp (I.hok.fresh hp)) (I.hok.laid k hp new)
theorem Inv.write {x e:Addr}{o:HO}{t':Nat}(I:Inv X pins σ H s)(mu:vg (H x))(he:e=x\/H e=some (.own x))(k:∀b u,b≠e->s.heap.get? b=some u->h'.get? b=some u)(heo:∃u,h'.get? e=some u)
  (new:cA X.prog X.w (upd H x o) h' x o):Inv X pins σ (upd H x o) {s with heap:=h',toks:=t'}:=I.un (Un.write mu he k heo) (I.hok.write mu he k heo new)
theorem Inv.pins_of {pins':Pnx}(I:Inv X pins σ H s)(h:∀p∈pins',s.heap.get? p.1=some p.2/\H p.1=none/\p.1≠X.env.locals/\p.1∉X.fs/\∀v,p.2.data≠ .cell v):Inv X pins' σ H s:=
 ⟨I.ok,I.os,I.bare,I.base,I.loc,I.cell,I.free,I.freeC,fun p hp=>(xaI.mp hp).elim (fun z=>I.pin p (xco _ z)) (h p),I.hok,I.len⟩
theorem KC {N:List Str}(hN:N.Nodup){i j:Nat}{x:Str}(a:N[i]? =some x)(b:N[j]? =some x):i=j:=by
 obtain⟨h1,e1⟩:=xat.mp a;obtain⟨h2,e2⟩:=xat.mp b;exact(List.getElem_inj hN).mp (e1.trans e2.symm)
theorem zal {M:Model}{A:Around}{E:Value->Shared->Prop}{i:Nat}{x:Str}{v:V}{u:Value}{Q:Unit->Shared->Prop}(I:Inv X pins σ H s)(hN:X.N.Nodup)(hi:X.N[i]? =some x)(hx:Loc X.env.scope x)(r:RelV v u)
    (h:∀s',Inv X pins (σ.set i (some v)) H s'->(∃a,Heap.SameBut a s.heap s'.heap/\(a=X.env.locals\/X.env.cells.lookup x=some a))->Q () s') (hf:X.fn x=true\/X.env.scope.names.lookup x=some .local:=by first |exact .inl rfl |exact .inr rfl |assumption):wpAny M A (storeName X.env x u) Q E s:=by
  obtain⟨m,hn,hl⟩:=id I.loc;have hcls:(X.env.scope.kind==.class || (X.env.scope.kind==.module && X.env.locals !=X.env.globals))=false:=by rw[I.ok.kind];rfl
  have hiσ:i<σ.length:=by rw[I.len];exact(xat.mp hi).1
  have cne:=I.cne;have tracked:∀{a:Addr} {h':Heap},(∃o,s.heap.get? a=some o/\H a=none)->Heap.SameBut a s.heap h'->bN X.prog X.w H h':=fun {a h'} ha hs b ob e=>by
    obtain⟨_,_,hfree⟩:=ha;refine(I.hok b ob e).stay (fun c w' hc q=>(hs.2 c ?_).trans q) (fun _ q=>q) fun _ _ q=>q;rintro rfl;rcases hc with rfl |hc
    · rw[hfree]at e;cases e
    · rw[hfree]at hc;cases hc
  rcases hx with hk |hk
  · refine wpAny_storeName_local hk hn (fun h' hn' hs=>?_) hcls;obtain⟨oL,_,_,hoL,_⟩:=id hn;refine h _ ⟨I.ok,I.os,I.bare,⟨fun b o e n hb hx=>?_,fun b o e n hb hx=>?_,I.base.free,fun b o e hx=>?_,I.base.tups,I.base.frzs,I.base.tbls⟩,⟨_,hn',fun j y v' e1 e2 e3=>?_⟩,fun y c e=>?_,I.free,I.freeC,fun p hp=>?_,tracked ⟨oL,hoL,I.free⟩ hs,by simpa using I.len⟩ ⟨_,hs,.inl rfl⟩
    · exact(hs.2 b (xaD (xal (xam e) I.ok.above))).trans (I.base.keep b o e n hb hx)
    · obtain⟨sl,e1⟩:=I.base.slot b o e n hb hx;exact⟨sl,(hs.2 b (xaD (xal (xam e) I.ok.above))).trans e1⟩
    · obtain⟨o',e1⟩:=I.base.there b o e hx;exact⟨o',(hs.2 b (xaD (xal (xam e) I.ok.above))).trans e1⟩
    · by_cases hj:j=i
      · subst hj;rw[hi]at e1;cases e1;rw[xcI hiσ]at e2;cases e2;exact⟨u,r,.inl ⟨hk,by simp⟩⟩
      · rw[xcW (xbu hj)]at e2;obtain⟨u',r',q⟩:=hl j y v' e1 e2 e3;refine⟨u',r',?_⟩;rcases q with⟨k,e⟩ |⟨k,c,e,z⟩
        · refine .inl ⟨k,?_⟩;have:y≠x:=fun e=>hj (KC hN e1 (e ▸ hi))
          simp[this,e]
        · exact .inr ⟨k,c,e,z.sameBut hs (cne y c e)⟩
    · obtain⟨w',z⟩:=I.cell y c e;exact⟨w',z.sameBut hs (cne y c e)⟩
    · obtain⟨e,n,ne,nf,d⟩:=I.pin p hp;exact⟨(hs.2 p.1 ne).trans e,n,ne,nf,d⟩
  · have hfn:X.fn x=true:=by
      rcases hf with z |z
      · exact z
      · rw[z]at hk;cases hk
    obtain⟨c,hc⟩:=I.ok.has x (.inl hk);obtain⟨w',z⟩:=I.cell x c hc;refine wpAny_storeName_cell I.ok.kind hk hc z (fun h' hc' hs=>?_);obtain⟨oc,hoc,hocd⟩:=id z;refine h {s with heap:=h'} ⟨I.ok,I.os,I.bare,⟨fun b o e n hb hx=>?_,fun b o e n hb hx=>?_,I.base.free,fun b o e hx=>?_,I.base.tups,I.base.frzs,I.base.tbls⟩,⟨m,hn.sameBut hs (xbu (cne x c hc)),fun j y v' e1 e2 e3=>?_⟩,fun y c' e=>?_,I.free,I.freeC,fun p hp=>?_,tracked ⟨oc,hoc,(I.freeC x c hc).resolve_right fun z=>by rw[z.1]at hfn;cases hfn⟩ hs,by simpa using I.len⟩ ⟨c,hs,.inr hc⟩
    · exact(hs.2 b (xaD (xal (xam e) (I.ok.cab x c hfn hc)))).trans (I.base.keep b o e n hb hx)
    · obtain⟨sl,e1⟩:=I.base.slot b o e n hb hx;exact⟨sl,(hs.2 b (xaD (xal (xam e) (I.ok.cab x c hfn hc)))).trans e1⟩
    · obtain⟨o',e1⟩:=I.base.there b o e hx;exact⟨o',(hs.2 b (xaD (xal (xam e) (I.ok.cab x c hfn hc)))).trans e1⟩
    · by_cases hj:j=i
      · subst hj;rw[hi]at e1;cases e1;rw[xcI hiσ]at e2;cases e2;exact⟨u,r,.inr ⟨.inl hk,c,hc,hc'⟩⟩
      · rw[xcW (xbu hj)]at e2;obtain⟨u',r',q⟩:=hl j y v' e1 e2 e3;refine⟨u',r',?_⟩;rcases q with q |⟨k,c',e,z'⟩
        · exact .inl q
        · refine .inr ⟨k,c',e,z'.sameBut hs ?_⟩;rintro rfl;exact hj (KC hN e1 (I.ok.inj _ _ _ e hc ▸ hi))
    · by_cases hcc:c'=c
      · subst hcc;exact⟨_,hc'⟩
      · obtain⟨w2,z2⟩:=I.cell y c' e;exact⟨w2,z2.sameBut hs hcc⟩
    · obtain⟨e,n,ne,nf,d⟩:=I.pin p hp;refine⟨(hs.2 p.1 ?_).trans e,n,ne,nf,d⟩;intro q;rw[q,hoc]at e;have q':oc=p.2:=xas e;exact d w' (by rw[<-q'];exact hocd)
theorem yq {M:Model}{A:Around}{E:Value->Shared->Prop}{i:Nat}{x:Str}{v:V}{u:Value}{Q:Unit->Shared->Prop}(I:Inv X pins σ H s)(hN:X.N.Nodup)(hi:X.N[i]? =some x)(hx:Loc X.env.scope x)(r:RelV v u)
  (h:∀s',Inv X pins (σ.set i (some v)) H s'->Q () s') (hf:X.fn x=true\/X.env.scope.names.lookup x=some .local:=by first |exact .inl rfl |exact .inr rfl |assumption):wpAny M A (storeName X.env x u) Q E s:=
 zal I hN hi hx r (fun s' I' _=>h s' I') hf
theorem Inv.call' {s':Shared}{ch:List Addr}(I:Inv X pins σ H s)(ho:s'.os=s.os)(u:Un (frs X.stack) ch H H' s.heap s'.heap)(hok:bN X.prog X.w H' s'.heap)(hg:AllBare s'.gens)
  (hch:∀b∈ch,(b∈X.ex\/X.s₀.heap.objs.size<=b)/\b≠X.env.locals/\(∀x c,X.env.cells.lookup x=some c->c≠b)/\∀p∈X.pn ++ pins,p.1≠b):Inv X pins σ H' s':=by
 obtain⟨h',g',d',t',o'⟩:=s';have e:o'=s.os:=ho;subst e;exact I.call (g':=g') (t':=t') (d':=d') u hok hg hch
end
abbrev XK:=Value->Option Addr->Hp->Prop
abbrev St:=List (Option V)
abbrev VK:=V->Hp->Prop
abbrev TE:=St->Hp->VK->Prop
abbrev TT:=St->Hp->(Bool->Hp->Prop)->Prop
abbrev TA:=St->Hp->(List V->Hp->Prop)->Prop
structure Ends where
 nx:St->Hp->Prop
 rt:VK
 bk:St->Hp->Prop:=fun _ _=>False
 ct:St->Hp->Prop:=fun _ _=>False
abbrev TS:=Ends->St->Hp->Prop
def EP (X:Cx)(pins:Pnx)(σ:St)(Q:VK)(u:Value)(s':Shared):Prop:=∃v H',Inv X pins σ H' s'/\RelV v u/\Q v H'
def TP (X:Cx)(pins:Pnx)(σ:St)(Q:Bool->Hp->Prop)(b:Bool)(s':Shared):Prop:=∃H',Inv X pins σ H' s'/\Q b H'
def AP (X:Cx)(pins:Pnx)(σ:St)(Q:List V->Hp->Prop)(us:List Value)(s':Shared):Prop:=∃vs H',Inv X pins σ H' s'/\Vals vs us/\Q vs H'
def SP (X:Cx)(pins:Pnx)(D:Ends)(f:Flow)(s':Shared):Prop:=
 match f with
 |.next=>∃σ' H',Inv X pins σ' H' s'/\D.nx σ' H'
 |.brk=>∃σ' H',Inv X pins σ' H' s'/\D.bk σ' H'
 |.cont=>∃σ' H',Inv X pins σ' H' s'/\D.ct σ' H'
 |.ret u=>∃v σ' H',Inv X pins σ' H' s'/\RelV v u/\D.rt v H'
def PE (X:Cx)(e:Expr)(t:TE):Prop:=
 ∀(pins:Pnx) (s:Shared) (σ:St) (H:Hp) (Q:VK),Inv X pins σ H s->t σ H Q->wpAny (model X.prog X.w) X.A (eval e X.env) (EP X pins σ Q) X.xe s
def PT (X:Cx)(e:Expr)(t:TT):Prop:=
 ∀(pins:Pnx) (s:Shared) (σ:St) (H:Hp) (Q:Bool->Hp->Prop),Inv X pins σ H s->t σ H Q->wpAny (model X.prog X.w) X.A (isTrue e X.env (eval e X.env)) (TP X pins σ Q) X.xe s
def PW (X:Cx)(e:Expr)(t:TT):Prop:=
 ∀(whole:Sem Value) (pins:Pnx) (s:Shared) (σ:St) (H:Hp) (Q:Bool->Hp->Prop),Inv X pins σ H s->t σ H Q->wpAny (model X.prog X.w) X.A (isTrue e X.env whole) (TP X pins σ Q) X.xe s
theorem PW.pt {X:Cx}{e:Expr}{t:TT}(h:PW X e t):PT X e t:=h _
def PA (X:Cx)(es:List Expr)(t:TA):Prop:=
 ∀(pos:Pos) (pins:Pnx) (s:Shared) (σ:St) (H:Hp) (Q:List V->Hp->Prop),Inv X pins σ H s->t σ H Q->wpAny (model X.prog X.w) X.A (spliced (backTo pos (starEach es X.env))) (AP X pins σ Q) X.xe s
def PS (X:Cx)(st:Stmt)(t:TS):Prop:=
 ∀(pins:Pnx) (s:Shared) (σ:St) (H:Hp) (D:Ends),Inv X pins σ H s->t D σ H->wpAny (model X.prog X.w) X.A (exec st X.env) (SP X pins D) X.xe s
def fL (X:Cx)(st:List Stmt)(t:TS):Prop:=
 ∀(pins:Pnx) (s:Shared) (σ:St) (H:Hp) (D:Ends),Inv X pins σ H s->t D σ H->wpAny (model X.prog X.w) X.A (execs st X.env) (SP X pins D) X.xe s
theorem aU {α:Type}{t:Sem α}{Q Q':α->Shared->Prop}{M:Model}{A:Around}{E:Value->Shared->Prop}{s:Shared}(h:wpAny M A t Q E s)(hQ:∀a s,Q a s->Q' a s):wpAny M A t Q' E s:=xaR h hQ fun _ _ x=>x
section
variable {X:Cx}
def G6 (i:Nat):TE:=fun σ H Q=>∃v,σ[i]? =some (some v)/\Q v H
def tC (v:V):TE:=fun _ H Q=>Q v H
theorem Ez {i:Nat}{x:Str}{pos:Pos}(hN:X.N[i]? =some x)(hv:pH X.env.scope x)(hd:(x==("__debug__":Str))=false:=by decide)(hcd:(x==("__classdict__":Str))=false:=by decide):PE X (.Name x pos) (G6 i):=by
 intro pins s σ H Q I h;obtain⟨v,e,h⟩:=h;obtain⟨m,hn,hl⟩:=I.loc;obtain⟨u,r,l⟩:=hl i x v hN e hv;have fin:EP X pins σ Q u s:=⟨v,H,I,r,h⟩;rcases l with⟨hk,hm⟩ |⟨hk,c,hc,hcell⟩
 ·exact wpAny_Name (wpAny_loadName_local I.ok.kind hk hn hm fin) hd
 ·rcases hk with hk |hk
  ·exact wpAny_Name (wpAny_loadName_cell I.ok.kind hk hc hcell fin) hd
  ·exact wpAny_Name (wpAny_loadName_free I.ok.kind hk hc hcell fin hcd) hd
theorem Vt {i j pos}:PE X (.Constant (.int i) j pos) (tC (.int i)):=fun _ _ _ H _ I h=>wpAny_Constant_int ⟨.int i,H,I.tok _,⟨_,rfl⟩,h⟩
theorem Vl {b j pos}:PE X (.Constant (.bool b) j pos) (tC (.bl b)):=fun _ _ _ H _ I h=>Constant_bool ⟨.bl b,H,I,rfl,h⟩
theorem Vz {x j pos}:PE X (.Constant (.str x) j pos) (tC (.str x)):=fun _ _ _ H _ I h=>Calls.Constant_str ⟨.str x,H,I.tok _,⟨_,rfl⟩,h⟩
def Gl (X:Cx)(x:Str):Prop:=X.env.kindOf x=some .globalImplicit
theorem RW {E:Value->Shared->Prop}{pins:Pnx}{s:Shared}{σ:St}{H:Hp}{x:Str}{u:Value}{pos:Pos}{Q:Value->Shared->Prop}(I:Inv X pins σ H s)(hg:Gl X x)(hm:X.mg x=some u)(h:Q u s)
  (hd:(x==("__debug__":Str))=false:=by decide):wpAny (model X.prog X.w) X.A (eval (.Name x pos) X.env) Q E s:=
 xdi I.ok.kind hg (Calls.loadGlobal_global (by rw[I.ok.glob];exact I.mod.glob.keeps I.bk) hm h) hd
theorem sU {E:Value->Shared->Prop}{pins:Pnx}{s:Shared}{σ:St}{H:Hp}{x:Str}{u:Value}{pos:Pos}{Q:Value->Shared->Prop}(I:Inv X pins σ H s)(hg:Gl X x)(hm:X.mg x=none)(hv:bootBuiltins x=some u)(h:Q u s)
  (hn:x≠"__name__":=by decide) (hd:(x==("__debug__":Str))=false:=by decide):wpAny (model X.prog X.w) X.A (eval (.Name x pos) X.env) Q E s:=by
 obtain⟨mb,h1,h2⟩:=I.mod.blt;exact xdi I.ok.kind hg (Calls.loadGlobal_builtin (by rw[I.ok.glob];exact I.mod.glob.keeps I.bk) hm (by rw[I.ok.blt];exact h1.keeps I.bk) ((h2 x hn).trans hv) h) hd
theorem Vm {x:Str}{v:V}{u:Value}{pos:Pos}(hg:Gl X x)(hm:X.mg x=none)(hv:bootBuiltins x=some u)(r:RelV v u)(hn:x≠"__name__":=by decide)(hd:(x==("__debug__":Str))=false:=by decide):PE X (.Name x pos) (tC v):=
 fun _ _ _ H _ I h=>sU I hg hm hv ⟨v,H,I,r,h⟩ hn hd
variable {a b:Expr}{ta tb:TE}{pos:Pos}
variable {tA tB':TT}{rest:List Expr}
noncomputable def GD (t u:TT):TT:=fun σ H Q=>t σ H fun c H1=>if c=true then u σ H1 Q else Q false H1
noncomputable def tOr (t u:TT):TT:=fun σ H Q=>t σ H fun c H1=>if c=true then Q true H1 else u σ H1 Q
def GX (t:TT):TT:=fun σ H Q=>t σ H fun c H1=>Q (!c) H1
theorem Wq (ha:PT X a tA):PW X (.BoolOp .And [a] pos) tA:=by
 intro wh pins s σ H Q I h;refine isTrue_and (aU (ha pins s σ H Q I h) fun c s1 e=>?_)
 cases c with
 |true=>exact isTrue_and_nil e
 |false=>exact e
theorem Ws (ha:PT X a tA):PW X (.BoolOp .Or [a] pos) tA:=by
 intro wh pins s σ H Q I h;refine isTrue_or (aU (ha pins s σ H Q I h) fun c s1 e=>?_)
 cases c with
 |false=>exact isTrue_or_nil e
 |true=>exact e
theorem Wo (ha:PT X a tA)(hb:PW X (.BoolOp .And (b::rest) pos) tB'):PW X (.BoolOp .And (a::b::rest) pos) (GD tA tB'):=by
 intro wh pins s σ H Q I h;refine isTrue_and (aU (ha pins s σ H _ I h) fun c s1 ⟨H1,I1,q1⟩=>?_)
 cases c with
 |true=>exact hb wh pins s1 σ H1 Q I1 q1
 |false=>exact⟨H1,I1,q1⟩
theorem Wr (ha:PT X a tA)(hb:PW X (.BoolOp .Or (b::rest) pos) tB'):PW X (.BoolOp .Or (a::b::rest) pos) (tOr tA tB'):=by
 intro wh pins s σ H Q I h;refine isTrue_or (aU (ha pins s σ H _ I h) fun c s1 ⟨H1,I1,q1⟩=>?_)
 cases c with
 |true=>exact⟨H1,I1,q1⟩
 |false=>exact hb wh pins s1 σ H1 Q I1 q1
theorem Wd (ha:PT X a tA):PT X (.UnaryOp .Not a pos) (GX tA):=by
 intro pins s σ H Q I h;exact isTrue_not (ha pins s σ H (fun c H1=>Q (!c) H1) I h)
noncomputable def zbT (ta tb:TE):TE:=fun σ H Q=>ta σ H fun x H1=>∃c,x=.bl c/\if c=true then tb σ H1 Q else Q (.bl false) H1
theorem Vy {op}{t:TE}(h:PE X a t):PE X (.BoolOp op [a] pos) t:=fun pins s σ H Q I hw=>BoolOp_one (h pins s σ H Q I hw)
theorem Vk (ha:PE X a ta)(hb:PE X (.BoolOp .And (b::rest) pos) tb):PE X (.BoolOp .And (a::b::rest) pos) (zbT ta tb):=by
 intro pins s σ H Q I h;refine BoolOp_and (aU (ha pins s σ H _ I h) fun v s1 ⟨x,H1,I1,r1,q1⟩=>?_);obtain⟨c,rfl,q1⟩:=q1;cases r1;refine xci ?_
 cases c with
 |true=>exact hb pins s1 σ H1 Q I1 q1
 |false=>exact⟨.bl false,H1,I1,rfl,q1⟩
noncomputable def tIf (t:TT) (ta tb:TE):TE:=fun σ H Q=>t σ H fun c H1=>if c=true then ta σ H1 Q else tb σ H1 Q
theorem Vs {c:Expr}(hc:PT X c tA)(ha:PE X a ta)(hb:PE X b tb):PE X (.IfExp c a b pos) (tIf tA ta tb):=by
 intro pins s σ H Q I h;refine wpAny_IfExp (aU (hc pins s σ H _ I h) fun d s1 ⟨H1,I1,q1⟩=>?_)
 cases d with
 |true=>exact ha pins s1 σ H1 Q I1 q1
 |false=>exact hb pins s1 σ H1 Q I1 q1
end
def bC (K:Fgx)(H:Hp)(a:Addr)(xs:List V):Prop:=
 Rd H a (.lst xs)\/
  ∃(o:Obj) (its:Array Value) (n:Nat),K.lookup a=some o/\o.cls=.type "list"/\o.dict=none/\o.data=.seq its n/\its.size<=sizeLine/\Vals xs its.toList
def dM (K:Fgx)(H:Hp)(a:Addr)(xs:List V):Prop:=
 Rd H a (.tup xs)\/
  ∃(o:Obj) (its:Array Value) (n:Nat),K.lookup a=some o/\o.cls=.type "tuple"/\o.data=.seq its n/\its.size<=sizeLine/\Vals xs its.toList
noncomputable def Bx:Value->Option V
 |.none=>some .non
 |.bool b=>some (.bl b)
 |.int i _=>some (.int i)
 |.str x _=>some (.str x)
 |.bytes b _=>some (.byt b)
 |.float b _=>some (.flt b)
 |.ref a=>some (.ref a)
 |.type n=>some (.ty n)
 |_=>none
theorem RelV.abs {x:V}{u:Value}(r:RelV x u):Bx u=some x:=by
 cases x with
 |non=>cases r;rfl
 |bl _=>cases r;rfl
 |int _=>obtain⟨t,rfl⟩:=r;rfl
 |str _=>obtain⟨t,rfl⟩:=r;rfl
 |byt _=>obtain⟨t,rfl⟩:=r;rfl
 |flt _=>obtain⟨t,rfl⟩:=r;rfl
 |ref _=>cases r;rfl
 |ty _=>cases r;rfl
theorem RelV.inj {x y:V}{u:Value}(r:RelV x u)(q:RelV y u):x=y:=xas (r.abs.symm.trans q.abs)
theorem Vals.inj:∀{xs ys:List V} {us:List Value},Vals xs us->Vals ys us->xs=ys
 |_,_,_,.nil,.nil=>rfl
 |_,_,_,.cons r t,.cons r' t'=>by rw[r.inj r',Vals.inj t t']
section
variable {X:Cx}{pins:Pnx}{σ:St}{H:Hp}{s:Shared}{a:Addr}{xs ys:List V}
theorem Inv.list (I:Inv X pins σ H s)(h:bC X.K H a xs):∃its:List Value,Vals xs its/\PlainL s.heap a its.toArray/\xs.length<=sizeLine:=by
 rcases h with h |⟨o,its,n,hk,hc,hd,hs,hz,r⟩
 ·obtain⟨z,its,n,r,e⟩:=h.ok I.hok;exact⟨its,r,⟨_,n,e,rfl,rfl,rfl⟩,z⟩
 ·refine⟨its.toList,r,⟨o,n,I.kIn a o hk,hc,hd,by simpa using hs⟩,?_⟩;have e:=r.length;simp only[xaj]at e;omega
theorem Inv.tuple (I:Inv X pins σ H s)(h:dM X.K H a xs):∃its:List Value,Vals xs its/\IsTup s.heap a its.toArray/\xs.length<=sizeLine:=by
 rcases h with h |⟨o,its,n,hk,hc,hs,hz,r⟩
 ·obtain⟨z,its,r,p⟩:=h.ok I.hok;exact⟨its,r,p,z⟩
 ·refine⟨its.toList,r,⟨o,I.kIn a o hk,hc,n,by simpa using hs⟩,?_⟩;have e:=r.length;simp only[xaj]at e;omega
theorem Inv.list_inj (I:Inv X pins σ H s)(h:bC X.K H a xs)(h':bC X.K H a ys):xs=ys:=by
 obtain⟨its,r,⟨o,n,e,_,_,d⟩,_⟩:=I.list h;obtain⟨its',r',⟨o',n',e',_,_,d'⟩,_⟩:=I.list h';rw[e]at e';cases e';rw[d]at d'
 injection d' with d1 _
 have:its=its':=by simpa using congrArg Array.toList d1
 subst this;exact r.inj r'
theorem Inv.tuple_inj (I:Inv X pins σ H s)(h:dM X.K H a xs)(h':dM X.K H a ys):xs=ys:=by
 obtain⟨its,r,⟨o,e,_,n,d⟩,_⟩:=I.tuple h;obtain⟨its',r',⟨o',e',_,n',d'⟩,_⟩:=I.tuple h';rw[e]at e';cases e';rw[d]at d'
 injection d' with d1 _
 have:its=its':=by simpa using congrArg Array.toList d1
 subst this;exact r.inj r'
end
abbrev Cx.wish (X:Cx)(E:Value->Shared->Prop):Cx:={X with xe:=E}
abbrev Cx.nox (X:Cx):Cx:=X.wish fun _ _=>False
theorem Cx.Ok.wish {X:Cx}(ok:X.Ok)(E:Value->Shared->Prop):(X.wish E).Ok:=
 ⟨ok.mod,ok.kind,ok.glob,ok.blt,ok.above,ok.inj,ok.has,ok.cab,ok.hd,ok.frames,ok.stk,ok.exf,ok.bs,ok.bsz,ok.noex,ok.exfs,ok.funs,ok.frf⟩
theorem Cx.Ok.unwish {X:Cx}{E:Value->Shared->Prop}(ok:(X.wish E).Ok):X.Ok:=
 ⟨ok.mod,ok.kind,ok.glob,ok.blt,ok.above,ok.inj,ok.has,ok.cab,ok.hd,ok.frames,ok.stk,ok.exf,ok.bs,ok.bsz,ok.noex,ok.exfs,ok.funs,ok.frf⟩
section
variable {X:Cx}{pins:Pnx}{σ:St}{H:Hp}{s:Shared}{E:Value->Shared->Prop}
theorem Inv.wish (I:Inv X pins σ H s)(E:Value->Shared->Prop):Inv (X.wish E) pins σ H s:=⟨I.ok.wish E,I.os,I.bare,I.base,I.loc,I.cell,I.free,I.freeC,I.pin,I.hok,I.len⟩
theorem Inv.unwish (I:Inv (X.wish E) pins σ H s):Inv X pins σ H s:=⟨I.ok.unwish,I.os,I.bare,I.base,I.loc,I.cell,I.free,I.freeC,I.pin,I.hok,I.len⟩
theorem SP.unwish {D:Ends}{f:Flow}{s':Shared}(h:SP (X.wish E) pins D f s'):SP X pins D f s':=by
 cases f with
 |next=>obtain⟨σ',H',I,q⟩:=h;exact⟨σ',H',I.unwish,q⟩
 |brk=>obtain⟨σ',H',I,q⟩:=h;exact⟨σ',H',I.unwish,q⟩
 |cont=>obtain⟨σ',H',I,q⟩:=h;exact⟨σ',H',I.unwish,q⟩
 |ret u=>obtain⟨v,σ',H',I,r,q⟩:=h;exact⟨v,σ',H',I.unwish,r,q⟩
theorem fL.nox {st:List Stmt}{t:TS}(h:fL X.nox st t):fL X st t:=fun pins s σ H D I hw=>
 xaR (h pins s σ H D (I.wish _) hw) (fun _ _ q=>q.unwish) fun _ _ z=>False.elim z
end
section
variable {X:Cx}{st:Stmt}{rest:List Stmt}{t u:TS}{e:Expr}{te:TE}{pos:Pos}
def zb1:TS:=fun D σ H=>D.nx σ H
def G3 (t u:TS):TS:=fun D σ H=>t {D with nx:=u D} σ H
theorem Wa:fL X [] zb1:=fun _ _ σ H _ I h=>xdO ⟨σ,H,I,h⟩
theorem V_ (h1:PS X st t)(h2:fL X rest u):fL X (st::rest) (G3 t u):=by
  intro pins s σ H D I h;refine wpAny_execs_cons (aU (h1 pins s σ H {D with nx:=u D} I h) fun f s1 q=>?_)
  cases f with
  |next=>
    obtain⟨σ',H',I',q⟩:=q;exact h2 pins s1 σ' H' D I' q
  |ret v=>exact q
  |brk=>exact q
  |cont=>exact q
theorem Inv.quiet {pins:Pnx}{σ:St}{H:Hp}{s:Shared}(I:Inv X pins σ H s):interactive X.env=false:=by simp[interactive,I.ok.kind]
def zbJ (te:TE):TS:=fun D σ H=>te σ H fun _ H1=>D.nx σ H1
theorem K8 (he:PE X e te)(hs:swapsWith e none pos.line X.env=pure false:=by rfl):PS X (.Expr e pos) (zbJ te):=by
 intro pins s σ H D I h;exact wpAny_Expr_any (aU (he pins s σ H _ I h) fun v s1 ⟨x,H1,I1,r1,q1⟩=>⟨σ,H1,I1,q1⟩) I.quiet hs
def GZ (te:TE):TS:=fun D σ H=>te σ H D.rt
theorem V8 (he:PE X e te):PS X (.Return (some e) pos) (GZ te):=by
 intro pins s σ H D I h;exact wpAny_Return_some (aU (he pins s σ H _ I h) fun v s1 ⟨x,H1,I1,r1,q1⟩=>⟨x,σ,H1,I1,r1,q1⟩)
noncomputable def GQ (c:TT) (t u:TS):TS:=fun D σ H=>c σ H fun b H1=>if b=true then t D σ H1 else u D σ H1
theorem V7 {c:Expr}{a b:List Stmt}{tc:TT}(hc:PT X c tc)(ha:fL X a t)(hb:fL X b u):PS X (.If c a b pos) (GQ tc t u):=by
 intro pins s σ H D I h;refine wpAny_If (aU (hc pins s σ H _ I h) fun d s1 ⟨H1,I1,q1⟩=>?_)
 cases d with
 |true=>exact ha pins s1 σ H1 D I1 q1
 |false=>exact hb pins s1 σ H1 D I1 q1
end
abbrev TG:=V->St->Hp->(St->Hp->Prop)->Prop
abbrev pD:=List V->St->Hp->(St->Hp->Prop)->Prop
def PG (X:Cx)(target:Expr)(t:TG):Prop:=
 ∀(pins:Pnx) (s:Shared) (σ:St) (H:Hp) (v:V) (u:Value) (Q:St->Hp->Prop),Inv X pins σ H s->RelV v u->t v σ H Q->
  wpAny (model X.prog X.w) X.A (assign target X.env u) (fun _ s'=>∃σ' H',Inv X pins σ' H' s'/\Q σ' H') X.xe s
def vh (X:Cx)(ts:List Expr)(t:pD):Prop:=
 ∀(pins:Pnx) (s:Shared) (σ:St) (H:Hp) (vs:List V) (us:List Value) (Q:St->Hp->Prop),Inv X pins σ H s->Vals vs us->t vs σ H Q->
  wpAny (model X.prog X.w) X.A (assignInOrder ((assignEach ts X.env).map (·.2)) us) (fun _ s'=>∃σ' H',Inv X pins σ' H' s'/\Q σ' H') X.xe s
abbrev yM:=V->V->Hp->VK->Prop
def Br (X:Cx)(op:Operator)(t:yM):Prop:=
 ∀(pins:Pnx) (s:Shared) (σ:St) (H:Hp) (x y:V) (v u:Value) (Q:VK),Inv X pins σ H s->RelV x v->RelV y u->t x y H Q->
  wpAny (model X.prog X.w) X.A (inplaceOp op v u) (EP X pins σ Q) X.xe s
section
variable {X:Cx}{pos:Pos}
def Di (i:Nat):TG:=fun v σ H Q=>Q (σ.set i (some v)) H
theorem K4 {i:Nat}{x:Str}(hN:X.N.Nodup)(hi:X.N[i]? =some x)(hx:Loc X.env.scope x)(hf:X.fn x=true\/X.env.scope.names.lookup x=some .local:=by first |exact .inl rfl |exact .inr rfl |assumption):PG X (.Name x pos) (Di i):=by
 intro pins s σ H v u Q I r h;exact xdn (yq I hN hi hx r (fun s' I'=>⟨_,H,I',h⟩) hf)
def Dj:pD:=fun vs σ H Q=>vs=[]/\Q σ H
noncomputable def Qy (t:TG) (u:pD):pD:=fun vs σ H Q=>∃v r,vs=v::r/\t v σ H fun σ' H'=>u r σ' H' Q
theorem VG:vh X [] Dj:=by
 intro pins s σ H vs us Q I r h;obtain⟨e,h⟩:=h;subst e;cases r;exact assignInOrder_nil ⟨σ,H,I,h⟩
theorem VF {e:Expr}{es:List Expr}{t:TG}{u:pD}(h1:PG X e t)(h2:vh X es u)
    (hs:(assignEach (e::es) X.env).map (·.2)=assign e X.env::(assignEach es X.env).map (·.2):=by rfl):vh X (e::es) (Qy t u):=by
  intro pins s σ H vs us Q I r h;obtain⟨v,vr,e1,h⟩:=h;subst e1
  cases r with
  |cons r rr=>
    rw[hs];refine assignInOrder_cons (aU (h1 pins s σ H _ _ _ I r h) fun _ s1 ⟨σ1,H1,I1,q1⟩=>?_);exact h2 pins s1 σ1 H1 _ _ Q I1 rr q1
noncomputable def Dk (K:Fgx) (n:Nat) (t:pD):TG:=fun v σ H Q=>∃a xs,v=.ref a/\dM K H a xs/\xs.length=n/\t xs σ H Q
theorem K5 {es:List Expr}{k:Nat}{t:pD}{n:Nat}(hc:X.calm=true)(h:vh X es t)
  (hn:(assignEach es X.env).length=n:=by rfl) (hst:(assignEach es X.env).findIdx? (·.1)=none:=by rfl):PG X (.Tuple es k pos) (Dk X.K n t):=by
 intro pins s σ H v u Q I r hw;obtain⟨a,xs,e1,hq,hl,hw⟩:=hw;subst e1;cases r;obtain⟨its,rv,ht,hz⟩:=I.tuple hq;refine assign_Tuple_tuple (I.ok.hd hc) ht (by simp[hn, <-hl,rv.length]) hst fun h' hx=>?_;have I1:Inv X pins σ H {s with heap:=h'}:=I.kept (t':=s.toks) fun b o e=>hx b o (xaD (xam e)) e;exact h pins _ σ H xs _ Q I1 (by simpa using rv) hw
noncomputable def yt (te:TE) (g:TG):TS:=fun D σ H=>te σ H fun x H1=>g x σ H1 D.nx
theorem V4 {tg e:Expr}{te:TE}{g:TG}(he:PE X e te)(hg:PG X tg g)(hs:swapsWithSole [tg] e pos.line X.env=pure false:=by rfl)(hw:swappedStores [tg] e X.env=pure none:=by rfl)
  (h1:(assignEach [tg] X.env).map (·.2)=[assign tg X.env]:=by rfl):PS X (.Assign [tg] e pos) (yt te g):=by
 intro pins s σ H D I h;refine wpAny_Assign_stores (aU (he pins s σ H _ I h) fun v s1 ⟨x,H1,I1,r1,q1⟩=>?_) hs hw;rw[h1];exact aU (hg pins s1 σ H1 x v _ I1 r1 q1) fun _ s2 q=>q
theorem K_ {i:Nat}{x:Str}{e:Expr}{te:TE}{pos':Pos}(hN:X.N.Nodup)(hi:X.N[i]? =some x)(hx:Loc X.env.scope x)(he:PE X e te)(hs:swapsWith e (some (.Name x pos')) pos.line X.env=pure false:=by rfl)(hf:X.fn x=true\/X.env.scope.names.lookup x=some .local:=by first |exact .inl rfl |exact .inr rfl |assumption):
  PS X (.Assign [.Name x pos'] e pos) (yt te (Di i)):=by
 intro pins s σ H D I h;refine wpAny_Assign_Name (aU (he pins s σ H _ I h) fun v s1 ⟨y,H1,I1,r1,q1⟩=>?_) hs;exact yq I1 hN hi hx r1 (fun s2 I2=>⟨_,H1,I2,q1⟩) hf
noncomputable def GF (i:Nat) (te:TE) (ti:yM):TS:=fun D σ H=>∃x,σ[i]? =some (some x)/\te σ H fun y H1=>ti x y H1 fun z H2=>D.nx (σ.set i (some z)) H2
theorem V5 {i:Nat}{x:Str}{e:Expr}{te:TE}{op:Operator}{ti:yM}{pos':Pos}(hN:X.N.Nodup)(hi:X.N[i]? =some x)(hx:Loc X.env.scope x)(he:PE X e te)(ho:Br X op ti)(hf:X.fn x=true\/X.env.scope.names.lookup x=some .local:=by first |exact .inl rfl |exact .inr rfl |assumption):
  PS X (.AugAssign (.Name x pos') op e pos) (GF i te ti):=by
 intro pins s σ H D I h;obtain⟨v,e1,h⟩:=h;obtain⟨m,hn,hl⟩:=I.loc;have vis:pH X.env.scope x:=by rcases hx with k |k;exact .inl k;exact .inr (.inl k)
 obtain⟨u,r,l⟩:=hl i x v hi e1 vis;refine wpAny_AugAssign_Name ?_;have go:wpAny (model X.prog X.w) X.A (eval e X.env) (fun w s₂=>wpAny (model X.prog X.w) X.A (inplaceOp op u w) (fun r s₃=>wpAny (model X.prog X.w) X.A (storeName X.env x r) (fun _=>SP X pins D .next) X.xe s₃) X.xe s₂) X.xe s:=by
  refine aU (he pins s σ H _ I h) fun w s1 ⟨y,H1,I1,r1,q1⟩=>?_;refine aU (ho pins s1 σ H1 v y u w _ I1 r r1 q1) fun z s2 ⟨zv,H2,I2,r2,q2⟩=>?_;exact yq I2 hN hi hx r2 (fun s3 I3=>⟨_,H2,I3,q2⟩) hf
 rcases l with⟨hk,hm⟩ |⟨hk,c,hc,hcell⟩
 ·exact wpAny_loadName_local I.ok.kind hk hn hm go
 ·rcases hk with hk |hk
  ·exact wpAny_loadName_cell I.ok.kind hk hc hcell go
  ·rcases hx with k |k
   ·have:X.env.scope.names.lookup x=some .free:=hk;rw[k]at this;cases this
   ·have:X.env.scope.names.lookup x=some .free:=hk;rw[k]at this;cases this
noncomputable def JN (f:Int->Int->Int):yM:=fun x y H Q=>∃i j,x=.int i/\y=.int j/\Q (.int (f i j)) H
theorem Q5:Br X .Sub (JN fun i j=>i - j):=by
 intro pins s σ H x y v u Q I r1 r2 h;obtain⟨i,j,e1,e2,q⟩:=h;subst e1;subst e2;obtain⟨t,rfl⟩:=r1;obtain⟨t',rfl⟩:=r2;exact isub_int ⟨.int _,H,I.tok _,⟨_,rfl⟩,q⟩
end
section
variable {X:Cx}{pos:Pos}
noncomputable def Nf (c:TT) (tb:TS):TS:=fun D σ H=>∃W:Nat->St->Hp->Prop,(∃m,W m σ H)/\∀m σ H,W m σ H->
 c σ H fun b H1=>if b=true then ∃N:St->Hp->Prop,(∀σ' H',N σ' H'->∃m',m'<m/\W m' σ' H')/\tb {D with nx:=N,ct:=N,bk:=D.nx} σ H1 else D.nx σ H1
theorem V9 {c:Expr}{body:List Stmt}{tc:TT}{tb:TS}(hp:PassesOwn (model X.prog X.w) X.A X.env X.xe)(hc:PT X c tc)(hb:fL X body tb):PS X (.While c body [] pos) (Nf tc tb):=by
  intro pins s σ H D I h;obtain⟨W,⟨m0,w0⟩,turn⟩:=h;refine wpAny_While (codeAny_whileLoop (fun n s'=>∃σ' H',Inv X pins σ' H' s'/\W n σ' H') ?_ m0 ⟨σ,H,I,w0⟩);rintro n s1 ⟨σ1,H1,I1,w1⟩;refine xbX hp (aU (hc pins s1 σ1 H1 _ I1 (turn n σ1 H1 w1)) fun b s2 ⟨H2,I2,q2⟩=>?_)
  cases b with
  |true=>
    obtain⟨N,hN,q2⟩:=q2;rw[xaa rfl];refine xbX hp (aU (hb pins s2 σ1 H2 _ I2 q2) fun f s3 q3=>?_)
    cases f with
    |next=>
      obtain⟨σ3,H3,I3,n3⟩:=q3;obtain⟨m',hm,w3⟩:=hN σ3 H3 n3;exact⟨m',hm,σ3,H3,I3,w3⟩
    |cont=>
      obtain⟨σ3,H3,I3,n3⟩:=q3;obtain⟨m',hm,w3⟩:=hN σ3 H3 n3;exact⟨m',hm,σ3,H3,I3,w3⟩
    |brk=>exact q3
    |ret v=>exact q3
  |false=>
    rw[xad xap];exact xdO ⟨σ1,H2,I2,q2⟩
end
structure It where
 go:Nat->Hp->Prop
 yld:Nat->Hp->V->Hp->Prop
 stop:Nat->Hp->Prop
def dU (X:Cx)(pins:Pnx)(H:Hp)(b:Addr):Prop:=
 H b=none/\b≠X.env.locals/\b∉X.fs/\(b∈X.ex\/X.s₀.heap.objs.size<=b)/\(∀x c,X.env.cells.lookup x=some c->c≠b)/\∀p∈X.pn ++ pins,p.1≠b
theorem Inv.fpOk {X:Cx}{pins:Pnx}{σ:St}{H H':Hp}{s:Shared}{b:Addr}(I:Inv X pins σ H s)(hb:s.heap.objs.size<=b)(hn:H' b=none):dU X pins H' b:=by
 refine⟨hn,xei (xal I.lt hb),I.nofs hb,.inr (xao I.sz hb),fun x c e z=>?_,fun p hp z=>?_⟩
 ·obtain⟨v,q⟩:=I.cell x c e;exact absurd (xal q.lt (by rw[z];exact hb)) (xbL _)
 ·exact absurd (xal (xam (I.pin p hp).1) (by rw[z];exact hb)) (xbL _)
structure Turn (P:Program)(w:World)(K:Fgx)(tg:Expr)(J:It)(fp:List Addr)(it:Addr)(tn:Nat->Heap->Prop):Prop where
 mem:it∈fp
 obj:∀i h,tn i h->∀b∈fp,∃o,h.get? b=some o/\∀v,o.data≠ .cell v
 keep:∀i h h',tn i h->(∀b∈fp,∀o,h.get? b=some o->h'.get? b=some o)->tn i h'
 item:∀(X:Cx),X.prog=P->X.w=w->X.K=K->X.calm=true->∀(i:Nat) (pins:Pnx) (s:Shared) (σ:St) (H:Hp) (E:Value->Shared->Prop),Inv X pins σ H s->(∀b∈fp,dU X pins H b)->tn i s.heap->J.go i H->
  wpAny (model P w) X.A (pyNext (.ref it)) (fun r s1=>∃u,r=some u/\
   wpAny (model P w) X.A (letOwnedTupleGo tg (.ref it) u) (fun _ s2=>∃x H',Inv X pins σ H' s2/\RelV x u/\J.yld i H x H'/\tn (i + 1) s2.heap/\∀b∈fp,H' b=none) E s1) E s
 done:∀(X:Cx),X.prog=P->X.w=w->X.K=K->X.calm=true->∀(i:Nat) (pins:Pnx) (s:Shared) (σ:St) (H:Hp) (E:Value->Shared->Prop),Inv X pins σ H s->(∀b∈fp,dU X pins H b)->tn i s.heap->J.stop i H->
  wpAny (model P w) X.A (pyNext (.ref it)) (fun r s1=>r=none/\Inv X pins σ H s1) E s
 self:∀(A:Around) (i:Nat) (s:Shared) (Q:Value->Shared->Prop) (E:Value->Shared->Prop),tn i s.heap->Q (.ref it) s->wpAny (model P w) A (pyIter (.ref it)) Q E s
abbrev TI:=St->Hp->(It->Hp->Prop)->Prop
def PIE (X:Cx)(pins:Pnx)(σ:St)(tg:Expr)(R:It->Hp->Prop)(itv:Value)(s2:Shared):Prop:=
 ∃(it:Addr) (fp:List Addr) (tn:Nat->Heap->Prop) (J:It) (H':Hp),itv=.ref it/\Inv X pins σ H' s2/\Turn X.prog X.w X.K tg J fp it tn/\tn 0 s2.heap/\(∀b∈fp,dU X pins H' b)/\R J H'
def PI (X:Cx)(tg iter:Expr)(wi:TI):Prop:=
 ∀(pins:Pnx) (s:Shared) (σ:St) (H:Hp) (R:It->Hp->Prop),Inv X pins σ H s->wi σ H R->
  wpAny (model X.prog X.w) X.A (eval iter X.env) (fun v s1=>wpAny (model X.prog X.w) X.A (pyIter v) (PIE X pins σ tg R) X.xe s1) X.xe s
theorem sJ {M:Model}{A:Around}{E:Value->Shared->Prop}{s:Shared}{tg:Expr}{it:Addr}{u:Value}{o:Obj}{n:String}{vs:Array Value}{Q:Unit->Shared->Prop}(ho:s.heap.get? it=some o)(hc:o.cls=.type n)(hd:o.data=.fields vs)
    (hn:["enumerate","zip","dict_itemiterator","dict_reverseitemiterator","odict_iterator","itertools.zip_longest","itertools.pairwise"].contains n=false) (hQ:Q () s):wpAny M A (letOwnedTupleGo tg (.ref it) u) Q E s:=by
  unfold letOwnedTupleGo;cases tg<;>first
    |exact xac hQ
    | (cases u<;>first
        |exact xac hQ
        | (refine tG (wpAny_load ho ?_)
           rw[hc,hd];show wpAny M A (if (["enumerate","zip","dict_itemiterator","dict_reverseitemiterator","odict_iterator","itertools.zip_longest","itertools.pairwise"].contains n && vs[0]? ==some (rawInt _))=true then _ else _) Q E s
           rw[xad (by intro h;rw[hn,xdY]at h;cases h)];exact xac hQ))
noncomputable def Hv (K:Fgx) (a:Addr):It:=
 ⟨fun i H=>∃xs x,bC K H a xs/\xs[i]? =some x,fun i H x H'=>H'=H/\∀xs,bC K H a xs->xs[i]? =some x,fun i H=>∃xs,bC K H a xs/\xs.length<=i⟩
noncomputable def yK (lo:Int) (n:Nat):It:=⟨fun i _=>i<n,fun i H x H'=>H'=H/\x=.int (lo + i),fun i _=>n<=i⟩
theorem zam {P:Program}{w:World}{K:Fgx}{tg:Expr}(a it:Addr):Turn P w K tg (Hv K a) [it] it (fun i h=>h.IsListIter it a i) where
 mem:=by simp
 obj:=fun i h st b hb=>by
  have e:b=it:=by simpa using hb
  subst e;obtain⟨o,e,c,d⟩:=st;exact⟨o,e,fun v z=>by rw[d]at z;cases z⟩
 keep:=fun i h h' st k=>st.at fun o e=>k it (by simp) o e
 item:=by
  intro X hP hw hK hc i pins s σ H E I hf st hg;subst hP hw hK;obtain⟨xs,x,hq,hx⟩:=hg;obtain⟨its,rv,p,hz⟩:=I.list hq;obtain⟨u,hu,ru⟩:=rv.get hx;obtain⟨f0,f1,f2,f3,f4,f5⟩:=hf it (by simp);refine wpAny_pyNext_list_item st p.isList (x:=u) (by simpa using hu) fun h' st' sb=>?_;have I1:Inv X pins σ H {s with heap:=h'}:=I.turned (t':=s.toks) (fun b o hb e=>(sb.2 b hb).trans e) f0 f1 f3 f4 f5;obtain⟨o,e,c,d⟩:=id st';exact⟨u,rfl,sJ (s:={s with heap:=h'}) e c d (by decide) ⟨x,H,I1,ru,⟨rfl,fun ys hy=>by rw[I.list_inj hy hq];exact hx⟩,st',fun b hb=>(hf b hb).1⟩⟩
 done:=by
  intro X hP hw hK hc i pins s σ H E I hf st hg;subst hP hw hK;obtain⟨xs,hq,hx⟩:=hg;obtain⟨its,rv,p,hz⟩:=I.list hq;obtain⟨f0,f1,f2,f3,f4,f5⟩:=hf it (by simp);have hl:=rv.length;exact wpAny_pyNext_list_end (I.ok.hd hc) st p.isList (by simp;omega) fun h' eb=>⟨rfl,I.turned (t':=s.toks) (fun b o hb e=>eb b o hb e) f0 f1 f3 f4 f5⟩
 self:=fun _ _ _ _ _ st h=>wpAny_pyIter_listiter st h
theorem zae {P:Program}{w:World}{K:Fgx}{tg:Expr}(it:Addr)(lo:Int)(n:Nat):Turn P w K tg (yK lo n) [it] it (fun i h=>IsRangeIter h it (lo + (i:Nat) * 1) ((n:Int) - (i:Nat)) 1) where
 mem:=by simp
 obj:=fun i h st b hb=>by
  have e:b=it:=by simpa using hb
  subst e;exact ⟨_,st,fun v z=>by
   have z':Data.fields _=Data.cell v:=z;cases z'⟩
 keep:=fun i h h' st k=>k it (by simp) _ st
 item:=by
  intro X hP hw hK hc i pins s σ H E I hf st hg;subst hP hw hK;obtain⟨f0,f1,f2,f3,f4,f5⟩:=hf it (by simp);have W:=Walks.range (prog:=X.prog) (w:=X.w) (I.ok.hd hc) it lo 1 n;refine W.item i s _ _ hg st fun v h' tk hv st' kk=>?_;obtain⟨t,rfl⟩:=hv;have I1:Inv X pins σ H {s with heap:=h',toks:=tk}:=I.turned (fun b o hb e=>kk b o (by simpa using hb) e) f0 f1 f3 f4 f5;refine⟨_,rfl,sJ (s:={s with heap:=h',toks:=tk}) (n:="range_iterator") st' rfl rfl (by decide) ⟨.int (lo + i),H,I1,⟨t,?_⟩,⟨rfl,rfl⟩,st',fun b hb=>(hf b hb).1⟩⟩;rw[Int.mul_one]
 done:=by
  intro X hP hw hK hc i pins s σ H E I hf st hg;subst hP hw hK;obtain⟨f0,f1,f2,f3,f4,f5⟩:=hf it (by simp);exact wpAny_pyNext_range_end (I.ok.hd hc) st (by have:n<=i:=hg;omega) fun h' eb=>⟨rfl,I.turned (t':=s.toks) (fun b o hb e=>eb b o hb e) f0 f1 f3 f4 f5⟩
 self:=fun _ _ _ _ _ st h=>wpAny_pyIter_rangeiter st h
section
variable {X:Cx}{tg:Expr}
noncomputable def JL (K:Fgx) (tl:TE):TI:=fun σ H R=>tl σ H fun x H1=>∃a,x=.ref a/\(∃xs,bC K H1 a xs)/\R (Hv K a) H1
theorem K6 {l:Expr}{tl:TE}(hl:PE X l tl):PI X tg l (JL X.K tl):=by
 intro pins s σ H R I h;refine aU (hl pins s σ H _ I h) fun v s1 ⟨x,H1,I1,r1,q1⟩=>?_;obtain⟨a,e,⟨xs,hq⟩,q⟩:=q1;subst e;cases r1;obtain⟨its,rv,p,hz⟩:=I1.list hq;refine wpAny_pyIter_list p.isList ?_;refine⟨s1.heap.objs.size,[s1.heap.objs.size],_,_,H1,rfl,I1.kept (t':=s1.toks) fun b o e=>xai _ e,zam a _,⟨_,xaH _ rfl,rfl,rfl⟩,fun b hb=>?_,q⟩;have e:b=s1.heap.objs.size:=by simpa using hb
 subst e;exact I1.fpOk (xab _) (I1.hok.fresh (xab _))
theorem Y4 {pins:Pnx}{σ:St}{H:Hp}{s:Shared}{R:It->Hp->Prop}{E:Value->Shared->Prop}{lo hi:Int}{t u v:Tok}{tk:Nat}(I:Inv X pins σ H s)(h1: -(2 ^ 62)<=lo)(h2:lo<2 ^ 62)(h3: -(2 ^ 62)<=hi)(h4:hi<2 ^ 62)
  (q:R (yK lo (hi - lo).toNat) H):wpAny (model X.prog X.w) X.A (pyIter (.ref s.heap.objs.size)) (PIE X pins σ tg R) E {s with heap:=s.heap.push {cls:=.type "range",data:=.fields #[.int lo t,.int hi u,.int 1 v]},toks:=tk}:=by
 refine wpAny_pyIter_range (IsRange.new ..) (small_one h1 h2 h3 h4) ?_;have I1 : Inv X pins σ H { s with heap := s.heap.push { cls := .type "range", data := .fields #[.int lo t, .int hi u, .int 1 v] }, toks := tk } := I.kept fun b o e => xai _ e;refine ⟨(s.heap.push {cls:=.type "range",data:=.fields #[.int lo t,.int hi u,.int 1 v]}).objs.size,[(s.heap.push {cls:=.type "range",data:=.fields #[.int lo t,.int hi u,.int 1 v]}).objs.size],_,_,H,rfl,
  I1.kept (t':=tk) fun b o e=>xai _ e,zae _ lo (hi - lo).toNat,?_,fun b hb=>?_,q⟩
 ·have e1:lo + ((0:Nat):Int) * 1=lo:=by simp
  have e2:(((hi - lo).toNat:Nat):Int) - ((0:Nat):Int)=Builtin.Range.rangeSize lo hi 1:=by rw[rangeSize_one];split<;>omega
  show IsRangeIter _ _ (lo + ((0:Nat):Int) * 1) ((((hi - lo).toNat:Nat):Int) - ((0:Nat):Int)) 1;rw[e1,e2];exact xaH _ rfl
 ·have e:b=(s.heap.push {cls:=.type "range",data:=.fields #[.int lo t,.int hi u,.int 1 v]}).objs.size:=by simpa using hb
  subst e;exact I1.fpOk (xab _) (I1.hok.fresh (xab _))
noncomputable def nM (ta:TA):TI:=fun σ H R=>ta σ H fun vs H1=>∃j:Int,vs=[.int j]/\ -(2 ^ 62)<=j/\j<2 ^ 62/\R (yK 0 j.toNat) H1
theorem VJ {a:Expr}{ta:TA}{p pos:Pos}(hg:Gl X "range")(hm:X.mg "range"=none)(ha:PA X [a] ta)(hs:starEach [a] X.env=[(false,eval a X.env)]:=by rfl):PI X tg (.Call (.Name "range" p) [a] [] pos) (nM ta):=by
  intro pins s σ H R I h;refine Call_ (sU I hg hm boot_range (xbU (aU (ha pos pins s σ H _ I h) fun us s1 ⟨vs,H1,I1,r1,q1⟩=>?_) hs rfl));obtain⟨j,e,q1,q2,q⟩:=q1;subst e
  cases r1 with
  |cons r rr=>
    cases rr;obtain⟨t,rfl⟩:=r;exact call_range_1 (Y4 I1 (by omega) (by omega) q1 q2 (by simpa using q))
noncomputable def GP (wi:TI) (g:TG) (tb:TS):TS:=fun D σ H=>wi σ H fun J H1=>∃W:Nat->Nat->St->Hp->Prop,(∃m,W 0 m σ H1)/\∀i m σ H,W i m σ H->
 (J.stop i H/\D.nx σ H)\/(J.go i H/\∃N:St->Hp->Prop,(∀σ' H',N σ' H'->∃m',m'<m/\W (i + 1) m' σ' H')/\∀x H',J.yld i H x H'->g x σ H' fun σ2 H2=>tb {D with nx:=N,ct:=N,bk:=D.nx} σ2 H2)
noncomputable def xG (fp:List Addr) (h:Heap):Pnx:=fp.filterMap fun b=>(h.get? b).map fun o=>(b,o)
theorem zM {fp:List Addr}{h:Heap}{b:Addr}{o:Obj}(hb:b∈fp)(e:h.get? b=some o):(b,o)∈xG fp h:=xcd.mpr ⟨b,hb,by rw[e];rfl⟩
theorem Ut {fp:List Addr}{h:Heap}{p:Addr×Obj}(hp:p∈xG fp h):p.1∈fp/\h.get? p.1=some p.2:=by
  obtain⟨b,hb,e⟩:=xcd.mp hp
  cases q:h.get? b with
  |none=>rw[q]at e;cases e
  |some o=>
    rw[q]at e;have e':(b,o)=p:=xas e;subst e';exact⟨hb,q⟩
theorem Inv.pinned {pins:Pnx}{σ:St}{H:Hp}{s:Shared}{fp:List Addr}(I:Inv X pins σ H s)(hf:∀b∈fp,dU X pins H b)(ho:∀b∈fp,∃o,s.heap.get? b=some o/\∀v,o.data≠ .cell v):Inv X (pins ++ xG fp s.heap) σ H s:=
 I.pins_of fun p hp=>(xaI.mp hp).elim (fun z=>I.pin p (xax _ z)) fun z=>by
  obtain⟨hb,e⟩:=Ut z;obtain⟨f0,f1,f2,_⟩:=hf p.1 hb;obtain⟨o,e',d⟩:=ho p.1 hb;rw[e]at e';cases e';exact⟨e,f0,f1,f2,d⟩
theorem Inv.unpinned {pins pl:Pnx}{σ:St}{H:Hp}{s:Shared}(I:Inv X (pins ++ pl) σ H s):Inv X pins σ H s:=I.pins_of fun p hp=>I.pin p (xax _ (xco _ hp))
theorem K9 {iter:Expr}{body:List Stmt}{wi:TI}{g:TG}{tb:TS}{pos:Pos}(hp:PassesOwn (model X.prog X.w) X.A X.env X.xe)(hc:X.calm=true)(hi:PI X tg iter wi)(hg:PG X tg g)(hb:fL X body tb)
  (hs:∀x,foldedSetIterable iter X.env x=pure x:=by intro _;rfl):PS X (.For tg iter body [] pos) (GP wi g tb):=by
 intro pins s σ H D I h;refine wpAny_For (aU (hi pins s σ H _ I h) fun v s1 h1=>aU h1 fun itv s2 h2=>?_) hs;obtain⟨it,fp,tn,J,H2,e,I2,T,st2,f2,W,⟨m0,w0⟩,turn⟩:=h2;subst e
 -- what stays true of the iterator's objects through the loop
 have stat:∀{H':Hp},(∀b∈fp,H' b=none)->∀b∈fp,dU X pins H' b:=fun hn b hb=>⟨hn b hb,(f2 b hb).2⟩;refine codeAny_forLoop_any (fun n s'=>∃i σ' H',Inv X pins σ' H' s'/\tn i s'.heap/\(∀b∈fp,H' b=none)/\W i n σ' H') ?_ m0 ⟨0,σ,H2,I2,st2,fun b hb=>(f2 b hb).1,w0⟩;rintro n s3 ⟨i,σ3,H3,I3,st3,fr3,w3⟩;rcases turn i n σ3 H3 w3 with⟨stop,qn⟩ |⟨go,N,hN,step⟩
 ·refine xbX hp (aU (T.done X rfl rfl rfl hc i pins s3 σ3 H3 X.xe I3 (stat fr3) st3 stop) fun r s4 ⟨hr,I4⟩=>?_);subst hr;exact xdO ⟨σ3,H3,I4,qn⟩
 ·refine xbX hp (aU (T.item X rfl rfl rfl hc i pins s3 σ3 H3 X.xe I3 (stat fr3) st3 go) fun r s4 ⟨u,hr,h4⟩=>?_);subst hr;refine xbX hp (aU h4 fun _ s5 ⟨x,H5,I5,r5,y5,st5,fr5⟩=>?_);have I5':=I5.pinned (stat fr5) (T.obj _ _ st5);refine xbX hp (aU (hg _ s5 σ3 H5 x u _ I5' r5 (step x H5 y5)) fun _ s6 ⟨σ6,H6,I6,q6⟩=>?_);refine xbX hp (aU (hb _ s6 σ6 H6 _ I6 q6) fun f s7 q7=>?_);have again:∀{σ7:St} {H7:Hp},Inv X (pins ++ xG fp s5.heap) σ7 H7 s7->N σ7 H7->∃m,m<n/\∃i σ' H',Inv X pins σ' H' s7/\tn i s7.heap/\(∀b∈fp,H' b=none)/\W i m σ' H':=fun {σ7 H7} I7 n7=>by
   obtain⟨m',hm,w7⟩:=hN σ7 H7 n7;refine⟨m',hm,i + 1,σ7,H7,I7.unpinned,T.keep _ _ _ st5 fun b hb o e=>(I7.pin (b,o) (xax _ (xax _ (zM hb e)))).1,fun b hb=>?_,w7⟩;obtain⟨o,e,d⟩:=T.obj _ _ st5 b hb;exact(I7.pin (b,o) (xax _ (xax _ (zM hb e)))).2.1
  cases f with
  |next=>obtain⟨σ7,H7,I7,n7⟩:=q7;exact again I7 n7
  |cont=>obtain⟨σ7,H7,I7,n7⟩:=q7;exact again I7 n7
  |brk=>obtain⟨σ7,H7,I7,q7⟩:=q7;exact⟨σ7,H7,I7.unpinned,q7⟩
  |ret v=>obtain⟨x7,σ7,H7,I7,r7,q7⟩:=q7;exact⟨x7,σ7,H7,I7.unpinned,r7,q7⟩
end
theorem NT {c:TT}{tb:TS}{D:Ends}{σ:St}{H:Hp}(Pv:St->Hp->Prop)(μ:St->Hp->Nat)(h0:Pv σ H)
  (hs:∀σ H,Pv σ H->c σ H fun b H1=>if b=true then tb {D with nx:=fun σ' H'=>Pv σ' H'/\μ σ' H'<μ σ H,ct:=fun σ' H'=>Pv σ' H'/\μ σ' H'<μ σ H,bk:=D.nx} σ H1 else D.nx σ H1)
  (mono:∀σ H Q Q',(∀b H1,Q b H1->Q' b H1)->c σ H Q->c σ H Q'):Nf c tb D σ H:=by
 refine⟨fun m σ H=>m=μ σ H/\Pv σ H,⟨_,rfl,h0⟩,?_⟩;rintro m σ H ⟨rfl,p⟩;refine mono σ H _ _ (fun b H1 q=>?_) (hs σ H p)
 cases b with
 |true=>exact⟨_,fun σ' H' ⟨p',l⟩=>⟨_,l,rfl,p'⟩,q⟩
 |false=>exact q
abbrev R2:=V->V->Hp->VK->Prop
def bB (X:Cx)(f:Value->Value->Sem Value)(r:R2):Prop:=
 ∀(pins:Pnx) (s:Shared) (σ:St) (H:Hp) (x y:V) (v u:Value) (Q:VK),Inv X pins σ H s->RelV x v->RelV y u->r x y H Q->
  wpAny (model X.prog X.w) X.A (f v u) (EP X pins σ Q) X.xe s
def yN (X:Cx)(f:Value->Sem Value)(r:V->Hp->VK->Prop):Prop:=
 ∀(pins:Pnx) (s:Shared) (σ:St) (H:Hp) (x:V) (v:Value) (Q:VK),Inv X pins σ H s->RelV x v->r x H Q->
  wpAny (model X.prog X.w) X.A (f v) (EP X pins σ Q) X.xe s
def cZ (X:Cx)(f:Value)(r:List V->Hp->VK->Prop):Prop:=
 ∀(pins:Pnx) (s:Shared) (σ:St) (H:Hp) (xs:List V) (us:List Value) (Q:VK),Inv X pins σ H s->Vals xs us->r xs H Q->
  wpAny (model X.prog X.w) X.A (call f us) (EP X pins σ Q) X.xe s
def Bw (X:Cx)(r:V->Hp->(Bool->Hp->Prop)->Prop):Prop:=
 ∀(pins:Pnx) (s:Shared) (σ:St) (H:Hp) (x:V) (v:Value) (Q:Bool->Hp->Prop),Inv X pins σ H s->RelV x v->r x H Q->
  wpAny (model X.prog X.w) X.A (truthy v) (TP X pins σ Q) X.xe s
noncomputable def yC (r:R2) (ta tb:TE):TE:=fun σ H Q=>ta σ H fun x H1=>tb σ H1 fun y H2=>r x y H2 Q
noncomputable def M_ (r:V->Hp->VK->Prop) (ta:TE):TE:=fun σ H Q=>ta σ H fun x H1=>r x H1 Q
noncomputable def rI (C:Int->Int->Prop) (g:Int->Int->V):R2:=fun x y H Q=>∃i j,x=.int i/\y=.int j/\C i j/\Q (g i j) H
noncomputable def gh (g:Int->Int->V):R2:=fun x y H Q=>∃i j,x=.int i/\y=.int j/\Q (g i j) H
def rU (g:Int->V):V->Hp->VK->Prop:=fun x H Q=>∃i,x=.int i/\Q (g i) H
section
variable {X:Cx}{a b c:Expr}{ta tb tc:TE}{pos:Pos}
theorem pJ (ha:PE X a ta)(hb:PE X b tb){pins:Pnx}{s:Shared}{σ:St}{H:Hp}{R:V->V->Hp->Prop}(I:Inv X pins σ H s)
  (h:ta σ H fun x H1=>tb σ H1 fun y H2=>R x y H2) {Q:Value->Shared->Prop} {f:Value->Value->Sem Value}
  (hf:∀v u s2 x y H2,Inv X pins σ H2 s2->RelV x v->RelV y u->R x y H2->wpAny (model X.prog X.w) X.A (f v u) Q X.xe s2):
  wpAny (model X.prog X.w) X.A (eval a X.env) (fun v s₁=>wpAny (model X.prog X.w) X.A (eval b X.env) (fun u s₂=>wpAny (model X.prog X.w) X.A (f v u) Q X.xe s₂) X.xe s₁) X.xe s:=by
 refine aU (ha pins s σ H _ I h) fun v s1 ⟨x,H1,I1,r1,q1⟩=>?_;refine aU (hb pins s1 σ H1 _ I1 q1) fun u s2 ⟨y,H2,I2,r2,q2⟩=>?_;exact hf v u s2 x y H2 I2 r1 r2 q2
theorem KZ {op:Operator}{r:R2}(ho:bB X (binaryOp op) r)(ha:PE X a ta)(hb:PE X b tb):PE X (.BinOp a op b pos) (yC r ta tb):=by
 intro pins s σ H Q I h;exact wpAny_BinOp (pJ ha hb I h fun v u s2 x y H2 I2 rx ry q=>ho pins s2 σ H2 x y v u Q I2 rx ry q)
theorem VB {op:UnaryOp}{r:V->Hp->VK->Prop}(ho:yN X (unaryOp op) r)(ha:PE X a ta):PE X (.UnaryOp op a pos) (M_ r ta):=by
 intro pins s σ H Q I h;exact UnaryOp_ (aU (ha pins s σ H _ I h) fun v s1 ⟨x,H1,I1,r1,q1⟩=>ho pins s1 σ H1 x v Q I1 r1 q1)
theorem xg {f:Value->Value->Sem Value}{C:Int->Int->Prop}{g:Int->Int->Int}
  (rule:∀(i j:Int) (t u:Tok) (s:Shared) (Q:Value->Shared->Prop) (E:Value->Shared->Prop),C i j->Q (.int (g i j) s.toks) {s with toks:=s.toks + 1}->wpAny (model X.prog X.w) X.A (f (.int i t) (.int j u)) Q E s):
  bB X f (rI C fun i j=>.int (g i j)):=by
 intro pins s σ H x y v u Q I rx ry h;obtain⟨i,j,rfl,rfl,hc,q⟩:=h;obtain⟨t,rfl⟩:=rx;obtain⟨t',rfl⟩:=ry;exact rule i j t t' s _ _ hc ⟨.int (g i j),H,I.tok _,⟨_,rfl⟩,q⟩
theorem xq {f:Value->Value->Sem Value}{g:Int->Int->Int}
  (rule:∀(i j:Int) (t u:Tok) (s:Shared) (Q:Value->Shared->Prop) (E:Value->Shared->Prop),Q (.int (g i j) s.toks) {s with toks:=s.toks + 1}->wpAny (model X.prog X.w) X.A (f (.int i t) (.int j u)) Q E s):
  bB X f (gh fun i j=>.int (g i j)):=by
 intro pins s σ H x y v u Q I rx ry h;obtain⟨i,j,rfl,rfl,q⟩:=h;obtain⟨t,rfl⟩:=rx;obtain⟨t',rfl⟩:=ry;exact rule i j t t' s _ _ ⟨.int (g i j),H,I.tok _,⟨_,rfl⟩,q⟩
theorem mU {f:Value->Value->Sem Value}{g:Int->Int->Bool}
  (rule:∀(i j:Int) (t u:Tok) (s:Shared) (Q:Value->Shared->Prop) (E:Value->Shared->Prop),Q (.bool (g i j)) s->wpAny (model X.prog X.w) X.A (f (.int i t) (.int j u)) Q E s):
  bB X f (gh fun i j=>.bl (g i j)):=by
 intro pins s σ H x y v u Q I rx ry h;obtain⟨i,j,rfl,rfl,q⟩:=h;obtain⟨t,rfl⟩:=rx;obtain⟨t',rfl⟩:=ry;exact rule i j t t' s _ _ ⟨.bl (g i j),H,I,rfl,q⟩
def vd (i j:Int):Prop:=0<j/\j<1073741824
def pB (i j:Int):Prop:=0<=j/\j<=1000000/\i.natAbs<2 ^ 64
def lY (i j:Int):Prop:=(-(2 ^ 64)<i/\i<2 ^ 64)\/(-(2 ^ 64)<j/\j<2 ^ 64)
theorem lY.ok {i j:Int}(h:lY i j):IntMulOk i j:=by
 rcases h with⟨h1,h2⟩ |⟨h1,h2⟩
 ·exact .of_left (intBits_le_64 h1 h2)
 ·exact .of_right (intBits_le_64 h1 h2)
theorem UL:bB X (binaryOp .Add) (gh fun i j=>.int (i + j)):=xq fun _ _ _ _ _ _ _ q=>add_int q
theorem kI:bB X (binaryOp .Sub) (gh fun i j=>.int (i - j)):=xq fun _ _ _ _ _ _ _ q=>sub_int q
theorem gH:bB X (binaryOp .FloorDiv) (rI vd fun i j=>.int (i / j)):=xg fun i j _ _ _ _ _ hc q=>by
 have h1:(0:Int)<j:=hc.1;have h2:j<1073741824:=hc.2;exact floordiv_int (by omega) (by rw[xdj i (by omega)];exact q) (.inl (PyProof.noPylong_small (by omega)))
theorem cB:bB X (binaryOp .Mod) (rI (fun _ j=>0<j) fun i j=>.int (i % j)):=xg fun i j _ _ _ _ _ hc q=>by
 have h1:(0:Int)<j:=hc;exact mod_int' (by omega) (by rw[Int.fmod_eq_emod_of_nonneg i (by omega)];exact q)
theorem tK:bB X (binaryOp .Pow) (rI pB fun i j=>.int (i ^ j.toNat)):=xg fun _ _ _ _ _ _ _ hc q=>pow_int_small hc.1 hc.2.1 hc.2.2 q
theorem unI {f:Value->Sem Value}{g:Int->Int}
  (rule:∀(i:Int) (t:Tok) (s:Shared) (Q:Value->Shared->Prop) (E:Value->Shared->Prop),Q (.int (g i) s.toks) {s with toks:=s.toks + 1}->wpAny (model X.prog X.w) X.A (f (.int i t)) Q E s):
  yN X f (rU fun i=>.int (g i)):=by
 intro pins s σ H x v Q I rx h;obtain⟨i,rfl,q⟩:=h;obtain⟨t,rfl⟩:=rx;exact rule i t s _ _ ⟨.int (g i),H,I.tok _,⟨_,rfl⟩,q⟩
theorem zbp:yN X (unaryOp .USub) (rU fun i=>.int (-i)):=unI fun _ _ _ _ _ q=>neg_int q
end
noncomputable def mZ:V->V->Bool
 |.non,.non=>true |.non,.int _=>true |.int _,.non=>true |.non,.bl _=>true |.bl _,.non=>true |.non,.str _=>true |.str _,.non=>true
 |.int _,.int _=>true |.bl _,.bl _=>true |.str _,.str _=>true |.byt _,.byt _=>true
 |.int _,.str _=>true |.str _,.int _=>true |.bl _,.str _=>true |.str _,.bl _=>true
 |_,_=>false
def Xp:R2:=fun x y H Q=>mZ x y=true/\Q (.bl (decide (x=y))) H
def Xq:R2:=fun x y H Q=>mZ x y=true/\Q (.bl (!decide (x=y))) H
theorem Jd {i j:Int}:decide (V.int i=V.int j)=(i==j):=by
 rw[xby]
 simp
theorem yZ {i j:Bool}:decide (V.bl i=V.bl j)=(i==j):=by
 rw[xby]
 simp
theorem Je {i j:Str}:decide (V.str i=V.str j)=(i==j):=by
 rw[xby]
 simp
theorem Jc {i j:Array UInt8}:decide (V.byt i=V.byt j)=(i.toList==j.toList):=by
 rw[xby];cases i;cases j
 simp
section
variable {X:Cx}{a b c:Expr}{ta tb tc:TE}{pos:Pos}
theorem bf {pins:Pnx}{σ:St}{H:Hp}{s:Shared}{Q:VK}{k k':Bool}(I:Inv X pins σ H s)(q:Q (.bl k) H)(e:k=k'):EP X pins σ Q (.bool k') s:=by
 subst e;exact⟨.bl k,H,I,rfl,q⟩
theorem U0:bB X (compareOp .Eq) Xp:=by
  intro pins s σ H x y v u Q I rx ry h;obtain⟨hs,q⟩:=h
  cases x with
  |non=>
    cases rx
    cases y with
    |non=>cases ry;exact PySem.EqNone.eq_none_none (bf I q (by simp))
    |bl j=>cases ry;exact PySem.EqNone.eq_none_bool (bf I q (by simp))
    |int j=>obtain⟨t',rfl⟩:=ry;exact PySem.EqNone.eq_none_int (bf I q (by simp))
    |str j=>obtain⟨t',rfl⟩:=ry;exact PySem.EqNone.eq_none_str (bf I q (by simp))
    |_=>exact absurd (show false=true from hs) xap
  |bl i=>
    cases rx
    cases y with
    |non=>cases ry;exact PySem.EqNone.eq_bool_none (bf I q (by simp))
    |bl j=>cases ry;exact eq_bool (bf I q yZ)
    |str j=>obtain⟨t',rfl⟩:=ry;exact PySem.EqMixed.eq_bool_str (bf I q (by simp))
    |_=>exact absurd (show false=true from hs) xap
  |int i=>
    obtain⟨t,rfl⟩:=rx
    cases y with
    |non=>cases ry;exact PySem.EqNone.eq_int_none (bf I q (by simp))
    |int j=>obtain⟨t',rfl⟩:=ry;exact eq_int (bf I q Jd)
    |str j=>obtain⟨t',rfl⟩:=ry;exact PySem.EqMixed.eq_int_str (bf I q (by simp))
    |_=>exact absurd (show false=true from hs) xap
  |str i=>
    obtain⟨t,rfl⟩:=rx
    cases y with
    |non=>cases ry;exact PySem.EqNone.eq_str_none (bf I q (by simp))
    |bl j=>cases ry;exact PySem.EqMixed.eq_str_bool (bf I q (by simp))
    |int j=>obtain⟨t',rfl⟩:=ry;exact PySem.EqMixed.eq_str_int (bf I q (by simp))
    |str j=>obtain⟨t',rfl⟩:=ry;exact eq_str (bf I q Je)
    |_=>exact absurd (show false=true from hs) xap
  |byt i=>
    obtain⟨t,rfl⟩:=rx
    cases y with
    |byt j=>obtain⟨t',rfl⟩:=ry;exact PySem.W.eq_bytes (bf I q Jc)
    |_=>exact absurd (show false=true from hs) xap
  |_=>cases y<;>exact absurd (show false=true from hs) xap
theorem Vd:bB X (compareOp .NotEq) Xq:=by
  intro pins s σ H x y v u Q I rx ry h;obtain⟨hs,q⟩:=h
  cases x with
  |non=>
    cases rx
    cases y with
    |non=>cases ry;exact PySem.EqNone.ne_none_none (bf I q (by simp))
    |bl j=>cases ry;exact PySem.EqNone.ne_none_bool (bf I q (by simp))
    |int j=>obtain⟨t',rfl⟩:=ry;exact PySem.EqNone.ne_none_int (bf I q (by simp))
    |str j=>obtain⟨t',rfl⟩:=ry;exact PySem.EqNone.ne_none_str (bf I q (by simp))
    |_=>exact absurd (show false=true from hs) xap
  |bl i=>
    cases rx
    cases y with
    |non=>cases ry;exact PySem.EqNone.ne_bool_none (bf I q (by simp))
    |bl j=>cases ry;exact ne_bool (bf I q (congrArg not yZ))
    |str j=>obtain⟨t',rfl⟩:=ry;exact PySem.EqMixed.ne_bool_str (bf I q (by simp))
    |_=>exact absurd (show false=true from hs) xap
  |int i=>
    obtain⟨t,rfl⟩:=rx
    cases y with
    |non=>cases ry;exact PySem.EqNone.ne_int_none (bf I q (by simp))
    |int j=>obtain⟨t',rfl⟩:=ry;exact ne_int (bf I q (congrArg not Jd))
    |str j=>obtain⟨t',rfl⟩:=ry;exact PySem.EqMixed.ne_int_str (bf I q (by simp))
    |_=>exact absurd (show false=true from hs) xap
  |str i=>
    obtain⟨t,rfl⟩:=rx
    cases y with
    |non=>cases ry;exact PySem.EqNone.ne_str_none (bf I q (by simp))
    |bl j=>cases ry;exact PySem.EqMixed.ne_str_bool (bf I q (by simp))
    |int j=>obtain⟨t',rfl⟩:=ry;exact PySem.EqMixed.ne_str_int (bf I q (by simp))
    |str j=>obtain⟨t',rfl⟩:=ry;exact ne_str (bf I q (congrArg not Je))
    |_=>exact absurd (show false=true from hs) xap
  |byt i=>
    obtain⟨t,rfl⟩:=rx
    cases y with
    |byt j=>obtain⟨t',rfl⟩:=ry;exact PySem.W.ne_bytes (bf I q (congrArg not Jc))
    |_=>exact absurd (show false=true from hs) xap
  |_=>cases y<;>exact absurd (show false=true from hs) xap
theorem Vc:bB X (compareOp .Lt) (gh fun i j=>.bl (decide (i<j))):=mU fun _ _ _ _ _ _ _ q=>lt_int q
theorem Vb:bB X (compareOp .LtE) (gh fun i j=>.bl (decide (i<=j))):=mU fun _ _ _ _ _ _ _ q=>le_int q
theorem U6:bB X (compareOp .Gt) (gh fun i j=>.bl (decide (j<i))):=mU fun _ _ _ _ _ _ _ q=>gt_int q
theorem U4:bB X (compareOp .GtE) (gh fun i j=>.bl (decide (j<=i))):=mU fun _ _ _ _ _ _ _ q=>ge_int q
theorem U8:bB X (compareOp .In) (fun x y H Q=>∃i j,x=.str i/\y=.str j/\Q (.bl (!(Builtin.Str.occurrences j i 0 j.length 1).isEmpty)) H):=by
 intro pins s σ H x y v u Q I rx ry h;obtain⟨i,j,rfl,rfl,q⟩:=h;obtain⟨t,rfl⟩:=rx;obtain⟨t',rfl⟩:=ry;exact in_str (bf I q rfl)
theorem U_:bB X (compareOp .Is) (fun x y H Q=>y=.non/\Q (.bl (decide (x=.non))) H):=by
 intro pins s σ H x y v u Q I rx ry h;obtain⟨rfl,q⟩:=h;cases ry;refine is_none_gen (bf I q ?_);cases x<;>first
  |(cases rx;rfl)
  |(obtain⟨t,rfl⟩:=rx;rfl)
theorem Vg:bB X (compareOp .IsNot) (fun x y H Q=>y=.non/\Q (.bl (!decide (x=.non))) H):=by
 intro pins s σ H x y v u Q I rx ry h;obtain⟨rfl,q⟩:=h;cases ry;refine isnot_none_gen (bf I q ?_);cases x<;>first
  |(cases rx;rfl)
  |(obtain⟨t,rfl⟩:=rx;rfl)
theorem Vh:bB X (compareOp .NotIn) (fun x y H Q=>∃i j,x=.str i/\y=.str j/\Q (.bl (!(!(Builtin.Str.occurrences j i 0 j.length 1).isEmpty))) H):=by
 intro pins s σ H x y v u Q I rx ry h;obtain⟨i,j,rfl,rfl,q⟩:=h;obtain⟨t,rfl⟩:=rx;obtain⟨t',rfl⟩:=ry;exact notIn_str (bf I q rfl)
theorem bB.or {f:Value->Value->Sem Value}{r r':R2}(h:bB X f r)(h':bB X f r'):bB X f (fun x y H Q=>r x y H Q\/r' x y H Q):=by
 intro pins s σ H x y v u Q I rx ry q;rcases q with q |q
 ·exact h pins s σ H x y v u Q I rx ry q
 ·exact h' pins s σ H x y v u Q I rx ry q
theorem Vo {op:CmpOp}{r:R2}(ho:bB X (compareOp op) r)(ha:PE X a ta)(hb:PE X b tb)(hm:behindInMarks op b=false):PE X (.Compare a [op] [b] pos) (yC r ta tb):=by
 intro pins s σ H Q I h;exact wpAny_Compare1 (pJ ha hb I h fun v u s2 x y H2 I2 rx ry q=>ho pins s2 σ H2 x y v u Q I2 rx ry q) hm
noncomputable def G4 (t:TE):TT:=fun σ H Q=>t σ H fun x H'=>∃k,x=.bl k/\Q k H'
theorem Wc {op:CmpOp}{r:R2}(ho:bB X (compareOp op) r)(ha:PE X a ta)(hb:PE X b tb)(hm:behindInMarks op b=false):PT X (.Compare a [op] [b] pos) (G4 (yC r ta tb)):=by
 intro pins s σ H Q I h;refine wpAny_isTrue_Compare1 (aU (ha pins s σ H _ I h) fun v s1 ⟨x,H1,I1,r1,q1⟩=>aU (hb pins s1 σ H1 _ I1 q1) fun u s2 ⟨y,H2,I2,r2,q2⟩=>
  aU (ho pins s2 σ H2 x y v u _ I2 r1 r2 q2) fun c s3 ⟨z,H3,I3,r3,k,e,q3⟩=>?_) hm
 subst e;cases r3;exact xci ⟨H3,I3,q3⟩
noncomputable def M8 (r r':R2) (ta tb tc:TE):TE:=fun σ H Q=>ta σ H fun x H1=>tb σ H1 fun y H2=>r x y H2 fun z H3=>∃k,z=.bl k/\
 (if k=true then tc σ H3 fun w' H4=>r' y w' H4 Q else Q (.bl false) H3)
theorem Wb {op op':CmpOp}{r r':R2}(ho:bB X (compareOp op) r)(ho':bB X (compareOp op') r')(ha:PE X a ta)(hb:PE X b tb)(hc:PE X c tc)
    (hm:lastMarks [op,op'] [b,c]=false:=by with_unfolding_all rfl):PT X (.Compare a [op,op'] [b,c] pos) (G4 (M8 r r' ta tb tc)):=by
  intro pins s σ H Q I h;refine isTrue_chain (aU (ha pins s σ H _ I h) fun v s1 ⟨x, H1, I1, r1, q1⟩ => test_link (aU (hb pins s1 σ H1 _ I1 q1) fun u s2 ⟨y,H2,I2,r2,q2⟩=>
    aU (ho pins s2 σ H2 x y v u _ I2 r1 r2 q2) fun d s3 ⟨z,H3,I3,r3,k,e,q3⟩=>?_)) hm
  subst e;cases r3;refine xci ?_
  cases k with
  |false=>
    obtain⟨k',e',q'⟩:=q3;cases e';exact ite_ff ⟨H3,I3,q'⟩
  |true=>
    refine ite_tt (test_last (aU (hc pins s3 σ H3 _ I3 q3) fun w' s4 ⟨z',H4,I4,r4,q4⟩=>aU (ho' pins s4 σ H4 y z' u w' _ I4 r2 r4 q4) fun d' s5 ⟨z2,H5,I5,r5,k2,e2,q5⟩=>?_));subst e2;cases r5;exact xci ⟨H5,I5,q5⟩
def pG (K:Fgx)(x:V)(H:Hp)(k:Bool):Prop:=
 match x with
 |.non=>k=false
 |.bl b=>k=b
 |.int i=>k=(i !=0)
 |.str y=>y.length<=sizeLine/\k=((y.length:Int) !=0)
 |.byt y=>y.size<=sizeLine/\k=((y.size:Int) !=0)
 |.ref p=>(∃xs,bC K H p xs/\k= !xs.isEmpty)\/(∃xs,dM K H p xs/\k= !xs.isEmpty)\/∃kvs,H p=some (.dK kvs)/\k= !kvs.isEmpty
 |_=>False
theorem Q6 {κ:Type}{kvs:List (κ×V)}{vs:List (κ×Value)}(r:KV kvs vs):(!vs.isEmpty)= !kvs.isEmpty:=by
 cases r<;>rfl
theorem JQ {xs:List V}{its:List Value}(r:Vals xs its):(!its.toArray.isEmpty)= !xs.isEmpty:=by
 cases r<;>simp
theorem sV:(sizeLine:Nat)<2 ^ 63:=by rw[xbn];decide
theorem zbe:Bw X (fun x H Q=>∃k,pG X.K x H k/\Q k H):=by
  intro pins s σ H x v Q I rx h;obtain⟨k,e,q⟩:=h;have hl:=sV;have hs:sizeLine=16777216:=xbn
  cases x with
  |non=>
    cases rx;have e':k=false:=e;subst e';exact truthy_none ⟨H,I,q⟩
  |bl b=>
    cases rx;have e':k=b:=e;subst e';exact xci ⟨H,I,q⟩
  |int i=>
    obtain⟨t,rfl⟩:=rx;have e':k=(i !=0):=e;subst e';exact PySem.P.truthy_int ⟨H,I,q⟩
  |str y=>
    obtain⟨t,rfl⟩:=rx;obtain⟨hy,e'⟩:y.length<=sizeLine/\k=((y.length:Int) !=0):=e;subst e';exact PySem.P.truthy_str (by omega) ⟨H,I.tok _,q⟩
  |byt y=>
    obtain⟨t,rfl⟩:=rx;obtain⟨hy,e'⟩:y.size<=sizeLine/\k=((y.size:Int) !=0):=e;subst e';exact PySem.W.truthy_bytes (by omega) ⟨H,I.tok _,q⟩
  |ref p=>
    cases rx;have e':(∃xs,bC X.K H p xs/\k= !xs.isEmpty)\/(∃xs,dM X.K H p xs/\k= !xs.isEmpty)\/∃kvs,H p=some (.dK kvs)/\k= !kvs.isEmpty:=e;rcases e' with⟨xs,hx,e'⟩ |⟨xs,hx,e'⟩ |⟨kvs,hx,e'⟩
    · subst e';obtain⟨its,r,pl,hz⟩:=I.list hx;have hlen:=r.length;exact wpAny_truthy_list pl.isList (by simp only[xah];omega) ⟨H,I.tok _,by rw[JQ r];exact q⟩
    · subst e';obtain⟨its,r,pl,hz⟩:=I.tuple hx;have hlen:=r.length;exact truthy_tuple pl (by simp only[xah];omega) ⟨H,I.tok _,by rw[JQ r];exact q⟩
    · subst e';obtain⟨hz,hS,vs,r,m⟩:kvs.length<=sizeLine/\(p==sysModules)=false/\∃vs,KV kvs vs/\s.heap.DictOf (f9 X.prog X.w) p vs:=I.hok p _ hx;have hlen:kvs.length=vs.length:=xcq r;exact wpAny_truthy_dict hS m (by omega) ⟨H,I.tok _,by rw[Q6 r];exact q⟩
  |_=>exact(show False from e).elim
theorem Wf (ha:PE X a ta)(he:∀whole,isTrue a X.env whole=(do let v <-whole;standAt a.pos;holding [v] (truthy v))):
  PT X a (fun σ H Q=>ta σ H fun x H'=>∃k,pG X.K x H' k/\Q k H'):=by
 intro pins s σ H Q I h;exact isTrue_plain (aU (ha pins s σ H _ I h) fun v s1 ⟨x,H1,I1,r1,q1⟩=>zbe pins s1 σ H1 x v Q I1 r1 q1) (he _)
theorem UW:bB X (binaryOp .Add) (fun x y H Q=>∃i j,x=.str i/\y=.str j/\i.length + j.length<=sizeLine/\Q (.str (i ++ j)) H):=by
 intro pins s σ H x y v u Q I rx ry h;obtain⟨i,j,rfl,rfl,hz,q⟩:=h;obtain⟨t,rfl⟩:=rx;obtain⟨t',rfl⟩:=ry;exact add_str (fun t' tk=>⟨.str (i ++ j),H,I.tok _,⟨_,rfl⟩,q⟩) hz
theorem vals1 {x:V}{us:List Value}(r:Vals [x] us):∃u,us=[u]/\RelV x u:=by
 cases r with
 |cons r1 r2=>cases r2;exact⟨_,rfl,r1⟩
theorem vals2 {x y:V}{us:List Value}(r:Vals [x,y] us):∃u w',us=[u,w']/\RelV x u/\RelV y w':=by
  cases r with
  |cons r1 r2=>
    cases r2 with
    |cons r3 r4=>cases r4;exact⟨_,_,rfl,r1,r3⟩
theorem Im (hc:X.calm=true):cZ X (.builtin "max") (fun xs H Q=>∃i j,xs=[.int i,.int j]/\Q (.int (if j > i then j else i)) H):=by
 intro pins s σ H xs us Q I r h;obtain⟨i,j,rfl,q⟩:=h;obtain⟨u,w',rfl,⟨t,rfl⟩,⟨t',rfl⟩⟩:=vals2 r;refine max_two_ints (I.ok.hd hc) fun h' tk k=>⟨_,H,I.kept k,?_,q⟩
 by_cases hj:j > i
 ·rw[xaa hj,xaa hj];exact⟨_,rfl⟩
 ·rw[xad hj,xad hj];exact⟨_,rfl⟩
theorem Cv (hc:X.calm=true):cZ X (.builtin "min") (fun xs H Q=>∃i j,xs=[.int i,.int j]/\Q (.int (if j<i then j else i)) H):=by
 intro pins s σ H xs us Q I r h;obtain⟨i,j,rfl,q⟩:=h;obtain⟨u,w',rfl,⟨t,rfl⟩,⟨t',rfl⟩⟩:=vals2 r;refine min_two_ints (I.ok.hd hc) fun h' tk k=>⟨_,H,I.kept k,?_,q⟩
 by_cases hj:j<i
 ·rw[xaa hj,xaa hj];exact⟨_,rfl⟩
 ·rw[xad hj,xad hj];exact⟨_,rfl⟩
theorem Cw:cZ X (.type "str") (fun xs H Q=>∃i,xs=[.int i]/\i.natAbs.log2<1920/\Q (.str (toString i)) H):=by
 intro pins s σ H xs us Q I r h;obtain⟨i,rfl,hz,q⟩:=h;obtain⟨u,rfl,t,rfl⟩:=vals1 r;exact PySem.P.str_of_int hz ⟨.str _,H,I.tok _,⟨_,rfl⟩,q⟩
end
structure ObjM (h:Heap)(x dx C:Addr)(mA:Mgx):Prop where
 obj:h.get? x=some (PySem.W.instObj C dx)
 ns:h.Ns1 dx mA
 ne:dx≠x
theorem R7 {h:Heap}{dx:Addr}{mA:Mgx}(n:h.Ns1 dx mA):∃od,h.get? dx=some od/\∀name,PySem.W.lookIn name od=some (mA name):=by
 obtain⟨o,es,ep,ho,hd,hk,_,hm⟩:=n;refine⟨o,ho,fun name=>?_⟩;have e:=hm name;unfold nsFind findBy at e;rw[<-Array.find?_toList]at e;unfold PySem.W.lookIn;rw[hd];dsimp only
 split
 ·rename_i y q;rw[q]at e;exact congrArg some e
 ·rename_i q;rw[q]at e;have a:es.toList.any (·.refKey)=false:=by
   rw[List.any_eq_false];intro y hy;obtain⟨z,t,hkey⟩:=hk y (xa6.mp hy)
   simp[DictEntry.refKey,hkey]
  have a':¬ es.toList.any (·.refKey)=true:=by rw[a];exact xap
  rw[xad a'];exact congrArg some e
theorem ObjM.look {h:Heap}{x dx C:Addr}{mA:Mgx}(I:ObjM h x dx C mA):∃od,PySem.W.InstAt h x (PySem.W.instObj C dx) C (some od)/\∀name,PySem.W.lookIn name od=some (mA name):=
 let ⟨od,ho,hl⟩:=R7 I.ns
 ⟨od,⟨I.obj,rfl,rfl,ho⟩,hl⟩
theorem dW.some_of {v:V}{o:Option Value}(r:dW (some v) o):∃u,o=some u/\RelV v u:=by
 cases o with
 |none=>exact(show False from r).elim
 |some u=>exact⟨u,rfl,r⟩
section
variable {P:Program}{w:World}{H H':Hp}{h h':Heap}{a C dx:Addr}{fs fs':List (Str×V)}
theorem QV (hok:bN P w H h)(e:H a=some (.ins C dx fs)):∃mA,ObjM h a dx C mA/\(∀f,dW (fs.lookup f) (mA f))/\PySem.Within mA (fs.map (·.1))/\fs.length<=1000/\H dx=some (.own a):=by
 obtain⟨d,z,ne,ob,mA,n,r,q⟩:=(show cA P w H h a (.ins C dx fs) from hok a _ e);exact⟨mA,⟨ob,n,ne⟩,r,q,z,d⟩
end
structure Cls (K:Fgx)(C:Addr):Prop where
 pg:PySem.W.plainGet K C Str.empty=true
 hd:PySem.W.hasDictIn K C=true
 po:PySem.W.plainOver K C=true
 sa:PySem.W.findIn K (.ref C) "__setattr__"=some (some (.builtin "object.__setattr__"))
theorem Cls.get {K:Fgx}{C:Addr}(c:Cls K C)(f:Str):PySem.W.plainGet K C f=true:=c.pg
structure Con (K:Fgx)(C:Addr)(f:Str)(v:V)(u:Value):Prop where
 at_:PySem.W.findIn K (.ref C) f=some (some u)
 rel:RelV v u
 get:PySem.W.specialIn K u "__get__"=some none
 cp:PySem.W.copiedNames.contains f=false
structure Meth (K:Fgx)(C:Addr)(m:Str)(f:Addr):Prop where
 at_:PySem.W.findIn K (.ref C) m=some (some (.ref f))
 fn:PySem.W.isFn K (.ref f)=true
 kp:PySem.W.keepIn K (.ref f)=true
section
variable {X:Cx}{o e value:Expr}{f:Str}{pos pos' tpos:Pos}{ta tv:TE}
noncomputable def rm:V->V->Hp->VK->Prop:=fun x y H Q=>∃i j,x=.int i/\y=.int j/\Q (.int (i + j)) H
end
section
variable {X:Cx}{pins:Pnx}{σ:St}{H:Hp}{s:Shared}{A:Around}{E:Value->Shared->Prop}{Q:Value->Shared->Prop}{c:Value}{b:Bool}
inductive TyOf (K:Fgx)(H:Hp):V->Value->Prop where
 |non:TyOf K H .non (.type "NoneType")
 |bl (x:Bool):TyOf K H (.bl x) (.type "bool")
 |int (i:Int):TyOf K H (.int i) (.type "int")
 |str (x:Str):TyOf K H (.str x) (.type "str")
 |flt (x:UInt64):TyOf K H (.flt x) (.type "float")
 |lst {a:Addr} {xs:List V} (e:H a=some (.lst xs)):TyOf K H (.ref a) (.type "list")
 |frz {a:Addr} {o:Obj} {xs:List V} (e:H a=some (.frz o (.lst xs))):TyOf K H (.ref a) (.type "list")
 |tup {a:Addr} {xs:List V} (e:H a=some (.tup xs)):TyOf K H (.ref a) (.type "tuple")
 |dK {a:Addr} {kvs:List (Key×V)} (e:H a=some (.dK kvs)):TyOf K H (.ref a) (.type "dict")
 |dT {a:Addr} {kvs:List (List Key×V)} (e:H a=some (.dT kvs)):TyOf K H (.ref a) (.type "dict")
 |ins {a C dx:Addr} {fs:List (Str×V)} (e:H a=some (.ins C dx fs)) (cl:Cls K C) (ha:PySem.W.findIn K (.ref C) "__class__"=some (some (.builtin "object.__class__")))
   (hn:PySem.W.specialIn K (.builtin "object.__class__") "__get__"=some (some (.builtin "getset_descriptor.__get__"))) (htk:PySem.W.takesIn K (.builtin "object.__class__")=some true)
   (hm:PySem.W.mroIn K C (.type "object")=some true):TyOf K H (.ref a) (.ref C)
theorem zx {x:V}{u t:Value}(I:Inv X pins σ H s)(rx:RelV x u)(ty:TyOf X.K H x t)(e:PySem.W.kitOne X.K t c=some b)(h:∀tk,Q (.bool b) {s with toks:=tk}):
    wpAny (model X.prog X.w) A (call (.builtin "isinstance") [u,c]) Q E s:=by
  cases ty with
  |non=>cases (show u=Value.none from rx);exact xaQ PySem.W.kitx_none I.kIn True.intro e (fun z=>nomatch z) h
  |bl y=>cases (show u=Value.bool y from rx);exact xaQ PySem.W.kitx_bool I.kIn True.intro e (fun z=>nomatch z) h
  |int i=>obtain⟨t,q⟩:=(show ∃t,u=Value.int i t from rx);cases q;exact xaQ PySem.W.kitx_int I.kIn True.intro e (fun z=>nomatch z) h
  |str y=>obtain⟨t,q⟩:=(show ∃t,u=Value.str y t from rx);cases q;exact xaQ PySem.W.kitx_str I.kIn True.intro e (fun z=>nomatch z) h
  |flt y=>obtain⟨t,q⟩:=(show ∃t,u=Value.float y t from rx);cases q;exact xaQ PySem.W.kitx_float I.kIn True.intro e (fun z=>nomatch z) h
  | @lst a xs ea=>
    cases (show u=Value.ref a from rx);obtain⟨_,_,n,_,h1⟩:=(show cA X.prog X.w H s.heap a (.lst xs) from I.hok a _ ea);exact xaQ xdo I.kIn ⟨_,h1,rfl⟩ e (fun z=>nomatch z) h
  | @frz a ob xs ea=>
    cases (show u=Value.ref a from rx);obtain⟨_,_,_,n,_,h1⟩:=(show cA X.prog X.w H s.heap a (.frz ob (.lst xs)) from I.hok a _ ea);exact xaQ xdo I.kIn ⟨_,h1,rfl⟩ e (fun z=>nomatch z) h
  | @tup a xs ea=>
    cases (show u=Value.ref a from rx);obtain⟨_,_,_,p⟩:=(show cA X.prog X.w H s.heap a (.tup xs) from I.hok a _ ea);obtain⟨o,h1,h2,_⟩:=p;exact xaQ xej I.kIn ⟨o,h1,h2⟩ e (fun z=>nomatch z) h
  | @dK a kvs ea=>
    cases (show u=Value.ref a from rx);obtain⟨_,_,vs,_,p⟩:=(show cA X.prog X.w H s.heap a (.dK kvs) from I.hok a _ ea);obtain⟨o,es,ep,h1,h2,_⟩:=p;exact xaQ xdp I.kIn ⟨o,h1,h2.1⟩ e (fun z=>nomatch z) h
  | @dT a kvs ea=>
    cases (show u=Value.ref a from rx);obtain⟨_,_,xs,_,o,es,ep,h1,h2,_⟩:=(show cA X.prog X.w H s.heap a (.dT kvs) from I.hok a _ ea);exact xaQ xdp I.kIn ⟨o,h1,h2.1⟩ e (fun z=>nomatch z) h
  | @ins a C dx fs ea cl ha hn htk hm=>
    cases (show u=Value.ref a from rx);obtain⟨mA,O,_⟩:=QV I.hok ea;obtain⟨od,J,_⟩:=O.look;exact xaQ (PySem.W.kitx_own (cl.get _) cl.hd ha hn htk hm) I.kIn J e (fun z=>nomatch z) h
end
structure Room (k:Nat)(A:Around):Prop where
 hd:A.handled=none
 dp:A.depth + 3 * k + 5<recursionLimit
 un:A.units + 16 * k + 200<cLine
theorem Room.mono {j k:Nat}{A:Around}(r:Room k A)(h:j<=k):Room j A:=⟨r.hd,by have:=r.dp;omega,by have:=r.un;omega⟩
theorem Room.deeper {k:Nat}{A:Around}(r:Room (k + 1) A)(env:Env):Room k (A.deeper env):=
 ⟨r.hd,by have:=r.dp;show A.depth + 1 + 3 * k + 5<_;omega,by have:=r.un;show A.units + 3 + 16 * k + 200<_;omega⟩
theorem za3 {A:Around}{C:Addr}{us:List Value}{kw:List (Str×Value)}:(A.under (.builtin "type.__call__" ⟨.ref C::us,kw⟩)).depth=A.depth + 1:=by
 first |rfl |simp[Around.under,Code.weight,Code.isCreation,Code.isGuard,Code.isCaller,Code.frames,Code.isFrame,guardIds]
theorem zaZ {A:Around}{C:Addr}{us:List Value}{kw:List (Str×Value)}:(A.under (.builtin "type.__call__" ⟨.ref C::us,kw⟩)).units=A.units + 1:=by
 first |rfl |simp[Around.under,Code.cUnits,Code.frames,Code.isFrame]
theorem Room.depth {k:Nat}{A:Around}(r:Room k A):A.depth<recursionLimit:=by have:=r.dp;omega
theorem Room.units {k:Nat}{A:Around}(r:Room k A):A.units + 64<cLine:=by have:=r.un;omega
def yx:TA:=fun _ H Q=>Q [] H
noncomputable def M9 (ta:TE) (tr:TA):TA:=fun σ H Q=>ta σ H fun x H1=>tr σ H1 fun xs H2=>Q (x::xs) H2
section
variable {X:Cx}{e:Expr}{es:List Expr}{te:TE}{t:TA}{pos:Pos}
theorem nR:PA X [] yx:=fun _ _ _ _ H Q I h=>Calls.spliced_nil ⟨[],H,I,.nil,h⟩
theorem lN (ha:PE X e te)(hr:PA X es t)(hs:starEach (e::es) X.env=(false,eval e X.env)::starEach es X.env:=by rfl):PA X (e::es) (M9 te t):=by
 intro pos pins s σ H Q I h;rw[hs];show wpAny _ _ (spliced ((false,eval e X.env)::backTo pos (starEach es X.env))) _ _ s;refine Calls.spliced_cons (aU (ha pins s σ H _ I h) fun u s1 ⟨x,H1,I1,r1,q1⟩=>?_);exact aU (hr pos pins s1 σ H1 _ I1 q1) fun us s2 ⟨xs,H2,I2,r2,q2⟩=>⟨x::xs,H2,I2,.cons r1 r2,q2⟩
noncomputable def G5 (t:TA):TE:=fun σ H Q=>t σ H fun xs H1=>xs.length<=sizeLine/\∀p,H1 p=none->Q (.ref p) (upd H1 p (.tup xs))
noncomputable def GR (t:TA):TE:=fun σ H Q=>t σ H fun xs H1=>xs.length<=sizeLine/\∀p,H1 p=none->Q (.ref p) (upd H1 p (.lst xs))
theorem K3 {x1}(h:PA X es t):PE X (.Tuple es x1 pos) (G5 t):=by
 intro pins s σ H Q I hq;refine wpAny_Tuple_spliced (aU (h pos pins s σ H _ I hq) fun us s1 ⟨xs,H1,I1,r,z,q⟩=>⟨by rw[<-r.length];exact z,?_⟩);have hf:H1 s1.heap.objs.size=none:=I1.hok.fresh (xab _);refine⟨.ref s1.heap.objs.size,upd H1 s1.heap.objs.size (.tup xs),I1.laid (t':=s1.toks) (fun b u e=>xai _ e) (xab _) ?_,rfl,q _ hf⟩;exact⟨z,us,r,⟨_,xaH _ rfl,rfl,_,rfl⟩⟩
theorem Vx (h:PA X es t):PE X (.List es pos) (GR t):=by
 intro pins s σ H Q I hq;refine wpAny_List_spliced (aU (h pos pins s σ H _ I hq) fun us s1 ⟨xs,H1,I1,r,z,q⟩=>⟨by rw[<-r.length];exact z,?_⟩);have hf:H1 s1.heap.objs.size=none:=I1.hok.fresh (xab _);refine⟨.ref s1.heap.objs.size,upd H1 s1.heap.objs.size (.lst xs),I1.laid (t':=s1.toks) (fun b u e=>xai _ e) (xab _) ?_,rfl,q _ hf⟩;exact⟨z,us,0,r,xaH _ rfl⟩
end
abbrev Sp:=List V->Hp->VK->XK->Prop
abbrev eH:=List Env->Hp->Shared->XK->Value->Shared->Prop
structure Env0 (P:Program)(w:World)(K:Fgx)(mg:Mgx)(base:Heap)(A:Around)(outer:List Env)(s:Shared)(H:Hp):Prop where
 frames:A.frames=some outer
 mod:Mod K mg base
 bs:∀b o,base.get? b=some o->s.heap.get? b=some o/\H b=none
 bsz:base.objs.size<=s.heap.objs.size
 funs:s.heap.FunFrames base outer
 frf:∀b∈frs outer,H b=none
 hok:bN P w H s.heap
 bare:AllBare s.gens
def CE (outer:List Env)(P:Program)(w:World)(H:Hp)(s:Shared)(Q:VK)(u:Value)(s':Shared):Prop:=
 ∃v H',s'.os=s.os/\AllBare s'.gens/\Un (frs outer) [] H H' s.heap s'.heap/\bN P w H' s'.heap/\RelV v u/\Q v H'
def CR (CX:eH)(outer:List Env)(P:Program)(w:World)(H:Hp)(s:Shared)(Q:VK)(E:XK)(r:Result)(s':Shared):Prop:=
 match r with
 |.ok (.ret u)=>CE outer P w H s Q u s'
 |.ok _=>False
 |.error e=>CX outer H s E e s'
structure FnOk (P:Program)(w:World)(K:Fgx)(mg:Mgx)(base:Heap)(CX:eH)(k:Nat)(f:Addr)(fd:FuncData)(ps:List Str)(sp:Sp):Prop where
 len:∀vs H Q E,sp vs H Q E->vs.length=ps.length
 run:∀(A:Around) (outer:List Env) (s:Shared) (H:Hp) (args:Args) (us:List Value) (vs:List V) (Q:VK) (E:XK),Room k A->Env0 P w K mg base A outer s H->BindsTo s fd args (ps.zip us)->Vals vs us->sp vs H Q E->
  codeAny (model P w) A (.call (.ref f) args) (CR CX outer P w H s Q E) s
theorem FnOk.mono {P:Program}{w:World}{K:Fgx}{mg:Mgx}{base:Heap}{CX:eH}{j k:Nat}{f:Addr}{fd:FuncData}{ps:List Str}{sp:Sp}(F:FnOk P w K mg base CX j f fd ps sp)(h:j<=k):
  FnOk P w K mg base CX k f fd ps sp:=⟨F.len,fun A outer s H args us vs Q E hr=>F.run A outer s H args us vs Q E (hr.mono h)⟩
section
variable {X:Cx}{pins:Pnx}{σ:St}{H:Hp}{s s':Shared}
theorem Inv.env0 (I:Inv X pins σ H s):Env0 X.prog X.w X.K X.mg X.base X.A X.stack s H:=
 ⟨I.ok.frames,I.ok.mod,I.bs,xao I.ok.bsz I.sz,I.stack,I.stkFree,I.hok,I.bare⟩
theorem Inv.after {Q:VK}{u:Value}(I:Inv X pins σ H s)(h:CE X.stack X.prog X.w H s Q u s'):EP X pins σ Q u s':=by
 obtain⟨v,H',os,bare,un,hok,r,q⟩:=h;obtain⟨hh,g,d,t,os'⟩:=s';obtain rfl:os'=s.os:=os;exact⟨v,H',I.call (h':=hh) (g':=g) (d':=d) (t':=t) (ch:=[]) un hok bare (fun b z=>absurd z (by simp)),r,q⟩
end
noncomputable def zbA (sp:Sp) (dvs:List V) (E:XK) (t:TA):TE:=fun σ H Q=>t σ H fun vs H1=>sp (vs ++ dvs) H1 Q E
def Binds (K:Fgx)(fd:FuncData)(ps:List Str)(ds:List Value):Prop:=
 ∀(s:Shared) (us:List Value),K.In s.heap->(us ++ ds).length=ps.length->BindsTo s fd ⟨us,[]⟩ (ps.zip (us ++ ds))
theorem Binds.all {K:Fgx}{fd:FuncData}{ps:List Str}(h:∀us:List Value,us.length=ps.length->bindArgs fd ⟨us,[]⟩=pure (ps.zip us)):Binds K fd ps []:=fun s us _ hl=>by
 rw[xaL]at hl ⊢;exact .of_eq (h us hl)
def Passes (CX:eH)(X:Cx)(E:XK):Prop:=∀(pins:Pnx) (σ:St) (H:Hp) (s:Shared) (e:Value) (s':Shared),Inv X pins σ H s->CX X.stack H s E e s'->X.xe e s'
section
variable {X:Cx}{CX:eH}{k:Nat}{f C:Addr}{fd:FuncData}{ps:List Str}{sp:Sp}{dvs:List V}{ds:List Value}{E:XK}{x m:Str}{p pos apos:Pos}{e o:Expr}{es:List Expr}{ta:TE}{t:TA}
theorem Y7 {pins:Pnx}{σ:St}{H:Hp}{s:Shared}{Q:VK}{us:List Value}{vs:List V}(F:FnOk X.prog X.w X.K X.mg X.base CX k f fd ps sp)(hr:Room k X.A)(hb:Binds X.K fd ps ds)(hd:Vals dvs ds)(hx:Passes CX X E)
    (I:Inv X pins σ H s) (r:Vals vs us) (h:sp (vs ++ dvs) H Q E):wpAny (model X.prog X.w) X.A (call (.ref f) us) (EP X pins σ Q) X.xe s:=by
  have r2:Vals (vs ++ dvs) (us ++ ds):=r.append hd;have hl:(us ++ ds).length=ps.length:=by rw[<-r2.length];exact F.len _ _ _ _ h
  refine wpAny_call (xdy (F.run X.A X.stack s H ⟨us,[]⟩ (us ++ ds) (vs ++ dvs) Q E hr I.env0 (hb s us I.kIn hl) r2 h) fun r s' hq=>?_)
  cases r with
  |error e=>exact hx pins σ H s e s' I hq
  |ok fl=>
    cases fl with
    |ret u=>exact I.after hq
    |next=>exact False.elim hq
    |brk=>exact False.elim hq
    |cont=>exact False.elim hq
theorem Vn (F:FnOk X.prog X.w X.K X.mg X.base CX k f fd ps sp)(hr:Room k X.A)(hg:Gl X x)(hm:X.mg x=some (.ref f))(hk:PySem.W.keepIn X.K (.ref f)=true)(hb:Binds X.K fd ps ds)(hd:Vals dvs ds)(hx:Passes CX X E)
  (ha:PA X (e::es) t) (hdb:(x==("__debug__":Str))=false:=by decide) (he:starEach (e::es) X.env=(false,eval e X.env)::starEach es X.env:=by rfl) (hpl:(backTo pos (starEach es X.env)).any (·.1)=false:=by rfl):
  PE X (.Call (.Name x p) (e::es) [] pos) (zbA sp dvs E t):=by
 intro pins s σ H Q I h;refine xdc (RW I hg hm ?_ hdb);refine PySem.W.callWith_K (h₀:=X.base) I.ok.mod.kin hk (aU (ha pos pins s σ H _ I h) fun us s1 ⟨vs,H1,I1,r,q⟩=>⟨I1.kIn,?_⟩) he hpl;exact Y7 F hr hb hd hx I1 r q
structure Mk (K:Fgx)(C f:Addr):Prop where
 makes:PySem.W.makesIn K C=true
 init:PySem.W.findIn K (.ref C) "__init__"=some (some (.ref f))
 fn:PySem.W.isFn K (.ref f)=true
 kp:PySem.W.keepIn K (.ref C)=true
end
section
variable {X:Cx}{CX:eH}{k:Nat}{f C:Addr}{fd:FuncData}{ps ks:List Str}{sp:Sp}{E:XK}{x m:Str}{p pos apos kpos:Pos}{e o:Expr}{es:List Expr}{kws:List Keyword}{te ta:TE}{t tk:TA}{nm:Option Str}
structure KBinds (K:Fgx)(fd:FuncData)(ps ks:List Str)(g:List Value->List Value->List Value)(gV:List V->List V->List V):Prop where
 to:∀(s:Shared) (us ws:List Value),K.In s.heap->(g us ws).length=ps.length->BindsTo s fd ⟨us,ks.zip ws⟩ (ps.zip (g us ws))
 rel:∀{vs:List V} {us:List Value} {zs:List V} {ws:List Value},Vals vs us->Vals zs ws->Vals (gV vs zs) (g us ws)
variable {g:List Value->List Value->List Value}{gV:List V->List V->List V}
end
structure FnScope (N P:List Str)(sc:Scope):Prop where
 kind:sc.kind=.function
 co:sc.isCoroutine=false
 gen:sc.isGenerator=false
 nd:N.Nodup
 pre:N.take P.length=P
 par:∀x∈P,sc.names.lookup x=some .local\/sc.names.lookup x=some .cell
 nofree:∀y∈sc.names,y.2≠ .free
theorem Ig {kindOf:Str->Option NameKind}{x:Str}:∀{binds:List (Str×Value)} {m:Mgx},(∀v,(x,v)∉binds)->bindL kindOf binds m x=m x
  | [],_,_=>rfl
  |(n,v)::r,m,h=>by
    unfold bindL;rw[Ig fun w hw=>h w (xak _ hw)]
    split
    · have:x≠n:=by rintro rfl;exact h v xau
      simp[this]
    · rfl
theorem Ib {kindOf:Str->Option NameKind}{x:Str}:∀{binds:List (Str×Value)} {m:Mgx},(∀v,(x,v)∉binds)->bindC kindOf binds m x=m x
  | [],_,_=>rfl
  |(n,v)::r,m,h=>by
    unfold bindC;rw[Ib fun w hw=>h w (xak _ hw)]
    split
    · rfl
    · have:x≠n:=by rintro rfl;exact h v xau
      simp[this]
theorem Ie {kindOf:Str->Option NameKind}{x:Str}{v:Value}:∀{P:List Str} {vs:List Value} {i:Nat} {m:Mgx},P.Nodup->P[i]? =some x->vs[i]? =some v->kindOf x=some .local->
    bindL kindOf (P.zip vs) m x=some v
  | [],_,_,_,_,h,_,_=>by simp at h
  |_::_,[],_,_,_,_,h,_=>by simp at h
  |p::P,w::vs,0,m,nd,h1,h2,hk=>by
    simp at h1 h2;subst h1;subst h2
    show bindL kindOf ((p,w)::P.zip vs) m p=_;unfold bindL;rw[Ig fun v hv=>(xbI.mp nd).1 (xcX hv).1,xaa hk]
    simp
  |p::P,w::vs,i + 1,m,nd,h1,h2,hk=>by
    show bindL kindOf ((p,w)::P.zip vs) m x=_;unfold bindL;exact Ie (i:=i) (xbI.mp nd).2 (by simpa using h1) (by simpa using h2) hk
theorem Ia {kindOf:Str->Option NameKind}{x:Str}{v:Value}:∀{P:List Str} {vs:List Value} {i:Nat} {m:Mgx},P.Nodup->P[i]? =some x->vs[i]? =some v->kindOf x≠some .local->
    bindC kindOf (P.zip vs) m x=some v
  | [],_,_,_,_,h,_,_=>by simp at h
  |_::_,[],_,_,_,_,h,_=>by simp at h
  |p::P,w::vs,0,m,nd,h1,h2,hk=>by
    simp at h1 h2;subst h1;subst h2
    show bindC kindOf ((p,w)::P.zip vs) m p=_;unfold bindC;rw[Ib fun v hv=>(xbI.mp nd).1 (xcX hv).1,xad hk]
    simp
  |p::P,w::vs,i + 1,m,nd,h1,h2,hk=>by
    show bindC kindOf ((p,w)::P.zip vs) m x=_;unfold bindC;exact Ia (i:=i) (xbI.mp nd).2 (by simpa using h1) (by simpa using h2) hk
noncomputable def start (N:List Str) (vs:List V):St:=vs.map some ++ List.replicate (N.length - vs.length) none
noncomputable def gC (CX:eH) (P:Program) (w:World) (K:Fgx) (mg:Mgx) (base:Heap) (N:List Str) (qual:Str) (scope:Scope) (f:Addr) (cd:Value) (A:Around) (outer:List Env) (s:Shared) (H:Hp) (E:XK):Cx where
 prog:=P
 w:=w
 K:=K
 mg:=mg
 base:=base
 A:=A.deeper (envOfC qual scope s.heap.objs.size f cd)
 N:=N
 s₀:=s
 H₀:=H
 env:=envOfC qual scope s.heap.objs.size f cd
 outer:=outer
 stack:=envOfC qual scope s.heap.objs.size f cd::outer
 ex:=[]
 calm:=true
 fn:=fun _=>true
 pn:=[]
 xe:=fun e s'=>wpAny (model P w) (A.deeper (envOfC qual scope s.heap.objs.size f cd)) (leaving (envOfC qual scope s.heap.objs.size f cd) e) (fun _ s''=>CX outer H s E e s'') (fun e' s''=>CX outer H s E e' s'') s'
theorem Ip {sc:Scope}{n:Nat}{x:Str}(h:sc.names.lookup x=some .cell):∃c,(cellsFrom n sc.names []).lookup x=some c:=by
 have q:=xdS sc.names n [] (.inl h);exact Option.isSome_iff_exists.mp q
theorem QZ {CX:eH}{P:Program}{w:World}{K:Fgx}{mg:Mgx}{base:Heap}{N ps:List Str}{qual:Str}{scope:Scope}{f:Addr}{cd:Value}{A:Around}{outer:List Env}{s s1:Shared}{H:Hp}{E:XK}{us:List Value}{vs:List V}
  (S:FnScope N ps scope) (hd:A.handled=none) (e0:Env0 P w K mg base A outer s H) (hl:vs.length=ps.length) (r:Vals vs us)
  (x:InCallC s s.heap.objs.size (bindL (envOfC qual scope s.heap.objs.size f cd).kindOf (ps.zip us) fun _=>none) (cellsFrom (s.heap.objs.size + 1) scope.names []) (bindC (envOfC qual scope s.heap.objs.size f cd).kindOf (ps.zip us) fun _=>none) s1):
  Inv (gC CX P w K mg base N qual scope f cd A outer s H E) [] (start N vs) H s1:=by
 have hpl:ps.length<=N.length:=by have:=congrArg List.length S.pre;rw[xbv]at this;omega
 obtain ⟨h1, tk, rfl, hk⟩ := x.done;have noA : ∀ b : Addr, b ∉ (gC CX P w K mg base N qual scope f cd A outer s H E).ex := fun b z => absurd (show b ∈ ([] : List Addr) from z) (by simp);refine ⟨⟨e0.mod,S.kind,rfl,rfl,xab _,fun y z c h1 h2=>?_,fun y hy=>?_,fun y c _ h=>?_,fun _=>hd,Around.frames_deeper e0.frames,.inr ⟨rfl,rfl⟩,fun b z=>absurd z (noA b),e0.bs,e0.bsz,fun b _ _=>noA b,fun b z=>absurd z (noA b),e0.funs,e0.frf⟩,
  rfl,e0.bare,Un.kept hk,⟨_,x.toInCall.ns,fun i y v h1 h2 h3=>?_⟩,fun y c h=>⟨_,x.cell y c h⟩,e0.hok.fresh (xab _),fun y c h=>?_,fun p hp=>absurd (show p∈([]:Pnx) from hp) (by simp),e0.hok.kept hk,?_⟩
 ·exact name_of_addr x.apart (xbr h1) (xbr h2)
 ·have hy:scope.names.lookup y=some .cell\/scope.names.lookup y=some .free:=hy;rcases hy with hy |hy
  ·exact Ip hy
  ·exact absurd rfl (S.nofree _ (xbr hy))
 ·exact xbg (x.above y c (xbr h))
 ·have hi:i<vs.length:=by
   unfold start at h2
   by_cases hi:i<vs.length
   ·exact hi
   ·rw[xaw (by simpa using hi)]at h2;rw[xa3]at h2;split at h2<;>cases h2
  have ha:vs[i]? =some v:=by
   unfold start at h2;rw[xaA (by simpa using hi),xar]at h2
   cases e:vs[i]? with
   |none=>rw[e]at h2;cases h2
   |some a=>rw[e]at h2;cases h2;rfl
  obtain⟨u,hu,rv⟩:=r.get ha;have hp:ps[i]? =some y:=by
   rw[<-S.pre,xcs (by omega)];exact h1
  have ndP:ps.Nodup:=by rw[<-S.pre];exact S.nd.sublist (xep _ _)
  refine⟨u,rv,?_⟩;rcases S.par y (xaJ hp) with k |k
  ·exact .inl ⟨k,Ie ndP hp hu k⟩
  ·obtain⟨c,e⟩:=Ip (n:=s.heap.objs.size + 1) k;refine .inr ⟨.inl k,c,e,?_⟩;have q:=x.cell y c e;rw[Ia ndP hp hu (by show scope.names.lookup y≠_;rw[k];decide)]at q;exact q
 ·exact .inl (e0.hok.fresh (xbg (x.above y c (xbr h))))
 ·unfold start;show _=N.length;rw[xaq,xae,xbE];omega
theorem Qq {CX:eH}{P:Program}{w:World}{K:Fgx}{mg:Mgx}{base:Heap}{k:Nat}{f:Addr}{name qual:Str}{params:Arguments}{body:List Stmt}{scope:Scope}{dV kV doc pm cdv ct oc:Value}{an od:Option Addr}
    {osl:Array (Option Value)} {N ps:List Str} {sp:Sp} (lk:K.lookup f=some ⟨oc,od,.func (PySem.W.fnOf name qual params body scope dV kV doc pm an cdv ct),osl⟩) (hcd:PySem.W.codeIn K cdv qual=true) (S:FnScope N ps scope)
    (len:∀vs H Q E,sp vs H Q E->vs.length=ps.length)
    (hbody:∀(A:Around) (outer:List Env) (s:Shared) (H:Hp) (vs:List V) (Q:VK) (E:XK),Room k (A.deeper (envOfC qual scope s.heap.objs.size f cdv))->sp vs H Q E->
      ∃t,fL (gC CX P w K mg base N qual scope f cdv A outer s H E) body t/\t {nx:=fun _ H'=>Q .non H',rt:=Q} (start N vs) H):
    FnOk P w K mg base CX (k + 1) f (PySem.W.fnOf name qual params body scope dV kV doc pm an cdv ct) ps sp:=by
  refine⟨len,fun A outer s H args us vs Q E hr e0 hb r hsp=>?_⟩;have hl:=len _ _ _ _ hsp;have KX:K.In s.heap:=e0.mod.kin.keeps fun b o e=>(e0.bs b o e).1;have lim:s.heap.NoLimit:=e0.mod.nolimit.keeps fun b o e=>(e0.bs b o e).1;have hkind:∀y∈ps.zip us,scope.names.lookup y.1=some .local\/(scope.names.lookup y.1=some .cell/\((cellsFrom (s.heap.objs.size + 1) scope.names []).lookup y.1).isSome=true):=fun⟨n,v⟩ hy=>by
    rcases S.par n (xcX hy).1 with q |q
    · exact .inl q
    · exact .inr ⟨q,xdS _ _ _ (.inl q)⟩
  refine codeAny_call_function hr.depth (KX _ _ lk) rfl S.co S.gen rfl (PySem.W.codeRec_of KX hcd) (hb _ _ _ _ ?_);refine wpAny_newFunctionEnv_cells S.kind hkind fun env he s1 x=>?_;subst he;refine⟨lim.keeps x.toInCall.keep,codeAny_func ?_⟩;obtain⟨t,ht,hq⟩:=hbody A outer s H vs Q E (hr.deeper _) hsp;have I:Inv (gC CX P w K mg base N qual scope f cdv A outer s H E) [] (start N vs) H s1:=QZ S hr.hd e0 hl r x;refine xaR (ht [] s1 (start N vs) H _ I hq) (fun fl s' hs=>?_) fun e s' hs=>hs;have fin:∀{σ':St} {H':Hp} {v:V} {u:Value},Inv (gC CX P w K mg base N qual scope f cdv A outer s H E) [] σ' H' s'->RelV v u->Q v H'->CE outer P w H s Q u s':=
    fun {σ' H' v u} J rv q=>⟨v,H',J.os,J.bare,J.base,J.hok,rv,q⟩
  cases fl with
  |ret u=>
    obtain⟨v,σ',H',J,rv,q⟩:=hs;exact fin J rv q
  |next=>
    obtain⟨σ',H',J,q⟩:=hs;exact fin (v:=V.non) (u:=Value.none) J rfl q
  |brk=>
    obtain⟨_,_,_,q⟩:=hs;exact False.elim q
  |cont=>
    obtain⟨_,_,_,q⟩:=hs;exact False.elim q
section
variable {X:Cx}{x:Str}{p pos:Pos}{e:Expr}{es:List Expr}{t:TA}{id T:String}{r:List V->Hp->VK->Prop}
noncomputable def GJ (r:List V->Hp->VK->Prop) (t:TA):TE:=fun σ H Q=>t σ H fun vs H1=>r vs H1 Q
theorem Ey (hc:cZ X (.builtin id) r)(hg:Gl X x)(hm:X.mg x=none)(hv:bootBuiltins x=some (.builtin id))(ha:PA X (e::es) t)(hn:x≠"__name__":=by decide)(hdb:(x==("__debug__":Str))=false:=by decide)
  (he:starEach (e::es) X.env=(false,eval e X.env)::starEach es X.env:=by rfl) (hpl:(backTo pos (starEach es X.env)).any (·.1)=false:=by rfl):PE X (.Call (.Name x p) (e::es) [] pos) (GJ r t):=by
 intro pins s σ H Q I h;refine xdc (sU I hg hm hv ?_ hn hdb);exact PyProof.Rows.callWith_builtin1 (aU (ha pos pins s σ H _ I h) fun us s1 ⟨vs,H1,I1,r1,q1⟩=>hc pins s1 σ H1 vs us Q I1 r1 q1) he hpl
theorem KY (hc:cZ X (.type T) r)(hg:Gl X x)(hm:X.mg x=none)(hv:bootBuiltins x=some (.type T))(ha:PA X (e::es) t)(hn:x≠"__name__":=by decide)(hdb:(x==("__debug__":Str))=false:=by decide)
  (he:starEach (e::es) X.env=(false,eval e X.env)::starEach es X.env:=by rfl) (hpl:(backTo pos (starEach es X.env)).any (·.1)=false:=by rfl):PE X (.Call (.Name x p) (e::es) [] pos) (GJ r t):=by
 intro pins s σ H Q I h;refine xdc (sU I hg hm hv ?_ hn hdb);exact xbU (aU (ha pos pins s σ H _ I h) fun us s1 ⟨vs,H1,I1,r1,q1⟩=>hc pins s1 σ H1 vs us Q I1 r1 q1) he hpl
end
end L2
namespace HT
open PySem PyProof.Rows
section
open PySem.SeqAt
open PySem.AutoSeq1 (wpAny_loadPart')
open PySem.MeetsSeq PySem.MeetsSeq2 PySem.MeetsSeq3
end
section
variable {prog:Program}{w:World}{A:Around}{E:Value->Shared->Prop}{s:Shared}
noncomputable def aW (n d:Nat):Option Int->Nat
 |none=>d
 |some v=>if v<0 then(v + (n:Int)).toNat else min v.toNat n
theorem Zf (n d:Nat):aW n d none=d:=rfl
theorem Ze (n d k:Nat):aW n d (some (k:Int))=min k n:=by
 show(if (k:Int)<0 then((k:Int) + (n:Int)).toNat else min (k:Int).toNat n)=min k n
 rw[xad (by omega),xcj]
theorem Zd (n d:Nat)(hd:d<=n)(o:Option Int):aW n d o<=n:=by
  cases o with
  |none=>exact hd
  |some v=>
    show(if v<0 then(v + (n:Int)).toNat else min v.toNat n)<=n
    by_cases hv:v<0
    · rw[xaa hv];omega
    · rw[xad hv];exact Nat.min_le_right _ _
theorem Ir (v:Int)(n d:Nat):(if v<0 then max (v + (n:Int)) 0 else min v (n:Int))=((aW n d (some v):Nat):Int):=by
 show(if v<0 then max (v + (n:Int)) 0 else min v (n:Int))=(((if v<0 then(v + (n:Int)).toNat else min v.toNat n):Nat):Int)
 by_cases hv:v<0
 ·simp only[xaa hv];omega
 ·simp only[xad hv];omega
theorem Om (lo hi:Option Int)(n:Nat):Builtin.Slice.sliceAdjust lo hi 1 (n:Int)=(((aW n 0 lo:Nat):Int),((aW n n hi:Nat):Int)):=by
 have h1:¬ ((1:Int)<0):=by omega
 unfold Builtin.Slice.sliceAdjust;simp only[h1,xa4];refine xew ?_ ?_
 ·cases lo with
  |none=>rfl
  |some v=>exact Ir v n 0
 ·cases hi with
  |none=>rfl
  |some v=>exact Ir v n n
theorem V0 (i j:Nat):Builtin.Slice.slicePlaces (i:Int) (j:Int) 1=j - i:=by
 unfold Builtin.Slice.slicePlaces;have h1:(1:Int) > 0:=by omega
 simp only[h1,xbF,Int.ediv_one]
 split<;>omega
theorem MF {v:Value}{o:Option Int}{Q:Option Int->Shared->Prop}(p:IsPart v o)(h:Q o s):wpAny (model prog w) A (Builtin.Slice.slicePartIndex v) Q E s:=by
 cases p with
 |none=>exact slicePart_none h
 |int i t=>exact slicePart_int h
theorem ZK {sl:Addr}{vl vu:Value}{lo hi:Option Int}{n:Nat}{Q:Int×Int×Nat->Shared->Prop}(hs:s.heap.IsSliceOf sl vl vu .none)(pl:IsPart vl lo)(pu:IsPart vu hi)
  (h:Q (((aW n 0 lo:Nat):Int),1,aW n n hi - aW n 0 lo) s):wpAny (model prog w) A (Builtin.Slice.sliceApplied (.ref sl) (pure (n:Int))) Q E s:=by
 obtain⟨os,hos,hcs,hds⟩:=id hs;unfold Builtin.Slice.sliceApplied Builtin.Slice.sliceFields;refine tG (tG (xcJ hos hds (x:=vl) rfl (tG (xcJ hos hds (x:=vu) rfl (tG (xcJ hos hds (x:=.none) rfl (xac ?_)))))));refine tG (slicePart_none ?_);show wpAny _ _ (if ((1:Int)==0)=true then _ else _) _ _ s
 rw[xad (by decide)];refine tG (MF pl (tG (MF pu (tG (xac ?_)))));show wpAny _ _ (match Builtin.Slice.sliceAdjust lo hi 1 (n:Int) with |(lo,hi)=>pure (lo,(1:Int),Builtin.Slice.slicePlaces lo hi 1)) _ _ s
 rw[Om lo hi n];show wpAny _ _ (pure (((aW n 0 lo:Nat):Int),(1:Int),Builtin.Slice.slicePlaces ((aW n 0 lo:Nat):Int) ((aW n n hi:Nat):Int) 1)) _ _ s;rw[V0];exact xac h
theorem VL (xs:Array Value)(i k:Nat):((List.range k).filterMap fun(m:Nat)=>xs[((i:Int) + (m:Int) * 1).toNat]?).toArray=((xs.toList.drop i).take k).toArray:=by
 have e:(fun(m:Nat)=>xs[((i:Int) + (m:Int) * 1).toNat]?)=fun m=>xs[i + m]? :=by
  funext m;have:((i:Int) + (m:Int) * 1).toNat=i + m:=by omega
  rw[this]
 rw[e];have:=pick_run xs i k;rw[xdd]at this;have e2:((fun x=>xs[x]?) ∘ fun x=>i + x)=fun m=>xs[i + m]? :=rfl;rw[e2]at this;rw[this]
theorem QG {t sl:Addr}{items:Array Value}{vl vu:Value}{lo hi:Option Int}{Q:Value->Shared->Prop}(ht:IsTup s.heap t items)(hs:s.heap.IsSliceOf sl vl vu .none)(pl:IsPart vl lo)(pu:IsPart vu hi)
  (hw:¬ (aW items.size 0 lo=0/\aW items.size items.size hi=items.size))
  (h:Q (.ref s.heap.objs.size) {s with heap:=s.heap.push {cls:=.type "tuple",data:=.seq ((items.toList.drop (aW items.size 0 lo)).take (aW items.size items.size hi - aW items.size 0 lo)).toArray}})
  (hsz:items.size<=sizeLine):wpAny (model prog w) A (getItem (.ref t) (.ref sl)) Q E s:=by
 have htake:sizeOk (.seq ((items.toList.drop (aW items.size 0 lo)).take (aW items.size items.size hi - aW items.size 0 lo)).toArray):=by
  show((items.toList.drop (aW items.size 0 lo)).take (aW items.size items.size hi - aW items.size 0 lo)).toArray.size<=sizeLine;rw[xah,xbv,xb4,xaj];omega
 have hj:aW items.size items.size hi<=items.size:=Zd _ _ (xab _) hi;obtain⟨os,hos,hcs,hds⟩:=id hs;have hTs:s.TypeIs (.ref sl) "slice":=⟨os,hos,hcs⟩;unfold getItem
 try with_reducible refine xb0 ?_
 first |refine tG (xac ?_) |skip
 refine tG (wpAny_sequenceKey ht.typeIs (by decide) ?_);refine tG (xcD (name:=Str.ofString "__getitem__") ht.typeIs xca
  (xbR xca ht.typeIs entry_tuple_getitem ?_ (args_tuple_getitem _ _)))
 show wpAny _ _ (Builtin.Tuple.tupleItemsOf (.ref t) >>=_) _ _ s;refine tG (tupleItemsOf_ ht ?_);refine tG (wpAny_typeOf hTs ?_);rw[xaa (by decide)];refine tG (ZK hs pl pu ?_);have hno:¬ ((((aW items.size 0 lo:Nat):Int)==0 && (1:Int)==1 && (aW items.size items.size hi - aW items.size 0 lo)==items.size)=true):=by
  intro q;rw[xav,xav]at q;have q1:((aW items.size 0 lo:Nat):Int)=0:=eq_of_beq q.1.1;have q2:aW items.size items.size hi - aW items.size 0 lo=items.size:=eq_of_beq q.2;exact hw ⟨by omega,by omega⟩
 show wpAny _ _ (if (((aW items.size 0 lo:Nat):Int)==0 && (1:Int)==1 && (aW items.size items.size hi - aW items.size 0 lo)==items.size)=true then _ else _) _ _ s
 rw[xad hno,VL]
 first
  |exact tG (m:=Builtin.Tuple.tupleExact _) (xbo (xac ⟨_,rfl,xac h⟩) htake)
  |exact tG (m:=Builtin.Tuple.tupleExact _) (xbo (tG (xac (xac ⟨_,rfl,xac h⟩))) htake)
  |exact tG (tG (m:=Builtin.Tuple.tupleExact _) (xbo (xac (xac ⟨_,rfl,xac h⟩)) htake))
  |exact tG (tG (m:=Builtin.Tuple.tupleExact _) (xbo (xac ⟨_,rfl,xac h⟩) htake))
end
end HT
namespace L2
open PySem PySem.Spec PyProof.Rows
abbrev TO:=St->Hp->(Option Int->Hp->Prop)->Prop
def PO (X:Cx)(e:Option Expr)(t:TO):Prop:=
 ∀(pins:Pnx) (s:Shared) (σ:St) (H:Hp) (Q:Option Int->Hp->Prop),Inv X pins σ H s->t σ H Q->
  wpAny (model X.prog X.w) X.A (evalPart e X.env) (fun u s'=>∃o H',Inv X pins σ H' s'/\IsPart u o/\Q o H') X.xe s
def zaV:TO:=fun _ H Q=>Q none H
noncomputable def zbF (t:TE):TO:=fun σ H Q=>t σ H fun x H1=>∃i,x=.int i/\Q (some i) H1
section
variable {X:Cx}{e:Expr}{te:TE}{lo hi:Option Expr}{tl th:TO}{pos p2:Pos}
theorem V1:PO X none zaV:=by
 intro pins s σ H Q I h;rw[evalPart_none];exact xac ⟨none,H,I,.none,h⟩
theorem V2 (h:PE X e te):PO X (some e) (zbF te):=by
 intro pins s σ H Q I hw;rw[evalPart_some];refine aU (h pins s σ H _ I hw) fun u s1 ⟨x,H1,I1,r1,q1⟩=>?_;obtain⟨i,rfl,q⟩:=q1;obtain⟨t,rfl⟩:=r1;exact⟨some i,H1,I1,.int i t,q⟩
def ni (X:Cx)(r:V->Option Int->Option Int->Hp->VK->Prop):Prop:=
 ∀(pins:Pnx) (s:Shared) (σ:St) (H:Hp) (x:V) (v vl vu:Value) (lo hi:Option Int) (sl:Addr) (Q:VK),Inv X pins σ H s->RelV x v->s.heap.IsSliceOf sl vl vu .none->IsPart vl lo->IsPart vu hi->r x lo hi H Q->
  ∃T id,typeLookup (.type T) "__getitem__"=pure (some (.builtin id))/\s.TypeIs v T/\wpAny (model X.prog X.w) X.A (getItem v (.ref sl)) (EP X pins σ Q) X.xe s
theorem ni.or {r r':V->Option Int->Option Int->Hp->VK->Prop}(h:ni X r)(h':ni X r'):ni X (fun x lo hi H Q=>r x lo hi H Q\/r' x lo hi H Q):=by
 intro pins s σ H x v vl vu lo hi sl Q I rx hs pl pu q;rcases q with q |q
 ·exact h pins s σ H x v vl vu lo hi sl Q I rx hs pl pu q
 ·exact h' pins s σ H x v vl vu lo hi sl Q I rx hs pl pu q
noncomputable def tSl (r:V->Option Int->Option Int->Hp->VK->Prop) (te:TE) (tl th:TO):TE:=fun σ H Q=>te σ H fun x H1=>tl σ H1 fun l H2=>th σ H2 fun u H3=>r x l u H3 Q
theorem K1 {r:V->Option Int->Option Int->Hp->VK->Prop}(hr:ni X r)(he:PE X e te)(hl:PO X lo tl)(hu:PO X hi th):PE X (.Subscript e (.Slice lo hi none p2) pos) (tSl r te tl th):=by
 intro pins s σ H Q I h;refine Subscript_ (aU (he pins s σ H _ I h) fun v s1 ⟨x,H1,I1,r1,q1⟩=>?_);refine wpAny_Slice (aU (hl pins s1 σ H1 _ I1 q1) fun vl s2 ⟨l,H2,I2,pl,q2⟩=>aU (hu pins s2 σ H2 _ I2 q2) fun vu s3 ⟨u,H3,I3,pu,q3⟩=>?_);rw[evalPart_none];refine xac ?_;have I4:Inv X pins σ H3 {s3 with heap:=s3.heap.push {cls:=.type "slice",data:=.fields #[vl,vu,.none]}}:=I3.kept (t':=s3.toks) fun b ob q=>xai _ q;obtain⟨T,id,hT,ht,hg⟩:=hr pins {s3 with heap:=s3.heap.push {cls:=.type "slice",data:=.fields #[vl,vu,.none]}} σ H3 x v vl vu l u s3.heap.objs.size Q I4 r1 (Heap.IsSliceOf.new ..) pl pu q3;show wpAny (model X.prog X.w) X.A (subscriptTail e (.Slice lo hi none p2) v (.ref s3.heap.objs.size)) (EP X pins σ Q) X.xe {s3 with heap:=s3.heap.push {cls:=.type "slice",data:=.fields #[vl,vu,.none]}};exact tail_any (ops:=[.ref s3.heap.objs.size,v]) ht hT hg (by with_unfolding_all rfl)
noncomputable def eY (xs:List V) (lo hi:Option Int):List V:=(xs.drop (HT.aW xs.length 0 lo)).take (HT.aW xs.length xs.length hi - HT.aW xs.length 0 lo)
theorem Ja (xs:List V)(lo hi:Option Int):(eY xs lo hi).length<=xs.length:=by
 unfold eY;rw[xbv,xb4];omega
def Fy (K:Fgx):V->Option Int->Option Int->Hp->VK->Prop:=fun x lo hi H Q=>∃a xs,x=.ref a/\dM K H a xs/\
 ¬ (HT.aW xs.length 0 lo=0/\HT.aW xs.length xs.length hi=xs.length)/\∀p,H p=none->Q (.ref p) (upd H p (.tup (eY xs lo hi)))
theorem ZJ:ni X (Fy X.K):=by
 intro pins s σ H x v vl vu lo hi sl Q I rx hs pl pu h;obtain⟨a,xs,rfl,hx,hw,q⟩:=h;cases rx;obtain⟨its,r,ht,hz⟩:=I.tuple hx;have hlen:its.toArray.size=xs.length:=by rw[xah];exact r.length.symm
 refine⟨"tuple",_,xca.lookup,ht.typeIs,?_⟩;refine HT.QG ht hs pl pu (by rw[hlen];exact hw) ?_ (by rw[hlen];exact hz);rw[hlen];refine⟨.ref s.heap.objs.size,_,I.laid (t':=s.toks) (o:=.tup (eY xs lo hi)) (fun b ob q=>xai _ q) (xab _) ?_,rfl,q _ (I.hok.fresh (xab _))⟩;exact⟨xao (Ja xs lo hi) hz,_,(r.drop (HT.aW xs.length 0 lo)).take (HT.aW xs.length xs.length hi - HT.aW xs.length 0 lo),IsTup.new _ _⟩
end
noncomputable def pU (n:Nat) (i:Int):Option Nat:=if 0<=i then(if i<n then some i.toNat else none) else if -(n:Int)<=i then some (i + n).toNat else none
noncomputable def bY {α:Type} (xs:List α) (i:Int):Option α:=(pU xs.length i).bind fun j=>xs[j]?
theorem Rh {n:Nat}{i:Int}{j:Nat}(h:pU n i=some j):seqIndex? i n=some j/\j<n/\ -(n:Int)<=i/\i<n:=by
 unfold pU at h
 by_cases h0:0<=i
 ·rw[xaa h0]at h
  by_cases h1:i<n
  ·rw[xaa h1]at h;have e:i.toNat=j:=xas h;exact⟨by rw[seqIndex_of h0 h1,e],by omega,by omega,h1⟩
  ·rw[xad h1]at h;cases h
 ·rw[xad h0]at h
  by_cases h1: -(n:Int)<=i
  ·rw[xaa h1]at h;have e:(i + n).toNat=j:=xas h;exact⟨by rw[seqIndex_neg (by omega) h1,e],by omega,h1,by omega⟩
  ·rw[xad h1]at h;cases h
theorem BK {α:Type}{xs:List α}{i:Int}{v:α}(h:bY xs i=some v):∃j,seqIndex? i xs.length=some j/\xs[j]? =some v/\j<xs.length/\ -(xs.length:Int)<=i/\i<xs.length:=by
  unfold bY at h
  cases e:pU xs.length i with
  |none=>rw[e]at h;cases h
  |some j=>
    rw[e]at h;obtain⟨h1,h2,h3,h4⟩:=Rh e;exact⟨j,h1,h,h2,h3,h4⟩
theorem nq {α:Type}{xs:List α}{j:Nat}{v:α}(h:xs[j]? =some v):bY xs (j:Int)=some v:=by
 have hj:j<xs.length:=(xat.mp h).1;have e:pU xs.length (j:Int)=some j:=by
  unfold pU;rw[xaa (by omega),xaa (by omega)];simp
 unfold bY;rw[e];exact h
def Bt (b:Expr):Prop:=∀o i,subscripted b false o i=operate [o,i] (getItem o i)
def lB (X:Cx)(r:R2):Prop:=
 ∀(value slice:Expr) (pins:Pnx) (s:Shared) (σ:St) (H:Hp) (x y:V) (v u:Value) (Q:VK),Inv X pins σ H s->RelV x v->RelV y u->r x y H Q->
  subscripted slice false v u=operate [v,u] (getItem v u)->wpAny (model X.prog X.w) X.A (subscriptTail value slice v u) (EP X pins σ Q) X.xe s
def yL (X:Cx)(id:String)(r:V->List V->Hp->VK->Prop):Prop:=
 ∀(pins:Pnx) (s:Shared) (σ:St) (H:Hp) (x:V) (xs:List V) (v:Value) (us:List Value) (Q:VK),Inv X pins σ H s->RelV x v->Vals xs us->r x xs H Q->
  wpAny (model X.prog X.w) X.A (call (.builtin id) (v::us)) (EP X pins σ Q) X.xe s
section
variable {X:Cx}{a b:Expr}{ta tb:TE}{pos:Pos}
theorem lB.or {r r':R2}(h:lB X r)(h':lB X r'):lB X (fun x y H Q=>r x y H Q\/r' x y H Q):=by
 intro value slice pins s σ H x y v u Q I rx ry q hs;rcases q with q |q
 ·exact h value slice pins s σ H x y v u Q I rx ry q hs
 ·exact h' value slice pins s σ H x y v u Q I rx ry q hs
theorem Vu {r:R2}(hr:lB X r)(ha:PE X a ta)(hb:PE X b tb)(hs:Bt b):PE X (.Subscript a b pos) (yC r ta tb):=by
 intro pins s σ H Q I h;exact Subscript_ (pJ ha hb I h fun v u s2 x y H2 I2 rx ry q=>hr a b pins s2 σ H2 x y v u Q I2 rx ry q (hs _ _))
noncomputable def rz (K:Fgx):R2:=fun x y H Q=>∃p xs i v,x=.ref p/\y=.int i/\bC K H p xs/\bY xs i=some v/\Q v H
noncomputable def rB (K:Fgx):R2:=fun x y H Q=>∃p xs i v,x=.ref p/\y=.int i/\dM K H p xs/\bY xs i=some v/\Q v H
noncomputable def rA:R2:=fun x y H Q=>∃z i c,x=.str z/\y=.int i/\z.length<=sizeLine/\bY z.cps.toList i=some c/\Q (.str ⟨#[c]⟩) H
theorem Rm:lB X (rz X.K):=by
 intro value slice pins s σ H x y v u Q I rx ry h hs;obtain⟨p,xs,i,z,rfl,rfl,hq,he,q⟩:=h;cases rx;obtain⟨t,rfl⟩:=ry;obtain⟨its,r,pl,hz⟩:=I.list hq;obtain⟨j,h1,h2,h3,h4,h5⟩:=BK he;obtain⟨w,ew,rw'⟩:=r.get h2;have hl:=r.length;have hn:=sV;have fin:EP X pins σ Q w s:=⟨z,H,I,rw',q⟩
 by_cases h0:0<=i
 ·have hj:i.toNat=j:=by
   rw[seqIndex_of h0 h5]at h1;exact xas h1
  exact item_listR pl.isList h0 (by omega) (by rw[hj];simpa using ew) fin hs
 ·have hj:(i + (its.toArray.size:Int)).toNat=j:=by
   rw[seqIndex_neg (by omega) h4]at h1;rw[xah, <-hl];exact xas h1
  exact subscriptTail_builtinR (x:=w) pl.isList.typeIs slot_list_getitem.lookup
   (wpAny_getItem_list_neg (Q:=fun r s'=>r=w/\EP X pins σ Q r s') pl.isList (by omega) (by rw[xah]<;>omega) (by omega) (by rw[hj];simpa using ew) ⟨rfl,fin⟩) hs
theorem Ro:lB X (rB X.K):=by
 intro value slice pins s σ H x y v u Q I rx ry h hs;obtain⟨p,xs,i,z,rfl,rfl,hq,he,q⟩:=h;cases rx;obtain⟨t,rfl⟩:=ry;obtain⟨its,r,pl,hz⟩:=I.tuple hq;obtain⟨j,h1,h2,h3,h4,h5⟩:=BK he;obtain⟨w,ew,rw'⟩:=r.get h2;have hl:=r.length;have hn:=sV;have fin:EP X pins σ Q w s:=⟨z,H,I,rw',q⟩;exact subscriptTail_builtinR (x:=w) pl.typeIs slot_tuple_getitem.lookup
  (getItem_tuple (j:=j) (Q:=fun r s'=>r=w/\EP X pins σ Q r s') pl (by omega) (by omega) (by rw[xah, <-hl];exact h1) (by simpa using ew) ⟨rfl,fin⟩) hs
theorem Rn:lB X rA:=by
 intro value slice pins s σ H x y v u Q I rx ry h hs;obtain⟨z,i,c,rfl,rfl,hz,he,q⟩:=h;obtain⟨t,rfl⟩:=rx;obtain⟨t',rfl⟩:=ry;obtain⟨j,h1,h2,h3,h4,h5⟩:=BK he;have hl:z.cps.toList.length=z.length:=by simp[Str.length]
 rw [hl] at h1 h4 h5;have hn := sV;exact tail_any (xd6 s z t) slot_str_getitem.lookup (getItem_str (c := c) (by
  have e1:decide (i< -(2 ^ 63:Int))=false:=xaC (by omega);have e2:decide (i >=2 ^ 63)=false:=xaC (by omega);rw[e1,e2,Bool.or_false]) (by rw[h1];simpa using h2) ⟨.str ⟨#[c]⟩,H,I.tok _,⟨_,rfl⟩,q⟩) hs
noncomputable def Ft (K:Fgx):R2:=fun x y H Q=>rz K x y H Q\/rB K x y H Q\/rA x y H Q
theorem ZM (lo hi:Option Int)(n:Nat):(sliceBounds lo hi none n).1=((HT.aW n 0 lo:Nat):Int)/\(sliceBounds lo hi none n).2.1=((HT.aW n n hi:Nat):Int)/\(sliceBounds lo hi none n).2.2=1:=by
  refine⟨?_,?_,rfl⟩
  · cases lo with
    |none=>simp[sliceBounds,HT.aW]
    |some i=>
      simp only[sliceBounds,HT.aW,Option.getD_none,show(1:Int) > 0 by decide,xbF]
      by_cases h:i<0
      · simp only[h,xbF]<;>omega
      · simp only[h,xa4]<;>omega
  · cases hi with
    |none=>simp[sliceBounds,HT.aW]
    |some i=>
      simp only[sliceBounds,HT.aW,Option.getD_none,show(1:Int) > 0 by decide,xbF]
      by_cases h:i<0
      · simp only[h,xbF]<;>omega
      · simp only[h,xa4]<;>omega
theorem ZL (its:List Value)(lo hi:Option Int):slicePick its.toArray lo hi none=((its.drop (HT.aW its.length 0 lo)).take (HT.aW its.length its.length hi - HT.aW its.length 0 lo)).toArray:=by
 obtain⟨h1,h2,h3⟩:=ZM lo hi its.toArray.size;unfold slicePick;rw[h1,h2,h3];simp only[sliceRange_one,pick_run,xah]<;>rfl
def Fv (K:Fgx):V->Option Int->Option Int->Hp->VK->Prop:=fun x lo hi H Q=>∃a xs,x=.ref a/\bC K H a xs/\∀p,H p=none->Q (.ref p) (upd H p (.lst (eY xs lo hi)))
theorem ZF:ni X (Fv X.K):=by
 intro pins s σ H x v vl vu lo hi sl Q I rx hs pl pu h;obtain⟨a,xs,rfl,hx,q⟩:=h;cases rx;obtain⟨its,r,ht,hz⟩:=I.list hx;have hlen:=r.length;refine⟨"list",_,slot_list_getitem.lookup,ht.isList.typeIs,?_⟩;refine wpAny_getItem_list_slice ht.isList hs pl pu .none (by simp) ?_ (by rw[xah]<;>omega)
 rw[ZL, <-hlen];refine⟨.ref s.heap.objs.size,_,I.laid (t':=s.toks) (o:=.lst (eY xs lo hi)) (fun b ob q=>xai _ q) (xab _) ?_,rfl,q _ (I.hok.fresh (xab _))⟩;exact⟨xao (Ja xs lo hi) hz,_,0,(r.drop (HT.aW xs.length 0 lo)).take (HT.aW xs.length xs.length hi - HT.aW xs.length 0 lo),xaH _ rfl⟩
noncomputable def lF:V->Bool
 |.non=>true
 |.bl _=>true
 |.int _=>true
 |.str _=>true
 |_=>false
noncomputable def mF:V->V->Bool
 |.non,.non=>true
 |.bl a,.bl b=>a==b
 |.bl a,.int b=>(if a then 1 else 0)==b
 |.int a,.bl b=>a==(if b then 1 else 0)
 |.int a,.int b=>a==b
 |.str a,.str b=>a==b
 |_,_=>false
theorem PX {A:Around}{s:Shared}{y x:V}{u v:Value}(ry:RelV y u)(rx:RelV x v)(fy:lF y=true)(fx:lF x=true):SeqAt.EqAt A s u v (mF y x):=by
  cases y with
  |non=>
    cases ry
    cases x with
    |non=>cases rx;exact xcY _
    |bl b=>cases rx;exact SeqAt.EqAt.none_bool b
    |int b=>obtain⟨t,rfl⟩:=rx;exact SeqAt.EqAt.none_int b t
    |str b=>obtain⟨t,rfl⟩:=rx;exact SeqAt.EqAt.none_str b t
    |_=>exact absurd (show false=true from fx) xap
  |bl a=>
    cases ry
    cases x with
    |non=>cases rx;exact SeqAt.EqAt.bool_none a
    |bl b=>cases rx;exact SeqAt.EqAt.bool_bool a b
    |int b=>obtain⟨t,rfl⟩:=rx;exact SeqAt.EqAt.bool_int a b t
    |str b=>obtain⟨t,rfl⟩:=rx;exact SeqAt.EqAt.bool_str a b t
    |_=>exact absurd (show false=true from fx) xap
  |int a=>
    obtain⟨t',rfl⟩:=ry
    cases x with
    |non=>cases rx;exact SeqAt.EqAt.int_none a t'
    |bl b=>cases rx;exact SeqAt.EqAt.int_bool a t' b
    |int b=>obtain⟨t,rfl⟩:=rx;exact xct a t' b t
    |str b=>obtain⟨t,rfl⟩:=rx;exact xda a t' b t
    |_=>exact absurd (show false=true from fx) xap
  |str a=>
    obtain⟨t',rfl⟩:=ry
    cases x with
    |non=>cases rx;exact SeqAt.EqAt.str_none a t'
    |bl b=>cases rx;exact SeqAt.EqAt.str_bool a t' b
    |int b=>obtain⟨t,rfl⟩:=rx;exact xdb a t' b t
    |str b=>obtain⟨t,rfl⟩:=rx;exact xcu a t' b t
    |_=>exact absurd (show false=true from fx) xap
  |_=>exact absurd (show false=true from fy) xap
noncomputable def fU (x:V) (u:Value):Bool:=match u with
 |.none=>mF .non x
 |.bool b=>mF (.bl b) x
 |.int i _=>mF (.int i) x
 |.str z _=>mF (.str z) x
 |_=>false
theorem Jo {x y:V}{u:Value}(r:RelV y u)(f:lF y=true):fU x u=mF y x:=by
 cases y with
 |non=>cases r;rfl
 |bl b=>cases r;rfl
 |int i=>obtain⟨t,rfl⟩:=r;rfl
 |str z=>obtain⟨t,rfl⟩:=r;rfl
 |_=>exact absurd (show false=true from f) xap
theorem vm {x:V}:∀{xs:List V} {us:List Value},Vals xs us->xs.all lF=true->us.any (fU x)=xs.any fun y=>mF y x
  |_,_,.nil,_=>rfl
  |y::xs,u::us,.cons r t,f=>by
    rw[xb1,xav]at f;rw[xcc,xcc,Jo r f.1,vm t f.2]
theorem wU {A:Around}{s:Shared}{x:V}{v:Value}(rx:RelV x v)(fx:lF x=true):∀{xs:List V} {us:List Value},Vals xs us->xs.all lF=true->∀u∈us,SeqAt.EqAt A s u v (fU x u)
  |_,_,.nil,_=>fun u hu=>by cases hu
  |y::xs,u::us,.cons r t,f=>fun u' hu=>by
    rw[xb1,xav]at f;rcases xan.mp hu with rfl |hu
    · rw[Jo r f.1];exact PX r rx f.1 fx
    · exact wU rx fx t f.2 u' hu
def inV (x:V)(xs:List V):Bool:=xs.any fun y=>mF y x
noncomputable def zZ (K:Fgx) (neg:Bool):R2:=fun x y H Q=>∃p xs,y=.ref p/\(bC K H p xs\/dM K H p xs)/\lF x=true/\xs.all lF=true/\Q (.bl (if neg then !inV x xs else inV x xs)) H
theorem U7:bB X (compareOp .In) (zZ X.K false):=by
 intro pins s σ H x y v u Q I rx ry h;obtain⟨p,xs,rfl,hq,fx,fs,q⟩:=h;cases ry;rcases hq with hq |hq
 ·obtain⟨its,r,pl,hz⟩:=I.list hq;refine SeqAt.in_listAt (fU x) pl.isList (fun w hw=>wU rx fx r fs w (by simpa using hw)) ⟨.bl _,H,I,rfl,?_⟩;rw[show its.toArray.any (fU x)=its.any (fU x) by simp,vm r fs];exact q
 ·obtain⟨its,r,pl,hz⟩:=I.tuple hq;refine SeqAt.in_tupleAt (fU x) pl (fun w hw=>wU rx fx r fs w (by simpa using hw)) ⟨.bl _,H,I,rfl,?_⟩;rw[show its.toArray.any (fU x)=its.any (fU x) by simp,vm r fs];exact q
theorem Vf:bB X (compareOp .NotIn) (zZ X.K true):=by
 intro pins s σ H x y v u Q I rx ry h;obtain⟨p,xs,rfl,hq,fx,fs,q⟩:=h;cases ry;rcases hq with hq |hq
 ·obtain⟨its,r,pl,hz⟩:=I.list hq;refine SeqAt.notIn_listAt (fU x) pl.isList (fun w hw=>wU rx fx r fs w (by simpa using hw)) ⟨.bl _,H,I,rfl,?_⟩;rw[show its.toArray.any (fU x)=its.any (fU x) by simp,vm r fs];exact q
 ·obtain⟨its,r,pl,hz⟩:=I.tuple hq;refine SeqAt.notIn_tupleAt (fU x) pl (fun w hw=>wU rx fx r fs w (by simpa using hw)) ⟨.bl _,H,I,rfl,?_⟩;rw[show its.toArray.any (fU x)=its.any (fU x) by simp,vm r fs];exact q
theorem O1:cZ X (.builtin "len") (fun xs H Q=>∃p ys,xs=[.ref p]/\(bC X.K H p ys\/dM X.K H p ys)/\Q (.int ys.length) H):=by
 intro pins s σ H xs us Q I r h;obtain⟨p,ys,rfl,hq,q⟩:=h;obtain⟨u,rfl,rx⟩:=vals1 r;cases rx;have hn:=sV;rcases hq with hq |hq
 ·obtain⟨its,r',pl,hz⟩:=I.list hq;have hlen:=r'.length;exact Calls.call_len_list pl.isList (by simp only[xah]<;>omega) ⟨.int ys.length,H,I.tok _,⟨s.toks + 1,by rw[xah,hlen]⟩,q⟩
 ·obtain⟨its,r',pl,hz⟩:=I.tuple hq;have hlen:=r'.length;exact len_tuple pl (by simp only[xah]<;>omega) ⟨.int ys.length,H,I.tok _,⟨s.toks + 1,by rw[xah,hlen]⟩,q⟩
theorem O2:cZ X (.builtin "len") (fun xs H Q=>∃z,xs=[.str z]/\z.length<=sizeLine/\Q (.int z.length) H):=by
 intro pins s σ H xs us Q I r h;obtain⟨z,rfl,hz,q⟩:=h;obtain⟨u,rfl,t,rfl⟩:=vals1 r;have hn:=sV;exact len_str (by omega) ⟨.int z.length,H,I.tok _,⟨_,rfl⟩,q⟩
theorem cZ.or {f:Value}{r r':List V->Hp->VK->Prop}(h:cZ X f r)(h':cZ X f r'):cZ X f (fun xs H Q=>r xs H Q\/r' xs H Q):=by
 intro pins s σ H xs us Q I rs q;rcases q with q |q
 ·exact h pins s σ H xs us Q I rs q
 ·exact h' pins s σ H xs us Q I rs q
theorem O3:cZ X (.type "list") (fun xs H Q=>∃p ys,xs=[.ref p]/\(bC X.K H p ys\/dM X.K H p ys)/\∀l,H l=none->Q (.ref l) (upd H l (.lst ys))):=by
 intro pins s σ H xs us Q I r h;obtain⟨p,ys,rfl,hq,q⟩:=h;obtain⟨u,rfl,rx⟩:=vals1 r;cases rx;have fin:∀(its:List Value),Vals ys its->ys.length<=sizeLine->∀(h':Heap) (c':Nat),(∀b o',s.heap.get? b=some o'->h'.get? b=some o')->
   h'.get? s.heap.objs.size=some {cls:=.type "list",dict:=none,data:=.seq its.toArray c',slots:= #[]}->EP X pins σ Q (.ref s.heap.objs.size) {s with heap:=h'}:=fun its r' hz h' c' kp e=>
  ⟨.ref s.heap.objs.size,_,I.laid (t':=s.toks) kp (xab _) (show cA X.prog X.w _ h' _ (.lst ys) from⟨hz,its,c',r',e⟩),rfl,q _ (I.hok.fresh (xab _))⟩
 rcases hq with hq |hq
 ·obtain⟨its,r',pl,hz⟩:=I.list hq;have hlen:=r'.length;obtain⟨o,ho,hc,n,hd⟩:=pl.isList;exact call_list_seq p (.inl rfl) ho hc hd (fun h' c' kp e=>fin its r' hz h' c' kp e) (by simp only[xah]<;>omega)
 ·obtain⟨its,r',pl,hz⟩:=I.tuple hq;have hlen:=r'.length;obtain⟨o,ho,hc,n,hd⟩:=pl;exact call_list_seq p (.inr rfl) ho hc hd (fun h' c' kp e=>fin its r' hz h' c' kp e) (by simp only[xah]<;>omega)
def Nr (K:Fgx)(T:String)(x:V)(H:Hp):Prop:=match x with
 |.str _=>T="str"
 |.int _=>T="int"
 |.ref p=>(T="list"/\∃xs,bC K H p xs)\/(T="tuple"/\∃o,K.lookup p=some o/\o.cls=.type "tuple"/\o.dict=none)\/
   (T="dict"/\((∃kvs,H p=some (.dK kvs))\/∃kvs,H p=some (.dT kvs)))\/(T="set"/\∃S n,H p=some (.set S n))
 |_=>False
theorem zbt {pins:Pnx}{σ:St}{H:Hp}{s:Shared}{T:String}{x:V}{v:Value}(I:Inv X pins σ H s)(r:RelV x v)(ty:Nr X.K T x H):
    s.TypeIs v T/\∀a,v=.ref a->∃ob,s.heap.get? a=some ob/\ob.dict=none:=by
  cases x with
  |str z=>
    obtain⟨t,rfl⟩:=r;cases (show T="str" from ty);exact⟨xd6 s z t,fun _ e=>nomatch e⟩
  |int i=>
    obtain⟨t,rfl⟩:=r;cases (show T="int" from ty);exact⟨typeIs_int s i t,fun _ e=>nomatch e⟩
  |ref p=>
    cases r;rcases ty with⟨rfl,xs,hq⟩ |⟨rfl,o,hk,hc,hd⟩ |⟨rfl,hk⟩ |⟨rfl,S,n,hk⟩
    · obtain⟨its,_,pl,_⟩:=I.list hq;refine⟨pl.isList.typeIs,fun a e=>?_⟩;cases e;obtain⟨o,n,e,c,hd,_⟩:=pl;exact⟨o,e,hd⟩
    · refine⟨⟨o,I.kIn p o hk,hc⟩,fun a e=>?_⟩;cases e;exact⟨o,I.kIn _ o hk,hd⟩
    · have z:∃o,s.heap.get? p=some o/\o.ExactDict:=by
        rcases hk with⟨kvs,hk⟩ |⟨kvs,hk⟩
        · obtain⟨_,_,_,_,o,_,_,e,ex,_⟩:=I.hok p _ hk;exact⟨o,e,ex⟩
        · obtain⟨_,_,_,_,o,_,_,e,ex,_⟩:=I.hok p _ hk;exact⟨o,e,ex⟩
      obtain⟨o,e,ex⟩:=z;refine⟨⟨o,e,ex.1⟩,fun a e2=>?_⟩;cases e2;exact⟨o,e,ex.2.1⟩
    · obtain⟨o,_,_,_,e,ex,_⟩:=I.hok p _ hk;refine⟨⟨o,e,ex.1⟩,fun a e2=>?_⟩;cases e2;exact⟨o,e,ex.2.1⟩
  |_=>exact False.elim ty
noncomputable def tBM (K:Fgx) (T:String) (r:V->List V->Hp->VK->Prop) (to:TE) (t:TA):TE:=fun σ H Q=>to σ H fun x H1=>Nr K T x H1/\t σ H1 fun xs H2=>r x xs H2 Q
variable {o e:Expr}{es:List Expr}{to:TE}{t:TA}{name:Str}{apos cpos:Pos}{T id:String}{r:V->List V->Hp->VK->Prop}
theorem zV (pa:PlainAttrs T)(slot:Slot T name id)(hty:typeOf (.builtin id)=pure (.type "method_descriptor"))(hm:yL X id r)(ho:PE X o to)(ha:PA X (e::es) t)
  (hbase:attributeBase o name X.env (eval o X.env)=eval o X.env:=by rfl)
  (hfew : ((backTo cpos (starEach (e::es) X.env)).all (fun x=> !x.1) && (backToKw cpos (keywordEach [] X.env)).all (fun x=>x.1.isSome)
   && decide ((e::es).length + ([]:List Keyword).length + (if ([]:List Keyword).isEmpty then 0 else 1)<30))=true:=by rfl)
  (hline:(apos.endLine==cpos.line)=true:=by rfl) (hs:starEach (e::es) X.env=(false,eval e X.env)::starEach es X.env:=by rfl) (hplain:(backTo cpos (starEach es X.env)).any (·.1)=false:=by rfl):
  PE X (.Call (.Attribute o name apos) (e::es) [] cpos) (tBM X.K T r to t):=by
 intro pins s σ H Q I h;refine wpAny_Call_method_late hbase hfew hline rfl (aU (ho pins s σ H _ I h) fun v s1 ⟨x,H1,I1,r1,ty,q1⟩=>?_);obtain⟨h1,h2⟩:=zbt I1 r1 ty;refine⟨T,id,pa,slot,hty,h1,h2,?_⟩;have hA:=ha cpos pins s1 σ H1 _ I1 q1;rw[hs]at hA ⊢;refine Calls.callWith_builtin (by show(false || (backTo cpos (starEach es X.env)).any (·.1))=false;rw[hplain]<;>rfl) (Calls.evalArgs_plain ?_)
 exact aU hA fun us s2 ⟨vs,H2,I2,r2,q2⟩=>hm pins s2 σ H2 x vs v us Q I2 r1 r2 q2
end
def Oh (X:Cx)(id:String)(r:V->List V->Hp->VK->Prop):Prop:=
 ∀(pins:Pnx) (s:Shared) (σ:St) (H:Hp) (x:V) (xs:List V) (v:Value) (us:List Value) (Q:VK),Inv X pins σ H s->RelV x v->Vals xs us->r x xs H Q->
  wpAny (model X.prog X.w) X.A (call (.builtin id) (v::us)) (EP X pins σ Q) X.xe s
theorem Vals.one:∀{x:V} {us:List Value},Vals [x] us->∃u,us=[u]/\RelV x u
 |_,_,.cons r .nil=>⟨_,rfl,r⟩
section
variable {X:Cx}{pins:Pnx}{σ:St}{H:Hp}{s:Shared}{l b:Addr}{xs ys zs:List V}
theorem Inv.lset {its its':List Value}{n:Nat}{f:Array Value->Array Value}{t':Nat}(I:Inv X pins σ H s)(hH:H l=some (.lst xs))
  (e:s.heap.get? l=some {cls:=.type "list",data:=.seq its.toArray n}) (hf:f its.toArray=its'.toArray) (hv:Vals ys its') (hz:ys.length<=sizeLine):
  Inv X pins σ (upd H l (.lst ys)) {s with heap:=s.heap.update l (Obj.mapSeq f),toks:=t'}:=by
 have q:=PySem.IsL.update e f;rw[hf]at q;refine I.write (x:=l) (e:=l) (by rw[hH];exact trivial) (.inl rfl) (fun b' u hb hu=>(xaU s.heap (Obj.mapSeq f) (xbu hb)).trans hu) ⟨_,q⟩ ?_;exact⟨hz,its',_,hv,q⟩
theorem Inv.lnew {its:List Value}{t':Nat}(I:Inv X pins σ H s)(hv:Vals ys its)(hz:ys.length<=sizeLine):
  Inv X pins σ (upd H s.heap.objs.size (.lst ys)) {s with heap:=s.heap.push {cls:=.type "list",data:=.seq its.toArray},toks:=t'}:=
 I.laid (fun _ _ q=>xai _ q) (xab _) ⟨hz,its,0,hv,xaH _ rfl⟩
theorem Inv.fresh (I:Inv X pins σ H s):H s.heap.objs.size=none:=I.hok.fresh (xab _)
theorem Inv.lstM (I:Inv X pins σ H s)(hH:H l=some (.lst xs)):xs.length<=sizeLine/\∃(its:List Value) (n:Nat),Vals xs its/\xs.length=its.length/\s.heap.get? l=some {cls:=.type "list",data:=.seq its.toArray n}:=by
 obtain⟨z,its,n,r,e⟩:=I.hok l _ hH;exact⟨z,its,n,r,r.length,e⟩
end
section
variable {X:Cx}
def Xo:V->List V->Hp->VK->Prop:=fun x vs H Q=>∃l xs y,x=.ref l/\vs=[y]/\H l=some (.lst xs)/\xs.length<sizeLine/\Q .non (upd H l (.lst (xs ++ [y])))
theorem DY:Oh X "list.append" Xo:=by
 intro pins s σ H x vs v us Q I rx rv h;obtain⟨l,xs,y,rfl,rfl,hH,hz,q⟩:=h;cases rx;obtain⟨u,rfl,ru⟩:=rv.one;obtain⟨z,its,n,r,hl,e⟩:=I.lstM hH;refine call_meets F.slot_list_append ⟨_,e,rfl⟩ F.entry_list_append (F.args_list_append_2 _ _) (PySem.list_append l its.toArray n u (by rw[xah];omega)) ⟨e,?_⟩;refine⟨.non,_,I.lset (its':=its ++ [u]) hH e (by simp) (r.append (.cons ru .nil)) ?_,rfl,q⟩;rw[xaq,xbh];omega
end
end L2
namespace Att
open PySem PySem.W PySem.Calls PyProof.Rows
theorem QX {P:Params}{h:Heap}:∀(ns:List Int) (vs:List Value),WellAll P h vs (ns.map WData.int)->IntsAre vs ns:=by
  intro ns
  induction ns with
  |nil=>
    intro vs w;rw[xcZ]at w;cases w;exact .nil
  |cons n ns ih=>
    intro vs w;rw[xay]at w
    cases w with
    |cons a b=>
      cases a;exact .cons _ _ (ih _ b)
theorem Zg {l:OpenLaw}{n:Nat}(hn:l.most=some n){P:Params}{h:Heap}{args:List WData}{vals:List Value}
    (hpre:l.row.toRowW.claim.pre args=true) (hwl:WellAll P h vals args):
    ∃a vs ns,vals=[Value.ref a]/\args=[WData.list (ns.map WData.int)]/\h.get? a=some {cls:=.type "list",data:=.seq vs.toArray}/\IntsAre vs ns/\ns.length<=n:=by
  have hsh:WShape.hasAll [] args [.list .int]=true:=(pre_splitW hpre).1;have hc:l.pre.holds [] {args:=args}=true:=(pre_splitW hpre).2;obtain⟨d,r,rfl,h1,h2⟩:=hasAllW_cons hsh;obtain rfl:=hasAllW_nil h2;obtain⟨xs,rfl,h3⟩:=hasW_list h1;obtain⟨ns,rfl⟩:=items_int h3;have hlen:ns.length<=n:=by
    unfold OpenLaw.pre at hc;have h4:(WTm.not (.lt (.lit (.int (n:Int))) (.len (.arg 0)))).holds [] {args:=[.list (ns.map .int)]}=true:=by
      have h4:=(holds_andW hc).1;rw[hn]at h4;exact h4
    have h5:=condW_of h4 (w_not (w_lt w_lit (w_len_list (w_arg rfl))));rw[xae]at h5;refine xbD fun q=>?_;have q':(n:Int)<((ns.length:Nat):Int):=by omega
    first
      |(rw[xaW q']at h5;exact absurd h5 (by decide))
      |(simp at h5;omega)
  cases hwl with
  |cons w1 w2=>
    cases w2
    cases w1 with
    |list ho hall=>exact⟨_,_,ns,rfl,rfl,ho,QX ns _ hall,hlen⟩
theorem V3 (l:OpenLaw)(args:List WData):l.row.toRowW.claim.post args (.bool true) args=true:=
 postW_of (r:=l.row.toRowW) (X:=(true==true))
  (show WShape.has [] (.bool true) .bool=true by first |rfl |decide |simp[WShape.has,WShape.arms,WShape.armsAll])
  (show(WTm.eq .res (.lit (.bool true))).value [] {args:=args,res:=some (.bool true),after:=args}=some (.bool (true==true)) from w_eq_bool (w_res rfl) w_lit) rfl
theorem Oq {l:OpenLaw}{n:Nat}{q:Program}{loose:List Str}{XP:(Mgx)->Heap->Prop}{YP:World->Heap->Prop}{d:DefRec}
  (hn:l.most=some n) (hdf:d.params.defaults=[])
  (call:∀(w:World) (s₀ s₁:Shared) (mg mb:Mgx) (fa:Addr) (o:Obj) (pm cd doc:Value) (a:Addr) (vs:List Value) (ns:List Int),
   Ground q loose [] XP w s₀ mg mb s₁.heap->YP w s₁.heap->
   s₁.heap.get? fa=some o->o.data=.func (docDef d.name d.params d.body d.scope pm cd doc)->s₁.heap.CodeRec cd d.name->mg d.name=some (.ref fa)->
   s₁.heap.get? a=some {cls:=.type "list",data:=.seq vs.toArray}->IntsAre vs ns->ns.length<=n->s₁.gens= #[]->
   codeAny (model l.prog w) callerA (.call (.ref fa) ⟨[.ref a],[]⟩) (fun r s'=>r=.ok (.ret (.bool true))/\OldK s₁.heap s'.heap/\s'.os=s₁.os/\AllBare s'.gens) s₁):
  WalkO q loose XP YP l.row.toRowW d [] (fun f vs=>PySem.call f vs):=by
 intro w s₀ s₁ mg mb G Y fa o pm cd doc dV kV ho hd hcd hD hmg hg args vals as hpre hlay hrd hwl hlo;obtain rfl:dV=.none:=Dflts.none hD hdf;obtain rfl:kV=.none:=Dflts.noKw hD;obtain⟨a,vs,ns,rfl,rfl,hobj,hints,hlen⟩:=Zg hn hpre hwl;refine enter_call (xdy (call w s₀ s₁ mg mb fa o pm cd doc a vs ns G Y ho (fd_plain hd) hcd hmg hobj hints hlen hg) fun r s' hq=>?_);obtain⟨rfl,h2,h3,h4⟩:=hq;exact⟨.inl ⟨.bool true,.bool true,[],rfl,fun _=>rfl,.bool true,V3 l _,fun _=>⟨List.Pairwise.nil,fun _ hm=>(nomatch hm)⟩⟩,h2,h3,h4⟩
end Att
namespace L2
open PySem PySem.Spec PyProof.Rows
theorem Nz:∀{vs:List Value} {ns:List Int},IntsAre vs ns->Vals (ns.map V.int) vs
 |_,_,.nil=>.nil
 |_,_,.cons n t h=>.cons ⟨t,rfl⟩ (Nz h)
def Only (H:Hp):Prop:=∀b,H b=none\/∃o xs,H b=some (.frz o (.lst xs))
theorem RN {P:Program}{w:World}{K:Fgx}{mg mb:Mgx}{CX:eH}{k:Nat}{fa a:Addr}{fd:FuncData}{x:Str}{sp:Sp}{s₁:Shared}{vs:List Value}{ns:List Int}
    (KX:K.In s₁.heap) (hns:s₁.heap.Ns mainGlobals mg) (hb:s₁.heap.Ns builtinsNs mb) (hbb:∀x:Str,x≠"__name__"->mb x=bootBuiltins x) (hlim:s₁.heap.NoLimit) (hg:s₁.gens= #[])
    (ha:s₁.heap.get? a=some {cls:=.type "list",data:=.seq vs.toArray}) (hi:IntsAre vs ns) (hl:ns.length<=sizeLine) (hr:Room k callerA)
    (F:∀base:Heap,K.In base->base.Ns mainGlobals mg->FnOk P w K mg base CX k fa fd [x] sp) (hbind:∀(s:Shared) (u:Value),BindsTo s fd ⟨[u],[]⟩ [(x,u)])
    (hsp:∀H:Hp,Only H->bC K H a (ns.map V.int)->sp [.ref a] H (fun v _=>v=.bl true) fun _ _ _=>False)
    (hCX:∀H e s',CX [] H s₁ (fun _ _ _=>False) e s'->False):
    codeAny (model P w) callerA (.call (.ref fa) ⟨[.ref a],[]⟩) (fun r s'=>r=.ok (.ret (.bool true))/\OldK s₁.heap s'.heap/\s'.os=s₁.os/\AllBare s'.gens) s₁:=by
  have rv:=Nz hi;have lenV:=hi.length
  -- from an abstract heap in which nothing but the script may be tracked
  have core:∀H:Hp,Only H->bC K H a (ns.map V.int)->bN P w H s₁.heap->(∀b,H b≠none->b=a)->(H a≠none->K.lookup a=none)->
      codeAny (model P w) callerA (.call (.ref fa) ⟨[.ref a],[]⟩) (fun r s'=>r=.ok (.ret (.bool true))/\OldK s₁.heap s'.heap/\s'.os=s₁.os/\AllBare s'.gens) s₁:=by
    intro H hO hS hok hA hK;have base_of:∀{b:Addr} {o:Obj},s₁.heap.get? b=some o->H b=none->(d8 s₁.heap H).get? b=some o:=fun e n=>QJ e n;have noA:∀{b:Addr} {o:Obj} {es:Array DictEntry} {ep:Nat},s₁.heap.get? b=some o->o.data=.dict es ep->H b=none:=fun {b o es ep} e d=>by
      cases q:H b with
      |none=>rfl
      |some u=>
        have e':b=a:=hA b (by rw[q];simp);subst e';rw[ha]at e;cases e;have d':Data.seq vs.toArray _=Data.dict es ep:=d;cases d'
    have nsK : ∀ {b : Addr} {m : Mgx}, s₁.heap.Ns b m -> (d8 s₁.heap H).Ns b m := fun {b m} ⟨o, es, ep, e, d, r⟩ => ⟨o, es, ep, base_of e (noA e d), d, r⟩;have hKb : K.In (d8 s₁.heap H) := fun b o e => base_of (KX b o e) (by
      cases q:H b with
      |none=>rfl
      |some u=>
        have e':b=a:=hA b (by rw[q];simp);subst e';rw[hK (by rw[q];simp)]at e;cases e)
    have hM:Mod K mg (d8 s₁.heap H):=⟨hKb,nsK hns,⟨mb,nsK hb,hbb⟩,let ⟨mc,h1,h2⟩:=hlim;⟨mc,nsK h1,h2⟩⟩
    have e0:Env0 P w K mg (d8 s₁.heap H) callerA [] s₁ H:=⟨rfl,hM,fun b o e=>Ur e,xek (QK _ _),trivial,fun b hb=>absurd (show b∈([]:List Addr) from hb) (by simp),hok,.of_eq hg⟩;refine xdy ((F _ hKb (nsK hns)).run callerA [] s₁ H ⟨[.ref a],[]⟩ [.ref a] [.ref a] _ _ hr e0 (hbind s₁ (.ref a)) (.cons rfl .nil) (hsp H hO hS)) fun r s' h=>?_
    cases r with
    |error e=>exact(hCX H e s' h).elim
    |ok fl=>
      cases fl with
      |next=>exact False.elim h
      |brk=>exact False.elim h
      |cont=>exact False.elim h
      |ret u=>
        obtain⟨v,H',os,bare,un,hok',r',q⟩:=h;have q':v=.bl true:=q;subst q';obtain rfl:u=Value.bool true:=r';refine⟨rfl,OldK.of_keep fun b o e=>?_,os,bare⟩
        cases q:H b with
        |none=>exact un.keep b o e q (by intro z;exact absurd (show b∈([]:List Addr) from z) (by simp)) (by simp)
        |some u=>
          rcases hO b with z |⟨ob,xs,z⟩
          · rw[q]at z;cases z
          · have z2:=un.frzs b ob _ z;obtain⟨e1,_⟩:=hok b _ z;obtain⟨e2,_⟩:=hok' b _ z2;rw[e]at e1;cases e1;exact e2
  cases hk:K.lookup a with
  |some o=>
    -- the script is one of the module's own objects
    have e:=KX a o hk;rw[ha]at e;cases e;refine core (fun _=>none) (fun _=>.inl rfl) (.inr ⟨_,vs.toArray,_,hk,rfl,rfl,rfl,by rw[xah,lenV];exact hl,by simpa using rv⟩) (fun b u z=>by have z':(none:Option HO)=some u:=z;cases z') (fun b z=>absurd rfl z) fun z=>absurd rfl z
  |none=>
    refine core (fun b=>if b=a then some (.frz {cls:=.type "list",data:=.seq vs.toArray} (.lst (ns.map V.int))) else none) (fun b=>?_) (.inl (.inr ⟨{cls:=.type "list",data:=.seq vs.toArray},xaa rfl⟩)) (fun b u z=>?_) (fun b z=>?_) fun _=>hk
    · by_cases hb:b=a
      · exact .inr ⟨_,_,xaa hb⟩
      · exact .inl (xad hb)
    · by_cases hb:b=a
      · have z':=(xaa hb).symm.trans z;cases z';subst hb;exact⟨ha,by rw[xae];exact hl,vs,_,rv,ha⟩
      · have z':=(xad hb).symm.trans z;cases z'
    · by_cases hb:b=a
      · exact hb
      · exact absurd (xad hb) z
theorem zaT {l:PySem.W.OpenLaw}{n k:Nat}{q:Program}{loose:List Str}{XP:(Mgx)->Heap->Prop}{YP:World->Heap->Prop}{d:DefRec}{K:Params->Fgx}{CX:World->eH}{sp:World->Sp}{x:Str}
  (hn:l.most=some n) (hn2:n<=sizeLine) (hdf:d.params.defaults=[]) (hr:Room k callerA)
  (hY:∀(w:World) (h:Heap),YP w h->(K w.params).In h)
  (F:∀(w:World) (mg:Mgx) (fa:Addr) (h:Heap),(K w.params).In h->h.Ns mainGlobals mg->mg d.name=some (.ref fa)->
   ∃fd:FuncData,(∀(s:Shared) (u:Value),BindsTo s fd ⟨[u],[]⟩ [(x,u)])/\
    ∀base:Heap,(K w.params).In base->base.Ns mainGlobals mg->FnOk l.prog w (K w.params) mg base (CX w) k fa fd [x] (sp w))
  (hsp:∀(w:World) (H:Hp) (a:Addr) (ns:List Int),ns.length<=n->Only H->bC (K w.params) H a (ns.map V.int)->sp w [.ref a] H (fun v _=>v=.bl true) fun _ _ _=>False)
  (hCX:∀(w:World) (H:Hp) (s:Shared) (e:Value) (s':Shared),CX w [] H s (fun _ _ _=>False) e s'->False):
  PySem.W.WalkO q loose XP YP l.row.toRowW d [] (fun f vs=>PySem.call f vs):=by
 refine Att.Oq hn hdf fun w s₀ s₁ mg mb fa o pm cd doc a vs ns G Y ho hd hcd hmg hobj hints hlen hg=>?_;have KX:=hY w _ Y;obtain⟨fd,hb,hF⟩:=F w mg fa _ KX G.T.g hmg;exact RN KX G.T.g G.T.b G.T.builtins G.T.nolimit hg hobj hints (xao hlen hn2) hr hF hb (fun H hO hS=>hsp w H a ns hlen hO hS) fun H e s'=>hCX w H s₁ e s'
theorem zaA {l:PySem.W.OpenLaw}{n k:Nat}{q:Program}{loose:List Str}{XP:(Mgx)->Heap->Prop}{YP:World->Heap->Prop}{d:DefRec}{K:Params->Fgx}{CX:eH}{sp:Fgx->Sp}{x:Str}
  (hn:l.most=some n) (hn2:n<=sizeLine) (hdf:d.params.defaults=[]) (hr:Room k callerA)
  (hY:∀(w:World) (h:Heap),YP w h->(K w.params).In h)
  (F:∀(w:World) (mg:Mgx) (fa:Addr) (h:Heap),(K w.params).In h->h.Ns mainGlobals mg->mg d.name=some (.ref fa)->
   ∃fd:FuncData,(∀(s:Shared) (u:Value),BindsTo s fd ⟨[u],[]⟩ [(x,u)])/\
    ∀base:Heap,(K w.params).In base->base.Ns mainGlobals mg->FnOk l.prog w (K w.params) mg base CX k fa fd [x] (sp (K w.params)))
  (hsp:∀(K:Fgx) (H:Hp) (a:Addr) (ns:List Int),ns.length<=n->Only H->bC K H a (ns.map V.int)->sp K [.ref a] H (fun v _=>v=.bl true) fun _ _ _=>False)
  (hCX:∀(H:Hp) (s:Shared) (e:Value) (s':Shared),CX [] H s (fun _ _ _=>False) e s'->False):
  PySem.W.WalkO q loose XP YP l.row.toRowW d [] (fun f vs=>PySem.call f vs):=
 zaT (K:=K) (CX:=fun _=>CX) (sp:=fun w=>sp (K w.params)) hn hn2 hdf hr hY F (fun w H a ns h1 h2 h3=>hsp (K w.params) H a ns h1 h2 h3) fun _ H s e s'=>hCX H s e s'
noncomputable def cJ (s:Stmt):Arguments:=match s with
 |.FunctionDef _ a _ _ _ _ _ _ _ _=>a
 |_=>{posonlyargs:=[],args:=[],vararg:=none,kwonlyargs:=[],kw_defaults:=[],kwarg:=none,defaults:=[]}
noncomputable def bV (s:Stmt):List Stmt:=match s with
 |.FunctionDef _ _ b _ _ _ _ _ _ _=>b
 |_=>[]
noncomputable def aR (s:Stmt):Scope:=match s with
 |.FunctionDef _ _ _ _ _ _ sc _ _ _=>sc
 |_=>{kind:=.function,names:=[],isGenerator:=false,isCoroutine:=false}
abbrev fH:eH:=fun _ _ _ _ _ _=>False
abbrev E0:XK:=fun _ _ _=>False
theorem Vj {X:Cx}:Passes fH X E0:=fun _ _ _ _ _ _ _ h=>h.elim
structure Fun (K:Fgx)(x qual:Str)(st:Stmt)(f:Addr)(fd:FuncData):Prop where
 ex:∃(oc:Value) (od:Option Addr) (kV doc pm:Value) (an:Option Addr) (cdv ct:Value) (osl:Array (Option Value)),
  fd=PySem.W.fnOf x qual (cJ st) (bV st) (aR st) .none kV doc pm an cdv ct/\K.lookup f=some ⟨oc,od,.func fd,osl⟩/\PySem.W.codeIn K cdv qual=true
 kp:PySem.W.keepIn K (.ref f)=true
section
variable {P:Program}{w:World}{K:Fgx}{mg:Mgx}{base:Heap}
theorem Fun.binds {x qual:Str}{st:Stmt}{f:Addr}{fd:FuncData}{ps:List Str}(F:Fun K x qual st f fd)
  (h:∀(kV doc pm:Value) (an:Option Addr) (cdv ct:Value) (us:List Value),us.length=ps.length->bindArgs (PySem.W.fnOf x qual (cJ st) (bV st) (aR st) .none kV doc pm an cdv ct) ⟨us,[]⟩=pure (ps.zip us)):Binds K fd ps []:=by
 obtain⟨oc,od,kV,doc,pm,an,cdv,ct,osl,rfl,lk,hcd⟩:=F.ex;exact .all (h kV doc pm an cdv ct)
theorem JF {x qual:Str}{st:Stmt}{f:Addr}{oc:Value}{od an:Option Addr}{osl:Array (Option Value)}{kV doc pm cdv ct:Value}(l:K.lookup f=some ⟨oc,od,.func (PySem.W.fnOf x qual (cJ st) (bV st) (aR st) .none kV doc pm an cdv ct),osl⟩)
  (c:PySem.W.codeIn K cdv qual=true) (k:PySem.W.keepIn K (.ref f)=true):Fun K x qual st f (PySem.W.fnOf x qual (cJ st) (bV st) (aR st) .none kV doc pm an cdv ct):=⟨⟨oc,od,kV,doc,pm,an,cdv,ct,osl,rfl,l,c⟩,k⟩
end
def Same (H H':Hp):Prop:=∀b o,H b=some o->H' b=some o
theorem Same.refl (H:Hp):Same H H:=fun _ _ h=>h
theorem Same.free {H H':Hp}(e:Same H H'){l:Addr}(h:H' l=Option.none):H l=Option.none:=by
  cases q:H l with
  |none=>rfl
  |some o=>
    rw[e l o q]at h;cases h
end L2
set_option maxHeartbeats 0
namespace L2
open PySem PySem.Spec PyProof.Rows
section
variable {κ:Type}[DecidableEq κ]
noncomputable def bK (kvs:List (κ×V)) (k:κ):Option V:=(kvs.find? fun kv=>decide (kv.1=k)).map (·.2)
noncomputable def putK (kvs:List (κ×V)) (k:κ) (v:V):List (κ×V):=
 if (kvs.any fun kv=>decide (kv.1=k))=true then kvs.map (fun kv=>if kv.1=k then(kv.1,v) else kv) else kvs ++ [(k,v)]
theorem Hj {p:κ×V}{r:List (κ×V)}{k:κ}(e:p.1=k):bK (p::r) k=some p.2:=by simp[bK,xbY,e]
theorem Hi {p:κ×V}{r:List (κ×V)}{k:κ}(e:¬ p.1=k):bK (p::r) k=bK r k:=by simp[bK,xbY,e]
theorem Ny (k:κ):∀kvs:List (κ×V),(kvs.any fun kv=>decide (kv.1=k))=(bK kvs k).isSome
  | []=>rfl
  |p::r=>by
    rw[xcc]
    by_cases e:p.1=k
    · simp only[Hj e,xaW e,Bool.true_or,Option.isSome_some]
    · rw[Hi e,xaC e,Bool.false_or];exact Ny k r
theorem R3 (kvs:List (κ×V))(k:κ)(v:V):(putK kvs k v).length<=kvs.length + 1:=by
 unfold putK
 split
 ·rw[xae];omega
 ·rw[xaq,xaF,xbz];omega
theorem dW.isSome_eq {o:Option V}{u:Option Value}(r:dW o u):o.isSome=u.isSome:=by
  cases o with
  |none=>cases u with
    |none=>rfl
    |some _=>exact(show False from r).elim
  |some _=>cases u with
    |none=>exact(show False from r).elim
    |some _=>rfl
end
theorem Rp {P:Program}{w:World}{k:Key}{u:Value}(r:RelV (kV k) u):(f9 P w).is k u=true:=by
 cases k with
 |inl i=>obtain⟨t,e⟩:=(show ∃t,u=Value.int i t from r);subst e;exact Sw P w i t
 |inr x=>obtain⟨t,e⟩:=(show ∃t,u=Value.str x t from r);subst e;exact Sx P w x t
theorem Dv {P:Program}{w:World}:∀{ks:List Key} {us:List Value},Vals (ks.map kV) us->ItemsAre (f9 P w) ks us
  | [],_,r=>by rw[xcZ]at r;cases r;exact .nil
  |k::ks,_,r=>by
    rw[xay]at r
    cases r with
    |cons h t=>exact .cons (Rp h) (Dv t)
abbrev KT (H:Hp):List (List Key×V)->List (List Key×Addr×Value)->Prop:=Paired fun p q=>p.1=q.1/\H q.2.1=some (.tup (p.1.map kV))/\RelV p.2 q.2.2
theorem KT.val {H:Hp}{kvs:List (List Key×V)}{xs:List (List Key×Addr×Value)}(r:KT H kvs xs)(k:List Key):dW (bK kvs k) ((atKey xs k).map (·.2)):=by
  induction r with
  |nil=>exact True.intro
  | @cons p q ps qs h t ih=>
    obtain⟨h1,_,h2⟩:=h
    by_cases e:p.1=k
    · have e':q.1=k:=h1.symm.trans e;have b:atKey (q::qs) k=some q.2:=by simp[atKey,xbY,e']
      rw[Hj e,b];exact h2
    · have e':¬ q.1=k:=fun z=>e (h1.trans z);have b:atKey (q::qs) k=atKey qs k:=by simp[atKey,xbY,e']
      rw[Hi e,b];exact ih
theorem KT.repl {H:Hp}{kvs:List (List Key×V)}{xs:List (List Key×Addr×Value)}(r:KT H kvs xs)(k:List Key){y:V}{u:Value}(ry:RelV y u):
    KT H (kvs.map fun kv=>if kv.1=k then(kv.1,y) else kv) (xs.map (putAt k u)):=by
  induction r with
  |nil=>exact .nil
  | @cons p q ps qs h t ih=>
    rw[xay,xay];refine .cons ?_ ih;obtain⟨h1,h2,h3⟩:=h;unfold putAt
    by_cases e:p.1=k
    · rw[xaa e,xaa (h1.symm.trans e)];exact⟨h1,h2,ry⟩
    · rw[xad e,xad (fun z=>e (h1.trans z))];exact⟨h1,h2,h3⟩
theorem KT.put {H:Hp}{kvs:List (List Key×V)}{xs:List (List Key×Addr×Value)}(r:KT H kvs xs)(k:List Key){b:Addr}{y:V}{u:Value}(hb:H b=some (.tup (k.map kV)))(ry:RelV y u):
  KT H (putK kvs k y) (storedH xs k b u):=by
 have e:(kvs.any fun kv=>decide (kv.1=k))=(atKey xs k).isSome:=by
  rw[Ny,(r.val k).isSome_eq,Option.isSome_map]
 unfold putK storedH;rw[e]
 by_cases q:(atKey xs k).isSome=true
 ·rw[xaa q,xaa q];exact r.repl k ry
 ·rw[xad q,xad q];exact Paired.snoc r ⟨rfl,hb,ry⟩
theorem KT.keeps {H H':Hp}{kvs:List (List Key×V)}{xs:List (List Key×Addr×Value)}(r:KT H kvs xs)(ht:∀b ys,H b=some (.tup ys)->H' b=some (.tup ys)):KT H' kvs xs:=
 Paired.mapP r fun _ _ z=>⟨z.1,ht _ _ z.2.1,z.2.2⟩
section
variable {P:Program}{w:World}{H:Hp}{h:Heap}{a:Addr}
theorem Y5 {u:HO}(ok:bN P w H h)(e:Rd H a u):cA P w H h a u:=e.ok ok
theorem J0 {ks:List Key}(ok:bN P w H h)(e:H a=some (.tup (ks.map kV))):(tupleKind (f9 P w)).is h ks a:=by
 obtain⟨_,its,r,o,h1,h2,n,h3⟩:=(show cA P w H h a (.tup (ks.map kV)) from ok a _ e);exact⟨o,its.toArray,n,h1,h2,h3,by simpa using Dv r⟩
theorem Ji {kvs:List (List Key×V)}(ok:bN P w H h)(e:Rd H a (.dT kvs)):kvs.length<=sizeLine/\(a==sysModules)=false/\
    ∃xs,KT H kvs xs/\h.DictOfH (tupleKind (f9 P w)) a xs:=by
  obtain⟨z,y,xs,r,o,es,ep,h1,h2,h3,h4,h5⟩:=(show cA P w H h a (.dT kvs) from Y5 ok e);refine⟨z,y,xs,r,o,es,ep,h1,h2,h3,h4,fun x hx=>?_,h5⟩;have all:∀{l:List (List Key×V)} {m:List (List Key×Addr×Value)},KT H l m->∀x∈m,(tupleKind (f9 P w)).is h x.1 x.2.1:=by
    intro l m q
    induction q with
    |nil=>intro x hx;exact nomatch hx
    | @cons p q ps qs hq t ih=>
      intro x hx;rcases xan.mp hx with e |hx
      · subst e;exact J0 ok (by rw[<-hq.1];exact hq.2.1)
      · exact ih x hx
  exact all r x hx
theorem PL {kvs:List (List Key×V)}(ok:bN P w H h)(e:H a=some (.dT kvs)):kvs.length<=sizeLine/\(a==sysModules)=false/\
  ∃xs,KT H kvs xs/\h.DictOfH (tupleKind (f9 P w)) a xs:=Ji ok (.inl e)
end
def N8 (H:Hp)(a:Addr)(y:V)(r:Option V):Prop:=
 (∃kvs k,Rd H a (.dK kvs)/\y=kV k/\r=bK kvs k)\/∃kvs k b,Rd H a (.dT kvs)/\y=.ref b/\H b=some (.tup (k.map kV))/\r=bK kvs k
def N_ (H:Hp)(a:Addr)(y v:V)(H':Hp):Prop:=
 (∃kvs k,H a=some (.dK kvs)/\y=kV k/\kvs.length<sizeLine/\H'=upd H a (.dK (putK kvs k v)))\/
 ∃kvs k b,H a=some (.dT kvs)/\y=.ref b/\H b=some (.tup (k.map kV))/\kvs.length<sizeLine/\H'=upd H a (.dT (putK kvs k v))
section
variable {X:Cx}{pins:Pnx}{σ:St}{H:Hp}{s:Shared}{a:Addr}{y v:V}{u r:Value}{o:Option V}{A:Around}{E:Value->Shared->Prop}
theorem Inv.big (I:Inv X pins σ H s):sysModules<s.heap.objs.size:=by
 have h:mainGlobals<s.heap.objs.size:=(I.mod.glob.keeps I.bk).lt;exact Nat.lt_trans (by decide) h
theorem Pu {h':Heap}{t':Nat}{ob:HO}(I:Inv X pins σ H s)(mu:vg (H a))(hs:Heap.SameBut a s.heap h')(he:∃q,h'.get? a=some q)(new:cA X.prog X.w (upd H a ob) h' a ob):
  Inv X pins σ (upd H a ob) {s with heap:=h',toks:=t'}:=
 I.write (x:=a) (e:=a) mu (.inl rfl) (fun b q hb z=>(hs.2 b hb).trans z) he new
end
def pC (i:Expr):Prop:=∀ov iv,subscripted i false ov iv=operate [ov,iv] (getItem ov iv)
theorem zaM {prog:Program}{w:World}{A:Around}{E:Value->Shared->Prop}{s:Shared}{env:Env}{value slice:Expr}{pos:Pos}{T id:String}{Q:Value->Shared->Prop}
  (hl:typeLookup (.type T) "__getitem__"=pure (some (.builtin id))) (hs:pC slice)
  (h:wpAny (model prog w) A (eval value env) (fun o s₁=>wpAny (model prog w) A (eval slice env) (fun i s₂=>s₂.TypeIs o T/\wpAny (model prog w) A (getItem o i) Q E s₂) E s₁) E s):
  wpAny (model prog w) A (eval (.Subscript value slice pos) env) Q E s:=by
 refine Subscript_ (xaR h (fun o s₁ h₁=>xaR h₁ (fun i s₂ h₂=>?_) fun _ _ x=>x) fun _ _ x=>x);obtain⟨hT,h₂⟩:=h₂;unfold subscriptTail;refine tG ?_;rw[getitemInPython_of_ne hT.not_modules];refine tG (xdP hT hl ?_);have fin:wpAny (model prog w) A (subscripted slice false o i) (fun r s₃=>wpAny (model prog w) A (letTemporaryGo value o r >>=fun _=>pure r) Q E s₃) E s₂:=by
  rw[hs o i];exact wpAny_operating (xaR h₂ (fun r s₃ h₃=>tG (wpAny_letTemporaryGo (xac h₃))) fun _ _ x=>x)
 first
  |exact xac (tG fin)
  |exact tG (xac (tG fin))
  |exact tG fin
noncomputable def zb3 (kvs more:List (Key×V)):List (Key×V):=more.foldl (fun acc kv=>putK acc kv.1 kv.2) kvs
structure M1 (X:Cx)(o:Expr)(m:Str)(apos:Pos)(e:Expr)(cpos:Pos):Prop where
 base:attributeBase o m X.env (eval o X.env)=eval o X.env
 few : ((backTo cpos (starEach [e] X.env)).all (fun x=> !x.1) && (backToKw cpos (keywordEach [] X.env)).all (fun x=>x.1.isSome)
  && decide (([e]:List Expr).length + ([]:List Keyword).length + (if ([]:List Keyword).isEmpty then 0 else 1)<30))=true
 line:(apos.endLine==cpos.line)=true
 trees:backTo cpos (starEach [e] X.env)=[(false,eval e X.env)]
structure M2 (X:Cx)(o:Expr)(m:Str)(apos:Pos)(e f:Expr)(cpos:Pos):Prop where
 base:attributeBase o m X.env (eval o X.env)=eval o X.env
 few : ((backTo cpos (starEach [e,f] X.env)).all (fun x=> !x.1) && (backToKw cpos (keywordEach [] X.env)).all (fun x=>x.1.isSome)
  && decide (([e,f]:List Expr).length + ([]:List Keyword).length + (if ([]:List Keyword).isEmpty then 0 else 1)<30))=true
 line:(apos.endLine==cpos.line)=true
 trees:backTo cpos (starEach [e,f] X.env)=[(false,eval e X.env),(false,eval f X.env)]
end L2
namespace Att
open PySem PySem.W PySem.Calls PyProof.Rows
end Att
namespace L2
open PySem PySem.Spec PyProof.Rows
section
variable {X:Cx}
def Lh:V->List V->Hp->VK->Prop:=fun x vs H Q=>∃z y i rest,x=.str z/\vs=[.str y]/\Builtin.Str.occurrences z y 0 z.length 1=i::rest/\Q (.int (i:Nat)) H
theorem SJ:yL X "str.index" Lh:=by
 intro pins s σ H x vs v us Q I rx rv h;obtain⟨z,y,i,rest,rfl,rfl,ho,q⟩:=h;obtain⟨t,rfl⟩:=rx;obtain⟨u,rfl,t',rfl⟩:=rv.one;exact call_givesAt (P:=fun _=>True) F.slot_str_index (xd6 _ _ _) F.entry_str_index (F.args_str_index_2 _ _) (fun prog w A R s _ h=>gives_str_index z y t t' i rest ho prog w A R s h) True.intro ⟨.int _,H,I.tok _,⟨_,rfl⟩,q⟩
def Fw:V->Option Int->Option Int->Hp->VK->Prop:=fun x lo hi H Q=>∃z,x=.str z/\z.length<=sizeLine/\Q (.str (Txt.slice z lo hi)) H
theorem ZG:ni X Fw:=by
 intro pins s σ H x v vl vu lo hi sl Q I rx hs pl pu h;obtain⟨z,rfl,hz,q⟩:=h;obtain⟨t,rfl⟩:=rx;refine⟨"str",_,F.slot_str_getitem.lookup,xd6 _ _ _,?_⟩;obtain⟨o,ho,hc,hd⟩:=hs;cases pl<;>cases pu
 ·exact xcb (l:=none) (u:=none) (st:=none) ⟨o,ho,hc,hd⟩ rfl (xc1 ⟨xao (xdz z none none) hz,fun t' k=>⟨.str _,H,I.tok _,⟨_,rfl⟩,q⟩⟩)
 ·rename_i j uj;exact xcb (l:=none) (u:=some (j,uj)) (st:=none) ⟨o,ho,hc,hd⟩ rfl (xc1 ⟨xao (xdz z none (some j)) hz,fun t' k=>⟨.str _,H,I.tok _,⟨_,rfl⟩,q⟩⟩)
 ·rename_i i ui;exact xcb (l:=some (i,ui)) (u:=none) (st:=none) ⟨o,ho,hc,hd⟩ rfl (xc1 ⟨xao (xdz z (some i) none) hz,fun t' k=>⟨.str _,H,I.tok _,⟨_,rfl⟩,q⟩⟩)
 ·rename_i i ui j uj;exact xcb (l:=some (i,ui)) (u:=some (j,uj)) (st:=none) ⟨o,ho,hc,hd⟩ rfl (xc1 ⟨xao (xdz z (some i) (some j)) hz,fun t' k=>⟨.str _,H,I.tok _,⟨_,rfl⟩,q⟩⟩)
theorem U9:bB X (compareOp .Is) (fun x y H Q=>∃b,y=.bl b/\Q (.bl (decide (x=.bl b))) H):=by
 intro pins s σ H x y v u Q I rx ry h;obtain⟨b,rfl,q⟩:=h;cases ry
 cases x with
 |bl c=>cases rx;exact xac (bf I q (by cases b<;>cases c<;>rfl))
 |non=>cases rx;exact xac (bf I q (by simp))
 |int _=>obtain⟨t,rfl⟩:=rx;exact xac (bf I q (by simp))
 |str _=>obtain⟨t,rfl⟩:=rx;exact xac (bf I q (by simp))
 |byt _=>obtain⟨t,rfl⟩:=rx;exact xac (bf I q (by simp))
 |flt _=>obtain⟨t,rfl⟩:=rx;exact xac (bf I q (by simp))
 |ref _=>cases rx;exact xac (bf I q (by simp))
 |ty _=>cases rx;exact xac (bf I q (by simp))
theorem Va:bB X (compareOp .IsNot) (fun x y H Q=>∃b,y=.bl b/\Q (.bl (!decide (x=.bl b))) H):=by
 intro pins s σ H x y v u Q I rx ry h;obtain⟨b,rfl,q⟩:=h;cases ry
 cases x with
 |bl c=>cases rx;exact xac (bf I q (by cases b<;>cases c<;>rfl))
 |non=>cases rx;exact xac (bf I q (by simp))
 |int _=>obtain⟨t,rfl⟩:=rx;exact xac (bf I q (by simp))
 |str _=>obtain⟨t,rfl⟩:=rx;exact xac (bf I q (by simp))
 |byt _=>obtain⟨t,rfl⟩:=rx;exact xac (bf I q (by simp))
 |flt _=>obtain⟨t,rfl⟩:=rx;exact xac (bf I q (by simp))
 |ref _=>cases rx;exact xac (bf I q (by simp))
 |ty _=>cases rx;exact xac (bf I q (by simp))
end
section
variable {X:Cx}{pins:Pnx}{σ:St}{H:Hp}{s:Shared}
noncomputable def wW (base h:Heap) (L:Addr):Pnx:=(List.range h.objs.size).filterMap fun b=>if b=L then none else if (base.get? b).isSome then none else(h.get? b).map fun o=>(b,o)
theorem Kq {base h:Heap}{L b:Addr}{o:Obj}(hL:b≠L)(hb:base.get? b=none)(e:h.get? b=some o):(b,o)∈wW base h L:=by
 unfold wW;rw[xcd];refine⟨b,xb3.mpr (xam e),?_⟩;rw[xad hL,hb,e]
 simp
theorem Us {base h:Heap}{L:Addr}{p:Addr×Obj}(hp:p∈wW base h L):h.get? p.1=some p.2/\p.1≠L/\base.get? p.1=none:=by
  unfold wW at hp;rw[xcd]at hp;obtain⟨b,_,e⟩:=hp
  by_cases hL:b=L
  · rw[xaa hL]at e;cases e
  · rw[xad hL]at e
    cases hb:base.get? b with
    |some u=>rw[hb]at e;simp at e
    |none=>
      rw[hb]at e
      cases hh:h.get? b with
      |none=>rw[hh]at e;simp at e
      |some u=>
        rw[hh]at e
        simp at e
        subst e;exact⟨hh,hL,hb⟩
theorem Inv.but {h':Heap}{tk:Nat}(I:Inv X pins σ H s)(k:∀b o,b≠X.env.locals->s.heap.get? b=some o->h'.get? b=some o)(ns:∀m,s.heap.Ns X.env.locals m->h'.Ns X.env.locals m):Inv X pins σ H {s with heap:=h',toks:=tk}:=by
 have hok : bN X.prog X.w H h' := fun a o e => (I.hok a o e).stay (fun b u hb q => k b u (fun z=>by
  subst z;have hn:=I.free;rcases hb with hb |hb
  ·rw[<-hb]at e;rw[hn]at e;cases e
  ·rw[hn]at hb;cases hb) q) (fun _ q=>q) fun _ _ q=>q
 exact I.step (g' := s.gens) (d' := s.drawn) (ch := []) (fun _ z => nomatch z) (fun b o hL _ _ e _ => k b o hL e) (fun b o hL _ _ e _ => ⟨o.slots, k b o hL e⟩) (fun b o _ _ n => n) (fun b o _ e=>by
  by_cases hL:b=X.env.locals
  ·subst hL;obtain⟨m,hn,_⟩:=I.loc;obtain⟨o',_,_,e',_⟩:=ns m hn;exact⟨o',e'⟩
  ·exact⟨o,k b o hL e⟩) (fun _ _ q=>q) (fun _ _ _ q=>q) (fun _ ps q=>⟨#[],by simpa using q⟩) ns hok I.bare
theorem Inv.via (I:Inv X pins σ H s):∃m news,Fr X.base X.env.locals s.heap m/\News X.base X.env.locals s.heap news/\
    (∀b o,b≠X.env.locals->X.base.get? b=none->s.heap.get? b=some o->(b,o)∈news)/\
    ∀(h':Heap) (tk:Nat),Fr X.base X.env.locals h' m->News X.base X.env.locals h' news->(∀b o,b≠X.env.locals->s.heap.get? b=some o->h'.get? b=some o)/\Inv X pins σ H {s with heap:=h',toks:=tk}:=by
  obtain⟨m,F⟩:=I.fr;refine⟨m,wW X.base s.heap X.env.locals,F,fun p hp=>Us hp,fun b o hL hb e=>Kq hL hb e,fun h' tk F' N'=>?_⟩;have k:∀b o,b≠X.env.locals->s.heap.get? b=some o->h'.get? b=some o:=fun b o hL e=>by
    cases hb:X.base.get? b with
    |some u=>
      have e1:=I.bk b u hb;rw[e]at e1;cases e1;exact F'.keep b o hb
    |none=>exact(N' (b,o) (Kq hL hb e)).1
  refine⟨k,I.but k fun m' hm=>?_⟩;have:m'=m:=by
    obtain⟨o,es,ep,e,d,_,f⟩:=hm;obtain⟨o',es',ep',e',d',_,f'⟩:=F.ns;rw[e]at e';cases e';rw[d]at d';cases d';funext x;rw[<-f x, <-f' x]
  subst this;exact F'.ns
theorem Dm {ns:List Int}:∀{us:List Value},Vals (ns.map V.int) us->IntsAre us ns:=by
  induction ns with
  |nil=>intro us h;cases us with
    |nil=>exact .nil
    |cons u us=>cases h
  |cons n ns ih=>intro us h;cases us with
    |nil=>cases h
    |cons u us=>
      cases h with
      |cons a b=>
        obtain⟨t,rfl⟩:=a;exact .cons _ _ (ih b)
theorem O7:X.calm=true->cZ X (.builtin "sum") (fun xs H Q=>∃(p:Addr) (is:List Int),xs=[.ref p]/\bC X.K H p (is.map V.int)/\Q (.int is.sum) H):=by
 intro hc pins s σ H xs us Q I r h;obtain⟨p,is,rfl,hq,q⟩:=h;obtain⟨u,rfl,rx⟩:=vals1 r;cases rx;obtain⟨its,rv,pl,hz⟩:=I.list hq;obtain⟨m,news,F,N,_,back⟩:=I.via;refine LSm.sum_ints F N (I.ok.hd hc) pl.isList (Dm rv) fun h' tk t' F' N'=>?_;exact⟨.int is.sum,H,(back h' tk F' N').2,⟨t',rfl⟩,q⟩
end
theorem Zb:typeLookup (Value.type "list_reverseiterator") (Str.ofString "__len__")=pure none:=by
 rw[typeLookup_type,builtinLookup_eq_fast];kernel_rfl
theorem Y9:typeLookup (Value.type "list_reverseiterator") (Str.ofString "__length_hint__")=pure (some (Value.builtin "list_reverseiterator.__length_hint__")):=by
 rw[typeLookup_type,builtinLookup_eq_fast];kernel_rfl
section
variable {prog:Program}{w:World}{A:Around}{s:Shared}
theorem Zc {I:Addr}{E:Value->Shared->Prop}{Q:Bool->Shared->Prop}(hT:s.TypeIs (.ref I) "list_reverseiterator")(h:Q false s):wpAny (model prog w) A (Builtin.List.listLengthHint (.ref I)) Q E s:=by
 unfold Builtin.List.listLengthHint;refine tG (xdP hT Zb ?_);refine tG (xdP hT Y9 ?_);have hs:splitId "list_reverseiterator.__length_hint__"=some ("list_reverseiterator","__length_hint__"):=by kernel_rfl
 simp only[hs];refine tG (xdA hT (b:=true) (by kernel_rfl) ?_);rw[xad (by decide),xaa (by kernel_rfl),xad (by decide)];exact xac h
theorem Y8 {R:Result->Shared->Prop}{I:Addr}{fp wr:List Addr}{G:Array GenState->Array GenState->Prop}{n:Nat}{P:Nat->Value->Prop}{St:Nat->Shared->Prop}(W:WalksS prog w A.in1 I fp wr G n P St)(hT:∀i s,St i s->s.TypeIs (.ref I) "list_reverseiterator")
  (S:Addr) (res:Value) (c₀:Nat) (hst:St 0 s) (hSf:S∉fp) (hI:I∈fp) (hS:s.heap.get? S=some {cls:=.type "list",data:=.seq #[] c₀})
  (hR:∀(s':Shared) (acc':Array Value) (c':Nat),Moved (S::wr) G s s'->s'.heap.get? S=some {cls:=.type "list",data:=.seq acc' c'}->ItemsOf P acc' n->R (.ok (.ret res)) s') (hn:n<=sizeLine):
  wpAny (model prog w) A.in1 (Builtin.List.listExtendWith (.ref S) (.ref I) res) (fun fin s'=>match fin with
   |.done f=>R (.ok f) s'
   |.again c'=>c'.quiet=true/\codeAny (model prog w) A c' R s') (fun e s'=>R (.error e) s') s:=by
 have hSI:S≠I:=fun e=>hSf (e ▸ hI);unfold Builtin.List.listExtendWith;refine tG (wpAny_typeOf (hT 0 s hst) ?_);have h1:Builtin.List.listSameRef (.ref S) (.ref I)=false:=by
  show(S==I)=false
  simpa using hSI
 rw[xad (by rw[h1];decide)];refine tG (W.self 0 s _ _ hst ?_);refine tG (xb0 (Zc (hT 0 s hst) ?_));rw[xad (by x_go)];exact xac ⟨plainId_quiet F.plain_extend_loop {pos:=[.ref S,.ref I,res]},codeAny_extend_loopS W hn S hSf res n 0 s #[] c₀ (xel n) (xa8 n) hst hS ⟨rfl,fun i v h=>by simp at h⟩ hR⟩
theorem Y_ {R:Result->Shared->Prop}{I:Addr}{fp wr:List Addr}{G:Array GenState->Array GenState->Prop}{n:Nat}{P:Nat->Value->Prop}{St:Nat->Shared->Prop}(W:WalksS prog w A.in1 I fp wr G n P St)(hT:∀i s,St i s->s.TypeIs (.ref I) "list_reverseiterator")
  (S:Addr) (hst:St 0 s) (hSf:S∉fp) (hI:I∈fp) (hS:s.heap.get? S=some {cls:=.type "list",data:=.seq #[]})
  (hR:∀(s':Shared) (acc':Array Value) (c':Nat),Moved (S::wr) G s s'->s'.heap.get? S=some {cls:=.type "list",data:=.seq acc' c'}->ItemsOf P acc' n->R (.ok (.ret .none)) s') (hn:n<=sizeLine):
  wpAny (model prog w) A.in1 (Builtin.«list.__init__» { pos := [.ref S, .ref I] }) (fun fin s'=>match fin with
   |.done f=>R (.ok f) s'
   |.again c'=>c'.quiet=true/\codeAny (model prog w) A c' R s') (fun e s'=>R (.error e) s') s:=by
 unfold Builtin.«list.__init__»;refine tG (tG (wpAny_seqItems hS rfl (xac (tG (wpAny_updateSeq hS rfl ?_ (by simp) (by simp))))));have hS₂:=xbZ (Obj.mapSeq fun _=> #[]) hS rfl;have oth:∀b o,b≠S->s.heap.get? b=some o->(s.heap.update S (Obj.mapSeq fun _=> #[])).get? b=some o:=fun b o hb e=>(xaU s.heap (Obj.mapSeq fun _=> #[]) (xbu hb)).trans e;refine tG (wpAny_letGo ?_);exact Y8 W hT S .none _ (W.frame 0 s _ s.toks hst (xab _) fun b hb o e=>oth b o (fun h=>hSf (h ▸ hb)) e) hSf hI hS₂ (fun s' acc' c' hm hS' hacc=>hR s' acc' c' (Moved.trans W.gtrans (Moved.then_heap (Moved.refl W.grefl) (xab _) fun b o hb e=>oth b o (fun h=>hb (h ▸ xau)) e) hm) hS' hacc) hn
theorem Za {E:Value->Shared->Prop}{I:Addr}{fp wr:List Addr}{G:Array GenState->Array GenState->Prop}{n:Nat}{P:Nat->Value->Prop}{St:Nat->Shared->Prop}{Q:Value->Shared->Prop}(W:WalksS prog w A.in1.in1 I fp wr G n P St)(hT:∀i s,St i s->s.TypeIs (.ref I) "list_reverseiterator")
  (hst:St 0 s) (hfp:∀b∈fp,b<s.heap.objs.size) (hI:I∈fp)
  (hQ:∀(s':Shared) (acc':Array Value) (c':Nat),Moved (s.heap.objs.size::wr) G {s with heap:=s.heap.push {cls:=.type "list",data:=.seq #[]}} s'->s'.heap.get? s.heap.objs.size=some {cls:=.type "list",data:=.seq acc' c'}->ItemsOf P acc' n->Q (.ref s.heap.objs.size) s') (hn:n<=sizeLine):
  wpAny (model prog w) A (call (.type "list") [.ref I]) Q E s:=by
 have hSf:s.heap.objs.size∉fp:=fun hm=>xbL _ (hfp _ hm);refine callType_codes F.called_list (F.typeCall_list_1 (.ref I)) F.entry_list_init (Q₁:=fun obj s₁=>obj=.ref s.heap.objs.size/\s₁={s with heap:=s.heap.push {cls:=.type "list",data:=.seq #[]}}) (code_list_new (.ref I) ⟨rfl,rfl⟩) fun obj s₁ h₁=>?_;obtain⟨rfl,rfl⟩:=h₁;have hS:=xaH s.heap (o:={cls:=.type "list",data:=.seq #[]}) rfl;exact⟨⟨_,hS,rfl⟩,F.args_list_init_2 _ _,Y_ W hT _ (W.frame 0 s _ s.toks hst (xab _) fun b _ o e=>xai _ e) hSf hI hS (fun s' acc' c' hm hS' hacc=>⟨rfl,hQ s' acc' c' hm hS' hacc⟩) hn⟩
end
section
variable {X:Cx}
theorem zaz:∀{xs:List V} {its:List Value},Vals xs its->∀acc:Array Value,acc.size=its.length->(∀j v,acc[j]? =some v->its[its.length - 1 - j]? =some v)->Vals xs.reverse acc.toList:=by
  intro xs its r acc hs h;have e:acc.toList=its.reverse:=by
    apply xdq;intro j
    by_cases hj:j<its.length
    · have h1:acc[j]? =some acc[j]:=xba (by omega);have h2:=h j _ h1;rw[xbi,h1,List.getElem?_reverse hj];exact h2.symm
    · rw[xa0 (by simpa using by omega),xa0 (by simpa using by omega)]
  rw[e];clear h hs e
  induction r with
  |nil=>exact .nil
  |cons a t ih=>
    rw[xck,xck];exact ih.append (.cons a .nil)
theorem Vw {e:Expr}{te:TE}{p p1 pos pos1:Pos}(hc:X.calm=true)(hgl:Gl X "list")(hml:X.mg "list"=none)(hg:Gl X "reversed")(hm:X.mg "reversed"=none)(he:PE X e te)(hs:starEach [e] X.env=[(false,eval e X.env)]):
    PE X (.Call (.Name "list" p1) [.Call (.Name "reversed" p) [e] [] pos] [] pos1) (fun σ H Q=>te σ H fun v H1=>∃a xs,[v]=[.ref a]/\bC X.K H1 a xs/\∀l,H1 l=none->Q (.ref l) (upd H1 l (.lst xs.reverse))):=by
  intro pins s σ H Q I h;have hA:PA X [e] (M9 te yx):=lN he nR hs;refine Call_ (sU I hgl hml boot_list (xbU ?_ rfl rfl));show wpAny _ _ (spliced [(false,eval (.Call (.Name "reversed" p) [e] [] pos) X.env)]) _ _ s;refine Calls.spliced_cons ?_;refine Call_ (sU I hg hm boot_reversed (xbU (aU (hA pos pins s σ H (fun vs H1=>∃a xs,vs=[.ref a]/\bC X.K H1 a xs/\∀l,H1 l=none->Q (.ref l) (upd H1 l (.lst xs.reverse))) I ?_) fun us s1 ⟨vs,H1,I1,r1,q1⟩=>?_) hs rfl))
  · exact h
  · obtain⟨b,xs,e0,hq,q⟩:=q1;subst e0;obtain⟨u,e1,ru⟩:=vals1 r1;subst e1;cases ru;obtain⟨its,rv,pl,hz⟩:=I1.list hq;refine call_reversed_list pl.isList ?_;refine Calls.spliced_nil ?_;have hp:b<s1.heap.objs.size:=by obtain⟨o,ho,_⟩:=pl.isList;exact xam ho
    have hneq:b≠s1.heap.objs.size:=xaD hp;have hz':(s1.heap.push (revObj b (↑its.toArray.size - 1))).objs.size=s1.heap.objs.size + 1:=by simp[Heap.push]
    have W:=(Walks.listRev (prog:=X.prog) (w:=X.w) (A:=X.A.in1.in1) (I1.ok.hd hc) s1.heap.objs.size b hneq its.toArray);refine Za W.toS ?_ ?_ ?_ ?_ ?_ ?_
    · rintro i s' ⟨_,⟨o,ho,hcl,_⟩,_⟩;exact⟨o,ho,hcl⟩
    · refine⟨xa8 _,⟨_,xaH _ rfl,rfl,?_⟩,pl.isList.at fun o e=>xai _ e⟩
      simp[revObj]
    · intro c hcm;show c<(s1.heap.push (revObj b (↑its.toArray.size - 1))).objs.size;rw[hz'];rcases xan.mp hcm with z |z
      · rw[z];exact xb5 _
      · have z':c=b:=by simpa using z
        rw[z'];exact xcl hp
    · exact xau
    · intro s' acc' c' hmv hS hit;have ea:(s1.heap.push (revObj b (↑its.toArray.size - 1))).objs.size=s1.heap.objs.size + 1:=hz';have kp:∀c o,s1.heap.get? c=some o->s'.heap.get? c=some o:=fun c o ec=>by
        have hlt:=xam ec;refine hmv.heap c o (fun z=>?_) (xai _ (xai _ ec));rcases xan.mp z with z |z
        · have z':c=(s1.heap.push (revObj b (↑its.toArray.size - 1))).objs.size:=z;rw[z',ea]at hlt;exact absurd hlt (xd7.mpr (xch _))
        · have z':c=s1.heap.objs.size:=by simpa using z
          rw[z']at hlt;exact absurd hlt (xbL _)
      have es:s'={s1 with heap:=s'.heap,toks:=s'.toks}:=by
        obtain⟨h0,g0,d0,t0,o0⟩:=s';have e1:g0=s1.gens:=hmv.gens;have e2:d0=s1.drawn:=hmv.drawn;have e3:o0=s1.os:=hmv.os;subst e1 e2 e3;rfl
      have hS':s'.heap.get? (s1.heap.objs.size + 1)=some {cls:=.type "list",data:=.seq acc' c'}:=ea ▸ hS;have rv':Vals xs.reverse acc'.toList:=zaz rv acc' (by rw[hit.1,xah]) fun j v hj=>by
        have:=hit.2 j v hj
        simpa using this
      have hfr:H1 (s1.heap.objs.size + 1)=none:=I1.hok.fresh (xch _);show EP X pins σ Q (Value.ref (s1.heap.push (revObj b (↑its.toArray.size - 1))).objs.size) s';rw[ea];have I2:=I1.laid (t':=s'.toks) (o:=.lst xs.reverse) kp (xch _) (show cA X.prog X.w _ s'.heap (s1.heap.objs.size + 1) (.lst xs.reverse) from⟨by rw[xb7];exact hz,acc'.toList,c',rv',by simpa using hS'⟩);rw[<-es]at I2;exact⟨.ref (s1.heap.objs.size + 1),_,I2,rfl,q _ hfr⟩
    · have:=rv.length;rw[xah, <-this];exact hz
end
section
variable {X:Cx}{pins:Pnx}{σ:St}{H:Hp}{s:Shared}
theorem Il:cZ X (.type "int") (fun xs H Q=>∃z n,xs=[.str z]/\intText? z=some n/\z.length<=640/\Q (.int n) H):=by
 intro pins s σ H xs us Q I r h;obtain⟨z,n,rfl,h1,h2,q⟩:=h;obtain⟨u,rfl,t,rfl⟩:=vals1 r;exact W.KIN.call_text h1 h2 ⟨.int n,H,I.tok _,⟨_,rfl⟩,q⟩
end
abbrev TJ:=Str->St->Hp->VK->Prop
theorem Jy {α β:Type}{f:α->β->Sem (ForInStep β)}(g:α->β->β):∀(l:List α) (b:β),(∀x∈l,∀b,f x b=pure (.yield (g x b)))->(forIn l b f:Sem β)=pure (l.foldl (fun b x=>g x b) b)
  | [],b,_=>rfl
  |x::l,b,h=>by
    rw[List.forIn_cons,h x xau b];simp only[pure_bind,xce];exact Jy g l (g x b) fun y hy=>h y (xak _ hy)
noncomputable def lD (cells:List (Str×Addr)) (cs:List (Str×Addr)) (x:Str×NameKind):List (Str×Addr):=if x.2=.free then(x.1,(cells.lookup x.1).getD 0)::cs else cs
noncomputable def fQ (cells:List (Str×Addr)) (names:List (Str×NameKind)):List (Str×Addr):=names.foldl (lD cells) []
theorem Iv {scope:Scope}{env:Env}(h:∀y∈scope.names,y.2=.free->∃c,env.cells.lookup y.1=some c):closureFor scope env=pure (fQ env.cells scope.names):=by
 simp only [closureFor];rw [Jy (fun x cs => lD env.cells cs x) scope.names [] (fun x hx c=>by
  obtain⟨n,kind⟩:=x
  by_cases hk:kind=.free
  ·obtain⟨a,ha⟩:=h _ hx hk;subst hk;have ha':env.cells.lookup n=some a:=ha
   simp[cellOf,ha',lD]
  ·have hk':(kind==NameKind.free)=false:=by simpa using hk
   simp[hk',hk,lD])]
 rfl
theorem Iu {cells:List (Str×Addr)}:∀(names:List (Str×NameKind)) (acc:List (Str×Addr)),(∀y∈names,y.2=.free->∃c,cells.lookup y.1=some c)->
    (∀x c,acc.lookup x=some c->cells.lookup x=some c)->∀x c,(names.foldl (lD cells) acc).lookup x=some c->cells.lookup x=some c
  | [],_,_,h,x,c,e=>h x c e
  |(n,k)::r,acc,hc,h,x,c,e=>by
    rw[xce]at e;refine Iu r _ (fun y hy=>hc y (xak _ hy)) ?_ x c e;intro y d hd;unfold lD at hd
    by_cases hk:k=.free
    · obtain⟨a,ha⟩:=hc (n,k) xau hk;have ha':cells.lookup n=some a:=ha;simp only[hk,xbF,ha',xcO,xbS]at hd
      cases hyn:y==n with
      |true=>
        rw[hyn]at hd;have e2:=eq_of_beq hyn;subst e2;exact ha'.trans hd
      |false=>
        rw[hyn]at hd;exact h y d hd
    · simp only[hk,xa4]at hd;exact h y d hd
theorem CG {cells:List (Str×Addr)}:∀(names:List (Str×NameKind)) (acc:List (Str×Addr)) (x:Str),((x,NameKind.free)∈names\/∃c,acc.lookup x=some c)->∃c,(names.foldl (lD cells) acc).lookup x=some c
  | [],acc,x,h=>by
    rcases h with h |h
    · exact absurd h (by simp)
    · exact h
  |(n,k)::r,acc,x,h=>by
    rw[xce];refine CG r _ x ?_;have keep:(∃c,acc.lookup x=some c)->∃c,(lD cells acc (n,k)).lookup x=some c:=fun⟨c,hc⟩=>by
      unfold lD
      by_cases hk:k=.free
      · simp only[hk,xbF,xbS]
        cases hxn:x==n with
        |true=>exact⟨_,rfl⟩
        |false=>exact⟨c,hc⟩
      · simp only[hk,xa4];exact⟨c,hc⟩
    rcases h with h |h
    · rcases xan.mp h with h |h
      · cases h;refine .inr ?_;unfold lD;simp only[xbF,xbS,xaX];exact⟨_,rfl⟩
      · exact .inl h
    · exact .inr (keep h)
noncomputable def cT (psc:Scope) (names:List (Str×NameKind)):List (Str×NameKind):=names.map fun(n,k)=>if (k==.free && psc.kind==.function && psc.names.lookup n==some .cell) then(n,.cell) else(n,k)
theorem xP {psc:Scope}:∀{names:List (Str×NameKind)} {x:Str} {k':NameKind},(cT psc names).lookup x=some k'->(k'=.cell\/k'=.free)->(∀y∈names,y.2≠ .cell)->(x,NameKind.free)∈names
  | [],_,_,h,_,_=>by simp[cT]at h
  |(n,k)::r,x,k',h,hk,hn=>by
    have ih:= @xP psc r x k';have h':List.lookup x ((if (k==NameKind.free && psc.kind==.function && psc.names.lookup n==some .cell)=true then(n,NameKind.cell) else(n,k))::cT psc r)=some k':=h
    cases hx:x==n with
    |true=>
      have e:=eq_of_beq hx;subst e
      by_cases hc:(k==NameKind.free && psc.kind==.function && psc.names.lookup x==some .cell)=true
      · have hkf:k=.free:=by
          cases k<;>first |rfl |(exfalso;simp at hc)
        rw[hkf];exact xau
      · rw[xad hc]at h';simp only[xbS,xaX]at h';have e2:k=k':=xas h';subst e2;rcases hk with hk |hk
        · exact absurd hk (hn (x,k) xau)
        · rw[hk];exact xau
    |false=>
      refine xak _ (ih ?_ hk fun y hy=>hn y (xak _ hy))
      by_cases hc:(k==NameKind.free && psc.kind==.function && psc.names.lookup n==some .cell)=true
      · rw[xaa hc]at h';simp only[xbS,hx]at h';exact h'
      · rw[xad hc]at h';simp only[xbS,hx]at h';exact h'
noncomputable def gB (cs:List (Str×Nat)) (σ:St):St:=cs.map fun p=>(σ[p.2]?).join
abbrev cW (X:Cx)(Nc:List Str)(scope:Scope)(cl:List (Str×Addr))(C:Addr)(s₀:Shared)(H₀:Hp)(ex:List Addr)(pn:Pnx):Cx:=
 {X with N:=Nc,s₀:=s₀,H₀:=H₀,env:=compEnvC scope cl C X.env,outer:=X.stack,ex:=ex,fn:=fun _=>false,pn:=pn,xe:=fun _ _=>False}
noncomputable def pN (N:List Str) (psc:Scope) (x:Str) (cs:List (Str×Nat)) (scope:Scope):Bool:=
 scope.kind==.function && scope.names.lookup x==some .local && decide ((x::cs.map (·.1)).Nodup) &&
 scope.names.all (fun y=>y.2 !=.cell && (y.2 !=.local || scope.names.lookup y.1==some .local) && (y.2 !=.free || (psc.names.lookup y.1==some .cell || psc.names.lookup y.1==some .free))) &&
 cs.all (fun p=>N[p.2]? ==some p.1 && (psc.names.lookup p.1==some .cell || psc.names.lookup p.1==some .free) && ((cT psc scope.names).lookup p.1==some .cell || (cT psc scope.names).lookup p.1==some .free))
structure CompOk (N:List Str)(psc:Scope)(x:Str)(cs:List (Str×Nat))(scope:Scope):Prop where
 kind:scope.kind=.function
 own:scope.names.lookup x=some .local
 nd:(x::cs.map (·.1)).Nodup
 cell:∀y∈scope.names,y.2≠ .cell
 names:∀y∈scope.names,y.2=.local->scope.names.lookup y.1=some .local
 has:∀y∈scope.names,y.2=.free->psc.names.lookup y.1=some .cell\/psc.names.lookup y.1=some .free
 cap:∀p∈cs,N[p.2]? =some p.1/\(psc.names.lookup p.1=some .cell\/psc.names.lookup p.1=some .free)/\((cT psc scope.names).lookup p.1=some .cell\/(cT psc scope.names).lookup p.1=some .free)
theorem CompOk.of {N:List Str}{psc:Scope}{x:Str}{cs:List (Str×Nat)}{scope:Scope}(h:pN N psc x cs scope=true):CompOk N psc x cs scope:=by
 unfold pN at h;simp only[xav,Bool.or_eq_true,xaY,xdt,xbc,bne_iff_ne,ne_eq]at h;obtain⟨⟨⟨⟨h1,h2⟩,h3⟩,h4⟩,h5⟩:=h;refine⟨h1,h2,h3,fun y hy=>(h4 y hy).1.1,fun y hy e=>?_,fun y hy e=>?_,fun p hp=>⟨(h5 p hp).1.1,(h5 p hp).1.2,(h5 p hp).2⟩⟩
 ·rcases(h4 y hy).1.2 with z |z
  ·exact absurd e z
  ·exact z
 ·rcases(h4 y hy).2 with z |z
  ·exact absurd e z
  ·exact z
def gq (X:Cx)(ifs:List Expr)(t:TT):Prop:=
 ∀(pins:Pnx) (s:Shared) (σ:St) (H:Hp) (Q:Bool->Hp->Prop),Inv X pins σ H s->t σ H Q->
  wpAny (model X.prog X.w) X.A (forIn ifs true fun c r=>if r=true then do let ok <-isTrue c X.env (eval c X.env);pure (ForInStep.yield ok) else pure (ForInStep.yield r)) (TP X pins σ Q) X.xe s
def m8:TT:=fun _ H Q=>Q true H
theorem VN {X:Cx}:gq X [] m8:=fun _ _ _ H _ I h=>wpAny_tests_nil ⟨H,I,h⟩
theorem VP {X:Cx}{c:Expr}{t:TT}(h:PT X c t):gq X [c] t:=fun pins s σ H Q I hw=>wpAny_tests_one (h pins s σ H Q I hw)
def yu (wi:TI)(tq:TT)(te:TE)(cs:List (Str×Nat)):St->Hp->(Addr->Hp->Prop)->Prop:=fun σ H R=>wi σ H fun J H1=>∀D,H1 D=none->
  ∃W:Nat->Nat->List V->Hp->Prop,(∃m,W 0 m [] (upd H1 D (.lst [])))/\∀i m ys H2,W i m ys H2->H2 D=some (.lst ys)/\
    ((J.stop i H2 /\ R D H2) \/ (J.go i H2/\ys.length<sizeLine/\∃N:List V->Hp->Prop,(∀ys' H',N ys' H'->∃m',m'<m/\W (i + 1) m' ys' H')/\∀v H3,J.yld i H2 v H3->tq (some v::gB cs σ) H3 fun b H4=>
      if b=true then te (some v::gB cs σ) H4 fun y H5=>H5 D=some (.lst ys)/\N (ys ++ [y]) (upd H5 D (.lst (ys ++ [y]))) else N ys H4))
section
variable {prog:Program}{w:World}{A:Around}{R:Result->Shared->Prop}{s:Shared}
theorem Ph {elt target iter:Expr}{ifs:List Expr}{scope:Scope}{pos:Pos}{it acc:Value}{env:Env}(I:Nat->Shared->Prop)
    (turn : ∀ n s, I n s -> wpAny (model prog w) A (pyNext it) (fun r s₁=>match r with
      |none=>R (.ok .next) s₁
      | some v => wpAny (model prog w) A (letOwnedTupleGo target it v) (fun _ s₁' => wpAny (model prog w) A (assign target env v) (fun _ s₂=>
          wpAny (model prog w) A (forIn ifs true fun c r => if r = true then do let ok <- isTrue c env (eval c env); pure (ForInStep.yield ok) else pure (ForInStep.yield r)) (fun ok s₃=>
            if ok = true then wpAny (model prog w) A (eval elt env) (fun x s₄=>
              wpAny (model prog w) A (call (.builtin "list.append") [acc,x]) (fun _ s₅=>∃m,m<n/\I m s₅) (fun _ _=>False) s₄) (fun _ _=>False) s₃
            else ∃m,m<n/\I m s₃) (fun _ _=>False) s₂) (fun _ _=>False) s₁') (fun _ _=>False) s₁) (fun _ _=>False) s)
    (n:Nat) (h:I n s):
    codeAny (model prog w) A (.compLoop (.ListComp elt [⟨target,iter,ifs,0⟩] scope pos) 0 it acc env) R s:=by
  refine codeAny_loop rfl I (fun n s hI=>?_) n h;show wpAny _ A ((compTurn (.ListComp elt [⟨target,iter,ifs,0⟩] scope pos) 0 it acc env).onRaise (fun x=>do noteFrame x env;theTreesLotGoes x)) _ _ s
  refine wpAny_noted ?_;rw[compTurn_list];refine tG (wpAny_standAt (tG (xaR (turn n s hI) (fun r s₁ h₁=>?_) fun _ _ h'=>h'.elim)))
  cases r with
  |none=>exact xac h₁
  |some v=>
    refine tG (xaR h₁ (fun _ s₁' h₁'=>?_) fun _ _ h'=>h'.elim);refine tG (xaR h₁' (fun _ s₂ h₂=>tG (xaR h₂ (fun ok s₃ h₃=>?_) fun _ _ h'=>h'.elim)) fun _ _ h'=>h'.elim)
    cases ok with
    |false=>exact xac ⟨rfl,h₃⟩
    |true=>
      exact tG (tG (xaR h₃ (fun x s₄ h₄=>tG (xaR h₄ (fun _ s₅ h₅=>xac (xac ⟨rfl,h₅⟩)) fun _ _ h'=>h'.elim)) fun _ _ h'=>h'.elim))
end
section
variable {X:Cx}{elt iter:Expr}{ifs:List Expr}{x:Str}{px:Pos}{scope:Scope}{pos:Pos}{wi:TI}{tq:TT}{te:TE}{cs:List (Str×Nat)}
theorem IV (hc:X.calm=true)(hi:PI X (.Name x px) iter wi)
    (hq:∀(cl:List (Str×Addr)) (C:Addr) (s₀:Shared) (H₀:Hp) (ex:List Addr) (pn:Pnx),gq (cW X (x::cs.map (·.1)) scope cl C s₀ H₀ ex pn) ifs tq)
    (he:∀(cl:List (Str×Addr)) (C:Addr) (s₀:Shared) (H₀:Hp) (ex:List Addr) (pn:Pnx),PE (cW X (x::cs.map (·.1)) scope cl C s₀ H₀ ex pn) elt te)
    (ok:CompOk X.N X.env.scope x cs scope) {pins:Pnx} {s:Shared} {σ:St} {H:Hp} {R:Addr->Hp->Prop} (I:Inv X pins σ H s) (h:yu wi tq te cs σ H R)
    {RR:Value->Addr->Result->Shared->Prop}
    (hRR:∀(D C:Addr) (oC:Obj) (H':Hp) (s':Shared),Inv X (pins ++ [(C,oC)]) σ H' s'->(∀h':Heap,h'.get? C=some oC->∃m,h'.Ns C m)->dU X pins H' C->R D H'->RR (.ref D) C (.ok .next) s'):
    wpAny (model X.prog X.w) X.A (eval iter X.env) (fun xv s₁ => wpAny (model X.prog X.w) X.A (pyIter xv) (fun itv s₂ => wpAny (model X.prog X.w) X.A (newList []) (fun acc s₃=>
      wpAny (model X.prog X.w) X.A (newFunctionEnv scope X.env.globals (fQ X.env.cells scope.names) [] X.env.qual none .none (some X.env)) (fun cenv s₄=>
        codeAny (model X.prog X.w) X.A (.compStart (.ListComp elt [⟨.Name x px,iter,ifs,0⟩] scope pos) 0 itv acc {cenv with scope:=relabel scope X.env}) (RR acc cenv.locals) s₄) X.xe s₃) X.xe s₂) X.xe s₁) X.xe s:=by
  refine aU (hi pins s σ H _ I h) fun v s1 h1=>aU h1 fun itv s2 h2=>?_;obtain⟨it,fp,tn,J,H2,e,I2,T,st2,f2,h2⟩:=h2;subst e;have hhas:∀y∈scope.names,y.2=.free->∃c,X.env.cells.lookup y.1=some c:=fun y hy hk=>I2.ok.has y.1 (ok.has y hy hk);refine xbo (wpAny_newFunctionEnv ok.cell (by intro y hy;simp at hy) (fun h₁ hns₁ hsb₁=>?_) ok.kind);dsimp only at hns₁ hsb₁ ⊢;generalize hHH:s2.heap.push {cls:=.type "list",dict:=none,data:=.seq ([]:List Value).toArray}=HH at hns₁ hsb₁ ⊢;have hC:HH.objs.size=s2.heap.objs.size + 1:=by rw[<-hHH,Heap.size_push]
  have hDC:s2.heap.objs.size≠HH.objs.size:=by rw[hC];exact xaD (xb5 _)
  have hCle:s2.heap.objs.size<=HH.objs.size:=by rw[hC];exact xch _
  have below:∀b,b<s2.heap.objs.size->b≠HH.objs.size:=fun b hb=>by rw[hC];exact xaD (xcl hb)
  have old:∀b o,s2.heap.get? b=some o->h₁.get? b=some o:=fun b o e=>hsb₁.extBut b o (below b (xam e)) (xai _ (hHH ▸ xai _ e));have hacc:h₁.get? s2.heap.objs.size=some {cls:=.type "list",dict:=none,data:=.seq ([]:List Value).toArray}:=hsb₁.extBut _ _ hDC (xai _ (hHH ▸ xaH _ rfl));have nD:H2 s2.heap.objs.size=none:=I2.hok.fresh (xab _);have nC:H2 HH.objs.size=none:=I2.hok.fresh hCle;obtain⟨W,⟨m0,w0⟩,turn⟩:=h2 s2.heap.objs.size nD
  -- the block's context
  have fpC:∀b∈fp,b≠HH.objs.size:=fun b hb=>by
    obtain⟨o,ho,_⟩:=T.obj 0 _ st2 b hb;exact below b (xam ho)
  have fpD:∀b∈fp,b≠s2.heap.objs.size:=fun b hb=>by
    obtain⟨o,ho,_⟩:=T.obj 0 _ st2 b hb;exact xaD (xam ho)
  have pinC:∀p∈X.pn ++ pins,p.1≠HH.objs.size:=fun p hp=>below _ (xam (I2.pin p hp).1);have clIn:∀y c,(fQ X.env.cells scope.names).lookup y=some c->X.env.cells.lookup y=some c:=Iu scope.names [] hhas (fun y c e=>by cases e);have kindRel:∀y,(relabel scope X.env).names.lookup y=(cT X.env.scope scope.names).lookup y:=fun _=>rfl;have okC:(cW X (x::cs.map (·.1)) scope (fQ X.env.cells scope.names) HH.objs.size s2 H2 fp (X.pn ++ pins)).Ok:=
    { mod:=I2.ok.mod
      kind:=ok.kind
      glob:=I2.ok.glob
      blt:=I2.ok.blt
      above:=hCle
      inj:=fun y z c e1 e2=>I2.ok.inj y z c (clIn y c e1) (clIn z c e2)
      has:=fun y hk=>by
        have hm:(y,NameKind.free)∈scope.names:=by
          rcases hk with hk |hk
          · exact xP (psc:=X.env.scope) (k':=.cell) hk (.inl rfl) ok.cell
          · exact xP (psc:=X.env.scope) (k':=.free) hk (.inr rfl) ok.cell
        exact CG scope.names [] y (.inl hm)
      cab:=fun y c hf _=>by cases hf
      hd:=I2.ok.hd
      frames:=I2.ok.frames
      stk:=.inl rfl
      exf:=fun b hb=>⟨fpC b hb,fun y c e z=>(f2 b hb).2.2.2.2.1 y c (clIn y c e) z⟩
      bs:=fun b o e=>I2.bs b o e
      bsz:=xao I2.ok.bsz I2.sz
      noex:=fun b o e hb=>by
        rcases(f2 b hb).2.2.2.1 with z |z
        · exact I2.ok.noex b o e z
        · exact absurd (xal (xam e) (xao I2.ok.bsz z)) (xbL _)
      exfs:=fun b hb z=>by
        rcases xan.mp (I2.stkSub b z) with q |q
        · exact(f2 b hb).2.1 q
        · exact(f2 b hb).2.2.1 q
      funs:=I2.stack
      frf:=I2.stkFree}
  have IC:Inv (cW X (x::cs.map (·.1)) scope (fQ X.env.cells scope.names) HH.objs.size s2 H2 fp (X.pn ++ pins)) [] (none::gB cs σ) (upd H2 s2.heap.objs.size (.lst [])) {s2 with heap:=h₁,toks:=s2.toks + ([]:List (Str×Value)).length}:=
    { ok:=okC
      os:=rfl
      bare:=I2.bare
      base:=Un.laid old (xab _) nD
      loc:=by
        refine⟨_,hns₁,fun i y u e1 e2 _=>?_⟩
        cases i with
        |zero=>
          have e2':(none:Option V)=some u:=xas e2;cases e2'
        |succ i=>
          have e1':(cs.map (·.1))[i]? =some y:=e1;have e2':(gB cs σ)[i]? =some (some u):=e2;rw[xar]at e1';unfold gB at e2';rw[xar]at e2'
          cases ep:cs[i]? with
          |none=>rw[ep]at e1';cases e1'
          |some p=>
            rw[ep]at e1' e2';have e1'':p.1=y:=xas e1';have e2'':(σ[p.2]?).join=some u:=xas e2';have e3:σ[p.2]? =some (some u):=by
              cases q:σ[p.2]? with
              |none=>rw[q]at e2'';cases e2''
              |some z=>rw[q]at e2'';exact congrArg some e2''
            subst e1'';obtain⟨hN,hkp,hkc⟩:=ok.cap p (xaJ ep);obtain⟨mP,_,hl⟩:=I2.loc;obtain⟨u',ru,lk⟩:=hl p.2 p.1 u hN e3 (.inr hkp);refine⟨u',ru,.inr ⟨hkc,?_⟩⟩;rcases lk with⟨k0,_⟩ |⟨_,c,hcell,his⟩
            · exfalso
              have k0':X.env.scope.names.lookup p.1=some .local:=k0;rcases hkp with z |z<;>(rw[k0']at z;cases z)
            · have hm:(p.1,NameKind.free)∈scope.names:=by
                rcases hkc with z |z
                · exact xP z (.inl rfl) ok.cell
                · exact xP z (.inr rfl) ok.cell
              obtain⟨c',hc'⟩:=CG (cells:=X.env.cells) scope.names [] p.1 (.inl hm);have e5:c'=c:=xas ((clIn p.1 c' hc').symm.trans hcell);exact⟨c',hc',by rw[e5];exact his.keeps old⟩
      cell:=fun y c e=>by
        obtain⟨v',q⟩:=I2.cell y c (clIn y c e);exact⟨v',q.keeps old⟩
      free:=by
        show upd H2 s2.heap.objs.size (.lst []) HH.objs.size=none;rw[bw hDC.symm];exact nC
      freeC:=fun y c e=>by
        have hcl:c<s2.heap.objs.size:=by
          obtain⟨_,q⟩:=I2.cell y c (clIn y c e);exact q.lt
        rw[bw (xaD hcl)];exact(I2.freeC y c (clIn y c e)).imp id fun z=>⟨rfl,z.2⟩
      pin:=fun p hp=>by
        have hp':p∈X.pn ++ pins:=by
          rcases xaI.mp hp with z |z
          · exact z
          · cases z
        obtain⟨e1,e2,e3,e4,e5⟩:=I2.pin p hp';refine⟨old _ _ e1,?_,pinC p hp',fun z=>?_,e5⟩
        · rw[bw (xaD (xam e1))];exact e2
        · rcases xan.mp (I2.stkSub p.1 z) with q |q
          · exact e3 q
          · exact e4 q
      hok:=I2.hok.laid old (xab _) ⟨xa8 _,[],0,.nil,hacc⟩
      len:=by simp[gB]}
  have stC:tn 0 h₁:=T.keep 0 _ _ st2 fun b _ o e=>old b o e;have frC:∀b∈fp,upd H2 s2.heap.objs.size (HO.lst []) b=none:=fun b hb=>by
    rw[bw (fpD b hb)];exact(f2 b hb).1
  -- what stays true of the iterator's objects in the block
  have stat:∀{H':Hp},(∀b∈fp,H' b=none)->∀b∈fp,dU (cW X (x::cs.map (·.1)) scope (fQ X.env.cells scope.names) HH.objs.size s2 H2 fp (X.pn ++ pins)) [] H' b:=fun {H'} hn b hb=>
    ⟨hn b hb, fpC b hb, okC.exfs b hb, .inl hb, fun y c e => (okC.exf b hb).2 y c e, fun p hp => (f2 b hb).2.2.2.2.2 p (by
      rcases xaI.mp hp with z |z
      · exact z
      · cases z)⟩
  have loop:∀s₃:Shared,s₃={s2 with heap:=h₁,toks:=s2.toks + ([]:List (Str×Value)).length}->
      codeAny (model X.prog X.w) X.A (.compLoop (.ListComp elt [⟨.Name x px,iter,ifs,0⟩] scope pos) 0 (.ref it) (.ref s2.heap.objs.size) (compEnvC scope (fQ X.env.cells scope.names) HH.objs.size X.env)) (RR (.ref s2.heap.objs.size) HH.objs.size) s₃:=by
    rintro s₃ rfl;refine Ph (fun n s'=>∃(i:Nat) (v:Option V) (ys:List V) (H':Hp),Inv (cW X (x::cs.map (·.1)) scope (fQ X.env.cells scope.names) HH.objs.size s2 H2 fp (X.pn ++ pins)) [] (v::gB cs σ) H' s'/\tn i s'.heap/\(∀b∈fp,H' b=none)/\W i n ys H')
      ?_ m0 ⟨0,none,[],_,IC,stC,frC,w0⟩
    rintro n s3 ⟨i,v3,ys,H3,I3,st3,fr3,w3⟩;obtain⟨hD3,tr⟩:=turn i n ys H3 w3;rcases tr with⟨stop,qn⟩ |⟨go,hsz,N,hN,step⟩
    · refine aU (T.done (cW X (x::cs.map (·.1)) scope (fQ X.env.cells scope.names) HH.objs.size s2 H2 fp (X.pn ++ pins)) rfl rfl rfl hc i [] s3 _ H3 _ I3 (stat fr3) st3 stop) fun r s4 ⟨hr,I4⟩=>?_;subst hr;show RR (.ref s2.heap.objs.size) HH.objs.size (.ok .next) s4
      have IP:Inv X pins σ H3 s4:=I2.call' (ch:=fp) I4.os I4.base I4.hok I4.bare fun b hb=>⟨(f2 b hb).2.2.2.1,(f2 b hb).2.1,(f2 b hb).2.2.2.2.1,(f2 b hb).2.2.2.2.2⟩;obtain⟨m4,⟨oC,es,ep,hoC,hdC,hk1,hk2⟩,_⟩:=I4.loc;have nC3:H3 HH.objs.size=none:=I4.free;have fC:dU X pins H3 HH.objs.size:=I2.fpOk hCle nC3;refine hRR _ _ oC H3 s4 (IP.pins_of fun p hp=>?_) (fun h' e=>⟨m4,oC,es,ep,e,hdC,hk1,hk2⟩) fC qn;rcases xaI.mp hp with z |z
      · exact IP.pin p (xax _ z)
      · have e:p=(HH.objs.size,oC):=by simpa using z
        subst e;exact ⟨hoC,nC3,fC.2.1,fC.2.2.1,fun v z=>by
          have z':oC.data=.cell v:=z;rw[hdC]at z';cases z'⟩
    · refine aU (T.item (cW X (x::cs.map (·.1)) scope (fQ X.env.cells scope.names) HH.objs.size s2 H2 fp (X.pn ++ pins)) rfl rfl rfl hc i [] s3 _ H3 _ I3 (stat fr3) st3 go) fun r s4 ⟨u,hr,h4⟩=>?_;subst hr;refine aU h4 fun _ s5 ⟨y,H5,I5,r5,y5,st5,fr5⟩=>?_;have I5':=I5.pinned (stat fr5) (T.obj _ _ st5);have hloc:Loc (cW X (x::cs.map (·.1)) scope (fQ X.env.cells scope.names) HH.objs.size s2 H2 fp (X.pn ++ pins)).env.scope x:=.inl (lookup_relabel_local ok.own);refine xdn (yq (i:=0) I5' ok.nd rfl hloc r5 (fun s6 I6=>?_) (.inr (lookup_relabel_local ok.own)));refine aU (hq _ _ _ _ _ _ _ s6 _ H5 _ I6 (step y H5 y5)) fun b s7 ⟨H7,I7,q7⟩=>?_;have again:∀{v':Option V} {H8:Hp} {s8:Shared} {ys':List V} {m':Nat},Inv (cW X (x::cs.map (·.1)) scope (fQ X.env.cells scope.names) HH.objs.size s2 H2 fp (X.pn ++ pins)) ([] ++ xG fp s5.heap) (v'::gB cs σ) H8 s8->W (i + 1) m' ys' H8->
          ∃(i:Nat) (v:Option V) (ys:List V) (H':Hp),Inv (cW X (x::cs.map (·.1)) scope (fQ X.env.cells scope.names) HH.objs.size s2 H2 fp (X.pn ++ pins)) [] (v::gB cs σ) H' s8/\tn i s8.heap/\(∀b∈fp,H' b=none)/\W i m' ys H':=fun {v' H8 s8 ys' m'} I8 w8=>by
        refine⟨i + 1,v',ys',H8,I8.unpinned,T.keep _ _ _ st5 fun b hb o e=>(I8.pin (b,o) (xax _ (xax _ (zM hb e)))).1,fun b hb=>?_,w8⟩;obtain⟨o,e,d⟩:=T.obj _ _ st5 b hb;exact(I8.pin (b,o) (xax _ (xax _ (zM hb e)))).2.1
      cases b with
      |false=>
        rw[xad xap]at q7;rw[xad xap];obtain⟨m',hm,w8⟩:=hN _ _ q7;exact⟨m',hm,again I7 w8⟩
      |true=>
        rw[xaa rfl]at q7;rw[xaa rfl];refine aU (he _ _ _ _ _ _ _ s7 _ H7 _ I7 q7) fun z s8 ⟨zv,H8,I8,r8,hD8,n8⟩=>?_;obtain⟨m',hm,w8⟩:=hN _ _ n8;refine aU (DY (X:=cW X (x::cs.map (·.1)) scope (fQ X.env.cells scope.names) HH.objs.size s2 H2 fp (X.pn ++ pins)) _ s8 _ H8 (.ref s2.heap.objs.size) [zv] (.ref s2.heap.objs.size) [z] (fun _ H9=>H9=upd H8 s2.heap.objs.size (.lst (ys ++ [zv]))) I8 rfl (.cons r8 .nil) ⟨_,ys,zv,rfl,rfl,hD8,hsz,rfl⟩) fun _ s9 ⟨_,H9,I9,_,e9⟩=>?_;subst e9;exact⟨m',hm,again I9 w8⟩
  exact codeAny_compStart_list (loop _ rfl) (T.self _ 0 _ _ _ stC (loop _ rfl))
noncomputable def zbM (wi:TI) (tq:TT) (te:TE) (cs:List (Str×Nat)):TE:=fun σ H Q=>yu wi tq te cs σ H fun D H'=>Q (.ref D) H'
theorem Vp (x:Str)(cs:List (Str×Nat)){px:Pos}(hc:X.calm=true)(hi:PI X (.Name x px) iter wi)
  (hq:∀(cl:List (Str×Addr)) (C:Addr) (s₀:Shared) (H₀:Hp) (ex:List Addr) (pn:Pnx),gq (cW X (x::cs.map (·.1)) scope cl C s₀ H₀ ex pn) ifs tq)
  (he:∀(cl:List (Str×Addr)) (C:Addr) (s₀:Shared) (H₀:Hp) (ex:List Addr) (pn:Pnx),PE (cW X (x::cs.map (·.1)) scope cl C s₀ H₀ ex pn) elt te)
  (ok:pN X.N X.env.scope x cs scope=true:=by kernel_rfl) (hs:∀x,foldedSetIterable iter X.env x=pure x:=by intro _;rfl):
  PE X (.ListComp elt [⟨.Name x px,iter,ifs,0⟩] scope pos) (zbM wi tq te cs):=by
 intro pins s σ H Q I h;have ok':=CompOk.of ok;rw[eval_ListComp];refine xdB (use:=none) rfl hs (Iv fun y hy hk=>I.ok.has y.1 (ok'.has y hy hk)) ok'.kind ok'.names ?_;refine IV (RR:=fun acc C=>compPost (model X.prog X.w) X.A X.xe none (EP X pins σ Q) acc C) hc hi hq he ok' I h ?_;intro D C oC H' s' I' hns fC q;refine⟨_,(hns _ (I'.pin (C,oC) (xax _ (xax _ (by simp)))).1).choose_spec,fun h' hs'=>?_⟩;have I1:Inv X pins σ H' s':=I'.unpinned;exact⟨.ref D,H',I1.turned (t':=s'.toks) (fun b o hb e=>(hs'.2 b hb).trans e) fC.1 fC.2.1 fC.2.2.2.1 fC.2.2.2.2.1 fC.2.2.2.2.2,rfl,q⟩
noncomputable def zbZ (k:Nat) (wi:TI) (tq:TT) (te:TE) (cs:List (Str×Nat)):TS:=fun D σ H=>yu wi tq te cs σ H fun l H'=>D.nx (σ.set k (some (.ref l))) H'
theorem La (x:Str)(cs:List (Str×Nat)){px py spos:Pos}{y:Str}{k:Nat}(hN:X.N.Nodup)(hk:X.N[k]? =some y)(hy:Loc X.env.scope y)(hc:X.calm=true)(hi:PI X (.Name x px) iter wi)
  (hq:∀(cl:List (Str×Addr)) (C:Addr) (s₀:Shared) (H₀:Hp) (ex:List Addr) (pn:Pnx),gq (cW X (x::cs.map (·.1)) scope cl C s₀ H₀ ex pn) ifs tq)
  (he:∀(cl:List (Str×Addr)) (C:Addr) (s₀:Shared) (H₀:Hp) (ex:List Addr) (pn:Pnx),PE (cW X (x::cs.map (·.1)) scope cl C s₀ H₀ ex pn) elt te)
  (ok:pN X.N X.env.scope x cs scope=true:=by kernel_rfl) (hs:∀x,foldedSetIterable iter X.env x=pure x:=by intro _;rfl)
  (hsw:swapsWith (.ListComp elt [⟨.Name x px,iter,ifs,0⟩] scope pos) (some (.Name y py)) spos.line X.env=pure true:=by rfl)
  (hf:X.fn y=true\/X.env.scope.names.lookup y=some .local:=by first |exact .inl rfl |exact .inr rfl |assumption):
  PS X (.Assign [.Name y py] (.ListComp elt [⟨.Name x px,iter,ifs,0⟩] scope pos) spos) (zbZ k wi tq te cs):=by
 intro pins s σ H D I h;have ok':=CompOk.of ok;rw[exec_Assign_Name_used _ _ _ _ hsw];refine tG (wpAny_standAt (tG ?_));show wpAny _ X.A (do let _ <-comprehension (.ListComp elt [⟨.Name x px,iter,ifs,0⟩] scope pos) scope X.env _ (newList []) false (eval iter X.env) (some (assign (.Name y py) X.env))) _ _ s
 refine tG (xaR (xdB (use:=some (assign (.Name y py) X.env)) (Q:=fun _ s'=>SP X pins D .next s') rfl hs (Iv fun y hy hk=>I.ok.has y.1 (ok'.has y hy hk)) ok'.kind ok'.names
  (IV (RR:=fun acc C=>compPost (model X.prog X.w) X.A X.xe (some (assign (.Name y py) X.env)) (fun _ s'=>SP X pins D .next s') acc C) hc hi hq he ok' I h ?_)) (fun _ s' hq=>xac (xac hq)) fun _ _ e=>e)
 intro l C oC H' s' I' hns fC q;show wpAny _ X.A (assign (.Name y py) X.env (.ref l)) _ _ _;refine xdn (yq (v:=.ref l) I' hN hk hy rfl (fun s'' I''=>?_) hf);refine⟨_,(hns _ (I''.pin (C,oC) (xax _ (xax _ (by simp)))).1).choose_spec,fun h' hs'=>?_⟩;have I1:Inv X pins _ H' s'':=I''.unpinned;exact⟨_,H',I1.turned (t':=s''.toks) (fun b o hb e=>(hs'.2 b hb).trans e) fC.1 fC.2.1 fC.2.2.2.1 fC.2.2.2.2.1 fC.2.2.2.2.2,q⟩
end
theorem tX {H:Hp}{D:Addr}{o:HO}(hD:H D=none):Same H (upd H D o):=fun b ob e=>by
 rw[bw (sW e hD)];exact e
structure Noted (fs:List Addr)(z:Addr)(h h':Heap)(e:Addr)(oe:Obj)(T:Addr)(fl:Value):Prop where
 keep:∀b o,b∉fs->b≠e->b≠z->h.get? b=some o->h'.get? b=some o
 slot:∀b o,b∈fs->b≠e->b≠z->h.get? b=some o->∃sl,h'.get? b=some {o with slots:=sl}
 exc:h'.get? e=some (oe.mapFields (·.setIfInBounds 1 (.ref T)))
 new:h.objs.size<=T
 tb:∃oT ts,h'.get? T=some oT/\oT.data=.fields ts/\ts[3]? =some fl
section
variable {M:Model}{A:Around}{E:Value->Shared->Prop}{s:Shared}{base:Heap}{env:Env}{outer:List Env}{L e z:Addr}{oe:Obj}{vs:Array Value}{Q:Unit->Shared->Prop}
theorem S7 {head:Value}{hadNext:Bool}(a1:A.frames=some (env::outer))(a2:s.heap.FunFrames base (env::outer))(a3:env.frame=some L)
  (a4:s.heap.get? e=some oe) (a5:oe.data=.fields vs) (a6:1<vs.size)
  (k:∀h' T,Noted (frs (env::outer)) e s.heap h' e oe T (rawInt L)->Q () {s with heap:=h'}):
  wpAny M A (do
   let a <-frameOf env
   let pl <-entryPlaceOf L hadNext
   let b <-EntryCells.newEntry head a .none (rawInt L) .none pl
   setField (.ref e) 1 b) Q E s:=by
 have ne:e∉frs (env::outer):=fun m=>by
  obtain⟨_,o,e1,e2⟩:=a2.mem m;rw[a4]at e1;cases e1;exact e2 vs a5
 refine tG (wpAny_frameOf_fun a1 a2 a3 fun h1 S=>?_);refine tG (wpAny_entryPlaceOf fun pl hpl=>?_);unfold EntryCells.newEntry newFields;refine tG (xbo ?_ (hpl.sizeOk5 _ _ _ _ _));have b1:h1.get? e=some oe:=(S.2.1 e ne).trans a4;have b2:=xai (h:=h1) {cls:=.type "traceback",dict:=none,data:=.fields ([head,.ref L,.none,rawInt L,.none] ++ (if pl.isEmpty then List.replicate 6 Value.none else pl)).toArray} b1
 refine xcz b2 a5 a6 (k _ h1.objs.size ?_);have n1:h1.objs.size≠e:=xei (xam b1);have frd:=xcR (xbw a5 (·.setIfInBounds 1 (Value.ref h1.objs.size)));refine⟨fun b o nb nbe _ hb=>?_,fun b o _ nbe _ hb=>?_,xbZ _ b2 frd,xek S.1.symm,?_⟩
 ·rw[xaU _ _ (xbu nbe)];exact xai _ ((S.2.1 b nb).trans hb)
 ·obtain⟨sl,q⟩:=S.2.2 b o hb;refine⟨sl,?_⟩;rw[xaU _ _ (xbu nbe)];exact xai _ q
 ·refine⟨_,_,(xaU _ _ (xbu n1)).trans (xaH h1 rfl),rfl,?_⟩;rcases hpl with rfl |⟨_,_,_,_,_,_,_,rfl⟩<;>simp
theorem Qo {T:Addr}{oT:Obj}{ts:Array Value}(b1:s.heap.get? e=some oe)(b2:oe.data=.fields vs)(b3:vs[1]? =some (.ref T))(b4:s.heap.get? T=some oT)(b5:oT.data=.fields ts)(b6:3<ts.size)
  (k:Q () {s with heap:=s.heap.update T (Obj.mapFields (·.setIfInBounds 3 .none))}):wpAny M A (setFlight (.ref e) none) Q E s:=by
 unfold setFlight;refine tG (xcJ b1 b2 b3 ?_);rw[xaa (by simp)];exact xcz b4 b5 b6 k
theorem Tc {fs:List Addr}{h h1:Heap}{T:Addr}{fl:Value}(N:Noted fs z h h1 e oe T fl)(a4:h.get? e=some oe)(a5:oe.data=.fields vs):Noted fs z h (h1.update T (Obj.mapFields (·.setIfInBounds 3 .none))) e oe T .none:=by
 obtain⟨oT,ts,t1,t2,t3⟩:=N.tb;have ne:∀b o,h.get? b=some o->b≠T:=fun b o q=>xaD (xal (xam q) N.new);refine⟨fun b o n1 n2 n3 hb=>?_,fun b o n1 n2 n3 hb=>?_,?_,N.new,?_⟩
 ·rw[xaU _ _ (xbu (ne b o hb))];exact N.keep b o n1 n2 n3 hb
 ·obtain⟨sl,q⟩:=N.slot b o n1 n2 n3 hb;exact⟨sl,by rw[xaU _ _ (xbu (ne b o hb))];exact q⟩
 ·rw[xaU _ _ (xbu (ne e oe a4))];exact N.exc
 ·have z3:3<ts.size:=(xb2.mp t3).1;exact⟨_,_,xbZ _ t1 (xcR (xbw t2 _)),xbw t2 _,by simp[z3]⟩
theorem S_ {fs:List Addr}{h:Heap}{T:Addr}{fl:Value}(N:Noted fs z h s.heap e oe T fl)(a4:h.get? e=some oe)(a5:oe.data=.fields vs)(a6:1<vs.size)
  (k:∀h',Noted fs z h h' e oe T .none->Q () {s with heap:=h'}):wpAny M A (setFlight (.ref e) none) Q E s:=by
 obtain⟨oT,ts,t1,t2,t3⟩:=N.tb;refine Qo N.exc (xbw a5 _) (by simp[a6]) t1 t2 (xb2.mp t3).1 (k _ (Tc N a4 a5))
theorem S8 {T0:Addr}{oT:Obj}{ts:Array Value}(a1:A.frames=some (env::outer))(a2:s.heap.FunFrames base (env::outer))(a3:env.frame=some L)
  (a4:s.heap.get? e=some oe) (a5:oe.data=.fields vs) (a6:vs[1]? =some (.ref T0)) (b1:T0≠e) (b2:s.heap.get? T0=some oT) (b3:oT.data=.fields ts) (b4:ts[3]? =some .none)
  (k:∀h' T,Noted (frs (env::outer)) T0 s.heap h' e oe T (rawInt L)->Q () {s with heap:=h'}):wpAny M A (noteFrame (.ref e) env) Q E s:=by
 have z1:=(xb2.mp a6).1;unfold noteFrame;simp only[a3];refine tG (xcJ a4 a5 a6 ?_);rw[xaa (by simp)];refine tG (xcJ b2 b3 b4 ?_);rw[xad (by simp[rawInt])];refine tG (xcz b2 b3 (xb2.mp b4).1 ?_);have oth:∀b,b≠T0->(s.heap.update T0 (Obj.mapFields (·.setIfInBounds 3 Value.none))).get? b=s.heap.get? b:=fun b hb=>xaU _ _ (xbu hb);have fr:∀b o,s.heap.get? b=some o->(∀us,o.data≠ .fields us)->b≠T0:=fun b o hb n r=>by
  rw[r,b2]at hb;cases hb;exact n ts b3
 refine S7 (s:={s with heap:=s.heap.update T0 (Obj.mapFields (·.setIfInBounds 3 Value.none))}) a1 (a2.of_keeps fun b o hb n=>⟨o,(oth b (fr b o hb n)).trans hb,rfl⟩) a3 ((oth e (xbu b1)).trans a4) a5 z1 fun h' T N=>k h' T ?_;exact⟨fun b o n1 n2 n3 hb=>N.keep b o n1 n2 n2 ((oth b n3).trans hb),fun b o n1 n2 n3 hb=>N.slot b o n1 n2 n2 ((oth b n3).trans hb),N.exc,by rw[<-Heap.size_after_update s.heap T0 (Obj.mapFields (·.setIfInBounds 3 Value.none))];exact N.new,N.tb⟩
end
abbrev Ht:List Value:=[.type "ValueError",.type "Exception",.type "BaseException",.type "object"]
def Hs:List Value->Bool
 |.ref _::r=>Hs r
 |l=>l==Ht
noncomputable def gO (K:Fgx) (C:Addr):Bool:=match K.lookup C with
  | some ⟨.type "type", _, .cls cd, sl⟩ => (match cd.mro,sl.toList with
    |.ref c::bm,[_,_,_,_,some (.builtin n),_]=>c==C && (n=="ValueError.__new__" && (!cd.hasDel && (PySem.W.tailIn K Ht bm && (PySem.W.nsOkIn K cd.ns && (cd.hasDict && Hs bm)))))
    |_,_=>false)
  |_=>false
structure XCls (h:Heap)(C:Addr)(nm qn:Str)(N:Addr)(bs bm:List Value)(sn:List Str)(sub:List Value)(ab:Bool)(col:Option Bool)(dd:Option Addr)(k0 k1 k2 k3 k5:Option Value):Prop where
 obj:h.get? C=some (excClassObj nm qn C N bs bm true sn sub ab col dd k0 k1 k2 k3 k5 "ValueError.__new__")
 tail:OwnTail h Ht bm
 ns:h.Ns N (h.nsMap N)
 over:Hs bm=true
noncomputable def NZ (K:Fgx) (C:Addr):Bool:=match K.lookup C with
 |some ⟨_,_,.cls cd,_⟩=>PySem.W.nsIn K cd.ns "__init__"==some none
 |_=>false
noncomputable def Bh (K:Fgx) (C:Addr):Bool:=PySem.W.findIn K (.ref C) "__getattribute__"==some (some (.builtin "BaseException.__getattribute__")) &&
 (PySem.W.findIn K (.ref C) "__getattr__"==some none && PySem.W.mroIn K C (.type "BaseException")==some true)
noncomputable def xo (a C:Addr) (dx:Option Addr) (b:Bool):HO:=.ext fun h=>∃oe vs t,h.get? a=some oe/\oe.cls=.ref C/\oe.dict=dx/\oe.data=.fields vs/\vs.size=6/\vs[0]? =some (.ref t)/\(b=true->vs[1]? =some .none)
theorem zbQ {P:Program}{w:World}{H:Hp}{h:Heap}{a C:Addr}{dx:Option Addr}{b:Bool}(x:∃oe vs t,h.get? a=some oe/\oe.cls=.ref C/\oe.dict=dx/\oe.data=.fields vs/\vs.size=6/\vs[0]? =some (.ref t)/\(b=true->vs[1]? =some .none)):
  cA P w H h a (xo a C dx b):=by
 obtain⟨oe,vs,t,e,r⟩:=x;exact⟨⟨oe,vs,t,e,r⟩,⟨oe,e⟩,fun h1 h2 ⟨oe,vs,t,e,r⟩ k=>⟨oe,vs,t,k _ e,r⟩⟩
def Bk (h:Heap)(a T:Addr):Prop:=∃oe vs oT ts,h.get? a=some oe/\oe.data=.fields vs/\vs[1]? =some (.ref T)/\T≠a/\h.get? T=some oT/\oT.data=.fields ts/\ts[3]? =some .none
section
variable {P:Program}{w:World}{H:Hp}{h h':Heap}{fs ch:List Addr}{z a C T:Addr}{oe:Obj}{fl:Value}{dx:Option Addr}{b:Bool}{vs:Array Value}
theorem S9 (N:Noted fs z h h' a oe T .none)(e1:h.get? a=some oe)(e2:oe.data=.fields vs)(e3:vs.size=6):Bk h' a T:=by
 obtain⟨oT,ts,t1,t2,t3⟩:=N.tb;refine⟨_,_,oT,ts,N.exc,xbw e2 _,by simp[e3],fun q=>?_,t1,t2,t3⟩;have z:=xal (xam e1) N.new;rw[q]at z;exact absurd z (xbL _)
theorem Td (N:Noted fs z h h' a oe T fl)(x:∃vs t,oe.cls=.ref C/\oe.dict=dx/\oe.data=.fields vs/\vs.size=6/\vs[0]? =some (.ref t)):∃oe vs t,h'.get? a=some oe/\oe.cls=.ref C/\oe.dict=dx/\oe.data=.fields vs/\vs.size=6/\vs[0]? =some (.ref t)/\(false=true->vs[1]? =some .none):=by
 obtain⟨vs,t,c1,c2,c3,c4,c5⟩:=x;refine⟨_,_,t,N.exc,(Obj.cls_mapFields _ _).trans c1,?_,xbw c3 _,by simp[c4],?_,fun q=>by cases q⟩
 ·obtain⟨_,_,od,_⟩:=oe;dsimp only at c3;subst c3;exact c2
 ·rw[Array.getElem?_setIfInBounds_ne (by decide)];exact c5
theorem zap (N:Noted fs z h h' a oe T fl)(ha:H a=some (xo a C dx b))(hz:z=a\/z∈ch):Un fs ch H (upd H a (xo a C dx false)) h h':=by
 have n1:∀c,H c=none->c≠a:=fun c n q=>by rw[q,ha]at n;cases n
 have n2:∀c,c≠a->c∉ch->c≠z:=fun c n m q=>by
  rcases hz with r |r
  ·exact n (q.trans r)
  ·exact m (q ▸ r)
 have n3:∀c u,H c=some u->(∀φ,u≠ .ext φ)->c≠a:=fun c u q m r=>by
  rw[r,ha]at q;exact m _ (xas q).symm
 refine ⟨fun c o q n hc hx=>N.keep c o hc (n1 c n) (n2 c (n1 c n) hx) q,fun c o q n hc hx=>N.slot c o hc (n1 c n) (n2 c (n1 c n) hx) q,fun c o q n hx=>by rw[bw (n1 c n)];exact n,fun c o q hx=>?_,
  fun c xs q=>by rw[bw (n3 c _ q (by intro _ z;cases z))];exact q,fun c o u q=>by rw[bw (n3 c _ q (by intro _ z;cases z))];exact q,fun c ps q=>⟨#[],by rw[bw (n3 c _ q (by intro _ z;cases z)),q];simp⟩⟩
 by_cases ca:c=a
 ·rw[ca];exact⟨_,N.exc⟩
 ·by_cases cf:c∈fs
  ·obtain⟨sl,r⟩:=N.slot c o cf ca (n2 c ca hx) q;exact⟨_,r⟩
  ·exact⟨o,N.keep c o cf ca (n2 c ca hx) q⟩
theorem QL (ok:bN P w H h)(N:Noted fs z h h' a oe T fl)(ha:H a=some (xo a C dx b))(hz:z=a\/H z=none)(hf:∀c∈fs,H c=none)
  (x:∃vs t,oe.cls=.ref C/\oe.dict=dx/\oe.data=.fields vs/\vs.size=6/\vs[0]? =some (.ref t)):bN P w (upd H a (xo a C dx false)) h':=fun c u q=>by
 have n3:∀c u,H c=some u->(∀φ,u≠ .ext φ)->c≠a:=fun c u q m r=>by
  rw[r,ha]at q;exact m _ (xas q).symm
 by_cases hc:c=a
 ·subst hc;rw[cN]at q;cases q;exact zbQ (Td N x)
 ·rw [bw hc] at q;have kp : ∀ d u v, H d = some u -> d ≠ a -> h.get? d = some v -> h'.get? d = some v := fun d u v q nd r => N.keep d v (fun m => by rw [hf d m] at q; cases q) nd (fun e=>by
   rcases hz with g |g
   ·exact nd (e.trans g)
   ·rw[e,g]at q;cases q) r
  refine(ok c u q).stay (fun d v hd r=>?_) (fun d r=>by rw[bw (n3 d _ r (by intro _ z;cases z))];exact r) fun d xs r=>by rw[bw (n3 d _ r (by intro _ z;cases z))];exact r
  rcases hd with rfl |hd
  ·exact kp d u v q hc r
  ·exact kp d _ v hd (n3 d _ hd (by intro _ z;cases z)) r
theorem Un.less {L:Addr}{H':Hp}(u:Un (L::fs) ch H H' h h')(n:h.get? L=none):Un fs ch H H' h h':=by
 have m:∀c o,h.get? c=some o->c≠L:=fun c o q e=>by rw[e,n]at q;cases q
 exact⟨fun c o q k hc hx=>u.keep c o q k (fun z=>(xan.mp z).elim (m c o q) hc) hx,fun c o q k hc hx=>u.slot c o q k (xak _ hc) hx,u.free,u.there,u.tups,u.frzs,u.tbls⟩
end
noncomputable def rY (P:Program) (w:World):eH:=fun outer H s E e s'=>∃a C dx H' T,e=.ref a/\s'.os=s.os/\AllBare s'.gens/\Un (frs outer) [] H H' s.heap s'.heap/\bN P w H' s'.heap/\H' a=some (xo a C dx false)/\H' T=none/\s.heap.objs.size<=T/\Bk s'.heap a T/\E (.ref C) dx H'
theorem zbq {H:Hp}{a:Addr}{o:HO}(e:H a=some o):upd H a o=H:=by
 funext b;unfold upd
 split
 ·subst_vars;exact e.symm
 ·rfl
theorem zbo {P:Program}{w:World}{H:Hp}{h:Heap}{a C:Addr}{dx:Option Addr}{b:Bool}(ok:bN P w H h)(e:H a=some (xo a C dx b)):
  ∃oe vs t,h.get? a=some oe/\oe.cls=.ref C/\oe.dict=dx/\oe.data=.fields vs/\vs.size=6/\vs[0]? =some (.ref t)/\(b=true->vs[1]? =some .none):=(ok a _ e).1
section
variable {X:Cx}{pins:Pnx}{σ:St}{H:Hp}{s:Shared}
noncomputable def Bj (K : Fgx) (C : Addr) : Bool := Bh K C && (PySem.W.hasDictIn K C && (PySem.W.findIn K (.ref C) "__class__"==some (some (.builtin "object.__class__")) &&
 (PySem.W.specialIn K (.builtin "object.__class__") "__get__"==some (some (.builtin "getset_descriptor.__get__")) && (PySem.W.takesIn K (.builtin "object.__class__")==some true && PySem.W.mroIn K C (.type "object")==some true))))
end
section
variable {X:Cx}{pins:Pnx}{σ:St}{H:Hp}{s:Shared}
structure Caught (X:Cx)(pins:Pnx)(σ:St)(H:Hp)(s:Shared)(a C:Addr)(dx:Option Addr)(T:Addr):Prop where
 inv:Inv X pins σ H s
 obj:H a=some (xo a C dx false)
 fl:Bk s.heap a T
 hT:H T=none
 t1:X.s₀.heap.objs.size<=T
 t2:T≠X.env.locals
 t3:∀x c,X.env.cells.lookup x=some c->c≠T
 t4:∀p∈X.pn ++ pins,p.1≠T
theorem O8 {T:Addr}(I:Inv X pins σ H s)(h:s.heap.objs.size<=T):X.s₀.heap.objs.size<=T/\T≠X.env.locals/\(∀x c,X.env.cells.lookup x=some c->c≠T)/\∀p∈X.pn ++ pins,p.1≠T:=by
 refine⟨xao I.sz h,xei (xal I.lt h),fun x c e=>?_,fun p hp=>?_⟩
 ·obtain⟨v,o,ho,_⟩:=I.cell x c e;exact xaD (xal (xam ho) h)
 ·exact xaD (xal (xam (I.pin p hp).1) h)
variable {a C T:Addr}{dx:Option Addr}{Q:Unit->Shared->Prop}{E:Value->Shared->Prop}{M:Model}
theorem Caught.note (c:Caught X pins σ H s a C dx T)(hs:X.stack=X.env::X.outer)(hf:X.env.frame=some X.env.locals)(k:∀s' T',Caught X pins σ H s' a C dx T'->Q () s'):
  wpAny M X.A (noteFrame (.ref a) X.env) (fun _ s2=>wpAny M X.A (setFlight (.ref a) none) Q E s2) E s:=by
 obtain ⟨oe, vs, t, e1, e2, e3, e4, e5, e6, _⟩ := zbo c.inv.hok c.obj;obtain ⟨oe', vs', oT, ts, f1, f2, f3, f4, f5, f6, f7⟩ := c.fl;rw [e1] at f1;cases f1;rw [e4] at f2;cases f2;have fr := c.inv.ok.frames;have st := c.inv.stack;rw [hs] at fr st;refine S8 fr st hf e1 e4 f3 f4 f5 f6 f7 fun h' T' N => S_ (s := { s with heap := h' }) N e1 e4 (by omega) fun h2 N2 => k _ T' ?_;have hx : ∃ vs t, oe.cls = .ref C /\ oe.dict = dx /\ oe.data = .fields vs /\ vs.size = 6 /\ vs[0]? = some (.ref t) := ⟨vs, t, e2, e3, e4, e5, e6⟩;rw [<- hs] at N2;have u := zap (ch := [T]) N2 c.obj (.inr (xaz.mpr rfl));have hk := QL c.inv.hok N2 c.obj (.inr c.hT) (fun b hb => c.inv.stkFree b hb) hx;rw [zbq c.obj] at u hk;have I2 : Inv X pins σ H { s with heap := h2 } := c.inv.call' (s' := { s with heap := h2 }) rfl u hk c.inv.bare (fun b hb=>by
  rw[xaz.mp hb];exact⟨.inr c.t1,c.t2,c.t3,c.t4⟩)
 obtain⟨z1,z2,z3,z4⟩:=O8 c.inv N2.new;exact⟨I2,c.obj,S9 N2 e1 e4 e5,c.inv.hok.fresh N2.new,z1,z2,z3,z4⟩
end
abbrev Cx.pin (X:Cx)(pins:Pnx)(E:Value->Shared->Prop):Cx:={X with pn:=X.pn ++ pins,xe:=E}
abbrev Cx.suite (X:Cx)(e:Value):Cx:={X with A:=X.A.mark (some e),calm:=false,xe:=fun _ _=>False}
end L2
namespace E3
open PySem PySem.Spec PyProof.Rows L2
inductive D where
 |non |bl (b:Bool) |int (i:Int) |str (s:Str) |tup (xs:List D) |lst (xs:List D) |ref (n:Nat)
structure FnT where
 st:Stmt
 x:Str
 q:Str
 pos:Pos
 fr:List Str
 dd:List Int:=[]
inductive Cl where
  |lst (ds:List D) |obj (c:Str) (fs:List (Str×D)) |dct (kvs:List (L2.Key×D))
    |dcf (kvs:List (L2.Key×D))
    |dtc (kvs:List (List L2.Key×D)) |dtf (kvs:List (List L2.Key×D))
    |fn (i:FnT) (caps:List (Str×D)) |tbl (nm:Str) (i:FnT)
abbrev Mm:=List Cl
inductive Slot where
 |un |val (d:D) |own (ds:List D) |exc (c:Str) (n:Int)
abbrev Env:=List Slot
mutual
def D.lf:D->Bool
 |.tup xs=>D.lfs xs
 |.lst _=>false
 |.ref _=>false
 |_=>true
def D.lfs:List D->Bool
 | []=>true
 |a::as=>D.lf a && D.lfs as
end
def KL (K:Fgx)(a:Addr)(vs:List V):Prop:=∃(o:Obj) (its:Array Value) (n:Nat),K.lookup a=some o/\o.cls=.type "list"/\o.dict=none/\o.data=.seq its n/\its.size<=sizeLine/\Vals vs its.toList
structure Pl where
 io:Nat->Addr
 n:Nat
 bd:Addr->Prop
def Bv (K:Fgx)(P:Pl)(H:Hp)(a:Addr)(vs:List V):Prop:=(¬ P.bd a/\Rd H a (.lst vs))\/KL K a vs
def Hy (K:Fgx)(P:Pl)(H:Hp)(a:Addr)(vs:List V):Prop:=((∀k,k<P.n->P.io k≠a)/\Rd H a (.lst vs))\/KL K a vs
mutual
def Is (K:Fgx)(P:Pl)(H:Hp):D->V->Prop
 |.non,v=>v=.non
 |.bl b,v=>v=.bl b
 |.int i,v=>v=.int i
 |.str s,v=>v=.str s
 |.tup ds,v=>∃a vs,v=.ref a/\dM K H a vs/\au K P H ds vs
 |.lst ds,v=>∃a vs,v=.ref a/\Bv K P H a vs/\au K P H ds vs
 |.ref k,v=>k<P.n/\v=.ref (P.io k)
def au (K:Fgx)(P:Pl)(H:Hp):List D->List V->Prop
 | [],vs=>vs=[]
 |d::ds,vs=>∃v r,vs=v::r/\Is K P H d v/\au K P H ds r
end
def Fx (o:HO):Prop:=(∃xs,o=.tup xs)\/(∃u w,o=.frz u w)\/(∃g,o=.ext g)\/∃fs,o=.xd fs
structure Lt (P:Pl)(H:Hp)(P':Pl)(H':Hp):Prop where
 n:P.n<=P'.n
 io:∀k,k<P.n->P'.io k=P.io k
 bd:∀a,P'.bd a->P.bd a\/H a=none
 keep:∀a o,H a=some o->(Fx o\/¬ P.bd a)->H' a=some o
 sure:∀a,H' a=none->H a=none
section
variable {K:Fgx}{P P' P'':Pl}{H H' H'':Hp}
theorem Lt.refl (P:Pl)(H:Hp):Lt P H P H:=⟨xab _,fun _ _=>rfl,fun _ z=>.inl z,fun _ _ e _=>e,fun _ z=>z⟩
theorem Lt.frz (l:Lt P H P' H'):∀b o u,H b=some (.frz o u)->H' b=some (.frz o u):=fun b o u e=>l.keep b _ e (.inl (.inr (.inl ⟨_,_,rfl⟩)))
theorem Lt.not (l:Lt P H P' H'){a:Addr}{o:HO}(e:H a=some o)(n:¬ P.bd a):¬ P'.bd a:=fun z=>(l.bd a z).elim n fun z=>by rw[e]at z;cases z
theorem Lt.trans (l:Lt P H P' H')(m:Lt P' H' P'' H''):Lt P H P'' H'' where
 n:=xao l.n m.n
 io:=fun k h=>(m.io k (xal h l.n)).trans (l.io k h)
 bd:=fun a z=>(m.bd a z).elim (l.bd a) fun z=>.inr (l.sure a z)
 keep:=fun a o e h=>m.keep a o (l.keep a o e h) (h.imp id fun n=>l.not e n)
 sure:=fun a z=>l.sure a (m.sure a z)
theorem Lt.rd (l:Lt P H P' H'){a:Addr}{xs:List V}(n:¬ P.bd a)(h:Rd H a (.lst xs)):Rd H' a (.lst xs):=by
 rcases h with h |⟨o,h⟩
 ·exact .inl (l.keep _ _ h (.inr n))
 ·exact .inr ⟨o,l.keep _ _ h (.inr n)⟩
theorem Li {a:Addr}{o:HO}(h:Rd H a o):∃o',H a=some o':=h.elim (fun h=>⟨_,h⟩) fun⟨_,h⟩=>⟨_,h⟩
theorem Lt.rda (l:Lt P H P' H'){a:Addr}{xs:List V}(h:Bv K P H a xs):Bv K P' H' a xs:=h.imp (fun⟨n,h⟩=>⟨by obtain⟨o,e⟩:=Li h;exact l.not e n,l.rd n h⟩) id
theorem Lt.tup (l:Lt P H P' H'){a:Addr}{xs:List V}(h:dM K H a xs):dM K H' a xs:=by
 rcases h with(h |⟨o,h⟩) |h
 ·exact .inl (.inl (l.keep _ _ h (.inl (.inl ⟨_,rfl⟩))))
 ·exact .inl (.inr ⟨o,l.keep _ _ h (.inl (.inr (.inl ⟨_,_,rfl⟩)))⟩)
 ·exact .inr h
mutual
theorem Is.lt (l:Lt P H P' H'):∀{d:D} {v:V},Is K P H d v->Is K P' H' d v
  |.non,_,h=>h
  |.bl _,_,h=>h
  |.int _,_,h=>h
  |.str _,_,h=>h
  |.tup ds,_,h=>by
    obtain⟨a,vs,e,s,r⟩:=h;exact⟨a,vs,e,l.tup s,au.lt l r⟩
  |.lst ds,_,h=>by
    obtain⟨a,vs,e,s,r⟩:=h;exact⟨a,vs,e,l.rda s,au.lt l r⟩
  |.ref k,_,h=>⟨xal h.1 l.n,by rw[l.io k h.1];exact h.2⟩
theorem au.lt (l:Lt P H P' H'):∀{ds:List D} {vs:List V},au K P H ds vs->au K P' H' ds vs
  | [],_,h=>h
  |_::_,_,h=>by
    obtain⟨v,r,e,p,q⟩:=h;exact⟨v,r,e,Is.lt l p,au.lt l q⟩
end
noncomputable def Pl.less (P:Pl) (B:Addr->Prop):Pl:={P with bd:=fun a=>P.bd a/\B a}
mutual
theorem Is.less {B:Addr->Prop}:∀{d:D} {v:V},Is K P H d v->Is K (P.less B) H d v
  |.non,_,h=>h
  |.bl _,_,h=>h
  |.int _,_,h=>h
  |.str _,_,h=>h
  |.tup ds,_,h=>by
    obtain⟨a,vs,e,s,r⟩:=h;exact⟨a,vs,e,s,au.less r⟩
  |.lst ds,_,h=>by
    obtain⟨a,vs,e,s,r⟩:=h;exact⟨a,vs,e,s.imp (fun⟨n,h⟩=>⟨fun z=>n z.1,h⟩) id,au.less r⟩
  |.ref k,_,h=>h
theorem au.less {B:Addr->Prop}:∀{ds:List D} {vs:List V},au K P H ds vs->au K (P.less B) H ds vs
  | [],_,h=>h
  |_::_,_,h=>by
    obtain⟨v,r,e,p,q⟩:=h;exact⟨v,r,e,Is.less p,au.less q⟩
end
mutual
theorem Is.free (P':Pl):∀{d:D} {v:V},d.lf=true->Is K P H d v->Is K P' H d v
  |.non,_,_,h=>h
  |.bl _,_,_,h=>h
  |.int _,_,_,h=>h
  |.str _,_,_,h=>h
  |.tup ds,_,l,h=>by
    obtain⟨a,vs,e,s,r⟩:=h;exact⟨a,vs,e,s,au.free P' (by simpa only[D.lf] using l) r⟩
  |.lst _,_,l,_=>by simp[D.lf]at l
  |.ref _,_,l,_=>by simp[D.lf]at l
theorem au.free (P':Pl):∀{ds:List D} {vs:List V},D.lfs ds=true->au K P H ds vs->au K P' H ds vs
  | [],_,_,h=>h
  |_::_,_,l,h=>by
    obtain⟨v,r,e,p,q⟩:=h;simp only[D.lfs,xav]at l;exact⟨v,r,e,Is.free P' l.1 p,au.free P' l.2 q⟩
end
theorem au.len:∀{ds:List D} {vs:List V},au K P H ds vs->vs.length=ds.length
  | [],_,h=>by rw[show _=[] from h];rfl
  |d::ds,_,h=>by
    obtain⟨v,r,e,_,q⟩:=h;subst e
    simp[au.len q]
theorem au.get:∀{ds:List D} {vs:List V} {i:Nat} {d:D},au K P H ds vs->ds[i]? =some d->∃v,vs[i]? =some v/\Is K P H d v
  | [],_,_,_,_,e=>by simp at e
  |d::ds,_,0,_,h,e=>by
    obtain⟨v,r,e',p,_⟩:=h
    simp at e
    subst e e';exact⟨v,rfl,p⟩
  |d::ds,_,i + 1,_,h,e=>by
    obtain⟨v,r,e',_,q⟩:=h;subst e'
    simpa using au.get (i:=i) q (by simpa using e)
theorem au.append:∀{ds es:List D} {vs ws:List V},au K P H ds vs->au K P H es ws->au K P H (ds ++ es) (vs ++ ws)
  | [],_,_,_,h,q=>by rw[show _=[] from h];exact q
  |d::ds,_,_,_,h,q=>by
    obtain⟨v,r,e,p,h⟩:=h;subst e;exact⟨v,r ++ _,rfl,p,au.append h q⟩
theorem au.take:∀{ds:List D} {vs:List V} (n:Nat),au K P H ds vs->au K P H (ds.take n) (vs.take n)
  |_,_,0,_=>rfl
  | [],_,n + 1,h=>by rw[show _=[] from h];rfl
  |d::ds,_,n + 1,h=>by
    obtain⟨v,r,e,p,h⟩:=h;subst e;exact⟨v,_,rfl,p,au.take n h⟩
theorem au.drop:∀{ds:List D} {vs:List V} (n:Nat),au K P H ds vs->au K P H (ds.drop n) (vs.drop n)
  |_,_,0,h=>h
  | [],_,n + 1,h=>by rw[show _=[] from h];rfl
  |d::ds,_,n + 1,h=>by
    obtain⟨v,r,e,p,h⟩:=h;subst e;exact au.drop n h
theorem au.one {d:D}{v:V}(h:Is K P H d v):au K P H [d] [v]:=⟨v,[],rfl,h,rfl⟩
end
noncomputable def gQ (H:Hp):List (Str×Addr)->List V->Prop
 | [],vs=>vs=[]
 |p::r,vs=>∃v ws u o,vs=v::ws/\RelV v u/\H p.2=some (.frz o (.own p.2))/\o.data=.cell (some u)/\gQ H r ws
theorem gQ.up {H H':Hp}(s:∀b o u,H b=some (.frz o u)->H' b=some (.frz o u)):∀{cl:List (Str×Addr)} {vs:List V},gQ H cl vs->gQ H' cl vs
  | [],_,h=>h
  |_::_,_,h=>by
    obtain⟨v,ws,u,o,e,r,q,d,h⟩:=h;exact⟨v,ws,u,o,e,r,s _ _ _ q,d,h.up s⟩
def gR (H:Hp)(c:Addr)(q:Str):Prop:=∃(o:Obj) (fs:Array Value) (t:Tok),H c=some (.frz o (.own c))/\o.data=.fields fs/\fs[1]? =some (.str q t)
theorem gR.up {H H':Hp}{c:Addr}{q:Str}(s:∀b o u,H b=some (.frz o u)->H' b=some (.frz o u))(h:gR H c q):gR H' c q:=by
 obtain⟨o,fs,t,e,r⟩:=h;exact⟨o,fs,t,s _ _ _ e,r⟩
def gU (H:Hp)(dd:List Int)(dV:Value):Prop:=(dd=[]/\dV=.none)\/(dd≠ []/\∃(td:Addr) (o:Obj) (its:Array Value) (n:Nat),dV=.ref td/\H td=some (.frz o (.own td))/\o.data=.seq its n/\Vals (dd.map V.int) its.toList)
theorem gU.up {H H':Hp}{dd:List Int}{dV:Value}(s:∀b o u,H b=some (.frz o u)->H' b=some (.frz o u))(h:gU H dd dV):gU H' dd dV:=
 h.imp id fun⟨e,td,o,its,n,e1,e2,r⟩=>⟨e,td,o,its,n,e1,s _ _ _ e2,r⟩
noncomputable def Jx (mg:Mgx) (i:FnT) (cl:List (Str×Addr)) (dV doc ctv:Value) (c:Addr):Obj:={cls:=.type "function",data:=.func (PySem.W.fnX i.x i.q (cJ i.st) (bV i.st) (aR i.st) cl dV .none doc ((mg "__name__").getD .none) none (.ref c) ctv)}
def lA (K:Fgx)(mg:Mgx)(P:Pl)(H:Hp)(a:Addr)(i:FnT)(caps:List (Str×D)):Prop:=
 ∃(cl:List (Str×Addr)) (dV doc ctv:Value) (c:Addr) (vs:List V),H a=some (.frz (Jx mg i cl dV doc ctv c) (.own a))/\(gR H c i.q/\gU H i.dd dV)/\(cl.map (·.1)=caps.map (·.1)/\caps.map (·.1)=i.fr)/\au K P H (caps.map (·.2)) vs/\gQ H cl vs/\∀x y a,cl.lookup x=some a->cl.lookup y=some a->x=y
theorem lA.up {K:Fgx}{mg:Mgx}{P P':Pl}{H H':Hp}{a:Addr}{i:FnT}{caps:List (Str×D)}(h:lA K mg P H a i caps)(s:∀b o u,H b=some (.frz o u)->H' b=some (.frz o u))(q:∀ds vs,au K P H ds vs->au K P' H' ds vs):lA K mg P' H' a i caps:=by
 obtain⟨cl,dV,doc,ctv,c,vs,e1,e2,e3,e4,e5,e6⟩:=h;exact⟨cl,dV,doc,ctv,c,vs,s _ _ _ e1,⟨e2.1.up s,e2.2.up s⟩,e3,q _ _ e4,e5.up s,e6⟩
def pF (K:Fgx)(H:Hp)(a:Addr)(nm:Str)(i:FnT):Prop:=
 ∃(c:Addr) (ps:Array Value),PySem.W.tabIn K nm=some (c,a)/\H a=some (.tbl ps)/\(ps= #[]\/∃c',ps= #[rawInt i.pos.line,rawInt i.pos.col,.ref c']/\gR H c' i.q)
theorem pF.up {K:Fgx}{H H':Hp}{a:Addr}{nm:Str}{i:FnT}(h:pF K H a nm i)(e:∀o,H a=some o->H' a=some o)(s:∀b o u,H b=some (.frz o u)->H' b=some (.frz o u)):pF K H' a nm i:=by
 obtain⟨c,ps,e1,e2,e3⟩:=h;exact⟨c,ps,e1,e _ e2,e3.imp id fun⟨c',z,q⟩=>⟨c',z,q.up s⟩⟩
noncomputable def rZ (K:Fgx) (mg:Mgx) (P:Pl) (H:Hp) (a:Addr):Cl->Prop
 |.lst ds=>∃vs,H a=some (.lst vs)/\au K P H ds vs
 |.obj c fs=>∃C dx gs,mg c=some (.ref C)/\H a=some (.ins C dx gs)/\gs.map (·.1)=fs.map (·.1)/\au K P H (fs.map (·.2)) (gs.map (·.2))
 |.dct kvs=>∃vs:List (L2.Key×V),H a=some (.dK vs)/\vs.map (·.1)=kvs.map (·.1)/\au K P H (kvs.map (·.2)) (vs.map (·.2))
 |.dcf kvs=>∃(vs:List (L2.Key×V)) (ob:Obj) (es:Array DictEntry) (ep:Nat),H a=some (.frz ob (.dK vs))/\ob.data=.dict es ep/\vs.map (·.1)=kvs.map (·.1)/\au K P H (kvs.map (·.2)) (vs.map (·.2))
 |.dtc kvs=>∃vs:List (List L2.Key×V),H a=some (.dT vs)/\vs.map (·.1)=kvs.map (·.1)/\au K P H (kvs.map (·.2)) (vs.map (·.2))
 |.dtf kvs=>∃(vs:List (List L2.Key×V)) (ob:Obj) (es:Array DictEntry) (ep:Nat),H a=some (.frz ob (.dT vs))/\ob.data=.dict es ep/\vs.map (·.1)=kvs.map (·.1)/\au K P H (kvs.map (·.2)) (vs.map (·.2))
 |.fn i caps=>lA K mg P H a i caps
 |.tbl nm i=>pF K H a nm i
noncomputable def Cl.fix:Cl->Bool
 |.dcf _=>true
 |.dtf _=>true
 |.fn _ _=>true
 |_=>false
structure Hk (K:Fgx)(mg:Mgx)(P:Pl)(H:Hp)(M:Mm):Prop where
 n:P.n=M.length
 cell:∀(k:Nat) c,M[k]? =some c->rZ K mg P H (P.io k) c
 inj:∀j k,j<P.n->k<P.n->P.io j=P.io k->j=k
 bd:∀k,k<P.n->P.bd (P.io k)
 here:∀a,P.bd a->H a≠none
structure LtE (P:Pl)(H:Hp)(P':Pl)(H':Hp):Prop where
 n:P.n<=P'.n
 io:∀k,k<P.n->P'.io k=P.io k
 bd:∀a,P'.bd a->P.bd a\/H a=none
 bm:∀a,P.bd a->P'.bd a
 keep:∀a o,H a=some o->(Fx o\/∀k,k<P.n->P.io k≠a)->H' a=some o
 sure:∀a,H' a=none->H a=none
 nw:∀k,P.n<=k->k<P'.n->H (P'.io k)=none
section
variable {K:Fgx}{mg:Mgx}{P P' P'':Pl}{H H' H'':Hp}{M M':Mm}
theorem LtE.refl (P:Pl)(H:Hp):LtE P H P H:=⟨xab _,fun _ _=>rfl,fun _ z=>.inl z,fun _ z=>z,fun _ _ e _=>e,fun _ z=>z,fun k h1 h2=>absurd h1 (xdu.mpr h2)⟩
theorem LtE.same (s:Same H H'):LtE P H P H':=⟨xab _,fun _ _=>rfl,fun _ z=>.inl z,fun _ z=>z,fun a o e _=>s a o e,fun a z=>s.free z,fun k h1 h2=>absurd h1 (xdu.mpr h2)⟩
theorem Hk.cellAt (h:Hk K mg P H M){k:Nat}{c:Cl}(hc:M[k]? =some c)(nd:c.fix=false:=by rfl):∃o,H (P.io k)=some o/\¬ Fx o:=by
  have:=h.cell k c hc
  cases c with
  |lst ds=>
    obtain⟨vs,e,_⟩:=this;exact⟨_,e,fun z=>by rcases z with⟨_,z⟩ |⟨_,_,z⟩ |⟨_,z⟩ |⟨_,z⟩<;>cases z⟩
  |obj c fs=>
    obtain⟨C,dx,gs,_,e,_⟩:=this;exact⟨_,e,fun z=>by rcases z with⟨_,z⟩ |⟨_,_,z⟩ |⟨_,z⟩ |⟨_,z⟩<;>cases z⟩
  |dct kvs=>
    obtain⟨vs,e,_⟩:=this;exact⟨_,e,fun z=>by rcases z with⟨_,z⟩ |⟨_,_,z⟩ |⟨_,z⟩ |⟨_,z⟩<;>cases z⟩
  |dtc kvs=>
    obtain⟨vs,e,_⟩:=this;exact⟨_,e,fun z=>by rcases z with⟨_,z⟩ |⟨_,_,z⟩ |⟨_,z⟩ |⟨_,z⟩<;>cases z⟩
  |dcf kvs=>cases nd
  |dtf kvs=>cases nd
  |fn i caps=>cases nd
  |tbl nm i=>
    obtain⟨c,ps,_,e,_⟩:=this;exact⟨_,e,fun z=>by rcases z with⟨_,z⟩ |⟨_,_,z⟩ |⟨_,z⟩ |⟨_,z⟩<;>cases z⟩
theorem LtE.lt (l:LtE P H P' H')(h:Hk K mg P H M):Lt P H P' H' where
 n:=l.n
 io:=l.io
 bd:=l.bd
 sure:=l.sure
 keep:=fun a o e z=>l.keep a o e (z.imp id fun z k hk q=>z (q ▸ h.bd k hk))
theorem LtE.trans (l:LtE P H P' H')(m:LtE P' H' P'' H''):LtE P H P'' H'' where
 n:=xao l.n m.n
 io:=fun k h=>(m.io k (xal h l.n)).trans (l.io k h)
 bd:=fun a z=>(m.bd a z).elim (l.bd a) fun z=>.inr (l.sure a z)
 bm:=fun a z=>m.bm a (l.bm a z)
 keep:=fun a o e h=>m.keep a o (l.keep a o e h) <| h.imp id fun h k hk q=>by
  rcases xaO k P.n with z |z
  ·rw[l.io k z]at q;exact h k z q
  ·rw[<-q,l.nw k z hk]at e;cases e
 sure:=fun a z=>l.sure a (m.sure a z)
 nw:=fun k h1 h2=>by
  rcases xaO k P'.n with z |z
  ·rw[m.io k z];exact l.nw k h1 z
  ·exact l.sure _ (m.nw k z h2)
end
inductive Cp where
 |eq |ne |lt |le |gt |ge |isin |notin |same |other
mutual
def D.eq:D->D->Bool
 |.non,.non=>true
 |.bl a,.bl b=>a==b
 |.bl a,.int b=>(if a then 1 else 0)==b
 |.int a,.bl b=>a==(if b then 1 else 0)
 |.int a,.int b=>a==b
 |.str a,.str b=>a==b
 |.tup a,.tup b=>D.eqs a b
 |.lst a,.lst b=>D.eqs a b
 |.ref a,.ref b=>a==b
 |_,_=>false
def D.eqs:List D->List D->Bool
 | [],[]=>true
 |a::as,b::bs=>D.eq a b && D.eqs as bs
 |_,_=>false
end
mutual
def D.dep:D->Nat
 |.tup xs=>D.deps xs + 1
 |.lst xs=>D.deps xs + 1
 |.ref _=>101
 |_=>0
def D.deps:List D->Nat
 | []=>0
 |a::as=>max (D.dep a) (D.deps as)
end
noncomputable def D.flat:D->Bool
 |.tup _=>false
 |.lst _=>false
 |.ref _=>false
 |_=>true
noncomputable def zp (i j:Str):Bool:= !(Builtin.Str.occurrences j i 0 j.length 1).isEmpty
def cR (a b:D):Bool:=a.flat==b.flat && decide (b.dep<=50)
noncomputable def lC (a b:D):Option Bool:=if cR a b=true/\a.dep<=50 then some (D.eq a b) else none
noncomputable def nA (a b:D):Option Bool:=if cR a b=true/\a.dep<=50 then some (!D.eq a b) else none
noncomputable def cG (f:Int->Int->Bool) (a b:D):Option Bool:=match a with
 |.int i=>(match b with |.int j=>some (f i j) |_=>none)
 |_=>none
noncomputable def nu (a b:D):Option Bool:=match b with
 |.str j=>(match a with |.str i=>some (zp i j) |_=>none)
 |.lst xs=>if (a.flat && xs.all D.flat)=true then some (xs.any fun y=>D.eq y a) else none
 |.tup xs=>if (a.flat && xs.all D.flat)=true then some (xs.any fun y=>D.eq y a) else none
 |_=>none
noncomputable def eX (a b:D):Option Bool:=match b with
 |.str j=>(match a with |.str i=>some (!zp i j) |_=>none)
 |.lst xs=>if (a.flat && xs.all D.flat)=true then some (!xs.any fun y=>D.eq y a) else none
 |.tup xs=>if (a.flat && xs.all D.flat)=true then some (!xs.any fun y=>D.eq y a) else none
 |_=>none
noncomputable def nG (a b:D):Option Bool:=match b with
 |.bl b=>(match a with |.bl a=>some (a==b) |_=>some false)
 |.non=>(match a with |.non=>some true |_=>some false)
 |_=>none
noncomputable def nF (a b:D):Option Bool:=match b with
 |.bl b=>(match a with |.bl a=>some (!(a==b)) |_=>some true)
 |.non=>(match a with |.non=>some false |_=>some true)
 |_=>none
noncomputable def bO (c:Cp) (a b:D):Option Bool:=match c with
 |.eq=>lC a b
 |.ne=>nA a b
 |.lt=>cG (fun i j=>decide (i<j)) a b
 |.le=>cG (fun i j=>decide (i<=j)) a b
 |.gt=>cG (fun i j=>decide (j<i)) a b
 |.ge=>cG (fun i j=>decide (j<=i)) a b
 |.isin=>nu a b
 |.notin=>eX a b
 |.same=>nG a b
 |.other=>nF a b
noncomputable def bQ (K:Fgx) (P:Pl) (H:Hp):D->V->Prop
 |.lst ds,v=>∃a vs,v=.ref a/\Hy K P H a vs/\au K P H ds vs
 |d,v=>Is K P H d v
section
variable {X:Cx}{pins:Pnx}{σ:L2.St}{H:Hp}{s:Shared}
theorem Z9 {K:Fgx}{P:Pl}{a:Addr}{xs:List V}(h:Hy K P H a xs):bC K H a xs:=h.imp (·.2) id
noncomputable def bH (K:Fgx) (P:Pl) (H:Hp):D->V->Prop
 |.lst ds,v=>∃a vs,v=.ref a/\bC K H a vs/\au K P H ds vs
 |d,v=>Is K P H d v
theorem bQ.w {K:Fgx}{P:Pl}{d:D}{v:V}(h:bQ K P H d v):bH K P H d v:=by
 cases d<;>first |exact h |(obtain⟨a,vs,e,r,q⟩:=h;exact⟨a,vs,e,Z9 r,q⟩)
theorem Is.w {K:Fgx}{P:Pl}{d:D}{v:V}(h:Is K P H d v):bH K P H d v:=by
 cases d<;>first |exact h |(obtain⟨a,vs,e,r,q⟩:=h;exact⟨a,vs,e,r.imp (·.2) id,q⟩)
theorem sql {l:Addr}{xs:List V}(I:Inv X pins σ H s)(h:bC X.K H l xs):xs.length<=sizeLine/\∃its:List Value,Vals xs its/\s.heap.IsList l its.toArray:=by
 obtain⟨its,r,p,z⟩:=I.list h;exact⟨z,its,r,p.isList⟩
mutual
theorem Is.inj (I:Inv X pins σ H s){A B:Pl}:∀(d e:D) (v:V),bH X.K A H d v->bH X.K B H e v->d.dep<=100->e.dep<=100->d=e
  |.ref _,e,v,h,h',hd,he=>by simp[D.dep]at hd
  |.non,e,v,h,h',hd,he=>by
    have hv:v=.non:=h;subst hv;cases e<;>first |(simp[D.dep]at he;done) |(simp[bH,Is]at h'<;>rfl)
  |.bl b,e,v,h,h',hd,he=>by
    have hv:v=.bl b:=h;subst hv;cases e<;>first |(simp[D.dep]at he;done) |(simp[bH,Is]at h'<;>simp[h'])
  |.int b,e,v,h,h',hd,he=>by
    have hv:v=.int b:=h;subst hv;cases e<;>first |(simp[D.dep]at he;done) |(simp[bH,Is]at h'<;>simp[h'])
  |.str b,e,v,h,h',hd,he=>by
    have hv:v=.str b:=h;subst hv;cases e<;>first |(simp[D.dep]at he;done) |(simp[bH,Is]at h'<;>simp[h'])
  |.tup ds,e,v,h,h',hd,he=>by
    simp only[D.dep]at hd;simp only[bH,Is]at h;obtain⟨a,vs,rfl,t,r⟩:=h
    cases e with
    |tup es=>
      simp only[bH,Is]at h';obtain⟨b,ws,e1,t',r'⟩:=h';cases e1;have e2:=I.tuple_inj t t';subst e2;simp only[D.dep]at he;rw[au.inj I ds es vs r r' (by omega) (by omega)]
    |lst es=>
      obtain⟨b,ws,e1,t',r'⟩:=h';cases e1;obtain⟨_,its,_,o2,e2,c2,_⟩:=sql I t';obtain⟨its2,_,⟨o,e3,c3,_⟩,_⟩:=I.tuple t;rw[e2]at e3;cases e3;rw[c2]at c3;exact absurd c3 (by simp)
    |ref _=>simp[D.dep]at he
    |_=>simp[bH,Is]at h'
  |.lst ds,e,v,h,h',hd,he=>by
    simp only[D.dep]at hd;obtain⟨a,vs,rfl,t,r⟩:=h
    cases e with
    |lst es=>
      obtain⟨b,ws,e1,t',r'⟩:=h';cases e1;have e2:=I.list_inj (t) (t');subst e2;simp only[D.dep]at he;rw[au.inj I ds es vs r r' (by omega) (by omega)]
    |tup es=>
      simp only[bH,Is]at h';obtain⟨b,ws,e1,t',r'⟩:=h';cases e1;obtain⟨_,its,_,o2,e2,c2,_⟩:=sql I t;obtain⟨its2,_,⟨o,e3,c3,_⟩,_⟩:=I.tuple t';rw[e2]at e3;cases e3;rw[c2]at c3;exact absurd c3 (by simp)
    |ref _=>simp[D.dep]at he
    |_=>simp[bH,Is]at h'
theorem au.inj (I:Inv X pins σ H s){A B:Pl}:∀(ds es:List D) (vs:List V),au X.K A H ds vs->au X.K B H es vs->D.deps ds<=100->D.deps es<=100->ds=es
  | [],es,vs,h,h',hd,he=>by
    have hv:vs=[]:=h;subst hv
    cases es with
    |nil=>rfl
    |cons=>simp[au]at h'
  |d::ds,es,vs,h,h',hd,he=>by
    simp only[D.deps]at hd;obtain⟨v,r,rfl,p,q⟩:=h
    cases es with
    |nil=>simp[au]at h'
    |cons e es=>
      obtain⟨v',r',e1,p',q'⟩:=h';cases e1;simp only[D.deps]at he;rw[Is.inj I d e v p.w p'.w (by omega) (by omega),au.inj I ds es r q q' (by omega) (by omega)]
end
mutual
theorem D.eq_refl:∀d:D,D.eq d d=true
 |.non=>rfl
 |.bl b=>by simp[D.eq]
 |.int b=>by simp[D.eq]
 |.str b=>by simp[D.eq]
 |.tup ds=>by simp only[D.eq];exact D.eqs_refl ds
 |.lst ds=>by simp only[D.eq];exact D.eqs_refl ds
 |.ref n=>by simp[D.eq]
theorem D.eqs_refl:∀d:List D,D.eqs d d=true
 | []=>rfl
 |d::ds=>by simp only[D.eqs,D.eq_refl d,D.eqs_refl ds,xeb]
end
theorem D.eqs_len:∀(ds es:List D),ds.length≠es.length->D.eqs ds es=false
  | [],[],h=>absurd rfl h
  | [],_::_,_=>rfl
  |_::_,[],_=>rfl
  |d::ds,e::es,h=>by
    simp only[D.eqs,D.eqs_len ds es (by simpa using h),xc6]
theorem D.eqs_all:∀(ds es:List D),ds.length=es.length->D.eqs ds es=(List.range ds.length).all fun j=>D.eq (ds.getD j .non) (es.getD j .non)
  | [],[],_=>rfl
  |d::ds,e::es,h=>by
    rw[D.eqs,D.eqs_all ds es (by simpa using h),xaF,List.range_succ_eq_map,xb1,List.all_map];rfl
mutual
theorem CZ (I:Inv X pins σ H s){A B:Pl}{Ar:Around}:∀(d e:D) (v w:V) (u u':Value),bH X.K A H d v->bH X.K B H e w->RelV v u->RelV w u'->Ar.units + d.dep<cLine->d.dep<=100->e.dep<=100->SeqAt.EqAt Ar s u u' (D.eq d e)
  |.ref _,e,v,w,u,u',h1,h2,r1,r2,hu,hd,he=>by simp[D.dep]at hd
  |.non,e,v,w,u,u',h1,h2,r1,r2,hu,hd,he=>by
    have hv:v=.non:=h1;subst hv;cases r1;have hu':Ar.units<cLine:=by omega
    cases e with
    |ref _=>simp[D.dep]at he
    |non=>have hw:w=.non:=h2;subst hw;cases r2;exact xcY _
    |bl b=>have hw:w=.bl b:=h2;subst hw;cases r2;exact SeqAt.EqAt.none_bool _
    |int b=>have hw:w=.int b:=h2;subst hw;obtain⟨t,rfl⟩:=r2;exact SeqAt.EqAt.none_int _ _
    |str b=>have hw:w=.str b:=h2;subst hw;obtain⟨t,rfl⟩:=r2;exact SeqAt.EqAt.none_str _ _
    |tup es=>obtain⟨a,vs,rfl,t,_⟩:=h2;cases r2;obtain⟨its,_,p,_⟩:=I.tuple t;exact SeqAt.EqAt.none_tuple p hu'
    |lst es=>obtain⟨a,vs,rfl,t,_⟩:=h2;cases r2;obtain⟨_,its,_,p⟩:=sql I t;exact SeqAt.EqAt.none_list p hu'
  |.bl x,e,v,w,u,u',h1,h2,r1,r2,hu,hd,he=>by
    have hv:v=.bl x:=h1;subst hv;cases r1;have hu':Ar.units<cLine:=by omega
    cases e with
    |ref _=>simp[D.dep]at he
    |non=>have hw:w=.non:=h2;subst hw;cases r2;exact SeqAt.EqAt.bool_none _
    |bl b=>have hw:w=.bl b:=h2;subst hw;cases r2;exact SeqAt.EqAt.bool_bool _ _
    |int b=>have hw:w=.int b:=h2;subst hw;obtain⟨t,rfl⟩:=r2;exact SeqAt.EqAt.bool_int _ _ _
    |str b=>have hw:w=.str b:=h2;subst hw;obtain⟨t,rfl⟩:=r2;exact SeqAt.EqAt.bool_str _ _ _
    |tup es=>obtain⟨a,vs,rfl,t,_⟩:=h2;cases r2;obtain⟨its,_,p,_⟩:=I.tuple t;exact SeqAt.EqAt.bool_tuple _ p hu'
    |lst es=>obtain⟨a,vs,rfl,t,_⟩:=h2;cases r2;obtain⟨_,its,_,p⟩:=sql I t;exact SeqAt.EqAt.bool_list _ p hu'
  |.int x,e,v,w,u,u',h1,h2,r1,r2,hu,hd,he=>by
    have hv:v=.int x:=h1;subst hv;obtain⟨t0,rfl⟩:=r1;have hu':Ar.units<cLine:=by omega
    cases e with
    |ref _=>simp[D.dep]at he
    |non=>have hw:w=.non:=h2;subst hw;cases r2;exact SeqAt.EqAt.int_none _ _
    |bl b=>have hw:w=.bl b:=h2;subst hw;cases r2;exact SeqAt.EqAt.int_bool _ _ _
    |int b=>have hw:w=.int b:=h2;subst hw;obtain⟨t,rfl⟩:=r2;exact xct _ _ _ _
    |str b=>have hw:w=.str b:=h2;subst hw;obtain⟨t,rfl⟩:=r2;exact xda _ _ _ _
    |tup es=>obtain⟨a,vs,rfl,t,_⟩:=h2;cases r2;obtain⟨its,_,p,_⟩:=I.tuple t;exact SeqAt.EqAt.int_tuple _ _ p hu'
    |lst es=>obtain⟨a,vs,rfl,t,_⟩:=h2;cases r2;obtain⟨_,its,_,p⟩:=sql I t;exact SeqAt.EqAt.int_list _ _ p hu'
  |.str x,e,v,w,u,u',h1,h2,r1,r2,hu,hd,he=>by
    have hv:v=.str x:=h1;subst hv;obtain⟨t0,rfl⟩:=r1;have hu':Ar.units<cLine:=by omega
    cases e with
    |ref _=>simp[D.dep]at he
    |non=>have hw:w=.non:=h2;subst hw;cases r2;exact SeqAt.EqAt.str_none _ _
    |bl b=>have hw:w=.bl b:=h2;subst hw;cases r2;exact SeqAt.EqAt.str_bool _ _ _
    |int b=>have hw:w=.int b:=h2;subst hw;obtain⟨t,rfl⟩:=r2;exact xdb _ _ _ _
    |str b=>have hw:w=.str b:=h2;subst hw;obtain⟨t,rfl⟩:=r2;exact xcu _ _ _ _
    |tup es=>obtain⟨a,vs,rfl,t,_⟩:=h2;cases r2;obtain⟨its,_,p,_⟩:=I.tuple t;exact SeqAt.EqAt.str_tuple _ _ p hu'
    |lst es=>obtain⟨a,vs,rfl,t,_⟩:=h2;cases r2;obtain⟨_,its,_,p⟩:=sql I t;exact SeqAt.EqAt.str_list _ _ p hu'
  |.tup ds,e,v,w,u,u',h1,h2,r1,r2,hu,hd,he=>by
    have h1':=h1;have hd':=hd;simp only[D.dep]at hu hd;have hu':Ar.units<cLine:=by omega
    obtain⟨a,vs,rfl,t,q⟩:=h1;cases r1;obtain⟨its,rv,p,hz⟩:=I.tuple t
    cases e with
    |ref _=>simp[D.dep]at he
    |non=>have hw:w=.non:=h2;subst hw;cases r2;exact SeqAt.EqAt.tuple_none p hu'
    |bl b=>have hw:w=.bl b:=h2;subst hw;cases r2;exact SeqAt.EqAt.tuple_bool _ p hu'
    |int b=>have hw:w=.int b:=h2;subst hw;obtain⟨t,rfl⟩:=r2;exact SeqAt.EqAt.tuple_int _ _ p hu'
    |str b=>have hw:w=.str b:=h2;subst hw;obtain⟨t,rfl⟩:=r2;exact SeqAt.EqAt.tuple_str _ _ p hu'
    |tup es=>
      have h2':=h2;have he':=he;simp only[D.dep]at he;obtain⟨b,ws,rfl,t',q'⟩:=h2;cases r2
      by_cases hab:a=b
      · subst hab;rw[Is.inj I _ _ _ h1' h2' hd' he',D.eq_refl];exact xcY _
      · obtain⟨its',rv',p',hz'⟩:=I.tuple t';refine SeqAt.EqAt.of_refs hab ?_;have l1:its.toArray.size=ds.length:=by rw[xah, <-rv.length,q.len]
        have l2:its'.toArray.size=es.length:=by rw[xah, <-rv'.length,q'.len]
        have key:=SeqAt.RcAt.tuples (A:=Ar) (s:=s) (e:=fun j=>D.eq (ds.getD j .non) (es.getD j .non)) p p' hu' fun j j1 j2=>by
          simpa using pQ I ds es vs ws its its' q q' rv rv' (Ar:=Ar.in1) (by show Ar.units + 1 + _<_;omega) (by omega) (by omega) j (by simpa using j1) (by simpa using j2)
        rw[l1,l2]at key
        by_cases hl:ds.length=es.length
        · rw[show D.eq (.tup ds) (.tup es)=D.eqs ds es from rfl,D.eqs_all ds es hl];rw[hl,xem,xaX,xec]at key;rw[hl];exact key
        · rw[show D.eq (.tup ds) (.tup es)=D.eqs ds es from rfl,D.eqs_len ds es hl];rw[xaZ.mpr hl,xc6]at key;exact key
    |lst es=>obtain⟨b,ws,rfl,t',_⟩:=h2;cases r2;obtain⟨_,its',_,p'⟩:=sql I t';exact SeqAt.EqAt.tuple_list p p' hu'
  |.lst ds,e,v,w,u,u',h1,h2,r1,r2,hu,hd,he=>by
    have h1':=h1;have hd':=hd;simp only[D.dep]at hu hd;have hu':Ar.units<cLine:=by omega
    obtain⟨a,vs,rfl,t,q⟩:=h1;cases r1;obtain⟨hz,its,rv,p⟩:=sql I t
    cases e with
    |ref _=>simp[D.dep]at he
    |non=>have hw:w=.non:=h2;subst hw;cases r2;exact SeqAt.EqAt.list_none p hu'
    |bl b=>have hw:w=.bl b:=h2;subst hw;cases r2;exact SeqAt.EqAt.list_bool _ p hu'
    |int b=>have hw:w=.int b:=h2;subst hw;obtain⟨t,rfl⟩:=r2;exact SeqAt.EqAt.list_int _ _ p hu'
    |str b=>have hw:w=.str b:=h2;subst hw;obtain⟨t,rfl⟩:=r2;exact SeqAt.EqAt.list_str _ _ p hu'
    |tup es=>obtain⟨b,ws,rfl,t',_⟩:=h2;cases r2;obtain⟨its',_,p',_⟩:=I.tuple t';exact SeqAt.EqAt.list_tuple p p' hu'
    |lst es=>
      have h2':=h2;have he':=he;simp only[D.dep]at he;obtain⟨b,ws,rfl,t',q'⟩:=h2;cases r2
      by_cases hab:a=b
      · subst hab;rw[Is.inj I _ _ _ h1' h2' hd' he',D.eq_refl];exact xcY _
      · obtain⟨hz',its',rv',p'⟩:=sql I t';refine SeqAt.EqAt.of_refs hab ?_;have l1:its.toArray.size=ds.length:=by rw[xah, <-rv.length,q.len]
        have l2:its'.toArray.size=es.length:=by rw[xah, <-rv'.length,q'.len]
        by_cases hl:ds.length=es.length
        · have key:=SeqAt.RcAt.lists (A:=Ar) (s:=s) (e:=fun j=>D.eq (ds.getD j .non) (es.getD j .non)) p p' (by rw[l1,l2,hl]) hu' fun j j1 j2=>by
            simpa using pQ I ds es vs ws its its' q q' rv rv' (Ar:=Ar.in1) (by show Ar.units + 1 + _<_;omega) (by omega) (by omega) j (by simpa using j1) (by simpa using j2)
          rw[show D.eq (.lst ds) (.lst es)=D.eqs ds es from rfl,D.eqs_all ds es hl];rw[l1]at key;exact key
        · rw[show D.eq (.lst ds) (.lst es)=D.eqs ds es from rfl,D.eqs_len ds es hl];exact xdC p p' (by rw[l1,l2];simpa using hl) hu'
theorem pQ (I:Inv X pins σ H s){A B:Pl}{Ar:Around}:∀(ds es:List D) (vs ws:List V) (its its':List Value),au X.K A H ds vs->au X.K B H es ws->Vals vs its->Vals ws its'->Ar.units + D.deps ds<cLine->D.deps ds<=100->D.deps es<=100->
    ∀(j:Nat) (h1:j<its.length) (h2:j<its'.length),SeqAt.EqAt Ar s its[j] its'[j] (D.eq (ds.getD j .non) (es.getD j .non))
  | [],es,vs,ws,its,its',h,h',r,r',hu,hd,he,j,j1,j2=>by
    have hv:vs=[]:=h;subst hv;cases r;exact absurd j1 (xcf _)
  |d::ds,[],vs,ws,its,its',h,h',r,r',hu,hd,he,j,j1,j2=>by
    have hv:ws=[]:=h';subst hv;cases r';exact absurd j2 (xcf _)
  |d::ds,e::es,vs,ws,its,its',h,h',r,r',hu,hd,he,j,j1,j2=>by
    obtain⟨v,vr,rfl,p,q⟩:=h;obtain⟨w,wr,rfl,p',q'⟩:=h';simp only[D.deps]at hu hd he
    cases r with
    |cons r1 r2=>
      cases r' with
      |cons r1' r2'=>
        cases j with
        |zero=>exact CZ I d e v w _ _ p.w p'.w r1 r1' (by omega) (by omega) (by omega)
        |succ j=>exact pQ I ds es vr wr _ _ q q' r2 r2' (by omega) (by omega) (by omega) j (by simpa using j1) (by simpa using j2)
end
theorem Mp {d e:D}{A B:Pl}{K:Fgx}{v w:V}(fd:d.flat=true)(fe:e.flat=true)(h1:bH K A H d v)(h2:bH K B H e w):
  (mZ v w=true/\D.eq d e=decide (v=w))\/(∃a i,v=.bl a/\w=.int i/\D.eq d e=((if a then 1 else 0)==i))\/∃a i,v=.int i/\w=.bl a/\D.eq d e=(i==(if a then 1 else 0)):=by
 cases d<;>cases e<;>simp only[D.flat,xaK]at fd fe<;>simp only[bH,Is]at h1 h2<;>subst h1 h2<;>simp[mZ,D.eq]
 all_goals first |rfl |(rw[xby];simp)
noncomputable def mV (K:Fgx) (neg:Bool):R2:=fun x y H Q=>∃(A B:Pl) (d e:D),bH K A H d x/\bH K B H e y/\cR d e=true/\d.dep<=50/\Q (.bl (if neg then !D.eq d e else D.eq d e)) H
theorem U3 (hu:X.A.units + 60<cLine):bB X (compareOp .Eq) (mV X.K false):=by
  intro pins s σ H x y v u Q I rx ry h;obtain⟨A,B,d,e,h1,h2,hk,hd,q⟩:=h;have q:Q (.bl (D.eq d e)) H:=q;have fin:SeqAt.RcAt X.A s v u (D.eq d e)->wpAny (model X.prog X.w) X.A (compareOp .Eq v u) (EP X pins σ Q) X.xe s:=fun r=>EqBoolInt.of_rc r ⟨.bl _,H,I,rfl,q⟩;have hu':X.A.units<cLine:=by omega
  cases fd:d.flat with
  |true=>
    simp only[cR,xav,xbc,xdt]at hk;have fe:e.flat=true:=hk.1.symm.trans fd;rcases Mp fd fe h1 h2 with⟨sc,eq⟩ |⟨a,i,rfl,rfl,eq⟩ |⟨a,i,rfl,rfl,eq⟩
    · exact U0 pins s σ H x y v u Q I rx ry ⟨sc,by rw[<-eq];exact q⟩
    · cases rx;obtain⟨t,rfl⟩:=ry;exact EqBoolInt.eq_bool_int ⟨.bl _,H,I,rfl,by rw[<-eq];exact q⟩
    · cases ry;obtain⟨t,rfl⟩:=rx;exact EqBoolInt.eq_int_bool ⟨.bl _,H,I,rfl,by rw[<-eq];exact q⟩
  |false=>
    simp only[cR,xav,xbc,xdt]at hk;have he:=hk.2;have fe:e.flat=false:=hk.1.symm.trans fd
    cases d with
    |tup ds=>
      obtain⟨a,vs,rfl,t,p⟩:=h1;cases rx;obtain⟨its,rv,pt,hz⟩:=I.tuple t;simp only[D.dep]at hd
      cases e with
      |tup es=>
        obtain⟨b,ws,rfl,t',p'⟩:=h2;cases ry;obtain⟨its',rv',pt',hz'⟩:=I.tuple t';have l1:its.toArray.size=ds.length:=by rw[xah, <-rv.length,p.len]
        have l2:its'.toArray.size=es.length:=by rw[xah, <-rv'.length,p'.len]
        have key:=SeqAt.RcAt.tuples (A:=X.A) (s:=s) (e:=fun j=>D.eq (ds.getD j .non) (es.getD j .non)) pt pt' hu' fun j j1 j2=>by
          simpa using pQ I ds es vs ws its its' p p' rv rv' (Ar:=X.A.in1) (by show X.A.units + 1 + _<_;omega) (by omega) (by simp only[D.dep]at he;omega) j (by simpa using j1) (by simpa using j2)
        rw[l1,l2]at key;refine fin ?_
        by_cases hl:ds.length=es.length
        · rw[show D.eq (.tup ds) (.tup es)=D.eqs ds es from rfl,D.eqs_all ds es hl];rw[hl,xem,xaX,xec]at key;rw[hl];exact key
        · rw[show D.eq (.tup ds) (.tup es)=D.eqs ds es from rfl,D.eqs_len ds es hl];rw[xaZ.mpr hl,xc6]at key;exact key
      |lst es=>
        obtain⟨b,ws,rfl,t',p'⟩:=h2;cases ry;obtain⟨_,its',rv',e'⟩:=sql I t';exact fin (SeqAt.RcAt.tuple_list pt e' hu')
      |ref _=>simp[D.dep]at he
      |_=>cases fe
    |lst ds=>
      obtain⟨a,vs,rfl,t,p⟩:=h1;cases rx;obtain⟨hz,its,rv,pt⟩:=sql I t;simp only[D.dep]at hd
      cases e with
      |tup es=>
        obtain⟨b,ws,rfl,t',p'⟩:=h2;cases ry;obtain⟨its',rv',pt',hz'⟩:=I.tuple t';exact fin (SeqAt.RcAt.list_tuple pt pt' hu')
      |lst es=>
        obtain⟨b,ws,rfl,t',p'⟩:=h2;cases ry;obtain⟨_,its',rv',pt'⟩:=sql I t';have l1:its.toArray.size=ds.length:=by rw[xah, <-rv.length,p.len]
        have l2:its'.toArray.size=es.length:=by rw[xah, <-rv'.length,p'.len]
        refine fin ?_
        by_cases hl:ds.length=es.length
        · have key:=SeqAt.RcAt.lists (A:=X.A) (s:=s) (e:=fun j=>D.eq (ds.getD j .non) (es.getD j .non)) pt pt' (by rw[l1,l2,hl]) hu' fun j j1 j2=>by
            simpa using pQ I ds es vs ws its its' p p' rv rv' (Ar:=X.A.in1) (by show X.A.units + 1 + _<_;omega) (by omega) (by simp only[D.dep]at he;omega) j (by simpa using j1) (by simpa using j2)
          rw[show D.eq (.lst ds) (.lst es)=D.eqs ds es from rfl,D.eqs_all ds es hl];rw[l1]at key;exact key
        · rw[show D.eq (.lst ds) (.lst es)=D.eqs ds es from rfl,D.eqs_len ds es hl];exact xdC pt pt' (by rw[l1,l2];simpa using hl) hu'
      |ref _=>simp[D.dep]at he
      |_=>cases fe
    |ref _=>simp[D.dep]at hd
    |_=>cases fd
theorem Ve (hu:X.A.units + 60<cLine):bB X (compareOp .NotEq) (mV X.K true):=by
  intro pins s σ H x y v u Q I rx ry h;obtain⟨A,B,d,e,h1,h2,hk,hd,q⟩:=h;have q:Q (.bl (!D.eq d e)) H:=q;have fin:SeqAt.RcNeAt X.A s v u (!D.eq d e)->wpAny (model X.prog X.w) X.A (compareOp .NotEq v u) (EP X pins σ Q) X.xe s:=fun r=>EqBoolInt.of_rcne r ⟨.bl _,H,I,rfl,q⟩;have hu':X.A.units<cLine:=by omega
  cases fd:d.flat with
  |true=>
    simp only[cR,xav,xbc,xdt]at hk;have fe:e.flat=true:=hk.1.symm.trans fd;rcases Mp fd fe h1 h2 with⟨sc,eq⟩ |⟨a,i,rfl,rfl,eq⟩ |⟨a,i,rfl,rfl,eq⟩
    · exact Vd pins s σ H x y v u Q I rx ry ⟨sc,by rw[<-eq];exact q⟩
    · cases rx;obtain⟨t,rfl⟩:=ry;exact EqBoolInt.ne_bool_int ⟨.bl _,H,I,rfl,by rw[<-eq];exact q⟩
    · cases ry;obtain⟨t,rfl⟩:=rx;exact EqBoolInt.ne_int_bool ⟨.bl _,H,I,rfl,by rw[<-eq];exact q⟩
  |false=>
    simp only[cR,xav,xbc,xdt]at hk;have he:=hk.2;have fe:e.flat=false:=hk.1.symm.trans fd
    cases d with
    |tup ds=>
      obtain⟨a,vs,rfl,t,p⟩:=h1;cases rx;obtain⟨its,rv,pt,hz⟩:=I.tuple t;simp only[D.dep]at hd
      cases e with
      |tup es=>
        obtain⟨b,ws,rfl,t',p'⟩:=h2;cases ry;obtain⟨its',rv',pt',hz'⟩:=I.tuple t';have l1:its.toArray.size=ds.length:=by rw[xah, <-rv.length,p.len]
        have l2:its'.toArray.size=es.length:=by rw[xah, <-rv'.length,p'.len]
        have key:=SeqAt.RcNeAt.tuples (A:=X.A) (s:=s) (e:=fun j=>D.eq (ds.getD j .non) (es.getD j .non)) pt pt' hu' fun j j1 j2=>by
          simpa using pQ I ds es vs ws its its' p p' rv rv' (Ar:=X.A.in1) (by show X.A.units + 1 + _<_;omega) (by omega) (by simp only[D.dep]at he;omega) j (by simpa using j1) (by simpa using j2)
        rw[l1,l2]at key;refine fin ?_
        by_cases hl:ds.length=es.length
        · rw[show D.eq (.tup ds) (.tup es)=D.eqs ds es from rfl,D.eqs_all ds es hl];rw[hl,xem,xaX,xec]at key;rw[hl];exact key
        · rw[show D.eq (.tup ds) (.tup es)=D.eqs ds es from rfl,D.eqs_len ds es hl];rw[xaZ.mpr hl,xc6]at key;exact key
      |lst es=>
        obtain⟨b,ws,rfl,t',p'⟩:=h2;cases ry;obtain⟨_,its',rv',e'⟩:=sql I t';exact fin (SeqAt.RcNeAt.tuple_list pt e' hu')
      |ref _=>simp[D.dep]at he
      |_=>cases fe
    |lst ds=>
      obtain⟨a,vs,rfl,t,p⟩:=h1;cases rx;obtain⟨hz,its,rv,pt⟩:=sql I t;simp only[D.dep]at hd
      cases e with
      |tup es=>
        obtain⟨b,ws,rfl,t',p'⟩:=h2;cases ry;obtain⟨its',rv',pt',hz'⟩:=I.tuple t';exact fin (SeqAt.RcNeAt.list_tuple pt pt' hu')
      |lst es=>
        obtain⟨b,ws,rfl,t',p'⟩:=h2;cases ry;obtain⟨_,its',rv',pt'⟩:=sql I t';have l1:its.toArray.size=ds.length:=by rw[xah, <-rv.length,p.len]
        have l2:its'.toArray.size=es.length:=by rw[xah, <-rv'.length,p'.len]
        refine fin ?_
        by_cases hl:ds.length=es.length
        · have key:=SeqAt.RcNeAt.lists (A:=X.A) (s:=s) (e:=fun j=>D.eq (ds.getD j .non) (es.getD j .non)) pt pt' (by rw[l1,l2,hl]) hu' fun j j1 j2=>by
            simpa using pQ I ds es vs ws its its' p p' rv rv' (Ar:=X.A.in1) (by show X.A.units + 1 + _<_;omega) (by omega) (by simp only[D.dep]at he;omega) j (by simpa using j1) (by simpa using j2)
          rw[show D.eq (.lst ds) (.lst es)=D.eqs ds es from rfl,D.eqs_all ds es hl];rw[l1]at key;exact key
        · rw[show D.eq (.lst ds) (.lst es)=D.eqs ds es from rfl,D.eqs_len ds es hl];exact SeqAt.RcNeAt.lists_lengths pt pt' (by rw[l1,l2];simpa using hl) hu'
      |ref _=>simp[D.dep]at he
      |_=>cases fe
    |ref _=>simp[D.dep]at hd
    |_=>cases fd
noncomputable def pO:Cp->CmpOp
 |.eq=>.Eq
 |.ne=>.NotEq
 |.lt=>.Lt
 |.le=>.LtE
 |.gt=>.Gt
 |.ge=>.GtE
 |.isin=>.In
 |.notin=>.NotIn
 |.same=>.Is
 |.other=>.IsNot
noncomputable def xJ (K:Fgx):Cp->R2
 |.eq=>mV K false
 |.ne=>mV K true
 |.lt=>gh fun i j=>.bl (decide (i<j))
 |.le=>gh fun i j=>.bl (decide (i<=j))
 |.gt=>gh fun i j=>.bl (decide (j<i))
 |.ge=>gh fun i j=>.bl (decide (j<=i))
 |.isin=>fun x y H Q=>(∃i j,x=.str i/\y=.str j/\Q (.bl (!(Builtin.Str.occurrences j i 0 j.length 1).isEmpty)) H)\/zZ K false x y H Q
 |.notin=>fun x y H Q=>(∃i j,x=.str i/\y=.str j/\Q (.bl (!(!(Builtin.Str.occurrences j i 0 j.length 1).isEmpty))) H)\/zZ K true x y H Q
 |.same=>fun x y H Q=>(y=.non/\Q (.bl (decide (x=.non))) H)\/(∃b,y=.bl b/\Q (.bl (decide (x=.bl b))) H)
 |.other=>fun x y H Q=>(y=.non/\Q (.bl (!decide (x=.non))) H)\/(∃b,y=.bl b/\Q (.bl (!decide (x=.bl b))) H)
theorem pP (hu:X.A.units + 60<cLine):∀c:Cp,bB X (compareOp (pO c)) (xJ X.K c)
 |.eq=>U3 hu
 |.ne=>Ve hu
 |.lt=>Vc
 |.le=>Vb
 |.gt=>U6
 |.ge=>U4
 |.isin=>U8.or U7
 |.notin=>Vh.or Vf
 |.same=>U_.or U9
 |.other=>Vg.or Va
theorem vP {K:Fgx}{A:Pl}{d:D}{v:V}(f:d.flat=true)(h:Is K A H d v):lF v=true:=by
 cases d<;>simp only[D.flat,xaK]at f<;>simp only[Is]at h<;>subst h<;>rfl
theorem C_ {K:Fgx}{A B:Pl}{d e:D}{v w:V}(f:d.flat=true)(g:e.flat=true)(h:Is K A H d v)(h':Is K B H e w):mF v w=D.eq d e:=by
 cases d<;>cases e<;>simp only[D.flat,xaK]at f g<;>simp only[Is]at h h'<;>subst h h'<;>rfl
theorem vQ {K:Fgx}{A:Pl}:∀{ds:List D} {vs:List V},ds.all D.flat=true->au K A H ds vs->vs.all lF=true
  | [],_,_,h=>by rw[show _=[] from h];rfl
  |d::ds,_,f,h=>by
    obtain⟨v,r,rfl,p,q⟩:=h;rw[xb1,xav]at f;rw[xb1,vP f.1 p,vQ f.2 q];rfl
theorem j5 {K:Fgx}{A B:Pl}{e:D}{w:V}(g:e.flat=true)(h':Is K B H e w):∀{ds:List D} {vs:List V},ds.all D.flat=true->au K A H ds vs->inV w vs=ds.any fun y=>D.eq y e
  | [],_,_,h=>by rw[show _=[] from h];rfl
  |d::ds,_,f,h=>by
    obtain⟨v,r,rfl,p,q⟩:=h;rw[xb1,xav]at f;have:=j5 g h' f.2 q;unfold inV at this ⊢;rw[xcc,xcc,this,C_ f.1 g p h']
theorem yS {K:Fgx}{A B:Pl}{c:Cp}{d e:D}{v w:V}{b:Bool}{Q:VK}(h:bO c d e=some b)(h1:bH K A H d v)(h2:bH K B H e w)(q:Q (.bl b) H):xJ K c v w H Q:=by
  cases c
  case eq=>
    simp only[bO,lC,nA]at h;split at h
    · rename_i hc;cases h;exact⟨A,B,d,e,h1,h2,hc.1,hc.2,q⟩
    · cases h
  case ne=>
    simp only[bO,lC,nA]at h;split at h
    · rename_i hc;cases h;exact⟨A,B,d,e,h1,h2,hc.1,hc.2,q⟩
    · cases h
  case isin=>
    cases e with
    |str j=>
      cases d<;>simp only[bO,cG,nu,eX,nG,nF,reduceCtorEq]at h
      simp only[bH,Is]at h1 h2;subst h1 h2;cases h;exact .inl ⟨_,_,rfl,rfl,q⟩
    |lst xs=>
      have h':(if (d.flat && xs.all D.flat)=true then some (xs.any fun y=>D.eq y d) else none)=some b:=by cases d<;>exact h
      split at h'
      · rename_i hc;rw[xav]at hc;cases h';obtain⟨a,vs,rfl,t,p⟩:=h2;have h1':Is K A H d v:=by cases d<;>first |exact h1 |cases hc.1
        refine .inr ⟨a,vs,rfl,.inl (t),vP hc.1 h1',vQ hc.2 p,?_⟩;rw[j5 hc.1 h1' hc.2 p];exact q
      · cases h'
    |tup xs=>
      have h':(if (d.flat && xs.all D.flat)=true then some (xs.any fun y=>D.eq y d) else none)=some b:=by cases d<;>exact h
      split at h'
      · rename_i hc;rw[xav]at hc;cases h';obtain⟨a,vs,rfl,t,p⟩:=h2;have h1':Is K A H d v:=by cases d<;>first |exact h1 |cases hc.1
        refine .inr ⟨a,vs,rfl,.inr t,vP hc.1 h1',vQ hc.2 p,?_⟩;rw[j5 hc.1 h1' hc.2 p];exact q
      · cases h'
    |_=>cases d<;>simp only[bO,cG,nu,eX,nG,nF,reduceCtorEq]at h
  case notin=>
    cases e with
    |str j=>
      cases d<;>simp only[bO,cG,nu,eX,nG,nF,reduceCtorEq]at h
      simp only[bH,Is]at h1 h2;subst h1 h2;cases h;exact .inl ⟨_,_,rfl,rfl,q⟩
    |lst xs=>
      have h':(if (d.flat && xs.all D.flat)=true then some (!xs.any fun y=>D.eq y d) else none)=some b:=by cases d<;>exact h
      split at h'
      · rename_i hc;rw[xav]at hc;cases h';obtain⟨a,vs,rfl,t,p⟩:=h2;have h1':Is K A H d v:=by cases d<;>first |exact h1 |cases hc.1
        refine .inr ⟨a,vs,rfl,.inl (t),vP hc.1 h1',vQ hc.2 p,?_⟩;rw[j5 hc.1 h1' hc.2 p];exact q
      · cases h'
    |tup xs=>
      have h':(if (d.flat && xs.all D.flat)=true then some (!xs.any fun y=>D.eq y d) else none)=some b:=by cases d<;>exact h
      split at h'
      · rename_i hc;rw[xav]at hc;cases h';obtain⟨a,vs,rfl,t,p⟩:=h2;have h1':Is K A H d v:=by cases d<;>first |exact h1 |cases hc.1
        refine .inr ⟨a,vs,rfl,.inr t,vP hc.1 h1',vQ hc.2 p,?_⟩;rw[j5 hc.1 h1' hc.2 p];exact q
      · cases h'
    |_=>cases d<;>simp only[bO,cG,nu,eX,nG,nF,reduceCtorEq]at h
  case same=>
    cases d<;>cases e<;>simp only[bO,cG,nu,eX,nG,nF,reduceCtorEq]at h<;>cases h<;>simp only[bH,Is]at h1 h2
    all_goals first
      |(subst h1 h2;first |exact .inr ⟨_,rfl,by rw[yZ];exact q⟩ |exact .inl ⟨rfl,by simpa using q⟩ |exact .inr ⟨_,rfl,by simpa using q⟩)
      |(obtain⟨a,vs,rfl,_⟩:=h1;subst h2;first |exact .inl ⟨rfl,by simpa using q⟩ |exact .inr ⟨_,rfl,by simpa using q⟩)
  case other=>
    cases d<;>cases e<;>simp only[bO,cG,nu,eX,nG,nF,reduceCtorEq]at h<;>cases h<;>simp only[bH,Is]at h1 h2
    all_goals first
      |(subst h1 h2;first |exact .inr ⟨_,rfl,by rw[yZ];exact q⟩ |exact .inl ⟨rfl,by simpa using q⟩ |exact .inr ⟨_,rfl,by simpa using q⟩)
      |(obtain⟨a,vs,rfl,_⟩:=h1;subst h2;first |exact .inl ⟨rfl,by simpa using q⟩ |exact .inr ⟨_,rfl,by simpa using q⟩)
  all_goals
    cases d<;>cases e<;>simp only[bO,cG,nu,eX,nG,nF,reduceCtorEq]at h
    simp only[bH,Is]at h1 h2;subst h1 h2;cases h;exact⟨_,_,rfl,rfl,q⟩
end
inductive Mode where
 |val |bor
def yO (mg:Mgx)(H:Hp)(c:Str)(n:Int)(v:V):Prop:=∃a C dx,v=.ref a/\mg c=some (.ref C)/\H a=some (xo a C dx false)/\
 match dx with
 |none=>n=0
 |some d=>∃fs,H d=some (.xd fs)/\fs.lookup ("at":Str)=some (.int (n - 1))/\n≠0
theorem yO.lt {mg:Mgx}{P P':Pl}{H H':Hp}{c:Str}{n:Int}{v:V}(l:Lt P H P' H')(h:yO mg H c n v):yO mg H' c n v:=by
  obtain⟨a,C,dx,e,m,ea,q⟩:=h;refine⟨a,C,dx,e,m,l.keep _ _ ea (.inl (.inr (.inr (.inl ⟨_,rfl⟩)))),?_⟩
  cases dx with
  |none=>exact q
  |some d=>
    obtain⟨fs,ed,el⟩:=q;exact⟨fs,l.keep _ _ ed (.inl (.inr (.inr (.inr ⟨_,rfl⟩)))),el⟩
noncomputable def Hz (K:Fgx) (mg:Mgx) (P:Pl) (H:Hp) (o:Option Addr) (sv:Option V):Slot->Prop
 |.un=>True
 |.val d=>∃v,sv=some v/\Is K P H d v
 |.own ds=>∃a vs,o=some a/\sv=some (.ref a)/\H a=some (.lst vs)/\au K P H ds vs
 |.exc c n=>∃v,sv=some v/\yO mg H c n v
structure Ok (K:Fgx)(mg:Mgx)(P0:Pl)(H0:Hp)(P:Pl)(O:List (Option Addr))(H:Hp)(M:Mm)(st:L2.St)(env:Env):Prop where
 hk:Hk K mg P H M
 base:LtE P0 H0 P H
 b0:∀a,P0.bd a->H0 a≠none
 slot:∀(i:Nat) s,env[i]? =some s->Hz K mg P H (O[i]?).join (st[i]?).join s
 own:∀a,some a∈O->P.bd a/\(∀k,k<P.n->P.io k≠a)/\H0 a=none
 inj:∀(i j:Nat) a,O[i]? =some (some a)->O[j]? =some (some a)->i=j
 olen:O.length=env.length
 slen:st.length=env.length
def cF (K:Fgx)(P:Pl)(H:Hp)(m:Mode)(d:D)(v:V):Prop:=match m with
 |.val=>Is K P H d v
 |.bor=>bQ K P H d v
inductive Res where
 |v (d:D) |x (c:Str) (n:Int)
abbrev O:=Option (Res×Mm)
abbrev E:=Env->Mm->O
noncomputable def bnd (o:O) (k:D->Mm->O):O:=match o with
 |some (.v d,M)=>k d M
 |some (.x c n,M)=>some (.x c n,M)
 |none=>none
theorem bU {o:O}{k:D->Mm->O}{r:Res}{M':Mm}(h:bnd o k=some (r,M')):(∃d M,o=some (.v d,M)/\k d M=some (r,M'))\/∃c n,o=some (.x c n,M')/\r=.x c n:=by
 unfold bnd at h;split at h
 ·exact .inl ⟨_,_,rfl,h⟩
 ·cases h;exact .inr ⟨_,_,rfl,rfl⟩
 ·cases h
abbrev XW:=Pl->Hp->Mm->Str->Int->Prop
section
variable {K:Fgx}{mg:Mgx}{P0 P P':Pl}{H0 H H':Hp}{M M':Mm}{Os:List (Option Addr)}{st:L2.St}{env:Env}{d:D}{v:V}{m:Mode}
theorem Is.b (h:Hk K mg P H M)(i:Is K P H d v):bQ K P H d v:=by
  cases d with
  |lst ds=>
    obtain⟨a,vs,e,r,q⟩:=i;exact⟨a,vs,e,r.imp (fun⟨n,r⟩=>⟨fun k hk z=>n (z ▸ h.bd k hk),r⟩) id,q⟩
  |_=>exact i
theorem cF.of (h:Hk K mg P H M)(i:Is K P H d v):cF K P H m d v:=by
 cases m with
 |val=>exact i
 |bor=>exact i.b h
theorem cF.b (h:Hk K mg P H M)(i:cF K P H m d v):bQ K P H d v:=by
 cases m with
 |val=>exact Is.b h i
 |bor=>exact i
theorem LtE.nc (l:LtE P H P' H'){a:Addr}{o:HO}(e:H a=some o)(n:∀k,k<P.n->P.io k≠a):∀k,k<P'.n->P'.io k≠a:=fun k hk z=>by
 rcases xaO k P.n with q |q
 ·rw[l.io k q]at z;exact n k q z
 ·rw[<-z,l.nw k q hk]at e;cases e
theorem bQ.lt (l:LtE P H P' H')(h:Hk K mg P H M)(i:bQ K P H d v):bQ K P' H' d v:=by
  cases d with
  |lst ds=>
    obtain⟨a,vs,e,r,q⟩:=i;refine⟨a,vs,e,r.imp (fun⟨n,r⟩=>?_) id,au.lt (l.lt h) q⟩;obtain⟨o,eo⟩:=Li r;refine⟨l.nc eo n,?_⟩;rcases r with r |⟨o',r⟩
    · exact .inl (l.keep _ _ r (.inr n))
    · exact .inr ⟨o',l.keep _ _ r (.inr n)⟩
  |_=>exact Is.lt (l.lt h) i
theorem Ok.next (k:Ok K mg P0 H0 P Os H M st env)(l:LtE P H P' H')(h:Hk K mg P' H' M'):Ok K mg P0 H0 P' Os H' M' st env where
  hk:=h
  base:=k.base.trans l
  b0:=k.b0
  slot:=fun i s e=>by
    have q:=k.slot i s e
    cases s with
    |un=>exact True.intro
    |val d=>
      obtain⟨v,e1,q⟩:=q;exact⟨v,e1,Is.lt (l.lt k.hk) q⟩
    |own ds=>
      obtain ⟨a, vs, e1, e2, e3, q⟩ := q;have ho := k.own a (by
        cases hx:Os[i]? with
        |none=>rw[hx]at e1;cases e1
        |some o=>rw[hx]at e1;cases o with
          |none=>cases e1
          |some b=>cases e1;exact xaJ hx)
      exact⟨a,vs,e1,e2,l.keep _ _ e3 (.inr ho.2.1),au.lt (l.lt k.hk) q⟩
    |exc c n=>
      obtain⟨v,e1,q⟩:=q;exact⟨v,e1,q.lt (l.lt k.hk)⟩
  own:=fun a z=>by
    have ho:=k.own a z;refine⟨l.bm a ho.1,?_,ho.2.2⟩;obtain⟨o,eo⟩:∃o,H a=some o:=by
      cases e:H a with
      |none=>exact absurd e (k.hk.here a ho.1)
      |some o=>exact⟨o,rfl⟩
    exact l.nc eo ho.2.1
  inj:=k.inj
  olen:=k.olen
  slen:=k.slen
theorem Hk.same (h:Hk K mg P H M)(s:Same H H'):Hk K mg P H' M:=by
  have l:Lt P H P H':=(LtE.same s).lt h;refine⟨h.n,fun k c e=>?_,h.inj,h.bd,fun a z q=>h.here a z (s.free q)⟩;have:=h.cell k c e
  cases c with
  |lst ds=>
    obtain⟨vs,e1,q⟩:=this;exact⟨vs,s _ _ e1,au.lt l q⟩
  |obj c fs=>
    obtain⟨C,dx,gs,e1,e2,e3,q⟩:=this;exact⟨C,dx,gs,e1,s _ _ e2,e3,au.lt l q⟩
  |dct kvs=>
    obtain⟨vs,e1,e2,q⟩:=this;exact⟨vs,s _ _ e1,e2,au.lt l q⟩
  |dtc kvs=>
    obtain⟨vs,e1,e2,q⟩:=this;exact⟨vs,s _ _ e1,e2,au.lt l q⟩
  |dcf kvs=>
    obtain⟨vs,ob,es,ep,e1,eD,e2,q⟩:=this;exact⟨vs,ob,es,ep,s _ _ e1,eD,e2,au.lt l q⟩
  |dtf kvs=>
    obtain⟨vs,ob,es,ep,e1,eD,e2,q⟩:=this;exact⟨vs,ob,es,ep,s _ _ e1,eD,e2,au.lt l q⟩
  |fn i caps=>exact lA.up this l.frz fun _ _ q=>au.lt l q
  |tbl nm i=>exact pF.up this (fun _ e=>s _ _ e) l.frz
end
noncomputable def RQ (K:Fgx) (mg:Mgx) (Wx:XW) (m:Mode) (P0:Pl) (H0:Hp) (P:Pl) (H:Hp) (M':Mm) (Q:VK):Res->Prop
 |.v d=>∀P' v H',LtE P H P' H'->Hk K mg P' H' M'->cF K P' H' m d v->Q v H'
 |.x c n=>Wx P0 H0 M' c n
theorem b_ {X:Cx}{e:Expr}{t t':TE}(h:PE X e t)(i:∀st H Q,t' st H Q->t st H Q):PE X e t':=fun pins s σ H Q I z=>h pins s σ H Q I (i _ _ _ z)
noncomputable def tE (K:Fgx) (mg:Mgx) (Wx:XW) (m:Mode) (f:E):TE:=fun st H Q=>∃P0 H0 P Os env M r M',Ok K mg P0 H0 P Os H M st env/\f env M=some (r,M')/\RQ K mg Wx m P0 H0 P H M' Q r
structure Fit (X:Cx)(Wx:XW):Prop where
 calm:X.calm=true
 room:X.A.units + 60<cLine
section
variable {X:Cx}{Wx:XW}{m:Mode}
def SE (X:Cx)(Wx:XW)(m:Mode)(e:Expr)(f:E):Prop:=PE X e (tE X.K X.mg Wx m f)
theorem SE.bor {e : Expr} {f : E} (h : SE X Wx .val e f) : SE X Wx m e f := b_ h fun st H Q ⟨P0, H0, P, Os, env, M, r, M', k, e, q⟩ => ⟨P0,H0,P,Os,env,M,r,M',k,e,by
 cases r with
 |v d=>exact fun P' v H' l h i=>q P' v H' l h (cF.of h i)
 |x c n=>exact q⟩
theorem aY {f:E}{K:Fgx}{mg:Mgx}{P0 P:Pl}{H0 H:Hp}{Os:List (Option Addr)}{M M':Mm}{st:L2.St}{env:Env}{r:Res}{Q:VK}(k:Ok K mg P0 H0 P Os H M st env)(e:f env M=some (r,M'))
  (q:RQ K mg Wx m P0 H0 P H M' Q r):tE K mg Wx m f st H Q:=⟨P0,H0,P,Os,env,M,r,M',k,e,q⟩
noncomputable def aj (i:Nat):E:=fun env M=>match env[i]? with
 |some (.val d)=>some (.v d,M)
 |_=>none
noncomputable def tU (i:Nat):E:=fun env M=>match env[i]? with
 |some (.val d)=>some (.v d,M)
 |some (.own ds)=>some (.v (.lst ds),M)
 |_=>none
def ao (d:D):E:=fun _ M=>some (.v d,M)
theorem lH {α:Type}{l:List (Option α)}{i:Nat}{a:α}(h:(l[i]?).join=some a):l[i]? =some (some a):=by
  cases e:l[i]? with
  |none=>rw[e]at h;cases h
  |some o=>rw[e]at h;cases o with
    |none=>cases h
    |some b=>cases h;rfl
theorem Mt {i:Nat}{x:Str}{pos:Pos}(hN:X.N[i]? =some x)(hv:pH X.env.scope x)(hd:(x==("__debug__":Str))=false:=by x_go)(hcd:(x==("__classdict__":Str))=false:=by x_go):SE X Wx .val (.Name x pos) (aj i):=by
 refine b_ (Ez hN hv hd hcd) ?_;rintro st H Q ⟨P0,H0,P,Os,env,M,r,M',k,e,q⟩;unfold aj at e;split at e
 ·rename_i d hs;cases e;obtain⟨v,e1,i1⟩:=k.slot i _ hs;exact⟨v,lH e1,q P v H (LtE.refl P H) k.hk i1⟩
 ·cases e
theorem ZC {i:Nat}{x:Str}{pos:Pos}(hN:X.N[i]? =some x)(hv:pH X.env.scope x)(hd:(x==("__debug__":Str))=false:=by x_go)(hcd:(x==("__classdict__":Str))=false:=by x_go):SE X Wx .bor (.Name x pos) (tU i):=by
 refine b_ (Ez hN hv hd hcd) ?_;rintro st H Q ⟨P0,H0,P,Os,env,M,r,M',k,e,q⟩;unfold tU at e;split at e
 ·rename_i d hs;cases e;obtain⟨v,e1,i1⟩:=k.slot i _ hs;exact⟨v,lH e1,q P v H (LtE.refl P H) k.hk (cF.of k.hk i1)⟩
 ·rename_i ds hs;cases e;obtain⟨a,vs,e1,e2,e3,i1⟩:=k.slot i _ hs;exact⟨.ref a,lH e2,q P _ H (LtE.refl P H) k.hk ⟨a,vs,rfl,.inl ⟨(k.own a (xaJ (lH e1))).2.1,.inl e3⟩,i1⟩⟩
 ·cases e
theorem Gi {e:Expr}{v:V}{d:D}(h:PE X e (tC v))(hd:∀P H,Is X.K P H d v):SE X Wx .val e (ao d):=by
 refine b_ h ?_;rintro st H Q ⟨P0,H0,P,Os,env,M,r,M',k,e,q⟩;cases e;exact q P v H (LtE.refl P H) k.hk (hd P H)
noncomputable def vw (M:Mm) (d:D):D:=match d with
  | .ref k => (match M[k]? with
    |some (.lst ds)=>.lst ds
    |_=>.ref k)
  |d=>d
theorem bQ.vw {K:Fgx}{mg:Mgx}{P:Pl}{H:Hp}{M:Mm}{d:D}{v:V}(h:Hk K mg P H M)(i:bQ K P H d v):bH K P H (vw M d) v:=by
  cases d with
  |ref k=>
    unfold E3.vw;dsimp only
    split
    · rename_i ds e;obtain⟨i1,i2⟩:k<P.n/\v=.ref (P.io k):=i;obtain⟨vs,e1,q⟩:=h.cell k _ e;exact⟨_,vs,i2,.inl (.inl e1),q⟩
    · exact i
  |lst ds=>exact i.w
  |_=>exact i
noncomputable def s1 (o:D->Option D) (f:E):E:=fun env M=>bnd (f env M) fun d M1=>(o (vw M1 d)).map fun z=>(.v z,M1)
noncomputable def s2 (o:D->D->Option D) (f g:E):E:=fun env M=>bnd (f env M) fun d M1=>bnd (g env M1) fun e M2=>(o (vw M2 d) (vw M2 e)).map fun z=>(.v z,M2)
def fM (K:Fgx)(r:R2)(o:D->D->Option D):Prop:=∀(P:Pl) (H:Hp) (d e z:D) (v w:V) (Q:VK),o d e=some z->bH K P H d v->bH K P H e w->(∀p,H p=none->¬ P.bd p)->(∀u H',Same H H'->Is K P H' z u->Q u H')->r v w H Q
def Bu (K:Fgx)(r:V->Hp->VK->Prop)(o:D->Option D):Prop:=∀(P:Pl) (H:Hp) (d z:D) (v:V) (Q:VK),o d=some z->bH K P H d v->(∀p,H p=none->¬ P.bd p)->(∀u H',Same H H'->Is K P H' z u->Q u H')->r v H Q
theorem Hk.new {K:Fgx}{mg:Mgx}{P:Pl}{H:Hp}{M:Mm}(h:Hk K mg P H M):∀p,H p=none->¬ P.bd p:=fun p hp z=>h.here p z hp
theorem Bb {f g:E}{o:D->D->Option D}{r:R2}{st:L2.St}{H:Hp}{Q:VK}(po:fM X.K r o)(h:tE X.K X.mg Wx m (s2 o f g) st H Q):yC r (tE X.K X.mg Wx .bor f) (tE X.K X.mg Wx .bor g) st H Q:=by
 obtain⟨P0,H0,P,Os,env,M,rr,M',k,e,q⟩:=h;unfold s2 at e;rcases bU e with⟨d,M1,e1,e⟩ |⟨c,n,e1,rfl⟩
 ·refine aY k e1 fun P1 v1 H1 l1 h1 i1=>?_;have k1:=k.next l1 h1
  rcases bU e with⟨d2,M2,e2,e⟩ |⟨c,n,e2,rfl⟩
  ·refine aY k1 e2 fun P2 v2 H2 l2 h2 i2=>?_;rw[xag]at e;obtain⟨z,ez,e⟩:=e;cases e;exact po P2 H2 _ _ z v1 v2 Q ez (bQ.vw h2 (bQ.lt l2 h1 i1)) (bQ.vw h2 i2) h2.new fun u H' s i=>q P2 u H' (l1.trans (l2.trans (LtE.same s))) (h2.same s) (cF.of (h2.same s) i)
  ·exact aY k1 e2 q
 ·exact aY k e1 q
theorem zbH {f:E}{o:D->Option D}{r:V->Hp->VK->Prop}{st:L2.St}{H:Hp}{Q:VK}(po:Bu X.K r o)(h:tE X.K X.mg Wx m (s1 o f) st H Q):M_ r (tE X.K X.mg Wx .bor f) st H Q:=by
 obtain⟨P0,H0,P,Os,env,M,rr,M',k,e,q⟩:=h;unfold s1 at e;rcases bU e with⟨d,M1,e1,e⟩ |⟨c,n,e1,rfl⟩
 ·refine aY k e1 fun P1 v1 H1 l1 h1 i1=>?_;rw[xag]at e;obtain⟨z,ez,e⟩:=e;cases e;exact po P1 H1 _ z v1 Q ez (bQ.vw h1 i1) h1.new fun u H' s i=>q P1 u H' (l1.trans (LtE.same s)) (h1.same s) (cF.of (h1.same s) i)
 ·exact aY k e1 q
theorem aJ {a b:Expr}{op:Operator}{pos:Pos}{f g:E}{o:D->D->Option D}{r:R2}(ho:bB X (binaryOp op) r)(po:fM X.K r o)(ha:SE X Wx .bor a f)(hb:SE X Wx .bor b g):SE X Wx m (.BinOp a op b pos) (s2 o f g):=
 b_ (KZ ho ha hb) fun _ _ _ h=>Bb po h
theorem Zo {a b:Expr}{op:CmpOp}{pos:Pos}{f g:E}{o:D->D->Option D}{r:R2}(ho:bB X (compareOp op) r)(po:fM X.K r o)(ha:SE X Wx .bor a f)(hb:SE X Wx .bor b g)(hm:behindInMarks op b=false:=by rfl):SE X Wx m (.Compare a [op] [b] pos) (s2 o f g):=
 b_ (Vo ho ha hb hm) fun _ _ _ h=>Bb po h
theorem Zt {a b:Expr}{pos:Pos}{f g:E}{o:D->D->Option D}{r:R2}(ho:lB X r)(po:fM X.K r o)(ha:SE X Wx .bor a f)(hb:SE X Wx .bor b g)(hs:Bt b:=by exact fun _ _=>rfl):SE X Wx m (.Subscript a b pos) (s2 o f g):=
 b_ (Vu ho ha hb hs) fun _ _ _ h=>Bb po h
noncomputable def TQ (K:Fgx) (mg:Mgx) (Wx:XW) (P0:Pl) (H0:Hp) (P:Pl) (H:Hp) (M':Mm) (Q:Bool->Hp->Prop):Res->Prop
 |.v d=>∃b,d=.bl b/\∀P' H',LtE P H P' H'->Hk K mg P' H' M'->Q b H'
 |.x c n=>Wx P0 H0 M' c n
noncomputable def n6 (K:Fgx) (mg:Mgx) (Wx:XW) (f:E):TT:=fun st H Q=>∃P0 H0 P Os env M r M',Ok K mg P0 H0 P Os H M st env/\f env M=some (r,M')/\TQ K mg Wx P0 H0 P H M' Q r
def ST (X:Cx)(Wx:XW)(e:Expr)(f:E):Prop:=PT X e (n6 X.K X.mg Wx f)
theorem zW {e:Expr}{t t':TT}(h:PT X e t)(i:∀st H Q,t' st H Q->t st H Q):PT X e t':=fun pins s σ H Q I z=>h pins s σ H Q I (i _ _ _ z)
theorem fG {f:E}{K:Fgx}{mg:Mgx}{P0 P:Pl}{H0 H:Hp}{Os:List (Option Addr)}{M M':Mm}{st:L2.St}{env:Env}{r:Res}{Q:Bool->Hp->Prop}(k:Ok K mg P0 H0 P Os H M st env)(e:f env M=some (r,M'))
  (q:TQ K mg Wx P0 H0 P H M' Q r):n6 K mg Wx f st H Q:=⟨P0,H0,P,Os,env,M,r,M',k,e,q⟩
theorem Nj {f:E}{st:L2.St}{H:Hp}{Q:Bool->Hp->Prop}(h:n6 X.K X.mg Wx f st H Q):G4 (tE X.K X.mg Wx .val f) st H Q:=by
  obtain⟨P0,H0,P,Os,env,M,r,M',k,e,q⟩:=h;refine aY k e ?_
  cases r with
  |v d=>
    obtain⟨b,rfl,q⟩:=q;exact fun P' v H' l h i=>⟨b,i,q P' H' l h⟩
  |x c n=>exact q
theorem yj {a b:Expr}{op:CmpOp}{pos:Pos}{f g:E}{o:D->D->Option D}{r:R2}(ho:bB X (compareOp op) r)(po:fM X.K r o)(ha:SE X Wx .bor a f)(hb:SE X Wx .bor b g)(hm:behindInMarks op b=false:=by rfl):ST X Wx (.Compare a [op] [b] pos) (s2 o f g):=
 zW (Wc ho ha hb hm) fun _ _ _ h=>Bb po (Nj h)
noncomputable def gM:D->Option Bool
 |.non=>some false
 |.bl b=>some b
 |.int i=>some (i !=0)
 |.str s=>if s.length<=sizeLine then some ((s.length:Int) !=0) else none
 |.lst ds=>some (!ds.isEmpty)
 |.tup ds=>some (!ds.isEmpty)
 |.ref _=>none
def eG (f:E):E:=s1 (fun d=>(gM d).map .bl) f
noncomputable def fB (f:E):E:=fun env M=>bnd (f env M) fun d M1=>match d with
 |.bl b=>some (.v (.bl (!b)),M1)
 |_=>none
noncomputable def eE (f g:E):E:=fun env M=>bnd (f env M) fun d M1=>match d with
 |.bl b=>if b=true then g env M1 else some (.v (.bl false),M1)
 |_=>none
noncomputable def lQ (f g:E):E:=fun env M=>bnd (f env M) fun d M1=>match d with
 |.bl b=>if b=true then some (.v (.bl true),M1) else g env M1
 |_=>none
noncomputable def k_ (c f g:E):E:=fun env M=>bnd (c env M) fun d M1=>match d with
 |.bl b=>if b=true then f env M1 else g env M1
 |_=>none
def SW (X:Cx)(Wx:XW)(e:Expr)(f:E):Prop:=PW X e (n6 X.K X.mg Wx f)
theorem Lf {e:Expr}{t t':TT}(h:PW X e t)(i:∀st H Q,t' st H Q->t st H Q):PW X e t':=fun wh pins s σ H Q I z=>h wh pins s σ H Q I (i _ _ _ z)
theorem yp {a:Expr}{pos:Pos}{f:E}(ha:ST X Wx a f):ST X Wx (.UnaryOp .Not a pos) (fB f):=by
 refine zW (Wd ha) ?_;rintro st H Q ⟨P0,H0,P,Os,env,M,r,M',k,e,q⟩;unfold fB at e;rcases bU e with⟨d,M1,e1,e⟩ |⟨c,n,e1,rfl⟩
 ·cases d<;>simp only[reduceCtorEq]at e
  cases e;obtain⟨b,e2,q⟩:=q;cases e2;exact fG k e1 ⟨_,rfl,q⟩
 ·exact fG k e1 q
theorem GC {a:Expr}{pos:Pos}{f:E}(ha:ST X Wx a f):SW X Wx (.BoolOp .And [a] pos) f:=Wq ha
theorem yr {a:Expr}{pos:Pos}{f:E}(ha:ST X Wx a f):SW X Wx (.BoolOp .Or [a] pos) f:=Ws ha
theorem Gz {a b:Expr}{rest:List Expr}{pos:Pos}{f g:E}(ha:ST X Wx a f)(hb:SW X Wx (.BoolOp .And (b::rest) pos) g):SW X Wx (.BoolOp .And (a::b::rest) pos) (eE f g):=by
  refine Lf (Wo ha hb) ?_;rintro st H Q ⟨P0,H0,P,Os,env,M,r,M',k,e,q⟩;unfold eE at e;rcases bU e with⟨d,M1,e1,e⟩ |⟨c,n,e1,rfl⟩
  · cases d<;>simp only[reduceCtorEq]at e
    rename_i b;refine fG k e1 ⟨b,rfl,fun P1 H1 l1 h1=>?_⟩
    cases b with
    |true=>
      rw[xaa rfl]at e ⊢;refine fG (k.next l1 h1) e ?_
      cases r with
      |v d=>obtain⟨b,e2,q⟩:=q;exact⟨b,e2,fun P' H' l h=>q P' H' (l1.trans l) h⟩
      |x c n=>exact q
    |false=>
      rw[xad (by decide)]at e ⊢;cases e;obtain⟨b,e2,q⟩:=q;cases e2;exact q P1 H1 l1 h1
  · exact fG k e1 q
theorem rO {a b:Expr}{rest:List Expr}{pos:Pos}{f g:E}(ha:ST X Wx a f)(hb:SW X Wx (.BoolOp .Or (b::rest) pos) g):SW X Wx (.BoolOp .Or (a::b::rest) pos) (lQ f g):=by
  refine Lf (Wr ha hb) ?_;rintro st H Q ⟨P0,H0,P,Os,env,M,r,M',k,e,q⟩;unfold lQ at e;rcases bU e with⟨d,M1,e1,e⟩ |⟨c,n,e1,rfl⟩
  · cases d<;>simp only[reduceCtorEq]at e
    rename_i b;refine fG k e1 ⟨b,rfl,fun P1 H1 l1 h1=>?_⟩
    cases b with
    |false=>
      rw[xad (by decide)]at e ⊢;refine fG (k.next l1 h1) e ?_
      cases r with
      |v d=>obtain⟨b,e2,q⟩:=q;exact⟨b,e2,fun P' H' l h=>q P' H' (l1.trans l) h⟩
      |x c n=>exact q
    |true=>
      rw[xaa rfl]at e ⊢;cases e;obtain⟨b,e2,q⟩:=q;cases e2;exact q P1 H1 l1 h1
  · exact fG k e1 q
theorem SW.st {e:Expr}{f:E}(h:SW X Wx e f):ST X Wx e f:=h.pt
end
section
variable {X:Cx}{Wx:XW}{m:Mode}
theorem RQ.imp {K:Fgx}{mg:Mgx}{P0 P P1:Pl}{H0 H H1:Hp}{M':Mm}{Q:VK}{r:Res}(l:LtE P H P1 H1)(q:RQ K mg Wx m P0 H0 P H M' Q r):RQ K mg Wx m P0 H0 P1 H1 M' Q r:=by
 cases r with
 |v d=>exact fun P' v H' l' h i=>q P' v H' (l.trans l') h i
 |x c n=>exact q
theorem Zw {a:Expr}{op:BoolOp}{pos:Pos}{f:E}(ha:SE X Wx m a f):SE X Wx m (.BoolOp op [a] pos) f:=Vy ha
theorem Zm {a b:Expr}{rest:List Expr}{pos:Pos}{f g:E}(ha:SE X Wx .val a f)(hb:SE X Wx m (.BoolOp .And (b::rest) pos) g):SE X Wx m (.BoolOp .And (a::b::rest) pos) (eE f g):=by
  refine b_ (Vk ha hb) ?_;rintro st H Q ⟨P0,H0,P,Os,env,M,r,M',k,e,q⟩;unfold eE at e;rcases bU e with⟨d,M1,e1,e⟩ |⟨c,n,e1,rfl⟩
  · cases d<;>simp only[reduceCtorEq]at e
    rename_i b;refine aY k e1 fun P1 v1 H1 l1 h1 i1=>⟨b,i1,?_⟩
    cases b with
    |true=>
      rw[xaa rfl]at e ⊢;exact aY (k.next l1 h1) e (RQ.imp l1 q)
    |false=>
      rw[xad (by decide)]at e ⊢;cases e;exact q P1 _ H1 l1 h1 (cF.of h1 (show Is _ _ _ (.bl false) _ from rfl))
  · exact aY k e1 q
theorem Ms {c a b:Expr}{pos:Pos}{t f g:E}(hc:ST X Wx c t)(ha:SE X Wx m a f)(hb:SE X Wx m b g):SE X Wx m (.IfExp c a b pos) (k_ t f g):=by
  refine b_ (Vs hc ha hb) ?_;rintro st H Q ⟨P0,H0,P,Os,env,M,r,M',k,e,q⟩;unfold k_ at e;rcases bU e with⟨d,M1,e1,e⟩ |⟨c,n,e1,rfl⟩
  · cases d<;>simp only[reduceCtorEq]at e
    rename_i b;refine fG k e1 ⟨b,rfl,fun P1 H1 l1 h1=>?_⟩
    cases b with
    |true=>
      rw[xaa rfl]at e ⊢;exact aY (k.next l1 h1) e (RQ.imp l1 q)
    |false=>
      rw[xad (by decide)]at e ⊢;exact aY (k.next l1 h1) e (RQ.imp l1 q)
  · exact fG k e1 q
theorem zbD {K:Fgx}{P:Pl}{H:Hp}{d:D}{v:V}{b:Bool}(h:gM d=some b)(i:bH K P H d v):pG K v H b:=by
  cases d with
  |non=>have e:v=.non:=i;subst e;cases h;rfl
  |bl c=>have e:v=.bl c:=i;subst e;cases h;rfl
  |int c=>have e:v=.int c:=i;subst e;cases h;rfl
  |str c=>
    have e:v=.str c:=i;subst e;simp only[gM]at h;split at h
    · rename_i hl;cases h;exact⟨hl,rfl⟩
    · cases h
  |lst ds=>
    obtain⟨a,vs,rfl,r,q⟩:=i;cases h;refine .inl ⟨vs,r,?_⟩
    cases ds with
    |nil=>rw[show vs=[] from q];rfl
    |cons d ds=>obtain⟨w,r',rfl,_⟩:=q;rfl
  |tup ds=>
    obtain⟨a,vs,rfl,r,q⟩:=i;cases h;refine .inr (.inl ⟨vs,r,?_⟩)
    cases ds with
    |nil=>rw[show vs=[] from q];rfl
    |cons d ds=>obtain⟨w,r',rfl,_⟩:=q;rfl
  |ref k=>cases h
theorem uc {a:Expr}{f:E}(ha:SE X Wx .bor a f)(he:∀whole,isTrue a X.env whole=(do let v <-whole;standAt a.pos;holding [v] (truthy v)):=by exact fun _=>rfl):ST X Wx a (eG f):=by
 refine zW (Wf ha he) ?_;rintro st H Q ⟨P0,H0,P,Os,env,M,r,M',k,e,q⟩;unfold eG s1 at e;rcases bU e with⟨d,M1,e1,e⟩ |⟨c,n,e1,rfl⟩
 ·rw[xag]at e;obtain⟨z,ez,e⟩:=e;cases e;rw[xag]at ez;obtain⟨b,eb,rfl⟩:=ez;obtain⟨b',e2,q⟩:=q;cases e2;exact aY k e1 fun P1 v1 H1 l1 h1 i1=>⟨b,zbD eb (bQ.vw h1 i1),q P1 H1 l1 h1⟩
 ·exact aY k e1 q
inductive ResA where
 |v (ds:List D) |x (c:Str) (n:Int)
abbrev EA:=Env->Mm->Option (ResA×Mm)
def aA:EA:=fun _ M=>some (.v [],M)
noncomputable def aD (f:E) (fs:EA):EA:=fun env M=>match f env M with
  | some (.v d, M1) => (match fs env M1 with
    |some (.v ds,M2)=>some (.v (d::ds),M2)
    |some (.x c n,M2)=>some (.x c n,M2)
    |none=>none)
  |some (.x c n,M1)=>some (.x c n,M1)
  |none=>none
noncomputable def dh (o:Option (ResA×Mm)) (k:List D->Mm->O):O:=match o with
 |some (.v ds,M)=>k ds M
 |some (.x c n,M)=>some (.x c n,M)
 |none=>none
theorem pK {o:Option (ResA×Mm)}{k:List D->Mm->O}{r:Res}{M':Mm}(h:dh o k=some (r,M')):(∃ds M,o=some (.v ds,M)/\k ds M=some (r,M'))\/∃c n,o=some (.x c n,M')/\r=.x c n:=by
 unfold dh at h;split at h
 ·exact .inl ⟨_,_,rfl,h⟩
 ·cases h;exact .inr ⟨_,_,rfl,rfl⟩
 ·cases h
noncomputable def cD (K:Fgx) (P:Pl) (H:Hp) (m:Mode):List D->List V->Prop
 | [],vs=>vs=[]
 |d::ds,vs=>∃v ws,vs=v::ws/\cF K P H m d v/\cD K P H m ds ws
theorem cD.iss {K:Fgx}{P:Pl}{H:Hp}:∀{ds:List D} {vs:List V},cD K P H .val ds vs->au K P H ds vs
  | [],_,h=>h
  |_::_,_,h=>by
    obtain⟨v,ws,e,p,q⟩:=h;exact⟨v,ws,e,p,cD.iss q⟩
noncomputable def AQ (K:Fgx) (mg:Mgx) (Wx:XW) (m:Mode) (P0:Pl) (H0:Hp) (P:Pl) (H:Hp) (M':Mm) (Q:List V->Hp->Prop):ResA->Prop
 |.v ds=>∀P' vs H',LtE P H P' H'->Hk K mg P' H' M'->cD K P' H' m ds vs->Q vs H'
 |.x c n=>Wx P0 H0 M' c n
noncomputable def tAs (K:Fgx) (mg:Mgx) (Wx:XW) (m:Mode) (fs:EA):TA:=fun st H Q=>∃P0 H0 P Os env M r M',Ok K mg P0 H0 P Os H M st env/\fs env M=some (r,M')/\AQ K mg Wx m P0 H0 P H M' Q r
def SA (X:Cx)(Wx:XW)(m:Mode)(es:List Expr)(fs:EA):Prop:=PA X es (tAs X.K X.mg Wx m fs)
theorem KR {es:List Expr}{t t':TA}(h:PA X es t)(w:∀σ H Q,t' σ H Q->t σ H Q):PA X es t':=fun pos pins s σ H Q I hw=>h pos pins s σ H Q I (w σ H Q hw)
theorem aQ:SA X Wx m [] aA:=by
 refine KR nR ?_;rintro st H Q ⟨P0,H0,P,Os,env,M,r,M',k,e,q⟩;cases e;exact q P [] H (LtE.refl P H) k.hk rfl
theorem aF {e:Expr}{es:List Expr}{f:E}{fs:EA}(ha:SE X Wx m e f)(hr:SA X Wx m es fs)(hs:starEach (e::es) X.env=(false,eval e X.env)::starEach es X.env:=by rfl):SA X Wx m (e::es) (aD f fs):=by
 refine KR (lN ha hr hs) ?_;rintro st H Q ⟨P0,H0,P,Os,env,M,r,M',k,e,q⟩;unfold aD at e;split at e
 ·rename_i d M1 e1;refine aY k e1 fun P1 v1 H1 l1 h1 i1=>?_;split at e
  ·rename_i ds M2 e2;cases e;refine⟨P0,H0,P1,Os,env,M1,_,_,k.next l1 h1,e2,fun P2 vs H2 l2 h2 i2=>q P2 _ H2 (l1.trans l2) h2 ⟨v1,vs,rfl,?_,i2⟩⟩
   cases m with
   |val=>exact Is.lt (l2.lt h1) i1
   |bor=>exact bQ.lt l2 h1 i1
  ·rename_i c n M2 e2;cases e;exact⟨P0,H0,P1,Os,env,M1,_,_,k.next l1 h1,e2,q⟩
  ·cases e
 ·rename_i c n M1 e1;cases e;exact aY k e1 q
 ·cases e
noncomputable def sN (o:List D->Option D) (fs:EA):E:=fun env M=>dh (fs env M) fun ds M1=>(o (ds.map (vw M1))).map fun z=>(.v z,M1)
noncomputable def lW (K:Fgx) (P:Pl) (H:Hp):List D->List V->Prop
 | [],vs=>vs=[]
 |d::ds,vs=>∃v ws,vs=v::ws/\bH K P H d v/\lW K P H ds ws
theorem cD.w {K:Fgx}{mg:Mgx}{P:Pl}{H:Hp}{M:Mm}(h:Hk K mg P H M):∀{ds:List D} {vs:List V},cD K P H m ds vs->lW K P H (ds.map (vw M)) vs
  | [],_,q=>q
  |d::ds,_,q=>by
    obtain⟨v,ws,e,p,q⟩:=q;exact⟨v,ws,e,bQ.vw h (p.b h),cD.w h q⟩
def gW (K:Fgx)(r:List V->Hp->VK->Prop)(o:List D->Option D):Prop:=∀(P:Pl) (H:Hp) (ds:List D) (z:D) (vs:List V) (Q:VK),o ds=some z->lW K P H ds vs->(∀p,H p=none->¬ P.bd p)->(∀u H',Same H H'->Is K P H' z u->Q u H')->r vs H Q
theorem Mr {ex e:Expr}{es:List Expr}{r:List V->Hp->VK->Prop}{o:List D->Option D}{fs:EA}(h:∀t,PA X (e::es) t->PE X ex (GJ r t))(po:gW X.K r o)(ha:SA X Wx .bor (e::es) fs):SE X Wx m ex (sN o fs):=by
 refine b_ (h _ ha) ?_;rintro st H Q ⟨P0,H0,P,Os,env,M,r,M',k,e,q⟩;unfold sN at e;rcases pK e with⟨ds,M1,e1,e⟩ |⟨c,n,e1,rfl⟩
 ·rw[xag]at e;obtain⟨z,ez,e⟩:=e;cases e;exact⟨P0,H0,P,Os,env,M,_,_,k,e1,fun P1 vs H1 l1 h1 i1=>po P1 H1 _ z vs Q ez (cD.w h1 i1) h1.new fun u H' s i=>q P1 u H' (l1.trans (LtE.same s)) (h1.same s) (cF.of (h1.same s) i)⟩
 ·exact⟨P0,H0,P,Os,env,M,_,_,k,e1,q⟩
noncomputable def cg (fs:EA):E:=fun env M=>dh (fs env M) fun ds M1=>if ds.length<=sizeLine then some (.v (.tup ds),M1) else none
theorem lq {es:List Expr}{x1:Nat}{pos:Pos}{fs:EA}(ha:SA X Wx .val es fs):SE X Wx m (.Tuple es x1 pos) (cg fs):=by
 refine b_ (K3 ha) ?_;rintro st H Q ⟨P0,H0,P,Os,env,M,r,M',k,e,q⟩;unfold cg at e;rcases pK e with⟨ds,M1,e1,e⟩ |⟨c,n,e1,rfl⟩
 ·split at e
  ·rename_i hl;cases e;refine⟨P0,H0,P,Os,env,M,_,_,k,e1,fun P1 vs H1 l1 h1 i1=>⟨by rw[i1.iss.len];exact hl,fun p hp=>?_⟩⟩;have s:=tX (o:=.tup vs) hp;exact q P1 _ _ (l1.trans (LtE.same s)) (h1.same s) (cF.of (h1.same s) ⟨p,vs,rfl,.inl (.inl cN),au.lt ((LtE.same s).lt h1) i1.iss⟩)
  ·cases e
 ·exact⟨P0,H0,P,Os,env,M,_,_,k,e1,q⟩
noncomputable def NQ (K:Fgx) (mg:Mgx) (Wx:XW) (P0:Pl) (H0:Hp) (P:Pl) (H:Hp) (M':Mm) (Q:VK):Res->Prop
 |.v d=>∃ds,d=.lst ds/\∀P' a vs H',LtE P H P' H'->Hk K mg P' H' M'->H a=none->P'.bd a->(∀k,k<P'.n->P'.io k≠a)->H' a=some (.lst vs)->au K P' H' ds vs->Q (.ref a) H'
 |.x c n=>Wx P0 H0 M' c n
noncomputable def tN (K:Fgx) (mg:Mgx) (Wx:XW) (f:E):TE:=fun st H Q=>∃P0 H0 P Os env M r M',Ok K mg P0 H0 P Os H M st env/\f env M=some (r,M')/\NQ K mg Wx P0 H0 P H M' Q r
def SN (X:Cx)(Wx:XW)(e:Expr)(f:E):Prop:=PE X e (tN X.K X.mg Wx f)
def Pl.bar (P:Pl)(p:Addr):Pl:={P with bd:=fun a=>P.bd a\/a=p}
theorem pI {K:Fgx}{mg:Mgx}{P:Pl}{H:Hp}{M:Mm}{p:Addr}{vs:List V}(h:Hk K mg P H M)(hp:H p=none):LtE P H (P.bar p) (upd H p (.lst vs))/\Hk K mg (P.bar p) (upd H p (.lst vs)) M/\∀k,k<P.n->P.io k≠p:=by
  have s:=tX (o:=.lst vs) hp;have nc:∀k,k<P.n->P.io k≠p:=fun k hk z=>h.here _ (h.bd k hk) (z ▸ hp);have l:LtE P H (P.bar p) (upd H p (.lst vs)):=⟨xab _,fun _ _=>rfl,fun a z=>Or.imp (fun q=>q) (fun(q:a=p)=>by rw[q];exact hp) z,fun a z=>.inl z,fun a o e _=>s a o e,fun a z=>s.free z,fun k h1 h2=>absurd h1 (xdu.mpr h2)⟩;have lt:=l.lt h;refine⟨l,⟨h.n,fun k c e=>?_,h.inj,fun k hk=>.inl (h.bd k hk),fun a z q=>?_⟩,nc⟩
  · have:=h.cell k c e
    cases c with
    |lst ds=>
      obtain⟨vs,e1,q⟩:=this;exact⟨vs,s _ _ e1,au.lt lt q⟩
    |obj c fs=>
      obtain⟨C,dx,gs,e1,e2,e3,q⟩:=this;exact⟨C,dx,gs,e1,s _ _ e2,e3,au.lt lt q⟩
    |dct kvs=>
      obtain⟨vs,e1,e2,q⟩:=this;exact⟨vs,s _ _ e1,e2,au.lt lt q⟩
    |dtc kvs=>
      obtain⟨vs,e1,e2,q⟩:=this;exact⟨vs,s _ _ e1,e2,au.lt lt q⟩
    |dcf kvs=>
      obtain⟨vs,ob,es,ep,e1,eD,e2,q⟩:=this;exact⟨vs,ob,es,ep,s _ _ e1,eD,e2,au.lt lt q⟩
    |dtf kvs=>
      obtain⟨vs,ob,es,ep,e1,eD,e2,q⟩:=this;exact⟨vs,ob,es,ep,s _ _ e1,eD,e2,au.lt lt q⟩
    |fn i caps=>exact lA.up this lt.frz fun _ _ q=>au.lt lt q
    |tbl nm i=>exact pF.up this (fun _ e=>s _ _ e) lt.frz
  · rcases z with z |z
    · exact h.here a z (s.free q)
    · subst z;rw[cN]at q;cases q
theorem SN.se {e:Expr}{f:E}(h:SN X Wx e f)(hf:∀env M r M',f env M=some (.v r,M')->∃ds,r=.lst ds):SE X Wx .val e f:=by
  refine b_ h ?_;rintro st H Q ⟨P0,H0,P,Os,env,M,r,M',k,e,q⟩;refine⟨P0,H0,P,Os,env,M,r,M',k,e,?_⟩
  cases r with
  |x c n=>exact q
  |v d=>
    obtain⟨ds,rfl⟩:=hf _ _ _ _ e;refine⟨ds,rfl,fun P' a vs H' l h ha ba nc ea is=>q (P'.less (· ≠a)) _ H' ?_ ?_ ⟨a,vs,rfl,.inl ⟨fun z=>z.2 rfl,.inl ea⟩,au.less is⟩⟩
    · exact⟨l.n,l.io,fun b z=>l.bd b z.1,fun b z=>⟨l.bm b z,fun q=>k.hk.here b z (q ▸ ha)⟩,l.keep,l.sure,l.nw⟩
    · refine⟨h.n,fun j c e=>?_,h.inj,fun j hj=>⟨h.bd j hj,nc j hj⟩,fun b z=>h.here b z.1⟩;have:=h.cell j c e
      cases c with
      |lst ds=>
        obtain⟨vs,e1,q⟩:=this;exact⟨vs,e1,au.less q⟩
      |obj c fs=>
        obtain⟨C,dx,gs,e1,e2,e3,q⟩:=this;exact⟨C,dx,gs,e1,e2,e3,au.less q⟩
      |dct kvs=>
        obtain⟨vs,e1,e2,q⟩:=this;exact⟨vs,e1,e2,au.less q⟩
      |dtc kvs=>
        obtain⟨vs,e1,e2,q⟩:=this;exact⟨vs,e1,e2,au.less q⟩
      |dcf kvs=>
        obtain⟨vs,ob,es,ep,e1,eD,e2,q⟩:=this;exact⟨vs,ob,es,ep,e1,eD,e2,au.less q⟩
      |dtf kvs=>
        obtain⟨vs,ob,es,ep,e1,eD,e2,q⟩:=this;exact⟨vs,ob,es,ep,e1,eD,e2,au.less q⟩
      |fn i caps=>exact lA.up this (fun _ _ _ z=>z) fun _ _ q=>au.less q
      |tbl nm i=>exact this
noncomputable def bR (fs:EA):E:=fun env M=>dh (fs env M) fun ds M1=>if ds.length<=sizeLine then some (.v (.lst ds),M1) else none
theorem lU {es:List Expr}{pos:Pos}{fs:EA}(ha:SA X Wx .val es fs):SN X Wx (.List es pos) (bR fs):=by
 refine b_ (Vx ha) ?_;rintro st H Q ⟨P0,H0,P,Os,env,M,r,M',k,e,q⟩;unfold bR at e;rcases pK e with⟨ds,M1,e1,e⟩ |⟨c,n,e1,rfl⟩
 ·split at e
  ·rename_i hl;cases e;obtain⟨ds',e',q⟩:=q;cases e';refine⟨P0,H0,P,Os,env,M,_,_,k,e1,fun P1 vs H1 l1 h1 i1=>⟨by rw[i1.iss.len];exact hl,fun p hp=>?_⟩⟩;obtain⟨l2,h2,nc⟩:=pI (vs:=vs) h1 hp;exact q (P1.bar p) p vs _ (l1.trans l2) h2 (l1.sure p hp) (.inr rfl) nc cN (au.lt (l2.lt h1) i1.iss)
  ·cases e
 ·exact⟨P0,H0,P,Os,env,M,_,_,k,e1,q⟩
theorem lst_is {fs:EA}:∀env M r M',bR fs env M=some (.v r,M')->∃ds,r=.lst ds:=fun env M r M' e=>by
 unfold bR at e;rcases pK e with⟨ds,M1,e1,e⟩ |⟨c,n,e1,e⟩
 ·split at e
  ·cases e;exact⟨_,rfl⟩
  ·cases e
 ·cases e
end
inductive Out where
 |nx (env:Env) |bk (env:Env) |ct (env:Env) |rt (d:D) |ex (c:Str) (n:Int)
abbrev OS:=Option (Out×Mm)
abbrev S:=Env->Mm->OS
noncomputable def Post (K:Fgx) (mg:Mgx) (Wx:XW) (P0:Pl) (H0:Hp) (P:Pl) (H:Hp) (M':Mm) (D:Ends):Out->Prop
 |.nx env=>∀P' Os' H' st',Lt P H P' H'->Ok K mg P0 H0 P' Os' H' M' st' env->D.nx st' H'
 |.bk env=>∀P' Os' H' st',Lt P H P' H'->Ok K mg P0 H0 P' Os' H' M' st' env->D.bk st' H'
 |.ct env=>∀P' Os' H' st',Lt P H P' H'->Ok K mg P0 H0 P' Os' H' M' st' env->D.ct st' H'
 |.rt d=>∀P' v H',LtE P0 H0 P' H'->Hk K mg P' H' M'->Is K P' H' d v->D.rt v H'
 |.ex c n=>Wx P0 H0 M' c n
noncomputable def tS (K:Fgx) (mg:Mgx) (Wx:XW) (f:S):TS:=fun D st H=>∃P0 H0 P Os env M out M',Ok K mg P0 H0 P Os H M st env/\f env M=some (out,M')/\Post K mg Wx P0 H0 P H M' D out
def SS (X:Cx)(Wx:XW)(s:Stmt)(f:S):Prop:=PS X s (tS X.K X.mg Wx f)
def SB (X:Cx)(Wx:XW)(s:List Stmt)(f:S):Prop:=fL X s (tS X.K X.mg Wx f)
noncomputable def cO (o:O) (k:D->Mm->OS):OS:=match o with
 |some (.v d,M)=>k d M
 |some (.x c n,M)=>some (.ex c n,M)
 |none=>none
theorem iB {o:O}{k:D->Mm->OS}{r:Out}{M':Mm}(h:cO o k=some (r,M')):(∃d M,o=some (.v d,M)/\k d M=some (r,M'))\/∃c n,o=some (.x c n,M')/\r=.ex c n:=by
 unfold cO at h;split at h
 ·exact .inl ⟨_,_,rfl,h⟩
 ·cases h;exact .inr ⟨_,_,rfl,rfl⟩
 ·cases h
section
variable {K:Fgx}{mg:Mgx}{Wx:XW}{P0 P P' P1:Pl}{H0 H H' H1:Hp}{M M':Mm}{Os:List (Option Addr)}{st:L2.St}{env:Env}{d:D}{v:V}{i:Nat}
theorem xY {α:Type}(l:List (Option α))(i j:Nat)(x:Option α)(hi:i<l.length):((l.set i x)[j]?).join=if i=j then x else(l[j]?).join:=by
 rw[xbd]
 by_cases h:i=j
 ·subst h;rw[xaa rfl,xaa hi,xaa rfl];rfl
 ·rw[xad h,xad h]
theorem Ok.asg (k:Ok K mg P0 H0 P Os H M st env)(hi:i<env.length)(h:Is K P H d v):Ok K mg P0 H0 P (Os.set i none) H M (st.set i (some v)) (env.set i (.val d)) where
 hk:=k.hk
 base:=k.base
 b0:=k.b0
 slot:=fun j s e=>by
  rw[xY _ _ _ _ (by rw[k.olen];exact hi),xY _ _ _ _ (by rw[k.slen];exact hi)];rw[xbd]at e;split at e
  ·rename_i ij;subst ij;cases e;rw[xaa rfl,xaa rfl];exact⟨v,rfl,h⟩
  ·rename_i ij;rw[xad ij,xad ij];exact k.slot j s e
 own := fun a h => k.own a (by
  rcases xdv h with h |h
  ·exact h
  ·cases h)
 inj:=fun j l a e1 e2=>by
  rw[xbd]at e1 e2;split at e1
  ·split at e1<;>cases e1
  ·split at e2
   ·split at e2<;>cases e2
   ·exact k.inj j l a e1 e2
 olen:=by rw[xaM,xaM,k.olen]
 slen:=by rw[xaM,xaM,k.slen]
theorem Ok.here (k:Ok K mg P0 H0 P Os H M st env){a:Addr}(h:some a∈Os):H a≠none:=k.hk.here a (k.own a h).1
theorem Ok.mine {a:Addr}{vs:List V}{ds:List D}(k0:Ok K mg P0 H0 P Os H M st env)(l:LtE P H P' H')(hk:Hk K mg P' H' M')(hi:i<env.length)(ha:H a=none)(ba:P'.bd a)(nc:∀j,j<P'.n->P'.io j≠a)(e:H' a=some (.lst vs))(h:au K P' H' ds vs):
  Ok K mg P0 H0 P' (Os.set i (some a)) H' M' (st.set i (some (.ref a))) (env.set i (.own ds)):=by
 have k:=k0.next l hk
 have nO:∀j,Os[j]? ≠some (some a):=fun j z=>k0.here (xaJ z) ha;exact {
  hk:=k.hk
  base:=k.base
  b0:=k.b0
  slot:=fun j s e'=>by
   rw[xY _ _ _ _ (by rw[k.olen];exact hi),xY _ _ _ _ (by rw[k.slen];exact hi)];rw[xbd]at e';split at e'
   ·rename_i ij;subst ij;cases e';rw[xaa rfl,xaa rfl];exact⟨a,vs,rfl,rfl,e,h⟩
   ·rename_i ij;rw[xad ij,xad ij];exact k.slot j s e'
  own:=fun b hb=>by
   rcases xdv hb with hb |hb
   ·exact k.own b hb
   ·cases hb;exact⟨ba,nc,k0.base.sure a ha⟩
  inj:=fun j l b e1 e2=>by
   rw[xbd]at e1 e2;split at e1
   ·split at e1
    ·cases e1;split at e2
     ·rename_i z1 _ z2;exact z1.symm.trans z2
     ·exact absurd e2 (nO l)
    ·cases e1
   ·split at e2
    ·split at e2
     ·cases e2;exact absurd e1 (nO j)
     ·cases e2
    ·exact k.inj j l b e1 e2
  olen:=by rw[xaM,xaM,k.olen]
  slen:=by rw[xaM,xaM,k.slen]}
theorem pZ {a : Addr} {o o' : HO} (b : P.bd a) (e : H a = some o) (nf : ¬ Fx o) : Lt P H P (upd H a o') := ⟨xab _,fun _ _=>rfl,fun _ z=>.inl z,fun c u ec z=>by
  by_cases h:c=a
  ·subst h;rw[e]at ec;cases ec;exact(z.elim nf fun n=>n b).elim
  ·rw[bw h];exact ec,fun c z=>by
  by_cases h:c=a
  ·subst h;rw[cN]at z;cases z
  ·rw[bw h]at z;exact z⟩
theorem Kz {vs:List V}:¬ Fx (.lst vs):=fun z=>by rcases z with⟨_,z⟩ |⟨_,_,z⟩ |⟨_,z⟩ |⟨_,z⟩<;>cases z
theorem rZ.lt {a:Addr}{c:Cl}(l:Lt P H P' H')(e:∀o,H a=some o->H' a=some o)(h:rZ K mg P H a c):rZ K mg P' H' a c:=by
  cases c with
  |lst ds=>
    obtain⟨vs,e1,q⟩:=h;exact⟨vs,e _ e1,au.lt l q⟩
  |obj c fs=>
    obtain⟨C,dx,gs,e1,e2,e3,q⟩:=h;exact⟨C,dx,gs,e1,e _ e2,e3,au.lt l q⟩
  |dct kvs=>
    obtain⟨vs,e1,e2,q⟩:=h;exact⟨vs,e _ e1,e2,au.lt l q⟩
  |dtc kvs=>
    obtain⟨vs,e1,e2,q⟩:=h;exact⟨vs,e _ e1,e2,au.lt l q⟩
  |dcf kvs=>
    obtain⟨vs,ob,es,ep,e1,eD,e2,q⟩:=h;exact⟨vs,ob,es,ep,e _ e1,eD,e2,au.lt l q⟩
  |dtf kvs=>
    obtain⟨vs,ob,es,ep,e1,eD,e2,q⟩:=h;exact⟨vs,ob,es,ep,e _ e1,eD,e2,au.lt l q⟩
  |fn i caps=>exact lA.up h l.frz fun _ _ q=>au.lt l q
  |tbl nm i=>exact pF.up h e l.frz
theorem Ok.chg {a:Addr}{vs vs':List V}{ds ds':List D}(k:Ok K mg P0 H0 P Os H M st env)(hi:env[i]? =some (.own ds))(ho:Os[i]? =some (some a))(e:H a=some (.lst vs))(h:au K P H ds' vs'):
    Lt P H P (upd H a (.lst vs'))/\Ok K mg P0 H0 P Os (upd H a (.lst vs')) M st (env.set i (.own ds')):=by
  obtain⟨b1,b2,b3⟩:=k.own a (xaJ ho);have l:Lt P H P (upd H a (.lst vs')):=pZ b1 e Kz;have ilt:i<env.length:=(xat.mp hi).1;refine⟨l,?_⟩;exact {
    hk:=⟨k.hk.n,fun j c ej=>(k.hk.cell j c ej).lt l fun o eo=>by rw[bw (b2 j (by rw[k.hk.n];exact(xat.mp ej).1))];exact eo,k.hk.inj,k.hk.bd,fun c z q=>k.hk.here c z (l.sure c q)⟩
    base := ⟨k.base.n,k.base.io,k.base.bd,k.base.bm,fun c o ec n=>by
      have:=k.base.keep c o ec n;rw[bw (fun z=>by subst z;rw[b3]at ec;cases ec)];exact this,fun c z=>k.base.sure c (l.sure c z),k.base.nw⟩
    b0:=k.b0
    slot:=fun j s ej=>by
      rw[xbd]at ej;split at ej
      · rename_i ij;subst ij;cases ej;obtain⟨a',vs0,e1,e2,e3,q⟩:=k.slot i _ hi;rw[ho]at e1;cases e1;exact⟨a,vs',by rw[ho];rfl,e2,cN,au.lt l h⟩
      · rename_i ij;have q:=k.slot j s ej
        cases s with
        |un=>exact True.intro
        |val d=>obtain⟨v,e1,q⟩:=q;exact⟨v,e1,Is.lt l q⟩
        |own es=>
          obtain⟨a',ws,e1,e2,e3,q⟩:=q;refine⟨a',ws,e1,e2,?_,au.lt l q⟩;rw[bw (fun z=>ij (k.inj i j a ho (by rw[<-z];exact lH e1)))];exact e3
        |exc c n=>obtain⟨v,e1,q⟩:=q;exact⟨v,e1,q.lt l⟩
    own:=k.own
    inj:=k.inj
    olen:=by rw[xaM,k.olen]
    slen:=by rw[xaM,k.slen]}
theorem Hk.set {j:Nat}{c c':Cl}{o':HO}(h:Hk K mg P H M)(e:M[j]? =some c)(w:rZ K mg P (upd H (P.io j) o') (P.io j) c')(nd:c.fix=false:=by rfl):Lt P H P (upd H (P.io j) o')/\LtE P H P (upd H (P.io j) o')/\Hk K mg P (upd H (P.io j) o') (M.set j c'):=by
 have jl:j<P.n:=by rw[h.n];exact(xat.mp e).1
 obtain ⟨o, eo, nf⟩ := h.cellAt e nd;have l : Lt P H P (upd H (P.io j) o') := pZ (h.bd j jl) eo nf;refine ⟨l, ⟨xab _,fun _ _=>rfl,fun _ z=>.inl z,fun _ z=>z,fun a u ea n=>by
  have ne:a≠P.io j:=by
   rintro rfl;rw[eo]at ea;cases ea;exact n.elim nf fun nc=>nc j jl rfl
  rw[bw ne];exact ea,l.sure,fun k h1 h2=>absurd h1 (xdu.mpr h2)⟩,⟨by rw[xaM,h.n],fun k b ek=>?_,h.inj,h.bd,fun a z q=>h.here a z (l.sure a q)⟩⟩
 rw[xbd]at ek;split at ek
 ·rename_i jk;subst jk;rw[xaa (by rw[<-h.n];exact jl)]at ek;cases ek;exact w
 ·rename_i jk;have kl:k<P.n:=by rw[h.n];exact(xat.mp ek).1
  exact(h.cell k b ek).lt l fun u eu=>by rw[bw (fun z=>jk (h.inj j k jl kl z.symm))];exact eu
theorem Ok.frz {ds:List D}(k:Ok K mg P0 H0 P Os H M st env)(hi:env[i]? =some (.own ds)):∃P' Os',Lt P H P' H/\Ok K mg P0 H0 P' Os' H M st (env.set i (.val (.lst ds))):=by
 obtain⟨a,vs,e1,e2,e3,q⟩:=k.slot i _ hi;have ho:=lH e1;obtain⟨b1,b2,b3⟩:=k.own a (xaJ ho);have ilt:i<env.length:=(xat.mp hi).1;have nO:∀b,some b∈Os.set i none->some b∈Os/\b≠a:=fun b z=>by
  obtain⟨j,hj⟩:=xdZ.mp z;rw[xbd]at hj;split at hj
  ·split at hj<;>cases hj
  ·rename_i ij;exact⟨xaJ hj,fun z=>by subst z;exact ij (k.inj i j b ho hj)⟩
 have l : Lt P H (P.less (· ≠ a)) H := ⟨xab _, fun _ _ => rfl, fun c z => .inl z.1, fun _ _ e _ => e, fun _ z => z⟩;refine ⟨P.less (· ≠a),Os.set i none,l,{
  hk:=⟨k.hk.n,fun j c ej=>(k.hk.cell j c ej).lt l fun _ z=>z,k.hk.inj,fun j hj=>⟨k.hk.bd j hj,b2 j hj⟩,fun c z=>k.hk.here c z.1⟩
  base:=⟨k.base.n,k.base.io,fun c z=>k.base.bd c z.1,fun c z=>⟨k.base.bm c z,fun q=>k.b0 c z (q ▸ b3)⟩,k.base.keep,k.base.sure,k.base.nw⟩
  b0:=k.b0
  slot:=fun j s ej=>?_
  own:=fun c z=>?_
  inj:=fun j l b z1 z2=>?_
  olen:=by rw[xaM,xaM,k.olen]
  slen:=by rw[xaM,k.slen]}⟩
 ·rw[xY _ _ _ _ (by rw[k.olen];exact ilt)];rw[xbd]at ej;split at ej
  ·rename_i ij;subst ij;cases ej;exact⟨.ref a,e2,a,vs,rfl,.inl ⟨fun z=>z.2 rfl,.inl e3⟩,au.less q⟩
  ·rename_i ij;rw[xad ij];have q:=k.slot j s ej
   cases s with
   |un=>exact True.intro
   |val d=>obtain⟨v,e1,q⟩:=q;exact⟨v,e1,Is.less q⟩
   |own es=>obtain⟨a',ws,e1,e2,e3,q⟩:=q;exact⟨a',ws,e1,e2,e3,au.less q⟩
   |exc c n=>obtain⟨v,e1,q⟩:=q;exact⟨v,e1,q.lt l⟩
 ·obtain⟨z1,z2⟩:=nO c z;obtain⟨c1,c2,c3⟩:=k.own c z1;exact⟨⟨c1,z2⟩,c2,c3⟩
 ·rw[xbd]at z1 z2;split at z1
  ·split at z1<;>cases z1
  ·split at z2
   ·split at z2<;>cases z2
   ·exact k.inj j l b z1 z2
end
section
variable {X:Cx}{Wx:XW}{pos:Pos}
theorem gb {s:Stmt}{t t':TS}(h:PS X s t)(w:∀D σ H,t' D σ H->t D σ H):PS X s t':=fun pins s σ H D I hw=>h pins s σ H D I (w D σ H hw)
theorem E_ {s:List Stmt}{t t':TS}(h:fL X s t)(w:∀D σ H,t' D σ H->t D σ H):fL X s t':=fun pins s σ H D I hw=>h pins s σ H D I (w D σ H hw)
def aC:S:=fun env M=>some (.nx env,M)
noncomputable def aq (f g:S):S:=fun env M=>match f env M with
 |some (.nx e,M1)=>g e M1
 |o=>o
theorem aP:SB X Wx [] aC:=by
 refine E_ Wa ?_;rintro D st H ⟨P0,H0,P,Os,env,M,out,M',k,e,q⟩;cases e;exact q P Os H st (Lt.refl P H) k
theorem Post.lt {K:Fgx}{mg:Mgx}{P0 P P1:Pl}{H0 H H1:Hp}{M':Mm}{D:Ends}{o:Out}(l:Lt P H P1 H1)(q:Post K mg Wx P0 H0 P H M' D o):Post K mg Wx P0 H0 P1 H1 M' D o:=by
 cases o with
 |nx env=>exact fun P' Os' H' st' l' k=>q P' Os' H' st' (l.trans l') k
 |bk env=>exact fun P' Os' H' st' l' k=>q P' Os' H' st' (l.trans l') k
 |ct env=>exact fun P' Os' H' st' l' k=>q P' Os' H' st' (l.trans l') k
 |rt d=>exact q
 |ex c n=>exact q
theorem aH {s:Stmt}{ss:List Stmt}{f g:S}(h1:SS X Wx s f)(h2:SB X Wx ss g):SB X Wx (s::ss) (aq f g):=by
  refine E_ (V_ h1 h2) ?_;rintro D st H ⟨P0,H0,P,Os,env,M,out,M',k,e,q⟩;unfold aq at e;split at e
  · rename_i e1 M1 ef;refine⟨P0,H0,P,Os,env,M,_,_,k,ef,fun P1 Os1 H1 st1 l1 k1=>?_⟩;exact⟨P0,H0,P1,Os1,e1,M1,_,_,k1,e,q.lt l1⟩
  · rename_i o ho
    cases ef:f env M with
    |none=>rw[ef]at e;cases e
    |some om=>
      obtain⟨o1,M1⟩:=om;rw[ef]at e;cases e;refine⟨P0,H0,P,Os,env,M,_,_,k,ef,?_⟩
      cases out with
      |nx env'=>exact(ho _ _ ef).elim
      |bk env'=>exact q
      |ct env'=>exact q
      |rt d=>exact q
      |ex c n=>exact q
noncomputable def aM (i:Nat) (f:E):S:=fun env M=>cO (f env M) fun d M1=>if i<env.length then some (.nx (env.set i (.val d)),M1) else none
theorem cj {i:Nat}{x:Str}{e:Expr}{f:E}{pos':Pos}(hN:X.N.Nodup)(hi:X.N[i]? =some x)(hx:Loc X.env.scope x)(he:SE X Wx .val e f)(hs:swapsWith e (some (.Name x pos')) pos.line X.env=pure false:=by rfl)
  (hf:X.fn x=true\/X.env.scope.names.lookup x=some .local:=by first |exact .inl rfl |exact .inr rfl):SS X Wx (.Assign [.Name x pos'] e pos) (aM i f):=by
 refine gb (K_ hN hi hx he hs hf) ?_;rintro D st H ⟨P0,H0,P,Os,env,M,out,M',k,e,q⟩;unfold aM at e;rcases iB e with⟨d,M1,e1,e⟩ |⟨c,n,e1,rfl⟩
 ·split at e
  ·rename_i hl;cases e;exact⟨P0,H0,P,Os,env,M,_,_,k,e1,fun P1 v1 H1 l1 h1 i1=>q _ _ _ _ (l1.lt k.hk) ((k.next l1 h1).asg hl i1)⟩
  ·cases e
 ·exact⟨P0,H0,P,Os,env,M,_,_,k,e1,q⟩
noncomputable def tR (i:Nat) (f:E):S:=fun env M=>cO (f env M) fun d M1=>match d with
 |.lst ds=>if i<env.length then some (.nx (env.set i (.own ds)),M1) else none
 |_=>none
theorem Gw {i:Nat}{x:Str}{e:Expr}{f:E}{pos':Pos}(hN:X.N.Nodup)(hi:X.N[i]? =some x)(hx:Loc X.env.scope x)(he:SN X Wx e f)(hs:swapsWith e (some (.Name x pos')) pos.line X.env=pure false:=by rfl)
  (hf:X.fn x=true\/X.env.scope.names.lookup x=some .local:=by first |exact .inl rfl |exact .inr rfl):SS X Wx (.Assign [.Name x pos'] e pos) (tR i f):=by
 refine gb (K_ hN hi hx he hs hf) ?_;rintro D st H ⟨P0,H0,P,Os,env,M,out,M',k,e,q⟩;unfold tR at e;rcases iB e with⟨d,M1,e1,e⟩ |⟨c,n,e1,rfl⟩
 ·cases d<;>simp only[reduceCtorEq]at e
  rename_i ds;split at e
  ·rename_i hl;cases e;exact⟨P0,H0,P,Os,env,M,_,_,k,e1,ds,rfl,fun P1 a vs H1 l1 h1 ha ba nc ea is=>q _ _ _ _ (l1.lt k.hk) (k.mine l1 h1 hl ha ba nc ea is)⟩
  ·cases e
 ·exact⟨P0,H0,P,Os,env,M,_,_,k,e1,q⟩
def aO (f:E):S:=fun env M=>cO (f env M) fun d M1=>some (.rt d,M1)
theorem bT {e:Expr}{f:E}(he:SE X Wx .val e f):SS X Wx (.Return (some e) pos) (aO f):=by
 refine gb (V8 he) ?_;rintro D st H ⟨P0,H0,P,Os,env,M,out,M',k,e,q⟩;unfold aO at e;rcases iB e with⟨d,M1,e1,e⟩ |⟨c,n,e1,rfl⟩
 ·cases e;exact⟨P0,H0,P,Os,env,M,_,_,k,e1,fun P1 v1 H1 l1 h1 i1=>q P1 v1 H1 (k.base.trans l1) h1 i1⟩
 ·exact⟨P0,H0,P,Os,env,M,_,_,k,e1,q⟩
noncomputable def cM (c:E) (f g:S):S:=fun env M=>cO (c env M) fun d M1=>match d with
 |.bl b=>if b=true then f env M1 else g env M1
 |_=>none
theorem dI {c:Expr}{a b:List Stmt}{t:E}{f g:S}(hc:ST X Wx c t)(ha:SB X Wx a f)(hb:SB X Wx b g):SS X Wx (.If c a b pos) (cM t f g):=by
  refine gb (V7 hc ha hb) ?_;rintro D st H ⟨P0,H0,P,Os,env,M,out,M',k,e,q⟩;unfold cM at e;rcases iB e with⟨d,M1,e1,e⟩ |⟨c,n,e1,rfl⟩
  · cases d<;>simp only[reduceCtorEq]at e
    rename_i b;refine fG k e1 ⟨b,rfl,fun P1 H1 l1 h1=>?_⟩
    cases b with
    |true=>
      rw[xaa rfl]at e ⊢;exact⟨P0,H0,P1,Os,env,M1,_,_,k.next l1 h1,e,q.lt (l1.lt k.hk)⟩
    |false=>
      rw[xad (by decide)]at e ⊢;exact⟨P0,H0,P1,Os,env,M1,_,_,k.next l1 h1,e,q.lt (l1.lt k.hk)⟩
  · exact fG k e1 q
noncomputable def kZ (i:Nat):S:=fun env M=>match env[i]? with
 |some (.own ds)=>some (.nx (env.set i (.val (.lst ds))),M)
 |_=>none
theorem Lk {ss:List Stmt}{i:Nat}{g:S}(h:SB X Wx ss g):SB X Wx ss (aq (kZ i) g):=by
 refine E_ h ?_;rintro D st H ⟨P0,H0,P,Os,env,M,out,M',k,e,q⟩;unfold aq kZ at e;split at e
 ·rename_i e1 M1 ef;split at ef
  ·rename_i ds es;cases ef;obtain⟨P1,Os1,l1,k1⟩:=k.frz es;exact⟨P0,H0,P1,Os1,_,_,_,_,k1,e,q.lt l1⟩
  ·cases ef
 ·rename_i ho;split at e
  ·rename_i es;exact(ho _ _ (by rw[es])).elim
  ·cases e
noncomputable def kW (i:Nat) (f:E):S:=fun env M=>match env[i]? with
 |some (.own ds)=>cO (f env M) fun d M1=>if ds.length<sizeLine then some (.nx (env.set i (.own (ds ++ [d]))),M1) else none
 |_=>none
theorem MP {i:Nat}{x:Str}{e:Expr}{f:E}{p0 p q:Pos}(hN:X.N[i]? =some x)(hv:pH X.env.scope x)(he:SE X Wx .val e f)(hd:(x==("__debug__":Str))=false:=by x_go)(hcd:(x==("__classdict__":Str))=false:=by x_go)
  (hfew:((backTo q (starEach [e] X.env)).all (fun x=> !x.1) && (backToKw q (keywordEach [] X.env)).all (fun x=>x.1.isSome) && decide ([e].length + ([]:List Keyword).length + (if ([]:List Keyword).isEmpty then 0 else 1)<30))=true:=by rfl)
  (hline:(p.endLine==q.line)=true:=by rfl) (hs:starEach [e] X.env=(false,eval e X.env)::starEach [] X.env:=by rfl) (hw:swapsWith (.Call (.Attribute (.Name x p0) "append" p) [e] [] q) none pos.line X.env=pure false:=by rfl):
  SS X Wx (.Expr (.Call (.Attribute (.Name x p0) "append" p) [e] [] q) pos) (kW i f):=by
 refine gb (K8 (zV xdL xdD xdE DY (Ez hN hv hd hcd) (lN he nR hs) rfl hfew hline hs rfl) hw) ?_;rintro D st H ⟨P0,H0,P,Os,env,M,out,M',k,e,q⟩;unfold kW at e;split at e
 ·rename_i ds es;obtain⟨a,vs,o1,o2,o3,o4⟩:=k.slot i _ es;refine⟨.ref a,lH o2,.inl ⟨rfl,vs,.inl (.inl o3)⟩,?_⟩;rcases iB e with⟨d,M1,e1,e⟩ |⟨c,n,e1,rfl⟩
  ·split at e
   ·rename_i hz;cases e;refine aY k e1 fun P1 v1 H1 l1 h1 i1=>?_;have k1:=k.next l1 h1
    obtain⟨a',vs',o1',o2',o3',o4'⟩:=k1.slot i _ es;have ea:a'=a:=by
     have z:=o2'.symm.trans o2;cases z;rfl
    subst ea;refine⟨a',vs',v1,rfl,rfl,o3',by rw[o4'.len];exact hz,?_⟩;obtain⟨l2,k2⟩:=k1.chg es (lH o1') o3' (au.append o4' (au.one i1));exact q _ _ _ _ ((l1.lt k.hk).trans l2) k2
   ·cases e
  ·exact aY k e1 q
 ·cases e
def Wk (K:Fgx)(P1:Pl)(H1:Hp)(J:It)(ds:List D):Prop:=∀P H,Lt P1 H1 P H->(∀k,k<ds.length->J.go k H)/\(∀k,ds.length<=k->k<=ds.length->J.stop k H)/\∀k x H',J.yld k H x H'->k<ds.length->H'=H/\∃d,ds[k]? =some d/\Is K P H d x
noncomputable def IQ (K:Fgx) (mg:Mgx) (Wx:XW) (P0:Pl) (H0:Hp) (P:Pl) (H:Hp) (M':Mm) (R:It->Hp->Prop):ResA->Prop
 |.v ds=>∀P' H' J,LtE P H P' H'->Hk K mg P' H' M'->Wk K P' H' J ds->R J H'
 |.x c n=>Wx P0 H0 M' c n
noncomputable def tI (K:Fgx) (mg:Mgx) (Wx:XW) (fs:EA):TI:=fun st H R=>∃P0 H0 P Os env M r M',Ok K mg P0 H0 P Os H M st env/\fs env M=some (r,M')/\IQ K mg Wx P0 H0 P H M' R r
def SI (X:Cx)(Wx:XW)(tg iter:Expr)(fs:EA):Prop:=PI X tg iter (tI X.K X.mg Wx fs)
theorem EY {tg iter:Expr}{t t':TI}(h:PI X tg iter t)(w:∀σ H R,t' σ H R->t σ H R):PI X tg iter t':=fun pins s σ H R I hw=>h pins s σ H R I (w σ H R hw)
noncomputable def loopS (i:Nat) (body:S):List D->Env->Mm->OS
  | [],env,M=>some (.nx env,M)
  | d :: ds, env, M => if i < env.length then (match body (env.set i (.val d)) M with
    |some (.nx e,M1)=>loopS i body ds e M1
    |some (.ct e,M1)=>loopS i body ds e M1
    |some (.bk e,M1)=>some (.nx e,M1)
    |some (.rt d,M1)=>some (.rt d,M1)
    |some (.ex c n,M1)=>some (.ex c n,M1)
    |none=>none) else none
noncomputable def dO (i:Nat) (fs:EA) (body:S):S:=fun env M=>match fs env M with
 |some (.v ds,M1)=>loopS i body ds env M1
 |some (.x c n,M1)=>some (.ex c n,M1)
 |none=>none
theorem R8 {K:Fgx}{mg:Mgx}{P0 P1:Pl}{H0 H1:Hp}{Os:List (Option Addr)}{M M':Mm}{st:L2.St}{env:Env}{i:Nat}{b:S}{J:It}{ds:List D}{out:Out}{D:Ends}(k:Ok K mg P0 H0 P1 Os H1 M st env)(wk:Wk K P1 H1 J ds)
  (h:loopS i b ds env M=some (out,M')) (q:Post K mg Wx P0 H0 P1 H1 M' D out):
  ∃W:Nat->Nat->L2.St->Hp->Prop,(∃m,W 0 m st H1)/\∀j m σ H,W j m σ H->
   (J.stop j H/\D.nx σ H)\/(J.go j H/\∃Nn:L2.St->Hp->Prop,(∀σ' H',Nn σ' H'->∃m',m'<m/\W (j + 1) m' σ' H')/\∀x H',J.yld j H x H'->Di i x σ H' fun σ2 H2=>tS K mg Wx b {D with nx:=Nn,ct:=Nn,bk:=D.nx} σ2 H2):=by
 refine⟨fun j m σ H=>m=ds.length - j/\j<=ds.length/\∃P Os' M1 env',Lt P1 H1 P H/\Ok K mg P0 H0 P Os' H M1 σ env'/\loopS i b (ds.drop j) env' M1=some (out,M'),⟨ds.length,by simp,xa8 _,P1,Os,M,env,Lt.refl _ _,k,h⟩,?_⟩;rintro j m σ H ⟨rfl,hj,P,Os',M1,env',lt,k',h'⟩;obtain⟨w1,w2,w3⟩:=wk P H lt
 by_cases hlt:j<ds.length
 ·refine .inr ⟨w1 j hlt,fun σ' H'=>∃P Os' M1 env',Lt P1 H1 P H'/\Ok K mg P0 H0 P Os' H' M1 σ' env'/\loopS i b (ds.drop (j + 1)) env' M1=some (out,M'),fun σ' H' z=>⟨ds.length - (j + 1),by omega,rfl,hlt,z⟩,fun x H' y=>?_⟩;obtain⟨e3,d,ed,iv⟩:=w3 j x H' y hlt;subst e3;have ed':ds.drop j=d::ds.drop (j + 1):=by
   rw[xaS hlt];rw[xaf hlt]at ed;rw[xas ed]
  rw[ed']at h';simp only[loopS]at h';split at h'
  ·rename_i hi;have k2:=k'.asg hi iv;split at h'
   ·rename_i e M2 eb;exact⟨P0,H0,P,_,_,M1,_,_,k2,eb,fun P' Os2 H2 st2 l2 k3=>⟨P',Os2,_,e,lt.trans l2,k3,h'⟩⟩
   ·rename_i e M2 eb;exact⟨P0,H0,P,_,_,M1,_,_,k2,eb,fun P' Os2 H2 st2 l2 k3=>⟨P',Os2,_,e,lt.trans l2,k3,h'⟩⟩
   ·rename_i e M2 eb;cases h';exact⟨P0,H0,P,_,_,M1,_,_,k2,eb,fun P' Os2 H2 st2 l2 k3=>q P' Os2 H2 st2 (lt.trans l2) k3⟩
   ·rename_i e M2 eb;cases h';exact⟨P0,H0,P,_,_,M1,_,_,k2,eb,q⟩
   ·rename_i c n M2 eb;cases h';exact⟨P0,H0,P,_,_,M1,_,_,k2,eb,q⟩
   ·cases h'
  ·cases h'
 ·have ej:j=ds.length:=by omega
  subst ej;rw[xcP]at h';cases h';exact .inl ⟨w2 _ (xab _) (xab _),q P Os' H σ lt k'⟩
theorem rN {i:Nat}{x:Str}{p:Pos}{iter:Expr}{body:List Stmt}{fs:EA}{b:S}(hp:PassesOwn (model X.prog X.w) X.A X.env X.xe)(hc:X.calm=true)(hN:X.N.Nodup)(hi:X.N[i]? =some x)(hx:Loc X.env.scope x)(hI:SI X Wx (.Name x p) iter fs)(hb:SB X Wx body b)
  (hf:X.fn x=true\/X.env.scope.names.lookup x=some .local:=by first |exact .inl rfl |exact .inr rfl) (hs:∀x,foldedSetIterable iter X.env x=pure x:=by intro _;rfl):SS X Wx (.For (.Name x p) iter body [] pos) (dO i fs b):=by
 refine gb (K9 hp hc hI (K4 hN hi hx hf) hb hs) ?_;rintro D st H ⟨P0,H0,P,Os,env,M,out,M',k,e,q⟩;unfold dO at e;split at e
 ·rename_i ds M1 ef;exact⟨P0,H0,P,Os,env,M,_,_,k,ef,fun P1 H1 J l1 h1 wk=>R8 (k.next l1 h1) wk e (q.lt (l1.lt k.hk))⟩
 ·rename_i c n M1 ef;cases e;exact⟨P0,H0,P,Os,env,M,_,_,k,ef,q⟩
 ·cases e
noncomputable def bI (f:E):EA:=fun env M=>match f env M with
 |some (.v (.lst ds),M1)=>some (.v ds,M1)
 |some (.x c n,M1)=>some (.x c n,M1)
 |_=>none
theorem nW {tg e:Expr}{f:E}(h:SE X Wx .val e f):SI X Wx tg e (bI f):=by
 refine EY (K6 h) ?_;rintro st H R ⟨P0,H0,P,Os,env,M,r,M',k,e,q⟩;unfold bI at e;split at e
 ·rename_i ds M1 ef;cases e;refine⟨P0,H0,P,Os,env,M,_,_,k,ef,fun P1 v1 H1 l1 h1 i1=>?_⟩;obtain⟨a,vs,rfl,ra,is⟩:=i1;refine⟨a,rfl,⟨vs,ra.imp (·.2) id⟩,q P1 H1 _ l1 h1 fun P2 H2 l2=>?_⟩;have ra2:=l2.rda ra;have is2:=au.lt l2 is;have sq:bC X.K H2 a vs:=ra2.imp (·.2) id;refine⟨fun j hj=>?_,fun j h1 h2=>⟨vs,sq,by rw[is2.len];exact h1⟩,fun j x H' y hj=>⟨y.1,?_⟩⟩
  ·obtain⟨v,ev,_⟩:=au.get is2 (xaf hj);exact⟨vs,v,sq,ev⟩
  ·obtain⟨v,ev,iv⟩:=au.get is2 (xaf hj);have:=y.2 vs sq;rw[ev]at this;cases this;exact⟨_,xaf hj,iv⟩
 ·rename_i c n M1 ef;cases e;exact⟨P0,H0,P,Os,env,M,_,_,k,ef,q⟩
 ·cases e
end
abbrev G:=List D->Mm->O
noncomputable def lV (K:Fgx) (mg:Mgx) (n:Nat) (g:G):Sp:=fun vs H Q _=>vs.length=n/\∃P M ds d M',Hk K mg P H M/\au K P H ds vs/\g ds M=some (.v d,M')/\∀P' v H',LtE P H P' H'->Hk K mg P' H' M'->Is K P' H' d v->Q v H'
noncomputable def cQ (o:OS):O:=match o with
 |some (.rt d,M)=>some (.v d,M)
 |some (.nx _,M)=>some (.v .non,M)
 |some (.ex c n,M)=>some (.x c n,M)
 |_=>none
noncomputable def cL (n:Nat) (b:S):G:=fun ds M=>cQ (b (ds.map .val ++ List.replicate (n - ds.length) .un) M)
theorem zax {K:Fgx}{mg:Mgx}{P:Pl}{H:Hp}{M:Mm}{N:List Str}{ds:List D}{vs:List V}(hk:Hk K mg P H M)(hl:vs.length<=N.length)(h:au K P H ds vs):
  Ok K mg P H P (List.replicate N.length none) H M (L2.start N vs) (ds.map .val ++ List.replicate (N.length - ds.length) .un):=by
 have hd:=h.len;refine⟨hk,LtE.refl P H,hk.here,fun i s e=>?_,fun a z=>?_,fun i j a e1 _=>?_,by simp;omega,by simp[L2.start];omega⟩
 ·have e0:((List.replicate N.length (none:Option Addr))[i]?).join=none:=by
   rw[xa3]
   split<;>rfl
  rw[e0]
  by_cases hi:i<ds.length
  ·rw[xaA (by simpa using hi),xar,xaf hi]at e;simp only[xbs,xeq]at e;subst e;obtain⟨v,ev,p⟩:=h.get (xaf hi);refine⟨v,?_,p⟩;unfold L2.start;rw[xaA (by rw[xae];omega),xar,ev];rfl
  ·rw[xaw (by simpa using hi),xa3]at e;split at e
   ·cases e;exact True.intro
   ·cases e
 ·exact absurd (xdF z) (by simp)
 ·rw[xa3]at e1;split at e1<;>cases e1
structure FunD (K:Fgx)(x qual:Str)(st:Stmt)(f:Addr)(fd:FuncData):Prop where
 ex:∃(oc:Value) (od:Option Addr) (dV kV doc pm:Value) (an:Option Addr) (cdv ct:Value) (osl:Array (Option Value)),
  fd=PySem.W.fnOf x qual (cJ st) (bV st) (aR st) dV kV doc pm an cdv ct/\K.lookup f=some ⟨oc,od,.func fd,osl⟩/\PySem.W.codeIn K cdv qual=true
 kp:PySem.W.keepIn K (.ref f)=true
theorem JD {K:Fgx}{x qual:Str}{st:Stmt}{f:Addr}{oc:Value}{od an:Option Addr}{osl:Array (Option Value)}{dV kV doc pm cdv ct:Value}(l:K.lookup f=some ⟨oc,od,.func (PySem.W.fnOf x qual (cJ st) (bV st) (aR st) dV kV doc pm an cdv ct),osl⟩)
  (c:PySem.W.codeIn K cdv qual=true) (k:PySem.W.keepIn K (.ref f)=true):FunD K x qual st f (PySem.W.fnOf x qual (cJ st) (bV st) (aR st) dV kV doc pm an cdv ct):=⟨⟨oc,od,dV,kV,doc,pm,an,cdv,ct,osl,rfl,l,c⟩,k⟩
section
variable {P:Program}{w:World}{K:Fgx}{mg:Mgx}{base:Heap}{k:Nat}{x qual:Str}{st:Stmt}{f:Addr}{fd:FuncData}{N ps:List Str}{b:S}
def W0:XW:=fun _ _ _ _ _=>False
abbrev vM (P:Program)(w:World)(K:Fgx)(mg:Mgx)(base:Heap)(N:List Str)(qual:Str)(st:Stmt)(f:Addr)(cdv:Value)(A:Around)(outer:List PySem.Env)(s:Shared)(H:Hp)(E:XK):Cx:=(gC fH P w K mg base N qual (aR st) f cdv A outer s H E).nox
theorem Df (F:FunD K x qual st f fd)(S:FnScope N ps (aR st))(hp:ps.length<=N.length)
  (hb:∀cdv A outer s H E,Room k (A.deeper (envOfC qual (aR st) s.heap.objs.size f cdv))->SB (vM P w K mg base N qual st f cdv A outer s H E) W0 (bV st) b):FnOk P w K mg base fH (k + 1) f fd ps (lV K mg ps.length (cL N.length b)):=by
 obtain⟨oc,od,dV,kV,doc,pm,an,cdv,ct,osl,rfl,lk,hcd⟩:=F.ex;refine Qq lk hcd S (fun vs H Q E h=>h.1) fun A outer s H vs Q E hr h=>?_;obtain⟨hl,Pl,M,ds,d,M',hk,is,e,q⟩:=h;refine⟨_,fL.nox (hb cdv A outer s H E hr),?_⟩;unfold cL cQ at e;have st0:=zax (N:=N) hk (by omega) is;split at e
 ·rename_i d' M2 eb;cases e;exact⟨Pl,H,Pl,_,_,M,_,_,st0,eb,fun P' v H' l h i=>q P' v H' l h i⟩
 ·rename_i env M2 eb;cases e;exact⟨Pl,H,Pl,_,_,M,_,_,st0,eb,fun P' Os' H' st' _ k'=>q P' .non H' k'.base k'.hk rfl⟩
 ·rename_i c n M2 eb;cases e
 ·cases e
def bx (P:Program)(w:World)(K:Fgx)(mg:Mgx)(base:Heap)(k:Nat)(f:Str)(n:Nat)(g:G):Prop:=
 ∃fa fd ps ds dvs sp,mg f=some (.ref fa)/\PySem.W.keepIn K (.ref fa)=true/\FnOk P w K mg base fH k fa fd ps sp/\Binds K fd ps ds/\Vals dvs ds/\∀vs H Q E,lV K mg n g vs H Q E->sp (vs ++ dvs) H Q E
theorem Qp (F:FunD K x qual st f fd)(S:FnScope N ps (aR st))(hp:ps.length<=N.length)(hm:mg x=some (.ref f))(hd:Binds K fd ps [])
  (hb:∀cdv A outer s H E,Room k (A.deeper (envOfC qual (aR st) s.heap.objs.size f cdv))->SB (vM P w K mg base N qual st f cdv A outer s H E) W0 (bV st) b):bx P w K mg base (k + 1) x ps.length (cL N.length b):=
 ⟨f,fd,ps,[],[],_,hm,F.kp,Df F S hp hb,hd,.nil,fun vs H Q E h=>by rw[xaL];exact h⟩
theorem bx.mono {j:Nat}{n:Nat}{g:G}(a:bx P w K mg base j x n g)(h:j<=k):bx P w K mg base k x n g:=by
 obtain⟨fa,fd,ps,ds,dvs,sp,h1,h2,h3,h4⟩:=a;exact⟨fa,fd,ps,ds,dvs,sp,h1,h2,h3.mono h,h4⟩
end
section
variable {X:Cx}{Wx:XW}{m:Mode}
noncomputable def bZ (g:G) (fs:EA):E:=fun env M=>dh (fs env M) fun ds M1=>match g ds M1 with
 |some (.v d,M2)=>some (.v d,M2)
 |_=>none
theorem cD.len {K:Fgx}{P:Pl}{H:Hp}:∀{ds:List D} {vs:List V},cD K P H m ds vs->vs.length=ds.length
  | [],_,h=>by rw[show _=[] from h];rfl
  |d::ds,_,h=>by
    obtain⟨v,r,e,_,q⟩:=h;subst e
    simp[cD.len q]
def yJ (n:Nat)(fs:EA):Prop:=∀env M ds M',fs env M=some (.v ds,M')->ds.length=n
theorem cnt_nil:yJ 0 aA:=fun env M ds M' e=>by cases e;rfl
theorem cnt_cons {n:Nat}{f:E}{fs:EA}(h:yJ n fs):yJ (n + 1) (aD f fs):=fun env M ds M' e=>by
 unfold aD at e;split at e
 ·split at e
  ·rename_i ef;cases e;rw[xaF,h _ _ _ _ ef]
  ·cases e
  ·cases e
 ·cases e
 ·cases e
theorem cI {k n:Nat}{f:Str}{g:G}{e:Expr}{es:List Expr}{fs:EA}{p pos:Pos}(a:bx X.prog X.w X.K X.mg X.base k f n g)(hr:Room k X.A)(hg:Gl X f)(ha:SA X Wx .val (e::es) fs)(hn:yJ n fs)(hdb:(f==("__debug__":Str))=false:=by x_go)
  (he:starEach (e::es) X.env=(false,eval e X.env)::starEach es X.env:=by rfl) (hpl:(backTo pos (starEach es X.env)).any (·.1)=false:=by rfl):SE X Wx m (.Call (.Name f p) (e::es) [] pos) (bZ g fs):=by
 obtain⟨fa,fd,ps,ds,dvs,sp,hm,hk,F,hb,hv,himp⟩:=a;refine b_ (Vn F hr hg hm hk hb hv Vj ha hdb he hpl) ?_;rintro st H Q ⟨P0,H0,P,Os,env,M,r,M',k,e,q⟩;unfold bZ at e;rcases pK e with⟨ds,M1,e1,e⟩ |⟨c,n,e1,rfl⟩
 ·split at e
  ·rename_i d M2 eg;cases e;exact⟨P0,H0,P,Os,env,M,_,_,k,e1,fun P1 vs H1 l1 h1 i1=>himp _ _ _ _ ⟨by rw[i1.len];exact hn _ _ _ _ e1,P1,M1,ds,d,_,h1,i1.iss,eg,fun P2 v H2 l2 h2 i2=>q P2 v H2 (l1.trans l2) h2 (cF.of h2 i2)⟩⟩
  ·cases e
 ·exact⟨P0,H0,P,Os,env,M,_,_,k,e1,q⟩
end
def vf (i j:Int):Prop:=lY i j\/(i.natAbs.log2<10000/\j.natAbs.log2<10000)
theorem Ih {i:Int}(h:i.natAbs.log2<10000):Builtin.Int.intBits i<=10001:=by
 unfold Builtin.Int.intBits
 split<;>omega
theorem vf.ok {i j:Int}(h:vf i j):IntMulOk i j:=by
 rcases h with h |⟨h1,h2⟩
 ·exact h.ok
 ·exact mulOk_of_bits (Ih h1) (Ih h2) (by decide)
theorem kE {X:Cx}:bB X (binaryOp .Mult) (rI vf fun i j=>.int (i * j)):=xg fun _ _ _ _ _ _ _ hc q=>mul_int q hc.ok
section
variable {X:Cx}{pins:Pnx}{σ:L2.St}{H:Hp}{s:Shared}{K:Fgx}
noncomputable def Lg (K:Fgx):R2:=fun x y H Q=>∃l b xs zs,x=.ref l/\y=.ref b/\bC K H l xs/\bC K H b zs/\xs.length + zs.length<=sizeLine/\∀p,H p=none->Q (.ref p) (upd H p (.lst (xs ++ zs)))
theorem KN:bB X (binaryOp .Add) (Lg X.K):=by
 intro pins s σ H x y v u Q I rx ry h;obtain⟨l,b,xs,zs,rfl,rfl,hH,hB,hz,q⟩:=h;cases rx;cases ry;obtain⟨z,its,r,⟨cls,dd,data,sl⟩,ho,hc,n,hd⟩:=sql I hH;obtain⟨z2,its2,r2,⟨cls2,dd2,data2,sl2⟩,ho2,hc2,n2,hd2⟩:=sql I hB;simp only at hc hd hc2 hd2;subst hc hd hc2 hd2;have hl:=r.length;have hl2:=r2.length;refine concat_meets ⟨_,ho,rfl⟩ ⟨_,ho2,rfl⟩ noFill_list_add seq_list_add F.slot_list_add F.entry_list_add (F.args_list_add_2 _ _) (list_addW l b its.toArray its2.toArray n n2 dd dd2 sl sl2 (by rw[xah,xah];omega)) ⟨ho,ho2,?_⟩;have ea:its.toArray ++ its2.toArray=(its ++ its2).toArray:=by simp
 rw[ea];exact⟨.ref _,_,I.lnew (t':=s.toks) (r.append r2) (by rw[xaq];omega),rfl,q _ I.fresh⟩
theorem Ky {P:Pl}{H:Hp}{ds:List D}{vs:List V}{Q:VK}(hn:∀p,H p=none->¬ P.bd p)(h:au K P H ds vs)(q:∀u H',Same H H'->Is K P H' (.lst ds) u->Q u H'):∀p,H p=none->Q (.ref p) (upd H p (.lst vs)):=fun p hp=>by
 have s:=tX (o:=.lst vs) hp;exact q _ _ s ⟨p,vs,rfl,.inl ⟨hn p hp,.inl cN⟩,au.lt ⟨xab _,fun _ _=>rfl,fun _ z=>.inl z,fun a o e _=>s a o e,fun a z=>s.free z⟩ h⟩
theorem S6 {P:Pl}{H:Hp}{ds:List D}{vs:List V}{Q:VK}(h:au K P H ds vs)(q:∀u H',Same H H'->Is K P H' (.tup ds) u->Q u H'):∀p,H p=none->Q (.ref p) (upd H p (.tup vs)):=fun p hp=>by
 have s:=tX (o:=.tup vs) hp;exact q _ _ s ⟨p,vs,rfl,.inl (.inl cN),au.lt ⟨xab _,fun _ _=>rfl,fun _ z=>.inl z,fun a o e _=>s a o e,fun a z=>s.free z⟩ h⟩
noncomputable def aX:D->D->Option D
 |.int i,.int j=>some (.int (i + j))
 |.str i,.str j=>if i.length + j.length<=sizeLine then some (.str (i ++ j)) else none
 |.lst xs,.lst ys=>if xs.length + ys.length<=sizeLine then some (.lst (xs ++ ys)) else none
 |_,_=>none
noncomputable def rm (K:Fgx):R2:=fun x y H Q=>gh (fun i j=>.int (i + j)) x y H Q\/(∃i j,x=.str i/\y=.str j/\i.length + j.length<=sizeLine/\Q (.str (i ++ j)) H)\/Lg K x y H Q
theorem dD:bB X (binaryOp .Add) (rm X.K):=UL.or (UW.or KN)
theorem dF:fM K (rm K) aX:=fun P H d e z v w Q h h1 h2 hn q=>by
 unfold aX at h;split at h
 ·cases h;cases h1;cases h2;exact .inl ⟨_,_,rfl,rfl,q _ H (Same.refl H) rfl⟩
 ·split at h
  ·rename_i hl;cases h;cases h1;cases h2;exact .inr (.inl ⟨_,_,rfl,rfl,hl,q _ H (Same.refl H) rfl⟩)
  ·cases h
 ·split at h
  ·rename_i hl;cases h;obtain⟨a,vs,rfl,r1,s1⟩:=h1;obtain⟨b,ws,rfl,r2,s2⟩:=h2;exact .inr (.inr ⟨a,b,vs,ws,rfl,rfl,r1,r2,by rw[s1.len,s2.len];exact hl,Ky hn (s1.append s2) q⟩)
  ·cases h
 ·cases h
noncomputable def oI (g:Int->Int->Option D):D->D->Option D
 |.int i,.int j=>g i j
 |_,_=>none
theorem sX {g:Int->Int->Option D}{P:Pl}{H:Hp}{d e z:D}{v w:V}(h:oI g d e=some z)(h1:bH K P H d v)(h2:bH K P H e w):∃i j,v=.int i/\w=.int j/\g i j=some z:=by
 unfold oI at h;split at h
 ·cases h1;cases h2;exact⟨_,_,rfl,rfl,h⟩
 ·cases h
def bW:=oI fun i j=>some (.int (i - j))
theorem kO:fM K (gh fun i j=>.int (i - j)) bW:=fun P H d e z v w Q h h1 h2 _ q=>by
 obtain⟨i,j,rfl,rfl,h⟩:=sX h h1 h2;cases h;exact⟨i,j,rfl,rfl,q _ H (Same.refl H) rfl⟩
noncomputable def cH:=oI fun i j=>if i.natAbs<18446744073709551616\/j.natAbs<18446744073709551616\/(i.natAbs.log2<10000/\j.natAbs.log2<10000) then some (.int (i * j)) else none
theorem kJ:fM K (rI vf fun i j=>.int (i * j)) cH:=fun P H d e z v w Q h h1 h2 _ q=>by
 obtain⟨i,j,rfl,rfl,h⟩:=sX h h1 h2;split at h
 ·rename_i hg;cases h;exact⟨i,j,rfl,rfl,by unfold vf lY;rw[show(2:Int) ^ 64=18446744073709551616 from rfl];exact hg.elim (fun z=>.inl (.inl ⟨by omega,by omega⟩)) (fun z=>z.elim (fun z=>.inl (.inr ⟨by omega,by omega⟩)) .inr),q _ H (Same.refl H) rfl⟩
 ·cases h
noncomputable def fX:=oI fun i j=>if 0<j/\j.natAbs<1073741824 then some (.int (i / j)) else none
theorem gJ:fM K (rI vd fun i j=>.int (i / j)) fX:=fun P H d e z v w Q h h1 h2 _ q=>by
 obtain⟨i,j,rfl,rfl,h⟩:=sX h h1 h2;split at h
 ·rename_i hg;cases h;exact⟨i,j,rfl,rfl,⟨hg.1,by omega⟩,q _ H (Same.refl H) rfl⟩
 ·cases h
def oMod:=oI fun i j=>if 0<j then some (.int (i % j)) else none
theorem cC:fM K (rI (fun _ j=>0<j) fun i j=>.int (i % j)) oMod:=fun P H d e z v w Q h h1 h2 _ q=>by
 obtain⟨i,j,rfl,rfl,h⟩:=sX h h1 h2;split at h
 ·rename_i hg;cases h;exact⟨i,j,rfl,rfl,hg,q _ H (Same.refl H) rfl⟩
 ·cases h
noncomputable def eZ:=oI fun i j=>if 0<=j/\j.natAbs<=1000000/\i.natAbs<18446744073709551616 then some (.int (i ^ j.toNat)) else none
theorem tM:fM K (rI pB fun i j=>.int (i ^ j.toNat)) eZ:=fun P H d e z v w Q h h1 h2 _ q=>by
 obtain⟨i,j,rfl,rfl,h⟩:=sX h h1 h2;split at h
 ·rename_i hg;cases h;exact⟨i,j,rfl,rfl,by unfold pB;rw[show(2:Nat) ^ 64=18446744073709551616 from rfl];exact⟨hg.1,by omega,hg.2.2⟩,q _ H (Same.refl H) rfl⟩
 ·cases h
def aG (c:Cp)(a b:D):Option D:=(bO c a b).map .bl
theorem xH {c:Cp}:fM K (xJ K c) (aG c):=fun P H d e z v w Q h h1 h2 _ q=>by
 unfold aG at h;rw[xag]at h;obtain⟨b,h,rfl⟩:=h;exact yS h h1 h2 (q _ H (Same.refl H) rfl)
noncomputable def aZ:D->D->Option D
 |.lst ds,.int i=>bY ds i
 |.tup ds,.int i=>bY ds i
 |.str z,.int i=>if z.length<=sizeLine then(bY z.cps.toList i).map fun c=>.str ⟨#[c]⟩ else none
 |_,_=>none
noncomputable def Ft (K:Fgx):R2:=fun x y H Q=>rz K x y H Q\/rB K x y H Q\/rA x y H Q
theorem Rj:lB X (Ft X.K):=Rm.or (Ro.or Rn)
theorem HW {P:Pl}{H:Hp}{ds:List D}{vs:List V}{d:D}{i:Int}(h:bY ds i=some d)(q:au K P H ds vs):∃u,bY vs i=some u/\Is K P H d u:=by
 unfold bY at h ⊢;rw[q.len]
 cases e:pU ds.length i with
 |none=>rw[e]at h;cases h
 |some j=>rw[e]at h;exact q.get h
theorem Wi:fM K (Ft K) aZ:=fun P H d e z v w Q h h1 h2 _ q=>by
 unfold aZ at h;split at h
 ·obtain⟨a,vs,rfl,r,s⟩:=h1;cases h2;obtain⟨u,e,p⟩:=HW h s;exact .inl ⟨a,vs,_,u,rfl,rfl,r,e,q _ H (Same.refl H) p⟩
 ·obtain⟨a,vs,rfl,r,s⟩:=h1;cases h2;obtain⟨u,e,p⟩:=HW h s;exact .inr (.inl ⟨a,vs,_,u,rfl,rfl,r,e,q _ H (Same.refl H) p⟩)
 ·split at h
  ·rename_i hl;rw[xag]at h;obtain⟨c,h,e⟩:=h;cases e;cases h1;cases h2;exact .inr (.inr ⟨_,_,c,rfl,rfl,hl,h,q _ H (Same.refl H) rfl⟩)
  ·cases h
 ·cases h
noncomputable def c7:List D->Option D
 | [.lst ds]=>some (.int ds.length)
 | [.tup ds]=>some (.int ds.length)
 | [.str z]=>if z.length<=sizeLine then some (.int z.length) else none
 |_=>none
def xM (K:Fgx):List V->Hp->VK->Prop:=fun xs H Q=>(∃p ys,xs=[.ref p]/\(bC K H p ys\/dM K H p ys)/\Q (.int ys.length) H)\/∃z,xs=[.str z]/\z.length<=sizeLine/\Q (.int z.length) H
theorem sE:cZ X (.builtin "len") (xM X.K):=O1.or O2
theorem tL:gW K (xM K) c7:=fun P H ds z vs Q h i _ q=>by
 unfold c7 at h;split at h
 ·obtain⟨v,ws,rfl,p,rfl⟩:=i;cases h;obtain⟨a,us,rfl,r,s⟩:=p;exact .inl ⟨a,us,rfl,.inl r,q _ H (Same.refl H) (by rw[s.len];rfl)⟩
 ·obtain⟨v,ws,rfl,p,rfl⟩:=i;cases h;obtain⟨a,us,rfl,r,s⟩:=p;exact .inl ⟨a,us,rfl,.inr r,q _ H (Same.refl H) (by rw[s.len];rfl)⟩
 ·split at h
  ·rename_i hl;obtain⟨v,ws,rfl,p,rfl⟩:=i;cases h;cases p;exact .inr ⟨_,rfl,hl,q _ H (Same.refl H) rfl⟩
  ·cases h
 ·cases h
noncomputable def gw:List D->Option D
 | [.int i,.int j]=>some (.int (if j<i then j else i))
 |_=>none
noncomputable def g_:List D->Option D
 | [.int i,.int j]=>some (.int (if j > i then j else i))
 |_=>none
theorem Fb:gW K (fun xs H Q=>∃i j,xs=[.int i,.int j]/\Q (.int (if j<i then j else i)) H) gw:=fun P H ds z vs Q h i _ q=>by
 unfold gw at h;split at h
 ·obtain⟨v,ws,rfl,p,v',ws',rfl,p',rfl⟩:=i;cases h;cases p;cases p';exact⟨_,_,rfl,q _ H (Same.refl H) rfl⟩
 ·cases h
theorem Le:gW K (fun xs H Q=>∃i j,xs=[.int i,.int j]/\Q (.int (if j > i then j else i)) H) g_:=fun P H ds z vs Q h i _ q=>by
 unfold g_ at h;split at h
 ·obtain⟨v,ws,rfl,p,v',ws',rfl,p',rfl⟩:=i;cases h;cases p;cases p';exact⟨_,_,rfl,q _ H (Same.refl H) rfl⟩
 ·cases h
end
section
variable {X:Cx}{Wx:XW}{m:Mode}
noncomputable def yG:D->String
 |.non=>"NoneType"
 |.bl _=>"bool"
 |.int _=>"int"
 |.str _=>"str"
 |.tup _=>"tuple"
 |.lst _=>"list"
 |.ref _=>""
theorem Oz:cZ X (.builtin "isinstance") (fun xs H Q=>∃(x:V) (T:String) (d:D) (P:Pl) (b:Bool),xs=[x,.ty T]/\bH X.K P H d x/\yG d≠""/\PySem.W.kitOne X.K (.type (yG d)) (.type T)=some b/\Q (.bl b) H):=by
  intro pins s σ H xs us Q I r h;obtain⟨x,T,d,A,b,rfl,i,ne,e,q⟩:=h;obtain⟨u,w',rfl,rx,rT⟩:=vals2 r;cases rT;have fin:∀tk,EP X pins σ Q (.bool b) {s with toks:=tk}:=fun tk=>⟨.bl b,H,I.tok _,rfl,q⟩
  cases d with
  |non=>have hv:x=.non:=i;subst hv;exact zx I rx (TyOf.non) e fin
  |bl y=>have hv:x=.bl y:=i;subst hv;exact zx I rx (TyOf.bl y) e fin
  |int y=>have hv:x=.int y:=i;subst hv;exact zx I rx (TyOf.int y) e fin
  |str y=>have hv:x=.str y:=i;subst hv;exact zx I rx (TyOf.str y) e fin
  |ref n=>exact absurd rfl ne
  |tup ds=>
    obtain⟨a,vs,rfl,t,_⟩:=i;cases rx;obtain⟨its,_,p,_⟩:=I.tuple t;obtain⟨o,h1,h2,_⟩:=p;exact xaQ xej I.kIn ⟨o,h1,h2⟩ e (fun z=>nomatch z) fin
  |lst ds=>
    obtain⟨a,vs,rfl,t,_⟩:=i;cases rx;obtain⟨_,its,_,o,h1,h2,_⟩:=sql I t;exact xaQ xdo I.kIn ⟨o,h1,h2⟩ e (fun z=>nomatch z) fin
theorem zaw {K:Fgx}{P:Pl}{H:Hp}{lo:Int}{n:Nat}:Wk K P H (yK lo n) ((List.range n).map fun(k:Nat)=>.int (lo + k)):=fun P' H' l=>by
 rw[xae,xbx];refine⟨fun k hk=>hk,fun k h1 _=>h1,fun k x H2 y hk=>⟨y.1,.int (lo + k),?_,y.2⟩⟩;rw[xar,xb8 hk];rfl
noncomputable def nM (fs:EA):EA:=fun env M=>match fs env M with
 |some (.v [.int j],M1)=>if -1000000000<=j/\j<=1000000000 then some (.v ((List.range j.toNat).map fun(k:Nat)=>.int (0 + k)),M1) else none
 |some (.x c n,M1)=>some (.x c n,M1)
 |_=>none
theorem Gn {tg a:Expr}{fs:EA}{p pos:Pos}(hg:Gl X "range")(hm:X.mg "range"=none)(ha:SA X Wx .val [a] fs)(hs:starEach [a] X.env=[(false,eval a X.env)]:=by rfl):SI X Wx tg (.Call (.Name "range" p) [a] [] pos) (nM fs):=by
 refine EY (VJ hg hm ha hs) ?_;rintro st H R ⟨P0,H0,P,Os,env,M,r,M',k,e,q⟩;unfold nM at e;split at e
 ·rename_i j M1 ef;split at e
  ·rename_i hj;cases e;refine⟨P0,H0,P,Os,env,M,_,_,k,ef,fun P1 vs H1 l1 h1 i1=>?_⟩;obtain⟨v,ws,rfl,p,rfl⟩:=i1;exact⟨j,by rw[show v=.int j from p],by omega,by omega,q P1 H1 _ l1 h1 zaw⟩
  ·cases e
 ·rename_i c n M1 ef;cases e;exact⟨P0,H0,P,Os,env,M,_,_,k,ef,q⟩
 ·cases e
def q_:Env->Mm->Option (Option Int×Mm):=fun _ M=>some (none,M)
noncomputable def nQ (f:E):Env->Mm->Option (Option Int×Mm):=fun env M=>match f env M with
 |some (.v (.int i),M1)=>some (some i,M1)
 |_=>none
noncomputable def tP (K:Fgx) (mg:Mgx) (f:Env->Mm->Option (Option Int×Mm)):TO:=fun st H Q=>∃P0 H0 P Os env M i M',Ok K mg P0 H0 P Os H M st env/\f env M=some (i,M')/\∀P' H',LtE P H P' H'->Hk K mg P' H' M'->Q i H'
def sy (X:Cx)(e:Option Expr)(f:Env->Mm->Option (Option Int×Mm)):Prop:=PO X e (tP X.K X.mg f)
theorem K7 {e:Option Expr}{t t':TO}(h:PO X e t)(w:∀σ H Q,t' σ H Q->t σ H Q):PO X e t':=fun pins s σ H Q I hw=>h pins s σ H Q I (w σ H Q hw)
theorem yh:sy X none q_:=by
 refine K7 V1 ?_;rintro st H Q ⟨P0,H0,P,Os,env,M,i,M',k,e,q⟩;cases e;exact q P H (LtE.refl P H) k.hk
theorem yg {e:Expr}{f:E}(h:SE X Wx .val e f):sy X (some e) (nQ f):=by
 refine K7 (V2 h) ?_;rintro st H Q ⟨P0,H0,P,Os,env,M,i,M',k,e,q⟩;unfold nQ at e;split at e
 ·rename_i j M1 ef;cases e;exact⟨P0,H0,P,Os,env,M,_,_,k,ef,fun P1 v H1 l1 h1 i1=>⟨j,i1,q P1 H1 l1 h1⟩⟩
 ·cases e
noncomputable def d7 {α:Type} (xs:List α) (lo hi:Option Int):List α:=(xs.drop (HT.aW xs.length 0 lo)).take (HT.aW xs.length xs.length hi - HT.aW xs.length 0 lo)
theorem Jb {K:Fgx}{P:Pl}{H:Hp}{ds:List D}{vs:List V}{lo hi:Option Int}(q:au K P H ds vs):au K P H (d7 ds lo hi) (eY vs lo hi):=by
 unfold d7 eY;rw[q.len];exact(q.drop _).take _
noncomputable def tZ (d:D) (lo hi:Option Int):Option D:=match d with
 |.lst ds=>some (.lst (d7 ds lo hi))
 |.str z=>if z.length<=sizeLine then some (.str (Txt.slice z lo hi)) else none
 |_=>none
noncomputable def rF (f:E) (l h:Env->Mm->Option (Option Int×Mm)):E:=fun env M=>bnd (f env M) fun d M1=>match l env M1 with
  | some (lo, M2) => (match h env M2 with
    |some (hi,M3)=>(tZ (vw M3 d) lo hi).map fun z=>(.v z,M3)
    |none=>none)
  |none=>none
theorem Av {e:Expr}{lo hi:Option Expr}{p2 pos:Pos}{f:E}{l h:Env->Mm->Option (Option Int×Mm)}(he:SE X Wx .bor e f)(hl:sy X lo l)(hh:sy X hi h):SE X Wx m (.Subscript e (.Slice lo hi none p2) pos) (rF f l h):=by
 refine b_ (K1 (ZF.or ZG) he hl hh) ?_;rintro st H Q ⟨P0,H0,P,Os,env,M,r,M',k,e,q⟩;unfold rF at e;rcases bU e with⟨d,M1,e1,e⟩ |⟨c,n,e1,rfl⟩
 ·split at e
  ·rename_i lo' M2 el;split at e
   ·rename_i hi' M3 eh;rw[xag]at e;obtain⟨z,ez,e⟩:=e;cases e;refine aY k e1 fun P1 v1 H1 l1 h1 i1=>⟨P0,H0,P1,Os,env,M1,_,_,k.next l1 h1,el,fun P2 H2 l2 h2=>⟨P0,H0,P2,Os,env,M2,_,_,(k.next l1 h1).next l2 h2,eh,fun P3 H3 l3 h3=>?_⟩⟩
    have i3:=bQ.vw h3 (bQ.lt l3 h2 (bQ.lt l2 h1 i1));have fin:∀u H',Same H3 H'->Is X.K P3 H' z u->Q u H':=fun u H' s i=>q P3 u H' (l1.trans (l2.trans (l3.trans (LtE.same s)))) (h3.same s) (cF.of (h3.same s) i);generalize vw M' d=d' at i3 ez;unfold tZ at ez;split at ez
    ·cases ez;obtain⟨a,vs,rfl,r,s⟩:=i3;exact .inl ⟨a,vs,rfl,r,Ky h3.new (Jb s) fin⟩
    ·split at ez
     ·rename_i hz;cases ez;cases i3;exact .inr ⟨_,rfl,hz,fin _ _ (Same.refl _) rfl⟩
     ·cases ez
    ·cases ez
   ·cases e
  ·cases e
 ·exact aY k e1 q
noncomputable def xR (f:E):E:=fun env M=>bnd (f env M) fun d M1=>match d with
 |.lst ds=>some (.v (.ref M1.length),M1 ++ [.lst ds])
 |_=>none
theorem Zn {e:Expr}{f:E}(h:SN X Wx e f):SE X Wx m e (xR f):=by
  refine b_ h ?_;rintro st H Q ⟨P0,H0,P,Os,env,M,r,M',k,e,q⟩;unfold xR at e;rcases bU e with⟨d,M1,e1,e⟩ |⟨c,n,e1,rfl⟩
  · cases d<;>simp only[reduceCtorEq]at e
    rename_i ds;cases e;refine⟨P0,H0,P,Os,env,M,_,_,k,e1,ds,rfl,fun P1 a vs H1 l1 h1 ha ba nc ea is=>?_⟩;have hn:P1.n=M1.length:=h1.n
    let P2:Pl:={io:=fun j=>if j=P1.n then a else P1.io j,n:=P1.n + 1,bd:=P1.bd}
    have io : ∀ j, j < P1.n -> P2.io j = P1.io j := fun j hj => xad (by omega);have ioN : P2.io P1.n = a := xaa rfl;have l2 : Lt P1 H1 P2 H1 := ⟨xch _, io, fun _ z => .inl z, fun _ _ e _ => e, fun _ z => z⟩;have le : LtE P H P2 H1 := ⟨xcG l1.n,fun j hj=>(io j (xal hj l1.n)).trans (l1.io j hj),l1.bd,l1.bm,l1.keep,l1.sure,fun j h2 h3=>by
      rcases xaO j P1.n with z |z
      · rw[io j z];exact l1.nw j h2 z
      · have:j=P1.n:=xbj (xbe h3) z;rw[this,ioN];exact ha⟩
    have hk2:Hk X.K X.mg P2 H1 (M1 ++ [.lst ds]):=by
      refine⟨by rw[xaq, <-hn];rfl,fun j c ej=>?_,fun i j hi hj e=>?_,fun j hj=>?_,h1.here⟩
      · rcases xaO j P1.n with z |z
        · rw[xaA (by rw[<-hn];exact z)]at ej;rw[io j z];exact(h1.cell j c ej).lt l2 fun _ z=>z
        · have jl:=(xat.mp ej).1;rw[xaq,xbh, <-hn]at jl;have:j=P1.n:=by omega
          subst this;rw[xaw (by rw[hn];exact xab _),hn,xcv]at ej;cases ej;rw[ioN];exact⟨vs,ea,au.lt l2 is⟩
      · rcases xaO i P1.n with z |z
        · rcases xaO j P1.n with y |y
          · rw[io i z,io j y]at e;exact h1.inj i j z y e
          · have:j=P1.n:=xbj (xbe hj) y;rw[io i z,this,ioN]at e;exact absurd e (nc i z)
        · have iN:i=P1.n:=xbj (xbe hi) z;rcases xaO j P1.n with y |y
          · rw[iN,ioN,io j y]at e;exact absurd e.symm (nc j y)
          · rw[iN];exact xbj y (xbe hj)
      · rcases xaO j P1.n with z |z
        · rw[io j z];exact h1.bd j z
        · have:j=P1.n:=xbj (xbe hj) z;rw[this,ioN];exact ba
    exact q P2 _ H1 le hk2 (cF.of hk2 (show Is _ _ _ (.ref _) _ from⟨by show _<P1.n + 1;rw[hn];exact xb5 _,by rw[<-hn,ioN]⟩))
  · exact⟨P0,H0,P,Os,env,M,_,_,k,e1,q⟩
noncomputable def tO (f g:E):S:=fun env M=>cO (f env M) fun d M1=>match d with
  | .ref j => (match M1[j]? with
    | some (.lst _) => cO (g env M1) fun y M2 => (match M2[j]? with
      |some (.lst ds)=>if ds.length<sizeLine then some (.nx env,M2.set j (.lst (ds ++ [y]))) else none
      |_=>none)
    |_=>none)
  |_=>none
theorem Z_ {o e:Expr}{f g:E}{p q pos:Pos}(ho:SE X Wx .val o f)(he:SE X Wx .val e g)(hbase:attributeBase o "append" X.env (eval o X.env)=eval o X.env:=by rfl)
  (hfew:((backTo q (starEach [e] X.env)).all (fun x=> !x.1) && (backToKw q (keywordEach [] X.env)).all (fun x=>x.1.isSome) && decide ([e].length + ([]:List Keyword).length + (if ([]:List Keyword).isEmpty then 0 else 1)<30))=true:=by rfl)
  (hline:(p.endLine==q.line)=true:=by rfl) (hs:starEach [e] X.env=(false,eval e X.env)::starEach [] X.env:=by rfl) (hw:swapsWith (.Call (.Attribute o "append" p) [e] [] q) none pos.line X.env=pure false:=by rfl):
  SS X Wx (.Expr (.Call (.Attribute o "append" p) [e] [] q) pos) (tO f g):=by
 refine gb (K8 (zV xdL xdD xdE DY ho (lN he nR hs) hbase hfew hline hs rfl) hw) ?_;rintro D st H ⟨P0,H0,P,Os,env,M,out,M',k,e,q⟩;unfold tO at e;rcases iB e with⟨d,M1,e1,e⟩ |⟨c,n,e1,rfl⟩
 ·cases d<;>simp only[reduceCtorEq]at e
  rename_i j;split at e
  rotate_left
  ·cases e
  rename_i ds0 em0;refine⟨P0,H0,P,Os,env,M,_,_,k,e1,fun P1 v1 H1 l1 h1 i1=>?_⟩;have k1:=k.next l1 h1
  obtain⟨jl,rfl⟩:j<P1.n/\v1=.ref (P1.io j):=i1;obtain⟨vs0,ev0,_⟩:=h1.cell j _ em0;refine⟨.inl ⟨rfl,vs0,.inl (.inl ev0)⟩,?_⟩;rcases iB e with⟨y,M2,e2,e⟩ |⟨c,n,e2,rfl⟩
  ·split at e
   ·rename_i ds em;split at e
    ·rename_i hz;cases e;refine aY k1 e2 fun P2 v2 H2 l2 h2 i2=>?_;obtain⟨vs,ev,is⟩:=h2.cell j _ em;rw[l2.io j jl]at ev;have i3:=Is.lt (Lt.refl P2 H2) i2;refine⟨P1.io j,vs,v2,rfl,rfl,ev,by rw[is.len];exact hz,?_⟩;have eio:P2.io j=P1.io j:=l2.io j jl;have jl2:j<P2.n:=xal jl l2.n;obtain⟨o0,eo0,nf0⟩:=h2.cellAt em;have lc:Lt P2 H2 P2 (upd H2 (P2.io j) (.lst (vs ++ [v2]))):=pZ (h2.bd j jl2) eo0 nf0;obtain⟨l3,l3e,h3⟩:=h2.set (c':=.lst (ds ++ [y])) (o':=.lst (vs ++ [v2])) em ⟨vs ++ [v2],cN,au.append (au.lt lc is) (au.one (Is.lt lc i2))⟩;rw[eio]at l3 l3e h3;exact q _ _ _ _ ((l1.lt k.hk).trans ((l2.lt h1).trans l3)) ((k1.next l2 h2).next l3e h3)
    ·cases e
   ·cases e
  ·exact aY k1 e2 q
 ·exact⟨P0,H0,P,Os,env,M,_,_,k,e1,q⟩
end
section
variable {X:Cx}{Wx:XW}{m:Mode}{pos:Pos}
noncomputable def mQ:D->Option D
 |.int i=>some (.int (-i))
 |_=>none
theorem Wm {K:Fgx}:Bu K (rU fun i=>.int (-i)) mQ:=fun P H d z v Q h i _ q=>by
 unfold mQ at h;split at h
 ·cases h;cases i;exact⟨_,rfl,q _ H (Same.refl H) rfl⟩
 ·cases h
theorem Zz {a:Expr}{op:UnaryOp}{f:E}{o:D->Option D}{r:V->Hp->VK->Prop}(ho:yN X (unaryOp op) r)(po:Bu X.K r o)(ha:SE X Wx .bor a f):SE X Wx m (.UnaryOp op a pos) (s1 o f):=
 b_ (VB ho ha) fun _ _ _ h=>zbH po h
noncomputable def dH (c c':Cp) (f g h:E):E:=fun env M=>bnd (f env M) fun x M1=>bnd (g env M1) fun y M2=>match bO c (vw M2 x) (vw M2 y) with
 |some true=>bnd (h env M2) fun z M3=>(bO c' (vw M3 y) (vw M3 z)).map fun b=>(.v (.bl b),M3)
 |some false=>some (.v (.bl false),M2)
 |none=>none
theorem Pb {c c':Cp}{f g h:E}{st:L2.St}{H:Hp}{Q:VK}(w:tE X.K X.mg Wx m (dH c c' f g h) st H Q):M8 (xJ X.K c) (xJ X.K c') (tE X.K X.mg Wx .bor f) (tE X.K X.mg Wx .bor g) (tE X.K X.mg Wx .bor h) st H Q:=by
  obtain⟨P0,H0,P,Os,env,M,rr,M',k,e,q⟩:=w;unfold dH at e;rcases bU e with⟨x,M1,e1,e⟩ |⟨c,n,e1,rfl⟩
  · refine aY k e1 fun P1 v1 H1 l1 h1 i1=>?_;have k1:=k.next l1 h1
    rcases bU e with⟨y,M2,e2,e⟩ |⟨c,n,e2,rfl⟩
    · refine aY k1 e2 fun P2 v2 H2 l2 h2 i2=>?_;have k2:=k1.next l2 h2
      have w1:=bQ.vw h2 (bQ.lt l2 h1 i1);have w2:=bQ.vw h2 i2;split at e
      · rename_i ec;refine yS ec w1 w2 ⟨true,rfl,?_⟩;rw[xaa rfl];rcases bU e with⟨z,M3,e3,e⟩ |⟨c,n,e3,rfl⟩
        · refine aY k2 e3 fun P3 v3 H3 l3 h3 i3=>?_;rw[xag]at e;obtain⟨b,eb,e⟩:=e;cases e;exact yS eb (bQ.vw h3 (bQ.lt l3 h2 i2)) (bQ.vw h3 i3) (q P3 _ H3 (l1.trans (l2.trans l3)) h3 (cF.of h3 (show Is _ _ _ (.bl b) _ from rfl)))
        · exact aY k2 e3 q
      · rename_i ec;cases e;refine yS ec w1 w2 ⟨false,rfl,?_⟩;rw[xad (by decide)];exact q P2 _ H2 (l1.trans l2) h2 (cF.of h2 (show Is _ _ _ (.bl false) _ from rfl))
      · cases e
    · exact aY k1 e2 q
  · exact aY k e1 q
theorem M6 {a b c:Expr}{c1 c2:Cp}{f g h:E}(hu:X.A.units + 60<cLine)(ha:SE X Wx .bor a f)(hb:SE X Wx .bor b g)(hc:SE X Wx .bor c h)(hm:lastMarks [pO c1,pO c2] [b,c]=false:=by with_unfolding_all rfl):ST X Wx (.Compare a [pO c1,pO c2] [b,c] pos) (dH c1 c2 f g h):=
 zW (Wb (pP hu c1) (pP hu c2) ha hb hc hm) fun _ _ _ w=>Pb (Nj w)
noncomputable def tQ (f:E):E:=fun env M=>bnd (f env M) fun d M1=>match vw M1 d with
 |.lst ds=>some (.v (.lst ds),M1)
 |.tup ds=>some (.v (.lst ds),M1)
 |_=>none
theorem ZS {e:Expr}{f:E}{p:Pos}(hg:Gl X "list")(hm:X.mg "list"=none)(he:SE X Wx .bor e f)(hs:starEach [e] X.env=(false,eval e X.env)::starEach [] X.env:=by rfl):SN X Wx (.Call (.Name "list" p) [e] [] pos) (tQ f):=by
 refine b_ (KY O3 hg hm boot_list (lN he nR hs) (by x_go) (by x_go) hs rfl) ?_;rintro st H Q ⟨P0,H0,P,Os,env,M,r,M',k,e,q⟩;unfold tQ at e;rcases bU e with⟨d,M1,e1,e⟩ |⟨c,n,e1,rfl⟩
 ·refine aY k e1 ?_;have key:∀ds,r=.v (.lst ds)->M'=M1->(∀P1 v1 H1,bH X.K P1 H1 (vw M1 d) v1->∃a vs,v1=.ref a/\(bC X.K H1 a vs\/dM X.K H1 a vs)/\au X.K P1 H1 ds vs)->∀P1 v1 H1,LtE P H P1 H1->Hk X.K X.mg P1 H1 M1->cF X.K P1 H1 .bor d v1->
    ∃p ys,[v1]=[V.ref p]/\(bC X.K H1 p ys\/dM X.K H1 p ys)/\∀l,H1 l=none->Q (.ref l) (upd H1 l (.lst ys)):=by
   rintro ds rfl rfl hv P1 v1 H1 l1 h1 i1;obtain⟨ds',e',q⟩:=q;cases e';obtain⟨a,vs,rfl,sq,is⟩:=hv P1 v1 H1 (bQ.vw h1 i1);refine⟨a,vs,rfl,sq,fun p hp=>?_⟩;obtain⟨l2,h2,nc⟩:=pI (vs:=vs) h1 hp;exact q (P1.bar p) p vs _ (l1.trans l2) h2 (l1.sure p hp) (.inr rfl) nc cN (au.lt (l2.lt h1) is)
  split at e
  ·rename_i ds ev;cases e;exact key ds rfl rfl fun P1 v1 H1 i=>by
    rw[ev]at i;obtain⟨a,vs,e,s,is⟩:=i;exact⟨a,vs,e,.inl s,is⟩
  ·rename_i ds ev;cases e;exact key ds rfl rfl fun P1 v1 H1 i=>by
    rw[ev]at i;obtain⟨a,vs,e,s,is⟩:=i;exact⟨a,vs,e,.inr s,is⟩
  ·cases e
 ·exact aY k e1 q
theorem R5 {f:E}:∀env M r M',tQ f env M=some (.v r,M')->∃ds,r=.lst ds:=fun env M r M' e=>by
 unfold tQ at e;rcases bU e with⟨ds,M1,e1,e⟩ |⟨c,n,e1,e⟩
 ·split at e
  ·cases e;exact⟨_,rfl⟩
  ·cases e;exact⟨_,rfl⟩
  ·cases e
 ·cases e
end
noncomputable def yd (K:Fgx) (g:G):Sp:=fun vs H Q E=>∀mg,lV K mg 1 g vs H Q E
theorem Qt {P:Program}{w:World}{K:Fgx}{mg:Mgx}{base:Heap}{k:Nat}{f:Addr}{fd:FuncData}{ps:List Str}{g:G}(F:FnOk P w K mg base fH k f fd ps (lV K mg 1 g)):FnOk P w K mg base fH k f fd ps (yd K g):=
 ⟨fun vs H Q E h=>F.len vs H Q E (h mg),fun A outer s H args us vs Q E hr he hb hv hs=>F.run A outer s H args us vs Q E hr he hb hv (hs mg)⟩
theorem JV {K:Fgx}{P:Pl}{H:Hp}:∀ns:List Int,au K P H (ns.map D.int) (ns.map V.int)
 | []=>rfl
 |n::ns=>⟨.int n,_,rfl,rfl,JV ns⟩
theorem RP {K:Fgx}{g:G}{H:Hp}{a:Addr}{ns:List Int}(hg:∃M,g [.lst (ns.map D.int)] []=some (.v (.bl true),M))(hS:bC K H a (ns.map V.int)):yd K g [.ref a] H (fun v _=>v=.bl true) fun _ _ _=>False:=by
 intro mg;obtain⟨M,e⟩:=hg;refine⟨rfl,⟨fun _=>0,0,fun _=>False⟩,[],[.lst (ns.map D.int)],.bl true,M,⟨rfl,fun k c e=>(by cases e),fun j k h=>absurd h (xcf _),fun k h=>absurd h (xcf _),fun a z=>z.elim⟩,⟨.ref a,[],rfl,⟨a,ns.map V.int,rfl,?_,JV ns⟩,rfl⟩,e,fun P' v H' _ _ i=>i⟩;rcases hS with h |h
 ·exact .inl ⟨fun z=>z,h⟩
 ·exact .inr h
theorem zaJ {l:PySem.W.OpenLaw}{k:Nat}{q:Program}{loose:List Str}{XP:(Mgx)->Heap->Prop}{YP:World->Heap->Prop}{d:DefRec}{K:Params->Fgx}{x:Str}{g:G}
  (hn:l.most=some 63) (hdf:d.params.defaults=[]) (hr:Room k callerA) (hY:∀(w:World) (h:Heap),YP w h->(K w.params).In h)
  (F:∀(w:World) (mg:Mgx) (fa:Addr) (h:Heap),(K w.params).In h->h.Ns mainGlobals mg->mg d.name=some (.ref fa)->
   ∃fd:FuncData,(∀(s:Shared) (u:Value),BindsTo s fd ⟨[u],[]⟩ [(x,u)])/\
    ∀base:Heap,(K w.params).In base->base.Ns mainGlobals mg->FnOk l.prog w (K w.params) mg base fH k fa fd [x] (yd (K w.params) g))
  (hg:∀ns:List Int,ns.length<=63->∃M,g [.lst (ns.map D.int)] []=some (.v (.bl true),M)):PySem.W.WalkO q loose XP YP l.row.toRowW d [] (fun f vs=>PySem.call f vs):=
 L2.zaA (sp:=fun K=>yd K g) hn (by decide) hdf hr hY F (fun K H a ns hl _ hS=>RP (hg ns hl) hS) fun _ _ _ _ z=>z
section
variable {X:Cx}{Wx:XW}{m:Mode}{e:Expr}
theorem Gj {i:Int}(h:PE X e (tC (.int i))):SE X Wx m e (ao (.int i)):=(Gi (d:=.int i) h fun _ _=>rfl).bor
theorem Gk {z:Str}(h:PE X e (tC (.str z))):SE X Wx m e (ao (.str z)):=(Gi (d:=.str z) h fun _ _=>rfl).bor
theorem Gh {b:Bool}(h:PE X e (tC (.bl b))):SE X Wx m e (ao (.bl b)):=(Gi (d:=.bl b) h fun _ _=>rfl).bor
theorem Gm {i:Nat}{x:Str}{pos:Pos}(hN:X.N[i]? =some x)(hv:X.env.scope.names.lookup x=some .local)(hd:(x==("__debug__":Str))=false:=by x_go)(hcd:(x==("__classdict__":Str))=false:=by x_go):SE X Wx m (.Name x pos) (aj i):=(Mt hN (.inl hv) hd hcd).bor
theorem Mu {i:Nat}{x:Str}{pos:Pos}(hN:X.N[i]? =some x)(hv:X.env.scope.names.lookup x=some .local)(hd:(x==("__debug__":Str))=false:=by x_go)(hcd:(x==("__classdict__":Str))=false:=by x_go):SE X Wx .bor (.Name x pos) (tU i):=ZC hN (.inl hv) hd hcd
theorem SN.sem {f:E}(h:SN X Wx e f)(hf:∀env M r M',f env M=some (.v r,M')->∃ds,r=.lst ds):SE X Wx m e f:=(SN.se h hf).bor
end
structure ClsOk (K:Fgx)(mg:Mgx)(c:Str)(C:Addr):Prop where
 mg:mg c=some (.ref C)
 cl:Cls K C
section
variable {X:Cx}{Wx:XW}{m:Mode}{pos:Pos}
def pA (P:Program)(w:World)(K:Fgx)(mg:Mgx)(base:Heap)(k:Nat)(C:Addr)(m:Str)(n:Nat)(g:G):Prop:=
 ∃f fd ps,Meth K C m f/\FnOk P w K mg base fH k f fd ps (lV K mg n g)/\Binds K fd ps []
theorem pA.mono {P:Program}{w:World}{K:Fgx}{mg:Mgx}{base:Heap}{j k:Nat}{C:Addr}{m:Str}{n:Nat}{g:G}(a:pA P w K mg base j C m n g)(h:j<=k):pA P w K mg base k C m n g:=by
 obtain⟨f,fd,ps,h1,h2,h3⟩:=a;exact⟨f,fd,ps,h1,h2.mono h,h3⟩
end
section
variable {X:Cx}{Wx:XW}{m:Mode}{pos:Pos}
def o_ (P:Program)(w:World)(K:Fgx)(mg:Mgx)(base:Heap)(k:Nat)(C:Addr)(n:Nat)(g:G):Prop:=
 ∃f fd ps,Mk K C f/\FnOk P w K mg base fH k f fd ps (lV K mg n g)/\Binds K fd ps []
end
end E3
namespace E3
open PySem PySem.Spec PyProof.Rows L2 PySem.W
noncomputable def bG {α:Type} (lt:Nat->Nat->Option Bool):KasT α->Option α
  |.ret a=>some a
  |.ask i j k=>match lt i j with
    |some b=>bG lt (k b)
    |none=>none
def fO (a:Addr)(h h':Heap):Prop:=∀b o,b≠a->h.get? b=some o->h'.get? b=some o
def Grows (h h':Heap):Prop:=∀b o,h.get? b=some o->h'.get? b=some o
noncomputable def fW (h:Heap) (a:Addr) (vs:List Value):Heap:=((h.update a (Obj.mapSeq fun _=> #[])).push (seqObj "tuple" vs.toArray 0)).push (seqObj "list" #[] 0)
noncomputable def dZ (h:Heap) (vs:List Value):Heap:=((h.push (seqObj "list" #[] 0)).update h.objs.size (Obj.mapSeq (· ++ vs.toArray))).push (seqObj "list" vs.toArray 0)
theorem fO.upd (h:Heap)(a:Addr)(f:Obj->Obj):fO a h (h.update a f):=fun b o nb e=>by rw[(xbO h a f).2 b nb];exact e
theorem fO.push {h h':Heap}{a:Addr}(s:fO a h h')(o:Obj):fO a h (h'.push o):=fun b u nb e=>xai _ (s b u nb e)
theorem Kr (h:Heap)(a:Addr)(vs:List Value):fO a h (fW h a vs):=((fO.upd h a _).push _).push _
theorem yW (h:Heap)(vs:List Value):((h.push (seqObj "list" #[] 0)).update h.objs.size (Obj.mapSeq (· ++ vs.toArray))).objs.size=h.objs.size + 1:=(Heap.size_update ..).trans (size_push' h _)
theorem I_ (h:Heap)(vs:List Value):Grows h (dZ h vs):=fun b o e=>by
 have lt:=xam e;unfold dZ;rw[Heap.get?_push_ne _ _ _ (by rw[yW];exact xaD (xcl lt)),Heap.get?_update_ne _ _ _ _ (xaD lt),Heap.get?_push_ne _ _ _ (xaD lt)];exact e
theorem yV (h:Heap)(vs:List Value):(dZ h vs).get? (h.objs.size + 1)=some (seqObj "list" vs.toArray 0):=by
 rw[<-yW h vs];exact xaH _ rfl
noncomputable def bA:List D->List D->Option Bool
 | [],[]=>some false
 |.int i::ps,.int j::qs=>if i=j then bA ps qs else some (decide (i<j))
 |.str a::ps,.str b::qs=>if a=b then bA ps qs else some (decide (a.cps.toList<b.cps.toList))
 |_,_=>none
noncomputable def DP (ds:List D) (i j:Nat):Option Bool:=match ds.getD i .non with
  | .tup xs => (match ds.getD j .non with
    |.tup ys=>bA xs ys
    |_=>none)
  |_=>none
section
variable {prog:Program}{w:World}{A:Around}{s:Shared}{K:Fgx}{P:Pl}{H:Hp}
theorem Ka {fin b:Bool}{Q:Bool->Shared->Prop}(hq:Q b s):∀(xs ys:List D) (vs ws:List V) (us zs:List Value) (n:Nat),au K P H xs vs->au K P H ys ws->Vals vs us->Vals ws zs->bA xs ys=some b->(us.length=zs.length->fin=false)->KatLex prog w A true fin Q (us.zip zs) n s
  | [],ys,vs,ws,us,zs,n,i1,i2,r1,r2,e,hf=>by
    cases ys with
    |cons y ys=>cases e
    |nil=>
      rw[show vs=[] from i1]at r1;rw[show ws=[] from i2]at r2;cases r1;cases r2;cases e;rw[hf rfl];exact hq
  |x::xs,[],vs,ws,us,zs,n,i1,i2,r1,r2,e,hf=>by cases x<;>cases e
  |x::xs,y::ys,vs,ws,us,zs,n,i1,i2,r1,r2,e,hf=>by
    obtain⟨v,vr,rfl,p,i1⟩:=i1;obtain⟨u,wr,rfl,p',i2⟩:=i2
    cases r1 with
    |cons a1 r1=>
      cases r2 with
      |cons a2 r2=>
        have rest:bA xs ys=some b->∀n,KatLex prog w A true fin Q (List.zip _ _) n s:=fun e n=>Ka hq xs ys _ _ _ _ n i1 i2 r1 r2 e fun z=>hf (by simp[z]);rw[xcw];cases x<;>cases y<;>simp only[bA,reduceCtorEq]at e
        · rename_i i j;cases p;cases p';obtain⟨t1,rfl⟩:=a1;obtain⟨t2,rfl⟩:=a2;refine kat_cons (xct _ _ _ _ prog w _ _ ?_);split at e
          · rename_i hij;subst hij;rw[show(i==i)=true from xaX i];exact kat_yes (rest e _)
          · rename_i hij;cases e;rw[show(i==j)=false from xaZ.mpr hij];refine kat_no ?_
            cases n with
            |zero=>exact oneLt_int hq
            |succ n=>exact kat_one _ _ (lt_int (show PySem.W.BoolBack Q (.bool _) s from hq))
        · rename_i a c;cases p;cases p';obtain⟨t1,rfl⟩:=a1;obtain⟨t2,rfl⟩:=a2;refine kat_cons (xcu _ _ _ _ prog w _ _ ?_);split at e
          · rename_i hij;subst hij;rw[show(a==a)=true from xaX a];exact kat_yes (rest e _)
          · rename_i hij;cases e;rw[show(a==c)=false from xaZ.mpr hij];refine kat_no ?_
            cases n with
            |zero=>exact oneLt_str hq
            |succ n=>exact kat_one _ _ (lt_str (show PySem.W.BoolBack Q (.bool _) s from hq))
end
noncomputable def tupI:D->Bool
 |.tup (.int _::_)=>true
 |_=>false
section
variable {X:Cx}{pins:Pnx}{σ:L2.St}{H:Hp}{s:Shared}
theorem Bd {P:Pl}(I:Inv X pins σ H s){h':Heap}(g:Grows s.heap h'){xs:List D}{v:V}{u:Value}(i:Is X.K P H (.tup xs) v)(r:RelV v u):∃a o its n ws,u=.ref a/\h'.get? a=some o/\o.cls=.type "tuple"/\o.data=.seq its n/\au X.K P H xs ws/\Vals ws its.toList:=by
 obtain⟨a,ws,rfl,t,is⟩:=i;cases r;obtain⟨its,rv,⟨o,e1,e2,n,e3⟩,_⟩:=I.tuple t;exact⟨a,o,its.toArray,n,ws,rfl,g _ _ e1,e2,e3,is,by simpa using rv⟩
theorem Np {P:Pl}(I:Inv X pins σ H s){h':Heap}(g:Grows s.heap h'):∀(ds:List D) (vs:List V) (us:List Value),ds.all tupI=true->au X.K P H ds vs->Vals vs us->∃fs,KatTups h' us fs/\fs.length=us.length/\∀f∈fs,∃i t,f=Value.int i t
  | [],vs,us,_,i,r=>by
    rw[show vs=[] from i]at r;cases r;exact⟨[],KatTups.nil,rfl,fun f h=>nomatch h⟩
  |d::ds,vs,us,hd,i,r=>by
    obtain⟨v,vr,rfl,p,i⟩:=i;rw[xb1,xav]at hd
    cases r with
    |cons a1 r=>
      obtain⟨fs,k,kl,kf⟩:=Np I g ds _ _ hd.2 i r
      cases d with
      |tup xs=>
        cases xs with
        |nil=>cases (show false=true from hd.1)
        |cons x xs=>
          cases x with
          |int z=>
            obtain⟨a,o,its,n,ws,rfl,e1,e2,e3,is,rv⟩:=Bd I g p a1;obtain⟨w,wr,rfl,pw,is⟩:=is;cases pw;obtain⟨its⟩:=its
            cases rv with
            |cons b1 rv=>
              obtain⟨t,rfl⟩:=b1;refine⟨.int z t::fs,KatTups.cons e1 e2 e3 rfl k,by simp[kl],fun f hf=>?_⟩;rcases xan.mp hf with rfl |hf
              · exact⟨z,t,rfl⟩
              · exact kf f hf
          |_=>cases (show false=true from hd.1)
      |_=>cases (show false=true from hd.1)
theorem zaq {vs:List V}{us:List Value}(r:Vals vs us)(i:Nat):RelV (vs.getD i .non) (us.getD i Value.none):=by
  induction r generalizing i with
  |nil=>exact rfl
  |cons a r ih=>cases i with
    |zero=>simpa using a
    |succ i=>simpa using ih i
end
section
variable {prog:Program}{w:World}{A:Around}{E:Value->Shared->Prop}{s:Shared}
theorem Z2 {a:Addr}{n:Nat}{vs:List Value}{P:PySem.Fin->Shared->Prop}(ho:s.heap.get? a=some (seqObj "list" vs.toArray n))(h2:vs.length<2)
  (q:∀(h':Heap) c,fO a s.heap h'->h'.get? a=some (seqObj "list" vs.toArray c)->P (.done (.ret .none)) {s with heap:=h'}):
  wpAny (model prog w) A (Builtin.«list.sort» ⟨[.ref a],[]⟩) P E s:=by
 have hz:vs.length<=sizeLine:=by rw[xbn];omega
 have st:=Kr s.heap a vs;obtain⟨e1,z1⟩:∃e1,(s.heap.update a (Obj.mapSeq fun _=>(#[]:Array Value))).get? a=some (seqObj "list" #[] e1):=⟨_,xc2 ho fun _=> #[]⟩;have z2:(fW s.heap a vs).get? a=some (seqObj "list" #[] e1):=xai _ (xai _ z1);rw[list_sort_plain];refine tG (listItems_at ho rfl (tG (xdk ho rfl (tG (seqEpoch_at z1 rfl (tG (wpAny_newTuple (tG (xdl (xb0 ?_) (xa8 _))) hz)))) (by simpa using hz) (xa8 _))));show wpAny (model prog w) A _ P E {s with heap:=fW s.heap a vs};dsimp only;have two:vs.toArray.size<2:=by simpa using h2
 rw[xaa two,xaa two];generalize fW s.heap a vs=h1 at st z2 ⊢;refine tG (xac (tG (m:=(pure ():StateT SortSt Sem Unit).run _) (xac ?_)));dsimp only;have out:(arrOf (SortSt.mk' general' (vs.toArray.zip vs.toArray) #[] 7 none)).map (·.2)=vs.toArray:=by
  show(vs.toArray.zip vs.toArray).map (·.2)=vs.toArray;apply xcQ.mp;simp only[Array.toList_map,Array.toList_zip];exact List.map_snd_zip (xab _)
 rw[out];obtain⟨c2,z3⟩:∃c2,(h1.update a (Obj.mapSeq fun _=>vs.toArray)).get? a=some (seqObj "list" vs.toArray c2):=⟨_,xc2 z2 fun _=>vs.toArray⟩;refine tG (seqEpoch_at z2 rfl (tG (xdk z2 rfl ?_ (xa8 _) (by rw[xah];exact xcG hz))));simp only[xer,xaK,xa4];exact xac (q _ c2 (fun b o nb e=>fO.upd h1 a _ b o nb (st b o nb e)) z3)
theorem Z7 {l:Addr}{vs:List Value}{Q:Value->Shared->Prop}(hl:s.heap.IsList l vs.toArray)(h2:vs.length<2)
  (q:∀(h':Heap) c a,Grows s.heap h'->s.heap.objs.size<=a->h'.get? a=some (seqObj "list" vs.toArray c)->Q (.ref a) {s with heap:=h'}):
  wpAny (model prog w) A (call (.builtin "sorted") [.ref l]) Q E s:=by
 have hz:vs.length<=sizeLine:=by rw[xbn];omega
 have up:∀h',fO (s.heap.objs.size + 1) (dZ s.heap vs) h'->Grows s.heap h':=fun h' st b o e=>st b o (xaD (xcl (xam e))) (I_ s.heap vs b o e);refine xdw kind_sorted plain_sorted entry_sorted (args_sorted1 _) ?_;unfold Builtin.«sorted»;refine tG (m:=checkCount "sorted" 1 1 _) (xac (tG (collect_list hl (tG (xdl ?_ hz)) (by simpa using hz))));rw[yW];show wpAny _ _ _ _ _ {s with heap:=dZ s.heap vs};refine tG (xb0 (xbR slot_list_sort ⟨_,yV s.heap vs,rfl⟩ entry_list_sort (Z2 (s:={s with heap:=dZ s.heap vs}) (yV s.heap vs) h2 fun h' c st e=>?_) (args_list_sort _)));exact⟨_,rfl,xac ⟨_,rfl,q h' c _ (up h' st) (xch _) e⟩⟩
end
section
variable {X:Cx}{Wx:XW}
def Fq (K:Fgx):List V->Hp->VK->Prop:=fun xs H Q=>∃(a:Addr) (vs:List V),xs=[.ref a]/\bC K H a vs/\vs.length<2/\∀l,H l=none->Q (.ref l) (upd H l (.lst vs))
theorem Ox:cZ X (.builtin "sorted") (Fq X.K):=by
 intro pins s σ H xs us Q I r h;obtain⟨a,vs,rfl,hl,h2,q⟩:=h;obtain⟨u,rfl,rx⟩:=vals1 r;cases rx;obtain⟨its,rv,pl,hz⟩:=I.list hl;refine Z7 pl.isList (by rw[<-rv.length];exact h2) fun h' c D g hD eD=>?_;exact⟨.ref D,_,I.laid (t':=s.toks) (o:=.lst vs) g hD ⟨hz,its,c,rv,eD⟩,rfl,q D (I.hok.fresh hD)⟩
noncomputable def Gv (ds:List D):Option (List D):=if ds.length<2 then some ds else if ds.length<64/\ds.all tupI=true then(bG (DP ds) (kas_sort ds.length)).map fun p=>p.toList.map fun i=>ds.getD i .non else none
theorem boot_sorted:bootBuiltins "sorted"=some (.builtin "sorted"):=by kernel_rfl
end
def Low (n:Nat)(p:Array Nat):Prop:=p.size=n/\∀x∈p.toList,x<n
theorem Low.get {n:Nat}{p:Array Nat}(h:Low n p)(hn:0<n)(i:Nat):p.getD i 0<n:=by
 rw[xa2]
 cases e:p[i]? with
 |none=>exact hn
 |some x=>exact h.2 x (by rw[xa6];exact Array.mem_of_getElem? e)
theorem run_bind {α β:Type}{lt:Nat->Nat->Option Bool}{f:α->KasT β}:∀t:KasT α,bG lt (t.bind f)=(bG lt t).bind fun a=>bG lt (f a)
  |.ret a=>rfl
  |.ask i j k=>by
    show bG lt (.ask i j fun b=>(k b).bind f)=_;simp only[bG]
    cases lt i j with
    |none=>rfl
    |some b=>exact run_bind (k b)
section
variable {n:Nat}{lt:Nat->Nat->Option Bool}(hn:0<n)(tot:∀i j,i<n->j<n->∃b,lt i j=some b)
include hn tot
end
end E3
namespace E3
open PySem L2
section
variable {env:Env}{M M1:Mm}{f g h c:E}{d e:D}{i j:Int}{n k:Nat}{z:Str}{b:Bool}{ds es:List D}{s t:S}{x:Str}
def fY (g:S):OS->OS
 |some (.nx e,M1)=>g e M1
 |o=>o
theorem Fl:aq s t env M=fY t (s env M):=rfl
theorem xO {e:Env}:fY t (some (.nx e,M))=t e M:=rfl
theorem FZ:fY t (some (.rt d,M))=some (.rt d,M):=rfl
theorem FJ {e:Env}:fY t (some (.bk e,M))=some (.bk e,M):=rfl
theorem FN {e:Env}:fY t (some (.ct e,M))=some (.ct e,M):=rfl
theorem FP {a:Int}:fY t (some (.ex x a,M))=some (.ex x a,M):=rfl
theorem WX:aC env M=some (.nx env,M):=rfl
noncomputable def yI (M:Mm):Option Slot->O
 |some (.val d)=>some (.v d,M)
 |_=>none
noncomputable def rR (M:Mm):Option Slot->O
 |some (.val d)=>some (.v d,M)
 |some (.own ds)=>some (.v (.lst ds),M)
 |_=>none
theorem Xn:aj k env M=yI M env[k]? :=rfl
theorem Fp:tU k env M=rR M env[k]? :=rfl
theorem YZ:yI M (some (.val d))=some (.v d,M):=rfl
theorem Ga:rR M (some (.val d))=some (.v d,M):=rfl
theorem Gb:rR M (some (.own ds))=some (.v (.lst ds),M):=rfl
theorem WR:ao d env M=some (.v d,M):=rfl
def mapR (M:Mm)(o:Option D):O:=o.map fun z=>(.v z,M)
theorem Yw:mapR M (some d)=some (.v d,M):=rfl
def p8 (o:D->Option D)(r:O):O:=bnd r fun d M=>mapR M (o (vw M d))
theorem Wt {o:D->Option D}:s1 o f env M=p8 o (f env M):=rfl
theorem Xu {o:D->Option D}:p8 o (some (.v d,M))=mapR M (o (vw M d)):=rfl
noncomputable def rQ (o:D->D->Option D) (d:D) (r:O):O:=bnd r fun e M=>mapR M (o (vw M d) (vw M e))
noncomputable def yF (o:D->D->Option D) (k:Mm->O) (r:O):O:=bnd r fun d M=>rQ o d (k M)
theorem Wu {o:D->D->Option D}:s2 o f g env M=yF o (g env) (f env M):=rfl
theorem Xv {o:D->D->Option D}{q:Mm->O}:yF o q (some (.v d,M))=rQ o d (q M):=rfl
theorem Fz {o:D->D->Option D}:rQ o d (some (.v e,M))=mapR M (o (vw M d) (vw M e)):=rfl
theorem zbK:vw M (.int i)=.int i:=rfl
theorem zbC:vw M (.str z)=.str z:=rfl
theorem Hu:vw M (.bl b)=.bl b:=rfl
theorem zbS:vw M .non=.non:=rfl
theorem zbz:vw M (.tup ds)=.tup ds:=rfl
theorem zbY:vw M (.lst ds)=.lst ds:=rfl
theorem Xk:eG f env M=p8 (fun d=>(gM d).map .bl) (f env M):=rfl
noncomputable def wX (r:O):O:=bnd r fun d M=>match d with
 |.bl b=>some (.v (.bl (!b)),M)
 |_=>none
theorem Xb:fB f env M=wX (f env M):=rfl
theorem YB:wX (some (.v (.bl b),M))=some (.v (.bl (!b)),M):=rfl
noncomputable def mH (k1 k2:Mm->O) (r:O):O:=bnd r fun d M=>match d with
 |.bl b=>if b=true then k1 M else k2 M
 |_=>none
theorem Wv:eE f g env M=mH (g env) (fun M=>some (.v (.bl false),M)) (f env M):=rfl
theorem Fj:lQ f g env M=mH (fun M=>some (.v (.bl true),M)) (g env) (f env M):=rfl
theorem W5:k_ c f g env M=mH (f env) (g env) (c env M):=rfl
theorem Yr {k1 k2:Mm->O}:mH k1 k2 (some (.v (.bl b),M))=if b=true then k1 M else k2 M:=rfl
noncomputable def mq (d:D):Option (ResA×Mm)->Option (ResA×Mm)
 |some (.v ds,M2)=>some (.v (d::ds),M2)
 |some (.x c n,M2)=>some (.x c n,M2)
 |none=>none
noncomputable def CN (k:Mm->Option (ResA×Mm)):O->Option (ResA×Mm)
 |some (.v d,M1)=>mq d (k M1)
 |some (.x c n,M1)=>some (.x c n,M1)
 |none=>none
theorem Xa:aA env M=some (.v [],M):=rfl
theorem WT {fs:EA}:aD f fs env M=CN (fs env) (f env M):=rfl
theorem Ye {q:Mm->Option (ResA×Mm)}:CN q (some (.v d,M))=mq d (q M):=rfl
theorem Yc:mq d (some (.v ds,M))=some (.v (d::ds),M):=rfl
noncomputable def lZ (o:List D->Option D) (r:Option (ResA×Mm)):O:=dh r fun ds M=>mapR M (o (ds.map (vw M)))
theorem W_ {o:List D->Option D}{fs:EA}:sN o fs env M=lZ o (fs env M):=rfl
theorem Yz {o:List D->Option D}:lZ o (some (.v ds,M))=mapR M (o (ds.map (vw M))):=rfl
noncomputable def g8 (k:List D->Mm->O):Option (ResA×Mm)->O
 |some (.v ds,M)=>k ds M
 |some (.x c n,M)=>some (.x c n,M)
 |none=>none
theorem XS {q:List D->Mm->O}:g8 q (some (.v ds,M))=q ds M:=rfl
theorem Xl {fs:EA}:cg fs env M=g8 (fun ds M1=>if ds.length<=sizeLine then some (.v (.tup ds),M1) else none) (fs env M):=rfl
theorem W8 {fs:EA}:bR fs env M=g8 (fun ds M1=>if ds.length<=sizeLine then some (.v (.lst ds),M1) else none) (fs env M):=rfl
def Ik:O->O
 |some (.v d,M)=>some (.v d,M)
 |_=>none
theorem X8:Ik (some (.v d,M))=some (.v d,M):=rfl
theorem WD {u:G}{fs:EA}:bZ u fs env M=g8 (fun ds M1=>Ik (u ds M1)) (fs env M):=rfl
noncomputable def dY (k:D->Mm->O):O->O
 |some (.v d,M)=>k d M
 |some (.x c n,M)=>some (.x c n,M)
 |none=>none
theorem X4 {q:D->Mm->O}:dY q (some (.v d,M))=q d M:=rfl
noncomputable def Io (M:Mm):D->O
 |.lst ds=>some (.v (.ref M.length),M ++ [.lst ds])
 |_=>none
theorem X_:Io M (.lst ds)=some (.v (.ref M.length),M ++ [.lst ds]):=rfl
theorem WQ:xR f env M=dY (fun d M1=>Io M1 d) (f env M):=rfl
noncomputable def Kc (M:Mm):D->O
 |.lst ds=>some (.v (.lst ds),M)
 |.tup ds=>some (.v (.lst ds),M)
 |_=>none
theorem Yt:Kc M (.lst ds)=some (.v (.lst ds),M):=rfl
theorem W6:tQ f env M=dY (fun d M1=>Kc M1 (vw M1 d)) (f env M):=rfl
noncomputable def Gp (d:D) (lo:Option Int):Option (Option Int×Mm)->O
 |some (hi,M3)=>mapR M3 (tZ (vw M3 d) lo hi)
 |none=>none
noncomputable def Mz (d:D) (k:Mm->Option (Option Int×Mm)):Option (Option Int×Mm)->O
 |some (lo,M2)=>Gp d lo (k M2)
 |none=>none
theorem Fo {l u:Env->Mm->Option (Option Int×Mm)}:rF f l u env M=dY (fun d M1=>Mz d (u env) (l env M1)) (f env M):=rfl
theorem YF {lo:Option Int}{q:Mm->Option (Option Int×Mm)}:Mz d q (some (lo,M))=Gp d lo (q M):=rfl
theorem YD {lo hi:Option Int}:Gp d lo (some (hi,M))=mapR M (tZ (vw M d) lo hi):=rfl
theorem Xd:q_ env M=some (none,M):=rfl
noncomputable def xu:O->Option (Option Int×Mm)
 |some (.v (.int i),M)=>some (some i,M)
 |_=>none
theorem Xc:nQ f env M=xu (f env M):=rfl
theorem YC:xu (some (.v (.int i),M))=some (some i,M):=rfl
noncomputable def cP (k:D->Mm->OS):O->OS
 |some (.v d,M)=>k d M
 |some (.x c n,M)=>some (.ex c n,M)
 |none=>none
theorem X6 {q:D->Mm->OS}:cP q (some (.v d,M))=q d M:=rfl
theorem Wz:aM k f env M=cP (fun d M1=>if k<env.length then some (.nx (env.set k (.val d)),M1) else none) (f env M):=rfl
noncomputable def Ks (k:Nat) (env:Env) (M:Mm):D->OS
 |.lst ds=>if k<env.length then some (.nx (env.set k (.own ds)),M) else none
 |_=>none
theorem Yy:Ks k env M (.lst ds)=if k<env.length then some (.nx (env.set k (.own ds)),M) else none:=rfl
theorem W9:tR k f env M=cP (fun d M1=>Ks k env M1 d) (f env M):=rfl
theorem Xe:aO f env M=cP (fun d M1=>some (.rt d,M1)) (f env M):=rfl
noncomputable def JM (s t:Mm->OS) (M:Mm):D->OS
 |.bl b=>if b=true then s M else t M
 |_=>none
theorem FQ {q r:Mm->OS}:JM q r M (.bl b)=if b=true then q M else r M:=rfl
theorem Fg:cM c s t env M=cP (fun d M1=>JM (s env) (t env) M1 d) (c env M):=rfl
noncomputable def vR (k:Nat) (env:Env) (M:Mm):Option Slot->OS
 |some (.own ds)=>some (.nx (env.set k (.val (.lst ds))),M)
 |_=>none
theorem W2:kZ k env M=vR k env M env[k]? :=rfl
theorem Yo:vR k env M (some (.own ds))=some (.nx (env.set k (.val (.lst ds))),M):=rfl
noncomputable def vp (k:Nat) (env:Env) (o:O):Option Slot->OS
 |some (.own ds)=>cP (fun d M1=>if ds.length<sizeLine then some (.nx (env.set k (.own (ds ++ [d]))),M1) else none) o
 |_=>none
theorem Ww:kW k f env M=vp k env (f env M) env[k]? :=rfl
theorem XM {o:O}:vp k env o (some (.own ds))=cP (fun d M1=>if ds.length<sizeLine then some (.nx (env.set k (.own (ds ++ [d]))),M1) else none) o:=rfl
theorem HD {ds0:List D}{M2:Mm}(h1:f env M=some (.v (.ref k),M1))(h2:M1[k]? =some (.lst ds0))(h3:g env M1=some (.v d,M2))(h4:M2[k]? =some (.lst ds))(hl:ds.length<sizeLine):tO f g env M=some (.nx env,M2.set k (.lst (ds ++ [d]))):=by
 simp only[tO,cO,h1,h2,h3,h4,hl,xbF]
noncomputable def forR (k:Nat) (t:S) (env:Env):Option (ResA×Mm)->OS
 |some (.v ds,M1)=>loopS k t ds env M1
 |some (.x c n,M1)=>some (.ex c n,M1)
 |none=>none
theorem WY {fs:EA}:dO k fs t env M=forR k t env (fs env M):=rfl
theorem Yn:forR k t env (some (.v ds,M))=loopS k t ds env M:=rfl
noncomputable def wO:O->Option (ResA×Mm)
 |some (.v (.lst ds),M1)=>some (.v ds,M1)
 |some (.x c n,M1)=>some (.x c n,M1)
 |_=>none
theorem W3:bI f env M=wO (f env M):=rfl
theorem Yp:wO (some (.v (.lst ds),M))=some (.v ds,M):=rfl
noncomputable def Lj:Option (ResA×Mm)->Option (ResA×Mm)
 |some (.v [.int j],M1)=>if -1000000000<=j/\j<=1000000000 then some (.v ((List.range j.toNat).map fun(k:Nat)=>.int (0 + k)),M1) else none
 |some (.x c n,M1)=>some (.x c n,M1)
 |_=>none
theorem Xf {fs:EA}:nM fs env M=Lj (fs env M):=rfl
theorem FW (h: -1000000000<=i/\i<=1000000000):Lj (some (.v [.int i],M))=some (.v ((List.range i.toNat).map fun(k:Nat)=>.int (0 + k)),M):=xaa h
theorem Fe {m:Nat}{t:S}:cL m t ds M=cQ (t (ds.map .val ++ List.replicate (m - ds.length) .un) M):=rfl
theorem Yi:cQ (some (.rt d,M))=some (.v d,M):=rfl
theorem Yh {e:Env}:cQ (some (.nx e,M))=some (.v .non,M):=rfl
theorem Tj:aX (.int i) (.int j)=some (.int (i + j)):=rfl
theorem Tn:aX (.lst ds) (.lst es)=if ds.length + es.length<=sizeLine then some (.lst (ds ++ es)) else none:=rfl
theorem Um:bW (.int i) (.int j)=some (.int (i - j)):=rfl
theorem Uc:cH (.int i) (.int j)=if i.natAbs<18446744073709551616\/j.natAbs<18446744073709551616\/(i.natAbs.log2<10000/\j.natAbs.log2<10000) then some (.int (i * j)) else none:=rfl
theorem TF:fX (.int i) (.int j)=if 0<j/\j.natAbs<1073741824 then some (.int (i / j)) else none:=rfl
theorem Ub:oMod (.int i) (.int j)=if 0<j then some (.int (i % j)) else none:=rfl
theorem Uj:eZ (.int i) (.int j)=if 0<=j/\j.natAbs<=1000000/\i.natAbs<18446744073709551616 then some (.int (i ^ j.toNat)) else none:=rfl
theorem Uh:mQ (.int i)=some (.int (-i)):=rfl
theorem Ew:aG .lt (.int i) (.int j)=some (.bl (decide (i<j))):=rfl
theorem Eu:aG .le (.int i) (.int j)=some (.bl (decide (i<=j))):=rfl
theorem Et:aG .gt (.int i) (.int j)=some (.bl (decide (j<i))):=rfl
theorem Er:aG .ge (.int i) (.int j)=some (.bl (decide (j<=i))):=rfl
theorem Tt:aG .eq (.int i) (.int j)=some (.bl (decide (i=j))):=by
 show(lC _ _).map D.bl=_
 simp[lC,cR,D.flat,D.dep,D.eq]
 rw[xby];simp
theorem Ud:aG .ne (.int i) (.int j)=some (.bl (!decide (i=j))):=by
 show(nA _ _).map D.bl=_
 simp[nA,cR,D.flat,D.dep,D.eq]
 rw[xby];simp
theorem Tr (h:D.deps ds<=49):aG .eq (.lst ds) (.lst [])=some (.bl ds.isEmpty):=by
 show(lC _ _).map D.bl=_;unfold lC;rw[xaa ⟨by simp[cR,D.flat,D.dep,D.deps],by show D.deps ds + 1<=50;omega⟩];cases ds<;>rfl
theorem Tv (h:d.dep<=50):aG .eq d d=some (.bl true):=by
 show(lC d d).map D.bl=_;unfold lC;rw[xaa ⟨by simp[cR,h],h⟩,D.eq_refl];rfl
theorem Ue (h:d.dep<=50):aG .ne d d=some (.bl false):=by
 show(nA d d).map D.bl=_;unfold nA;rw[xaa ⟨by simp[cR,h],h⟩,D.eq_refl];rfl
theorem T4:aZ (.lst ds) (.int i)=bY ds i:=rfl
theorem T6:aZ (.tup ds) (.int i)=bY ds i:=rfl
theorem T7:c7 [.lst ds]=some (.int ds.length):=rfl
theorem T9:c7 [.tup ds]=some (.int ds.length):=rfl
theorem Ua:gw [.int i,.int j]=some (.int (if j<i then j else i)):=rfl
theorem T_:g_ [.int i,.int j]=some (.int (if j > i then j else i)):=rfl
theorem Uq:gM (.lst ds)=some (!ds.isEmpty):=rfl
theorem Uo:gM (.bl b)=some b:=rfl
theorem Ul {lo hi:Option Int}:tZ (.str z) lo hi=if z.length<=sizeLine then some (.str (Txt.slice z lo hi)) else none:=rfl
theorem Uk {lo hi:Option Int}:tZ (.lst ds) lo hi=some (.lst (d7 ds lo hi)):=rfl
end
noncomputable def Step (J:Env->Mm->Prop) (Q:OS->Prop):OS->Prop
 |some (.nx e,M)=>J e M
 |some (.ct e,M)=>J e M
 |some (.bk e,M)=>Q (some (.nx e,M))
 |some (.rt d,M)=>Q (some (.rt d,M))
 |some (.ex c n,M)=>Q (some (.ex c n,M))
 |none=>False
theorem DN {i:Nat}{body:S}{ds:List D}{env:Env}{M:Mm}(Q:OS->Prop)(J:Nat->Env->Mm->Prop)(h0:J 0 env M)
    (hs:∀(k:Nat) d env M,ds[k]? =some d->J k env M->i<env.length/\Step (J (k + 1)) Q (body (env.set i (.val d)) M)) (hd:∀env M,J ds.length env M->Q (some (.nx env,M))):Q (loopS i body ds env M):=by
  have key:∀(m k:Nat) (env:Env) (M:Mm),m + k=ds.length->J k env M->Q (loopS i body (ds.drop k) env M):=by
    intro m
    induction m with
    |zero=>
      intro k env M hk hJ;have e:k=ds.length:=by omega
      subst e;rw[xcP];exact hd env M hJ
    |succ m ih=>
      intro k env M hk hJ;have hlt:k<ds.length:=by omega
      obtain⟨hi,h1⟩:=hs k ds[k] env M (xaf hlt) hJ;rw[xaS hlt];simp only[loopS,hi,xbF]
      cases e:body (env.set i (.val ds[k])) M with
      |none=>rw[e]at h1;exact h1.elim
      |some o=>
        rw[e]at h1;obtain⟨o,M'⟩:=o
        cases o with
        |nx e'=>exact ih (k + 1) e' M' (by omega) h1
        |ct e'=>exact ih (k + 1) e' M' (by omega) h1
        |bk e'=>exact h1
        |rt d=>exact h1
        |ex c n=>exact h1
  have:=key ds.length 0 env M (by omega) h0
  rwa [xcA]at this
end E3
namespace E3
open PySem PySem.Spec PyProof.Rows L2
noncomputable def XN (H:Hp) (n:Int):Option Addr->Prop
 |none=>n=0
 |some d=>∃fs,H d=some (.xd fs)/\fs.lookup ("at":Str)=some (.int (n - 1))/\n≠0
noncomputable def XQ (K:Fgx) (mg:Mgx) (P:Pl) (H:Hp) (M':Mm) (Q:VK) (E:XK):Res->Prop
 |.v d=>∀P' v H',LtE P H P' H'->Hk K mg P' H' M'->Is K P' H' d v->Q v H'
 |.x c n=>∀P' H' C dx,LtE P H P' H'->Hk K mg P' H' M'->mg c=some (.ref C)->XN H' n dx->E (.ref C) dx H'
noncomputable def Az (K:Fgx) (mg:Mgx) (n:Nat) (g:G):Sp:=fun vs H Q E=>vs.length=n/\∃P M ds r M',Hk K mg P H M/\au K P H ds vs/\g ds M=some (r,M')/\XQ K mg P H M' Q E r
mutual
theorem Is.away {K:Fgx}{P:Pl}{H H':Hp}(s:∀b o,H b=some o->(∀g,o≠ .ext g)->H' b=some o):∀{d:D} {v:V},Is K P H d v->Is K P H' d v
  |.non,_,h=>h
  |.bl _,_,h=>h
  |.int _,_,h=>h
  |.str _,_,h=>h
  |.tup ds,_,h=>by
    obtain⟨a,vs,e,q,r⟩:=h;refine⟨a,vs,e,?_,au.away s r⟩;rcases q with(q |⟨o,q⟩) |q
    · exact .inl (.inl (s _ _ q fun _ z=>nomatch z))
    · exact .inl (.inr ⟨o,s _ _ q fun _ z=>nomatch z⟩)
    · exact .inr q
  |.lst ds,_,h=>by
    obtain⟨a,vs,e,q,r⟩:=h;refine⟨a,vs,e,?_,au.away s r⟩;rcases q with⟨n,q |⟨o,q⟩⟩ |q
    · exact .inl ⟨n,.inl (s _ _ q fun _ z=>nomatch z)⟩
    · exact .inl ⟨n,.inr ⟨o,s _ _ q fun _ z=>nomatch z⟩⟩
    · exact .inr q
  |.ref k,_,h=>h
theorem au.away {K:Fgx}{P:Pl}{H H':Hp}(s:∀b o,H b=some o->(∀g,o≠ .ext g)->H' b=some o):∀{ds:List D} {vs:List V},au K P H ds vs->au K P H' ds vs
  | [],_,h=>h
  |_::_,_,h=>by
    obtain⟨v,r,e,p,q⟩:=h;exact⟨v,r,e,Is.away s p,au.away s q⟩
end
theorem Hk.away {K:Fgx}{mg:Mgx}{P:Pl}{H H':Hp}{M:Mm}(h:Hk K mg P H M)(s:∀b o,H b=some o->(∀g,o≠ .ext g)->H' b=some o)(t:∀b,H' b=none->H b=none):Hk K mg P H' M:=by
  refine⟨h.n,fun k c e=>?_,h.inj,h.bd,fun a z q=>h.here a z (t a q)⟩;have:=h.cell k c e
  cases c with
  |lst ds=>
    obtain⟨vs,e1,q⟩:=this;exact⟨vs,s _ _ e1 (fun _ z=>nomatch z),au.away s q⟩
  |obj c fs=>
    obtain⟨C,dx,gs,e1,e2,e3,q⟩:=this;exact⟨C,dx,gs,e1,s _ _ e2 (fun _ z=>nomatch z),e3,au.away s q⟩
  |dct kvs=>
    obtain⟨vs,e1,e2,q⟩:=this;exact⟨vs,s _ _ e1 (fun _ z=>nomatch z),e2,au.away s q⟩
  |dtc kvs=>
    obtain⟨vs,e1,e2,q⟩:=this;exact⟨vs,s _ _ e1 (fun _ z=>nomatch z),e2,au.away s q⟩
  |dcf kvs=>
    obtain⟨vs,ob,es,ep,e1,eD,e2,q⟩:=this;exact⟨vs,ob,es,ep,s _ _ e1 (fun _ z=>nomatch z),eD,e2,au.away s q⟩
  |dtf kvs=>
    obtain⟨vs,ob,es,ep,e1,eD,e2,q⟩:=this;exact⟨vs,ob,es,ep,s _ _ e1 (fun _ z=>nomatch z),eD,e2,au.away s q⟩
  |fn i caps=>exact lA.up this (fun b o u e=>s b _ e fun _ z=>nomatch z) fun _ _ q=>au.away s q
  |tbl nm i=>
    obtain⟨c,ps,e1,e2,e3⟩:=this;exact⟨c,ps,e1,s _ _ e2 (fun _ z=>nomatch z),e3.imp id fun⟨c',z,q⟩=>⟨c',z,q.up fun b o u e=>s b _ e fun _ z=>nomatch z⟩⟩
structure XFit (X:Cx)(Wx:XW):Prop where
 xr:∀pins σ H s a C dx c n P0 H0 P M,Inv X pins σ H s->H a=some (xo a C dx true)->¬ P.bd a->H0 a=none->LtE P0 H0 P H->Hk X.K X.mg P H M->X.mg c=some (.ref C)->XN H n dx->Wx P0 H0 M c n->X.xe (.ref a) s
section
variable {P:Program}{w:World}{K:Fgx}{mg:Mgx}{base:Heap}{k:Nat}{x qual:Str}{st:Stmt}{f:Addr}{fd:FuncData}{N ps:List Str}{b:S}
theorem Qu {sp:Sp}(F:FnOk P w K mg base (rY P w) k f fd ps sp):FnOk P w K mg base fH k f fd ps (fun vs H Q _=>sp vs H Q E0):=
 ⟨fun vs H Q E h=>F.len vs H Q E0 h,fun A outer s H args us vs Q E hr he hb hv hs=>xdy (F.run A outer s H args us vs Q E0 hr he hb hv hs) fun r s' z=>by
  cases r with
  |error e=>obtain⟨_,_,_,_,_,_,_,_,_,_,_,_,_,_,z⟩:=z;exact z
  |ok fl=>cases fl<;>exact z⟩
theorem Dg {n:Nat}{g:G}(F:FnOk P w K mg base (rY P w) k f fd ps (Az K mg n g)):FnOk P w K mg base fH k f fd ps (lV K mg n g):=by
 have F0:=Qu F;refine⟨fun vs H Q E h=>F0.len vs H Q E ?_,fun A outer s H args us vs Q E hr he hb hv hs=>F0.run A outer s H args us vs Q E hr he hb hv ?_⟩
 ·obtain⟨hl,P,M,ds,d,M',hk,is,e,q⟩:=h;exact⟨hl,P,M,ds,.v d,M',hk,is,e,q⟩
 ·obtain⟨hl,P,M,ds,d,M',hk,is,e,q⟩:=hs;exact⟨hl,P,M,ds,.v d,M',hk,is,e,q⟩
def eV (P:Program)(w:World)(K:Fgx)(mg:Mgx)(base:Heap)(k:Nat)(C:Addr)(m:Str)(n:Nat)(g:G):Prop:=
 ∃f fd ps,Meth K C m f/\FnOk P w K mg base (rY P w) k f fd ps (Az K mg n g)/\Binds K fd ps []
def eU (P:Program)(w:World)(K:Fgx)(mg:Mgx)(base:Heap)(k:Nat)(C:Addr)(n:Nat)(g:G):Prop:=
 ∃f fd ps,Mk K C f/\FnOk P w K mg base (rY P w) k f fd ps (Az K mg n g)/\Binds K fd ps []
def m_ (P:Program)(w:World)(K:Fgx)(mg:Mgx)(base:Heap)(k:Nat)(f:Str)(n:Nat)(g:G):Prop:=
 ∃fa fd ps,mg f=some (.ref fa)/\PySem.W.keepIn K (.ref fa)=true/\FnOk P w K mg base (rY P w) k fa fd ps (Az K mg n g)/\Binds K fd ps []
theorem eV.quiet {C:Addr}{m:Str}{n:Nat}{g:G}(a:eV P w K mg base k C m n g):pA P w K mg base k C m n g:=by
 obtain⟨f,fd,ps,h1,h2,h3⟩:=a;exact⟨f,fd,ps,h1,Dg h2,h3⟩
theorem eU.quiet {C:Addr}{n:Nat}{g:G}(a:eU P w K mg base k C n g):o_ P w K mg base k C n g:=by
 obtain⟨f,fd,ps,h1,h2,h3⟩:=a;exact⟨f,fd,ps,h1,Dg h2,h3⟩
theorem m_.quiet {n:Nat}{g:G}(a:m_ P w K mg base k x n g):bx P w K mg base k x n g:=by
 obtain⟨fa,fd,ps,h1,h2,h3,h4⟩:=a;exact⟨fa,fd,ps,[],[],_,h1,h2,Dg h3,h4,.nil,fun vs H Q E h=>by rw[xaL];exact h⟩
theorem eV.mono {j:Nat}{C:Addr}{m:Str}{n:Nat}{g:G}(a:eV P w K mg base j C m n g)(h:j<=k):eV P w K mg base k C m n g:=by
 obtain⟨f,fd,ps,h1,h2,h3⟩:=a;exact⟨f,fd,ps,h1,h2.mono h,h3⟩
theorem eU.mono {j:Nat}{C:Addr}{n:Nat}{g:G}(a:eU P w K mg base j C n g)(h:j<=k):eU P w K mg base k C n g:=by
 obtain⟨f,fd,ps,h1,h2,h3⟩:=a;exact⟨f,fd,ps,h1,h2.mono h,h3⟩
theorem m_.mono {j:Nat}{n:Nat}{g:G}(a:m_ P w K mg base j x n g)(h:j<=k):m_ P w K mg base k x n g:=by
 obtain⟨f,fd,ps,h1,h2,h3,h4⟩:=a;exact⟨f,fd,ps,h1,h2,h3.mono h,h4⟩
end
end E3
namespace L2
open PySem PySem.Spec PyProof.Rows
section
variable {X:Cx}{CX:eH}{k:Nat}{f C:Addr}{fd:FuncData}{ps:List Str}{sp:Sp}{x m:Str}{p pos apos:Pos}{e o:Expr}{es:List Expr}{ta:TE}{t:TA}{Ex:St->XK}
def Oi (CX:eH)(X:Cx)(Ex:St->XK):Prop:=∀pins σ H s e s',Inv X pins σ H s->CX X.stack H s (Ex σ) e s'->X.xe e s'
end
end L2
namespace E3
open PySem PySem.Spec PyProof.Rows L2
section
variable {X:Cx}{Wx:XW}{pos:Pos}
def SX (X:Cx)(e:Expr)(f:E):Prop:=∀Ex:L2.St->XK,Oi (rY X.prog X.w) X Ex->PE X e fun st H Q=>∃P0 H0 P Os env M r M',Ok X.K X.mg P0 H0 P Os H M st env/\f env M=some (r,M')/\XQ X.K X.mg P H M' Q (Ex st) r
noncomputable def zb4 (K:Fgx) (mg:Mgx) (E:XK) (P0:Pl) (H0:Hp) (P:Pl) (H:Hp) (M':Mm) (D:Ends):Out->Prop
 |.ex c n=>∀P' H' C dx,LtE P H P' H'->Hk K mg P' H' M'->mg c=some (.ref C)->XN H' n dx->E (.ref C) dx H'
 |.nx env=>Post K mg W0 P0 H0 P H M' D (.nx env)
 |.bk env=>Post K mg W0 P0 H0 P H M' D (.bk env)
 |.ct env=>Post K mg W0 P0 H0 P H M' D (.ct env)
 |.rt d=>Post K mg W0 P0 H0 P H M' D (.rt d)
end
end E3
namespace L2
open PySem PySem.Spec PyProof.Rows
end L2
namespace E3
open PySem PySem.Spec PyProof.Rows L2
theorem zbl {K:Fgx}{C:Addr}(h1:PySem.W.findIn K (.ref C) "__getattribute__"=some (some (.builtin "BaseException.__getattribute__")))(h2:PySem.W.findIn K (.ref C) "__getattr__"=some none)(h3:PySem.W.mroIn K C (.type "BaseException")=some true):Bh K C=true:=by
 simp only[Bh,h1,h2,h3,xaX,xeb]
theorem zbh {K:Fgx}{C:Addr}(h1:Bh K C=true)(h2:PySem.W.hasDictIn K C=true)(h3:PySem.W.findIn K (.ref C) "__class__"=some (some (.builtin "object.__class__")))(h4:PySem.W.specialIn K (.builtin "object.__class__") "__get__"=some (some (.builtin "getset_descriptor.__get__")))
  (h5:PySem.W.takesIn K (.builtin "object.__class__")=some true) (h6:PySem.W.mroIn K C (.type "object")=some true):Bj K C=true:=by
 simp only[Bj,h1,h2,h3,h4,h5,h6,xaX,xeb]
end E3
namespace E3
open PySem L2
section
variable {env:Env}{M M1 M2:Mm}{f g o v:E}{d e x:D}{i:Int}{k:Nat}{ds:List D}{s t:S}{c me fl:Str}{fs:List (Str×D)}{gg:G}{fa:EA}
theorem Yj {a:Int}:cQ (some (.ex c a,M))=some (.x c a,M):=rfl
end
theorem o_.mono {P:Program}{w:World}{K:Fgx}{mg:Mgx}{base:Heap}{j k:Nat}{C:Addr}{n:Nat}{g:G}(a:o_ P w K mg base j C n g)(h:j<=k):o_ P w K mg base k C n g:=by
 obtain⟨f,fd,ps,h1,h2,h3⟩:=a;exact⟨f,fd,ps,h1,h2.mono h,h3⟩
end E3
namespace E3
open PySem PySem.Spec PyProof.Rows L2
theorem bJ {X:Cx}{Wx:XW}{m:Mode}{i:Nat}{x:Str}{pos:Pos}(hN:X.N[i]? =some x)(hv:pH X.env.scope x)(hd:(x==("__debug__":Str))=false:=by x_go)(hcd:(x==("__classdict__":Str))=false:=by x_go):SE X Wx m (.Name x pos) (aj i):=(Mt hN hv hd hcd).bor
noncomputable def bL (cs:List (Str×Nat)) (env:Env):Env:=cs.map fun p=>(env[p.2]?).getD .un
noncomputable def gA (cs:List (Str×Nat)) (Os:List (Option Addr)):List (Option Addr):=cs.map fun p=>(Os[p.2]?).join
section
variable {K:Fgx}{mg:Mgx}{P0 P:Pl}{H0 H:Hp}{M:Mm}{Os:List (Option Addr)}{st:L2.St}{env:Env}{d:D}{v:V}
theorem Cy {cs:List (Str×Nat)}{i:Nat}{a:Addr}(h:(gA cs Os)[i]? =some (some a)):∃p,cs[i]? =some p/\Os[p.2]? =some (some a):=by
 unfold gA at h;rw[xar,xag]at h;obtain⟨p,e,h⟩:=h;exact⟨p,e,lH h⟩
theorem Ok.cap {cs:List (Str×Nat)}(k:Ok K mg P0 H0 P Os H M st env)(nd:(cs.map (·.2)).Nodup)(h:Is K P H d v):Ok K mg P0 H0 P (none::gA cs Os) H M (some v::gB cs st) (.val d::bL cs env) where
  hk:=k.hk
  base:=k.base
  b0:=k.b0
  slot:=fun i s e=>by
    cases i with
    |zero=>cases e;exact⟨v,rfl,h⟩
    |succ i=>
      rw[xbN]at e ⊢;rw[xbN];unfold bL at e;rw[xar,xag]at e;obtain⟨p,ep,e⟩:=e;have eo:((gA cs Os)[i]?).join=(Os[p.2]?).join:=by unfold gA;rw[xar,ep];rfl
      have es:((gB cs st)[i]?).join=(st[p.2]?).join:=by unfold gB;rw[xar,ep];rfl
      rw[eo,es]
      cases e':env[p.2]? with
      |none=>rw[e']at e;cases e;exact True.intro
      |some s'=>rw[e']at e;cases e;exact k.slot _ _ e'
  own:=fun a h=>by
    rw[xan]at h;rcases h with h |h
    · cases h
    · obtain⟨i,hi⟩:=xdZ.mp h;obtain⟨p,_,e⟩:=Cy hi;exact k.own a (xaJ e)
  inj:=fun i j a e1 e2=>by
    cases i with
    |zero=>cases e1
    |succ i=>
      cases j with
      |zero=>cases e2
      |succ j=>
        rw[xbN]at e1 e2;obtain⟨p,h1,h2⟩:=Cy e1;obtain⟨q,h3,h4⟩:=Cy e2;have e:=k.inj _ _ a h2 h4;congr 1;have hi:(cs.map (·.2))[i]? =some p.2:=by rw[xar,h1];rfl
        have hj:(cs.map (·.2))[j]? =some p.2:=by rw[xar,h3,e];rfl
        have il:=(xat.mp hi).1;exact(List.getElem?_inj il nd).mp (hi.trans hj.symm)
  olen:=by simp[gA,bL]
  slen:=by simp[gB,bL]
end
section
variable {X:Cx}{Wx:XW}{m:Mode}{pos:Pos}
noncomputable def fZ (q e:E) (env:Env):List D->List D->Mm->Option (List D×Mm)
  | [],acc,M=>some (acc,M)
  |d::ds,acc,M=>match q (.val d::env) M with
    | some (.v (.bl true), M1) => (match e (.val d::env) M1 with
      |some (.v y,M2)=>if acc.length + 1<sizeLine then fZ q e env ds (acc ++ [y]) M2 else none
      |_=>none)
    |some (.v (.bl false),M1)=>fZ q e env ds acc M1
    |_=>none
noncomputable def fj (cs:List (Str×Nat)) (fs:EA) (q e:E):E:=fun env M=>match fs env M with
  | some (.v ds, M1) => (match fZ q e (bL cs env) ds [] M1 with
    |some (ys,M2)=>some (.v (.lst ys),M2)
    |none=>none)
  |some (.x c n,M1)=>some (.x c n,M1)
  |none=>none
theorem yU {cs:List (Str×Nat)}{fs:EA}{q e:E}:∀env M r M',fj cs fs q e env M=some (.v r,M')->∃ds,r=.lst ds:=fun env M r M' h=>by
 unfold fj at h;split at h
 ·split at h
  ·cases h;exact⟨_,rfl⟩
  ·cases h
 ·cases h
 ·cases h
theorem JK {K:Fgx}{mg:Mgx}{P1 P:Pl}{H1 H:Hp}{M:Mm}{D:Addr}{vs vs':List V}(l:LtE P1 H1 P H)(h:Hk K mg P H M)(hD:H1 D=none)(bD:P.bd D)(nc:∀k,k<P.n->P.io k≠D)(e:H D=some (.lst vs)):
  Lt P H P (upd H D (.lst vs'))/\LtE P1 H1 P (upd H D (.lst vs'))/\Hk K mg P (upd H D (.lst vs')) M:=by
 have lc:Lt P H P (upd H D (.lst vs')):=pZ bD e Kz;refine⟨lc,⟨l.n,l.io,l.bd,l.bm,fun c o ec n=>?_,fun c z=>l.sure c (lc.sure c z),l.nw⟩,⟨h.n,fun j c ej=>(h.cell j c ej).lt lc fun o eo=>?_,h.inj,h.bd,fun c z q=>h.here c z (lc.sure c q)⟩⟩
 ·rw[bw (fun z=>by subst z;rw[hD]at ec;cases ec)];exact l.keep c o ec n
 ·rw[bw (nc j (by rw[h.n];exact(xat.mp ej).1))];exact eo
noncomputable def NR (K:Fgx) (mg:Mgx) (Wx:XW) (P0:Pl) (H0:Hp) (P:Pl) (H:Hp) (M':Mm) (R:Addr->Hp->Prop):Res->Prop
 |.v d=>∃ds,d=.lst ds/\∀P' a vs H',LtE P H P' H'->Hk K mg P' H' M'->H a=none->P'.bd a->(∀k,k<P'.n->P'.io k≠a)->H' a=some (.lst vs)->au K P' H' ds vs->R a H'
 |.x c n=>Wx P0 H0 M' c n
theorem CK {K:Fgx}{mg:Mgx}{cs:List (Str×Nat)}{fs:EA}{q e:E}{P0 P:Pl}{H0 H:Hp}{Os:List (Option Addr)}{M M':Mm}{st:L2.St}{env:Env}{r:Res}{R:Addr->Hp->Prop}(nd:(cs.map (·.2)).Nodup)
    (k:Ok K mg P0 H0 P Os H M st env) (h:fj cs fs q e env M=some (r,M')) (w:NR K mg Wx P0 H0 P H M' R r):yu (tI K mg Wx fs) (n6 K mg W0 q) (tE K mg W0 .val e) cs st H R:=by
  unfold fj at h;split at h
  · rename_i ds M1 ef;split at h
    rotate_left
    · cases h
    rename_i ys M2 ec;cases h;obtain ⟨ds', e', w⟩ := w;cases e';refine ⟨P0, H0, P, Os, env, M, _, _, k, ef, fun P1 H1 J l1 h1 wk D hD => ?_⟩;obtain ⟨l2, h2, nc⟩ := pI (vs := []) h1 hD;refine ⟨fun i m vs H2=>m=ds.length - i/\i<=ds.length/\∃P2 M3 acc,LtE P1 H1 P2 H2/\Hk K mg P2 H2 M3/\P2.bd D/\(∀k,k<P2.n->P2.io k≠D)/\H2 D=some (.lst vs)/\au K P2 H2 acc vs/\acc.length<sizeLine/\fZ q e (bL cs env) (ds.drop i) acc M3=some (ys,M'),
      ⟨ds.length,by simp,xa8 _,P1.bar D,M1,[],l2,h2,.inr rfl,nc,cN,rfl,by x_go,by rw[xcA];exact ec⟩,?_⟩
    rintro i m vs H2 ⟨rfl,hi,P2,M3,acc,l3,h3,bD,nD,eD,is,hz,ec⟩;refine⟨eD,?_⟩;obtain⟨w1,w2,w3⟩:=wk P2 H2 (l3.lt h1)
    by_cases hlt:i<ds.length
    · refine .inr ⟨w1 i hlt,by rw[is.len];exact hz,fun vs' H'=>∃P2 M3 acc,LtE P1 H1 P2 H'/\Hk K mg P2 H' M3/\P2.bd D/\(∀k,k<P2.n->P2.io k≠D)/\H' D=some (.lst vs')/\au K P2 H' acc vs'/\acc.length<sizeLine/\fZ q e (bL cs env) (ds.drop (i + 1)) acc M3=some (ys,M'),
        fun vs' H' z=>⟨ds.length - (i + 1),by omega,rfl,hlt,z⟩,fun x H' y=>?_⟩
      obtain⟨e3,d,ed,iv⟩:=w3 i x H' y hlt;subst e3;have ed':ds.drop i=d::ds.drop (i + 1):=by
        rw[xaS hlt];rw[xaf hlt]at ed;rw[xas ed]
      rw[ed']at ec;have kk:=((k.next l1 h1).next l3 h3).cap (cs:=cs) nd iv
      simp only[fZ]at ec;split at ec
      · rename_i M4 eq;refine fG kk eq ⟨true,rfl,fun P4 H4 l4 h4=>?_⟩;dsimp only;rw[xaa rfl];split at ec
        · rename_i y' M5 ee;split at ec
          · rename_i hz';refine aY (kk.next l4 h4) ee fun P5 v5 H5 l5 h5 i5=>?_
            have l45:=l4.trans l5;have eD5:H5 D=some (.lst vs):=l45.keep D _ eD (.inr nD);have nD5:∀k,k<P5.n->P5.io k≠D:=l45.nc eD nD;obtain⟨g1,g2,g3⟩:=JK (vs':=vs ++ [v5]) (l3.trans l45) h5 hD (l45.bm D bD) nD5 eD5;refine⟨eD5,P5,M5,acc ++ [y'],g2,g3,l45.bm D bD,nD5,cN,au.append (au.lt ((l45.lt h3).trans g1) is) (au.one (Is.lt g1 i5)),by rw[xaq];exact hz',ec⟩
          · cases ec
        · cases ec
      · rename_i M4 eq;refine fG kk eq ⟨false,rfl,fun P4 H4 l4 h4=>?_⟩;dsimp only;rw[xad (by decide)];exact⟨P4,M4,acc,l3.trans l4,h4,l4.bm D bD,l4.nc eD nD,l4.keep D _ eD (.inr nD),au.lt (l4.lt h3) is,hz,ec⟩
      · cases ec
    · have ei:i=ds.length:=by omega
      subst ei;rw[xcP]at ec;cases ec;exact .inl ⟨w2 _ (xab _) (xab _),w P2 D vs H2 (l1.trans l3) h3 (l1.sure D hD) bD nD eD is⟩
  · rename_i c n M1 ef;cases h;exact⟨P0,H0,P,Os,env,M,_,_,k,ef,w⟩
  · cases h
def SQ (X:Cx)(ifs:List Expr)(q:E):Prop:=gq X ifs (n6 X.K X.mg W0 q)
theorem A_ {c:Expr}{q:E}(h:ST X W0 c q):SQ X [c] q:=VP h
section
variable {elt iter:Expr}{ifs:List Expr}{scope:Scope}{fs:EA}{q e:E}
theorem Gq (x:Str)(cs:List (Str×Nat)){px:Pos}(hc:X.calm=true)(nd:(cs.map (·.2)).Nodup)(hi:SI X Wx (.Name x px) iter fs)
  (hq:∀(cl:List (Str×Addr)) (C:Addr) (s₀:Shared) (H₀:Hp) (ex:List Addr) (pn:Pnx),SQ (cW X (x::cs.map (·.1)) scope cl C s₀ H₀ ex pn) ifs q)
  (he:∀(cl:List (Str×Addr)) (C:Addr) (s₀:Shared) (H₀:Hp) (ex:List Addr) (pn:Pnx),SE (cW X (x::cs.map (·.1)) scope cl C s₀ H₀ ex pn) W0 .val elt e)
  (ok:pN X.N X.env.scope x cs scope=true:=by kernel_rfl) (hs:∀x,foldedSetIterable iter X.env x=pure x:=by intro _;rfl):
  SN X Wx (.ListComp elt [⟨.Name x px,iter,ifs,0⟩] scope pos) (fj cs fs q e):=by
 refine b_ (Vp (tq:=n6 X.K X.mg W0 q) (te:=tE X.K X.mg W0 .val e) x cs hc hi hq he ok hs) ?_;rintro st H Q ⟨P0,H0,P,Os,env,M,r,M',k,e,w⟩;refine CK nd k e ?_
 cases r with
 |v d=>exact w
 |x c n=>exact w
theorem JC {K:Fgx}{mg:Mgx}{P P':Pl}{H H':Hp}{M M':Mm}{a:Addr}{vs:List V}{ds:List D}(k:Hk K mg P H M)(l:LtE P H P' H')(h:Hk K mg P' H' M')(ha:H a=none)(nc:∀j,j<P'.n->P'.io j≠a)(ea:H' a=some (.lst vs))(is:au K P' H' ds vs):
  LtE P H (P'.less (· ≠a)) H'/\Hk K mg (P'.less (· ≠a)) H' M'/\Is K (P'.less (· ≠a)) H' (.lst ds) (.ref a):=by
 have l2 : Lt P' H' (P'.less (· ≠ a)) H' := ⟨xab _, fun _ _ => rfl, fun c z => .inl z.1, fun _ _ e _ => e, fun _ z => z⟩;exact ⟨⟨l.n,l.io,fun b z=>l.bd b z.1,fun b z=>⟨l.bm b z,fun q=>k.here b z (q ▸ ha)⟩,l.keep,l.sure,l.nw⟩,
  ⟨h.n,fun j c e=>(h.cell j c e).lt l2 fun _ z=>z,h.inj,fun j hj=>⟨h.bd j hj,nc j hj⟩,fun b z=>h.here b z.1⟩,
  a,vs,rfl,.inl ⟨fun z=>z.2 rfl,.inl ea⟩,au.less is⟩
theorem zaH (x:Str)(cs:List (Str×Nat)){px py spos:Pos}{y:Str}{i:Nat}(hN:X.N.Nodup)(hk:X.N[i]? =some y)(hy:Loc X.env.scope y)(hc:X.calm=true)(nd:(cs.map (·.2)).Nodup)(hi:SI X Wx (.Name x px) iter fs)
  (hq:∀(cl:List (Str×Addr)) (C:Addr) (s₀:Shared) (H₀:Hp) (ex:List Addr) (pn:Pnx),SQ (cW X (x::cs.map (·.1)) scope cl C s₀ H₀ ex pn) ifs q)
  (he:∀(cl:List (Str×Addr)) (C:Addr) (s₀:Shared) (H₀:Hp) (ex:List Addr) (pn:Pnx),SE (cW X (x::cs.map (·.1)) scope cl C s₀ H₀ ex pn) W0 .val elt e)
  (ok:pN X.N X.env.scope x cs scope=true:=by kernel_rfl) (hs:∀x,foldedSetIterable iter X.env x=pure x:=by intro _;rfl)
  (hsw:swapsWith (.ListComp elt [⟨.Name x px,iter,ifs,0⟩] scope pos) (some (.Name y py)) spos.line X.env=pure true:=by rfl)
  (hf:X.fn y=true\/X.env.scope.names.lookup y=some .local:=by first |exact .inl rfl |exact .inr rfl):
  SS X Wx (.Assign [.Name y py] (.ListComp elt [⟨.Name x px,iter,ifs,0⟩] scope pos) spos) (aM i (fj cs fs q e)):=by
 refine gb (La (tq:=n6 X.K X.mg W0 q) (te:=tE X.K X.mg W0 .val e) x cs hN hk hy hc hi hq he ok hs hsw hf) ?_;rintro D st H ⟨P0,H0,P,Os,env,M,out,M',k,ee,w⟩;unfold aM at ee;rcases iB ee with⟨d,M1,e1,ee⟩ |⟨c,n,e1,rfl⟩
 ·obtain⟨ds,rfl⟩:=yU _ _ _ _ e1;split at ee
  ·rename_i hl;cases ee;refine CK nd k e1 ⟨ds,rfl,fun P1 a vs H1 l1 h1 ha ba nc ea is=>?_⟩;obtain⟨l2,h2,i2⟩:=JC k.hk l1 h1 ha nc ea is;exact w _ _ _ _ (l2.lt k.hk) ((k.next l2 h2).asg hl i2)
  ·cases ee
 ·exact CK nd k e1 w
end
end
noncomputable def toKey:D->Option Key
 |.int i=>some (.inl i)
 |.str z=>some (.inr z)
 |_=>none
section
variable {K:Fgx}{mg:Mgx}{P:Pl}{H:Hp}{M:Mm}
theorem key_is {d:D}{v:V}{k:Key}(h:toKey d=some k)(i:Is K P H d v):v=kV k:=by
 unfold toKey at h;split at h
 ·cases h;cases i;rfl
 ·cases h;cases i;rfl
 ·cases h
end
section
variable {X:Cx}{Wx:XW}{m:Mode}{pos:Pos}
inductive ResP where
 |v (ps:List (D×D)) |x (c:Str) (n:Int)
theorem Ov {K:Fgx}{mg:Mgx}{P:Pl}{H:Hp}{M:Mm}{p:Addr}{o:HO}(h:Hk K mg P H M)(hp:H p=none):LtE P H (P.bar p) (upd H p o)/\Hk K mg (P.bar p) (upd H p o) M/\∀k,k<P.n->P.io k≠p:=by
 have s:=tX (o:=o) hp;have nc:∀k,k<P.n->P.io k≠p:=fun k hk z=>h.here _ (h.bd k hk) (z ▸ hp);have l:LtE P H (P.bar p) (upd H p o):=⟨xab _,fun _ _=>rfl,fun a z=>Or.imp (fun q=>q) (fun(q:a=p)=>by rw[q];exact hp) z,fun a z=>.inl z,fun a o e _=>s a o e,fun a z=>s.free z,fun k h1 h2=>absurd h1 (xdu.mpr h2)⟩;refine⟨l,⟨h.n,fun k c e=>(h.cell k c e).lt (l.lt h) fun u eu=>s _ _ eu,h.inj,fun k hk=>.inl (h.bd k hk),fun a z q=>?_⟩,nc⟩;rcases z with z |z
 ·exact h.here a z (s.free q)
 ·subst z;rw[cN]at q;cases q
theorem O9 {K:Fgx}{mg:Mgx}{P0 P:Pl}{H0 H:Hp}{M:Mm}{a:Addr}{o o':HO}{c:Cl}(l:LtE P0 H0 P H)(h:Hk K mg P H M)(ha:H0 a=none)(ba:P.bd a)(nc:∀k,k<P.n->P.io k≠a)(ea:H a=some o)(nf:¬ Fx o)(hc:∀P',Lt P H P' (upd H a o')->rZ K mg P' (upd H a o') a c):
  ∃P',LtE P0 H0 P' (upd H a o')/\Hk K mg P' (upd H a o') (M ++ [c])/\Is K P' (upd H a o') (.ref M.length) (.ref a):=by
 have hn:P.n=M.length:=h.n
 let P2:Pl:={io:=fun j=>if j=P.n then a else P.io j,n:=P.n + 1,bd:=P.bd}
 have io:∀j,j<P.n->P2.io j=P.io j:=fun j hj=>xad (by omega);have ioN:P2.io P.n=a:=xaa rfl;have lc:Lt P H P (upd H a o'):=pZ ba ea nf;have l2:Lt P H P2 (upd H a o'):=⟨xch _,io,fun _ z=>.inl z,lc.keep,lc.sure⟩;refine⟨P2,⟨xcG l.n,fun j hj=>(io j (xal hj l.n)).trans (l.io j hj),l.bd,l.bm,fun b u e z=>?_,fun b z=>l.sure b (lc.sure b z),fun j h2 h3=>?_⟩,⟨by rw[xaq, <-hn];rfl,fun j d ej=>?_,fun i j hi hj e=>?_,fun j hj=>?_,fun b z q=>h.here b z (lc.sure b q)⟩,?_⟩
 ·rw[bw (fun z=>by subst z;rw[ha]at e;cases e)];exact l.keep b u e z
 ·rcases xaO j P.n with z |z
  ·rw[io j z];exact l.nw j h2 z
  ·have:j=P.n:=xbj (xbe h3) z;rw[this,ioN];exact ha
 ·rcases xaO j P.n with z |z
  ·rw[xaA (by rw[<-hn];exact z)]at ej;rw[io j z];exact(h.cell j d ej).lt l2 fun u eu=>by rw[bw (nc j z)];exact eu
  ·have jl:=(xat.mp ej).1;rw[xaq,xbh, <-hn]at jl;have:j=P.n:=by omega
   subst this;rw[xaw (by rw[hn];exact xab _),hn,xcv]at ej;cases ej;rw[ioN];exact hc P2 l2
 ·rcases xaO i P.n with z |z
  ·rcases xaO j P.n with y |y
   ·rw[io i z,io j y]at e;exact h.inj i j z y e
   ·have:j=P.n:=xbj (xbe hj) y;rw[io i z,this,ioN]at e;exact absurd e (nc i z)
  ·have iN:i=P.n:=xbj (xbe hi) z;rcases xaO j P.n with y |y
   ·rw[iN,ioN,io j y]at e;exact absurd e.symm (nc j y)
   ·rw[iN];exact xbj y (xbe hj)
 ·rcases xaO j P.n with z |z
  ·rw[io j z];exact h.bd j z
  ·have:j=P.n:=xbj (xbe hj) z;rw[this,ioN];exact ba
 ·exact⟨by show _<P.n + 1;rw[hn];exact xb5 _,by rw[<-hn,ioN]⟩
noncomputable def dJ (M:Mm) (d:D):String:=match d with
  | .ref k => (match M[k]? with
    |some (.lst _)=>"list"
    |some (.dct _)=>"dict"
    |_=>"")
  |d=>yG d
noncomputable def fu (tb:String->String->Option Bool) (T:String) (f:E):E:=fun env M=>bnd (f env M) fun d M1=>if dJ M1 d="" then none else(tb (dJ M1 d) T).map fun b=>(.v (.bl b),M1)
theorem OJ:cZ X (.builtin "isinstance") (fun xs H Q=>∃(x:V) (T:String) (d:D) (P:Pl) (M:Mm) (b:Bool),xs=[x,.ty T]/\Hk X.K X.mg P H M/\bQ X.K P H d x/\dJ M d≠""/\PySem.W.kitOne X.K (.type (dJ M d)) (.type T)=some b/\Q (.bl b) H):=by
  intro pins s σ H xs us Q I r h;obtain⟨x,T,d,P,M,b,rfl,hk,i,ne,e,q⟩:=h;have old:dJ M d=yG (vw M d)->wpAny (model X.prog X.w) X.A (call (.builtin "isinstance") us) (EP X pins σ Q) X.xe s:=fun et=>by
    rw[et]at ne e;exact Oz pins s σ H _ us Q I r ⟨x,T,vw M d,P,b,rfl,bQ.vw hk i,ne,e,q⟩
  cases d with
  |ref k=>
    cases em:M[k]? with
    |none=>simp[dJ,em]at ne
    |some c=>
      cases c with
      |lst ds=>exact old (by simp[dJ,vw,em,yG])
      |obj c fs=>simp[dJ,em]at ne
      |dcf kvs=>simp[dJ,em]at ne
      |dtf kvs=>simp[dJ,em]at ne
      |fn i caps=>simp[dJ,em]at ne
      |tbl nm i=>simp[dJ,em]at ne
      |dct kvs=>
        obtain⟨u,w',rfl,rx,rT⟩:=vals2 r;cases rT;obtain⟨kl,rfl⟩:k<P.n/\x=.ref (P.io k):=i;cases rx;obtain⟨vs,ev,_⟩:=hk.cell k _ em;obtain⟨_,_,vs',_,o,es,ep,h1,h2,_⟩:=I.hok _ _ ev;simp only[dJ,em]at e;exact xaQ xdp I.kIn ⟨o,h1,h2.1⟩ e (fun z=>nomatch z) fun tk=>⟨.bl b,H,I.tok _,rfl,q⟩
      |dtc kvs=>simp[dJ,em]at ne
  |non=>exact old rfl
  |bl _=>exact old rfl
  |int _=>exact old rfl
  |str _=>exact old rfl
  |tup _=>exact old rfl
  |lst _=>exact old rfl
theorem xX {e:Expr}{f:E}{T:String}{tb:String->String->Option Bool}{p p':Pos}(ht:∀t b,tb t T=some b->PySem.W.kitOne X.K (.type t) (.type T)=some b)(he:SE X Wx .bor e f)(hg:Gl X "isinstance")(hm:X.mg "isinstance"=none)(hg':Gl X (Str.ofString T))(hm':X.mg (Str.ofString T)=none)(hT:bootBuiltins (Str.ofString T)=some (.type T))
  (n1:Str.ofString T≠"__name__":=by x_go) (n2:(Str.ofString T==("__debug__":Str))=false:=by x_go) (hs:starEach [e,.Name (Str.ofString T) p'] X.env=(false,eval e X.env)::starEach [.Name (Str.ofString T) p'] X.env:=by rfl):
  SE X Wx m (.Call (.Name "isinstance" p) [e,.Name (Str.ofString T) p'] [] pos) (fu tb T f):=by
 have pT:PE X (.Name (Str.ofString T) p') (tC (.ty T)):=Vm hg' hm' hT rfl n1 n2;refine b_ (Ey OJ hg hm boot_isinstance (lN he (lN pT nR) hs) (by x_go) (by x_go) hs rfl) ?_;rintro st H Q ⟨P0,H0,P,Os,env,M,r,M',k,e,q⟩;unfold fu at e;rcases bU e with⟨d,M1,e1,e⟩ |⟨c,n,e1,rfl⟩
 ·split at e
  ·cases e
  ·rename_i hne;rw[xag]at e;obtain⟨b,eb,e⟩:=e;cases e;exact aY k e1 fun P1 v1 H1 l1 h1 i1=>⟨v1,T,d,P1,_,b,rfl,h1,i1,hne,ht _ _ eb,q P1 _ H1 l1 h1 (cF.of h1 (show Is _ _ _ (.bl b) _ from rfl))⟩
 ·exact aY k e1 q
end
section
variable {X:Cx}{Wx:XW}{m:Mode}{pos:Pos}
noncomputable def mL (c:E) (b:S):Nat->Env->Mm->OS
  |0,_,_=>none
  |n + 1,env,M=>match c env M with
    | some (.v (.bl true), M1) => (match b env M1 with
      |some (.nx e,M2)=>mL c b n e M2
      |some (.ct e,M2)=>mL c b n e M2
      |some (.bk e,M2)=>some (.nx e,M2)
      |some (.rt d,M2)=>some (.rt d,M2)
      |some (.ex x k,M2)=>some (.ex x k,M2)
      |none=>none)
    |some (.v (.bl false),M1)=>some (.nx env,M1)
    |some (.x x k,M1)=>some (.ex x k,M1)
    |_=>none
def xU (n:Nat)(c:E)(b:S):S:=fun env M=>mL c b n env M
theorem zas (n:Nat){c:Expr}{body:List Stmt}{t:E}{b:S}(hp:PassesOwn (model X.prog X.w) X.A X.env X.xe)(hc:ST X Wx c t)(hb:SB X Wx body b):SS X Wx (.While c body [] pos) (xU n t b):=by
  refine gb (V9 hp hc hb) ?_;rintro D st H ⟨P0,H0,P,Os,env,M,out,M',k,e,q⟩;refine⟨fun m σ H1=>∃P1 Os1 M1 env1,Lt P H P1 H1/\Ok X.K X.mg P0 H0 P1 Os1 H1 M1 σ env1/\mL t b m env1 M1=some (out,M'),⟨n,P,Os,M,env,Lt.refl _ _,k,e⟩,?_⟩;rintro m σ H1 ⟨P1,Os1,M1,env1,lt,k1,e1⟩
  cases m with
  |zero=>cases e1
  |succ m=>
    simp only[mL]at e1;split at e1
    · rename_i M2 ec;refine fG k1 ec ⟨true,rfl,fun P2 H2 l2 h2=>?_⟩;dsimp only;rw[xaa rfl];have k2:=k1.next l2 h2
      have lt2:=lt.trans (l2.lt k1.hk);refine⟨fun σ' H'=>∃P1 Os1 M1 env1,Lt P H P1 H'/\Ok X.K X.mg P0 H0 P1 Os1 H' M1 σ' env1/\mL t b m env1 M1=some (out,M'),fun σ' H' z=>⟨m,xb5 m,z⟩,?_⟩;split at e1
      · rename_i e' M3 eb;exact⟨P0,H0,P2,Os1,env1,M2,_,_,k2,eb,fun P' Os2 H2 st2 l2 k3=>⟨P',Os2,_,e',lt2.trans l2,k3,e1⟩⟩
      · rename_i e' M3 eb;exact⟨P0,H0,P2,Os1,env1,M2,_,_,k2,eb,fun P' Os2 H2 st2 l2 k3=>⟨P',Os2,_,e',lt2.trans l2,k3,e1⟩⟩
      · rename_i e' M3 eb;cases e1;exact⟨P0,H0,P2,Os1,env1,M2,_,_,k2,eb,fun P' Os2 H2 st2 l2 k3=>q P' Os2 H2 st2 (lt2.trans l2) k3⟩
      · rename_i d M3 eb;cases e1;exact⟨P0,H0,P2,Os1,env1,M2,_,_,k2,eb,q⟩
      · rename_i x k' M3 eb;cases e1;exact⟨P0,H0,P2,Os1,env1,M2,_,_,k2,eb,q⟩
      · cases e1
    · rename_i M2 ec;cases e1;refine fG k1 ec ⟨false,rfl,fun P2 H2 l2 h2=>?_⟩;dsimp only;rw[xad (by decide)];exact q P2 Os1 H2 σ (lt.trans (l2.lt k1.hk)) (k1.next l2 h2)
    · rename_i x k' M2 ec;cases e1;exact fG k1 ec q
    · cases e1
noncomputable def dR:List Nat->List D->Env->Option Env
 | [],[],env=>some env
 |i::is,d::ds,env=>if i<env.length then dR is ds (env.set i (.val d)) else none
 |_,_,_=>none
def SG (X:Cx)(ts:List Expr)(is:List Nat):Prop:=∃t,vh X ts t/\∀P0 H0 P Os st H M env env' ds vs Q,Ok X.K X.mg P0 H0 P Os H M st env->au X.K P H ds vs->dR is ds env=some env'->(∀Os' st',Ok X.K X.mg P0 H0 P Os' H M st' env'->Q st' H)->t vs st H Q
theorem Mv : SG X [] [] := ⟨_,VG,fun P0 H0 P Os st H M env env' ds vs Q k is e q=>by
 cases ds with
 |nil=>cases e;exact⟨is,q _ _ k⟩
 |cons d ds=>cases e⟩
theorem tY {i:Nat}{is:List Nat}{x:Str}{ts:List Expr}{p:Pos}(hN:X.N.Nodup)(hi:X.N[i]? =some x)(hx:Loc X.env.scope x)(hr:SG X ts is)(hf:X.fn x=true\/X.env.scope.names.lookup x=some .local:=by first |exact .inl rfl |exact .inr rfl)
    (hs:(assignEach (.Name x p::ts) X.env).map (·.2)=assign (.Name x p) X.env::(assignEach ts X.env).map (·.2):=by rfl):SG X (.Name x p::ts) (i::is):=by
  obtain⟨t,h1,h2⟩:=hr;refine⟨_,VF (K4 hN hi hx hf) h1 hs,fun P0 H0 P Os st H M env env' ds vs Q k is e q=>?_⟩
  cases ds with
  |nil=>cases e
  |cons d ds=>
    obtain⟨v,r,rfl,iv,is⟩:=is;simp only[dR]at e;split at e
    · rename_i hl;exact⟨v,r,rfl,h2 _ _ _ _ _ _ _ _ _ _ _ _ (k.asg hl iv) is e q⟩
    · cases e
noncomputable def mY (is:List Nat) (f:E):S:=fun env M=>cO (f env M) fun d M1=>match d with
 |.tup ds=>if ds.length=is.length then(dR is ds env).map fun e=>(.nx e,M1) else none
 |_=>none
theorem zba {ts:List Expr}{is:List Nat}{e:Expr}{f:E}{n:Nat}{p:Pos}(hc:X.calm=true)(hg:SG X ts is)(he:SE X Wx .val e f)(hn:(assignEach ts X.env).length=is.length:=by rfl)(hst:(assignEach ts X.env).findIdx? (·.1)=none:=by rfl)
  (hs:swapsWithSole [.Tuple ts n p] e pos.line X.env=pure false:=by rfl) (hw:swappedStores [.Tuple ts n p] e X.env=pure none:=by rfl) (h1:(assignEach [.Tuple ts n p] X.env).map (·.2)=[assign (.Tuple ts n p) X.env]:=by rfl):
  SS X Wx (.Assign [.Tuple ts n p] e pos) (mY is f):=by
 obtain⟨t,hp,ht⟩:=hg;refine gb (V4 he (K5 (n:=is.length) hc hp hn hst) hs hw h1) ?_;rintro D st H ⟨P0,H0,P,Os,env,M,out,M',k,e,q⟩;unfold mY at e;rcases iB e with⟨d,M1,e1,e⟩ |⟨c,n,e1,rfl⟩
 ·cases d<;>simp only[reduceCtorEq]at e
  rename_i ds;split at e
  ·rename_i hl;rw[xag]at e;obtain⟨env',ee,e⟩:=e;cases e;refine aY k e1 fun P1 v1 H1 l1 h1 i1=>?_;obtain⟨a,vs,rfl,sq,is'⟩:=i1;exact⟨a,vs,rfl,sq,by rw[is'.len];exact hl,ht _ _ _ _ _ _ _ _ _ _ _ _ (k.next l1 h1) is' ee fun Os' st' k'=>q _ _ _ _ (l1.lt k.hk) k'⟩
  ·cases e
 ·exact aY k e1 q
end
end E3
namespace E3
open PySem L2
section
variable {env:Env}{M M1 M2:Mm}{f g o v:E}{d e x:D}{i:Int}{k:Nat}{ds es:List D}{s t:S}{z:Str}{fa:EA}{b:Bool}
noncomputable def CJ:Option (List D×Mm)->O
 |some (ys,M)=>some (.v (.lst ys),M)
 |none=>none
noncomputable def Iz (q e:E) (env:Env):Option (ResA×Mm)->O
 |some (.v ds,M1)=>CJ (fZ q e env ds [] M1)
 |some (.x c n,M1)=>some (.x c n,M1)
 |none=>none
theorem zX {cs:List (Str×Nat)}{q e:E}:fj cs fa q e env M=Iz q e (bL cs env) (fa env M):=rfl
theorem z6 {q e:E}:Iz q e env (some (.v ds,M))=CJ (fZ q e env ds [] M):=rfl
theorem z7:CJ (some (ds,M))=some (.v (.lst ds),M):=rfl
theorem vL {q e : E} (F : D -> Option D) : ∀ (ds acc : List D), (∀d∈ds,match F d with
    |some y=>q (.val d::env) M=some (.v (.bl true),M)/\e (.val d::env) M=some (.v y,M)
    |none=>q (.val d::env) M=some (.v (.bl false),M))->acc.length + ds.length<sizeLine->fZ q e env ds acc M=some (acc ++ ds.filterMap F,M)
  | [],acc,_,_=>by simp[fZ]
  |d::ds,acc,h,hl=>by
    have hd:=h d (by simp);have hr:∀acc',acc'.length + ds.length<sizeLine->fZ q e env ds acc' M=some (acc' ++ ds.filterMap F,M):=fun acc' hl'=>vL F ds acc' (fun d' hd'=>h d' (by simp[hd'])) hl';rw[xaF]at hl
    cases hF:F d with
    |none=>
      rw[hF]at hd;simp only[fZ,hd,xbC,hF];exact hr acc (by omega)
    |some y=>
      rw[hF]at hd;simp only[fZ,hd.1,hd.2,xbC,hF];rw[xaa (by omega),hr (acc ++ [y]) (by rw[xaq,xbh];omega)]
      simp
theorem WM:bL [] env=[]:=rfl
theorem WL {x:Str}{n:Nat}{cs:List (Str×Nat)}:bL ((x,n)::cs) env=(env[n]?).getD .un::bL cs env:=rfl
noncomputable def d9 (tb:String->String->Option Bool) (T:String) (M:Mm) (ty:String):O:=if ty="" then none else(tb ty T).map fun b=>(.v (.bl b),M)
noncomputable def wH (tb:String->String->Option Bool) (T:String) (r:O):O:=bnd r fun d M=>d9 tb T M (dJ M d)
theorem W4 {tb:String->String->Option Bool}{T:String}:fu tb T f env M=wH tb T (f env M):=rfl
theorem Yq {tb:String->String->Option Bool}{T:String}:wH tb T (some (.v d,M))=d9 tb T M (dJ M d):=rfl
theorem ty_int:dJ M (.int i)="int":=rfl
theorem ty_str:dJ M (.str z)="str":=rfl
theorem zbL:dJ M (.bl b)="bool":=rfl
theorem zbf:dJ M .non="NoneType":=rfl
theorem zbc:dJ M (.tup ds)="tuple":=rfl
theorem zbr:dJ M (.lst ds)="list":=rfl
theorem zbR {tb:String->String->Option Bool}{T:String}:d9 tb T M "int"=(tb "int" T).map fun b=>(.v (.bl b),M):=rfl
theorem zbP {tb:String->String->Option Bool}{T:String}:d9 tb T M "str"=(tb "str" T).map fun b=>(.v (.bl b),M):=rfl
theorem Hh {tb:String->String->Option Bool}{T:String}:d9 tb T M "bool"=(tb "bool" T).map fun b=>(.v (.bl b),M):=rfl
theorem zbO {tb:String->String->Option Bool}{T:String}:d9 tb T M "NoneType"=(tb "NoneType" T).map fun b=>(.v (.bl b),M):=rfl
theorem zbW {tb:String->String->Option Bool}{T:String}:d9 tb T M "tuple"=(tb "tuple" T).map fun b=>(.v (.bl b),M):=rfl
theorem zbG {tb:String->String->Option Bool}{T:String}:d9 tb T M "list"=(tb "list" T).map fun b=>(.v (.bl b),M):=rfl
theorem zbN {tb:String->String->Option Bool}{T:String}:d9 tb T M "dict"=(tb "dict" T).map fun b=>(.v (.bl b),M):=rfl
theorem NT {c:E}{b:S}(Q:OS->Prop)(J:Nat->Env->Mm->Prop){n:Nat}(h0:∃m,m<n/\J m env M)
    (hs:∀m env M,J m env M->∃y M1,c env M=some (.v (.bl y),M1)/\if y=true then Step (fun e M=>∃m',m'<m/\J m' e M) Q (b env M1) else Q (some (.nx env,M1))):Q (xU n c b env M):=by
  have key:∀(n m:Nat) (env:Env) (M:Mm),m<n->J m env M->Q (mL c b n env M):=by
    intro n
    induction n with
    |zero=>intro m env M h;exact absurd h (xcf _)
    |succ n ih=>
      intro m env M hm hJ;obtain⟨y,M1,h1,h2⟩:=hs m env M hJ
      cases y with
      |false=>simp only[mL,h1];exact h2
      |true=>
        simp only[mL,h1];rw[xaa rfl]at h2
        cases eb:b env M1 with
        |none=>rw[eb]at h2;exact h2.elim
        |some o=>
          rw[eb]at h2;obtain⟨o,M'⟩:=o
          cases o with
          |nx e'=>obtain⟨m',h3,h4⟩:=h2;exact ih m' e' M' (by omega) h4
          |ct e'=>obtain⟨m',h3,h4⟩:=h2;exact ih m' e' M' (by omega) h4
          |bk e'=>exact h2
          |rt d=>exact h2
          |ex c n=>exact h2
  obtain⟨m,h1,h2⟩:=h0;exact key n m env M h1 h2
noncomputable def yH (is:List Nat) (env:Env) (M:Mm):D->OS
 |.tup ds=>if ds.length=is.length then(dR is ds env).map fun e=>(.nx e,M) else none
 |_=>none
theorem Xm {is:List Nat}:mY is f env M=cP (fun d M1=>yH is env M1 d) (f env M):=rfl
theorem YX {is:List Nat}:yH is env M (.tup ds)=if ds.length=is.length then(dR is ds env).map fun e=>(.nx e,M) else none:=rfl
theorem Xg:dR [] [] env=some env:=rfl
theorem Xh {n:Nat}{is:List Nat}:dR (n::is) (d::ds) env=if n<env.length then dR is ds (env.set n (.val d)) else none:=rfl
end
end E3
namespace L2
open PySem PySem.Spec PyProof.Rows
end L2
namespace E3
open PySem PySem.Spec PyProof.Rows L2
section
variable {es:List Expr}{env:PySem.Env}{pos:Pos}
theorem cU {c:Const}{k:Nat}:starEach (.Constant c k pos::es) env=(false,eval (.Constant c k pos) env)::starEach es env:=by rfl
theorem aV {x:Str}:starEach (.Name x pos::es) env=(false,eval (.Name x pos) env)::starEach es env:=by rfl
theorem gK {a b:Expr}{o:Operator}:starEach (.BinOp a o b pos::es) env=(false,eval (.BinOp a o b pos) env)::starEach es env:=by rfl
theorem m7 {f:Expr}{as:List Expr}{ks:List Keyword}:starEach (.Call f as ks pos::es) env=(false,eval (.Call f as ks pos) env)::starEach es env:=by rfl
theorem gk {a b:Expr}:starEach (.Subscript a b pos::es) env=(false,eval (.Subscript a b pos) env)::starEach es env:=by rfl
theorem Ba {as:List Expr}{k:Nat}:starEach (.Tuple as k pos::es) env=(false,eval (.Tuple as k pos) env)::starEach es env:=by rfl
theorem zad {a:Expr}{gs:List Comprehension}{sc:Scope}:starEach (.ListComp a gs sc pos::es) env=(false,eval (.ListComp a gs sc pos) env)::starEach es env:=by rfl
end
end E3
namespace L2
open PySem PySem.Spec PyProof.Rows
end L2
namespace E3
open PySem PySem.Spec PyProof.Rows L2
structure XPass (X:Cx)(Wx:XW):Prop where
 xc:∀pins σ H s a C dx T c n P0 H0 P M,Caught X pins σ H s a C dx T->LtE P0 H0 P H->Hk X.K X.mg P H M->X.mg c=some (.ref C)->XN H n dx->Wx P0 H0 M c n->X.xe (.ref a) s
section
variable {K:Fgx}{P:Pl}{H:Hp}
noncomputable def mG:List D->Option (List Int)
 | []=>some []
 |.int i::ds=>(mG ds).map (i:: ·)
 |_::_=>none
theorem zu:∀{ds:List D} {is:List Int} {vs:List V},mG ds=some is->au K P H ds vs->vs=is.map V.int
  | [],_,_,e,h=>by cases e;exact h
  |d::ds,is,vs,e,h=>by
    obtain⟨v,r,rfl,i,h⟩:=h
    cases d with
    |int n=>
      simp only[mG,xag]at e;obtain⟨is',e',rfl⟩:=e;cases i;rw[zu e' h];rfl
    |_=>simp[mG]at e
theorem ints_map:∀(is:List Int),mG (is.map D.int)=some is
 | []=>rfl
 |i::is=>by simp[mG,ints_map is]
noncomputable def fP:List D->Option D
 | [.int i]=>if i.natAbs.log2<1920 then some (.str (toString i)) else none
 |_=>none
theorem Fd:gW K (fun xs H Q=>∃i,xs=[.int i]/\i.natAbs.log2<1920/\Q (.str (toString i)) H) fP:=fun P H ds z vs Q h i _ q=>by
 unfold fP at h;split at h
 ·split at h
  ·rename_i hl;obtain⟨v,ws,rfl,p,rfl⟩:=i;cases h;cases p;exact⟨_,rfl,hl,q _ H (Same.refl H) rfl⟩
  ·cases h
 ·cases h
noncomputable def dX:List D->Option D
 | [.str z]=>if z.length<=640 then(intText? z).map .int else none
 |_=>none
theorem Ld:gW K (fun xs H Q=>∃z n,xs=[.str z]/\intText? z=some n/\z.length<=640/\Q (.int n) H) dX:=fun P H ds z vs Q h i _ q=>by
 unfold dX at h;split at h
 ·split at h
  ·rename_i hl;rw[xag]at h;obtain⟨n,en,rfl⟩:=h;obtain⟨v,ws,rfl,p,rfl⟩:=i;cases p;exact⟨_,n,rfl,en,hl,q _ H (Same.refl H) rfl⟩
  ·cases h
 ·cases h
noncomputable def h_:List D->Option D
 | [.lst ds]=>(mG ds).map fun is=>.int is.sum
 |_=>none
theorem Wn:gW K (fun xs H Q=>∃(p:Addr) (is:List Int),xs=[.ref p]/\bC K H p (is.map V.int)/\Q (.int is.sum) H) h_:=fun P H ds z vs Q h i _ q=>by
 unfold h_ at h;split at h
 ·rw[xag]at h;obtain⟨is,ei,rfl⟩:=h;obtain⟨v,ws,rfl,p,rfl⟩:=i;obtain⟨a,us,rfl,r,s⟩:=p;rw[zu ei s]at r;exact⟨a,is,rfl,r,q _ H (Same.refl H) rfl⟩
 ·cases h
end
section
variable {X:Cx}{Wx:XW}{m:Mode}{pos:Pos}
def Hw (K:Fgx)(r:V->List V->Hp->VK->Prop)(o:Str->List D->Option D):Prop:=∀(P:Pl) (H:Hp) (y:Str) (ds:List D) (z:D) (vs:List V) (Q:VK),o y ds=some z->lW K P H ds vs->(∀p,H p=none->¬ P.bd p)->(∀u H',Same H H'->Is K P H' z u->Q u H')->r (.str y) vs H Q
noncomputable def z8 (o:Str->List D->Option D) (f:E) (fs:EA):E:=fun env M=>bnd (f env M) fun d M1=>match d with
 |.str y=>dh (fs env M1) fun ds M2=>(o y (ds.map (vw M2))).map fun z=>(.v z,M2)
 |_=>none
theorem Zv {a e:Expr}{es:List Expr}{name:Str}{id:String}{r:V->List V->Hp->VK->Prop}{o:Str->List D->Option D}{f:E}{fs:EA}{p:Pos}(slot:PySem.Slot "str" name id)(hty:typeOf (.builtin id)=pure (.type "method_descriptor"))(hm:yL X id r)(po:Hw X.K r o)(ha:SE X Wx .val a f)(hs:SA X Wx .bor (e::es) fs)
  (hbase:attributeBase a name X.env (eval a X.env)=eval a X.env:=by rfl)
  (hfew:((backTo pos (starEach (e::es) X.env)).all (fun x=> !x.1) && (backToKw pos (keywordEach [] X.env)).all (fun x=>x.1.isSome) && decide ((e::es).length + ([]:List Keyword).length + (if ([]:List Keyword).isEmpty then 0 else 1)<30))=true:=by rfl)
  (hline:(p.endLine==pos.line)=true:=by rfl) (hst:starEach (e::es) X.env=(false,eval e X.env)::starEach es X.env:=by rfl) (hplain:(backTo pos (starEach es X.env)).any (·.1)=false:=by rfl):
  SE X Wx m (.Call (.Attribute a name p) (e::es) [] pos) (z8 o f fs):=by
 refine b_ (zV PySem.F.plainAttrs_str slot hty hm ha hs hbase hfew hline hst hplain) ?_;rintro st H Q ⟨P0,H0,P,Os,env,M,r,M',k,e,q⟩;unfold z8 at e;rcases bU e with⟨d,M1,e1,e⟩ |⟨c,n,e1,rfl⟩
 ·cases d<;>simp only[reduceCtorEq]at e
  rename_i y;refine aY k e1 fun P1 v1 H1 l1 h1 i1=>?_;have k1:=k.next l1 h1
  cases i1;refine⟨rfl,?_⟩;rcases pK e with⟨ds,M2,e2,e⟩ |⟨c,n,e2,rfl⟩
  ·rw[xag]at e;obtain⟨z,ez,e⟩:=e;cases e;exact⟨P0,H0,P1,Os,env,M1,_,_,k1,e2,fun P2 vs H2 l2 h2 i2=>po P2 H2 y _ z vs Q ez (cD.w h2 i2) h2.new fun u H' s i=>q P2 u H' (l1.trans (l2.trans (LtE.same s))) (h2.same s) (cF.of (h2.same s) i)⟩
  ·exact⟨P0,H0,P1,Os,env,M1,_,_,k1,e2,q⟩
 ·exact aY k e1 q
noncomputable def yw (z:Str):List D->Option D
  | [.str y]=>match Builtin.Str.occurrences z y 0 z.length 1 with
    |i::_=>some (.int (i:Nat))
    | []=>none
  |_=>none
theorem Wh {K:Fgx}:Hw K Lh yw:=fun P H y ds z vs Q h i _ q=>by
 unfold yw at h;split at h
 ·split at h
  ·rename_i eo;cases h;obtain⟨v,ws,rfl,p,rfl⟩:=i;cases p;exact⟨_,_,_,_,rfl,rfl,eo,q _ H (Same.refl H) rfl⟩
  ·cases h
 ·cases h
end
def nU:S:=fun _ _=>none
theorem zaI {X:Cx}{Wx:XW}{s:Stmt}(h:PS X s fun _ _ _=>False):SS X Wx s nU:=gb h fun D st H ⟨_,_,_,_,_,_,_,_,_,e,_⟩=>by cases e
theorem V6 {X:Cx}{s:Stmt}:PS X s fun _ _ _=>False:=fun pins s σ H D I h=>h.elim
theorem t_ {X:Cx}{Wx:XW}{s:Stmt}:SS X Wx s nU:=zaI V6
inductive KRows (K:Fgx)(w:World):List (Str×D)->List DictEntry->List (Key×Value)->Prop
 |nil:KRows K w [] [] []
 |cons {z:Str} {d:D} {t:Tok} {u:Value} {v:V} {hs:Int} {tb:List (Str×D)} {es:List DictEntry} {vs:List (Key×Value)}:hs=hashStr w z->RelV v u->(∀P H,Is K P H d v)->KRows K w tb es vs->KRows K w ((z,d)::tb) (⟨hs,.str z t,u⟩::es) ((.inr z,u)::vs)
def KTab (K:Fgx)(w:World)(a:Addr)(tb:List (Str×D)):Prop:=∃o es ep vs,K.lookup a=some o/\o.ExactDict/\o.data=.dict es ep/\KRows K w tb es.toList vs/\(tb.map (·.1)).Nodup/\(a==sysModules)=false
end E3
namespace L2
open PySem PySem.Spec PyProof.Rows
def zb5 (h:Heap)(a t:Addr)(i:Int):Prop:=∃o,h.get? a=some o/\o.cls=.type "reversed"/\o.data=.fields #[.ref t,rawInt i]
end L2
namespace E3
open PySem PySem.Spec PyProof.Rows L2
section
variable {X:Cx}{Wx:XW}{m:Mode}{pos:Pos}
noncomputable def kj:D->D->Option D
 |.lst xs,.lst ys=>if xs.length + ys.length<=sizeLine then some (.lst (xs ++ ys)) else none
 |_,_=>none
theorem Ti {K:Fgx}{P:Pl}{H:Hp}{d e z:D}{v w:V}(h:kj d e=some z)(h1:bH K P H d v)(h2:bH K P H e w):∃ds a b vs ws,z=.lst ds/\v=.ref a/\w=.ref b/\bC K H a vs/\bC K H b ws/\vs.length + ws.length<=sizeLine/\au K P H ds (vs ++ ws):=by
 unfold kj at h;split at h
 ·split at h
  ·rename_i hl;cases h;obtain⟨a,vs,rfl,r1,s1⟩:=h1;obtain⟨b,ws,rfl,r2,s2⟩:=h2;exact⟨_,a,b,vs,ws,rfl,rfl,rfl,r1,r2,by rw[s1.len,s2.len];exact hl,s1.append s2⟩
  ·cases h
 ·cases h
theorem ZR {a b:Expr}{f g:E}(ha:SE X Wx .bor a f)(hb:SE X Wx .bor b g):SN X Wx (.BinOp a .Add b pos) (s2 kj f g):=by
 refine b_ (KZ KN ha hb) ?_;rintro st H Q ⟨P0,H0,P,Os,env,M,r,M',k,e,q⟩;unfold s2 at e;rcases bU e with⟨d,M1,e1,e⟩ |⟨c,n,e1,rfl⟩
 ·refine aY k e1 fun P1 v1 H1 l1 h1 i1=>?_;have k1:=k.next l1 h1
  rcases bU e with⟨d2,M2,e2,e⟩ |⟨c,n,e2,rfl⟩
  ·refine aY k1 e2 fun P2 v2 H2 l2 h2 i2=>?_;rw[xag]at e;obtain⟨z,ez,e⟩:=e;cases e;obtain⟨ds',e',q⟩:=q;obtain⟨ds,a,b,vs,ws,ed,ea,eb,r1,r2,hl,is⟩:=Ti ez (bQ.vw h2 (bQ.lt l2 h1 i1)) (bQ.vw h2 i2);cases ed.symm.trans e';refine⟨a,b,vs,ws,ea,eb,r1,r2,hl,fun p hp=>?_⟩;obtain⟨l3,h3,nc⟩:=pI (vs:=vs ++ ws) h2 hp;exact q (P2.bar p) p (vs ++ ws) _ (l1.trans (l2.trans l3)) h3 (l1.sure p (l2.sure p hp)) (.inr rfl) nc cN (au.lt (l3.lt h2) is)
  ·exact aY k1 e2 q
 ·exact aY k e1 q
theorem JT {K:Fgx}{a:Addr}{o:Obj}{its:Array Value}{n:Nat}{ds:List D}{vs:List V}(l:K.lookup a=some o)(c:o.cls=.type "tuple")(e:o.data=.seq its n)(z:its.size<=sizeLine)(r:Vals vs its.toList)(i:∀P H,au K P H ds vs):∀P H,Is K P H (.tup ds) (.ref a):=
 fun P H=>⟨a,vs,rfl,.inr ⟨o,its,n,l,c,e,z,r⟩,i P H⟩
def gn (P:Program)(w:World)(K:Fgx)(mg:Mgx)(base:Heap)(k:Nat)(C:Addr)(m:Str)(n:Nat)(g:G):Prop:=
 ∃f fd ps ds dvs sp,Meth K C m f/\FnOk P w K mg base fH k f fd ps sp/\Binds K fd ps ds/\Vals dvs ds/\∀vs H Q E,lV K mg n g vs H Q E->sp (vs ++ dvs) H Q E
theorem gn.mono {P:Program}{w:World}{K:Fgx}{mg:Mgx}{base:Heap}{j k:Nat}{C:Addr}{m:Str}{n:Nat}{g:G}(a:gn P w K mg base j C m n g)(h:j<=k):gn P w K mg base k C m n g:=by
 obtain⟨f,fd,ps,ds,dvs,sp,h1,h2,h3⟩:=a;exact⟨f,fd,ps,ds,dvs,sp,h1,h2.mono h,h3⟩
structure OwnIs (K:Fgx)(C:Addr):Prop where
 ca:PySem.W.findIn K (.ref C) "__class__"=some (some (.builtin "object.__class__"))
 gt:PySem.W.specialIn K (.builtin "object.__class__") "__get__"=some (some (.builtin "getset_descriptor.__get__"))
 tk:PySem.W.takesIn K (.builtin "object.__class__")=some true
 mr:PySem.W.mroIn K C (.type "object")=some true
 me:PySem.W.kitOne K (.ref C) (.ref C)=some true
end
end E3
namespace E3
open PySem L2
noncomputable def dg (n:Nat):List Nat:=(Nat.toDigits 10 n).map Char.toNat
theorem Jf (n:Nat):NumText.AllDigits (dg n):=fun c hc=>by
 obtain⟨d,hd,rfl⟩:=xaB.mp hc;have h:=Nat.isDigit_of_mem_toDigits (by decide) (by decide) hd;simp only[Char.isDigit,xav,xbc]at h;exact⟨h.1,h.2⟩
theorem Jh (n:Nat):dg n≠ []:=fun e=>Nat.toDigits_ne_nil (List.map_eq_nil_iff.mp e)
theorem Jg {n k:Nat}(h1:1<=k)(h:n<10 ^ k):(dg n).length<=k:=by
 rw[dg,xae];exact toDigits_len_pow (by decide) h1 h
noncomputable def gP (i:Int):Str:=Str.ofString (toString i)
theorem Ax {i:Int}(h:0<=i):(gP i).cps.toList=dg i.toNat:=by
 have:=W.KIN.signs_num i.toNat;rw[xeg h]at this;exact this
theorem Mx {i:Int}(h:i<0):(gP i).cps.toList=45::dg i.natAbs:=by
 obtain⟨m,rfl⟩:∃m,i=Int.negSucc m:=by
  cases i with
  |ofNat n=>exact absurd h (by simp)
  |negSucc m=>exact⟨m,rfl⟩
 unfold gP dg;rw[PyProof.Rows.signs_ofString];show List.map Char.toNat ("-" ++ toString (m + 1)).toList=_;rw[String.toList_append,xaP,Nat.toString_eq_ofList_toDigits]
 simp
theorem Mw {i:Int}{k:Nat}(h1:1<=k)(h:i.natAbs<10 ^ k):(gP i).length<=k + 1:=by
 show(gP i).cps.size<=k + 1;rw[<-xaj]
 by_cases h0:0<=i
 ·rw[Ax h0];have:=Jg (n:=i.toNat) h1 (by rw[<-Int.natAbs_of_nonneg h0]at *;simpa using h);omega
 ·rw[Mx (by omega),xaF];have:=Jg h1 h;omega
theorem QW {i:Int}(h:i.natAbs<10 ^ 600):intText? (gP i)=some i:=by
 have hl:=Mw (by decide) h
 by_cases h0:0<=i
 ·rw[intText_digits (by rw[Ax h0];exact Jf _) (by rw[Ax h0];exact Jh _) (by omega),Ax h0];have:=W.KIN.val_back i.toNat;unfold dg;rw[this,xeg h0]
 ·rw[intText_neg (Mx (by omega)) (Jf _) (Jh _) (by omega)];have:=W.KIN.val_back i.natAbs;unfold dg;rw[this];congr 1;omega
noncomputable def cd (s:Str):List Nat:=s.cps.toList
theorem vK (a b:Str):cd (a ++ b)=cd a ++ cd b:=by
 unfold cd;rw[Str.cps_append,xbb]
theorem gD (x:Str):x.length=(cd x).length:=by
 show x.cps.size=x.cps.toList.length
 simp
theorem Cz (c:Nat):cd ⟨#[c]⟩=[c]:=rfl
theorem R6 {n:Nat}(h:n<340282366920938463463374607431768211456):n.log2<1920:=by
 by_cases h0:n=0
 ·rw[h0];decide
 ·have:=(Nat.log2_lt h0 (k:=128)).mpr h;omega
section
variable {env:Env}{M M1:Mm}{f g h c:E}{d e:D}{i j:Int}{n k:Nat}{z:Str}{b:Bool}{ds es:List D}{s t:S}{x:Str}{fa:EA}{u:G}
theorem X7 {q:D->Mm->OS}:cP q (some (.x x i,M))=some (.ex x i,M):=rfl
theorem X5 {q:D->Mm->O}:dY q (some (.x x i,M))=some (.x x i,M):=rfl
theorem X3 {q:List D->Mm->O}:g8 q (some (.x x i,M))=some (.x x i,M):=rfl
theorem Yg {q:Mm->Option (ResA×Mm)}:CN q (some (.x x i,M))=some (.x x i,M):=rfl
theorem Yd:mq d (some (.x x i,M))=some (.x x i,M):=rfl
noncomputable def wN (q:List D->OS):Option Cl->OS
 |some (.lst ds)=>q ds
 |_=>none
theorem Yv {q:List D->OS}:wN q (some (.lst ds))=q ds:=rfl
noncomputable def vo (env:Env) (g:Mm->O) (M:Mm):D->OS
 |.ref k=>wN (fun _=>cP (fun y M2=>wN (fun ds=>if ds.length<sizeLine then some (.nx env,M2.set k (.lst (ds ++ [y]))) else none) M2[k]?) (g M)) M[k]?
 |_=>none
theorem XR {q:Mm->O}:vo env q M (.ref k)=wN (fun _=>cP (fun y M2=>wN (fun ds=>if ds.length<sizeLine then some (.nx env,M2.set k (.lst (ds ++ [y]))) else none) M2[k]?) (q M)) M[k]? :=rfl
theorem Wy:tO f g env M=cP (fun d M1=>vo env (g env) M1 d) (f env M):=rfl
theorem zbx (h:M[k]? =some (.lst ds)):vw M (.ref k)=.lst ds:=by unfold vw;simp only[h]
noncomputable def Ku (o:Str->List D->Option D) (q:Mm->Option (ResA×Mm)) (M:Mm):D->O
 |.str y=>lZ (o y) (q M)
 |_=>none
theorem FT {o:Str->List D->Option D}{q:Mm->Option (ResA×Mm)}:Ku o q M (.str z)=lZ (o z) (q M):=rfl
theorem Fi {o:Str->List D->Option D}:z8 o f fa env M=dY (fun d M1=>Ku o (fa env) M1 d) (f env M):=rfl
theorem Tq:kj (.lst ds) (.lst es)=if ds.length + es.length<=sizeLine then some (.lst (ds ++ es)) else none:=rfl
theorem Tp {y:Str}:aX (.str z) (.str y)=if z.length + y.length<=sizeLine then some (.str (z ++ y)) else none:=rfl
theorem T5:aZ (.str z) (.int i)=if z.length<=sizeLine then(bY z.cps.toList i).map fun c=>.str ⟨#[c]⟩ else none:=rfl
theorem T8:c7 [.str z]=if z.length<=sizeLine then some (.int z.length) else none:=rfl
theorem wZ:fP [.int i]=if i.natAbs.log2<1920 then some (.str (toString i)) else none:=rfl
theorem wY:dX [.str z]=if z.length<=640 then(intText? z).map .int else none:=rfl
theorem TV {y:Str}:aG .isin (.str z) (.str y)=some (.bl (zp z y)):=rfl
theorem Ui {y:Str}:aG .notin (.str z) (.str y)=some (.bl (!zp z y)):=rfl
theorem Tw {y:Str}:aG .eq (.str z) (.str y)=some (.bl (decide (z=y))):=by
 unfold aG bO lC;rw[xaa (by constructor<;>first |rfl |simp[D.dep])]
 have:(z==y)=decide (z=y):=by rw[xby];simp
 simp[D.eq,this]
theorem Ug {y:Str}:aG .ne (.str z) (.str y)=some (.bl (!decide (z=y))):=by
 unfold aG bO nA;rw[xaa (by constructor<;>first |rfl |simp[D.dep])]
 have:(z==y)=decide (z=y):=by rw[xby];simp
 simp[D.eq,this]
theorem TX:aG .same .non .non=some (.bl true):=rfl
theorem TY:aG .other (.int i) .non=some (.bl true):=rfl
theorem T3:aG .other .non .non=some (.bl false):=rfl
noncomputable def u6 (k:Nat) (t:S) (ds:List D):OS->OS
 |some (.nx e,M1)=>loopS k t ds e M1
 |some (.ct e,M1)=>loopS k t ds e M1
 |some (.bk e,M1)=>some (.nx e,M1)
 |some (.rt d,M1)=>some (.rt d,M1)
 |some (.ex c n,M1)=>some (.ex c n,M1)
 |none=>none
theorem W7:loopS k t [] env M=some (.nx env,M):=rfl
theorem zY:loopS k t (d::ds) env M=if k<env.length then u6 k t ds (t (env.set k (.val d)) M) else none:=rfl
theorem YM {e':Env}:u6 k t ds (some (.nx e',M))=loopS k t ds e' M:=rfl
theorem YL {e':Env}:u6 k t ds (some (.ct e',M))=loopS k t ds e' M:=rfl
theorem YK {e':Env}:u6 k t ds (some (.bk e',M))=some (.nx e',M):=rfl
theorem YQ:u6 k t ds (some (.rt d,M))=some (.rt d,M):=rfl
theorem YS:u6 k t ds (some (.ex x i,M))=some (.ex x i,M):=rfl
theorem HX {α:Type}{xs:List α}{i:Int}(d:α)(h0:0<=i)(h1:i<xs.length):bY xs i=some (xs.getD i.toNat d):=by
 obtain⟨k,rfl⟩:∃k:Nat,i=k:=⟨i.toNat,by omega⟩;have hk:k<xs.length:=by omega
 exact nq (by simp[hk])
theorem at0 {α:Type}{a:α}{xs:List α}:bY (a::xs) 0=some a:=nq (j:=0) rfl
theorem at1 {α:Type}{a b:α}{xs:List α}:bY (a::b::xs) 1=some b:=nq (j:=1) rfl
theorem at2 {α:Type}{a b c:α}{xs:List α}:bY (a::b::c::xs) 2=some c:=nq (j:=2) rfl
theorem Oo {α:Type}{a b c d:α}{xs:List α}:bY (a::b::c::d::xs) 3=some d:=nq (j:=3) rfl
theorem JG {M:Mm}{cl:Cl}:(M ++ [cl])[M.length]? =some cl:=List.getElem?_concat_length ..
theorem s_end {M:Mm}{cl cl':Cl}:(M ++ [cl]).set M.length cl'=M ++ [cl']:=by simp
theorem w_end {M:Mm}:vw (M ++ [.lst ds]) (.ref M.length)=.lst ds:=zbx JG
theorem Pq {α:Type}(xs:List α){i:Int}(h:0<=i):d7 xs none (some i)=xs.take i.toNat:=by
 obtain⟨k,rfl⟩:∃k:Nat,i=k:=⟨i.toNat,by omega⟩;unfold d7;rw[HT.Zf,HT.Ze,xcA,xel,xcj]
 by_cases hk:k<=xs.length
 ·rw[Nat.min_eq_left hk]
 ·rw[Nat.min_eq_right (by omega),List.take_length,xbT (by omega)]
end
end E3
namespace L2
open PySem PySem.Spec PyProof.Rows
end L2
namespace E3
open PySem PySem.Spec PyProof.Rows L2
end E3
namespace L2
open PySem PySem.Spec PyProof.Rows
end L2
namespace E3
open PySem PySem.Spec PyProof.Rows L2
end E3
namespace L2
open PySem PySem.Spec PyProof.Rows
section
variable {X:Cx}{pins:Pnx}{σ:St}{H:Hp}{s:Shared}{a:Addr}{u u':HO}
theorem Inv.swap (I:Inv X pins σ H s)(ha:H a=some u)(h1:∀xs,u≠ .tup xs)(h2:∀b,u≠ .own b)(h3:∀ps,u≠ .tbl ps)(hf:∀o v,X.H₀ a≠some (.frz o v))(hcl:∀v,¬ s.heap.IsCell a v)
  (ok:cA X.prog X.w (upd H a u') s.heap a u'):Inv X pins σ (upd H a u') s:=by
 have ne:∀b,H b=none->b≠a:=fun b e z=>by rw[z,ha]at e;cases e
 refine⟨I.ok,I.os,I.bare,?_,I.loc,I.cell,?_,?_,?_,?_,I.len⟩
 ·refine⟨I.base.keep,I.base.slot,fun b o e1 e2 e3=>?_,I.base.there,fun b xs e=>?_,fun b o v e=>?_,fun b ps e=>?_⟩
  ·have:=I.base.free b o e1 e2 e3;rw[bw (ne b this)];exact this
  ·have:=I.base.tups b xs e
   by_cases z:b=a
   ·rw[z,ha]at this;cases this;exact absurd rfl (h1 xs)
   ·rw[bw z];exact this
  ·have:=I.base.frzs b o v e
   by_cases z:b=a
   ·rw[z]at e;exact absurd e (hf o v)
   ·rw[bw z];exact this
  ·obtain⟨more,this⟩:=I.base.tbls b ps e
   by_cases z:b=a
   ·rw[z,ha]at this;cases this;exact absurd rfl (h3 _)
   ·exact⟨more,by rw[bw z];exact this⟩
 ·rw[bw (ne _ I.free)];exact I.free
 ·intro x c e;rcases I.freeC x c e with this |⟨fn,o,u,this⟩
  ·exact .inl (by rw[bw (ne _ this)];exact this)
  ·refine .inr ⟨fn,o,u,?_⟩;rw[bw]
   ·exact this
   ·intro z;obtain⟨v,oc,ho,hd⟩:=I.cell x c e;exact hcl v ⟨oc,z ▸ ho,hd⟩
 ·intro p hp;obtain⟨q1,q2,q3⟩:=I.pin p hp;exact⟨q1,by rw[bw (ne _ q2)];exact q2,q3⟩
 ·intro b o e
  by_cases z:b=a
  ·rw[z]at e ⊢;rw[cN]at e;cases e;exact ok
  ·rw[bw z]at e;refine(I.hok b o e).stay (fun c v _ q=>q) (fun c q=>?_) (fun c xs q=>?_)
   ·by_cases y:c=a
    ·rw[y,ha]at q;cases q;exact absurd rfl (h2 _)
    ·rw[bw y];exact q
   ·by_cases y:c=a
    ·rw[y,ha]at q;cases q;exact absurd rfl (h1 _)
    ·rw[bw y];exact q
end
end L2
namespace E3
open PySem PySem.Spec PyProof.Rows L2
theorem KQ {X:Cx}:bB X (binaryOp .FloorDiv) (rI (fun _ j=>0<j/\j<18446744073709551616) fun i j=>.int (i / j)):=xg fun i j _ _ _ _ _ hc q=>by
 have h1:(0:Int)<j:=hc.1;have h2:j<18446744073709551616:=hc.2;refine floordiv_int (by omega) (by rw[xdj i (by omega)];exact q) (.inl (PyProof.noPylong_of_log2 ?_));have h0:j.natAbs≠0:=by omega
 have h64:j.natAbs.log2<64:=(Nat.log2_lt h0).mpr (by rw[show(2:Nat) ^ 64=18446744073709551616 by decide];omega);omega
noncomputable def mO:=oI fun i j=>if 0<j/\j.natAbs<18446744073709551616 then some (.int (i / j)) else none
theorem Lb {K:Fgx}:fM K (rI (fun _ j=>0<j/\j<18446744073709551616) fun i j=>.int (i / j)) mO:=fun P H d e z v w Q h h1 h2 _ q=>by
 obtain⟨i,j,rfl,rfl,h⟩:=sX h h1 h2;split at h
 ·rename_i hg;cases h;exact⟨i,j,rfl,rfl,⟨hg.1,by omega⟩,q _ H (Same.refl H) rfl⟩
 ·cases h
theorem Tz {i j:Int}:mO (.int i) (.int j)=if 0<j/\j.natAbs<18446744073709551616 then some (.int (i / j)) else none:=rfl
section
variable {X:Cx}{Wx:XW}{pos:Pos}
noncomputable def rP (is:List Nat) (d:D) (env:Env):Option Env:=match d with
 |.tup es=>if es.length=is.length then dR is es env else none
 |_=>none
noncomputable def mK (is:List Nat) (body:S):List D->Env->Mm->OS
  | [],env,M=>some (.nx env,M)
  |d::ds,env,M=>match rP is d env with
    | some env1 => (match body env1 M with
      |some (.nx e,M1)=>mK is body ds e M1
      |some (.ct e,M1)=>mK is body ds e M1
      |some (.bk e,M1)=>some (.nx e,M1)
      |some (.rt d,M1)=>some (.rt d,M1)
      |some (.ex c n,M1)=>some (.ex c n,M1)
      |none=>none)
    |none=>none
noncomputable def xT (is:List Nat) (fs:EA) (body:S):S:=fun env M=>match fs env M with
 |some (.v ds,M1)=>mK is body ds env M1
 |some (.x c n,M1)=>some (.ex c n,M1)
 |none=>none
theorem zaO {ts:List Expr}{is:List Nat}{iter:Expr}{body:List Stmt}{fs:EA}{b:S}{n:Nat}{tp:Pos}(hp:PassesOwn (model X.prog X.w) X.A X.env X.xe)(hc:X.calm=true)(hG:SG X ts is)(hI:SI X Wx (.Tuple ts n tp) iter fs)(hb:SB X Wx body b)
    (hn:(assignEach ts X.env).length=is.length:=by rfl) (hst:(assignEach ts X.env).findIdx? (·.1)=none:=by rfl)
    (hfs:∀x,foldedSetIterable iter X.env x=pure x:=by intro _;rfl):SS X Wx (.For (.Tuple ts n tp) iter body [] pos) (xT is fs b):=by
  obtain⟨t,hpg,ht⟩:=hG;refine gb (K9 hp hc hI (K5 (n:=is.length) hc hpg hn hst) hb hfs) ?_;rintro D st H ⟨P0,H0,P,Os,env,M,out,M',k,e,q⟩;unfold xT at e;split at e
  · rename_i ds M1 ef;refine⟨P0,H0,P,Os,env,M,_,_,k,ef,fun P1 H1 J l1 h1 wk=>?_⟩;have k1:=k.next l1 h1
    have q1:=q.lt (l1.lt k.hk);refine⟨fun j m σ H=>m=ds.length - j/\j<=ds.length/\∃P Os' M2 env',Lt P1 H1 P H/\Ok X.K X.mg P0 H0 P Os' H M2 σ env'/\mK is b (ds.drop j) env' M2=some (out,M'),⟨ds.length,by simp,xa8 _,P1,Os,M1,env,Lt.refl _ _,k1,e⟩,?_⟩;rintro j m σ H2 ⟨rfl,hj,P2,Os',M2,env',lt,k',h'⟩;obtain⟨w1,w2,w3⟩:=wk P2 H2 lt
    by_cases hlt:j<ds.length
    · refine .inr ⟨w1 j hlt,fun σ' H'=>∃P Os' M2 env',Lt P1 H1 P H'/\Ok X.K X.mg P0 H0 P Os' H' M2 σ' env'/\mK is b (ds.drop (j + 1)) env' M2=some (out,M'),fun σ' H' z=>⟨ds.length - (j + 1),by omega,rfl,hlt,z⟩,fun x H3 y=>?_⟩;obtain⟨e3,d,ed,iv⟩:=w3 j x H3 y hlt;subst e3;have ed':ds.drop j=d::ds.drop (j + 1):=by
        rw[xaS hlt];rw[xaf hlt]at ed;rw[xas ed]
      rw[ed']at h';simp only[mK]at h';split at h'
      · rename_i env1 ee;unfold rP at ee;split at ee
        · rename_i es;split at ee
          · rename_i hl;obtain⟨a,vs,rfl,sq,is'⟩:=iv;refine⟨a,vs,rfl,sq,by rw[is'.len];exact hl,ht _ _ _ _ _ _ _ _ _ _ _ _ k' is' ee fun Os2 st2 k4=>?_⟩;split at h'
            · rename_i e4 M4 eb;exact⟨P0,H0,P2,_,_,M2,_,_,k4,eb,fun P' Os2 H2 st2 l2 k5=>⟨P',Os2,_,e4,lt.trans l2,k5,h'⟩⟩
            · rename_i e4 M4 eb;exact⟨P0,H0,P2,_,_,M2,_,_,k4,eb,fun P' Os2 H2 st2 l2 k5=>⟨P',Os2,_,e4,lt.trans l2,k5,h'⟩⟩
            · rename_i e4 M4 eb;cases h';exact⟨P0,H0,P2,_,_,M2,_,_,k4,eb,fun P' Os2 H2 st2 l2 k5=>q1 P' Os2 H2 st2 (lt.trans l2) k5⟩
            · rename_i d4 M4 eb;cases h';exact⟨P0,H0,P2,_,_,M2,_,_,k4,eb,q1⟩
            · rename_i c4 n4 M4 eb;cases h';exact⟨P0,H0,P2,_,_,M2,_,_,k4,eb,q1⟩
            · cases h'
          · cases ee
        · cases ee
      · cases h'
    · have ej:j=ds.length:=by omega
      subst ej;rw[xcP]at h';cases h';exact .inl ⟨w2 _ (xab _) (xab _),q1 P2 Os' H2 σ lt k'⟩
  · rename_i c n M1 ef;cases e;exact⟨P0,H0,P,Os,env,M,_,_,k,ef,q⟩
  · cases e
end
section
variable {X:Cx}{Wx:XW}{m:Mode}{pos:Pos}{K:Fgx}
noncomputable def xZ (d:D) (lo hi:Option Int):Option D:=match d with
 |.tup ds=>if HT.aW ds.length 0 lo=0/\HT.aW ds.length ds.length hi=ds.length then none else some (.tup (d7 ds lo hi))
 |_=>none
noncomputable def mX (f:E) (l h:Env->Mm->Option (Option Int×Mm)):E:=fun env M=>bnd (f env M) fun d M1=>match l env M1 with
  | some (lo, M2) => (match h env M2 with
    |some (hi,M3)=>(xZ d lo hi).map fun z=>(.v z,M3)
    |none=>none)
  |none=>none
theorem Zy {e:Expr}{lo hi:Option Expr}{p2:Pos}{f:E}{l h:Env->Mm->Option (Option Int×Mm)}(he:SE X Wx .val e f)(hl:sy X lo l)(hh:sy X hi h):SE X Wx m (.Subscript e (.Slice lo hi none p2) pos) (mX f l h):=by
 refine b_ (K1 ZJ he hl hh) ?_;rintro st H Q ⟨P0,H0,P,Os,env,M,r,M',k,e,q⟩;unfold mX at e;rcases bU e with⟨d,M1,e1,e⟩ |⟨c,n,e1,rfl⟩
 ·split at e
  ·rename_i lo' M2 el;split at e
   ·rename_i hi' M3 eh;rw[xag]at e;obtain⟨z,ez,e⟩:=e;cases e;refine⟨P0,H0,P,Os,env,M,_,_,k,e1,fun P1 v1 H1 l1 h1 i1=>⟨P0,H0,P1,Os,env,M1,_,_,k.next l1 h1,el,fun P2 H2 l2 h2=>⟨P0,H0,P2,Os,env,M2,_,_,(k.next l1 h1).next l2 h2,eh,fun P3 H3 l3 h3=>?_⟩⟩⟩
    have i3:=Is.lt (l3.lt h2) (Is.lt (l2.lt h1) i1);have fin:∀u H',Same H3 H'->Is X.K P3 H' z u->Q u H':=fun u H' s i=>q P3 u H' (l1.trans (l2.trans (l3.trans (LtE.same s)))) (h3.same s) (cF.of (h3.same s) i);unfold xZ at ez;split at ez
    ·split at ez
     ·cases ez
     ·rename_i hw;cases ez;obtain⟨a,vs,rfl,r,s⟩:=i3;exact⟨a,vs,rfl,r,by rw[s.len];exact hw,S6 (Jb s) fin⟩
    ·cases ez
   ·cases e
  ·cases e
 ·exact⟨P0,H0,P,Os,env,M,_,_,k,e1,q⟩
end
section
variable {env:Env}{M:Mm}{f g:E}{d:D}{i:Int}{ds es:List D}{fa:EA}{x:Str}{k:Nat}
noncomputable def rK (d:D) (lo:Option Int):Option (Option Int×Mm)->O
 |some (hi,M3)=>mapR M3 (xZ d lo hi)
 |none=>none
noncomputable def yc (d:D) (k:Mm->Option (Option Int×Mm)):Option (Option Int×Mm)->O
 |some (lo,M2)=>rK d lo (k M2)
 |none=>none
theorem Xi {l u:Env->Mm->Option (Option Int×Mm)}:mX f l u env M=dY (fun d M1=>yc d (u env) (l env M1)) (f env M):=rfl
theorem YH {lo:Option Int}{q:Mm->Option (Option Int×Mm)}:yc d q (some (lo,M))=rK d lo (q M):=rfl
theorem YG {lo hi:Option Int}:rK d lo (some (hi,M))=mapR M (xZ d lo hi):=rfl
end
end E3
namespace L2
open PySem PySem.Spec PyProof.Rows
section
variable {X:Cx}
theorem O4:X.calm=true->cZ X (.builtin "max") (fun xs H Q=>∃(p:Addr) (is:List Int),xs=[.ref p]/\0<is.length/\bC X.K H p (is.map V.int)/\∀m,m∈is->(∀a∈is,a<=m)->Q (.int m) H):=by
 intro hc pins s σ H xs us Q I r h;obtain⟨p,is,rfl,hne,hq,q⟩:=h;obtain⟨u,rfl,rx⟩:=vals1 r;cases rx;obtain⟨its,rv,pl,hz⟩:=I.list hq;have hi:=Dm rv;have hn:=hi.numsOf;have hlen:=rv.length;rw[xae]at hlen;obtain⟨zs,hzs⟩:=hi.allInts.items;have hl:=pl.isList;have e1:numsOf its.toArray.toList=is:=hn;rw[hzs]at hl e1;have hs:0<zs.size:=by
  have:its.toArray.size=zs.size:=by rw[hzs];simp[intItems]
  rw[xah]at this;omega
 rw[nums_intItems]at e1;refine max_intList (I.ok.hd hc) hl hs fun v h' tk hv hk=>?_;obtain⟨t,rfl⟩:=intItems_at hv;obtain⟨h1,h2⟩:=argBest_gt (numAt zs) (zs.size - 1);refine⟨.int _,H,I.kept hk,⟨t,rfl⟩,q _ ?_ fun a ha=>?_⟩
 ·rw[<-e1,numAt_eq];exact getD_mem (by rw[xae,xaj];omega)
 ·rw[<-e1]at ha;obtain⟨j,hj,rfl⟩:=mem_getD ha;rw[xae,xaj]at hj;rw[<-numAt_eq];exact h2 j (by omega)
end
end L2
namespace E3
open PySem PySem.Spec PyProof.Rows L2
section
variable {X:Cx}{Wx:XW}{pos:Pos}
noncomputable def cV:List Int->Int
 | []=>0
 | [a]=>a
 |a::b::r=>max a (cV (b::r))
theorem yE:∀{is:List Int} {m:Int},m∈is->(∀a∈is,a<=m)->cV is=m
  | [],_,h,_=>by cases h
  | [a],m,h,_=>by rw[xaz]at h;exact h.symm
  |a::b::r,m,h,g=>by
    have ha:=g a (xau ..);unfold cV;rcases xan.mp h with rfl |h
    · have:cV (b::r)<=m:=by
        have hb:∀(l:List Int),l≠ []->(∀a∈l,a<=m)->cV l<=m:=fun l=>by
          induction l with
          |nil=>exact fun z=>absurd rfl z
          |cons c l ih=>
            intro _ g
            cases l with
            |nil=>exact g c (by simp)
            |cons d l=>
              have h1:=g c (by simp);have h2:=ih (by simp) fun a ha=>g a (xak _ ha);unfold cV;omega
        exact hb (b::r) (by simp) fun a ha=>g a (xak _ ha)
      omega
    · have:=yE h fun a ha=>g a (xak _ ha);omega
noncomputable def vq:List D->Option D
  | [.lst ds]=>match mG ds with
    |some is=>if 0<is.length then some (.int (cV is)) else none
    |none=>none
  |_=>none
theorem Wj {K:Fgx}:gW K (fun xs H Q=>∃(p:Addr) (is:List Int),xs=[.ref p]/\0<is.length/\bC K H p (is.map V.int)/\∀m,m∈is->(∀a∈is,a<=m)->Q (.int m) H) vq:=fun P H ds z vs Q h i _ q=>by
 unfold vq at h;split at h
 ·split at h
  ·rename_i is ei;split at h
   ·rename_i hl;cases h;obtain⟨v,ws,rfl,p,rfl⟩:=i;obtain⟨a,us,rfl,r,s⟩:=p;have eu:=zu ei s;subst eu;exact⟨a,is,rfl,hl,r,fun m h1 h2=>by rw[<-yE h1 h2];exact q _ H (Same.refl H) rfl⟩
   ·cases h
  ·cases h
 ·cases h
end
end E3
namespace E3
end E3
namespace E3
open PySem PySem.Spec PyProof.Rows L2
mutual
def D.nr:D->Bool
 |.tup xs=>D.nrs xs
 |.lst xs=>D.nrs xs
 |.ref _=>false
 |_=>true
def D.nrs:List D->Bool
 | []=>true
 |a::as=>D.nr a && D.nrs as
end
noncomputable def Pf:Pl:=⟨fun _=>0,0,fun _=>False⟩
section
variable {K:Fgx}{mg:Mgx}{P P':Pl}{H H':Hp}{M:Mm}
mutual
theorem Is.fre:∀{d:D} {v:V},D.nr d=true->Is K P H d v->Is K Pf H d v
 |.non,_,_,h=>h
 |.bl _,_,_,h=>h
 |.int _,_,_,h=>h
 |.str _,_,_,h=>h
 |.tup _,_,n,h=>by obtain⟨a,vs,e,s,q⟩:=h;exact⟨a,vs,e,s,au.fre n q⟩
 |.lst _,_,n,h=>by obtain⟨a,vs,e,s,q⟩:=h;exact⟨a,vs,e,s.imp (fun z=>⟨fun z=>z,z.2⟩) id,au.fre n q⟩
 |.ref _,_,n,_=>by cases n
theorem au.fre:∀{ds:List D} {vs:List V},D.nrs ds=true->au K P H ds vs->au K Pf H ds vs
  | [],_,_,h=>h
  |_::_,_,n,h=>by
    obtain⟨v,r,e,p,q⟩:=h;have n:=xd8.mp n;exact⟨v,r,e,Is.fre n.1 p,au.fre n.2 q⟩
end
mutual
theorem Is.lf_any:∀{d:D} {v:V},D.lf d=true->Is K P H d v->Is K P' H d v
 |.non,_,_,h=>h
 |.bl _,_,_,h=>h
 |.int _,_,_,h=>h
 |.str _,_,_,h=>h
 |.tup _,_,n,h=>by obtain⟨a,vs,e,s,q⟩:=h;exact⟨a,vs,e,s,au.lf_any n q⟩
 |.lst _,_,n,_=>by cases n
 |.ref _,_,n,_=>by cases n
theorem au.lf_any:∀{ds:List D} {vs:List V},D.lfs ds=true->au K P H ds vs->au K P' H ds vs
  | [],_,_,h=>h
  |_::_,_,n,h=>by
    obtain⟨v,r,e,p,q⟩:=h;have n:=xd8.mp n;exact⟨v,r,e,Is.lf_any n.1 p,au.lf_any n.2 q⟩
end
end
section
variable {X:Cx}{Wx:XW}{m:Mode}{pos:Pos}
theorem eN {k:Nat}{ss:List Stmt}{b:S}(hr:Room k X.A)(h:X.A.units + 60<cLine->SB X Wx ss b):SB X Wx ss b:=h (xbG (xc5 (by decide) _) hr.units)
theorem gj {e:Expr}{es:List Expr}{x:Str}{id:String}{r:List V->Hp->VK->Prop}{o:List D->Option D}{fs:EA}{p:Pos}(hc:cZ X (.builtin id) r)(hg:Gl X x)(hm:X.mg x=none)(hv:bootBuiltins x=some (.builtin id))(po:gW X.K r o)(ha:SA X Wx .bor (e::es) fs)
  (hn:x≠"__name__":=by x_go) (hdb:(x==("__debug__":Str))=false:=by x_go) (he:starEach (e::es) X.env=(false,eval e X.env)::starEach es X.env:=by rfl) (hpl:(backTo pos (starEach es X.env)).any (·.1)=false:=by rfl):SE X Wx m (.Call (.Name x p) (e::es) [] pos) (sN o fs):=
 Mr (fun _ ha=>Ey hc hg hm hv ha hn hdb he hpl) po ha
theorem xW {e:Expr}{es:List Expr}{x:Str}{T:String}{r:List V->Hp->VK->Prop}{o:List D->Option D}{fs:EA}{p:Pos}(hc:cZ X (.type T) r)(hg:Gl X x)(hm:X.mg x=none)(hv:bootBuiltins x=some (.type T))(po:gW X.K r o)(ha:SA X Wx .bor (e::es) fs)
  (hn:x≠"__name__":=by x_go) (hdb:(x==("__debug__":Str))=false:=by x_go) (he:starEach (e::es) X.env=(false,eval e X.env)::starEach es X.env:=by rfl) (hpl:(backTo pos (starEach es X.env)).any (·.1)=false:=by rfl):SE X Wx m (.Call (.Name x p) (e::es) [] pos) (sN o fs):=
 Mr (fun _ ha=>KY hc hg hm hv ha hn hdb he hpl) po ha
end
section
variable (P:Program)(w:World)(K:Fgx)(mg:Mgx)(base:Heap)(k:Nat)(f:Addr)(N:List Str)(q:Str)(st:Stmt)(b:S)
abbrev RT:Prop:=∀(cdv:Value) (A:Around) (outer:List PySem.Env) (s:Shared) (H:Hp) (E:XK),Room k (A.deeper (envOfC q (aR st) s.heap.objs.size f cdv))->SB (vM P w K mg base N q st f cdv A outer s H E) W0 (bV st) b
end
theorem eO {N P:List Str}{sc:Scope}(h1:sc.kind=.function:=by rfl)(h2:sc.isCoroutine=false:=by rfl)(h3:sc.isGenerator=false:=by rfl)(h4:N.Nodup:=by x_go)(h5:N.take P.length=P:=by rfl)
  (h6:∀x∈P,sc.names.lookup x=some .local\/sc.names.lookup x=some .cell:=by x_go) (h7:∀y∈sc.names,y.2≠ .free:=by x_go):FnScope N P sc:=⟨h1,h2,h3,h4,h5,h6,h7⟩
abbrev LV (st:Stmt)(x:Str):Prop:=(aR st).names.lookup x=some .local
abbrev LC (st:Stmt)(x:Str):Prop:=(aR st).names.lookup x=some .cell
structure DefAt (K:Fgx)(mg:Mgx)(x:Str)(st:Stmt)(ps:List Str)(f:Addr)(fd:FuncData):Prop where
 mg:mg x=some (.ref f)
 F:FunD K x x st f fd
 b:Binds K fd ps []
theorem DefAt.ok {P:Program}{w:World}{K:Fgx}{mg:Mgx}{base:Heap}{k:Nat}{x:Str}{st:Stmt}{f:Addr}{fd:FuncData}{N ps:List Str}{b:S}(D:DefAt K mg x st ps f fd)(S:FnScope N ps (aR st))(hr:RT P w K mg base k f N x st b)(hp:ps.length<=N.length:=by decide):bx P w K mg base (k + 1) x ps.length (cL N.length b):=Qp D.F S hp D.mg D.b hr
def bF (K:Fgx)(x:Str)(st:Stmt):Prop:=∃(f:Addr) (oc kV dc pm cd ct:Value) (od an:Option Addr) (sl:Array (Option Value)),PySem.W.nsIn K mainGlobals x=some (some (.ref f))/\K.lookup f=some ⟨oc,od,.func (PySem.W.fnOf x x (cJ st) (bV st) (aR st) .none kV dc pm an cd ct),sl⟩/\PySem.W.codeIn K cd x=true/\PySem.W.keepIn K (.ref f)=true
theorem bF.mk {K:Fgx}{x:Str}{st:Stmt}{f:Addr}{oc kV dc pm cd ct:Value}{od an:Option Addr}{sl:Array (Option Value)}(a:PySem.W.nsIn K mainGlobals x=some (some (.ref f)))(l:K.lookup f=some ⟨oc,od,.func (PySem.W.fnOf x x (cJ st) (bV st) (aR st) .none kV dc pm an cd ct),sl⟩)(c:PySem.W.codeIn K cd x=true)(k:PySem.W.keepIn K (.ref f)=true):bF K x st:=⟨f,oc,kV,dc,pm,cd,ct,od,an,sl,a,l,c,k⟩
theorem bF.at {K:Fgx}{h:Heap}{mg:Mgx}{x:Str}{st:Stmt}{ps:List Str}(F:bF K x st)(X:K.In h)(G:h.Ns mainGlobals mg)
  (hb:∀(kV doc pm:Value) (an:Option Addr) (cdv ct:Value) (us:List Value),us.length=ps.length->bindArgs (PySem.W.fnOf x x (cJ st) (bV st) (aR st) .none kV doc pm an cdv ct) ⟨us,[]⟩=pure (ps.zip us)):∃f fd,DefAt K mg x st ps f fd:=by
 obtain⟨f,oc,kV,dc,pm,cd,ct,od,an,sl,a,l,c,k⟩:=F;exact⟨f,_,PySem.W.mg_of X G a,JD l c k,(JF (st:=st) l c k).binds hb⟩
end E3
namespace L2
open PySem PySem.Spec PyProof.Rows
abbrev TH:=Ends->Addr->Addr->Option Addr->St->Hp->Prop
def HB (X:Cx)(hs:List ExceptHandler)(t:TH):Prop:=∀(pins:Pnx) (s:Shared) (σ:St) (H:Hp) (a C:Addr) (dx:Option Addr) (T:Addr) (D:Ends),
 Caught X pins σ H s a C dx T->gO X.K C=true->X.A.handled=none->t D C a dx σ H->wpAny (model X.prog X.w) X.A (handleBy (.ref a) X.env hs) (SP X pins D) X.xe s
end L2
namespace E3
open PySem PySem.Spec PyProof.Rows L2
abbrev HE:=Str->Int->Env->Mm->OS
section
variable {X:Cx}{Wx:XW}{m:Mode}{pos:Pos}
noncomputable def tH (X:Cx) (hh:HE):TH:=fun D C a dx st H=>∃P0 H0 P Os env M c n out M',Ok X.K X.mg P0 H0 P Os H M st env/\X.mg c=some (.ref C)/\Hz X.K X.mg P H none (some (.ref a)) (.exc c n)/\hh c n env M=some (out,M')/\Post X.K X.mg W0 P0 H0 P H M' D out
def Bq (out:Out):Prop:=(∃e,out=.nx e)\/∃d,out=.rt d
structure SH (X:Cx)(hs:List ExceptHandler)(hh:HE):Prop where
 hb:HB X hs (tH X hh)
 ok:∀c n env M out M',hh c n env M=some (out,M')->(∃C,X.mg c=some (.ref C)/\gO X.K C=true)/\Bq out
variable {suite:List Stmt}{b0:Stmt}{cn n:Str}{np hp:Pos}{c:Addr}{i:Nat}{h:S}{hs:List ExceptHandler}{r:HE}{cat:Str->Option Bool}
end
end E3
namespace L2
open PySem PySem.Spec PyProof.Rows
section
variable {X:Cx}{e:Expr}{es:List Expr}{te:TE}{t:TA}{pos:Pos}
open Builtin Builtin.Str in
open Builtin Builtin.Str in
open Builtin Builtin.Str in
end
end L2
namespace E3
open PySem PySem.Spec PyProof.Rows L2
section
variable {X:Cx}{Wx:XW}{m:Mode}
theorem Sv {P:Program}{w:World}{K:Fgx}{mg:Mgx}{base:Heap}{N:List Str}{q:Str}{st:Stmt}{f:Addr}{cdv:Value}{A:Around}{outer:List PySem.Env}{s:Shared}{H:Hp}{E:XK}{i:Nat}{x:Str}{pos:Pos}(hN:N[i]? =some x:=by rfl)(hv:LV st x:=by kernel_rfl)(hd:(x==("__debug__":Str))=false:=by x_go)(hcd:(x==("__classdict__":Str))=false:=by x_go):SE (vM P w K mg base N q st f cdv A outer s H E) Wx m (.Name x pos) (aj i):=Gm hN hv hd hcd
theorem Lv {P:Program}{w:World}{K:Fgx}{mg:Mgx}{base:Heap}{N:List Str}{q:Str}{st:Stmt}{f:Addr}{cdv:Value}{A:Around}{outer:List PySem.Env}{s:Shared}{H:Hp}{E:XK}{x:Str}(hv:LV st x:=by kernel_rfl):Loc (vM P w K mg base N q st f cdv A outer s H E).env.scope x:=.inl hv
theorem Lu {a b:Prop}(h:a:=by kernel_rfl):a\/b:=.inl h
theorem Ei {i:Int}{j pos}:SE X Wx m (.Constant (.int i) j pos) (ao (.int i)):=Gj Vt
theorem Es {z:Str}{j pos}:SE X Wx m (.Constant (.str z) j pos) (ao (.str z)):=Gk Vz
theorem Eb {b:Bool}{j pos}:SE X Wx m (.Constant (.bool b) j pos) (ao (.bl b)):=Gh Vl
theorem Ek {a b:Expr}{pos:Pos}{f g:E}(ha:SE X Wx .bor a f)(hb:SE X Wx .bor b g)(hs:Bt b:=by exact fun _ _=>rfl):SE X Wx m (.Subscript a b pos) (s2 aZ f g):=Zt Rj Wi ha hb hs
theorem Cm {a b:Expr}{op:CmpOp}{c:Cp}{pos:Pos}{f g:E}(hu:X.A.units + 60<cLine)(ha:SE X Wx .bor a f)(hb:SE X Wx .bor b g)(ho:op=pO c:=by rfl)(hm:behindInMarks op b=false:=by rfl):SE X Wx m (.Compare a [op] [b] pos) (s2 (aG c) f g):=by subst ho;exact Zo (pP hu c) xH ha hb hm
theorem Ct {a b:Expr}{op:CmpOp}{c:Cp}{pos:Pos}{f g:E}(hu:X.A.units + 60<cLine)(ha:SE X Wx .bor a f)(hb:SE X Wx .bor b g)(ho:op=pO c:=by rfl)(hm:behindInMarks op b=false:=by rfl):ST X Wx (.Compare a [op] [b] pos) (s2 (aG c) f g):=by subst ho;exact yj (pP hu c) xH ha hb hm
end
section
variable {P:Program}{w:World}{K:Fgx}{h base:Heap}{mg:Mgx}{k:Nat}{x:Str}{st:Stmt}{N ps:List Str}{b:S}
abbrev HB (x:Str)(st:Stmt)(ps:List Str):Prop:=∀(kV doc pm:Value) (an:Option Addr) (cdv ct:Value) (us:List Value),us.length=ps.length->bindArgs (PySem.W.fnOf x x (cJ st) (bV st) (aR st) .none kV doc pm an cdv ct) ⟨us,[]⟩=pure (ps.zip us)
theorem Oa {a0:Str}(h:∀{kV doc pm:Value} {an:Option Addr} {cdv ct u0:Value},bindArgs (PySem.W.fnOf x x (cJ st) (bV st) (aR st) .none kV doc pm an cdv ct) ⟨[u0],[]⟩=pure [(a0,u0)]):HB x st [a0]:=fun _ _ _ _ _ _ us hl=>match us,hl with | [_],_=>h
theorem Ob {a0 a1:Str}(h:∀{kV doc pm:Value} {an:Option Addr} {cdv ct u0 u1:Value},bindArgs (PySem.W.fnOf x x (cJ st) (bV st) (aR st) .none kV doc pm an cdv ct) ⟨[u0,u1],[]⟩=pure [(a0,u0),(a1,u1)]):HB x st [a0,a1]:=fun _ _ _ _ _ _ us hl=>match us,hl with | [_,_],_=>h
theorem Oc {a0 a1 a2:Str}(h:∀{kV doc pm:Value} {an:Option Addr} {cdv ct u0 u1 u2:Value},bindArgs (PySem.W.fnOf x x (cJ st) (bV st) (aR st) .none kV doc pm an cdv ct) ⟨[u0,u1,u2],[]⟩=pure [(a0,u0),(a1,u1),(a2,u2)]):HB x st [a0,a1,a2]:=fun _ _ _ _ _ _ us hl=>match us,hl with | [_,_,_],_=>h
theorem Od {a0 a1 a2 a3:Str}(h:∀{kV doc pm:Value} {an:Option Addr} {cdv ct u0 u1 u2 u3:Value},bindArgs (PySem.W.fnOf x x (cJ st) (bV st) (aR st) .none kV doc pm an cdv ct) ⟨[u0,u1,u2,u3],[]⟩=pure [(a0,u0),(a1,u1),(a2,u2),(a3,u3)]):HB x st [a0,a1,a2,a3]:=fun _ _ _ _ _ _ us hl=>match us,hl with | [_,_,_,_],_=>h
theorem Oe {a0 a1 a2 a3 a4:Str}(h:∀{kV doc pm:Value} {an:Option Addr} {cdv ct u0 u1 u2 u3 u4:Value},bindArgs (PySem.W.fnOf x x (cJ st) (bV st) (aR st) .none kV doc pm an cdv ct) ⟨[u0,u1,u2,u3,u4],[]⟩=pure [(a0,u0),(a1,u1),(a2,u2),(a3,u3),(a4,u4)]):HB x st [a0,a1,a2,a3,a4]:=fun _ _ _ _ _ _ us hl=>match us,hl with | [_,_,_,_,_],_=>h
theorem bF.ok (F:bF K x st)(X:K.In h)(G:h.Ns mainGlobals mg)(S:FnScope N ps (aR st))(hr:∀f,RT P w K mg base k f N x st b)
  (hb:HB x st ps:=by first |exact Oa rfl |exact Ob rfl |exact Oc rfl |exact Od rfl |exact Oe rfl) (hp:ps.length<=N.length:=by decide):bx P w K mg base (k + 1) x ps.length (cL N.length b):=by
 obtain⟨f,d,D⟩:=F.at X G hb;exact D.ok S (hr f) hp
theorem bx.up {j n:Nat}{g:G}(a:bx P w K mg base j x n g)(h:j<=k:=by decide):bx P w K mg base k x n g:=a.mono h
theorem m_.up {j n:Nat}{g:G}(a:m_ P w K mg base j x n g)(h:j<=k:=by decide):m_ P w K mg base k x n g:=a.mono h
theorem o_.up {j n:Nat}{C:Addr}{g:G}(a:o_ P w K mg base j C n g)(h:j<=k:=by decide):o_ P w K mg base k C n g:=a.mono h
theorem pA.up {j n:Nat}{C:Addr}{m:Str}{g:G}(a:pA P w K mg base j C m n g)(h:j<=k:=by decide):pA P w K mg base k C m n g:=a.mono h
theorem eV.up {j n:Nat}{C:Addr}{m:Str}{g:G}(a:eV P w K mg base j C m n g)(h:j<=k:=by decide):eV P w K mg base k C m n g:=a.mono h
theorem eU.up {j n:Nat}{C:Addr}{g:G}(a:eU P w K mg base j C n g)(h:j<=k:=by decide):eU P w K mg base k C n g:=a.mono h
theorem gn.up {j n:Nat}{C:Addr}{m:Str}{g:G}(a:gn P w K mg base j C m n g)(h:j<=k:=by decide):gn P w K mg base k C m n g:=a.mono h
theorem lJ {K:Fgx}{t:Addr}{d m s j0 j1 j2}{a b:Str}{i:Int}(l:K.lookup t=some ⟨.type "tuple",d,.seq #[.str a j0,.str b j1,.int i j2] m,s⟩):∀P H,Is K P H (.tup [.str a,.str b,.int i]) (.ref t):=JT (vs:=[.str a,.str b,.int i]) l rfl rfl (by show 3<=sizeLine;decide) (.cons ⟨_,rfl⟩ (.cons ⟨_,rfl⟩ (.cons ⟨_,rfl⟩ .nil))) (fun _ _=>⟨_,_,rfl,rfl,⟨_,_,rfl,rfl,⟨_,_,rfl,rfl,rfl⟩⟩⟩)
end
section
variable {X:Cx}{Wx:XW}{m:Mode}{pos:Pos}
def pW:Key->D
 |.inl i=>.int i
 |.inr x=>.str x
theorem is_key {K:Fgx}{P:Pl}{H:Hp}(k:Key):Is K P H (pW k) (kV k):=by
 cases k<;>rfl
end
end E3
namespace L2
open PySem PySem.Spec PyProof.Rows
noncomputable def zby (N:List Str) (psc:Scope) (xs:List Str) (cs:List (Str×Nat)) (scope:Scope):Bool:=
 scope.kind==.function && xs.all (fun x=>scope.names.lookup x==some .local) && decide ((xs ++ cs.map (·.1)).Nodup) &&
 scope.names.all (fun y=>y.2 !=.cell && (y.2 !=.local || scope.names.lookup y.1==some .local) && (y.2 !=.free || (psc.names.lookup y.1==some .cell || psc.names.lookup y.1==some .free))) &&
 cs.all (fun p=>N[p.2]? ==some p.1 && (psc.names.lookup p.1==some .cell || psc.names.lookup p.1==some .free) && ((cT psc scope.names).lookup p.1==some .cell || (cT psc scope.names).lookup p.1==some .free))
structure CompOkT (N:List Str)(psc:Scope)(xs:List Str)(cs:List (Str×Nat))(scope:Scope):Prop where
 kind:scope.kind=.function
 own:∀x∈xs,scope.names.lookup x=some .local
 nd:(xs ++ cs.map (·.1)).Nodup
 cell:∀y∈scope.names,y.2≠ .cell
 names:∀y∈scope.names,y.2=.local->scope.names.lookup y.1=some .local
 has:∀y∈scope.names,y.2=.free->psc.names.lookup y.1=some .cell\/psc.names.lookup y.1=some .free
 cap:∀p∈cs,N[p.2]? =some p.1/\(psc.names.lookup p.1=some .cell\/psc.names.lookup p.1=some .free)/\((cT psc scope.names).lookup p.1=some .cell\/(cT psc scope.names).lookup p.1=some .free)
end L2
namespace E3
open PySem PySem.Spec PyProof.Rows L2
end E3
namespace L2
open PySem PySem.Spec PyProof.Rows
end L2
namespace E3
open PySem PySem.Spec PyProof.Rows L2
end E3
namespace L2
open PySem PySem.Spec PyProof.Rows
end L2
namespace E3
open PySem PySem.Spec PyProof.Rows L2
section
variable {X:Cx}{Wx:XW}{m:Mode}{pos:Pos}
noncomputable def mj (j:Nat) (e:E) (env:Env):Nat->Nat->List D->Mm->Option (List D×Mm)
  |0,_,_,_=>none
  |n + 1,t,acc,M=>match M[j]? with
    | some (.lst ds) => (match ds[t]? with
      |none=>some (acc,M)
      | some d => (match e (.val d::env) M with
        |some (.v y,M2)=>if acc.length + 1<sizeLine then mj j e env n (t + 1) (acc ++ [y]) M2 else none
        |_=>none))
    |_=>none
noncomputable def lO (n:Nat) (cs:List (Str×Nat)) (f e:E):E:=fun env M=>bnd (f env M) fun d M1=>match d with
  | .ref j => (match mj j e (bL cs env) n 0 [] M1 with
    |some (ys,M2)=>some (.v (.lst ys),M2)
    |none=>none)
  |_=>none
theorem Pj {n:Nat}{cs:List (Str×Nat)}{f e:E}:∀env M r M',lO n cs f e env M=some (.v r,M')->∃ds,r=.lst ds:=fun env M r M' h=>by
 unfold lO at h;rcases bU h with⟨d,M1,e1,h⟩ |⟨c,n,e1,h⟩
 ·split at h
  ·split at h
   ·cases h;exact⟨_,rfl⟩
   ·cases h
  ·cases h
 ·cases h
theorem Iw {K:Fgx}{mg:Mgx}{n:Nat}{cs:List (Str×Nat)}{f e:E}{P0 P:Pl}{H0 H:Hp}{Os:List (Option Addr)}{M M':Mm}{st:L2.St}{env:Env}{r:Res}{R:Addr->Hp->Prop}(nd:(cs.map (·.2)).Nodup)
    (k:Ok K mg P0 H0 P Os H M st env) (ee:lO n cs f e env M=some (r,M')) (w:NR K mg Wx P0 H0 P H M' R r):yu (JL K (tE K mg Wx .val f)) m8 (tE K mg W0 .val e) cs st H R:=by
  unfold lO at ee;rcases bU ee with⟨d,M1,e1,ee⟩ |⟨c,n,e1,rfl⟩
  · split at ee
    · rename_i j;split at ee
      · rename_i ys M2 ec;cases ee;obtain⟨ds',e',w⟩:=w;cases e';refine⟨P0,H0,P,Os,env,M,_,_,k,e1,fun P1 v1 H1 l1 h1 i1=>?_⟩;obtain⟨jl,rfl⟩:j<P1.n/\v1=.ref (P1.io j):=i1;have hl:∃vs,bC K H1 (P1.io j) vs:=by
          cases n with
          |zero=>cases ec
          |succ n=>
            simp only[mj]at ec;split at ec
            · rename_i ds em;obtain⟨vs,ev,is⟩:=h1.cell j _ em;exact⟨vs,.inl (.inl ev)⟩
            · cases ec
        refine ⟨P1.io j, rfl, hl, fun D hD => ?_⟩;obtain ⟨l2, h2, nc⟩ := pI (vs := []) h1 hD;refine ⟨fun i m vs H2=>∃P2 M3 acc,LtE P1 H1 P2 H2/\Hk K mg P2 H2 M3/\P2.bd D/\(∀k,k<P2.n->P2.io k≠D)/\H2 D=some (.lst vs)/\au K P2 H2 acc vs/\acc.length<sizeLine/\mj j e (bL cs env) m i acc M3=some (ys,M'),
          ⟨n,P1.bar D,M1,[],l2,h2,.inr rfl,nc,cN,rfl,by x_go,ec⟩,?_⟩
        rintro i m vs H2 ⟨P2,M3,acc,l3,h3,bD,nD,eD,is,hz,ec⟩;refine⟨eD,?_⟩
        cases m with
        |zero=>cases ec
        |succ m=>
          simp only[mj]at ec;split at ec
          · rename_i ds em;obtain⟨us,ev,iu⟩:=h3.cell j _ em;rw[l3.io j jl]at ev;have sq:bC K H2 (P1.io j) us:=.inl (.inl ev);split at ec
            · rename_i et;cases ec;exact .inl ⟨⟨us,sq,by rw[iu.len];exact List.getElem?_eq_none_iff.mp et⟩,w P2 D vs H2 (l1.trans l3) h3 (l1.sure D hD) bD nD eD is⟩
            · rename_i d et;obtain⟨v,evt,iv⟩:=iu.get et;split at ec
              · rename_i y' M5 ey;split at ec
                · rename_i hz';refine .inr ⟨⟨us,v,sq,evt⟩,by rw[is.len];exact hz,fun vs' H'=>∃P2 M3 acc,LtE P1 H1 P2 H'/\Hk K mg P2 H' M3/\P2.bd D/\(∀k,k<P2.n->P2.io k≠D)/\H' D=some (.lst vs')/\au K P2 H' acc vs'/\acc.length<sizeLine/\mj j e (bL cs env) m (i + 1) acc M3=some (ys,M'),
                    fun vs' H' z=>⟨m,xb5 _,z⟩,fun x' H' y=>?_⟩
                  obtain⟨rfl,hy⟩:=y;have ex':v=x':=xas (evt.symm.trans (hy us sq));subst ex';have kk:=((k.next l1 h1).next l3 h3).cap (cs:=cs) nd iv
                  unfold m8;dsimp only;rw[xaa rfl];refine aY kk ey fun P5 v5 H5 l5 h5 i5=>?_;have eD5:H5 D=some (.lst vs):=l5.keep D _ eD (.inr nD);have nD5:∀k,k<P5.n->P5.io k≠D:=l5.nc eD nD;obtain⟨g1,g2,g3⟩:=JK (vs':=vs ++ [v5]) (l3.trans l5) h5 hD (l5.bm D bD) nD5 eD5;exact⟨eD5,P5,M5,acc ++ [y'],g2,g3,l5.bm D bD,nD5,cN,au.append (au.lt ((l5.lt h3).trans g1) is) (au.one (Is.lt g1 i5)),by rw[xaq];exact hz',ec⟩
                · cases ec
              · cases ec
          · cases ec
      · cases ee
    · cases ee
  · exact⟨P0,H0,P,Os,env,M,_,_,k,e1,w⟩
theorem zar (n:Nat)(x:Str)(cs:List (Str×Nat)){px py spos:Pos}{y:Str}{i:Nat}{iter elt:Expr}{scope:Scope}{f e:E}(hN:X.N.Nodup)(hk:X.N[i]? =some y)(hy:Loc X.env.scope y)(hc:X.calm=true)(nd:(cs.map (·.2)).Nodup)(hi:SE X Wx .val iter f)
  (he:∀(cl:List (Str×Addr)) (C:Addr) (s₀:Shared) (H₀:Hp) (ex:List Addr) (pn:Pnx),SE (cW X (x::cs.map (·.1)) scope cl C s₀ H₀ ex pn) W0 .val elt e)
  (ok:pN X.N X.env.scope x cs scope=true:=by kernel_rfl) (hs:∀x,foldedSetIterable iter X.env x=pure x:=by intro _;rfl)
  (hsw:swapsWith (.ListComp elt [⟨.Name x px,iter,[],0⟩] scope pos) (some (.Name y py)) spos.line X.env=pure true:=by rfl)
  (hf:X.fn y=true\/X.env.scope.names.lookup y=some .local:=by first |exact .inl rfl |exact .inr rfl):
  SS X Wx (.Assign [.Name y py] (.ListComp elt [⟨.Name x px,iter,[],0⟩] scope pos) spos) (aM i (lO n cs f e)):=by
 refine gb (La (tq:=m8) (te:=tE X.K X.mg W0 .val e) x cs hN hk hy hc (K6 hi) (fun _ _ _ _ _ _=>VN) he ok hs hsw hf) ?_;rintro D st H ⟨P0,H0,P,Os,env,M,out,M',k,ee,w⟩;unfold aM at ee;rcases iB ee with⟨d,M1,e1,ee⟩ |⟨c,n,e1,rfl⟩
 ·obtain⟨ds,rfl⟩:=Pj _ _ _ _ e1;split at ee
  ·rename_i hl;cases ee;refine Iw nd k e1 ⟨ds,rfl,fun P1 a vs H1 l1 h1 ha ba nc ea is=>?_⟩;obtain⟨l2,h2,i2⟩:=JC k.hk l1 h1 ha nc ea is;exact w _ _ _ _ (l2.lt k.hk) ((k.next l2 h2).asg hl i2)
  ·cases ee
 ·exact Iw nd k e1 w
end
end E3
namespace E3
open PySem L2
section
variable {env:Env}{M M1 M2 M3 M4:Mm}{f g h v:E}{d e x y:D}{i:Int}{n k:Nat}{ds es:List D}{kvs:List (Key×D)}{key:Key}
theorem IK {j:Nat}{e:E}(F:D->D)(hM:M[j]? =some (.lst ds))(he:∀d∈ds,e (.val d::env) M=some (.v (F d),M)):∀(n t:Nat) (acc:List D),ds.length - t<n->t<=ds.length->acc.length + (ds.length - t)<sizeLine->mj j e env n t acc M=some (acc ++ (ds.drop t).map F,M)
  |0,t,acc,h,_,_=>absurd h (xcf _)
  |n + 1,t,acc,h,ht,hl=>by
    by_cases q:t<ds.length
    · simp only[mj,hM,xaf q,he _ (xbk q)];rw[xaa (by omega),IK F hM he n (t + 1) (acc ++ [F ds[t]]) (by omega) q (by rw[xaq,xbh];omega),xaS q,xay,xaN];rfl
    · simp only[mj,hM,xa0 (xbD q)];rw[List.drop_of_length_le (xbD q)]
      simp
theorem Ow {cs:List (Str×Nat)}{j:Nat}{e:E}(F:D->D)(h1:f env M=some (.v (.ref j),M1))(hM:M1[j]? =some (.lst ds))(he:∀d∈ds,e (.val d::bL cs env) M1=some (.v (F d),M1))(hn:ds.length<n)(hl:ds.length<sizeLine):
  lO n cs f e env M=some (.v (.lst (ds.map F)),M1):=by
 simp only[lO,bnd,h1,IK F hM he n 0 [] (by omega) (xa8 _) (by simpa using hl),xcA,xbA]
end
end E3
namespace L2
open PySem PySem.Spec PyProof.Rows
end L2
namespace E3
open PySem PySem.Spec PyProof.Rows L2
end E3
namespace E3
open PySem PySem.Spec PyProof.Rows L2 PySem.W
section
variable {n:Nat}{lt:Nat->Nat->Option Bool}{le:Nat->Nat->Prop}
def Pm (n:Nat)(p:Array Nat):Prop:=p.Perm (List.range n).toArray
theorem Pm.size {p:Array Nat}(h:Pm n p):p.size=n:=by
 have:=Array.Perm.size_eq h
 simpa using this
theorem Pm.low {p : Array Nat} (h : Pm n p) : Low n p := ⟨h.size,fun x hx=>by
 have:=(xdr h).mem_iff.mp hx
 simpa using this⟩
theorem Pm.rev {p:Array Nat}{i j:Nat}(h:Pm n p):Pm n (kas_rev p i j):=(xcK _ _ _ _).trans h
theorem Pm.bub {p:Array Nat}{i j:Nat}(h:Pm n p):Pm n (bubble p i j):=(bubble_perm _ _ _).trans h
theorem wG {p q:Array Nat}{i j:Nat}(h:p[i]? =q[j]?):p.getD i 0=q.getD j 0:=by
 rw[xa2,xa2,h]
theorem nT {p:Array Nat}{i j:Nat}(hj:j<=p.size)(k:Nat):(kas_rev p i j).getD k 0=if i<=k/\k<j then p.getD (i + j - 1 - k) 0 else p.getD k 0:=by
 have:=getElem?_mirror_all (xs:=p) (i:=i) hj k
 split
 ·rename_i h;rw[xaa h]at this;exact wG this
 ·rename_i h;rw[xad h]at this;exact wG this
theorem Ij {p:Array Nat}{s d:Nat}(hs:s<p.size)(hd:d<=s)(k:Nat):(bubble p s d).getD k 0=if k=s - d then p.getD s 0 else if s - d<k/\k<=s then p.getD (k - 1) 0 else p.getD k 0:=by
 have:=getElem?_bubble hs d hd k
 by_cases h:k=s - d
 ·rw[xaa h]at this ⊢;exact wG this
 ·rw[xad h]at this ⊢
  by_cases h':s - d<k/\k<=s
  ·rw[xaa h']at this ⊢;exact wG this
  ·rw[xad h']at this ⊢;exact wG this
def Up (le:Nat->Nat->Prop)(p:Array Nat)(m:Nat):Prop:=∀i j,i<=j->j<m->le (p.getD i 0) (p.getD j 0)
def Dn (le:Nat->Nat->Prop)(p:Array Nat)(m:Nat):Prop:=∀i j,i<=j->j<m->le (p.getD j 0) (p.getD i 0)
def Al (le:Nat->Nat->Prop)(p:Array Nat)(m q:Nat):Prop:=∀i j,m - (q + 1)<=i->i<m->m - (q + 1)<=j->j<m->le (p.getD i 0) (p.getD j 0)
variable (hn:0<n)(rf:∀i,le i i)(tr:∀i j k,le i j->le j k->le i k)(H:∀i j,i<n->j<n->∃b,lt i j=some b/\(b=true->le i j)/\(b=false->le j i))
include rf tr
theorem Dn.al {p:Array Nat}{m q:Nat}(hm:m<=p.size)(hq:q + 1<=m)(h:Dn le p m)(ha:Al le p m q):Dn le (kas_rev p (m - (q + 1)) m) m:=by
 intro i j hij hj;rw[nT hm,nT hm]
 split
 ·split
  ·exact ha _ _ (by omega) (by omega) (by omega) (by omega)
  ·exact h _ _ (by omega) (by omega)
 ·split
  ·exact(by omega:False).elim
  ·exact h _ _ hij hj
theorem Dn.succ {p:Array Nat}{m:Nat}(hm:0<m)(h:Dn le p m)(hl:le (p.getD m 0) (p.getD (m - 1) 0)):Dn le p (m + 1):=by
 intro i j hij hj
 by_cases hjm:j<m
 ·exact h i j hij hjm
 ·obtain rfl:j=m:=by omega
  by_cases hi:i=j
  ·subst hi;exact rf _
  ·exact tr _ _ _ hl (h i (j - 1) (by omega) (by omega))
theorem Up.succ {p:Array Nat}{m:Nat}(hm:0<m)(h:Up le p m)(hl:le (p.getD (m - 1) 0) (p.getD m 0)):Up le p (m + 1):=by
 intro i j hij hj
 by_cases hjm:j<m
 ·exact h i j hij hjm
 ·obtain rfl:j=m:=by omega
  by_cases hi:i=j
  ·subst hi;exact rf _
  ·exact tr _ _ _ (h i (j - 1) (by omega) (by omega)) hl
include hn H
theorem Gs {p:Array Nat}(h:Pm n p):∀f m,1<=m->Up le p m->∃r,bG lt (kas_asc p f m)=some r/\m<=r/\r<=m + f/\Up le p r/\(r=m + f\/le (p.getD r 0) (p.getD (r - 1) 0))
  |0,m,_,hu=>⟨m,rfl,xab _,xab _,hu,.inl rfl⟩
  |f + 1,m,h1,hu=>by
    obtain⟨b,eb,b1,b0⟩:=H _ _ (h.low.get hn m) (h.low.get hn (m - 1));simp only[kas_asc,bG,eb];cases b
    · obtain⟨r,er,l1,l2,u,z⟩:=Gs h f (m + 1) (by omega) (Up.succ rf tr (by omega) hu (b0 rfl));exact⟨r,er,by omega,by omega,u,z.imp (fun e=>by omega) id⟩
    · exact⟨m,rfl,xab _,by omega,hu,.inr (b1 rfl)⟩
theorem Ay:∀f {p:Array Nat} m q,Pm n p->1<=m->m + f<=n->q + 1<=m->Dn le p m->Al le p m q->
    ∃r,bG lt (kas_desc f p m q)=some r/\Pm n r.1/\m<=r.2.1/\r.2.1<=m + f/\r.2.2 + 1<=r.2.1/\Dn le r.1 r.2.1/\Al le r.1 r.2.1 r.2.2
  |0,p,m,q,h,h1,hf,hq,hd,ha=>⟨_,rfl,h,xab _,xab _,hq,hd,ha⟩
  |f + 1,p,m,q,h,h1,hf,hq,hd,ha=>by
    obtain⟨b,eb,b1,b0⟩:=H _ _ (h.low.get hn m) (h.low.get hn (m - 1));obtain⟨c,ec,c1,c0⟩:=H _ _ (h.low.get hn (m - 1)) (h.low.get hn m);have hs:=h.size;have one:∀p':Array Nat,Al le p' (m + 1) 0:=fun p' i j a1 a2 a3 a4=>by
      obtain rfl:i=j:=by omega
      exact rf _
    simp only[kas_desc,bG,eb];cases b
    · simp only[xaK,xa4,bG,ec];cases c
      · have e1 := b0 rfl;have e2 := c0 rfl;obtain ⟨r, er, g1, g2, g3, g4⟩ := Ay f (m + 1) (q + 1) h (by omega) (by omega) (by omega) (Dn.succ rf tr (by omega) hd e2) (fun i j a1 a2 a3 a4=>by
          have k1:∀x,m - (q + 1)<=x->x<m->le (p.getD x 0) (p.getD m 0):=fun x y1 y2=>tr _ _ _ (ha x (m - 1) y1 y2 (by omega) (by omega)) e1;have k2:∀x,m - (q + 1)<=x->x<m->le (p.getD m 0) (p.getD x 0):=fun x y1 y2=>tr _ _ _ e2 (ha (m - 1) x (by omega) (by omega) y1 y2)
          by_cases hi:i=m
          · subst hi
            by_cases hj:j=i
            · subst hj;exact rf _
            · exact k2 j (by omega) (by omega)
          · by_cases hj:j=m
            · subst hj;exact k1 i (by omega) (by omega)
            · exact ha i j (by omega) (by omega) (by omega) (by omega))
        exact⟨r,er,g1,by omega,by omega,g4⟩
      · exact⟨_,rfl,h,xab _,Nat.le_add_right m (f + 1),hq,hd,ha⟩
    · simp only[xbF];have e1:=b1 rfl
      split
      · have hd':=Dn.al rf tr (by omega) hq hd ha;have hl:le ((kas_rev p (m - (q + 1)) m).getD m 0) ((kas_rev p (m - (q + 1)) m).getD (m - 1) 0):=by
          rw[nT (by omega),nT (by omega),xad (by omega),xaa (by omega)];exact tr _ _ _ e1 (ha (m - 1) _ (by omega) (by omega) (by omega) (by omega))
        obtain⟨r,er,g1,g2,g3,g4⟩:=Ay f (m + 1) 0 h.rev (by omega) (by omega) (by omega) (Dn.succ rf tr (by omega) hd' hl) (one _);exact⟨r,er,g1,by omega,by omega,g4⟩
      · obtain⟨r,er,g1,g2,g3,g4⟩:=Ay f (m + 1) 0 h (by omega) (by omega) (by omega) (Dn.succ rf tr (by omega) hd e1) (one _);exact⟨r,er,g1,by omega,by omega,g4⟩
theorem MN {p:Array Nat}{a:Nat}(h:Pm n p)(h1:1<=a)(ha:a<=n)(hd:Dn le p a):∃r,bG lt (kas_tail3 a n p)=some r/\Pm n r.2/\1<=r.1/\r.1<=n/\Up le r.2 r.1:=by
 unfold kas_tail3;have hs := h.size;obtain ⟨r, er, l1, l2, u, -⟩ := Gs hn rf tr H (p := kas_rev p 0 a) h.rev (n - a) a h1 (fun i j hij hj=>by
  rw[nT (by omega),nT (by omega),xaa (by omega),xaa (by omega)];exact hd _ _ (by omega) (by omega))
 rw[run_bind,er];exact⟨_,rfl,h.rev,by omega,by omega,u⟩
theorem MK {p:Array Nat}{a:Nat}(h:Pm n p)(ha:a + 1<=n)(hd:Dn le p (a + 1)):∃r,bG lt (kas_descPart a n p)=some r/\Pm n r.2/\1<=r.1/\r.1<=n/\Up le r.2 r.1:=by
 unfold kas_descPart;have hs := h.size;obtain ⟨r, er, g1, g2, g3, g4, g5, g6⟩ := Ay hn rf tr H (n - (a + 1)) (a + 1) 0 h (by omega) (by omega) (by omega) hd (fun i j a1 a2 a3 a4=>by
  obtain rfl:i=j:=by omega
  exact rf _)
 rw[run_bind,er,Option.bind_some];have gs:=g1.size
 split
 ·exact MN hn rf tr H g1.rev (by omega) (by omega) (Dn.al rf tr (by omega) g4 g5 g6)
 ·exact MN hn rf tr H g1 (by omega) (by omega) g5
theorem ZX {p:Array Nat}(h:Pm n p):∃r,bG lt (kas_count n p)=some r/\Pm n r.2/\1<=r.1/\r.1<=n/\Up le r.2 r.1:=by
  unfold kas_count;have hs := h.size;obtain ⟨r, er, l1, l2, u, z⟩ := Gs hn rf tr H h (n - 1) 1 (xab _) (fun i j hij hj=>by
    obtain rfl:i=j:=by omega
    exact rf _)
  rw[run_bind,er,Option.bind_some]
  split
  · exact⟨_,rfl,h,l1,by omega,u⟩
  · rename_i hr;have hrn:r≠n:=fun e=>hr (by simp[e]);have hl:=z.resolve_left (by omega)
    split
    · obtain⟨c,ec,c1,c0⟩:=H _ _ (h.low.get hn 0) (h.low.get hn (r - 1));simp only[bG,ec];cases c
      · have e0:=c0 rfl;have all:∀i j,i<r->j<r->le (p.getD i 0) (p.getD j 0):=fun i j hi hj=>tr _ _ _ (u i (r - 1) (by omega) (by omega)) (tr _ _ _ e0 (u 0 j (by omega) hj));refine MK hn rf tr H h.rev (by omega) ?_;intro i j hij hj;rw[nT (by omega),nT (by omega)]
        split
        · rw[xaa (by omega)];exact all _ _ (by omega) (by omega)
        · obtain rfl:j=r:=by omega
          split
          · exact tr _ _ _ hl (all _ _ (by omega) (by omega))
          · obtain rfl:i=j:=by omega
            exact rf _
      · exact⟨_,rfl,h,l1,by omega,u⟩
    · obtain rfl:r=1:=by omega
      refine MK hn rf tr H h (by omega) ?_;intro i j hij hj
      by_cases hi:i=j
      · subst hi;exact rf _
      · obtain rfl:i=0:=by omega
        obtain rfl:j=1:=by omega
        exact hl
theorem Gu {p:Array Nat}{k:Nat}(h:Pm n p)(hk:k<n)(u:Up le p k):∀f l r,l<=r->r<=k->r - l<=f->(∀i,i<l->le (p.getD i 0) (p.getD k 0))->(∀i,r<=i->i<k->le (p.getD k 0) (p.getD i 0))->
    ∃x,bG lt (kas_place p k f l r)=some x/\x<=k/\(∀i,i<x->le (p.getD i 0) (p.getD k 0))/\(∀i,x<=i->i<k->le (p.getD k 0) (p.getD i 0))
  |0,l,r,h1,h2,h3,lo,hi=>by
    obtain rfl:l=r:=by omega
    exact⟨l,rfl,h2,lo,hi⟩
  |f + 1,l,r,h1,h2,h3,lo,hi=>by
    unfold kas_place
    split
    · obtain rfl:l=r:=by omega
      exact⟨l,rfl,h2,lo,hi⟩
    · obtain⟨c,ec,c1,c0⟩:=H _ _ (h.low.get hn k) (h.low.get hn ((l + r) / 2));simp only[bG,ec];cases c
      · simp only[xaK,xa4];exact Gu h hk u f _ _ (by omega) h2 (by omega) (fun i hi'=>tr _ _ _ (u i ((l + r) / 2) (by omega) (by omega)) (c0 rfl)) hi
      · simp only[xbF];exact Gu h hk u f _ _ (by omega) (by omega) (by omega) lo (fun i h1' h2'=>tr _ _ _ (c1 rfl) (u _ _ h1' h2'))
theorem MJ:∀f {p:Array Nat} k,Pm n p->k + f=n->Up le p k->∃r,bG lt (kas_bin f p k)=some r/\Pm n r/\Up le r n
  |0,p,k,h,e,u=>⟨p,rfl,h,by rw[<-e];exact u⟩
  |f + 1,p,k,h,e,u=>by
    unfold kas_bin;have hs:=h.size;obtain⟨x,ex,xk,lo,hi⟩:=Gu hn rf tr H h (by omega) u k 0 k (by omega) (by omega) (by omega) (fun i hi=>by omega) (fun i h1 h2=>by omega);rw[run_bind,ex,Option.bind_some];refine MJ f (k + 1) h.bub (by omega) ?_;intro i j hij hj;rw[Ij (by omega) (by omega),Ij (by omega) (by omega),show k - (k - x)=x by omega]
    repeat' split
    all_goals first
      |(exfalso;omega)
      |exact rf _
      |exact lo _ (by omega)
      |exact hi _ (by omega) (by omega)
      |exact u _ _ (by omega) (by omega)
theorem Z0:∃p,bG lt (kas_sort n)=some p/\Pm n p/\Up le p n:=by
 unfold kas_sort;obtain⟨r,er,g1,g2,g3,g4⟩:=ZX hn rf tr H (p:=(List.range n).toArray) (Array.Perm.refl _);rw[run_bind,er,Option.bind_some]
 split
 ·rw[show max r.1 1=r.1 by omega];exact MJ hn rf tr H _ _ g1 (by omega) g4
 ·exact⟨_,rfl,g1,by rw[show n=r.1 by omega];exact g4⟩
end
theorem Z5 {ds:List D}{le:D->D->Prop}(h64:ds.length<64)(ht:ds.all tupI=true)(rf:∀d,le d d)(tr:∀a b c,le a b->le b c->le a c)
    (H:∀xs ys,.tup xs∈ds->.tup ys∈ds->∃b,bA xs ys=some b/\(b=true->le (.tup xs) (.tup ys))/\(b=false->le (.tup ys) (.tup xs))):∃es,Gv ds=some es/\es.Perm ds/\es.Pairwise le:=by
  unfold Gv
  split
  · rename_i h2;refine⟨ds,rfl,xd0 _,?_⟩
    match ds,h2 with
    | [],_=>exact .nil
    | [d],_=>exact xdM _ _
  · rename_i h2;rw [xaa ⟨h64, ht⟩];obtain ⟨p, ep, hp, hu⟩ := Z0 (n := ds.length) (lt := DP ds) (le := fun i j => le (ds.getD i .non) (ds.getD j .non)) (by omega) (fun i => rf _) (fun i j k => tr _ _ _) (fun i j hi hj=>by
      have m1:=xbk hi;have m2:=xbk hj;have t1:=xaY.mp ht _ m1;have t2:=xaY.mp ht _ m2;have g1:ds.getD i .non=ds[i]:=by rw[xa5,xaf hi,xcO]
      have g2:ds.getD j .non=ds[j]:=by rw[xa5,xaf hj,xcO]
      unfold DP;rw[g1,g2];generalize ds[i]=a at *;generalize ds[j]=b at *;cases a<;>try cases t1
      cases b<;>try cases t2
      exact H _ _ m1 m2)
    have hl:=xdr hp;refine⟨_,by rw[ep];rfl,?_,?_⟩
    · have:=List.Perm.map (fun i=>ds.getD i .non) hl;refine this.trans ?_;rw[show(List.range ds.length).toArray.toList=List.range ds.length from rfl];have e:(List.range ds.length).map (fun i=>ds.getD i .non)=ds:=by
        apply xdq;intro k;rw[xar]
        by_cases hk:k<ds.length
        · rw[xb8 hk,xaf hk,xbs,xa5,xaf hk,xcO]
        · rw[xa0 (by simpa using hk),xa0 (by omega)];rfl
      rw[e]
    · rw[xbK,xbH];intro i j hi hj hij;have sz:=hp.size;have:=hu i j (by omega) (by rw[xaj]at hj;omega);rw[xa2,xa2]at this;rw[xaj]at hi hj;rw[xba hi,xba hj]at this;exact this
noncomputable def lG:List D->List D->Option Bool
 | [],[]=>some true
 |.int i::ps,.int j::qs=>if i=j then lG ps qs else some (decide (j<=i))
 |.str a::ps,.str b::qs=>if a=b then lG ps qs else some (!decide (a.cps.toList<b.cps.toList))
 |_,_=>none
noncomputable def gG:D->D->Option D
 |.tup xs,.tup ys=>(lG xs ys).map .bl
 |_,_=>none
section
variable {prog:Program}{w:World}{A:Around}{E:Value->Shared->Prop}{s:Shared}{K:Fgx}{P:Pl}{H:Hp}
theorem zat {a b:Addr}{oa ob:Obj}{xs ys:Array Value}{na nb:Nat}{ds es:List D}{vs ws:List V}{r:Bool}{Q:PySem.Fin->Shared->Prop}
    (hoa:s.heap.get? a=some oa) (hda:oa.data=.seq xs na) (hob:s.heap.get? b=some ob) (hcb:s.TypeIs (.ref b) "tuple") (hdb:ob.data=.seq ys nb)
    (i1:au K P H ds vs) (i2:au K P H es ws) (r1:Vals vs xs.toList) (r2:Vals ws ys.toList) (e:lG ds es=some r) (h:Q (.done (.ret (.bool r))) s):
    wpAny (model prog w) A (Builtin.«tuple.__ge__» ⟨[.ref a,.ref b],[]⟩) Q E s:=by
  show wpAny _ _ (isInstance (.ref b) (.type "tuple") >>=_) _ _ s;refine tG (xdA hcb isSubtype_tuple_tuple ?_);simp only[xed,xaK,xa4];refine tG (wpAny_tupleItemsOf hoa hda ?_);refine tG (wpAny_tupleItemsOf hob hdb ?_);refine tG ?_;refine wpAny_forIn_list _
    (fun rest c s'=>c.1=none/\s'=s/\∃(ds' es':List D) (vs' ws':List V) (xs' ys':List Value),rest=List.zip xs' ys'/\au K P H ds' vs'/\au K P H es' ws'/\Vals vs' xs'/\Vals ws' ys'/\lG ds' es'=some r/\xs.size + ys'.length=ys.size + xs'.length)
    _ ?_ ?_ _ _ ⟨rfl,rfl,ds,es,vs,ws,xs.toList,ys.toList,rfl,i1,i2,r1,r2,e,by simp[Nat.add_comm]⟩
  · rintro⟨u,v⟩ rest c s' ⟨hr,rfl,ds',es',vs',ws',xs',ys',hz,j1,j2,q1,q2,e',hl⟩
    cases q1 with
    |nil=>simp at hz
    |cons a1 q1=>
      cases q2 with
      |nil=>simp at hz
      |cons a2 q2=>
        simp only[xcw,xdQ,Prod.mk.injEq]at hz;obtain⟨⟨rfl,rfl⟩,rfl⟩:=hz
        cases ds' with
        |nil=>cases (show _=[] from j1)
        |cons x ds'=>
          cases es' with
          |nil=>cases (show _=[] from j2)
          |cons y es'=>
            obtain⟨v,vr,ev,p,j1⟩:=j1;obtain⟨z,wr,ew,p',j2⟩:=j2;cases ev;cases ew;simp only[xaF]at hl;cases x<;>cases y<;>simp only[lG,reduceCtorEq]at e'
            · rename_i i j;cases p;cases p';obtain⟨t1,rfl⟩:=a1;obtain⟨t2,rfl⟩:=a2;refine tG (xct _ _ _ _ prog w _ _ ?_);split at e'
              · rename_i hij;subst hij;rw[show(i==i)=true from xaX i];simp only[xed,xaK,xa4];exact xac ⟨rfl,rfl,ds',es',_,_,_,_,rfl,j1,j2,q1,q2,e',by omega⟩
              · rename_i hij;cases e';rw[show(i==j)=false from xaZ.mpr hij];simp only[Bool.not_false,xbF];refine tG (xdx (tG ?_));refine(show wpAny _ _ (compareOp .GtE (.int i t1) (.int j t2)) _ _ _ from _root_.PySem.P.ge_int ?_);exact xac (xac h)
            · rename_i i j;cases p;cases p';obtain⟨t1,rfl⟩:=a1;obtain⟨t2,rfl⟩:=a2;refine tG (xcu _ _ _ _ prog w _ _ ?_);split at e'
              · rename_i hij;subst hij;rw[show(i==i)=true from xaX i];simp only[xed,xaK,xa4];exact xac ⟨rfl,rfl,ds',es',_,_,_,_,rfl,j1,j2,q1,q2,e',by omega⟩
              · rename_i hij;cases e';rw[show(i==j)=false from xaZ.mpr hij];simp only[Bool.not_false,xbF];refine tG (xdx (tG ?_));refine(show wpAny _ _ (compareOp .GtE (.str i t1) (.str j t2)) _ _ _ from _root_.PySem.P.ge_str ?_);exact xac (xac h)
  · rintro⟨c1,c2⟩ s' ⟨hr,rfl,ds',es',vs',ws',xs',ys',hz,j1,j2,q1,q2,e',hl⟩;simp only at hr;subst hr;refine xac ?_;have hx:xs.size=ys.size/\r=true:=by
      cases q1 with
      |nil=>
        cases q2 with
        |nil=>
          cases ds' with
          |nil=>
            cases es' with
            |nil=>cases e';exact⟨by simpa using hl,rfl⟩
            |cons y es'=>obtain⟨_,_,ev,_⟩:=j2;cases ev
          |cons x ds'=>obtain⟨_,_,ev,_⟩:=j1;cases ev
        |cons a2 q2=>
          cases ds' with
          |nil=>
            cases es' with
            |nil=>cases (show _=[] from j2)
            |cons y es'=>cases e'
          |cons x ds'=>obtain⟨_,_,ev,_⟩:=j1;cases ev
      |cons a1 q1=>
        cases q2 with
        |nil=>
          cases es' with
          |nil=>
            cases ds' with
            |nil=>cases (show _=[] from j1)
            |cons x ds'=>cases x<;>cases e'
          |cons y es'=>obtain⟨_,_,ev,_⟩:=j2;cases ev
        |cons a2 q2=>simp at hz
    show Q (.done (.ret (.bool (decide (xs.size >=ys.size))))) s';rw[hx.1,xaW (xab _), <-hx.2];exact h
end
section
variable {X:Cx}{Wx:XW}{m:Mode}
noncomputable def xK (K:Fgx):R2:=fun x y H Q=>∃(P:Pl) (a b:Addr) (vs ws:List V) (ds es:List D) (r:Bool),x=.ref a/\y=.ref b/\dM K H a vs/\dM K H b ws/\au K P H ds vs/\au K P H es ws/\lG ds es=some r/\Q (.bl r) H
theorem U5 (hu:X.A.units + 60<cLine):bB X (compareOp .GtE) (xK X.K):=by
 intro pins s σ H x y v u Q I rx ry h;obtain⟨P,a,b,vs,ws,ds,es,r,rfl,rfl,t1,t2,i1,i2,e,q⟩:=h;cases rx;cases ry;obtain⟨its,rv,pt,_⟩:=I.tuple t1;obtain⟨its',rv',pt',_⟩:=I.tuple t2;obtain⟨o,e1,e2,n,e3⟩:=pt;obtain⟨o',e1',e2',n',e3'⟩:=pt';have ty:s.TypeIs (.ref a) "tuple":=⟨o,e1,e2⟩;have ty':s.TypeIs (.ref b) "tuple":=⟨o',e1',e2'⟩;show wpAny _ _ (richCompare .GtE _ _) _ _ _;exact wpAny_richCompare_same_room (op:=.GtE) ty ty' F.slot_tuple_ge (xbR F.slot_tuple_ge ty F.entry_tuple_ge (zat e1 e3 e1' ty' e3' i1 i2 (by simpa using rv) (by simpa using rv') e ⟨_,rfl,(fun z=>nomatch z),⟨.bl _,H,I,rfl,q⟩⟩) (F.args_tuple_ge_2 _ _)) (by omega)
theorem Wg {K:Fgx}:fM K (xK K) gG:=fun P H d e z v w Q h h1 h2 _ q=>by
 cases d<;>cases e<;>simp only[gG,reduceCtorEq]at h
 rename_i ds es;rw[xag]at h;obtain⟨r,h,rfl⟩:=h;obtain⟨a,vs,rfl,t1,i1⟩:=h1;obtain⟨b,ws,rfl,t2,i2⟩:=h2;exact⟨P,a,b,vs,ws,ds,es,r,rfl,rfl,t1,t2,i1,i2,h,q _ H (Same.refl H) rfl⟩
theorem zbd {a b:Expr}{pos:Pos}{f g:E}(hu:X.A.units + 60<cLine)(ha:SE X Wx .bor a f)(hb:SE X Wx .bor b g)(hm:behindInMarks .GtE b=false:=by rfl):ST X Wx (.Compare a [.GtE] [b] pos) (s2 gG f g):=yj (U5 hu) Wg ha hb hm
end
end E3
namespace L2
open PySem PySem.Spec PyProof.Rows
section
variable {X:Cx}
theorem O5:X.calm=true->cZ X (.builtin "min") (fun xs H Q=>∃(p:Addr) (is:List Int),xs=[.ref p]/\0<is.length/\bC X.K H p (is.map V.int)/\∀m,m∈is->(∀a∈is,m<=a)->Q (.int m) H):=by
 intro hc pins s σ H xs us Q I r h;obtain⟨p,is,rfl,hne,hq,q⟩:=h;obtain⟨u,rfl,rx⟩:=vals1 r;cases rx;obtain⟨its,rv,pl,hz⟩:=I.list hq;have hi:=Dm rv;have hn:=hi.numsOf;have hlen:=rv.length;rw[xae]at hlen;obtain⟨zs,hzs⟩:=hi.allInts.items;have hl:=pl.isList;have e1:numsOf its.toArray.toList=is:=hn;rw[hzs]at hl e1;have hs:0<zs.size:=by
  have:its.toArray.size=zs.size:=by rw[hzs];simp[intItems]
  rw[xah]at this;omega
 rw[nums_intItems]at e1;refine min_intList (I.ok.hd hc) hl hs fun v h' tk hv hk=>?_;obtain⟨t,rfl⟩:=intItems_at hv;obtain⟨h1,h2⟩:=argBest_lt (numAt zs) (zs.size - 1);refine⟨.int _,H,I.kept hk,⟨t,rfl⟩,q _ ?_ fun a ha=>?_⟩
 ·rw[<-e1,numAt_eq];exact getD_mem (by rw[xae,xaj];omega)
 ·rw[<-e1]at ha;obtain⟨j,hj,rfl⟩:=mem_getD ha;rw[xae,xaj]at hj;rw[<-numAt_eq];exact h2 j (by omega)
end
end L2
namespace E3
open PySem PySem.Spec PyProof.Rows L2
noncomputable def dw:List Int->Int
 | []=>0
 | [a]=>a
 |a::b::r=>min a (dw (b::r))
theorem Ii {m:Int}:∀(l:List Int),l≠ []->(∀a∈l,m<=a)->m<=dw l
  | [],z,_=>absurd rfl z
  | [c],_,g=>g c (by simp)
  |c::d::l,_,g=>by
    have h1:=g c (by simp);have h2:=Ii (d::l) (by simp) fun a ha=>g a (xak _ ha);unfold dw;omega
theorem vH:∀{is:List Int} {m:Int},m∈is->(∀a∈is,m<=a)->dw is=m
  | [],_,h,_=>by cases h
  | [a],m,h,_=>by rw[xaz]at h;exact h.symm
  |a::b::r,m,h,g=>by
    have ha:=g a (xau ..);have hb:=Ii (b::r) (by simp) fun a ha=>g a (xak _ ha);unfold dw;rcases xan.mp h with rfl |h
    · omega
    · have:=vH h fun a ha=>g a (xak _ ha);omega
noncomputable def vD:List D->Option D
  | [.lst ds]=>match mG ds with
    |some is=>if 0<is.length then some (.int (dw is)) else none
    |none=>none
  |_=>none
theorem Wl {K:Fgx}:gW K (fun xs H Q=>∃(p:Addr) (is:List Int),xs=[.ref p]/\0<is.length/\bC K H p (is.map V.int)/\∀m,m∈is->(∀a∈is,m<=a)->Q (.int m) H) vD:=fun P H ds z vs Q h i _ q=>by
 unfold vD at h;split at h
 ·split at h
  ·rename_i is ei;split at h
   ·rename_i hl;cases h;obtain⟨v,ws,rfl,p,rfl⟩:=i;obtain⟨a,us,rfl,r,s⟩:=p;have eu:=zu ei s;subst eu;exact⟨a,is,rfl,hl,r,fun m h1 h2=>by rw[<-vH h1 h2];exact q _ H (Same.refl H) rfl⟩
   ·cases h
  ·cases h
 ·cases h
section
variable {X:Cx}{Wx:XW}
def XP (X:Cx)(D:Ends)(f:Flow)(s':Shared):Prop:=match f with
 |.ret u=>∃v H',s'.os=X.s₀.os/\AllBare s'.gens/\Un X.fs [] X.H₀ H' X.s₀.heap s'.heap/\bN X.prog X.w H' s'.heap/\RelV v u/\D.rt v H'
 |.brk=>∃σ' H',D.bk σ' H'
 |.cont=>∃σ' H',D.ct σ' H'
 |.next=>False
end
def N7 (mg:Mgx)(base:Heap):Prop:=∃bm o,mg "__builtins__"=some (.ref bm)/\bm≠builtinsNs/\bm≠mainGlobals/\base.get? bm=some o/\o.cls=.type "module"/\o.dict=some builtinsNs/\o.data=.plain
structure MkOk (X:Cx)(nm:Str)(i:FnT)(caps:List (Str×Nat))(cl:List (Str×Addr))(c Pt:Addr)(j:Nat):Prop where
 ex:X.ex=[]
 fn:∀x,X.fn x=true
 st:∃params body scope,i.st=.FunctionDef i.x params body [] none [] scope none i.x i.pos/\((params.defaults=[]/\i.dd=[])\/∃n a p,params.defaults=[.Constant (.int n) a p]/\i.dd=[n]/\cl≠ [])/\params.kw_defaults=[]/\params.kwonlyargs=[]/\annTrees params none X.env=[]
 q:qualnameIn X.env i.x i.x=i.q
 code:X.env.code=.ref c
 tab:PySem.W.tabIn X.K nm=some (c,Pt)
 hd:PySem.W.codeHdIn X.K c Pt=true
 bm:N7 X.mg X.base
 clo:closureFor (aR i.st) X.env=pure cl
 nam:cl.map (·.1)=caps.map (·.1)
 zf:caps.map (·.1)=i.fr
 cel:∀p∈cl,X.env.cells.lookup p.1=some p.2
 cap:∀p∈caps,X.N[p.2]? =some p.1/\X.env.scope.names.lookup p.1=some .cell/\p.2≠j
 nd:X.N.Nodup
 jx:X.N[j]? =some i.x
 jl:X.env.scope.names.lookup i.x=some .local
 db:(i.x==("__debug__":Str))=false
 cd:(i.x==("__classdict__":Str))=false
structure FnScopeC (N ps fr:List Str)(sc:Scope):Prop where
 kind:sc.kind=.function
 co:sc.isCoroutine=false
 gen:sc.isGenerator=false
 nd:N.Nodup
 pre:N.take ps.length=ps
 suf:N.drop (N.length - fr.length)=fr
 len:ps.length + fr.length<=N.length
 par:∀x∈ps,sc.names.lookup x=some .local
 fre:∀x∈fr,sc.names.lookup x=some .free
 all:∀y∈sc.names,y.2=.free->y.1∈fr
 noc:∀y∈sc.names,y.2≠ .cell
noncomputable def nZ (N:List Str) (vs cvs:List V):L2.St:=vs.map some ++ (List.replicate (N.length - vs.length - cvs.length) none ++ cvs.map some)
noncomputable def mD (np n:Nat) (ds:List D):Env:=(ds.take np).map .val ++ (List.replicate (n - ds.length) .un ++ (ds.drop np).map .val)
def pR (np n:Nat)(b:S):G:=fun ds M=>cQ (b (mD np n ds) M)
noncomputable def yX (P:Program) (w:World) (K:Fgx) (mg:Mgx) (base:Heap) (N:List Str) (i:FnT) (f:Addr) (cd:Value) (cl:List (Str×Addr)) (A:Around) (outer:List PySem.Env) (s:Shared) (H:Hp):Cx where
 prog:=P
 w:=w
 K:=K
 mg:=mg
 base:=base
 A:=A.deeper (PySem.W.envX i.q (aR i.st) s.heap.objs.size f cd cl)
 N:=N
 s₀:=s
 H₀:=H
 env:=PySem.W.envX i.q (aR i.st) s.heap.objs.size f cd cl
 outer:=outer
 stack:=PySem.W.envX i.q (aR i.st) s.heap.objs.size f cd cl::outer
 ex:=[]
 calm:=true
 fn:=fun _=>false
 pn:=[]
 xe:=fun _ _=>False
theorem gQ.get {H:Hp}:∀{cl:List (Str×Addr)} {vs:List V} {j:Nat} {p:Str×Addr},gQ H cl vs->cl[j]? =some p->∃v u o,vs[j]? =some v/\RelV v u/\H p.2=some (.frz o (.own p.2))/\o.data=.cell (some u)
  | [],_,_,_,_,e=>by simp at e
  |q::cl,_,0,p,h,e=>by
    obtain⟨v,ws,u,o,e1,r,g,d,_⟩:=h
    simp at e
    subst e e1;exact⟨v,u,o,rfl,r,g,d⟩
  |q::cl,_,j + 1,p,h,e=>by
    obtain⟨v,ws,u,o,e1,_,_,_,h⟩:=h;subst e1;exact gQ.get (j:=j) h (by simpa using e)
theorem gQ.len {H:Hp}:∀{cl:List (Str×Addr)} {vs:List V},gQ H cl vs->vs.length=cl.length
  | [],_,h=>by rw[show _=[] from h];rfl
  |q::cl,_,h=>by
    obtain⟨v,ws,u,o,e1,_,_,_,h⟩:=h;subst e1
    simp[h.len]
theorem lK {β:Type}:∀{l:List (Str×β)} {y:Str} {u:β},(l.map (·.1)).Nodup->(y,u)∈l->l.lookup y=some u
  | [],_,_,_,h=>nomatch h
  |(z,v)::l,y,u,nd,h=>by
    have nd':=xbI.mp nd;rw[xbS];rcases xan.mp h with hm |hm
    · obtain⟨rfl,rfl⟩:=Prod.mk.inj hm;rw[xaX]
    · have:(y==z)=false:=by
        rw[xaZ];exact fun z'=>nd'.1 (xaB.mpr ⟨_,hm,z'⟩)
      rw[this];exact lK nd'.2 hm
theorem N5 {α β:Type}:∀{l:List α} {m:List β},l.length=m.length->(l.zip m).map (·.1)=l
  | [],[],_=>rfl
  | [],_::_,h=>by simp at h
  |_::_,[],h=>by simp at h
  |a::l,b::m,h=>by
    rw[xcw,xay,N5 (by simpa using h)]
theorem zip_get {α β:Type}:∀{l:List α} {m:List β} {i:Nat} {a:α} {b:β},l[i]? =some a->m[i]? =some b->(a,b)∈l.zip m
  | [],_,_,_,_,h,_=>by simp at h
  |_::_,[],_,_,_,_,h=>by simp at h
  |a::l,b::m,0,_,_,h1,h2=>by
    simp at h1 h2
    subst h1 h2
    simp
  |a::l,b::m,i + 1,_,_,h1,h2=>by
    rw[xcw];exact xak _ (zip_get (i:=i) (by simpa using h1) (by simpa using h2))
section
variable {P:Program}{w:World}{K:Fgx}{mg:Mgx}{base:Heap}{k:Nat}{i:FnT}{N ps:List Str}{b:S}
theorem Q0 {fr:List Str}{f:Addr}{cd:Value}{cl:List (Str×Addr)}{A:Around}{outer:List PySem.Env}{s:Shared}{H:Hp}{us:List Value}{vs cvs:List V}{h':Heap}{tk:Nat}(S:FnScopeC N ps fr (aR i.st))(hd:A.handled=none)(e0:Env0 P w K mg base A outer s H)
    (hl:vs.length=ps.length) (r:Vals vs us) (hfr:cl.map (·.1)=fr) (hc:gQ H cl cvs) (hi:∀x y a,cl.lookup x=some a->cl.lookup y=some a->x=y)
    (hns:h'.Ns s.heap.objs.size (fun x=>(ps.zip us).reverse.lookup x)) (hk:∀b o,s.heap.get? b=some o->h'.get? b=some o):
    Inv (yX P w K mg base N i f cd cl A outer s H) [] (nZ N vs cvs) H {s with heap:=h',toks:=tk}:=by
  have noA:∀b:Addr,b∉(yX P w K mg base N i f cd cl A outer s H).ex:=fun b z=>absurd (show b∈([]:List Addr) from z) (by simp);have ndf:(cl.map (·.1)).Nodup:=by rw[hfr, <-S.suf];exact S.nd.sublist (List.drop_sublist _ _)
  have cll:cvs.length=fr.length:=by rw[hc.len, <-hfr,xae]
  have S_len:=S.len;have cellAt:∀y c,cl.lookup y=some c->∃u o,H c=some (.frz o (.own c))/\o.data=.cell (some u)/\h'.get? c=some o:=fun y c e=>by
    obtain⟨j,hj⟩:=List.getElem?_of_mem (xbr e);obtain⟨v,u,o,_,_,g,d⟩:=hc.get hj;exact⟨u,o,g,d,hk _ _ (e0.hok _ _ g).1⟩
  have ulen:us.length=ps.length:=by rw[<-r.length];exact hl
  have ndP:ps.Nodup:=by rw[<-S.pre];exact S.nd.sublist (xep _ _)
  refine ⟨⟨e0.mod,S.kind,rfl,rfl,xab _,hi,fun y hy=>?_,(fun y c z=>nomatch z),fun _=>hd,Around.frames_deeper e0.frames,.inr ⟨rfl,rfl⟩,fun b z=>absurd z (noA b),e0.bs,e0.bsz,fun b _ _=>noA b,fun b z=>absurd z (noA b),e0.funs,e0.frf⟩,
    rfl,e0.bare,Un.kept hk,⟨_,hns,fun n y v h1 h2 h3=>?_⟩,fun y c h=>?_,e0.hok.fresh (xab _),fun y c h=>?_,fun p hp=>absurd (show p∈([]:Pnx) from hp) (by simp),e0.hok.kept hk,?_⟩
  · have hy:(aR i.st).names.lookup y=some .cell\/(aR i.st).names.lookup y=some .free:=hy;rcases hy with hy |hy
    · exact absurd rfl (S.noc _ (xbr hy))
    · have:y∈cl.map (·.1):=by rw[hfr];exact S.all _ (xbr hy) rfl
      obtain⟨p,hp,rfl⟩:=xaB.mp this;exact⟨p.2,lK ndf hp⟩
  · unfold nZ at h2
    by_cases hn:n<vs.length
    · rw[xaA (by simpa using hn),xar]at h2;have ha:vs[n]? =some v:=by
        cases e:vs[n]? with
        |none=>rw[e]at h2;cases h2
        |some a=>rw[e]at h2;cases h2;rfl
      obtain⟨u,hu,rv⟩:=r.get ha;have hp:ps[n]? =some y:=by rw[<-S.pre,xcs (by omega)];exact h1
      refine⟨u,rv,.inl ⟨S.par y (xaJ hp),?_⟩⟩;refine lK ?_ (xbl.mpr (zip_get hp hu));rw[List.map_reverse,N5 ulen.symm];exact(List.reverse_perm _).nodup_iff.mpr ndP
    · rw[xaw (by simpa using hn),xae]at h2
      by_cases hn2:n - vs.length<N.length - vs.length - cvs.length
      · rw[xaA (by simpa using hn2),xa3,xaa hn2]at h2;cases h2
      · rw[xaw (by simpa using hn2),xbE,xar]at h2;have ha:cvs[n - vs.length - (N.length - vs.length - cvs.length)]? =some v:=by
          cases e:cvs[n - vs.length - (N.length - vs.length - cvs.length)]? with
          |none=>rw[e]at h2;cases h2
          |some a=>rw[e]at h2;cases h2;rfl
        have hf:fr[n - vs.length - (N.length - vs.length - cvs.length)]? =some y:=by
          have:(N.drop (N.length - fr.length))[n - vs.length - (N.length - vs.length - cvs.length)]? =some y:=by
            rw[xen, <-h1];congr 1;omega
          rw[S.suf]at this;exact this
        rw[<-hfr,xar,xag]at hf;obtain⟨p,hp,rfl⟩:=hf;obtain⟨v',u,o,ev,ru,g,d⟩:=hc.get hp;rw[ha]at ev;cases ev;refine⟨u,ru,.inr ⟨.inr (S.fre _ (by rw[<-hfr];exact xaB.mpr ⟨p,xaJ hp,rfl⟩)),p.2,lK ndf (xaJ hp),o,hk _ _ (e0.hok _ _ g).1,d⟩⟩
  · obtain⟨u,o,_,d,g⟩:=cellAt y c h;exact⟨some u,o,g,d⟩
  · obtain⟨u,o,g,_,_⟩:=cellAt y c h;exact .inr ⟨rfl,o,_,g⟩
  · unfold nZ;show _=N.length;rw[xaq,xaq,xae,xbE,xae];omega
theorem zah {Pl:Pl}{H:Hp}{M:Mm}{ds cds:List D}{vs cvs:List V}(hk:Hk K mg Pl H M)(hl:vs.length + cvs.length<=N.length)(h:au K Pl H ds vs)(hc:au K Pl H cds cvs):
  Ok K mg Pl H Pl (List.replicate N.length none) H M (nZ N vs cvs) (mD ds.length N.length (ds ++ cds)):=by
 have hd:=h.len;have hd2:=hc.len;have ee:mD ds.length N.length (ds ++ cds)=ds.map .val ++ (List.replicate (N.length - vs.length - cvs.length) .un ++ cds.map .val):=by
  unfold mD;rw[List.take_left,List.drop_left,xaq,hd,hd2,Nat.sub_sub]
 rw[ee];refine⟨hk,LtE.refl Pl H,hk.here,fun n s e=>?_,fun a z=>?_,fun n j a e1 _=>?_,by simp;omega,by simp[nZ];omega⟩
 ·have e0:((List.replicate N.length (none:Option Addr))[n]?).join=none:=by
   rw[xa3]
   split<;>rfl
  rw[e0];unfold nZ
  by_cases hi:n<ds.length
  ·rw[xaA (by simpa using hi),xar,xaf hi]at e;simp only[xbs,xeq]at e;subst e;obtain⟨v,ev,p⟩:=h.get (xaf hi);refine⟨v,?_,p⟩;rw[xaA (by rw[xae];omega),xar,ev];rfl
  ·rw[xaw (by simpa using hi),xae]at e
   by_cases h2:n - ds.length<N.length - vs.length - cvs.length
   ·rw[xaA (by simpa using h2),xa3,xaa h2]at e;cases e;exact True.intro
   ·rw[xaw (by simpa using h2),xbE,xar,xag]at e;obtain⟨d,ed,rfl⟩:=e;obtain⟨v,ev,p⟩:=hc.get ed;rw[<-hd]at ev;refine⟨v,?_,p⟩;rw[xaw (by rw[xae];omega),xae,xaw (by rw[xbE];omega),xbE,xar,ev];rfl
 ·exact absurd (xdF z) (by simp)
 ·rw[xa3]at e1;split at e1<;>cases e1
def m9 (P:Program)(w:World)(K:Fgx)(mg:Mgx)(base:Heap)(k:Nat)(i:FnT)(n:Nat)(g:G):Prop:=
 ∀(A:Around) (outer:List PySem.Env) (s:Shared) (H:Hp) (us:List Value) (vs:List V) (Q:VK) (E:XK) (f:Addr) (caps:List (Str×D)) (Pl:Pl) (M:Mm) (ds:List D) (d:D) (M':Mm),Room k A->Env0 P w K mg base A outer s H->Vals vs us->vs.length=n->
  Hk K mg Pl H M->lA K mg Pl H f i caps->au K Pl H ds vs->g (ds ++ caps.map (·.2)) M=some (.v d,M')->(∀P' v H',LtE Pl H P' H'->Hk K mg P' H' M'->Is K P' H' d v->Q v H')->codeAny (model P w) A (.call (.ref f) ⟨us,[]⟩) (CR fH outer P w H s Q E) s
theorem m9.mono {j:Nat}{n:Nat}{g:G}(a:m9 P w K mg base j i n g)(h:j<=k):m9 P w K mg base k i n g:=fun A outer s H us vs Q E f caps Pl M ds d M' hr=>a A outer s H us vs Q E f caps Pl M ds d M' (hr.mono h)
def lX (i:FnT)(ps:List Str)(n:Nat)(dn:List Int):Prop:=n + dn.length=ps.length/\∀(H:Hp) (s:Shared) (mgv:Value) (cl:List (Str×Addr)) (dV doc ctv cd:Value) (us:List Value),us.length=n->gU H i.dd dV->(∀a o u,H a=some (.frz o u)->s.heap.get? a=some o)->
 ∃us',Vals (dn.map V.int) us'/\BindsTo s (PySem.W.fnX i.x i.q (cJ i.st) (bV i.st) (aR i.st) cl dV .none doc mgv none cd ctv) ⟨us,[]⟩ (ps.zip (us ++ us'))
theorem JW {K:Fgx}{P:Pl}{H:Hp}:∀dn:List Int,au K P H (dn.map D.int) (dn.map V.int)
 | []=>rfl
 |_::r=>⟨_,_,rfl,rfl,JW r⟩
theorem JX {K:Fgx}{P:Pl}{H:Hp}:∀{ds es:List D} {vs ws:List V},au K P H ds vs->au K P H es ws->au K P H (ds ++ es) (vs ++ ws)
  | [],_,_,_,h,g=>by
    obtain rfl:=h;exact g
  |_::_,_,_,_,⟨v,r,e,h,t⟩,g=>by
    subst e;exact⟨v,_,rfl,h,JX t g⟩
theorem Qs {n:Nat}{dn:List Int}{g:G}(S:FnScopeC N ps i.fr (aR i.st))(hbn:lX i ps n dn)(hg:∀ds cs M,ds.length=n->g (ds ++ cs) M=pR ps.length N.length b ((ds ++ dn.map .int) ++ cs) M)
    (hb:∀f cd cl A outer s H,Room k (A.deeper (PySem.W.envX i.q (aR i.st) s.heap.objs.size f cd cl))->SB (yX P w K mg base N i f cd cl A outer s H) W0 (bV i.st) b):m9 P w K mg base (k + 1) i n g:=by
  intro A outer s H us0 vs0 Q E f caps Pl M ds0 d M' hr e0 r0 hn0 hk fc is0 e q;obtain⟨cl,dV,doc,ctv,c,cvs,e1,⟨e2,edf⟩,⟨e3,hfr'⟩,e4,e5,e6⟩:=fc;obtain⟨oc,fs,t,c1,c2,c3⟩:=e2;have ho:s.heap.get? f=some (Jx mg i cl dV doc ctv c):=(e0.hok f _ e1).1;have hcr:s.heap.CodeRec (.ref c) i.q:=⟨c,oc,fs,t,rfl,(e0.hok c _ c1).1,c2,c3⟩;have lim:s.heap.NoLimit:=e0.mod.nolimit.keeps fun b o e=>(e0.bs b o e).1;obtain⟨us',rd,hbt⟩:=hbn.2 H s ((mg "__name__").getD .none) cl dV doc ctv (.ref c) us0 (by rw[<-r0.length];exact hn0) edf fun a o u z=>(e0.hok a _ z).1;rw[hg _ _ _ (by rw[<-hn0];exact is0.len.symm)]at e;have r:Vals (vs0 ++ dn.map V.int) (us0 ++ us'):=r0.append rd;have hn:(vs0 ++ dn.map V.int).length=ps.length:=by rw[xaq,xae,hn0];exact hbn.1
  have is:au K Pl H (ds0 ++ dn.map D.int) (vs0 ++ dn.map V.int):=JX is0 (JW dn);clear is0 r0 rd hn0 hg;generalize us0 ++ us'=us at r hbt;generalize vs0 ++ dn.map V.int=vs at r hn is;generalize ds0 ++ dn.map D.int=ds at is e;have ulen:us.length=ps.length:=by rw[<-r.length];exact hn
  have kept:∀h':Heap,Heap.SameBut s.heap.objs.size (s.heap.push {cls:=.type "frame",data:=.dict #[]}) h'->∀b o,s.heap.get? b=some o->h'.get? b=some o:=fun h' hs b o g=>by
    rw[hs.2 b (xaD (xam g))];exact xai _ g
  refine codeAny_call_function hr.depth ho rfl S.co S.gen rfl hcr (hbt _ _ _ _ ?_);refine wpAny_newFunctionEnv S.noc (fun y hy=>S.par _ (xcX hy).1) (fun h' hns hsame=>⟨lim.keeps (kept h' hsame),codeAny_func ?_⟩) S.kind;have cll:cvs.length=i.fr.length:=by rw[e5.len, <-hfr', <-e3,xae]
  have S_len:=S.len;have dl:=is.len;have I:=Q0 (P:=P) (w:=w) (base:=base) (f:=f) (cd:=.ref c) (A:=A) (outer:=outer) (tk:=s.toks + (ps.zip us).length) S hr.hd e0 hn r (e3.trans hfr') e5 e6 hns (kept h' hsame);have st0:=zah (N:=N) (ds:=ds) (cds:=caps.map (·.2)) hk (by omega) is e4;rw[show ds.length=ps.length by omega]at st0;have hq:tS K mg W0 b {nx:=fun _ H'=>Q .non H',rt:=Q} (nZ N vs cvs) H:=by
    unfold pR cQ at e;split at e
    · rename_i d' M2 eb;cases e;exact⟨Pl,H,Pl,_,_,M,_,_,st0,eb,fun P' v H' l h i=>q P' v H' l h i⟩
    · rename_i env M2 eb;cases e;exact⟨Pl,H,Pl,_,_,M,_,_,st0,eb,fun P' Os' H' st' _ k'=>q P' .non H' k'.base k'.hk rfl⟩
    · rename_i c n M2 eb;cases e
    · cases e
  refine xaR (hb f (.ref c) cl A outer s H (hr.deeper _) [] _ (nZ N vs cvs) H _ I hq) (fun fl s' hs=>?_) fun e s' hs=>False.elim hs
  cases fl with
  |ret u=>
    obtain⟨v,σ',H',J,rv,z⟩:=hs;exact⟨v,H',J.os,J.bare,J.base,J.hok,rv,z⟩
  |next=>
    obtain⟨σ',H',J,z⟩:=hs;exact⟨.non,H',J.os,J.bare,J.base,J.hok,rfl,z⟩
  |brk=>
    obtain⟨_,_,_,z⟩:=hs;exact False.elim z
  |cont=>
    obtain⟨_,_,_,z⟩:=hs;exact False.elim z
end
noncomputable def fQ (caps:List (Str×Nat)) (env:PySem.Env):List (Str×Addr):=caps.map fun p=>(p.1,(env.cells.lookup p.1).getD 0)
section
variable (P:Program)(w:World)(K:Fgx)(mg:Mgx)(base:Heap)(k:Nat)(f:Addr)(N:List Str)(q:Str)(st:Stmt)(b:S)(c:Addr)(i:FnT)
abbrev Hx:Prop:=∀(f:Addr) (cd:Value) (cl:List (Str×Addr)) (A:Around) (outer:List PySem.Env) (s:Shared) (H:Hp),Room k (A.deeper (PySem.W.envX i.q (aR i.st) s.heap.objs.size f cd cl))->SB (yX P w K mg base N i f cd cl A outer s H) W0 (bV i.st) b
end
section
variable {P:Program}{w:World}{K:Fgx}{mg:Mgx}{h base:Heap}{k:Nat}{f:Addr}{N ps:List Str}{x q:Str}{st:Stmt}{b:S}{c Pt:Addr}{i:FnT}
theorem lX.of {n:Nat}{dn:List Int}(hl:n + dn.length=ps.length)(hd:i.dd=[])(h:dn=[]/\∀(s:Shared) (mgv:Value) (cl:List (Str×Addr)) (doc ctv cd:Value) (us:List Value),us.length=ps.length->BindsTo s (PySem.W.fnX i.x i.q (cJ i.st) (bV i.st) (aR i.st) cl .none .none doc mgv none cd ctv) ⟨us,[]⟩ (ps.zip us)):lX i ps n dn:=
 ⟨hl,fun H s mgv cl dV doc ctv cd us hu hD hH=>by
  obtain⟨rfl,h⟩:=h;rcases hD with⟨_,rfl⟩ |⟨z,_⟩
  ·exact⟨[],.nil,by rw[xaL];exact h s mgv cl doc ctv cd us (by rw[hu, <-hl];rfl)⟩
  ·exact absurd hd z⟩
theorem lX.dfl {n:Nat}{dn:List Int}{z:Int}(hl:n + dn.length=ps.length)(hd:i.dd=[z])
    (h:∀(s:Shared) (mgv:Value) (cl:List (Str×Addr)) (td:Addr) (doc ctv cd:Value) (us:List Value) (o:Obj) (m t:Nat),us.length=n->s.heap.get? td=some o->o.data=.seq #[.int z t] m->∃us',Vals (dn.map V.int) us'/\BindsTo s (PySem.W.fnX i.x i.q (cJ i.st) (bV i.st) (aR i.st) cl (.ref td) .none doc mgv none cd ctv) ⟨us,[]⟩ (ps.zip (us ++ us'))):lX i ps n dn:=
  ⟨hl,fun H s mgv cl dV doc ctv cd us hu hD hH=>by
    rcases hD with⟨e,_⟩ |⟨_,td,o,its,m,rfl,g,ed,r⟩
    · rw[hd]at e;cases e
    · rw[hd]at r;obtain⟨t,rfl⟩:∃t,its= #[.int z t]:=by
        rcases its with⟨l⟩;have r:Vals [V.int z] l:=r
        cases r with
        |cons a b=>
          cases b;obtain⟨t,rfl⟩:=a;exact⟨t,rfl⟩
      exact h s mgv cl td doc ctv cd us o m t hu (hH td o _ g) ed⟩
theorem Bl {a0:Str}(hd:i.dd=[])(h:∀{mgv:Value} {cl:List (Str×Addr)} {doc ctv cd u0:Value},bindArgs (PySem.W.fnX i.x i.q (cJ i.st) (bV i.st) (aR i.st) cl .none .none doc mgv none cd ctv) ⟨[u0],[]⟩=pure [(a0,u0)]):lX i [a0] 1 []:=
 .of rfl hd ⟨rfl,fun _ _ _ _ _ _ us hl=>match us,hl with | [_],_=>.of_eq h⟩
theorem Bm {a0 a1:Str}(hd:i.dd=[])(h:∀{mgv:Value} {cl:List (Str×Addr)} {doc ctv cd u0 u1:Value},bindArgs (PySem.W.fnX i.x i.q (cJ i.st) (bV i.st) (aR i.st) cl .none .none doc mgv none cd ctv) ⟨[u0,u1],[]⟩=pure [(a0,u0),(a1,u1)]):lX i [a0,a1] 2 []:=
 .of rfl hd ⟨rfl,fun _ _ _ _ _ _ us hl=>match us,hl with | [_,_],_=>.of_eq h⟩
theorem Bo {a0 a1 a2:Str}{z:Int}(hd:i.dd=[z])(h:∀{s:Shared} {mgv:Value} {cl:List (Str×Addr)} {td:Addr} {doc ctv cd u0 u1 u2:Value} {o:Obj} {m t:Nat},s.heap.get? td=some o->o.data=.seq #[.int z t] m->BindsTo s (PySem.W.fnX i.x i.q (cJ i.st) (bV i.st) (aR i.st) cl (.ref td) .none doc mgv none cd ctv) ⟨[u0,u1,u2],[]⟩ [(a0,u0),(a1,u1),(a2,u2)]):lX i [a0,a1,a2] 3 []:=
 .dfl rfl hd fun _ _ _ _ _ _ _ us _ _ _ hl g e=>match us,hl with | [_,_,_],_=>⟨[],.nil,h g e⟩
theorem Hx.ok (S:FnScopeC N ps i.fr (aR i.st))(hb:Hx P w K mg base k N b i)(hp:lX i ps ps.length []:=by first |exact Bl rfl rfl |exact Bm rfl rfl |exact Bo rfl fun h₁ h₂=>BindsTo.of_defaults rfl h₁ h₂ rfl rfl):m9 P w K mg base (k + 1) i ps.length (pR ps.length N.length b):=Qs S hp (fun ds cs M _=>by rw[xcZ,xaL]) hb
theorem m9.up {j n:Nat}{g:G}(a:m9 P w K mg base j i n g)(h:j<=k:=by decide):m9 P w K mg base k i n g:=a.mono h
end
end E3
namespace L2
open PySem PySem.Spec PyProof.Rows
end L2
namespace E3
open PySem PySem.Spec PyProof.Rows L2
section
variable {X:Cx}{Wx:XW}{pos:Pos}
theorem au.rev {K:Fgx}{P:Pl}{H:Hp}:∀{ds:List D} {vs:List V},au K P H ds vs->au K P H ds.reverse vs.reverse
  | [],_,h=>by rw[show _=[] from h];rfl
  |d::ds,_,h=>by
    obtain⟨v,r,e,p,q⟩:=h;subst e;rw[xck,xck];exact(au.rev q).append ⟨v,[],rfl,p,rfl⟩
end
end E3
namespace L2
open PySem PySem.Spec PyProof.Rows
end L2
namespace E3
open PySem PySem.Spec PyProof.Rows L2
mutual
def D.plain:D->Bool
 |.ref _=>false
 |.tup ds=>D.plains ds
 |.lst ds=>D.plains ds
 |_=>true
def D.plains:List D->Bool
 | []=>true
 |d::ds=>D.plain d && D.plains ds
end
section
variable {K:Fgx}{P:Pl}{H:Hp}{io:Nat->Addr}
mutual
theorem Q8:∀{d:D} {v:V},D.plain d=true->Is K P H d v->Is K ⟨io,0,fun _=>False⟩ H d v
 |.non,_,_,h |.bl _,_,_,h |.int _,_,_,h |.str _,_,_,h=>h
 |.ref _,_,p,_=>by simp[D.plain]at p
 |.tup ds,_,p,⟨a,vs,e,t,q⟩=>⟨a,vs,e,t,Du (by simpa [D.plain] using p) q⟩
 |.lst ds,_,p,⟨a,vs,e,t,q⟩=>⟨a,vs,e,t.imp (fun z=>⟨fun y=>y,z.2⟩) id,Du (by simpa [D.plain] using p) q⟩
theorem Du:∀{ds:List D} {vs:List V},D.plains ds=true->au K P H ds vs->au K ⟨io,0,fun _=>False⟩ H ds vs
  | [],_,_,h=>h
  |d::ds,_,p,⟨v,r,e,h,t⟩=>by
    simp only[D.plains,xav]at p;exact⟨v,r,e,Q8 p.1 h,Du p.2 t⟩
end
end
end E3
namespace TS
open PySem PyProof.Rows PySem.W
variable {prog:Program}{w:World}{A:Around}{E:Value->Shared->Prop}{R:Shared->Prop}{α β:Type}
def Ok (prog:Program)(w:World)(A:Around)(E:Value->Shared->Prop)(R:Shared->Prop)(m:StateT SortSt Sem α)(st:SortSt)(P:α->SortSt->Prop):Prop:=
 ∀s,R s->kasC (model prog w) A E m (fun a st' s'=>R s'/\P a st') st s
section
variable {st:SortSt}{P Q:α->SortSt->Prop}
theorem aN {a:α}(h:P a st):Ok prog w A E R (pure a) st P:=fun s r=>kasC_pure ⟨r,h⟩
theorem Ok.mono {m:StateT SortSt Sem α}(h:Ok prog w A E R m st P)(q:∀a st',P a st'->Q a st'):Ok prog w A E R m st Q:=
 fun s r=>xaR (h s r) (fun _ _ z=>⟨z.1,q _ _ z.2⟩) fun _ _ e=>e
theorem aK {m:StateT SortSt Sem β}{f:β->StateT SortSt Sem α}(h:Ok prog w A E R m st fun b st'=>Ok prog w A E R (f b) st' P):Ok prog w A E R (m >>=f) st P:=
 fun s r=>kasC_bind (xaR (h s r) (fun _ s' z=>z.2 s' z.1) fun _ _ e=>e)
theorem lM {P:SortSt->SortSt->Prop}(h:P st st):Ok prog w A E R get st P:=fun s r=>kasC_get ⟨r,h⟩
theorem sZ {P:PUnit->SortSt->Prop}{f:SortSt->SortSt}(h:P ⟨⟩ (f st)):Ok prog w A E R (modify f) st P:=fun s r=>kasC_modify ⟨r,h⟩
theorem UG {P:PUnit->SortSt->Prop}{st':SortSt}(h:P ⟨⟩ st'):Ok prog w A E R (set st') st P:=fun s r=>by
 unfold kasC;rw[StateT.run_set];exact xac ⟨r,h⟩
theorem tB {P:Unit->SortSt->Prop}{x:String}(h:P () st):Ok prog w A E R (liftM (rule x)) st P:=fun s r=>kasC_lift (xdx ⟨r,h⟩)
end
theorem KH {f:Nat->β->StateT SortSt Sem (ForInStep β)}(I:Nat->β->SortSt->Prop){P:β->SortSt->Prop}:∀(n a:Nat) (b:β) (st:SortSt),I a b st->
    (∀i b st,a<=i->i<a + n->I i b st->Ok prog w A E R (f i b) st fun r st'=>match r with |.done b'=>P b' st' |.yield b'=>I (i + 1) b' st')->(∀b st,I (a + n) b st->P b st)->Ok prog w A E R (forIn (List.range' a n) b f) st P
  |0,a,b,st,h,_,q=>fun s r=>kasC_nil ⟨r,q b st h⟩
  |n + 1,a,b,st,h,hs,q=>fun s r=>by
    rw[List.range'_succ];refine kasC_cons (xaR (hs a b st (xab _) (by omega) h s r) (fun z s' k=>?_) fun _ _ e=>e);obtain⟨z,st'⟩:=z
    cases z with
    |done b'=>exact k
    |yield b'=>exact KH I n (a + 1) b' st' k.2 (fun i b st h1 h2=>hs i b st (by omega) (by omega)) (fun b st h=>q b st (by rw[show a + (n + 1)=a + 1 + n by omega];exact h)) s' k.1
theorem fK {a n:Nat}{b:β}{st:SortSt}{f:Nat->β->StateT SortSt Sem (ForInStep β)}{P:β->SortSt->Prop}(I:Nat->β->SortSt->Prop)(h:I a b st)
  (hs:∀i b st,a<=i->i<n->I i b st->Ok prog w A E R (f i b) st fun r st'=>match r with |.done b'=>P b' st' |.yield b'=>I (i + 1) b' st') (q:∀b st,I (max a n) b st->P b st):Ok prog w A E R (forIn [a:n] b f) st P:=
 fun s r=>kasC_range (KH I (n - a) a b st h (fun i b st h1 h2=>hs i b st h1 (by omega)) (fun b st h=>q b st (by rw[show max a n=a + (n - a) by omega];exact h)) s r)
abbrev Rk:=Keyed->Nat
structure Bs (κ:SortKind)(a₀:Array Keyed)(st:SortSt):Prop where
 kd:kindOf st=κ
 nf:failedOf st=none
 pm:(arrOf st).Perm a₀
def lu (prog:Program)(w:World)(A:Around)(R:Shared->Prop)(κ:SortKind)(a₀:Array Keyed)(rk:Rk):Prop:=
 ∀x y,x∈a₀->y∈a₀->∀s,R s->wpAny (model prog w) A (keyLt' κ x.1 y.1) (fun c s'=>R s'/\c=decide (rk x<rk y)) (fun _ _=>False) s
variable {κ:SortKind}{a₀:Array Keyed}{rk:Rk}
theorem w6 {st:SortSt}{x y:Keyed}{P:Option Bool->SortSt->Prop}(C:lu prog w A R κ a₀ rk)(B:Bs κ a₀ st)(hx:x∈a₀)(hy:y∈a₀)(h:P (some (decide (rk x<rk y))) st):Ok prog w A E R (lt' x y) st P:=by
 rw[lt'_eq];refine aK (lM fun s r=>?_);rw[B.kd];refine kasC_bind (kasC_lift (xee (xaR (C x y hx hy s r) (fun c s' z=>?_) fun _ _ hF=>hF.elim)));obtain⟨r',rfl⟩:=z;exact kasC_pure ⟨r',h⟩
theorem dB {st:SortSt}{a:Array Keyed}{i:Nat}{P:Keyed->SortSt->Prop}(hi:i<a.size)(h:P a[i] st):Ok prog w A E R (elem' a i) st P:=by
 rw[elem'_eq,xba hi];exact aN h
noncomputable def vv (rk:Rk) (a:Array Keyed) (i:Nat):Nat:=rk (a.getD i (Value.none,Value.none))
theorem cY {a:Array Keyed}{i:Nat}(h:i<a.size):vv rk a i=rk a[i]:=by unfold vv;simp[Array.getD,h]
theorem rW {a b:Array Keyed}{i j:Nat}(h:a[i]? =b[j]?):vv rk a i=vv rk b j:=by
 unfold vv;rw[xa2,xa2,h]
theorem w5 {st:SortSt}{i j:Nat}{P:Option Bool->SortSt->Prop}(C:lu prog w A R κ a₀ rk)(B:Bs κ a₀ st)(hi:i<(arrOf st).size)(hj:j<(arrOf st).size)(h:P (some (decide (vv rk (arrOf st) i<vv rk (arrOf st) j))) st):Ok prog w A E R (ltAt' i j) st P:=by
 rw[ltAt'_eq];refine aK (lM ?_);refine aK (dB hi (aK (dB hj ?_)));rw[cY hi,cY hj]at h;exact w6 C B (B.pm.mem_iff.mp (xaE hi)) (B.pm.mem_iff.mp (xaE hj)) h
def Up (v:Nat->Nat)(i j:Nat):Prop:=∀k l,i<=k->k<=l->l<j->v k<=v l
def Dn (v:Nat->Nat)(i j:Nat):Prop:=∀k l,i<=k->k<=l->l<j->v l<=v k
theorem Up.one {v:Nat->Nat}{i:Nat}:Up v i (i + 1):=fun k l h1 h2 h3=>by rw[show k=l by omega];exact xab _
theorem Dn.one {v:Nat->Nat}{i:Nat}:Dn v i (i + 1):=fun k l h1 h2 h3=>by rw[show k=l by omega];exact xab _
theorem Up.snoc {v:Nat->Nat}{i j:Nat}(h:Up v i j)(hij:i<j)(e:v (j - 1)<=v j):Up v i (j + 1):=fun k l h1 h2 h3=>by
 by_cases hl:l=j
 ·subst hl
  by_cases hk:k=l
  ·subst hk;exact xab _
  ·exact xao (h k (l - 1) h1 (by omega) (by omega)) e
 ·exact h k l h1 h2 (by omega)
theorem Dn.snoc {v:Nat->Nat}{i j:Nat}(h:Dn v i j)(hij:i<j)(e:v j<=v (j - 1)):Dn v i (j + 1):=fun k l h1 h2 h3=>by
 by_cases hl:l=j
 ·subst hl
  by_cases hk:k=l
  ·subst hk;exact xab _
  ·exact xao e (h k (l - 1) h1 (by omega) (by omega))
 ·exact h k l h1 h2 (by omega)
theorem Bs.arr {st:SortSt}(B:Bs κ a₀ st){x:Array Keyed}(h:x.Perm (arrOf st)):Bs κ a₀ (setArr st x):=⟨B.kd,B.nf,h.trans B.pm⟩
theorem Bs.size {st:SortSt}(B:Bs κ a₀ st):(arrOf st).size=a₀.size:=B.pm.size_eq
theorem Bg {a:Array Keyed}{i j:Nat}(hj:j<=a.size)(k:Nat):vv rk (mirror a i j ((j - i) / 2)) k=if i<=k/\k<j then vv rk a (i + j - 1 - k) else vv rk a k:=by
 have h:=getElem?_mirror_all (xs:=a) (i:=i) hj k;split at h
 ·rename_i c;rw[xaa c];exact rW h
 ·rename_i c;rw[xad c];exact rW h
theorem zT {st:SortSt}{i j:Nat}{P:Unit->SortSt->Prop}(h:P () (setArr st (mirror (arrOf st) i j ((j - i) / 2)))):Ok prog w A E R (reverseSlice' i j) st P:=by
 rw[reverseSlice'_eq];exact sZ h
variable {prog:Program}{w:World}{A:Around}{E:Value->Shared->Prop}{R:Shared->Prop}{α β:Type}{κ:SortKind}{a₀:Array Keyed}{rk:Rk}
structure Fr (rk:Rk)(lo:Nat)(st st':SortSt):Prop where
 v:∀k,k<lo->vv rk (arrOf st') k=vv rk (arrOf st) k
 p:pendingOf st'=pendingOf st
theorem Fr.rfl {lo:Nat}{st:SortSt}:Fr rk lo st st:=⟨fun _ _=>by trivial,by trivial⟩
theorem Fr.trans {lo:Nat}{s1 s2 s3:SortSt}(a:Fr rk lo s1 s2)(b:Fr rk lo s2 s3):Fr rk lo s1 s3:=⟨fun k h=>(b.v k h).trans (a.v k h),b.p.trans a.p⟩
theorem Fr.rev {lo i j:Nat}{st:SortSt}(hi:lo<=i)(hj:j<=(arrOf st).size):Fr rk lo st (setArr st (mirror (arrOf st) i j ((j - i) / 2))):=
 ⟨fun k h=>(Bg hj k).trans (xad (by omega)),by trivial⟩
theorem Ge {a:Array Keyed}{i j:Nat}(hj:j<=a.size)(h:∀k,i<=k->k<j->vv rk a k=vv rk a (j - 1))(k:Nat):vv rk (mirror a i j ((j - i) / 2)) k=vv rk a k:=by
 rw[Bg hj]
 split
 ·rename_i c;rw[h k c.1 c.2,h _ (by omega) (by omega)]
 ·exact Eq.refl _
section
variable {st:SortSt}{lo nrem:Nat}(C:lu prog w A R κ a₀ rk)
include C
theorem KD (hz:lo + nrem<=a₀.size){n:Nat}(h1:1<=n)(hn:n<=nrem)(B:Bs κ a₀ st)(u:Up (vv rk (arrOf st)) lo (lo + n)){P:Option (Option Nat)×Nat->SortSt->Prop}
  (q:∀m,n<=m->m<=nrem->Up (vv rk (arrOf st)) lo (lo + m)->(m=nrem\/vv rk (arrOf st) (lo + m)<vv rk (arrOf st) (lo + m - 1))->P (none,m) st):
  Ok prog w A E R (forIn [n:nrem] ((none,n):Option (Option Nat)×Nat) fun _ s=>do
   let x <-ltAt' (lo + s.2) (lo + s.2 - 1)
   match x with
   |some c=>if c=true then pure (.done (none,s.2)) else pure (.yield (none,s.2 + 1))
   |_=>pure (.done (some none,s.2))) st P:=by
 refine fK (fun i c st'=>st'=st/\c=(none,i)/\Up (vv rk (arrOf st)) lo (lo + i)) ⟨rfl,rfl,u⟩ ?_ ?_
 ·rintro i c st' h1 h2 ⟨rfl,rfl,u⟩;have sz:=B.size;refine aK (w5 C B (by omega) (by omega) ?_);dsimp only
  by_cases hc:vv rk (arrOf st') (lo + i)<vv rk (arrOf st') (lo + i - 1)
  ·rw[xaa (by simpa using hc)];exact aN (q i h1 (by omega) u (.inr hc))
  ·rw[xad (by simpa using hc)];exact aN ⟨rfl,rfl,u.snoc (by omega) (xbD hc)⟩
 ·rintro c st' ⟨rfl,rfl,u⟩;rw[show max n nrem=nrem by omega]at u ⊢;exact q nrem hn (xab _) u (.inl rfl)
theorem Uw (hz:lo + nrem<=a₀.size)(h1:1<=nrem)(B:Bs κ a₀ st){P:Option Nat->SortSt->Prop}
  (q:∀m st',1<=m->m<=nrem->Bs κ a₀ st'->Up (vv rk (arrOf st')) lo (lo + m)->Fr rk lo st st'->P (some m) st'):Ok prog w A E R (countRun' lo nrem) st P:=by
 have sz:=B.size;rw[countRun'_eq];refine aK (KD C hz (xab 1) h1 B Up.one fun m m1 m2 u hor=>?_);dsimp only
 by_cases hm:m=nrem
 ·rw[xaa (by simpa using hm)];exact aN (q m st m1 m2 B u Fr.rfl)
 rw[xad (by simpa using hm)];have hlt:=hor.resolve_left hm;generalize hT:(bind (liftM (rule _)) _:StateT SortSt Sem (Option Nat))=T;have tail:∀st',Bs κ a₀ st'->Dn (vv rk (arrOf st')) lo (lo + m + 1)->Fr rk lo st st'->Ok prog w A E R T st' P:=by
  subst hT;intro st' B' d' f';refine aK (tB (aK (Ok.mono (P:=fun c s2=>∃i e,c=(none,i,e)/\1<=i/\i<=nrem/\Bs κ a₀ s2/\Dn (vv rk (arrOf s2)) lo (lo + i)/\Fr rk lo st s2/\e + 1<=i/\∀k,lo + i - (e + 1)<=k->k<lo + i->vv rk (arrOf s2) k=vv rk (arrOf s2) (lo + i - 1))
   (fK (fun i c s2=>∃e,c=(none,i,e)/\Bs κ a₀ s2/\Dn (vv rk (arrOf s2)) lo (lo + i)/\Fr rk lo st s2/\e + 1<=i/\∀k,lo + i - (e + 1)<=k->k<lo + i->vv rk (arrOf s2) k=vv rk (arrOf s2) (lo + i - 1)) ?_ ?_ ?_) ?_)))
  ·refine⟨0,rfl,B',d',f',by omega,fun k h1 h2=>?_⟩;rw[show k=lo + (m + 1) - 1 by omega]
  ·rintro i c s2 g1 g2 ⟨e,rfl,B2,d2,f2,he,ha⟩;have sz2:=B2.size;dsimp only;refine aK (w5 C B2 (by omega) (by omega) ?_);dsimp only
   by_cases hc:vv rk (arrOf s2) (lo + i)<vv rk (arrOf s2) (lo + i - 1)
   ·rw[xaa (by simpa using hc)];have dd:Dn (vv rk (arrOf s2)) lo (lo + i + 1):=d2.snoc (by omega) (xbg hc)
    split
    ·have ev:=Ge (rk:=rk) (a:=arrOf s2) (i:=lo + i - (e + 1)) (j:=lo + i) (by omega) ha;refine aK (zT (aN ⟨0,rfl,B2.arr (xcK _ _ _ _),?_,f2.trans (Fr.rev (by omega) (by omega)),by omega,fun k h1 h2=>?_⟩))
     ·intro k l k1 k2 k3;show vv rk (mirror _ _ _ _) l<=vv rk (mirror _ _ _ _) k;rw[ev,ev];exact dd k l k1 k2 (by omega)
     ·rw[show k=lo + (i + 1) - 1 by omega]
    ·exact aN ⟨0,rfl,B2,dd,f2,by omega,fun k h1 h2=>by rw[show k=lo + (i + 1) - 1 by omega]⟩
   ·rw[xad (by simpa using hc)];refine aK (w5 C B2 (by omega) (by omega) ?_);dsimp only
    by_cases hd:vv rk (arrOf s2) (lo + i - 1)<vv rk (arrOf s2) (lo + i)
    ·rw[xaa (by simpa using hd)];exact aN ⟨i,e,rfl,by omega,by omega,B2,d2,f2,he,ha⟩
    ·rw[xad (by simpa using hd)];have eq:vv rk (arrOf s2) (lo + i)=vv rk (arrOf s2) (lo + i - 1):=by omega
     refine aN ⟨e + 1,rfl,B2,d2.snoc (by omega) (by omega),f2,by omega,fun k h1 h2=>?_⟩;rw[show lo + (i + 1) - 1=lo + i by omega]
     by_cases hk:k=lo + i
     ·rw[hk]
     ·rw[eq];exact ha k (by omega) (by omega)
  ·rintro c s2 ⟨e,rfl,B2,d2,f2,he,ha⟩;rw[show max (m + 1) nrem=nrem by omega]at d2 he ha ⊢;exact⟨nrem,e,rfl,by omega,by omega,B2,d2,f2,he,ha⟩
  ·rintro c s2 ⟨i,e,rfl,i1,i2,B2,d2,f2,he,ha⟩;have sz2:=B2.size;dsimp only;generalize hL:(bind (reverseSlice' lo (lo + i)) _:StateT SortSt Sem (Option Nat))=L;have go:∀s3,Bs κ a₀ s3->Dn (vv rk (arrOf s3)) lo (lo + i)->Fr rk lo st s3->Ok prog w A E R L s3 P:=fun s3 B3 d3 f3=>by
    subst hL;have sz3:=B3.size;refine aK (zT (aK (KD C hz i1 i2 (B3.arr (xcK _ _ _ _)) ?_ fun m m1 m2 u _=>?_)))
    ·intro k l k1 k2 k3;show vv rk (mirror _ _ _ _) k<=vv rk (mirror _ _ _ _) l;rw[Bg (by omega),Bg (by omega),xaa (by omega),xaa (by omega)];exact d3 _ _ (by omega) (by omega) (by omega)
    ·exact aN (q m _ (by omega) m2 (B3.arr (xcK _ _ _ _)) u (f3.trans (Fr.rev (xab _) (by omega))))
   split
   ·have ev:=Ge (rk:=rk) (a:=arrOf s2) (i:=lo + i - (e + 1)) (j:=lo + i) (by omega) ha;refine aK (zT (go _ (B2.arr (xcK _ _ _ _)) ?_ (f2.trans (Fr.rev (by omega) (by omega)))));intro k l k1 k2 k3;show vv rk (mirror _ _ _ _) l<=vv rk (mirror _ _ _ _) k;rw[ev,ev];exact d2 k l k1 k2 k3
   ·exact go s2 B2 d2 f2
 by_cases hg:m > 1
 ·rw[xaa hg];refine aK (w5 C B (by omega) (by omega) ?_);dsimp only
  by_cases hr:vv rk (arrOf st) lo<vv rk (arrOf st) (lo + m - 1)
  ·rw[xaa (by simpa using hr)];exact aN (q m st m1 m2 B u Fr.rfl)
  ·rw[xad (by simpa using hr)];have al:∀k,lo<=k->k<lo + m->vv rk (arrOf st) k=vv rk (arrOf st) (lo + m - 1):=fun k k1 k2=>by
    have z1:=u lo k (xab _) k1 k2;have z2:=u k (lo + m - 1) k1 (by omega) (by omega);omega
   have ev:=Ge (rk:=rk) (a:=arrOf st) (i:=lo) (j:=lo + m) (by omega) al;refine aK (zT (tail _ (B.arr (xcK _ _ _ _)) ?_ (Fr.rev (xab _) (by omega))));have dn:Dn (vv rk (arrOf st)) lo (lo + m + 1):=Dn.snoc (fun k l k1 k2 k3=>by rw[al k k1 (by omega),al l (by omega) k3];exact xab _) (by omega) (xbg hlt);intro k l k1 k2 k3;show vv rk (mirror _ _ _ _) l<=vv rk (mirror _ _ _ _) k;rw[ev,ev];exact dn k l k1 k2 k3
 ·rw[xad hg];have e1:m=1:=by omega
  subst e1;exact tail st B (Dn.one.snoc (by omega) (xbg hlt)) Fr.rfl
end
variable {prog:Program}{w:World}{A:Around}{E:Value->Shared->Prop}{R:Shared->Prop}{α β:Type}{κ:SortKind}{a₀:Array Keyed}{rk:Rk}
theorem zbm {a:Array Keyed}{src d:Nat}(hs:src<a.size)(hd:d<=src)(k:Nat):vv rk (bubble a src d) k=if k=src - d then vv rk a src else if src - d<k/\k<=src then vv rk a (k - 1) else vv rk a k:=by
 have h:=getElem?_bubble hs d hd k;split at h
 ·rename_i c;rw[xaa c];exact rW h
 ·rename_i c;rw[xad c];split at h
  ·rename_i c;rw[xaa c];exact rW h
  ·rename_i c;rw[xad c];exact rW h
theorem Uv {st:SortSt}{lo n ok:Nat}(C:lu prog w A R κ a₀ rk)(hz:lo + n<=a₀.size)(hk:1<=ok)(hn:ok<=n)(B:Bs κ a₀ st)(u:Up (vv rk (arrOf st)) lo (lo + ok)){P:Bool->SortSt->Prop}
  (q:∀st',Bs κ a₀ st'->Up (vv rk (arrOf st')) lo (lo + n)->Fr rk lo st st'->P true st'):Ok prog w A E R (binarySort' lo n ok) st P:=by
 rw[binarySort'_eq,show max ok 1=ok by omega];refine aK (fK (fun i c s2=>c=(none,())/\Bs κ a₀ s2/\Up (vv rk (arrOf s2)) lo (lo + i)/\Fr rk lo st s2) ⟨rfl,B,u,Fr.rfl⟩ ?_ ?_)
 ·rintro k c s2 k1 k2 ⟨rfl, B2, u2, f2⟩;have sz := B2.size;dsimp only;refine aK (Ok.mono (P:=fun c s3=>s3=s2/\∃l,c=(none,l,l)/\l<=k/\(∀i,i<l->vv rk (arrOf s2) (lo + i)<=vv rk (arrOf s2) (lo + k))/\∀i,l<=i->i<k->vv rk (arrOf s2) (lo + k)<=vv rk (arrOf s2) (lo + i))
   (fK (fun i c s3=>s3=s2/\∃l r,c=(none,l,r)/\l<=r/\r<=k/\r - l<=k - i/\(∀i,i<l->vv rk (arrOf s2) (lo + i)<=vv rk (arrOf s2) (lo + k))/\∀i,r<=i->i<k->vv rk (arrOf s2) (lo + k)<=vv rk (arrOf s2) (lo + i)) ?_ ?_ ?_) ?_)
  ·exact⟨rfl,0,k,rfl,by omega,by omega,by omega,fun i hi=>by omega,fun i h1 h2=>by omega⟩
  ·rintro i c s3 i1 i2 ⟨rfl,l,r,rfl,lr,rk',hm,hl,hr⟩;dsimp only
   by_cases hge:l >=r
   ·rw[xaa hge];obtain rfl:l=r:=by omega
    exact aN ⟨rfl,l,rfl,rk',hl,hr⟩
   ·rw[xad hge];refine aK (w5 C B2 (by omega) (by omega) ?_);dsimp only
    by_cases hc:vv rk (arrOf s3) (lo + k)<vv rk (arrOf s3) (lo + (l + r) / 2)
    ·rw[xaa (by simpa using hc)];refine aN ⟨rfl,l,(l + r) / 2,rfl,by omega,by omega,by omega,hl,fun j j1 j2=>?_⟩;exact xao (xbg hc) (u2 _ _ (by omega) (by omega) (by omega))
    ·rw[xad (by simpa using hc)];refine aN ⟨rfl,(l + r) / 2 + 1,r,rfl,by omega,by omega,by omega,fun j j1=>?_,hr⟩;exact xao (u2 _ _ (by omega) (by omega) (by omega)) (xbD hc)
  ·rintro c s3 ⟨rfl,l,r,rfl,lr,rk',hm,hl,hr⟩;obtain rfl:l=r:=by omega
   exact⟨rfl,l,rfl,rk',hl,hr⟩
  ·rintro c s3 ⟨rfl,l,rfl,lk,hl,hr⟩;dsimp only;rw[moveDown'_eq];have eb:∀j,vv rk (bubble (arrOf s3) (lo + k) (lo + k - (lo + l))) j=_:=zbm (by omega) (by omega);refine aK (sZ (aN ⟨rfl,B2.arr (bubble_perm _ _ _),fun i j i1 i2 i3=>?_,f2.trans ⟨fun j hj=>?_,rfl⟩⟩))
   ·show vv rk (bubble _ _ _) i<=vv rk (bubble _ _ _) j;rw[eb,eb];have hl':=fun i=>hl (i - lo);have hr':=fun i=>hr (i - lo)
    repeat' split
    ·exact xab _
    ·have:=hr (j - 1 - lo) (by omega) (by omega);rw[show lo + (j - 1 - lo)=j - 1 by omega]at this;exact this
    ·omega
    ·omega
    ·exact u2 _ _ (by omega) (by omega) (by omega)
    ·omega
    ·have:=hl (i - lo) (by omega);rw[show lo + (i - lo)=i by omega]at this;exact this
    ·exact u2 _ _ (by omega) (by omega) (by omega)
    ·exact u2 _ _ (by omega) (by omega) (by omega)
   ·show vv rk (bubble _ _ _) j=_;rw[eb,xad (by omega),xad (by omega)]
 ·rintro c s2 ⟨rfl,B2,u2,f2⟩;rw[show max ok n=n by omega]at u2;exact aN (q s2 B2 u2 f2)
variable {prog:Program}{w:World}{A:Around}{E:Value->Shared->Prop}{R:Shared->Prop}{α β:Type}{κ:SortKind}{a₀:Array Keyed}{rk:Rk}
noncomputable def gal:Bool->Keyed->Array Keyed->Nat->Nat->Nat->StateT SortSt Sem (Option Nat):=sortPriv% PySem.Builtin.gallop
theorem QD (b : Bool) (x : Keyed) (a : Array Keyed) (o n h : Nat) : gal b x a o n h = (do
 let f (i:Nat):StateT SortSt Sem (Option Bool):=do
  let y <-elem' a (o + i)
  if b then lt' y x else return (<-lt' x y).map (!·)
 let mut p:=0
 let mut q:=1
 let mut l:=0
 let mut u:=0
 let some c <-f h |return none
 if c then
  let m:=n - h
  for _ in [0:n] do
   if q >=m then break
   let some d <-f (h + q) |return none
   if !d then break
   p:=q
   q:=2 * q + 1
  l:=h + p + 1
  u:=h + min q m
 else
  let m:=h + 1
  for _ in [0:n] do
   if q >=m then break
   let some d <-f (h - q) |return none
   if d then break
   p:=q
   q:=2 * q + 1
  l:=h + 1 - min q m
  u:=h - p
 for _ in [0:n] do
  if l >=u then break
  let m:=l + (u - l) / 2
  let some d <-f m |return none
  if d then l:=m + 1 else u:=m
 return some u):=rfl
def thr (rk:Rk)(b:Bool)(x:Keyed):Nat:=if b then rk x else rk x + 1
theorem sY {st:SortSt}{b:Bool}{x:Keyed}{a:Array Keyed}{o n h:Nat}(C:lu prog w A R κ a₀ rk)(B:Bs κ a₀ st)(hx:x∈a₀)(ha:∀y∈a,y∈a₀)(hz:o + n<=a.size)(hh:h<n)(u:Up (vv rk a) o (o + n)){P:Option Nat->SortSt->Prop}
    (q:∀k,k<=n->(∀i,i<k->vv rk a (o + i)<thr rk b x)->(∀i,k<=i->i<n->thr rk b x<=vv rk a (o + i))->P (some k) st):Ok prog w A E R (gal b x a o n h) st P:=by
  rw[QD]
  extract_lets f p0 q0 jp m1 m2
  have hf:∀{P:Option Bool->SortSt->Prop} i,i<n->P (some (decide (vv rk a (o + i)<thr rk b x))) st->Ok prog w A E R (f i) st P:=by
    intro P i hi hP;refine aK (dB (by omega) ?_);have hv:vv rk a (o + i)=rk a[o + i]:=cY (by omega);have hm:=ha _ (xaE (i:=o + i) (by omega));unfold thr at hP;rw[hv]at hP
    cases b with
    |true=>exact w6 C B hm hx hP
    |false=>
      refine aK (w6 C B hx hm (aN ?_));have e:(!decide (rk x<rk a[o + i]))=decide (rk a[o + i]<rk x + 1):=by
        by_cases z:rk x<rk a[o + i]
        · rw[xaW z,xaC (by omega)];rfl
        · rw[xaC z,xaW (by omega)];rfl
      rw[xbs,e];exact hP
  generalize thr rk b x=t at hf q;have up:∀i j,i<=j->j<n->vv rk a (o + i)<=vv rk a (o + j):=fun i j h1 h2=>u _ _ (by omega) (by omega) (by omega);generalize hv:(fun i=>vv rk a (o + i))=v at *
  replace hf:∀{P:Option Bool->SortSt->Prop} i,i<n->P (some (decide (v i<t))) st->Ok prog w A E R (f i) st P:=by subst hv;exact hf
  replace q:∀k,k<=n->(∀i,i<k->v i<t)->(∀i,k<=i->i<n->t<=v i)->P (some k) st:=by subst hv;exact q
  replace up:∀i j,i<=j->j<n->v i<=v j:=by subst hv;exact up
  clear_value f
  have last:∀p r l k,l<=k->k<=n->(∀i,i<l->v i<t)->(∀i,k<=i->i<n->t<=v i)->Ok prog w A E R (jp () p r l k) st P:=by
    intro p r l k h1 h2 h3 h4;dsimp only [jp];refine aK (Ok.mono (P:=fun c s3=>s3=st/\∃l,c=(none,l,l)/\l<=n/\(∀i,i<l->v i<t)/\∀i,l<=i->i<n->t<=v i)
      (fK (fun i c s3=>s3=st/\∃l k,c=(none,l,k)/\l<=k/\k<=n/\k - l<=n - i/\(∀i,i<l->v i<t)/\∀i,k<=i->i<n->t<=v i) ⟨rfl,l,k,rfl,h1,h2,by omega,h3,h4⟩ ?_ ?_) ?_)
    · rintro i c s3 i1 i2 ⟨rfl,l,k,rfl,g1,g2,gm,g3,g4⟩;dsimp only
      by_cases hge:l >=k
      · rw[xaa hge];obtain rfl:l=k:=by omega
        exact aN ⟨rfl,l,rfl,g2,g3,g4⟩
      · rw[xad hge];refine aK (hf _ (by omega) ?_);dsimp only
        by_cases hc:v (l + (k - l) / 2)<t
        · rw[xaa (by simpa using hc)];exact aN ⟨rfl,_,k,rfl,by omega,g2,by omega,fun j hj=>xbG (up j _ (by omega) (by omega)) hc,g4⟩
        · rw[xad (by simpa using hc)];exact aN ⟨rfl,l,_,rfl,by omega,by omega,by omega,g3,fun j j1 j2=>xao (xbD hc) (up _ j j1 j2)⟩
    · rintro c s3 ⟨rfl,l,k,rfl,g1,g2,gm,g3,g4⟩;obtain rfl:l=k:=by omega
      exact⟨rfl,l,rfl,g2,g3,g4⟩
    · rintro c s3 ⟨rfl,l,rfl,g2,g3,g4⟩;exact aN (q l g2 g3 g4)
  clear_value jp
  refine aK (hf h hh ?_);dsimp only
  by_cases hc:v h<t
  · rw [xaa (by simpa using hc)];refine aK (Ok.mono (P:=fun c s3=>s3=st/\∃p r,c=(none,p,r)/\v (h + p)<t/\h + p<n/\p<r/\(r >=m1\/t<=v (h + r)))
      (fK (fun i c s3=>s3=st/\∃p r,c=(none,p,r)/\v (h + p)<t/\h + p<n/\p<r/\i + 1<=r) ⟨rfl,0,1,rfl,hc,hh,by omega,by omega⟩ ?_ ?_) ?_)
    · rintro i c s3 i1 i2 ⟨rfl,p,r,rfl,g1,g2,g3,g4⟩;dsimp only
      by_cases hge:r >=m1
      · rw[xaa hge];exact aN ⟨rfl,p,r,rfl,g1,g2,g3,.inl hge⟩
      · rw[xad hge];have hr:h + r<n:=by simp only[m1]at hge;omega
        refine aK (hf _ hr ?_);dsimp only
        by_cases hd:v (h + r)<t
        · rw[xad (by simpa using hd)];exact aN ⟨rfl,r,2 * r + 1,rfl,hd,hr,by omega,by omega⟩
        · rw[xaa (by simpa using hd)];exact aN ⟨rfl,p,r,rfl,g1,g2,g3,.inr (by omega)⟩
    · rintro c s3 ⟨rfl,p,r,rfl,g1,g2,g3,g4⟩;exact⟨rfl,p,r,rfl,g1,g2,g3,.inl (by simp only[m1];omega)⟩
    · rintro c s3 ⟨rfl,p,r,rfl,g1,g2,g3,g4⟩;dsimp only[m1]at g4 ⊢;refine last _ _ _ _ (by omega) (by omega) (fun j hj=>xbG (up j (h + p) (by omega) g2) g1) fun j j1 j2=>?_;rcases g4 with g4 |g4
      · omega
      · exact xao g4 (up _ j (by omega) j2)
  · rw [xad (by simpa using hc)];refine aK (Ok.mono (P:=fun c s3=>s3=st/\∃p r,c=(none,p,r)/\t<=v (h - p)/\p<=h/\p<r/\(r >=m2\/v (h - r)<t))
      (fK (fun i c s3=>s3=st/\∃p r,c=(none,p,r)/\t<=v (h - p)/\p<=h/\p<r/\i + 1<=r) ⟨rfl,0,1,rfl,by simpa using hc,by omega,by omega,by omega⟩ ?_ ?_) ?_)
    · rintro i c s3 i1 i2 ⟨rfl,p,r,rfl,g1,g2,g3,g4⟩;dsimp only
      by_cases hge:r >=m2
      · rw[xaa hge];exact aN ⟨rfl,p,r,rfl,g1,g2,g3,.inl hge⟩
      · rw[xad hge];have hr:r<=h:=by simp only[m2]at hge;omega
        refine aK (hf _ (by omega) ?_);dsimp only
        by_cases hd:v (h - r)<t
        · rw[xaa (by simpa using hd)];exact aN ⟨rfl,p,r,rfl,g1,g2,g3,.inr hd⟩
        · rw[xad (by simpa using hd)];exact aN ⟨rfl,r,2 * r + 1,rfl,by omega,hr,by omega,by omega⟩
    · rintro c s3 ⟨rfl,p,r,rfl,g1,g2,g3,g4⟩;exact⟨rfl,p,r,rfl,g1,g2,g3,.inl (by simp only[m2];omega)⟩
    · rintro c s3 ⟨rfl,p,r,rfl,g1,g2,g3,g4⟩;dsimp only[m2]at g4 ⊢;refine last _ _ _ _ (by omega) (by omega) (fun j hj=>?_) fun j j1 j2=>xao g1 (up _ j j1 j2);rcases g4 with g4 |g4
      · omega
      · exact xbG (up j (h - r) (by omega) (by omega)) g4
variable {prog:Program}{w:World}{A:Around}{E:Value->Shared->Prop}{R:Shared->Prop}{α β:Type}{κ:SortKind}{a₀:Array Keyed}{rk:Rk}
abbrev Sd (rk:Rk)(l:List Keyed):Prop:=l.Pairwise fun x y=>rk x<=rk y
structure Mg (rk:Rk)(T O X Y:List Keyed):Prop where
 x:Sd rk (O ++ X)
 y:Sd rk (O ++ Y)
 p:(O ++ (X ++ Y)).Perm T
theorem Mg.swap {T O X Y:List Keyed}(m:Mg rk T O X Y):Mg rk T O Y X:=⟨m.y,m.x,(xcS O xcT).trans m.p⟩
theorem Mg.go {T O X X' Y:List Keyed}(m:Mg rk T O (X ++ X') Y)(h:∀a∈X,∀b∈Y,rk a<=rk b):Mg rk T (O ++ X) X' Y:=by
 refine⟨by rw[xaN];exact m.x,?_,by simpa only[xaN] using m.p⟩;have h1:=xaT.mp m.x;have h2:=xaT.mp m.y;have h3:=xaT.mp h1.2.1;rw[xaN];refine xaT.mpr ⟨h1.1,xaT.mpr ⟨h3.1,h2.2.1,h⟩,fun a ha b hb=>?_⟩;rcases xaI.mp hb with hb |hb
 ·exact h1.2.2 a ha b (xco _ hb)
 ·exact h2.2.2 a ha b hb
theorem Mg.fin {T O X:List Keyed}(m:Mg rk T O X []):Sd rk (O ++ X)/\(O ++ X).Perm T:=⟨m.x,by simpa using m.p⟩
structure Mh (rk:Rk)(T O X Y:List Keyed):Prop where
 x:Sd rk (X ++ O)
 y:Sd rk (Y ++ O)
 p:(X ++ Y ++ O).Perm T
theorem Mh.swap {T O X Y:List Keyed}(m:Mh rk T O X Y):Mh rk T O Y X:=⟨m.y,m.x,(xcL O xcT).trans m.p⟩
theorem Mh.go {T O X X' Y:List Keyed}(m:Mh rk T O (X' ++ X) Y)(h:∀a∈X,∀b∈Y,rk b<=rk a):Mh rk T (X ++ O) X' Y:=by
 have h1:=xaT.mp m.x;have h2:=xaT.mp m.y;have h3:=xaT.mp h1.1;refine⟨by rw[<-xaN];exact m.x,?_,?_⟩
 ·refine xaT.mpr ⟨h2.1,xaT.mpr ⟨h3.2.1,h1.2.1,fun a ha b hb=>h1.2.2 a (xax _ ha) b hb⟩,fun a ha b hb=>?_⟩;rcases xaI.mp hb with hb |hb
  ·exact h b hb a ha
  ·exact h2.2.2 a ha b hb
 ·refine List.Perm.trans ?_ m.p;simp only[xaN];refine xcS X' ?_;rw[<-xaN, <-xaN];exact xcL O xcT
noncomputable def wR:Array Keyed->Array Keyed->StateT SortSt Sem (Array Keyed):=sortPriv% PySem.Builtin.mergeLo
noncomputable def wQ:Array Keyed->Array Keyed->StateT SortSt Sem (Array Keyed):=sortPriv% PySem.Builtin.mergeHi
noncomputable def setG (g:Nat):StateT SortSt Sem Unit:=modify fun s=>SortSt.mk' (kindOf s) (arrOf s) (pendingOf s) g (failedOf s)
theorem Sq (a b : Array Keyed) : wR a b = (do
 rule "list.sort.merge-lo"
 let t:=a.size + b.size
 let fin (o:Array Keyed) (i j:Nat):=o ++ a.extract i a.size ++ b.extract j b.size
 let lst (o:Array Keyed) (i j:Nat):=o ++ b.extract j b.size ++ a.extract i a.size
 let mut o:Array Keyed:= #[<-elem' b 0]
 let mut i:=0
 let mut j:=1
 if j==b.size then return fin o i j
 if i + 1==a.size then return lst o i j
 let mut g:=gallopOf (<-get)
 for _ in [0:t] do
  let mut m:=0
  let mut n:=0
  for _ in [0:t] do
   let some c <-lt' (<-elem' b j) (<-elem' a i) |return fin o i j
   if c then
    o:=o.push (<-elem' b j);j:=j + 1;n:=n + 1;m:=0
    if j==b.size then return fin o i j
    if n >=g then break
   else
    o:=o.push (<-elem' a i);i:=i + 1;m:=m + 1;n:=0
    if i + 1==a.size then return lst o i j
    if m >=g then break
  rule "list.sort.gallop"
  g:=g + 1
  for _ in [0:t] do
   if g > 1 then g:=g - 1
   setG g
   let some k <-gal false (<-elem' b j) a i (a.size - i) 0 |return fin o i j
   m:=k
   if k > 0 then
    o:=o ++ a.extract i (i + k);i:=i + k
    if i + 1==a.size then return lst o i j
    if i==a.size then return fin o i j
   o:=o.push (<-elem' b j);j:=j + 1
   if j==b.size then return fin o i j
   let some k <-gal true (<-elem' a i) b j (b.size - j) 0 |return fin o i j
   n:=k
   if k > 0 then
    o:=o ++ b.extract j (j + k);j:=j + k
    if j==b.size then return fin o i j
   o:=o.push (<-elem' a i);i:=i + 1
   if i + 1==a.size then return lst o i j
   if m<7 && n<7 then break
  g:=g + 1
  setG g
 unsupported "internal:list.sort.merge-bound"):=rfl
variable {prog:Program}{w:World}{A:Around}{E:Value->Shared->Prop}{R:Shared->Prop}{α β:Type}{κ:SortKind}{a₀:Array Keyed}{rk:Rk}
def Sg (st st':SortSt):Prop:=∃g,st'=SortSt.mk' (kindOf st) (arrOf st) (pendingOf st) g (failedOf st)
theorem Sg.rfl {st:SortSt}:Sg st st:=⟨gallopOf st,by trivial⟩
theorem zU {st:SortSt}{g:Nat}{P:Unit->SortSt->Prop}(h:∀st',Sg st st'->P () st'):Ok prog w A E R (setG g) st P:=sZ (h _ ⟨g,by trivial⟩)
theorem Sg.trans {s1 s2 s3:SortSt}(a:Sg s1 s2)(b:Sg s2 s3):Sg s1 s3:=by
 obtain⟨g,rfl⟩:=a;obtain⟨g',rfl⟩:=b;exact⟨g',by trivial⟩
theorem Sg.bs {st st':SortSt}(a:Sg st st')(B:Bs κ a₀ st):Bs κ a₀ st':=by
 obtain⟨g,rfl⟩:=a;exact⟨B.kd,B.nf,B.pm⟩
theorem Jp {a:Array Keyed}{i:Nat}:(a.extract i a.size).toList=a.toList.drop i:=by
 rw[xbJ,xbt,xbT (by simp)]
theorem Jr {a:Array Keyed}{i k:Nat}:(a.extract i (i + k)).toList=(a.toList.drop i).take k:=by
 rw[xbJ,xbt,Nat.add_sub_cancel_left]
theorem CV {a:Array Keyed}{i:Nat}(h:i<a.size):a.toList.drop i=a[i]::a.toList.drop (i + 1):=by
 rw[xaS (by simpa using h)];rfl
theorem lR {a:Array Keyed}(s:Sd rk a.toList){i j:Nat}(h:i<=j)(hj:j<a.size):rk (a[i]'(by omega))<=rk a[j]:=by
 by_cases e:i=j
 ·subst e;exact xab _
 ·exact xbH.mp s i j (by simpa using (by omega:i<a.size)) (by simpa using hj) (by omega)
theorem zL {a:Array Keyed}{i:Nat}{x:Keyed}(h:x∈a.toList.drop i):∃k,i<=k/\∃hk:k<a.size,x=a[k]:=by
 obtain⟨k,hk,e⟩:=xb9 h;rw[xes]at e;simp only[xb4,xaj]at hk;exact⟨i + k,by omega,by omega,e.symm⟩
theorem DX {a:Array Keyed}{i n:Nat}{x:Keyed}(h:x∈(a.toList.drop i).take n):∃k,i<=k/\k<i + n/\∃hk:k<a.size,x=a[k]:=by
 obtain⟨k,hk,e⟩:=xb9 h;rw[xet,xes]at e;simp only[xbv,xb4,xaj]at hk;exact⟨i + k,by omega,by omega,by omega,e.symm⟩
theorem Hg {a:Array Keyed}(s:Sd rk a.toList){i:Nat}:Up (vv rk a) i a.size:=fun k l h1 h2 h3=>by
 rw[cY (by omega),cY h3];exact lR s h2 h3
theorem Uy {st:SortSt}{a b:Array Keyed}(C:lu prog w A R κ a₀ rk)(B:Bs κ a₀ st)(ha:∀y∈a,y∈a₀)(hb:∀y∈b,y∈a₀)(sa:Sd rk a.toList)(sb:Sd rk b.toList)(na:0<a.size)(nb:0<b.size)
    (f:∀x∈a,rk b[0]<=rk x) (l:∀y∈b,rk y<=rk a[a.size - 1]) {P:Array Keyed->SortSt->Prop} (q:∀r st',Sd rk r.toList->r.toList.Perm (a.toList ++ b.toList)->Sg st st'->P r st'):Ok prog w A E R (wR a b) st P:=by
  rw[Sq]
  extract_lets t fin lst i0 j0
  generalize hT:a.toList ++ b.toList=T at q;have fn:∀o i j,Mg rk T o.toList (a.toList.drop i) (b.toList.drop j)->(i=a.size\/j=b.size)->∀st',Sg st st'->P (fin o i j) st':=fun o i j m h st' g=>by
    have e:(fin o i j).toList=o.toList ++ a.toList.drop i ++ b.toList.drop j:=by simp only[fin,xbb,Jp]
    rcases h with rfl |rfl
    · rw[xcM (i:=a.size) (by simp)]at m e;rw[xaL]at e;exact q _ _ (by rw[e];exact m.swap.fin.1) (by rw[e];exact m.swap.fin.2) g
    · rw[xcM (i:=b.size) (by simp)]at m e;rw[xaL]at e;exact q _ _ (by rw[e];exact m.fin.1) (by rw[e];exact m.fin.2) g
  have ls:∀o i j,Mg rk T o.toList (a.toList.drop i) (b.toList.drop j)->i + 1=a.size->∀st',Sg st st'->P (lst o i j) st':=fun o i j m h st' g=>by
    have e:(lst o i j).toList=o.toList ++ b.toList.drop j ++ a.toList.drop i:=by simp only[lst,xbb,Jp]
    have d:a.toList.drop i=[a[a.size - 1]]:=by
      rw[CV (by omega),xcM (by simp;omega)];simp only[show a.size - 1=i by omega]
    have m2 : Mg rk T (o.toList ++ b.toList.drop j) (a.toList.drop i) [] := (Mg.go (X':=[]) (by rw[xaL];exact m.swap) fun y hy x hx=>by
      rw[d,xaz]at hx;subst hx;exact l y (xa6.mp (xd9 hy))).swap
    exact q _ _ (by rw[e];exact m2.fin.1) (by rw[e];exact m2.fin.2) g
  clear_value fin lst
  -- a step of b,a step of a
  have stB:∀o i j (hj:j<b.size),Mg rk T o (a.toList.drop i) (b.toList.drop j)->(∀k (hk:k<a.size),i<=k->rk b[j]<=rk a[k])->Mg rk T (o ++ [b[j]]) (a.toList.drop i) (b.toList.drop (j + 1)):=fun o i j hj m h=>
    (Mg.go (X:=[b[j]]) (by have:=m.swap;rw[CV hj]at this;exact this) fun x hx y hy=>by
      rw[xaz]at hx;subst hx;obtain⟨k,k1,k2,rfl⟩:=zL hy;exact h k k2 k1).swap
  have stA:∀o i j (hi:i<a.size),Mg rk T o (a.toList.drop i) (b.toList.drop j)->(∀k (hk:k<b.size),j<=k->rk a[i]<=rk b[k])->Mg rk T (o ++ [a[i]]) (a.toList.drop (i + 1)) (b.toList.drop j):=fun o i j hi m h=>
    Mg.go (X:=[a[i]]) (by rw[CV hi]at m;exact m) fun x hx y hy=>by
      rw[xaz]at hx;subst hx;obtain⟨k,k1,k2,rfl⟩:=zL hy;exact h k k2 k1
  have m0:Mg rk T [b[0]] (a.toList.drop 0) (b.toList.drop 1):=stB [] 0 0 nb ⟨by simpa using sa,by simpa using sb,by simp[hT]⟩ fun k hk _=>f _ (xaE hk);refine aK (tB (aK (dB nb ?_)))
  extract_lets o0
  dsimp -zeta -zetaHave only[i0,j0,o0]
  by_cases h1:1=b.size
  · rw[xaa (by simpa using h1)];exact aN (fn _ _ _ m0 (.inr h1) _ Sg.rfl)
  rw[xad (by simpa using h1)]
  by_cases h2:0 + 1=a.size
  · rw[xaa (by simpa using h2)];exact aN (ls _ _ _ m0 h2 _ Sg.rfl)
  rw[xad (by simpa using h2)];clear i0 j0 o0;refine aK (lM ?_)
  let Gd:Array Keyed->Prop:=fun r=>∀st',Sg st st'->P r st'
  let J:Array Keyed->Nat->Nat->Prop:=fun o i j=>i + 1<a.size/\j<b.size/\Mg rk T o.toList (a.toList.drop i) (b.toList.drop j)
  refine aK (Ok.mono (P:=fun c s2=>Sg st s2/\∃r o i j g,c=(some r,o,i,j,g)/\Gd r)
    (fK (fun x c s2=>Sg st s2/\∃o i j g,c=(none,o,i,j,g)/\J o i j/\x<i + j) ⟨Sg.rfl,_,0,1,_,rfl,⟨by omega,by omega,m0⟩,by omega⟩ ?_ ?_) ?_)
  · rintro x c s2 x1 x2 ⟨g2,o,i,j,g,rfl,hJ,hx⟩
    extract_lets o' i' j' g' m' n'
    refine aK (Ok.mono (P:=fun c s3=>Sg st s3/\∃o i j m n,(J o i j/\x + 1<i + j/\c=(none,o,i,j,m,n))\/∃r,c=(some r,o,i,j,m,n)/\Gd r)
      (fK (fun y c s3=>Sg st s3/\∃o i j m n,c=(none,o,i,j,m,n)/\J o i j/\x + y<i + j) ⟨g2,o,i,j,0,0,rfl,hJ,by omega⟩ ?_ ?_) ?_)
    · rintro y c s3 y1 y2 ⟨g3,o,i,j,m,n,rfl,⟨J1,J2,J3⟩,hy⟩;dsimp only;refine aK (dB J2 (aK (dB (by omega) (aK (w6 C (g3.bs B) (hb _ (xaE _)) (ha _ (xaE _)) ?_)))));dsimp only
      by_cases hc:rk b[j]<rk a[i]
      · rw[xaa (by simpa using hc)];have m2:=stB _ i j J2 J3 fun k hk ik=>xao (xbg hc) (lR sa ik hk);rw[<-xbp]at m2;refine aK (dB J2 ?_)
        by_cases e:j + 1=b.size
        · rw[xaa (by simpa using e)];exact aN ⟨g3,_,_,_,_,_,.inr ⟨_,rfl,fn _ _ _ m2 (.inr e)⟩⟩
        · rw[xad (by simpa using e)]
          split
          · exact aN ⟨g3,_,_,_,_,_,.inl ⟨⟨J1,by omega,m2⟩,by omega,rfl⟩⟩
          · exact aN ⟨g3,_,_,_,_,_,rfl,⟨J1,by omega,m2⟩,by omega⟩
      · rw[xad (by simpa using hc)];have m2:=stA _ i j (by omega) J3 fun k hk ik=>xao (xbD hc) (lR sb ik hk);rw[<-xbp]at m2;refine aK (dB (by omega) ?_)
        by_cases e:i + 1 + 1=a.size
        · rw[xaa (by simpa using e)];exact aN ⟨g3,_,_,_,_,_,.inr ⟨_,rfl,ls _ _ _ m2 e⟩⟩
        · rw[xad (by simpa using e)]
          split
          · exact aN ⟨g3,_,_,_,_,_,.inl ⟨⟨by omega,J2,m2⟩,by omega,rfl⟩⟩
          · exact aN ⟨g3,_,_,_,_,_,rfl,⟨by omega,J2,m2⟩,by omega⟩
    · rintro c s3 ⟨g3,o,i,j,m,n,rfl,hJ,hy⟩;exact⟨g3,o,i,j,m,n,.inl ⟨hJ,by omega,rfl⟩⟩
    · rintro c s3 ⟨g3,o,i,j,m,n,⟨hJ,hy,rfl⟩ |⟨r,rfl,hr⟩⟩
      · refine aK (tB (aK (Ok.mono (P:=fun c s4=>Sg st s4/\∃o i j g m n,(J o i j/\x + 1<i + j/\c=(none,o,i,j,g,m,n))\/∃r,c=(some r,o,i,j,g,m,n)/\Gd r)
          (fK (fun y c s4=>Sg st s4/\∃o i j g m n,c=(none,o,i,j,g,m,n)/\J o i j/\x + 1<i + j) ⟨g3,o,i,j,_,m,n,rfl,hJ,hy⟩ ?_ ?_) ?_)))
        · clear hJ hy o i j m n;rintro y c s4 y1 y2 ⟨g4,o,i,j,g,m,n,rfl,⟨J1,J2,J3⟩,hy⟩
          extract_lets z0 oo z1 ii z2 jj z3 gg z4 mm nn j1 jp g1
          have eo:oo=o:=rfl;have ei:ii=i:=rfl;have ej:jj=j:=rfl
          clear_value oo ii jj gg mm nn
          subst eo ei ej
          suffices hjp:∀g',Ok prog w A E R (jp () g') s4 _ by split<;>exact hjp _
          intro g';refine aK (zU fun s5 g5=>aK (dB J2 ?_))
          replace g5:=g4.trans g5
          refine aK (sY C (g5.bs B) (hb _ (xaE _)) ha (by omega) (by omega) (by rw[show ii + (a.size - ii)=a.size by omega];exact Hg sa) fun k k1 k2 k3=>?_);have t0:thr rk false b[jj]=rk b[jj] + 1:=rfl;rw[t0]at k2 k3
          dsimp -zeta -zetaHave only
          extract_lets mk jp2 o2 i2
          suffices hjp2:∀o i,i + 1<a.size->ii<=i->(∀k (hk:k<a.size),i<=k->rk b[jj]<=rk a[k])->Mg rk T o.toList (a.toList.drop i) (b.toList.drop jj)->Ok prog w A E R (jp2 () o i) s5 _ by
            have hk3:∀k' (hk:k'<a.size),ii + k<=k'->rk b[jj]<=rk a[k']:=fun k' hk h=>by
              have:=k3 (k' - ii) (by omega) (by omega);rw[show ii + (k' - ii)=k' by omega,cY hk]at this;omega
            by_cases hk:k > 0
            · rw[xaa hk];have m2:Mg rk T o2.toList (a.toList.drop i2) (b.toList.drop jj):=by
                have e:o2.toList=oo.toList ++ (a.toList.drop ii).take k:=by simp only[o2,xbb,Jr]
                rw[e];refine Mg.go (X':=a.toList.drop i2) (by simp only[i2];rw[<-xd1,xcm];exact J3) fun u hu v hv=>?_;obtain⟨p,p1,p2,p3,rfl⟩:=DX hu;obtain⟨p',p1',p2',rfl⟩:=zL hv;have z1:=k2 (p - ii) (by omega);rw[show ii + (p - ii)=p by omega,cY p3]at z1;have z2:=lR sb p1' p2';omega
              have ei2:i2=ii + k:=rfl
              clear_value o2 i2
              by_cases e1:i2 + 1=a.size
              · rw[xaa (by simpa using e1)];exact aN ⟨g5,_,_,_,_,_,_,.inr ⟨_,rfl,ls _ _ _ m2 e1⟩⟩
              rw[xad (by simpa using e1)]
              by_cases e2:i2=a.size
              · rw[xaa (by simpa using e2)];exact aN ⟨g5,_,_,_,_,_,_,.inr ⟨_,rfl,fn _ _ _ m2 (.inl e2)⟩⟩
              rw[xad (by simpa using e2)];exact hjp2 _ _ (by omega) (by omega) (fun k' hk' h=>hk3 k' hk' (by omega)) m2
            · rw[xad hk];exact hjp2 _ _ J1 (xab _) (fun k' hk' h=>hk3 k' hk' (by omega)) J3
          intro o i i1 i3 hlow m2;refine aK (dB J2 ?_);have m3:=stB _ i jj J2 m2 hlow;rw[<-xbp]at m3
          extract_lets o3 i4
          have ej1:j1=jj + 1:=rfl
          change Mg rk T o3.toList (a.toList.drop i) (b.toList.drop j1) at m3
          clear_value o3 j1
          by_cases e3:j1=b.size
          · rw[xaa (by simpa using e3)];exact aN ⟨g5,_,_,_,_,_,_,.inr ⟨_,rfl,fn _ _ _ m3 (.inr e3)⟩⟩
          rw[xad (by simpa using e3)];refine aK (dB (by omega) (aK (sY C (g5.bs B) (ha _ (xaE _)) hb (by omega) (by omega) (by rw[show j1 + (b.size - j1)=b.size by omega];exact Hg sb) fun k' k1' k2' k3'=>?_)));have t1:thr rk true a[i]=rk a[i]:=rfl;rw[t1]at k2' k3'
          dsimp -zeta -zetaHave only
          extract_lets nk jp3 o4 j4
          suffices hjp3:∀o j,j1<=j->j<b.size->(∀k (hk:k<b.size),j<=k->rk a[i]<=rk b[k])->Mg rk T o.toList (a.toList.drop i) (b.toList.drop j)->Ok prog w A E R (jp3 () o j) s5 _ by
            have hk3:∀k (hk:k<b.size),j1 + k'<=k->rk a[i]<=rk b[k]:=fun k hk h=>by
              have:=k3' (k - j1) (by omega) (by omega);rw[show j1 + (k - j1)=k by omega,cY hk]at this;omega
            by_cases hk:k' > 0
            · rw[xaa hk];have m4:Mg rk T o4.toList (a.toList.drop i) (b.toList.drop j4):=by
                have e:o4.toList=o3.toList ++ (b.toList.drop j1).take k':=by simp only[o4,xbb,Jr]
                rw[e];refine(Mg.go (X':=b.toList.drop j4) (by simp only[j4];rw[<-xd1,xcm];exact m3.swap) fun u hu v hv=>?_).swap;obtain⟨p,p1,p2,p3,rfl⟩:=DX hu;obtain⟨p',p1',p2',rfl⟩:=zL hv;have z1:=k2' (p - j1) (by omega);rw[show j1 + (p - j1)=p by omega,cY p3]at z1;have z2:=lR sa p1' p2';omega
              have ej4:j4=j1 + k':=rfl
              clear_value o4 j4
              by_cases e1:j4=b.size
              · rw[xaa (by simpa using e1)];exact aN ⟨g5,_,_,_,_,_,_,.inr ⟨_,rfl,fn _ _ _ m4 (.inr e1)⟩⟩
              rw[xad (by simpa using e1)];exact hjp3 _ _ (by omega) (by omega) (fun k hk' h=>hk3 k hk' (by omega)) m4
            · rw[xad hk];exact hjp3 _ _ (xab _) (by omega) (fun k hk' h=>hk3 k hk' (by omega)) m3
          intro o j jl jb hlow2 m5;refine aK (dB (by omega) ?_);have m6:=stA _ i j (by omega) m5 hlow2;rw[<-xbp]at m6
          extract_lets o5
          have ei4:i4=i + 1:=rfl
          change Mg rk T o5.toList (a.toList.drop i4) (b.toList.drop j) at m6
          clear_value o5 i4
          by_cases e4:i4 + 1=a.size
          · rw[xaa (by simpa using e4)];exact aN ⟨g5,_,_,_,_,_,_,.inr ⟨_,rfl,ls _ _ _ m6 e4⟩⟩
          rw[xad (by simpa using e4)]
          split
          · exact aN ⟨g5,_,_,_,_,_,_,.inl ⟨⟨by omega,jb,m6⟩,by omega,rfl⟩⟩
          · exact aN ⟨g5,_,_,_,_,_,_,rfl,⟨by omega,jb,m6⟩,by omega⟩
        · rintro c s4 ⟨g4,o,i,j,g,m,n,rfl,hJ,hy⟩;exact⟨g4,o,i,j,g,m,n,.inl ⟨hJ,hy,rfl⟩⟩
        · rintro c s4 ⟨g4,o,i,j,g,m,n,⟨hJ,hy,rfl⟩ |⟨r,rfl,hr⟩⟩
          · exact aK (zU fun s5 g5=>aN ⟨g4.trans g5,o,i,j,_,rfl,hJ,hy⟩)
          · exact aN ⟨g4,r,_,_,_,_,rfl,hr⟩
      · exact aN ⟨g3,r,_,_,_,_,rfl,hr⟩
  · rintro c s2 ⟨g2,o,i,j,g,rfl,hJ,hx⟩;have:=hJ.1;have:=hJ.2.1;omega
  · rintro c s2 ⟨g2,r,o,i,j,g,rfl,hr⟩;exact aN (hr s2 g2)
variable {prog:Program}{w:World}{A:Around}{E:Value->Shared->Prop}{R:Shared->Prop}{α β:Type}{κ:SortKind}{a₀:Array Keyed}{rk:Rk}
theorem Sh (a b : Array Keyed) : wQ a b = (do
 rule "list.sort.merge-hi"
 let t:=a.size + b.size
 let fin (o:Array Keyed) (i j:Nat):=a.extract 0 i ++ b.extract 0 j ++ o.reverse
 let lst (o:Array Keyed) (i j:Nat):=b.extract 0 j ++ a.extract 0 i ++ o.reverse
 let mut i:=a.size - 1
 let mut j:=b.size
 let mut o:Array Keyed:= #[<-elem' a i]
 if i==0 then return fin o i j
 if j==1 then return lst o i j
 let mut g:=gallopOf (<-get)
 for _ in [0:t] do
  let mut m:=0
  let mut n:=0
  for _ in [0:t] do
   let some c <-lt' (<-elem' b (j - 1)) (<-elem' a (i - 1)) |return fin o i j
   if c then
    i:=i - 1;o:=o.push (<-elem' a i);m:=m + 1;n:=0
    if i==0 then return fin o i j
    if m >=g then break
   else
    j:=j - 1;o:=o.push (<-elem' b j);n:=n + 1;m:=0
    if j==1 then return lst o i j
    if n >=g then break
  rule "list.sort.gallop"
  g:=g + 1
  for _ in [0:t] do
   if g > 1 then g:=g - 1
   setG g
   let some p <-gal false (<-elem' b (j - 1)) a 0 i (i - 1) |return fin o i j
   let k:=i - p
   m:=k
   if k > 0 then
    o:=o ++ (a.extract p i).reverse;i:=p
    if i==0 then return fin o i j
   j:=j - 1;o:=o.push (<-elem' b j)
   if j==1 then return lst o i j
   let some p <-gal true (<-elem' a (i - 1)) b 0 j (j - 1) |return fin o i j
   let k:=j - p
   n:=k
   if k > 0 then
    o:=o ++ (b.extract p j).reverse;j:=p
    if j==1 then return lst o i j
    if j==0 then return fin o i j
   i:=i - 1;o:=o.push (<-elem' a i)
   if i==0 then return fin o i j
   if m<7 && n<7 then break
  g:=g + 1
  setG g
 unsupported "internal:list.sort.merge-bound"):=rfl
theorem Jq {a:Array Keyed}{i:Nat}:(a.extract 0 i).toList=a.toList.take i:=by
 rw[xbJ,xbt,xcA,xel]
theorem Dc {a:Array Keyed}{p i:Nat}(h:p<=i):a.toList.take i=a.toList.take p ++ (a.extract p i).toList:=by
 rw[xbJ,xbt];have e:p + (i - p)=i:=by omega
 rw[<-List.take_add,e]
theorem G8 {a:Array Keyed}{i:Nat}(h:i<a.size):a.toList.take (i + 1)=a.toList.take i ++ [a[i]]:=by
 rw[List.take_add_one,xaf (by simpa using h)];rfl
theorem zN {a:Array Keyed}{i:Nat}{x:Keyed}(h:x∈a.toList.take i):∃k,k<i/\∃hk:k<a.size,x=a[k]:=by
 obtain⟨k,hk,e⟩:=xb9 h;rw[xet]at e;simp only[xbv,xaj]at hk;exact⟨k,by omega,by omega,e.symm⟩
theorem mem_mid {a:Array Keyed}{p i:Nat}{x:Keyed}(h:x∈(a.extract p i).toList):∃k,p<=k/\k<i/\∃hk:k<a.size,x=a[k]:=by
 rw[xbJ,xbt]at h;obtain⟨k,k1,k2,k3,e⟩:=DX h;exact⟨k,k1,by omega,k3,e⟩
theorem Nt {a:Array Keyed}(s:Sd rk a.toList){i:Nat}(h:i<=a.size):Up (vv rk a) 0 (0 + i):=fun k l h1 h2 h3=>by
 rw[cY (by omega),cY (by omega)];exact lR s h2 (by omega)
theorem Ux {st:SortSt}{a b:Array Keyed}(C:lu prog w A R κ a₀ rk)(B:Bs κ a₀ st)(ha:∀y∈a,y∈a₀)(hb:∀y∈b,y∈a₀)(sa:Sd rk a.toList)(sb:Sd rk b.toList)(na:0<a.size)(nb:0<b.size)
    (f:∀x∈a,rk b[0]<=rk x) (l:∀y∈b,rk y<=rk a[a.size - 1]) {P:Array Keyed->SortSt->Prop} (q:∀r st',Sd rk r.toList->r.toList.Perm (a.toList ++ b.toList)->Sg st st'->P r st'):Ok prog w A E R (wQ a b) st P:=by
  rw[Sh]
  extract_lets t fin lst i0 j0
  generalize hT:a.toList ++ b.toList=T at q;have fn:∀o i j,Mh rk T o.toList.reverse (a.toList.take i) (b.toList.take j)->(i=0\/j=0)->∀st',Sg st st'->P (fin o i j) st':=fun o i j m h st' g=>by
    have e:(fin o i j).toList=a.toList.take i ++ b.toList.take j ++ o.toList.reverse:=by simp only[fin,xbb,Jq,xcp]
    have p:(fin o i j).toList.Perm T:=by rw[e];exact m.p
    refine q _ _ ?_ p g;rcases h with rfl |rfl
    · rw[e,xd2,xbA];exact m.y
    · rw[e,xd2,xaL];exact m.x
  have ls:∀o i j,Mh rk T o.toList.reverse (a.toList.take i) (b.toList.take j)->j=1->∀st',Sg st st'->P (lst o i j) st':=fun o i j m h st' g=>by
    have e:(lst o i j).toList=b.toList.take j ++ (a.toList.take i ++ o.toList.reverse):=by simp only[lst,xbb,Jq,xcp,xaN]
    have m2:Mh rk T (a.toList.take i ++ o.toList.reverse) [] (b.toList.take j):=Mh.go (X':=[]) (by rw[xbA];exact m) fun x hx y hy=>by
      subst h;rw[show(1:Nat)=0 + 1 from rfl,G8 nb]at hy;rw[xd2,xbA,xaz]at hy;subst hy;exact f x (xa6.mp (xc3 hx))
    refine q _ _ (by rw[e];exact m2.y) ?_ g;rw[e];have:=m2.p
    rwa [xbA]at this
  clear_value fin lst
  have stA:∀o i j (hi:i<a.size),Mh rk T o (a.toList.take (i + 1)) (b.toList.take j)->(∀k (hk:k<b.size),k<j->rk b[k]<=rk a[i])->Mh rk T (a[i]::o) (a.toList.take i) (b.toList.take j):=fun o i j hi m h=>
    Mh.go (X:=[a[i]]) (by rw[G8 hi]at m;exact m) fun x hx y hy=>by
      rw[xaz]at hx;subst hx;obtain⟨k,k1,k2,rfl⟩:=zN hy;exact h k k2 k1
  have stB:∀o i j (hj:j<b.size),Mh rk T o (a.toList.take i) (b.toList.take (j + 1))->(∀k (hk:k<a.size),k<i->rk a[k]<=rk b[j])->Mh rk T (b[j]::o) (a.toList.take i) (b.toList.take j):=fun o i j hj m h=>
    (Mh.go (X:=[b[j]]) (by have:=m.swap;rw[G8 hj]at this;exact this) fun x hx y hy=>by
      rw[xaz]at hx;subst hx;obtain⟨k,k1,k2,rfl⟩:=zN hy;exact h k k2 k1).swap
  have m0 : Mh rk T [a[a.size - 1]] (a.toList.take (a.size - 1)) (b.toList.take b.size) := stA [] (a.size - 1) b.size (by omega) (by
    rw[show a.size - 1 + 1=a.size by omega,xbT (by simp),xbT (by simp)];exact⟨by simpa using sa,by simpa using sb,by simp[hT]⟩) fun k hk _=>l _ (xaE hk)
  refine aK (tB (aK (dB (show i0<a.size by simp only[i0];omega) ?_)))
  extract_lets o0
  dsimp -zeta -zetaHave only[i0,j0,o0]
  by_cases h1:a.size - 1=0
  · rw[xaa (by simpa using h1)];exact aN (fn #[a[a.size - 1]] _ _ m0 (.inl h1) _ Sg.rfl)
  rw[xad (by simpa using h1)]
  by_cases h2:b.size=1
  · rw[xaa (by simpa using h2)];exact aN (ls #[a[a.size - 1]] _ _ m0 h2 _ Sg.rfl)
  rw[xad (by simpa using h2)];refine aK (lM ?_)
  let Gd:Array Keyed->Prop:=fun r=>∀st',Sg st st'->P r st'
  let J:Array Keyed->Nat->Nat->Prop:=fun o i j=>0<i/\i<a.size/\1<j/\j<=b.size/\Mh rk T o.toList.reverse (a.toList.take i) (b.toList.take j)
  refine aK (Ok.mono (P:=fun c s2=>Sg st s2/\∃r o i j g,c=(some r,i,j,o,g)/\Gd r)
    (fK (fun x c s2=>Sg st s2/\∃o i j g,c=(none,i,j,o,g)/\J o i j/\x + i + j<t) ⟨Sg.rfl,_,_,_,_,rfl,⟨by omega,by omega,by omega,by omega,m0⟩,by simp only[t];omega⟩ ?_ ?_) ?_)
  · rintro x c s2 x1 x2 ⟨g2,o,i,j,g,rfl,hJ,hx⟩
    extract_lets i' j' o' g' m' n'
    refine aK (Ok.mono (P:=fun c s3=>Sg st s3/\∃o i j m n,(J o i j/\x + 1 + i + j<t/\c=(none,i,j,o,m,n))\/∃r,c=(some r,i,j,o,m,n)/\Gd r)
      (fK (fun y c s3=>Sg st s3/\∃o i j m n,c=(none,i,j,o,m,n)/\J o i j/\x + y + i + j<t) ⟨g2,o,i,j,0,0,rfl,hJ,by omega⟩ ?_ ?_) ?_)
    · rintro y c s3 y1 y2 ⟨g3,o,i,j,m,n,rfl,⟨J1,J2,J3,J4,J5⟩,hy⟩;dsimp only;refine aK (dB (show j - 1<b.size by omega) (aK (dB (show i - 1<a.size by omega) (aK (w6 C (g3.bs B) (hb _ (xaE _)) (ha _ (xaE _)) ?_)))));dsimp only
      by_cases hc:rk b[j - 1]<rk a[i - 1]
      · rw[xaa (by simpa using hc)];have m2:=stA _ (i - 1) j (by omega) (by rw[show i - 1 + 1=i by omega];exact J5) fun k hk ik=>xao (lR sb (show k<=j - 1 by omega) (by omega)) (xbg hc);refine aK (dB (show i - 1<a.size by omega) ?_);have m3:Mh rk T (o.push a[i - 1]).toList.reverse (a.toList.take (i - 1)) (b.toList.take j):=by rw[xbp,xbP];exact m2
        by_cases e:i - 1=0
        · rw[xaa (by simpa using e)];exact aN ⟨g3,_,_,_,_,_,.inr ⟨_,rfl,fn _ _ _ m3 (.inl e)⟩⟩
        · rw[xad (by simpa using e)]
          split
          · exact aN ⟨g3,_,_,_,_,_,.inl ⟨⟨by omega,by omega,J3,J4,m3⟩,by omega,rfl⟩⟩
          · exact aN ⟨g3,_,_,_,_,_,rfl,⟨by omega,by omega,J3,J4,m3⟩,by omega⟩
      · rw[xad (by simpa using hc)];have m2:=stB _ i (j - 1) (by omega) (by rw[show j - 1 + 1=j by omega];exact J5) fun k hk ik=>xao (lR sa (show k<=i - 1 by omega) (by omega)) (xbD hc);refine aK (dB (show j - 1<b.size by omega) ?_);have m3:Mh rk T (o.push b[j - 1]).toList.reverse (a.toList.take i) (b.toList.take (j - 1)):=by rw[xbp,xbP];exact m2
        by_cases e:j - 1=1
        · rw[xaa (by simpa using e)];exact aN ⟨g3,_,_,_,_,_,.inr ⟨_,rfl,ls _ _ _ m3 e⟩⟩
        · rw[xad (by simpa using e)]
          split
          · exact aN ⟨g3,_,_,_,_,_,.inl ⟨⟨J1,J2,by omega,by omega,m3⟩,by omega,rfl⟩⟩
          · exact aN ⟨g3,_,_,_,_,_,rfl,⟨J1,J2,by omega,by omega,m3⟩,by omega⟩
    · rintro c s3 ⟨g3,o,i,j,m,n,rfl,hJ,hy⟩;exact⟨g3,o,i,j,m,n,.inl ⟨hJ,by simp only[t]at hy ⊢;omega,rfl⟩⟩
    · rintro c s3 ⟨g3,o,i,j,m,n,⟨hJ,hy,rfl⟩ |⟨r,rfl,hr⟩⟩
      · refine aK (tB (aK (Ok.mono (P:=fun c s4=>Sg st s4/\∃o i j g m n,(J o i j/\x + 1 + i + j<t/\c=(none,i,j,o,g,m,n))\/∃r,c=(some r,i,j,o,g,m,n)/\Gd r)
          (fK (fun y c s4=>Sg st s4/\∃o i j g m n,c=(none,i,j,o,g,m,n)/\J o i j/\x + 1 + i + j<t) ⟨g3,o,i,j,_,m,n,rfl,hJ,hy⟩ ?_ ?_) ?_)))
        · clear hJ hy o i j m n;rintro y c s4 y1 y2 ⟨g4,o,i,j,g,m,n,rfl,⟨J1,J2,J3,J4,J5⟩,hy⟩
          extract_lets z0 ii z1 jj z2 oo z3 gg z4 mm nn j1 jp g1
          have eo:oo=o:=rfl;have ei:ii=i:=rfl;have ej:jj=j:=rfl
          clear_value oo ii jj gg mm nn
          subst eo ei ej
          suffices hjp:∀g',Ok prog w A E R (jp () g') s4 _ by split<;>exact hjp _
          intro g';refine aK (zU fun s5 g5=>aK (dB (show jj - 1<b.size by omega) ?_))
          replace g5:=g4.trans g5
          refine aK (sY C (g5.bs B) (hb _ (xaE _)) ha (by omega) (by omega) (Nt sa (by omega)) fun p k1 k2 k3=>?_);have t0:thr rk false b[jj - 1]=rk b[jj - 1] + 1:=rfl;rw[t0]at k2 k3;simp only[Nat.zero_add]at k2 k3
          dsimp -zeta -zetaHave only
          extract_lets kk mk jp2 o2 i2
          suffices hjp2:∀i o,0<i->i<=ii->(∀k (hk:k<a.size),k<i->rk a[k]<=rk b[jj - 1])->Mh rk T o.toList.reverse (a.toList.take i) (b.toList.take jj)->Ok prog w A E R (jp2 () i o) s5 _ by
            have hk2:∀k (hk:k<a.size),k<p->rk a[k]<=rk b[jj - 1]:=fun k hk h=>by
              have:=k2 k h;rw[cY hk]at this;omega
            by_cases hk:kk > 0
            · rw[xaa hk];have m2:Mh rk T o2.toList.reverse (a.toList.take i2) (b.toList.take jj):=by
                have e:o2.toList.reverse=(a.extract p ii).toList ++ oo.toList.reverse:=by simp only[o2,xbb,xcp,xbP,xea]
                rw[e];refine Mh.go (X':=a.toList.take i2) (by simp only[i2];rw[<-Dc k1];exact J5) fun u hu v hv=>?_;obtain⟨q1,p1,p2,p3,rfl⟩:=mem_mid hu;obtain⟨q2,p1',p2',rfl⟩:=zN hv;have z1:=k3 q1 p1 p2;rw[cY p3]at z1;have z2:=lR sb (show q2<=jj - 1 by omega) (by omega);omega
              have ei2:i2=p:=rfl
              clear_value o2 i2
              subst ei2
              by_cases e1:i2=0
              · rw[xaa (by simpa using e1)];exact aN ⟨g5,_,_,_,_,_,_,.inr ⟨_,rfl,fn _ _ _ m2 (.inl e1)⟩⟩
              rw[xad (by simpa using e1)];exact hjp2 _ _ (by omega) (by omega) hk2 m2
            · rw[xad hk];have ep:p=ii:=by simp only[kk]at hk;omega
              subst ep;exact hjp2 _ _ J1 (xab _) hk2 J5
          intro i o i1 i3 hlow m2;have ej1:j1=jj - 1:=rfl;refine aK (dB (show j1<b.size by omega) ?_);have m3:=stB _ i j1 (by omega) (by rw[show j1 + 1=jj by omega];exact m2) hlow
          extract_lets o3 i4
          replace m3:Mh rk T o3.toList.reverse (a.toList.take i) (b.toList.take j1):=by simp only[o3];rw[xbp,xbP];exact m3
          clear_value o3 j1
          by_cases e3:j1=1
          · rw[xaa (by simpa using e3)];exact aN ⟨g5,_,_,_,_,_,_,.inr ⟨_,rfl,ls _ _ _ m3 e3⟩⟩
          rw[xad (by simpa using e3)];refine aK (dB (show i - 1<a.size by omega) (aK (sY C (g5.bs B) (ha _ (xaE _)) hb (by omega) (by omega) (Nt sb (by omega)) fun p' k1' k2' k3'=>?_)));have t1:thr rk true a[i - 1]=rk a[i - 1]:=rfl;rw[t1]at k2' k3';simp only[Nat.zero_add]at k2' k3'
          dsimp -zeta -zetaHave only
          extract_lets k4 nk jp3 o4 j4
          suffices hjp3:∀j o,j<=j1->1<j->(∀k (hk:k<b.size),k<j->rk b[k]<=rk a[i - 1])->Mh rk T o.toList.reverse (a.toList.take i) (b.toList.take j)->Ok prog w A E R (jp3 () j o) s5 _ by
            have hk2:∀k (hk:k<b.size),k<p'->rk b[k]<=rk a[i - 1]:=fun k hk h=>by
              have:=k2' k h;rw[cY hk]at this;omega
            by_cases hk:k4 > 0
            · rw[xaa hk];have m4:Mh rk T o4.toList.reverse (a.toList.take i) (b.toList.take j4):=by
                have e:o4.toList.reverse=(b.extract p' j1).toList ++ o3.toList.reverse:=by simp only[o4,xbb,xcp,xbP,xea]
                rw[e];refine(Mh.go (X':=b.toList.take j4) (by simp only[j4];rw[<-Dc k1'];exact m3.swap) fun u hu v hv=>?_).swap;obtain⟨q1,p1,p2,p3,rfl⟩:=mem_mid hu;obtain⟨q2,p1',p2',rfl⟩:=zN hv;have z1:=k3' q1 p1 p2;rw[cY p3]at z1;have z2:=lR sa (show q2<=i - 1 by omega) (by omega);omega
              have ej4:j4=p':=rfl
              clear_value o4 j4
              subst ej4
              by_cases e1:j4=1
              · rw[xaa (by simpa using e1)];exact aN ⟨g5,_,_,_,_,_,_,.inr ⟨_,rfl,ls _ _ _ m4 e1⟩⟩
              rw[xad (by simpa using e1)]
              by_cases e2:j4=0
              · rw[xaa (by simpa using e2)];exact aN ⟨g5,_,_,_,_,_,_,.inr ⟨_,rfl,fn _ _ _ m4 (.inr e2)⟩⟩
              rw[xad (by simpa using e2)];exact hjp3 _ _ (by omega) (by omega) hk2 m4
            · rw[xad hk];have ep:p'=j1:=by simp only[k4]at hk;omega
              exact hjp3 _ _ (xab _) (by omega) (fun k hk h=>hk2 k hk (by omega)) m3
          intro j o jl jb hlow2 m5;have ei4:i4=i - 1:=rfl;refine aK (dB (show i4<a.size by omega) ?_);have m6:=stA _ i4 j (by omega) (by rw[show i4 + 1=i by omega];exact m5) hlow2
          extract_lets o5
          replace m6:Mh rk T o5.toList.reverse (a.toList.take i4) (b.toList.take j):=by simp only[o5];rw[xbp,xbP];exact m6
          clear_value o5 i4
          by_cases e4:i4=0
          · rw[xaa (by simpa using e4)];exact aN ⟨g5,_,_,_,_,_,_,.inr ⟨_,rfl,fn _ _ _ m6 (.inl e4)⟩⟩
          rw[xad (by simpa using e4)]
          split
          · exact aN ⟨g5,_,_,_,_,_,_,.inl ⟨⟨by omega,by omega,jb,by omega,m6⟩,by omega,rfl⟩⟩
          · exact aN ⟨g5,_,_,_,_,_,_,rfl,⟨by omega,by omega,jb,by omega,m6⟩,by omega⟩
        · rintro c s4 ⟨g4,o,i,j,g,m,n,rfl,hJ,hy⟩;exact⟨g4,o,i,j,g,m,n,.inl ⟨hJ,hy,rfl⟩⟩
        · rintro c s4 ⟨g4,o,i,j,g,m,n,⟨hJ,hy,rfl⟩ |⟨r,rfl,hr⟩⟩
          · exact aK (zU fun s5 g5=>aN ⟨g4.trans g5,o,i,j,_,rfl,hJ,hy⟩)
          · exact aN ⟨g4,r,_,_,_,_,rfl,hr⟩
      · exact aN ⟨g3,r,_,_,_,_,rfl,hr⟩
  · rintro c s2 ⟨g2,o,i,j,g,rfl,hJ,hx⟩;have:=hJ.1;simp only[t]at hx;omega
  · rintro c s2 ⟨g2,r,o,i,j,g,rfl,hr⟩;exact aN (hr s2 g2)
variable {prog:Program}{w:World}{A:Around}{E:Value->Shared->Prop}{R:Shared->Prop}{α β:Type}{κ:SortKind}{a₀:Array Keyed}{rk:Rk}
noncomputable def lay (o:Nat) (m a:Array Keyed):Array Keyed:=m.toList.zipIdx.foldl (fun a (p,j)=>a.setIfInBounds (o + j) p) a
theorem Ss (i : Nat) : mergeAt' i = (do
 let s <-get
 let (some (o,n,w),some (p,m,_)):=((pendingOf s)[i]?,(pendingOf s)[i + 1]?) |unsupported "internal:list.sort.pending"
 set (setPending s (((pendingOf s).setIfInBounds i (o,n + m,w)).eraseIdxIfInBounds (i + 1)))
 let some k <-gal false (<-elem' (arrOf s) p) (arrOf s) o n 0 |return false
 let (o,n):=(o + k,n - k)
 if n==0 then return true
 let some m <-gal true (<-elem' (arrOf s) (o + n - 1)) (arrOf s) p m (m - 1) |return false
 if m==0 then return true
 let x:=(arrOf s).extract o p
 let y:=(arrOf s).extract p (p + m)
 let r <-if n<=m then wR x y else wQ x y
 modify fun s=>setArr s (lay o r (arrOf s))
 return (failedOf (<-get)).isNone):=rfl
theorem J8 (o:Nat):∀(l:List Keyed) (d:Nat) (a:Array Keyed),o + d + l.length<=a.size->
    ((l.zipIdx d).foldl (fun a (p,j)=>a.setIfInBounds (o + j) p) a).size=a.size/\∀k,((l.zipIdx d).foldl (fun a (p,j)=>a.setIfInBounds (o + j) p) a)[k]? =if o + d<=k/\k<o + d + l.length then l[k - (o + d)]? else a[k]?
  | [],d,a,h=>⟨rfl,fun k=>by rw[xad (by simp only[xbz];omega)];rfl⟩
  |x::l,d,a,h=>by
    rw[xaF]at h;obtain⟨h1,h2⟩:=J8 o l (d + 1) (a.setIfInBounds (o + d) x) (by rw[xdG];omega);rw[xdG]at h1;refine⟨h1,fun k=>(h2 k).trans ?_⟩;rw[xaF]
    by_cases c:k=o + d
    · subst c;rw[xad (by omega),xaa (by omega),xcv,xc7,xaa rfl,xaa (by omega)];rfl
    · by_cases c2:o + (d + 1)<=k/\k<o + (d + 1) + l.length
      · rw[xaa c2,xaa (by omega),show k - (o + d)=k - (o + (d + 1)) + 1 by omega,xbN]
      · rw[xad c2,xad (by omega),xc7,xad (by omega)]
theorem J7 {o:Nat}{m a:Array Keyed}(h:o + m.size<=a.size)(k:Nat):(lay o m a)[k]? =if o<=k/\k<o + m.size then m[k - o]? else a[k]? :=by
 have:=(J8 o m.toList 0 a (by simpa using h)).2 k;simp only[Nat.add_zero,xaj,xbi]at this;exact this
theorem RV {o:Nat}{m a:Array Keyed}(h:o + m.size<=a.size)(p:m.toList.Perm (a.extract o (o + m.size)).toList):(lay o m a).Perm a:=by
 have e1:(lay o m a).toList=a.toList.take o ++ (m.toList ++ a.toList.drop (o + m.size)):=by
  refine xdq fun k=>?_;rw[xbi,J7 h]
  by_cases c:k<o
  ·rw[xad (by omega),xaA (by simp;omega),xcs c,xbi]
  ·rw[xaw (by simp;omega),xbv,xaj,show min o a.size=o by omega]
   by_cases c2:k<o + m.size
   ·rw[xaa (by omega),xaA (by simp;omega),xbi]
   ·rw[xad (by omega),xaw (by simp;omega),xaj,xen,xbi];congr 1;omega
 have e2:a.toList=a.toList.take o ++ ((a.extract o (o + m.size)).toList ++ a.toList.drop (o + m.size)):=by
  rw[<-xaN, <-Dc (by omega),xcm]
 refine Array.perm_iff_toList_perm.mpr ?_;rw[e1];refine List.Perm.trans ?_ (List.Perm.of_eq e2.symm);exact xcS _ (xcL _ p)
theorem Mq {a:Array Keyed}{i j:Nat}(h:Up (vv rk a) i j)(hj:j<=a.size):Sd rk (a.extract i j).toList:=by
 refine xbH.mpr fun p q hp hq pq=>?_;simp only[xaj,xcx]at hp hq;have e:∀q (hq:q<(a.extract i j).toList.length),rk (a.extract i j).toList[q]=vv rk a (i + q):=fun q hq=>by
  simp only[xaj,xcx]at hq;rw[cY (by omega)]
  simp
 rw[e,e];exact h _ _ (by omega) (by omega) (by omega)
theorem wV {a:Array Keyed}{p i:Nat}{x:Keyed}(h:x∈a.extract p i):∃k,p<=k/\k<i/\k<a.size/\rk x=vv rk a k/\x∈a:=by
 obtain⟨k,k1,k2,k3,rfl⟩:=mem_mid (xa6.mpr h);exact⟨k,k1,k2,k3,(cY k3).symm,xaE k3⟩
theorem Up.join {v:Nat->Nat}{i j k:Nat}(a:Up v i j)(b:Up v j k)(h:∀p q,i<=p->p<j->j<=q->q<k->v p<=v q):Up v i k:=fun p q h1 h2 h3=>by
 by_cases c:q<j
 ·exact a p q h1 h2 c
 ·by_cases d:p<j
  ·exact h p q h1 d (by omega) h3
  ·exact b p q (by omega) h2 h3
theorem Uz {st:SortSt}{i o n x p m y:Nat}(C:lu prog w A R κ a₀ rk)(B:Bs κ a₀ st)(e1:(pendingOf st)[i]? =some (o,n,x))(e2:(pendingOf st)[i + 1]? =some (p,m,y))(hp:p=o + n)(n1:1<=n)(m1:1<=m)(hz:p + m<=a₀.size)
    (u1:Up (vv rk (arrOf st)) o p) (u2:Up (vv rk (arrOf st)) p (p + m)) {P:Bool->SortSt->Prop}
    (q:∀st',Bs κ a₀ st'->pendingOf st'=((pendingOf st).setIfInBounds i (o,n + m,x)).eraseIdxIfInBounds (i + 1)->Up (vv rk (arrOf st')) o (p + m)->(∀k,k<o\/p + m<=k->vv rk (arrOf st') k=vv rk (arrOf st) k)->P true st'):Ok prog w A E R (mergeAt' i) st P:=by
  have sz:=B.size;have hm:∀y∈arrOf st,y∈a₀:=fun y hy=>B.pm.mem_iff.mp hy;rw[Ss];refine aK (lM ?_);rw[e1,e2];dsimp only;refine aK (UG ?_);have B2:Bs κ a₀ (setPending st (((pendingOf st).setIfInBounds i (o,n + m,x)).eraseIdxIfInBounds (i + 1))):=⟨B.kd,B.nf,B.pm⟩;refine aK (dB (show p<(arrOf st).size by omega) (aK (sY C B2 (hm _ (xaE _)) hm (by omega) (by omega) (by rw[<-hp];exact u1) fun k k1 k2 k3=>?_)));dsimp only;have tp:thr rk false (arrOf st)[p]=vv rk (arrOf st) p + 1:=by rw[cY (by omega)];rfl
  rw[tp]at k2 k3
  by_cases c1:n - k=0
  · rw[xaa (by simpa using c1)];refine aN (q _ B2 rfl (u1.join u2 fun p' q' h1 h2 h3 h4=>?_) fun _ _=>rfl);have:=k2 (p' - o) (by omega);rw[show o + (p' - o)=p' by omega]at this;exact xao (by omega) (u2 p q' (xab _) h3 h4)
  rw[xad (by simpa using c1)];refine aK (dB (show o + k + (n - k) - 1<(arrOf st).size by omega) (aK (sY C B2 (hm _ (xaE _)) hm (by omega) (by omega) u2 fun d d1 d2 d3=>?_)));dsimp only;have tq:thr rk true (arrOf st)[o + k + (n - k) - 1]=vv rk (arrOf st) (p - 1):=by rw[cY (show p - 1<_ by omega)];show rk _=rk _;simp only[show o + k + (n - k) - 1=p - 1 by omega]
  rw[tq]at d2 d3
  by_cases c2:d=0
  · rw[xaa (by simpa using c2)];refine aN (q _ B2 rfl (u1.join u2 fun p' q' h1 h2 h3 h4=>?_) fun _ _=>rfl);have:=d3 (q' - p) (by omega) (by omega);rw[show p + (q' - p)=q' by omega]at this;exact xao (u1 p' (p - 1) h1 (by omega) (by omega)) this
  rw[xad (by simpa using c2)];have szx:((arrOf st).extract (o + k) p).size=n - k:=by rw[xcx];omega
  have szy:((arrOf st).extract p (p + d)).size=d:=by rw[xcx];omega
  have hk3:∀j,o + k<=j->j<p->vv rk (arrOf st) p<vv rk (arrOf st) j:=fun j h1 h2=>by
    have:=k3 (j - o) (by omega) (by omega);rw[show o + (j - o)=j by omega]at this;omega
  have hd2:∀j,p<=j->j<p + d->vv rk (arrOf st) j<vv rk (arrOf st) (p - 1):=fun j h1 h2=>by
    have:=d2 (j - p) (by omega)
    rwa [show p + (j - p)=j by omega]at this
  have gx:∀(h:0<((arrOf st).extract p (p + d)).size),rk ((arrOf st).extract p (p + d))[0]=vv rk (arrOf st) p:=fun h=>by rw[cY (by omega)];simp
  have gy:∀(h:((arrOf st).extract (o + k) p).size - 1<((arrOf st).extract (o + k) p).size),rk ((arrOf st).extract (o + k) p)[((arrOf st).extract (o + k) p).size - 1]=vv rk (arrOf st) (p - 1):=fun h=>by
    rw[cY (by omega),Array.getElem_extract];simp only[szx,show o + k + (n - k - 1)=p - 1 by omega]
  have mrg:∀(f:Array Keyed->Array Keyed->StateT SortSt Sem (Array Keyed)),(f=wR\/f=wQ)->∀{P:Array Keyed->SortSt->Prop},(∀r st',Sd rk r.toList->r.toList.Perm (((arrOf st).extract (o + k) p).toList ++ ((arrOf st).extract p (p + d)).toList)->Sg (setPending st (((pendingOf st).setIfInBounds i (o,n + m,x)).eraseIdxIfInBounds (i + 1))) st'->P r st')->
      Ok prog w A E R (f ((arrOf st).extract (o + k) p) ((arrOf st).extract p (p + d))) (setPending st (((pendingOf st).setIfInBounds i (o,n + m,x)).eraseIdxIfInBounds (i + 1))) P:=by
    have h1:∀y∈(arrOf st).extract (o + k) p,y∈a₀:=fun y hy=>hm _ (wV (rk:=rk) hy).choose_spec.2.2.2.2;have h2:∀y∈(arrOf st).extract p (p + d),y∈a₀:=fun y hy=>hm _ (wV (rk:=rk) hy).choose_spec.2.2.2.2;have h3:Sd rk ((arrOf st).extract (o + k) p).toList:=Mq (fun a b z1 z2 z3=>u1 a b (by omega) z2 z3) (by omega);have h4:Sd rk ((arrOf st).extract p (p + d)).toList:=Mq (fun a b z1 z2 z3=>u2 a b z1 z2 (by omega)) (by omega);have h5:∀z∈(arrOf st).extract (o + k) p,rk (((arrOf st).extract p (p + d))[0]'(by omega))<=rk z:=fun z hz=>by
      obtain⟨j,j1,j2,j3,j4,_⟩:=wV (rk:=rk) hz;rw[j4,gx];exact xbg (hk3 j j1 j2)
    have h6:∀z∈(arrOf st).extract p (p + d),rk z<=rk (((arrOf st).extract (o + k) p)[((arrOf st).extract (o + k) p).size - 1]'(by omega)):=fun z hz=>by
      obtain⟨j,j1,j2,j3,j4,_⟩:=wV (rk:=rk) hz;rw[j4,gy];exact xbg (hd2 j j1 j2)
    rintro f (rfl |rfl) P hP
    · exact Uy C B2 h1 h2 h3 h4 (by omega) (by omega) h5 h6 hP
    · exact Ux C B2 h1 h2 h3 h4 (by omega) (by omega) h5 h6 hP
  have rest:∀r st',Sd rk r.toList->r.toList.Perm (((arrOf st).extract (o + k) p).toList ++ ((arrOf st).extract p (p + d)).toList)->Sg (setPending st (((pendingOf st).setIfInBounds i (o,n + m,x)).eraseIdxIfInBounds (i + 1))) st'->
      Ok prog w A E R (do modify fun s=>setArr s (lay (o + k) r (arrOf s));let s <-get;pure (failedOf s).isNone) st' P:=by
    rintro r st' sr pr ⟨g,rfl⟩;have lr:r.size=n - k + d:=by
      have:=pr.length_eq
      rwa [xaq,xaj,xaj,xaj,szx,szy]at this
    have ee:((arrOf st).extract (o + k) p).toList ++ ((arrOf st).extract p (p + d)).toList=((arrOf st).extract (o + k) (o + k + r.size)).toList:=by
      rw[show o + k + r.size=p + d by omega];simp only[xbJ,xbt];rw[show p + d - p=d by omega,show p + d - (o + k)=(p - (o + k)) + d by omega,List.take_add,xd1,show o + k + (p - (o + k))=p by omega]
    rw[ee]at pr;have la:o + k + r.size<=(arrOf st).size:=by omega
    have lv:∀j,vv rk (lay (o + k) r (arrOf st)) j=if o + k<=j/\j<o + k + r.size then vv rk r (j - (o + k)) else vv rk (arrOf st) j:=fun j=>by
      have h:=J7 (m:=r) (a:=arrOf st) la j;split at h
      · rename_i c;rw[xaa c];exact rW h
      · rename_i c;rw[xad c];exact rW h
    have bd:∀j,j<r.size->vv rk (arrOf st) p<=vv rk r j/\vv rk r j<=vv rk (arrOf st) (p - 1):=fun j hj=>by
      have hmem:r[j]∈((arrOf st).extract (o + k) (o + k + r.size)).toList:=pr.mem_iff.mp (xa6.mpr (xaE hj));obtain⟨j',j1,j2,j3,j4,_⟩:=wV (rk:=rk) (xa6.mp hmem);rw[cY hj,j4]
      by_cases c:j'<p
      · exact⟨xbg (hk3 j' j1 c),u1 _ _ (by omega) (by omega) (by omega)⟩
      · exact⟨u2 _ _ (xab _) (by omega) (by omega),xbg (hd2 j' (by omega) (by omega))⟩
    have ur:Up (vv rk r) 0 r.size:=Hg sr;refine aK (sZ (aK (lM (aN ?_))));show P (failedOf st).isNone _;rw[B.nf];refine q _ ⟨B.kd,rfl,(RV la pr).trans B.pm⟩ rfl ?_ ?_
    · intro a b h1 h2 h3;show vv rk (lay _ _ _) a<=vv rk (lay _ _ _) b;rw[lv,lv];have lo:∀a,o<=a->a<o + k->vv rk (arrOf st) a<=vv rk (arrOf st) p:=fun a h1 h2=>by
        have:=k2 (a - o) (by omega);rw[show o + (a - o)=a by omega]at this;omega
      have hi:∀b,p + d<=b->b<p + m->vv rk (arrOf st) (p - 1)<=vv rk (arrOf st) b:=fun b h1 h2=>by
        have:=d3 (b - p) (by omega) (by omega)
        rwa [show p + (b - p)=b by omega]at this
      have mid:=hk3 (p - 1) (by omega) (by omega)
      split
      · split
        · exact ur _ _ (by omega) (by omega) (by omega)
        · exact xao (bd _ (by omega)).2 (hi b (by omega) (by omega))
      · split
        · exact xao (lo a h1 (by omega)) (bd _ (by omega)).1
        · by_cases c:a<o + k
          · by_cases c':b<o + k
            · exact u1 a b h1 h2 (by omega)
            · exact xao (lo a h1 c) (xao (xbg mid) (hi b (by omega) (by omega)))
          · exact u2 a b (by omega) h2 (by omega)
    · intro j hj;show vv rk (lay _ _ _) j=_;rw[lv,xad (by omega)]
  split
  · exact aK (mrg wR (.inl rfl) rest)
  · exact aK (mrg wQ (.inr rfl) rest)
variable {prog:Program}{w:World}{A:Around}{E:Value->Shared->Prop}{R:Shared->Prop}{α β:Type}{κ:SortKind}{a₀:Array Keyed}{rk:Rk}
noncomputable def Rs (v:Nat->Nat):List (Nat×Nat×Nat)->Nat->Nat->Prop
 | [],i,j=>i=j
 |(o,n,_)::l,i,j=>o=i/\1<=n/\Up v i (i + n)/\Rs v l (i + n) j
theorem Rs.le {v:Nat->Nat}:∀{l:List (Nat×Nat×Nat)} {i j:Nat},Rs v l i j->i + l.length<=j
  | [],i,j,h=>xek h
  |(o,n,_)::l,i,j,h=>by
    have:=Rs.le h.2.2.2;have:=h.2.1;rw[xaF];omega
theorem Rs.app {v:Nat->Nat}:∀{l:List (Nat×Nat×Nat)} {l':List (Nat×Nat×Nat)} {i j:Nat},Rs v (l ++ l') i j->∃k,Rs v l i k/\Rs v l' k j
  | [],l',i,j,h=>⟨i,rfl,h⟩
  |(o,n,_)::l,l',i,j,h=>by
    obtain⟨k,a,b⟩:=Rs.app (l:=l) h.2.2.2;exact⟨k,⟨h.1,h.2.1,h.2.2.1,a⟩,b⟩
theorem Rs.join {v:Nat->Nat}:∀{l:List (Nat×Nat×Nat)} {l':List (Nat×Nat×Nat)} {i j k:Nat},Rs v l i k->Rs v l' k j->Rs v (l ++ l') i j
 | [],l',i,j,k,a,b=>by cases (show i=k from a);exact b
 |(o,n,_)::l,l',i,j,k,a,b=>⟨a.1,a.2.1,a.2.2.1,Rs.join a.2.2.2 b⟩
theorem Rs.same {v v':Nat->Nat}:∀{l:List (Nat×Nat×Nat)} {i j:Nat},Rs v l i j->(∀k,i<=k->k<j->v' k=v k)->Rs v' l i j
  | [],i,j,h,e=>h
  |(o,n,_)::l,i,j,h,e=>by
    have:=h.2.2.2.le;refine⟨h.1,h.2.1,fun a b h1 h2 h3=>?_,Rs.same h.2.2.2 fun k k1 k2=>e k (by omega) k2⟩;rw[e a h1 (by omega),e b (by omega) (by omega)];exact h.2.2.1 a b h1 h2 h3
theorem Rs.up {v:Nat->Nat}{l:List (Nat×Nat×Nat)}{i j:Nat}(h:Rs v l i j)(h1:l.length<=1):Up v i j:=by
 match l,h,h1 with
 | [],h,_=>cases (show i=j from h);exact fun a b h1 h2 h3=>by omega
 | [(o,n,_)],h,_=>cases (show i + n=j from h.2.2.2);exact h.2.2.1
theorem Rs.power {v:Nat->Nat}{w:Nat}:∀{l:List (Nat×Nat×Nat)} {i j:Nat} (k:Nat),Rs v l i j->Rs v (l.modify k fun z=>(z.1,z.2.1,w)) i j
 | [],i,j,k,h=>by rw[List.modify_nil];exact h
 |(o,n,_)::l,i,j,0,h=>by rw[List.modify_zero_cons];exact h
 |(o,n,_)::l,i,j,k + 1,h=>by rw[List.modify_succ_cons];exact⟨h.1,h.2.1,h.2.2.1,Rs.power k h.2.2.2⟩
structure Sr (κ:SortKind)(a₀:Array Keyed)(rk:Rk)(lo:Nat)(st:SortSt):Prop where
 b:Bs κ a₀ st
 r:Rs (vv rk (arrOf st)) (pendingOf st).toList 0 lo
theorem KJ {st:SortSt}{lo i:Nat}(C:lu prog w A R κ a₀ rk)(S:Sr κ a₀ rk lo st)(hl:lo<=a₀.size)(hi:i + 1<(pendingOf st).size){P:Bool->SortSt->Prop}
  (q:∀st',Sr κ a₀ rk lo st'->(pendingOf st').size + 1=(pendingOf st).size->(∀k,lo<=k->vv rk (arrOf st') k=vv rk (arrOf st) k)->P true st'):Ok prog w A E R (mergeAt' i) st P:=by
 have ht:=S.r;have e0:(pendingOf st).toList=(pendingOf st).toList.take i ++ (pendingOf st).toList.drop i:=(xcm ..).symm;rw[xaS (by simp;omega),xaS (by simp;omega)]at e0;rcases h1:(pendingOf st).toList[i]'(by simp;omega) with⟨o,n,x⟩;rcases h2:(pendingOf st).toList[i + 1]'(by simp;omega) with⟨p,m,y⟩;rw[h1,h2]at e0;have g1:(pendingOf st)[i]? =some (o,n,x):=by rw[<-xbi,xaf (by simp;omega),h1]
 have g2:(pendingOf st)[i + 1]? =some (p,m,y):=by rw[<-xbi,xaf (by simp;omega),h2]
 generalize hL:(pendingOf st).toList.take i=L at e0;generalize hM:(pendingOf st).toList.drop (i + 1 + 1)=M at e0;have lL:L.length=i:=by rw[<-hL,xbv,xaj];omega
 rw[e0]at ht;obtain⟨k,r1,r2⟩:=ht.app;obtain⟨rfl,n1,u1,rfl,m1,u2,r3⟩:=r2;have l3:=r3.le;refine Uz C S.b g1 g2 rfl n1 m1 (by omega) u1 u2 fun st' B' hp' u' f'=>q st' ⟨B',?_⟩ ?_ fun j hj=>f' j (.inr (by omega))
 ·rw[hp'];rw[xcV,xdm,e0,List.set_append_right _ _ (by omega),lL,xcv,xbV,List.eraseIdx_append_of_length_le (by omega),lL,show i + 1 - i=1 by omega];refine(r1.same fun j _ j2=>f' j (.inl j2)).join ?_;refine⟨rfl,by omega,by rw[<-Nat.add_assoc];exact u',?_⟩;rw[<-Nat.add_assoc];exact r3.same fun j j1 _=>f' j (.inr j1)
 ·rw[hp', <-xaj, <-xaj,xcV,List.length_eraseIdx_of_lt (by simpa using hi),xdm,xaM,xaj];omega
theorem UJ {a:Array Keyed}(C:lu prog w A R κ a rk){P:Unit->SortSt->Prop}(q:∀st',(arrOf st').Perm a->failedOf st'=none->Up (vv rk (arrOf st')) 0 a.size->P () st'):
    Ok prog w A E R sortRuns' (SortSt.mk' κ a #[] 7 none) P:=by
  rw[sortRuns'_eq];refine aK (lM ?_);show Ok prog w A E R _ _ _
  extract_lets size minrun lo0
  have es:size=a.size:=rfl
  clear_value size minrun
  subst es;refine aK (Ok.mono (P:=fun c st=>c=(none,a.size)/\Sr κ a rk a.size st) (fK (fun x c st=>∃lo,c=(none,lo)/\lo<=a.size/\(lo=a.size\/x<=lo)/\Sr κ a rk lo st) ⟨0,rfl,by omega,by omega,⟨rfl,rfl,Array.Perm.refl _⟩,rfl⟩ ?_ ?_) ?_)
  · rintro x c st x1 x2 ⟨lo,rfl,hl,hx,S⟩
    extract_lets lo' jp
    have el:lo'=lo:=rfl
    clear_value lo'
    subst el
    by_cases c1:lo' >=a.size
    · rw[xaa c1];obtain rfl:lo'=a.size:=by omega
      exact aN ⟨rfl,S⟩
    rw[xad c1]
    suffices hjp:∀n st,1<=n->lo' + n<=a.size->Sr κ a rk lo' st->Up (vv rk (arrOf st)) lo' (lo' + n)->Ok prog w A E R (jp () n) st _ by
      refine aK (Uw C (show lo' + (a.size - lo')<=a.size by omega) (by omega) S.b fun m st' m1 m2 B' u' f'=>?_);have S':Sr κ a rk lo' st':=⟨B',by rw[f'.p];exact S.r.same fun k _ k2=>f'.v k k2⟩;show Ok prog w A E R (if m<minrun then _ else jp () m) _ _
      by_cases c3:m<minrun
      · rw[xaa c3];refine aK (tB (aK (Uv C (show lo' + min (a.size - lo') minrun<=a.size by omega) m1 (by omega) B' u' fun st2 B2 u2 f2=>?_)));rw[xad (by simp)];exact hjp _ _ (by omega) (by omega) ⟨B2,by rw[f2.p];exact S'.r.same fun k _ k2=>f2.v k k2⟩ u2
      · rw[xad c3];exact hjp m st' m1 (by omega) S' u'
    intro n st n1 n2 S u;have push:∀st:SortSt,Sr κ a rk lo' st->Up (vv rk (arrOf st)) lo' (lo' + n)->Sr κ a rk (lo' + n) (setPending st ((pendingOf st).push (lo',n,0))):=fun st S u=>by
      refine⟨⟨S.b.kd,S.b.nf,S.b.pm⟩,?_⟩;show Rs _ ((pendingOf st).push (lo',n,0)).toList 0 _;rw[xbp];exact S.r.join ⟨rfl,n1,u,rfl⟩
    refine aK (lM ?_)
    extract_lets l1 jp2
    suffices hjp2:∀st,Sr κ a rk lo' st->Up (vv rk (arrOf st)) lo' (lo' + n)->Ok prog w A E R (jp2 ()) st _ by
      split
      · rename_i s1 n1' w1 _
        extract_lets pw
        refine aK (Ok.mono (P:=fun c st=>c=(none,())/\Sr κ a rk lo' st/\Up (vv rk (arrOf st)) lo' (lo' + n)) (fK (fun _ c st=>c=(none,())/\Sr κ a rk lo' st/\Up (vv rk (arrOf st)) lo' (lo' + n)) ⟨rfl,S,u⟩ ?_ fun _ _ h=>h) ?_)
        · rintro y c st y1 y2 ⟨rfl,S,u⟩;refine aK (lM ?_)
          extract_lets pp
          by_cases c2:pp.size > 1
          · have e2:(if pp.size > 1 then pp[pp.size - 2]? else none)=some pp[pp.size - 2]:=by rw[xaa c2,xba]
            rw[e2]
            split
            · split
              · exact aN ⟨rfl,S,u⟩
              · refine aK (KJ C S hl (show pp.size - 2 + 1<pp.size by omega) fun st' S' _ f'=>?_);rw[xad (by simp)];refine aN ⟨rfl,S',fun i j h1 h2 h3=>?_⟩;rw[f' i h1,f' j (by omega)];exact u i j h1 h2 h3
            · exact aN ⟨rfl,S,u⟩
          · rw[xad c2];exact aN ⟨rfl,S,u⟩
        · rintro c st ⟨rfl,S,u⟩;refine aK (sZ (hjp2 _ ⟨⟨S.b.kd,S.b.nf,S.b.pm⟩,?_⟩ u));show Rs _ ((pendingOf st).modify _ _).toList 0 _;rw[Array.toList_modify, <-xaj];exact S.r.power _
      · exact hjp2 st S u
    exact fun st S u=>aK (sZ (aN ⟨lo' + n,rfl,n2,by omega,push st S u⟩))
  · rintro c st ⟨lo,rfl,hl,hx,S⟩;have e:lo=a.size:=by omega
    subst e;exact⟨rfl,S⟩
  · rintro c st ⟨rfl,S⟩;dsimp only;have h0:=S.r.le;rw[xaj]at h0;refine aK (Ok.mono (P:=fun c st=>c=(none,())/\Sr κ a rk a.size st/\(pendingOf st).size<=1) (fK (fun x c st=>c=(none,())/\Sr κ a rk a.size st/\((pendingOf st).size<=1\/x + (pendingOf st).size<=a.size)) ⟨rfl,S,by omega⟩ ?_ ?_) ?_)
    · rintro x c st x1 x2 ⟨rfl,S,hx⟩;refine aK (lM ?_)
      by_cases c1:(pendingOf st).size<=1
      · rw[xaa c1];exact aN ⟨rfl,S,c1⟩
      rw[xad c1];refine aK (KJ C S (xab _) (by(repeat' split)<;>omega) fun st' S' hs _=>?_)
      rw[xad (by simp)];exact aN ⟨rfl,S',.inr (by omega)⟩
    · rintro c st ⟨rfl,S,hx⟩;refine⟨rfl,S,?_⟩;have:=S.r.le;rw[xaj]at this;omega
    · rintro c st ⟨rfl,S,h1⟩;exact aN (q st S.b.pm S.b.nf (S.r.up (by simpa using h1)))
end TS
namespace E3
open PySem PySem.Spec PyProof.Rows L2 PySem.W
theorem Pn {a b:Str}(h:a.cps.toList=b.cps.toList):a=b:=PySem.Str.ext' (xcQ.mp h)
noncomputable def lo:D->D->Prop
 |.int i,.int j=>i<j
 |.str a,.str b=>a.cps.toList<b.cps.toList
 |_,_=>False
noncomputable def fl:D->Bool
 |.int _=>true
 |.str _=>true
 |_=>false
theorem zF {a:D}(h:lo a a):False:=by
 cases a<;>first |exact h |exact absurd h (Int.lt_irrefl _) |exact xcB _ h
theorem Kd {a b c:D}(h:lo a b)(g:lo b c):lo a c:=by
 cases a<;>cases b<;>(try exact h.elim)<;>cases c<;>(try exact g.elim)
 ·exact Int.lt_trans h g
 ·exact xef h g
theorem p7 {a b:D}{x y:List D}{c:Bool}(h:bA (a::x) (b::y)=some c):(a=b/\fl a=true/\bA x y=some c)\/(lo a b/\c=true)\/(lo b a/\c=false):=by
 cases a<;>cases b<;>(try cases h)
 ·rename_i i j;simp only[bA]at h
  by_cases e:i=j
  ·rw[xaa e]at h;exact .inl ⟨by rw[e],rfl,h⟩
  ·rw[xad e]at h
   by_cases g:i<j
   ·rw[xaW g]at h;exact .inr (.inl ⟨g,(xas h).symm⟩)
   ·rw[xaC g]at h;exact .inr (.inr ⟨show j<i by omega,(xas h).symm⟩)
 ·rename_i i j;simp only[bA]at h
  by_cases e:i=j
  ·rw[xaa e]at h;exact .inl ⟨by rw[e],rfl,h⟩
  ·rw[xad e]at h
   by_cases g:i.cps.toList<j.cps.toList
   ·rw[xaW g]at h;exact .inr (.inl ⟨g,(xas h).symm⟩)
   ·rw[xaC g]at h;refine .inr (.inr ⟨?_,(xas h).symm⟩);show j.cps.toList<i.cps.toList
    by_cases k:j.cps.toList<i.cps.toList
    ·exact k
    ·exact absurd (Pn (List.le_antisymm (xdT.mp k) (xdT.mp g))) e
theorem zG {a b:D}{x y:List D}(h:lo a b):bA (a::x) (b::y)=some true:=by
 cases a<;>cases b<;>(try exact h.elim)
 ·rename_i i j;have h:i<j:=h;simp only[bA];rw[xad (by omega),xaW h]
 ·rename_i i j;have h:i.cps.toList<j.cps.toList:=h;simp only[bA];rw[xad (fun e=>xcB _ (e ▸ h)),xaW h]
theorem DR {a b:D}{x y:List D}(h:lo b a):bA (a::x) (b::y)=some false:=by
 cases a<;>cases b<;>(try exact h.elim)
 ·rename_i i j;have h:j<i:=h;simp only[bA];rw[xad (by omega),xaC (by omega)]
 ·rename_i i j;have h:j.cps.toList<i.cps.toList:=h;simp only[bA];rw[xad (fun e=>xcB _ (e ▸ h)),xaC fun g=>xcB _ (xef h g)]
theorem lt_eq {a:D}{x y:List D}(h:fl a=true):bA (a::x) (a::y)=bA x y:=by
 cases a<;>(try cases h)<;>simp only[bA,xbF]
theorem DW {x:D}{xs:List D}{c:Bool}:bA (x::xs) []=some c->False:=by cases x<;>exact fun h=>nomatch h
theorem Km {x:D}{xs:List D}{c:Bool}:bA [] (x::xs)=some c->False:=fun h=>nomatch h
theorem Kh:∀{x:List D} {b:Bool},bA x x=some b->b=false
  | [],b,h=>(xas h).symm
  |a::x,b,h=>by
    rcases p7 h with⟨_,_,h⟩ |⟨h,_⟩ |⟨h,_⟩
    · exact Kh h
    · exact(zF h).elim
    · exact(zF h).elim
theorem DQ:∀{x y z:List D} {b:Bool},bA x y=some b->bA y z=some b->bA x z=some b
  | [],[],z,b,_,g=>g
  | [],_::_,_,_,h,_=>(Km h).elim
  |_::_,[],_,_,h,_=>(DW h).elim
  |_::_,_::_,[],_,_,g=>(DW g).elim
  |a::x,c::y,d::z,b,h,g=>by
    rcases p7 h with⟨rfl,f,h'⟩ |⟨h',rfl⟩ |⟨h',rfl⟩
    · rcases p7 g with⟨rfl,_,g'⟩ |⟨g',rfl⟩ |⟨g',rfl⟩
      · rw[lt_eq f];exact DQ h' g'
      · exact zG g'
      · exact DR g'
    · rcases p7 g with⟨rfl,_,_⟩ |⟨g',_⟩ |⟨_,e⟩
      · exact zG h'
      · exact zG (Kd h' g')
      · cases e
    · rcases p7 g with⟨rfl,_,_⟩ |⟨_,e⟩ |⟨g',_⟩
      · exact DR h'
      · cases e
      · exact DR (Kd g' h')
theorem Kg:∀{x y:List D},bA x y=some false->bA y x=some false->x=y
  | [],[],_,_=>rfl
  | [],_::_,h,_=>(Km h).elim
  |_::_,[],h,_=>(DW h).elim
  |a::x,c::y,h,g=>by
    rcases p7 h with⟨rfl,f,h⟩ |⟨_,e⟩ |⟨h,_⟩
    · rw[lt_eq f]at g;rw[Kg h g]
    · cases e
    · rw[zG h]at g;cases g
noncomputable def xQ (T:List (List D)) (x:List D):Nat:=T.countP fun y=>bA y x==some true
theorem IW {α:Type}{p q:α->Bool}:∀{l:List α} {x:α},(∀z∈l,p z=true->q z=true)->x∈l->q x=true->p x=false->l.countP p<l.countP q
  |y::l,x,h,hx,h1,h2=>by
    rw[List.countP_cons,List.countP_cons];have mo:l.countP p<=l.countP q:=xd3 fun z hz=>h z (xak _ hz);rcases xan.mp hx with rfl |hx
    · rw[h1,h2];simp only[xbF,xaK,xa4];omega
    · have ih:=IW (fun z hz=>h z (xak _ hz)) hx h1 h2;have:=h y xau
      by_cases e:p y=true
      · rw[e,this e];omega
      · rw[xad e];omega
theorem Gf {T:List (List D)}(cm:∀x∈T,∀y∈T,∃b,bA x y=some b){x y:List D}(hx:x∈T)(hy:y∈T){b:Bool}(h:bA x y=some b):b=decide (xQ T x<xQ T y):=by
  cases b with
  |true=>
    refine(xaW (IW (x:=x) (fun z _ hz=>?_) hx (by rw[h];rfl) ?_)).symm
    · rw[DQ (eq_of_beq hz) h];rfl
    · obtain⟨c,e⟩:=cm x hx x hx;rw[e,Kh e];rfl
  |false=>
    refine(xaC (xd7.mpr (xd3 fun z hz h1=>?_))).symm;obtain⟨c,e⟩:=cm z hz x hx
    cases c with
    |true=>rw[e];rfl
    |false=>
      have:=DQ e h;rw[eq_of_beq h1]at this;cases this
noncomputable def fD:Value->D
 |.int z _=>.int z
 |.str x _=>.str x
 |_=>.non
noncomputable def tD (h:Heap):Value->List D
  | .ref a => (match h.get? a with
    | some o => (match o.data with
      |.seq its _=>its.toList.map fD
      |_=>[])
    |none=>[])
  |_=>[]
section
variable {prog:Program}{w:World}{A:Around}{E:Value->Shared->Prop}{s:Shared}
theorem Z4 {a:Addr}{n:Nat}{vs:List Value}{κ:SortKind}{rv:Value->Nat}{P:PySem.Fin->Shared->Prop}(ho:s.heap.get? a=some (seqObj "list" vs.toArray n))(h2:2<=vs.length)(hz:vs.length<=sizeLine)
  (hk:∀(h':Heap) (Q':SortKind->Shared->Prop),fO a s.heap h'->Q' κ {s with heap:=h'}->wpAny (model prog w) A (keyKind' vs.toArray) Q' (fun _ _=>False) {s with heap:=h'})
  (hc:∀(h':Heap),fO a s.heap h'->∀u∈vs,∀u'∈vs,∀tk C,(∀tk,C (decide (rv u<rv u')) {s with heap:=h',toks:=tk})->wpAny (model prog w) A (keyLt' κ u u') C (fun _ _=>False) {s with heap:=h',toks:=tk})
  (q:∀(h':Heap) tk c (us:List Value),us.Perm vs->us.Pairwise (fun u u'=>rv u<=rv u')->fO a s.heap h'->h'.get? a=some (seqObj "list" us.toArray c)->P (.done (.ret .none)) {s with heap:=h',toks:=tk}):
  wpAny (model prog w) A (Builtin.«list.sort» ⟨[.ref a],[]⟩) P E s:=by
 have st:=Kr s.heap a vs;obtain⟨e1,z1⟩:∃e1,(s.heap.update a (Obj.mapSeq fun _=>(#[]:Array Value))).get? a=some (seqObj "list" #[] e1):=⟨_,xc2 ho fun _=> #[]⟩;have z2:(fW s.heap a vs).get? a=some (seqObj "list" #[] e1):=xai _ (xai _ z1);rw[list_sort_plain];refine tG (listItems_at ho rfl (tG (xdk ho rfl (tG (seqEpoch_at z1 rfl (tG (wpAny_newTuple (tG (xdl (xb0 ?_) (xa8 _))) hz)))) (by simpa using hz) (xa8 _))));show wpAny (model prog w) A _ P E {s with heap:=fW s.heap a vs};dsimp only;have two:¬ vs.toArray.size<2:=by simpa using h2
 rw[xad two,xad two];generalize fW s.heap a vs=h1 at st z2 ⊢;have kind:=hk h1 (fun κ' s'=>κ'=κ/\s'={s with heap:=h1}) st ⟨rfl,rfl⟩;refine tG (xaR kind (fun κ' s0 z=>?_) fun _ _ x=>x.elim);obtain⟨rfl,rfl⟩:=z;have mz:∀x∈vs.toArray.zip vs.toArray,x.1=x.2/\x.1∈vs:=fun x hx=>by
  have hx:x∈vs.zip vs:=by simpa using xa6.mpr hx
  obtain⟨i,hi,e⟩:=xb9 hx;rw[List.getElem_zip]at e;subst e;exact⟨rfl,xbk _⟩
 have run := TS.UJ (prog := prog) (w := w) (A := A) (E := E) (R := fun s' => ∃ tk, s' = { s with heap := h1, toks := tk }) (κ := κ') (a := vs.toArray.zip vs.toArray) (rk := fun x => rv x.1) (fun x y hx hy s' r=>by
  obtain⟨tk,rfl⟩:=r;exact hc h1 st _ (mz x hx).2 _ (mz y hy).2 tk _ fun tk'=>⟨⟨tk',rfl⟩,rfl⟩) (P:=fun _ st'=>(arrOf st').Perm (vs.toArray.zip vs.toArray)/\failedOf st'=none/\TS.Up (TS.vv (fun x=>rv x.1) (arrOf st')) 0 (vs.toArray.zip vs.toArray).size) (fun st' a b c=>⟨a,b,c⟩) {s with heap:=h1} ⟨s.toks,rfl⟩
 refine tG (xaR run ?_ fun _ _ e=>e);rintro⟨⟨⟩,st'⟩ s' ⟨⟨tk,rfl⟩,hp,hf,hu⟩;dsimp only;have hp2:((arrOf st').toList.map (·.2)).Perm vs:=by
  have e:((vs.toArray.zip vs.toArray).toList.map (·.2))=vs:=by rw[Array.toList_zip];exact List.map_snd_zip (xab _)
  exact((xdr hp).map _).trans (List.Perm.of_eq e)
 have dg:∀x∈(arrOf st').toList,x.1=x.2:=fun x hx=>(mz x (hp.mem_iff.mp (xa6.mp hx))).1;have sz:(vs.toArray.zip vs.toArray).size=(arrOf st').size:=hp.size_eq.symm;have hs2:((arrOf st').toList.map (·.2)).Pairwise fun u u'=>rv u<=rv u':=by
  rw[xbK,xbH];intro i j hi hj hij;rw[xaj]at hi hj;have:=hu i j (xa8 _) (by omega) (by omega);rw[TS.cY hi,TS.cY hj]at this;rw[<-dg _ (xbk _), <-dg _ (xbk _)];exact this
 have ea:(arrOf st').map (·.2)=((arrOf st').toList.map (·.2)).toArray:=by
  apply xcQ.mp;rw[Array.toList_map]
 rw[ea];generalize (arrOf st').toList.map (·.2)=us at hp2 hs2;have hl:=hp2.length_eq;obtain⟨c2,z3⟩:∃c2,(h1.update a (Obj.mapSeq fun _=>us.toArray)).get? a=some (seqObj "list" us.toArray c2):=⟨_,xc2 z2 fun _=>us.toArray⟩;refine tG (seqEpoch_at z2 rfl (tG (xdk z2 rfl ?_ (xa8 _) (by rw[xah,hl];exact xcG hz))));rw[hf];simp only[xer,xaK,xa4];exact xac (q _ tk c2 us hp2 hs2 (fun b o nb e=>fO.upd h1 a _ b o nb (st b o nb e)) z3)
theorem Z8 {l:Addr}{vs:List Value}{κ:SortKind}{rv:Value->Nat}{Q:Value->Shared->Prop}(hl:s.heap.IsList l vs.toArray)(h2:2<=vs.length)(hz:vs.length<=sizeLine)
  (hk:∀(h':Heap) (Q':SortKind->Shared->Prop),Grows s.heap h'->Q' κ {s with heap:=h'}->wpAny (model prog w) A.in1.in1 (keyKind' vs.toArray) Q' (fun _ _=>False) {s with heap:=h'})
  (hc:∀(h':Heap),Grows s.heap h'->∀u∈vs,∀u'∈vs,∀tk C,(∀tk,C (decide (rv u<rv u')) {s with heap:=h',toks:=tk})->wpAny (model prog w) A.in1.in1 (keyLt' κ u u') C (fun _ _=>False) {s with heap:=h',toks:=tk})
  (q:∀(h':Heap) tk c a (us:List Value),us.Perm vs->us.Pairwise (fun u u'=>rv u<=rv u')->Grows s.heap h'->s.heap.objs.size<=a->h'.get? a=some (seqObj "list" us.toArray c)->Q (.ref a) {s with heap:=h',toks:=tk}):
  wpAny (model prog w) A (call (.builtin "sorted") [.ref l]) Q E s:=by
 have up:∀h',fO (s.heap.objs.size + 1) (dZ s.heap vs) h'->Grows s.heap h':=fun h' st b o e=>st b o (xaD (xcl (xam e))) (I_ s.heap vs b o e);refine xdw kind_sorted plain_sorted entry_sorted (args_sorted1 _) ?_;unfold Builtin.«sorted»;refine tG (m:=checkCount "sorted" 1 1 _) (xac (tG (collect_list hl (tG (xdl ?_ hz)) (by simpa using hz))));rw[yW];show wpAny _ _ _ _ _ {s with heap:=dZ s.heap vs};refine tG (xb0 (xbR slot_list_sort ⟨_,yV s.heap vs,rfl⟩ entry_list_sort (Z4 (s:={s with heap:=dZ s.heap vs}) (yV s.heap vs) h2 hz (fun h' Q' st=>hk h' Q' (up h' st)) (fun h' st=>hc h' (up h' st)) fun h' tk c us hp hs st e=>?_) (args_list_sort _)));exact⟨_,rfl,xac ⟨_,rfl,q h' tk c _ us hp hs (up h' st) (xch _) e⟩⟩
end
noncomputable def tupS:D->Bool
 |.tup (.str _::_)=>true
 |_=>false
noncomputable def nP:D->D->Prop
 |.tup x,.tup y=>bA y x=some false
 |_,_=>False
def mR (ds:List D):Prop:=(ds.all tupI=true\/ds.all tupS=true)/\∀xs ys,.tup xs∈ds->.tup ys∈ds->∃b,bA xs ys=some b
theorem RZ {a b:D}(h:nP a b)(g:nP b a):a=b:=by
 cases a<;>(try exact h.elim)<;>cases b<;>(try exact h.elim)
 rw[Kg g h]
theorem mR.tup {ds:List D}(h:mR ds):∀d∈ds,∃xs,d=.tup xs:=fun d hd=>by
 rcases h.1 with h |h<;>have:=xaY.mp h d hd<;>cases d<;>first |exact⟨_,rfl⟩ |(cases this)
theorem mR.perm {ds es:List D}(h:mR ds)(p:es.Perm ds):mR es:=by
 refine⟨h.1.imp (fun z=>xaY.mpr fun d hd=>xaY.mp z d (p.mem_iff.mp hd)) (fun z=>xaY.mpr fun d hd=>xaY.mp z d (p.mem_iff.mp hd)),fun xs ys hx hy=>h.2 xs ys (p.mem_iff.mp hx) (p.mem_iff.mp hy)⟩
theorem Ju:∀{x:List D} {b:Bool},bA x x=some b->∀d∈x,fl d=true
  | [],_,_=>fun d hd=>nomatch hd
  |a::x,b,h=>by
    rcases p7 h with⟨_,f,h'⟩ |⟨h',_⟩ |⟨h',_⟩
    · intro d hd;rcases xan.mp hd with rfl |hd
      · exact f
      · exact Ju h' d hd
    · exact(zF h').elim
    · exact(zF h').elim
section
variable {X:Cx}{Wx:XW}{pins:Pnx}{σ:L2.St}{H:Hp}{s:Shared}
theorem Js {K:Fgx}{P:Pl}{H:Hp}:∀{xs:List D} {vs:List V} {us:List Value},(∀d∈xs,fl d=true)->au K P H xs vs->Vals vs us->us.map fD=xs
  | [],vs,us,_,i,r=>by
    rw[show vs=[] from i]at r;cases r;rfl
  |d::xs,vs,us,hf,i,r=>by
    obtain⟨v,vr,rfl,p,i⟩:=i
    cases r with
    |cons a r=>
      have f:=hf d xau;rw[xay,Js (fun e he=>hf e (xak _ he)) i r];congr 1;cases d<;>(try cases f)
      · cases p;obtain⟨t,rfl⟩:=a;rfl
      · cases p;obtain⟨t,rfl⟩:=a;rfl
theorem zbV {P:Pl}(I:Inv X pins σ H s){h':Heap}(g:Grows s.heap h'){xs:List D}{v:V}{u:Value}(i:Is X.K P H (.tup xs) v)(r:RelV v u){b:Bool}(hb:bA xs xs=some b):tD h' u=xs:=by
 obtain⟨a,o,its,n,ws,rfl,e1,e2,e3,is,rv⟩:=Bd I g i r;unfold tD;dsimp only;rw[e1];dsimp only;rw[e3];exact Js (Ju hb) is rv
theorem GK {P:Pl}(I:Inv X pins σ H s){h':Heap}(g:Grows s.heap h'):∀{ds:List D} {vs:List V} {us:List Value},(∀d∈ds,∃xs b,d=.tup xs/\bA xs xs=some b)->au X.K P H ds vs->Vals vs us->ds=us.map fun u=>.tup (tD h' u)
  | [],vs,us,_,i,r=>by
    rw[show vs=[] from i]at r;cases r;rfl
  |d::ds,vs,us,hf,i,r=>by
    obtain⟨v,vr,rfl,p,i⟩:=i
    cases r with
    |cons a r=>
      obtain⟨xs,b,rfl,hb⟩:=hf d xau;rw[xay, <-GK I g (fun e he=>hf e (xak _ he)) i r,zbV I g p a hb]
theorem VD {K:Fgx}{P:Pl}{H:Hp}{us us':List Value}(p:us'.Perm us):∀{ds:List D} {vs:List V},au K P H ds vs->Vals vs us->∃ds' vs',ds'.Perm ds/\au K P H ds' vs'/\Vals vs' us':=by
  induction p with
  |nil=>exact fun {ds vs} i r=>⟨ds,vs,xd0 _,i,r⟩
  |cons x p ih=>
    intro ds vs i r
    cases r with
    |cons a r=>
      cases ds with
      |nil=>cases i
      |cons d ds=>
        obtain⟨v,vr,e,p,i⟩:=i;cases e;obtain⟨ds',vs',p',i',r'⟩:=ih i r;exact⟨d::ds',_::vs',p'.cons d,⟨_,_,rfl,p,i'⟩,.cons a r'⟩
  |swap x y l=>
    intro ds vs i r
    cases r with
    |cons a r=>
      cases r with
      |cons b r=>
        cases ds with
        |nil=>cases i
        |cons d ds=>
          obtain⟨v,vr,e,p,i⟩:=i;cases e
          cases ds with
          |nil=>cases i
          |cons d2 ds=>
            obtain⟨v2,vr2,e,p2,i⟩:=i;cases e;exact⟨d2::d::ds,_,List.Perm.swap _ _ _,⟨_,_,rfl,p2,_,_,rfl,p,i⟩,.cons b (.cons a r)⟩
  |trans p1 p2 ih1 ih2=>
    intro ds vs i r;obtain⟨ds',vs',p',i',r'⟩:=ih2 i r;obtain⟨ds2,vs2,p3,i3,r3⟩:=ih1 i' r';exact⟨ds2,vs2,p3.trans p',i3,r3⟩
theorem Nq {P:Pl}(I:Inv X pins σ H s){h':Heap}(g:Grows s.heap h'):∀(ds:List D) (vs:List V) (us:List Value),ds.all tupS=true->au X.K P H ds vs->Vals vs us->∃fs,KatTups h' us fs/\fs.length=us.length/\∀f∈fs,∃i t,f=Value.str i t
  | [],vs,us,_,i,r=>by
    rw[show vs=[] from i]at r;cases r;exact⟨[],KatTups.nil,rfl,fun f h=>nomatch h⟩
  |d::ds,vs,us,hd,i,r=>by
    obtain⟨v,vr,rfl,p,i⟩:=i;rw[xb1,xav]at hd
    cases r with
    |cons a1 r=>
      obtain⟨fs,k,kl,kf⟩:=Nq I g ds _ _ hd.2 i r
      cases d with
      |tup xs=>
        cases xs with
        |nil=>cases (show false=true from hd.1)
        |cons x xs=>
          cases x with
          |str z=>
            obtain⟨a,o,its,n,ws,rfl,e1,e2,e3,is,rv⟩:=Bd I g p a1;obtain⟨w,wr,rfl,pw,is⟩:=is;cases pw;obtain⟨its⟩:=its
            cases rv with
            |cons b1 rv=>
              obtain⟨t,rfl⟩:=b1;refine⟨.str z t::fs,KatTups.cons e1 e2 e3 rfl k,by simp[kl],fun f hf=>?_⟩;rcases xan.mp hf with rfl |hf
              · exact⟨z,t,rfl⟩
              · exact kf f hf
          |_=>cases (show false=true from hd.1)
      |_=>cases (show false=true from hd.1)
def Xr (K:Fgx):List V->Hp->VK->Prop:=fun xs H Q=>∃(P:Pl) (a:Addr) (vs:List V) (ds:List D),xs=[.ref a]/\bC K H a vs/\au K P H ds vs/\2<=ds.length/\mR ds/\
 ∀l es vs',es.Perm ds->es.Pairwise nP->au K P H es vs'->H l=none->Q (.ref l) (upd H l (.lst vs'))
theorem O6:cZ X (.builtin "sorted") (Xr X.K):=by
 intro pins s σ H xs us Q I r h;obtain⟨P,a,vs,ds,rfl,hl,is,h2,ok,q⟩:=h;obtain⟨u,rfl,rx⟩:=vals1 r;cases rx;obtain⟨its,rv,pl,hz⟩:=I.list hl;have l1:its.length=ds.length:=by rw[<-rv.length,is.len]
 have fla:∀d∈ds,∃xs b,d=.tup xs/\bA xs xs=some b:=fun d hd=>by
  obtain⟨xs,rfl⟩:=ok.tup d hd;obtain⟨b,hb⟩:=ok.2 xs xs hd hd;exact⟨xs,b,rfl,hb⟩
 have g0:Grows s.heap s.heap:=fun _ _ e=>e;have e0:=GK I g0 fla is rv;generalize hT:its.map (tD s.heap)=T;have inT:∀{u},u∈its->tD s.heap u∈T:=fun hu=>by rw[<-hT];exact xbQ hu
 have ofT:∀x∈T,D.tup x∈ds:=fun x hx=>by
  rw[<-hT]at hx;obtain⟨u,hu,rfl⟩:=xaB.mp hx;rw[e0];exact xbQ (f:=fun u=>D.tup (tD s.heap u)) hu
 have cm:∀x∈T,∀y∈T,∃b,bA x y=some b:=fun x hx y hy=>ok.2 x y (ofT x hx) (ofT y hy);have item:∀{h':Heap},Grows s.heap h'->∀u∈its,∃a o t n w,u=.ref a/\h'.get? a=some o/\o.data=.seq t n/\au X.K P H (tD s.heap u) w/\Vals w t.toList:=fun {h'} g u hu=>by
  obtain⟨i,hi,rfl⟩:=xb9 hu;have ed:ds[i]? =some (.tup (tD s.heap its[i])):=by rw[e0,xar,xaf hi];rfl
  obtain⟨v,ev,iv⟩:=is.get ed;have rr:RelV v its[i]:=by
   have:=zaq rv i;rw[xa5,xa5,ev,xaf hi]at this;exact this
  obtain⟨a1,o1,t1,n1,w1,e1,f1,f2,f3,f4,f5⟩:=Bd I g iv rr;exact⟨a1,o1,t1,n1,w1,e1,f1,f3,f4,f5⟩
 refine Z8 (κ:=tuples' true) (rv:=fun u=>xQ T (tD s.heap u)) pl.isList (by omega) (by rw[<-rv.length];exact hz) (fun h' Q' g hq=>?_) (fun h' g u hu u' hu' tk C hC=>?_) fun h' tk c D' us hp hs g hD eD=>?_
 ·rcases ok.1 with ht |ht
  ·obtain ⟨fs, k, kl, kf⟩ := Np I g ds vs its ht is rv;exact kat_kind (T := .type "int") k (by omega) (fun f hf=>by
    obtain⟨i,t,rfl⟩:=kf f hf;intro A Q E s _ q;exact xac q) (by x_go) hq
  ·obtain ⟨fs, k, kl, kf⟩ := Nq I g ds vs its ht is rv;exact kat_kind (T := .type "str") k (by omega) (fun f hf=>by
    obtain⟨i,t,rfl⟩:=kf f hf;intro A Q E s _ q;exact xac q) (by x_go) hq
 ·obtain⟨b,hb⟩:=cm _ (inT hu) _ (inT hu');have eb:=Gf cm (inT hu) (inT hu') hb;obtain⟨a1,o1,t1,n1,w1,e1,f1,f3,f4,f5⟩:=item g u hu;obtain⟨a2,o2,t2,n2,w2,e2,g1,g3,g4,g5⟩:=item g u' hu';generalize tD s.heap u=x at hb eb f4 hC;generalize tD s.heap u'=y at hb eb g4 hC;rw[e1,e2];refine kat_lt (s:={s with heap:=h',toks:=tk}) f1 f3 g1 g3 (Ka (b:=b) (by rw[eb];exact hC tk) x y w1 w2 _ _ 0 f4 g4 f5 g5 hb fun z=>?_);simp only[xaj]at z
  simp[z]
 ·obtain⟨es,vs',p',i',r'⟩:=VD hp is rv;have ok':=ok.perm p';have e1:=GK I g0 (fun d hd=>fla d (p'.mem_iff.mp hd)) i' r';have hsd:es.Pairwise nP:=by
   rw[e1,xbK];refine hs.imp_of_mem fun {u u'} hu hu' hle=>?_;have m1:=inT (hp.mem_iff.mp hu);have m2:=inT (hp.mem_iff.mp hu');obtain⟨b,hb⟩:=cm _ m2 _ m1;have eb:=Gf cm m2 m1 hb;rw[xaC (xd7.mpr hle)]at eb;rw[eb]at hb;exact hb
  have hlen:vs'.length<=sizeLine:=by
   rw[i'.len,p'.length_eq, <-is.len];exact hz
  exact⟨.ref D',_,I.laid (o:=.lst vs') g hD ⟨hlen,_,c,r',eD⟩,rfl,q D' es vs' p' hsd i' (I.hok.fresh hD)⟩
noncomputable def nY (ds:List D):Option (List D):=if ds.length<2 then some ds else @dite _ (mR ds/\∃es:List D,es.Perm ds/\es.Pairwise nP) (Classical.propDecidable _) (fun h=>some (Classical.choose h.2)) fun _=>none
noncomputable def rG (f:E):E:=fun env M=>bnd (f env M) fun d M1=>match vw M1 d with
 |.lst ds=>(nY ds).map fun es=>(.v (.lst es),M1)
 |_=>none
theorem ZW {e:Expr}{f:E}{p pos:Pos}(hg:Gl X "sorted")(hm:X.mg "sorted"=none)(he:SE X Wx .bor e f)(hs:starEach [e] X.env=(false,eval e X.env)::starEach [] X.env:=by rfl):SN X Wx (.Call (.Name "sorted" p) [e] [] pos) (rG f):=by
 refine b_ (Ey (Ox.or O6) hg hm boot_sorted (lN he nR hs) (by x_go) (by x_go) hs rfl) ?_;rintro st H Q ⟨P0,H0,P,Os,env,M,r,M',k,e,q⟩;unfold rG at e;rcases bU e with⟨d,M1,e1,e⟩ |⟨c,n,e1,rfl⟩
 ·refine aY k e1 fun P1 v1 H1 l1 h1 i1=>?_;have iw:=bQ.vw h1 i1;split at e
  ·rename_i ds ev;rw[xag]at e;obtain⟨es,ez,e⟩:=e;cases e;obtain⟨ds',e',q⟩:=q;cases e';rw[ev]at iw;obtain⟨a,vs,rfl,sq,is⟩:=iw;have fin:∀ws,au X.K P1 H1 es ws->∀l,H1 l=none->Q (.ref l) (upd H1 l (.lst ws)):=fun ws iws l hl=>by
    obtain⟨l2,h2,nc⟩:=pI (vs:=ws) h1 hl;exact q (P1.bar l) l ws _ (l1.trans l2) h2 (l1.sure l hl) (.inr rfl) nc cN (au.lt (l2.lt h1) iws)
   unfold nY at ez;split at ez
   ·rename_i hlt;cases ez;exact .inl ⟨a,vs,rfl,sq,by rw[is.len];exact hlt,fin vs is⟩
   ·split at ez
    ·rename_i h2 h3;have sp:=xd4 h3.2;rw[xas ez]at sp;refine .inr ⟨P1,a,vs,ds,rfl,sq,is,by omega,h3.1,fun l es' vs' p' s' i' hl=>?_⟩;have ee:es'=es:=List.Perm.eq_of_pairwise (fun a b _ _=>RZ) s' sp.2 (p'.trans sp.1.symm);subst ee;exact fin vs' i' l hl
    ·cases ez
  ·cases e
 ·exact aY k e1 q
theorem Z1 {ds:List D}(h:mR ds):∃es,nY ds=some es/\es.Perm ds/\es.Pairwise nP:=by
  unfold nY
  split
  · rename_i h2;refine⟨ds,rfl,xd0 _,?_⟩
    match ds,h2 with
    | [],_=>exact .nil
    | [d],_=>exact xdM _ _
  · let un:D->List D:=fun d=>match d with |.tup x=>x |_=>[]
    have hun:∀d∈ds,d=.tup (un d):=fun d hd=>by
      obtain⟨xs,rfl⟩:=h.tup d hd;rfl
    have cm:∀x∈ds.map un,∀y∈ds.map un,∃b,bA x y=some b:=fun x hx y hy=>by
      obtain⟨d,hd,rfl⟩:=xaB.mp hx;obtain⟨e,he,rfl⟩:=xaB.mp hy;exact h.2 _ _ (hun d hd ▸ hd) (hun e he ▸ he)
    let le:D->D->Bool:=fun a b=>decide (xQ (ds.map un) (un a)<=xQ (ds.map un) (un b))
    have hp := List.mergeSort_perm ds le;have hs := List.pairwise_mergeSort (le := le) (fun a b c h1 h2 => xaW (xao (xbq h1) (xbq h2))) (fun a b=>by
      simp only[le,Bool.or_eq_true,xbc];exact Nat.le_total _ _) ds
    have ex : ∃ es : List D, es.Perm ds /\ es.Pairwise nP := ⟨_,hp,hs.imp_of_mem fun {a b} ha hb hle=>by
      have m1:=hp.mem_iff.mp ha;have m2:=hp.mem_iff.mp hb;obtain⟨c,hc⟩:=cm _ (xbQ m2) _ (xbQ m1);have ec:=Gf cm (xbQ m2) (xbQ m1) hc;rw[xaC (xd7.mpr (xbq hle))]at ec;rw[ec]at hc;rw[hun a m1,hun b m2];exact hc⟩
    rw[dif_pos ⟨h,ex⟩];exact⟨_,rfl,xd4 ex⟩
theorem Z6 {f:E}:∀env M r M',rG f env M=some (.v r,M')->∃ds,r=.lst ds:=fun env M r M' e=>by
 unfold rG at e;rcases bU e with⟨ds,M1,e1,e⟩ |⟨c,n,e1,e⟩
 ·split at e
  ·rw[xag]at e;obtain⟨es,_,e⟩:=e;cases e;exact⟨_,rfl⟩
  ·cases e
 ·cases e
end
end E3
namespace L2
open PySem PySem.Spec PyProof.Rows
end L2
namespace E3
open PySem PySem.Spec PyProof.Rows L2 PySem.W
structure DefAtD (K:Fgx)(mg:Mgx)(x:Str)(st:Stmt)(ps:List Str)(dd:List D)(f:Addr)(fd:FuncData):Prop where
 mg:mg x=some (.ref f)
 F:FunD K x x st f fd
 b:Binds K fd ps []
 bd:∃(dv:List V) (du:List Value),Binds K fd ps du/\Vals dv du/\(∀P H,au K P H dd dv)/\dv.length=dd.length
section
variable {P:Program}{w:World}{K:Fgx}{mg:Mgx}{base:Heap}{k:Nat}{x:Str}{st:Stmt}{f:Addr}{fd:FuncData}{N ps:List Str}{b:S}{dd:List D}
theorem DefAtD.ok (D:DefAtD K mg x st ps dd f fd)(S:FnScope N ps (aR st))(hr:RT P w K mg base k f N x st b)(hp:ps.length<=N.length:=by decide):bx P w K mg base (k + 1) x ps.length (cL N.length b):=
 DefAt.ok ⟨D.mg,D.F,D.b⟩ S hr hp
end
section
variable {M:Mm}{env:Env}{f:E}{fs:EA}{ds es:List D}
noncomputable def rM (M:Mm):D->O
 |.lst ds=>mapR M ((nY ds).map .lst)
 |_=>none
theorem Xj:rG f env M=dY (fun d M1=>rM M1 (vw M1 d)) (f env M):=by
  unfold rG dY bnd
  cases f env M with
  |none=>rfl
  |some p=>obtain⟨r,M'⟩:=p;cases r with
    |x c n=>rfl
    |v d=>
      dsimp only;unfold rM;cases vw M' d<;>try rfl
      dsimp only;cases nY _<;>rfl
theorem YJ (h:nY ds=some es):rM M (.lst ds)=some (.v (.lst es),M):=by show mapR M ((nY ds).map D.lst)=_;rw[h];rfl
end
end E3
namespace L2
open PySem PySem.Spec PyProof.Rows
noncomputable def vI (K : Fgx) (C f : Addr) (me : Str) : Bool := PySem.W.specialIn K (.ref C) "__getattribute__" == some (some (.builtin "type.__getattribute__")) && (match PySem.W.typeIn K (.ref C) with
  | some mc => PySem.W.readsIn K C mc && (match PySem.W.findCls K (.ref C) mc me with
    |some (.val (.ref g))=>g==f
    |_=>false)
  |none=>false) && PySem.W.handedIn (.ref f) && PySem.W.keepIn K (.ref f)
end L2
namespace E3
open PySem PySem.Spec PyProof.Rows L2
def n_ (P:Program)(w:World)(K:Fgx)(mg:Mgx)(base:Heap)(k:Nat)(c me:Str)(n:Nat)(g:G):Prop:=
 ∃C fa fd ps ds dvs sp,mg c=some (.ref C)/\vI K C fa me=true/\FnOk P w K mg base fH k fa fd ps sp/\Binds K fd ps ds/\Vals dvs ds/\∀vs H Q E,lV K mg n g vs H Q E->sp (vs ++ dvs) H Q E
theorem n_.mono {P:Program}{w:World}{K:Fgx}{mg:Mgx}{base:Heap}{c me:Str}{k j n:Nat}{g:G}(a:n_ P w K mg base j c me n g)(h:j<=k):n_ P w K mg base k c me n g:=by
 obtain⟨C,fa,fd,ps,ds,dvs,sp,h1,h2,h3,h4⟩:=a;exact⟨C,fa,fd,ps,ds,dvs,sp,h1,h2,h3.mono h,h4⟩
theorem n_.up {P:Program}{w:World}{K:Fgx}{mg:Mgx}{base:Heap}{c me:Str}{k j n:Nat}{g:G}(a:n_ P w K mg base j c me n g)(h:j<=k:=by decide):n_ P w K mg base k c me n g:=a.mono h
structure BasAt (K:Fgx)(C:Addr)(q:Str)(st:Stmt)(ps:List Str)(f:Addr)(fd:FuncData):Prop where
 bs:vI K C f "__init__"=true
 F:FunD K "__init__" q st f fd
 b:Binds K fd ps []
theorem BasAt.ok {P:Program}{w:World}{K:Fgx}{mg:Mgx}{base:Heap}{k:Nat}{c:Str}{C:Addr}{q:Str}{st:Stmt}{f:Addr}{fd:FuncData}{N ps:List Str}{b:S}(D:BasAt K C q st ps f fd)(hm:mg c=some (.ref C))(S:FnScope N ps (aR st))(hr:RT P w K mg base k f N q st b)(hp:ps.length<=N.length:=by decide):n_ P w K mg base (k + 1) c "__init__" ps.length (cL N.length b):=
 ⟨C,f,fd,ps,[],[],_,hm,D.bs,Df D.F S hp hr,D.b,.nil,fun vs H Q E h=>by rw[xaL];exact h⟩
section
variable {X:Cx}{Wx:XW}{m:Mode}{pos:Pos}
structure OwnTo (K:Fgx)(C B:Addr):Prop where
 ca:PySem.W.findIn K (.ref C) "__class__"=some (some (.builtin "object.__class__"))
 gt:PySem.W.specialIn K (.builtin "object.__class__") "__get__"=some (some (.builtin "getset_descriptor.__get__"))
 tk:PySem.W.takesIn K (.builtin "object.__class__")=some true
 mr:PySem.W.mroIn K C (.type "object")=some true
 me:PySem.W.kitOne K (.ref C) (.ref B)=some true
end
end E3
namespace L2
open PySem PySem.Spec PyProof.Rows
section
variable {prog:Program}{w:World}{A:Around}{E:Value->Shared->Prop}{s:Shared}{K:Type}[DecidableEq K]{knd:HeapKind prog w K}
theorem Zh {d a:Addr}{xs:List (K×Addr×Value)}{k:K}{v:Value}{Q:Value->Shared->Prop}(hu:knd.room A)(hkey:knd.is s.heap k a)(hm:s.heap.DictOfH knd d xs)
  (h1:∀p,atKey xs k=some p->Q p.2 {s with toks:=s.toks + knd.draws k})
  (h2:atKey xs k=none->∀h',h'.DictOfH knd d (storedH xs k a v)->Heap.SameBut d s.heap h'->Q v {s with heap:=h',toks:=s.toks + knd.draws k}) (hsz:xs.length<=sizeLine):
  wpAny (model prog w) A (dictSetDefault d (.ref a) v) Q E s:=by
 obtain⟨o,es,ep,ho,hc,hd,he,his,hn⟩:=hm;unfold dictSetDefault;refine xb0 (tG (knd.pyHash hu hkey (tG (wpAny_dictFind_heap (s:={s with toks:=s.toks + knd.draws k}) hu hkey ho hd he his hn (fun hno=>?_) fun j p hj=>?_))))
 ·have nk:k∉xs.map (·.1):=not_mem_keys_of_get hno;have st:=storedH_new (atKey_none_of_get hno) a v;have q2:=h2 (atKey_none_of_get hno);rw[st]at q2;refine tG (xdx (tG (wpAny_updateDictKeys (hz:=by have e:=xc4 he;omega) (s:={s with toks:=s.toks + knd.draws k}) ho hd (xac (q2 _ ⟨_,_,ep + 1,xbZ _ ho (Obj.isFreed_of_dict (Obj.data_mapDictKeys hd _)),hc.mapDictKeys _,Obj.data_mapDictKeys hd _,?_,fun x hx=>?_,?_⟩ (xbO ..))))))
  ·simp[he,entryOfKey]
  ·rcases xaI.mp hx with hx |hx
   ·exact knd.keeps (his x hx) ho hd (xbO ..)
   ·cases xaz.mp hx;exact knd.keeps hkey ho hd (xbO ..)
  ·rw[xaP,xds];refine⟨hn,by simp,fun x hx y hy e=>nk ?_⟩;have h3:y=k:=by simpa using hy
   rw[<-h3, <-e];exact hx
 ·refine tG (xcH (s:={s with toks:=s.toks + knd.draws k}) ho hd ?_);rw[entry_at he j,hj];exact tG (xdx (xac (h1 p (atKey_of_get hn hj))))
theorem Zi (knd : HeapKind prog w K) (d a : Addr) (hd : (d == sysModules) = false) (v : Value) : MeetsIn prog w (Builtin.«dict.setdefault» ⟨[.ref d, .ref a, v], []⟩) (fun A R s=>knd.room A.in1/\∃k xs,knd.is s.heap k a/\s.heap.DictOfH knd d xs/\xs.length<=sizeLine/\
  (∀p,atKey xs k=some p->R (.ok (.ret p.2)) {s with toks:=s.toks + knd.draws k})/\(atKey xs k=none->∀h',h'.DictOfH knd d (storedH xs k a v)->Heap.SameBut d s.heap h'->R (.ok (.ret v)) {s with heap:=h',toks:=s.toks + knd.draws k})):=
 .of_wp fun A R s ⟨hu,k,xs,hk,hm,hz,h1,h2⟩=>by
  unfold Builtin.«dict.setdefault» Builtin.Dict.keyAndDefault;refine tG (tG (wpAny_notOrdered_dict hm.typeIs ?_));show wpAny _ _ (pure (d,Value.ref a,some v)) _ _ s;refine xac ?_;show wpAny _ _ (if (d==sysModules)=true then _ else(dictSetDefault d (.ref a) v >>=_)) _ _ s
  rw[hd,xad xap];exact tG (Zh hu hk hm (fun p hp=>xac ⟨p.2,rfl,h1 p hp⟩) (fun hn h' dd hs=>xac ⟨v,rfl,h2 hn h' dd hs⟩) hz)
end
section
variable {X:Cx}
theorem RD {H:Hp}{kvs:List (List Key×V)}{xs:List (List Key×Addr×Value)}(r:KT H kvs xs){k:List Key}(h:atKey xs k=none):bK kvs k=none:=by
 have:=r.val k;rw[h]at this
 cases e:bK kvs k with
 |none=>rfl
 |some v=>rw[e]at this;exact(show False from this).elim
theorem RG {H:Hp}{kvs:List (List Key×V)}{xs:List (List Key×Addr×Value)}(r:KT H kvs xs){k:List Key}{p:Addr×Value}(h:atKey xs k=some p):∃v,bK kvs k=some v/\RelV v p.2:=by
 have:=r.val k;rw[h]at this
 cases e:bK kvs k with
 |none=>rw[e]at this;exact(show False from this).elim
 |some v=>rw[e]at this;exact⟨v,rfl,this⟩
theorem SM (hu:X.A.units + 1<cLine):yL X "dict.setdefault" (fun x xs H Q=>∃a b kvs k v,x=.ref a/\xs=[.ref b,v]/\H b=some (.tup (List.map kV k))/\H a=some (.dT kvs)/\kvs.length<sizeLine/\(∀y,bK kvs k=some y->Q y H)/\(bK kvs k=none->Q v (upd H a (.dT (putK kvs k v))))):=by
 intro pins s σ H x xs v us Q I rx r h;obtain⟨a,b,kvs,k,w,rfl,rfl,eb,e,l,q1,q2⟩:=h;cases rx;obtain⟨u1,u2,rfl,r1,r2⟩:=vals2 r;cases (show u1=Value.ref b from r1);obtain⟨z,hd,ys,rel,dd⟩:=PL I.hok e;have hz:ys.length<=sizeLine:=by rw[<-xcq rel];exact z
 refine call_meetsIn xc8 dd.typeIs PySem.F.entry_dict_setdefault (PySem.F.args_dict_setdefault_3 _ _ _) (Zi (tupleKind (f9 X.prog X.w)) a b hd u2) ⟨tupleKind_room_in1 hu,k,ys,J0 I.hok eb,dd,hz,fun p hp=>?_,fun hn h' dd' hs=>?_⟩
 ·obtain⟨y,hy,ry⟩:=RG rel hp;exact⟨y,H,I.tok _,ry,q1 y hy⟩
 ·have hl:(putK kvs k w).length<=sizeLine:=by have:=R3 kvs k w;omega
  obtain⟨q,es,ep,hq,g2,g3,g4,_,g5⟩:=dd';refine⟨w,upd H a (.dT (putK kvs k w)),Pu I (by rw[e];exact True.intro) hs ⟨q,hq⟩ ⟨hl,hd,_,(rel.put k eb r2).keeps fun c ys ec=>?_,q,es,ep,hq,g2,g3,g4,g5⟩,r2,q2 (RD rel hn)⟩;rw[bw (Kw ec e (fun z=>nomatch z))]
  exact ec
end
section
variable {prog:Program}{w:World}{A:Around}{E:Value->Shared->Prop}{s:Shared}
theorem Tf {it d:Addr}{i n ep:Nat}{od:Obj}{es:Array DictEntry}{Q:Option Value->Shared->Prop}(hit:s.heap.IsKeyIter it d i n ep)(hod:s.heap.get? d=some od)(hdd:od.data=.dict es ep)(hn:es.size=n)(hl:i<es.size)
  (hQ:∀h',h'.IsKeyIter it d (i + 1) n ep->Heap.SameBut it s.heap h'->Q (some es[i].key) {s with heap:=h'}):wpAny (model prog w) A (pyNext (.ref it)) Q E s:=by
 obtain⟨o,ho,hc,hd⟩:=id hit;have nr:¬ ((Value.ref d==Value.none)=true):=xap;have ow:Builtin.Dict_items.ownsTuple "dict_keyiterator"=false:=by decide
 unfold pyNext;refine tG (xee (xcD (name:=Str.ofString "__next__") hit.typeIs xbf (xbR xbf hit.typeIs xcC (tG (xac (tG (tG ?_)))) (xcy _))))
 first |refine tG (xbM hit.typeIs (xac (tG (xc9 ho hd ?_)))) |refine tG (xb6 hit.typeIs (xac (tG (xc9 ho hd ?_))))
 simp only[ow,xaK,xa4];show wpAny _ _ (if (Value.ref d==Value.none)=true then _ else _) _ _ s
 rw[xad nr];refine tG (xac (tG (xcH hod hdd ?_)));rw[xad (by rw[hn];simp)];refine tG (xac (tG (xdR hod hdd ?_)));rw[xad (by simp)];refine xac ?_;simp only[show ¬ ((i:Int)<0) by omega,xa4,xcj,xba hl];refine tG ?_
 first |refine tG (xbM hit.typeIs (xac (tG (xcU hit.typeIs ?_)))) |refine tG (xb6 hit.typeIs (xac (tG (xcU hit.typeIs ?_))))
 show wpAny _ _ (setField (.ref it) 1 (rawInt ((i:Int) + 1)) >>=_) _ _ s;have nw:(s.heap.update it (Obj.mapFields (·.setIfInBounds 1 (rawInt ((i:Int) + 1))))).IsKeyIter it d (i + 1) n ep:=⟨_,xbZ _ ho (xcR (xbw hd _)),(Obj.cls_mapFields ..).trans hc,by rw[xbw hd];simp[rawInt]⟩;refine tG (xcz ho hd (by simp) (tG (xb0 (tG (xcU (s:={s with heap:=s.heap.update it (Obj.mapFields (·.setIfInBounds 1 (rawInt ((i:Int) + 1))))}) nw.typeIs ?_)))));show wpAny _ _ (pure es[i].key) _ _ _;exact xac (xac ⟨_,rfl,xac (hQ _ nw (xbO ..))⟩)
theorem Te {it d:Addr}{n ep:Nat}{od:Obj}{es:Array DictEntry}{Q:Option Value->Shared->Prop}(hh:A.handled=none)(hit:s.heap.IsKeyIter it d n n ep)(hod:s.heap.get? d=some od)(hdd:od.data=.dict es ep)(hn:es.size=n)
  (hQ:∀h',Heap.ExtBut it s.heap h'->Q none {s with heap:=h'}):wpAny (model prog w) A (pyNext (.ref it)) Q E s:=by
 obtain⟨o,ho,hc,hd⟩:=id hit;have nr:¬ ((Value.ref d==Value.none)=true):=xap;have ow:Builtin.Dict_items.ownsTuple "dict_keyiterator"=false:=by decide
 unfold pyNext;refine tG (xee (xcD (name:=Str.ofString "__next__") hit.typeIs xbf (xbR xbf hit.typeIs xcC (tG (xac (tG (tG ?_)))) (xcy _))))
 first |refine tG (xbM hit.typeIs (xac (tG (xc9 ho hd ?_)))) |refine tG (xb6 hit.typeIs (xac (tG (xc9 ho hd ?_))))
 simp only[ow,xaK,xa4];show wpAny _ _ (if (Value.ref d==Value.none)=true then _ else _) _ _ s
 rw[xad nr];refine tG (xac (tG (xcH hod hdd ?_)));rw[xad (by rw[hn];simp)];refine tG (xac (tG (xdR hod hdd ?_)));rw[xad (by simp)];refine xac ?_;simp only[show ¬ ((n:Int)<0) by omega,xa4,xcj,Array.getElem?_eq_none (show es.size<=n by omega)];refine tG ?_
 first |refine tG (xbM hit.typeIs (xac ?_)) |refine tG (xb6 hit.typeIs (xac ?_))
 show wpAny _ _ (setField (.ref it) 0 .none >>=_) _ _ s;refine tG (xcz ho hd (by simp) ?_);show wpAny _ _ (newExc (.type "StopIteration") [] >>=_) _ _ _;refine tG ?_;simp only[newExc,newTuple];refine tG (xbo (tG (m:=firstArgMember _ _) (wpAny_of_eq (a:=Value.none) (by first |rfl |(simp only[firstArgMember];rfl)) (xbo ?_ (by size_fits)))) (by size_fits))
 simp only[raiseNew];refine tG (wpAny_handled ?_);rw[show A.in1.handled=none from hh];refine tG (xac (wpAny_throw ?_));exact tG (xdA (T:="StopIteration") (b:=true) ⟨_,xaH _ rfl,rfl⟩ isSubtype_stop (xac (hQ _ (((xbO ..).extBut.push _).push _))))
theorem Rg {d:Addr}{n ep:Nat}{od:Obj}{es:Array DictEntry}{Q:Value->Shared->Prop}(hx:od.ExactDict)(hs:(d==sysModules)=false)(hod:s.heap.get? d=some od)(hdd:od.data=.dict es ep)(hn:es.size=n)
  (hQ:Q (.ref s.heap.objs.size) {s with heap:=s.heap.push {cls:=.type "dict_keyiterator",data:=.fields #[.ref d,.int 0 0,.int n 0,.int ep 0]}}):wpAny (model prog w) A (pyIter (.ref d)) Q E s:=by
 have hT:s.TypeIs (.ref d) "dict":=⟨od,hod,hx.1⟩;refine wpAny_pyIter_slot hT xdU (xbR xdU hT PySem.F.entry_dict_iter ?_ (PySem.F.args_dict_iter_1 _));unfold Builtin.«dict.__iter__» Builtin.Dict.dictSlotNone;refine tG (tG (wpAny_notOrdered_dict hT ?_));show wpAny _ _ (pure (Value.ref d)) _ _ s;refine xac ?_;show wpAny _ _ (Builtin.Dict.showsAll d >>=_) _ _ s;unfold Builtin.Dict.showsAll;rw[hs,xad xap];refine tG (xac (tG (xcH hod hdd (tG (xdR hod hdd ?_)))));refine tG (xbo (xac ⟨_,rfl,"dict_keyiterator",_,⟨_,xaH _ rfl,rfl⟩,xbf.lookup,?_⟩))
 simpa [rawInt,hn] using hQ
end
noncomputable def Bp (a:Addr) (ob:Obj) (kvs:List (List Key×V)):It:=
 ⟨fun i H=>i<kvs.length/\H a=some (.frz ob (.dT kvs)),fun i H x H'=>H'=H/\∃p b,kvs[i]? =some p/\x=.ref b/\H b=some (.tup (p.1.map kV)),fun i H=>i=kvs.length/\H a=some (.frz ob (.dT kvs))⟩
theorem kt_at {H:Hp}:∀{kvs:List (List Key×V)} {xs:List (List Key×Addr×Value)} {i:Nat} {p:List Key×V},KT H kvs xs->kvs[i]? =some p->∃q,xs[i]? =some q/\p.1=q.1/\H q.2.1=some (.tup (p.1.map kV)):=by
  intro kvs xs i p r;unfold KT at r
  induction r generalizing i with
  |nil=>intro e;simp at e
  |cons h t ih=>
    intro e
    cases i with
    |zero=>simp only[List.getElem?_cons_zero]at e;cases e;exact⟨_,rfl,h.1,h.2.1⟩
    |succ n=>simp only[xbN]at e ⊢;exact ih e
theorem BL {P:Program}{w:World}{H:Hp}{h:Heap}{a:Addr}{ob:Obj}{kvs:List (List Key×V)}{es:Array DictEntry}{ep:Nat}(ok:bN P w H h)(e:H a=some (.frz ob (.dT kvs)))(hd:ob.data=.dict es ep):
  ∃xs,KT H kvs xs/\h.get? a=some ob/\ob.ExactDict/\es.toList=xs.map (entryOfKey (tupleKind (f9 P w)))/\(a==sysModules)=false:=by
 obtain⟨g,_,sa,xs,r,o,es',ep',ho,hx,hdat,h4,_⟩:=ok a _ e;rw[g]at ho;cases ho;rw[hd]at hdat;cases hdat;exact⟨xs,r,g,hx,h4,sa⟩
theorem zaf {P:Program}{w:World}{K:Fgx}{tg:Expr}(a it:Addr)(ob:Obj)(kvs:List (List Key×V)){es:Array DictEntry}{ep:Nat}(hd:ob.data=.dict es ep):Turn P w K tg (Bp a ob kvs) [it] it (fun i h=>h.IsKeyIter it a i kvs.length ep) where
 mem:=by simp
 obj:=fun i h st b hb=>by
  have e:b=it:=by simpa using hb
  subst e;obtain⟨o,e,c,d⟩:=st;exact⟨o,e,fun v z=>by rw[d]at z;cases z⟩
 keep:=fun i h h' st k=>st.at fun o e=>k it (by simp) o e
 item:=by
  intro X hP hw hK hc i pins s σ H E I hf st hg;subst hP hw hK;obtain⟨hi,hq⟩:=hg;obtain⟨xs,rv,g,hx,he,sa⟩:=BL I.hok hq hd;have hk:kvs[i]? =some (kvs[i]'hi):=xaf hi;obtain⟨q,hu,ru,hb⟩:=kt_at rv hk;have sz:es.size=kvs.length:=by rw[xcq rv];exact xc4 he
  have il:i<es.size:=by omega
  have ek:es[i].key=.ref q.2.1:=by
   have:=entry_at he i;rw[hu,xba il]at this;exact congrArg DictEntry.key (xas this)
  obtain⟨f0,f1,f2,f3,f4,f5⟩:=hf it (by simp);refine Tf st g hd sz il fun h' st' sb=>?_;have I1:Inv X pins σ H {s with heap:=h'}:=I.turned (t':=s.toks) (fun b o hb e=>(sb.2 b hb).trans e) f0 f1 f3 f4 f5;obtain⟨o,eo,c,d⟩:=id st';exact⟨_,rfl,sJ (s:={s with heap:=h'}) eo c d (by decide) ⟨.ref q.2.1,H,I1,by rw[ek];rfl,⟨rfl,_,_,hk,rfl,hb⟩,st',fun b hb=>(hf b hb).1⟩⟩
 done:=by
  intro X hP hw hK hc i pins s σ H E I hf st hg;subst hP hw hK;obtain⟨rfl,hq⟩:=hg;obtain⟨xs,rv,g,hx,he,sa⟩:=BL I.hok hq hd;have sz:es.size=kvs.length:=by rw[xcq rv];exact xc4 he
  obtain⟨f0,f1,f2,f3,f4,f5⟩:=hf it (by simp);exact Te (I.ok.hd hc) st g hd sz fun h' eb=>⟨rfl,I.turned (t':=s.toks) (fun b o hb e=>eb b o hb e) f0 f1 f3 f4 f5⟩
 self:=fun _ _ _ _ _ st h=>wpAny_pyIter_keyiter st h
section
variable {X:Cx}{pos:Pos}
theorem PJ {P:Program}{w:World}{H:Hp}(h:Heap)(hb:sysModules<h.objs.size):cA P w H (h.push {cls:=.type "dict",data:=.dict #[]}) h.objs.size (.dT []):=
 ⟨xa8 _,xaZ.mpr (xbu (xaD hb)),[],.nil,_, #[],0,xaH _ rfl,⟨rfl,rfl,rfl⟩,rfl,rfl,List.nodup_nil⟩
theorem Vr:PE X (.Dict [] [] pos) fun _ H Q=>∀p,H p=none->Q (.ref p) (upd H p (.dT [])):=fun pins s σ H Q I h=>
 wpAny_Dict_empty ⟨.ref s.heap.objs.size,_,I.laid (a:=s.heap.objs.size) (o:=.dT []) (t':=s.toks) (fun _ _ q=>xai _ q) (xab _) (PJ s.heap I.big),rfl,h _ (I.hok.fresh (xab _))⟩
end
section
variable {X:Cx}{tg:Expr}
noncomputable def QM (td:TE):TI:=fun σ H R=>td σ H fun v H1=>∃a ob kvs es ep,v=.ref a/\H1 a=some (.frz ob (.dT kvs))/\ob.data=.dict es ep/\R (Bp a ob kvs) H1
theorem VH {o:Expr}{td:TE}(ho:PE X o td):PI X tg o (QM td):=by
 intro pins s σ H R I h;refine aU (ho pins s σ H _ I h) fun v s1 ⟨x,H1,I1,r1,a,ob,kvs,es,ep,ex,ha,hd,q1⟩=>?_;subst ex;obtain rfl:v=Value.ref a:=r1;obtain⟨xs,rv,g,hx,he,sa⟩:=BL I1.hok ha hd;have sz:es.size=kvs.length:=by rw[xcq rv];exact xc4 he
 refine Rg hx sa g hd sz ?_;have I3:Inv X pins σ H1 {s1 with heap:=s1.heap.push {cls:=.type "dict_keyiterator",data:=.fields #[.ref a,.int 0 0,.int kvs.length 0,.int ep 0]}}:=I1.kept (t':=s1.toks) fun b o e=>xai _ e;refine⟨_,[s1.heap.objs.size],_,Bp a ob kvs,_,rfl,I3,zaf a _ ob kvs hd,⟨_,xaH _ rfl,rfl,rfl⟩,fun c hc=>?_,q1⟩;have e:c=s1.heap.objs.size:=by simpa using hc
 subst e;exact I1.fpOk (xab _) (I1.hok.fresh (xab _))
theorem PK {P:Program}{w:World}{H:Hp}{h:Heap}{a:Addr}{kvs:List (List Key×V)}(x:cA P w H h a (.dT kvs)):∀v,¬ h.IsCell a v:=fun v ⟨oc,ho,hd⟩=>by
 obtain⟨_,_,xs,_,o,es,ep,h1,_,h3,_⟩:=x;rw[h1]at ho;cases ho;rw[h3]at hd;cases hd
theorem Vv {e:Expr}{t:TE}(h:PE X e t):PE X e fun σ H Q=>t σ H fun v H'=>∃a kvs,H' a=some (.dT kvs)/\∀ob es ep,ob.data=.dict es ep->Q v (upd H' a (.frz ob (.dT kvs))):=by
 intro pins s σ H Q I w;refine aU (h pins s σ H _ I w) fun v s1 ⟨x,H1,I1,r1,a,kvs,ha,q⟩=>?_;obtain⟨sz,sa,xs,rv,ob,es,ep,hob,hex,hdat,rest⟩:=I1.hok a _ ha;have nf:∀o u,X.H₀ a≠some (.frz o u):=fun o u e=>by
  have:=I1.base.frzs a o u e;rw[ha]at this;cases this
 exact⟨x,_,I1.swap (u':=.frz ob (.dT kvs)) ha (fun _ z=>by cases z) (fun _ z=>by cases z) (fun _ z=>by cases z) nf (PK (I1.hok a _ ha)) ⟨hob,sz,sa,xs,KT.keeps rv (fun b ys eb=>by rw[bw (Kw eb ha (fun z=>nomatch z))];exact eb),ob,es,ep,hob,hex,hdat,rest⟩,r1,q ob es ep hdat⟩
end
end L2
namespace E3
open PySem PySem.Spec PyProof.Rows L2
section
variable {K:Fgx}{P:Pl}{H:Hp}
noncomputable def pX:List D->Option (List Key)
  | []=>some []
  |d::ds=>match toKey d,pX ds with
    |some k,some r=>some (k::r)
    |_,_=>none
def zA (k:List Key):D:=.tup (k.map pW)
theorem Dy:∀{ds:List D} {vs:List V} {k:List Key},pX ds=some k->au K P H ds vs->vs=k.map kV
  | [],vs,k,h,i=>by cases h;cases i;rfl
  |d::ds,vs,k,h,i=>by
    obtain⟨v,r,rfl,i1,i2⟩:=i;unfold pX at h;split at h
    · rename_i k1 r1 e1 e2;cases h;rw[key_is e1 i1,Dy e2 i2];rfl
    · cases h
theorem JR:∀k:List Key,au K P H (k.map pW) (k.map kV)
 | []=>rfl
 |a::k=>⟨_,_,rfl,is_key a,JR k⟩
noncomputable def cu (kvs:List (List Key×D)) (k:List Key):Option D:=(kvs.find? fun kv=>decide (kv.1=k)).map (·.2)
noncomputable def dG (kvs:List (List Key×D)) (k:List Key) (v:D):List (List Key×D):=
 if (kvs.any fun kv=>decide (kv.1=k))=true then kvs.map (fun kv=>if kv.1=k then(kv.1,v) else kv) else kvs ++ [(k,v)]
def dN (K:Fgx)(P:Pl)(H:Hp)(kvs:List (List Key×D))(vs:List (List Key×V)):Prop:=vs.map (·.1)=kvs.map (·.1)/\au K P H (kvs.map (·.2)) (vs.map (·.2))
theorem G_ {p:List Key×D}{q:List Key×V}{kvs:List (List Key×D)}{vs:List (List Key×V)}:dN K P H (p::kvs) (q::vs) ↔ q.1=p.1/\Is K P H p.2 q.2/\dN K P H kvs vs:=by
 constructor
 ·rintro⟨h1,v,r,e1,i,q⟩;simp only[xay,xdQ]at h1 e1;obtain⟨rfl,rfl⟩:=e1;exact⟨h1.1,i,h1.2,q⟩
 ·rintro⟨h1,i,h2,q⟩;exact⟨by simp[h1,h2],_,_,rfl,i,q⟩
theorem Hf {k:List Key}:∀{kvs:List (List Key×D)} {vs:List (List Key×V)},dN K P H kvs vs->match cu kvs k with
    |some d=>∃v,bK vs k=some v/\Is K P H d v
    |none=>bK vs k=none
  | [],[],_=>rfl
  | [],_::_,h=>by cases h.1
  |_::_,[],h=>by cases h.1
  |p::kvs,q::vs,h=>by
    obtain⟨h1,i,h2⟩:=G_.mp h
    by_cases e:p.1=k
    · have a:cu (p::kvs) k=some p.2:=by simp[cu,xbY,e]
      rw[a];exact⟨q.2,Hj (h1.trans e),i⟩
    · have a:cu (p::kvs) k=cu kvs k:=by simp[cu,xbY,e]
      rw[a,Hi fun z=>e (h1.symm.trans z)];exact Hf h2
theorem Nk {k:List Key}:∀{kvs:List (List Key×D)} {vs:List (List Key×V)},vs.map (·.1)=kvs.map (·.1)->(vs.any fun kv=>decide (kv.1=k))=(kvs.any fun kv=>decide (kv.1=k))
  | [],[],_=>rfl
  | [],_::_,h=>by cases h
  |_::_,[],h=>by cases h
  |p::kvs,q::vs,h=>by
    simp only[xay,xdQ]at h;rw[xcc,xcc,h.1,Nk h.2]
theorem Nm {k:List Key}{d:D}{v:V}(i:Is K P H d v):∀{kvs:List (List Key×D)} {vs:List (List Key×V)},dN K P H kvs vs->dN K P H (kvs.map fun kv=>if kv.1=k then(kv.1,d) else kv) (vs.map fun kv=>if kv.1=k then(kv.1,v) else kv)
  | [],[],h=>h
  | [],_::_,h=>by cases h.1
  |_::_,[],h=>by cases h.1
  |p::kvs,q::vs,h=>by
    obtain⟨h1,i1,h2⟩:=G_.mp h;rw[xay,xay];refine G_.mpr ⟨?_,?_,Nm i h2⟩
    · split<;>split<;>exact h1
    · rw[h1]
      split
      · exact i
      · exact i1
theorem zbn {k:List Key}{d:D}{v:V}{kvs:List (List Key×D)}{vs:List (List Key×V)}(i:Is K P H d v)(h:dN K P H kvs vs):dN K P H (dG kvs k d) (putK vs k v):=by
 unfold dG putK;rw[Nk h.1]
 split
 ·exact Nm i h
 ·refine⟨by rw[xaP,xaP,h.1];rfl,?_⟩;rw[xaP,xaP];exact au.append h.2 (au.one i)
theorem zbw {kvs:List (List Key×D)}{vs:List (List Key×V)}(h:dN K P H kvs vs):vs.length=kvs.length:=by simpa using congrArg List.length h.1
theorem Ep {vs:List (List Key×V)}:¬ Fx (.dT vs):=fun z=>by rcases z with⟨_,z⟩ |⟨_,_,z⟩ |⟨_,z⟩ |⟨_,z⟩<;>cases z
end
section
variable {X:Cx}{Wx:XW}{m:Mode}{pos:Pos}
noncomputable def lE (M:Mm) (d:D):Option (Nat×List (List Key×D)):=match d with
  | .ref k => (match M[k]? with
    |some (.dtc kvs)=>some (k,kvs)
    |_=>none)
  |_=>none
theorem za {M:Mm}{d:D}{k:Nat}{kvs:List (List Key×D)}(h:lE M d=some (k,kvs)):d=.ref k/\M[k]? =some (.dtc kvs):=by
 unfold lE at h;split at h
 ·split at h
  ·cases h;rename_i e;exact⟨rfl,e⟩
  ·cases h
 ·cases h
noncomputable def sG (M:Mm) (d:D):Option (Nat×List (List Key×D)):=match d with
  | .ref k => (match M[k]? with
    |some (.dtf kvs)=>some (k,kvs)
    |_=>none)
  |_=>none
theorem Jj {M:Mm}{d:D}{k:Nat}{kvs:List (List Key×D)}(h:sG M d=some (k,kvs)):d=.ref k/\M[k]? =some (.dtf kvs):=by
 unfold sG at h;split at h
 ·split at h
  ·cases h;rename_i e;exact⟨rfl,e⟩
  ·cases h
 ·cases h
def Gg:E:=fun _ M=>some (.v (.ref M.length),M ++ [.dtc []])
theorem Zq:SE X Wx m (.Dict [] [] pos) Gg:=by
 refine b_ Vr ?_;rintro st H Q ⟨P0,H0,P,Os,env,M,r,M',k,e,q⟩;cases e;intro p hp;obtain⟨l1,h1,nc⟩:=Ov (o:=.dT []) k.hk hp;obtain⟨P2,l2,h2,i2⟩:=O9 (o':=.dT []) (c:=.dtc []) l1 h1 hp (.inr rfl) nc cN Ep fun P' _=>⟨[],cN,rfl,rfl⟩;rw[zaP]at l2 h2 i2;exact q P2 _ _ l2 h2 (cF.of h2 i2)
noncomputable def rD (f:E):E:=fun env M=>bnd (f env M) fun d M1=>match lE M1 d with
 |some (j,kvs)=>some (.v d,M1.set j (.dtf kvs))
 |none=>none
theorem Zu {e:Expr}{f:E}(h:SE X Wx .val e f):SE X Wx m e (rD f):=by
 refine b_ (Vv h) ?_;rintro st H Q ⟨P0,H0,P,Os,env,M,r,M',k,e,q⟩;unfold rD at e;rcases bU e with⟨d,M1,e1,e⟩ |⟨c,n,e1,rfl⟩
 ·refine aY k e1 fun P1 v1 H1 l1 h1 i1=>?_;split at e
  ·rename_i j kvs ed;cases e;obtain⟨rfl,em⟩:=za ed;obtain⟨jl,rfl⟩:j<P1.n/\v1=.ref (P1.io j):=i1;obtain⟨vs,ev,en,is⟩:=h1.cell j _ em;refine⟨P1.io j,vs,ev,fun ob es ep hd=>?_⟩;have lc:Lt P1 H1 P1 (upd H1 (P1.io j) (.frz ob (.dT vs))):=pZ (h1.bd j jl) ev Ep;obtain⟨l2,l2e,h2⟩:=h1.set (c':=.dtf kvs) (o':=.frz ob (.dT vs)) em ⟨vs,ob,es,ep,cN,hd,en,au.lt lc is⟩;exact q P1 _ _ (l1.trans l2e) h2 (cF.of h2 (show Is _ _ _ (.ref j) _ from⟨jl,rfl⟩))
  ·cases e
 ·exact aY k e1 q
noncomputable def fV (f:E):EA:=fun env M=>match f env M with
  | some (.v d, M1) => (match sG M1 d with
    |some p=>some (.v (p.2.map fun p=>zA p.1),M1)
    |none=>none)
  |some (.x c n,M1)=>some (.x c n,M1)
  |none=>none
theorem ZD {tg e:Expr}{f:E}(h:SE X Wx .val e f):SI X Wx tg e (fV f):=by
 refine EY (VH h) ?_;rintro st H R ⟨P0,H0,P,Os,env,M,r,M',k,e,q⟩;unfold fV at e;split at e
 ·rename_i d M1 ef;split at e
  ·rename_i p ed;cases e;refine⟨P0,H0,P,Os,env,M,_,_,k,ef,fun P1 v1 H1 l1 h1 i1=>?_⟩;obtain⟨rfl,em⟩:=Jj (k:=p.1) (kvs:=p.2) ed;obtain⟨jl,rfl⟩:p.1<P1.n/\v1=.ref (P1.io p.1):=i1;obtain⟨vs,ob,es,ep,ev,hd,en,is⟩:=h1.cell p.1 _ em;have hl:vs.length=p.2.length:=by simpa using congrArg List.length en
   refine⟨P1.io p.1,ob,vs,es,ep,rfl,ev,hd,q P1 H1 _ l1 h1 fun P2 H2 l2=>?_⟩;have e2:H2 (P1.io p.1)=some (.frz ob (.dT vs)):=l2.keep _ _ ev (.inl (.inr (.inl ⟨_,_,rfl⟩)));refine⟨fun j hj=>⟨by rw[xae, <-hl]at hj;exact hj,e2⟩,fun j h1 h2=>⟨by rw[xae, <-hl]at h1 h2;exact xbj h2 h1,e2⟩,fun j x H' y hj=>⟨y.1,?_⟩⟩;obtain⟨u,b,eu,rfl,eb⟩:=y.2;have ek:(p.2.map (·.1))[j]? =some u.1:=by rw[<-en,xar,eu];rfl
   refine⟨zA u.1,?_,b,u.1.map kV,rfl,.inl (.inl eb),JR _⟩;rw[xar,xag]at ek ⊢;obtain⟨w,ew,e3⟩:=ek;exact⟨w,ew,by rw[e3]⟩
  ·cases e
 ·rename_i c n M1 ef;cases e;exact⟨P0,H0,P,Os,env,M,_,_,k,ef,q⟩
 ·cases e
theorem Rx {pins:Pnx}{s:Shared}{σ:L2.St}{H:Hp}{b:Addr}{k:List Key}(I:Inv X pins σ H s)(e:dM X.K H b (k.map kV)):(tupleKind (f9 X.prog X.w)).is s.heap k b:=by
 obtain⟨its,r,⟨o,h1,h2,n,h3⟩,_⟩:=I.tuple e;exact⟨o,its.toArray,n,h1,h2,h3,by simpa using Dv r⟩
theorem Vq {o i:Expr}{td ty:TE}(hu:X.A.units + 1<cLine)(ho:PE X o td)(hi:PE X i ty)(hs:pC i):PE X (.Subscript o i pos) (fun σ H Q=>td σ H fun x H1=>ty σ H1 fun y H2=>∃a b kvs k v,x=.ref a/\y=.ref b/\Rd H2 a (.dT kvs)/\dM X.K H2 b (List.map kV k)/\bK kvs k=some v/\Q v H2):=by
 intro pins s σ H Q I h;refine zaM PySem.F.slot_dict_getitem.lookup hs (aU (ho pins s σ H _ I h) fun u s1 ⟨x,H1,I1,rx,q1⟩=>aU (hi pins s1 σ H1 _ I1 q1) fun iv s2 ⟨y,H2,I2,ry,a,b,kvs,k,v,ex,ey,ha,hb,hv,q2⟩=>?_);subst ex ey;obtain rfl:u=Value.ref a:=rx;obtain rfl:iv=Value.ref b:=ry;obtain⟨z,hd,xs,rel,dd⟩:=Ji I2.hok ha;obtain⟨w',hw,rw'⟩:=dW.some_of (v:=v) (o:=(atKey xs k).map (·.2)) (by rw[<-hv];exact KT.val rel k);obtain⟨p,hp,hp2⟩:=xag.mp hw;refine⟨dd.typeIs,wpAny_getItem_heap (tupleKind_room_in1 hu) (Rx I2 hb) dd hp ?_⟩;rw[hp2];exact⟨v,H2,I2.tok _,rw',q2⟩
noncomputable def mC (M:Mm) (d:D):Option (Nat×List (List Key×D)):=match lE M d with
 |some p=>some p
 |none=>sG M d
theorem PB {K:Fgx}{mg:Mgx}{P:Pl}{H:Hp}{M:Mm}{d:D}{j:Nat}{kvs:List (List Key×D)}(h:mC M d=some (j,kvs))(hk:Hk K mg P H M):d=.ref j/\∃vs,Rd H (P.io j) (.dT vs)/\dN K P H kvs vs:=by
 unfold mC at h;split at h
 ·rename_i p ep;cases h;obtain⟨rfl,em⟩:=za ep;obtain⟨vs,ev,en,is⟩:=hk.cell j _ em;exact⟨rfl,vs,.inl ev,en,is⟩
 ·obtain⟨rfl,em⟩:=Jj h;obtain⟨vs,ob,es,ep,ev,_,en,is⟩:=hk.cell j _ em;exact⟨rfl,vs,.inr ⟨ob,ev⟩,en,is⟩
def tupK:D->Option (List Key)
 |.tup ds=>pX ds
 |_=>none
noncomputable def rC (f g:E):E:=fun env M=>bnd (f env M) fun d M1=>bnd (g env M1) fun y M2=>match mC M2 d,tupK y with
 |some (_,kvs),some k=>(cu kvs k).map fun z=>(.v z,M2)
 |_,_=>none
theorem Zr {o i:Expr}{f g:E}(hu:X.A.units + 60<cLine)(ho:SE X Wx .val o f)(hi:SE X Wx .val i g)(hs:pC i:=by exact fun _ _=>rfl):SE X Wx m (.Subscript o i pos) (rC f g):=by
 refine b_ (Vq (xbG (xc5 (by decide) _) hu) ho hi hs) ?_;rintro st H Q ⟨P0,H0,P,Os,env,M,r,M',k,e,q⟩;unfold rC at e;rcases bU e with⟨d,M1,e1,e⟩ |⟨c,n,e1,rfl⟩
 ·refine aY k e1 fun P1 v1 H1 l1 h1 i1=>?_;have k1:=k.next l1 h1
  rcases bU e with⟨y,M2,e2,e⟩ |⟨c,n,e2,rfl⟩
  ·refine aY k1 e2 fun P2 v2 H2 l2 h2 i2=>?_;split at e
   ·rename_i j kvs key ed ek;rw[xag]at e;obtain⟨z,ez,e⟩:=e;cases e;obtain⟨rfl,vs,ev,tu⟩:=PB ed h2;obtain⟨jl,rfl⟩:j<P1.n/\v1=.ref (P1.io j):=i1;unfold tupK at ek;split at ek
    ·rename_i ds;obtain⟨b,ws,rfl,sq,is⟩:=i2;have g:=Hf (k:=key) tu;rw[ez]at g;obtain⟨v,gv,iv⟩:=g;rw[l2.io j jl]at ev;rw[Dy ek is]at sq;exact⟨_,b,vs,key,v,rfl,rfl,ev,sq,gv,q P2 v H2 (l1.trans l2) h2 (cF.of h2 iv)⟩
    ·cases ek
   ·cases e
  ·exact aY k1 e2 q
 ·exact aY k e1 q
noncomputable def Aq (d x:D) (key:Option (List Key)) (M:Mm):O:=match lE M d,key with
  | some (j, kvs), some k => if kvs.length < sizeLine then (match cu kvs k with
    |some z=>some (.v z,M)
    |none=>some (.v x,M.set j (.dtc (dG kvs k x)))) else none
  |_,_=>none
noncomputable def rE (f:E) (fs:EA) (h:E):E:=fun env M=>bnd (f env M) fun d M1=>match lE M1 d with
 |some _=>dh (fs env M1) fun ds M2=>if ds.length<=sizeLine then bnd (h env M2) fun x M3=>Aq d x (pX ds) M3 else none
 |none=>none
theorem Zx {o e':Expr}{es:List Expr}{x1:Nat}{tpos:Pos}{f h:E}{fs:EA}{p:Pos}(hu:X.A.units + 60<cLine)(ho:SE X Wx .val o f)(ha:SA X Wx .val es fs)(he':SE X Wx .val e' h)
    (hbase:attributeBase o "setdefault" X.env (eval o X.env)=eval o X.env:=by rfl)
    (hfew:((backTo pos (starEach [.Tuple es x1 tpos,e'] X.env)).all (fun x=> !x.1) && (backToKw pos (keywordEach [] X.env)).all (fun x=>x.1.isSome) && decide ([Expr.Tuple es x1 tpos,e'].length + ([]:List Keyword).length + (if ([]:List Keyword).isEmpty then 0 else 1)<30))=true:=by rfl)
    (hline:(p.endLine==pos.line)=true:=by rfl) (hs:starEach [.Tuple es x1 tpos,e'] X.env=(false,eval (.Tuple es x1 tpos) X.env)::starEach [e'] X.env:=by rfl) (hs':starEach [e'] X.env=(false,eval e' X.env)::starEach [] X.env:=by rfl):
    SE X Wx m (.Call (.Attribute o "setdefault" p) [.Tuple es x1 tpos,e'] [] pos) (rE f fs h):=by
  refine b_ (zV PySem.F.plainAttrs_dict xc8 PySem.F.type_dict_setdefault (SM (xbG (xc5 (by decide) _) hu)) ho (lN (K3 ha) (lN he' nR hs') hs) hbase hfew hline hs (by rw[hs'];rfl)) ?_;rintro st H Q ⟨P0,H0,P,Os,env,M,r,M',k,ee,q⟩;unfold rE at ee;rcases bU ee with⟨d,N1,e1,ea⟩ |⟨c,n,e1,rfl⟩
  · split at ea
    · rename_i pr ed;obtain⟨j,kvs0⟩:=pr;obtain⟨rfl,em0⟩:=za ed;refine aY k e1 fun P1 v1 H1 l1 h1 i1=>?_;have k1:=k.next l1 h1
      obtain⟨jl,rfl⟩:j<P1.n/\v1=.ref (P1.io j):=i1;obtain⟨vs0,ev0,_,_⟩:=h1.cell j _ em0;refine⟨.inr (.inr (.inl ⟨rfl,.inr ⟨vs0,ev0⟩⟩)),?_⟩;rcases pK ea with⟨ds,N2,e2,eb⟩ |⟨c,n,e2,rfl⟩
      · split at eb
        · rename_i hl0;refine⟨P0,H0,P1,Os,env,N1,_,_,k1,e2,fun P2 ws H2 l2 h2 i2=>⟨by rw[i2.iss.len];exact hl0,fun b hb=>?_⟩⟩;have s:=tX (o:=.tup ws) hb;have h2':=h2.same s;have l2':=l2.trans (LtE.same s);have k2:=k1.next l2' h2'
          rcases bU eb with⟨x,N3,e3,ec⟩ |⟨c,n,e3,rfl⟩
          · refine aY k2 e3 fun P3 v3 H3 l3 h3 i3=>?_;unfold Aq at ec;split at ec
            · rename_i j' kvs key ek et;split at ec
              · rename_i hl;obtain⟨ej,em⟩:=za ek;cases ej;obtain⟨vs,ev,en,is⟩:=h3.cell j _ em;have g:=Hf (k:=key) (kvs:=kvs) (vs:=vs) ⟨en,is⟩;have jl3:j<P3.n:=xal jl (xao l2'.n l3.n);have eio:P3.io j=P1.io j:=(l3.io j (xal jl l2'.n)).trans (l2'.io j jl);have ew:ws=key.map kV:=Dy et i2.iss;have eb3:H3 b=some (.tup (key.map kV)):=by rw[<-ew];exact l3.keep b _ cN (.inl (.inl ⟨_,rfl⟩))
                have hl':vs.length<sizeLine:=by rw[zbw ⟨en,is⟩];exact hl
                have lc:Lt P3 H3 P3 (upd H3 (P3.io j) (.dT (putK vs key v3))):=pZ (h3.bd j jl3) ev Ep
                cases hd:cu kvs key with
                |some z=>
                  rw[hd]at g ec;cases ec;obtain⟨v,gv,iv⟩:=g;refine⟨P1.io j,b,vs,key,v3,rfl,rfl,eb3,by rw[<-eio];exact ev,hl',fun y' hy=>?_,fun hn=>(by rw[gv]at hn;cases hn)⟩;rw[gv]at hy;cases hy;exact q P3 _ H3 (l1.trans (l2'.trans l3)) h3 (cF.of h3 iv)
                |none=>
                  rw[hd]at g ec;cases ec;have g':bK vs key=none:=g;have tp:=zbn (k:=key) i3 (⟨en,is⟩:dN X.K P3 H3 kvs vs);obtain⟨l4,l4e,h4⟩:=h3.set (c':=.dtc (dG kvs key x)) (o':=.dT (putK vs key v3)) em ⟨_,cN,tp.1,au.lt lc tp.2⟩;refine⟨P1.io j,b,vs,key,v3,rfl,rfl,eb3,by rw[<-eio];exact ev,hl',fun y' hy=>(by rw[g']at hy;cases hy),fun _=>?_⟩;rw[<-eio];exact q P3 _ _ (l1.trans (l2'.trans (l3.trans l4e))) h4 (cF.of h4 (Is.lt lc i3))
              · cases ec
            · cases ec
          · exact aY k2 e3 q
        · cases eb
      · exact⟨P0,H0,P1,Os,env,N1,_,_,k1,e2,q⟩
    · cases ea
  · exact aY k e1 q
noncomputable def mW (f:E):E:=fun env M=>bnd (f env M) fun d M1=>match vw M1 d with
 |.lst ds=>some (.v (.lst ds.reverse),M1)
 |_=>none
theorem ZV {e:Expr}{f:E}{p p1 pos1:Pos}(hc:X.calm=true)(hgl:Gl X "list")(hml:X.mg "list"=none)(hg:Gl X "reversed")(hm:X.mg "reversed"=none)(he:SE X Wx .bor e f)(hs:starEach [e] X.env=[(false,eval e X.env)]:=by rfl):
  SN X Wx (.Call (.Name "list" p1) [.Call (.Name "reversed" p) [e] [] pos] [] pos1) (mW f):=by
 refine b_ (Vw hc hgl hml hg hm he hs) ?_;rintro st H Q ⟨P0,H0,P,Os,env,M,r,M',k,e,q⟩;unfold mW at e;rcases bU e with⟨d,M1,e1,e⟩ |⟨c,n,e1,rfl⟩
 ·split at e
  ·rename_i ds ev;cases e;refine aY k e1 fun P1 v1 H1 l1 h1 i1=>?_;obtain⟨ds',e',q⟩:=q;cases e';have i:=bQ.vw h1 i1;rw[ev]at i;obtain⟨a,vs,rfl,sq,is⟩:=i;refine⟨a,vs,rfl,sq,fun p hp=>?_⟩;obtain⟨l2,h2,nc⟩:=pI (vs:=vs.reverse) h1 hp;exact q (P1.bar p) p vs.reverse _ (l1.trans l2) h2 (l1.sure p hp) (.inr rfl) nc cN (au.lt (l2.lt h1) (au.rev is))
  ·cases e
 ·exact aY k e1 q
theorem R9 {f:E}:∀env M r M',mW f env M=some (.v r,M')->∃ds,r=.lst ds:=fun env M r M' e=>by
 unfold mW at e;rcases bU e with⟨d,M1,_,e⟩ |⟨c,n,_,h⟩
 ·split at e
  ·cases e;exact⟨_,rfl⟩
  ·cases e
 ·cases h
noncomputable def kY (i:Nat) (sg:Bool) (f:E):S:=fun env M=>match env[i]? with
  |some (.val (.int a))=>cO (f env M) fun d M1=>match d with
    |.int b=>if i<env.length then some (.nx (env.set i (.val (.int (if sg then a + b else a - b)))),M1) else none
    |_=>none
  |_=>none
theorem zbi {i:Nat}{x:Str}{e:Expr}{f:E}{sg:Bool}{op:Operator}{pos':Pos}(ho:Br X op (JN fun a b=>if sg then a + b else a - b))(hN:X.N.Nodup)(hi:X.N[i]? =some x)(hx:Loc X.env.scope x)(he:SE X Wx .val e f)
  (hf:X.fn x=true\/X.env.scope.names.lookup x=some .local:=by first |exact .inl rfl |exact .inr rfl):SS X Wx (.AugAssign (.Name x pos') op e pos) (kY i sg f):=by
 refine gb (V5 hN hi hx he ho hf) ?_;rintro D st H ⟨P0,H0,P,Os,env,M,out,M',k,e,q⟩;unfold kY at e;split at e
 ·rename_i a hs;obtain⟨v,e1,i1⟩:=k.slot i _ hs;cases i1;refine⟨.int a,lH e1,?_⟩;rcases iB e with⟨d,M1,e2,e⟩ |⟨c,n,e2,rfl⟩
  ·refine⟨P0,H0,P,Os,env,M,_,_,k,e2,fun P1 v1 H1 l1 h1 i2=>?_⟩;split at e
   ·rename_i b;split at e
    ·rename_i hl;cases e;cases i2;exact⟨a,b,rfl,rfl,q _ _ _ _ (l1.lt k.hk) ((k.next l1 h1).asg hl (show Is _ _ _ (.int _) _ from rfl))⟩
    ·cases e
   ·cases e
  ·exact⟨P0,H0,P,Os,env,M,_,_,k,e2,q⟩
 ·cases e
section
variable {f g h:E}{fs:EA}{env:Env}{M M1 M2 M3:Mm}
theorem WW:Gg env M=some (.v (.ref M.length),M ++ [.dtc []]):=rfl
theorem vN {k:Nat}{kvs:List (List Key×D)}(h:M[k]? =some (.dtc kvs)):lE M (.ref k)=some (k,kvs):=by unfold lE;simp only[h]
theorem Jk {k:Nat}{kvs:List (List Key×D)}(h:M[k]? =some (.dtf kvs)):sG M (.ref k)=some (k,kvs):=by unfold sG;simp only[h]
theorem RK {k:Nat}{kvs:List (List Key×D)}(h1:f env M=some (.v (.ref k),M1))(h2:M1[k]? =some (.dtc kvs)):rD f env M=some (.v (.ref k),M1.set k (.dtf kvs)):=by
 simp only[rD,bnd,h1,vN h2]
theorem QS {k:Nat}{kvs:List (List Key×D)}(h1:f env M=some (.v (.ref k),M1))(h2:M1[k]? =some (.dtf kvs)):fV f env M=some (.v (kvs.map fun p=>zA p.1),M1):=by
 simp only[fV,h1,Jk h2]
theorem Qf {k:Nat}{kvs:List (List Key×D)}{y z:D}{key:List Key}(h1:f env M=some (.v (.ref k),M1))(h2:g env M1=some (.v y,M2))(h3:M2[k]? =some (.dtf kvs))(h4:tupK y=some key)(h5:cu kvs key=some z):rC f g env M=some (.v z,M2):=by
 have a:lE M2 (.ref k)=none:=by unfold lE;simp only[h3]
 simp only[rC,bnd,h1,h2,mC,a,Jk h3,h4,h5,xbs]
theorem Zk {k:Nat}{kvs0 kvs:List (List Key×D)}{ds:List D}{x z:D}{key:List Key}(h1:f env M=some (.v (.ref k),M1))(h2:M1[k]? =some (.dtc kvs0))(h3:fs env M1=some (.v ds,M2))(h4:h env M2=some (.v x,M3))(h5:M3[k]? =some (.dtc kvs))(h6:pX ds=some key)(hl:kvs.length<sizeLine)(hd:ds.length<=sizeLine)(h7:cu kvs key=some z):rE f fs h env M=some (.v z,M3):=by
 simp only[rE,bnd,dh,h1,vN h2,h3,xaa hd,h4,Aq,vN h5,h6,xaa hl,h7]
theorem Zj {k:Nat}{kvs0 kvs:List (List Key×D)}{ds:List D}{x:D}{key:List Key}(h1:f env M=some (.v (.ref k),M1))(h2:M1[k]? =some (.dtc kvs0))(h3:fs env M1=some (.v ds,M2))(h4:h env M2=some (.v x,M3))(h5:M3[k]? =some (.dtc kvs))(h6:pX ds=some key)(hl:kvs.length<sizeLine)(hd:ds.length<=sizeLine)(h7:cu kvs key=none):rE f fs h env M=some (.v x,M3.set k (.dtc (dG kvs key x))):=by
 simp only[rE,bnd,dh,h1,vN h2,h3,xaa hd,h4,Aq,vN h5,h6,xaa hl,h7]
theorem Yu {ds:List D}{d:D}(h1:f env M=some (.v d,M1))(h2:vw M1 d=.lst ds):mW f env M=some (.v (.lst ds.reverse),M1):=by
 simp only[mW,bnd,h1,h2]
end
end
end E3
namespace My
open PySem PySem.Spec PyProof.Rows L2 E3
noncomputable def zaj:List (Str×D):=[("+",(.tup [(.str "number"),(.str "number"),(.int 2)])),("-",(.tup [(.str "number"),(.str "number"),(.int 2)])),("*",(.tup [(.str "number"),(.str "number"),(.int 2)])),("least",(.tup [(.str "number"),(.str "number"),(.int 2)])),("most",(.tup [(.str "number"),(.str "number"),(.int 2)])),("<",(.tup [(.str "truth"),(.str "number"),(.int 2)])),("=",(.tup [(.str "truth"),(.str "number"),(.int 2)])),("not",(.tup [(.str "truth"),(.str "truth"),(.int 1)])),("and",(.tup [(.str "truth"),(.str "truth"),(.int 2)])),("or",(.tup [(.str "truth"),(.str "truth"),(.int 2)]))]
noncomputable def top (i:Nat):Stmt:=PySem.Challenge.pw_rowdam_k27_windows_told.main.body.getD i (.Pass ⟨0,0,0,0⟩)
noncomputable def vG:List Str:=["min","max","list","reversed","int","sorted","len","range","sum","isinstance","bool","str","tuple"]
structure Ad where
 DamError:Addr
 NoExpr:Addr
structure Txt (K:Fgx)(mg:Mgx)(C:Ad)(w:World):Prop where
 blt:∀b∈vG,mg b=none
 xm_DamError:mg "DamError"=some (.ref C.DamError)
 xc_DamError:gO K C.DamError=true
 xm_NoExpr:mg "NoExpr"=some (.ref C.NoExpr)
 xc_NoExpr:gO K C.NoExpr=true
 xn_NoExpr:NZ K C.NoExpr=true
 xk_NoExpr:PySem.W.keepIn K (.ref C.NoExpr)=true
 xs_NoExpr:Bj K C.NoExpr=true
 k_ALL_LETTERS:∃a,mg "ALL_LETTERS"=some (.ref a)/\∀P H,Is K P H (.tup [(.str "t"),(.str "v"),(.str "w")]) (.ref a)
 k_NEEDS:∃a,mg "NEEDS"=some (.ref a)/\KTab K w a zaj
 k_FIGURES:∃t,mg "FIGURES"=some (.str "0123456789" t)
 k_MOST_FIGURES:∃t,mg "MOST_FIGURES"=some (.int 20 t)
 k_MOST_VALUE:∃t,mg "MOST_VALUE"=some (.int 1000000000000000000000000000000000000000000000000000000000000 t)
 k_LETTERS:∃t,mg "LETTERS"=some (.str "abcdefghijklmnopqrstuvwxyz" t)
 k_COND_LETTERS:∃t,mg "COND_LETTERS"=some (.str "tv" t)
structure MetAt (K:Fgx)(C:Addr)(x q:Str)(st:Stmt)(ps:List Str)(f:Addr)(fd:FuncData):Prop where
 M:Meth K C x f
 F:FunD K x q st f fd
 b:Binds K fd ps []
structure IniAt (K:Fgx)(C:Addr)(q:Str)(st:Stmt)(ps:List Str)(f:Addr)(fd:FuncData):Prop where
 M:Mk K C f
 F:FunD K "__init__" q st f fd
 b:Binds K fd ps []
structure MetAtD (K:Fgx)(C:Addr)(x q:Str)(st:Stmt)(ps:List Str)(dd:List D)(f:Addr)(fd:FuncData):Prop where
 M:Meth K C x f
 F:FunD K x q st f fd
 b:Binds K fd ps []
 bd:∃(dv:List V) (du:List Value),Binds K fd ps du/\Vals dv du/\(∀P H,au K P H dd dv)/\dv.length=dd.length
noncomputable def Dp (t:String):Option Bool:=if t="int" then some false else if t="bool" then some true else if t="str" then some false else if t="list" then some false else if t="tuple" then some false else if t="NoneType" then some false else if t="dict" then some false else none
theorem Q9 {K:Fgx}:∀t b,Dp t=some b->PySem.W.kitOne K (.type t) (.type "bool")=some b:=by
 intro t b h;unfold Dp at h;split at h
 ·rename_i e;subst e;cases h;kernel_rfl
 split at h
 ·rename_i e;subst e;cases h;kernel_rfl
 split at h
 ·rename_i e;subst e;cases h;kernel_rfl
 split at h
 ·rename_i e;subst e;cases h;kernel_rfl
 split at h
 ·rename_i e;subst e;cases h;kernel_rfl
 split at h
 ·rename_i e;subst e;cases h;kernel_rfl
 split at h
 ·rename_i e;subst e;cases h;kernel_rfl
 cases h
noncomputable def Dq (t:String):Option Bool:=if t="int" then some true else if t="bool" then some true else if t="str" then some false else if t="list" then some false else if t="tuple" then some false else if t="NoneType" then some false else if t="dict" then some false else none
theorem Q_ {K:Fgx}:∀t b,Dq t=some b->PySem.W.kitOne K (.type t) (.type "int")=some b:=by
 intro t b h;unfold Dq at h;split at h
 ·rename_i e;subst e;cases h;kernel_rfl
 split at h
 ·rename_i e;subst e;cases h;kernel_rfl
 split at h
 ·rename_i e;subst e;cases h;kernel_rfl
 split at h
 ·rename_i e;subst e;cases h;kernel_rfl
 split at h
 ·rename_i e;subst e;cases h;kernel_rfl
 split at h
 ·rename_i e;subst e;cases h;kernel_rfl
 split at h
 ·rename_i e;subst e;cases h;kernel_rfl
 cases h
noncomputable def Dr (t:String):Option Bool:=if t="int" then some false else if t="bool" then some false else if t="str" then some false else if t="list" then some true else if t="tuple" then some false else if t="NoneType" then some false else if t="dict" then some false else none
theorem Ra {K:Fgx}:∀t b,Dr t=some b->PySem.W.kitOne K (.type t) (.type "list")=some b:=by
 intro t b h;unfold Dr at h;split at h
 ·rename_i e;subst e;cases h;kernel_rfl
 split at h
 ·rename_i e;subst e;cases h;kernel_rfl
 split at h
 ·rename_i e;subst e;cases h;kernel_rfl
 split at h
 ·rename_i e;subst e;cases h;kernel_rfl
 split at h
 ·rename_i e;subst e;cases h;kernel_rfl
 split at h
 ·rename_i e;subst e;cases h;kernel_rfl
 split at h
 ·rename_i e;subst e;cases h;kernel_rfl
 cases h
noncomputable def Ds (t:String):Option Bool:=if t="int" then some false else if t="bool" then some false else if t="str" then some true else if t="list" then some false else if t="tuple" then some false else if t="NoneType" then some false else if t="dict" then some false else none
theorem Rb {K:Fgx}:∀t b,Ds t=some b->PySem.W.kitOne K (.type t) (.type "str")=some b:=by
 intro t b h;unfold Ds at h;split at h
 ·rename_i e;subst e;cases h;kernel_rfl
 split at h
 ·rename_i e;subst e;cases h;kernel_rfl
 split at h
 ·rename_i e;subst e;cases h;kernel_rfl
 split at h
 ·rename_i e;subst e;cases h;kernel_rfl
 split at h
 ·rename_i e;subst e;cases h;kernel_rfl
 split at h
 ·rename_i e;subst e;cases h;kernel_rfl
 split at h
 ·rename_i e;subst e;cases h;kernel_rfl
 cases h
noncomputable def Dt (t:String):Option Bool:=if t="int" then some false else if t="bool" then some false else if t="str" then some false else if t="list" then some false else if t="tuple" then some true else if t="NoneType" then some false else if t="dict" then some false else none
theorem Rf {K:Fgx}:∀t b,Dt t=some b->PySem.W.kitOne K (.type t) (.type "tuple")=some b:=by
 intro t b h;unfold Dt at h;split at h
 ·rename_i e;subst e;cases h;kernel_rfl
 split at h
 ·rename_i e;subst e;cases h;kernel_rfl
 split at h
 ·rename_i e;subst e;cases h;kernel_rfl
 split at h
 ·rename_i e;subst e;cases h;kernel_rfl
 split at h
 ·rename_i e;subst e;cases h;kernel_rfl
 split at h
 ·rename_i e;subst e;cases h;kernel_rfl
 split at h
 ·rename_i e;subst e;cases h;kernel_rfl
 cases h
noncomputable def aL (t T:String):Option Bool:=if T="bool" then Dp t else if T="int" then Dq t else if T="list" then Dr t else if T="str" then Ds t else if T="tuple" then Dt t else none
theorem za1:aL "int" "bool"=some false:=by x_go
theorem zbs:aL "int" "int"=some true:=by x_go
theorem za0:aL "int" "list"=some false:=by x_go
theorem zbv:aL "int" "str"=some false:=by x_go
theorem zaL:aL "int" "tuple"=some false:=by x_go
theorem zaU:aL "bool" "bool"=some true:=by x_go
theorem za8:aL "bool" "int"=some true:=by x_go
theorem zaX:aL "bool" "list"=some false:=by x_go
theorem zaY:aL "bool" "str"=some false:=by x_go
theorem zaD:aL "bool" "tuple"=some false:=by x_go
theorem za6:aL "str" "bool"=some false:=by x_go
theorem zbj:aL "str" "int"=some false:=by x_go
theorem za2:aL "str" "list"=some false:=by x_go
theorem zbb:aL "str" "str"=some true:=by x_go
theorem zaN:aL "str" "tuple"=some false:=by x_go
theorem zaS:aL "list" "bool"=some false:=by x_go
theorem za7:aL "list" "int"=some false:=by x_go
theorem zaK:aL "list" "list"=some true:=by x_go
theorem za4:aL "list" "str"=some false:=by x_go
theorem zaF:aL "list" "tuple"=some false:=by x_go
theorem zaE:aL "tuple" "bool"=some false:=by x_go
theorem zaG:aL "tuple" "int"=some false:=by x_go
theorem zaB:aL "tuple" "list"=some false:=by x_go
theorem zaW:aL "tuple" "str"=some false:=by x_go
theorem zav:aL "tuple" "tuple"=some true:=by x_go
theorem zak:aL "NoneType" "bool"=some false:=by x_go
theorem zao:aL "NoneType" "int"=some false:=by x_go
theorem zai:aL "NoneType" "list"=some false:=by x_go
theorem zan:aL "NoneType" "str"=some false:=by x_go
theorem zag:aL "NoneType" "tuple"=some false:=by x_go
theorem zaR:aL "dict" "bool"=some false:=by x_go
theorem za5:aL "dict" "int"=some false:=by x_go
theorem zaQ:aL "dict" "list"=some false:=by x_go
theorem za9:aL "dict" "str"=some false:=by x_go
theorem zaC:aL "dict" "tuple"=some false:=by x_go
theorem wI {K:Fgx}:∀t T b,aL t T=some b->PySem.W.kitOne K (.type t) (.type T)=some b:=by
 intro t T b h;unfold aL at h;split at h
 ·rename_i e;subst e;exact Q9 t b h
 split at h
 ·rename_i e;subst e;exact Q_ t b h
 split at h
 ·rename_i e;subst e;exact Ra t b h
 split at h
 ·rename_i e;subst e;exact Rb t b h
 split at h
 ·rename_i e;subst e;exact Rf t b h
 cases h
abbrev Ah:Stmt:=top 31
theorem LR:FnScope ["fold","value"] ["fold","value"] (aR Ah):=eO
noncomputable def Ci:S:=(aq (aO (k_ (s2 (aG .eq) (aj 0) (ao (.str "count"))) (ao (.int 1)) (aj 1))) aC)
def wA:G:=cL 2 Ci
abbrev Aj:Stmt:=top 32
theorem Mf:FnScope ["fold","one","other"] ["fold","one","other"] (aR Aj):=eO
noncomputable def Ck:S:=(aq (cM (s2 (aG .eq) (aj 0) (ao (.str "most"))) (aq (aO (sN g_ (aD (aj 1) (aD (aj 2) aA)))) aC) aC) (aq (cM (s2 (aG .eq) (aj 0) (ao (.str "least"))) (aq (aO (sN gw (aD (aj 1) (aD (aj 2) aA)))) aC) aC) (aq (aO (s2 aX (aj 1) (aj 2))) aC)))
def wC:G:=cL 3 Ck
abbrev Ai:Stmt:=top 33
theorem L_:FnScope ["fold","values","parts","total","part"] ["fold","values"] (aR Ai):=eO
noncomputable def DK:S:=(aq (aM 3 (bZ wC (aD (aj 0) (aD (aj 3) (aD (aj 4) aA))))) aC)
def zc:E:=(bZ wA (aD (aj 1) (aD (aj 0) aA)))
noncomputable def Cj:S:=(aq (aM 2 (lO 1000 [("fold",0)] (aj 1) zc)) (aq (aM 3 (s2 aZ (aj 2) (ao (.int 0)))) (aq (dO 4 (bI (rF (aj 2) (nQ (ao (.int 1))) q_)) DK) (aq (aO (aj 3)) aC))))
def wB:G:=cL 5 Cj
abbrev Ag:Stmt:=top 34
theorem LQ:FnScope ["width","step","time","end","ends"] ["width","step","time"] (aR Ag):=eO
def G7:E:=(s2 (aG .gt) (aj 3) (aj 2))
noncomputable def wL:S:=(aq (kW 4 (aj 3)) (aq (kY 3 false (aj 1)) aC))
noncomputable def Cg:S:=(aq (aM 3 (s2 aX (s2 bW (aj 2) (s2 oMod (aj 2) (aj 1))) (aj 0))) (aq (tR 4 (bR aA)) (aq (xU 1000 G7 wL) (aq (kZ 4) (aq (aO (mW (aj 4))) aC)))))
def wz:G:=cL 5 Cg
abbrev Ao:Stmt:=top 37
theorem Ml:FnScope ["row","width","step"] ["row"] (aR Ao):=eO
noncomputable def yR:S:=(aq (aM 1 (sN dX (aD (s2 aZ (s2 aZ (aj 0) (ao (.int 3))) (ao (.int 0))) aA))) (aq (aM 2 (k_ (s2 (aG .eq) (s2 aZ (aj 0) (ao (.int 0))) (ao (.str "slide"))) (sN dX (aD (s2 aZ (s2 aZ (aj 0) (ao (.int 3))) (ao (.int 1))) aA)) (aj 1))) (aq (aO (cg (aD (aj 1) (aD (aj 2) (aD (s2 aZ (s2 aZ (aj 0) (ao (.int 3))) (s1 mQ (ao (.int 1)))) aA))))) aC)))
def i_:G:=cL 3 yR
abbrev tV:Stmt:=top 48
theorem LK:FnScope ["row","things","mark","window","values","thing","end"] ["row","things","mark"] (aR tV):=eO
theorem zab:LC tV "window":=by kernel_rfl
theorem zaa:LC tV "values":=by kernel_rfl
noncomputable def nH:E:=(s2 (aG .le) (s2 aZ (aj 0) (ao (.int 0))) (aj 1))
noncomputable def sI:E:=(cg (aD (s2 bW (s2 aZ (aj 0) (ao (.int 0))) (ao (.int 1))) (aD (s2 aZ (aj 0) (ao (.int 1))) (aD (bZ wB (aD (s2 aZ (aj 2) (ao (.int 2))) (aD (rC (aj 3) (aj 0)) aA))) aA))))
noncomputable def sS:S:=(aq (tO (rE (aj 4) (aD (aj 6) (aD (s2 aZ (aj 5) (ao (.int 1))) aA)) (xR (bR aA))) (s2 aZ (aj 5) (ao (.int 2)))) aC)
noncomputable def wK:S:=(aq (dO 6 (bI (bZ wz (aD (s2 aZ (aj 3) (ao (.int 0))) (aD (s2 aZ (aj 3) (ao (.int 1))) (aD (s2 aZ (aj 5) (ao (.int 0))) aA))))) sS) aC)
noncomputable def Ce:S:=(aq (aM 3 (bZ i_ (aD (aj 0) aA))) (aq (aM 4 Gg) (aq (dO 5 (bI (aj 1)) wK) (aq (aO (fj [("mark",2),("window",3),("values",4)] (fV (rD (aj 4))) nH sI)) aC))))
def wu:G:=cL 7 Ce
abbrev Ak:Stmt:=top 51
theorem Mi:FnScope ["row","feeds","mark"] ["row","feeds","mark"] (aR Ak):=eO
noncomputable def Cq:S:=(aq (cM (s2 (aG .eq) (s2 aZ (aj 0) (ao (.int 0))) (ao (.str "keep"))) (aq nU aC) aC) (aq (cM (s2 (aG .eq) (s2 aZ (aj 0) (ao (.int 0))) (ao (.str "turn"))) (aq nU aC) aC) (aq (cM (s2 (aG .eq) (s2 aZ (aj 0) (ao (.int 0))) (ao (.str "share"))) (aq nU aC) aC) (aq (cM (s2 (aG .isin) (s2 aZ (aj 0) (ao (.int 0))) (cg (aD (ao (.str "fixed")) (aD (ao (.str "slide")) aA)))) (aq (aO (bZ wu (aD (aj 0) (aD (s2 aZ (aj 1) (ao (.int 0))) (aD (aj 2) aA))))) aC) aC) (aq (cM (s2 (aG .eq) (s2 aZ (aj 0) (ao (.int 0))) (ao (.str "gap"))) (aq nU aC) aC) (aq (cM (s2 (aG .eq) (s2 aZ (aj 0) (ao (.int 0))) (ao (.str "join"))) (aq nU aC) aC) (aq nU aC)))))))
def wD:G:=cL 3 Cq
abbrev Am:Stmt:=top 52
theorem Mj:FnScope ["row","feeds","mark"] ["row","feeds","mark"] (aR Am):=eO
noncomputable def Cr:S:=(aq (aO (rG (bZ wD (aD (aj 0) (aD (aj 1) (aD (aj 2) aA)))))) aC)
def wF:G:=cL 3 Cr
abbrev z9:Stmt:=top 54
theorem Ln:FnScope ["_law_script","_law_k"] ["_law_script","_law_k"] (aR z9):=eO
noncomputable def BP:S:=(aq (cM (s2 (aG .lt) (aj 1) (sN c7 (aD (aj 0) aA))) (aq (aO (s2 aZ (aj 0) (aj 1))) aC) aC) (aq (aO (ao (.int 0))) aC))
def fJ:G:=cL 2 BP
abbrev Ac:Stmt:=top 55
theorem Ls:FnScope ["_law_cell","_law_k","_law_number"] ["_law_cell","_law_k"] (aR Ac):=eO
noncomputable def BZ:S:=(aq (aM 2 (s2 oMod (s2 cH (s2 aX (s2 aX (aj 0) (s2 cH (ao (.int 7919)) (aj 1))) (ao (.int 1))) (ao (.int 48271))) (ao (.int 2147483647)))) (aq (aO (s2 oMod (s2 cH (aj 2) (s2 aX (s2 fX (aj 2) (ao (.int 1009))) (ao (.int 69621)))) (ao (.int 2147483647)))) aC))
def vY:G:=cL 3 BZ
abbrev Aa:Stmt:=top 56
theorem Lq:FnScope ["_law_number","_law_which","_law_some","_law_word","_law_k","_law_at","_law_sign"] ["_law_number","_law_which"] (aR Aa):=eO
noncomputable def zB:S:=(aq (aM 3 (s2 aX (aj 3) (s2 aZ (aj 2) (s2 oMod (s2 fX (aj 0) (s2 aX (ao (.int 8)) (s2 cH (ao (.int 25)) (aj 4)))) (ao (.int 26)))))) aC)
noncomputable def BW:S:=(aq (aM 2 (ao (.str "abcdefghijklmnopqrstuvwxyz"))) (aq (aM 3 (ao (.str ""))) (aq (dO 4 (nM (aD (s2 aX (ao (.int 1)) (s2 oMod (aj 0) (ao (.int 8)))) aA)) zB) (aq (aM 5 (s2 oMod (s2 fX (aj 0) (ao (.int 8))) (sN c7 (aD (aj 3) aA)))) (aq (aM 6 (s2 aZ (aj 2) (s2 oMod (s2 aX (z8 yw (aj 2) (aD (s2 aZ (aj 3) (aj 5)) aA)) (aj 1)) (ao (.int 26))))) (aq (aO (s2 aX (s2 aX (rF (aj 3) q_ (nQ (aj 5))) (aj 6)) (rF (aj 3) (nQ (s2 aX (aj 5) (ao (.int 1)))) q_))) aC))))))
def vV:G:=cL 7 BW
abbrev Af:Stmt:=top 57
theorem Lz:FnScope ["_law_number"] ["_law_number"] (aR Af):=eO
noncomputable def Cd:S:=(aq (cM (s2 (aG .eq) (s2 oMod (aj 0) (ao (.int 4))) (ao (.int 3))) (aq (aO (s2 bW (s2 oMod (s2 eZ (aj 0) (ao (.int 10))) (s2 aX (s2 cH (ao (.int 2)) (s2 eZ (ao (.int 10)) (ao (.int 60)))) (ao (.int 1)))) (s2 eZ (ao (.int 10)) (ao (.int 60))))) aC) aC) (aq (aO (s2 bW (s2 oMod (s2 fX (aj 0) (ao (.int 4))) (ao (.int 41))) (ao (.int 20)))) aC))
def wj:G:=cL 1 Cd
abbrev xV:Stmt:=top 58
theorem Ly:FnScope ["_law_script","_law_far","_law_found","_law_k","_law_number","_law_key_here"] ["_law_script","_law_far"] (aR xV):=eO
theorem Nx:LV xV "_law_found":=by kernel_rfl
noncomputable def Dz:S:=(aq (aM 4 (bZ vY (aD (bZ fJ (aD (aj 0) (aD (s2 aX (ao (.int 5)) (aj 3)) aA))) (aD (aj 3) aA)))) (aq (aM 5 (bZ vV (aD (s2 oMod (bZ fJ (aD (aj 0) (aD (ao (.int 1)) aA))) (ao (.int 1000003))) (aD (s2 oMod (s2 fX (aj 4) (ao (.int 120))) (ao (.int 3))) aA)))) (aq (kW 2 (cg (aD (s2 aX (s2 cH (s2 oMod (aj 4) (ao (.int 40))) (aj 1)) (s2 oMod (s2 fX (aj 4) (ao (.int 40))) (ao (.int 3)))) (aD (aj 5) (aD (bZ wj (aD (s2 fX (aj 4) (ao (.int 360))) aA)) aA))))) aC)))
noncomputable def Ca:S:=(aq (tR 2 (bR aA)) (aq (dO 3 (nM (aD (s2 oMod (s2 fX (bZ fJ (aD (aj 0) (aD (ao (.int 0)) aA))) (ao (.int 3))) (ao (.int 9))) aA)) Dz) (aq (cM (s2 (aG .eq) (s2 oMod (bZ fJ (aD (aj 0) (aD (ao (.int 1)) aA))) (ao (.int 3))) (ao (.int 2))) (aq (tR 2 (s2 kj (tU 2) (rF (tU 2) q_ (nQ (ao (.int 1)))))) aC) aC) (aq (kZ 2) (aq (aO (aj 2)) aC)))))
def wg:G:=cL 6 Ca
abbrev Ab:Stmt:=top 59
theorem Lr:FnScope ["_law_cell","_law_width","_law_step"] ["_law_cell","_law_width","_law_step"] (aR Ab):=eO
noncomputable def BX:S:=(aq (cM (s2 (aG .eq) (s2 oMod (aj 0) (ao (.int 4))) (ao (.int 0))) (aq (aO (s2 eZ (ao (.int 10)) (ao (.int 15)))) aC) aC) (aq (cM (s2 (aG .eq) (s2 oMod (aj 0) (ao (.int 4))) (ao (.int 3))) (aq (aO (s2 oMod (s2 fX (aj 0) (ao (.int 4))) (sN gw (aD (s2 cH (ao (.int 60)) (aj 2)) (aD (s2 aX (s2 eZ (ao (.int 10)) (ao (.int 12))) (ao (.int 1))) aA))))) aC) aC) (aq (aO (s2 bW (s2 aX (s2 cH (s2 oMod (s2 fX (aj 0) (ao (.int 4))) (ao (.int 12))) (aj 2)) (aj 1)) (s2 oMod (s2 fX (aj 0) (ao (.int 48))) (ao (.int 2))))) aC)))
def vX:G:=cL 3 BX
abbrev z_:Stmt:=top 60
theorem Lp:FnScope ["_law_fold_here","_law_values"] ["_law_fold_here","_law_values"] (aR z_):=eO
noncomputable def BR:S:=(aq (cM (s2 (aG .eq) (aj 0) (ao (.str "sum"))) (aq (aO (sN h_ (aD (aj 1) aA))) aC) aC) (aq (cM (s2 (aG .eq) (aj 0) (ao (.str "count"))) (aq (aO (sN c7 (aD (aj 1) aA))) aC) aC) (aq (cM (s2 (aG .eq) (aj 0) (ao (.str "most"))) (aq (aO (sN vq (aD (aj 1) aA))) aC) aC) (aq (aO (sN vD (aD (aj 1) aA))) aC))))
def vU:G:=cL 2 BR
abbrev Ae:Stmt:=top 61
theorem Lx:FnScope ["_law_found","_law_number"] ["_law_found"] (aR Ae):=eO
noncomputable def RJ:S:=(aq (cM (lQ (fB (eG (fu aL "int" (aj 1)))) (eG (fu aL "bool" (aj 1)))) (aq (aO (ao (.bl false))) aC) aC) aC)
noncomputable def H_:S:=(aq (cM (lQ (fB (eG (fu aL "tuple" (aj 0)))) (lQ (s2 (aG .ne) (sN c7 (aD (aj 0) aA)) (ao (.int 3))) (fB (eG (fu aL "str" (s2 aZ (aj 0) (ao (.int 1)))))))) (aq (aO (ao (.bl false))) aC) aC) (aq (dO 1 (bI (bR (aD (s2 aZ (aj 0) (ao (.int 0))) (aD (s2 aZ (aj 0) (ao (.int 2))) aA)))) RJ) (aq (aO (ao (.bl true))) aC)))
def zj:G:=cL 2 H_
abbrev rH:Stmt:=top 62
theorem Lw:FnScope ["_law_found","_law_things_here","_law_width","_law_step","_law_fold_here","_law_mark_here","_law_k","_law_time","_law_key_here","_law_value_here","_law_start","_law_own","_law_due"] ["_law_found","_law_things_here","_law_width","_law_step","_law_fold_here","_law_mark_here"] (aR rH):=eO
theorem Nv:LC rH "_law_time":=by kernel_rfl
theorem Nu:LC rH "_law_key_here":=by kernel_rfl
theorem zac:LC rH "_law_start":=by kernel_rfl
def Ea:S:=(aq (aO (ao (.bl true))) aC)
noncomputable def vJ:E:=(eE (s2 (aG .eq) (s2 aZ (aj 0) (ao (.int 1))) (aj 1)) (dH .lt .le (s2 bW (s2 aZ (aj 0) (ao (.int 0))) (aj 3)) (aj 2) (s2 aZ (aj 0) (ao (.int 0)))))
def vO:E:=(aj 0)
noncomputable def zK:S:=(aq (cM (s2 (aG .ne) (sN c7 (aD (fj [("_law_key_here",8),("_law_time",7),("_law_width",2)] (bI (aj 0)) vJ vO) aA)) (aj 12)) (aq (aO (ao (.bl false))) aC) aC) aC)
noncomputable def zE:S:=(aq (aM 12 (sN g_ (aD (ao (.int 0)) (aD (s2 bW (s2 mO (sN gw (aD (aj 7) (aD (s2 bW (aj 5) (aj 2)) aA))) (aj 3)) (s2 mO (s2 bW (aj 7) (aj 2)) (aj 3))) aA)))) zK)
noncomputable def D_:S:=(aq (xT [7,8,9] (bI (aj 1)) zE) Ea)
noncomputable def zJ:S:=(aq (cM (lQ (s2 (aG .eq) (aj 11) (bR aA)) (s2 (aG .ne) (aj 9) (bZ vU (aD (aj 4) (aD (aj 11) aA))))) (aq (aO (ao (.bl false))) aC) aC) aC)
noncomputable def pL:E:=(eE (s2 (aG .eq) (s2 aZ (aj 0) (ao (.int 1))) (aj 1)) (dH .le .le (aj 2) (s2 aZ (aj 0) (ao (.int 0))) (aj 3)))
def sH:E:=(s2 aZ (aj 0) (ao (.int 2)))
noncomputable def zH:S:=(aq (aM 11 (fj [("_law_key_here",8),("_law_start",10),("_law_time",7)] (bI (aj 1)) pL sH)) zJ)
noncomputable def Kp:S:=(aq (cM (lQ (eE (s2 (aG .gt) (aj 6) (ao (.int 0))) (s2 gG (mX (s2 aZ (aj 0) (s2 bW (aj 6) (ao (.int 1)))) q_ (nQ (ao (.int 2)))) (cg (aD (aj 7) (aD (aj 8) aA))))) (lQ (s2 (aG .ge) (aj 7) (aj 5)) (s2 (aG .ne) (s2 oMod (aj 10) (aj 3)) (ao (.int 0))))) (aq (aO (ao (.bl false))) aC) aC) zH)
noncomputable def Ko:S:=(aq (aM 10 (s2 bW (s2 aX (aj 7) (ao (.int 1))) (aj 2))) Kp)
noncomputable def wJ:S:=(aq (mY [7,8,9] (s2 aZ (aj 0) (aj 6))) Ko)
noncomputable def B_:S:=(aq (dO 6 (nM (aD (sN c7 (aD (aj 0) aA)) aA)) wJ) D_)
def vZ:G:=cL 13 B_
abbrev lg:Stmt:=top 63
theorem Ma:FnScope ["_law_script","_law_far","_law_things_here","_law_fold_here","_law_step","_law_width","_law_row","_law_mark_here","_law_handed","_law_found"] ["_law_script"] (aR lg):=eO
noncomputable def zQ:S:=(aq (aO (eE (s2 (aG .eq) (aj 8) (bR (aD (aj 2) aA))) (bZ vZ (aD (aj 9) (aD (aj 2) (aD (aj 5) (aD (aj 4) (aD (aj 3) (aD (aj 7) aA))))))))) aC)
def Cu:E:=(fB (eG (bZ zj (aD (aj 0) aA))))
def Jm:E:=(aj 0)
noncomputable def zP:S:=(aq (cM (lQ (fB (eG (fu aL "list" (aj 9)))) (s2 (aG .ne) (fj [] (bI (aj 9)) Cu Jm) (bR aA))) (aq (aO (ao (.bl false))) aC) aC) zQ)
noncomputable def En:S:=(aq (aM 9 (bZ wF (aD (aj 6) (aD (aj 8) (aD (aj 7) aA))))) zP)
def Em:S:=(aq (aM 8 (bR (aD (tQ (aj 2)) aA))) En)
noncomputable def zR:S:=(aq (aM 7 (bZ vX (aD (bZ fJ (aD (aj 0) (aD (ao (.int 4)) aA))) (aD (aj 5) (aD (aj 4) aA))))) Em)
noncomputable def El:S:=(aq (cM (s2 (aG .eq) (s2 oMod (s2 fX (bZ fJ (aD (aj 0) (aD (ao (.int 2)) aA))) (ao (.int 4))) (ao (.int 2))) (ao (.int 1))) (aq (aM 5 (s2 aX (ao (.int 1)) (s2 oMod (bZ fJ (aD (aj 0) (aD (ao (.int 3)) aA))) (s2 cH (ao (.int 20)) (aj 1))))) (aq (aM 4 (aj 5)) (aq (aM 6 (cg (aD (ao (.str "fixed")) (aD (ao (.str "w")) (aD (cg (aD (ao (.str "a")) aA)) (aD (cg (aD (sN fP (aD (aj 5) aA)) (aD (aj 3) aA))) aA)))))) aC))) aC) zR)
noncomputable def Ej:S:=(aq (aM 6 (cg (aD (ao (.str "slide")) (aD (ao (.str "w")) (aD (cg (aD (ao (.str "a")) aA)) (aD (cg (aD (sN fP (aD (aj 5) aA)) (aD (sN fP (aD (aj 4) aA)) (aD (aj 3) aA)))) aA)))))) El)
noncomputable def Eh:S:=(aq (aM 5 (s2 aX (aj 4) (s2 oMod (bZ fJ (aD (aj 0) (aD (ao (.int 3)) aA))) (s2 aX (s2 cH (ao (.int 7)) (aj 4)) (ao (.int 1)))))) Ej)
noncomputable def Ef:S:=(aq (aM 4 (s2 cH (s2 aX (ao (.int 1)) (s2 oMod (s2 fX (bZ fJ (aD (aj 0) (aD (ao (.int 2)) aA))) (ao (.int 8))) (ao (.int 10)))) (aj 1))) Eh)
noncomputable def Ed:S:=(aq (aM 3 (s2 aZ (bR (aD (ao (.str "sum")) (aD (ao (.str "count")) (aD (ao (.str "most")) (aD (ao (.str "least")) aA))))) (s2 oMod (bZ fJ (aD (aj 0) (aD (ao (.int 2)) aA))) (ao (.int 4))))) Ef)
noncomputable def Ec:S:=(aq (aM 2 (bZ wg (aD (aj 0) (aD (aj 1) aA)))) Ed)
noncomputable def yQ:S:=(aq (aM 1 (s2 aZ (bR (aD (ao (.int 1)) (aD (ao (.int 1)) (aD (s2 aX (s2 eZ (ao (.int 10)) (ao (.int 9))) (ao (.int 7))) aA)))) (s2 oMod (bZ fJ (aD (aj 0) (aD (ao (.int 0)) aA))) (ao (.int 3))))) Ec)
def JH:G:=cL 10 yQ
section
variable {P:Program}{w:World}{K:Fgx}{mg:Mgx}{C:Ad}{base:Heap}{k k0:Nat}{f:Addr}
theorem Yl (T:Txt K mg C w):RT P w K mg base k f ["fold","value"] "first_of" Ah Ci:=fun cdv A outer s H E hr=>by
 refine eN hr fun hu=>?_;have nd:=(LR).nd;exact aH (bT (Ms (Ct hu Sv Es) Ei Sv)) aP
theorem Yx (T:Txt K mg C w):RT P w K mg base k f ["fold","one","other"] "merged" Aj Ck:=fun cdv A outer s H E hr=>by
 refine eN hr fun hu=>?_;have nd:=(Mf).nd;have B_max:=T.blt "max" (by x_go);have B_min:=T.blt "min" (by x_go);refine aH (dI (Ct hu Sv Es) (aH (bT (gj (Im rfl) rfl B_max boot_max Le (aF Sv (aF Sv aQ aV) aV))) aP) aP) ?_;refine aH (dI (Ct hu Sv Es) (aH (bT (gj (Cv rfl) rfl B_min boot_min Fb (aF Sv (aF Sv aQ aV) aV))) aP) aP) ?_;exact aH (bT (aJ dD dF Sv Sv)) aP
theorem Ym (T:Txt K mg C w)(a_first_of:bx P w K mg base k "first_of" 2 wA)(a_merged:bx P w K mg base k "merged" 3 wC):RT P w K mg base k f ["fold","values","parts","total","part"] "folded" Ai Cj:=fun cdv A outer s H E hr=>by
 refine eN hr fun hu=>?_;have nd:=(L_).nd;refine aH (zar 1000 "value" [("fold",0)] (i:=2) nd rfl Lv rfl (by x_go) Sv (fun _ _ _ _ _ _=>(cI a_first_of hr rfl (aF (bJ rfl (.inr (.inl (by kernel_rfl)))) (aF (bJ rfl (.inl (by kernel_rfl))) aQ aV) aV) (cnt_cons (cnt_cons cnt_nil))))) ?_;refine aH (cj (i:=3) nd rfl Lv (Ek Sv Ei)) ?_;refine aH (rN xbB rfl nd rfl Lv (nW (Av Sv (yg (Wx:=W0) Ei) yh)) (aH (cj (i:=3) nd rfl Lv (cI a_merged hr rfl (aF (bJ rfl (.inr Lu)) (aF Sv (aF Sv aQ aV) aV) aV) (cnt_cons (cnt_cons (cnt_cons cnt_nil))))) aP)) ?_;exact aH (bT Sv) aP
theorem Yk (T:Txt K mg C w):RT P w K mg base k f ["width","step","time","end","ends"] "ends_of" Ag Cg:=fun cdv A outer s H E hr=>by
 refine eN hr fun hu=>?_;have nd:=(LQ).nd;have B_list:=T.blt "list" (by x_go);have B_reversed:=T.blt "reversed" (by x_go);refine aH (cj (i:=3) nd rfl Lv (aJ dD dF (aJ kI kO Sv (aJ cB cC Sv Sv)) Sv)) ?_;refine aH (Gw (i:=4) nd rfl Lv (lU aQ)) ?_;refine aH (zas 1000 xbB (Ct hu Sv Sv) (aH (MP rfl Lu Sv) (aH (zbi (sg:=false) (i:=3) Q5 nd rfl Lv Sv) aP))) ?_;refine Lk ?_;exact aH (bT (SN.sem (ZV rfl rfl B_list rfl B_reversed Sv) R9)) aP
theorem Y0 (T:Txt K mg C w):RT P w K mg base k f ["row","width","step"] "window_of" Ao yR:=fun cdv A outer s H E hr=>by
 refine eN hr fun hu=>?_;have nd:=(Ml).nd;have B_int:=T.blt "int" (by x_go);refine aH (cj (i:=1) nd rfl Lv (xW Il rfl B_int boot_int Ld (aF (Ek (Ek Sv Ei) Ei) aQ gk))) ?_;refine aH (cj (i:=2) nd rfl Lv (Ms (Ct hu (Ek Sv Ei) Es) (xW Il rfl B_int boot_int Ld (aF (Ek (Ek Sv Ei) Ei) aQ gk)) Sv)) ?_;exact aH (bT (lq (aF Sv (aF Sv (aF (Ek (Ek Sv Ei) (Zz zbp Wm Ei)) aQ gk) aV) aV))) aP
theorem Yb (T:Txt K mg C w)(a_folded:bx P w K mg base k "folded" 2 wB)(a_ends_of:bx P w K mg base k "ends_of" 3 wz)(a_window_of:bx P w K mg base k "window_of" 1 i_):RT P w K mg base k f ["row","things","mark","window","values","thing","end"] "closed_windows" tV Ce:=fun cdv A outer s H E hr=>by
 refine eN hr fun hu=>?_;have nd:=(LK).nd;refine aH (cj (i:=3) nd rfl (.inr zab) (cI a_window_of hr rfl (aF Sv aQ aV) (cnt_cons cnt_nil))) ?_;refine aH (cj (i:=4) nd rfl (.inr zaa) Zq) ?_;refine aH (rN xbB rfl nd rfl Lv (nW Sv) (aH (rN xbB rfl nd rfl Lv (nW (cI a_ends_of hr rfl (aF (Ek (bJ rfl (.inr Lu)) Ei) (aF (Ek (bJ rfl (.inr Lu)) Ei) (aF (Ek Sv Ei) aQ gk) gk) gk) (cnt_cons (cnt_cons (cnt_cons cnt_nil))))) (aH (Z_ (Zx hu (bJ rfl (.inr Lu)) (aF Sv (aF (Ek Sv Ei) aQ gk) aV) (Zn (lU aQ))) (Ek Sv Ei)) aP)) aP)) ?_;exact aH (bT (SN.sem (Gq "place" [("mark",2),("window",3),("values",4)] rfl (by x_go) (ZD (Zu (bJ rfl (.inr Lu)))) (fun _ _ _ _ _ _=>(A_ (yj (pP (X:=cW _ _ _ _ _ _ _ _ _) hu .le) xH (Ek (bJ rfl (.inl (by kernel_rfl))) Ei) (bJ rfl (.inr (.inl (by kernel_rfl))))))) (fun _ _ _ _ _ _=>(lq (aF (aJ kI kO (Ek (bJ rfl (.inl (by kernel_rfl))) Ei) Ei) (aF (Ek (bJ rfl (.inl (by kernel_rfl))) Ei) (aF (cI a_folded hr rfl (aF (Ek (bJ rfl (.inr (.inl (by kernel_rfl)))) Ei) (aF (Zr hu (bJ rfl (.inr (.inl (by kernel_rfl)))) (bJ rfl (.inl (by kernel_rfl)))) aQ gk) gk) (cnt_cons (cnt_cons cnt_nil))) aQ m7) gk) gK)))) yU)) aP
theorem YT (T:Txt K mg C w)(a_closed_windows:bx P w K mg base k "closed_windows" 3 wu):RT P w K mg base k f ["row","feeds","mark"] "told_in_any_order" Ak Cq:=fun cdv A outer s H E hr=>by
 refine eN hr fun hu=>?_;have nd:=(Mi).nd;refine aH (dI (Ct hu (Ek Sv Ei) Es) (aH t_ aP) aP) ?_;refine aH (dI (Ct hu (Ek Sv Ei) Es) (aH t_ aP) aP) ?_;refine aH (dI (Ct hu (Ek Sv Ei) Es) (aH t_ aP) aP) ?_;refine aH (dI (Ct hu (Ek Sv Ei) (lq (aF Es (aF Es aQ cU) cU))) (aH (bT (cI a_closed_windows hr rfl (aF Sv (aF (Ek Sv Ei) (aF Sv aQ aV) gk) aV) (cnt_cons (cnt_cons (cnt_cons cnt_nil))))) aP) aP) ?_;refine aH (dI (Ct hu (Ek Sv Ei) Es) (aH t_ aP) aP) ?_;refine aH (dI (Ct hu (Ek Sv Ei) Es) (aH t_ aP) aP) ?_;refine aH ?_ ?_
 ·exact t_
 exact aP
theorem YW (T:Txt K mg C w)(a_told_in_any_order:bx P w K mg base k "told_in_any_order" 3 wD):RT P w K mg base k f ["row","feeds","mark"] "told_of" Am Cr:=fun cdv A outer s H E hr=>by
 refine eN hr fun hu=>?_;have nd:=(Mj).nd;have B_sorted:=T.blt "sorted" (by x_go);exact aH (bT (SN.sem (ZW rfl B_sorted (cI a_told_in_any_order hr rfl (aF Sv (aF Sv (aF Sv aQ aV) aV) aV) (cnt_cons (cnt_cons (cnt_cons cnt_nil))))) Z6)) aP
theorem Xw (T:Txt K mg C w):RT P w K mg base k f ["_law_script","_law_k"] "_law_cell_at" z9 BP:=fun cdv A outer s H E hr=>by
 refine eN hr fun hu=>?_;have nd:=(Ln).nd;have B_len:=T.blt "len" (by x_go);refine aH (dI (Ct hu Sv (gj sE rfl B_len xcn tL (aF Sv aQ aV))) (aH (bT (Ek Sv Sv)) aP) aP) ?_;exact aH (bT Ei) aP
theorem XC (T:Txt K mg C w):RT P w K mg base k f ["_law_cell","_law_k","_law_number"] "_law_mixed" Ac BZ:=fun cdv A outer s H E hr=>by
 refine eN hr fun hu=>?_;have nd:=(Ls).nd;refine aH (cj (i:=2) nd rfl Lv (aJ cB cC (aJ kE kJ (aJ dD dF (aJ dD dF Sv (aJ kE kJ Ei Sv)) Ei) Ei) Ei)) ?_;exact aH (bT (aJ cB cC (aJ kE kJ Sv (aJ dD dF (aJ gH gJ Sv Ei) Ei)) Ei)) aP
theorem Xy (T:Txt K mg C w):RT P w K mg base k f ["_law_number","_law_which","_law_some","_law_word","_law_k","_law_at","_law_sign"] "_law_key" Aa BW:=fun cdv A outer s H E hr=>by
 refine eN hr fun hu=>?_;have nd:=(Lq).nd;have B_len:=T.blt "len" (by x_go);have B_range:=T.blt "range" (by x_go);refine aH (cj (i:=2) nd rfl Lv Es) ?_;refine aH (cj (i:=3) nd rfl Lv Es) ?_;refine aH (rN xbB rfl nd rfl Lv (Gn rfl B_range (aF (aJ dD dF Ei (aJ cB cC Sv Ei)) aQ gK)) (aH (cj (i:=3) nd rfl Lv (aJ dD dF Sv (Ek Sv (aJ cB cC (aJ gH gJ Sv (aJ dD dF Ei (aJ kE kJ Ei Sv))) Ei)))) aP)) ?_;refine aH (cj (i:=5) nd rfl Lv (aJ cB cC (aJ gH gJ Sv Ei) (gj sE rfl B_len xcn tL (aF Sv aQ aV)))) ?_;refine aH (cj (i:=6) nd rfl Lv (Ek Sv (aJ cB cC (aJ dD dF (Zv PySem.F.slot_str_index PySem.F.type_str_index SJ Wh Sv (aF (Ek Sv Sv) aQ gk)) Sv) Ei))) ?_;exact aH (bT (aJ dD dF (aJ dD dF (Av Sv yh (yg (Wx:=W0) Sv)) Sv) (Av Sv (yg (Wx:=W0) (aJ dD dF Sv Ei)) yh))) aP
theorem XJ (T:Txt K mg C w):RT P w K mg base k f ["_law_number"] "_law_value" Af Cd:=fun cdv A outer s H E hr=>by
 refine eN hr fun hu=>?_;have nd:=(Lz).nd;refine aH (dI (Ct hu (aJ cB cC Sv Ei) Ei) (aH (bT (aJ kI kO (aJ cB cC (aJ tK tM Sv Ei) (aJ dD dF (aJ kE kJ Ei (aJ tK tM Ei Ei)) Ei)) (aJ tK tM Ei Ei))) aP) aP) ?_;exact aH (bT (aJ kI kO (aJ cB cC (aJ gH gJ Sv Ei) Ei) Ei)) aP
theorem XH (T:Txt K mg C w)(a__cell_at:bx P w K mg base k "_law_cell_at" 2 fJ)(a__mixed:bx P w K mg base k "_law_mixed" 2 vY)(a__key:bx P w K mg base k "_law_key" 2 vV)(a__value:bx P w K mg base k "_law_value" 1 wj):RT P w K mg base k f ["_law_script","_law_far","_law_found","_law_k","_law_number","_law_key_here"] "_law_things" xV Ca:=fun cdv A outer s H E hr=>by
 refine eN hr fun hu=>?_;have nd:=(Ly).nd;have B_range:=T.blt "range" (by x_go);refine aH (Gw (i:=2) nd rfl Lv (lU aQ)) ?_;refine aH (rN xbB rfl nd rfl Lv (Gn rfl B_range (aF (aJ cB cC (aJ gH gJ (cI a__cell_at hr rfl (aF Sv (aF Ei aQ cU) aV) (cnt_cons (cnt_cons cnt_nil))) Ei) Ei) aQ gK)) (aH (cj (i:=4) nd rfl Lv (cI a__mixed hr rfl (aF (cI a__cell_at hr rfl (aF Sv (aF (aJ dD dF Ei Sv) aQ gK) aV) (cnt_cons (cnt_cons cnt_nil))) (aF Sv aQ aV) m7) (cnt_cons (cnt_cons cnt_nil)))) (aH (cj (i:=5) nd rfl Lv (cI a__key hr rfl (aF (aJ cB cC (cI a__cell_at hr rfl (aF Sv (aF Ei aQ cU) aV) (cnt_cons (cnt_cons cnt_nil))) Ei) (aF (aJ cB cC (aJ gH gJ Sv Ei) Ei) aQ gK) gK) (cnt_cons (cnt_cons cnt_nil)))) (aH (MP rfl Lu (lq (aF (aJ dD dF (aJ kE kJ (aJ cB cC Sv Ei) Sv) (aJ cB cC (aJ gH gJ Sv Ei) Ei)) (aF Sv (aF (cI a__value hr rfl (aF (aJ gH gJ Sv Ei) aQ gK) (cnt_cons cnt_nil)) aQ m7) aV) gK))) aP)))) ?_;refine aH (dI (Ct hu (aJ cB cC (cI a__cell_at hr rfl (aF Sv (aF Ei aQ cU) aV) (cnt_cons (cnt_cons cnt_nil))) Ei) Ei) (aH (Gw (i:=2) nd rfl Lv (ZR (Mu rfl (Nx)) (Av (Mu rfl (Nx)) yh (yg (Wx:=W0) Ei)))) aP) aP) ?_;refine Lk ?_;exact aH (bT Sv) aP
theorem Xz (T:Txt K mg C w):RT P w K mg base k f ["_law_cell","_law_width","_law_step"] "_law_mark" Ab BX:=fun cdv A outer s H E hr=>by
 refine eN hr fun hu=>?_;have nd:=(Lr).nd;have B_min:=T.blt "min" (by x_go);refine aH (dI (Ct hu (aJ cB cC Sv Ei) Ei) (aH (bT (aJ tK tM Ei Ei)) aP) aP) ?_;refine aH (dI (Ct hu (aJ cB cC Sv Ei) Ei) (aH (bT (aJ cB cC (aJ gH gJ Sv Ei) (gj (Cv rfl) rfl B_min boot_min Fb (aF (aJ kE kJ Ei Sv) (aF (aJ dD dF (aJ tK tM Ei Ei) Ei) aQ gK) gK)))) aP) aP) ?_;exact aH (bT (aJ kI kO (aJ dD dF (aJ kE kJ (aJ cB cC (aJ gH gJ Sv Ei) Ei) Sv) Sv) (aJ cB cC (aJ gH gJ Sv Ei) Ei))) aP
theorem Xx (T:Txt K mg C w):RT P w K mg base k f ["_law_fold_here","_law_values"] "_law_fold" z_ BR:=fun cdv A outer s H E hr=>by
 refine eN hr fun hu=>?_;have nd:=(Lp).nd;have B_len:=T.blt "len" (by x_go);have B_max:=T.blt "max" (by x_go);have B_min:=T.blt "min" (by x_go);have B_sum:=T.blt "sum" (by x_go);refine aH (dI (Ct hu Sv Es) (aH (bT (gj (O7 rfl) rfl B_sum boot_sum Wn (aF Sv aQ aV))) aP) aP) ?_;refine aH (dI (Ct hu Sv Es) (aH (bT (gj sE rfl B_len xcn tL (aF Sv aQ aV))) aP) aP) ?_;refine aH (dI (Ct hu Sv Es) (aH (bT (gj (O4 rfl) rfl B_max boot_max Wj (aF Sv aQ aV))) aP) aP) ?_;exact aH (bT (gj (O5 rfl) rfl B_min boot_min Wl (aF Sv aQ aV))) aP
theorem XF (T:Txt K mg C w):RT P w K mg base k f ["_law_found","_law_number"] "_law_thing" Ae H_:=fun cdv A outer s H E hr=>by
 refine eN hr fun hu=>?_;have nd:=(Lx).nd;have B_bool:=T.blt "bool" (by x_go);have B_int:=T.blt "int" (by x_go);have B_isinstance:=T.blt "isinstance" (by x_go);have B_len:=T.blt "len" (by x_go);have B_str:=T.blt "str" (by x_go);have B_tuple:=T.blt "tuple" (by x_go);refine aH (dI (SW.st (rO (yp (uc (xX (T:="tuple") (fun t b h=>wI t "tuple" b h) Sv rfl B_isinstance rfl B_tuple boot_tuple))) (rO (Ct hu (gj sE rfl B_len xcn tL (aF Sv aQ aV)) Ei) (yr (yp (uc (xX (T:="str") (fun t b h=>wI t "str" b h) (Ek Sv Ei) rfl B_isinstance rfl B_str boot_str))))))) (aH (bT Eb) aP) aP) ?_;refine aH (rN xbB rfl nd rfl Lv (nW (SN.sem (lU (aF (Ek Sv Ei) (aF (Ek Sv Ei) aQ gk) gk)) lst_is)) (aH (dI (SW.st (rO (yp (uc (xX (T:="int") (fun t b h=>wI t "int" b h) Sv rfl B_isinstance rfl B_int boot_int))) (yr (uc (xX (T:="bool") (fun t b h=>wI t "bool" b h) Sv rfl B_isinstance rfl B_bool boot_bool))))) (aH (bT Eb) aP) aP) aP)) ?_;exact aH (bT Eb) aP
theorem XD (T:Txt K mg C w)(a__fold:bx P w K mg base k "_law_fold" 2 vU):RT P w K mg base k f ["_law_found","_law_things_here","_law_width","_law_step","_law_fold_here","_law_mark_here","_law_k","_law_time","_law_key_here","_law_value_here","_law_start","_law_own","_law_due"] "_law_right" rH B_:=fun cdv A outer s H E hr=>by
 refine eN hr fun hu=>?_;have nd:=(Lw).nd;have B_len:=T.blt "len" (by x_go);have B_max:=T.blt "max" (by x_go);have B_min:=T.blt "min" (by x_go);have B_range:=T.blt "range" (by x_go);refine aH (rN xbB rfl nd rfl Lv (Gn rfl B_range (aF (gj sE rfl B_len xcn tL (aF Sv aQ aV)) aQ m7)) (aH (zba rfl (tY (i:=7) nd rfl (.inr Nv) (tY (i:=8) nd rfl (.inr Nu) (tY (i:=9) nd rfl Lv Mv))) (Ek Sv Sv)) (aH (cj (i:=10) nd rfl (.inr zac) (aJ kI kO (aJ dD dF (bJ rfl (.inr Lu)) Ei) (bJ rfl (.inr Lu)))) (aH (dI (SW.st (rO (SW.st (Gz (Ct hu Sv Ei) (GC (zbd hu (Zy (Ek Sv (aJ kI kO Sv Ei)) yh (yg (Wx:=W0) Ei)) (lq (aF (bJ rfl (.inr Lu)) (aF (bJ rfl (.inr Lu)) aQ aV) aV)))))) (rO (Ct hu (bJ rfl (.inr Lu)) Sv) (yr (Ct hu (aJ cB cC (bJ rfl (.inr Lu)) Sv) Ei))))) (aH (bT Eb) aP) aP) (aH (zaH "_law_thing_here" [("_law_key_here",8),("_law_start",10),("_law_time",7)] (i:=11) nd rfl Lv rfl (by x_go) (nW Sv) (fun _ _ _ _ _ _=>(A_ (SW.st (Gz (yj (pP (X:=cW _ _ _ _ _ _ _ _ _) hu .eq) xH (Ek (bJ rfl (.inl (by kernel_rfl))) Ei) (bJ rfl (.inr (.inl (by kernel_rfl))))) (GC (M6 (c1:=.le) (c2:=.le) hu (bJ rfl (.inr (.inl (by kernel_rfl)))) (Ek (bJ rfl (.inl (by kernel_rfl))) Ei) (bJ rfl (.inr (.inl (by kernel_rfl)))))))))) (fun _ _ _ _ _ _=>(Ek (bJ rfl (.inl (by kernel_rfl))) Ei))) (aH (dI (SW.st (rO (Ct hu Sv (SN.sem (lU aQ) lst_is)) (yr (Ct hu Sv (cI a__fold hr rfl (aF Sv (aF Sv aQ aV) aV) (cnt_cons (cnt_cons cnt_nil))))))) (aH (bT Eb) aP) aP) aP)))))) ?_;refine aH (zaO xbB rfl (tY (i:=7) nd rfl (.inr Nv) (tY (i:=8) nd rfl (.inr Nu) (tY (i:=9) nd rfl Lv Mv))) (nW Sv) (aH (cj (i:=12) nd rfl Lv (gj (Im rfl) rfl B_max boot_max Le (aF Ei (aF (aJ kI kO (aJ KQ Lb (gj (Cv rfl) rfl B_min boot_min Fb (aF (bJ rfl (.inr Lu)) (aF (aJ kI kO Sv (bJ rfl (.inr Lu))) aQ gK) aV)) Sv) (aJ KQ Lb (aJ kI kO (bJ rfl (.inr Lu)) (bJ rfl (.inr Lu))) Sv)) aQ gK) cU))) (aH (dI (Ct hu (gj sE rfl B_len xcn tL (aF (SN.sem (Gq "_law_one" [("_law_key_here",8),("_law_time",7),("_law_width",2)] rfl (by x_go) (nW Sv) (fun _ _ _ _ _ _=>(A_ (SW.st (Gz (yj (pP (X:=cW _ _ _ _ _ _ _ _ _) hu .eq) xH (Ek (bJ rfl (.inl (by kernel_rfl))) Ei) (bJ rfl (.inr (.inl (by kernel_rfl))))) (GC (M6 (c1:=.lt) (c2:=.le) hu (aJ kI kO (Ek (bJ rfl (.inl (by kernel_rfl))) Ei) (bJ rfl (.inr (.inl (by kernel_rfl))))) (bJ rfl (.inr (.inl (by kernel_rfl)))) (Ek (bJ rfl (.inl (by kernel_rfl))) Ei))))))) (fun _ _ _ _ _ _=>(bJ rfl (.inl (by kernel_rfl))))) yU) aQ zad)) Sv) (aH (bT Eb) aP) aP) aP))) ?_;exact aH (bT Eb) aP
theorem Ys (T:Txt K mg C w)(a_told_of:bx P w K mg base k "told_of" 3 wF)(a__cell_at:bx P w K mg base k "_law_cell_at" 2 fJ)(a__things:bx P w K mg base k "_law_things" 2 wg)(a__mark:bx P w K mg base k "_law_mark" 3 vX)(a__thing:bx P w K mg base k "_law_thing" 1 zj)(a__right:bx P w K mg base k "_law_right" 6 vZ):RT P w K mg base k f ["_law_script","_law_far","_law_things_here","_law_fold_here","_law_step","_law_width","_law_row","_law_mark_here","_law_handed","_law_found"] "law" lg yQ:=fun cdv A outer s H E hr=>by
 refine eN hr fun hu=>?_;have nd:=(Ma).nd;have B_isinstance:=T.blt "isinstance" (by x_go);have B_list:=T.blt "list" (by x_go);have B_str:=T.blt "str" (by x_go);refine aH (cj (i:=1) nd rfl Lv (Ek (SN.sem (lU (aF Ei (aF Ei (aF (aJ dD dF (aJ tK tM Ei Ei) Ei) aQ gK) cU) cU)) lst_is) (aJ cB cC (cI a__cell_at hr rfl (aF Sv (aF Ei aQ cU) aV) (cnt_cons (cnt_cons cnt_nil))) Ei))) ?_;refine aH (cj (i:=2) nd rfl Lv (cI a__things hr rfl (aF Sv (aF Sv aQ aV) aV) (cnt_cons (cnt_cons cnt_nil)))) ?_;refine aH (cj (i:=3) nd rfl Lv (Ek (SN.sem (lU (aF Es (aF Es (aF Es (aF Es aQ cU) cU) cU) cU)) lst_is) (aJ cB cC (cI a__cell_at hr rfl (aF Sv (aF Ei aQ cU) aV) (cnt_cons (cnt_cons cnt_nil))) Ei))) ?_;refine aH (cj (i:=4) nd rfl Lv (aJ kE kJ (aJ dD dF Ei (aJ cB cC (aJ gH gJ (cI a__cell_at hr rfl (aF Sv (aF Ei aQ cU) aV) (cnt_cons (cnt_cons cnt_nil))) Ei) Ei)) Sv)) ?_;refine aH (cj (i:=5) nd rfl Lv (aJ dD dF Sv (aJ cB cC (cI a__cell_at hr rfl (aF Sv (aF Ei aQ cU) aV) (cnt_cons (cnt_cons cnt_nil))) (aJ dD dF (aJ kE kJ Ei Sv) Ei)))) ?_;refine aH (cj (i:=6) nd rfl Lv (lq (aF Es (aF Es (aF (lq (aF Es aQ cU)) (aF (lq (aF (xW Cw rfl B_str boot_str Fd (aF Sv aQ aV)) (aF (xW Cw rfl B_str boot_str Fd (aF Sv aQ aV)) (aF Sv aQ aV) m7) m7)) aQ Ba) Ba) cU) cU))) ?_;refine aH (dI (Ct hu (aJ cB cC (aJ gH gJ (cI a__cell_at hr rfl (aF Sv (aF Ei aQ cU) aV) (cnt_cons (cnt_cons cnt_nil))) Ei) Ei) Ei) (aH (cj (i:=5) nd rfl Lv (aJ dD dF Ei (aJ cB cC (cI a__cell_at hr rfl (aF Sv (aF Ei aQ cU) aV) (cnt_cons (cnt_cons cnt_nil))) (aJ kE kJ Ei Sv)))) (aH (cj (i:=4) nd rfl Lv Sv) (aH (cj (i:=6) nd rfl Lv (lq (aF Es (aF Es (aF (lq (aF Es aQ cU)) (aF (lq (aF (xW Cw rfl B_str boot_str Fd (aF Sv aQ aV)) (aF Sv aQ aV) m7)) aQ Ba) Ba) cU) cU))) aP))) aP) ?_;refine aH (cj (i:=7) nd rfl Lv (cI a__mark hr rfl (aF (cI a__cell_at hr rfl (aF Sv (aF Ei aQ cU) aV) (cnt_cons (cnt_cons cnt_nil))) (aF Sv (aF Sv aQ aV) aV) m7) (cnt_cons (cnt_cons (cnt_cons cnt_nil))))) ?_;refine aH (cj (i:=8) nd rfl Lv (SN.sem (lU (aF (SN.sem (ZS rfl B_list Sv) R5) aQ m7)) lst_is)) ?_;refine aH (cj (i:=9) nd rfl Lv (cI a_told_of hr rfl (aF Sv (aF Sv (aF Sv aQ aV) aV) aV) (cnt_cons (cnt_cons (cnt_cons cnt_nil))))) ?_;refine aH (dI (SW.st (rO (yp (uc (xX (T:="list") (fun t b h=>wI t "list" b h) Sv rfl B_isinstance rfl B_list boot_list))) (yr (Ct hu (SN.sem (Gq "_law_one" [] rfl (by x_go) (nW Sv) (fun _ _ _ _ _ _=>(A_ (yp (uc (cI a__thing hr rfl (aF (bJ rfl (.inl (by kernel_rfl))) aQ aV) (cnt_cons cnt_nil)))))) (fun _ _ _ _ _ _=>(bJ rfl (.inl (by kernel_rfl))))) yU) (SN.sem (lU aQ) lst_is))))) (aH (bT Eb) aP) aP) ?_;exact aH (bT (Zm (Cm hu Sv (SN.sem (lU (aF Sv aQ aV)) lst_is)) (Zw (cI a__right hr rfl (aF Sv (aF Sv (aF Sv (aF Sv (aF Sv (aF Sv aQ aV) aV) aV) aV) aV) aV) (cnt_cons (cnt_cons (cnt_cons (cnt_cons (cnt_cons (cnt_cons cnt_nil)))))))))) aP
end
noncomputable def pY:Nat:=6
def j_:G:=JH
abbrev wNs:String:="Fl xO FZ FJ FN FP WX Xn Fp YZ Ga Gb WR Yw Wt Xu Wu Xv Fz zbK zbC Hu zbS zbz zbY Xk Xb YB Wv Fj W5 Yr Xa WT Ye Yc W_ Yz XS Xl W8 X8 WD X4 X_ WQ Yt W6 Fo YF YD Xd Xc YC X6 Wz Yy W9 Xe FQ Fg W2 Yo Ww XM WY Yn W3 Yp Xf Fe Yi Yh Tj Tn Um TF Ub Uj Uh Ew Eu Et Er Tt Ud T4 T6 T7 T9 Ua T_ Uq Uo Ul Uk sizeLine_eq Option.map_some Option.map_none List.getElem?_cons_zero List.getElem?_cons_succ List.set_cons_zero List.set_cons_succ List.map_cons List.map_nil List.length_cons List.length_nil List.length_map List.replicate List.cons_append List.nil_append List.append_nil reduceCtorEq if_true if_false reduceIte Bool.not_true Bool.not_false Nat.reduceSub Nat.reduceAdd Nat.reduceLeDiff Nat.reduceLT Int.reduceLT Int.reduceLE Int.reduceAdd Int.reduceSub Int.reduceMul Int.reduceNeg Int.reduceAbs Int.reduceEq Int.reducePow Int.reduceMod Int.reduceDiv Int.reduceToNat Nat.zero_le and_true true_and and_self or_true true_or Bool.false_eq_true decide_eq_true_eq decide_true decide_false Bool.not_eq_true' decide_eq_false_iff_not not_true_eq_false not_false_eq_true eq_self zX z6 z7 WM WL Option.getD_some W4 Yq ty_int ty_str zbL zbf zbc zbr zbR zbP Hh zbO zbW zbG zbN Xm YX Xg Xh Yj Uc List.isEmpty_cons List.isEmpty_nil Bool.true_eq_false Bool.and_self Bool.and_true Bool.true_and Bool.and_false Bool.false_and X7 X5 X3 Yg Yd Yv XR Wy FT Fi Tq Tp T5 T8 wZ wY TV Ui Tw Ug TX TY T3 Bool.true_or Bool.false_or Bool.or_true Bool.or_false at0 at1 at2 Oo JG s_end w_end W7 zY YM YL YK YQ YS Xi YH YG Xj Tz"
local macro_rules | `(tactic| z_go)=>do
 let l <-(wNs.splitOn " ").toArray.mapM fun n=> `(Lean.Parser.Tactic.simpLemma| $(Lean.mkIdent n.toName):term)
 `(tactic| try simp only[$l,*])
variable {M:Mm}
noncomputable def dl (e s:Int) (n:Nat):List Int:=(List.range n).map fun(k:Nat)=>e - (k:Int) * s
theorem Pz {e s:Int}{n:Nat}:dl e s (n + 1)=dl e s n ++ [e - (n:Int) * s]:=by
 unfold dl;rw[List.range_succ,xaP];rfl
theorem CT {e s:Int}{n:Nat}:(dl e s n).length=n:=by
 unfold dl;rw[xae,xbx]
noncomputable def e0 (w s t:Int):Int:=t - t % s + w
def nE (w s t:Int):Nat:=((e0 w s t - t - 1) / s + 1).toNat
def eL (w s t:Int):List Int:=(dl (e0 w s t) s (nE w s t)).reverse
section
variable {w s t:Int}
theorem zO (s0:0<s)(h:s<=w)(j:Nat):t<e0 w s t - (j:Int) * s ↔ j<nE w s t:=by
 have a0:=xa7 t (show s≠0 by omega);have a1:=xaV t s0;have q:=xdV (a:=(j:Int)) (b:=e0 w s t - t - 1) s0;have p:0<=(e0 w s t - t - 1) / s:=Int.ediv_nonneg (by unfold e0;omega) (by omega);unfold nE;generalize (j:Int) * s=js at q ⊢
 constructor
 ·intro h;have:=q.mpr (by omega);omega
 ·intro h;have:=q.mp (by omega);omega
theorem S5 {c:Int}(s0:0<s)(h:s<=w)(hc:w<=c * s)(c0:0<=c):(nE w s t:Int)<=c:=by
 rcases Int.lt_or_le c (nE w s t) with q |q
 ·have:=(zO (t:=t) s0 h c.toNat).mpr (by omega);rw[show((c.toNat:Nat):Int)=c by omega]at this;have a0:=xa7 t (show s≠0 by omega);unfold e0 at this;omega
 ·exact q
theorem Qc (s0:0<s)(h:s<=w)(hn:nE w s t<=900):wz [.int w,.int s,.int t] M=some (.v (.lst ((eL w s t).map .int)),M):=by
 have wh:∃x,xU 1000 G7 wL [.val (.int w),.val (.int s),.val (.int t),.val (.int (e0 w s t)),.own []] M=some (.nx [.val (.int w),.val (.int s),.val (.int t),x,.own ((dl (e0 w s t) s (nE w s t)).map .int)],M):=by
  refine NT (fun o=>∃x,o=some (.nx [.val (.int w),.val (.int s),.val (.int t),x,.own ((dl (e0 w s t) s (nE w s t)).map .int)],M)) (fun m env N=>∃j:Nat,j + m=nE w s t/\N=M/\env=[.val (.int w),.val (.int s),.val (.int t),.val (.int (e0 w s t - (j:Int) * s)),.own ((dl (e0 w s t) s j).map .int)]) ⟨nE w s t,by omega,0,by omega,rfl,by rw[show((0:Nat):Int) * s=0 by omega,Int.sub_zero];rfl⟩ ?_;rintro m env N ⟨j,hj,rfl,rfl⟩;have q:=zO (t:=t) s0 h j;have es:((j + 1:Nat):Int) * s=(j:Int) * s + s:=by rw[Int.natCast_add,Int.add_mul];show _ + 1 * s=_;omega
  have dj:=Pz (e:=e0 w s t) (s:=s) (n:=j);have ln:=CT (e:=e0 w s t) (s:=s) (n:=j);refine⟨decide (t<e0 w s t - (j:Int) * s),N,rfl,?_⟩
  by_cases hlt:j<nE w s t
  ·have:=q.mpr hlt;rw[xaW this,xaa rfl];have e:wL [.val (.int w),.val (.int s),.val (.int t),.val (.int (e0 w s t - (j:Int) * s)),.own ((dl (e0 w s t) s j).map .int)] N=some (.nx [.val (.int w),.val (.int s),.val (.int t),.val (.int (e0 w s t - ((j + 1:Nat):Int) * s)),.own ((dl (e0 w s t) s (j + 1)).map .int)],N):=by
    have ag:kY 3 false (aj 1) [.val (.int w),.val (.int s),.val (.int t),.val (.int (e0 w s t - (j:Int) * s)),.own ((dl (e0 w s t) s (j + 1)).map .int)] N=some (.nx [.val (.int w),.val (.int s),.val (.int t),.val (.int (e0 w s t - (j:Int) * s - s)),.own ((dl (e0 w s t) s (j + 1)).map .int)],N):=rfl;rw[es,show e0 w s t - ((j:Int) * s + s)=e0 w s t - (j:Int) * s - s by omega];unfold wL;generalize kY 3 false (aj 1)=F at ag ⊢;rw[dj,xaP]at ag ⊢;have ll:((dl (e0 w s t) s j).map D.int).length<=1000:=by rw[xae];omega
    z_go;rw[xaa (by omega)];z_go;rw[show [D.int (e0 w s t - (j:Int) * s)]=[e0 w s t - (j:Int) * s].map D.int from rfl,ag];z_go
   rw[e];exact⟨m - 1,by omega,j + 1,by omega,rfl,rfl⟩
  ·have:¬ t<e0 w s t - (j:Int) * s:=fun z=>hlt (q.mp z);rw[xaC this,xad (by decide)];exact⟨_,by rw[show j=nE w s t by omega]⟩
 obtain⟨x,e⟩:=wh;have lr:mW (aj 4) [.val (.int w),.val (.int s),.val (.int t),x,.val (.lst ((dl (e0 w s t) s (nE w s t)).map .int))] M=some (.v (.lst ((eL w s t).map .int)),M):=by
  rw[Yu (ds:=(dl (e0 w s t) s (nE w s t)).map .int) (M1:=M) rfl rfl];unfold eL;rw[List.map_reverse]
 unfold wz Cg;generalize xU 1000 G7 wL=F at e ⊢;generalize mW (aj 4)=F2 at lr ⊢;unfold e0 at e;z_go;rw[xaa s0];z_go;rw[e];z_go;rw[<-show e0 w s t=t - t % s + w from rfl,lr];z_go
theorem CW (s0:0<s)(h:s<=w){e:Int}:e∈eL w s t ↔ (e - w) % s=0/\t<e/\e<=t + w:=by
 have a0:=xa7 t (show s≠0 by omega);have a1:=xaV t s0;have dm:=Int.emod_add_mul_ediv t s;unfold eL dl;rw[xbl,xaB]
 constructor
 ·rintro⟨k,hk,rfl⟩;have:=(zO (t:=t) s0 h k).mpr (xb3.mp hk);have kp:0<=(k:Int) * s:=Int.mul_nonneg (by omega) (by omega);refine⟨?_,this,by unfold e0;omega⟩;have:e0 w s t - (k:Int) * s - w=s * (t / s - k):=by
   rw[Int.mul_sub,xdH s (k:Int)];unfold e0;omega
  rw[this];exact Int.mul_emod_right _ _
 ·rintro⟨hm,h1,h2⟩;obtain⟨c,hc⟩:=xdN hm;have e1:e=w + s * c:=by omega
  have e2:e0 w s t=w + s * (t / s):=by unfold e0;omega
  have hk:0<=t / s - c:=by
   rcases Int.lt_or_le (t / s - c) 0 with z |z
   ·exfalso
    have:s * (t / s + 1)<=s * c:=Int.mul_le_mul_of_nonneg_left (by omega) (by omega);rw[Int.mul_add,Int.mul_one]at this;omega
   ·exact z
  have ek:e0 w s t - (((t / s - c).toNat:Nat):Int) * s=e:=by
   rw[show(((t / s - c).toNat:Nat):Int)=t / s - c by omega,Int.sub_mul,xdH (t / s) s,xdH c s];omega
  exact⟨(t / s - c).toNat,xb3.mpr ((zO (t:=t) s0 h _).mp (by rw[ek];exact h1)),ek⟩
end
noncomputable def fi (f:Str) (v:Int):Int:=if f="count" then 1 else v
noncomputable def gF (f:Str) (a b:Int):Int:=if f="most" then(if b > a then b else a) else if f="least" then(if b<a then b else a) else a + b
noncomputable def fo (f:Str):List Int->Int
 | []=>0
 |a::r=>(r.map (fi f)).foldl (gF f) (fi f a)
noncomputable def lf (f:Str) (is:List Int):Int:=if f="sum" then is.sum else if f="count" then is.length else if f="most" then cV is else dw is
theorem fold_max:∀(r:List Int) (a:Int),(r.foldl (fun x y=>if y > x then y else x) a=a\/r.foldl (fun x y=>if y > x then y else x) a∈r)/\a<=r.foldl (fun x y=>if y > x then y else x) a/\∀y∈r,y<=r.foldl (fun x y=>if y > x then y else x) a
  | [],a=>⟨.inl rfl,xdW _,fun y h=>nomatch h⟩
  |b::r,a=>by
    obtain⟨h1,h2,h3⟩:=fold_max r (if b > a then b else a)
    rw[xce];generalize r.foldl (fun x y=>if y > x then y else x) (if b > a then b else a)=m at *
    have hb:a<=(if b > a then b else a)/\b<=(if b > a then b else a):=by split<;>omega
    refine⟨?_,by omega,fun y hy=>?_⟩
    · rcases h1 with h1 |h1
      · rw[h1]
        split
        · exact .inr (by simp)
        · exact .inl rfl
      · exact .inr (by simp[h1])
    · rcases xan.mp hy with rfl |hy
      · omega
      · exact h3 y hy
theorem fold_min:∀(r:List Int) (a:Int),(r.foldl (fun x y=>if y<x then y else x) a=a\/r.foldl (fun x y=>if y<x then y else x) a∈r)/\r.foldl (fun x y=>if y<x then y else x) a<=a/\∀y∈r,r.foldl (fun x y=>if y<x then y else x) a<=y
  | [],a=>⟨.inl rfl,xdW _,fun y h=>nomatch h⟩
  |b::r,a=>by
    obtain⟨h1,h2,h3⟩:=fold_min r (if b<a then b else a)
    rw[xce];generalize r.foldl (fun x y=>if y<x then y else x) (if b<a then b else a)=m at *
    have hb:(if b<a then b else a)<=a/\(if b<a then b else a)<=b:=by split<;>omega
    refine⟨?_,by omega,fun y hy=>?_⟩
    · rcases h1 with h1 |h1
      · rw[h1]
        split
        · exact .inr (by simp)
        · exact .inl rfl
      · exact .inr (by simp[h1])
    · rcases xan.mp hy with rfl |hy
      · omega
      · exact h3 y hy
theorem fold_add:∀(r:List Int) (a:Int),r.foldl (fun x y=>x + y) a=a + r.sum
 | [],a=>by simp
 |b::r,a=>by rw[xce,fold_add r,xcN];omega
theorem M7:∀r:List Int,(r.map fun _=>(1:Int)).sum=r.length
 | []=>rfl
 |b::r=>by rw[xay,xcN,M7 r,xaF];omega
theorem Gy:∀r:List Int,r.reverse.sum=r.sum
 | []=>rfl
 |b::r=>by rw[xck,List.sum_append,Gy r,xcN,xcN,List.sum_nil];omega
theorem Qv {f:Str}{is:List Int}(hf:f="sum"\/f="count"\/f="most"\/f="least")(hn:is≠ []):fo f is=lf f is.reverse:=by
  cases is with
  |nil=>exact absurd rfl hn
  |cons a r=>
    rcases hf with rfl |rfl |rfl |rfl
    · have e1:fi "sum"=id:=by funext v;rfl
      have e2:gF "sum"=fun x y=>x + y:=by funext x y;rfl
      show(r.map (fi "sum")).foldl (gF "sum") (fi "sum" a)=(a::r).reverse.sum;rw[e1,e2,xev,fold_add,Gy,xcN];rfl
    · have e1:fi "count"=fun _=>1:=by funext v;rfl
      have e2:gF "count"=fun x y=>x + y:=by funext x y;rfl
      show(r.map (fi "count")).foldl (gF "count") (fi "count" a)=((a::r).reverse.length:Int);rw[e1,e2,fold_add,M7,xb7,xaF];show(1:Int) + r.length=_;omega
    · have e1:fi "most"=id:=by funext v;rfl
      have e2:gF "most"=fun x y=>if y > x then y else x:=by funext x y;rfl
      show(r.map (fi "most")).foldl (gF "most") (fi "most" a)=cV (a::r).reverse;rw[e1,e2,xev];obtain⟨h1,h2,h3⟩:=fold_max r a;refine(yE ?_ fun y hy=>?_).symm
      · rw[xbl];rcases h1 with h1 |h1
        · exact xan.mpr (.inl h1)
        · exact xan.mpr (.inr h1)
      · rw[xbl]at hy;rcases xan.mp hy with rfl |hy
        · exact h2
        · exact h3 y hy
    · have e1:fi "least"=id:=by funext v;rfl
      have e2:gF "least"=fun x y=>if y<x then y else x:=by funext x y;rfl
      show(r.map (fi "least")).foldl (gF "least") (fi "least" a)=dw (a::r).reverse;rw[e1,e2,xev];obtain⟨h1,h2,h3⟩:=fold_min r a;refine(vH ?_ fun y hy=>?_).symm
      · rw[xbl];rcases h1 with h1 |h1
        · exact xan.mpr (.inl h1)
        · exact xan.mpr (.inr h1)
      · rw[xbl]at hy;rcases xan.mp hy with rfl |hy
        · exact h2
        · exact h3 y hy
variable {M:Mm}
theorem zm {N E:Mm}{k:Nat}{c:E3.Cl}(h:N[k]? =some c):(N ++ E)[k]? =some c:=by rw[xaA (xat.mp h).1];exact h
theorem Qd {f:Str}{v:Int}:wA [.str f,.int v] M=some (.v (.int (fi f v)),M):=by
 unfold wA Ci;z_go;unfold fi
 by_cases h:f="count"
 ·subst h;z_go
 ·simp only[h,xaG,xa4];z_go
theorem Qh {f:Str}{a b:Int}:wC [.str f,.int a,.int b] M=some (.v (.int (gF f a b)),M):=by
 unfold wC Ck;z_go;unfold gF
 by_cases h:f="most"
 ·subst h;z_go
 ·simp only[h,xaG,xa4];z_go
  by_cases h:f="least"
  ·subst h;z_go
  ·simp only[h,xaG,xa4];z_go
theorem CP {α:Type}(a:α)(r:List α):d7 (a::r) (some 1) none=r:=by
 unfold d7
 simp[HT.aW]
theorem Jt {f:Str}{s1 s2:Slot}:∀(r:List Int) (a:Int) (s4:Slot),∃s4',loopS 4 DK (r.map .int) [.val (.str f),s1,s2,.val (.int a),s4] M=some (.nx [.val (.str f),s1,s2,.val (.int (r.foldl (gF f) a)),s4'],M)
  | [],a,s4=>⟨s4,rfl⟩
  |b::r,a,s4=>by
    obtain⟨s',h⟩:=Jt r (gF f a b) (.val (.int b));refine⟨s',?_⟩;rw[xay,zY,xaa (by simp)];unfold DK;z_go;rw[Qh];z_go;exact h
theorem Qe {f:Str}{is:List Int}{n:Nat}(hM:M[n]? =some (.lst (is.map .int)))(hn:is≠ [])(hl:is.length<=900):wB [.str f,.ref n] M=some (.v (.int (fo f is)),M):=by
  have cc:lO 1000 [("fold",0)] (aj 1) zc [.val (.str f),.val (.ref n),.un,.un,.un] M=some (.v (.lst ((is.map (fi f)).map .int)),M):=by
    rw[Ow (fun d=>match d with |.int v=>.int (fi f v) |d=>d) (ds:=is.map .int) (j:=n) (by rfl) hM (fun d hd=>?_) (by rw[xae];omega) (by rw[xae,xbn];omega),xdI,xdI]
    · rfl
    · obtain⟨v, -,rfl⟩:=xaB.mp hd;unfold zc;z_go;rw[Qd];z_go
  unfold wB Cj;generalize lO 1000 [("fold",0)] (aj 1) zc=CC at cc ⊢;z_go;rw[cc]
  cases is with
  |nil=>exact absurd rfl hn
  |cons a r=>
    rw[xay,xay];z_go;rw[CP];obtain⟨s',h⟩:=Jt (M:=M) (f:=f) (s1:=.val (.ref n)) (s2:=.val (.lst (.int (fi f a)::(r.map (fi f)).map .int))) (r.map (fi f)) (fi f a) .un;rw[h];z_go;rfl
theorem Qg {f:Str}{is:List Int}(hn:is≠ []):vU [.str f,.lst (is.map .int)] M=some (.v (.int (lf f is)),M):=by
 unfold vU BR;z_go;unfold lf;have hp:0<is.length:=List.length_pos_iff.mpr hn
 by_cases h:f="sum"
 ·subst h;z_go;rw[show h_ [.lst (is.map .int)]=some (.int is.sum) by simp only[h_,E3.ints_map,xbs]];z_go
 ·simp only[h,xaG,xa4];z_go
  by_cases h:f="count"
  ·subst h;z_go
  ·simp only[h,xaG,xa4];z_go
   by_cases h:f="most"
   ·subst h;z_go;rw[show vq [.lst (is.map .int)]=some (.int (cV is)) by simp only[vq,E3.ints_map,hp,xbF]];z_go
   ·simp only[h,xaG,xa4];z_go;rw[show vD [.lst (is.map .int)]=some (.int (dw is)) by simp only[vD,E3.ints_map,hp,xbF]];z_go
variable {M:Mm}
abbrev WK:=Int×Str
abbrev WG:=WK×Nat×List Int
def kK (k:WK):List Key:=[.inl k.1,.inr k.2]
def dE (g:WG):List Key×D:=(kK g.1,.ref g.2.1)
noncomputable def addW (k:WK) (v:Int) (n:Nat):List WG->List WG
 | []=>[(k,n,[v])]
 |g::r=>if g.1=k then(g.1,g.2.1,g.2.2 ++ [v])::r else g::addW k v n r
noncomputable def dz (k:WK):List WG->Option (Nat×List Int)
 | []=>none
 |g::r=>if g.1=k then some g.2 else dz k r
theorem JZ {k k':WK}(h:kK k=kK k'):k=k':=by
 unfold kK at h;cases k;cases k'
 simp at h
 exact xew h.1 h.2
theorem Hl {k:WK}:∀G:List WG,cu (G.map dE) (kK k)=(dz k G).map fun p=>.ref p.1
  | []=>rfl
  |g::r=>by
    have ih:=Hl (k:=k) r;unfold cu at ih ⊢;rw[xay,xbY]
    by_cases h:g.1=k
    · have:decide ((dE g).1=kK k)=true:=xaW (by rw[<-h];rfl);rw[this];show some (D.ref g.2.1)=((if g.1=k then some g.2 else dz k r).map fun p=>D.ref p.1)
      rw[xaa h];rfl
    · have:decide ((dE g).1=kK k)=false:=xaC fun z=>h (JZ z);rw[this];show _=((if g.1=k then some g.2 else dz k r).map fun p=>D.ref p.1)
      rw[xad h];exact ih
theorem lK {k:WK}{p:Nat×List Int}:∀{G:List WG},dz k G=some p->(k,p)∈G
  | [],h=>by cases h
  |g::r,h=>by
    unfold dz at h;split at h
    · rename_i e;cases h;rw[<-e];exact xau ..
    · exact xak _ (lK h)
theorem wM {k:WK}:∀{G:List WG},dz k G=none->∀g∈G,g.1≠k
  | [],_,g,hg=>nomatch hg
  |g'::r,h,g,hg=>by
    unfold dz at h;split at h
    · cases h
    · rename_i e;rcases xan.mp hg with rfl |hg
      · exact e
      · exact wM h g hg
theorem nj {k:WK}{v:Int}{n:Nat}:∀{G:List WG},dz k G=none->addW k v n G=G ++ [(k,n,[v])]
  | [],_=>rfl
  |g::r,h=>by
    unfold dz at h;split at h
    · cases h
    · rename_i e;unfold addW;rw[xad e,nj h];rfl
theorem yP {k:WK}{v:Int}{n:Nat}{p:Nat×List Int}:∀{G:List WG},dz k G=some p->(addW k v n G).map dE=G.map dE/\(addW k v n G).map (·.2.1)=G.map (·.2.1)/\(addW k v n G).map (·.1)=G.map (·.1)
  | [],h=>by cases h
  |g::r,h=>by
    unfold dz at h;unfold addW;split at h
    · rename_i e;rw[xaa e];exact⟨rfl,rfl,rfl⟩
    · rename_i e;rw[xad e];obtain⟨a,b,c⟩:=yP (v:=v) (n:=n) h;simp only[xay,a,b,c,and_self]
theorem BJ {k:WK}{v:Int}{n:Nat}{p:Nat×List Int}:∀{G:List WG},dz k G=some p->(G.map (·.1)).Nodup->∀g∈addW k v n G,g=(k,p.1,p.2 ++ [v])\/(g∈G/\g.1≠k)
  | [],h,_,_,_=>by cases h
  |g'::r,h,hn,g,hg=>by
    rw[xay,xbI]at hn;unfold dz at h;unfold addW at hg;split at h
    · rename_i e;rw[xaa e]at hg;cases h;rcases xan.mp hg with rfl |hg
      · rw[e];exact .inl rfl
      · refine .inr ⟨xak _ hg,fun z=>hn.1 ?_⟩;rw[e, <-z];exact xaB.mpr ⟨g,hg,rfl⟩
    · rename_i e;rw[xad e]at hg;rcases xan.mp hg with rfl |hg
      · exact .inr ⟨xau ..,e⟩
      · rcases BJ h hn.2 g hg with z |⟨z1,z2⟩
        · exact .inl z
        · exact .inr ⟨xak _ z1,z2⟩
theorem Eo {α β:Type}{f:α->β}:∀{l:List α},(l.map f).Nodup->∀a∈l,∀b∈l,f a=f b->a=b
  | [],_,a,ha,_,_,_=>nomatch ha
  |x::l,h,a,ha,b,hb,e=>by
    rw[xay,xbI]at h;rcases xan.mp ha with ea |ha<;>rcases xan.mp hb with eb |hb
    · rw[ea,eb]
    · exact absurd (xaB.mpr ⟨b,hb,by rw[<-e,ea]⟩) h.1
    · exact absurd (xaB.mpr ⟨a,ha,by rw[e,eb]⟩) h.1
    · exact Eo h.2 a ha b hb e
structure WI (b:Nat)(G:List WG)(M:Mm):Prop where
 d:M[b]? =some (.dtc (G.map dE))
 c:∀g∈G,M[g.2.1]? =some (.lst (g.2.2.map .int))/\g.2.1≠b
 ka:(G.map (·.2.1)).Nodup
 kk:(G.map (·.1)).Nodup
noncomputable def cX (t:Int) (z:Str) (v:Int):D:=.tup [.int t,.str z,.int v]
theorem rJ {k j:Nat}{c c':E3.Cl}(h:M[k]? =some c)(n:j≠k):(M.set j c')[k]? =some c:=by rw[xcW n];exact h
theorem Aw {j:Nat}{c c':E3.Cl}(h:M[j]? =some c):(M.set j c')[j]? =some c':=xcI (xat.mp h).1
theorem zbX {b:Nat}{G:List WG}{e t v:Int}{z:Str}{a0 a1 a2 a3:Slot}(I:WI b G M)(hG:G.length<=1000)(hv:∀g∈G,g.2.2.length<=1000):∃M',sS [a0,a1,a2,a3,.val (.ref b),.val (cX t z v),.val (.int e)] M=some (.nx [a0,a1,a2,a3,.val (.ref b),.val (cX t z v),.val (.int e)],M')/\WI b (addW (e,z) v M.length G) M':=by
  have bl:=(xat.mp I.d).1;have sl:(G.map dE).length<sizeLine:=by rw[xae,xbn];omega
  have h1:aj 4 [a0,a1,a2,a3,.val (.ref b),.val (cX t z v),.val (.int e)] M=some (.v (.ref b),M):=rfl;have h3:aD (aj 6) (aD (s2 aZ (aj 5) (ao (.int 1))) aA) [a0,a1,a2,a3,.val (.ref b),.val (cX t z v),.val (.int e)] M=some (.v [.int e,.str z],M):=rfl;have h4:xR (bR aA) [a0,a1,a2,a3,.val (.ref b),.val (cX t z v),.val (.int e)] M=some (.v (.ref M.length),M ++ [.lst []]):=rfl;have hx:s2 aZ (aj 5) (ao (.int 2)) [a0,a1,a2,a3,.val (.ref b),.val (cX t z v),.val (.int e)]=fun N=>some (.v (.int v),N):=rfl;have d':(M ++ [E3.Cl.lst []])[b]? =some (.dtc (G.map dE)):=zm I.d;have nw:(M ++ [E3.Cl.lst []])[M.length]? =some (.lst []):=by rw[xaw (xab _),xcv];rfl
  have vW:=Hl (k:=(e,z)) G;unfold sS
  cases hl:dz (e,z) G with
  |some p=>
    rw[hl]at vW;have mem:=lK hl;obtain⟨c1,c2⟩:=I.c _ mem;have c1':(M ++ [E3.Cl.lst []])[p.1]? =some (.lst (p.2.map .int)):=zm c1;have sd:=Zk (env:=[a0,a1,a2,a3,.val (.ref b),.val (cX t z v),.val (.int e)]) h1 I.d h3 h4 d' (key:=kK (e,z)) rfl sl (by rw[xbn,xaF,xaF,xbz];decide) vW;have pl:=hv _ mem;refine⟨(M ++ [E3.Cl.lst []]).set p.1 (.lst (p.2.map .int ++ [.int v])),?_,?_⟩
    · rw[Fl,HD (k:=p.1) (ds0:=p.2.map .int) (ds:=p.2.map .int) (d:=.int v) (M1:=M ++ [E3.Cl.lst []]) (M2:=M ++ [E3.Cl.lst []]) sd c1' (by rw[hx]) c1' (by rw[xae,xbn];exact xbG pl (by decide))];rfl
    · obtain⟨o1,o2,o3⟩:=yP (v:=v) (n:=M.length) hl;refine⟨by rw[o1];exact rJ d' c2,fun g hg=>?_,by rw[o2];exact I.ka,by rw[o3];exact I.kk⟩;rcases BJ hl I.kk g hg with rfl |⟨g1,g2⟩
      · refine⟨?_,c2⟩;rw[xaP];exact Aw c1'
      · obtain⟨q1,q2⟩:=I.c g g1;refine⟨rJ (zm q1) fun z=>g2 ?_,q2⟩;rw[<-Eo I.ka _ mem g g1 z]
  |none=>
    rw[hl]at vW;have no:=wM hl;have sd:=Zj (env:=[a0,a1,a2,a3,.val (.ref b),.val (cX t z v),.val (.int e)]) h1 I.d h3 h4 d' (key:=kK (e,z)) rfl sl (by rw[xbn,xaF,xaF,xbz];decide) vW;have bn:b≠M.length:=by omega
    have pu:dG (G.map dE) (kK (e,z)) (.ref M.length)=(addW (e,z) v M.length G).map dE:=by
      rw[nj hl,xaP];unfold dG;rw[xad]
      · rfl
      · rw[List.any_eq_true];rintro⟨x,hx,ex⟩;obtain⟨g,hg,rfl⟩:=xaB.mp hx;exact no g hg (JZ (xbq ex))
    have nw':((M ++ [E3.Cl.lst []]).set b (.dtc (dG (G.map dE) (kK (e,z)) (.ref M.length))))[M.length]? =some (.lst []):=rJ nw bn;refine⟨((M ++ [E3.Cl.lst []]).set b (.dtc (dG (G.map dE) (kK (e,z)) (.ref M.length)))).set M.length (.lst ([] ++ [.int v])),?_,?_⟩
    · rw[Fl,HD (k:=M.length) (ds0:=[]) (ds:=[]) (d:=.int v) (M1:=(M ++ [E3.Cl.lst []]).set b (.dtc (dG (G.map dE) (kK (e,z)) (.ref M.length)))) (M2:=(M ++ [E3.Cl.lst []]).set b (.dtc (dG (G.map dE) (kK (e,z)) (.ref M.length)))) sd nw' (by rw[hx]) nw' (by rw[xbn];decide)];rfl
    · have lt:∀g∈G,g.2.1<M.length:=fun g hg=>(xat.mp (I.c g hg).1).1;refine⟨by rw[<-pu];exact rJ (Aw d') (xbu bn),fun g hg=>?_,?_,?_⟩
      · rw[nj hl]at hg;rcases xaI.mp hg with hg |hg
        · obtain⟨q1,q2⟩:=I.c g hg;have:=lt g hg;exact⟨rJ (rJ (zm q1) (xbu q2)) (by omega),q2⟩
        · cases xaz.mp hg;exact⟨Aw nw',xbu bn⟩
      · rw[nj hl,xaP,xds];refine⟨I.ka,by simp,fun x hx y hy exy=>?_⟩;obtain⟨g,hg,rfl⟩:=xaB.mp hx;have:=lt g hg;have:y=M.length:=by simpa using hy
        omega
      · rw[nj hl,xaP,xds];refine⟨I.kk,by simp,fun x hx y hy exy=>?_⟩;obtain⟨g,hg,rfl⟩:=xaB.mp hx;have h9:y=(e,z):=by simpa using hy
        exact no g hg (exy.trans h9)
variable {M:Mm}
noncomputable def vals (k:WK) (L:List (WK×Int)):List Int:=(L.filter fun x=>decide (x.1=k)).map (·.2)
theorem NP {k:WK}{L:List (WK×Int)}:(vals k L).length<=L.length:=by
 unfold vals;rw[xae];exact xd5 ..
theorem Ho {k:WK}{L L':List (WK×Int)}:vals k (L ++ L')=vals k L ++ vals k L':=by
 unfold vals;rw[List.filter_append,xaP]
theorem Hr {k:WK}{v:Int}:vals k [(k,v)]=[v]:=by
 unfold vals
 simp
theorem Bf {k k':WK}{v:Int}(h:k'≠k):vals k [(k',v)]=[]:=by
 unfold vals
 simp[h]
structure WJ (b:Nat)(L:List (WK×Int))(G:List WG)(M:Mm):Prop where
 i:WI b G M
 v:∀g∈G,g.2.2=vals g.1 L/\g.2.2≠ []
 m:∀x∈L,∃g∈G,g.1=x.1
 n:G.length<=L.length
theorem zbk {b:Nat}{L:List (WK×Int)}{G:List WG}{e t v:Int}{z:Str}{a0 a1 a2 a3:Slot}(J:WJ b L G M)(hl:L.length<=1000):∃G' M',sS [a0,a1,a2,a3,.val (.ref b),.val (cX t z v),.val (.int e)] M=some (.nx [a0,a1,a2,a3,.val (.ref b),.val (cX t z v),.val (.int e)],M')/\WJ b (L ++ [((e,z),v)]) G' M':=by
  have lv:∀g∈G,g.2.2.length<=1000:=fun g hg=>by
    rw[(J.v g hg).1];exact xao NP hl
  obtain⟨M',h1,h2⟩:=zbX (e:=e) (t:=t) (v:=v) (z:=z) (a0:=a0) (a1:=a1) (a2:=a2) (a3:=a3) J.i (xao J.n hl) lv;refine⟨_,M',h1,h2,?_,?_,?_⟩
  · intro g hg;rw[Ho]
    cases hk:dz (e,z) G with
    |some p=>
      rcases BJ hk J.i.kk g hg with rfl |⟨g1,g2⟩
      · have:=(J.v _ (lK hk)).1;refine⟨?_,by simp⟩;show p.2 ++ [v]=vals (e,z) L ++ vals (e,z) [((e,z),v)];rw[Hr, <-this]
      · rw[Bf (xbu g2),xaL];exact J.v g g1
    |none=>
      rw[nj hk]at hg;rcases xaI.mp hg with hg |hg
      · rw[Bf (xbu (wM hk g hg)),xaL];exact J.v g hg
      · cases xaz.mp hg;refine⟨?_,by simp⟩;show [v]=vals (e,z) L ++ vals (e,z) [((e,z),v)];have e0:vals (e,z) L=[]:=by
          unfold vals;rw[List.filter_eq_nil_iff.mpr fun x hx c=>?_,xcZ];obtain⟨g,hg,eg⟩:=J.m x hx;exact wM hk g hg (eg.trans (xbq c))
        rw[Hr,e0];rfl
  · intro x hx
    cases hk:dz (e,z) G with
    |some p=>
      have o3:=(yP (v:=v) (n:=M.length) hk).2.2;have:x.1∈G.map (·.1):=by
        rcases xaI.mp hx with hx |hx
        · obtain⟨g,hg,eg⟩:=J.m x hx;exact xaB.mpr ⟨g,hg,eg⟩
        · cases xaz.mp hx;exact xaB.mpr ⟨_,lK hk,rfl⟩
      rw[<-o3]at this;exact xaB.mp this
    |none=>
      rw[nj hk];rcases xaI.mp hx with hx |hx
      · obtain⟨g,hg,eg⟩:=J.m x hx;exact⟨g,xco _ hg,eg⟩
      · cases xaz.mp hx;exact⟨_,xax _ (xaz.mpr rfl),rfl⟩
  · have:=J.n;rw[xaq,xbh]
    cases hk:dz (e,z) G with
    |some p=>
      have o3:=congrArg List.length (yP (v:=v) (n:=M.length) hk).2.2;rw[xae,xae]at o3;omega
    |none=>
      rw[nj hk,xaq,xbh];omega
theorem yD {b:Nat}{t v:Int}{z:Str}{a0 a1 a2 a3:Slot}:∀(es:List Int) (L:List (WK×Int)) (G:List WG) (M:Mm) (s6:Slot),WJ b L G M->L.length + es.length<=1000->∃G' M' s6',loopS 6 sS (es.map .int) [a0,a1,a2,a3,.val (.ref b),.val (cX t z v),s6] M=some (.nx [a0,a1,a2,a3,.val (.ref b),.val (cX t z v),s6'],M')/\WJ b (L ++ es.map fun e=>((e,z),v)) G' M'
  | [],L,G,M,s6,J,_=>⟨G,M,s6,rfl,by rw[xcZ,xaL];exact J⟩
  |e::es,L,G,M,s6,J,hl=>by
    rw[xaF]at hl;obtain⟨G1,M1,h1,J1⟩:=zbk (e:=e) (t:=t) (v:=v) (z:=z) (a0:=a0) (a1:=a1) (a2:=a2) (a3:=a3) J (by omega);obtain⟨G2,M2,s',h2,J2⟩:=yD es _ G1 M1 (.val (.int e)) J1 (by rw[xaq,xbh];omega);refine⟨G2,M2,s',?_,by rw[xaN]at J2;exact J2⟩;rw[xay,zY,xaa (by simp)];simp only[xcg,xbV];rw[h1];exact h2
abbrev Th:=Int×Str×Int
def bM (x:Th):D:=cX x.1 x.2.1 x.2.2
noncomputable def adds (w s:Int) (x:Th):List (WK×Int):=(eL w s x.1).map fun e=>((e,x.2.1),x.2.2)
theorem HS {w s:Int}{x:Th}(s0:0<s)(h:s<=w)(hw:w<=8 * s):(eL w s x.1).length<=8:=by
 have:=S5 (t:=x.1) (c:=8) s0 h hw (by decide);unfold eL;rw[xb7,CT];omega
theorem Ng {b:Nat}{w s:Int}{f:Str}{a0 a1 a2:Slot}(s0:0<s)(h:s<=w)(hw:w<=8 * s):∀(X:List Th) (L:List (WK×Int)) (G:List WG) (M:Mm) (s5 s6:Slot),WJ b L G M->L.length + 8 * X.length<=900->∃G' M' s5' s6',loopS 5 wK (X.map bM) [a0,a1,a2,.val (.tup [.int w,.int s,.str f]),.val (.ref b),s5,s6] M=some (.nx [a0,a1,a2,.val (.tup [.int w,.int s,.str f]),.val (.ref b),s5',s6'],M')/\WJ b (L ++ X.flatMap (adds w s)) G' M'
  | [],L,G,M,s5,s6,J,_=>⟨G,M,s5,s6,rfl,by rw[List.flatMap_nil,xaL];exact J⟩
  |(t,z,v)::X,L,G,M,s5,s6,J,hl=>by
    rw[xaF]at hl;have el:=HS (x:=(t,z,v)) s0 h hw;have en:nE w s t<=8:=by
      have:=el;unfold eL at this;rw[xb7,CT]at this;exact this
    obtain⟨G1,M1,s6',h1,J1⟩:=yD (t:=t) (v:=v) (z:=z) (a0:=a0) (a1:=a1) (a2:=a2) (a3:=.val (.tup [.int w,.int s,.str f])) (eL w s t) L G M s6 J (by show L.length + (eL w s t).length<=1000;have:=el;dsimp only at this;omega);have fe:=Qc (M:=M) (t:=t) s0 h (by omega);have b1:wK [a0,a1,a2,.val (.tup [.int w,.int s,.str f]),.val (.ref b),.val (cX t z v),s6] M=some (.nx [a0,a1,a2,.val (.tup [.int w,.int s,.str f]),.val (.ref b),.val (cX t z v),s6'],M1):=by
      unfold wK;generalize sS=B at h1 ⊢;unfold cX at h1 ⊢;z_go;rw[fe];z_go;rw[h1];z_go
    obtain⟨G2,M2,s5',s6'',h2,J2⟩:=Ng (a0:=a0) (a1:=a1) (a2:=a2) (f:=f) s0 h hw X _ G1 M1 (.val (cX t z v)) s6' J1 (by rw[xaq,xae];dsimp only at el;omega);refine⟨G2,M2,s5',s6'',?_,by rw[xaN]at J2;exact J2⟩;rw[xay,zY,xaa (by simp)];simp only[xcg,xbV];rw[show bM (t,z,v)=cX t z v from rfl,b1];exact h2
noncomputable def tm:D->Int
 |.tup (.int t::_)=>t
 |_=>0
noncomputable def ky:D->Str
 |.tup (_::.str z::_)=>z
 |_=>""
noncomputable def vl:D->Int
 |.tup (_::_::.int v::_)=>v
 |_=>0
def Tg (d:D):Prop:=d=.tup [.int (tm d),.str (ky d),.int (vl d)]
def N6 (ds:List D):Prop:=ds.Pairwise fun a b=>tm a<=tm b
def Tk (d:D):Prop:=∃(t:Int) (z:Str) (v:Int),d=.tup [.int t,.str z,.int v]
theorem Ni {d:D}(h:Tk d):Tg d:=by
 obtain⟨t,z,v,rfl⟩:=h;rfl
def ks (d:D):List Nat:=(ky d).cps.toList
def kh (d e:D):Prop:=tm d<tm e\/tm d=tm e/\(ks d<ks e\/ks d=ks e/\vl d<=vl e)
theorem J9 (d:D):kh d d:=.inr ⟨rfl,.inr ⟨rfl,xdW _⟩⟩
theorem R0 (a b c:D)(h1:kh a b)(h2:kh b c):kh a c:=by
 rcases h1 with h1 |⟨e1,h1⟩
 ·rcases h2 with h2 |⟨e2,h2⟩
  ·exact .inl (by omega)
  ·exact .inl (by omega)
 ·rcases h2 with h2 |⟨e2,h2⟩
  ·exact .inl (by omega)
  ·refine .inr ⟨by omega,?_⟩;rcases h1 with h1 |⟨k1,h1⟩
   ·rcases h2 with h2 |⟨k2,h2⟩
    ·exact .inl (xef h1 h2)
    ·exact .inl (by rw[<-k2];exact h1)
   ·rcases h2 with h2 |⟨k2,h2⟩
    ·exact .inl (by rw[k1];exact h2)
    ·exact .inr ⟨k1.trans k2,by omega⟩
theorem J6 {a b:Str}(h:a.cps.toList=b.cps.toList):a=b:=PySem.Str.ext' (xcQ.mp h)
theorem Kl {t t' v v':Int}{z z':Str}:∃b,bA [.int t,.str z,.int v] [.int t',.str z',.int v']=some b/\(b=true->kh (.tup [.int t,.str z,.int v]) (.tup [.int t',.str z',.int v']))/\(b=false->kh (.tup [.int t',.str z',.int v']) (.tup [.int t,.str z,.int v])):=by
 simp only[bA]
 by_cases e:t=t'
 ·subst e;rw[xaa rfl]
  by_cases e:z=z'
  ·subst e;rw[xaa rfl]
   by_cases e:v=v'
   ·subst e;rw[xaa rfl];exact⟨false,rfl,(fun h=>Bool.noConfusion h),fun _=>J9 _⟩
   ·rw[xad e];refine⟨_,rfl,fun h=>.inr ⟨rfl,.inr ⟨rfl,?_⟩⟩,fun h=>.inr ⟨rfl,.inr ⟨rfl,?_⟩⟩⟩
    ·have:=xbq h;show v<=v';omega
    ·have:=xde h;show v'<=v;omega
  ·rw[xad e];refine⟨_,rfl,fun h=>.inr ⟨rfl,.inl (xbq h)⟩,fun h=>.inr ⟨rfl,.inl ?_⟩⟩;have h:=xde h;show z'.cps.toList<z.cps.toList
   by_cases g:z'.cps.toList<z.cps.toList
   ·exact g
   ·exact absurd (J6 (List.le_antisymm (xdT.mp g) (xdT.mp h))) e
 ·rw[xad e];refine⟨_,rfl,fun h=>.inl (xbq h),fun h=>.inl ?_⟩;have:=xde h;show t'<t;omega
theorem zb2 {ds:List D}(hT:∀d∈ds,Tg d)(hl:ds.length<64):∃es,Gv ds=some es/\es.Perm ds/\es.Pairwise kh:=
 Z5 hl (xaY.mpr fun d hd=>by rw[hT d hd];rfl) J9 R0 fun xs ys hx hy=>by
  have e1:=hT _ hx;have e2:=hT _ hy;unfold Tg at e1 e2;have f1:=D.tup.inj e1;have f2:=D.tup.inj e2;generalize tm (D.tup xs)=t at f1;generalize ky (D.tup xs)=z at f1;generalize vl (D.tup xs)=v at f1;generalize tm (D.tup ys)=t' at f2;generalize ky (D.tup ys)=z' at f2;generalize vl (D.tup ys)=v' at f2;rw[f1,f2];exact Kl
theorem zbU {es:List D}(h:es.Pairwise kh):N6 es:=h.imp fun {a b} h=>by
 rcases h with h |⟨h, -⟩<;>omega
theorem QF {t t':Int}{z z':Str}(h:t<t'\/t=t'/\z.cps.toList<z'.cps.toList):lG [.int t,.str z] [.int t',.str z']=some false:=by
 simp only[lG];rcases h with h |⟨rfl,h⟩
 ·rw[xad (by omega),xaC (by omega)]
 ·rw[xaa rfl,xad (fun e=>by subst e;exact xcB _ h),xaW h];rfl
variable {M:Mm}
theorem Jw {α β:Type}{f g:α->Option β}:∀{l:List α},(∀x∈l,f x=g x)->l.filterMap f=l.filterMap g
 | [],_=>rfl
 |x::l,h=>by rw[xbC,xbC,h x (xau ..),Jw fun y hy=>h y (xak _ hy)]
theorem Ke {G:List WG}{g:WG}(nd:(G.map (·.1)).Nodup)(hg:g∈G):dz g.1 G=some g.2:=by
  cases h:dz g.1 G with
  |none=>exact absurd rfl (wM h g hg)
  |some p=>
    have:=Eo nd _ (lK h) g hg rfl;rw[<-this]
noncomputable def tW (f:Str) (mark:Int) (g:WG):Option D:=if g.1.1<=mark then some (cX (g.1.1 - 1) g.1.2 (fo f g.2.2)) else none
theorem Pr {b:Nat}{G:List WG}{w s mark:Int}{f:Str}{a0 a1 s5 s6:Slot}(I:WI b G M)(hG:G.length<=900)(hv:∀g∈G,g.2.2≠ []/\g.2.2.length<=900):
    fj [("mark",2),("window",3),("values",4)] (fV (rD (aj 4))) nH sI [a0,a1,.val (.int mark),.val (.tup [.int w,.int s,.str f]),.val (.ref b),s5,s6] M=some (.v (.lst (G.filterMap (tW f mark))),M.set b (.dtf (G.map dE))):=by
  have h0:aj 4 [a0,a1,.val (.int mark),.val (.tup [.int w,.int s,.str f]),.val (.ref b),s5,s6] M=some (.v (.ref b),M):=rfl;have h1:=RK h0 I.d;have fr:(M.set b (.dtf (G.map dE)))[b]? =some (.dtf (G.map dE)):=Aw I.d;have h2:=QS h1 fr;rw[zX,h2,z6];generalize hN:M.set b (E3.Cl.dtf (G.map dE))=N at fr ⊢;have hc:∀g∈G,N[g.2.1]? =some (.lst (g.2.2.map .int)):=fun g hg=>by
    rw[<-hN];exact rJ (I.c g hg).1 (xbu (I.c g hg).2)
  have cp := vL (M := N) (env := bL [("mark", 2), ("window", 3), ("values", 4)] [a0, a1, .val (.int mark), .val (.tup [.int w, .int s, .str f]), .val (.ref b), s5, s6]) (q := nH) (e := sI) (fun d=>match d with
    |.tup [.int e,.str z]=>(dz (e,z) G).bind fun p=>tW f mark ((e,z),p)
    |_=>none) ((G.map dE).map fun p=>zA p.1) [] (fun d hd=>?_) (by rw[xae,xae,xbn,xbz];omega)
  · rw[cp,z7,xbA,xdI,xdd];refine congrArg (fun l=>some (Res.v (D.lst l),N)) (Jw fun g hg=>?_);show(dz g.1 G).bind (fun p=>tW f mark (g.1,p))=_;rw[Ke I.kk hg];rfl
  · obtain⟨p,hp,rfl⟩:=xaB.mp hd;obtain⟨g,hg,rfl⟩:=xaB.mp hp;obtain⟨⟨e,z⟩,p,is⟩:=g;have lo:=Ke I.kk hg;dsimp only at lo;have vW:=Hl (k:=(e,z)) G;rw[lo]at vW;have ff:=Qe (f:=f) (hc _ hg) (hv _ hg).1 (hv _ hg).2;show match (dz (e,z) G).bind fun p=>tW f mark ((e,z),p) with
      |some y=>nH [.val (.tup [.int e,.str z]),.val (.int mark),.val (.tup [.int w,.int s,.str f]),.val (.ref b)] N=some (.v (.bl true),N)/\sI [.val (.tup [.int e,.str z]),.val (.int mark),.val (.tup [.int w,.int s,.str f]),.val (.ref b)] N=some (.v y,N)
      |none=>nH [.val (.tup [.int e,.str z]),.val (.int mark),.val (.tup [.int w,.int s,.str f]),.val (.ref b)] N=some (.v (.bl false),N)
    rw[lo];simp only[Option.bind_some,tW];have dg:rC (aj 3) (aj 0) [.val (.tup [.int e,.str z]),.val (.int mark),.val (.tup [.int w,.int s,.str f]),.val (.ref b)] N=some (.v (.ref p),N):=Qf (k:=b) (y:=.tup [.int e,.str z]) (key:=kK (e,z)) rfl rfl fr rfl vW
    by_cases hm:e<=mark
    · rw[xaa hm];refine⟨?_,?_⟩
      · unfold nH;z_go
        try simp only[hm,xa9]
      · unfold sI cX;generalize rC (aj 3) (aj 0)=DG at dg ⊢;z_go;rw[dg];z_go;rw[ff];z_go
    · rw[xad hm];unfold nH;z_go
      try simp only[hm,xaG]
theorem Jv {w s:Int}(s0:0<s)(h:s<=w)(hw:w<=8 * s):∀Y:List Th,(Y.flatMap (adds w s)).length<=8 * Y.length:=by
  intro Y
  induction Y with
  |nil=>exact xab _
  |cons x Y ih=>
    have:=HS (x:=x) s0 h hw;rw[xeu,xaq,xaF];unfold adds;rw[xae];unfold adds at ih;omega
theorem Qa {row:D}{X:List Th}{w s mark:Int}{f:Str}(hr:∀M,i_ [row] M=some (.v (.tup [.int w,.int s,.str f]),M))(s0:0<s)(h:s<=w)(hw:w<=8 * s)(hl:X.length<=10):
  ∃b G M1 M',WJ b (X.flatMap (adds w s)) G M1/\wu [row,.lst (X.map bM),.int mark] M=some (.v (.lst (G.filterMap (tW f mark))),M'):=by
 have j0:WJ M.length [] [] (M ++ [.dtc []]):=by
  refine⟨⟨?_,(fun g hg=>nomatch hg),.nil,.nil⟩,(fun g hg=>nomatch hg),(fun x hx=>nomatch hx),xab _⟩
  rw[xaw (xab _),xcv];rfl
 obtain⟨G,M1,s5,s6,h1,J⟩:=Ng (a0:=.val row) (a1:=.val (.lst (X.map bM))) (a2:=.val (.int mark)) (f:=f) s0 h hw X [] [] _ .un .un j0 (by rw[xbz];omega);rw[xbA]at J;have ll:(X.flatMap (adds w s)).length<=80:=by
  have:=Jv s0 h hw X;omega
 have cc:=Pr (w:=w) (s:=s) (f:=f) (mark:=mark) (a0:=.val row) (a1:=.val (.lst (X.map bM))) (s5:=s5) (s6:=s6) J.i (by have:=J.n;omega) (fun g hg=>⟨(J.v g hg).2,by rw[(J.v g hg).1];exact xao NP (by omega)⟩);refine⟨M.length,G,M1,M1.set M.length (.dtf (G.map dE)),J,?_⟩;unfold wu Ce;generalize wK=B at h1 ⊢;generalize fj [("mark",2),("window",3),("values",4)] (fV (rD (aj 4))) nH sI=CC at cc ⊢;generalize hT:X.map bM=T at h1 cc ⊢;z_go;rw[hr];z_go;rw[WW];z_go;rw[h1];z_go;rw[cc];z_go
theorem P_ {row:D}{n:Str}{rs:List D}{X:List Th}{w s mark:Int}{f:Str}(en:row=.tup (.str n::rs))(hn:n="fixed"\/n="slide")(hr:∀M,i_ [row] M=some (.v (.tup [.int w,.int s,.str f]),M))(s0:0<s)(h:s<=w)(hw:w<=8 * s)(hl:X.length<=10):
  ∃b G M1 M',WJ b (X.flatMap (adds w s)) G M1/\wD [row,.lst [.lst (X.map bM)],.int mark] M=some (.v (.lst (G.filterMap (tW f mark))),M'):=by
 obtain⟨b,G,M1,M',J,hc⟩:=Qa (M:=M) (mark:=mark) hr s0 h hw hl;refine⟨b,G,M1,M',J,?_⟩;clear hr;subst en;have k1:(n=Str.ofString "keep")=False:=by rcases hn with rfl |rfl<;>exact xex (by x_go)
 have k2:(n=Str.ofString "turn")=False:=by rcases hn with rfl |rfl<;>exact xex (by x_go)
 have k3:(n=Str.ofString "share")=False:=by rcases hn with rfl |rfl<;>exact xex (by x_go)
 have k4:aG .isin (.str n) (.tup [.str (Str.ofString "fixed"),.str (Str.ofString "slide")])=some (.bl true):=by rcases hn with rfl |rfl<;>kernel_rfl
 generalize hT:X.map bM=T at hc ⊢;unfold wD Cq;z_go;simp only[k1,xaG];z_go;simp only[k2,xaG];z_go;simp only[k3,xaG];z_go;rw[k4];z_go;rw[hc];z_go
theorem Qm {w s:Int}{wt st f:Str}{x1 x2:D}(e1:dX [.str wt]=some (.int w))(e2:dX [.str st]=some (.int s)):i_ [.tup [.str "slide",x1,x2,.tup [.str wt,.str st,.str f]]] M=some (.v (.tup [.int w,.int s,.str f]),M):=by
 unfold i_ yR;z_go;rw[<-wY,e1];z_go;rw[<-wY,e2];z_go;rw[show bY [D.str wt,.str st,.str f] (-1)=some (.str f) from rfl];z_go
theorem Ql {w:Int}{wt f:Str}{x1 x2:D}(e1:dX [.str wt]=some (.int w)):i_ [.tup [.str "fixed",x1,x2,.tup [.str wt,.str f]]] M=some (.v (.tup [.int w,.int w,.str f]),M):=by
 have k1:(Str.ofString "fixed"=Str.ofString "slide")=False:=xex (by x_go);unfold i_ yR;z_go;rw[<-wY,e1];z_go;simp only[k1,xaG];z_go;rw[show bY [D.str wt,.str f] (-1)=some (.str f) from rfl];z_go
variable {M:Mm}
theorem G9 {t t' v v':Int}{z z':Str}:∃b,bA [.int t,.str z,.int v] [.int t',.str z',.int v']=some b:=by
 simp only[bA]
 repeat' split
 all_goals exact⟨_,rfl⟩
theorem Uu {ds:List D}(hT:∀d∈ds,Tk d):mR ds:=by
 refine⟨.inl (xaY.mpr fun d hd=>?_),fun xs ys hx hy=>?_⟩
 ·obtain⟨t,z,v,rfl⟩:=hT d hd;rfl
 ·obtain⟨t,z,v,e⟩:=hT _ hx;obtain⟨t',z',v',e'⟩:=hT _ hy;rw[D.tup.inj e,D.tup.inj e'];exact G9
theorem RX {a b:D}(ha:Tk a)(hb:Tk b)(h:nP a b):kh a b:=by
 obtain⟨t,z,v,rfl⟩:=ha;obtain⟨t',z',v',rfl⟩:=hb;obtain⟨c,e1, -,e3⟩:=Kl (t:=t') (t':=t) (v:=v') (v':=v) (z:=z') (z':=z);have h:bA [.int t',.str z',.int v'] [.int t,.str z,.int v]=some false:=h;rw[e1]at h;exact e3 (xas h)
theorem u_ {f:Str}{mark:Int}{G:List WG}{d:D}:d∈G.filterMap (tW f mark) ↔ ∃g∈G,g.1.1<=mark/\d=cX (g.1.1 - 1) g.1.2 (fo f g.2.2):=by
 rw[xcd]
 constructor
 ·rintro⟨g,hg,e⟩;unfold tW at e;split at e
  ·rename_i hm;exact⟨g,hg,hm,(xas e).symm⟩
  ·cases e
 ·rintro⟨g,hg,hm,rfl⟩;exact⟨g,hg,xaa hm⟩
def pk (d:D):WK:=(tm d + 1,ky d)
theorem VR {e v:Int}{z:Str}:pk (cX (e - 1) z v)=(e,z):=by
 show(e - 1 + 1,z)=_;rw[xdf]
theorem Nb {f:Str}{mark:Int}:∀G:List WG,(G.filterMap (tW f mark)).map pk=(G.filter fun g=>decide (g.1.1<=mark)).map (·.1)
  | []=>rfl
  |g::G=>by
    have ih:=Nb (f:=f) (mark:=mark) G
    by_cases h:g.1.1<=mark
    · have e:tW f mark g=some (cX (g.1.1 - 1) g.1.2 (fo f g.2.2)):=xaa h;rw[xdJ e,xcE (by simpa using h),xay,xay,ih,VR]
    · have e:tW f mark g=none:=xad h;rw[xdK e,xcF (by simpa using h),ih]
theorem Qk {row:D}{n:Str}{rs:List D}{X:List Th}{w s mark:Int}{f:Str}(en:row=.tup (.str n::rs))(hn:n="fixed"\/n="slide")(hr:∀M,i_ [row] M=some (.v (.tup [.int w,.int s,.str f]),M))(s0:0<s)(h:s<=w)(hw:w<=8 * s)(hl:X.length<=10):
  ∃b G M1 es M',WJ b (X.flatMap (adds w s)) G M1/\es.Perm (G.filterMap (tW f mark))/\es.Pairwise kh/\wF [row,.lst [.lst (X.map bM)],.int mark] M=some (.v (.lst es),M'):=by
 obtain⟨b,G,M1,M',J,ha⟩:=P_ (M:=M) (mark:=mark) en hn hr s0 h hw hl;have tk:∀d∈G.filterMap (tW f mark),Tk d:=fun d hd=>by
  obtain⟨g, -, -,rfl⟩:=u_.mp hd;exact⟨_,_,_,rfl⟩
 obtain⟨es,w1,w2,w3⟩:=Z1 (Uu tk);refine⟨b,G,M1,es,M',J,w2,w3.imp_of_mem fun ha hb h=>RX (tk _ (w2.mem_iff.mp ha)) (tk _ (w2.mem_iff.mp hb)) h,?_⟩;clear hr;generalize hT:X.map bM=T at ha ⊢;unfold wF Cr;z_go;rw[ha];z_go;rw[YJ w1];z_go
theorem Py {e s:Int}{n:Nat}(s0:0<s):(dl e s n).Nodup:=by
 unfold dl;rw[List.Nodup,xbK];refine xdX.imp fun {a b} h c=>?_;have:(a:Int) * s<(b:Int) * s:=xdh (by omega) s0;omega
theorem PN {w s t:Int}(s0:0<s):(eL w s t).Nodup:=by
 unfold eL;rw[List.Nodup,List.pairwise_reverse];exact List.Pairwise.imp (fun h c=>h c.symm) (Py (e:=e0 w s t) (n:=nE w s t) s0)
theorem NK {e v:Int}{z z':Str}:∀{l:List Int},l.Nodup->vals (e,z) (l.map fun e'=>((e',z'),v))=if z'=z/\e∈l then [v] else []
  | [],_=>by simp[vals]
  |a::l,h=>by
    rw[xbI]at h;have ih:=NK (e:=e) (v:=v) (z:=z) (z':=z') h.2;rw[xay,show((a,z'),v)::l.map (fun e'=>((e',z'),v))=[((a,z'),v)] ++ l.map (fun e'=>((e',z'),v)) from rfl,Ho,ih]
    by_cases hz:z'=z
    · subst hz
      by_cases ha:a=e
      · subst ha;rw[Hr,xad fun c=>h.1 c.2,xaa ⟨rfl,xau ..⟩];rfl
      · rw[Bf fun c=>ha (congrArg Prod.fst c)]
        by_cases hm:e∈l
        · rw[xaa ⟨rfl,hm⟩,xaa ⟨rfl,xak _ hm⟩];rfl
        · rw[xad fun c=>hm c.2,xad fun c=>?_]
          · rfl
          · rcases xan.mp c.2 with c |c
            · exact ha c.symm
            · exact hm c
    · rw[Bf fun c=>hz (congrArg Prod.snd c),xad fun c=>hz c.1,xad fun c=>hz c.1];rfl
theorem Hq {w s e:Int}{z:Str}(s0:0<s):∀X:List Th,vals (e,z) (X.flatMap (adds w s))=(X.filter fun x=>decide (x.2.1=z/\e∈eL w s x.1)).map (·.2.2)
  | []=>rfl
  |x::X=>by
    rw[xeu,Ho,Hq s0 X];unfold adds;rw[NK (PN s0)]
    by_cases h:x.2.1=z/\e∈eL w s x.1
    · rw[xaa h,xcE (by simpa using h)];rfl
    · rw[xad h,xcF (by simpa using h)];rfl
theorem R4 {f:Str}{is:List Int}(hf:f="sum"\/f="count"\/f="most"\/f="least")(hn:is≠ []):lf f is.reverse=lf f is:=by
  cases is with
  |nil=>exact absurd rfl hn
  |cons a r=>
    rcases hf with rfl |rfl |rfl |rfl
    · exact Gy (a::r)
    · show(((a::r).reverse.length:Nat):Int)=(((a::r).length:Nat):Int);rw[xb7]
    · show cV (a::r).reverse=cV (a::r);obtain⟨h1,h2,h3⟩:=fold_max r a;have hm:r.foldl (fun x y=>if y > x then y else x) a∈a::r:=by
        rcases h1 with h1 |h1
        · exact xan.mpr (.inl h1)
        · exact xan.mpr (.inr h1)
      have hb:∀y∈a::r,y<=r.foldl (fun x y=>if y > x then y else x) a:=fun y hy=>by
        rcases xan.mp hy with rfl |hy
        · exact h2
        · exact h3 y hy
      rw[yE hm hb];exact yE (xbl.mpr hm) fun y hy=>hb y (xbl.mp hy)
    · show dw (a::r).reverse=dw (a::r);obtain⟨h1,h2,h3⟩:=fold_min r a;have hm:r.foldl (fun x y=>if y<x then y else x) a∈a::r:=by
        rcases h1 with h1 |h1
        · exact xan.mpr (.inl h1)
        · exact xan.mpr (.inr h1)
      have hb:∀y∈a::r,r.foldl (fun x y=>if y<x then y else x) a<=y:=fun y hy=>by
        rcases xan.mp hy with rfl |hy
        · exact h2
        · exact h3 y hy
      rw[vH hm hb];exact vH (xbl.mpr hm) fun y hy=>hb y (xbl.mp hy)
theorem QT {w s t e:Int}(s0:0<s)(h:s<=w)(hm:(e - w) % s=0):e∈eL w s t ↔ e - w<=t/\t<=e - 1:=by
 rw[CW s0 h]
 constructor
 ·rintro⟨-,h1,h2⟩;omega
 ·rintro⟨h1,h2⟩;exact⟨hm,by omega,by omega⟩
noncomputable def own (z:Str) (a b:Int) (X:List Th):List Int:=(X.filter fun x=>decide (x.2.1=z) && (decide (a<=x.1) && decide (x.1<=b))).map (·.2.2)
noncomputable def cov (z:Str) (w t:Int) (d:D):Bool:=decide (ky d=z) && (decide (tm d - w<t) && decide (t<=tm d))
structure Rt (X:List Th)(w s mark:Int)(f:Str)(es:List D):Prop where
 tk:∀d∈es,Tk d
 rs:es.Pairwise fun a b=>tm a<tm b\/tm a=tm b/\ks a<ks b
 ln:es.length<=100
 a:∀d∈es,tm d<mark/\(tm d + 1 - w) % s=0
 o:∀d∈es,own (ky d) (tm d + 1 - w) (tm d) X≠ []/\vl d=lf f (own (ky d) (tm d + 1 - w) (tm d) X)
 c:∀x∈X,((es.filter (cov x.2.1 w x.1)).length:Int)=max 0 ((min x.1 (mark - w)) / s - (x.1 - w) / s)
section
variable {X:List Th}{w s mark:Int}{f:Str}{b:Nat}{G:List WG}{M1:Mm}{es:List D}
theorem Dl (s0:0<s)(h:s<=w)(J:WJ b (X.flatMap (adds w s)) G M1){g:WG}(hg:g∈G):(g.1.1 - w) % s=0:=by
 have v:=J.v g hg;rw[v.1,show g.1=(g.1.1,g.1.2) from rfl,Hq s0]at v;have ne:(X.filter fun x=>decide (x.2.1=g.1.2/\g.1.1∈eL w s x.1))≠ []:=fun c=>v.2 (by rw[c];rfl);obtain⟨x,hx⟩:=List.exists_mem_of_ne_nil _ ne;have:=(xbW.mp hx).2;exact((CW s0 h).mp (xbq this).2).1
theorem QB (s0:0<s)(h:s<=w)(J:WJ b (X.flatMap (adds w s)) G M1){g:WG}(hg:g∈G):g.2.2=own g.1.2 (g.1.1 - w) (g.1.1 - 1) X:=by
 have hm:=Dl s0 h J hg;rw[(J.v g hg).1,show g.1=(g.1.1,g.1.2) from rfl,Hq s0];unfold own;congr 2;funext x;have:=QT (t:=x.1) s0 h hm;rw[<-Bool.decide_and, <-Bool.decide_and];exact decide_eq_decide.mpr (and_congr Iff.rfl this)
theorem Kv (hp:es.Perm (G.filterMap (tW f mark)))(nd:(G.map (·.1)).Nodup):(es.map pk).Nodup:=by
 rw[(hp.map pk).nodup_iff,Nb];exact List.Nodup.sublist (List.filter_sublist.map _) nd
theorem Pg (s0:0<s)(h:s<=w)(J:WJ b (X.flatMap (adds w s)) G M1)(hp:es.Perm (G.filterMap (tW f mark))){x:Th}(hx:x∈X):((es.filter (cov x.2.1 w x.1)).length:Int)=max 0 ((min x.1 (mark - w)) / s - (x.1 - w) / s):=by
 have nd:=Kv hp J.i.kk;have lh:∀c:Int,c<=min x.1 (mark - w) / s ↔ c * s<=x.1/\c * s<=mark - w:=fun c=>by
  rw[xdV s0];omega
 have ll:∀c:Int,(x.1 - w) / s<c ↔ x.1 - w<c * s:=fun c=>Int.ediv_lt_iff_lt_mul s0;generalize min x.1 (mark - w) / s=hi at lh ⊢;generalize (x.1 - w) / s=lo at ll ⊢;have n1:((es.filter (cov x.2.1 w x.1)).map fun d=>tm d + 1).Nodup:=by
  rw[List.Nodup,xbK]at nd ⊢;refine List.Pairwise.imp_of_mem (fun {a c} ha hc n e=>n ?_) (nd.filter _);have ka:=(xbW.mp ha).2;have kc:=(xbW.mp hc).2;unfold cov at ka kc;simp only[xav,xbc]at ka kc;exact xew e (ka.1.trans kc.1.symm)
 have n2:((List.range (hi - lo).toNat).map fun(k:Nat)=>w + (lo + 1 + (k:Int)) * s).Nodup:=by
  rw[List.Nodup,xbK];refine xdX.imp fun {a c} h e=>?_;have:(lo + 1 + (a:Int)) * s<(lo + 1 + (c:Int)) * s:=xdh (by omega) s0;omega
 have pm:=(List.perm_ext_iff_of_nodup n1 n2).mpr fun e=>?_
 ·have:=pm.length_eq;rw[xae,xae,xbx]at this;rw[this];omega
 ·rw[xaB,xaB]
  constructor
  ·rintro⟨d,hd,rfl⟩;obtain⟨hd,hc⟩:=xbW.mp hd;obtain⟨g,hg,gm,rfl⟩:=u_.mp (hp.mem_iff.mp hd);have hm:=Dl s0 h J hg;unfold cov at hc;simp only[xav,xbc]at hc;obtain⟨-,h1,h2⟩:=hc;have h1:g.1.1 - 1 - w<x.1:=h1;have h2:x.1<=g.1.1 - 1:=h2;obtain⟨c,ec⟩:=xdN hm;rw[xdH]at ec;have c1:=(lh c).mpr ⟨by omega,by omega⟩;have c2:=(ll c).mpr (by omega);refine⟨(c - lo - 1).toNat,xb3.mpr (by omega),?_⟩;show w + (lo + 1 + ((c - lo - 1).toNat:Int)) * s=g.1.1 - 1 + 1;rw[show lo + 1 + ((c - lo - 1).toNat:Int)=c by omega];omega
  ·rintro⟨k,hk,rfl⟩;have hk:=xb3.mp hk;generalize hc:lo + 1 + (k:Int)=c;obtain⟨c1,c2⟩:=(lh c).mp (by omega);have c3:=(ll c).mp (by omega);have me:(w + c * s)∈eL w s x.1:=(CW s0 h).mpr ⟨by rw[show w + c * s - w=c * s by omega];exact Int.mul_emod_left _ _,by omega,by omega⟩;obtain⟨g,hg,eg⟩:=J.m ((w + c * s,x.2.1),x.2.2) (List.mem_flatMap.mpr ⟨x,hx,xaB.mpr ⟨_,me,rfl⟩⟩);have e1:g.1.1=w + c * s:=congrArg Prod.fst eg;have e2:g.1.2=x.2.1:=congrArg Prod.snd eg;refine⟨cX (g.1.1 - 1) g.1.2 (fo f g.2.2),xbW.mpr ⟨hp.mem_iff.mpr (u_.mpr ⟨g,hg,by omega,rfl⟩),?_⟩,?_⟩
   ·unfold cov;simp only[xav,xbc];refine⟨e2,?_,?_⟩
    ·show g.1.1 - 1 - w<x.1;omega
    ·show x.1<=g.1.1 - 1;omega
   ·show g.1.1 - 1 + 1=w + c * s;omega
theorem Y6 (hf:f="sum"\/f="count"\/f="most"\/f="least")(s0:0<s)(h:s<=w)(hl:(X.flatMap (adds w s)).length<=100)(J:WJ b (X.flatMap (adds w s)) G M1)(hp:es.Perm (G.filterMap (tW f mark)))(hs:es.Pairwise kh):Rt X w s mark f es:=by
 have nd:=Kv hp J.i.kk;refine⟨fun d hd=>?_,?_,?_,fun d hd=>?_,fun d hd=>?_,fun x hx=>Pg s0 h J hp hx⟩
 ·obtain⟨g,hg,gm,rfl⟩:=u_.mp (hp.mem_iff.mp hd);exact⟨_,_,_,rfl⟩
 ·rw[List.Nodup,xbK]at nd;refine(List.Pairwise.and hs nd).imp fun {a b} z=>?_;obtain⟨z,n⟩:=z;rcases z with z |⟨e,z⟩
  ·exact .inl z
  ·rcases z with z |⟨k, -⟩
   ·exact .inr ⟨e,z⟩
   ·refine absurd ?_ n;unfold pk;rw[e,J6 k]
 ·have:=J.n;have:=List.length_filterMap_le (tW f mark) G;rw[hp.length_eq];omega
 ·obtain⟨g,hg,gm,rfl⟩:=u_.mp (hp.mem_iff.mp hd);have hm:=Dl s0 h J hg;refine⟨?_,?_⟩
  ·show g.1.1 - 1<mark;omega
  ·show(g.1.1 - 1 + 1 - w) % s=0;rw[xdf];exact hm
 ·obtain⟨g,hg,gm,rfl⟩:=u_.mp (hp.mem_iff.mp hd);have go:=QB s0 h J hg;have ne:=(J.v g hg).2;show own g.1.2 (g.1.1 - 1 + 1 - w) (g.1.1 - 1) X≠ []/\fo f g.2.2=lf f (own g.1.2 (g.1.1 - 1 + 1 - w) (g.1.1 - 1) X);rw[xdf, <-go];exact⟨ne,by rw[Qv hf ne,R4 hf ne]⟩
end
variable {M:Mm}
noncomputable def ABC:Str:=Str.ofString "abcdefghijklmnopqrstuvwxyz"
theorem HF:ABC.length=26:=by x_go
def su (z:Str):Prop:=∀c∈cd z,97<=c/\c<=122
theorem HY {i:Int}(h0:0<=i)(h1:i<26):∃c,(97<=c/\c<=122)/\bY ABC.cps.toList i=some c:=by
 have hl:ABC.cps.toList.length=26:=by x_go
 refine⟨_,?_,HX 0 h0 (by rw[hl];exact h1)⟩;have all:ABC.cps.toList.all (fun c=>decide (97<=c/\c<=122))=true:=by x_go
 have m:ABC.cps.toList.getD i.toNat 0∈ABC.cps.toList:=by
  rw[xa5,xaf (by rw[hl];omega)];exact xbk _
 simpa using xaY.mp all _ m
theorem Ri {c:Nat}(h:97<=c/\c<=122):∃i:Int,yw ABC [.str ⟨#[c]⟩]=some (.int i):=by
 have all:(List.range 26).all (fun j=>match yw ABC [.str ⟨#[97 + j]⟩] with |some (.int _)=>true |_=>false)=true:=by x_go
 have:=xaY.mp all (c - 97) (xb3.mpr (by omega));rw[show 97 + (c - 97)=c by omega]at this;split at this
 ·rename_i i e;exact⟨i,e⟩
 ·cases this
theorem ZQ {x:Str}{j:Int}(h:0<=j/\j<=x.length):cd (Txt.slice x none (some j))=(cd x).take j.toNat:=by
 have:=PyProof.Rows.slice_closes_to (x:=x) (j:=j) ⟨h.1,by show j<=((cd x).length:Int);rw[<-gD];exact h.2⟩;rw[eq_of_beq this];show List.take (j - 0).toNat (List.drop (0:Int).toNat (cd x))=_;rw[Int.sub_zero];rfl
theorem ZP {x:Str}{j:Int}(h:0<=j/\j<=x.length):cd (Txt.slice x (some j) none)=(cd x).drop j.toNat:=by
 have:=PyProof.Rows.slice_closes_from (x:=x) (i:=j) ⟨h.1,by show j<=((cd x).length:Int);rw[<-gD];exact h.2⟩;rw[eq_of_beq this];show List.take (((cd x).length:Int) - j).toNat (List.drop j.toNat (cd x))=_;rw[xbT];rw[xb4];omega
theorem R_ {w:Str}{c:Nat}(h:su w)(hc:97<=c/\c<=122):su (w ++ ⟨#[c]⟩):=fun x hx=>by
 rw[vK,xaI]at hx;rcases hx with hx |hx
 ·exact h x hx
 ·rw[Cz,xaz]at hx;rw[hx];exact hc
theorem J_ {w:Str}{c:Nat}:(w ++ ⟨#[c]⟩:Str).length=w.length + 1:=by
 rw[gD,vK,Cz,xaq, <-gD];rfl
theorem zb0 {n:Int}{s1:Slot}{w:Str}{p:Nat}(hp:p<=8)(hw:w.length<=100):∃c:Nat,(97<=c/\c<=122)/\zB [.val (.int n),s1,.val (.str ABC),.val (.str w),.val (.int (0 + (p:Int))),.un,.un] M=some (.nx [.val (.int n),s1,.val (.str ABC),.val (.str (w ++ ⟨#[c]⟩)),.val (.int (0 + (p:Int))),.un,.un],M):=by
 have p0:=xa7 (n / (8 + 25 * (p:Int))) (show(26:Int)≠0 by decide);have p1:=xaV (n / (8 + 25 * (p:Int))) (show(0:Int)<26 by decide);obtain⟨c,hc,ec⟩:=HY p0 p1;refine⟨c,hc,?_⟩;have e:(0:Int) + (p:Int)=(p:Int):=xeo _;rw[e];unfold zB;z_go;rw[xaa ⟨by omega,by omega⟩];z_go;rw[xaa (by rw[HF];decide),ec];z_go;rw[xaa (by rw[show(⟨#[c]⟩:Str).length=1 from rfl];omega)];z_go
theorem Rv {n:Int}{s1:Slot}{m:Nat}(hm:m<=8):∃(w:Str) (s4:Slot),su w/\w.length=m/\loopS 4 zB ((List.range m).map fun(k:Nat)=>D.int (0 + (k:Int))) [.val (.int n),s1,.val (.str ABC),.val (.str (Str.ofString "")),.un,.un,.un] M=some (.nx [.val (.int n),s1,.val (.str ABC),.val (.str w),s4,.un,.un],M):=by
 refine DN (fun o=>∃(w:Str) (s4:Slot),su w/\w.length=m/\o=some (.nx [.val (.int n),s1,.val (.str ABC),.val (.str w),s4,.un,.un],M)) (fun j env N=>N=M/\∃(w:Str) (s4:Slot),su w/\w.length=j/\env=[.val (.int n),s1,.val (.str ABC),.val (.str w),s4,.un,.un]) ⟨rfl,_,_,(fun c h=>by rw[show cd (Str.ofString "")=[] by x_go]at h;cases h),by x_go,rfl⟩ ?_ ?_
 ·rintro j d env N hd ⟨rfl,w,s4,hw,hl,rfl⟩;rw[xar]at hd;have hn:j<m:=by
   rcases xaO j m with h |h
   ·exact h
   ·rw[xa0 (by rw[xbx];exact h)]at hd;cases hd
  rw[xb8 hn]at hd;cases hd;refine⟨by simp,?_⟩;simp only[xcg,xbV];obtain⟨c,hc,e⟩:=zb0 (M:=N) (n:=n) (s1:=s1) (w:=w) (p:=j) (by omega) (by omega);rw[e];exact⟨rfl,_,_,R_ hw hc,by rw[J_,hl],rfl⟩
 ·rintro env N ⟨rfl,w,s4,hw,hl,rfl⟩;rw[xae,xbx]at hl;exact⟨w,s4,hw,hl,rfl⟩
theorem Ry {n q:Int}:∃z:Str,su z/\1<=z.length/\z.length<=8/\vV [.int n,.int q] M=some (.v (.str z),M):=by
 have m0:=xa7 n (show(8:Int)≠0 by decide);have m1:=xaV n (show(0:Int)<8 by decide);obtain⟨w,s4,hw,hl,lp⟩:=Rv (M:=M) (n:=n) (s1:=.val (.int q)) (m:=(1 + n % 8).toNat) (by omega);have wl:(w.length:Int)=1 + n % 8:=by rw[hl];omega
 have a0:=xa7 (n / 8) (show((w.length:Nat):Int)≠0 by omega);have a1:=xaV (n / 8) (show(0:Int)<((w.length:Nat):Int) by omega);generalize ea:n / 8 % ((w.length:Nat):Int)=at_ at a0 a1;have hc:∃c,(97<=c/\c<=122)/\bY w.cps.toList at_=some c:=by
  refine⟨_,?_,HX 0 a0 (by show at_<((cd w).length:Int);rw[<-gD];exact a1)⟩;refine hw _ ?_;show(cd w).getD at_.toNat 0∈cd w;rw[xa5,xaf (by rw[<-gD];omega)];exact xbk _
 obtain⟨c,hc,ec⟩:=hc;obtain⟨i,ei⟩:=Ri hc;have p0:=xa7 (i + q) (show(26:Int)≠0 by decide);have p1:=xaV (i + q) (show(0:Int)<26 by decide);obtain⟨c',hc',ec'⟩:=HY p0 p1;have t1:=ZQ (x:=w) (j:=at_) ⟨a0,by omega⟩;have t2:=ZP (x:=w) (j:=at_ + 1) ⟨by omega,by omega⟩;have l1:(Txt.slice w none (some at_)).length=at_.toNat:=by rw[gD,t1,xbv, <-gD];omega
 have l2:(Txt.slice w (some (at_ + 1)) none).length=w.length - (at_ + 1).toNat:=by rw[gD,t2,xb4, <-gD]
 have l3:(Txt.slice w none (some at_) ++ ⟨#[c']⟩:Str).length=at_.toNat + 1:=by rw[J_,l1]
 have l4:(Txt.slice w none (some at_) ++ ⟨#[c']⟩ ++ Txt.slice w (some (at_ + 1)) none:Str).length=w.length:=by
  rw[gD,vK,xaq, <-gD, <-gD,l2,l3];omega
 refine⟨Txt.slice w none (some at_) ++ ⟨#[c']⟩ ++ Txt.slice w (some (at_ + 1)) none,fun x hx=>?_,by omega,by omega,?_⟩
 ·rw[vK,xaI,vK,xaI,t1,t2,Cz,xaz]at hx;rcases hx with(hx |hx) |hx
  ·exact hw x (xc3 hx)
  ·rw[hx];exact hc'
  ·exact hw x (xd9 hx)
 ·unfold vV BW;z_go;rw[FW (by omega)];z_go;rw[show Str.ofString "abcdefghijklmnopqrstuvwxyz"=ABC from rfl,lp];z_go;rw[xaa (show w.length<=16777216 by omega)];z_go;rw[xaa (show(0:Int)<((w.length:Nat):Int) by omega)];z_go;rw[ea]
  try rw[xaa (show w.length<=16777216 by omega)]
  z_go;rw[ec];z_go;rw[ei];z_go;rw[xaa (by rw[HF];decide),ec'];z_go
  try rw[xaa (show w.length<=16777216 by omega)]
  z_go;rw[xaa (by rw[l1,show(⟨#[c']⟩:Str).length=1 from rfl];omega)];z_go
  try rw[xaa (show w.length<=16777216 by omega)]
  z_go;rw[xaa (by rw[l2,l3];omega)];z_go
theorem Sy {c k:Int}(hk:k.natAbs<18446744073709551616):∃x:Int,0<=x/\x<2147483647/\vY [.int c,.int k] M=some (.v (.int x),M):=by
 have a0:=xa7 ((c + 7919 * k + 1) * 48271) (show(2147483647:Int)≠0 by decide);have a1:=xaV ((c + 7919 * k + 1) * 48271) (show(0:Int)<2147483647 by decide);unfold vY BZ;z_go;rw[xaa (.inl (by omega))];z_go;exact⟨_,xa7 _ (by decide),xaV _ (by decide),rfl⟩
theorem zay {n:Int}(h0:0<=n)(h1:n<2147483647):∃v:Int,wj [.int n] M=some (.v (.int v),M):=by
 unfold wj Cd;z_go
 by_cases h:n % 4=3
 ·simp only[h,xa9];z_go;rw[xaa (by omega)];z_go;exact⟨_,rfl⟩
 ·simp only[h,xaG];z_go;exact⟨_,rfl⟩
variable {M:Mm}
theorem nJ {ns:List Int}{k:Int}(hk:0<=k):fJ [.lst (ns.map .int),.int k] M=some (.v (.int (ns.getD k.toNat 0)),M):=by
 unfold fJ BP;z_go
 by_cases h:k<(ns.length:Int)
 ·simp only[h,xa9];z_go;have e:bY (ns.map D.int) k=some (.int (ns.getD k.toNat 0)):=by
   obtain⟨j,rfl⟩:∃j:Nat,k=j:=⟨k.toNat,by omega⟩;refine nq ?_;have:j<ns.length:=by omega
   rw[xar,xaf this]
   simp[List.getD,this]
  rw[e];z_go
 ·simp only[h,xaG];z_go
  simp[List.getD,xa0 (show ns.length<=k.toNat by omega)]
theorem zau {ns:List Int}{far:Int}{ds:List D}{k:Nat}{s4 s5:Slot}(hk:k<=10)(hl:ds.length<=100):∃d s4' s5',Tk d/\Dz [.val (.lst (ns.map .int)),.val (.int far),.own ds,.val (.int (0 + (k:Int))),s4,s5] M=some (.nx [.val (.lst (ns.map .int)),.val (.int far),.own (ds ++ [d]),.val (.int (0 + (k:Int))),s4',s5'],M):=by
 have e:(0:Int) + (k:Int)=(k:Int):=xeo _;rw[e];unfold Dz;z_go;have c1:=nJ (M:=M) (ns:=ns) (k:=5 + (k:Int)) (by omega);have c2:=nJ (M:=M) (ns:=ns) (k:=1) (by omega);generalize ns.getD (5 + (k:Int)).toNat 0=v5 at c1;generalize ns.getD (1:Int).toNat 0=v1 at c2;obtain⟨x,x0,x1,ex⟩:=Sy (M:=M) (c:=v5) (k:=(k:Int)) (by omega);obtain⟨z, -, -, -,ez⟩:=Ry (M:=M) (n:=v1 % 1000003) (q:=x / 120 % 3);obtain⟨v,ev⟩:=zay (M:=M) (n:=x / 360) (by omega) (by omega);rw[c1];z_go;rw[ex];z_go;rw[c2];z_go;rw[ez];z_go;rw[xaa (.inl (by omega))];z_go;rw[ev];z_go;rw[xaa (by omega)];z_go;exact⟨_,_,_,⟨_,_,_,rfl⟩,rfl⟩
theorem QC {ns:List Int}{far:Int}:∃T:List D,T.length<=10/\(∀d∈T,Tk d)/\wg [.lst (ns.map .int),.int far] M=some (.v (.lst T),M):=by
 have c0:=nJ (M:=M) (ns:=ns) (k:=0) (by omega);have c1:=nJ (M:=M) (ns:=ns) (k:=1) (by omega);generalize ns.getD (0:Int).toNat 0=a at c0;generalize ns.getD (1:Int).toNat 0=v1 at c1;unfold wg Ca;z_go;rw[c0];z_go;have m0:=xa7 (a / 3) (show(9:Int)≠0 by decide);have m1:=xaV (a / 3) (show(0:Int)<9 by decide);rw[FW (by omega)];z_go;refine DN (Q:=fun o=>∃T:List D,T.length<=10/\(∀d∈T,Tk d)/\cQ (fY _ o)=some (.v (.lst T),M)) (fun j env N=>N=M/\∃(ds:List D) (s3 s4 s5:Slot),ds.length=j/\(∀d∈ds,Tk d)/\env=[.val (.lst (ns.map .int)),.val (.int far),.own ds,s3,s4,s5]) ⟨rfl,[],_,_,_,rfl,(fun d h=>nomatch h),rfl⟩ ?_ ?_
 ·rintro j d env N hd ⟨rfl,ds,s3,s4,s5,hl,hT,rfl⟩;rw[xar]at hd;have hn:j<(a / 3 % 9).toNat:=by
   rcases xaO j (a / 3 % 9).toNat with h |h
   ·exact h
   ·rw[xa0 (by rw[xbx];exact h)]at hd;cases hd
  rw[xb8 hn]at hd;cases hd;refine⟨by simp,?_⟩;simp only[xcg,xbV];obtain⟨d,s4',s5',hd,e⟩:=zau (M:=N) (ns:=ns) (far:=far) (ds:=ds) (k:=j) (s4:=s4) (s5:=s5) (by omega) (by omega);rw[e];refine⟨rfl,_,_,_,_,by rw[xaq,hl];rfl,fun y hy=>?_,rfl⟩;rcases xaI.mp hy with h |h
  ·exact hT y h
  ·rw[xaz.mp h];exact hd
 ·rintro env N ⟨rfl,ds,s3,s4,s5,hl,hT,rfl⟩;rw[xae,xbx]at hl;z_go;rw[c1];z_go
  by_cases h:v1 % 3=2
  ·simp only[h,xa9];z_go;rw[Pq _ (by omega)];simp only[Int.reduceToNat];have tl:(ds.take 1).length<=1:=by rw[xbv];exact Nat.min_le_left _ _
   rw[xaa (by omega)];z_go;refine⟨_,?_,fun y hy=>?_,rfl⟩
   ·rw[xaq];omega
   ·rcases xaI.mp hy with h |h
    ·exact hT y h
    ·exact hT y (xc3 h)
  ·simp only[h,xaG];z_go;exact⟨ds,by omega,hT,rfl⟩
theorem Qz {c w s:Int}(hs:0<s):∃m:Int,vX [.int c,.int w,.int s] M=some (.v (.int m),M):=by
 unfold vX BX;z_go
 by_cases h:c % 4=0
 ·simp only[h,xa9];z_go;exact⟨_,rfl⟩
 ·simp only[h,xaG];z_go
  by_cases h:c % 4=3
  ·simp only[h,xa9];z_go;rw[xaa (by split<;>omega)]
   z_go;exact⟨_,rfl⟩
  ·simp only[h,xaG];z_go;rw[xaa (.inl (by omega))];z_go;exact⟨_,rfl⟩
theorem Nh:∀{T:List D},(∀d∈T,Tk d)->∃X:List Th,T=X.map bM
  | [],_=>⟨[],rfl⟩
  |d::T,h=>by
    obtain⟨X,rfl⟩:=Nh fun y hy=>h y (xak _ hy);obtain⟨t,z,v,rfl⟩:=h d (xau ..);exact⟨(t,z,v)::X,rfl⟩
variable {M:Mm}
theorem O_ {i j k:Int}{f g h:E}{env:E3.Env}(hf:f env M=some (.v (.int i),M))(hg:g env M=some (.v (.int j),M))(hh:h env M=some (.v (.int k),M)):dH .le .le f g h env M=some (.v (.bl (decide (i<=j) && decide (j<=k))),M):=by
 unfold dH;simp only[bnd,hf,hg,hh,vw,bO,cG]
 by_cases h1:i<=j
 ·simp only[h1,xa9,Bool.true_and,xbs]
 ·simp only[h1,xaG,xdY]
theorem Pa {i j k:Int}{f g h:E}{env:E3.Env}(hf:f env M=some (.v (.int i),M))(hg:g env M=some (.v (.int j),M))(hh:h env M=some (.v (.int k),M)):dH .lt .le f g h env M=some (.v (.bl (decide (i<j) && decide (j<=k))),M):=by
 unfold dH;simp only[bnd,hf,hg,hh,vw,bO,cG]
 by_cases h1:i<j
 ·simp only[h1,xa9,Bool.true_and,xbs]
 ·simp only[h1,xaG,xdY]
theorem Dd {α β:Type}{p:α->Bool}{g:α->β}:∀l:List α,(l.filterMap fun x=>if p x=true then some (g x) else none)=(l.filter p).map g
  | []=>rfl
  |x::l=>by
    have ih:=Dd (p:=p) (g:=g) l
    cases h:p x with
    |true=>rw[xdJ (b:=g x) (by rw[h];rfl),xcE h,xay,ih]
    |false=>rw[xdK (by rw[h];rfl),xcF (by rw[h];decide),ih]
theorem Vi {X:List Th}{z:Str}{a b:Int}{env:E3.Env}(hT:aj 1 env M=some (.v (.lst (X.map bM)),M))(hc:bL [("_law_key_here",8),("_law_start",10),("_law_time",7)] env=[.val (.str z),.val (.int a),.val (.int b)])(hl:X.length<=100):fj [("_law_key_here",8),("_law_start",10),("_law_time",7)] (bI (aj 1)) pL sH env M=some (.v (.lst ((own z a b X).map .int)),M):=by
  rw[zX,show bI (aj 1) env M=some (.v (X.map bM),M) by simp only[bI,hT],z6,hc,vL (fun d=>if (decide (ky d=z) && (decide (a<=tm d) && decide (tm d<=b)))=true then some (.int (vl d)) else none) (X.map bM) [] (fun d hd=>?_) (by rw[xae,xbn,xbz];omega),z7,xbA,xdd]
  · refine congrArg (fun l=>some (Res.v (D.lst l),M)) ?_;unfold own;rw[xdI, <-Dd];rfl
  · obtain⟨⟨t,z',v⟩, -,rfl⟩:=xaB.mp hd;have ch:=O_ (M:=M) (f:=aj 2) (g:=s2 aZ (aj 0) (ao (.int 0))) (h:=aj 3) (env:=[.val (.tup [.int t,.str z',.int v]),.val (.str z),.val (.int a),.val (.int b)]) (i:=a) (j:=t) (k:=b) (by z_go) (by z_go) (by z_go);have he:sH [.val (.tup [.int t,.str z',.int v]),.val (.str z),.val (.int a),.val (.int b)] M=some (.v (.int v),M):=by
      unfold sH;z_go
    have hq:pL [.val (.tup [.int t,.str z',.int v]),.val (.str z),.val (.int a),.val (.int b)] M=some (.v (.bl (decide (z'=z) && (decide (a<=t) && decide (t<=b)))),M):=by
      unfold pL;generalize dH .le .le (aj 2) (s2 aZ (aj 0) (ao (.int 0))) (aj 3)=CH at ch ⊢;z_go
      by_cases hz:z'=z
      · subst hz;simp only[xa9];z_go;rw[ch];z_go
      · simp only[hz,xaG];z_go
    show match (if (decide (z'=z) && (decide (a<=t) && decide (t<=b)))=true then some (D.int v) else none) with
      |some y=>pL [.val (.tup [.int t,.str z',.int v]),.val (.str z),.val (.int a),.val (.int b)] M=some (.v (.bl true),M)/\sH [.val (.tup [.int t,.str z',.int v]),.val (.str z),.val (.int a),.val (.int b)] M=some (.v y,M)
      |none=>pL [.val (.tup [.int t,.str z',.int v]),.val (.str z),.val (.int a),.val (.int b)] M=some (.v (.bl false),M)
    cases hb:(decide (z'=z) && (decide (a<=t) && decide (t<=b))) with
    |true=>
      rw[hb]at hq;exact⟨hq,he⟩
    |false=>
      rw[hb]at hq;exact hq
theorem Pk {es:List D}{z:Str}{t w:Int}{env:E3.Env}(he:∀d∈es,Tk d)(hT:aj 0 env M=some (.v (.lst es),M))(hc:bL [("_law_key_here",8),("_law_time",7),("_law_width",2)] env=[.val (.str z),.val (.int t),.val (.int w)])(hl:es.length<=100):fj [("_law_key_here",8),("_law_time",7),("_law_width",2)] (bI (aj 0)) vJ vO env M=some (.v (.lst (es.filter (cov z w t))),M):=by
  rw[zX,show bI (aj 0) env M=some (.v es,M) by simp only[bI,hT],z6,hc,vL (fun d=>if cov z w t d=true then some d else none) es [] (fun d hd=>?_) (by rw[xbn,xbz];omega),z7,xbA]
  · rw[Dd (g:=fun d=>d),List.map_id']
  · obtain⟨t',z',v,rfl⟩:=he d hd;have ch:=Pa (M:=M) (f:=s2 bW (s2 aZ (aj 0) (ao (.int 0))) (aj 3)) (g:=aj 2) (h:=s2 aZ (aj 0) (ao (.int 0))) (env:=[.val (.tup [.int t',.str z',.int v]),.val (.str z),.val (.int t),.val (.int w)]) (i:=t' - w) (j:=t) (k:=t') (by z_go) (by z_go) (by z_go);have he:vO [.val (.tup [.int t',.str z',.int v]),.val (.str z),.val (.int t),.val (.int w)] M=some (.v (.tup [.int t',.str z',.int v]),M):=by
      unfold vO;z_go
    have hq:vJ [.val (.tup [.int t',.str z',.int v]),.val (.str z),.val (.int t),.val (.int w)] M=some (.v (.bl (decide (z'=z) && (decide (t' - w<t) && decide (t<=t')))),M):=by
      unfold vJ;generalize dH .lt .le (s2 bW (s2 aZ (aj 0) (ao (.int 0))) (aj 3)) (aj 2) (s2 aZ (aj 0) (ao (.int 0)))=CH at ch ⊢;z_go
      by_cases hz:z'=z
      · subst hz;simp only[xa9];z_go;rw[ch];z_go
      · simp only[hz,xaG];z_go
    have ec:cov z w t (.tup [.int t',.str z',.int v])=(decide (z'=z) && (decide (t' - w<t) && decide (t<=t'))):=rfl;rw[<-ec]at hq
    cases hb:cov z w t (.tup [.int t',.str z',.int v]) with
    |true=>
      rw[hb]at hq;exact⟨hq,he⟩
    |false=>
      rw[hb]at hq;exact hq
variable {M:Mm}
theorem CQ {n:Nat}:∀l:List D,(∀d∈l,d.dep<=n)->D.deps l<=n
  | [],_=>xa8 _
  |d::l,h=>by
    have h1:=h d (by simp);have h2:=CQ l fun x hx=>h x (by simp[hx]);show max d.dep (D.deps l)<=n;omega
theorem Px {T:List D}(h:∀d∈T,Tk d):D.deps T<=1:=CQ T fun d hd=>by
 obtain⟨t,z,v,rfl⟩:=h d hd;exact xab 1
theorem Qj {d:D}(h:Tk d):zj [d] M=some (.v (.bl true),M):=by
 obtain⟨t,z,v,rfl⟩:=h
 kernel_rfl
theorem sl2 {t v:Int}{z:Str}:xZ (.tup [.int t,.str z,.int v]) none (some 2)=some (.tup [.int t,.str z]):=rfl
section
variable {X:List Th}{w s mark:Int}{f:Str}{es:List D}
theorem zbB {t v:Int}{z:Str}{k:Nat}{s7 s8 s9 s10 s11 s12:Slot}(hX:X.length<=100)(s0:0<s)
  (hk:es[k]? =some (.tup [.int t,.str z,.int v])) (hp:0<k->∃t' z' v',es[k - 1]? =some (.tup [.int t',.str z',.int v'])/\lG [.int t',.str z'] [.int t,.str z]=some false) (hm:t<mark) (hd:(t + 1 - w) % s=0) (hi:own z (t + 1 - w) t X≠ []) (hv:v=lf f (own z (t + 1 - w) t X)):
  wJ [.val (.lst es),.val (.lst (X.map bM)),.val (.int w),.val (.int s),.val (.str f),.val (.int mark),.val (.int (k:Int)),s7,s8,s9,s10,s11,s12] M=some (.nx [.val (.lst es),.val (.lst (X.map bM)),.val (.int w),.val (.int s),.val (.str f),.val (.int mark),.val (.int (k:Int)),.val (.int t),.val (.str z),.val (.int v),.val (.int (t + 1 - w)),.val (.lst ((own z (t + 1 - w) t X).map .int)),s12],M):=by
 have oc:=Vi (M:=M) (X:=X) (z:=z) (a:=t + 1 - w) (b:=t) (env:=[.val (.lst es),.val (.lst (X.map bM)),.val (.int w),.val (.int s),.val (.str f),.val (.int mark),.val (.int (k:Int)),.val (.int t),.val (.str z),.val (.int v),.val (.int (t + 1 - w)),s11,s12]) rfl rfl hX;have lf:=Qg (M:=M) (f:=f) hi;rw[<-hv]at lf;have ak:bY es (k:Int)=some (.tup [.int t,.str z,.int v]):=nq hk;generalize hO:own z (t + 1 - w) t X=O at oc lf hi ⊢;generalize X.map bM=T at oc ⊢;have m4:zJ [.val (.lst es),.val (.lst T),.val (.int w),.val (.int s),.val (.str f),.val (.int mark),.val (.int (k:Int)),.val (.int t),.val (.str z),.val (.int v),.val (.int (t + 1 - w)),.val (.lst (O.map .int)),s12] M=some (.nx [.val (.lst es),.val (.lst T),.val (.int w),.val (.int s),.val (.str f),.val (.int mark),.val (.int (k:Int)),.val (.int t),.val (.str z),.val (.int v),.val (.int (t + 1 - w)),.val (.lst (O.map .int)),s12],M):=by
  have cq:aG .eq (.lst (O.map .int)) (.lst [])=some (.bl false):=by
   rw[Tr (xao (CQ (n:=0) _ fun d hd=>by obtain⟨i, -,rfl⟩:=xaB.mp hd;exact xab 0) (by decide))]
   cases O with
   |nil=>exact absurd rfl hi
   |cons a r=>rfl
  unfold zJ;generalize O.map D.int=OD at lf cq ⊢;z_go;rw[cq];z_go;rw[lf];z_go
  try simp only[xa9]
  z_go
 have m3:zH [.val (.lst es),.val (.lst T),.val (.int w),.val (.int s),.val (.str f),.val (.int mark),.val (.int (k:Int)),.val (.int t),.val (.str z),.val (.int v),.val (.int (t + 1 - w)),s11,s12] M=some (.nx [.val (.lst es),.val (.lst T),.val (.int w),.val (.int s),.val (.str f),.val (.int mark),.val (.int (k:Int)),.val (.int t),.val (.str z),.val (.int v),.val (.int (t + 1 - w)),.val (.lst (O.map .int)),s12],M):=by
  unfold zH;generalize zJ=m4' at m4 ⊢;generalize fj [("_law_key_here",8),("_law_start",10),("_law_time",7)] (bI (aj 1)) pL sH=CC at oc ⊢;z_go;rw[oc];z_go;exact m4
 unfold wJ;z_go;rw[ak];z_go;unfold Ko;z_go;unfold Kp;generalize zH=m3' at m3 ⊢
 by_cases h0:0<k
 ·obtain⟨t',z',v',e1,e2⟩:=hp h0;have ak1:bY es ((k:Int) - 1)=some (.tup [.int t',.str z',.int v']):=by
   rw[show(k:Int) - 1=((k - 1:Nat):Int) by omega];exact nq e1
  have g:gG (.tup [.int t',.str z']) (.tup [.int t,.str z])=some (.bl false):=by simp only[gG,e2,xbs]
  z_go;simp only[show(k:Int) > 0 by omega,show(0:Int)<(k:Int) by omega,xa9];z_go;rw[ak1];z_go;rw[sl2];z_go;rw[g];z_go
  try simp only[show ¬ (t >=mark) by omega,show ¬ (mark<=t) by omega,xaG]
  z_go
  try rw[xaa s0]
  z_go
  try simp only[hd,xa9]
  z_go;exact m3
 ·obtain rfl:k=0:=by omega
  z_go;simp only[show ¬ (((0:Nat):Int) > 0) by decide,show ¬ ((0:Int)<((0:Nat):Int)) by decide,xaG];z_go
  try simp only[show ¬ (t >=mark) by omega,show ¬ (mark<=t) by omega,xaG]
  z_go
  try rw[xaa s0]
  z_go
  try simp only[hd,xa9]
  z_go;exact m3
theorem zbE {t v:Int}{z:Str}{s6 s10 s11 s12:Slot}{a1 a4:Slot}(he:∀d∈es,Tk d)(hl:es.length<=100)(s0:0<s)(s1:s<100000000000)(hc:((es.filter (cov z w t)).length:Int)=max 0 ((min t (mark - w)) / s - (t - w) / s)):
  ∃s12',zE [.val (.lst es),a1,.val (.int w),.val (.int s),a4,.val (.int mark),s6,.val (.int t),.val (.str z),.val (.int v),s10,s11,s12] M=some (.nx [.val (.lst es),a1,.val (.int w),.val (.int s),a4,.val (.int mark),s6,.val (.int t),.val (.str z),.val (.int v),s10,s11,s12'],M):=by
 refine⟨.val (.int (max 0 ((min t (mark - w)) / s - (t - w) / s))),?_⟩;have cc:=Pk (M:=M) (es:=es) (z:=z) (t:=t) (w:=w) (env:=[.val (.lst es),a1,.val (.int w),.val (.int s),a4,.val (.int mark),s6,.val (.int t),.val (.str z),.val (.int v),s10,s11,.val (.int (max 0 ((min t (mark - w)) / s - (t - w) / s)))]) he rfl rfl hl;have fl:=xd5 (cov z w t) es;have m:zK [.val (.lst es),a1,.val (.int w),.val (.int s),a4,.val (.int mark),s6,.val (.int t),.val (.str z),.val (.int v),s10,s11,.val (.int (max 0 ((min t (mark - w)) / s - (t - w) / s)))] M=some (.nx [.val (.lst es),a1,.val (.int w),.val (.int s),a4,.val (.int mark),s6,.val (.int t),.val (.str z),.val (.int v),s10,s11,.val (.int (max 0 ((min t (mark - w)) / s - (t - w) / s)))],M):=by
  generalize max 0 ((min t (mark - w)) / s - (t - w) / s)=due at cc hc ⊢;unfold zK;generalize fj [("_law_key_here",8),("_law_time",7),("_law_width",2)] (bI (aj 0)) vJ vO=CC at cc ⊢;generalize es.filter (cov z w t)=FS at cc hc ⊢;z_go;rw[cc];z_go
  try simp only[hc,xa9]
  z_go
 unfold zE;generalize zK=mm at m ⊢;z_go;have e1:(if mark - w<t then mark - w else t)=min t (mark - w):=by split<;>omega
 have e2:∀i:Int,(if i > 0 then i else 0)=max 0 i:=fun i=>by split<;>omega
 have hs:0<s/\s.natAbs<18446744073709551616:=⟨s0,by omega⟩;rw[e1,xaa hs];z_go;rw[xaa hs];z_go;rw[e2];exact m
end
variable {M:Mm}
theorem zbI {is:List Nat}{fs:EA}{b:S}{env:E3.Env}{ds:List D}(h:fs env M=some (.v ds,M)):xT is fs b env M=mK is b ds env M:=by simp only[xT,h]
section
variable {X:List Th}{w s mark:Int}{f:Str}{es:List D}
theorem Jl {a1 a4 s6 s10 s11:Slot}(he:∀d∈es,Tk d)(hl:es.length<=100)(s0:0<s)(s1:s<100000000000):∀(Y:List Th) (s7 s8 s9 s12:Slot),(∀x∈Y,((es.filter (cov x.2.1 w x.1)).length:Int)=max 0 ((min x.1 (mark - w)) / s - (x.1 - w) / s))->∃s7' s8' s9' s12',
    mK [7,8,9] zE (Y.map bM) [.val (.lst es),a1,.val (.int w),.val (.int s),a4,.val (.int mark),s6,s7,s8,s9,s10,s11,s12] M=some (.nx [.val (.lst es),a1,.val (.int w),.val (.int s),a4,.val (.int mark),s6,s7',s8',s9',s10,s11,s12'],M)
  | [],s7,s8,s9,s12,_=>⟨s7,s8,s9,s12,rfl⟩
  |(t,z,v)::Y,s7,s8,s9,s12,h=>by
    obtain⟨x12,e⟩:=zbE (M:=M) (t:=t) (v:=v) (z:=z) (s6:=s6) (s10:=s10) (s11:=s11) (s12:=s12) (a1:=a1) (a4:=a4) he hl s0 s1 (h (t,z,v) (xau ..));obtain⟨s7',s8',s9',s12',ih⟩:=Jl (a1:=a1) (a4:=a4) (s6:=s6) (s10:=s10) (s11:=s11) he hl s0 s1 Y (.val (.int t)) (.val (.str z)) (.val (.int v)) x12 fun x hx=>h x (xak _ hx);refine⟨s7',s8',s9',s12',?_⟩;have ht:rP [7,8,9] (bM (t,z,v)) [.val (.lst es),a1,.val (.int w),.val (.int s),a4,.val (.int mark),s6,s7,s8,s9,s10,s11,s12]=some [.val (.lst es),a1,.val (.int w),.val (.int s),a4,.val (.int mark),s6,.val (.int t),.val (.str z),.val (.int v),s10,s11,s12]:=rfl;rw[xay];simp only[mK,ht,e];exact ih
theorem Qi (s0:0<s)(s1:s<100000000000)(hX:X.length<=100)(R:Rt X w s mark f es):
  vZ [.lst es,.lst (X.map bM),.int w,.int s,.str f,.int mark] M=some (.v (.bl true),M):=by
 have el:=R.ln;have lp2:∃s6' s7' s8' s9' s10' s11' s12',loopS 6 wJ ((List.range es.length).map fun(k:Nat)=>D.int (0 + (k:Int))) [.val (.lst es),.val (.lst (X.map bM)),.val (.int w),.val (.int s),.val (.str f),.val (.int mark),.un,.un,.un,.un,.un,.un,.un] M=some (.nx [.val (.lst es),.val (.lst (X.map bM)),.val (.int w),.val (.int s),.val (.str f),.val (.int mark),s6',s7',s8',s9',s10',s11',s12'],M):=by
  refine DN (fun o=>∃s6' s7' s8' s9' s10' s11' s12',o=some (.nx [.val (.lst es),.val (.lst (X.map bM)),.val (.int w),.val (.int s),.val (.str f),.val (.int mark),s6',s7',s8',s9',s10',s11',s12'],M)) (fun j env N=>N=M/\∃s6' s7' s8' s9' s10' s11' s12',env=[.val (.lst es),.val (.lst (X.map bM)),.val (.int w),.val (.int s),.val (.str f),.val (.int mark),s6',s7',s8',s9',s10',s11',s12']) ⟨rfl,_,_,_,_,_,_,_,rfl⟩ ?_ ?_
  ·rintro j d env N hd ⟨rfl,s6,s7,s8,s9,s10,s11,s12,rfl⟩;rw[xar]at hd;have hn:j<es.length:=by
    rcases xaO j es.length with h |h
    ·exact h
    ·rw[xa0 (by rw[xbx];exact h)]at hd;cases hd
   rw [xb8 hn] at hd;cases hd;refine ⟨by simp, ?_⟩;simp only [xcg, xbV];have ek : es[j]? = some es[j] := xaf hn;have hm := xbk hn;have g1 := Ni (R.tk _ hm);obtain ⟨a1, a2⟩ := R.a _ hm;obtain ⟨o1, o2⟩ := R.o _ hm;have e := zbB (M := N) (X := X) (w := w) (s := s) (mark := mark) (f := f) (s7 := s7) (s8 := s8) (s9 := s9) (s10 := s10) (s11 := s11) (s12 := s12) (k := j) (t := tm es[j]) (z := ky es[j]) (v := vl es[j]) hX s0 (by rw [ek]; exact congrArg some g1) (fun h0=>by
    have hn1:j - 1<es.length:=by omega
    have h1:=Ni (R.tk _ (xbk hn1));refine⟨tm es[j - 1],ky es[j - 1],vl es[j - 1],by rw[xaf hn1];exact congrArg some h1,QF ?_⟩;exact xbH.mp R.rs (j - 1) j hn1 hn (by omega)) a1 a2 o1 o2
   rw[xeo,e];exact⟨rfl,_,_,_,_,_,_,_,rfl⟩
  ·rintro env N ⟨rfl,s6,s7,s8,s9,s10,s11,s12,rfl⟩;exact⟨s6,s7,s8,s9,s10,s11,s12,rfl⟩
 obtain⟨s6,s7,s8,s9,s10,s11,s12,lp2⟩:=lp2;obtain⟨s7',s8',s9',s12',lp⟩:=Jl (M:=M) (a1:=.val (.lst (X.map bM))) (a4:=.val (.str f)) (s6:=s6) (s10:=s10) (s11:=s11) (w:=w) (mark:=mark) R.tk el s0 s1 X s7 s8 s9 s12 R.c;generalize hT:X.map bM=T at lp lp2 ⊢;unfold vZ B_;generalize hn1:D_=nx1;generalize wJ=B2 at lp2 ⊢;z_go;rw[FW (by omega),xcj];z_go;rw[lp2];z_go;rw[<-hn1];unfold D_;generalize hn2:Ea=nx2;z_go;rw[zbI (ds:=T) (by z_go),lp];simp only[xO];rw[<-hn2];unfold Ea;z_go
end
variable {M:Mm}
theorem Qn {x:Int}:∃far:Int,0<far/\far<=1000000007/\bY [D.int 1,.int 1,.int 1000000007] (x % 3)=some (.int far):=by
 have h:x % 3=0\/x % 3=1\/x % 3=2:=by omega
 rcases h with h |h |h<;>rw[h]
 ·exact⟨1,by decide,by decide,rfl⟩
 ·exact⟨1,by decide,by decide,rfl⟩
 ·exact⟨1000000007,by decide,by decide,rfl⟩
theorem Qw {x:Int}:∃f:Str,(f="sum"\/f="count"\/f="most"\/f="least")/\bY [D.str "sum",.str "count",.str "most",.str "least"] (x % 4)=some (.str f):=by
 have h:x % 4=0\/x % 4=1\/x % 4=2\/x % 4=3:=by omega
 rcases h with h |h |h |h<;>rw[h]
 ·exact⟨_,.inl rfl,rfl⟩
 ·exact⟨_,.inr (.inl rfl),rfl⟩
 ·exact⟨_,.inr (.inr (.inl rfl)),rfl⟩
 ·exact⟨_,.inr (.inr (.inr rfl)),rfl⟩
theorem str_int {gap:Int}(h0:1<=gap)(h1:gap<=100000000000):fP [.int gap]=some (.str (gP gap))/\dX [.str (gP gap)]=some (.int gap):=by
 refine⟨?_,?_⟩
 ·rw[wZ,xaa (R6 (by omega))];rfl
 ·have hl:(gP gap).length<=640:=by
   have:=Mw (i:=gap) (k:=12) (by decide) (by omega);omega
  rw[wY,xaa hl,QW (xal (show gap.natAbs<100000000001 by omega) (by x_go))];rfl
section
variable {X:List Th}{w s mark:Int}{f:Str}{es:List D}
theorem zbg {X:List Th}:∀d∈X.map bM,Tk d:=fun d hd=>by
 obtain⟨x, -,rfl⟩:=xaB.mp hd;exact⟨_,_,_,rfl⟩
theorem Ol {a0 a1 a6:Slot}(s0:0<s)(s1:s<100000000000)(hX:X.length<=100)(R:Rt X w s mark f es):
  cQ (zQ [a0,a1,.val (.lst (X.map bM)),.val (.str f),.val (.int s),.val (.int w),a6,.val (.int mark),.val (.lst [.lst (X.map bM)]),.val (.lst es)] M)=some (.v (.bl true),M):=by
 have fr:=Qi (M:=M) s0 s1 hX R;have dT:=Px (zbg (X:=X));generalize X.map bM=T at fr dT ⊢;unfold zQ;z_go;rw[Tv (by show D.deps [.lst T] + 1<=50;show max (D.deps T + 1) 0 + 1<=50;omega)];z_go;rw[fr];z_go
theorem Oj {a0 a1 a6:Slot}(s0:0<s)(s1:s<100000000000)(hX:X.length<=100)(R:Rt X w s mark f es):
  cQ (zP [a0,a1,.val (.lst (X.map bM)),.val (.str f),.val (.int s),.val (.int w),a6,.val (.int mark),.val (.lst [.lst (X.map bM)]),.val (.lst es)] M)=some (.v (.bl true),M):=by
 have q:=Ol (M:=M) (a0:=a0) (a1:=a1) (a6:=a6) s0 s1 hX R;have el:=R.ln;have cn:fZ Cu Jm [] es [] M=some ([],M):=by
  rw[vL (fun _=>none) es [] (fun d hd=>?_) (by rw[xbn,xbz];omega)]
  ·rw[List.filterMap_eq_nil_iff.mpr fun _ _=>rfl];rfl
  ·have ft:=Qj (M:=M) (R.tk d hd);dsimp only;unfold Cu;z_go;rw[ft];z_go
 generalize X.map bM=T at q ⊢;unfold zP;generalize zQ=nx at q ⊢;z_go;rw[show aL "list" "list"=some true from rfl];z_go;rw[cn];z_go;rw[Ue (by decide)];z_go;exact q
theorem Q7 {ns:List Int}{a1:Slot}{row:D}{n:Str}{rs:List D}(hf:f="sum"\/f="count"\/f="most"\/f="least")(en:row=.tup (.str n::rs))(hn:n="fixed"\/n="slide")(hr:∀M,i_ [row] M=some (.v (.tup [.int w,.int s,.str f]),M))(s0:0<s)(s1:s<100000000000)(h:s<=w)(hw:w<=8 * s)(hl:X.length<=10):
  ∃M',cQ (zR [.val (.lst (ns.map .int)),a1,.val (.lst (X.map bM)),.val (.str f),.val (.int s),.val (.int w),.val row,.un,.un,.un] [])=some (.v (.bl true),M'):=by
 have c4:=nJ (M:=[]) (ns:=ns) (k:=4) (by decide);generalize ns.getD (4:Int).toNat 0=v4 at c4;obtain⟨mark,em⟩:=Qz (M:=[]) (c:=v4) (w:=w) s0;obtain⟨b,G,M1,es,M',J,hp,hs,et⟩:=Qk (M:=[]) (mark:=mark) en hn hr s0 h hw hl;have ll:(X.flatMap (adds w s)).length<=100:=by
  have:=Jv s0 h hw X;omega
 have R:=Y6 hf s0 h ll J hp hs;have q:=Oj (M:=M') (a0:=.val (.lst (ns.map .int))) (a1:=a1) (a6:=.val row) s0 s1 (by omega) R;refine⟨M',?_⟩;clear hr;generalize X.map bM=T at q et ⊢;unfold zR;generalize h8:Em=nx8;z_go;rw[c4];z_go;rw[em];z_go;rw[<-h8];unfold Em;generalize h9:En=nx9;z_go;rw[<-h9];unfold En;generalize zP=nx10 at q ⊢;z_go;rw[et];z_go;exact q
end
theorem RL:∀ns:List Int,ns.length<=63->∃M,j_ [.lst (ns.map D.int)] []=some (.v (.bl true),M):=by
 intro ns hl;have c0:=nJ (M:=[]) (ns:=ns) (k:=0) (by decide);generalize ns.getD (0:Int).toNat 0=v0 at c0;have c2:=nJ (M:=[]) (ns:=ns) (k:=2) (by decide);generalize ns.getD (2:Int).toNat 0=v2 at c2;have c3:=nJ (M:=[]) (ns:=ns) (k:=3) (by decide);generalize ns.getD (3:Int).toNat 0=v3 at c3;obtain⟨far,f0,f1,ef⟩:=Qn (x:=v0);obtain⟨T,tl,hT,eT⟩:=QC (M:=[]) (ns:=ns) (far:=far);obtain⟨X,rfl⟩:=Nh hT;rw[xae]at tl;obtain⟨f,hf,eF⟩:=Qw (x:=v2);generalize hst:(1 + v2 / 8 % 10) * far=st;have b0:0<st/\st<=10000000070:=by
  have a0:1<=1 + v2 / 8 % 10:=by omega
  have a1:1 + v2 / 8 % 10<=10:=by omega
  have u:=Int.mul_le_mul a1 f1 (by omega) (by decide:(0:Int)<=10);have l:=Int.mul_pos (show 0<1 + v2 / 8 % 10 by omega) f0;omega
 generalize hwd:st + v3 % (7 * st + 1)=wd;have b1:st<=wd/\wd<=8 * st:=by
  have m0:=xa7 v3 (show 7 * st + 1≠0 by omega);have m1:=xaV v3 (show 0<7 * st + 1 by omega);omega
 generalize hwf:1 + v3 % (20 * far)=wf;have b2:1<=wf/\wf<=20000000140:=by
  have m0:=xa7 v3 (show 20 * far≠0 by omega);have m1:=xaV v3 (show 0<20 * far by omega);omega
 obtain⟨s1,s2⟩:=str_int (gap:=wd) (by omega) (by omega);obtain⟨s3,s4⟩:=str_int (gap:=st) (by omega) (by omega);obtain⟨s5,s6⟩:=str_int (gap:=wf) (by omega) (by omega);obtain⟨M1,qS⟩:=Q7 (X:=X) (ns:=ns) (a1:=.val (.int far)) (row:=.tup [.str "slide",.str "w",.tup [.str "a"],.tup [.str (gP wd),.str (gP st),.str f]]) hf rfl (.inr rfl) (fun M=>Qm s2 s4) b0.1 (by omega) b1.1 b1.2 tl;obtain⟨M2,qF⟩:=Q7 (X:=X) (ns:=ns) (a1:=.val (.int far)) (row:=.tup [.str "fixed",.str "w",.tup [.str "a"],.tup [.str (gP wf),.str f]]) hf rfl (.inl rfl) (fun M=>Ql s6) (show 0<wf by omega) (by omega) (xdW _) (by omega) tl;refine⟨if v2 / 4 % 2=1 then M2 else M1,?_⟩
 generalize X.map bM=T at eT qS qF;unfold j_ JH yQ;generalize h1:Ec=nx1;z_go;rw[c0];z_go;rw[ef];z_go;rw[<-h1];unfold Ec;generalize h2:Ed=nx2;z_go;rw[eT];z_go;rw[<-h2];unfold Ed;generalize h3:Ef=nx3;z_go;rw[c2];z_go;rw[eF];z_go;rw[<-h3];unfold Ef;generalize h4:Eh=nx4;z_go;rw[c2];z_go;rw[xaa (.inr (.inl (by omega)))];z_go;rw[hst];rw[<-h4];unfold Eh;generalize h5:Ej=nx5;z_go;rw[c3];z_go
 try rw[xaa (show 0<7 * st + 1 by omega)]
 z_go;rw[hwd];rw[<-h5];unfold Ej;generalize h6:El=nx6;z_go;rw[<-wZ,s1];z_go;rw[<-wZ,s3];z_go;rw[<-h6];unfold El;generalize zR=nx7 at qS qF ⊢;z_go;rw[c2];z_go
 by_cases hc:v2 / 4 % 2=1
 ·rw[xaa hc];simp only[hc,xa9];z_go;rw[c3];z_go
  try rw[xaa (show 0<20 * far by omega)]
  z_go;rw[hwf];z_go;rw[<-wZ,s5];z_go;exact qF
 ·rw[xad hc];simp only[hc,xaG];z_go;exact qS
theorem Og {x:Str}{st:Stmt}{a0 a1 a2 a3 a4 a5:Str}(h:∀{kV doc pm:Value} {an:Option Addr} {cdv ct u0 u1 u2 u3 u4 u5:Value},bindArgs (PySem.W.fnOf x x (cJ st) (bV st) (aR st) .none kV doc pm an cdv ct) ⟨[u0,u1,u2,u3,u4,u5],[]⟩=pure [(a0,u0),(a1,u1),(a2,u2),(a3,u3),(a4,u4),(a5,u5)]):HB x st [a0,a1,a2,a3,a4,a5]:=fun _ _ _ _ _ _ us hl=>match us,hl with | [_,_,_,_,_,_],_=>h
theorem RM {l:PySem.W.OpenLaw}{w:World}{K:Fgx}{mg:Mgx}{C:Ad}{h base:Heap}{f17:Addr}{d17:FuncData}(X:K.In h)(G:h.Ns mainGlobals mg)(T:Txt K mg C w)
  (F0:bF K "first_of" Ah)
  (F1:bF K "merged" Aj)
  (F2:bF K "folded" Ai)
  (F3:bF K "ends_of" Ag)
  (F4:bF K "window_of" Ao)
  (F5:bF K "closed_windows" tV)
  (F6:bF K "told_in_any_order" Ak)
  (F7:bF K "told_of" Am)
  (F8:bF K "_law_cell_at" z9)
  (F9:bF K "_law_mixed" Ac)
  (F10:bF K "_law_key" Aa)
  (F11:bF K "_law_value" Af)
  (F12:bF K "_law_things" xV)
  (F13:bF K "_law_mark" Ab)
  (F14:bF K "_law_fold" z_)
  (F15:bF K "_law_thing" Ae)
  (F16:bF K "_law_right" rH)
  (D17:DefAt K mg "law" lg ["_law_script"] f17 d17)
  :FnOk l.prog w K mg base fH pY f17 d17 ["_law_script"] (lV K mg 1 j_):=by
 have A0:bx l.prog w K mg base 1 "first_of" 2 wA:=(F0.ok X G LR (fun _=>Yl (k:=0) T) :);have A1:bx l.prog w K mg base 1 "merged" 3 wC:=(F1.ok X G Mf (fun _=>Yx (k:=0) T) :);have A2:bx l.prog w K mg base 2 "folded" 2 wB:=(F2.ok X G L_ (fun _=>Ym (k:=1) T A0.up A1.up) :);have A3:bx l.prog w K mg base 1 "ends_of" 3 wz:=(F3.ok X G LQ (fun _=>Yk (k:=0) T) :);have A4:bx l.prog w K mg base 1 "window_of" 1 i_:=(F4.ok X G Ml (fun _=>Y0 (k:=0) T) :);have A5:bx l.prog w K mg base 3 "closed_windows" 3 wu:=(F5.ok X G LK (fun _=>Yb (k:=2) T A2.up A3.up A4.up) :);have A6:bx l.prog w K mg base 4 "told_in_any_order" 3 wD:=(F6.ok X G Mi (fun _=>YT (k:=3) T A5.up) :);have A7:bx l.prog w K mg base 5 "told_of" 3 wF:=(F7.ok X G Mj (fun _=>YW (k:=4) T A6.up) :);have A8:bx l.prog w K mg base 1 "_law_cell_at" 2 fJ:=(F8.ok X G Ln (fun _=>Xw (k:=0) T) :);have A9:bx l.prog w K mg base 1 "_law_mixed" 2 vY:=(F9.ok X G Ls (fun _=>XC (k:=0) T) :);have A10:bx l.prog w K mg base 1 "_law_key" 2 vV:=(F10.ok X G Lq (fun _=>Xy (k:=0) T) :);have A11:bx l.prog w K mg base 1 "_law_value" 1 wj:=(F11.ok X G Lz (fun _=>XJ (k:=0) T) :);have A12:bx l.prog w K mg base 2 "_law_things" 2 wg:=(F12.ok X G Ly (fun _=>XH (k:=1) T A8.up A9.up A10.up A11.up) :);have A13:bx l.prog w K mg base 1 "_law_mark" 3 vX:=(F13.ok X G Lr (fun _=>Xz (k:=0) T) :);have A14:bx l.prog w K mg base 1 "_law_fold" 2 vU:=(F14.ok X G Lp (fun _=>Xx (k:=0) T) :);have A15:bx l.prog w K mg base 1 "_law_thing" 1 zj:=(F15.ok X G Lx (fun _=>XF (k:=0) T) :);have A16:bx l.prog w K mg base 2 "_law_right" 6 vZ:=(F16.ok X G Lw (fun _=>XD (k:=1) T A14.up) (Og rfl) :);exact Df (b:=yQ) D17.F Ma (by decide) (Ys (k:=5) T A7.up A8.up A12.up A13.up A15.up A16.up)
theorem all_mk {l:W.OpenLaw}{w:World}{K:W.Frag}{h:Heap}{mg:Mgx}{fa:Addr}(X:K.In h)(G:h.Ns mainGlobals mg)(hfa:mg "law"=some (.ref fa))
  (j6:W.nsIn K mainGlobals "DamError"=some (some (.ref j7)))
  (j8:W.nsIn K mainGlobals "NoExpr"=some (some (.ref j9)))
  (jc:gO K j7=true)
  (jd:gO K j9=true)
  (je:NZ K j9=true) (jf:W.keepIn K (.ref j9)=true) (jg:Bj K j9=true)
  (F0:bF K "first_of" Ah)
  (F1:bF K "merged" Aj)
  (F2:bF K "folded" Ai)
  (F3:bF K "ends_of" Ag)
  (F4:bF K "window_of" Ao)
  (F5:bF K "closed_windows" tV)
  (F6:bF K "told_in_any_order" Ak)
  (F7:bF K "told_of" Am)
  (F8:bF K "_law_cell_at" z9)
  (F9:bF K "_law_mixed" Ac)
  (F10:bF K "_law_key" Aa)
  (F11:bF K "_law_value" Af)
  (F12:bF K "_law_things" xV)
  (F13:bF K "_law_mark" Ab)
  (F14:bF K "_law_fold" z_)
  (F15:bF K "_law_thing" Ae)
  (F16:bF K "_law_right" rH)
  (a17:W.nsIn K mainGlobals "law"=some (some (.ref f17))) (l17:K.lookup f17=some ⟨oc17,od17,.func (W.fnOf "law" "law" (cJ lg) (bV lg) (aR lg) .none kV17 dc17 pm17 an17 cd17 ct17),sl17⟩) (c17:W.codeIn K cd17 "law"=true) (k17:W.keepIn K (.ref f17)=true)
  (jh:W.nsIn K mainGlobals "min"=some none)
  (ji:W.nsIn K mainGlobals "max"=some none)
  (jm:W.nsIn K mainGlobals "list"=some none)
  (jo:W.nsIn K mainGlobals "reversed"=some none)
  (jq:W.nsIn K mainGlobals "int"=some none)
  (jr:W.nsIn K mainGlobals "sorted"=some none)
  (jt:W.nsIn K mainGlobals "len"=some none)
  (ju:W.nsIn K mainGlobals "range"=some none)
  (jw:W.nsIn K mainGlobals "sum"=some none)
  (jy:W.nsIn K mainGlobals "isinstance"=some none)
  (jz:W.nsIn K mainGlobals "bool"=some none)
  (jA:W.nsIn K mainGlobals "str"=some none)
  (jB:W.nsIn K mainGlobals "tuple"=some none)
  (jC:W.nsIn K mainGlobals "ALL_LETTERS"=some (some (.ref jD))) (jE:K.lookup jD=some ⟨.type "tuple",jF,.seq #[.str "t" jG,.str "v" jH,.str "w" jJ] jK,jL⟩)
  (jM:W.nsIn K mainGlobals "NEEDS"=some (some (.ref jN)))
  (jO:K.lookup jN=some ⟨.type "dict",none,.dict #[⟨jP,.str "+" jQ,.ref jR⟩,⟨jT,.str "-" jU,.ref jV⟩,⟨jW,.str "*" jX,.ref jY⟩,⟨jZ,.str "least" qb,.ref qe⟩,⟨qg,.str "most" qj,.ref ql⟩,⟨qm,.str "<" qp,.ref qt⟩,⟨qu,.str "=" qw,.ref qx⟩,⟨qy,.str "not" qz,.ref qC⟩,⟨qD,.str "and" qG,.ref qH⟩,⟨qI,.str "or" qJ,.ref qK⟩] qL, #[]⟩) (qM:(jN==sysModules)=false)
  (qN:jP=hashStr w "+")
  (qO:K.lookup jR=some ⟨.type "tuple",qP,.seq #[.str "number" qQ,.str "number" qR,.int 2 qT] qU,qW⟩)
  (qX:jT=hashStr w "-")
  (qY:K.lookup jV=some ⟨.type "tuple",qZ,.seq #[.str "number" o7,.str "number" o8,.int 2 o9] oh,ou⟩)
  (oA:jW=hashStr w "*")
  (oE:K.lookup jY=some ⟨.type "tuple",oF,.seq #[.str "number" oG,.str "number" oH,.int 2 oJ] oK,oM⟩)
  (oN:jZ=hashStr w "least")
  (oO:K.lookup qe=some ⟨.type "tuple",oR,.seq #[.str "number" oU,.str "number" oV,.int 2 oW] oX,oY⟩)
  (oZ:qg=hashStr w "most")
  (iy:K.lookup ql=some ⟨.type "tuple",iz,.seq #[.str "number" iC,.str "number" iD,.int 2 iG] iH,iI⟩)
  (iJ:qm=hashStr w "<")
  (iK:K.lookup qt=some ⟨.type "tuple",iM,.seq #[.str "truth" iQ,.str "number" iR,.int 2 iT] iU,iV⟩)
  (iW:qu=hashStr w "=")
  (iY:K.lookup qx=some ⟨.type "tuple",iZ,.seq #[.str "truth" u9,.str "number" ud,.int 2 uf] ug,uh⟩)
  (uo:qy=hashStr w "not")
  (uq:K.lookup qC=some ⟨.type "tuple",uw,.seq #[.str "truth" ux,.str "truth" uy,.int 1 uz] uD,uE⟩)
  (uF:qD=hashStr w "and")
  (uG:K.lookup qH=some ⟨.type "tuple",uH,.seq #[.str "truth" uI,.str "truth" uJ,.int 2 uK] uL,uM⟩)
  (uN:qI=hashStr w "or")
  (uO:K.lookup qK=some ⟨.type "tuple",uP,.seq #[.str "truth" uQ,.str "truth" uR,.int 2 uT] uU,uV⟩)
  (uW:W.nsIn K mainGlobals "FIGURES"=some (some (.str "0123456789" uX)))
  (uY:W.nsIn K mainGlobals "MOST_FIGURES"=some (some (.int 20 uZ)))
  (v7:W.nsIn K mainGlobals "MOST_VALUE"=some (some (.int 1000000000000000000000000000000000000000000000000000000000000 v8)))
  (v9:W.nsIn K mainGlobals "LETTERS"=some (some (.str "abcdefghijklmnopqrstuvwxyz" vA)))
  (vB:W.nsIn K mainGlobals "COND_LETTERS"=some (some (.str "tv" vC)))
  :∃fd:FuncData,(∀(s:Shared) (v:Value),BindsTo s fd ⟨[v],[]⟩ [("_law_script",v)])/\∀base:Heap,K.In base->base.Ns mainGlobals mg->FnOk l.prog w K mg base fH pY fa fd ["_law_script"] (yd K j_):=by
 have e:=hfa.symm.trans (xcr X G a17);cases e;have T:Txt (w:=w) K mg ⟨j7,j9⟩:=⟨by simp only[vG,xan,List.not_mem_nil,or_false,forall_eq_or_imp,forall_eq];exact⟨xbm X G jh,xbm X G ji,xbm X G jm,xbm X G jo,xbm X G jq,xbm X G jr,xbm X G jt,xbm X G ju,xbm X G jw,xbm X G jy,xbm X G jz,xbm X G jA,xbm X G jB⟩,xcr X G j6,jc,xcr X G j8,jd,je,jf,jg,⟨_,xcr X G jC,JT (vs:=[(.str "t"),(.str "v"),(.str "w")]) (its:= #[.str "t" _,.str "v" _,.str "w" _]) (o:=⟨.type "tuple",_,.seq #[.str "t" _,.str "v" _,.str "w" _] _,_⟩) jE rfl rfl (by show 3<=sizeLine;decide) (.cons ⟨_,rfl⟩ (.cons ⟨_,rfl⟩ (.cons ⟨_,rfl⟩ (.nil)))) (fun _ _=>⟨_,_,rfl,rfl,⟨_,_,rfl,rfl,⟨_,_,rfl,rfl,rfl⟩⟩⟩)⟩,⟨_,xcr X G jM,_,_,_,_,jO,⟨rfl,rfl,rfl⟩,rfl,.cons (v:=.ref jR) qN rfl (lJ qO) (.cons (v:=.ref jV) qX rfl (lJ qY) (.cons (v:=.ref jY) oA rfl (lJ oE) (.cons (v:=.ref qe) oN rfl (lJ oO) (.cons (v:=.ref ql) oZ rfl (lJ iy) (.cons (v:=.ref qt) iJ rfl (lJ iK) (.cons (v:=.ref qx) iW rfl (lJ iY) (.cons (v:=.ref qC) uo rfl (lJ uq) (.cons (v:=.ref qH) uF rfl (lJ uG) (.cons (v:=.ref qK) uN rfl (lJ uO) (.nil)))))))))),by x_go,qM⟩,⟨_,xcr X G uW⟩,⟨_,xcr X G uY⟩,⟨_,xcr X G v7⟩,⟨_,xcr X G v9⟩,⟨_,xcr X G vB⟩⟩;have D17:DefAt K mg "law" lg ["_law_script"] _ _:=⟨xcr X G a17,JD l17 c17 k17,(JF (st:=lg) l17 c17 k17).binds (ps:=["_law_script"]) fun _ _ _ _ _ _ us hl=>match us,hl with | [_],_=>rfl⟩
 refine⟨W.fnOf "law" "law" (cJ lg) (bV lg) (aR lg) .none kV17 dc17 pm17 an17 cd17 ct17,fun s v=>.of_eq rfl,fun base _ _=>Qt ?_⟩;exact RM X G T F0 F1 F2 F3 F4 F5 F6 F7 F8 F9 F10 F11 F12 F13 F14 F15 F16 D17
end My
open PySem PySem.W PyProof.Rows
set_option maxRecDepth 100000 in
set_option maxHeartbeats 0 in
theorem PySem.Challenge.cw_rowdam_k27_windows_told_holds : PySem.Challenge.rw_rowdam_k27_windows_told.Holds := by
 w_on;refine HQ.two "special-get-raises" My.he My.hAf My.hBf My.hAt My.hBt ?_
 k_fill
 refine E3.zaJ (l:=PySem.Challenge.rw_rowdam_k27_windows_told) (k:=My.pY) (g:=My.j_) (x:="_law_script") rfl rfl ⟨rfl,by decide,by decide⟩ (fun w h Y=>by first |exact PySem.W.kIn_of Y |exact PySem.W.km_in_of Y) ?F My.RL
 case F=>
  intro w mg fa h KX G hmg
  refine' My.all_mk KX G hmg ?j6 ?j8 ?jc ?jd ?je ?jf ?jg ?F0 ?F1 ?F2 ?F3 ?F4 ?F5 ?F6 ?F7 ?F8 ?F9 ?F10 ?F11 ?F12 ?F13 ?F14 ?F15 ?F16 ?a17 ?l17 ?c17 ?k17 ?jh ?ji ?jm ?jo ?jq ?jr ?jt ?ju ?jw ?jy ?jz ?jA ?jB ?jC ?jE ?jM ?jO ?qM ?qN ?qO ?qX ?qY ?oA ?oE ?oN ?oO ?oZ ?iy ?iJ ?iK ?iW ?iY ?uo ?uq ?uF ?uG ?uN ?uO ?uW ?uY ?v7 ?v9 ?vB
  (case j6 |j8=>k_is);(case jc |jd |je=>kernel_rfl);(case jf=>k_is);(case jg=>refine E3.zbh (E3.zbl ?_ ?_ ?_) ?_ ?_ ?_ ?_ ?_<;>k_is);(case a17 |l17 |c17 |k17 |jh |ji |jm |jo |jq |jr |jt |ju |jw |jy |jz |jA |jB |jC |jE |jM |jO=>k_is);(case qM=>first |decide +kernel |kernel_rfl);(case qN=>rfl);(case qO=>k_is);(case qX=>rfl);(case qY=>k_is);(case oA=>rfl);(case oE=>k_is);(case oN=>rfl);(case oO=>k_is);(case oZ=>rfl);(case iy=>k_is);(case iJ=>rfl);(case iK=>k_is);(case iW=>rfl);(case iY=>k_is);(case uo=>rfl);(case uq=>k_is);(case uF=>rfl);(case uG=>k_is);(case uN=>rfl);(case uO |uW |uY |v7 |v9 |vB=>k_is);all_goals (refine' E3.bF.mk ?a ?l ?c ?k;(case a=>k_is);(case l=>k_is);(case c=>k_is);(case k=>k_is))
