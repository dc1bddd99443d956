import PyProof.Rows.All
import Wide.All
import OpenK.AllK
import Wide.FinOn
import Lean
import PyProof.EqAt
import PyProof.EqKinds
import PyProof.TupleCall
import KE.KIsAll
import KE.KMinKey
import KE.KTupSum
import KE.KxSplit
import KE.KxAffix
import KE.KIntText
import PyProof.NeKinds
import PyProof.Rows.EqBoolInt
import KE.KSortTup
import KE.KDictLaws
import KE.KNestM
import KE.KDictSum
import PyProof.Conv_int_bool
import PySem.Challenge.RW_rowdam_k44_gaps
noncomputable section
set_option Elab.async false
set_option linter.all false
set_option compiler.extract_closed false
set_option bootstrap.genMatcherCode false
set_option genSizeOf false
set_option maxRecDepth 100000
def xaa:=@PySem.wpAny_bind
def xab:=@PySem.wpAny_pure
def xac:=@if_pos
def xad:=@Nat.le_refl
def xae:=@if_neg
def xaf:=@List.length_map
def xag:=@PySem.Heap.get?_push_of_some
def xah:=@List.getElem?_eq_getElem
theorem xai:type_of%@Array.length_toList:=by intros;rfl
def xaj:=@List.length_append
def xak:=@Option.map_eq_some_iff
def xal:=@List.mem_cons_of_mem
def xam:=@List.size_toArray
def xan:=@PySem.Heap.lt_size
def xao:=@List.getElem?_map
def xap:=@Nat.lt_of_lt_of_le
def xaq:=@Nat.le_trans
def xar:=@List.mem_cons
def xas:=@List.getElem?_append_right
def xat:=@List.append_assoc
def xau:=@List.mem_cons_self
def xav:=@PySem.Heap.get?_push_size
def xaw:=@List.mem_map
def xax:=@List.mem_singleton
theorem xay:type_of%@List.length_cons:=by intros;rfl
def xaz:=@List.getElem?_eq_some_iff
theorem xaA:type_of%@List.length_singleton:=by intros;rfl
def xaB:=@Bool.false_ne_true
def xaC:=@Nat.ne_of_lt
def xaD:=@Option.some.inj
def xaE:=@List.append_nil
def xaF:=@Bool.and_eq_true
theorem xaG:type_of%@List.foldl_cons:=by intros;rfl
def xaH:=@List.getElem?_append_left
def xaI:=@decide_eq_false
def xaJ:=@List.mem_append
def xaK:=@List.mem_append_right
def xaL:=@Array.getElem_mem
def xaM:=@Bool.false_eq_true
def xaN:=@decide_false
def xaO:=@List.drop_eq_getElem_cons
def xaP:=@List.map_cons
def xaQ:=@List.pairwise_append
def xaR:=@List.map_append
def xaS:=@Nat.zero_le
def xaT:=@List.mem_of_getElem?
def xaU:=@List.length_set
def xaV:=@Array.getElem?_toList
def xaW:=@decide_eq_true
def xaX:=@PySem.sizeLine_eq
def xaY:=@PySem.W.kia_one
def xaZ:=@List.length_replicate
def xa0:=@List.getElem?_replicate
def xa2:=@PySem.wpAny_newObj_type
def xa3:=@PySem.Heap.get?_update_other
theorem xa4:type_of%@List.nil_append:=by intros;rfl
def xa5:=@Nat.le_of_lt
def xa6:=@Array.toList_push
def xa7:=@Array.mem_toList_iff
def xa8:=@Nat.lt_or_ge
theorem xa9:type_of%@List.length_nil:=by intros;rfl
def xba:=@Nat.lt_succ_self
def xbb:=@if_false
def xbc:=@Array.toList_append
def xbd:=@PySem.wpAny_mono
def xbe:=@List.getElem?_set
def xbf:=@Nat.le_of_lt_succ
def xbg:=@List.filter_congr
def xbh:=@PySem.wpAny_holding
def xbi:=@if_true
def xbj:=@List.getElem?_eq_none
def xbk:=@PySem.wpAny_setField_rec
def xbl:=@List.length_take
def xbm:=@List.all_eq_true
def xbn:=@PySem.W.mg_none_of
def xbo:=@PySem.wpAny_setState_of
def xbp:=@beq_eq_false_iff_ne
def xbq:=@PySem.mem_of_lookup
def xbr:=@Nat.le_antisymm
theorem xbs:type_of%@List.extract_eq_take_drop:=by intros;rfl
def xbt:=@Nat.le_of_ble_eq_true
def xbu:=@Nat.le_of_not_lt
def xbv:=@List.getElem_mem
def xbw:=@PySem.F.called_set
def xbx:=@List.filter_filter
theorem xby:type_of%@Int.toNat_natCast:=by intros;rfl
def xbz:=@Bool.eq_iff_iff
def xbA:=@Nat.not_lt_zero
theorem xbB:type_of%@List.replicate_succ:=by intros;rfl
def xbC:=@List.reverse_append
def xbD:=@List.drop_eq_nil_of_le
def xbE:=@PySem.wpAny_call_entry
def xbF:=@beq_self_eq_true
def xbG:=@PySem.Heap.get?_update_self
def xbH:=@List.pairwise_cons
def xbI:=@decide_true
theorem xbJ:type_of%@Option.map_some:=by intros;rfl
def xbK:=@List.mem_filter
def xbL:=@beq_iff_eq
def xbM:=@List.nodup_cons
def xbN:=@Nat.sub_self
def xbO:=@Array.toList_extract
def xbP:=@List.map_map
def xbQ:=@PySem.PassesOwn.never
def xbR:=@Ne.symm
def xbS:=@List.length_range
def xbT:=@List.mem_map_of_mem
def xbU:=@List.length_drop
theorem xbV:type_of%@List.lookup_cons:=by intros;rfl
def xbW:=@List.take_of_length_le
def xbX:=@PySem.Obj.data_mapFields
def xbY:=@Array.getD_eq_getD_getElem?
theorem xbZ:type_of%@List.set_cons_zero:=by intros;rfl
def xb0:=@List.set_append_right
def xb1:=@List.length_filter_le
theorem xb2:type_of%@List.all_cons:=by intros;rfl
def xb3:=@Array.getElem?_eq_some_iff
theorem xb4:type_of%@List.flatten_cons:=by intros;rfl
def xb5:=@decide_eq_true_eq
def xb6:=@Array.getElem?_eq_getElem
def xb7:=@Int.le_refl
def xb8:=@PySem.Heap.size_push
def xb9:=@List.drop_zero
def xca:=@PySem.W.mg_of
def xcb:=@Nat.ne_of_gt
def xcc:=@PySem.codeAny_mono
def xcd:=@List.Perm.eq_of_pairwise
def xce:=@List.filter_cons
theorem xcf:type_of%@List.filterMap_cons:=by intros;rfl
def xcg:=@List.getElem_of_mem
def xch:=@PyProof.Rows.slot_tuple_getitem
def xci:=@PySem.wpAny_getItem_str_slice
theorem xcj:type_of%@List.getElem?_cons_succ:=by intros;rfl
def xck:=@Nat.lt_irrefl
def xcl:=@List.filter_append
theorem xcm:type_of%@List.set_cons_succ:=by intros;rfl
def xcn:=@eq_false
def xco:=@List.foldl_append
def xcp:=@List.Perm.append_left
def xcq:=@List.take_append_drop
def xcr:=@List.lt_irrefl
def xcs:=@Classical.choose_spec
def xct:=@List.mem_reverse
def xcu:=@Array.toList_reverse
def xcv:=@PySem.Around.under_plainId
def xcw:=@Array.getElem?_eq_none_iff
theorem xcx:type_of%@List.sum_cons:=by intros;rfl
def xcy:=@List.map_congr_left
def xcz:=@PySem.wpAny_passesOwn
def xcA:=@List.getElem?_eq_none_iff
def xcB:=@PySem.Calls.call_function_entry
def xcC:=@List.pairwise_iff_getElem
def xcD:=@PySem.codeAny_builtin
def xcE:=@List.mem_filterMap
def xcF:=@PySem.wpAny_Call_Name_kw
def xcG:=@PySem.W.callWith_K
def xcH:=@List.getElem?_take_of_lt
def xcI:=@Nat.lt_of_le_of_lt
def xcJ:=@Array.size_extract
def xcK:=@List.mem_range
def xcL:=@Bool.false_and
def xcM:=@Bool.and_false
def xcN:=@PySem.wpAny_callSpecial?_slot
def xcO:=@PyProof.Rows.F.plain_set_update_loop
def xcP:=@PySem.wpAny_truthy_bool
def xcQ:=@Nat.lt_succ_of_lt
def xcR:=@Nat.le_succ_of_le
def xcS:=@List.pairwise_map
def xcT:=@of_decide_eq_true
def xcU:=@List.flatMap_cons
def xcV:=@List.getElem?_set_self
def xcW:=@Nat.le_succ
def xcX:=@PySem.wpAny_field
def xcY:=@List.Perm.append_right
def xcZ:=@List.map_id
theorem xc1:type_of%@List.any_cons:=by intros;rfl
def xc2:=@Bool.and_self
def xc3:=@PySem.wpAny_newList
def xc4:=@List.lt_trans
def xc5:=@Bool.true_and
def xc6:=@Bool.and_comm
def xc7:=@List.drop_length
def xc8:=@Array.toList_inj
def xc9:=@PySem.wpAny_askSetting
def xda:=@List.perm_middle
def xdb:=@PySem.W.methodCall_KW
def xdc:=@List.perm_append_comm
def xdd:=@Array.toList_eraseIdxIfInBounds
def xde:=@List.mem_append_left
def xdf:=@List.getElem?_set_ne
def xdh:=@Nat.le_of_eq
def xdi:=@List.of_mem_zip
def xdj:=@PySem.SeqAt.EqAt.same
def xdk:=@List.map_nil
def xdl:=@PySem.post_val_or_str
def xdm:=@PyProof.Rows.get?_update_seq
def xdn:=@Bool.and_eq_true_iff
def xdo:=@List.reverse_reverse
def xdp:=@Int.emod_nonneg
def xdq:=@PySem.W.plainGet_of
def xdr:=@PySem.Heap.SameBut.update
def xds:=@PySem.Heap.get?_update_ne
def xdt:=@PySem.wpAny_setEntries_of
def xdu:=@Prod.ext
def xdv:=@Array.getElem?_setIfInBounds
def xdw:=@PySem.boot_len
def xdx:=@PyProof.Rows.mirror_perm
def xdy:=@PySem.SeqAt.EqAt.int_str
def xdz:=@PySem.SeqAt.EqAt.str_int
def xdA:=@PyProof.Rows.callWith_type1
def xdB:=@PySem.SeqAt.EqAt.int_int
def xdC:=@PySem.SeqAt.EqAt.str_str
theorem xdD:type_of%@List.zip_cons_cons:=by intros;rfl
def xdE:=@Int.emod_lt_of_pos
def xdF:=@PySem.Calls.Name_function_global
def xdG:=@PyProof.Rows.listUpdate_at
def xdH:=@Array.toList_setIfInBounds
def xdI:=@List.getD_eq_getElem?_getD
def xdJ:=@PySem.W.kitx_list
def xdK:=@PySem.W.kitx_dict
def xdL:=@PySem.wpAny_setEpoch_of
def xdM:=@List.mem_or_eq_of_mem_set
def xdN:=@List.getLast?_eq_none_iff
def xdO:=@PySem.Txt.slice_le
def xdP:=@PySem.wpAny_comprehension_free
def xdQ:=@PySem.F.slot_list_append
def xdR:=@PySem.F.type_list_append
def xdS:=@List.eq_of_mem_replicate
def xdT:=@Array.size_setIfInBounds
def xdU:=@List.not_mem_nil
def xdV:=@decide_eq_decide
def xdW:=@PySem.F.plainAttrs_list
def xdX:=@PySem.F.plain_list_iadd
def xdY:=@List.filter_cons_of_pos
def xdZ:=@List.cons.injEq
def xd0:=@PySem.W.cellsFrom_some
def xd1:=@List.not_lt
def xd2:=@List.filter_eq_nil_iff
def xd3:=@PySem.wpAny_setField
def xd4:=@Or.imp
def xd5:=@List.mem_iff_getElem?
def xd6:=@PySem.wpAny_newTuple
def xd7:=@List.drop_drop
theorem xd8:type_of%@List.take_zero:=by intros;rfl
def xd9:=@List.countP_mono_left
def xea:=@List.getElem?_toArray
def xeb:=@PySem.F.slot_set_iter
def xec:=@Bool.not_false
def xed:=@List.eq_nil_or_concat
def xee:=@List.concat_eq_append
def xef:=@PySem.wpAny_load
def xeg:=@Nat.not_le
def xeh:=@PySem.wpAny_rule
def xei:=@List.length_eraseIdx
def xej:=@List.mem_of_getLast?
def xek:=@List.getLast?_append
def xel:=@List.dropLast_concat
def xem:=@PySem.wpAny_standAt
def xen:=@PySem.wpAny_attempt
def xeo:=@PySem.plainId_quiet
def xep:=@Int.toNat_of_nonneg
def xeq:=@Array.append_assoc
def xer:=@PySem.W.kitx_tuple
def xes:=@List.filterMap_map
def xet:=@List.getElem?_drop
def xeu:=@Nat.zero_add
def xev:=@Nat.succ_pos
def xew:=@List.take_sublist
def xex:=@Option.some.injEq
def xey:=@bne_self_eq_false
def xez:=@List.getElem_drop
def xeA:=@List.getElem_take
def xeB:=@List.take_add_one
def xeC:=@List.ext_getElem?
def xeD:=@Nat.not_lt
abbrev Fgx:=PySem.W.Frag
abbrev Mgx:=PySem.Str->Option PySem.Value
abbrev Pnx:=List (PySem.Addr×PySem.Obj)
local macro_rules | `(tactic| x_go)=> `(tactic| decide +kernel)
namespace HQ
open PySem PySem.W PySem.Calls PyProof.Rows
noncomputable def Mj {α:Type} (t:BT):(BT->α)->α:= @BT.rec (fun _=>(BT->α)->α) (fun k=>k .nil) (fun v _ _ a b k=>a fun l=>b fun r=>k (.node v l r)) t
theorem Gn {α:Type}:∀(t:BT) (k:BT->α),Mj t k=k t
 |.nil,_=>rfl
 |.node _ l r,_=>(Gn l _).trans (Gn r _)
noncomputable def Bj {α:Type} (n:Nat) (k:Nat->α):α:= @Nat.rec (fun _=>α) (k 0) (fun n _=>k (Nat.succ n)) n
theorem Ml {α:Type}(n:Nat)(k:Nat->α):Bj n k=k n:=by cases n<;>rfl
def frs {α:Type}(s:SharedT)(k:SharedT->α):α:= @SharedT.rec (fun _=>α) (fun T n l g d i o=>Mj T fun T=>Bj n fun n=>Bj i fun i=>k ⟨T,n,l,g,d,i,o⟩) s
theorem Uy {α:Type}(s:SharedT)(k:SharedT->α):frs s k=k s:=(Gn _ _).trans ((Ml _ _).trans (Ml _ _))
abbrev qd:Code->Sem Fin:=Fast.tw11892475500146522536 Fast.tw14364793385576792824
noncomputable def Js (p:Program) (w:World):SharedT->Thread->Option (SharedT×Thread)
  |⟨T,n,l,g,d,i,o⟩,⟨c,cd,q,fs⟩=>match c with
    |.load .. |.update .. |.alloc .. |.loadIfAlive .. =>Fast.tw10156331382660048174 qd p w ⟨T,n,l,g,d,i,o⟩ ⟨c,cd,q,fs⟩
    |c=>match Fast.tw8437177126325714943 qd p w ⟨{},g,d,i,o⟩ ⟨c,cd,q,fs⟩ with
      |.go ⟨_,g,d,i,o⟩ t=>some (⟨T,n,l,g,d,i,o⟩,t)
      |.halt _ _=>none
theorem zck {p:Program}{w:World}(s:SharedT)(t:Thread):Js p w s t=stepT (denote treeTable) p w s t:=by
 obtain⟨T,n,l,g,d,i,o⟩:=s;obtain⟨c,cd,q,fs⟩:=t;rw[show denote treeTable=qd by unfold qd;rw[<-Fast.te11892475500146522536, <-Fast.te14364793385576792824]];cases c<;>(unfold Js;dsimp only;first |rw[<-Fast.te10156331382660048174] |(unfold stepT;dsimp only;rw[<-Fast.te8437177126325714943];cases step qd p w _ _<;>rfl))
abbrev OS:=Option SharedT
noncomputable def bd (p:Program) (w:World) (n:Nat) (ih:SharedT->Thread->OS) (s:SharedT) (t:Thread):OS:=
 @Bool.rec (fun _=>OS) (@Bool.rec (fun _=>OS) none (@Option.rec _ (fun _=>OS) none (fun r=> @Prod.rec _ _ (fun _=>OS) (fun s t=> @Bool.rec (fun _=>OS) (ih s t) (frs s fun s=>ih s t) (Nat.beq (n % 64) 0)) r) (Js p w s t)) (Fast.tw6613529449190102663 11 (some (.ref 6)) t)) (some s) (through t)
noncomputable def go (p:Program) (w:World) (n:Nat):SharedT->Thread->OS:= @Nat.rec (fun _=>SharedT->Thread->OS) (fun _ _=>none) (bd p w) n
theorem yI {p:Program}{w:World}:∀{n:Nat} {s s':SharedT} {t:Thread},go p w n s t=some s'->topRun treeTable p w 11 (some (.ref 6)) n s.abs t=some s'.abs
  |0,_,_,_,h=>by cases h
  |n + 1,s,s',t,h=>by
    rw[show go p w (n + 1) s t=bd p w n (go p w n) s t from rfl]at h;unfold bd at h;rw[zck, <-Fast.te6613529449190102663]at h;unfold topRun
    cases ht:through t with
    |true=>rw[ht]at h;cases h;rfl
    |false=>
      rw[ht]at h
      cases hk:stepOk 11 (some (.ref 6)) t with
      |false=>rw[hk]at h;cases h
      |true=>
        rw[hk]at h
        cases hs:stepT (denote treeTable) p w s t with
        |none=>rw[hs]at h;cases h
        |some r=>
          obtain⟨s₂,t₂⟩:=r;rw[hs]at h;dsimp only at h ⊢;rw[stepT_spec hs];rw[Uy]at h;exact yI (by revert h;cases Nat.beq (n % 64) 0<;>exact id)
noncomputable def mkT:List Obj->Nat->BT->BT
 | [],_,t=>t
 |o::l,i,t=>mkT l (i + 1) (t.ins i o)
noncomputable def bS (w:World) (o:OsState):SharedT:=⟨mkT (boot_heap w.params).objs.toList 0 .nil,11,{},⟨[]⟩,boot_drawn,boot_toks,o⟩
theorem Ss (w:World)(o:OsState):(bS w o).abs=⟨boot_heap w.params,⟨[]⟩,boot_drawn,boot_toks,o⟩:=by kernel_rfl
theorem Sw (P:Params):((boot_heap P).isNs mainGlobals && (Array.mk []:Array GenState).size==0,(boot_heap P).objs.size,(boot_heap P).nsMap mainGlobals "__annotations__")=(true,11,some (.ref 6)):=by kernel_rfl
noncomputable def lst {α:Type} (T:BT) (n:Nat):List Obj->(List Obj->α)->α:=
 @Nat.rec (fun _=>List Obj->(List Obj->α)->α) (fun a k=>k a) (fun i ih a k=> @Option.rec Obj (fun _=>α) (ih (default::a) k) (fun o=> @Obj.rec (fun _=>α) (fun c d t l=>ih (⟨c,d,t,l⟩::a) k) o) (T.get i)) n
theorem NK {α:Type}(T:BT):∀(n:Nat) (a:List Obj) (k:List Obj->α),lst T n a k=k (T.list n ++ a)
  |0,_,_=>rfl
  |n + 1,a,k=>by
    rw[show T.list (n + 1)=T.list n ++ [(T.get n).getD default] by unfold BT.list;rw[List.range_succ,xaR];rfl,xat];unfold lst;dsimp only;cases T.get n<;>exact NK T n _ k
noncomputable def Ka {α:Type} (s:SharedT) (k:Shared->α):α:= @SharedT.rec (fun _=>α) (fun T n l g d i o=>lst T n [] fun a=>k ⟨⟨⟨a⟩,l⟩,g,d,i,o⟩) s
theorem Kc {α:Type}(s:SharedT)(k:Shared->α):Ka s k=k s.abs:=(NK _ _ _ _).trans (by rw[xaE];rfl)
section
variable {p q:Program}{lo:List Str}{Xt:Shared->Bool}{α:Type}{Yf:Shared->α}{Ya:World->α}{N:Nat}{g0:Bool}{B C:Prop}
abbrev Pre (_:LeftO p q lo Xt Yf Ya N g0/\B->C):Prop:=(opening p=plainProg p.main.scope.names/\∀s,fenceModules? p s=some s)/\Nat.ble 600 N=true
abbrev See {β:Type}(p:Program)(N:Nat)(v:World->World)(f:World->Shared->β)(y:World->β):Prop:=∀w o,(go p (v w) N (bS (v w) o) (topStub p)).map (fun s=>Ka s (f (v w)))=some (y (v w))
abbrev lG (v:World->World)(_:LeftO p q lo Xt Yf Ya N g0/\B->C):Prop:=
 See p N v (fun w s=>(staticsOk (importedModules p.main.body) (boot_heap w.params) s.heap && namesBound p s.heap && gensDone s && laidKept (boot_heap w.params) s.heap,Yf s)) fun w=>(true,Ya w)
abbrev lH (v:World->World)(_:LeftO p q lo Xt Yf Ya N g0/\B->C):Prop:=See p N v (fun _ s=>Fast.tw4187177175401517315 q lo (importedModules p.main.body) Xt g0 s) fun _=>openGood q lo
theorem left {v:World->World}{H:LeftO p q lo Xt Yf Ya N g0/\B->C}(e:Pre H)(a:lG v H)(b:lH v H)(w:World):
  (openEnds treeTable p (v w) N).map (fun s=>(openSeen q lo (importedModules p.main.body) Xt g0 s,Yf s))=some (openGood q lo,Ya (v w)):=by
 obtain⟨⟨h,gs,d,k,o⟩,e1,e2⟩:=xak.mp (boot_open e.1.1 e.2 e.1.2 (v w));obtain⟨rfl,rfl,rfl,rfl⟩:h=boot_heap (v w).params/\gs=⟨[]⟩/\d=boot_drawn/\k=boot_toks:=by simpa using e2
 obtain⟨s,hs,hv⟩:=xak.mp (a w o);have hb:=b w o;rw[hs,xbJ,Kc, <-Fast.te4187177175401517315]at hb;rw[Kc]at hv;obtain⟨l1,l3⟩:=Prod.mk.inj hv;obtain⟨z1,z2,z3⟩:_/\_/\_:=by simpa only[Prod.mk.injEq] using Sw (v w).params
 have hr:=yI hs;rw[Ss]at hr;have t:topFrom treeTable p (v w) N ⟨boot_heap (v w).params,⟨[]⟩,boot_drawn,boot_toks,o⟩=some s.abs:=by
  unfold topFrom;dsimp only;rw[z1,z2,z3,hr];dsimp only[Option.bind_some];rw[l1]
 unfold openEnds;rw[e1,Option.bind_some,t];exact congrArg some (xdu (xaD hb) l3)
theorem two (row:String){H:LeftO p q lo Xt Yf Ya N g0/\B->C}(e:Pre H)(a:lG (·.withFollow row false) H)(b:lH (·.withFollow row false) H)(c:lG (·.withFollow row true) H)(d:lH (·.withFollow row true) H)(hB:B):C:=
 H ⟨fun w=>by
  have x:=left e a b w;have y:=left e c d w;have z:=World.withFollow_self w row;cases h:w.params.followText row<;>rw[h]at z<;>simp only[z]at x y<;>assumption,hB⟩
end
end HQ
section
local macro_rules
  | `(tactic| refine $f:term $as:term*)=>do
    let mut bs:= #[]
    let mut hit:=false
    for a in as do
      if a.raw.isOfKind ``Lean.Parser.Term.syntheticHole && a.raw[1].getId== `hl then
        hit:=true
        bs:=bs.push (<- `((And.left ?hx)))
      else if a.raw.isOfKind ``Lean.Parser.Term.syntheticHole && a.raw[1].getId== `hc then
        bs:=bs.push (<- `((And.right ?hx)))
      else bs:=bs.push a
    if hit then `(tactic| refine $f $bs*) else Lean.Macro.throwUnsupported
set_option maxHeartbeats 0 in
def PySem.W.Fast.tw11529210233426445082:=PySem.Challenge.pw_rowdam_k44_gaps
theorem PySem.W.Fast.te11529210233426445082:PySem.Challenge.pw_rowdam_k44_gaps=PySem.W.Fast.tw11529210233426445082:=rfl
set_option maxHeartbeats 0 in
open_top My.hdAll for PySem.Challenge.rw_rowdam_k44_gaps
theorem My.he:HQ.Pre My.hdAll:=⟨⟨by kernel_rfl,fun _=>by kernel_rfl⟩,by kernel_rfl⟩
theorem My.hBf:HQ.lH (·.withFollow "special-get-raises" false) My.hdAll:=fun _ _=>by kernel_rfl
theorem My.hBt:HQ.lH (·.withFollow "special-get-raises" true) My.hdAll:=fun _ _=>by kernel_rfl
theorem My.hAf:HQ.lG (·.withFollow "special-get-raises" false) My.hdAll:=fun _ _=>by kernel_rfl
theorem My.hAt:HQ.lG (·.withFollow "special-get-raises" true) My.hdAll:=fun _ _=>by kernel_rfl
end
namespace L2
open PySem PySem.Spec PyProof.Rows
abbrev Key:=Sum Int Str
noncomputable def Np:Key->Value->Bool
 |.inl k,v=>Value.isInt k v
 |.inr x,v=>Value.isStrOf x v
def GX (w:World):Key->Int
 |.inl k=>hashInt k
 |.inr x=>hashStr w x
theorem nY:∀{k:Key} {v:Value},Np k v=true->(∃i t,k=Sum.inl i/\v=Value.int i t)\/(∃x t,k=Sum.inr x/\v=Value.str x t)
  |.inl i,v,h=>by
    obtain⟨t,e⟩:=Value.isInt_shape (k:=i) (v:=v) h;exact .inl ⟨i,t,rfl,e⟩
  |.inr x,v,h=>by
    obtain⟨t,e⟩:=Value.isStrOf_shape (x:=x) (v:=v) h;exact .inr ⟨x,t,rfl,e⟩
theorem Vr (a b:Int):decide ((Sum.inl a:Key)=Sum.inl b)=(a==b):=by
 by_cases e:a=b
 ·subst e;simp
 ·have h:¬ (Sum.inl a:Key)=Sum.inl b:=fun q=>e (Sum.inl.inj q);rw[xaI h];exact(xbp.mpr e).symm
theorem Vu (a b:Str):decide ((Sum.inr a:Key)=Sum.inr b)=decide (a=b):=by
 by_cases e:a=b
 ·subst e;simp
 ·have h:¬ (Sum.inr a:Key)=Sum.inr b:=fun q=>e (Sum.inr.inj q);rw[xaI h,xaI e]
theorem Vs (a:Int)(b:Str):decide ((Sum.inl a:Key)=Sum.inr b)=false:=xaI (fun q=>nomatch q)
theorem Vt (a:Str)(b:Int):decide ((Sum.inr a:Key)=Sum.inl b)=false:=xaI (fun q=>nomatch q)
noncomputable def G_ (prog:Program) (w:World):PySem.KeyKind prog w Key where
 is:=Np
 hash:=GX w
 inj:=fun v a b ha hb=>by
  rcases nY ha with⟨i,t,rfl,rfl⟩ |⟨x,t,rfl,rfl⟩
  ·rcases nY hb with⟨j,u,rfl,e⟩ |⟨y,u,rfl,e⟩
   ·injection e with e1 _;rw[e1]
   ·exact nomatch e
  ·rcases nY hb with⟨j,u,rfl,e⟩ |⟨y,u,rfl,e⟩
   ·exact nomatch e
   ·injection e with e1 _;rw[e1]
 byValue:=fun k v h=>by
  rcases nY h with⟨i,t,rfl,rfl⟩ |⟨x,t,rfl,rfl⟩<;>rfl
 pyHash:=fun hv h=>by
  rcases nY hv with⟨i,t,rfl,rfl⟩ |⟨x,t,rfl,rfl⟩
  ·exact wpAny_pyHash_int h
  ·exact wpAny_pyHash_str h
 eqBool:=fun hu hv h=>by
  rcases nY hu with⟨i,t,rfl,rfl⟩ |⟨x,t,rfl,rfl⟩
  ·rcases nY hv with⟨j,u,rfl,rfl⟩ |⟨y,u,rfl,rfl⟩
   ·rw[Vr]at h;exact wpAny_eqBool_int h
   ·rw[Vs]at h;exact xdy i t y u _ _ _ _ h
  ·rcases nY hv with⟨j,u,rfl,rfl⟩ |⟨y,u,rfl,rfl⟩
   ·rw[Vt]at h;exact xdz x t j u _ _ _ _ h
   ·rw[Vu]at h;exact wpAny_eqBool_str h
 «strs» :=fun k x t v h=>by
  rcases nY h with⟨i,u,rfl,e⟩ |⟨y,u,rfl,e⟩
  ·exact nomatch e
  ·injection e with e1 _
   subst e1;cases v<;>rfl
inductive V where
 |non |bl (b:Bool) |int (i:Int) |str (x:Str) |byt (b:Array UInt8) |flt (b:UInt64) |ref (a:Addr) |ty (n:String)
 deriving DecidableEq
noncomputable def RelV:V->Value->Prop
 |.non,u=>u=Value.none
 |.bl b,u=>u=Value.bool b
 |.int i,u=>∃t,u=Value.int i t
 |.str x,u=>∃t,u=Value.str x t
 |.byt b,u=>∃t,u=Value.bytes b t
 |.flt b,u=>∃t,u=Value.float b t
 |.ref a,u=>u=Value.ref a
 |.ty n,u=>u=Value.type n
abbrev Vals:List V->List Value->Prop:=Paired RelV
theorem Vals.length (r:Vals xs us):xs.length=us.length:=Paired.length r
theorem Vals.get:∀{xs:List V} {us:List Value} {i:Nat} {x:V},Vals xs us->xs[i]? =some x->∃u,us[i]? =some u/\RelV x u
  |_,_,_,_,.nil,e=>by simp at e
  |_,_,0,_,.cons r _,e=>by simp at e;subst e;exact⟨_,rfl,r⟩
  |_,_,i + 1,x,.cons _ t,e=>by
    obtain⟨u,h1,h2⟩:=Vals.get (i:=i) (x:=x) t (by simpa using e);exact⟨u,by simpa using h1,h2⟩
theorem Vals.set (r:RelV x u):∀{xs:List V} {us:List Value} (i:Nat),Vals xs us->Vals (xs.set i x) (us.set i u)
 |_,_,_,.nil=>.nil
 |_,_,0,.cons _ t=>.cons r t
 |_,_,i + 1,.cons q t=>.cons q (Vals.set r i t)
theorem Vals.append:∀{xs ys:List V} {us ws:List Value},Vals xs us->Vals ys ws->Vals (xs ++ ys) (us ++ ws)
 |_,_,_,_,.nil,s=>s
 |_,_,_,_,.cons r t,s=>.cons r (Vals.append t s)
theorem Vals.take:∀{xs:List V} {us:List Value} (n:Nat),Vals xs us->Vals (xs.take n) (us.take n)
 |_,_,0,_=>.nil
 |_,_,_ + 1,.nil=>.nil
 |_,_,n + 1,.cons r t=>.cons r (Vals.take n t)
theorem Vals.drop:∀{xs:List V} {us:List Value} (n:Nat),Vals xs us->Vals (xs.drop n) (us.drop n)
 |_,_,0,r=>r
 |_,_,_ + 1,.nil=>.nil
 |_,_,n + 1,.cons _ t=>Vals.drop n t
noncomputable def dZ:Option V->Option Value->Prop
 |some v,some u=>RelV v u
 |none,none=>True
 |_,_=>False
def KV {κ:Type}:List (κ×V)->List (κ×Value)->Prop:=Paired fun(p:κ×V) (q:κ×Value)=>p.1=q.1/\RelV p.2 q.2
def kV:Key->V
 |.inl i=>.int i
 |.inr x=>.str x
inductive HO where
  |lst (xs:List V)
  |tup (xs:List V)
  |dK (kvs:List (Key×V)) |dT (kvs:List (List Key×V))
  |set (S:Int->Bool) (n:Nat)
  |ins (C dx:Addr) (fs:List (Str×V))
  |own (x:Addr)
  |xd (fs:List (Str×V))
  |met (f x:Addr)
  |rng (lo hi:Int)
  |frz (o:Obj) (u:HO)
  |tbl (ps:Array Value)
  |ext (φ:Heap->Prop)
abbrev Hp:=Addr->Option HO
noncomputable def upd (H:Hp) (a:Addr) (o:HO):Hp:=fun b=>if b=a then some o else H b
theorem dw:upd H a o a=some o:=by unfold upd;rw[xac rfl]
theorem bT (h:b≠a):upd H a o b=H b:=by unfold upd;rw[xae h]
theorem zby:upd (upd H a o) a u=upd H a u:=by
 funext b;unfold upd;split<;>rfl
theorem rC {H:Hp}{a b:Addr}{o:HO}(h:H a=some o)(h':H b=none):a≠b:=by
 intro e;subst e;rw[h]at h';cases h'
section
variable (P:Program)(w:World)
noncomputable def eG (H:Hp) (h:Heap) (a:Addr):HO->Prop
 |.lst xs=>xs.length<=sizeLine/\∃(its:List Value) (n:Nat),Vals xs its/\h.get? a=some {cls:=.type "list",data:=.seq its.toArray n}
 |.tup xs=>xs.length<=sizeLine/\∃its:List Value,Vals xs its/\IsTup h a its.toArray
 |.dK kvs=>kvs.length<=sizeLine/\(a==sysModules)=false/\∃vs,KV kvs vs/\h.DictOf (G_ P w) a vs
 |.dT kvs=>kvs.length<=sizeLine/\(a==sysModules)=false/\∃xs:List (List Key×Addr×Value),
   Paired (fun(p:List Key×V) (q:List Key×Addr×Value)=>p.1=q.1/\H q.2.1=some (.tup (p.1.map kV))/\RelV p.2 q.2.2) kvs xs/\
   ∃o es ep,h.get? a=some o/\o.ExactDict/\o.data=.dict es ep/\es.toList=xs.map (entryOfKey (tupleKind (G_ P w)))/\(xs.map (·.1)).Nodup
 |.set S n=>h.SetOf (intKind P w) a S n
 |.ins C dx fs=>H dx=some (.own a)/\fs.length<=1000/\dx≠a/\h.get? a=some (PySem.W.instObj C dx)/\
   ∃mA,h.Ns1 dx mA/\(∀f,dZ (fs.lookup f) (mA f))/\PySem.Within mA (fs.map (·.1))
 |.own _=>∃o,h.get? a=some o
 |.xd fs=>∃mA,h.Ns1 a mA/\∀f,dZ (fs.lookup f) (mA f)
 |.rng lo hi=>∃t u v,h.get? a=some {cls:=.type "range",data:=.fields #[.int lo t,.int hi u,.int 1 v]}
 |.frz o u=>h.get? a=some o/\eG H h a u
 |.tbl ps=>h.get? a=some {cls:=.none,data:=.fields ps}
 |.met f x=>h.get? a=some (PySem.W.methodObj (.ref f) (.ref x))
 |.ext φ=>φ h/\(∃o,h.get? a=some o)/\∀h1 h2:Heap,φ h1->(∀o,h1.get? a=some o->h2.get? a=some o)->φ h2
def cJ (H:Hp)(h:Heap):Prop:=∀a o,H a=some o->eG P w H h a o
end
section
variable {P:Program}{w:World}{H H':Hp}{h h':Heap}{a:Addr}{o:HO}
theorem eG.lt (x:eG P w H h a o):a<h.objs.size:=by
 cases o with
 |lst xs=>obtain⟨_,_,_,_,e⟩:=x;exact xan e
 |tup xs=>obtain⟨_,_,_,p⟩:=x;exact p.lt
 |dK kvs=>obtain⟨_,_,_,_,o,_,_,e,_⟩:=x;exact xan e
 |dT kvs=>obtain⟨_,_,_,_,o,_,_,e,_⟩:=x;exact xan e
 |set S n=>obtain⟨o,_,_,_,e,_⟩:=x;exact xan e
 |ins C dx fs=>obtain⟨_,_,_,e,_⟩:=x;exact xan e
 |own y=>obtain⟨_,e⟩:=x;exact xan e
 |xd fs=>obtain⟨_,⟨_,_,_,e,_⟩,_⟩:=x;exact xan e
 |rng lo hi=>obtain⟨_,_,_,e⟩:=x;exact xan e
 |frz ob u=>obtain⟨e,_⟩:=x;exact xan e
 |tbl ps=>exact xan (show h.get? a=some _ from x)
 |met f y=>exact xan (show h.get? a=some _ from x)
 |ext φ=>obtain⟨_,⟨_,e⟩,_⟩:=x;exact xan e
theorem Paired.mapP:∀{l₁:List α} {l₂:List β},Paired F l₁ l₂->(∀a b,F a b->G a b)->Paired G l₁ l₂
 |_,_,.nil,_=>.nil
 |_,_,.cons r t,f=>.cons (f _ _ r) (Paired.mapP t f)
theorem eG.stay (x:eG P w H h a o)(k:∀b u,(b=a\/H b=some (.own a))->h.get? b=some u->h'.get? b=some u)
    (ho:∀b,H b=some (.own a)->H' b=some (.own a)) (ht:∀b xs,H b=some (.tup xs)->H' b=some (.tup xs)):eG P w H' h' a o:=by
  induction o with
  |lst xs=>obtain⟨z,its,n,r,e⟩:=x;exact⟨z,its,n,r,k _ _ (.inl rfl) e⟩
  |tup xs=>obtain⟨z,its,r,ob,e,c⟩:=x;exact⟨z,its,r,ob,k _ _ (.inl rfl) e,c⟩
  |dK kvs=>obtain⟨z,y,vs,r,ob,es,ep,e,c⟩:=x;exact⟨z,y,vs,r,ob,es,ep,k _ _ (.inl rfl) e,c⟩
  |dT kvs=>
    obtain⟨z,y,xs,r,ob,es,ep,e,c⟩:=x;exact⟨z,y,xs,Paired.mapP r fun p q z=>⟨z.1,ht _ _ z.2.1,z.2.2⟩,ob,es,ep,k _ _ (.inl rfl) e,c⟩
  |set S n=>obtain⟨ob,es,ep,t,e,c⟩:=x;exact⟨ob,es,ep,t,k _ _ (.inl rfl) e,c⟩
  |ins C dx fs=>
    obtain⟨d,z,ne,e,mA,⟨od,es,ep,e2,c⟩,r⟩:=x;exact⟨ho _ d,z,ne,k _ _ (.inl rfl) e,mA,⟨od,es,ep,k _ _ (.inr d) e2,c⟩,r⟩
  |own y=>obtain⟨ob,e⟩:=x;exact⟨ob,k _ _ (.inl rfl) e⟩
  |xd fs=>obtain⟨mA,⟨od,es,ep,e,c⟩,r⟩:=x;exact⟨mA,⟨od,es,ep,k _ _ (.inl rfl) e,c⟩,r⟩
  |rng lo hi=>obtain⟨t,u,v,e⟩:=x;exact⟨t,u,v,k _ _ (.inl rfl) e⟩
  |frz ob u ih=>obtain⟨e,q⟩:=x;exact⟨k _ _ (.inl rfl) e,ih q⟩
  |tbl ps=>
    have e:h.get? a=some {cls:=.none,data:=.fields ps}:=x;show h'.get? a=some {cls:=.none,data:=.fields ps};exact k a _ (.inl rfl) e
  |met f y=>
    have e:h.get? a=some (PySem.W.methodObj (.ref f) (.ref y)):=x;show h'.get? a=some (PySem.W.methodObj (.ref f) (.ref y));exact k a _ (.inl rfl) e
  |ext φ=>obtain⟨p,⟨o,e⟩,st⟩:=x;exact⟨st _ _ p fun o q=>k _ _ (.inl rfl) q,⟨o,k _ _ (.inl rfl) e⟩,st⟩
theorem cJ.lt (x:cJ P w H h)(e:H a=some o):a<h.objs.size:=(x a o e).lt
theorem cJ.fresh (x:cJ P w H h)(e:h.objs.size<=a):H a=none:=by
 cases q:H a with
 |none=>rfl
 |some u=>exact absurd (xap (x.lt q) e) (xck _)
theorem cJ.kept (x:cJ P w H h)(k:∀b u,h.get? b=some u->h'.get? b=some u):cJ P w H h':=fun a o e=>
 (x a o e).stay (fun b u _ q=>k b u q) (fun _ q=>q) fun _ _ q=>q
theorem cJ.laid (x:cJ P w H h)(k:∀b u,h.get? b=some u->h'.get? b=some u)(hp:h.objs.size<=a)(new:eG P w (upd H a o) h' a o):cJ P w (upd H a o) h':=fun b u e=>by
 have hn:=x.fresh hp
 by_cases hb:b=a
 ·subst hb;rw[dw]at e;cases e;exact new
 ·rw[bT hb]at e;exact(x b u e).stay (fun c v _ q=>k c v q) (fun c q=>by rw[bT (rC q hn)];exact q) fun c xs q=>by rw[bT (rC q hn)];exact q
end
def Rd (H:Hp)(a:Addr)(u:HO):Prop:=H a=some u\/∃o,H a=some (.frz o u)
theorem Rd.ok (r:Rd H a u)(x:cJ P w H h):eG P w H h a u:=by
 rcases r with r |⟨o,r⟩
 ·exact x a u r
 ·obtain⟨_,q⟩:=x a _ r;exact q
noncomputable def Ae:Option HO->Prop
 |some (.lst _)=>True
 |some (.dK _)=>True
 |some (.dT _)=>True
 |some (.set _ _)=>True
 |some (.ins _ _ _)=>True
 |some (.ext _)=>True
 |_=>False
section
variable {P:Program}{w:World}{H:Hp}{h h':Heap}{x e:Addr}{o':HO}
theorem cJ.write (ok:cJ P w H h)(mu:Ae (H x))(he:e=x\/H e=some (.own x))(k:∀b u,b≠e->h.get? b=some u->h'.get? b=some u)(heo:∃u,h'.get? e=some u)
  (new:eG P w (upd H x o') h' x o'):cJ P w (upd H x o') h':=fun b u q=>by
 have nown:∀c y,H c=some (.own y)->c≠x:=fun c y r z=>by subst z;rw[r]at mu;exact mu
 have ntup:∀c xs,H c=some (.tup xs)->c≠x:=fun c xs r z=>by subst z;rw[r]at mu;exact mu
 by_cases hb:b=x
 ·subst hb;rw[dw]at q;cases q;exact new
 ·rw[bT hb]at q
  by_cases hbe:b=e
  ·have q':H b=some (.own x):=by
    rcases he with z |z
    ·exact absurd (hbe.trans z) hb
    ·rw[hbe];exact z
   rw[q]at q';cases q';obtain⟨v,hv⟩:=heo;exact⟨v,by rw[hbe];exact hv⟩
  ·refine(ok b u q).stay (fun c v hc r=>k c v ?_ r) (fun c r=>by rw[bT (nown c b r)];exact r) fun c xs r=>by rw[bT (ntup c xs r)];exact r
   rcases hc with rfl |hc
   ·exact hbe
   ·rintro rfl;rcases he with z |z
    ·exact nown c b hc z
    ·rw[hc]at z;cases z;exact hb rfl
end
structure Un (fs ex:List Addr)(H H':Hp)(h h':Heap):Prop where
 keep:∀b o,h.get? b=some o->H b=none->b∉fs->b∉ex->h'.get? b=some o
 slot:∀b o,h.get? b=some o->H b=none->b∈fs->b∉ex->∃sl,h'.get? b=some {o with slots:=sl}
 free:∀b o,h.get? b=some o->H b=none->b∉ex->H' b=none
 there:∀b o,h.get? b=some o->b∉ex->∃o',h'.get? b=some o'
 tups:∀b xs,H b=some (.tup xs)->H' b=some (.tup xs)
 frzs:∀b o u,H b=some (.frz o u)->H' b=some (.frz o u)
 tbls:∀b ps,H b=some (.tbl ps)->∃more,H' b=some (.tbl (ps ++ more))
section
variable {fs fs' ex ex':List Addr}{H H1 H2:Hp}{h h1 h2 h':Heap}{a x e:Addr}{o:HO}
theorem Un.any (u:Un fs ex H H1 h h1)(q:h.get? b=some ob)(n:H b=none)(hx:b∉ex):∃sl,h1.get? b=some {ob with slots:=sl}:=by
 by_cases hb:b∈fs
 ·exact u.slot b ob q n hb hx
 ·exact⟨ob.slots,u.keep b ob q n hb hx⟩
theorem Un.trans (a:Un fs ex H H1 h h1)(b:Un fs ex H1 H2 h1 h2):Un fs ex H H2 h h2 where
 keep:=fun c ob q n hc hx=>b.keep c ob (a.keep c ob q n hc hx) (a.free c ob q n hx) hc hx
 slot:=fun c ob q n hc hx=>by
  obtain⟨sl,e1⟩:=a.slot c ob q n hc hx;obtain⟨sl',e2⟩:=b.slot c _ e1 (a.free c ob q n hx) hc hx;exact⟨sl',e2⟩
 free:=fun c ob q n hx=>by
  obtain⟨o',e1⟩:=a.there c ob q hx;exact b.free c o' e1 (a.free c ob q n hx) hx
 there:=fun c ob q hx=>by
  obtain⟨o',e1⟩:=a.there c ob q hx;exact b.there c o' e1 hx
 tups:=fun c xs q=>b.tups c xs (a.tups c xs q)
 frzs:=fun c ob xs q=>b.frzs c ob xs (a.frzs c ob xs q)
 tbls:=fun c ps q=>by
  obtain⟨m1,e1⟩:=a.tbls c ps q;obtain⟨m2,e2⟩:=b.tbls c _ e1;exact⟨m1 ++ m2,by rw[e2,xeq]⟩
theorem Un.kept (k:∀b u,h.get? b=some u->h'.get? b=some u):Un fs ex H H h h':=
 ⟨fun b ob q _ _ _=>k b ob q,fun b ob q _ _ _=>⟨ob.slots,k b ob q⟩,fun _ _ _ n _=>n,fun b ob q _=>⟨ob,k b ob q⟩,fun _ _ q=>q,fun _ _ _ q=>q,fun _ ps q=>⟨#[],by rw[q];simp⟩⟩
theorem Un.refl:Un fs ex H H h h:=Un.kept fun _ _ q=>q
theorem Un.laid (k:∀b u,h.get? b=some u->h'.get? b=some u)(hp:h.objs.size<=a)(hn:H a=none):Un fs ex H (upd H a o) h h' where
 keep:=fun b u q _ _ _=>k b u q
 slot:=fun b u q _ _ _=>⟨u.slots,k b u q⟩
 free:=fun b u q n _=>by rw[bT (xaC (xap (xan q) hp))];exact n
 there:=fun b u q _=>⟨u,k b u q⟩
 tups:=fun b xs q=>by rw[bT (rC q hn)];exact q
 frzs:=fun b u xs q=>by rw[bT (rC q hn)];exact q
 tbls:=fun b ps q=>⟨#[],by rw[bT (rC q hn),q];simp⟩
theorem Un.write (mu:Ae (H x))(he:e=x\/H e=some (.own x))(k:∀b u,b≠e->h.get? b=some u->h'.get? b=some u)(heo:∃u,h'.get? e=some u):Un fs ex H (upd H x o) h h':=by
 have hx:∀b,H b=none->b≠x:=fun b n z=>by subst z;rw[n]at mu;exact mu
 have hb:∀b,H b=none->b≠e:=fun b n z=>by
  subst z;rcases he with r |r
  ·exact hx b n r
  ·rw[n]at r;cases r
 have hm:∀b u,H b=some u->¬ Ae (some u)->b≠x:=fun b u q nm z=>by subst z;rw[q]at mu;exact nm mu
 refine ⟨fun b u q n _ _=>k b u (hb b n) q,fun b u q n _ _=>⟨u.slots,k b u (hb b n) q⟩,fun b u q n _=>by rw[bT (hx b n)];exact n,fun b u q _=>?_,
  fun b xs q=>by rw[bT (hm b _ q fun z=>z)];exact q,fun b u xs q=>by rw[bT (hm b _ q fun z=>z)];exact q,fun b ps q=>⟨#[],by rw[bT (hm b _ q fun z=>z),q];simp⟩⟩
 by_cases hbe:b=e
 ·subst hbe;exact heo
 ·exact⟨u,k b u hbe q⟩
theorem Un.mono (u:Un fs ex H H1 h h1)(hs:∀b∈fs,b∈fs')(hx:∀b∈ex,b∈ex'):Un fs' ex' H H1 h h1:=
 ⟨fun b ob q n hb he=>u.keep b ob q n (fun z=>hb (hs b z)) fun z=>he (hx b z),fun _ _ q n _ he=>u.any q n fun z=>he (hx _ z),fun b ob q n he=>u.free b ob q n fun z=>he (hx b z),fun b ob q he=>u.there b ob q fun z=>he (hx b z),u.tups,u.frzs,u.tbls⟩
end
noncomputable def DX (h:Heap) (H:Hp):List Addr:=(List.range h.objs.size).filter fun a=>(H a).isSome
def eO (h:Heap)(H:Hp):Heap:=PySem.W.hideAll h (DX h H)
theorem U6 (h:Heap)(H:Hp):(eO h H).objs.size=h.objs.size:=PySem.W.hideAll_size _ _
theorem U5 (e:h.get? b=some o)(n:H b=none):(eO h H).get? b=some o:=
 PySem.W.hideAll_get _ e fun hm=>by
  have q:(H b).isSome=true:=(xbK.mp hm).2;rw[n]at q;simp at q
theorem W7 (e:(eO h H).get? b=some o):h.get? b=some o/\H b=none:=by
  have e':h.get? b=some o:=PySem.W.of_hideAll (DX h H) e;refine⟨e',?_⟩
  cases q:H b with
  |none=>rfl
  |some x=>
    have hm:b∈DX h H:=xbK.mpr ⟨xcK.mpr (xan e'),by simp[q]⟩;have z:(eO h H).get? b=none:=PySem.W.hideAll_none (DX h H) hm;rw[z]at e;cases e
structure Mod (K:Fgx)(mg:Mgx)(base:Heap):Prop where
 kin:K.In base
 glob:base.Ns mainGlobals mg
 blt:∃mb,base.Ns builtinsNs mb/\∀x:Str,x≠"__name__"->mb x=bootBuiltins x
 nolimit:base.NoLimit
structure Cx where
 prog:Program
 w:World
 K:Fgx
 mg:Mgx
 base:Heap
 A:Around
 N:List Str
 s₀:Shared
 H₀:Hp
 env:Env
 outer:List Env
 stack:List Env
 ex:List Addr
 fn:Str->Bool
 calm:Bool
 pn:Pnx
 xe:Value->Shared->Prop
def frs (l:List Env):List Addr:=l.filterMap (·.frame)
abbrev Cx.fs (X:Cx):List Addr:=frs X.outer
def wC (sc:Scope)(x:Str):Prop:=sc.names.lookup x=some .local\/sc.names.lookup x=some .cell\/sc.names.lookup x=some .free
def Loc (sc:Scope)(x:Str):Prop:=sc.names.lookup x=some .local\/sc.names.lookup x=some .cell
def Look (env:Env)(h:Heap)(m:Mgx)(x:Str)(u:Value):Prop:=
 (env.kindOf x=some .local/\m x=some u)\/((env.kindOf x=some .cell\/env.kindOf x=some .free)/\∃c,env.cells.lookup x=some c/\h.IsCell c (some u))
structure Cx.Ok (X:Cx):Prop where
 mod:Mod X.K X.mg X.base
 kind:X.env.scope.kind=.function
 glob:X.env.globals=mainGlobals
 blt:X.env.builtins=builtinsNs
 above:X.s₀.heap.objs.size<=X.env.locals
 inj:∀x y c,X.env.cells.lookup x=some c->X.env.cells.lookup y=some c->x=y
 has:∀x,(X.env.kindOf x=some .cell\/X.env.kindOf x=some .free)->∃c,X.env.cells.lookup x=some c
 cab:∀x c,X.fn x=true->X.env.cells.lookup x=some c->X.s₀.heap.objs.size<=c
 hd:X.calm=true->X.A.handled=none
 frames:X.A.frames=some X.stack
 stk:X.stack=X.outer\/(X.stack=X.env::X.outer/\X.env.frame=some X.env.locals)
 exf:∀b∈X.ex,b≠X.env.locals/\∀x c,X.env.cells.lookup x=some c->c≠b
 bs:∀b o,X.base.get? b=some o->X.s₀.heap.get? b=some o/\X.H₀ b=none
 bsz:X.base.objs.size<=X.s₀.heap.objs.size
 noex:∀b o,X.base.get? b=some o->b∉X.ex
 exfs:∀b∈X.ex,b∉X.fs
 funs:X.s₀.heap.FunFrames X.base X.outer
 frf:∀b∈X.fs,X.H₀ b=none
structure Inv (X:Cx)(pins:Pnx)(σ:List (Option V))(H:Hp)(s:Shared):Prop where
 ok:X.Ok
 os:s.os=X.s₀.os
 bare:AllBare s.gens
 base:Un X.fs X.ex X.H₀ H X.s₀.heap s.heap
 loc:∃m,s.heap.Ns X.env.locals m/\∀(i:Nat) (x:Str) (v:V),X.N[i]? =some x->σ[i]? =some (some v)->wC X.env.scope x->∃u,RelV v u/\Look X.env s.heap m x u
 cell:∀x c,X.env.cells.lookup x=some c->∃v,s.heap.IsCell c v
 free:H X.env.locals=none
 freeC:∀x c,X.env.cells.lookup x=some c->H c=none\/(X.fn x=false/\∃o u,H c=some (.frz o u))
 pin:∀p∈X.pn ++ pins,s.heap.get? p.1=some p.2/\H p.1=none/\p.1≠X.env.locals/\p.1∉X.fs/\∀v,p.2.data≠ .cell v
 hok:cJ X.prog X.w H s.heap
 len:σ.length=X.N.length
section
variable {X:Cx}{pins:Pnx}{σ:List (Option V)}{H H':Hp}{s:Shared}{h':Heap}
theorem Cx.Ok.nofr (ok:X.Ok)(e:X.base.get? b=some o):b∉X.fs:=fun hb=>by
 have:=(ok.funs.mem hb).1;rw[e]at this;cases this
theorem Inv.bs (I:Inv X pins σ H s):∀b o,X.base.get? b=some o->s.heap.get? b=some o/\H b=none:=fun b o e=>
 ⟨I.base.keep b o (I.ok.bs b o e).1 (I.ok.bs b o e).2 (I.ok.nofr e) (I.ok.noex b o e),I.base.free b o (I.ok.bs b o e).1 (I.ok.bs b o e).2 (I.ok.noex b o e)⟩
theorem Inv.bk (I:Inv X pins σ H s):∀b o,X.base.get? b=some o->s.heap.get? b=some o:=fun b o e=>(I.bs b o e).1
theorem Inv.mod (I:Inv X pins σ H s):Mod X.K X.mg X.base:=I.ok.mod
theorem Inv.kIn (I:Inv X pins σ H s):X.K.In s.heap:=I.ok.mod.kin.keeps I.bk
theorem Inv.fr (I:Inv X pins σ H s):∃m,Fr X.base X.env.locals s.heap m:=
 let ⟨m,hn,_⟩:=I.loc
 ⟨m,hn,I.bk,xaq I.ok.bsz I.ok.above⟩
theorem Inv.lt (I:Inv X pins σ H s):X.env.locals<s.heap.objs.size:=let ⟨_,hn,_⟩:=I.loc;hn.lt
theorem Inv.sz (I:Inv X pins σ H s):X.s₀.heap.objs.size<=s.heap.objs.size:=xaq I.ok.above (xa5 I.lt)
theorem Inv.nofs (I:Inv X pins σ H s)(h:s.heap.objs.size<=a):a∉X.fs:=fun hb=>by
 obtain⟨_,o,ho,_⟩:=I.ok.funs.mem hb;exact absurd (xap (xan ho) (xaq I.sz h)) (xck _)
theorem Inv.cne (I:Inv X pins σ H s):∀x c,X.env.cells.lookup x=some c->c≠X.env.locals:=fun x c e z=>by
 obtain⟨v,o,ho,hd⟩:=I.cell x c e;obtain⟨m,⟨o',es,ep,ho',hd',_⟩,_⟩:=I.loc;rw[z,ho']at ho;cases ho;rw[hd']at hd;cases hd
theorem Inv.funs (I:Inv X pins σ H s):s.heap.FunFrames X.base X.outer:=by
  have all:∀(l:List Env),(∀b∈frs l,b∈X.fs)->X.s₀.heap.FunFrames X.base l->s.heap.FunFrames X.base l:=by
    intro l
    induction l with
    |nil=>intro _ _;trivial
    |cons env r ih=>
      intro hs hl;obtain⟨hk,⟨L,o,hf,hn,ho,hd⟩,hr⟩:=hl;have hL:L∈X.fs:=hs L (by unfold frs;rw[xcf,hf];exact xau);obtain⟨sl,e⟩:=I.base.slot L o ho (I.ok.frf L hL) hL fun z=>I.ok.exfs L z hL;exact⟨hk,⟨L,_,hf,hn,e,hd⟩,ih (fun b hb=>hs b (by unfold frs;rw[xcf,hf];exact xal _ hb)) hr⟩
  exact all X.outer (fun _ hb=>hb) I.ok.funs
theorem Inv.stack (I:Inv X pins σ H s):s.heap.FunFrames X.base X.stack:=by
 rcases I.ok.stk with e |⟨e,hf⟩
 ·rw[e];exact I.funs
 ·rw[e];obtain⟨m,hn,_⟩:=I.loc;refine .cons (by rw[I.ok.kind];decide) hf hn ?_ I.funs;exact Heap.get?_none_of_le (xaq I.ok.bsz I.ok.above)
theorem Inv.stkSub (I:Inv X pins σ H s):∀b∈frs X.stack,b∈X.env.locals::X.fs:=fun b hb=>by
 rcases I.ok.stk with e |⟨e,hf⟩
 ·rw[e]at hb;exact xal _ hb
 ·rw[e]at hb;unfold frs at hb;rw[xcf,hf]at hb;exact hb
theorem Inv.stkFree (I:Inv X pins σ H s):∀b∈frs X.stack,H b=none:=fun b hb=>by
 rcases xar.mp (I.stkSub b hb) with e |hb
 ·rw[e];exact I.free
 ·obtain⟨_,o,ho,_⟩:=I.ok.funs.mem hb;exact I.base.free b o ho (I.ok.frf b hb) fun z=>I.ok.exfs b z hb
theorem Inv.step {g':Array GenState}{t':Nat}{d':Drawn}{ch:List Addr}(I:Inv X pins σ H s)
  (hch:∀b∈ch,(b∈X.ex\/X.s₀.heap.objs.size<=b)/\b≠X.env.locals/\(∀x c,X.env.cells.lookup x=some c->c≠b)/\∀p∈X.pn ++ pins,p.1≠b)
  (keep:∀b o,b≠X.env.locals->b∉X.fs->b∉ch->s.heap.get? b=some o->H b=none->h'.get? b=some o)
  (slot:∀b o,b≠X.env.locals->b∈X.fs->b∉ch->s.heap.get? b=some o->H b=none->∃sl,h'.get? b=some {o with slots:=sl}) (free:∀b o,b∉ch->s.heap.get? b=some o->H b=none->H' b=none)
  (there:∀b o,b∉ch->s.heap.get? b=some o->∃o',h'.get? b=some o')
  (tups:∀b xs,H b=some (.tup xs)->H' b=some (.tup xs)) (frzs:∀b o u,H b=some (.frz o u)->H' b=some (.frz o u)) (tbls:∀b ps,H b=some (.tbl ps)->∃more,H' b=some (.tbl (ps ++ more)))
  (ns:∀m,s.heap.Ns X.env.locals m->h'.Ns X.env.locals m) (hok:cJ X.prog X.w H' h') (hg:AllBare g'):
  Inv X pins σ H' {s with heap:=h',gens:=g',drawn:=d',toks:=t'}:=by
 have neL:∀b o,X.s₀.heap.get? b=some o->b≠X.env.locals:=fun b o e=>xaC (xap (xan e) I.ok.above);have neC:∀b o,X.s₀.heap.get? b=some o->b∉X.ex->b∉ch:=fun b o e hx hb=>by
  rcases(hch b hb).1 with z |z
  ·exact hx z
  ·exact absurd (xap (xan e) z) (xck _)
 have cellK:∀x c,X.env.cells.lookup x=some c->∀v,s.heap.IsCell c v->h'.IsCell c v:=fun x c e v ⟨o,ho,hd⟩=>by
  have nch:c∉ch:=fun z=>(hch c z).2.2.1 x c e rfl;rcases I.freeC x c e with fc |⟨_,o',u',fc⟩
  ·by_cases hc:c∈X.fs
   ·obtain⟨sl,q⟩:=slot c o (I.cne x c e) hc nch ho fc;exact⟨_,q,hd⟩
   ·exact⟨o,keep c o (I.cne x c e) hc nch ho fc,hd⟩
  ·obtain⟨e1,_⟩:=I.hok c _ fc;obtain⟨e2,_⟩:=hok c _ (frzs c _ _ fc);rw[ho]at e1;cases e1;exact⟨o,e2,hd⟩
 refine⟨I.ok,I.os,hg,⟨fun b o e n hb hx=>?_,fun b o e n hb hx=>?_,fun b o e n hx=>?_,fun b o e hx=>?_,fun b xs e=>tups b xs (I.base.tups b xs e),fun b o xs e=>frzs b o xs (I.base.frzs b o xs e),fun b ps e=>?_⟩,?_,fun x c e=>?_,?_,fun x c e=>?_,fun p hp=>?_,hok,I.len⟩
 ·exact keep b o (neL b o e) hb (neC b o e hx) (I.base.keep b o e n hb hx) (I.base.free b o e n hx)
 ·obtain⟨sl,e1⟩:=I.base.slot b o e n hb hx;obtain⟨sl',e2⟩:=slot b _ (neL b o e) hb (neC b o e hx) e1 (I.base.free b o e n hx);exact⟨sl',e2⟩
 ·obtain⟨o',e1⟩:=I.base.there b o e hx;exact free b o' (neC b o e hx) e1 (I.base.free b o e n hx)
 ·obtain⟨o',e1⟩:=I.base.there b o e hx;exact there b o' (neC b o e hx) e1
 ·obtain⟨m1,e1⟩:=I.base.tbls b ps e;obtain⟨m2,e2⟩:=tbls b _ e1;exact⟨m1 ++ m2,by rw[e2,xeq]⟩
 ·obtain⟨m,hn,hl⟩:=I.loc;refine⟨m,ns m hn,fun i x v e1 e2 e3=>?_⟩;obtain⟨u,r,l⟩:=hl i x v e1 e2 e3;refine⟨u,r,?_⟩;rcases l with l |⟨k,c,e,z⟩
  ·exact .inl l
  ·exact .inr ⟨k,c,e,cellK x c e _ z⟩
 ·obtain⟨v,z⟩:=I.cell x c e;exact⟨v,cellK x c e v z⟩
 ·obtain⟨m,⟨o,_,_,ho,_⟩,_⟩:=I.loc;exact free _ o (fun z=>(hch _ z).2.1 rfl) ho I.free
 ·obtain⟨v,o,ho,hd⟩:=I.cell x c e;rcases I.freeC x c e with fc |⟨fn,o',u',fc⟩
  ·exact .inl (free c o (fun z=>(hch c z).2.2.1 x c e rfl) ho fc)
  ·exact .inr ⟨fn,o',u',frzs c _ _ fc⟩
 ·obtain⟨e,n,ne,nf,d⟩:=I.pin p hp;have nch:p.1∉ch:=fun z=>(hch p.1 z).2.2.2 p hp rfl;exact⟨keep p.1 p.2 ne nf nch e n,free p.1 p.2 nch e n,ne,nf,d⟩
theorem Inv.un {t':Nat}(I:Inv X pins σ H s)(u:Un X.fs [] H H' s.heap h')(hok:cJ X.prog X.w H' h'):Inv X pins σ H' {s with heap:=h',toks:=t'}:=by
 obtain ⟨m, ⟨o, es, ep, ho, r⟩, _⟩ := id I.loc;obtain ⟨sl, hL⟩ := u.any ho I.free (by simp);exact I.step (g' := s.gens) (d' := s.drawn) (ch := []) (fun _ z => nomatch z) (fun b o _ hb _ e n => u.keep b o e n hb (by simp)) (fun b o _ hb _ e n => u.slot b o e n hb (by simp)) (fun b o _ e n => u.free b o e n (by simp)) (fun b o _ e => u.there b o e (by simp)) u.tups u.frzs u.tbls (fun m' hm=>by
  obtain⟨o',es',ep',ho',r'⟩:=hm;rw[ho]at ho';cases ho';exact⟨_,es',ep',hL,r'⟩) hok I.bare
theorem Inv.call {g':Array GenState}{t':Nat}{d':Drawn}{ch:List Addr}(I:Inv X pins σ H s)(u:Un (frs X.stack) ch H H' s.heap h')(hok:cJ X.prog X.w H' h')(hg:AllBare g')
  (hch:∀b∈ch,(b∈X.ex\/X.s₀.heap.objs.size<=b)/\b≠X.env.locals/\(∀x c,X.env.cells.lookup x=some c->c≠b)/\∀p∈X.pn ++ pins,p.1≠b):
  Inv X pins σ H' {s with heap:=h',gens:=g',drawn:=d',toks:=t'}:=by
 obtain ⟨m, ⟨o, es, ep, ho, r⟩, _⟩ := id I.loc;obtain ⟨sl, hL⟩ := u.any ho I.free fun z => (hch _ z).2.1 rfl;exact I.step (ch := ch) hch (fun b o hL hb hc e n => u.keep b o e n (fun z => (xar.mp (I.stkSub b z)).elim hL hb) hc) (fun b o _ _ hc e n => u.any e n hc) (fun b o hc e n => u.free b o e n hc) (fun b o hc e => u.there b o e hc) u.tups u.frzs u.tbls (fun m' hm=>by
  obtain⟨o',es',ep',ho',r'⟩:=hm;rw[ho]at ho';cases ho';exact⟨_,es',ep',hL,r'⟩) hok hg
theorem Inv.turned {t':Nat}{it:Addr}(I:Inv X pins σ H s)(k:∀b o,b≠it->s.heap.get? b=some o->h'.get? b=some o)(hn:H it=none)(hL:it≠X.env.locals)
  (h1:it∈X.ex\/X.s₀.heap.objs.size<=it) (h2:∀x c,X.env.cells.lookup x=some c->c≠it) (h3:∀p∈X.pn ++ pins,p.1≠it):Inv X pins σ H {s with heap:=h',toks:=t'}:=by
 have nit:∀b u,H b=some u->b≠it:=fun b u e z=>by rw[z,hn]at e;cases e
 refine I.step (g':=s.gens) (d':=s.drawn) (ch:=[it]) (fun b hb=>?_) (fun b o _ _ hc e _=>k b o (fun z=>hc (by simp[z])) e) (fun b o _ _ hc e _=>⟨o.slots,k b o (fun z=>hc (by simp[z])) e⟩) (fun _ _ _ _ n=>n)
  (fun b o hc e=>⟨o,k b o (fun z=>hc (by simp[z])) e⟩) (fun _ _ e=>e) (fun _ _ _ e=>e) (fun b ps e=>⟨#[],by rw[e];simp⟩) (fun m hm=>?_) (fun b u e=>?_) I.bare
 ·have e:b=it:=by simpa using hb
  subst e;exact⟨h1,hL,h2,h3⟩
 ·obtain⟨o,es,ep,ho,r⟩:=hm;exact⟨o,es,ep,k _ o (xbR hL) ho,r⟩
 ·refine(I.hok b u e).stay (fun c v hc q=>k c v ?_ q) (fun _ q=>q) fun _ _ q=>q;rcases hc with z |z
  ·rw[z];exact nit b u e
  ·exact nit c _ z
theorem Inv.tok (I:Inv X pins σ H s)(t:Nat):Inv X pins σ H {s with toks:=t}:=I.un (h':=s.heap) (t':=t) Un.refl I.hok
theorem Inv.kept (I:Inv X pins σ H s)(k:∀b u,s.heap.get? b=some u->h'.get? b=some u):Inv X pins σ H {s with heap:=h',toks:=t'}:=I.un (Un.kept k) (I.hok.kept k)
theorem Inv.laid (I:Inv X pins σ H s)(k:∀b u,s.heap.get? b=some u->h'.get? b=some u)(hp:s.heap.objs.size<=a)(new:eG X.prog X.w (upd H a o) h' a o):
  Inv X pins σ (upd H a o) {s with heap:=h',toks:=t'}:=I.un (Un.laid k hp (I.hok.fresh hp)) (I.hok.laid k hp new)
theorem Inv.write (I:Inv X pins σ H s)(mu:Ae (H x))(he:e=x\/H e=some (.own x))(k:∀b u,b≠e->s.heap.get? b=some u->h'.get? b=some u)(heo:∃u,h'.get? e=some u)
  (new:eG X.prog X.w (upd H x o) h' x o):Inv X pins σ (upd H x o) {s with heap:=h',toks:=t'}:=I.un (Un.write mu he k heo) (I.hok.write mu he k heo new)
theorem Inv.pins_of (I:Inv X pins σ H s)(h:∀p∈pins',s.heap.get? p.1=some p.2/\H p.1=none/\p.1≠X.env.locals/\p.1∉X.fs/\∀v,p.2.data≠ .cell v):Inv X pins' σ H s:=
 ⟨I.ok,I.os,I.bare,I.base,I.loc,I.cell,I.free,I.freeC,fun p hp=>(xaJ.mp hp).elim (fun z=>I.pin p (xde _ z)) (h p),I.hok,I.len⟩
theorem Oi {N:List Str}(hN:N.Nodup){i j:Nat}{x:Str}(a:N[i]? =some x)(b:N[j]? =some x):i=j:=by
 obtain⟨h1,e1⟩:=xaz.mp a;obtain⟨h2,e2⟩:=xaz.mp b;exact(List.getElem_inj hN).mp (e1.trans e2.symm)
theorem zaz {M:Model}{A:Around}{E:Value->Shared->Prop}{i:Nat}{x:Str}{v:V}{u:Value}{Q:Unit->Shared->Prop}(I:Inv X pins σ H s)(hN:X.N.Nodup)(hi:X.N[i]? =some x)(hx:Loc X.env.scope x)(r:RelV v u)
    (h:∀s',Inv X pins (σ.set i (some v)) H s'->(∃a,Heap.SameBut a s.heap s'.heap/\(a=X.env.locals\/X.env.cells.lookup x=some a))->Q () s') (hf:X.fn x=true\/X.env.scope.names.lookup x=some .local:=by first |exact .inl rfl |exact .inr rfl |assumption):wpAny M A (storeName X.env x u) Q E s:=by
  obtain⟨m,hn,hl⟩:=id I.loc;have hcls:(X.env.scope.kind==.class || (X.env.scope.kind==.module && X.env.locals !=X.env.globals))=false:=by rw[I.ok.kind];rfl
  have hiσ:i<σ.length:=by rw[I.len];exact(xaz.mp hi).1
  have cne:=I.cne;have tracked:∀{a:Addr} {h':Heap},(∃o,s.heap.get? a=some o/\H a=none)->Heap.SameBut a s.heap h'->cJ X.prog X.w H h':=fun {a h'} ha hs b ob e=>by
    obtain⟨_,_,hfree⟩:=ha;refine(I.hok b ob e).stay (fun c w' hc q=>(hs.2 c ?_).trans q) (fun _ q=>q) fun _ _ q=>q;rintro rfl;rcases hc with rfl |hc
    · rw[hfree]at e;cases e
    · rw[hfree]at hc;cases hc
  rcases hx with hk |hk
  · refine wpAny_storeName_local hk hn (fun h' hn' hs=>?_) hcls;obtain⟨oL,_,_,hoL,_⟩:=id hn;refine h _ ⟨I.ok,I.os,I.bare,⟨fun b o e n hb hx=>?_,fun b o e n hb hx=>?_,I.base.free,fun b o e hx=>?_,I.base.tups,I.base.frzs,I.base.tbls⟩,⟨_,hn',fun j y v' e1 e2 e3=>?_⟩,fun y c e=>?_,I.free,I.freeC,fun p hp=>?_,tracked ⟨oL,hoL,I.free⟩ hs,by simpa using I.len⟩ ⟨_,hs,.inl rfl⟩
    · exact(hs.2 b (xaC (xap (xan e) I.ok.above))).trans (I.base.keep b o e n hb hx)
    · obtain⟨sl,e1⟩:=I.base.slot b o e n hb hx;exact⟨sl,(hs.2 b (xaC (xap (xan e) I.ok.above))).trans e1⟩
    · obtain⟨o',e1⟩:=I.base.there b o e hx;exact⟨o',(hs.2 b (xaC (xap (xan e) I.ok.above))).trans e1⟩
    · by_cases hj:j=i
      · subst hj;rw[hi]at e1;cases e1;rw[xcV hiσ]at e2;cases e2;exact⟨u,r,.inl ⟨hk,by simp⟩⟩
      · rw[xdf (xbR hj)]at e2;obtain⟨u',r',q⟩:=hl j y v' e1 e2 e3;refine⟨u',r',?_⟩;rcases q with⟨k,e⟩ |⟨k,c,e,z⟩
        · refine .inl ⟨k,?_⟩;have:y≠x:=fun e=>hj (Oi hN e1 (e ▸ hi))
          simp[this,e]
        · exact .inr ⟨k,c,e,z.sameBut hs (cne y c e)⟩
    · obtain⟨w',z⟩:=I.cell y c e;exact⟨w',z.sameBut hs (cne y c e)⟩
    · obtain⟨e,n,ne,nf,d⟩:=I.pin p hp;exact⟨(hs.2 p.1 ne).trans e,n,ne,nf,d⟩
  · have hfn:X.fn x=true:=by
      rcases hf with z |z
      · exact z
      · rw[z]at hk;cases hk
    obtain⟨c,hc⟩:=I.ok.has x (.inl hk);obtain⟨w',z⟩:=I.cell x c hc;refine wpAny_storeName_cell I.ok.kind hk hc z (fun h' hc' hs=>?_);obtain⟨oc,hoc,hocd⟩:=id z;refine h {s with heap:=h'} ⟨I.ok,I.os,I.bare,⟨fun b o e n hb hx=>?_,fun b o e n hb hx=>?_,I.base.free,fun b o e hx=>?_,I.base.tups,I.base.frzs,I.base.tbls⟩,⟨m,hn.sameBut hs (xbR (cne x c hc)),fun j y v' e1 e2 e3=>?_⟩,fun y c' e=>?_,I.free,I.freeC,fun p hp=>?_,tracked ⟨oc,hoc,(I.freeC x c hc).resolve_right fun z=>by rw[z.1]at hfn;cases hfn⟩ hs,by simpa using I.len⟩ ⟨c,hs,.inr hc⟩
    · exact(hs.2 b (xaC (xap (xan e) (I.ok.cab x c hfn hc)))).trans (I.base.keep b o e n hb hx)
    · obtain⟨sl,e1⟩:=I.base.slot b o e n hb hx;exact⟨sl,(hs.2 b (xaC (xap (xan e) (I.ok.cab x c hfn hc)))).trans e1⟩
    · obtain⟨o',e1⟩:=I.base.there b o e hx;exact⟨o',(hs.2 b (xaC (xap (xan e) (I.ok.cab x c hfn hc)))).trans e1⟩
    · by_cases hj:j=i
      · subst hj;rw[hi]at e1;cases e1;rw[xcV hiσ]at e2;cases e2;exact⟨u,r,.inr ⟨.inl hk,c,hc,hc'⟩⟩
      · rw[xdf (xbR hj)]at e2;obtain⟨u',r',q⟩:=hl j y v' e1 e2 e3;refine⟨u',r',?_⟩;rcases q with q |⟨k,c',e,z'⟩
        · exact .inl q
        · refine .inr ⟨k,c',e,z'.sameBut hs ?_⟩;rintro rfl;exact hj (Oi hN e1 (I.ok.inj _ _ _ e hc ▸ hi))
    · by_cases hcc:c'=c
      · subst hcc;exact⟨_,hc'⟩
      · obtain⟨w2,z2⟩:=I.cell y c' e;exact⟨w2,z2.sameBut hs hcc⟩
    · obtain⟨e,n,ne,nf,d⟩:=I.pin p hp;refine⟨(hs.2 p.1 ?_).trans e,n,ne,nf,d⟩;intro q;rw[q,hoc]at e;have q':oc=p.2:=xaD e;exact d w' (by rw[<-q'];exact hocd)
theorem Jr (I:Inv X pins σ H s)(hN:X.N.Nodup)(hi:X.N[i]? =some x)(hx:Loc X.env.scope x)(r:RelV v u)
  (h:∀s',Inv X pins (σ.set i (some v)) H s'->Q () s') (hf:X.fn x=true\/X.env.scope.names.lookup x=some .local:=by first |exact .inl rfl |exact .inr rfl |assumption):wpAny M A (storeName X.env x u) Q E s:=
 zaz I hN hi hx r (fun s' I' _=>h s' I') hf
theorem Inv.call' (I:Inv X pins σ H s)(ho:s'.os=s.os)(u:Un (frs X.stack) ch H H' s.heap s'.heap)(hok:cJ X.prog X.w H' s'.heap)(hg:AllBare s'.gens)
  (hch:∀b∈ch,(b∈X.ex\/X.s₀.heap.objs.size<=b)/\b≠X.env.locals/\(∀x c,X.env.cells.lookup x=some c->c≠b)/\∀p∈X.pn ++ pins,p.1≠b):Inv X pins σ H' s':=by
 obtain⟨h',g',d',t',o'⟩:=s';have e:o'=s.os:=ho;subst e;exact I.call (g':=g') (t':=t') (d':=d') u hok hg hch
end
abbrev XK:=Value->Option Addr->Hp->Prop
abbrev St:=List (Option V)
abbrev VK:=V->Hp->Prop
abbrev TE:=St->Hp->VK->Prop
abbrev TT:=St->Hp->(Bool->Hp->Prop)->Prop
abbrev TA:=St->Hp->(List V->Hp->Prop)->Prop
structure Ends where
 nx:St->Hp->Prop
 rt:VK
 bk:St->Hp->Prop:=fun _ _=>False
 ct:St->Hp->Prop:=fun _ _=>False
abbrev TS:=Ends->St->Hp->Prop
def EP (X:Cx)(pins:Pnx)(σ:St)(Q:VK)(u:Value)(s':Shared):Prop:=∃v H',Inv X pins σ H' s'/\RelV v u/\Q v H'
def TP (X:Cx)(pins:Pnx)(σ:St)(Q:Bool->Hp->Prop)(b:Bool)(s':Shared):Prop:=∃H',Inv X pins σ H' s'/\Q b H'
def AP (X:Cx)(pins:Pnx)(σ:St)(Q:List V->Hp->Prop)(us:List Value)(s':Shared):Prop:=∃vs H',Inv X pins σ H' s'/\Vals vs us/\Q vs H'
def SP (X:Cx)(pins:Pnx)(D:Ends)(f:Flow)(s':Shared):Prop:=
 match f with
 |.next=>∃σ' H',Inv X pins σ' H' s'/\D.nx σ' H'
 |.brk=>∃σ' H',Inv X pins σ' H' s'/\D.bk σ' H'
 |.cont=>∃σ' H',Inv X pins σ' H' s'/\D.ct σ' H'
 |.ret u=>∃v σ' H',Inv X pins σ' H' s'/\RelV v u/\D.rt v H'
def PE (X:Cx)(e:Expr)(t:TE):Prop:=
 ∀(pins:Pnx) (s:Shared) (σ:St) (H:Hp) (Q:VK),Inv X pins σ H s->t σ H Q->wpAny (model X.prog X.w) X.A (eval e X.env) (EP X pins σ Q) X.xe s
def PT (X:Cx)(e:Expr)(t:TT):Prop:=
 ∀(pins:Pnx) (s:Shared) (σ:St) (H:Hp) (Q:Bool->Hp->Prop),Inv X pins σ H s->t σ H Q->wpAny (model X.prog X.w) X.A (isTrue e X.env (eval e X.env)) (TP X pins σ Q) X.xe s
def PW (X:Cx)(e:Expr)(t:TT):Prop:=
 ∀(whole:Sem Value) (pins:Pnx) (s:Shared) (σ:St) (H:Hp) (Q:Bool->Hp->Prop),Inv X pins σ H s->t σ H Q->wpAny (model X.prog X.w) X.A (isTrue e X.env whole) (TP X pins σ Q) X.xe s
theorem PW.pt (h:PW X e t):PT X e t:=h _
def PA (X:Cx)(es:List Expr)(t:TA):Prop:=
 ∀(pos:Pos) (pins:Pnx) (s:Shared) (σ:St) (H:Hp) (Q:List V->Hp->Prop),Inv X pins σ H s->t σ H Q->wpAny (model X.prog X.w) X.A (spliced (backTo pos (starEach es X.env))) (AP X pins σ Q) X.xe s
def PS (X:Cx)(st:Stmt)(t:TS):Prop:=
 ∀(pins:Pnx) (s:Shared) (σ:St) (H:Hp) (D:Ends),Inv X pins σ H s->t D σ H->wpAny (model X.prog X.w) X.A (exec st X.env) (SP X pins D) X.xe s
def gF (X:Cx)(st:List Stmt)(t:TS):Prop:=
 ∀(pins:Pnx) (s:Shared) (σ:St) (H:Hp) (D:Ends),Inv X pins σ H s->t D σ H->wpAny (model X.prog X.w) X.A (execs st X.env) (SP X pins D) X.xe s
theorem aY (h:wpAny M A t Q E s)(hQ:∀a s,Q a s->Q' a s):wpAny M A t Q' E s:=xbd h hQ fun _ _ x=>x
section
variable {X:Cx}
def JK (i:Nat):TE:=fun σ H Q=>∃v,σ[i]? =some (some v)/\Q v H
def tC (v:V):TE:=fun _ H Q=>Q v H
theorem HF (hN:X.N[i]? =some x)(hv:wC X.env.scope x)(hd:(x==("__debug__":Str))=false:=by decide)(hcd:(x==("__classdict__":Str))=false:=by decide):PE X (.Name x pos) (JK i):=by
 intro pins s σ H Q I h;obtain⟨v,e,h⟩:=h;obtain⟨m,hn,hl⟩:=I.loc;obtain⟨u,r,l⟩:=hl i x v hN e hv;have fin:EP X pins σ Q u s:=⟨v,H,I,r,h⟩;rcases l with⟨hk,hm⟩ |⟨hk,c,hc,hcell⟩
 ·exact wpAny_Name (wpAny_loadName_local I.ok.kind hk hn hm fin) hd
 ·rcases hk with hk |hk
  ·exact wpAny_Name (wpAny_loadName_cell I.ok.kind hk hc hcell fin) hd
  ·exact wpAny_Name (wpAny_loadName_free I.ok.kind hk hc hcell fin hcd) hd
theorem X_ {i j pos}:PE X (.Constant (.int i) j pos) (tC (.int i)):=fun _ _ _ H _ I h=>wpAny_Constant_int ⟨.int i,H,I.tok _,⟨_,rfl⟩,h⟩
theorem XR {b j pos}:PE X (.Constant (.bool b) j pos) (tC (.bl b)):=fun _ _ _ H _ I h=>Constant_bool ⟨.bl b,H,I,rfl,h⟩
theorem Yj {x j pos}:PE X (.Constant (.str x) j pos) (tC (.str x)):=fun _ _ _ H _ I h=>Calls.Constant_str ⟨.str x,H,I.tok _,⟨_,rfl⟩,h⟩
def Gl (X:Cx)(x:Str):Prop:=X.env.kindOf x=some .globalImplicit
theorem Bw (I:Inv X pins σ H s)(hg:Gl X x)(hm:X.mg x=some u)(h:Q u s)
  (hd:(x==("__debug__":Str))=false:=by decide):wpAny (model X.prog X.w) X.A (eval (.Name x pos) X.env) Q E s:=
 xdF I.ok.kind hg (Calls.loadGlobal_global (by rw[I.ok.glob];exact I.mod.glob.keeps I.bk) hm h) hd
theorem Bv (I:Inv X pins σ H s)(hg:Gl X x)(hm:X.mg x=none)(hv:bootBuiltins x=some u)(h:Q u s)
  (hn:x≠"__name__":=by decide) (hd:(x==("__debug__":Str))=false:=by decide):wpAny (model X.prog X.w) X.A (eval (.Name x pos) X.env) Q E s:=by
 obtain⟨mb,h1,h2⟩:=I.mod.blt;exact xdF I.ok.kind hg (Calls.loadGlobal_builtin (by rw[I.ok.glob];exact I.mod.glob.keeps I.bk) hm (by rw[I.ok.blt];exact h1.keeps I.bk) ((h2 x hn).trans hv) h) hd
theorem Cy (hg:Gl X x)(hm:X.mg x=some u)(r:RelV v u)(hd:(x==("__debug__":Str))=false:=by decide):PE X (.Name x pos) (tC v):=
 fun _ _ _ H _ I h=>Bw I hg hm ⟨v,H,I,r,h⟩ hd
theorem XS (hg:Gl X x)(hm:X.mg x=none)(hv:bootBuiltins x=some u)(r:RelV v u)(hn:x≠"__name__":=by decide)(hd:(x==("__debug__":Str))=false:=by decide):PE X (.Name x pos) (tC v):=
 fun _ _ _ H _ I h=>Bv I hg hm hv ⟨v,H,I,r,h⟩ hn hd
variable {a b:Expr}{ta tb:TE}{pos:Pos}
variable {tA tB':TT}{rest:List Expr}
noncomputable def Jv (t u:TT):TT:=fun σ H Q=>t σ H fun c H1=>if c=true then u σ H1 Q else Q false H1
noncomputable def tOr (t u:TT):TT:=fun σ H Q=>t σ H fun c H1=>if c=true then Q true H1 else u σ H1 Q
def JD (t:TT):TT:=fun σ H Q=>t σ H fun c H1=>Q (!c) H1
theorem Y4 (ha:PT X a tA):PW X (.BoolOp .And [a] pos) tA:=by
 intro wh pins s σ H Q I h;refine isTrue_and (aY (ha pins s σ H Q I h) fun c s1 e=>?_)
 cases c with
 |true=>exact isTrue_and_nil e
 |false=>exact e
theorem Y6 (ha:PT X a tA):PW X (.BoolOp .Or [a] pos) tA:=by
 intro wh pins s σ H Q I h;refine isTrue_or (aY (ha pins s σ H Q I h) fun c s1 e=>?_)
 cases c with
 |false=>exact isTrue_or_nil e
 |true=>exact e
theorem Y0 (ha:PT X a tA)(hb:PW X (.BoolOp .And (b::rest) pos) tB'):PW X (.BoolOp .And (a::b::rest) pos) (Jv tA tB'):=by
 intro wh pins s σ H Q I h;refine isTrue_and (aY (ha pins s σ H _ I h) fun c s1 ⟨H1,I1,q1⟩=>?_)
 cases c with
 |true=>exact hb wh pins s1 σ H1 Q I1 q1
 |false=>exact⟨H1,I1,q1⟩
theorem Y5 (ha:PT X a tA)(hb:PW X (.BoolOp .Or (b::rest) pos) tB'):PW X (.BoolOp .Or (a::b::rest) pos) (tOr tA tB'):=by
 intro wh pins s σ H Q I h;refine isTrue_or (aY (ha pins s σ H _ I h) fun c s1 ⟨H1,I1,q1⟩=>?_)
 cases c with
 |true=>exact⟨H1,I1,q1⟩
 |false=>exact hb wh pins s1 σ H1 Q I1 q1
theorem YL (ha:PT X a tA):PT X (.UnaryOp .Not a pos) (JD tA):=by
 intro pins s σ H Q I h;exact isTrue_not (ha pins s σ H (fun c H1=>Q (!c) H1) I h)
noncomputable def zdb (ta tb:TE):TE:=fun σ H Q=>ta σ H fun x H1=>∃c,x=.bl c/\if c=true then tb σ H1 Q else Q (.bl false) H1
theorem Yi {op}(h:PE X a t):PE X (.BoolOp op [a] pos) t:=fun pins s σ H Q I hw=>BoolOp_one (h pins s σ H Q I hw)
theorem XM (ha:PE X a ta)(hb:PE X (.BoolOp .And (b::rest) pos) tb):PE X (.BoolOp .And (a::b::rest) pos) (zdb ta tb):=by
 intro pins s σ H Q I h;refine BoolOp_and (aY (ha pins s σ H _ I h) fun v s1 ⟨x,H1,I1,r1,q1⟩=>?_);obtain⟨c,rfl,q1⟩:=q1;cases r1;refine xcP ?_
 cases c with
 |true=>exact hb pins s1 σ H1 Q I1 q1
 |false=>exact⟨.bl false,H1,I1,rfl,q1⟩
noncomputable def tIf (t:TT) (ta tb:TE):TE:=fun σ H Q=>t σ H fun c H1=>if c=true then ta σ H1 Q else tb σ H1 Q
theorem X8 (hc:PT X c tA)(ha:PE X a ta)(hb:PE X b tb):PE X (.IfExp c a b pos) (tIf tA ta tb):=by
 intro pins s σ H Q I h;refine wpAny_IfExp (aY (hc pins s σ H _ I h) fun d s1 ⟨H1,I1,q1⟩=>?_)
 cases d with
 |true=>exact ha pins s1 σ H1 Q I1 q1
 |false=>exact hb pins s1 σ H1 Q I1 q1
end
def bI (K:Fgx)(H:Hp)(a:Addr)(xs:List V):Prop:=
 Rd H a (.lst xs)\/
  ∃(o:Obj) (its:Array Value) (n:Nat),K.lookup a=some o/\o.cls=.type "list"/\o.dict=none/\o.data=.seq its n/\its.size<=sizeLine/\Vals xs its.toList
def d7 (K:Fgx)(H:Hp)(a:Addr)(xs:List V):Prop:=
 Rd H a (.tup xs)\/
  ∃(o:Obj) (its:Array Value) (n:Nat),K.lookup a=some o/\o.cls=.type "tuple"/\o.data=.seq its n/\its.size<=sizeLine/\Vals xs its.toList
noncomputable def Et:Value->Option V
 |.none=>some .non
 |.bool b=>some (.bl b)
 |.int i _=>some (.int i)
 |.str x _=>some (.str x)
 |.bytes b _=>some (.byt b)
 |.float b _=>some (.flt b)
 |.ref a=>some (.ref a)
 |.type n=>some (.ty n)
 |_=>none
theorem RelV.abs (r:RelV x u):Et u=some x:=by
 cases x with
 |non=>cases r;rfl
 |bl _=>cases r;rfl
 |int _=>obtain⟨t,rfl⟩:=r;rfl
 |str _=>obtain⟨t,rfl⟩:=r;rfl
 |byt _=>obtain⟨t,rfl⟩:=r;rfl
 |flt _=>obtain⟨t,rfl⟩:=r;rfl
 |ref _=>cases r;rfl
 |ty _=>cases r;rfl
theorem RelV.inj (r:RelV x u)(q:RelV y u):x=y:=xaD (r.abs.symm.trans q.abs)
theorem Vals.inj:∀{xs ys:List V} {us:List Value},Vals xs us->Vals ys us->xs=ys
 |_,_,_,.nil,.nil=>rfl
 |_,_,_,.cons r t,.cons r' t'=>by rw[r.inj r',Vals.inj t t']
section
variable {X:Cx}{pins:Pnx}{σ:St}{H:Hp}{s:Shared}{a:Addr}{xs ys:List V}
theorem Inv.list (I:Inv X pins σ H s)(h:bI X.K H a xs):∃its:List Value,Vals xs its/\PlainL s.heap a its.toArray/\xs.length<=sizeLine:=by
 rcases h with h |⟨o,its,n,hk,hc,hd,hs,hz,r⟩
 ·obtain⟨z,its,n,r,e⟩:=h.ok I.hok;exact⟨its,r,⟨_,n,e,rfl,rfl,rfl⟩,z⟩
 ·refine⟨its.toList,r,⟨o,n,I.kIn a o hk,hc,hd,by simpa using hs⟩,?_⟩;have e:=r.length;simp only[xai]at e;lia
theorem Inv.tuple (I:Inv X pins σ H s)(h:d7 X.K H a xs):∃its:List Value,Vals xs its/\IsTup s.heap a its.toArray/\xs.length<=sizeLine:=by
 rcases h with h |⟨o,its,n,hk,hc,hs,hz,r⟩
 ·obtain⟨z,its,r,p⟩:=h.ok I.hok;exact⟨its,r,p,z⟩
 ·refine⟨its.toList,r,⟨o,I.kIn a o hk,hc,n,by simpa using hs⟩,?_⟩;have e:=r.length;simp only[xai]at e;lia
theorem Inv.list_inj (I:Inv X pins σ H s)(h:bI X.K H a xs)(h':bI X.K H a ys):xs=ys:=by
 obtain⟨its,r,⟨o,n,e,_,_,d⟩,_⟩:=I.list h;obtain⟨its',r',⟨o',n',e',_,_,d'⟩,_⟩:=I.list h';rw[e]at e';cases e';rw[d]at d'
 injection d' with d1 _
 have:its=its':=by simpa using congrArg Array.toList d1
 subst this;exact r.inj r'
theorem Inv.tuple_inj (I:Inv X pins σ H s)(h:d7 X.K H a xs)(h':d7 X.K H a ys):xs=ys:=by
 obtain⟨its,r,⟨o,e,_,n,d⟩,_⟩:=I.tuple h;obtain⟨its',r',⟨o',e',_,n',d'⟩,_⟩:=I.tuple h';rw[e]at e';cases e';rw[d]at d'
 injection d' with d1 _
 have:its=its':=by simpa using congrArg Array.toList d1
 subst this;exact r.inj r'
end
abbrev Cx.wish (X:Cx)(E:Value->Shared->Prop):Cx:={X with xe:=E}
abbrev Cx.nox (X:Cx):Cx:=X.wish fun _ _=>False
theorem Cx.Ok.wish {X:Cx}(ok:X.Ok)(E:Value->Shared->Prop):(X.wish E).Ok:=
 ⟨ok.mod,ok.kind,ok.glob,ok.blt,ok.above,ok.inj,ok.has,ok.cab,ok.hd,ok.frames,ok.stk,ok.exf,ok.bs,ok.bsz,ok.noex,ok.exfs,ok.funs,ok.frf⟩
theorem Cx.Ok.unwish {X:Cx}{E:Value->Shared->Prop}(ok:(X.wish E).Ok):X.Ok:=
 ⟨ok.mod,ok.kind,ok.glob,ok.blt,ok.above,ok.inj,ok.has,ok.cab,ok.hd,ok.frames,ok.stk,ok.exf,ok.bs,ok.bsz,ok.noex,ok.exfs,ok.funs,ok.frf⟩
section
variable {X:Cx}{pins:Pnx}{σ:St}{H:Hp}{s:Shared}{E:Value->Shared->Prop}
theorem Inv.wish (I:Inv X pins σ H s)(E:Value->Shared->Prop):Inv (X.wish E) pins σ H s:=⟨I.ok.wish E,I.os,I.bare,I.base,I.loc,I.cell,I.free,I.freeC,I.pin,I.hok,I.len⟩
theorem Inv.unwish (I:Inv (X.wish E) pins σ H s):Inv X pins σ H s:=⟨I.ok.unwish,I.os,I.bare,I.base,I.loc,I.cell,I.free,I.freeC,I.pin,I.hok,I.len⟩
theorem SP.unwish (h:SP (X.wish E) pins D f s'):SP X pins D f s':=by
 cases f with
 |next=>obtain⟨σ',H',I,q⟩:=h;exact⟨σ',H',I.unwish,q⟩
 |brk=>obtain⟨σ',H',I,q⟩:=h;exact⟨σ',H',I.unwish,q⟩
 |cont=>obtain⟨σ',H',I,q⟩:=h;exact⟨σ',H',I.unwish,q⟩
 |ret u=>obtain⟨v,σ',H',I,r,q⟩:=h;exact⟨v,σ',H',I.unwish,r,q⟩
theorem gF.nox {st:List Stmt}{t:TS}(h:gF X.nox st t):gF X st t:=fun pins s σ H D I hw=>
 xbd (h pins s σ H D (I.wish _) hw) (fun _ _ q=>q.unwish) fun _ _ z=>False.elim z
end
section
variable {X:Cx}{st:Stmt}{rest:List Stmt}{t u:TS}{e:Expr}{te:TE}{pos:Pos}
def zdd:TS:=fun D σ H=>D.nx σ H
def JG (t u:TS):TS:=fun D σ H=>t {D with nx:=u D} σ H
theorem YJ:gF X [] zdd:=fun _ _ σ H _ I h=>wpAny_execs_nil ⟨σ,H,I,h⟩
theorem YH (h1:PS X st t)(h2:gF X rest u):gF X (st::rest) (JG t u):=by
  intro pins s σ H D I h;refine wpAny_execs_cons (aY (h1 pins s σ H {D with nx:=u D} I h) fun f s1 q=>?_)
  cases f with
  |next=>
    obtain⟨σ',H',I',q⟩:=q;exact h2 pins s1 σ' H' D I' q
  |ret v=>exact q
  |brk=>exact q
  |cont=>exact q
theorem Inv.quiet (I:Inv X pins σ H s):interactive X.env=false:=by simp[interactive,I.ok.kind]
def zcG (te:TE):TS:=fun D σ H=>te σ H fun _ H1=>D.nx σ H1
theorem HJ (he:PE X e te)(hs:swapsWith e none pos.line X.env=pure false:=by rfl):PS X (.Expr e pos) (zcG te):=by
 intro pins s σ H D I h;exact wpAny_Expr_any (aY (he pins s σ H _ I h) fun v s1 ⟨x,H1,I1,r1,q1⟩=>⟨σ,H1,I1,q1⟩) I.quiet hs
def JF (te:TE):TS:=fun D σ H=>te σ H D.rt
theorem YF (he:PE X e te):PS X (.Return (some e) pos) (JF te):=by
 intro pins s σ H D I h;exact wpAny_Return_some (aY (he pins s σ H _ I h) fun v s1 ⟨x,H1,I1,r1,q1⟩=>⟨x,σ,H1,I1,r1,q1⟩)
noncomputable def JB (c:TT) (t u:TS):TS:=fun D σ H=>c σ H fun b H1=>if b=true then t D σ H1 else u D σ H1
theorem YD (hc:PT X c tc)(ha:gF X a t)(hb:gF X b u):PS X (.If c a b pos) (JB tc t u):=by
 intro pins s σ H D I h;refine wpAny_If (aY (hc pins s σ H _ I h) fun d s1 ⟨H1,I1,q1⟩=>?_)
 cases d with
 |true=>exact ha pins s1 σ H1 D I1 q1
 |false=>exact hb pins s1 σ H1 D I1 q1
end
abbrev TG:=V->St->Hp->(St->Hp->Prop)->Prop
abbrev xY:=List V->St->Hp->(St->Hp->Prop)->Prop
def PG (X:Cx)(target:Expr)(t:TG):Prop:=
 ∀(pins:Pnx) (s:Shared) (σ:St) (H:Hp) (v:V) (u:Value) (Q:St->Hp->Prop),Inv X pins σ H s->RelV v u->t v σ H Q->
  wpAny (model X.prog X.w) X.A (assign target X.env u) (fun _ s'=>∃σ' H',Inv X pins σ' H' s'/\Q σ' H') X.xe s
def xW (X:Cx)(ts:List Expr)(t:xY):Prop:=
 ∀(pins:Pnx) (s:Shared) (σ:St) (H:Hp) (vs:List V) (us:List Value) (Q:St->Hp->Prop),Inv X pins σ H s->Vals vs us->t vs σ H Q->
  wpAny (model X.prog X.w) X.A (assignInOrder ((assignEach ts X.env).map (·.2)) us) (fun _ s'=>∃σ' H',Inv X pins σ' H' s'/\Q σ' H') X.xe s
abbrev xZ:=V->V->V->Hp->(Hp->Prop)->Prop
def xX (X:Cx)(t:xZ):Prop:=
 ∀(pins:Pnx) (s:Shared) (σ:St) (H:Hp) (o i v:V) (ov iv u:Value) (Q:Hp->Prop),Inv X pins σ H s->RelV o ov->RelV i iv->RelV v u->t o i v H Q->
  wpAny (model X.prog X.w) X.A (setItem ov iv u) (fun _ s'=>∃H',Inv X pins σ H' s'/\Q H') X.xe s
section
variable {X:Cx}{pos:Pos}
def wH (i:Nat):TG:=fun v σ H Q=>Q (σ.set i (some v)) H
theorem zA (hN:X.N.Nodup)(hi:X.N[i]? =some x)(hx:Loc X.env.scope x)(hf:X.fn x=true\/X.env.scope.names.lookup x=some .local:=by first |exact .inl rfl |exact .inr rfl |assumption):PG X (.Name x pos) (wH i):=by
 intro pins s σ H v u Q I r h;exact wpAny_assign_Name (Jr I hN hi hx r (fun s' I'=>⟨_,H,I',h⟩) hf)
def Gq:xY:=fun vs σ H Q=>vs=[]/\Q σ H
noncomputable def UJ (t:TG) (u:xY):xY:=fun vs σ H Q=>∃v r,vs=v::r/\t v σ H fun σ' H'=>u r σ' H' Q
theorem Yq:xW X [] Gq:=by
 intro pins s σ H vs us Q I r h;obtain⟨e,h⟩:=h;subst e;cases r;exact assignInOrder_nil ⟨σ,H,I,h⟩
theorem Yp (h1:PG X e t)(h2:xW X es u)
    (hs:(assignEach (e::es) X.env).map (·.2)=assign e X.env::(assignEach es X.env).map (·.2):=by rfl):xW X (e::es) (UJ t u):=by
  intro pins s σ H vs us Q I r h;obtain⟨v,vr,e1,h⟩:=h;subst e1
  cases r with
  |cons r rr=>
    rw[hs];refine assignInOrder_cons (aY (h1 pins s σ H _ _ _ I r h) fun _ s1 ⟨σ1,H1,I1,q1⟩=>?_);exact h2 pins s1 σ1 H1 _ _ Q I1 rr q1
noncomputable def Gu (K:Fgx) (n:Nat) (t:xY):TG:=fun v σ H Q=>∃a xs,v=.ref a/\d7 K H a xs/\xs.length=n/\t xs σ H Q
theorem O1 (hc:X.calm=true)(h:xW X es t)
  (hn:(assignEach es X.env).length=n:=by rfl) (hst:(assignEach es X.env).findIdx? (·.1)=none:=by rfl):PG X (.Tuple es k pos) (Gu X.K n t):=by
 intro pins s σ H v u Q I r hw;obtain⟨a,xs,e1,hq,hl,hw⟩:=hw;subst e1;cases r;obtain⟨its,rv,ht,hz⟩:=I.tuple hq;refine assign_Tuple_tuple (I.ok.hd hc) ht (by simp[hn, <-hl,rv.length]) hst fun h' hx=>?_;have I1:Inv X pins σ H {s with heap:=h'}:=I.kept (t':=s.toks) fun b o e=>hx b o (xaC (xan e)) e;exact h pins _ σ H xs _ Q I1 (by simpa using rv) hw
noncomputable def Gs (to ti:TE) (t:xZ):TG:=fun v σ H Q=>to σ H fun o H1=>ti σ H1 fun i H2=>t o i v H2 fun H3=>Q σ H3
theorem Yo (ho:PE X o to)(hi:PE X i ti)(hs:xX X t)
  (ha : ∀ v, assign (.Subscript o i pos) X.env v = (do
   let ov <-holding [v] (eval o X.env)
   let iv <-holding [v,ov] (eval i X.env)
   standAt pos
   holding [v,ov,iv] (setItem ov iv v)
   release [v,ov,iv] []):=by intro _;rfl):PG X (.Subscript o i pos) (Gs to ti t):=by
 intro pins s σ H v u Q I r h;rw[ha];refine xaa (xbh (aY (ho pins s σ H _ I h) fun ov s1 ⟨x,H1,I1,r1,q1⟩=>?_));refine xaa (xbh (aY (hi pins s1 σ H1 _ I1 q1) fun iv s2 ⟨y,H2,I2,r2,q2⟩=>?_));refine xaa (xem (xaa (xbh (aY (hs pins s2 σ H2 x y v ov iv u _ I2 r1 r2 r q2) fun _ s3 ⟨H3,I3,q3⟩=>?_))));exact wpAny_release ⟨σ,H3,I3,q3⟩
noncomputable def zY (te:TE) (g:TG):TS:=fun D σ H=>te σ H fun x H1=>g x σ H1 D.nx
theorem Yz (he:PE X e te)(hg:PG X tg g)(hs:swapsWithSole [tg] e pos.line X.env=pure false:=by rfl)(hw:swappedStores [tg] e X.env=pure none:=by rfl)
  (h1:(assignEach [tg] X.env).map (·.2)=[assign tg X.env]:=by rfl):PS X (.Assign [tg] e pos) (zY te g):=by
 intro pins s σ H D I h;refine wpAny_Assign_stores (aY (he pins s σ H _ I h) fun v s1 ⟨x,H1,I1,r1,q1⟩=>?_) hs hw;rw[h1];exact aY (hg pins s1 σ H1 x v _ I1 r1 q1) fun _ s2 q=>q
theorem O6 (hN:X.N.Nodup)(hi:X.N[i]? =some x)(hx:Loc X.env.scope x)(he:PE X e te)(hs:swapsWith e (some (.Name x pos')) pos.line X.env=pure false:=by rfl)(hf:X.fn x=true\/X.env.scope.names.lookup x=some .local:=by first |exact .inl rfl |exact .inr rfl |assumption):
  PS X (.Assign [.Name x pos'] e pos) (zY te (wH i)):=by
 intro pins s σ H D I h;refine wpAny_Assign_Name (aY (he pins s σ H _ I h) fun v s1 ⟨y,H1,I1,r1,q1⟩=>?_) hs;exact Jr I1 hN hi hx r1 (fun s2 I2=>⟨_,H1,I2,q1⟩) hf
end
structure It where
 go:Nat->Hp->Prop
 yld:Nat->Hp->V->Hp->Prop
 stop:Nat->Hp->Prop
def eN (X:Cx)(pins:Pnx)(H:Hp)(b:Addr):Prop:=
 H b=none/\b≠X.env.locals/\b∉X.fs/\(b∈X.ex\/X.s₀.heap.objs.size<=b)/\(∀x c,X.env.cells.lookup x=some c->c≠b)/\∀p∈X.pn ++ pins,p.1≠b
theorem Inv.fpOk (I:Inv X pins σ H s)(hb:s.heap.objs.size<=b)(hn:H' b=none):eN X pins H' b:=by
 refine⟨hn,xcb (xap I.lt hb),I.nofs hb,.inr (xaq I.sz hb),fun x c e z=>?_,fun p hp z=>?_⟩
 ·obtain⟨v,q⟩:=I.cell x c e;exact absurd (xap q.lt (by rw[z];exact hb)) (xck _)
 ·exact absurd (xap (xan (I.pin p hp).1) (by rw[z];exact hb)) (xck _)
structure Turn (P:Program)(w:World)(K:Fgx)(tg:Expr)(J:It)(fp:List Addr)(it:Addr)(tn:Nat->Heap->Prop):Prop where
 mem:it∈fp
 obj:∀i h,tn i h->∀b∈fp,∃o,h.get? b=some o/\∀v,o.data≠ .cell v
 keep:∀i h h',tn i h->(∀b∈fp,∀o,h.get? b=some o->h'.get? b=some o)->tn i h'
 item:∀(X:Cx),X.prog=P->X.w=w->X.K=K->X.calm=true->∀(i:Nat) (pins:Pnx) (s:Shared) (σ:St) (H:Hp) (E:Value->Shared->Prop),Inv X pins σ H s->(∀b∈fp,eN X pins H b)->tn i s.heap->J.go i H->
  wpAny (model P w) X.A (pyNext (.ref it)) (fun r s1=>∃u,r=some u/\
   wpAny (model P w) X.A (letOwnedTupleGo tg (.ref it) u) (fun _ s2=>∃x H',Inv X pins σ H' s2/\RelV x u/\J.yld i H x H'/\tn (i + 1) s2.heap/\∀b∈fp,H' b=none) E s1) E s
 done:∀(X:Cx),X.prog=P->X.w=w->X.K=K->X.calm=true->∀(i:Nat) (pins:Pnx) (s:Shared) (σ:St) (H:Hp) (E:Value->Shared->Prop),Inv X pins σ H s->(∀b∈fp,eN X pins H b)->tn i s.heap->J.stop i H->
  wpAny (model P w) X.A (pyNext (.ref it)) (fun r s1=>r=none/\Inv X pins σ H s1) E s
 self:∀(A:Around) (i:Nat) (s:Shared) (Q:Value->Shared->Prop) (E:Value->Shared->Prop),tn i s.heap->Q (.ref it) s->wpAny (model P w) A (pyIter (.ref it)) Q E s
abbrev TI:=St->Hp->(It->Hp->Prop)->Prop
def PIE (X:Cx)(pins:Pnx)(σ:St)(tg:Expr)(R:It->Hp->Prop)(itv:Value)(s2:Shared):Prop:=
 ∃(it:Addr) (fp:List Addr) (tn:Nat->Heap->Prop) (J:It) (H':Hp),itv=.ref it/\Inv X pins σ H' s2/\Turn X.prog X.w X.K tg J fp it tn/\tn 0 s2.heap/\(∀b∈fp,eN X pins H' b)/\R J H'
def PI (X:Cx)(tg iter:Expr)(wi:TI):Prop:=
 ∀(pins:Pnx) (s:Shared) (σ:St) (H:Hp) (R:It->Hp->Prop),Inv X pins σ H s->wi σ H R->
  wpAny (model X.prog X.w) X.A (eval iter X.env) (fun v s1=>wpAny (model X.prog X.w) X.A (pyIter v) (PIE X pins σ tg R) X.xe s1) X.xe s
theorem yI {M:Model}{A:Around}{E:Value->Shared->Prop}{s:Shared}{tg:Expr}{it:Addr}{u:Value}{o:Obj}{n:String}{vs:Array Value}{Q:Unit->Shared->Prop}(ho:s.heap.get? it=some o)(hc:o.cls=.type n)(hd:o.data=.fields vs)
    (hn:["enumerate","zip","dict_itemiterator","dict_reverseitemiterator","odict_iterator","itertools.zip_longest","itertools.pairwise"].contains n=false) (hQ:Q () s):wpAny M A (letOwnedTupleGo tg (.ref it) u) Q E s:=by
  unfold letOwnedTupleGo;cases tg<;>first
    |exact xab hQ
    | (cases u<;>first
        |exact xab hQ
        | (refine xaa (xef ho ?_)
           rw[hc,hd];show wpAny M A (if (["enumerate","zip","dict_itemiterator","dict_reverseitemiterator","odict_iterator","itertools.zip_longest","itertools.pairwise"].contains n && vs[0]? ==some (rawInt _))=true then _ else _) Q E s
           rw[xae (by intro h;rw[hn,xcL]at h;cases h)];exact xab hQ))
noncomputable def xV (K:Fgx) (a:Addr):It:=
 ⟨fun i H=>∃xs x,bI K H a xs/\xs[i]? =some x,fun i H x H'=>H'=H/\∀xs,bI K H a xs->xs[i]? =some x,fun i H=>∃xs,bI K H a xs/\xs.length<=i⟩
noncomputable def Ac (lo:Int) (n:Nat):It:=⟨fun i _=>i<n,fun i H x H'=>H'=H/\x=.int (lo + i),fun i _=>n<=i⟩
theorem zaK {P:Program}{w:World}{K:Fgx}{tg:Expr}(a it:Addr):Turn P w K tg (xV K a) [it] it (fun i h=>h.IsListIter it a i) where
 mem:=by simp
 obj:=fun i h st b hb=>by
  have e:b=it:=by simpa using hb
  subst e;obtain⟨o,e,c,d⟩:=st;exact⟨o,e,fun v z=>by rw[d]at z;cases z⟩
 keep:=fun i h h' st k=>st.at fun o e=>k it (by simp) o e
 item:=by
  intro X hP hw hK hc i pins s σ H E I hf st hg;subst hP hw hK;obtain⟨xs,x,hq,hx⟩:=hg;obtain⟨its,rv,p,hz⟩:=I.list hq;obtain⟨u,hu,ru⟩:=rv.get hx;obtain⟨f0,f1,f2,f3,f4,f5⟩:=hf it (by simp);refine wpAny_pyNext_list_item st p.isList (x:=u) (by simpa using hu) fun h' st' sb=>?_;have I1:Inv X pins σ H {s with heap:=h'}:=I.turned (t':=s.toks) (fun b o hb e=>(sb.2 b hb).trans e) f0 f1 f3 f4 f5;obtain⟨o,e,c,d⟩:=id st';exact⟨u,rfl,yI (s:={s with heap:=h'}) e c d (by decide) ⟨x,H,I1,ru,⟨rfl,fun ys hy=>by rw[I.list_inj hy hq];exact hx⟩,st',fun b hb=>(hf b hb).1⟩⟩
 done:=by
  intro X hP hw hK hc i pins s σ H E I hf st hg;subst hP hw hK;obtain⟨xs,hq,hx⟩:=hg;obtain⟨its,rv,p,hz⟩:=I.list hq;obtain⟨f0,f1,f2,f3,f4,f5⟩:=hf it (by simp);have hl:=rv.length;exact wpAny_pyNext_list_end (I.ok.hd hc) st p.isList (by simp;lia) fun h' eb=>⟨rfl,I.turned (t':=s.toks) (fun b o hb e=>eb b o hb e) f0 f1 f3 f4 f5⟩
 self:=fun _ _ _ _ _ st h=>wpAny_pyIter_listiter st h
theorem zav {P:Program}{w:World}{K:Fgx}{tg:Expr}(it:Addr)(lo:Int)(n:Nat):Turn P w K tg (Ac lo n) [it] it (fun i h=>IsRangeIter h it (lo + (i:Nat) * 1) ((n:Int) - (i:Nat)) 1) where
 mem:=by simp
 obj:=fun i h st b hb=>by
  have e:b=it:=by simpa using hb
  subst e;exact ⟨_,st,fun v z=>by
   have z':Data.fields _=Data.cell v:=z;cases z'⟩
 keep:=fun i h h' st k=>k it (by simp) _ st
 item:=by
  intro X hP hw hK hc i pins s σ H E I hf st hg;subst hP hw hK;obtain⟨f0,f1,f2,f3,f4,f5⟩:=hf it (by simp);have W:=Walks.range (prog:=X.prog) (w:=X.w) (I.ok.hd hc) it lo 1 n;refine W.item i s _ _ hg st fun v h' tk hv st' kk=>?_;obtain⟨t,rfl⟩:=hv;have I1:Inv X pins σ H {s with heap:=h',toks:=tk}:=I.turned (fun b o hb e=>kk b o (by simpa using hb) e) f0 f1 f3 f4 f5;refine⟨_,rfl,yI (s:={s with heap:=h',toks:=tk}) (n:="range_iterator") st' rfl rfl (by decide) ⟨.int (lo + i),H,I1,⟨t,?_⟩,⟨rfl,rfl⟩,st',fun b hb=>(hf b hb).1⟩⟩;rw[Int.mul_one]
 done:=by
  intro X hP hw hK hc i pins s σ H E I hf st hg;subst hP hw hK;obtain⟨f0,f1,f2,f3,f4,f5⟩:=hf it (by simp);exact wpAny_pyNext_range_end (I.ok.hd hc) st (by have:n<=i:=hg;lia) fun h' eb=>⟨rfl,I.turned (t':=s.toks) (fun b o hb e=>eb b o hb e) f0 f1 f3 f4 f5⟩
 self:=fun _ _ _ _ _ st h=>wpAny_pyIter_rangeiter st h
section
variable {X:Cx}{tg:Expr}
noncomputable def Mx (K:Fgx) (tl:TE):TI:=fun σ H R=>tl σ H fun x H1=>∃a,x=.ref a/\(∃xs,bI K H1 a xs)/\R (xV K a) H1
theorem Cz {l:Expr}{tl:TE}(hl:PE X l tl):PI X tg l (Mx X.K tl):=by
 intro pins s σ H R I h;refine aY (hl pins s σ H _ I h) fun v s1 ⟨x,H1,I1,r1,q1⟩=>?_;obtain⟨a,e,⟨xs,hq⟩,q⟩:=q1;subst e;cases r1;obtain⟨its,rv,p,hz⟩:=I1.list hq;refine wpAny_pyIter_list p.isList ?_;refine⟨s1.heap.objs.size,[s1.heap.objs.size],_,_,H1,rfl,I1.kept (t':=s1.toks) fun b o e=>xag _ e,zaK a _,⟨_,xav _ rfl,rfl,rfl⟩,fun b hb=>?_,q⟩;have e:b=s1.heap.objs.size:=by simpa using hb
 subst e;exact I1.fpOk (xad _) (I1.hok.fresh (xad _))
theorem zaO {pins:Pnx}{σ:St}{H:Hp}{s:Shared}{R:It->Hp->Prop}{E:Value->Shared->Prop}{lo hi:Int}{t u v:Tok}{tk:Nat}(I:Inv X pins σ H s)(h1: -(2 ^ 62)<=lo)(h2:lo<2 ^ 62)(h3: -(2 ^ 62)<=hi)(h4:hi<2 ^ 62)
  (q:R (Ac lo (hi - lo).toNat) H):wpAny (model X.prog X.w) X.A (pyIter (.ref s.heap.objs.size)) (PIE X pins σ tg R) E {s with heap:=s.heap.push {cls:=.type "range",data:=.fields #[.int lo t,.int hi u,.int 1 v]},toks:=tk}:=by
 refine wpAny_pyIter_range (IsRange.new ..) (small_one h1 h2 h3 h4) ?_;have I1 : Inv X pins σ H { s with heap := s.heap.push { cls := .type "range", data := .fields #[.int lo t, .int hi u, .int 1 v] }, toks := tk } := I.kept fun b o e => xag _ e;refine ⟨(s.heap.push {cls:=.type "range",data:=.fields #[.int lo t,.int hi u,.int 1 v]}).objs.size,[(s.heap.push {cls:=.type "range",data:=.fields #[.int lo t,.int hi u,.int 1 v]}).objs.size],_,_,H,rfl,
  I1.kept (t':=tk) fun b o e=>xag _ e,zav _ lo (hi - lo).toNat,?_,fun b hb=>?_,q⟩
 ·have e1:lo + ((0:Nat):Int) * 1=lo:=by simp
  have e2:(((hi - lo).toNat:Nat):Int) - ((0:Nat):Int)=Builtin.Range.rangeSize lo hi 1:=by rw[rangeSize_one];split<;>lia
  show IsRangeIter _ _ (lo + ((0:Nat):Int) * 1) ((((hi - lo).toNat:Nat):Int) - ((0:Nat):Int)) 1;rw[e1,e2];exact xav _ rfl
 ·have e:b=(s.heap.push {cls:=.type "range",data:=.fields #[.int lo t,.int hi u,.int 1 v]}).objs.size:=by simpa using hb
  subst e;exact I1.fpOk (xad _) (I1.hok.fresh (xad _))
noncomputable def wU (ta:TA):TI:=fun σ H R=>ta σ H fun vs H1=>∃j:Int,vs=[.int j]/\ -(2 ^ 62)<=j/\j<2 ^ 62/\R (Ac 0 j.toNat) H1
theorem Yr {a:Expr}{ta:TA}{p pos:Pos}(hg:Gl X "range")(hm:X.mg "range"=none)(ha:PA X [a] ta)(hs:starEach [a] X.env=[(false,eval a X.env)]:=by rfl):PI X tg (.Call (.Name "range" p) [a] [] pos) (wU ta):=by
  intro pins s σ H R I h;refine Call_ (Bv I hg hm boot_range (xdA (aY (ha pos pins s σ H _ I h) fun us s1 ⟨vs,H1,I1,r1,q1⟩=>?_) hs rfl));obtain⟨j,e,q1,q2,q⟩:=q1;subst e
  cases r1 with
  |cons r rr=>
    cases rr;obtain⟨t,rfl⟩:=r;exact call_range_1 (zaO I1 (by lia) (by lia) q1 q2 (by simpa using q))
noncomputable def Jz (wi:TI) (g:TG) (tb:TS):TS:=fun D σ H=>wi σ H fun J H1=>∃W:Nat->Nat->St->Hp->Prop,(∃m,W 0 m σ H1)/\∀i m σ H,W i m σ H->
 (J.stop i H/\D.nx σ H)\/(J.go i H/\∃N:St->Hp->Prop,(∀σ' H',N σ' H'->∃m',m'<m/\W (i + 1) m' σ' H')/\∀x H',J.yld i H x H'->g x σ H' fun σ2 H2=>tb {D with nx:=N,ct:=N,bk:=D.nx} σ2 H2)
noncomputable def zB (fp:List Addr) (h:Heap):Pnx:=fp.filterMap fun b=>(h.get? b).map fun o=>(b,o)
theorem BR (hb:b∈fp)(e:h.get? b=some o):(b,o)∈zB fp h:=xcE.mpr ⟨b,hb,by rw[e];rfl⟩
theorem W9 (hp:p∈zB fp h):p.1∈fp/\h.get? p.1=some p.2:=by
  obtain⟨b,hb,e⟩:=xcE.mp hp
  cases q:h.get? b with
  |none=>rw[q]at e;cases e
  |some o=>
    rw[q]at e;have e':(b,o)=p:=xaD e;subst e';exact⟨hb,q⟩
theorem Inv.pinned (I:Inv X pins σ H s)(hf:∀b∈fp,eN X pins H b)(ho:∀b∈fp,∃o,s.heap.get? b=some o/\∀v,o.data≠ .cell v):Inv X (pins ++ zB fp s.heap) σ H s:=
 I.pins_of fun p hp=>(xaJ.mp hp).elim (fun z=>I.pin p (xaK _ z)) fun z=>by
  obtain⟨hb,e⟩:=W9 z;obtain⟨f0,f1,f2,_⟩:=hf p.1 hb;obtain⟨o,e',d⟩:=ho p.1 hb;rw[e]at e';cases e';exact⟨e,f0,f1,f2,d⟩
theorem Inv.unpinned (I:Inv X (pins ++ pl) σ H s):Inv X pins σ H s:=I.pins_of fun p hp=>I.pin p (xaK _ (xde _ hp))
theorem CG (hp:PassesOwn (model X.prog X.w) X.A X.env X.xe)(hc:X.calm=true)(hi:PI X tg iter wi)(hg:PG X tg g)(hb:gF X body tb)
  (hs:∀x,foldedSetIterable iter X.env x=pure x:=by intro _;rfl):PS X (.For tg iter body [] pos) (Jz wi g tb):=by
 intro pins s σ H D I h;refine wpAny_For (aY (hi pins s σ H _ I h) fun v s1 h1=>aY h1 fun itv s2 h2=>?_) hs;obtain⟨it,fp,tn,J,H2,e,I2,T,st2,f2,W,⟨m0,w0⟩,turn⟩:=h2;subst e
 -- what stays true of the iterator's objects through the loop
 have stat:∀{H':Hp},(∀b∈fp,H' b=none)->∀b∈fp,eN X pins H' b:=fun hn b hb=>⟨hn b hb,(f2 b hb).2⟩;refine codeAny_forLoop_any (fun n s'=>∃i σ' H',Inv X pins σ' H' s'/\tn i s'.heap/\(∀b∈fp,H' b=none)/\W i n σ' H') ?_ m0 ⟨0,σ,H2,I2,st2,fun b hb=>(f2 b hb).1,w0⟩;rintro n s3 ⟨i,σ3,H3,I3,st3,fr3,w3⟩;rcases turn i n σ3 H3 w3 with⟨stop,qn⟩ |⟨go,N,hN,step⟩
 ·refine xcz hp (aY (T.done X rfl rfl rfl hc i pins s3 σ3 H3 X.xe I3 (stat fr3) st3 stop) fun r s4 ⟨hr,I4⟩=>?_);subst hr;exact wpAny_execs_nil ⟨σ3,H3,I4,qn⟩
 ·refine xcz hp (aY (T.item X rfl rfl rfl hc i pins s3 σ3 H3 X.xe I3 (stat fr3) st3 go) fun r s4 ⟨u,hr,h4⟩=>?_);subst hr;refine xcz hp (aY h4 fun _ s5 ⟨x,H5,I5,r5,y5,st5,fr5⟩=>?_);have I5':=I5.pinned (stat fr5) (T.obj _ _ st5);refine xcz hp (aY (hg _ s5 σ3 H5 x u _ I5' r5 (step x H5 y5)) fun _ s6 ⟨σ6,H6,I6,q6⟩=>?_);refine xcz hp (aY (hb _ s6 σ6 H6 _ I6 q6) fun f s7 q7=>?_);have again:∀{σ7:St} {H7:Hp},Inv X (pins ++ zB fp s5.heap) σ7 H7 s7->N σ7 H7->∃m,m<n/\∃i σ' H',Inv X pins σ' H' s7/\tn i s7.heap/\(∀b∈fp,H' b=none)/\W i m σ' H':=fun {σ7 H7} I7 n7=>by
   obtain⟨m',hm,w7⟩:=hN σ7 H7 n7;refine⟨m',hm,i + 1,σ7,H7,I7.unpinned,T.keep _ _ _ st5 fun b hb o e=>(I7.pin (b,o) (xaK _ (xaK _ (BR hb e)))).1,fun b hb=>?_,w7⟩;obtain⟨o,e,d⟩:=T.obj _ _ st5 b hb;exact(I7.pin (b,o) (xaK _ (xaK _ (BR hb e)))).2.1
  cases f with
  |next=>obtain⟨σ7,H7,I7,n7⟩:=q7;exact again I7 n7
  |cont=>obtain⟨σ7,H7,I7,n7⟩:=q7;exact again I7 n7
  |brk=>obtain⟨σ7,H7,I7,q7⟩:=q7;exact⟨σ7,H7,I7.unpinned,q7⟩
  |ret v=>obtain⟨x7,σ7,H7,I7,r7,q7⟩:=q7;exact⟨x7,σ7,H7,I7.unpinned,r7,q7⟩
end
abbrev R2:=V->V->Hp->VK->Prop
def bM (X:Cx)(f:Value->Value->Sem Value)(r:R2):Prop:=
 ∀(pins:Pnx) (s:Shared) (σ:St) (H:Hp) (x y:V) (v u:Value) (Q:VK),Inv X pins σ H s->RelV x v->RelV y u->r x y H Q->
  wpAny (model X.prog X.w) X.A (f v u) (EP X pins σ Q) X.xe s
def Af (X:Cx)(f:Value->Sem Value)(r:V->Hp->VK->Prop):Prop:=
 ∀(pins:Pnx) (s:Shared) (σ:St) (H:Hp) (x:V) (v:Value) (Q:VK),Inv X pins σ H s->RelV x v->r x H Q->
  wpAny (model X.prog X.w) X.A (f v) (EP X pins σ Q) X.xe s
def dz (X:Cx)(f:Value)(r:List V->Hp->VK->Prop):Prop:=
 ∀(pins:Pnx) (s:Shared) (σ:St) (H:Hp) (xs:List V) (us:List Value) (Q:VK),Inv X pins σ H s->Vals xs us->r xs H Q->
  wpAny (model X.prog X.w) X.A (call f us) (EP X pins σ Q) X.xe s
def Er (X:Cx)(r:V->Hp->(Bool->Hp->Prop)->Prop):Prop:=
 ∀(pins:Pnx) (s:Shared) (σ:St) (H:Hp) (x:V) (v:Value) (Q:Bool->Hp->Prop),Inv X pins σ H s->RelV x v->r x H Q->
  wpAny (model X.prog X.w) X.A (truthy v) (TP X pins σ Q) X.xe s
noncomputable def z7 (r:R2) (ta tb:TE):TE:=fun σ H Q=>ta σ H fun x H1=>tb σ H1 fun y H2=>r x y H2 Q
noncomputable def Rh (r:V->Hp->VK->Prop) (ta:TE):TE:=fun σ H Q=>ta σ H fun x H1=>r x H1 Q
noncomputable def rI (C:Int->Int->Prop) (g:Int->Int->V):R2:=fun x y H Q=>∃i j,x=.int i/\y=.int j/\C i j/\Q (g i j) H
noncomputable def gU (g:Int->Int->V):R2:=fun x y H Q=>∃i j,x=.int i/\y=.int j/\Q (g i j) H
def rU (g:Int->V):V->Hp->VK->Prop:=fun x H Q=>∃i,x=.int i/\Q (g i) H
section
variable {X:Cx}{a b c:Expr}{ta tb tc:TE}{pos:Pos}
theorem sX (ha:PE X a ta)(hb:PE X b tb){pins:Pnx}{s:Shared}{σ:St}{H:Hp}{R:V->V->Hp->Prop}(I:Inv X pins σ H s)
  (h:ta σ H fun x H1=>tb σ H1 fun y H2=>R x y H2) {Q:Value->Shared->Prop} {f:Value->Value->Sem Value}
  (hf:∀v u s2 x y H2,Inv X pins σ H2 s2->RelV x v->RelV y u->R x y H2->wpAny (model X.prog X.w) X.A (f v u) Q X.xe s2):
  wpAny (model X.prog X.w) X.A (eval a X.env) (fun v s₁=>wpAny (model X.prog X.w) X.A (eval b X.env) (fun u s₂=>wpAny (model X.prog X.w) X.A (f v u) Q X.xe s₂) X.xe s₁) X.xe s:=by
 refine aY (ha pins s σ H _ I h) fun v s1 ⟨x,H1,I1,r1,q1⟩=>?_;refine aY (hb pins s1 σ H1 _ I1 q1) fun u s2 ⟨y,H2,I2,r2,q2⟩=>?_;exact hf v u s2 x y H2 I2 r1 r2 q2
theorem OD {op:Operator}{r:R2}(ho:bM X (binaryOp op) r)(ha:PE X a ta)(hb:PE X b tb):PE X (.BinOp a op b pos) (z7 r ta tb):=by
 intro pins s σ H Q I h;exact wpAny_BinOp (sX ha hb I h fun v u s2 x y H2 I2 rx ry q=>ho pins s2 σ H2 x y v u Q I2 rx ry q)
theorem Ym (ho:Af X (unaryOp op) r)(ha:PE X a ta):PE X (.UnaryOp op a pos) (Rh r ta):=by
 intro pins s σ H Q I h;exact UnaryOp_ (aY (ha pins s σ H _ I h) fun v s1 ⟨x,H1,I1,r1,q1⟩=>ho pins s1 σ H1 x v Q I1 r1 q1)
theorem Cr {f:Value->Value->Sem Value}{C:Int->Int->Prop}{g:Int->Int->Int}
  (rule:∀(i j:Int) (t u:Tok) (s:Shared) (Q:Value->Shared->Prop) (E:Value->Shared->Prop),C i j->Q (.int (g i j) s.toks) {s with toks:=s.toks + 1}->wpAny (model X.prog X.w) X.A (f (.int i t) (.int j u)) Q E s):
  bM X f (rI C fun i j=>.int (g i j)):=by
 intro pins s σ H x y v u Q I rx ry h;obtain⟨i,j,rfl,rfl,hc,q⟩:=h;obtain⟨t,rfl⟩:=rx;obtain⟨t',rfl⟩:=ry;exact rule i j t t' s _ _ hc ⟨.int (g i j),H,I.tok _,⟨_,rfl⟩,q⟩
theorem zp {f:Value->Value->Sem Value}{g:Int->Int->Int}
  (rule:∀(i j:Int) (t u:Tok) (s:Shared) (Q:Value->Shared->Prop) (E:Value->Shared->Prop),Q (.int (g i j) s.toks) {s with toks:=s.toks + 1}->wpAny (model X.prog X.w) X.A (f (.int i t) (.int j u)) Q E s):
  bM X f (gU fun i j=>.int (g i j)):=by
 intro pins s σ H x y v u Q I rx ry h;obtain⟨i,j,rfl,rfl,q⟩:=h;obtain⟨t,rfl⟩:=rx;obtain⟨t',rfl⟩:=ry;exact rule i j t t' s _ _ ⟨.int (g i j),H,I.tok _,⟨_,rfl⟩,q⟩
theorem o_ {f:Value->Value->Sem Value}{g:Int->Int->Bool}
  (rule:∀(i j:Int) (t u:Tok) (s:Shared) (Q:Value->Shared->Prop) (E:Value->Shared->Prop),Q (.bool (g i j)) s->wpAny (model X.prog X.w) X.A (f (.int i t) (.int j u)) Q E s):
  bM X f (gU fun i j=>.bl (g i j)):=by
 intro pins s σ H x y v u Q I rx ry h;obtain⟨i,j,rfl,rfl,q⟩:=h;obtain⟨t,rfl⟩:=rx;obtain⟨t',rfl⟩:=ry;exact rule i j t t' s _ _ ⟨.bl (g i j),H,I,rfl,q⟩
def xT (i j:Int):Prop:=0<j/\j<1073741824
def sO (i j:Int):Prop:=0<=j/\j<=1000000/\i.natAbs<2 ^ 64
def m_ (i j:Int):Prop:=(-(2 ^ 64)<i/\i<2 ^ 64)\/(-(2 ^ 64)<j/\j<2 ^ 64)
theorem m_.ok (h:m_ i j):IntMulOk i j:=by
 rcases h with⟨h1,h2⟩ |⟨h1,h2⟩
 ·exact .of_left (intBits_le_64 h1 h2)
 ·exact .of_right (intBits_le_64 h1 h2)
theorem Xg:bM X (binaryOp .Add) (gU fun i j=>.int (i + j)):=zp fun _ _ _ _ _ _ _ q=>add_int q
theorem w6:bM X (binaryOp .Sub) (gU fun i j=>.int (i - j)):=zp fun _ _ _ _ _ _ _ q=>sub_int q
theorem w5:bM X (binaryOp .FloorDiv) (rI xT fun i j=>.int (i / j)):=Cr fun i j _ _ _ _ _ hc q=>by
 have h1:(0:Int)<j:=hc.1;have h2:j<1073741824:=hc.2;exact floordiv_int (by lia) (by rw[Int.fdiv_eq_ediv_of_nonneg i (by lia)];exact q) (.inl (PyProof.noPylong_small (by lia)))
theorem mO:bM X (binaryOp .Mod) (rI (fun _ j=>0<j) fun i j=>.int (i % j)):=Cr fun i j _ _ _ _ _ hc q=>by
 have h1:(0:Int)<j:=hc;exact mod_int' (by lia) (by rw[Int.fmod_eq_emod_of_nonneg i (by lia)];exact q)
theorem Cv:bM X (binaryOp .Pow) (rI sO fun i j=>.int (i ^ j.toNat)):=Cr fun _ _ _ _ _ _ _ hc q=>pow_int_small hc.1 hc.2.1 hc.2.2 q
theorem unI {f:Value->Sem Value}{g:Int->Int}
  (rule:∀(i:Int) (t:Tok) (s:Shared) (Q:Value->Shared->Prop) (E:Value->Shared->Prop),Q (.int (g i) s.toks) {s with toks:=s.toks + 1}->wpAny (model X.prog X.w) X.A (f (.int i t)) Q E s):
  Af X f (rU fun i=>.int (g i)):=by
 intro pins s σ H x v Q I rx h;obtain⟨i,rfl,q⟩:=h;obtain⟨t,rfl⟩:=rx;exact rule i t s _ _ ⟨.int (g i),H,I.tok _,⟨_,rfl⟩,q⟩
theorem vo:Af X (unaryOp .USub) (rU fun i=>.int (-i)):=unI fun _ _ _ _ _ q=>neg_int q
end
noncomputable def pI:V->V->Bool
 |.non,.non=>true |.non,.int _=>true |.int _,.non=>true |.non,.bl _=>true |.bl _,.non=>true |.non,.str _=>true |.str _,.non=>true
 |.int _,.int _=>true |.bl _,.bl _=>true |.str _,.str _=>true |.byt _,.byt _=>true
 |.int _,.str _=>true |.str _,.int _=>true |.bl _,.str _=>true |.str _,.bl _=>true
 |_,_=>false
def ZQ:R2:=fun x y H Q=>pI x y=true/\Q (.bl (decide (x=y))) H
def ZS:R2:=fun x y H Q=>pI x y=true/\Q (.bl (!decide (x=y))) H
theorem K8:decide (V.int i=V.int j)=(i==j):=by
 rw[xbz]
 simp
theorem Bd:decide (V.bl i=V.bl j)=(i==j):=by
 rw[xbz]
 simp
theorem K9:decide (V.str i=V.str j)=(i==j):=by
 rw[xbz]
 simp
theorem K7:decide (V.byt i=V.byt j)=(i.toList==j.toList):=by
 rw[xbz];cases i;cases j
 simp
section
variable {X:Cx}{a b c:Expr}{ta tb tc:TE}{pos:Pos}
theorem bB (I:Inv X pins σ H s)(q:Q (.bl k) H)(e:k=k'):EP X pins σ Q (.bool k') s:=by
 subst e;exact⟨.bl k,H,I,rfl,q⟩
theorem Xk:bM X (compareOp .Eq) ZQ:=by
  intro pins s σ H x y v u Q I rx ry h;obtain⟨hs,q⟩:=h
  cases x with
  |non=>
    cases rx
    cases y with
    |non=>cases ry;exact PySem.EqNone.eq_none_none (bB I q (by simp))
    |bl j=>cases ry;exact PySem.EqNone.eq_none_bool (bB I q (by simp))
    |int j=>obtain⟨t',rfl⟩:=ry;exact PySem.EqNone.eq_none_int (bB I q (by simp))
    |str j=>obtain⟨t',rfl⟩:=ry;exact PySem.EqNone.eq_none_str (bB I q (by simp))
    |_=>exact absurd (show false=true from hs) xaB
  |bl i=>
    cases rx
    cases y with
    |non=>cases ry;exact PySem.EqNone.eq_bool_none (bB I q (by simp))
    |bl j=>cases ry;exact eq_bool (bB I q Bd)
    |str j=>obtain⟨t',rfl⟩:=ry;exact PySem.EqMixed.eq_bool_str (bB I q (by simp))
    |_=>exact absurd (show false=true from hs) xaB
  |int i=>
    obtain⟨t,rfl⟩:=rx
    cases y with
    |non=>cases ry;exact PySem.EqNone.eq_int_none (bB I q (by simp))
    |int j=>obtain⟨t',rfl⟩:=ry;exact eq_int (bB I q K8)
    |str j=>obtain⟨t',rfl⟩:=ry;exact PySem.EqMixed.eq_int_str (bB I q (by simp))
    |_=>exact absurd (show false=true from hs) xaB
  |str i=>
    obtain⟨t,rfl⟩:=rx
    cases y with
    |non=>cases ry;exact PySem.EqNone.eq_str_none (bB I q (by simp))
    |bl j=>cases ry;exact PySem.EqMixed.eq_str_bool (bB I q (by simp))
    |int j=>obtain⟨t',rfl⟩:=ry;exact PySem.EqMixed.eq_str_int (bB I q (by simp))
    |str j=>obtain⟨t',rfl⟩:=ry;exact eq_str (bB I q K9)
    |_=>exact absurd (show false=true from hs) xaB
  |byt i=>
    obtain⟨t,rfl⟩:=rx
    cases y with
    |byt j=>obtain⟨t',rfl⟩:=ry;exact PySem.W.eq_bytes (bB I q K7)
    |_=>exact absurd (show false=true from hs) xaB
  |_=>cases y<;>exact absurd (show false=true from hs) xaB
theorem Xx:bM X (compareOp .NotEq) ZS:=by
  intro pins s σ H x y v u Q I rx ry h;obtain⟨hs,q⟩:=h
  cases x with
  |non=>
    cases rx
    cases y with
    |non=>cases ry;exact PySem.EqNone.ne_none_none (bB I q (by simp))
    |bl j=>cases ry;exact PySem.EqNone.ne_none_bool (bB I q (by simp))
    |int j=>obtain⟨t',rfl⟩:=ry;exact PySem.EqNone.ne_none_int (bB I q (by simp))
    |str j=>obtain⟨t',rfl⟩:=ry;exact PySem.EqNone.ne_none_str (bB I q (by simp))
    |_=>exact absurd (show false=true from hs) xaB
  |bl i=>
    cases rx
    cases y with
    |non=>cases ry;exact PySem.EqNone.ne_bool_none (bB I q (by simp))
    |bl j=>cases ry;exact ne_bool (bB I q (congrArg not Bd))
    |str j=>obtain⟨t',rfl⟩:=ry;exact PySem.EqMixed.ne_bool_str (bB I q (by simp))
    |_=>exact absurd (show false=true from hs) xaB
  |int i=>
    obtain⟨t,rfl⟩:=rx
    cases y with
    |non=>cases ry;exact PySem.EqNone.ne_int_none (bB I q (by simp))
    |int j=>obtain⟨t',rfl⟩:=ry;exact ne_int (bB I q (congrArg not K8))
    |str j=>obtain⟨t',rfl⟩:=ry;exact PySem.EqMixed.ne_int_str (bB I q (by simp))
    |_=>exact absurd (show false=true from hs) xaB
  |str i=>
    obtain⟨t,rfl⟩:=rx
    cases y with
    |non=>cases ry;exact PySem.EqNone.ne_str_none (bB I q (by simp))
    |bl j=>cases ry;exact PySem.EqMixed.ne_str_bool (bB I q (by simp))
    |int j=>obtain⟨t',rfl⟩:=ry;exact PySem.EqMixed.ne_str_int (bB I q (by simp))
    |str j=>obtain⟨t',rfl⟩:=ry;exact ne_str (bB I q (congrArg not K9))
    |_=>exact absurd (show false=true from hs) xaB
  |byt i=>
    obtain⟨t,rfl⟩:=rx
    cases y with
    |byt j=>obtain⟨t',rfl⟩:=ry;exact PySem.W.ne_bytes (bB I q (congrArg not K7))
    |_=>exact absurd (show false=true from hs) xaB
  |_=>cases y<;>exact absurd (show false=true from hs) xaB
theorem Xw:bM X (compareOp .Lt) (gU fun i j=>.bl (decide (i<j))):=o_ fun _ _ _ _ _ _ _ q=>lt_int q
theorem Xv:bM X (compareOp .LtE) (gU fun i j=>.bl (decide (i<=j))):=o_ fun _ _ _ _ _ _ _ q=>le_int q
theorem Xn:bM X (compareOp .Gt) (gU fun i j=>.bl (decide (j<i))):=o_ fun _ _ _ _ _ _ _ q=>gt_int q
theorem Xm:bM X (compareOp .GtE) (gU fun i j=>.bl (decide (j<=i))):=o_ fun _ _ _ _ _ _ _ q=>ge_int q
theorem Xp:bM X (compareOp .In) (fun x y H Q=>∃i j,x=.str i/\y=.str j/\Q (.bl (!(Builtin.Str.occurrences j i 0 j.length 1).isEmpty)) H):=by
 intro pins s σ H x y v u Q I rx ry h;obtain⟨i,j,rfl,rfl,q⟩:=h;obtain⟨t,rfl⟩:=rx;obtain⟨t',rfl⟩:=ry;exact in_str (bB I q rfl)
theorem Xr:bM X (compareOp .Is) (fun x y H Q=>y=.non/\Q (.bl (decide (x=.non))) H):=by
 intro pins s σ H x y v u Q I rx ry h;obtain⟨rfl,q⟩:=h;cases ry;refine is_none_gen (bB I q ?_);cases x<;>first
  |(cases rx;rfl)
  |(obtain⟨t,rfl⟩:=rx;rfl)
theorem XC:bM X (compareOp .IsNot) (fun x y H Q=>y=.non/\Q (.bl (!decide (x=.non))) H):=by
 intro pins s σ H x y v u Q I rx ry h;obtain⟨rfl,q⟩:=h;cases ry;refine isnot_none_gen (bB I q ?_);cases x<;>first
  |(cases rx;rfl)
  |(obtain⟨t,rfl⟩:=rx;rfl)
theorem XD:bM X (compareOp .NotIn) (fun x y H Q=>∃i j,x=.str i/\y=.str j/\Q (.bl (!(!(Builtin.Str.occurrences j i 0 j.length 1).isEmpty))) H):=by
 intro pins s σ H x y v u Q I rx ry h;obtain⟨i,j,rfl,rfl,q⟩:=h;obtain⟨t,rfl⟩:=rx;obtain⟨t',rfl⟩:=ry;exact notIn_str (bB I q rfl)
theorem bM.or (h:bM X f r)(h':bM X f r'):bM X f (fun x y H Q=>r x y H Q\/r' x y H Q):=by
 intro pins s σ H x y v u Q I rx ry q;rcases q with q |q
 ·exact h pins s σ H x y v u Q I rx ry q
 ·exact h' pins s σ H x y v u Q I rx ry q
theorem X5 {op:CmpOp}{r:R2}(ho:bM X (compareOp op) r)(ha:PE X a ta)(hb:PE X b tb)(hm:behindInMarks op b=false):PE X (.Compare a [op] [b] pos) (z7 r ta tb):=by
 intro pins s σ H Q I h;exact wpAny_Compare1 (sX ha hb I h fun v u s2 x y H2 I2 rx ry q=>ho pins s2 σ H2 x y v u Q I2 rx ry q) hm
noncomputable def Rg (t:TE):TT:=fun σ H Q=>t σ H fun x H'=>∃k,x=.bl k/\Q k H'
theorem YK (ho:bM X (compareOp op) r)(ha:PE X a ta)(hb:PE X b tb)(hm:behindInMarks op b=false):PT X (.Compare a [op] [b] pos) (Rg (z7 r ta tb)):=by
 intro pins s σ H Q I h;refine wpAny_isTrue_Compare1 (aY (ha pins s σ H _ I h) fun v s1 ⟨x,H1,I1,r1,q1⟩=>aY (hb pins s1 σ H1 _ I1 q1) fun u s2 ⟨y,H2,I2,r2,q2⟩=>
  aY (ho pins s2 σ H2 x y v u _ I2 r1 r2 q2) fun c s3 ⟨z,H3,I3,r3,k,e,q3⟩=>?_) hm
 subst e;cases r3;exact xcP ⟨H3,I3,q3⟩
noncomputable def Ra (r r':R2) (ta tb tc:TE):TE:=fun σ H Q=>ta σ H fun x H1=>tb σ H1 fun y H2=>r x y H2 fun z H3=>∃k,z=.bl k/\
 (if k=true then tc σ H3 fun w' H4=>r' y w' H4 Q else Q (.bl false) H3)
theorem X4 (ho:bM X (compareOp op) r)(ho':bM X (compareOp op') r')(ha:PE X a ta)(hb:PE X b tb)(hc:PE X c tc)
  (hm:lastMarks [op,op'] [b,c]=false:=by with_unfolding_all rfl):PE X (.Compare a [op,op'] [b,c] pos) (Ra r r' ta tb tc):=by
 intro pins s σ H Q I h;refine Compare_chain (aY (ha pins s σ H _ I h) fun v s1 ⟨x, H1, I1, r1, q1⟩ => chain_link (aY (hb pins s1 σ H1 _ I1 q1) fun u s2 ⟨y,H2,I2,r2,q2⟩=>
  aY (ho pins s2 σ H2 x y v u _ I2 r1 r2 q2) fun d s3 ⟨z,H3,I3,r3,k,e,q3⟩=>?_)) hm
 subst e;cases r3;refine xcP ?_
 cases k with
 |false=>exact ite_ff ⟨.bl false,H3,I3,rfl,q3⟩
 |true=>exact ite_tt (chain_last (aY (hc pins s3 σ H3 _ I3 q3) fun w' s4 ⟨z',H4,I4,r4,q4⟩=>ho' pins s4 σ H4 y z' u w' Q I4 r2 r4 q4))
def nj (K:Fgx)(x:V)(H:Hp)(k:Bool):Prop:=
 match x with
 |.non=>k=false
 |.bl b=>k=b
 |.int i=>k=(i !=0)
 |.str y=>y.length<=sizeLine/\k=((y.length:Int) !=0)
 |.byt y=>y.size<=sizeLine/\k=((y.size:Int) !=0)
 |.ref p=>(∃xs,bI K H p xs/\k= !xs.isEmpty)\/(∃xs,d7 K H p xs/\k= !xs.isEmpty)\/∃kvs,H p=some (.dK kvs)/\k= !kvs.isEmpty
 |_=>False
theorem Vg (r:KV kvs vs):(!vs.isEmpty)= !kvs.isEmpty:=by
 cases r<;>rfl
theorem MP (r:Vals xs its):(!its.toArray.isEmpty)= !xs.isEmpty:=by
 cases r<;>simp
theorem tU:(sizeLine:Nat)<2 ^ 63:=by rw[xaX];decide
theorem Ro:Er X (fun x H Q=>∃k,nj X.K x H k/\Q k H):=by
  intro pins s σ H x v Q I rx h;obtain⟨k,e,q⟩:=h;have hl:=tU;have hs:sizeLine=16777216:=xaX
  cases x with
  |non=>
    cases rx;have e':k=false:=e;subst e';exact truthy_none ⟨H,I,q⟩
  |bl b=>
    cases rx;have e':k=b:=e;subst e';exact xcP ⟨H,I,q⟩
  |int i=>
    obtain⟨t,rfl⟩:=rx;have e':k=(i !=0):=e;subst e';exact PySem.P.truthy_int ⟨H,I,q⟩
  |str y=>
    obtain⟨t,rfl⟩:=rx;obtain⟨hy,e'⟩:y.length<=sizeLine/\k=((y.length:Int) !=0):=e;subst e';exact PySem.P.truthy_str (by lia) ⟨H,I.tok _,q⟩
  |byt y=>
    obtain⟨t,rfl⟩:=rx;obtain⟨hy,e'⟩:y.size<=sizeLine/\k=((y.size:Int) !=0):=e;subst e';exact PySem.W.truthy_bytes (by lia) ⟨H,I.tok _,q⟩
  |ref p=>
    cases rx;have e':(∃xs,bI X.K H p xs/\k= !xs.isEmpty)\/(∃xs,d7 X.K H p xs/\k= !xs.isEmpty)\/∃kvs,H p=some (.dK kvs)/\k= !kvs.isEmpty:=e;rcases e' with⟨xs,hx,e'⟩ |⟨xs,hx,e'⟩ |⟨kvs,hx,e'⟩
    · subst e';obtain⟨its,r,pl,hz⟩:=I.list hx;have hlen:=r.length;exact wpAny_truthy_list pl.isList (by simp only[xam];lia) ⟨H,I.tok _,by rw[MP r];exact q⟩
    · subst e';obtain⟨its,r,pl,hz⟩:=I.tuple hx;have hlen:=r.length;exact truthy_tuple pl (by simp only[xam];lia) ⟨H,I.tok _,by rw[MP r];exact q⟩
    · subst e';obtain⟨hz,hS,vs,r,m⟩:kvs.length<=sizeLine/\(p==sysModules)=false/\∃vs,KV kvs vs/\s.heap.DictOf (G_ X.prog X.w) p vs:=I.hok p _ hx;have hlen:kvs.length=vs.length:=Paired.length r;exact wpAny_truthy_dict hS m (by lia) ⟨H,I.tok _,by rw[Vg r];exact q⟩
  |_=>exact(show False from e).elim
theorem YM (ha:PE X a ta)(he:∀whole,isTrue a X.env whole=(do let v <-whole;standAt a.pos;holding [v] (truthy v))):
  PT X a (fun σ H Q=>ta σ H fun x H'=>∃k,nj X.K x H' k/\Q k H'):=by
 intro pins s σ H Q I h;exact isTrue_plain (aY (ha pins s σ H _ I h) fun v s1 ⟨x,H1,I1,r1,q1⟩=>Ro pins s1 σ H1 x v Q I1 r1 q1) (he _)
theorem Xh:bM X (binaryOp .Add) (fun x y H Q=>∃i j,x=.str i/\y=.str j/\i.length + j.length<=sizeLine/\Q (.str (i ++ j)) H):=by
 intro pins s σ H x y v u Q I rx ry h;obtain⟨i,j,rfl,rfl,hz,q⟩:=h;obtain⟨t,rfl⟩:=rx;obtain⟨t',rfl⟩:=ry;exact add_str (fun t' tk=>⟨.str (i ++ j),H,I.tok _,⟨_,rfl⟩,q⟩) hz
theorem vals1 (r:Vals [x] us):∃u,us=[u]/\RelV x u:=by
 cases r with
 |cons r1 r2=>cases r2;exact⟨_,rfl,r1⟩
theorem vals2 (r:Vals [x,y] us):∃u w',us=[u,w']/\RelV x u/\RelV y w':=by
  cases r with
  |cons r1 r2=>
    cases r2 with
    |cons r3 r4=>cases r4;exact⟨_,_,rfl,r1,r3⟩
theorem Kr (hc:X.calm=true):dz X (.builtin "max") (fun xs H Q=>∃i j,xs=[.int i,.int j]/\Q (.int (if j > i then j else i)) H):=by
 intro pins s σ H xs us Q I r h;obtain⟨i,j,rfl,q⟩:=h;obtain⟨u,w',rfl,⟨t,rfl⟩,⟨t',rfl⟩⟩:=vals2 r;refine max_two_ints (I.ok.hd hc) fun h' tk k=>⟨_,H,I.kept k,?_,q⟩
 by_cases hj:j > i
 ·rw[xac hj,xac hj];exact⟨_,rfl⟩
 ·rw[xae hj,xae hj];exact⟨_,rfl⟩
theorem Fz (hc:X.calm=true):dz X (.builtin "min") (fun xs H Q=>∃i j,xs=[.int i,.int j]/\Q (.int (if j<i then j else i)) H):=by
 intro pins s σ H xs us Q I r h;obtain⟨i,j,rfl,q⟩:=h;obtain⟨u,w',rfl,⟨t,rfl⟩,⟨t',rfl⟩⟩:=vals2 r;refine min_two_ints (I.ok.hd hc) fun h' tk k=>⟨_,H,I.kept k,?_,q⟩
 by_cases hj:j<i
 ·rw[xac hj,xac hj];exact⟨_,rfl⟩
 ·rw[xae hj,xae hj];exact⟨_,rfl⟩
theorem Ti:dz X (.type "str") (fun xs H Q=>∃i,xs=[.int i]/\i.natAbs.log2<1920/\Q (.str (toString i)) H):=by
 intro pins s σ H xs us Q I r h;obtain⟨i,rfl,hz,q⟩:=h;obtain⟨u,rfl,t,rfl⟩:=vals1 r;exact PySem.P.str_of_int hz ⟨.str _,H,I.tok _,⟨_,rfl⟩,q⟩
end
structure ObjM (h:Heap)(x dx C:Addr)(mA:Mgx):Prop where
 obj:h.get? x=some (PySem.W.instObj C dx)
 ns:h.Ns1 dx mA
 ne:dx≠x
theorem VR {h:Heap}{dx:Addr}{mA:Mgx}(n:h.Ns1 dx mA):∃od,h.get? dx=some od/\∀name,PySem.W.lookIn name od=some (mA name):=by
 obtain⟨o,es,ep,ho,hd,hk,_,hm⟩:=n;refine⟨o,ho,fun name=>?_⟩;have e:=hm name;unfold nsFind findBy at e;rw[<-Array.find?_toList]at e;unfold PySem.W.lookIn;rw[hd];dsimp only
 split
 ·rename_i y q;rw[q]at e;exact congrArg some e
 ·rename_i q;rw[q]at e;have a:es.toList.any (·.refKey)=false:=by
   rw[List.any_eq_false];intro y hy;obtain⟨z,t,hkey⟩:=hk y (xa7.mp hy)
   simp[DictEntry.refKey,hkey]
  have a':¬ es.toList.any (·.refKey)=true:=by rw[a];exact xaB
  rw[xae a'];exact congrArg some e
theorem ObjM.look (I:ObjM h x dx C mA):∃od,PySem.W.InstAt h x (PySem.W.instObj C dx) C (some od)/\∀name,PySem.W.lookIn name od=some (mA name):=
 let ⟨od,ho,hl⟩:=VR I.ns
 ⟨od,⟨I.obj,rfl,rfl,ho⟩,hl⟩
section
variable {prog:Program}{w:World}{A:Around}{E:Value->Shared->Prop}{s:Shared}{K:Fgx}{x dx C f:Addr}{mA:Mgx}{name:Str}{v:Value}
theorem get_map (X:K.In s.heap)(I:ObjM s.heap x dx C mA)(hg:PySem.W.plainGet K C name=true)(hh:PySem.W.hasDictIn K C=true)
  (ha:PySem.W.findIn K (.ref C) name=some none) (hv:mA name=some v) (hv':PySem.W.handedIn v=true) (h:Q v {s with toks:=s.toks + 1}):
  wpAny (model prog w) A (getAttr (.ref x) name expr) Q E s:=by
 obtain⟨od,J,hl⟩:=I.look;exact PySem.W.get_value X J (xdq hg).1 (PySem.W.findObj_own hh ha rfl (by rw[hl,hv])) hv' h
theorem U0 (X:K.In s.heap)(I:ObjM s.heap x dx C mA)(hg:PySem.W.plainGet K C name=true)
  (hf:PySem.W.findIn K (.ref C) name=some (some (.ref f))) (ht:PySem.W.isFn K (.ref f)=true) (hv:mA name=none) (h:Q (.ref f,[.ref x]) s):
  wpAny (model prog w) A (getMethod (.ref x) name pl) Q E s:=by
 obtain⟨od,J,hl⟩:=I.look;exact PySem.W.method_fn X J (xdq hg).1 (xdq hg).2 hf (xbL.mp ht) (by show(PySem.W.lookIn name od).map (·.isSome)=some false;rw[hl,hv];rfl) h
theorem zbk (X:K.In s.heap)(I:ObjM s.heap x dx C mA)
  (hs:PySem.W.findIn K (.ref C) "__setattr__"=some (some (.builtin "object.__setattr__"))) (hp:PySem.W.plainOver K C=true) (ht:PySem.W.takerIn K C name=some none) (hh:PySem.W.hasDictIn K C=true)
  (hw:PySem.Within mA ns) (hsz:ns.length<=sizeLine)
  (h:∀h',ObjM h' x dx C (fun y=>if y=name then some v else mA y)->Heap.SameBut dx s.heap h'->Q () {s with heap:=h',toks:=s.toks + 2}):
  wpAny (model prog w) A (setAttr (.ref x) name v) Q E s:=by
 obtain⟨od,J,hl⟩:=I.look;refine PySem.W.set_plain X J hs (PySem.W.osa_open (s:={s with toks:=s.toks + 1}) (r:=none) X J hp ht fun b=>?_);obtain⟨cd,hc,hd'⟩:=PySem.W.any_some hh;have hx:s.heap.get? x=some ⟨.ref C,some dx,.plain, #[]⟩:=I.obj;refine xaa (xab (xaa (xaa (wpAny_loadPart hx (xaa (PySem.W.Looks.here (s:={s with toks:=s.toks + 1}) (PySem.W.looks_clsIn X hc) ?_))))));rw[hd'];refine xab (a:=some dx) (xaa (xab (xaa ?_)));refine wpAny_nsSet1 (s:={s with toks:=s.toks + 1}) I.ns fun h' hn2 hs2=>?_;obtain⟨oD,esD,epD,hoD,hdD,hcD⟩:=hn2.count (PySem.Within.cons name v hw);refine xaa (wpAny_lookBehind hoD (by rw[hdD];exact pastItsLine_dict (xaq hcD (by rw[xay];lia))) ?_);exact xab (h _ ⟨(hs2.2 _ (xbR I.ne)).trans I.obj,hn2,I.ne⟩ hs2)
theorem V8 (X:K.In s.heap)(hm:PySem.W.makesIn K C=true)
  (hi:PySem.W.findIn K (.ref C) "__init__"=some (some (.ref f))) (hf:PySem.W.typeIn K (.ref f)=some (.type "function"))
  (h:codeAny (model prog w) (A.under (.builtin "type.__call__" ⟨.ref C::vs,kw⟩)) (.call (.ref f) ⟨.ref (s.heap.objs.size + 1)::vs,kw⟩) (PySem.W.InitBack (s.heap.objs.size + 1) R)
   {s with heap:=(s.heap.push PySem.W.emptyDict).push (PySem.W.instObj C s.heap.objs.size)}):
  codeAny (model prog w) A (.call (.ref C) ⟨vs,kw⟩) R s:=by
 obtain⟨hh,g,d,t,os⟩:=s;exact PySem.W.make_core (PySem.W.makes_of X hm) (PySem.W.looks_findIn X hi) (fun self=>PySem.W.bind_fn X self hf) (.inl rfl) h
end
noncomputable def bC (f:Str) (v:V):List (Str×V)->List (Str×V)
 | []=>[(f,v)]
 |(g,x)::r=>if g=f then(g,v)::r else(g,x)::bC f v r
theorem Nz (f g:Str)(v:V):∀fs:List (Str×V),(bC f v fs).lookup g=if g=f then some v else fs.lookup g
  | []=>by
    show List.lookup g [(f,v)]=_
    by_cases h:g=f
    · have hb:(g==f)=true:=xbL.mpr h;simp only[List.lookup,hb,xac h]
    · have hb:(g==f)=false:=xbp.mpr h;simp only[List.lookup,hb,xae h]
  |(k,x)::r=>by
    have ih:=Nz f g v r;rw[show bC f v ((k,x)::r)=(if k=f then(k,v)::r else(k,x)::bC f v r) from rfl]
    by_cases hk:k=f
    · rw[xac hk]
      by_cases h:g=k
      · have hb:(g==k)=true:=xbL.mpr h;simp only[List.lookup,hb,xac (h.trans hk)]
      · have hb:(g==k)=false:=xbp.mpr h;simp only[List.lookup,hb,xae (fun e:g=f=>h (e.trans hk.symm))]
    · rw[xae hk]
      by_cases h:g=k
      · have hb:(g==k)=true:=xbL.mpr h;simp only[List.lookup,hb,xae (fun e:g=f=>hk (h.symm.trans e))]
      · have hb:(g==k)=false:=xbp.mpr h;simp only[List.lookup,hb];exact ih
theorem GZ (f:Str)(v:V):∀fs:List (Str×V),f∈(bC f v fs).map (·.1)/\∀g,g∈fs.map (·.1)->g∈(bC f v fs).map (·.1)
  | []=>⟨by simp[bC],fun g h=>by simp at h⟩
  |(k,x)::r=>by
    obtain⟨i1,i2⟩:=GZ f v r;rw[show bC f v ((k,x)::r)=(if k=f then(k,v)::r else(k,x)::bC f v r) from rfl]
    by_cases hk:k=f
    · rw[xac hk];subst hk;exact⟨by simp,fun g h=>by simpa using h⟩
    · rw[xae hk];refine⟨?_,fun g h=>?_⟩
      · rw[xaP];exact xal _ i1
      · rw[xaP]at h ⊢;rcases xar.mp h with e |e
        · exact xar.mpr (.inl e)
        · exact xal _ (i2 g e)
theorem Nu (f:Str)(v:V):∀fs:List (Str×V),(bC f v fs).length<=fs.length + 1
  | []=>by simp[bC]
  |(k,x)::r=>by
    have ih:=Nu f v r;rw[show bC f v ((k,x)::r)=(if k=f then(k,v)::r else(k,x)::bC f v r) from rfl]
    by_cases hk:k=f
    · rw[xac hk,xay,xay];lia
    · rw[xae hk,xay,xay];lia
theorem dZ.some_of (r:dZ (some v) o):∃u,o=some u/\RelV v u:=by
 cases o with
 |none=>exact(show False from r).elim
 |some u=>exact⟨u,rfl,r⟩
theorem dZ.none_of (r:dZ none o):o=none:=by
 cases o with
 |none=>rfl
 |some u=>exact(show False from r).elim
theorem U4 (r:RelV v u):PySem.W.handedIn u=true:=by
 cases v with
 |non=>cases (show u=Value.none from r);rfl
 |bl b=>cases (show u=Value.bool b from r);rfl
 |int i=>obtain⟨t,e⟩:=(show ∃t,u=Value.int i t from r);cases e;rfl
 |str x=>obtain⟨t,e⟩:=(show ∃t,u=Value.str x t from r);cases e;rfl
 |byt b=>obtain⟨t,e⟩:=(show ∃t,u=Value.bytes b t from r);cases e;rfl
 |flt b=>obtain⟨t,e⟩:=(show ∃t,u=Value.float b t from r);cases e;rfl
 |ref a=>cases (show u=Value.ref a from r);rfl
 |ty n=>cases (show u=Value.type n from r);rfl
section
variable {P:Program}{w:World}{H H':Hp}{h h':Heap}{a C dx:Addr}{fs fs':List (Str×V)}
theorem Bm (hok:cJ P w H h)(e:H a=some (.ins C dx fs)):∃mA,ObjM h a dx C mA/\(∀f,dZ (fs.lookup f) (mA f))/\PySem.Within mA (fs.map (·.1))/\fs.length<=1000/\H dx=some (.own a):=by
 obtain⟨d,z,ne,ob,mA,n,r,q⟩:=(show eG P w H h a (.ins C dx fs) from hok a _ e);exact⟨mA,⟨ob,n,ne⟩,r,q,z,d⟩
end
structure Cls (K:Fgx)(C:Addr):Prop where
 pg:PySem.W.plainGet K C Str.empty=true
 hd:PySem.W.hasDictIn K C=true
 po:PySem.W.plainOver K C=true
 sa:PySem.W.findIn K (.ref C) "__setattr__"=some (some (.builtin "object.__setattr__"))
theorem Cls.get {K:Fgx}{C:Addr}(c:Cls K C)(f:Str):PySem.W.plainGet K C f=true:=c.pg
def kZ (K:Fgx)(C:Addr)(f:Str):Prop:=PySem.W.findIn K (.ref C) f=some none
theorem kZ.taker {K:Fgx}{C:Addr}{f:Str}(n:kZ K C f):PySem.W.takerIn K C f=some none:=by
 unfold PySem.W.takerIn;rw[show PySem.W.findIn K (.ref C) f=some none from n];rfl
structure Con (K:Fgx)(C:Addr)(f:Str)(v:V)(u:Value):Prop where
 at_:PySem.W.findIn K (.ref C) f=some (some u)
 rel:RelV v u
 get:PySem.W.specialIn K u "__get__"=some none
 cp:PySem.W.copiedNames.contains f=false
structure Meth (K:Fgx)(C:Addr)(m:Str)(f:Addr):Prop where
 at_:PySem.W.findIn K (.ref C) m=some (some (.ref f))
 fn:PySem.W.isFn K (.ref f)=true
 kp:PySem.W.keepIn K (.ref f)=true
section
variable {X:Cx}{pins:Pnx}{σ:St}{H:Hp}{s:Shared}{a C dx:Addr}{fs:List (Str×V)}{f:Str}{v:V}{A:Around}{E:Value->Shared->Prop}
theorem U3 (I:Inv X pins σ H s)(e:H a=some (.ins C dx fs))(c:Cls X.K C)(n:kZ X.K C f)(l:fs.lookup f=some v)
  (h:∀u s',Inv X pins σ H s'->RelV v u->Q u s'):wpAny (model X.prog X.w) A (getAttr (.ref a) f b) Q E s:=by
 obtain⟨mA,O,r,_,_,_⟩:=Bm I.hok e;obtain⟨u,hu,ru⟩:=dZ.some_of (v:=v) (o:=mA f) (by rw[<-l];exact r f);exact get_map I.kIn O (c.get f) c.hd n hu (U4 ru) (h u _ (I.tok _) ru)
theorem Mu (I:Inv X pins σ H s)(e:H a=some (.ins C dx fs))(c:Cls X.K C)(k:Meth X.K C m g)(l:fs.lookup m=none)
  (h:Q (.ref g,[.ref a]) s):wpAny (model X.prog X.w) A (getMethod (.ref a) m pl) Q E s:=by
 obtain⟨mA,O,r,_,_,_⟩:=Bm I.hok e;have hn:mA m=none:=dZ.none_of (by rw[<-l];exact r m);exact U0 I.kIn O (c.get m) k.at_ k.fn hn h
theorem zau (I:Inv X pins σ H s)(e:H a=some (.ins C dx fs))(c:Cls X.K C)(n:kZ X.K C f)(hl:fs.length<1000)(ry:RelV y u)
  (h:∀s',Inv X pins σ (upd H a (.ins C dx (bC f y fs))) s'->Q () s'):wpAny (model X.prog X.w) A (setAttr (.ref a) f u) Q E s:=by
 obtain⟨mA,O,r,wi,_,ho⟩:=Bm I.hok e;have hz:(fs.map (·.1)).length<=sizeLine:=by rw[xaf,xaX];lia
 refine zbk I.kIn O c.sa c.po n.taker c.hd wi hz fun h' O' sb=>h _ ?_;have hd:∃o,h'.get? dx=some o:=let ⟨o,_,_,e',_⟩:=O'.ns;⟨o,e'⟩
 refine I.write (x:=a) (e:=dx) (by rw[e];exact True.intro) (.inr ho) (fun b q hb z=>(sb.2 b hb).trans z) hd ?_;refine⟨by rw[bT O.ne];exact ho,?_,O.ne,O'.obj,_,O'.ns,fun g=>?_,fun g hg=>?_⟩
 ·have:=Nu f y fs;lia
 ·show dZ ((bC f y fs).lookup g) (if g=f then some u else mA g)
  rw[Nz]
  by_cases q:g=f
  ·rw[xac q,xac q];exact ry
  ·rw[xae q,xae q];exact r g
 ·by_cases q:g=f
  ·rw[q];exact(GZ f y fs).1
  ·refine(GZ f y fs).2 g (wi g fun z=>hg ?_);show(if g=f then some u else mA g)=none
   rw[xae q];exact z
theorem Inv.made (I:Inv X pins σ H s):Inv X pins σ (upd (upd H s.heap.objs.size (.own (s.heap.objs.size + 1))) (s.heap.objs.size + 1) (.ins C s.heap.objs.size []))
  {s with heap:=(s.heap.push PySem.W.emptyDict).push (PySem.W.instObj C s.heap.objs.size)}:=by
 have e1:(s.heap.push PySem.W.emptyDict).get? s.heap.objs.size=some PySem.W.emptyDict:=xav s.heap rfl;have e2:((s.heap.push PySem.W.emptyDict).push (PySem.W.instObj C s.heap.objs.size)).get? (s.heap.objs.size + 1)=some (PySem.W.instObj C s.heap.objs.size):=by
  have:=xav (s.heap.push PySem.W.emptyDict) (o:=PySem.W.instObj C s.heap.objs.size) rfl
  rwa [xb8]at this
 have e3:(s.heap.push PySem.W.emptyDict).Ns s.heap.objs.size (fun _=>none):=⟨PySem.W.emptyDict, #[],_,e1,rfl,(fun e he=>absurd he (by simp)),fun _=>rfl⟩;have I1:=I.laid (a:=s.heap.objs.size) (o:=.own (s.heap.objs.size + 1)) (h':=s.heap.push PySem.W.emptyDict) (t':=s.toks) (fun b u q=>xag _ q) (xad _) ⟨_,e1⟩;refine I1.laid (a:=s.heap.objs.size + 1) (o:=.ins C s.heap.objs.size []) (t':=s.toks) (fun b u q=>xag _ q) (xdh (xb8 _ _)) ?_;have ne:s.heap.objs.size≠s.heap.objs.size + 1:=xaC (xba _);refine⟨by rw[bT ne,dw],xaS _,ne,e2,fun _=>none,(Heap.Ns1.of_empty e3).at fun o q=>xag _ q,fun _=>True.intro,fun y hy=>absurd rfl hy⟩
theorem Sq (hb:attributeBase e f env (eval e env)=eval e env)
  (h:wpAny (model prog w) A (eval e env) (fun o s₁=>wpAny (model prog w) A (getAttr o f true) Q E s₁) E s):wpAny (model prog w) A (eval (.Attribute e f pos) env) Q E s:=
 Attribute_any_ h (by rw[arm_eval_Attribute,hb])
end
noncomputable def Jy (K:Fgx) (ta:TE) (f:Str):TE:=fun σ H Q=>ta σ H fun x H1=>∃a C dx fs v,x=.ref a/\H1 a=some (.ins C dx fs)/\Cls K C/\kZ K C f/\fs.lookup f=some v/\Q v H1
noncomputable def I_ (K:Fgx) (ta tv:TE) (f:Str):TS:=fun D σ H=>tv σ H fun y H1=>ta σ H1 fun x H2=>∃a C dx fs,x=.ref a/\H2 a=some (.ins C dx fs)/\Cls K C/\kZ K C f/\fs.length<1000/\
 D.nx σ (upd H2 a (.ins C dx (bC f y fs)))
section
variable {X:Cx}{o e value:Expr}{f:Str}{pos pos' tpos:Pos}{ta tv:TE}
theorem X7 (he:PE X e ta)(hb:attributeBase e f X.env (eval e X.env)=eval e X.env):PE X (.Attribute e f pos) (Jy X.K ta f):=by
 intro pins s σ H Q I h;refine Sq hb (aY (he pins s σ H _ I h) fun u s1 ⟨x,H1,I1,rx,a,C,dx,fs,v,ex,ea,c,n,l,q⟩=>?_);subst ex;obtain rfl:u=Value.ref a:=rx;exact U3 I1 ea c n l fun u' s2 I2 ru=>⟨v,H1,I2,ru,q⟩
theorem YC (ha:PE X o ta)(hv:PE X value tv)(hs:swapsWith value (some (.Attribute o f pos')) pos.line X.env=pure false):PS X (.Assign [.Attribute o f pos'] value pos) (I_ X.K ta tv f):=by
 intro pins s σ H D I h;refine plainObj_wpAny_Assign_Attribute (aY (hv pins s σ H _ I h) fun u s1 ⟨y,H1,I1,ry,q⟩=>aY (ha pins s1 σ H1 _ I1 q) fun ov s2 ⟨x,H2,I2,rx,a,C,dx,fs,ex,ea,c,n,l,q2⟩=>?_) hs;subst ex;obtain rfl:ov=Value.ref a:=rx;exact zau I2 ea c n l ry fun s3 I3=>⟨σ,_,I3,q2⟩
noncomputable def tY:V->V->Hp->VK->Prop:=fun x y H Q=>∃i j,x=.int i/\y=.int j/\Q (.int (i + j)) H
end
section
variable {X:Cx}{pins:Pnx}{σ:St}{H:Hp}{s:Shared}{A:Around}{E:Value->Shared->Prop}{Q:Value->Shared->Prop}{c:Value}{b:Bool}
inductive TyOf (K:Fgx)(H:Hp):V->Value->Prop where
 |non:TyOf K H .non (.type "NoneType")
 |bl (x:Bool):TyOf K H (.bl x) (.type "bool")
 |int (i:Int):TyOf K H (.int i) (.type "int")
 |str (x:Str):TyOf K H (.str x) (.type "str")
 |flt (x:UInt64):TyOf K H (.flt x) (.type "float")
 |lst {a:Addr} {xs:List V} (e:H a=some (.lst xs)):TyOf K H (.ref a) (.type "list")
 |frz {a:Addr} {o:Obj} {xs:List V} (e:H a=some (.frz o (.lst xs))):TyOf K H (.ref a) (.type "list")
 |tup {a:Addr} {xs:List V} (e:H a=some (.tup xs)):TyOf K H (.ref a) (.type "tuple")
 |dK {a:Addr} {kvs:List (Key×V)} (e:H a=some (.dK kvs)):TyOf K H (.ref a) (.type "dict")
 |dT {a:Addr} {kvs:List (List Key×V)} (e:H a=some (.dT kvs)):TyOf K H (.ref a) (.type "dict")
 |ins {a C dx:Addr} {fs:List (Str×V)} (e:H a=some (.ins C dx fs)) (cl:Cls K C) (ha:PySem.W.findIn K (.ref C) "__class__"=some (some (.builtin "object.__class__")))
   (hn:PySem.W.specialIn K (.builtin "object.__class__") "__get__"=some (some (.builtin "getset_descriptor.__get__"))) (htk:PySem.W.takesIn K (.builtin "object.__class__")=some true)
   (hm:PySem.W.mroIn K C (.type "object")=some true):TyOf K H (.ref a) (.ref C)
theorem Bq (I:Inv X pins σ H s)(rx:RelV x u)(ty:TyOf X.K H x t)(e:PySem.W.kitOne X.K t c=some b)(h:∀tk,Q (.bool b) {s with toks:=tk}):
    wpAny (model X.prog X.w) A (call (.builtin "isinstance") [u,c]) Q E s:=by
  cases ty with
  |non=>cases (show u=Value.none from rx);exact xaY PySem.W.kitx_none I.kIn True.intro e (fun z=>nomatch z) h
  |bl y=>cases (show u=Value.bool y from rx);exact xaY PySem.W.kitx_bool I.kIn True.intro e (fun z=>nomatch z) h
  |int i=>obtain⟨t,q⟩:=(show ∃t,u=Value.int i t from rx);cases q;exact xaY PySem.W.kitx_int I.kIn True.intro e (fun z=>nomatch z) h
  |str y=>obtain⟨t,q⟩:=(show ∃t,u=Value.str y t from rx);cases q;exact xaY PySem.W.kitx_str I.kIn True.intro e (fun z=>nomatch z) h
  |flt y=>obtain⟨t,q⟩:=(show ∃t,u=Value.float y t from rx);cases q;exact xaY PySem.W.kitx_float I.kIn True.intro e (fun z=>nomatch z) h
  | @lst a xs ea=>
    cases (show u=Value.ref a from rx);obtain⟨_,_,n,_,h1⟩:=(show eG X.prog X.w H s.heap a (.lst xs) from I.hok a _ ea);exact xaY xdJ I.kIn ⟨_,h1,rfl⟩ e (fun z=>nomatch z) h
  | @frz a ob xs ea=>
    cases (show u=Value.ref a from rx);obtain⟨_,_,_,n,_,h1⟩:=(show eG X.prog X.w H s.heap a (.frz ob (.lst xs)) from I.hok a _ ea);exact xaY xdJ I.kIn ⟨_,h1,rfl⟩ e (fun z=>nomatch z) h
  | @tup a xs ea=>
    cases (show u=Value.ref a from rx);obtain⟨_,_,_,p⟩:=(show eG X.prog X.w H s.heap a (.tup xs) from I.hok a _ ea);obtain⟨o,h1,h2,_⟩:=p;exact xaY xer I.kIn ⟨o,h1,h2⟩ e (fun z=>nomatch z) h
  | @dK a kvs ea=>
    cases (show u=Value.ref a from rx);obtain⟨_,_,vs,_,p⟩:=(show eG X.prog X.w H s.heap a (.dK kvs) from I.hok a _ ea);obtain⟨o,es,ep,h1,h2,_⟩:=p;exact xaY xdK I.kIn ⟨o,h1,h2.1⟩ e (fun z=>nomatch z) h
  | @dT a kvs ea=>
    cases (show u=Value.ref a from rx);obtain⟨_,_,xs,_,o,es,ep,h1,h2,_⟩:=(show eG X.prog X.w H s.heap a (.dT kvs) from I.hok a _ ea);exact xaY xdK I.kIn ⟨o,h1,h2.1⟩ e (fun z=>nomatch z) h
  | @ins a C dx fs ea cl ha hn htk hm=>
    cases (show u=Value.ref a from rx);obtain⟨mA,O,_⟩:=Bm I.hok ea;obtain⟨od,J,_⟩:=O.look;exact xaY (PySem.W.kitx_own (cl.get _) cl.hd ha hn htk hm) I.kIn J e (fun z=>nomatch z) h
end
structure Room (k:Nat)(A:Around):Prop where
 hd:A.handled=none
 dp:A.depth + 3 * k + 5<recursionLimit
 un:A.units + 16 * k + 200<cLine
theorem Room.mono (r:Room k A)(h:j<=k):Room j A:=⟨r.hd,by have:=r.dp;lia,by have:=r.un;lia⟩
theorem Room.deeper (r:Room (k + 1) A)(env:Env):Room k (A.deeper env):=
 ⟨r.hd,by have:=r.dp;show A.depth + 1 + 3 * k + 5<_;lia,by have:=r.un;show A.units + 3 + 16 * k + 200<_;lia⟩
theorem V7 {A:Around}{C:Addr}{us:List Value}{kw:List (Str×Value)}:(A.under (.builtin "type.__call__" ⟨.ref C::us,kw⟩)).depth=A.depth + 1:=by
 first |rfl |simp[Around.under,Code.weight,Code.isCreation,Code.isGuard,Code.isCaller,Code.frames,Code.isFrame,guardIds]
theorem V9 {A:Around}{C:Addr}{us:List Value}{kw:List (Str×Value)}:(A.under (.builtin "type.__call__" ⟨.ref C::us,kw⟩)).units=A.units + 1:=by
 first |rfl |simp[Around.under,Code.cUnits,Code.frames,Code.isFrame]
theorem Room.make (r:Room (k + 1) A)(C:Addr)(us:List Value)(kw:List (Str×Value)):Room k (A.under (.builtin "type.__call__" ⟨.ref C::us,kw⟩)):=
 ⟨r.hd,by have:=r.dp;rw[V7];lia,by have:=r.un;rw[V9];lia⟩
theorem Room.depth (r:Room k A):A.depth<recursionLimit:=by have:=r.dp;lia
theorem Room.units (r:Room k A):A.units + 64<cLine:=by have:=r.un;lia
def z6:TA:=fun _ H Q=>Q [] H
noncomputable def zcQ (ta:TE) (tr:TA):TA:=fun σ H Q=>ta σ H fun x H1=>tr σ H1 fun xs H2=>Q (x::xs) H2
section
variable {X:Cx}{e:Expr}{es:List Expr}{te:TE}{t:TA}{pos:Pos}
theorem rD:PA X [] z6:=fun _ _ _ _ H Q I h=>Calls.spliced_nil ⟨[],H,I,.nil,h⟩
theorem pB (ha:PE X e te)(hr:PA X es t)(hs:starEach (e::es) X.env=(false,eval e X.env)::starEach es X.env:=by rfl):PA X (e::es) (zcQ te t):=by
 intro pos pins s σ H Q I h;rw[hs];show wpAny _ _ (spliced ((false,eval e X.env)::backTo pos (starEach es X.env))) _ _ s;refine Calls.spliced_cons (aY (ha pins s σ H _ I h) fun u s1 ⟨x,H1,I1,r1,q1⟩=>?_);exact aY (hr pos pins s1 σ H1 _ I1 q1) fun us s2 ⟨xs,H2,I2,r2,q2⟩=>⟨x::xs,H2,I2,.cons r1 r2,q2⟩
noncomputable def JH (t:TA):TE:=fun σ H Q=>t σ H fun xs H1=>xs.length<=sizeLine/\∀p,H1 p=none->Q (.ref p) (upd H1 p (.tup xs))
noncomputable def JC (t:TA):TE:=fun σ H Q=>t σ H fun xs H1=>xs.length<=sizeLine/\∀p,H1 p=none->Q (.ref p) (upd H1 p (.lst xs))
theorem Yl {x1}(h:PA X es t):PE X (.Tuple es x1 pos) (JH t):=by
 intro pins s σ H Q I hq;refine wpAny_Tuple_spliced (aY (h pos pins s σ H _ I hq) fun us s1 ⟨xs,H1,I1,r,z,q⟩=>⟨by rw[<-r.length];exact z,?_⟩);have hf:H1 s1.heap.objs.size=none:=I1.hok.fresh (xad _);refine⟨.ref s1.heap.objs.size,upd H1 s1.heap.objs.size (.tup xs),I1.laid (t':=s1.toks) (fun b u e=>xag _ e) (xad _) ?_,rfl,q _ hf⟩;exact⟨z,us,r,⟨_,xav _ rfl,rfl,_,rfl⟩⟩
theorem Yc (h:PA X es t):PE X (.List es pos) (JC t):=by
 intro pins s σ H Q I hq;refine wpAny_List_spliced (aY (h pos pins s σ H _ I hq) fun us s1 ⟨xs,H1,I1,r,z,q⟩=>⟨by rw[<-r.length];exact z,?_⟩);have hf:H1 s1.heap.objs.size=none:=I1.hok.fresh (xad _);refine⟨.ref s1.heap.objs.size,upd H1 s1.heap.objs.size (.lst xs),I1.laid (t':=s1.toks) (fun b u e=>xag _ e) (xad _) ?_,rfl,q _ hf⟩;exact⟨z,us,0,r,xav _ rfl⟩
end
abbrev Sp:=List V->Hp->VK->XK->Prop
abbrev eV:=List Env->Hp->Shared->XK->Value->Shared->Prop
structure Env0 (P:Program)(w:World)(K:Fgx)(mg:Mgx)(base:Heap)(A:Around)(outer:List Env)(s:Shared)(H:Hp):Prop where
 frames:A.frames=some outer
 mod:Mod K mg base
 bs:∀b o,base.get? b=some o->s.heap.get? b=some o/\H b=none
 bsz:base.objs.size<=s.heap.objs.size
 funs:s.heap.FunFrames base outer
 frf:∀b∈frs outer,H b=none
 hok:cJ P w H s.heap
 bare:AllBare s.gens
def CE (outer:List Env)(P:Program)(w:World)(H:Hp)(s:Shared)(Q:VK)(u:Value)(s':Shared):Prop:=
 ∃v H',s'.os=s.os/\AllBare s'.gens/\Un (frs outer) [] H H' s.heap s'.heap/\cJ P w H' s'.heap/\RelV v u/\Q v H'
def CR (CX:eV)(outer:List Env)(P:Program)(w:World)(H:Hp)(s:Shared)(Q:VK)(E:XK)(r:Result)(s':Shared):Prop:=
 match r with
 |.ok (.ret u)=>CE outer P w H s Q u s'
 |.ok _=>False
 |.error e=>CX outer H s E e s'
structure FnOk (P:Program)(w:World)(K:Fgx)(mg:Mgx)(base:Heap)(CX:eV)(k:Nat)(f:Addr)(fd:FuncData)(ps:List Str)(sp:Sp):Prop where
 len:∀vs H Q E,sp vs H Q E->vs.length=ps.length
 run:∀(A:Around) (outer:List Env) (s:Shared) (H:Hp) (args:Args) (us:List Value) (vs:List V) (Q:VK) (E:XK),Room k A->Env0 P w K mg base A outer s H->BindsTo s fd args (ps.zip us)->Vals vs us->sp vs H Q E->
  codeAny (model P w) A (.call (.ref f) args) (CR CX outer P w H s Q E) s
theorem FnOk.mono {P:Program}{w:World}{K:Fgx}{mg:Mgx}{base:Heap}{CX:eV}{j k:Nat}{f:Addr}{fd:FuncData}{ps:List Str}{sp:Sp}(F:FnOk P w K mg base CX j f fd ps sp)(h:j<=k):
  FnOk P w K mg base CX k f fd ps sp:=⟨F.len,fun A outer s H args us vs Q E hr=>F.run A outer s H args us vs Q E (hr.mono h)⟩
theorem Env0.make {P:Program}{w:World}{K:Fgx}{mg:Mgx}{base:Heap}{A:Around}{outer:List Env}{s:Shared}{H:Hp}(e:Env0 P w K mg base A outer s H)(C:Addr)(us:List Value)(kw:List (Str×Value)):
  Env0 P w K mg base (A.under (.builtin "type.__call__" ⟨.ref C::us,kw⟩)) outer s H:=⟨by first |exact e.frames |(simpa [Around.under,Code.envs,Code.isFrame,pushEnvs] using e.frames),e.mod,e.bs,e.bsz,e.funs,e.frf,e.hok,e.bare⟩
section
variable {X:Cx}{pins:Pnx}{σ:St}{H:Hp}{s s':Shared}
theorem Inv.env0 (I:Inv X pins σ H s):Env0 X.prog X.w X.K X.mg X.base X.A X.stack s H:=
 ⟨I.ok.frames,I.ok.mod,I.bs,xaq I.ok.bsz I.sz,I.stack,I.stkFree,I.hok,I.bare⟩
theorem Inv.after (I:Inv X pins σ H s)(h:CE X.stack X.prog X.w H s Q u s'):EP X pins σ Q u s':=by
 obtain⟨v,H',os,bare,un,hok,r,q⟩:=h;obtain⟨hh,g,d,t,os'⟩:=s';obtain rfl:os'=s.os:=os;exact⟨v,H',I.call (h':=hh) (g':=g) (d':=d) (t':=t) (ch:=[]) un hok bare (fun b z=>absurd z (by simp)),r,q⟩
end
noncomputable def Q_ (sp:Sp) (dvs:List V) (E:XK) (t:TA):TE:=fun σ H Q=>t σ H fun vs H1=>sp (vs ++ dvs) H1 Q E
noncomputable def Rf (C:Addr) (m:Str) (sp:Sp) (dvs:List V) (E:XK) (ta:TE) (t:TA):TE:=fun σ H Q=>ta σ H fun x H1=>∃a dx fs,x=.ref a/\H1 a=some (.ins C dx fs)/\fs.lookup m=none/\
 t σ H1 fun vs H2=>sp (x::(vs ++ dvs)) H2 Q E
noncomputable def zcU (C:Addr) (sp:Sp) (dvs:List V) (E:XK) (t:TA):TE:=fun σ H Q=>t σ H fun vs H1=>∀x dx,H1 x=none->H1 dx=none->dx≠x->
 sp (.ref x::(vs ++ dvs)) (upd (upd H1 dx (.own x)) x (.ins C dx [])) (fun v H2=>v=.non/\Q (.ref x) H2) E
def Binds (K:Fgx)(fd:FuncData)(ps:List Str)(ds:List Value):Prop:=
 ∀(s:Shared) (us:List Value),K.In s.heap->(us ++ ds).length=ps.length->BindsTo s fd ⟨us,[]⟩ (ps.zip (us ++ ds))
theorem Binds.all {K:Fgx}{fd:FuncData}{ps:List Str}(h:∀us:List Value,us.length=ps.length->bindArgs fd ⟨us,[]⟩=pure (ps.zip us)):Binds K fd ps []:=fun s us _ hl=>by
 rw[xaE]at hl ⊢;exact .of_eq (h us hl)
def Passes (CX:eV)(X:Cx)(E:XK):Prop:=∀(pins:Pnx) (σ:St) (H:Hp) (s:Shared) (e:Value) (s':Shared),Inv X pins σ H s->CX X.stack H s E e s'->X.xe e s'
section
variable {X:Cx}{CX:eV}{k:Nat}{f C:Addr}{fd:FuncData}{ps:List Str}{sp:Sp}{dvs:List V}{ds:List Value}{E:XK}{x m:Str}{p pos apos:Pos}{e o:Expr}{es:List Expr}{ta:TE}{t:TA}
theorem CQ (F:FnOk X.prog X.w X.K X.mg X.base CX k f fd ps sp)(hr:Room k X.A)(hb:Binds X.K fd ps ds)(hd:Vals dvs ds)(hx:Passes CX X E)
    (I:Inv X pins σ H s) (r:Vals vs us) (h:sp (vs ++ dvs) H Q E):wpAny (model X.prog X.w) X.A (call (.ref f) us) (EP X pins σ Q) X.xe s:=by
  have r2:Vals (vs ++ dvs) (us ++ ds):=r.append hd;have hl:(us ++ ds).length=ps.length:=by rw[<-r2.length];exact F.len _ _ _ _ h
  refine wpAny_call (xcc (F.run X.A X.stack s H ⟨us,[]⟩ (us ++ ds) (vs ++ dvs) Q E hr I.env0 (hb s us I.kIn hl) r2 h) fun r s' hq=>?_)
  cases r with
  |error e=>exact hx pins σ H s e s' I hq
  |ok fl=>
    cases fl with
    |ret u=>exact I.after hq
    |next=>exact False.elim hq
    |brk=>exact False.elim hq
    |cont=>exact False.elim hq
theorem X3 (F:FnOk X.prog X.w X.K X.mg X.base CX k f fd ps sp)(hr:Room k X.A)(hg:Gl X x)(hm:X.mg x=some (.ref f))(hk:PySem.W.keepIn X.K (.ref f)=true)(hb:Binds X.K fd ps ds)(hd:Vals dvs ds)(hx:Passes CX X E)
  (ha:PA X (e::es) t) (hdb:(x==("__debug__":Str))=false:=by decide) (he:starEach (e::es) X.env=(false,eval e X.env)::starEach es X.env:=by rfl) (hpl:(backTo pos (starEach es X.env)).any (·.1)=false:=by rfl):
  PE X (.Call (.Name x p) (e::es) [] pos) (Q_ sp dvs E t):=by
 intro pins s σ H Q I h;refine xcF (Bw I hg hm ?_ hdb);refine xcG (h₀:=X.base) I.ok.mod.kin hk (aY (ha pos pins s σ H _ I h) fun us s1 ⟨vs,H1,I1,r,q⟩=>⟨I1.kIn,?_⟩) he hpl;exact CQ F hr hb hd hx I1 r q
theorem Ye (he:PE X o ta)(c:Cls X.K C)(hm:Meth X.K C m f)(F:FnOk X.prog X.w X.K X.mg X.base CX k f fd ps sp)(hr:Room k X.A)(hb:Binds X.K fd ps ds)(hd:Vals dvs ds)(hx:Passes CX X E)(ha:PA X (e::es) t)
  (hst:starEach (e::es) X.env=(false,eval e X.env)::starEach es X.env:=by rfl) (hpl:(backTo pos (starEach es X.env)).any (·.1)=false:=by rfl)
  (ht : eval (.Call (.Attribute o m apos) (e :: es) [] pos) X.env = (do
   let ov <-eval o X.env
   standAt apos.atName
   let (f,first) <-holding [ov] (getMethod ov m pl)
   callWith pos f first (backTo pos (starEach (e::es) X.env)) (backToKw pos (keywordEach [] X.env))):=by rfl):
  PE X (.Call (.Attribute o m apos) (e::es) [] pos) (Rf C m sp dvs E ta t):=by
 intro pins s σ H Q I h;refine xdb (pl:=pl) (aY (he pins s σ H _ I h) fun u s1 ⟨x,H1,I1,rx,a,dx,fs,ex,ea,l,q⟩=>?_) ht;subst ex;obtain rfl:u=Value.ref a:=rx;refine Mu I1 ea c hm l ?_;refine xcG (first:=[.ref a]) (h₀:=X.base) I.ok.mod.kin hm.kp (aY (ha pos pins s1 σ H1 _ I1 q) fun us s2 ⟨vs,H2,I2,r,q2⟩=>⟨I2.kIn,?_⟩) hst hpl
 exact CQ (us:=.ref a::us) (vs:=.ref a::vs) F hr hb hd hx I2 (.cons rfl r) q2
theorem Yg (he:PE X o ta)(c:Cls X.K C)(hm:Meth X.K C m f)(F:FnOk X.prog X.w X.K X.mg X.base CX k f fd ps sp)(hr:Room k X.A)(hb:Binds X.K fd ps ds)(hd:Vals dvs ds)(hx:Passes CX X E)
  (ht : eval (.Call (.Attribute o m apos) [] [] pos) X.env = (do
   let ov <-eval o X.env
   standAt apos.atName
   let (f,first) <-holding [ov] (getMethod ov m pl)
   callWith pos f first (backTo pos (starEach [] X.env)) (backToKw pos (keywordEach [] X.env))):=by rfl):
  PE X (.Call (.Attribute o m apos) [] [] pos) (Rf C m sp dvs E ta z6):=by
 intro pins s σ H Q I h;refine xdb (pl:=pl) (aY (he pins s σ H _ I h) fun u s1 ⟨x,H1,I1,rx,a,dx,fs,ex,ea,l,q⟩=>?_) ht;subst ex;obtain rfl:u=Value.ref a:=rx;refine Mu I1 ea c hm l ?_;exact PySem.W.callWith_K0 (first:=[.ref a]) I1.kIn hm.kp (CQ (us:=[.ref a]) (vs:=[.ref a]) F hr hb hd hx I1 (.cons rfl .nil) q)
structure Mk (K:Fgx)(C f:Addr):Prop where
 makes:PySem.W.makesIn K C=true
 init:PySem.W.findIn K (.ref C) "__init__"=some (some (.ref f))
 fn:PySem.W.isFn K (.ref f)=true
 kp:PySem.W.keepIn K (.ref C)=true
theorem za5 (M:Mk X.K C f)(F:FnOk X.prog X.w X.K X.mg X.base CX k f fd ps sp)(hr:Room (k + 1) X.A)(hb:Binds X.K fd ps ds)(hd:Vals dvs ds)
    (hx:Passes CX X E) (I:Inv X pins σ H s) (r:Vals vs us)
    (h:∀x dx,H x=none->H dx=none->dx≠x->sp (.ref x::(vs ++ dvs)) (upd (upd H dx (.own x)) x (.ins C dx [])) (fun v H2=>v=.non/\Q (.ref x) H2) E):
    wpAny (model X.prog X.w) X.A (call (.ref C) us) (EP X pins σ Q) X.xe s:=by
  have hq:=h (s.heap.objs.size + 1) s.heap.objs.size (I.hok.fresh (xcW _)) (I.hok.fresh (xad _)) (xaC (xba _));have I2:=Inv.made (C:=C) I;have r2:Vals (V.ref (s.heap.objs.size + 1)::(vs ++ dvs)) (Value.ref (s.heap.objs.size + 1)::(us ++ ds)):=.cons rfl (r.append hd);have hl:(Value.ref (s.heap.objs.size + 1)::us ++ ds).length=ps.length:=by
    have e:=r2.length;rw[F.len _ _ _ _ hq]at e;exact e.symm
  refine wpAny_call (V8 (f := f) I.kIn M.makes M.init (xbL.mp M.fn) (xcc (F.run _ X.stack _ _ ⟨Value.ref (s.heap.objs.size + 1)::us,[]⟩ (Value.ref (s.heap.objs.size + 1)::(us ++ ds)) _ _ E (hr.make C us [])
    (I2.env0.make C us []) (hb _ (Value.ref (s.heap.objs.size + 1)::us) I2.kIn hl) r2 hq) fun r s' hq'=>?_))
  cases r with
  |error e=>exact hx pins σ _ _ e s' I2 hq'
  |ok fl=>
    cases fl with
    |ret u=>
      obtain⟨v,H',I3,rv,ev,q3⟩:=I2.after hq';subst ev;exact⟨rv,⟨V.ref (s.heap.objs.size + 1),H',I3,rfl,q3⟩⟩
    |next=>exact False.elim hq'
    |brk=>exact False.elim hq'
    |cont=>exact False.elim hq'
theorem Yd (M:Mk X.K C f)(F:FnOk X.prog X.w X.K X.mg X.base CX k f fd ps sp)(hr:Room (k + 1) X.A)(hg:Gl X x)(hm:X.mg x=some (.ref C))(hb:Binds X.K fd ps ds)(hd:Vals dvs ds)(hx:Passes CX X E)
  (ha:PA X (e::es) t) (hdb:(x==("__debug__":Str))=false:=by decide) (he:starEach (e::es) X.env=(false,eval e X.env)::starEach es X.env:=by rfl) (hpl:(backTo pos (starEach es X.env)).any (·.1)=false:=by rfl):
  PE X (.Call (.Name x p) (e::es) [] pos) (zcU C sp dvs E t):=by
 intro pins s σ H Q I h;refine xcF (Bw I hg hm ?_ hdb);refine xcG (h₀:=X.base) I.ok.mod.kin M.kp (aY (ha pos pins s σ H _ I h) fun us s1 ⟨vs,H1,I1,r,q⟩=>⟨I1.kIn,?_⟩) he hpl;exact za5 M F hr hb hd hx I1 r q
end
section
variable {X:Cx}{CX:eV}{k:Nat}{f C:Addr}{fd:FuncData}{ps ks:List Str}{sp:Sp}{E:XK}{x m:Str}{p pos apos kpos:Pos}{e o:Expr}{es:List Expr}{kws:List Keyword}{te ta:TE}{t tk:TA}{nm:Option Str}
structure KBinds (K:Fgx)(fd:FuncData)(ps ks:List Str)(g:List Value->List Value->List Value)(gV:List V->List V->List V):Prop where
 to:∀(s:Shared) (us ws:List Value),K.In s.heap->(g us ws).length=ps.length->BindsTo s fd ⟨us,ks.zip ws⟩ (ps.zip (g us ws))
 rel:∀{vs:List V} {us:List Value} {zs:List V} {ws:List Value},Vals vs us->Vals zs ws->Vals (gV vs zs) (g us ws)
variable {g:List Value->List Value->List Value}{gV:List V->List V->List V}
end
structure FnScope (N P:List Str)(sc:Scope):Prop where
 kind:sc.kind=.function
 co:sc.isCoroutine=false
 gen:sc.isGenerator=false
 nd:N.Nodup
 pre:N.take P.length=P
 par:∀x∈P,sc.names.lookup x=some .local\/sc.names.lookup x=some .cell
 nofree:∀y∈sc.names,y.2≠ .free
theorem Kl {kindOf:Str->Option NameKind}{x:Str}:∀{binds:List (Str×Value)} {m:Mgx},(∀v,(x,v)∉binds)->bindL kindOf binds m x=m x
  | [],_,_=>rfl
  |(n,v)::r,m,h=>by
    unfold bindL;rw[Kl fun w hw=>h w (xal _ hw)]
    split
    · have:x≠n:=by rintro rfl;exact h v xau
      simp[this]
    · rfl
theorem Kg {kindOf:Str->Option NameKind}{x:Str}:∀{binds:List (Str×Value)} {m:Mgx},(∀v,(x,v)∉binds)->bindC kindOf binds m x=m x
  | [],_,_=>rfl
  |(n,v)::r,m,h=>by
    unfold bindC;rw[Kg fun w hw=>h w (xal _ hw)]
    split
    · rfl
    · have:x≠n:=by rintro rfl;exact h v xau
      simp[this]
theorem Kh {kindOf:Str->Option NameKind}{x:Str}{v:Value}:∀{P:List Str} {vs:List Value} {i:Nat} {m:Mgx},P.Nodup->P[i]? =some x->vs[i]? =some v->kindOf x=some .local->
    bindL kindOf (P.zip vs) m x=some v
  | [],_,_,_,_,h,_,_=>by simp at h
  |_::_,[],_,_,_,_,h,_=>by simp at h
  |p::P,w::vs,0,m,nd,h1,h2,hk=>by
    simp at h1 h2;subst h1;subst h2
    show bindL kindOf ((p,w)::P.zip vs) m p=_;unfold bindL;rw[Kl fun v hv=>(xbM.mp nd).1 (xdi hv).1,xac hk]
    simp
  |p::P,w::vs,i + 1,m,nd,h1,h2,hk=>by
    show bindL kindOf ((p,w)::P.zip vs) m x=_;unfold bindL;exact Kh (i:=i) (xbM.mp nd).2 (by simpa using h1) (by simpa using h2) hk
theorem Kf {kindOf:Str->Option NameKind}{x:Str}{v:Value}:∀{P:List Str} {vs:List Value} {i:Nat} {m:Mgx},P.Nodup->P[i]? =some x->vs[i]? =some v->kindOf x≠some .local->
    bindC kindOf (P.zip vs) m x=some v
  | [],_,_,_,_,h,_,_=>by simp at h
  |_::_,[],_,_,_,_,h,_=>by simp at h
  |p::P,w::vs,0,m,nd,h1,h2,hk=>by
    simp at h1 h2;subst h1;subst h2
    show bindC kindOf ((p,w)::P.zip vs) m p=_;unfold bindC;rw[Kg fun v hv=>(xbM.mp nd).1 (xdi hv).1,xae hk]
    simp
  |p::P,w::vs,i + 1,m,nd,h1,h2,hk=>by
    show bindC kindOf ((p,w)::P.zip vs) m x=_;unfold bindC;exact Kf (i:=i) (xbM.mp nd).2 (by simpa using h1) (by simpa using h2) hk
noncomputable def start (N:List Str) (vs:List V):St:=vs.map some ++ List.replicate (N.length - vs.length) none
noncomputable def j5 (CX:eV) (P:Program) (w:World) (K:Fgx) (mg:Mgx) (base:Heap) (N:List Str) (qual:Str) (scope:Scope) (f:Addr) (cd:Value) (A:Around) (outer:List Env) (s:Shared) (H:Hp) (E:XK):Cx where
 prog:=P
 w:=w
 K:=K
 mg:=mg
 base:=base
 A:=A.deeper (envOfC qual scope s.heap.objs.size f cd)
 N:=N
 s₀:=s
 H₀:=H
 env:=envOfC qual scope s.heap.objs.size f cd
 outer:=outer
 stack:=envOfC qual scope s.heap.objs.size f cd::outer
 ex:=[]
 calm:=true
 fn:=fun _=>true
 pn:=[]
 xe:=fun e s'=>wpAny (model P w) (A.deeper (envOfC qual scope s.heap.objs.size f cd)) (leaving (envOfC qual scope s.heap.objs.size f cd) e) (fun _ s''=>CX outer H s E e s'') (fun e' s''=>CX outer H s E e' s'') s'
theorem Kv {sc:Scope}{n:Nat}{x:Str}(h:sc.names.lookup x=some .cell):∃c,(cellsFrom n sc.names []).lookup x=some c:=by
 have q:=xd0 sc.names n [] (.inl h);exact Option.isSome_iff_exists.mp q
theorem Ve {CX:eV}{P:Program}{w:World}{K:Fgx}{mg:Mgx}{base:Heap}{N ps:List Str}{qual:Str}{scope:Scope}{f:Addr}{cd:Value}{A:Around}{outer:List Env}{s s1:Shared}{H:Hp}{E:XK}{us:List Value}{vs:List V}
  (S:FnScope N ps scope) (hd:A.handled=none) (e0:Env0 P w K mg base A outer s H) (hl:vs.length=ps.length) (r:Vals vs us)
  (x:InCallC s s.heap.objs.size (bindL (envOfC qual scope s.heap.objs.size f cd).kindOf (ps.zip us) fun _=>none) (cellsFrom (s.heap.objs.size + 1) scope.names []) (bindC (envOfC qual scope s.heap.objs.size f cd).kindOf (ps.zip us) fun _=>none) s1):
  Inv (j5 CX P w K mg base N qual scope f cd A outer s H E) [] (start N vs) H s1:=by
 have hpl:ps.length<=N.length:=by have:=congrArg List.length S.pre;rw[xbl]at this;lia
 obtain ⟨h1, tk, rfl, hk⟩ := x.done;have noA : ∀ b : Addr, b ∉ (j5 CX P w K mg base N qual scope f cd A outer s H E).ex := fun b z => absurd (show b ∈ ([] : List Addr) from z) (by simp);refine ⟨⟨e0.mod,S.kind,rfl,rfl,xad _,fun y z c h1 h2=>?_,fun y hy=>?_,fun y c _ h=>?_,fun _=>hd,Around.frames_deeper e0.frames,.inr ⟨rfl,rfl⟩,fun b z=>absurd z (noA b),e0.bs,e0.bsz,fun b _ _=>noA b,fun b z=>absurd z (noA b),e0.funs,e0.frf⟩,
  rfl,e0.bare,Un.kept hk,⟨_,x.toInCall.ns,fun i y v h1 h2 h3=>?_⟩,fun y c h=>⟨_,x.cell y c h⟩,e0.hok.fresh (xad _),fun y c h=>?_,fun p hp=>absurd (show p∈([]:Pnx) from hp) (by simp),e0.hok.kept hk,?_⟩
 ·exact name_of_addr x.apart (xbq h1) (xbq h2)
 ·have hy:scope.names.lookup y=some .cell\/scope.names.lookup y=some .free:=hy;rcases hy with hy |hy
  ·exact Kv hy
  ·exact absurd rfl (S.nofree _ (xbq hy))
 ·exact xa5 (x.above y c (xbq h))
 ·have hi:i<vs.length:=by
   unfold start at h2
   by_cases hi:i<vs.length
   ·exact hi
   ·rw[xas (by simpa using hi)]at h2;rw[xa0]at h2;split at h2<;>cases h2
  have ha:vs[i]? =some v:=by
   unfold start at h2;rw[xaH (by simpa using hi),xao]at h2
   cases e:vs[i]? with
   |none=>rw[e]at h2;cases h2
   |some a=>rw[e]at h2;cases h2;rfl
  obtain⟨u,hu,rv⟩:=r.get ha;have hp:ps[i]? =some y:=by
   rw[<-S.pre,xcH (by lia)];exact h1
  have ndP:ps.Nodup:=by rw[<-S.pre];exact S.nd.sublist (xew _ _)
  refine⟨u,rv,?_⟩;rcases S.par y (xaT hp) with k |k
  ·exact .inl ⟨k,Kh ndP hp hu k⟩
  ·obtain⟨c,e⟩:=Kv (n:=s.heap.objs.size + 1) k;refine .inr ⟨.inl k,c,e,?_⟩;have q:=x.cell y c e;rw[Kf ndP hp hu (by show scope.names.lookup y≠_;rw[k];decide)]at q;exact q
 ·exact .inl (e0.hok.fresh (xa5 (x.above y c (xbq h))))
 ·unfold start;show _=N.length;rw[xaj,xaf,xaZ];lia
theorem Ut {CX:eV}{P:Program}{w:World}{K:Fgx}{mg:Mgx}{base:Heap}{k:Nat}{f:Addr}{name qual:Str}{params:Arguments}{body:List Stmt}{scope:Scope}{dV kV doc pm cdv ct oc:Value}{an od:Option Addr}
    {osl:Array (Option Value)} {N ps:List Str} {sp:Sp} (lk:K.lookup f=some ⟨oc,od,.func (PySem.W.fnOf name qual params body scope dV kV doc pm an cdv ct),osl⟩) (hcd:PySem.W.codeIn K cdv qual=true) (S:FnScope N ps scope)
    (len:∀vs H Q E,sp vs H Q E->vs.length=ps.length)
    (hbody:∀(A:Around) (outer:List Env) (s:Shared) (H:Hp) (vs:List V) (Q:VK) (E:XK),Room k (A.deeper (envOfC qual scope s.heap.objs.size f cdv))->sp vs H Q E->
      ∃t,gF (j5 CX P w K mg base N qual scope f cdv A outer s H E) body t/\t {nx:=fun _ H'=>Q .non H',rt:=Q} (start N vs) H):
    FnOk P w K mg base CX (k + 1) f (PySem.W.fnOf name qual params body scope dV kV doc pm an cdv ct) ps sp:=by
  refine⟨len,fun A outer s H args us vs Q E hr e0 hb r hsp=>?_⟩;have hl:=len _ _ _ _ hsp;have KX:K.In s.heap:=e0.mod.kin.keeps fun b o e=>(e0.bs b o e).1;have lim:s.heap.NoLimit:=e0.mod.nolimit.keeps fun b o e=>(e0.bs b o e).1;have hkind:∀y∈ps.zip us,scope.names.lookup y.1=some .local\/(scope.names.lookup y.1=some .cell/\((cellsFrom (s.heap.objs.size + 1) scope.names []).lookup y.1).isSome=true):=fun⟨n,v⟩ hy=>by
    rcases S.par n (xdi hy).1 with q |q
    · exact .inl q
    · exact .inr ⟨q,xd0 _ _ _ (.inl q)⟩
  refine codeAny_call_function hr.depth (KX _ _ lk) rfl S.co S.gen rfl (PySem.W.codeRec_of KX hcd) (hb _ _ _ _ ?_);refine wpAny_newFunctionEnv_cells S.kind hkind fun env he s1 x=>?_;subst he;refine⟨lim.keeps x.toInCall.keep,codeAny_func ?_⟩;obtain⟨t,ht,hq⟩:=hbody A outer s H vs Q E (hr.deeper _) hsp;have I:Inv (j5 CX P w K mg base N qual scope f cdv A outer s H E) [] (start N vs) H s1:=Ve S hr.hd e0 hl r x;refine xbd (ht [] s1 (start N vs) H _ I hq) (fun fl s' hs=>?_) fun e s' hs=>hs;have fin:∀{σ':St} {H':Hp} {v:V} {u:Value},Inv (j5 CX P w K mg base N qual scope f cdv A outer s H E) [] σ' H' s'->RelV v u->Q v H'->CE outer P w H s Q u s':=
    fun {σ' H' v u} J rv q=>⟨v,H',J.os,J.bare,J.base,J.hok,rv,q⟩
  cases fl with
  |ret u=>
    obtain⟨v,σ',H',J,rv,q⟩:=hs;exact fin J rv q
  |next=>
    obtain⟨σ',H',J,q⟩:=hs;exact fin (v:=V.non) (u:=Value.none) J rfl q
  |brk=>
    obtain⟨_,_,_,q⟩:=hs;exact False.elim q
  |cont=>
    obtain⟨_,_,_,q⟩:=hs;exact False.elim q
section
variable {X:Cx}{x:Str}{p pos:Pos}{e:Expr}{es:List Expr}{t:TA}{id T:String}{r:List V->Hp->VK->Prop}
noncomputable def Jw (r:List V->Hp->VK->Prop) (t:TA):TE:=fun σ H Q=>t σ H fun vs H1=>r vs H1 Q
theorem Cw (hc:dz X (.builtin id) r)(hg:Gl X x)(hm:X.mg x=none)(hv:bootBuiltins x=some (.builtin id))(ha:PA X (e::es) t)(hn:x≠"__name__":=by decide)(hdb:(x==("__debug__":Str))=false:=by decide)
  (he:starEach (e::es) X.env=(false,eval e X.env)::starEach es X.env:=by rfl) (hpl:(backTo pos (starEach es X.env)).any (·.1)=false:=by rfl):PE X (.Call (.Name x p) (e::es) [] pos) (Jw r t):=by
 intro pins s σ H Q I h;refine xcF (Bv I hg hm hv ?_ hn hdb);exact PyProof.Rows.callWith_builtin1 (aY (ha pos pins s σ H _ I h) fun us s1 ⟨vs,H1,I1,r1,q1⟩=>hc pins s1 σ H1 vs us Q I1 r1 q1) he hpl
theorem HD (hc:dz X (.type T) r)(hg:Gl X x)(hm:X.mg x=none)(hv:bootBuiltins x=some (.type T))(ha:PA X (e::es) t)(hn:x≠"__name__":=by decide)(hdb:(x==("__debug__":Str))=false:=by decide)
  (he:starEach (e::es) X.env=(false,eval e X.env)::starEach es X.env:=by rfl) (hpl:(backTo pos (starEach es X.env)).any (·.1)=false:=by rfl):PE X (.Call (.Name x p) (e::es) [] pos) (Jw r t):=by
 intro pins s σ H Q I h;refine xcF (Bv I hg hm hv ?_ hn hdb);exact xdA (aY (ha pos pins s σ H _ I h) fun us s1 ⟨vs,H1,I1,r1,q1⟩=>hc pins s1 σ H1 vs us Q I1 r1 q1) he hpl
end
end L2
namespace HT
open PySem PyProof.Rows
section
open PySem.SeqAt
open PySem.AutoSeq1 (wpAny_loadPart')
open PySem.MeetsSeq PySem.MeetsSeq2 PySem.MeetsSeq3
end
section
variable {prog:Program}{w:World}{A:Around}{E:Value->Shared->Prop}{s:Shared}
noncomputable def bw (n d:Nat):Option Int->Nat
 |none=>d
 |some v=>if v<0 then(v + (n:Int)).toNat else min v.toNat n
theorem zcF (n d:Nat)(hd:d<=n)(o:Option Int):bw n d o<=n:=by
  cases o with
  |none=>exact hd
  |some v=>
    show(if v<0 then(v + (n:Int)).toNat else min v.toNat n)<=n
    by_cases hv:v<0
    · rw[xac hv];lia
    · rw[xae hv];exact Nat.min_le_right _ _
theorem KC (v:Int)(n d:Nat):(if v<0 then max (v + (n:Int)) 0 else min v (n:Int))=((bw n d (some v):Nat):Int):=by
 show(if v<0 then max (v + (n:Int)) 0 else min v (n:Int))=(((if v<0 then(v + (n:Int)).toNat else min v.toNat n):Nat):Int)
 by_cases hv:v<0
 ·simp only[xac hv];lia
 ·simp only[xae hv];lia
theorem R7 (lo hi:Option Int)(n:Nat):Builtin.Slice.sliceAdjust lo hi 1 (n:Int)=(((bw n 0 lo:Nat):Int),((bw n n hi:Nat):Int)):=by
 have h1:¬ ((1:Int)<0):=by lia
 unfold Builtin.Slice.sliceAdjust;simp only[h1,xbb];refine xdu ?_ ?_
 ·cases lo with
  |none=>rfl
  |some v=>exact KC v n 0
 ·cases hi with
  |none=>rfl
  |some v=>exact KC v n n
theorem Yv (i j:Nat):Builtin.Slice.slicePlaces (i:Int) (j:Int) 1=j - i:=by
 unfold Builtin.Slice.slicePlaces;have h1:(1:Int) > 0:=by lia
 simp only[h1,xbi,Int.ediv_one]
 split<;>lia
theorem QM (p:IsPart v o)(h:Q o s):wpAny (model prog w) A (Builtin.Slice.slicePartIndex v) Q E s:=by
 cases p with
 |none=>exact slicePart_none h
 |int i t=>exact slicePart_int h
theorem zaf {sl:Addr}{vl vu:Value}{lo hi:Option Int}{n:Nat}{Q:Int×Int×Nat->Shared->Prop}(hs:s.heap.IsSliceOf sl vl vu .none)(pl:IsPart vl lo)(pu:IsPart vu hi)
  (h:Q (((bw n 0 lo:Nat):Int),1,bw n n hi - bw n 0 lo) s):wpAny (model prog w) A (Builtin.Slice.sliceApplied (.ref sl) (pure (n:Int))) Q E s:=by
 obtain⟨os,hos,hcs,hds⟩:=id hs;unfold Builtin.Slice.sliceApplied Builtin.Slice.sliceFields;refine xaa (xaa (xcX hos hds (x:=vl) rfl (xaa (xcX hos hds (x:=vu) rfl (xaa (xcX hos hds (x:=.none) rfl (xab ?_)))))));refine xaa (slicePart_none ?_);show wpAny _ _ (if ((1:Int)==0)=true then _ else _) _ _ s
 rw[xae (by decide)];refine xaa (QM pl (xaa (QM pu (xaa (xab ?_)))));show wpAny _ _ (match Builtin.Slice.sliceAdjust lo hi 1 (n:Int) with |(lo,hi)=>pure (lo,(1:Int),Builtin.Slice.slicePlaces lo hi 1)) _ _ s
 rw[R7 lo hi n];show wpAny _ _ (pure (((bw n 0 lo:Nat):Int),(1:Int),Builtin.Slice.slicePlaces ((bw n 0 lo:Nat):Int) ((bw n n hi:Nat):Int) 1)) _ _ s;rw[Yv];exact xab h
theorem Ys (xs:Array Value)(i k:Nat):((List.range k).filterMap fun(m:Nat)=>xs[((i:Int) + (m:Int) * 1).toNat]?).toArray=((xs.toList.drop i).take k).toArray:=by
 have e:(fun(m:Nat)=>xs[((i:Int) + (m:Int) * 1).toNat]?)=fun m=>xs[i + m]? :=by
  funext m;have:((i:Int) + (m:Int) * 1).toNat=i + m:=by lia
  rw[this]
 rw[e];have:=pick_run xs i k;rw[xes]at this;have e2:((fun x=>xs[x]?) ∘ fun x=>i + x)=fun m=>xs[i + m]? :=rfl;rw[e2]at this;rw[this]
theorem UW {t sl:Addr}{items:Array Value}{vl vu:Value}{lo hi:Option Int}{Q:Value->Shared->Prop}(ht:IsTup s.heap t items)(hs:s.heap.IsSliceOf sl vl vu .none)(pl:IsPart vl lo)(pu:IsPart vu hi)
  (hw:¬ (bw items.size 0 lo=0/\bw items.size items.size hi=items.size))
  (h:Q (.ref s.heap.objs.size) {s with heap:=s.heap.push {cls:=.type "tuple",data:=.seq ((items.toList.drop (bw items.size 0 lo)).take (bw items.size items.size hi - bw items.size 0 lo)).toArray}})
  (hsz:items.size<=sizeLine):wpAny (model prog w) A (getItem (.ref t) (.ref sl)) Q E s:=by
 have htake:sizeOk (.seq ((items.toList.drop (bw items.size 0 lo)).take (bw items.size items.size hi - bw items.size 0 lo)).toArray):=by
  show((items.toList.drop (bw items.size 0 lo)).take (bw items.size items.size hi - bw items.size 0 lo)).toArray.size<=sizeLine;rw[xam,xbl,xbU,xai];lia
 have hj:bw items.size items.size hi<=items.size:=zcF _ _ (xad _) hi;obtain⟨os,hos,hcs,hds⟩:=id hs;have hTs:s.TypeIs (.ref sl) "slice":=⟨os,hos,hcs⟩;unfold getItem
 try with_reducible refine xbh ?_
 first |refine xaa (xab ?_) |skip
 refine xaa (wpAny_sequenceKey ht.typeIs (by decide) ?_);refine xaa (xcN (name:=Str.ofString "__getitem__") ht.typeIs xch
  (xbE xch ht.typeIs entry_tuple_getitem ?_ (args_tuple_getitem _ _)))
 show wpAny _ _ (Builtin.Tuple.tupleItemsOf (.ref t) >>=_) _ _ s;refine xaa (tupleItemsOf_ ht ?_);refine xaa (wpAny_typeOf hTs ?_);rw[xac (by decide)];refine xaa (zaf hs pl pu ?_);have hno:¬ ((((bw items.size 0 lo:Nat):Int)==0 && (1:Int)==1 && (bw items.size items.size hi - bw items.size 0 lo)==items.size)=true):=by
  intro q;rw[xaF,xaF]at q;have q1:((bw items.size 0 lo:Nat):Int)=0:=eq_of_beq q.1.1;have q2:bw items.size items.size hi - bw items.size 0 lo=items.size:=eq_of_beq q.2;exact hw ⟨by lia,by lia⟩
 show wpAny _ _ (if (((bw items.size 0 lo:Nat):Int)==0 && (1:Int)==1 && (bw items.size items.size hi - bw items.size 0 lo)==items.size)=true then _ else _) _ _ s
 rw[xae hno,Ys]
 first
  |exact xaa (m:=Builtin.Tuple.tupleExact _) (xa2 (xab ⟨_,rfl,xab h⟩) htake)
  |exact xaa (m:=Builtin.Tuple.tupleExact _) (xa2 (xaa (xab (xab ⟨_,rfl,xab h⟩))) htake)
  |exact xaa (xaa (m:=Builtin.Tuple.tupleExact _) (xa2 (xab (xab ⟨_,rfl,xab h⟩)) htake))
  |exact xaa (xaa (m:=Builtin.Tuple.tupleExact _) (xa2 (xab ⟨_,rfl,xab h⟩) htake))
end
end HT
namespace L2
open PySem PySem.Spec PyProof.Rows
abbrev TO:=St->Hp->(Option Int->Hp->Prop)->Prop
def PO (X:Cx)(e:Option Expr)(t:TO):Prop:=
 ∀(pins:Pnx) (s:Shared) (σ:St) (H:Hp) (Q:Option Int->Hp->Prop),Inv X pins σ H s->t σ H Q->
  wpAny (model X.prog X.w) X.A (evalPart e X.env) (fun u s'=>∃o H',Inv X pins σ H' s'/\IsPart u o/\Q o H') X.xe s
def zbS:TO:=fun _ H Q=>Q none H
noncomputable def zc5 (t:TE):TO:=fun σ H Q=>t σ H fun x H1=>∃i,x=.int i/\Q (some i) H1
section
variable {X:Cx}{e:Expr}{te:TE}{lo hi:Option Expr}{tl th:TO}{pos p2:Pos}
theorem Yw:PO X none zbS:=by
 intro pins s σ H Q I h;rw[evalPart_none];exact xab ⟨none,H,I,.none,h⟩
theorem Yx (h:PE X e te):PO X (some e) (zc5 te):=by
 intro pins s σ H Q I hw;rw[evalPart_some];refine aY (h pins s σ H _ I hw) fun u s1 ⟨x,H1,I1,r1,q1⟩=>?_;obtain⟨i,rfl,q⟩:=q1;obtain⟨t,rfl⟩:=r1;exact⟨some i,H1,I1,.int i t,q⟩
def pQ (X:Cx)(r:V->Option Int->Option Int->Hp->VK->Prop):Prop:=
 ∀(pins:Pnx) (s:Shared) (σ:St) (H:Hp) (x:V) (v vl vu:Value) (lo hi:Option Int) (sl:Addr) (Q:VK),Inv X pins σ H s->RelV x v->s.heap.IsSliceOf sl vl vu .none->IsPart vl lo->IsPart vu hi->r x lo hi H Q->
  ∃T id,typeLookup (.type T) "__getitem__"=pure (some (.builtin id))/\s.TypeIs v T/\wpAny (model X.prog X.w) X.A (getItem v (.ref sl)) (EP X pins σ Q) X.xe s
theorem pQ.or (h:pQ X r)(h':pQ X r'):pQ X (fun x lo hi H Q=>r x lo hi H Q\/r' x lo hi H Q):=by
 intro pins s σ H x v vl vu lo hi sl Q I rx hs pl pu q;rcases q with q |q
 ·exact h pins s σ H x v vl vu lo hi sl Q I rx hs pl pu q
 ·exact h' pins s σ H x v vl vu lo hi sl Q I rx hs pl pu q
noncomputable def tSl (r:V->Option Int->Option Int->Hp->VK->Prop) (te:TE) (tl th:TO):TE:=fun σ H Q=>te σ H fun x H1=>tl σ H1 fun l H2=>th σ H2 fun u H3=>r x l u H3 Q
theorem OJ (hr:pQ X r)(he:PE X e te)(hl:PO X lo tl)(hu:PO X hi th):PE X (.Subscript e (.Slice lo hi none p2) pos) (tSl r te tl th):=by
 intro pins s σ H Q I h;refine Subscript_ (aY (he pins s σ H _ I h) fun v s1 ⟨x,H1,I1,r1,q1⟩=>?_);refine wpAny_Slice (aY (hl pins s1 σ H1 _ I1 q1) fun vl s2 ⟨l,H2,I2,pl,q2⟩=>aY (hu pins s2 σ H2 _ I2 q2) fun vu s3 ⟨u,H3,I3,pu,q3⟩=>?_);rw[evalPart_none];refine xab ?_;have I4:Inv X pins σ H3 {s3 with heap:=s3.heap.push {cls:=.type "slice",data:=.fields #[vl,vu,.none]}}:=I3.kept (t':=s3.toks) fun b ob q=>xag _ q;obtain⟨T,id,hT,ht,hg⟩:=hr pins {s3 with heap:=s3.heap.push {cls:=.type "slice",data:=.fields #[vl,vu,.none]}} σ H3 x v vl vu l u s3.heap.objs.size Q I4 r1 (Heap.IsSliceOf.new ..) pl pu q3;show wpAny (model X.prog X.w) X.A (subscriptTail e (.Slice lo hi none p2) v (.ref s3.heap.objs.size)) (EP X pins σ Q) X.xe {s3 with heap:=s3.heap.push {cls:=.type "slice",data:=.fields #[vl,vu,.none]}};exact tail_any (ops:=[.ref s3.heap.objs.size,v]) ht hT hg (by with_unfolding_all rfl)
noncomputable def fJ (xs:List V) (lo hi:Option Int):List V:=(xs.drop (HT.bw xs.length 0 lo)).take (HT.bw xs.length xs.length hi - HT.bw xs.length 0 lo)
theorem K5 (xs:List V)(lo hi:Option Int):(fJ xs lo hi).length<=xs.length:=by
 unfold fJ;rw[xbl,xbU];lia
def Ip (K:Fgx):V->Option Int->Option Int->Hp->VK->Prop:=fun x lo hi H Q=>∃a xs,x=.ref a/\d7 K H a xs/\
 ¬ (HT.bw xs.length 0 lo=0/\HT.bw xs.length xs.length hi=xs.length)/\∀p,H p=none->Q (.ref p) (upd H p (.tup (fJ xs lo hi)))
theorem zcm:pQ X (Ip X.K):=by
 intro pins s σ H x v vl vu lo hi sl Q I rx hs pl pu h;obtain⟨a,xs,rfl,hx,hw,q⟩:=h;cases rx;obtain⟨its,r,ht,hz⟩:=I.tuple hx;have hlen:its.toArray.size=xs.length:=by rw[xam];exact r.length.symm
 refine⟨"tuple",_,xch.lookup,ht.typeIs,?_⟩;refine HT.UW ht hs pl pu (by rw[hlen];exact hw) ?_ (by rw[hlen];exact hz);rw[hlen];refine⟨.ref s.heap.objs.size,_,I.laid (t':=s.toks) (o:=.tup (fJ xs lo hi)) (fun b ob q=>xag _ q) (xad _) ?_,rfl,q _ (I.hok.fresh (xad _))⟩;exact⟨xaq (K5 xs lo hi) hz,_,(r.drop (HT.bw xs.length 0 lo)).take (HT.bw xs.length xs.length hi - HT.bw xs.length 0 lo),IsTup.new _ _⟩
end
noncomputable def kj (n:Nat) (i:Int):Option Nat:=if 0<=i then(if i<n then some i.toNat else none) else if -(n:Int)<=i then some (i + n).toNat else none
noncomputable def cL {α:Type} (xs:List α) (i:Int):Option α:=(kj xs.length i).bind fun j=>xs[j]?
theorem Nf (h:kj n i=some j):seqIndex? i n=some j/\j<n/\ -(n:Int)<=i/\i<n:=by
 unfold kj at h
 by_cases h0:0<=i
 ·rw[xac h0]at h
  by_cases h1:i<n
  ·rw[xac h1]at h;have e:i.toNat=j:=xaD h;exact⟨by rw[seqIndex_of h0 h1,e],by lia,by lia,h1⟩
  ·rw[xae h1]at h;cases h
 ·rw[xae h0]at h
  by_cases h1: -(n:Int)<=i
  ·rw[xac h1]at h;have e:(i + n).toNat=j:=xaD h;exact⟨by rw[seqIndex_neg (by lia) h1,e],by lia,h1,by lia⟩
  ·rw[xae h1]at h;cases h
theorem Eu (h:cL xs i=some v):∃j,seqIndex? i xs.length=some j/\xs[j]? =some v/\j<xs.length/\ -(xs.length:Int)<=i/\i<xs.length:=by
  unfold cL at h
  cases e:kj xs.length i with
  |none=>rw[e]at h;cases h
  |some j=>
    rw[e]at h;obtain⟨h1,h2,h3,h4⟩:=Nf e;exact⟨j,h1,h,h2,h3,h4⟩
theorem wD {α:Type}{xs:List α}{j:Nat}{v:α}(h:xs[j]? =some v):cL xs (j:Int)=some v:=by
 have hj:j<xs.length:=(xaz.mp h).1;have e:kj xs.length (j:Int)=some j:=by
  unfold kj;rw[xac (by lia),xac (by lia)];simp
 unfold cL;rw[e];exact h
def Eo (b:Expr):Prop:=∀o i,subscripted b false o i=operate [o,i] (getItem o i)
def mC (X:Cx)(r:R2):Prop:=
 ∀(value slice:Expr) (pins:Pnx) (s:Shared) (σ:St) (H:Hp) (x y:V) (v u:Value) (Q:VK),Inv X pins σ H s->RelV x v->RelV y u->r x y H Q->
  subscripted slice false v u=operate [v,u] (getItem v u)->wpAny (model X.prog X.w) X.A (subscriptTail value slice v u) (EP X pins σ Q) X.xe s
def Em (X:Cx)(id:String)(r:V->List V->Hp->VK->Prop):Prop:=
 ∀(pins:Pnx) (s:Shared) (σ:St) (H:Hp) (x:V) (xs:List V) (v:Value) (us:List Value) (Q:VK),Inv X pins σ H s->RelV x v->Vals xs us->r x xs H Q->
  wpAny (model X.prog X.w) X.A (call (.builtin id) (v::us)) (EP X pins σ Q) X.xe s
section
variable {X:Cx}{a b:Expr}{ta tb:TE}{pos:Pos}
theorem mC.or (h:mC X r)(h':mC X r'):mC X (fun x y H Q=>r x y H Q\/r' x y H Q):=by
 intro value slice pins s σ H x y v u Q I rx ry q hs;rcases q with q |q
 ·exact h value slice pins s σ H x y v u Q I rx ry q hs
 ·exact h' value slice pins s σ H x y v u Q I rx ry q hs
theorem Yb (hr:mC X r)(ha:PE X a ta)(hb:PE X b tb)(hs:Eo b):PE X (.Subscript a b pos) (z7 r ta tb):=by
 intro pins s σ H Q I h;exact Subscript_ (sX ha hb I h fun v u s2 x y H2 I2 rx ry q=>hr a b pins s2 σ H2 x y v u Q I2 rx ry q (hs _ _))
noncomputable def tZ (K:Fgx):R2:=fun x y H Q=>∃p xs i v,x=.ref p/\y=.int i/\bI K H p xs/\cL xs i=some v/\Q v H
noncomputable def uc (K:Fgx):R2:=fun x y H Q=>∃p xs i v,x=.ref p/\y=.int i/\d7 K H p xs/\cL xs i=some v/\Q v H
noncomputable def t_:R2:=fun x y H Q=>∃z i c,x=.str z/\y=.int i/\z.length<=sizeLine/\cL z.cps.toList i=some c/\Q (.str ⟨#[c]⟩) H
theorem Vo:mC X (tZ X.K):=by
 intro value slice pins s σ H x y v u Q I rx ry h hs;obtain⟨p,xs,i,z,rfl,rfl,hq,he,q⟩:=h;cases rx;obtain⟨t,rfl⟩:=ry;obtain⟨its,r,pl,hz⟩:=I.list hq;obtain⟨j,h1,h2,h3,h4,h5⟩:=Eu he;obtain⟨w,ew,rw'⟩:=r.get h2;have hl:=r.length;have hn:=tU;have fin:EP X pins σ Q w s:=⟨z,H,I,rw',q⟩
 by_cases h0:0<=i
 ·have hj:i.toNat=j:=by
   rw[seqIndex_of h0 h5]at h1;exact xaD h1
  exact item_listR pl.isList h0 (by lia) (by rw[hj];simpa using ew) fin hs
 ·have hj:(i + (its.toArray.size:Int)).toNat=j:=by
   rw[seqIndex_neg (by lia) h4]at h1;rw[xam, <-hl];exact xaD h1
  exact subscriptTail_builtinR (x:=w) pl.isList.typeIs slot_list_getitem.lookup
   (wpAny_getItem_list_neg (Q:=fun r s'=>r=w/\EP X pins σ Q r s') pl.isList (by lia) (by rw[xam]<;>lia) (by lia) (by rw[hj];simpa using ew) ⟨rfl,fin⟩) hs
theorem Vq:mC X (uc X.K):=by
 intro value slice pins s σ H x y v u Q I rx ry h hs;obtain⟨p,xs,i,z,rfl,rfl,hq,he,q⟩:=h;cases rx;obtain⟨t,rfl⟩:=ry;obtain⟨its,r,pl,hz⟩:=I.tuple hq;obtain⟨j,h1,h2,h3,h4,h5⟩:=Eu he;obtain⟨w,ew,rw'⟩:=r.get h2;have hl:=r.length;have hn:=tU;have fin:EP X pins σ Q w s:=⟨z,H,I,rw',q⟩;exact subscriptTail_builtinR (x:=w) pl.typeIs slot_tuple_getitem.lookup
  (getItem_tuple (j:=j) (Q:=fun r s'=>r=w/\EP X pins σ Q r s') pl (by lia) (by lia) (by rw[xam, <-hl];exact h1) (by simpa using ew) ⟨rfl,fin⟩) hs
theorem Vp:mC X t_:=by
 intro value slice pins s σ H x y v u Q I rx ry h hs;obtain⟨z,i,c,rfl,rfl,hz,he,q⟩:=h;obtain⟨t,rfl⟩:=rx;obtain⟨t',rfl⟩:=ry;obtain⟨j,h1,h2,h3,h4,h5⟩:=Eu he;have hl:z.cps.toList.length=z.length:=by simp[Str.length]
 rw [hl] at h1 h4 h5;have hn := tU;exact tail_any (typeIs_str s z t) slot_str_getitem.lookup (getItem_str (c := c) (by
  have e1:decide (i< -(2 ^ 63:Int))=false:=xaI (by lia);have e2:decide (i >=2 ^ 63)=false:=xaI (by lia);rw[e1,e2,Bool.or_false]) (by rw[h1];simpa using h2) ⟨.str ⟨#[c]⟩,H,I.tok _,⟨_,rfl⟩,q⟩) hs
noncomputable def Ij (K:Fgx):R2:=fun x y H Q=>tZ K x y H Q\/uc K x y H Q\/t_ x y H Q
theorem V_ (its:List Value)(n j:Nat)(u:Value):Obj.mapSeq (·.setIfInBounds j u) {cls:=.type "list",data:=.seq its.toArray n}={cls:=.type "list",data:=.seq (its.set j u).toArray n}:=by
 simp[Obj.mapSeq]
theorem Inv.lst (I:Inv X pins σ H s)(h:H p=some (.lst xs)):
  ∃(its:List Value) (n:Nat),Vals xs its/\s.heap.get? p=some {cls:=.type "list",data:=.seq its.toArray n}/\xs.length<=sizeLine:=by
 obtain⟨z,its,n,r,e⟩:=I.hok p _ h;exact⟨its,n,r,e,z⟩
theorem Inv.lstUpd {pins:Pnx}{σ:St}{H:Hp}{s:Shared}{p:Addr}{xs ys:List V}{its its':List Value}{n n':Nat}{f:Obj->Obj}(I:Inv X pins σ H s)(h:H p=some (.lst xs))
  (ho:s.heap.get? p=some {cls:=.type "list",data:=.seq its.toArray n}) (hf:f {cls:=.type "list",data:=.seq its.toArray n}={cls:=.type "list",data:=.seq its'.toArray n'}) (r:Vals ys its') (hz:ys.length<=sizeLine) (t:Nat):
  Inv X pins σ (upd H p (.lst ys)) {s with heap:=s.heap.update p f,toks:=t}:=by
 have e:(s.heap.update p f).get? p=some {cls:=.type "list",data:=.seq its'.toArray n'}:=by
  rw[xbG f ho (by rw[hf]<;>rfl),hf]
 refine I.write (x:=p) (e:=p) (by rw[h];trivial) (.inl rfl) (fun b u hb q=>(xa3 _ _ (xbR hb)).trans q) ⟨_,e⟩ ?_;exact⟨hz,its',n',r,e⟩
def ZV:V->V->V->Hp->(Hp->Prop)->Prop:=fun o i v H Q=>∃p xs k j,o=.ref p/\i=.int k/\H p=some (.lst xs)/\kj xs.length k=some j/\Q (upd H p (.lst (xs.set j v)))
theorem set_list:xX X ZV:=by
 intro pins s σ H o i v ov iv u Q I ro ri rv h;obtain⟨p,xs,k,j,rfl,rfl,hp,hj,q⟩:=h;cases ro;obtain⟨t,rfl⟩:=ri;obtain⟨its,n,r,ho,hz⟩:=I.lst hp;obtain⟨h1,h2,h3,h4⟩:=Nf hj;have hl:=r.length;have hn:=tU;have I':Inv X pins σ (upd H p (.lst (xs.set j v))) {s with heap:=s.heap.update p (Obj.mapSeq (·.setIfInBounds j u))}:=
  I.lstUpd hp ho (V_ its n j u) (r.set rv j) (by rw[xaU];exact hz) s.toks
 by_cases h0:0<=k
 ·have hk:k.toNat=j:=by
   rw[seqIndex_of h0 h4]at h1;exact xaD h1
  exact PySem.W.ki_setAt ho h0 (by lia) (by rw[xam, <-hl];exact h4) (by rw[hk];exact⟨_,I',q⟩)
 ·have hk:(k + (its.toArray.size:Int)).toNat=j:=by
   rw[seqIndex_neg (by lia) h3]at h1;rw[xam, <-hl];exact xaD h1
  exact PySem.W.ki_setBack ho (by lia) (by rw[xam, <-hl];exact h3) (by lia) (by rw[hk];exact⟨_,I',q⟩)
theorem zak (lo hi:Option Int)(n:Nat):(sliceBounds lo hi none n).1=((HT.bw n 0 lo:Nat):Int)/\(sliceBounds lo hi none n).2.1=((HT.bw n n hi:Nat):Int)/\(sliceBounds lo hi none n).2.2=1:=by
  refine⟨?_,?_,rfl⟩
  · cases lo with
    |none=>simp[sliceBounds,HT.bw]
    |some i=>
      simp only[sliceBounds,HT.bw,Option.getD_none,show(1:Int) > 0 by decide,xbi]
      by_cases h:i<0
      · simp only[h,xbi]<;>lia
      · simp only[h,xbb]<;>lia
  · cases hi with
    |none=>simp[sliceBounds,HT.bw]
    |some i=>
      simp only[sliceBounds,HT.bw,Option.getD_none,show(1:Int) > 0 by decide,xbi]
      by_cases h:i<0
      · simp only[h,xbi]<;>lia
      · simp only[h,xbb]<;>lia
theorem zah (its:List Value)(lo hi:Option Int):slicePick its.toArray lo hi none=((its.drop (HT.bw its.length 0 lo)).take (HT.bw its.length its.length hi - HT.bw its.length 0 lo)).toArray:=by
 obtain⟨h1,h2,h3⟩:=zak lo hi its.toArray.size;unfold slicePick;rw[h1,h2,h3];simp only[sliceRange_one,pick_run,xam]<;>rfl
def Im (K:Fgx):V->Option Int->Option Int->Hp->VK->Prop:=fun x lo hi H Q=>∃a xs,x=.ref a/\bI K H a xs/\∀p,H p=none->Q (.ref p) (upd H p (.lst (fJ xs lo hi)))
theorem zbr:pQ X (Im X.K):=by
 intro pins s σ H x v vl vu lo hi sl Q I rx hs pl pu h;obtain⟨a,xs,rfl,hx,q⟩:=h;cases rx;obtain⟨its,r,ht,hz⟩:=I.list hx;have hlen:=r.length;refine⟨"list",_,slot_list_getitem.lookup,ht.isList.typeIs,?_⟩;refine wpAny_getItem_list_slice ht.isList hs pl pu .none (by simp) ?_ (by rw[xam]<;>lia)
 rw[zah, <-hlen];refine⟨.ref s.heap.objs.size,_,I.laid (t':=s.toks) (o:=.lst (fJ xs lo hi)) (fun b ob q=>xag _ q) (xad _) ?_,rfl,q _ (I.hok.fresh (xad _))⟩;exact⟨xaq (K5 xs lo hi) hz,_,0,(r.drop (HT.bw xs.length 0 lo)).take (HT.bw xs.length xs.length hi - HT.bw xs.length 0 lo),xav _ rfl⟩
noncomputable def mH:V->Bool
 |.non=>true
 |.bl _=>true
 |.int _=>true
 |.str _=>true
 |_=>false
noncomputable def nH:V->V->Bool
 |.non,.non=>true
 |.bl a,.bl b=>a==b
 |.bl a,.int b=>(if a then 1 else 0)==b
 |.int a,.bl b=>a==(if b then 1 else 0)
 |.int a,.int b=>a==b
 |.str a,.str b=>a==b
 |_,_=>false
theorem T9 (ry:RelV y u)(rx:RelV x v)(fy:mH y=true)(fx:mH x=true):SeqAt.EqAt A s u v (nH y x):=by
  cases y with
  |non=>
    cases ry
    cases x with
    |non=>cases rx;exact xdj _
    |bl b=>cases rx;exact SeqAt.EqAt.none_bool b
    |int b=>obtain⟨t,rfl⟩:=rx;exact SeqAt.EqAt.none_int b t
    |str b=>obtain⟨t,rfl⟩:=rx;exact SeqAt.EqAt.none_str b t
    |_=>exact absurd (show false=true from fx) xaB
  |bl a=>
    cases ry
    cases x with
    |non=>cases rx;exact SeqAt.EqAt.bool_none a
    |bl b=>cases rx;exact SeqAt.EqAt.bool_bool a b
    |int b=>obtain⟨t,rfl⟩:=rx;exact SeqAt.EqAt.bool_int a b t
    |str b=>obtain⟨t,rfl⟩:=rx;exact SeqAt.EqAt.bool_str a b t
    |_=>exact absurd (show false=true from fx) xaB
  |int a=>
    obtain⟨t',rfl⟩:=ry
    cases x with
    |non=>cases rx;exact SeqAt.EqAt.int_none a t'
    |bl b=>cases rx;exact SeqAt.EqAt.int_bool a t' b
    |int b=>obtain⟨t,rfl⟩:=rx;exact xdB a t' b t
    |str b=>obtain⟨t,rfl⟩:=rx;exact xdy a t' b t
    |_=>exact absurd (show false=true from fx) xaB
  |str a=>
    obtain⟨t',rfl⟩:=ry
    cases x with
    |non=>cases rx;exact SeqAt.EqAt.str_none a t'
    |bl b=>cases rx;exact SeqAt.EqAt.str_bool a t' b
    |int b=>obtain⟨t,rfl⟩:=rx;exact xdz a t' b t
    |str b=>obtain⟨t,rfl⟩:=rx;exact xdC a t' b t
    |_=>exact absurd (show false=true from fx) xaB
  |_=>exact absurd (show false=true from fy) xaB
noncomputable def gb (x:V) (u:Value):Bool:=match u with
 |.none=>nH .non x
 |.bool b=>nH (.bl b) x
 |.int i _=>nH (.int i) x
 |.str z _=>nH (.str z) x
 |_=>false
theorem Le (r:RelV y u)(f:mH y=true):gb x u=nH y x:=by
 cases y with
 |non=>cases r;rfl
 |bl b=>cases r;rfl
 |int i=>obtain⟨t,rfl⟩:=r;rfl
 |str z=>obtain⟨t,rfl⟩:=r;rfl
 |_=>exact absurd (show false=true from f) xaB
theorem yc:∀{xs:List V} {us:List Value},Vals xs us->xs.all mH=true->us.any (gb x)=xs.any fun y=>nH y x
  |_,_,.nil,_=>rfl
  |y::xs,u::us,.cons r t,f=>by
    rw[xb2,xaF]at f;rw[xc1,xc1,Le r f.1,yc t f.2]
theorem yU (rx:RelV x v)(fx:mH x=true):∀{xs:List V} {us:List Value},Vals xs us->xs.all mH=true->∀u∈us,SeqAt.EqAt A s u v (gb x u)
  |_,_,.nil,_=>fun u hu=>by cases hu
  |y::xs,u::us,.cons r t,f=>fun u' hu=>by
    rw[xb2,xaF]at f;rcases xar.mp hu with rfl |hu
    · rw[Le r f.1];exact T9 r rx f.1 fx
    · exact yU rx fx t f.2 u' hu
def inV (x:V)(xs:List V):Bool:=xs.any fun y=>nH y x
noncomputable def CN (K:Fgx) (neg:Bool):R2:=fun x y H Q=>∃p xs,y=.ref p/\(bI K H p xs\/d7 K H p xs)/\mH x=true/\xs.all mH=true/\Q (.bl (if neg then !inV x xs else inV x xs)) H
theorem Xo:bM X (compareOp .In) (CN X.K false):=by
 intro pins s σ H x y v u Q I rx ry h;obtain⟨p,xs,rfl,hq,fx,fs,q⟩:=h;cases ry;rcases hq with hq |hq
 ·obtain⟨its,r,pl,hz⟩:=I.list hq;refine SeqAt.in_listAt (gb x) pl.isList (fun w hw=>yU rx fx r fs w (by simpa using hw)) ⟨.bl _,H,I,rfl,?_⟩;rw[show its.toArray.any (gb x)=its.any (gb x) by simp,yc r fs];exact q
 ·obtain⟨its,r,pl,hz⟩:=I.tuple hq;refine SeqAt.in_tupleAt (gb x) pl (fun w hw=>yU rx fx r fs w (by simpa using hw)) ⟨.bl _,H,I,rfl,?_⟩;rw[show its.toArray.any (gb x)=its.any (gb x) by simp,yc r fs];exact q
theorem Xz:bM X (compareOp .NotIn) (CN X.K true):=by
 intro pins s σ H x y v u Q I rx ry h;obtain⟨p,xs,rfl,hq,fx,fs,q⟩:=h;cases ry;rcases hq with hq |hq
 ·obtain⟨its,r,pl,hz⟩:=I.list hq;refine SeqAt.notIn_listAt (gb x) pl.isList (fun w hw=>yU rx fx r fs w (by simpa using hw)) ⟨.bl _,H,I,rfl,?_⟩;rw[show its.toArray.any (gb x)=its.any (gb x) by simp,yc r fs];exact q
 ·obtain⟨its,r,pl,hz⟩:=I.tuple hq;refine SeqAt.notIn_tupleAt (gb x) pl (fun w hw=>yU rx fx r fs w (by simpa using hw)) ⟨.bl _,H,I,rfl,?_⟩;rw[show its.toArray.any (gb x)=its.any (gb x) by simp,yc r fs];exact q
theorem S9:dz X (.builtin "len") (fun xs H Q=>∃p ys,xs=[.ref p]/\(bI X.K H p ys\/d7 X.K H p ys)/\Q (.int ys.length) H):=by
 intro pins s σ H xs us Q I r h;obtain⟨p,ys,rfl,hq,q⟩:=h;obtain⟨u,rfl,rx⟩:=vals1 r;cases rx;have hn:=tU;rcases hq with hq |hq
 ·obtain⟨its,r',pl,hz⟩:=I.list hq;have hlen:=r'.length;exact Calls.call_len_list pl.isList (by simp only[xam]<;>lia) ⟨.int ys.length,H,I.tok _,⟨s.toks + 1,by rw[xam,hlen]⟩,q⟩
 ·obtain⟨its,r',pl,hz⟩:=I.tuple hq;have hlen:=r'.length;exact len_tuple pl (by simp only[xam]<;>lia) ⟨.int ys.length,H,I.tok _,⟨s.toks + 1,by rw[xam,hlen]⟩,q⟩
theorem S_:dz X (.builtin "len") (fun xs H Q=>∃z,xs=[.str z]/\z.length<=sizeLine/\Q (.int z.length) H):=by
 intro pins s σ H xs us Q I r h;obtain⟨z,rfl,hz,q⟩:=h;obtain⟨u,rfl,t,rfl⟩:=vals1 r;have hn:=tU;exact len_str (by lia) ⟨.int z.length,H,I.tok _,⟨_,rfl⟩,q⟩
theorem dz.or (h:dz X f r)(h':dz X f r'):dz X f (fun xs H Q=>r xs H Q\/r' xs H Q):=by
 intro pins s σ H xs us Q I rs q;rcases q with q |q
 ·exact h pins s σ H xs us Q I rs q
 ·exact h' pins s σ H xs us Q I rs q
theorem Tc:dz X (.type "list") (fun xs H Q=>∃p ys,xs=[.ref p]/\(bI X.K H p ys\/d7 X.K H p ys)/\∀l,H l=none->Q (.ref l) (upd H l (.lst ys))):=by
 intro pins s σ H xs us Q I r h;obtain⟨p,ys,rfl,hq,q⟩:=h;obtain⟨u,rfl,rx⟩:=vals1 r;cases rx;have fin:∀(its:List Value),Vals ys its->ys.length<=sizeLine->∀(h':Heap) (c':Nat),(∀b o',s.heap.get? b=some o'->h'.get? b=some o')->
   h'.get? s.heap.objs.size=some {cls:=.type "list",dict:=none,data:=.seq its.toArray c',slots:= #[]}->EP X pins σ Q (.ref s.heap.objs.size) {s with heap:=h'}:=fun its r' hz h' c' kp e=>
  ⟨.ref s.heap.objs.size,_,I.laid (t':=s.toks) kp (xad _) (show eG X.prog X.w _ h' _ (.lst ys) from⟨hz,its,c',r',e⟩),rfl,q _ (I.hok.fresh (xad _))⟩
 rcases hq with hq |hq
 ·obtain⟨its,r',pl,hz⟩:=I.list hq;have hlen:=r'.length;obtain⟨o,ho,hc,n,hd⟩:=pl.isList;exact call_list_seq p (.inl rfl) ho hc hd (fun h' c' kp e=>fin its r' hz h' c' kp e) (by simp only[xam]<;>lia)
 ·obtain⟨its,r',pl,hz⟩:=I.tuple hq;have hlen:=r'.length;obtain⟨o,ho,hc,n,hd⟩:=pl;exact call_list_seq p (.inr rfl) ho hc hd (fun h' c' kp e=>fin its r' hz h' c' kp e) (by simp only[xam]<;>lia)
def Rt (K:Fgx)(T:String)(x:V)(H:Hp):Prop:=match x with
 |.str _=>T="str"
 |.int _=>T="int"
 |.ref p=>(T="list"/\∃xs,bI K H p xs)\/(T="tuple"/\∃o,K.lookup p=some o/\o.cls=.type "tuple"/\o.dict=none)\/
   (T="dict"/\((∃kvs,H p=some (.dK kvs))\/∃kvs,H p=some (.dT kvs)))\/(T="set"/\∃S n,H p=some (.set S n))
 |_=>False
theorem zcE (I:Inv X pins σ H s)(r:RelV x v)(ty:Rt X.K T x H):
    s.TypeIs v T/\∀a,v=.ref a->∃ob,s.heap.get? a=some ob/\ob.dict=none:=by
  cases x with
  |str z=>
    obtain⟨t,rfl⟩:=r;cases (show T="str" from ty);exact⟨typeIs_str s z t,fun _ e=>nomatch e⟩
  |int i=>
    obtain⟨t,rfl⟩:=r;cases (show T="int" from ty);exact⟨typeIs_int s i t,fun _ e=>nomatch e⟩
  |ref p=>
    cases r;rcases ty with⟨rfl,xs,hq⟩ |⟨rfl,o,hk,hc,hd⟩ |⟨rfl,hk⟩ |⟨rfl,S,n,hk⟩
    · obtain⟨its,_,pl,_⟩:=I.list hq;refine⟨pl.isList.typeIs,fun a e=>?_⟩;cases e;obtain⟨o,n,e,c,hd,_⟩:=pl;exact⟨o,e,hd⟩
    · refine⟨⟨o,I.kIn p o hk,hc⟩,fun a e=>?_⟩;cases e;exact⟨o,I.kIn _ o hk,hd⟩
    · have z:∃o,s.heap.get? p=some o/\o.ExactDict:=by
        rcases hk with⟨kvs,hk⟩ |⟨kvs,hk⟩
        · obtain⟨_,_,_,_,o,_,_,e,ex,_⟩:=I.hok p _ hk;exact⟨o,e,ex⟩
        · obtain⟨_,_,_,_,o,_,_,e,ex,_⟩:=I.hok p _ hk;exact⟨o,e,ex⟩
      obtain⟨o,e,ex⟩:=z;refine⟨⟨o,e,ex.1⟩,fun a e2=>?_⟩;cases e2;exact⟨o,e,ex.2.1⟩
    · obtain⟨o,_,_,_,e,ex,_⟩:=I.hok p _ hk;refine⟨⟨o,e,ex.1⟩,fun a e2=>?_⟩;cases e2;exact⟨o,e,ex.2.1⟩
  |_=>exact False.elim ty
noncomputable def tBM (K:Fgx) (T:String) (r:V->List V->Hp->VK->Prop) (to:TE) (t:TA):TE:=fun σ H Q=>to σ H fun x H1=>Rt K T x H1/\t σ H1 fun xs H2=>r x xs H2 Q
variable {o e:Expr}{es:List Expr}{to:TE}{t:TA}{name:Str}{apos cpos:Pos}{T id:String}{r:V->List V->Hp->VK->Prop}
theorem Hz (pa:PlainAttrs T)(slot:Slot T name id)(hty:typeOf (.builtin id)=pure (.type "method_descriptor"))(hm:Em X id r)(ho:PE X o to)(ha:PA X (e::es) t)
  (hbase:attributeBase o name X.env (eval o X.env)=eval o X.env:=by rfl)
  (hfew : ((backTo cpos (starEach (e::es) X.env)).all (fun x=> !x.1) && (backToKw cpos (keywordEach [] X.env)).all (fun x=>x.1.isSome)
   && decide ((e::es).length + ([]:List Keyword).length + (if ([]:List Keyword).isEmpty then 0 else 1)<30))=true:=by rfl)
  (hline:(apos.endLine==cpos.line)=true:=by rfl) (hs:starEach (e::es) X.env=(false,eval e X.env)::starEach es X.env:=by rfl) (hplain:(backTo cpos (starEach es X.env)).any (·.1)=false:=by rfl):
  PE X (.Call (.Attribute o name apos) (e::es) [] cpos) (tBM X.K T r to t):=by
 intro pins s σ H Q I h;refine wpAny_Call_method_late hbase hfew hline rfl (aY (ho pins s σ H _ I h) fun v s1 ⟨x,H1,I1,r1,ty,q1⟩=>?_);obtain⟨h1,h2⟩:=zcE I1 r1 ty;refine⟨T,id,pa,slot,hty,h1,h2,?_⟩;have hA:=ha cpos pins s1 σ H1 _ I1 q1;rw[hs]at hA ⊢;refine Calls.callWith_builtin (by show(false || (backTo cpos (starEach es X.env)).any (·.1))=false;rw[hplain]<;>rfl) (Calls.evalArgs_plain ?_)
 exact aY hA fun us s2 ⟨vs,H2,I2,r2,q2⟩=>hm pins s2 σ H2 x vs v us Q I2 r1 r2 q2
end
def R4 (X:Cx)(id:String)(r:V->List V->Hp->VK->Prop):Prop:=
 ∀(pins:Pnx) (s:Shared) (σ:St) (H:Hp) (x:V) (xs:List V) (v:Value) (us:List Value) (Q:VK),Inv X pins σ H s->RelV x v->Vals xs us->r x xs H Q->
  wpAny (model X.prog X.w) X.A (call (.builtin id) (v::us)) (EP X pins σ Q) X.xe s
theorem Vals.one:∀{x:V} {us:List Value},Vals [x] us->∃u,us=[u]/\RelV x u
 |_,_,.cons r .nil=>⟨_,rfl,r⟩
theorem Vals.rep (h:Vals xs us):∀k:Nat,Vals (List.replicate k xs).flatten (List.replicate k us).flatten
  |0=>.nil
  |k + 1=>by
    rw[xbB,xbB,xb4,xb4];exact Vals.append h (Vals.rep h k)
theorem foldl_rep (its:List Value):∀(k:Nat) (acc:List Value),
    List.foldl (fun x1 x2=>x1 ++ x2) acc.toArray (List.replicate k its.toArray)=(acc ++ (List.replicate k its).flatten).toArray
  |0,acc=>by simp
  |k + 1,acc=>by
    have e:acc.toArray ++ its.toArray=(acc ++ its).toArray:=by simp
    have e2:(acc ++ its) ++ (List.replicate k its).flatten=acc ++ (List.replicate (k + 1) its).flatten:=by
      rw[xbB,xb4,xat]
    rw[<-e2, <-foldl_rep its k (acc ++ its), <-e,xbB,xaG]
section
variable {X:Cx}{pins:Pnx}{σ:St}{H:Hp}{s:Shared}{l b:Addr}{xs ys zs:List V}
theorem Inv.lset {its its':List Value}{n:Nat}{f:Array Value->Array Value}{t':Nat}(I:Inv X pins σ H s)(hH:H l=some (.lst xs))
  (e:s.heap.get? l=some {cls:=.type "list",data:=.seq its.toArray n}) (hf:f its.toArray=its'.toArray) (hv:Vals ys its') (hz:ys.length<=sizeLine):
  Inv X pins σ (upd H l (.lst ys)) {s with heap:=s.heap.update l (Obj.mapSeq f),toks:=t'}:=by
 have q:=PySem.IsL.update e f;rw[hf]at q;refine I.write (x:=l) (e:=l) (by rw[hH];exact trivial) (.inl rfl) (fun b' u hb hu=>(xa3 s.heap (Obj.mapSeq f) (xbR hb)).trans hu) ⟨_,q⟩ ?_;exact⟨hz,its',_,hv,q⟩
theorem Inv.lnew (I:Inv X pins σ H s)(hv:Vals ys its)(hz:ys.length<=sizeLine):
  Inv X pins σ (upd H s.heap.objs.size (.lst ys)) {s with heap:=s.heap.push {cls:=.type "list",data:=.seq its.toArray},toks:=t'}:=
 I.laid (fun _ _ q=>xag _ q) (xad _) ⟨hz,its,0,hv,xav _ rfl⟩
theorem Inv.fresh (I:Inv X pins σ H s):H s.heap.objs.size=none:=I.hok.fresh (xad _)
theorem Inv.lstM (I:Inv X pins σ H s)(hH:H l=some (.lst xs)):xs.length<=sizeLine/\∃(its:List Value) (n:Nat),Vals xs its/\xs.length=its.length/\s.heap.get? l=some {cls:=.type "list",data:=.seq its.toArray n}:=by
 obtain⟨z,its,n,r,e⟩:=I.hok l _ hH;exact⟨z,its,n,r,r.length,e⟩
theorem Wh (h:n<=sizeLine):Builtin.List.listTooLong n=false:=by
 unfold Builtin.List.listTooLong;exact xaI (by lia)
end
section
variable {X:Cx}
def ZP:V->List V->Hp->VK->Prop:=fun x vs H Q=>∃l xs y,x=.ref l/\vs=[y]/\H l=some (.lst xs)/\xs.length<sizeLine/\Q .non (upd H l (.lst (xs ++ [y])))
theorem Hf:R4 X "list.append" ZP:=by
 intro pins s σ H x vs v us Q I rx rv h;obtain⟨l,xs,y,rfl,rfl,hH,hz,q⟩:=h;cases rx;obtain⟨u,rfl,ru⟩:=rv.one;obtain⟨z,its,n,r,hl,e⟩:=I.lstM hH;refine call_meets F.slot_list_append ⟨_,e,rfl⟩ F.entry_list_append (F.args_list_append_2 _ _) (PySem.list_append l its.toArray n u (by rw[xam];lia)) ⟨e,?_⟩;refine⟨.non,_,I.lset (its':=its ++ [u]) hH e (by simp) (r.append (.cons ru .nil)) ?_,rfl,q⟩;rw[xaj,xaA];lia
noncomputable def Il:R2:=fun x y H Q=>∃l k xs,x=.ref l/\y=.int k/\H l=some (.lst xs)/\ -(2 ^ 63)<=k/\k<2 ^ 63/\xs.length * k.toNat<=sizeLine/\
 ∀p,H p=none->Q (.ref p) (upd H p (.lst (List.replicate k.toNat xs).flatten))
theorem len_rep (xs:List α)(k:Nat):(List.replicate k xs).flatten.length=k * xs.length:=by
 induction k with
 |zero=>simp
 |succ k ih=>rw[xbB,xb4,xaj,ih,Nat.succ_mul,Nat.add_comm]
theorem XH:bM X (binaryOp .Mult) Il:=by
  intro pins s σ H x y v u Q I rx ry h;obtain⟨l,k,xs,rfl,rfl,hH,h1,h2,hz,q⟩:=h;cases rx;obtain⟨t,rfl⟩:=ry;obtain⟨z,its,n,r,hl,e⟩:=I.lstM hH;have hlen:its.toArray.size * k.toNat<=sizeLine:=by rw[xam, <-hl];exact hz
  have hcap:¬ its.toArray.size * k.toNat > (2 ^ 63 - 1) / 8:=by
    have:(sizeLine:Nat)<=(2 ^ 63 - 1) / 8:=by decide
    lia
  have hfit:¬ (!Builtin.List.listFitsIndex k)=true:=by
    rw[fitsIndex_both h1 h2];exact xaB
  have hlong:¬ Builtin.List.listTooLong (its.toArray.size * k.toNat)=true:=by
    rw[Wh hlen];exact xaB
  have hnew:List.foldl (fun x1 x2=>x1 ++ x2) #[] (List.replicate (if its.toArray.isEmpty=true then 0 else k.toNat) its.toArray)=(List.replicate k.toNat its).flatten.toArray:=by
    have f0:∀m:Nat,List.foldl (fun x1 x2=>x1 ++ x2) #[] (List.replicate m its.toArray)=(List.replicate m its).flatten.toArray:=fun m=>by
      have:=foldl_rep its m [];rw[xa4]at this;exact this
    rw[f0]
    cases its with
    |nil=>simp
    |cons a r'=>rw[xae (by simp)]
  refine wpAny_binaryOp_repeat_ref (T:="list") (U:="int") (by decide) ⟨_,e,rfl⟩ (fun s'=>typeIs_int s' k t) noFill_list_mul F.fills_int_mul F.slot_int_rmul repeat_list F.slot_int_index.lookup
    (call_meets F.slot_int_rmul (typeIs_int s k t) F.entry_int_rmul (F.args_int_rmul_2 _ _) (int___rmul___int_list k t l its.toArray n)
      ⟨e,rfl,⟨_,e,rfl⟩,call_meets F.slot_list_mul ⟨_,e,rfl⟩ F.entry_list_mul (F.args_list_mul_2 _ _) (AutoListH.list___mul___list_int_3 l its.toArray n k t hfit hcap hlong) ⟨e,?_⟩⟩)
  rw[hnew];exact⟨.ref _,_,I.lnew (t':=s.toks) (r.rep k.toNat) (by rw[len_rep,Nat.mul_comm];exact hz),rfl,q _ I.fresh⟩
end
end L2
namespace Att
open PySem PySem.W PySem.Calls PyProof.Rows
theorem Vd:∀(ns:List Int) (vs:List Value),WellAll P h vs (ns.map WData.int)->IntsAre vs ns:=by
  intro ns
  induction ns with
  |nil=>
    intro vs w;rw[xdk]at w;cases w;exact .nil
  |cons n ns ih=>
    intro vs w;rw[xaP]at w
    cases w with
    |cons a b=>
      cases a;exact .cons _ _ (ih _ b)
theorem zaL {l:OpenLaw}{n:Nat}(hn:l.most=some n){P:Params}{h:Heap}{args:List WData}{vals:List Value}
    (hpre:l.row.toRowW.claim.pre args=true) (hwl:WellAll P h vals args):
    ∃a vs ns,vals=[Value.ref a]/\args=[WData.list (ns.map WData.int)]/\h.get? a=some {cls:=.type "list",data:=.seq vs.toArray}/\IntsAre vs ns/\ns.length<=n:=by
  have hsh:WShape.hasAll [] args [.list .int]=true:=(pre_splitW hpre).1;have hc:l.pre.holds [] {args:=args}=true:=(pre_splitW hpre).2;obtain⟨d,r,rfl,h1,h2⟩:=hasAllW_cons hsh;obtain rfl:=hasAllW_nil h2;obtain⟨xs,rfl,h3⟩:=hasW_list h1;obtain⟨ns,rfl⟩:=items_int h3;have hlen:ns.length<=n:=by
    unfold OpenLaw.pre at hc;have h4:(WTm.not (.lt (.lit (.int (n:Int))) (.len (.arg 0)))).holds [] {args:=[.list (ns.map .int)]}=true:=by
      have h4:=(holds_andW hc).1;rw[hn]at h4;exact h4
    have h5:=condW_of h4 (w_not (w_lt w_lit (w_len_list (w_arg rfl))));rw[xaf]at h5;refine xbu fun q=>?_;have q':(n:Int)<((ns.length:Nat):Int):=by lia
    first
      |(rw[xaW q']at h5;exact absurd h5 (by decide))
      |(simp at h5;lia)
  cases hwl with
  |cons w1 w2=>
    cases w2
    cases w1 with
    |list ho hall=>exact⟨_,_,ns,rfl,rfl,ho,Vd ns _ hall,hlen⟩
theorem Yy (l:OpenLaw)(args:List WData):l.row.toRowW.claim.post args (.bool true) args=true:=
 postW_of (r:=l.row.toRowW) (X:=(true==true))
  (show WShape.has [] (.bool true) .bool=true by first |rfl |decide |simp[WShape.has,WShape.arms,WShape.armsAll])
  (show(WTm.eq .res (.lit (.bool true))).value [] {args:=args,res:=some (.bool true),after:=args}=some (.bool (true==true)) from w_eq_bool (w_res rfl) w_lit) rfl
theorem Sh {l:OpenLaw}{n:Nat}{q:Program}{loose:List Str}{XP:(Mgx)->Heap->Prop}{YP:World->Heap->Prop}{d:DefRec}
  (hn:l.most=some n) (hdf:d.params.defaults=[])
  (call:∀(w:World) (s₀ s₁:Shared) (mg mb:Mgx) (fa:Addr) (o:Obj) (pm cd doc:Value) (a:Addr) (vs:List Value) (ns:List Int),
   Ground q loose [] XP w s₀ mg mb s₁.heap->YP w s₁.heap->
   s₁.heap.get? fa=some o->o.data=.func (docDef d.name d.params d.body d.scope pm cd doc)->s₁.heap.CodeRec cd d.name->mg d.name=some (.ref fa)->
   s₁.heap.get? a=some {cls:=.type "list",data:=.seq vs.toArray}->IntsAre vs ns->ns.length<=n->s₁.gens= #[]->
   codeAny (model l.prog w) callerA (.call (.ref fa) ⟨[.ref a],[]⟩) (fun r s'=>r=.ok (.ret (.bool true))/\OldK s₁.heap s'.heap/\s'.os=s₁.os/\AllBare s'.gens) s₁):
  WalkO q loose XP YP l.row.toRowW d [] (fun f vs=>PySem.call f vs):=by
 intro w s₀ s₁ mg mb G Y fa o pm cd doc dV kV ho hd hcd hD hmg hg args vals as hpre hlay hrd hwl hlo;obtain rfl:dV=.none:=Dflts.none hD hdf;obtain rfl:kV=.none:=Dflts.noKw hD;obtain⟨a,vs,ns,rfl,rfl,hobj,hints,hlen⟩:=zaL hn hpre hwl;refine enter_call (xcc (call w s₀ s₁ mg mb fa o pm cd doc a vs ns G Y ho (fd_plain hd) hcd hmg hobj hints hlen hg) fun r s' hq=>?_);obtain⟨rfl,h2,h3,h4⟩:=hq;exact⟨.inl ⟨.bool true,.bool true,[],rfl,fun _=>rfl,.bool true,Yy l _,fun _=>⟨List.Pairwise.nil,fun _ hm=>(nomatch hm)⟩⟩,h2,h3,h4⟩
end Att
namespace L2
open PySem PySem.Spec PyProof.Rows
theorem Rz:∀{vs:List Value} {ns:List Int},IntsAre vs ns->Vals (ns.map V.int) vs
 |_,_,.nil=>.nil
 |_,_,.cons n t h=>.cons ⟨t,rfl⟩ (Rz h)
def Only (H:Hp):Prop:=∀b,H b=none\/∃o xs,H b=some (.frz o (.lst xs))
theorem VB {P:Program}{w:World}{K:Fgx}{mg mb:Mgx}{CX:eV}{k:Nat}{fa a:Addr}{fd:FuncData}{x:Str}{sp:Sp}{s₁:Shared}{vs:List Value}{ns:List Int}
    (KX:K.In s₁.heap) (hns:s₁.heap.Ns mainGlobals mg) (hb:s₁.heap.Ns builtinsNs mb) (hbb:∀x:Str,x≠"__name__"->mb x=bootBuiltins x) (hlim:s₁.heap.NoLimit) (hg:s₁.gens= #[])
    (ha:s₁.heap.get? a=some {cls:=.type "list",data:=.seq vs.toArray}) (hi:IntsAre vs ns) (hl:ns.length<=sizeLine) (hr:Room k callerA)
    (F:∀base:Heap,K.In base->base.Ns mainGlobals mg->FnOk P w K mg base CX k fa fd [x] sp) (hbind:∀(s:Shared) (u:Value),BindsTo s fd ⟨[u],[]⟩ [(x,u)])
    (hsp:∀H:Hp,Only H->bI K H a (ns.map V.int)->sp [.ref a] H (fun v _=>v=.bl true) fun _ _ _=>False)
    (hCX:∀H e s',CX [] H s₁ (fun _ _ _=>False) e s'->False):
    codeAny (model P w) callerA (.call (.ref fa) ⟨[.ref a],[]⟩) (fun r s'=>r=.ok (.ret (.bool true))/\OldK s₁.heap s'.heap/\s'.os=s₁.os/\AllBare s'.gens) s₁:=by
  have rv:=Rz hi;have lenV:=hi.length
  -- from an abstract heap in which nothing but the script may be tracked
  have core:∀H:Hp,Only H->bI K H a (ns.map V.int)->cJ P w H s₁.heap->(∀b,H b≠none->b=a)->(H a≠none->K.lookup a=none)->
      codeAny (model P w) callerA (.call (.ref fa) ⟨[.ref a],[]⟩) (fun r s'=>r=.ok (.ret (.bool true))/\OldK s₁.heap s'.heap/\s'.os=s₁.os/\AllBare s'.gens) s₁:=by
    intro H hO hS hok hA hK;have base_of:∀{b:Addr} {o:Obj},s₁.heap.get? b=some o->H b=none->(eO s₁.heap H).get? b=some o:=fun e n=>U5 e n;have noA:∀{b:Addr} {o:Obj} {es:Array DictEntry} {ep:Nat},s₁.heap.get? b=some o->o.data=.dict es ep->H b=none:=fun {b o es ep} e d=>by
      cases q:H b with
      |none=>rfl
      |some u=>
        have e':b=a:=hA b (by rw[q];simp);subst e';rw[ha]at e;cases e;have d':Data.seq vs.toArray _=Data.dict es ep:=d;cases d'
    have nsK : ∀ {b : Addr} {m : Mgx}, s₁.heap.Ns b m -> (eO s₁.heap H).Ns b m := fun {b m} ⟨o, es, ep, e, d, r⟩ => ⟨o, es, ep, base_of e (noA e d), d, r⟩;have hKb : K.In (eO s₁.heap H) := fun b o e => base_of (KX b o e) (by
      cases q:H b with
      |none=>rfl
      |some u=>
        have e':b=a:=hA b (by rw[q];simp);subst e';rw[hK (by rw[q];simp)]at e;cases e)
    have hM:Mod K mg (eO s₁.heap H):=⟨hKb,nsK hns,⟨mb,nsK hb,hbb⟩,let ⟨mc,h1,h2⟩:=hlim;⟨mc,nsK h1,h2⟩⟩
    have e0:Env0 P w K mg (eO s₁.heap H) callerA [] s₁ H:=⟨rfl,hM,fun b o e=>W7 e,xdh (U6 _ _),trivial,fun b hb=>absurd (show b∈([]:List Addr) from hb) (by simp),hok,.of_eq hg⟩;refine xcc ((F _ hKb (nsK hns)).run callerA [] s₁ H ⟨[.ref a],[]⟩ [.ref a] [.ref a] _ _ hr e0 (hbind s₁ (.ref a)) (.cons rfl .nil) (hsp H hO hS)) fun r s' h=>?_
    cases r with
    |error e=>exact(hCX H e s' h).elim
    |ok fl=>
      cases fl with
      |next=>exact False.elim h
      |brk=>exact False.elim h
      |cont=>exact False.elim h
      |ret u=>
        obtain⟨v,H',os,bare,un,hok',r',q⟩:=h;have q':v=.bl true:=q;subst q';obtain rfl:u=Value.bool true:=r';refine⟨rfl,OldK.of_keep fun b o e=>?_,os,bare⟩
        cases q:H b with
        |none=>exact un.keep b o e q (by intro z;exact absurd (show b∈([]:List Addr) from z) (by simp)) (by simp)
        |some u=>
          rcases hO b with z |⟨ob,xs,z⟩
          · rw[q]at z;cases z
          · have z2:=un.frzs b ob _ z;obtain⟨e1,_⟩:=hok b _ z;obtain⟨e2,_⟩:=hok' b _ z2;rw[e]at e1;cases e1;exact e2
  cases hk:K.lookup a with
  |some o=>
    -- the script is one of the module's own objects
    have e:=KX a o hk;rw[ha]at e;cases e;refine core (fun _=>none) (fun _=>.inl rfl) (.inr ⟨_,vs.toArray,_,hk,rfl,rfl,rfl,by rw[xam,lenV];exact hl,by simpa using rv⟩) (fun b u z=>by have z':(none:Option HO)=some u:=z;cases z') (fun b z=>absurd rfl z) fun z=>absurd rfl z
  |none=>
    refine core (fun b=>if b=a then some (.frz {cls:=.type "list",data:=.seq vs.toArray} (.lst (ns.map V.int))) else none) (fun b=>?_) (.inl (.inr ⟨{cls:=.type "list",data:=.seq vs.toArray},xac rfl⟩)) (fun b u z=>?_) (fun b z=>?_) fun _=>hk
    · by_cases hb:b=a
      · exact .inr ⟨_,_,xac hb⟩
      · exact .inl (xae hb)
    · by_cases hb:b=a
      · have z':=(xac hb).symm.trans z;cases z';subst hb;exact⟨ha,by rw[xaf];exact hl,vs,_,rv,ha⟩
      · have z':=(xae hb).symm.trans z;cases z'
    · by_cases hb:b=a
      · exact hb
      · exact absurd (xae hb) z
theorem zbw {l:PySem.W.OpenLaw}{n k:Nat}{q:Program}{loose:List Str}{XP:(Mgx)->Heap->Prop}{YP:World->Heap->Prop}{d:DefRec}{K:Params->Fgx}{CX:World->eV}{sp:World->Sp}{x:Str}
  (hn:l.most=some n) (hn2:n<=sizeLine) (hdf:d.params.defaults=[]) (hr:Room k callerA)
  (hY:∀(w:World) (h:Heap),YP w h->(K w.params).In h)
  (F:∀(w:World) (mg:Mgx) (fa:Addr) (h:Heap),(K w.params).In h->h.Ns mainGlobals mg->mg d.name=some (.ref fa)->
   ∃fd:FuncData,(∀(s:Shared) (u:Value),BindsTo s fd ⟨[u],[]⟩ [(x,u)])/\
    ∀base:Heap,(K w.params).In base->base.Ns mainGlobals mg->FnOk l.prog w (K w.params) mg base (CX w) k fa fd [x] (sp w))
  (hsp:∀(w:World) (H:Hp) (a:Addr) (ns:List Int),ns.length<=n->Only H->bI (K w.params) H a (ns.map V.int)->sp w [.ref a] H (fun v _=>v=.bl true) fun _ _ _=>False)
  (hCX:∀(w:World) (H:Hp) (s:Shared) (e:Value) (s':Shared),CX w [] H s (fun _ _ _=>False) e s'->False):
  PySem.W.WalkO q loose XP YP l.row.toRowW d [] (fun f vs=>PySem.call f vs):=by
 refine Att.Sh hn hdf fun w s₀ s₁ mg mb fa o pm cd doc a vs ns G Y ho hd hcd hmg hobj hints hlen hg=>?_;have KX:=hY w _ Y;obtain⟨fd,hb,hF⟩:=F w mg fa _ KX G.T.g hmg;exact VB KX G.T.g G.T.b G.T.builtins G.T.nolimit hg hobj hints (xaq hlen hn2) hr hF hb (fun H hO hS=>hsp w H a ns hlen hO hS) fun H e s'=>hCX w H s₁ e s'
theorem zaY {l:PySem.W.OpenLaw}{n k:Nat}{q:Program}{loose:List Str}{XP:(Mgx)->Heap->Prop}{YP:World->Heap->Prop}{d:DefRec}{K:Params->Fgx}{CX:eV}{sp:Fgx->Sp}{x:Str}
  (hn:l.most=some n) (hn2:n<=sizeLine) (hdf:d.params.defaults=[]) (hr:Room k callerA)
  (hY:∀(w:World) (h:Heap),YP w h->(K w.params).In h)
  (F:∀(w:World) (mg:Mgx) (fa:Addr) (h:Heap),(K w.params).In h->h.Ns mainGlobals mg->mg d.name=some (.ref fa)->
   ∃fd:FuncData,(∀(s:Shared) (u:Value),BindsTo s fd ⟨[u],[]⟩ [(x,u)])/\
    ∀base:Heap,(K w.params).In base->base.Ns mainGlobals mg->FnOk l.prog w (K w.params) mg base CX k fa fd [x] (sp (K w.params)))
  (hsp:∀(K:Fgx) (H:Hp) (a:Addr) (ns:List Int),ns.length<=n->Only H->bI K H a (ns.map V.int)->sp K [.ref a] H (fun v _=>v=.bl true) fun _ _ _=>False)
  (hCX:∀(H:Hp) (s:Shared) (e:Value) (s':Shared),CX [] H s (fun _ _ _=>False) e s'->False):
  PySem.W.WalkO q loose XP YP l.row.toRowW d [] (fun f vs=>PySem.call f vs):=
 zbw (K:=K) (CX:=fun _=>CX) (sp:=fun w=>sp (K w.params)) hn hn2 hdf hr hY F (fun w H a ns h1 h2 h3=>hsp (K w.params) H a ns h1 h2 h3) fun _ H s e s'=>hCX H s e s'
noncomputable def bU (s:Stmt):Arguments:=match s with
 |.FunctionDef _ a _ _ _ _ _ _ _ _=>a
 |_=>{posonlyargs:=[],args:=[],vararg:=none,kwonlyargs:=[],kw_defaults:=[],kwarg:=none,defaults:=[]}
noncomputable def bL (s:Stmt):List Stmt:=match s with
 |.FunctionDef _ _ b _ _ _ _ _ _ _=>b
 |_=>[]
noncomputable def aN (s:Stmt):Scope:=match s with
 |.FunctionDef _ _ _ _ _ _ sc _ _ _=>sc
 |_=>{kind:=.function,names:=[],isGenerator:=false,isCoroutine:=false}
abbrev fP:eV:=fun _ _ _ _ _ _=>False
abbrev E0:XK:=fun _ _ _=>False
theorem zu:Passes fP X E0:=fun _ _ _ _ _ _ _ h=>h.elim
structure Fun (K:Fgx)(x qual:Str)(st:Stmt)(f:Addr)(fd:FuncData):Prop where
 ex:∃(oc:Value) (od:Option Addr) (kV doc pm:Value) (an:Option Addr) (cdv ct:Value) (osl:Array (Option Value)),
  fd=PySem.W.fnOf x qual (bU st) (bL st) (aN st) .none kV doc pm an cdv ct/\K.lookup f=some ⟨oc,od,.func fd,osl⟩/\PySem.W.codeIn K cdv qual=true
 kp:PySem.W.keepIn K (.ref f)=true
section
variable {P:Program}{w:World}{K:Fgx}{mg:Mgx}{base:Heap}
theorem Fun.binds {x qual:Str}{st:Stmt}{f:Addr}{fd:FuncData}{ps:List Str}(F:Fun K x qual st f fd)
  (h:∀(kV doc pm:Value) (an:Option Addr) (cdv ct:Value) (us:List Value),us.length=ps.length->bindArgs (PySem.W.fnOf x qual (bU st) (bL st) (aN st) .none kV doc pm an cdv ct) ⟨us,[]⟩=pure (ps.zip us)):Binds K fd ps []:=by
 obtain⟨oc,od,kV,doc,pm,an,cdv,ct,osl,rfl,lk,hcd⟩:=F.ex;exact .all (h kV doc pm an cdv ct)
theorem gK {x qual:Str}{st:Stmt}{f:Addr}{oc:Value}{od an:Option Addr}{osl:Array (Option Value)}{kV doc pm cdv ct:Value}(l:K.lookup f=some ⟨oc,od,.func (PySem.W.fnOf x qual (bU st) (bL st) (aN st) .none kV doc pm an cdv ct),osl⟩)
  (c:PySem.W.codeIn K cdv qual=true) (k:PySem.W.keepIn K (.ref f)=true):Fun K x qual st f (PySem.W.fnOf x qual (bU st) (bL st) (aN st) .none kV doc pm an cdv ct):=⟨⟨oc,od,kV,doc,pm,an,cdv,ct,osl,rfl,l,c⟩,k⟩
end
def Same (H H':Hp):Prop:=∀b o,H b=some o->H' b=some o
theorem Same.refl (H:Hp):Same H H:=fun _ _ h=>h
theorem Same.free (e:Same H H')(h:H' l=Option.none):H l=Option.none:=by
  cases q:H l with
  |none=>rfl
  |some o=>
    rw[e l o q]at h;cases h
end L2
set_option maxHeartbeats 0
namespace L2
open PySem PySem.Spec PyProof.Rows
section
variable {κ:Type}[DecidableEq κ]
noncomputable def fO (kvs:List (κ×V)) (k:κ):Option V:=(kvs.find? fun kv=>decide (kv.1=k)).map (·.2)
noncomputable def putK (kvs:List (κ×V)) (k:κ) (v:V):List (κ×V):=
 if (kvs.any fun kv=>decide (kv.1=k))=true then kvs.map (fun kv=>if kv.1=k then(kv.1,v) else kv) else kvs ++ [(k,v)]
theorem za6 {p:κ×V}{r:List (κ×V)}{k:κ}(e:p.1=k):fO (p::r) k=some p.2:=by simp[fO,List.find?_cons,e]
theorem zaN {p:κ×V}{r:List (κ×V)}{k:κ}(e:¬ p.1=k):fO (p::r) k=fO r k:=by simp[fO,List.find?_cons,e]
theorem zaR (k:κ):∀kvs:List (κ×V),(kvs.any fun kv=>decide (kv.1=k))=(fO kvs k).isSome
  | []=>rfl
  |p::r=>by
    rw[xc1]
    by_cases e:p.1=k
    · simp only[za6 e,xaW e,Bool.true_or,Option.isSome_some]
    · rw[zaN e,xaI e,Bool.false_or];exact zaR k r
end
abbrev KT (H:Hp):List (List Key×V)->List (List Key×Addr×Value)->Prop:=Paired fun p q=>p.1=q.1/\H q.2.1=some (.tup (p.1.map kV))/\RelV p.2 q.2.2
def RM (H:Hp)(a:Addr)(y:V)(r:Option V):Prop:=
 (∃kvs k,Rd H a (.dK kvs)/\y=kV k/\r=fO kvs k)\/∃kvs k b,Rd H a (.dT kvs)/\y=.ref b/\H b=some (.tup (k.map kV))/\r=fO kvs k
def RN (H:Hp)(a:Addr)(y v:V)(H':Hp):Prop:=
 (∃kvs k,H a=some (.dK kvs)/\y=kV k/\kvs.length<sizeLine/\H'=upd H a (.dK (putK kvs k v)))\/
 ∃kvs k b,H a=some (.dT kvs)/\y=.ref b/\H b=some (.tup (k.map kV))/\kvs.length<sizeLine/\H'=upd H a (.dT (putK kvs k v))
noncomputable def zdi (kvs more:List (Key×V)):List (Key×V):=more.foldl (fun acc kv=>putK acc kv.1 kv.2) kvs
structure M1 (X:Cx)(o:Expr)(m:Str)(apos:Pos)(e:Expr)(cpos:Pos):Prop where
 base:attributeBase o m X.env (eval o X.env)=eval o X.env
 few : ((backTo cpos (starEach [e] X.env)).all (fun x=> !x.1) && (backToKw cpos (keywordEach [] X.env)).all (fun x=>x.1.isSome)
  && decide (([e]:List Expr).length + ([]:List Keyword).length + (if ([]:List Keyword).isEmpty then 0 else 1)<30))=true
 line:(apos.endLine==cpos.line)=true
 trees:backTo cpos (starEach [e] X.env)=[(false,eval e X.env)]
structure M2 (X:Cx)(o:Expr)(m:Str)(apos:Pos)(e f:Expr)(cpos:Pos):Prop where
 base:attributeBase o m X.env (eval o X.env)=eval o X.env
 few : ((backTo cpos (starEach [e,f] X.env)).all (fun x=> !x.1) && (backToKw cpos (keywordEach [] X.env)).all (fun x=>x.1.isSome)
  && decide (([e,f]:List Expr).length + ([]:List Keyword).length + (if ([]:List Keyword).isEmpty then 0 else 1)<30))=true
 line:(apos.endLine==cpos.line)=true
 trees:backTo cpos (starEach [e,f] X.env)=[(false,eval e X.env),(false,eval f X.env)]
end L2
namespace Att
open PySem PySem.W PySem.Calls PyProof.Rows
end Att
namespace L2
open PySem PySem.Spec PyProof.Rows
theorem zaq:∀{us:List Value},Vals (ys.map V.str) us->StrsAre us ys:=by
  induction ys with
  |nil=>intro us r;rw[xdk]at r;cases r;exact .nil
  |cons n ns ih=>
    intro us r;rw[xaP]at r
    cases r with
    |cons r1 r2=>
      obtain⟨t,e⟩:=r1;subst e;exact .cons n t (ih r2)
section
variable {X:Cx}
def rJoin (K:Fgx):V->List V->Hp->VK->Prop:=fun x vs H Q=>∃z l ys,x=.str z/\vs=[.ref l]/\bI K H l (ys.map V.str)/\z.length<=16/\(ys.map (·.length)).sum + ys.length<=1048576/\Q (.str (Txt.join z ys)) H
theorem Wc:Em X "str.join" (rJoin X.K):=by
 intro pins s σ H x vs v us Q I rx rv h;obtain⟨z,l,ys,rfl,rfl,hq,h1,h2,q⟩:=h;obtain⟨t,rfl⟩:=rx;obtain⟨u,rfl,ru⟩:=rv.one;cases ru;obtain⟨its,r,pl,hz⟩:=I.list hq;exact join_listW pl.isList (by simpa using zaq r) h1 h2 fun t' k=>⟨.str _,H,I.tok _,⟨_,rfl⟩,q⟩
def Io:V->Option Int->Option Int->Hp->VK->Prop:=fun x lo hi H Q=>∃z,x=.str z/\z.length<=sizeLine/\Q (.str (Txt.slice z lo hi)) H
theorem zcy:pQ X Io:=by
 intro pins s σ H x v vl vu lo hi sl Q I rx hs pl pu h;obtain⟨z,rfl,hz,q⟩:=h;obtain⟨t,rfl⟩:=rx;refine⟨"str",_,F.slot_str_getitem.lookup,typeIs_str _ _ _,?_⟩;obtain⟨o,ho,hc,hd⟩:=hs;cases pl<;>cases pu
 ·exact xci (l:=none) (u:=none) (st:=none) ⟨o,ho,hc,hd⟩ rfl (xdl ⟨xaq (xdO z none none) hz,fun t' k=>⟨.str _,H,I.tok _,⟨_,rfl⟩,q⟩⟩)
 ·rename_i j uj;exact xci (l:=none) (u:=some (j,uj)) (st:=none) ⟨o,ho,hc,hd⟩ rfl (xdl ⟨xaq (xdO z none (some j)) hz,fun t' k=>⟨.str _,H,I.tok _,⟨_,rfl⟩,q⟩⟩)
 ·rename_i i ui;exact xci (l:=some (i,ui)) (u:=none) (st:=none) ⟨o,ho,hc,hd⟩ rfl (xdl ⟨xaq (xdO z (some i) none) hz,fun t' k=>⟨.str _,H,I.tok _,⟨_,rfl⟩,q⟩⟩)
 ·rename_i i ui j uj;exact xci (l:=some (i,ui)) (u:=some (j,uj)) (st:=none) ⟨o,ho,hc,hd⟩ rfl (xdl ⟨xaq (xdO z (some i) (some j)) hz,fun t' k=>⟨.str _,H,I.tok _,⟨_,rfl⟩,q⟩⟩)
theorem Xq:bM X (compareOp .Is) (fun x y H Q=>∃b,y=.bl b/\Q (.bl (decide (x=.bl b))) H):=by
 intro pins s σ H x y v u Q I rx ry h;obtain⟨b,rfl,q⟩:=h;cases ry
 cases x with
 |bl c=>cases rx;exact xab (bB I q (by cases b<;>cases c<;>rfl))
 |non=>cases rx;exact xab (bB I q (by simp))
 |int _=>obtain⟨t,rfl⟩:=rx;exact xab (bB I q (by simp))
 |str _=>obtain⟨t,rfl⟩:=rx;exact xab (bB I q (by simp))
 |byt _=>obtain⟨t,rfl⟩:=rx;exact xab (bB I q (by simp))
 |flt _=>obtain⟨t,rfl⟩:=rx;exact xab (bB I q (by simp))
 |ref _=>cases rx;exact xab (bB I q (by simp))
 |ty _=>cases rx;exact xab (bB I q (by simp))
theorem Xu:bM X (compareOp .IsNot) (fun x y H Q=>∃b,y=.bl b/\Q (.bl (!decide (x=.bl b))) H):=by
 intro pins s σ H x y v u Q I rx ry h;obtain⟨b,rfl,q⟩:=h;cases ry
 cases x with
 |bl c=>cases rx;exact xab (bB I q (by cases b<;>cases c<;>rfl))
 |non=>cases rx;exact xab (bB I q (by simp))
 |int _=>obtain⟨t,rfl⟩:=rx;exact xab (bB I q (by simp))
 |str _=>obtain⟨t,rfl⟩:=rx;exact xab (bB I q (by simp))
 |byt _=>obtain⟨t,rfl⟩:=rx;exact xab (bB I q (by simp))
 |flt _=>obtain⟨t,rfl⟩:=rx;exact xab (bB I q (by simp))
 |ref _=>cases rx;exact xab (bB I q (by simp))
 |ty _=>cases rx;exact xab (bB I q (by simp))
end
section
variable {X:Cx}{pins:Pnx}{σ:St}{H:Hp}{s:Shared}
noncomputable def yW (base h:Heap) (L:Addr):Pnx:=(List.range h.objs.size).filterMap fun b=>if b=L then none else if (base.get? b).isSome then none else(h.get? b).map fun o=>(b,o)
theorem N7 (hL:b≠L)(hb:base.get? b=none)(e:h.get? b=some o):(b,o)∈yW base h L:=by
 unfold yW;rw[xcE];refine⟨b,xcK.mpr (xan e),?_⟩;rw[xae hL,hb,e]
 simp
theorem W8 (hp:p∈yW base h L):h.get? p.1=some p.2/\p.1≠L/\base.get? p.1=none:=by
  unfold yW at hp;rw[xcE]at hp;obtain⟨b,_,e⟩:=hp
  by_cases hL:b=L
  · rw[xac hL]at e;cases e
  · rw[xae hL]at e
    cases hb:base.get? b with
    |some u=>rw[hb]at e;simp at e
    |none=>
      rw[hb]at e
      cases hh:h.get? b with
      |none=>rw[hh]at e;simp at e
      |some u=>
        rw[hh]at e
        simp at e
        subst e;exact⟨hh,hL,hb⟩
theorem Inv.but (I:Inv X pins σ H s)(k:∀b o,b≠X.env.locals->s.heap.get? b=some o->h'.get? b=some o)(ns:∀m,s.heap.Ns X.env.locals m->h'.Ns X.env.locals m):Inv X pins σ H {s with heap:=h',toks:=tk}:=by
 have hok : cJ X.prog X.w H h' := fun a o e => (I.hok a o e).stay (fun b u hb q => k b u (fun z=>by
  subst z;have hn:=I.free;rcases hb with hb |hb
  ·rw[<-hb]at e;rw[hn]at e;cases e
  ·rw[hn]at hb;cases hb) q) (fun _ q=>q) fun _ _ q=>q
 exact I.step (g' := s.gens) (d' := s.drawn) (ch := []) (fun _ z => nomatch z) (fun b o hL _ _ e _ => k b o hL e) (fun b o hL _ _ e _ => ⟨o.slots, k b o hL e⟩) (fun b o _ _ n => n) (fun b o _ e=>by
  by_cases hL:b=X.env.locals
  ·subst hL;obtain⟨m,hn,_⟩:=I.loc;obtain⟨o',_,_,e',_⟩:=ns m hn;exact⟨o',e'⟩
  ·exact⟨o,k b o hL e⟩) (fun _ _ q=>q) (fun _ _ _ q=>q) (fun _ ps q=>⟨#[],by simpa using q⟩) ns hok I.bare
theorem Inv.via (I:Inv X pins σ H s):∃m news,Fr X.base X.env.locals s.heap m/\News X.base X.env.locals s.heap news/\
    (∀b o,b≠X.env.locals->X.base.get? b=none->s.heap.get? b=some o->(b,o)∈news)/\
    ∀(h':Heap) (tk:Nat),Fr X.base X.env.locals h' m->News X.base X.env.locals h' news->(∀b o,b≠X.env.locals->s.heap.get? b=some o->h'.get? b=some o)/\Inv X pins σ H {s with heap:=h',toks:=tk}:=by
  obtain⟨m,F⟩:=I.fr;refine⟨m,yW X.base s.heap X.env.locals,F,fun p hp=>W8 hp,fun b o hL hb e=>N7 hL hb e,fun h' tk F' N'=>?_⟩;have k:∀b o,b≠X.env.locals->s.heap.get? b=some o->h'.get? b=some o:=fun b o hL e=>by
    cases hb:X.base.get? b with
    |some u=>
      have e1:=I.bk b u hb;rw[e]at e1;cases e1;exact F'.keep b o hb
    |none=>exact(N' (b,o) (N7 hL hb e)).1
  refine⟨k,I.but k fun m' hm=>?_⟩;have:m'=m:=by
    obtain⟨o,es,ep,e,d,_,f⟩:=hm;obtain⟨o',es',ep',e',d',_,f'⟩:=F.ns;rw[e]at e';cases e';rw[d]at d';cases d';funext x;rw[<-f x, <-f' x]
  subst this;exact F'.ns
theorem Gx:∀{us:List Value},Vals (ns.map V.int) us->IntsAre us ns:=by
  induction ns with
  |nil=>intro us h;cases us with
    |nil=>exact .nil
    |cons u us=>cases h
  |cons n ns ih=>intro us h;cases us with
    |nil=>cases h
    |cons u us=>
      cases h with
      |cons a b=>
        obtain⟨t,rfl⟩:=a;exact .cons _ _ (ih b)
theorem Tj:X.calm=true->dz X (.builtin "sum") (fun xs H Q=>∃(p:Addr) (is:List Int),xs=[.ref p]/\bI X.K H p (is.map V.int)/\Q (.int is.sum) H):=by
 intro hc pins s σ H xs us Q I r h;obtain⟨p,is,rfl,hq,q⟩:=h;obtain⟨u,rfl,rx⟩:=vals1 r;cases rx;obtain⟨its,rv,pl,hz⟩:=I.list hq;obtain⟨m,news,F,N,_,back⟩:=I.via;refine LSm.sum_ints F N (I.ok.hd hc) pl.isList (Gx rv) fun h' tk t' F' N'=>?_;exact⟨.int is.sum,H,(back h' tk F' N').2,⟨t',rfl⟩,q⟩
end
section
variable {X:Cx}{pins:Pnx}{σ:St}{H:Hp}{s:Shared}
theorem S6:dz X (.type "int") (fun xs H Q=>∃z n,xs=[.str z]/\intText? z=some n/\z.length<=640/\Q (.int n) H):=by
 intro pins s σ H xs us Q I r h;obtain⟨z,n,rfl,h1,h2,q⟩:=h;obtain⟨u,rfl,t,rfl⟩:=vals1 r;exact W.KIN.call_text h1 h2 ⟨.int n,H,I.tok _,⟨_,rfl⟩,q⟩
end
abbrev TJ:=Str->St->Hp->VK->Prop
theorem Mi (g:α->β->β):∀(l:List α) (b:β),(∀x∈l,∀b,f x b=pure (.yield (g x b)))->(forIn l b f:Sem β)=pure (l.foldl (fun b x=>g x b) b)
  | [],b,_=>rfl
  |x::l,b,h=>by
    rw[List.forIn_cons,h x xau b];simp only[pure_bind,xaG];exact Mi g l (g x b) fun y hy=>h y (xal _ hy)
noncomputable def mF (cells:List (Str×Addr)) (cs:List (Str×Addr)) (x:Str×NameKind):List (Str×Addr):=if x.2=.free then(x.1,(cells.lookup x.1).getD 0)::cs else cs
noncomputable def f9 (cells:List (Str×Addr)) (names:List (Str×NameKind)):List (Str×Addr):=names.foldl (mF cells) []
theorem KJ (h:∀y∈scope.names,y.2=.free->∃c,env.cells.lookup y.1=some c):closureFor scope env=pure (f9 env.cells scope.names):=by
 simp only [closureFor];rw [Mi (fun x cs => mF env.cells cs x) scope.names [] (fun x hx c=>by
  obtain⟨n,kind⟩:=x
  by_cases hk:kind=.free
  ·obtain⟨a,ha⟩:=h _ hx hk;subst hk;have ha':env.cells.lookup n=some a:=ha
   simp[cellOf,ha',mF]
  ·have hk':(kind==NameKind.free)=false:=by simpa using hk
   simp[hk',hk,mF])]
 rfl
theorem KD:∀(names:List (Str×NameKind)) (acc:List (Str×Addr)),(∀y∈names,y.2=.free->∃c,cells.lookup y.1=some c)->
    (∀x c,acc.lookup x=some c->cells.lookup x=some c)->∀x c,(names.foldl (mF cells) acc).lookup x=some c->cells.lookup x=some c
  | [],_,_,h,x,c,e=>h x c e
  |(n,k)::r,acc,hc,h,x,c,e=>by
    rw[xaG]at e;refine KD r _ (fun y hy=>hc y (xal _ hy)) ?_ x c e;intro y d hd;unfold mF at hd
    by_cases hk:k=.free
    · obtain⟨a,ha⟩:=hc (n,k) xau hk;have ha':cells.lookup n=some a:=ha;simp only[hk,xbi,ha',Option.getD_some,xbV]at hd
      cases hyn:y==n with
      |true=>
        rw[hyn]at hd;have e2:=eq_of_beq hyn;subst e2;exact ha'.trans hd
      |false=>
        rw[hyn]at hd;exact h y d hd
    · simp only[hk,xbb]at hd;exact h y d hd
theorem FQ:∀(names:List (Str×NameKind)) (acc:List (Str×Addr)) (x:Str),((x,NameKind.free)∈names\/∃c,acc.lookup x=some c)->∃c,(names.foldl (mF cells) acc).lookup x=some c
  | [],acc,x,h=>by
    rcases h with h |h
    · exact absurd h (by simp)
    · exact h
  |(n,k)::r,acc,x,h=>by
    rw[xaG];refine FQ r _ x ?_;have keep:(∃c,acc.lookup x=some c)->∃c,(mF cells acc (n,k)).lookup x=some c:=fun⟨c,hc⟩=>by
      unfold mF
      by_cases hk:k=.free
      · simp only[hk,xbi,xbV]
        cases hxn:x==n with
        |true=>exact⟨_,rfl⟩
        |false=>exact⟨c,hc⟩
      · simp only[hk,xbb];exact⟨c,hc⟩
    rcases h with h |h
    · rcases xar.mp h with h |h
      · cases h;refine .inr ?_;unfold mF;simp only[xbi,xbV,xbF];exact⟨_,rfl⟩
      · exact .inl h
    · exact .inr (keep h)
noncomputable def fL (psc:Scope) (names:List (Str×NameKind)):List (Str×NameKind):=names.map fun(n,k)=>if (k==.free && psc.kind==.function && psc.names.lookup n==some .cell) then(n,.cell) else(n,k)
theorem zL {psc:Scope}:∀{names:List (Str×NameKind)} {x:Str} {k':NameKind},(fL psc names).lookup x=some k'->(k'=.cell\/k'=.free)->(∀y∈names,y.2≠ .cell)->(x,NameKind.free)∈names
  | [],_,_,h,_,_=>by simp[fL]at h
  |(n,k)::r,x,k',h,hk,hn=>by
    have ih:= @zL psc r x k';have h':List.lookup x ((if (k==NameKind.free && psc.kind==.function && psc.names.lookup n==some .cell)=true then(n,NameKind.cell) else(n,k))::fL psc r)=some k':=h
    cases hx:x==n with
    |true=>
      have e:=eq_of_beq hx;subst e
      by_cases hc:(k==NameKind.free && psc.kind==.function && psc.names.lookup x==some .cell)=true
      · have hkf:k=.free:=by
          cases k<;>first |rfl |(exfalso;simp at hc)
        rw[hkf];exact xau
      · rw[xae hc]at h';simp only[xbV,xbF]at h';have e2:k=k':=xaD h';subst e2;rcases hk with hk |hk
        · exact absurd hk (hn (x,k) xau)
        · rw[hk];exact xau
    |false=>
      refine xal _ (ih ?_ hk fun y hy=>hn y (xal _ hy))
      by_cases hc:(k==NameKind.free && psc.kind==.function && psc.names.lookup n==some .cell)=true
      · rw[xac hc]at h';simp only[xbV,hx]at h';exact h'
      · rw[xae hc]at h';simp only[xbV,hx]at h';exact h'
noncomputable def dJ (cs:List (Str×Nat)) (σ:St):St:=cs.map fun p=>(σ[p.2]?).join
abbrev cN (X:Cx)(Nc:List Str)(scope:Scope)(cl:List (Str×Addr))(C:Addr)(s₀:Shared)(H₀:Hp)(ex:List Addr)(pn:Pnx):Cx:=
 {X with N:=Nc,s₀:=s₀,H₀:=H₀,env:=compEnvC scope cl C X.env,outer:=X.stack,ex:=ex,fn:=fun _=>false,pn:=pn,xe:=fun _ _=>False}
noncomputable def Bb (N:List Str) (psc:Scope) (xs:List Str) (cs:List (Str×Nat)) (scope:Scope):Bool:=
 scope.kind==.function && xs.all (fun x=>scope.names.lookup x==some .local) && decide ((xs ++ cs.map (·.1)).Nodup) &&
 scope.names.all (fun y=>y.2 !=.cell && (y.2 !=.local || scope.names.lookup y.1==some .local) && (y.2 !=.free || (psc.names.lookup y.1==some .cell || psc.names.lookup y.1==some .free))) &&
 cs.all (fun p=>N[p.2]? ==some p.1 && (psc.names.lookup p.1==some .cell || psc.names.lookup p.1==some .free) && ((fL psc scope.names).lookup p.1==some .cell || (fL psc scope.names).lookup p.1==some .free))
structure CompOkT (N:List Str)(psc:Scope)(xs:List Str)(cs:List (Str×Nat))(scope:Scope):Prop where
 kind:scope.kind=.function
 own:∀x∈xs,scope.names.lookup x=some .local
 nd:(xs ++ cs.map (·.1)).Nodup
 cell:∀y∈scope.names,y.2≠ .cell
 names:∀y∈scope.names,y.2=.local->scope.names.lookup y.1=some .local
 has:∀y∈scope.names,y.2=.free->psc.names.lookup y.1=some .cell\/psc.names.lookup y.1=some .free
 cap:∀p∈cs,N[p.2]? =some p.1/\(psc.names.lookup p.1=some .cell\/psc.names.lookup p.1=some .free)/\((fL psc scope.names).lookup p.1=some .cell\/(fL psc scope.names).lookup p.1=some .free)
theorem CompOkT.of {N:List Str}{psc:Scope}{xs:List Str}{cs:List (Str×Nat)}{scope:Scope}(h:Bb N psc xs cs scope=true):CompOkT N psc xs cs scope:=by
 unfold Bb at h;simp only[xaF,Bool.or_eq_true,xbm,xbL,xb5,bne_iff_ne,ne_eq]at h;obtain⟨⟨⟨⟨h1,h2⟩,h3⟩,h4⟩,h5⟩:=h;refine⟨h1,h2,h3,fun y hy=>(h4 y hy).1.1,fun y hy e=>?_,fun y hy e=>?_,fun p hp=>⟨(h5 p hp).1.1,(h5 p hp).1.2,(h5 p hp).2⟩⟩
 ·rcases(h4 y hy).1.2 with z |z
  ·exact absurd e z
  ·exact z
 ·rcases(h4 y hy).2 with z |z
  ·exact absurd e z
  ·exact z
abbrev wG (N:List Str)(psc:Scope)(x:Str)(cs:List (Str×Nat))(scope:Scope):Bool:=Bb N psc [x] cs scope
def fY (X:Cx)(ifs:List Expr)(t:TT):Prop:=
 ∀(pins:Pnx) (s:Shared) (σ:St) (H:Hp) (Q:Bool->Hp->Prop),Inv X pins σ H s->t σ H Q->
  wpAny (model X.prog X.w) X.A (forIn ifs true fun c r=>if r=true then do let ok <-isTrue c X.env (eval c X.env);pure (ForInStep.yield ok) else pure (ForInStep.yield r)) (TP X pins σ Q) X.xe s
def vh:TT:=fun _ H Q=>Q true H
theorem Yt:fY X [] vh:=fun _ _ _ H _ I h=>wpAny_tests_nil ⟨H,I,h⟩
theorem Yu (h:PT X c t):fY X [c] t:=fun pins s σ H Q I hw=>wpAny_tests_one (h pins s σ H Q I hw)
def xR (wi:TI)(tq:TT)(te:TE)(cs:List (Str×Nat)):St->Hp->(Addr->Hp->Prop)->Prop:=fun σ H R=>wi σ H fun J H1=>∀D,H1 D=none->
  ∃W:Nat->Nat->List V->Hp->Prop,(∃m,W 0 m [] (upd H1 D (.lst [])))/\∀i m ys H2,W i m ys H2->H2 D=some (.lst ys)/\
    ((J.stop i H2 /\ R D H2) \/ (J.go i H2/\ys.length<sizeLine/\∃N:List V->Hp->Prop,(∀ys' H',N ys' H'->∃m',m'<m/\W (i + 1) m' ys' H')/\∀v H3,J.yld i H2 v H3->tq (some v::dJ cs σ) H3 fun b H4=>
      if b=true then te (some v::dJ cs σ) H4 fun y H5=>H5 D=some (.lst ys)/\N (ys ++ [y]) (upd H5 D (.lst (ys ++ [y]))) else N ys H4))
section
variable {prog:Program}{w:World}{A:Around}{R:Result->Shared->Prop}{s:Shared}
theorem Tv (I:Nat->Shared->Prop)
    (turn : ∀ n s, I n s -> wpAny (model prog w) A (pyNext it) (fun r s₁=>match r with
      |none=>R (.ok .next) s₁
      | some v => wpAny (model prog w) A (letOwnedTupleGo target it v) (fun _ s₁' => wpAny (model prog w) A (assign target env v) (fun _ s₂=>
          wpAny (model prog w) A (forIn ifs true fun c r => if r = true then do let ok <- isTrue c env (eval c env); pure (ForInStep.yield ok) else pure (ForInStep.yield r)) (fun ok s₃=>
            if ok = true then wpAny (model prog w) A (eval elt env) (fun x s₄=>
              wpAny (model prog w) A (call (.builtin "list.append") [acc,x]) (fun _ s₅=>∃m,m<n/\I m s₅) (fun _ _=>False) s₄) (fun _ _=>False) s₃
            else ∃m,m<n/\I m s₃) (fun _ _=>False) s₂) (fun _ _=>False) s₁') (fun _ _=>False) s₁) (fun _ _=>False) s)
    (n:Nat) (h:I n s):
    codeAny (model prog w) A (.compLoop (.ListComp elt [⟨target,iter,ifs,0⟩] scope pos) 0 it acc env) R s:=by
  refine codeAny_loop rfl I (fun n s hI=>?_) n h;show wpAny _ A ((compTurn (.ListComp elt [⟨target,iter,ifs,0⟩] scope pos) 0 it acc env).onRaise (fun x=>do noteFrame x env;theTreesLotGoes x)) _ _ s
  refine wpAny_noted ?_;rw[compTurn_list];refine xaa (xem (xaa (xbd (turn n s hI) (fun r s₁ h₁=>?_) fun _ _ h'=>h'.elim)))
  cases r with
  |none=>exact xab h₁
  |some v=>
    refine xaa (xbd h₁ (fun _ s₁' h₁'=>?_) fun _ _ h'=>h'.elim);refine xaa (xbd h₁' (fun _ s₂ h₂=>xaa (xbd h₂ (fun ok s₃ h₃=>?_) fun _ _ h'=>h'.elim)) fun _ _ h'=>h'.elim)
    cases ok with
    |false=>exact xab ⟨rfl,h₃⟩
    |true=>
      exact xaa (xaa (xbd h₃ (fun x s₄ h₄=>xaa (xbd h₄ (fun _ s₅ h₅=>xab (xab ⟨rfl,h₅⟩)) fun _ _ h'=>h'.elim)) fun _ _ h'=>h'.elim))
end
def J6 (J:It)(tG:TG)(tq:TT)(te:TE)(n:Nat)(cs:List (Str×Nat))(σ:St)(H1:Hp)(R:Addr->Hp->Prop):Prop:=∀D,H1 D=none->
  ∃W:Nat->Nat->List V->Hp->Prop,(∃m,W 0 m [] (upd H1 D (.lst [])))/\∀i m ys H2,W i m ys H2->H2 D=some (.lst ys)/\
    ((J.stop i H2 /\ R D H2) \/ (J.go i H2/\ys.length<sizeLine/\∃N:List V->Hp->Prop,(∀ys' H',N ys' H'->∃m',m'<m/\W (i + 1) m' ys' H')/\∀v H3,J.yld i H2 v H3->∀vl:List (Option V),vl.length=n->
      tG v (vl ++ dJ cs σ) H3 fun σ' H4=>∃vl',vl'.length=n/\σ'=vl' ++ dJ cs σ/\tq σ' H4 fun b H5=>
      if b=true then te σ' H5 fun y H6=>H6 D=some (.lst ys)/\N (ys ++ [y]) (upd H6 D (.lst (ys ++ [y]))) else N ys H5))
def DW (wi:TI)(tG:TG)(tq:TT)(te:TE)(n:Nat)(cs:List (Str×Nat)):St->Hp->(Addr->Hp->Prop)->Prop:=fun σ H R=>wi σ H fun J H1=>J6 J tG tq te n cs σ H1 R
section
variable {X:Cx}{elt iter tg:Expr}{ifs:List Expr}{xs:List Str}{scope:Scope}{pos:Pos}{wi:TI}{tG:TG}{tq:TT}{te:TE}{cs:List (Str×Nat)}
theorem K1 (hc:X.calm=true)(hi:PI X tg iter wi)
    (hg:∀(cl:List (Str×Addr)) (C:Addr) (s₀:Shared) (H₀:Hp) (ex:List Addr) (pn:Pnx),PG (cN X (xs ++ cs.map (·.1)) scope cl C s₀ H₀ ex pn) tg tG)
    (hq:∀(cl:List (Str×Addr)) (C:Addr) (s₀:Shared) (H₀:Hp) (ex:List Addr) (pn:Pnx),fY (cN X (xs ++ cs.map (·.1)) scope cl C s₀ H₀ ex pn) ifs tq)
    (he:∀(cl:List (Str×Addr)) (C:Addr) (s₀:Shared) (H₀:Hp) (ex:List Addr) (pn:Pnx),PE (cN X (xs ++ cs.map (·.1)) scope cl C s₀ H₀ ex pn) elt te)
    (ok:CompOkT X.N X.env.scope xs cs scope) {pins:Pnx} {s:Shared} {σ:St} {H:Hp} {R:Addr->Hp->Prop} (I:Inv X pins σ H s) (h:DW wi tG tq te xs.length cs σ H R)
    {RR:Value->Addr->Result->Shared->Prop}
    (hRR:∀(D C:Addr) (oC:Obj) (H':Hp) (s':Shared),Inv X (pins ++ [(C,oC)]) σ H' s'->(∀h':Heap,h'.get? C=some oC->∃m,h'.Ns C m)->eN X pins H' C->R D H'->RR (.ref D) C (.ok .next) s'):
    wpAny (model X.prog X.w) X.A (eval iter X.env) (fun xv s₁ => wpAny (model X.prog X.w) X.A (pyIter xv) (fun itv s₂ => wpAny (model X.prog X.w) X.A (newList []) (fun acc s₃=>
      wpAny (model X.prog X.w) X.A (newFunctionEnv scope X.env.globals (f9 X.env.cells scope.names) [] X.env.qual none .none (some X.env)) (fun cenv s₄=>
        codeAny (model X.prog X.w) X.A (.compStart (.ListComp elt [⟨tg,iter,ifs,0⟩] scope pos) 0 itv acc {cenv with scope:=relabel scope X.env}) (RR acc cenv.locals) s₄) X.xe s₃) X.xe s₂) X.xe s₁) X.xe s:=by
  refine aY (hi pins s σ H _ I h) fun v s1 h1=>aY h1 fun itv s2 h2=>?_;obtain⟨it,fp,tn,J,H2,e,I2,T,st2,f2,h2⟩:=h2;subst e;have hhas:∀y∈scope.names,y.2=.free->∃c,X.env.cells.lookup y.1=some c:=fun y hy hk=>I2.ok.has y.1 (ok.has y hy hk);refine xa2 (wpAny_newFunctionEnv ok.cell (by intro y hy;simp at hy) (fun h₁ hns₁ hsb₁=>?_) ok.kind);dsimp only at hns₁ hsb₁ ⊢;generalize hHH:s2.heap.push {cls:=.type "list",dict:=none,data:=.seq ([]:List Value).toArray}=HH at hns₁ hsb₁ ⊢;have hC:HH.objs.size=s2.heap.objs.size + 1:=by rw[<-hHH,xb8]
  have hDC:s2.heap.objs.size≠HH.objs.size:=by rw[hC];exact xaC (xba _)
  have hCle:s2.heap.objs.size<=HH.objs.size:=by rw[hC];exact xcW _
  have below:∀b,b<s2.heap.objs.size->b≠HH.objs.size:=fun b hb=>by rw[hC];exact xaC (xcQ hb)
  have old:∀b o,s2.heap.get? b=some o->h₁.get? b=some o:=fun b o e=>hsb₁.extBut b o (below b (xan e)) (xag _ (hHH ▸ xag _ e));have hacc:h₁.get? s2.heap.objs.size=some {cls:=.type "list",dict:=none,data:=.seq ([]:List Value).toArray}:=hsb₁.extBut _ _ hDC (xag _ (hHH ▸ xav _ rfl));have nD:H2 s2.heap.objs.size=none:=I2.hok.fresh (xad _);have nC:H2 HH.objs.size=none:=I2.hok.fresh hCle;obtain⟨W,⟨m0,w0⟩,turn⟩:=h2 s2.heap.objs.size nD
  -- the block's context
  have fpC:∀b∈fp,b≠HH.objs.size:=fun b hb=>by
    obtain⟨o,ho,_⟩:=T.obj 0 _ st2 b hb;exact below b (xan ho)
  have fpD:∀b∈fp,b≠s2.heap.objs.size:=fun b hb=>by
    obtain⟨o,ho,_⟩:=T.obj 0 _ st2 b hb;exact xaC (xan ho)
  have pinC:∀p∈X.pn ++ pins,p.1≠HH.objs.size:=fun p hp=>below _ (xan (I2.pin p hp).1);have clIn:∀y c,(f9 X.env.cells scope.names).lookup y=some c->X.env.cells.lookup y=some c:=KD scope.names [] hhas (fun y c e=>by cases e);have kindRel:∀y,(relabel scope X.env).names.lookup y=(fL X.env.scope scope.names).lookup y:=fun _=>rfl;have okC:(cN X (xs ++ cs.map (·.1)) scope (f9 X.env.cells scope.names) HH.objs.size s2 H2 fp (X.pn ++ pins)).Ok:=
    { mod:=I2.ok.mod
      kind:=ok.kind
      glob:=I2.ok.glob
      blt:=I2.ok.blt
      above:=hCle
      inj:=fun y z c e1 e2=>I2.ok.inj y z c (clIn y c e1) (clIn z c e2)
      has:=fun y hk=>by
        have hm:(y,NameKind.free)∈scope.names:=by
          rcases hk with hk |hk
          · exact zL (psc:=X.env.scope) (k':=.cell) hk (.inl rfl) ok.cell
          · exact zL (psc:=X.env.scope) (k':=.free) hk (.inr rfl) ok.cell
        exact FQ scope.names [] y (.inl hm)
      cab:=fun y c hf _=>by cases hf
      hd:=I2.ok.hd
      frames:=I2.ok.frames
      stk:=.inl rfl
      exf:=fun b hb=>⟨fpC b hb,fun y c e z=>(f2 b hb).2.2.2.2.1 y c (clIn y c e) z⟩
      bs:=fun b o e=>I2.bs b o e
      bsz:=xaq I2.ok.bsz I2.sz
      noex:=fun b o e hb=>by
        rcases(f2 b hb).2.2.2.1 with z |z
        · exact I2.ok.noex b o e z
        · exact absurd (xap (xan e) (xaq I2.ok.bsz z)) (xck _)
      exfs:=fun b hb z=>by
        rcases xar.mp (I2.stkSub b z) with q |q
        · exact(f2 b hb).2.1 q
        · exact(f2 b hb).2.2.1 q
      funs:=I2.stack
      frf:=I2.stkFree}
  have IC:Inv (cN X (xs ++ cs.map (·.1)) scope (f9 X.env.cells scope.names) HH.objs.size s2 H2 fp (X.pn ++ pins)) [] (List.replicate xs.length none ++ dJ cs σ) (upd H2 s2.heap.objs.size (.lst [])) {s2 with heap:=h₁,toks:=s2.toks + ([]:List (Str×Value)).length}:=
    { ok:=okC
      os:=rfl
      bare:=I2.bare
      base:=Un.laid old (xad _) nD
      loc:=by
        refine⟨_,hns₁,fun i y u e1 e2 _=>?_⟩;rcases xa8 i xs.length with hi |hi
        · exfalso
          rw[xaH (by rw[xaZ];exact hi),xa0,xac hi]at e2;cases e2
        · have e1':(cs.map (·.1))[i - xs.length]? =some y:=by rw[<-xas hi];exact e1
          have e2':(dJ cs σ)[i - xs.length]? =some (some u):=by
            rw[xas (by rw[xaZ];exact hi),xaZ]at e2;exact e2
          rw[xao]at e1';unfold dJ at e2';rw[xao]at e2'
          cases ep:cs[i - xs.length]? with
          |none=>rw[ep]at e1';cases e1'
          |some p=>
            rw[ep]at e1' e2';have e1'':p.1=y:=xaD e1';have e2'':(σ[p.2]?).join=some u:=xaD e2';have e3:σ[p.2]? =some (some u):=by
              cases q:σ[p.2]? with
              |none=>rw[q]at e2'';cases e2''
              |some z=>rw[q]at e2'';exact congrArg some e2''
            subst e1'';obtain⟨hN,hkp,hkc⟩:=ok.cap p (xaT ep);obtain⟨mP,_,hl⟩:=I2.loc;obtain⟨u',ru,lk⟩:=hl p.2 p.1 u hN e3 (.inr hkp);refine⟨u',ru,.inr ⟨hkc,?_⟩⟩;rcases lk with⟨k0,_⟩ |⟨_,c,hcell,his⟩
            · exfalso
              have k0':X.env.scope.names.lookup p.1=some .local:=k0;rcases hkp with z |z<;>(rw[k0']at z;cases z)
            · have hm:(p.1,NameKind.free)∈scope.names:=by
                rcases hkc with z |z
                · exact zL z (.inl rfl) ok.cell
                · exact zL z (.inr rfl) ok.cell
              obtain⟨c',hc'⟩:=FQ (cells:=X.env.cells) scope.names [] p.1 (.inl hm);have e5:c'=c:=xaD ((clIn p.1 c' hc').symm.trans hcell);exact⟨c',hc',by rw[e5];exact his.keeps old⟩
      cell:=fun y c e=>by
        obtain⟨v',q⟩:=I2.cell y c (clIn y c e);exact⟨v',q.keeps old⟩
      free:=by
        show upd H2 s2.heap.objs.size (.lst []) HH.objs.size=none;rw[bT hDC.symm];exact nC
      freeC:=fun y c e=>by
        have hcl:c<s2.heap.objs.size:=by
          obtain⟨_,q⟩:=I2.cell y c (clIn y c e);exact q.lt
        rw[bT (xaC hcl)];exact(I2.freeC y c (clIn y c e)).imp id fun z=>⟨rfl,z.2⟩
      pin:=fun p hp=>by
        have hp':p∈X.pn ++ pins:=by
          rcases xaJ.mp hp with z |z
          · exact z
          · cases z
        obtain⟨e1,e2,e3,e4,e5⟩:=I2.pin p hp';refine⟨old _ _ e1,?_,pinC p hp',fun z=>?_,e5⟩
        · rw[bT (xaC (xan e1))];exact e2
        · rcases xar.mp (I2.stkSub p.1 z) with q |q
          · exact e3 q
          · exact e4 q
      hok:=I2.hok.laid old (xad _) ⟨xaS _,[],0,.nil,hacc⟩
      len:=by simp[dJ]}
  have stC:tn 0 h₁:=T.keep 0 _ _ st2 fun b _ o e=>old b o e;have frC:∀b∈fp,upd H2 s2.heap.objs.size (HO.lst []) b=none:=fun b hb=>by
    rw[bT (fpD b hb)];exact(f2 b hb).1
  -- what stays true of the iterator's objects in the block
  have stat:∀{H':Hp},(∀b∈fp,H' b=none)->∀b∈fp,eN (cN X (xs ++ cs.map (·.1)) scope (f9 X.env.cells scope.names) HH.objs.size s2 H2 fp (X.pn ++ pins)) [] H' b:=fun {H'} hn b hb=>
    ⟨hn b hb, fpC b hb, okC.exfs b hb, .inl hb, fun y c e => (okC.exf b hb).2 y c e, fun p hp => (f2 b hb).2.2.2.2.2 p (by
      rcases xaJ.mp hp with z |z
      · exact z
      · cases z)⟩
  have loop:∀s₃:Shared,s₃={s2 with heap:=h₁,toks:=s2.toks + ([]:List (Str×Value)).length}->
      codeAny (model X.prog X.w) X.A (.compLoop (.ListComp elt [⟨tg,iter,ifs,0⟩] scope pos) 0 (.ref it) (.ref s2.heap.objs.size) (compEnvC scope (f9 X.env.cells scope.names) HH.objs.size X.env)) (RR (.ref s2.heap.objs.size) HH.objs.size) s₃:=by
    rintro s₃ rfl;refine Tv (fun n s'=>∃(i:Nat) (vl:List (Option V)) (ys:List V) (H':Hp),vl.length=xs.length/\Inv (cN X (xs ++ cs.map (·.1)) scope (f9 X.env.cells scope.names) HH.objs.size s2 H2 fp (X.pn ++ pins)) [] (vl ++ dJ cs σ) H' s'/\tn i s'.heap/\(∀b∈fp,H' b=none)/\W i n ys H')
      ?_ m0 ⟨0,_,[],_,xaZ,IC,stC,frC,w0⟩
    rintro n s3 ⟨i,v3,ys,H3,hv3,I3,st3,fr3,w3⟩;obtain⟨hD3,tr⟩:=turn i n ys H3 w3;rcases tr with⟨stop,qn⟩ |⟨go,hsz,N,hN,step⟩
    · refine aY (T.done (cN X (xs ++ cs.map (·.1)) scope (f9 X.env.cells scope.names) HH.objs.size s2 H2 fp (X.pn ++ pins)) rfl rfl rfl hc i [] s3 _ H3 _ I3 (stat fr3) st3 stop) fun r s4 ⟨hr,I4⟩=>?_;subst hr;show RR (.ref s2.heap.objs.size) HH.objs.size (.ok .next) s4
      have IP:Inv X pins σ H3 s4:=I2.call' (ch:=fp) I4.os I4.base I4.hok I4.bare fun b hb=>⟨(f2 b hb).2.2.2.1,(f2 b hb).2.1,(f2 b hb).2.2.2.2.1,(f2 b hb).2.2.2.2.2⟩;obtain⟨m4,⟨oC,es,ep,hoC,hdC,hk1,hk2⟩,_⟩:=I4.loc;have nC3:H3 HH.objs.size=none:=I4.free;have fC:eN X pins H3 HH.objs.size:=I2.fpOk hCle nC3;refine hRR _ _ oC H3 s4 (IP.pins_of fun p hp=>?_) (fun h' e=>⟨m4,oC,es,ep,e,hdC,hk1,hk2⟩) fC qn;rcases xaJ.mp hp with z |z
      · exact IP.pin p (xaK _ z)
      · have e:p=(HH.objs.size,oC):=by simpa using z
        subst e;exact ⟨hoC,nC3,fC.2.1,fC.2.2.1,fun v z=>by
          have z':oC.data=.cell v:=z;rw[hdC]at z';cases z'⟩
    · refine aY (T.item (cN X (xs ++ cs.map (·.1)) scope (f9 X.env.cells scope.names) HH.objs.size s2 H2 fp (X.pn ++ pins)) rfl rfl rfl hc i [] s3 _ H3 _ I3 (stat fr3) st3 go) fun r s4 ⟨u,hr,h4⟩=>?_;subst hr;refine aY h4 fun _ s5 ⟨y,H5,I5,r5,y5,st5,fr5⟩=>?_;have I5':=I5.pinned (stat fr5) (T.obj _ _ st5);refine aY (hg (f9 X.env.cells scope.names) HH.objs.size s2 H2 fp (X.pn ++ pins) _ s5 _ H5 y u _ I5' r5 (step y H5 y5 v3 hv3)) fun _ s6 ⟨σ6,H6,I6,vl6,hl6,e6,q6⟩=>?_;subst e6;refine aY (hq _ _ _ _ _ _ _ s6 _ H6 _ I6 q6) fun b s7 ⟨H7,I7,q7⟩=>?_;have again:∀{v':List (Option V)} {H8:Hp} {s8:Shared} {ys':List V} {m':Nat},v'.length=xs.length->Inv (cN X (xs ++ cs.map (·.1)) scope (f9 X.env.cells scope.names) HH.objs.size s2 H2 fp (X.pn ++ pins)) ([] ++ zB fp s5.heap) (v' ++ dJ cs σ) H8 s8->W (i + 1) m' ys' H8->
          ∃(i:Nat) (vl:List (Option V)) (ys:List V) (H':Hp),vl.length=xs.length/\Inv (cN X (xs ++ cs.map (·.1)) scope (f9 X.env.cells scope.names) HH.objs.size s2 H2 fp (X.pn ++ pins)) [] (vl ++ dJ cs σ) H' s8/\tn i s8.heap/\(∀b∈fp,H' b=none)/\W i m' ys H':=fun {v' H8 s8 ys' m'} hl8 I8 w8=>by
        refine⟨i + 1,v',ys',H8,hl8,I8.unpinned,T.keep _ _ _ st5 fun b hb o e=>(I8.pin (b,o) (xaK _ (xaK _ (BR hb e)))).1,fun b hb=>?_,w8⟩;obtain⟨o,e,d⟩:=T.obj _ _ st5 b hb;exact(I8.pin (b,o) (xaK _ (xaK _ (BR hb e)))).2.1
      cases b with
      |false=>
        rw[xae xaB]at q7;rw[xae xaB];obtain⟨m',hm,w8⟩:=hN _ _ q7;exact⟨m',hm,again hl6 I7 w8⟩
      |true=>
        rw[xac rfl]at q7;rw[xac rfl];refine aY (he _ _ _ _ _ _ _ s7 _ H7 _ I7 q7) fun z s8 ⟨zv,H8,I8,r8,hD8,n8⟩=>?_;obtain⟨m',hm,w8⟩:=hN _ _ n8;refine aY (Hf (X:=cN X (xs ++ cs.map (·.1)) scope (f9 X.env.cells scope.names) HH.objs.size s2 H2 fp (X.pn ++ pins)) _ s8 _ H8 (.ref s2.heap.objs.size) [zv] (.ref s2.heap.objs.size) [z] (fun _ H9=>H9=upd H8 s2.heap.objs.size (.lst (ys ++ [zv]))) I8 rfl (.cons r8 .nil) ⟨_,ys,zv,rfl,rfl,hD8,hsz,rfl⟩) fun _ s9 ⟨_,H9,I9,_,e9⟩=>?_;subst e9;exact⟨m',hm,again hl6 I9 w8⟩
  exact codeAny_compStart_list (loop _ rfl) (T.self _ 0 _ _ _ stC (loop _ rfl))
noncomputable def Rb (wi:TI) (tG:TG) (tq:TT) (te:TE) (n:Nat) (cs:List (Str×Nat)):TE:=fun σ H Q=>DW wi tG tq te n cs σ H fun D H'=>Q (.ref D) H'
theorem X6 (xs:List Str)(cs:List (Str×Nat))(hc:X.calm=true)(hi:PI X tg iter wi)
  (hg:∀(cl:List (Str×Addr)) (C:Addr) (s₀:Shared) (H₀:Hp) (ex:List Addr) (pn:Pnx),PG (cN X (xs ++ cs.map (·.1)) scope cl C s₀ H₀ ex pn) tg tG)
  (hq:∀(cl:List (Str×Addr)) (C:Addr) (s₀:Shared) (H₀:Hp) (ex:List Addr) (pn:Pnx),fY (cN X (xs ++ cs.map (·.1)) scope cl C s₀ H₀ ex pn) ifs tq)
  (he:∀(cl:List (Str×Addr)) (C:Addr) (s₀:Shared) (H₀:Hp) (ex:List Addr) (pn:Pnx),PE (cN X (xs ++ cs.map (·.1)) scope cl C s₀ H₀ ex pn) elt te)
  (ok:Bb X.N X.env.scope xs cs scope=true:=by kernel_rfl) (hs:∀x,foldedSetIterable iter X.env x=pure x:=by intro _;rfl):
  PE X (.ListComp elt [⟨tg,iter,ifs,0⟩] scope pos) (Rb wi tG tq te xs.length cs):=by
 intro pins s σ H Q I h;have ok':=CompOkT.of ok;rw[eval_ListComp];refine xdP (use:=none) rfl hs (KJ fun y hy hk=>I.ok.has y.1 (ok'.has y hy hk)) ok'.kind ok'.names ?_;refine K1 (RR:=fun acc C=>compPost (model X.prog X.w) X.A X.xe none (EP X pins σ Q) acc C) hc hi hg hq he ok' I h ?_;intro D C oC H' s' I' hns fC q;refine⟨_,(hns _ (I'.pin (C,oC) (xaK _ (xaK _ (by simp)))).1).choose_spec,fun h' hs'=>?_⟩;have I1:Inv X pins σ H' s':=I'.unpinned;exact⟨.ref D,H',I1.turned (t':=s'.toks) (fun b o hb e=>(hs'.2 b hb).trans e) fC.1 fC.2.1 fC.2.2.2.1 fC.2.2.2.2.1 fC.2.2.2.2.2,rfl,q⟩
end
section
variable {X:Cx}{elt iter:Expr}{ifs:List Expr}{x:Str}{px:Pos}{scope:Scope}{pos:Pos}{wi:TI}{tq:TT}{te:TE}{cs:List (Str×Nat)}
theorem KY:DW wi (wH 0) tq te 1 cs=xR wi tq te cs:=by
 funext σ H R;have key:∀(v:V) (H3:Hp) (F:St->Hp->Prop),(∀vl:List (Option V),vl.length=1->wH 0 v (vl ++ dJ cs σ) H3 fun σ' H4=>∃vl',vl'.length=1/\σ'=vl' ++ dJ cs σ/\F σ' H4) ↔ F (some v::dJ cs σ) H3:=fun v H3 F=>
  ⟨fun h=>(h [none] rfl).choose_spec.2.2,fun h vl e=>by
   match vl,e with
   | [_],_=>exact⟨[some v],rfl,rfl,h⟩⟩
 simp only[DW,J6,xR,key]
noncomputable def zcS (wi:TI) (tq:TT) (te:TE) (cs:List (Str×Nat)):TE:=fun σ H Q=>xR wi tq te cs σ H fun D H'=>Q (.ref D) H'
theorem Oz (x:Str)(cs:List (Str×Nat))(hc:X.calm=true)(hi:PI X (.Name x px) iter wi)
  (hq:∀(cl:List (Str×Addr)) (C:Addr) (s₀:Shared) (H₀:Hp) (ex:List Addr) (pn:Pnx),fY (cN X (x::cs.map (·.1)) scope cl C s₀ H₀ ex pn) ifs tq)
  (he:∀(cl:List (Str×Addr)) (C:Addr) (s₀:Shared) (H₀:Hp) (ex:List Addr) (pn:Pnx),PE (cN X (x::cs.map (·.1)) scope cl C s₀ H₀ ex pn) elt te)
  (ok:wG X.N X.env.scope x cs scope=true:=by kernel_rfl) (hs:∀x,foldedSetIterable iter X.env x=pure x:=by intro _;rfl):
  PE X (.ListComp elt [⟨.Name x px,iter,ifs,0⟩] scope pos) (zcS wi tq te cs):=by
 have ox:=lookup_relabel_local (env:=X.env) ((CompOkT.of ok).own x (by simp));have h:=X6 (pos:=pos) [x] cs hc hi (fun _ _ _ _ _ _=>zA (i:=0) (CompOkT.of ok).nd rfl (.inl ox) (.inr ox)) hq he ok hs;unfold Rb at h;rw[xaA,KY]at h;exact h
noncomputable def zc9 (k:Nat) (wi:TI) (tq:TT) (te:TE) (cs:List (Str×Nat)):TS:=fun D σ H=>xR wi tq te cs σ H fun l H'=>D.nx (σ.set k (some (.ref l))) H'
theorem YG (x:Str)(cs:List (Str×Nat))(hN:X.N.Nodup)(hk:X.N[k]? =some y)(hy:Loc X.env.scope y)(hc:X.calm=true)(hi:PI X (.Name x px) iter wi)
  (hq:∀(cl:List (Str×Addr)) (C:Addr) (s₀:Shared) (H₀:Hp) (ex:List Addr) (pn:Pnx),fY (cN X (x::cs.map (·.1)) scope cl C s₀ H₀ ex pn) ifs tq)
  (he:∀(cl:List (Str×Addr)) (C:Addr) (s₀:Shared) (H₀:Hp) (ex:List Addr) (pn:Pnx),PE (cN X (x::cs.map (·.1)) scope cl C s₀ H₀ ex pn) elt te)
  (ok:wG X.N X.env.scope x cs scope=true:=by kernel_rfl) (hs:∀x,foldedSetIterable iter X.env x=pure x:=by intro _;rfl)
  (hsw:swapsWith (.ListComp elt [⟨.Name x px,iter,ifs,0⟩] scope pos) (some (.Name y py)) spos.line X.env=pure true:=by rfl)
  (hf:X.fn y=true\/X.env.scope.names.lookup y=some .local:=by first |exact .inl rfl |exact .inr rfl |assumption):
  PS X (.Assign [.Name y py] (.ListComp elt [⟨.Name x px,iter,ifs,0⟩] scope pos) spos) (zc9 k wi tq te cs):=by
 intro pins s σ H D I h;have ok':=CompOkT.of ok;have ox:=lookup_relabel_local (env:=X.env) (ok'.own x (by simp));rw[exec_Assign_Name_used _ _ _ _ hsw];refine xaa (xem (xaa ?_));show wpAny _ X.A (do let _ <-comprehension (.ListComp elt [⟨.Name x px,iter,ifs,0⟩] scope pos) scope X.env _ (newList []) false (eval iter X.env) (some (assign (.Name y py) X.env))) _ _ s
 refine xaa (xbd (xdP (use:=some (assign (.Name y py) X.env)) (Q:=fun _ s'=>SP X pins D .next s') rfl hs (KJ fun y hy hk=>I.ok.has y.1 (ok'.has y hy hk)) ok'.kind ok'.names
  (K1 (xs:=[x]) (RR:=fun acc C=>compPost (model X.prog X.w) X.A X.xe (some (assign (.Name y py) X.env)) (fun _ s'=>SP X pins D .next s') acc C) hc hi (fun _ _ _ _ _ _=>zA (i:=0) ok'.nd rfl (.inl ox) (.inr ox)) hq he ok' I (by rw[xaA,KY];exact h) ?_)) (fun _ s' hq=>xab (xab hq)) fun _ _ e=>e)
 intro l C oC H' s' I' hns fC q;show wpAny _ X.A (assign (.Name y py) X.env (.ref l)) _ _ _;refine wpAny_assign_Name (Jr (v:=.ref l) I' hN hk hy rfl (fun s'' I''=>?_) hf);refine⟨_,(hns _ (I''.pin (C,oC) (xaK _ (xaK _ (by simp)))).1).choose_spec,fun h' hs'=>?_⟩;have I1:Inv X pins _ H' s'':=I''.unpinned;exact⟨_,H',I1.turned (t':=s''.toks) (fun b o hb e=>(hs'.2 b hb).trans e) fC.1 fC.2.1 fC.2.2.2.1 fC.2.2.2.2.1 fC.2.2.2.2.2,q⟩
end
def J0 (J:It)(tq:TT)(te:TE)(cs:List (Str×Nat))(σ:St)(H1:Hp)(R:Addr->Hp->Prop):Prop:=∀D,H1 D=none->
  ∃W:Nat->Nat->List V->Hp->Prop,(∃m,W 0 m [] (upd H1 D (.lst [])))/\∀i m ys H2,W i m ys H2->H2 D=some (.lst ys)/\
    ((J.stop i H2 /\ R D H2) \/ (J.go i H2/\ys.length<sizeLine/\∃N:List V->Hp->Prop,(∀ys' H',N ys' H'->∃m',m'<m/\W (i + 1) m' ys' H')/\∀v H3,J.yld i H2 v H3->tq (some v::dJ cs σ) H3 fun b H4=>
      if b=true then te (some v::dJ cs σ) H4 fun y H5=>H5 D=some (.lst ys)/\N (ys ++ [y]) (upd H5 D (.lst (ys ++ [y]))) else N ys H4))
theorem TV (n:Nat)(P:Addr->Nat->List V->Hp->Prop)
  (h0:∀D,H1 D=none->P D 0 [] (upd H1 D (.lst []))) (hl:∀D i ys H2,i<=n->P D i ys H2->H2 D=some (.lst ys)/\ys.length<sizeLine)
  (hgo:∀D i ys H2,i<n->P D i ys H2->J.go i H2) (hst:∀D ys H2,H1 D=none->P D n ys H2->J.stop n H2/\R D H2)
  (hs:∀D i v ys H2 H3,i<n->P D i ys H2->J.yld i H2 v H3->tq (some v::dJ cs σ) H3 fun b H4=>if b=true then te (some v::dJ cs σ) H4 fun y H5=>H5 D=some (.lst ys)/\P D (i + 1) (ys ++ [y]) (upd H5 D (.lst (ys ++ [y]))) else P D (i + 1) ys H4):
  J0 J tq te cs σ H1 R:=by
 intro D hD;refine⟨fun i m ys H=>m=n - i/\i<=n/\P D i ys H,⟨n,by simp,xaS _,h0 D hD⟩,?_⟩;rintro i m ys H2 ⟨rfl,hi,p⟩;obtain⟨q2,q3⟩:=hl D i ys H2 hi p;refine⟨q2,?_⟩
 by_cases hlt:i<n
 ·exact .inr ⟨hgo D i ys H2 hlt p,q3,P D (i + 1),fun ys' H' p'=>⟨n - (i + 1),by lia,rfl,hlt,p'⟩,fun v H3 y=>hs D i v ys H2 H3 hlt p y⟩
 ·have e:i=n:=by lia
  subst e;exact .inl (hst D ys H2 hD p)
theorem rZ (hD:H D=none):Same H (upd H D o):=fun b ob e=>by
 rw[bT (rC e hD)];exact e
theorem comp_map {J:It}{te:TE}{cs:List (Str×Nat)}{σ:St}{H1:Hp}{R:Addr->Hp->Prop}(n:Nat)(f:Nat->V)(hn:n<sizeLine)
  (hgo:∀i H2,i<n->Same H1 H2->J.go i H2) (hst:∀H2,Same H1 H2->J.stop n H2)
  (hy:∀i v H2 H3,i<n->Same H1 H2->J.yld i H2 v H3->H3=H2/\∀Q:VK,Q (f i) H2->te (some v::dJ cs σ) H2 Q)
  (hd:∀D,H1 D=none->R D (upd H1 D (.lst ((List.range n).map f)))):J0 J vh te cs σ H1 R:=by
 refine TV n (fun D i ys H2=>i<=n/\H1 D=none/\ys=(List.range i).map f/\H2=upd H1 D (.lst ys)) (fun D hD=>⟨xaS _,hD,rfl,rfl⟩) ?_ ?_ ?_ ?_
 ·rintro D i ys H2 hi ⟨_,hD,e1,e2⟩;subst e1 e2;exact⟨dw,by rw[xaf,xbS];lia⟩
 ·rintro D i ys H2 hi ⟨_,hD,e1,e2⟩;subst e2;exact hgo i _ hi (rZ hD)
 ·rintro D ys H2 _ ⟨_,hD,e1,e2⟩;subst e2;refine⟨hst _ (rZ hD),?_⟩;subst e1;exact hd D hD
 ·rintro D i v ys H2 H3 hi ⟨_,hD,e1,e2⟩ y;subst e2;obtain⟨e3,q⟩:=hy i v _ H3 hi (rZ hD) y;subst e3;unfold vh;dsimp only;rw[xac rfl];refine q _ ⟨dw,hi,hD,?_,zby⟩;rw[e1,List.range_succ,xaR];rfl
structure Noted (fs:List Addr)(z:Addr)(h h':Heap)(e:Addr)(oe:Obj)(T:Addr)(fl:Value):Prop where
 keep:∀b o,b∉fs->b≠e->b≠z->h.get? b=some o->h'.get? b=some o
 slot:∀b o,b∈fs->b≠e->b≠z->h.get? b=some o->∃sl,h'.get? b=some {o with slots:=sl}
 exc:h'.get? e=some (oe.mapFields (·.setIfInBounds 1 (.ref T)))
 new:h.objs.size<=T
 tb:∃oT ts,h'.get? T=some oT/\oT.data=.fields ts/\ts[3]? =some fl
section
variable {M:Model}{A:Around}{E:Value->Shared->Prop}{s:Shared}{base:Heap}{env:Env}{outer:List Env}{L e z:Addr}{oe:Obj}{vs:Array Value}{Q:Unit->Shared->Prop}
theorem Wi (a1:A.frames=some (env::outer))(a2:s.heap.FunFrames base (env::outer))(a3:env.frame=some L)
  (a4:s.heap.get? e=some oe) (a5:oe.data=.fields vs) (a6:1<vs.size)
  (k:∀h' T,Noted (frs (env::outer)) e s.heap h' e oe T (rawInt L)->Q () {s with heap:=h'}):
  wpAny M A (do
   let a <-frameOf env
   let pl <-entryPlaceOf L hadNext
   let b <-EntryCells.newEntry head a .none (rawInt L) .none pl
   setField (.ref e) 1 b) Q E s:=by
 have ne:e∉frs (env::outer):=fun m=>by
  obtain⟨_,o,e1,e2⟩:=a2.mem m;rw[a4]at e1;cases e1;exact e2 vs a5
 refine xaa (wpAny_frameOf_fun a1 a2 a3 fun h1 S=>?_);refine xaa (wpAny_entryPlaceOf fun pl hpl=>?_);unfold EntryCells.newEntry newFields;refine xaa (xa2 ?_ (hpl.sizeOk5 _ _ _ _ _));have b1:h1.get? e=some oe:=(S.2.1 e ne).trans a4;have b2:=xag (h:=h1) {cls:=.type "traceback",dict:=none,data:=.fields ([head,.ref L,.none,rawInt L,.none] ++ (if pl.isEmpty then List.replicate 6 Value.none else pl)).toArray} b1
 refine xd3 b2 a5 a6 (k _ h1.objs.size ?_);have n1:h1.objs.size≠e:=xcb (xan b1);have frd:=Obj.isFreed_of_fields (xbX a5 (·.setIfInBounds 1 (Value.ref h1.objs.size)));refine⟨fun b o nb nbe _ hb=>?_,fun b o _ nbe _ hb=>?_,xbG _ b2 frd,xdh S.1.symm,?_⟩
 ·rw[xa3 _ _ (xbR nbe)];exact xag _ ((S.2.1 b nb).trans hb)
 ·obtain⟨sl,q⟩:=S.2.2 b o hb;refine⟨sl,?_⟩;rw[xa3 _ _ (xbR nbe)];exact xag _ q
 ·refine⟨_,_,(xa3 _ _ (xbR n1)).trans (xav h1 rfl),rfl,?_⟩;rcases hpl with rfl |⟨_,_,_,_,_,_,_,rfl⟩<;>simp
theorem Ur (b1:s.heap.get? e=some oe)(b2:oe.data=.fields vs)(b3:vs[1]? =some (.ref T))(b4:s.heap.get? T=some oT)(b5:oT.data=.fields ts)(b6:3<ts.size)
  (k:Q () {s with heap:=s.heap.update T (Obj.mapFields (·.setIfInBounds 3 .none))}):wpAny M A (setFlight (.ref e) none) Q E s:=by
 unfold setFlight;refine xaa (xcX b1 b2 b3 ?_);rw[xac (by simp)];exact xd3 b4 b5 b6 k
theorem Wn (N:Noted fs z h h1 e oe T fl)(a4:h.get? e=some oe)(a5:oe.data=.fields vs):Noted fs z h (h1.update T (Obj.mapFields (·.setIfInBounds 3 .none))) e oe T .none:=by
 obtain⟨oT,ts,t1,t2,t3⟩:=N.tb;have ne:∀b o,h.get? b=some o->b≠T:=fun b o q=>xaC (xap (xan q) N.new);refine⟨fun b o n1 n2 n3 hb=>?_,fun b o n1 n2 n3 hb=>?_,?_,N.new,?_⟩
 ·rw[xa3 _ _ (xbR (ne b o hb))];exact N.keep b o n1 n2 n3 hb
 ·obtain⟨sl,q⟩:=N.slot b o n1 n2 n3 hb;exact⟨sl,by rw[xa3 _ _ (xbR (ne b o hb))];exact q⟩
 ·rw[xa3 _ _ (xbR (ne e oe a4))];exact N.exc
 ·have z3:3<ts.size:=(xb3.mp t3).1;exact⟨_,_,xbG _ t1 (Obj.isFreed_of_fields (xbX t2 _)),xbX t2 _,by simp[z3]⟩
theorem Wm (N:Noted fs z h s.heap e oe T fl)(a4:h.get? e=some oe)(a5:oe.data=.fields vs)(a6:1<vs.size)
  (k:∀h',Noted fs z h h' e oe T .none->Q () {s with heap:=h'}):wpAny M A (setFlight (.ref e) none) Q E s:=by
 obtain⟨oT,ts,t1,t2,t3⟩:=N.tb;refine Ur N.exc (xbX a5 _) (by simp[a6]) t1 t2 (xb3.mp t3).1 (k _ (Wn N a4 a5))
theorem Wj (a1:A.frames=some (env::outer))(a2:s.heap.FunFrames base (env::outer))(a3:env.frame=some L)
  (a4:s.heap.get? e=some oe) (a5:oe.data=.fields vs) (a6:vs[1]? =some (.ref T0)) (b1:T0≠e) (b2:s.heap.get? T0=some oT) (b3:oT.data=.fields ts) (b4:ts[3]? =some .none)
  (k:∀h' T,Noted (frs (env::outer)) T0 s.heap h' e oe T (rawInt L)->Q () {s with heap:=h'}):wpAny M A (noteFrame (.ref e) env) Q E s:=by
 have z1:=(xb3.mp a6).1;unfold noteFrame;simp only[a3];refine xaa (xcX a4 a5 a6 ?_);rw[xac (by simp)];refine xaa (xcX b2 b3 b4 ?_);rw[xae (by simp[rawInt])];refine xaa (xd3 b2 b3 (xb3.mp b4).1 ?_);have oth:∀b,b≠T0->(s.heap.update T0 (Obj.mapFields (·.setIfInBounds 3 Value.none))).get? b=s.heap.get? b:=fun b hb=>xa3 _ _ (xbR hb);have fr:∀b o,s.heap.get? b=some o->(∀us,o.data≠ .fields us)->b≠T0:=fun b o hb n r=>by
  rw[r,b2]at hb;cases hb;exact n ts b3
 refine Wi (s:={s with heap:=s.heap.update T0 (Obj.mapFields (·.setIfInBounds 3 Value.none))}) a1 (a2.of_keeps fun b o hb n=>⟨o,(oth b (fr b o hb n)).trans hb,rfl⟩) a3 ((oth e (xbR b1)).trans a4) a5 z1 fun h' T N=>k h' T ?_;exact⟨fun b o n1 n2 n3 hb=>N.keep b o n1 n2 n2 ((oth b n3).trans hb),fun b o n1 n2 n3 hb=>N.slot b o n1 n2 n2 ((oth b n3).trans hb),N.exc,by rw[<-Heap.size_after_update s.heap T0 (Obj.mapFields (·.setIfInBounds 3 Value.none))];exact N.new,N.tb⟩
end
abbrev JX:List Value:=[.type "ValueError",.type "Exception",.type "BaseException",.type "object"]
def JW:List Value->Bool
 |.ref _::r=>JW r
 |l=>l==JX
noncomputable def kY (K:Fgx) (C:Addr):Bool:=match K.lookup C with
  | some ⟨.type "type", _, .cls cd, sl⟩ => (match cd.mro,sl.toList with
    |.ref c::bm,[_,_,_,_,some (.builtin n),_]=>c==C && (n=="ValueError.__new__" && (!cd.hasDel && (PySem.W.tailIn K JX bm && (PySem.W.nsOkIn K cd.ns && (cd.hasDict && JW bm)))))
    |_,_=>false)
  |_=>false
structure XCls (h:Heap)(C:Addr)(nm qn:Str)(N:Addr)(bs bm:List Value)(sn:List Str)(sub:List Value)(ab:Bool)(col:Option Bool)(dd:Option Addr)(k0 k1 k2 k3 k5:Option Value):Prop where
 obj:h.get? C=some (excClassObj nm qn C N bs bm true sn sub ab col dd k0 k1 k2 k3 k5 "ValueError.__new__")
 tail:OwnTail h JX bm
 ns:h.Ns N (h.nsMap N)
 over:JW bm=true
noncomputable def RJ (K:Fgx) (C:Addr):Bool:=match K.lookup C with
 |some ⟨_,_,.cls cd,_⟩=>PySem.W.nsIn K cd.ns "__init__"==some none
 |_=>false
noncomputable def Ec (K:Fgx) (C:Addr):Bool:=PySem.W.findIn K (.ref C) "__getattribute__"==some (some (.builtin "BaseException.__getattribute__")) &&
 (PySem.W.findIn K (.ref C) "__getattr__"==some none && PySem.W.mroIn K C (.type "BaseException")==some true)
noncomputable def xo (a C:Addr) (dx:Option Addr) (b:Bool):HO:=.ext fun h=>∃oe vs t,h.get? a=some oe/\oe.cls=.ref C/\oe.dict=dx/\oe.data=.fields vs/\vs.size=6/\vs[0]? =some (.ref t)/\(b=true->vs[1]? =some .none)
theorem zc1 (x:∃oe vs t,h.get? a=some oe/\oe.cls=.ref C/\oe.dict=dx/\oe.data=.fields vs/\vs.size=6/\vs[0]? =some (.ref t)/\(b=true->vs[1]? =some .none)):
  eG P w H h a (xo a C dx b):=by
 obtain⟨oe,vs,t,e,r⟩:=x;exact⟨⟨oe,vs,t,e,r⟩,⟨oe,e⟩,fun h1 h2 ⟨oe,vs,t,e,r⟩ k=>⟨oe,vs,t,k _ e,r⟩⟩
def Ef (h:Heap)(a T:Addr):Prop:=∃oe vs oT ts,h.get? a=some oe/\oe.data=.fields vs/\vs[1]? =some (.ref T)/\T≠a/\h.get? T=some oT/\oT.data=.fields ts/\ts[3]? =some .none
section
variable {P:Program}{w:World}{H:Hp}{h h':Heap}{fs ch:List Addr}{z a C T:Addr}{oe:Obj}{fl:Value}{dx:Option Addr}{b:Bool}{vs:Array Value}
theorem Wl (N:Noted fs z h h' a oe T .none)(e1:h.get? a=some oe)(e2:oe.data=.fields vs)(e3:vs.size=6):Ef h' a T:=by
 obtain⟨oT,ts,t1,t2,t3⟩:=N.tb;refine⟨_,_,oT,ts,N.exc,xbX e2 _,by simp[e3],fun q=>?_,t1,t2,t3⟩;have z:=xap (xan e1) N.new;rw[q]at z;exact absurd z (xck _)
theorem Wo (N:Noted fs z h h' a oe T fl)(x:∃vs t,oe.cls=.ref C/\oe.dict=dx/\oe.data=.fields vs/\vs.size=6/\vs[0]? =some (.ref t)):∃oe vs t,h'.get? a=some oe/\oe.cls=.ref C/\oe.dict=dx/\oe.data=.fields vs/\vs.size=6/\vs[0]? =some (.ref t)/\(false=true->vs[1]? =some .none):=by
 obtain⟨vs,t,c1,c2,c3,c4,c5⟩:=x;refine⟨_,_,t,N.exc,(Obj.cls_mapFields _ _).trans c1,?_,xbX c3 _,by simp[c4],?_,fun q=>by cases q⟩
 ·obtain⟨_,_,od,_⟩:=oe;dsimp only at c3;subst c3;exact c2
 ·rw[Array.getElem?_setIfInBounds_ne (by decide)];exact c5
theorem za7 (N:Noted fs z h h' a oe T fl)(ha:H a=some (xo a C dx b))(hz:z=a\/z∈ch):Un fs ch H (upd H a (xo a C dx false)) h h':=by
 have n1:∀c,H c=none->c≠a:=fun c n q=>by rw[q,ha]at n;cases n
 have n2:∀c,c≠a->c∉ch->c≠z:=fun c n m q=>by
  rcases hz with r |r
  ·exact n (q.trans r)
  ·exact m (q ▸ r)
 have n3:∀c u,H c=some u->(∀φ,u≠ .ext φ)->c≠a:=fun c u q m r=>by
  rw[r,ha]at q;exact m _ (xaD q).symm
 refine ⟨fun c o q n hc hx=>N.keep c o hc (n1 c n) (n2 c (n1 c n) hx) q,fun c o q n hc hx=>N.slot c o hc (n1 c n) (n2 c (n1 c n) hx) q,fun c o q n hx=>by rw[bT (n1 c n)];exact n,fun c o q hx=>?_,
  fun c xs q=>by rw[bT (n3 c _ q (by intro _ z;cases z))];exact q,fun c o u q=>by rw[bT (n3 c _ q (by intro _ z;cases z))];exact q,fun c ps q=>⟨#[],by rw[bT (n3 c _ q (by intro _ z;cases z)),q];simp⟩⟩
 by_cases ca:c=a
 ·rw[ca];exact⟨_,N.exc⟩
 ·by_cases cf:c∈fs
  ·obtain⟨sl,r⟩:=N.slot c o cf ca (n2 c ca hx) q;exact⟨_,r⟩
  ·exact⟨o,N.keep c o cf ca (n2 c ca hx) q⟩
theorem U7 (ok:cJ P w H h)(N:Noted fs z h h' a oe T fl)(ha:H a=some (xo a C dx b))(hz:z=a\/H z=none)(hf:∀c∈fs,H c=none)
  (x:∃vs t,oe.cls=.ref C/\oe.dict=dx/\oe.data=.fields vs/\vs.size=6/\vs[0]? =some (.ref t)):cJ P w (upd H a (xo a C dx false)) h':=fun c u q=>by
 have n3:∀c u,H c=some u->(∀φ,u≠ .ext φ)->c≠a:=fun c u q m r=>by
  rw[r,ha]at q;exact m _ (xaD q).symm
 by_cases hc:c=a
 ·subst hc;rw[dw]at q;cases q;exact zc1 (Wo N x)
 ·rw [bT hc] at q;have kp : ∀ d u v, H d = some u -> d ≠ a -> h.get? d = some v -> h'.get? d = some v := fun d u v q nd r => N.keep d v (fun m => by rw [hf d m] at q; cases q) nd (fun e=>by
   rcases hz with g |g
   ·exact nd (e.trans g)
   ·rw[e,g]at q;cases q) r
  refine(ok c u q).stay (fun d v hd r=>?_) (fun d r=>by rw[bT (n3 d _ r (by intro _ z;cases z))];exact r) fun d xs r=>by rw[bT (n3 d _ r (by intro _ z;cases z))];exact r
  rcases hd with rfl |hd
  ·exact kp d u v q hc r
  ·exact kp d _ v hd (n3 d _ hd (by intro _ z;cases z)) r
theorem Un.less (u:Un (L::fs) ch H H' h h')(n:h.get? L=none):Un fs ch H H' h h':=by
 have m:∀c o,h.get? c=some o->c≠L:=fun c o q e=>by rw[e,n]at q;cases q
 exact⟨fun c o q k hc hx=>u.keep c o q k (fun z=>(xar.mp z).elim (m c o q) hc) hx,fun c o q k hc hx=>u.slot c o q k (xal _ hc) hx,u.free,u.there,u.tups,u.frzs,u.tbls⟩
end
noncomputable def wj (P:Program) (w:World):eV:=fun outer H s E e s'=>∃a C dx H' T,e=.ref a/\s'.os=s.os/\AllBare s'.gens/\Un (frs outer) [] H H' s.heap s'.heap/\cJ P w H' s'.heap/\H' a=some (xo a C dx false)/\H' T=none/\s.heap.objs.size<=T/\Ef s'.heap a T/\E (.ref C) dx H'
theorem zcj (e:H a=some o):upd H a o=H:=by
 funext b;unfold upd
 split
 ·subst_vars;exact e.symm
 ·rfl
theorem zcb (ok:cJ P w H h)(e:H a=some (xo a C dx b)):
  ∃oe vs t,h.get? a=some oe/\oe.cls=.ref C/\oe.dict=dx/\oe.data=.fields vs/\vs.size=6/\vs[0]? =some (.ref t)/\(b=true->vs[1]? =some .none):=(ok a _ e).1
section
variable {X:Cx}{pins:Pnx}{σ:St}{H:Hp}{s:Shared}
noncomputable def Ed (K : Fgx) (C : Addr) : Bool := Ec K C && (PySem.W.hasDictIn K C && (PySem.W.findIn K (.ref C) "__class__"==some (some (.builtin "object.__class__")) &&
 (PySem.W.specialIn K (.builtin "object.__class__") "__get__"==some (some (.builtin "getset_descriptor.__get__")) && (PySem.W.takesIn K (.builtin "object.__class__")==some true && PySem.W.mroIn K C (.type "object")==some true))))
end
section
variable {X:Cx}{pins:Pnx}{σ:St}{H:Hp}{s:Shared}
structure Caught (X:Cx)(pins:Pnx)(σ:St)(H:Hp)(s:Shared)(a C:Addr)(dx:Option Addr)(T:Addr):Prop where
 inv:Inv X pins σ H s
 obj:H a=some (xo a C dx false)
 fl:Ef s.heap a T
 hT:H T=none
 t1:X.s₀.heap.objs.size<=T
 t2:T≠X.env.locals
 t3:∀x c,X.env.cells.lookup x=some c->c≠T
 t4:∀p∈X.pn ++ pins,p.1≠T
theorem Tn (I:Inv X pins σ H s)(h:s.heap.objs.size<=T):X.s₀.heap.objs.size<=T/\T≠X.env.locals/\(∀x c,X.env.cells.lookup x=some c->c≠T)/\∀p∈X.pn ++ pins,p.1≠T:=by
 refine⟨xaq I.sz h,xcb (xap I.lt h),fun x c e=>?_,fun p hp=>?_⟩
 ·obtain⟨v,o,ho,_⟩:=I.cell x c e;exact xaC (xap (xan ho) h)
 ·exact xaC (xap (xan (I.pin p hp).1) h)
variable {a C T:Addr}{dx:Option Addr}{Q:Unit->Shared->Prop}{E:Value->Shared->Prop}{M:Model}
theorem Caught.note (c:Caught X pins σ H s a C dx T)(hs:X.stack=X.env::X.outer)(hf:X.env.frame=some X.env.locals)(k:∀s' T',Caught X pins σ H s' a C dx T'->Q () s'):
  wpAny M X.A (noteFrame (.ref a) X.env) (fun _ s2=>wpAny M X.A (setFlight (.ref a) none) Q E s2) E s:=by
 obtain ⟨oe, vs, t, e1, e2, e3, e4, e5, e6, _⟩ := zcb c.inv.hok c.obj;obtain ⟨oe', vs', oT, ts, f1, f2, f3, f4, f5, f6, f7⟩ := c.fl;rw [e1] at f1;cases f1;rw [e4] at f2;cases f2;have fr := c.inv.ok.frames;have st := c.inv.stack;rw [hs] at fr st;refine Wj fr st hf e1 e4 f3 f4 f5 f6 f7 fun h' T' N => Wm (s := { s with heap := h' }) N e1 e4 (by lia) fun h2 N2 => k _ T' ?_;have hx : ∃ vs t, oe.cls = .ref C /\ oe.dict = dx /\ oe.data = .fields vs /\ vs.size = 6 /\ vs[0]? = some (.ref t) := ⟨vs, t, e2, e3, e4, e5, e6⟩;rw [<- hs] at N2;have u := za7 (ch := [T]) N2 c.obj (.inr (xax.mpr rfl));have hk := U7 c.inv.hok N2 c.obj (.inr c.hT) (fun b hb => c.inv.stkFree b hb) hx;rw [zcj c.obj] at u hk;have I2 : Inv X pins σ H { s with heap := h2 } := c.inv.call' (s' := { s with heap := h2 }) rfl u hk c.inv.bare (fun b hb=>by
  rw[xax.mp hb];exact⟨.inr c.t1,c.t2,c.t3,c.t4⟩)
 obtain⟨z1,z2,z3,z4⟩:=Tn c.inv N2.new;exact⟨I2,c.obj,Wl N2 e1 e4 e5,c.inv.hok.fresh N2.new,z1,z2,z3,z4⟩
end
abbrev Cx.pin (X:Cx)(pins:Pnx)(E:Value->Shared->Prop):Cx:={X with pn:=X.pn ++ pins,xe:=E}
abbrev Cx.suite (X:Cx)(e:Value):Cx:={X with A:=X.A.mark (some e),calm:=false,xe:=fun _ _=>False}
end L2
namespace E3
open PySem PySem.Spec PyProof.Rows L2
inductive D where
 |non |bl (b:Bool) |int (i:Int) |str (s:Str) |tup (xs:List D) |lst (xs:List D) |ref (n:Nat)
structure FnT where
 st:Stmt
 x:Str
 q:Str
 pos:Pos
 fr:List Str
 dd:List Int:=[]
inductive Cl where
  |lst (ds:List D) |obj (c:Str) (fs:List (Str×D)) |dct (kvs:List (L2.Key×D))
    |dcf (kvs:List (L2.Key×D))
    |dtc (kvs:List (List L2.Key×D)) |dtf (kvs:List (List L2.Key×D))
    |fn (i:FnT) (caps:List (Str×D)) |tbl (nm:Str) (i:FnT)
    |tpc (ds:List D)
abbrev Mm:=List Cl
inductive Slot where
 |un |val (d:D) |own (ds:List D) |exc (c:Str) (n:Int)
abbrev Env:=List Slot
mutual
def D.lf:D->Bool
 |.tup xs=>D.lfs xs
 |.lst _=>false
 |.ref _=>false
 |_=>true
def D.lfs:List D->Bool
 | []=>true
 |a::as=>D.lf a && D.lfs as
end
def KL (K:Fgx)(a:Addr)(vs:List V):Prop:=∃(o:Obj) (its:Array Value) (n:Nat),K.lookup a=some o/\o.cls=.type "list"/\o.dict=none/\o.data=.seq its n/\its.size<=sizeLine/\Vals vs its.toList
structure Pl where
 io:Nat->Addr
 n:Nat
 bd:Addr->Prop
def sU (K:Fgx)(P:Pl)(H:Hp)(a:Addr)(vs:List V):Prop:=(¬ P.bd a/\Rd H a (.lst vs))\/KL K a vs
def J9 (K:Fgx)(P:Pl)(H:Hp)(a:Addr)(vs:List V):Prop:=((∀k,k<P.n->P.io k≠a)/\Rd H a (.lst vs))\/KL K a vs
mutual
def Is (K:Fgx)(P:Pl)(H:Hp):D->V->Prop
 |.non,v=>v=.non
 |.bl b,v=>v=.bl b
 |.int i,v=>v=.int i
 |.str s,v=>v=.str s
 |.tup ds,v=>∃a vs,v=.ref a/\d7 K H a vs/\aC K P H ds vs
 |.lst ds,v=>∃a vs,v=.ref a/\sU K P H a vs/\aC K P H ds vs
 |.ref k,v=>k<P.n/\v=.ref (P.io k)
def aC (K:Fgx)(P:Pl)(H:Hp):List D->List V->Prop
 | [],vs=>vs=[]
 |d::ds,vs=>∃v r,vs=v::r/\Is K P H d v/\aC K P H ds r
end
def Fx (o:HO):Prop:=(∃xs,o=.tup xs)\/(∃u w,o=.frz u w)\/(∃g,o=.ext g)\/∃fs,o=.xd fs
structure Lt (P:Pl)(H:Hp)(P':Pl)(H':Hp):Prop where
 n:P.n<=P'.n
 io:∀k,k<P.n->P'.io k=P.io k
 bd:∀a,P'.bd a->P.bd a\/H a=none
 keep:∀a o,H a=some o->(Fx o\/¬ P.bd a)->H' a=some o
 sure:∀a,H' a=none->H a=none
section
variable {K:Fgx}{P P' P'':Pl}{H H' H'':Hp}
theorem Lt.refl (P:Pl)(H:Hp):Lt P H P H:=⟨xad _,fun _ _=>rfl,fun _ z=>.inl z,fun _ _ e _=>e,fun _ z=>z⟩
theorem Lt.frz (l:Lt P H P' H'):∀b o u,H b=some (.frz o u)->H' b=some (.frz o u):=fun b o u e=>l.keep b _ e (.inl (.inr (.inl ⟨_,_,rfl⟩)))
theorem Lt.fz (l:Lt P H P' H'):∀b o c,H b=some (.frz o (.own c))->H' b=some (.frz o (.own c)):=fun b o c e=>l.frz b o _ e
theorem Lt.not (l:Lt P H P' H')(e:H a=some o)(n:¬ P.bd a):¬ P'.bd a:=fun z=>(l.bd a z).elim n fun z=>by rw[e]at z;cases z
theorem Lt.trans (l:Lt P H P' H')(m:Lt P' H' P'' H''):Lt P H P'' H'' where
 n:=xaq l.n m.n
 io:=fun k h=>(m.io k (xap h l.n)).trans (l.io k h)
 bd:=fun a z=>(m.bd a z).elim (l.bd a) fun z=>.inr (l.sure a z)
 keep:=fun a o e h=>m.keep a o (l.keep a o e h) (h.imp id fun n=>l.not e n)
 sure:=fun a z=>l.sure a (m.sure a z)
theorem Lt.rd (l:Lt P H P' H')(n:¬ P.bd a)(h:Rd H a (.lst xs)):Rd H' a (.lst xs):=by
 rcases h with h |⟨o,h⟩
 ·exact .inl (l.keep _ _ h (.inr n))
 ·exact .inr ⟨o,l.keep _ _ h (.inr n)⟩
theorem Pu (h:Rd H a o):∃o',H a=some o':=h.elim (fun h=>⟨_,h⟩) fun⟨_,h⟩=>⟨_,h⟩
theorem Lt.rda (l:Lt P H P' H')(h:sU K P H a xs):sU K P' H' a xs:=h.imp (fun⟨n,h⟩=>⟨by obtain⟨o,e⟩:=Pu h;exact l.not e n,l.rd n h⟩) id
theorem Lt.tup (l:Lt P H P' H')(h:d7 K H a xs):d7 K H' a xs:=by
 rcases h with(h |⟨o,h⟩) |h
 ·exact .inl (.inl (l.keep _ _ h (.inl (.inl ⟨_,rfl⟩))))
 ·exact .inl (.inr ⟨o,l.keep _ _ h (.inl (.inr (.inl ⟨_,_,rfl⟩)))⟩)
 ·exact .inr h
mutual
theorem Is.mv (n:P.n<=P'.n)(io:∀k,k<P.n->P'.io k=P.io k)(t:∀a vs,d7 K H a vs->d7 K H' a vs)(r:∀a vs,sU K P H a vs->sU K P' H' a vs):∀{d:D} {v:V},Is K P H d v->Is K P' H' d v
  |.non,_,h=>h
  |.bl _,_,h=>h
  |.int _,_,h=>h
  |.str _,_,h=>h
  |.tup ds,_,h=>by
    obtain⟨a,vs,e,s,q⟩:=h;exact⟨a,vs,e,t _ _ s,aC.mv n io t r q⟩
  |.lst ds,_,h=>by
    obtain⟨a,vs,e,s,q⟩:=h;exact⟨a,vs,e,r _ _ s,aC.mv n io t r q⟩
  |.ref k,_,h=>⟨xap h.1 n,by rw[io k h.1];exact h.2⟩
theorem aC.mv (n:P.n<=P'.n)(io:∀k,k<P.n->P'.io k=P.io k)(t:∀a vs,d7 K H a vs->d7 K H' a vs)(r:∀a vs,sU K P H a vs->sU K P' H' a vs):∀{ds:List D} {vs:List V},aC K P H ds vs->aC K P' H' ds vs
  | [],_,h=>h
  |_::_,_,h=>by
    obtain⟨v,w,e,p,q⟩:=h;exact⟨v,w,e,Is.mv n io t r p,aC.mv n io t r q⟩
end
theorem Is.lt (l:Lt P H P' H'){d:D}{v:V}(h:Is K P H d v):Is K P' H' d v:=Is.mv l.n l.io (fun _ _=>l.tup) (fun _ _=>l.rda) h
theorem aC.lt (l:Lt P H P' H'){ds:List D}{vs:List V}(h:aC K P H ds vs):aC K P' H' ds vs:=aC.mv l.n l.io (fun _ _=>l.tup) (fun _ _=>l.rda) h
theorem aC.rd (s:∀b xs,Rd H b (.tup xs)->Rd H' b (.tup xs))(t:∀b xs,Rd H b (.lst xs)->Rd H' b (.lst xs)){ds:List D}{vs:List V}(h:aC K P H ds vs):aC K P H' ds vs:=
 aC.mv (xad _) (fun _ _=>rfl) (fun _ _=>xd4 (s _ _) id) (fun _ _=>xd4 (fun z=>⟨z.1,t _ _ z.2⟩) id) h
noncomputable def Pl.less (P:Pl) (B:Addr->Prop):Pl:={P with bd:=fun a=>P.bd a/\B a}
theorem Is.less (h:Is K P H d v):Is K (P.less B) H d v:=Is.mv (P:=P) (P':=P.less B) (xad _) (fun _ _=>rfl) (fun _ _ z=>z) (fun _ _ s=>s.imp (fun⟨n,h⟩=>⟨fun z=>n z.1,h⟩) id) h
theorem aC.less (h:aC K P H ds vs):aC K (P.less B) H ds vs:=aC.mv (P:=P) (P':=P.less B) (xad _) (fun _ _=>rfl) (fun _ _ z=>z) (fun _ _ s=>s.imp (fun⟨n,h⟩=>⟨fun z=>n z.1,h⟩) id) h
mutual
theorem Is.free (P':Pl):∀{d:D} {v:V},d.lf=true->Is K P H d v->Is K P' H d v
  |.non,_,_,h=>h
  |.bl _,_,_,h=>h
  |.int _,_,_,h=>h
  |.str _,_,_,h=>h
  |.tup ds,_,l,h=>by
    obtain⟨a,vs,e,s,r⟩:=h;exact⟨a,vs,e,s,aC.free P' (by simpa only[D.lf] using l) r⟩
  |.lst _,_,l,_=>by simp[D.lf]at l
  |.ref _,_,l,_=>by simp[D.lf]at l
theorem aC.free (P':Pl):∀{ds:List D} {vs:List V},D.lfs ds=true->aC K P H ds vs->aC K P' H ds vs
  | [],_,_,h=>h
  |_::_,_,l,h=>by
    obtain⟨v,r,e,p,q⟩:=h;simp only[D.lfs,xaF]at l;exact⟨v,r,e,Is.free P' l.1 p,aC.free P' l.2 q⟩
end
theorem aC.len:∀{ds:List D} {vs:List V},aC K P H ds vs->vs.length=ds.length
  | [],_,h=>by rw[show _=[] from h];rfl
  |d::ds,_,h=>by
    obtain⟨v,r,e,_,q⟩:=h;subst e
    simp[aC.len q]
theorem aC.get:∀{ds:List D} {vs:List V} {i:Nat} {d:D},aC K P H ds vs->ds[i]? =some d->∃v,vs[i]? =some v/\Is K P H d v
  | [],_,_,_,_,e=>by simp at e
  |d::ds,_,0,_,h,e=>by
    obtain⟨v,r,e',p,_⟩:=h
    simp at e
    subst e e';exact⟨v,rfl,p⟩
  |d::ds,_,i + 1,_,h,e=>by
    obtain⟨v,r,e',_,q⟩:=h;subst e'
    simpa using aC.get (i:=i) q (by simpa using e)
theorem aC.append:∀{ds es:List D} {vs ws:List V},aC K P H ds vs->aC K P H es ws->aC K P H (ds ++ es) (vs ++ ws)
  | [],_,_,_,h,q=>by rw[show _=[] from h];exact q
  |d::ds,_,_,_,h,q=>by
    obtain⟨v,r,e,p,h⟩:=h;subst e;exact⟨v,r ++ _,rfl,p,aC.append h q⟩
theorem aC.take:∀{ds:List D} {vs:List V} (n:Nat),aC K P H ds vs->aC K P H (ds.take n) (vs.take n)
  |_,_,0,_=>rfl
  | [],_,n + 1,h=>by rw[show _=[] from h];rfl
  |d::ds,_,n + 1,h=>by
    obtain⟨v,r,e,p,h⟩:=h;subst e;exact⟨v,_,rfl,p,aC.take n h⟩
theorem aC.drop:∀{ds:List D} {vs:List V} (n:Nat),aC K P H ds vs->aC K P H (ds.drop n) (vs.drop n)
  |_,_,0,h=>h
  | [],_,n + 1,h=>by rw[show _=[] from h];rfl
  |d::ds,_,n + 1,h=>by
    obtain⟨v,r,e,p,h⟩:=h;subst e;exact aC.drop n h
theorem aC.one (h:Is K P H d v):aC K P H [d] [v]:=⟨v,[],rfl,h,rfl⟩
theorem aC.set:∀{ds:List D} {vs:List V} {d:D} {v:V} (n:Nat),aC K P H ds vs->Is K P H d v->aC K P H (ds.set n d) (vs.set n v)
  | [],_,_,_,_,h,_=>by rw[show _=[] from h];rfl
  |d::ds,_,_,_,0,h,p=>by
    obtain⟨v,r,e,_,h⟩:=h;subst e;exact⟨_,r,rfl,p,h⟩
  |d::ds,_,_,_,n + 1,h,p=>by
    obtain⟨v,r,e,q,h⟩:=h;subst e;exact⟨v,_,rfl,q,aC.set n h p⟩
end
noncomputable def lB (H:Hp):List (Str×Addr)->List V->Prop
 | [],vs=>vs=[]
 |p::r,vs=>∃v ws u o,vs=v::ws/\RelV v u/\H p.2=some (.frz o (.own p.2))/\o.data=.cell (some u)/\lB H r ws
theorem lB.up {H H':Hp}(s:∀b o u,H b=some (.frz o (.own u))->H' b=some (.frz o (.own u))):∀{cl:List (Str×Addr)} {vs:List V},lB H cl vs->lB H' cl vs
  | [],_,h=>h
  |_::_,_,h=>by
    obtain⟨v,ws,u,o,e,r,q,d,h⟩:=h;exact⟨v,ws,u,o,e,r,s _ _ _ q,d,h.up s⟩
def lC (H:Hp)(c:Addr)(q:Str):Prop:=∃(o:Obj) (fs:Array Value) (t:Tok),H c=some (.frz o (.own c))/\o.data=.fields fs/\fs[1]? =some (.str q t)
theorem lC.up {H H':Hp}{c:Addr}{q:Str}(s:∀b o u,H b=some (.frz o (.own u))->H' b=some (.frz o (.own u)))(h:lC H c q):lC H' c q:=by
 obtain⟨o,fs,t,e,r⟩:=h;exact⟨o,fs,t,s _ _ _ e,r⟩
def lD (H:Hp)(dd:List Int)(dV:Value):Prop:=(dd=[]/\dV=.none)\/(dd≠ []/\∃(td:Addr) (o:Obj) (its:Array Value) (n:Nat),dV=.ref td/\H td=some (.frz o (.own td))/\o.data=.seq its n/\Vals (dd.map V.int) its.toList)
theorem lD.up {H H':Hp}{dd:List Int}{dV:Value}(s:∀b o u,H b=some (.frz o (.own u))->H' b=some (.frz o (.own u)))(h:lD H dd dV):lD H' dd dV:=
 h.imp id fun⟨e,td,o,its,n,e1,e2,r⟩=>⟨e,td,o,its,n,e1,s _ _ _ e2,r⟩
noncomputable def L_ (mg:Mgx) (i:FnT) (cl:List (Str×Addr)) (dV doc ctv:Value) (c:Addr):Obj:={cls:=.type "function",data:=.func (PySem.W.fnX i.x i.q (bU i.st) (bL i.st) (aN i.st) cl dV .none doc ((mg "__name__").getD .none) none (.ref c) ctv)}
def wu (K:Fgx)(mg:Mgx)(P:Pl)(H:Hp)(a:Addr)(i:FnT)(caps:List (Str×D)):Prop:=
 ∃(cl:List (Str×Addr)) (dV doc ctv:Value) (c:Addr) (vs:List V),H a=some (.frz (L_ mg i cl dV doc ctv c) (.own a))/\(lC H c i.q/\lD H i.dd dV)/\(cl.map (·.1)=caps.map (·.1)/\caps.map (·.1)=i.fr)/\aC K P H (caps.map (·.2)) vs/\lB H cl vs/\∀x y a,cl.lookup x=some a->cl.lookup y=some a->x=y
theorem wu.up {K:Fgx}{mg:Mgx}{P P':Pl}{H H':Hp}{a:Addr}{i:FnT}{caps:List (Str×D)}(h:wu K mg P H a i caps)(s:∀b o u,H b=some (.frz o (.own u))->H' b=some (.frz o (.own u)))(q:∀ds vs,aC K P H ds vs->aC K P' H' ds vs):wu K mg P' H' a i caps:=by
 obtain⟨cl,dV,doc,ctv,c,vs,e1,e2,e3,e4,e5,e6⟩:=h;exact⟨cl,dV,doc,ctv,c,vs,s _ _ _ e1,⟨e2.1.up s,e2.2.up s⟩,e3,q _ _ e4,e5.up s,e6⟩
def R6 (K:Fgx)(H:Hp)(a:Addr)(nm:Str)(i:FnT):Prop:=
 ∃(c:Addr) (ps:Array Value),PySem.W.tabIn K nm=some (c,a)/\H a=some (.tbl ps)/\(ps= #[]\/∃c',ps= #[rawInt i.pos.line,rawInt i.pos.col,.ref c']/\lC H c' i.q)
noncomputable def ni (K:Fgx) (mg:Mgx) (P:Pl) (H:Hp) (a:Addr):Cl->Prop
 |.lst ds=>∃vs,H a=some (.lst vs)/\aC K P H ds vs
 |.obj c fs=>∃C dx gs,mg c=some (.ref C)/\H a=some (.ins C dx gs)/\gs.map (·.1)=fs.map (·.1)/\aC K P H (fs.map (·.2)) (gs.map (·.2))
 |.dct kvs=>∃vs:List (L2.Key×V),H a=some (.dK vs)/\vs.map (·.1)=kvs.map (·.1)/\aC K P H (kvs.map (·.2)) (vs.map (·.2))
 |.dcf kvs=>∃(vs:List (L2.Key×V)) (ob:Obj) (es:Array DictEntry) (ep:Nat),H a=some (.frz ob (.dK vs))/\ob.data=.dict es ep/\vs.map (·.1)=kvs.map (·.1)/\aC K P H (kvs.map (·.2)) (vs.map (·.2))
 |.dtc kvs=>∃vs:List (List L2.Key×V),H a=some (.dT vs)/\vs.map (·.1)=kvs.map (·.1)/\aC K P H (kvs.map (·.2)) (vs.map (·.2))
 |.dtf kvs=>∃(vs:List (List L2.Key×V)) (ob:Obj) (es:Array DictEntry) (ep:Nat),H a=some (.frz ob (.dT vs))/\ob.data=.dict es ep/\vs.map (·.1)=kvs.map (·.1)/\aC K P H (kvs.map (·.2)) (vs.map (·.2))
 |.fn i caps=>wu K mg P H a i caps
 |.tbl nm i=>R6 K H a nm i
 |.tpc ds=>∃vs,H a=some (.tup vs)/\aC K P H ds vs
noncomputable def Cl.fix:Cl->Bool
 |.dcf _=>true
 |.dtf _=>true
 |.fn _ _=>true
 |.tpc _=>true
 |_=>false
theorem ni.up {K:Fgx}{mg:Mgx}{P P':Pl}{H H':Hp}{a:Addr}{c:Cl}(h:ni K mg P H a c)(e:∀o,H a=some o->(∀g,o≠ .ext g)->H' a=some o)(s:∀b o u,H b=some (.frz o (.own u))->H' b=some (.frz o (.own u)))(q:∀ds vs,aC K P H ds vs->aC K P' H' ds vs):ni K mg P' H' a c:=by
  cases c with
  |lst ds=>
    obtain⟨vs,e1,r⟩:=h;exact⟨vs,e _ e1 (fun _ z=>nomatch z),q _ _ r⟩
  |obj c fs=>
    obtain⟨C,dx,gs,e1,e2,e3,r⟩:=h;exact⟨C,dx,gs,e1,e _ e2 (fun _ z=>nomatch z),e3,q _ _ r⟩
  |dct kvs=>
    obtain⟨vs,e1,e2,r⟩:=h;exact⟨vs,e _ e1 (fun _ z=>nomatch z),e2,q _ _ r⟩
  |dtc kvs=>
    obtain⟨vs,e1,e2,r⟩:=h;exact⟨vs,e _ e1 (fun _ z=>nomatch z),e2,q _ _ r⟩
  |dcf kvs=>
    obtain⟨vs,ob,es,ep,e1,eD,e2,r⟩:=h;exact⟨vs,ob,es,ep,e _ e1 (fun _ z=>nomatch z),eD,e2,q _ _ r⟩
  |dtf kvs=>
    obtain⟨vs,ob,es,ep,e1,eD,e2,r⟩:=h;exact⟨vs,ob,es,ep,e _ e1 (fun _ z=>nomatch z),eD,e2,q _ _ r⟩
  |fn i caps=>exact wu.up h s q
  |tbl nm i=>
    obtain⟨c,ps,e1,e2,e3⟩:=h;exact⟨c,ps,e1,e _ e2 (fun _ z=>nomatch z),e3.imp id fun⟨c',z,r⟩=>⟨c',z,r.up s⟩⟩
  |tpc ds=>
    obtain⟨vs,e1,r⟩:=h;exact⟨vs,e _ e1 (fun _ z=>nomatch z),q _ _ r⟩
structure Hk (K:Fgx)(mg:Mgx)(P:Pl)(H:Hp)(M:Mm):Prop where
 n:P.n=M.length
 cell:∀(k:Nat) c,M[k]? =some c->ni K mg P H (P.io k) c
 inj:∀j k,j<P.n->k<P.n->P.io j=P.io k->j=k
 bd:∀k,k<P.n->P.bd (P.io k)
 here:∀a,P.bd a->H a≠none
structure LtE (P:Pl)(H:Hp)(P':Pl)(H':Hp):Prop where
 n:P.n<=P'.n
 io:∀k,k<P.n->P'.io k=P.io k
 bd:∀a,P'.bd a->P.bd a\/H a=none
 bm:∀a,P.bd a->P'.bd a
 keep:∀a o,H a=some o->(Fx o\/∀k,k<P.n->P.io k≠a)->H' a=some o
 sure:∀a,H' a=none->H a=none
 nw:∀k,P.n<=k->k<P'.n->H (P'.io k)=none
section
variable {K:Fgx}{mg:Mgx}{P P' P'':Pl}{H H' H'':Hp}{M M':Mm}
theorem LtE.refl (P:Pl)(H:Hp):LtE P H P H:=⟨xad _,fun _ _=>rfl,fun _ z=>.inl z,fun _ z=>z,fun _ _ e _=>e,fun _ z=>z,fun k h1 h2=>absurd h1 (xeg.mpr h2)⟩
theorem LtE.same (s:Same H H'):LtE P H P H':=⟨xad _,fun _ _=>rfl,fun _ z=>.inl z,fun _ z=>z,fun a o e _=>s a o e,fun a z=>s.free z,fun k h1 h2=>absurd h1 (xeg.mpr h2)⟩
theorem Hk.cellAt (h:Hk K mg P H M)(hc:M[k]? =some c)(nd:c.fix=false:=by rfl):∃o,H (P.io k)=some o/\¬ Fx o:=by
  have:=h.cell k c hc
  cases c with
  |lst ds=>
    obtain⟨vs,e,_⟩:=this;exact⟨_,e,fun z=>by rcases z with⟨_,z⟩ |⟨_,_,z⟩ |⟨_,z⟩ |⟨_,z⟩<;>cases z⟩
  |obj c fs=>
    obtain⟨C,dx,gs,_,e,_⟩:=this;exact⟨_,e,fun z=>by rcases z with⟨_,z⟩ |⟨_,_,z⟩ |⟨_,z⟩ |⟨_,z⟩<;>cases z⟩
  |dct kvs=>
    obtain⟨vs,e,_⟩:=this;exact⟨_,e,fun z=>by rcases z with⟨_,z⟩ |⟨_,_,z⟩ |⟨_,z⟩ |⟨_,z⟩<;>cases z⟩
  |dtc kvs=>
    obtain⟨vs,e,_⟩:=this;exact⟨_,e,fun z=>by rcases z with⟨_,z⟩ |⟨_,_,z⟩ |⟨_,z⟩ |⟨_,z⟩<;>cases z⟩
  |dcf kvs=>cases nd
  |dtf kvs=>cases nd
  |fn i caps=>cases nd
  |tpc ds=>cases nd
  |tbl nm i=>
    obtain⟨c,ps,_,e,_⟩:=this;exact⟨_,e,fun z=>by rcases z with⟨_,z⟩ |⟨_,_,z⟩ |⟨_,z⟩ |⟨_,z⟩<;>cases z⟩
theorem LtE.lt (l:LtE P H P' H')(h:Hk K mg P H M):Lt P H P' H' where
 n:=l.n
 io:=l.io
 bd:=l.bd
 sure:=l.sure
 keep:=fun a o e z=>l.keep a o e (z.imp id fun z k hk q=>z (q ▸ h.bd k hk))
theorem LtE.trans (l:LtE P H P' H')(m:LtE P' H' P'' H''):LtE P H P'' H'' where
 n:=xaq l.n m.n
 io:=fun k h=>(m.io k (xap h l.n)).trans (l.io k h)
 bd:=fun a z=>(m.bd a z).elim (l.bd a) fun z=>.inr (l.sure a z)
 bm:=fun a z=>m.bm a (l.bm a z)
 keep:=fun a o e h=>m.keep a o (l.keep a o e h) <| h.imp id fun h k hk q=>by
  rcases xa8 k P.n with z |z
  ·rw[l.io k z]at q;exact h k z q
  ·rw[<-q,l.nw k z hk]at e;cases e
 sure:=fun a z=>l.sure a (m.sure a z)
 nw:=fun k h1 h2=>by
  rcases xa8 k P'.n with z |z
  ·rw[m.io k z];exact l.nw k h1 z
  ·exact l.sure _ (m.nw k z h2)
end
inductive Cp where
 |eq |ne |lt |le |gt |ge |isin |notin |same |other
mutual
def D.eq:D->D->Bool
 |.non,.non=>true
 |.bl a,.bl b=>a==b
 |.bl a,.int b=>(if a then 1 else 0)==b
 |.int a,.bl b=>a==(if b then 1 else 0)
 |.int a,.int b=>a==b
 |.str a,.str b=>a==b
 |.tup a,.tup b=>D.eqs a b
 |.lst a,.lst b=>D.eqs a b
 |.ref a,.ref b=>a==b
 |_,_=>false
def D.eqs:List D->List D->Bool
 | [],[]=>true
 |a::as,b::bs=>D.eq a b && D.eqs as bs
 |_,_=>false
end
mutual
def D.dep:D->Nat
 |.tup xs=>D.deps xs + 1
 |.lst xs=>D.deps xs + 1
 |.ref _=>101
 |_=>0
def D.deps:List D->Nat
 | []=>0
 |a::as=>max (D.dep a) (D.deps as)
end
noncomputable def D.flat:D->Bool
 |.tup _=>false
 |.lst _=>false
 |.ref _=>false
 |_=>true
noncomputable def MJ (i j:Str):Bool:= !(Builtin.Str.occurrences j i 0 j.length 1).isEmpty
def d9 (a b:D):Bool:=a.flat==b.flat && decide (b.dep<=50)
noncomputable def pR (a b:D):Option Bool:=if d9 a b=true/\a.dep<=50 then some (D.eq a b) else none
noncomputable def nF (a b:D):Option Bool:=if d9 a b=true/\a.dep<=50 then some (!D.eq a b) else none
noncomputable def dI (f:Int->Int->Bool) (a b:D):Option Bool:=match a with
 |.int i=>(match b with |.int j=>some (f i j) |_=>none)
 |_=>none
noncomputable def pU (a b:D):Option Bool:=match b with
 |.str j=>(match a with |.str i=>some (MJ i j) |_=>none)
 |.lst xs=>if (a.flat && xs.all D.flat)=true then some (xs.any fun y=>D.eq y a) else none
 |.tup xs=>if (a.flat && xs.all D.flat)=true then some (xs.any fun y=>D.eq y a) else none
 |_=>none
noncomputable def fH (a b:D):Option Bool:=match b with
 |.str j=>(match a with |.str i=>some (!MJ i j) |_=>none)
 |.lst xs=>if (a.flat && xs.all D.flat)=true then some (!xs.any fun y=>D.eq y a) else none
 |.tup xs=>if (a.flat && xs.all D.flat)=true then some (!xs.any fun y=>D.eq y a) else none
 |_=>none
noncomputable def pX (a b:D):Option Bool:=match b with
 |.bl b=>(match a with |.bl a=>some (a==b) |_=>some false)
 |.non=>(match a with |.non=>some true |_=>some false)
 |_=>none
noncomputable def pW (a b:D):Option Bool:=match b with
 |.bl b=>(match a with |.bl a=>some (!(a==b)) |_=>some true)
 |.non=>(match a with |.non=>some false |_=>some true)
 |_=>none
noncomputable def cH (c:Cp) (a b:D):Option Bool:=match c with
 |.eq=>pR a b
 |.ne=>nF a b
 |.lt=>dI (fun i j=>decide (i<j)) a b
 |.le=>dI (fun i j=>decide (i<=j)) a b
 |.gt=>dI (fun i j=>decide (j<i)) a b
 |.ge=>dI (fun i j=>decide (j<=i)) a b
 |.isin=>pU a b
 |.notin=>fH a b
 |.same=>pX a b
 |.other=>pW a b
noncomputable def cF (K:Fgx) (P:Pl) (H:Hp):D->V->Prop
 |.lst ds,v=>∃a vs,v=.ref a/\J9 K P H a vs/\aC K P H ds vs
 |d,v=>Is K P H d v
section
variable {X:Cx}{pins:Pnx}{σ:L2.St}{H:Hp}{s:Shared}
theorem zcO {K:Fgx}{P:Pl}{a:Addr}{xs:List V}(h:J9 K P H a xs):bI K H a xs:=h.imp (·.2) id
noncomputable def bQ (K:Fgx) (P:Pl) (H:Hp):D->V->Prop
 |.lst ds,v=>∃a vs,v=.ref a/\bI K H a vs/\aC K P H ds vs
 |d,v=>Is K P H d v
theorem cF.w {K:Fgx}{P:Pl}{d:D}{v:V}(h:cF K P H d v):bQ K P H d v:=by
 cases d<;>first |exact h |(obtain⟨a,vs,e,r,q⟩:=h;exact⟨a,vs,e,zcO r,q⟩)
theorem Is.w {K:Fgx}{P:Pl}{d:D}{v:V}(h:Is K P H d v):bQ K P H d v:=by
 cases d<;>first |exact h |(obtain⟨a,vs,e,r,q⟩:=h;exact⟨a,vs,e,r.imp (·.2) id,q⟩)
theorem sql (I:Inv X pins σ H s)(h:bI X.K H l xs):xs.length<=sizeLine/\∃its:List Value,Vals xs its/\s.heap.IsList l its.toArray:=by
 obtain⟨its,r,p,z⟩:=I.list h;exact⟨z,its,r,p.isList⟩
mutual
theorem Is.inj (I:Inv X pins σ H s):∀(d e:D) (v:V),bQ X.K A H d v->bQ X.K B H e v->d.dep<=100->e.dep<=100->d=e
  |.ref _,e,v,h,h',hd,he=>by simp[D.dep]at hd
  |.non,e,v,h,h',hd,he=>by
    have hv:v=.non:=h;subst hv;cases e<;>first |(simp[D.dep]at he;done) |(simp[bQ,Is]at h'<;>rfl)
  |.bl b,e,v,h,h',hd,he=>by
    have hv:v=.bl b:=h;subst hv;cases e<;>first |(simp[D.dep]at he;done) |(simp[bQ,Is]at h'<;>simp[h'])
  |.int b,e,v,h,h',hd,he=>by
    have hv:v=.int b:=h;subst hv;cases e<;>first |(simp[D.dep]at he;done) |(simp[bQ,Is]at h'<;>simp[h'])
  |.str b,e,v,h,h',hd,he=>by
    have hv:v=.str b:=h;subst hv;cases e<;>first |(simp[D.dep]at he;done) |(simp[bQ,Is]at h'<;>simp[h'])
  |.tup ds,e,v,h,h',hd,he=>by
    simp only[D.dep]at hd;simp only[bQ,Is]at h;obtain⟨a,vs,rfl,t,r⟩:=h
    cases e with
    |tup es=>
      simp only[bQ,Is]at h';obtain⟨b,ws,e1,t',r'⟩:=h';cases e1;have e2:=I.tuple_inj t t';subst e2;simp only[D.dep]at he;rw[aC.inj I ds es vs r r' (by lia) (by lia)]
    |lst es=>
      obtain⟨b,ws,e1,t',r'⟩:=h';cases e1;obtain⟨_,its,_,o2,e2,c2,_⟩:=sql I t';obtain⟨its2,_,⟨o,e3,c3,_⟩,_⟩:=I.tuple t;rw[e2]at e3;cases e3;rw[c2]at c3;exact absurd c3 (by simp)
    |ref _=>simp[D.dep]at he
    |_=>simp[bQ,Is]at h'
  |.lst ds,e,v,h,h',hd,he=>by
    simp only[D.dep]at hd;obtain⟨a,vs,rfl,t,r⟩:=h
    cases e with
    |lst es=>
      obtain⟨b,ws,e1,t',r'⟩:=h';cases e1;have e2:=I.list_inj (t) (t');subst e2;simp only[D.dep]at he;rw[aC.inj I ds es vs r r' (by lia) (by lia)]
    |tup es=>
      simp only[bQ,Is]at h';obtain⟨b,ws,e1,t',r'⟩:=h';cases e1;obtain⟨_,its,_,o2,e2,c2,_⟩:=sql I t;obtain⟨its2,_,⟨o,e3,c3,_⟩,_⟩:=I.tuple t';rw[e2]at e3;cases e3;rw[c2]at c3;exact absurd c3 (by simp)
    |ref _=>simp[D.dep]at he
    |_=>simp[bQ,Is]at h'
theorem aC.inj (I:Inv X pins σ H s):∀(ds es:List D) (vs:List V),aC X.K A H ds vs->aC X.K B H es vs->D.deps ds<=100->D.deps es<=100->ds=es
  | [],es,vs,h,h',hd,he=>by
    have hv:vs=[]:=h;subst hv
    cases es with
    |nil=>rfl
    |cons=>simp[aC]at h'
  |d::ds,es,vs,h,h',hd,he=>by
    simp only[D.deps]at hd;obtain⟨v,r,rfl,p,q⟩:=h
    cases es with
    |nil=>simp[aC]at h'
    |cons e es=>
      obtain⟨v',r',e1,p',q'⟩:=h';cases e1;simp only[D.deps]at he;rw[Is.inj I d e v p.w p'.w (by lia) (by lia),aC.inj I ds es r q q' (by lia) (by lia)]
end
mutual
theorem D.eq_refl:∀d:D,D.eq d d=true
 |.non=>rfl
 |.bl b=>by simp[D.eq]
 |.int b=>by simp[D.eq]
 |.str b=>by simp[D.eq]
 |.tup ds=>by simp only[D.eq];exact D.eqs_refl ds
 |.lst ds=>by simp only[D.eq];exact D.eqs_refl ds
 |.ref n=>by simp[D.eq]
theorem D.eqs_refl:∀d:List D,D.eqs d d=true
 | []=>rfl
 |d::ds=>by simp only[D.eqs,D.eq_refl d,D.eqs_refl ds,xc2]
end
theorem D.eqs_len:∀(ds es:List D),ds.length≠es.length->D.eqs ds es=false
  | [],[],h=>absurd rfl h
  | [],_::_,_=>rfl
  |_::_,[],_=>rfl
  |d::ds,e::es,h=>by
    simp only[D.eqs,D.eqs_len ds es (by simpa using h),xcM]
theorem D.eqs_all:∀(ds es:List D),ds.length=es.length->D.eqs ds es=(List.range ds.length).all fun j=>D.eq (ds.getD j .non) (es.getD j .non)
  | [],[],_=>rfl
  |d::ds,e::es,h=>by
    rw[D.eqs,D.eqs_all ds es (by simpa using h),xay,List.range_succ_eq_map,xb2,List.all_map];rfl
theorem Pr {Ar:Around}{s:Shared}{a b:Addr}{its its':List Value}{ds es:List D}(l1:its.toArray.size=ds.length)(l2:its'.toArray.size=es.length)(p:s.heap.IsTuple a its.toArray)(p':s.heap.IsTuple b its'.toArray)(hu:Ar.units<cLine)
  (ea:∀(j:Nat) (j1:j<its.toArray.size) (j2:j<its'.toArray.size),SeqAt.EqAt Ar.in1 s its.toArray[j] its'.toArray[j] (D.eq (ds.getD j .non) (es.getD j .non))):
  SeqAt.RcAt Ar s (.ref a) (.ref b) (D.eq (.tup ds) (.tup es))/\SeqAt.RcNeAt Ar s (.ref a) (.ref b) (!D.eq (.tup ds) (.tup es)):=by
 have key:=SeqAt.RcAt.tuples (A:=Ar) (s:=s) (e:=fun j=>D.eq (ds.getD j .non) (es.getD j .non)) p p' hu ea;have kn:=SeqAt.RcNeAt.tuples (A:=Ar) (s:=s) (e:=fun j=>D.eq (ds.getD j .non) (es.getD j .non)) p p' hu ea;rw[l1,l2]at key kn;rw[show D.eq (.tup ds) (.tup es)=D.eqs ds es from rfl]
 by_cases hl:ds.length=es.length
 ·rw[D.eqs_all ds es hl];rw[hl,Nat.min_self,xbF,Bool.and_true]at key kn;rw[hl];exact⟨key,kn⟩
 ·rw[D.eqs_len ds es hl];rw[xbp.mpr hl,xcM]at key kn;exact⟨key,kn⟩
theorem Pq {Ar:Around}{s:Shared}{a b:Addr}{its its':List Value}{ds es:List D}(l1:its.toArray.size=ds.length)(l2:its'.toArray.size=es.length)(p:s.heap.IsList a its.toArray)(p':s.heap.IsList b its'.toArray)(hu:Ar.units<cLine)
  (ea:∀(j:Nat) (j1:j<its.toArray.size) (j2:j<its'.toArray.size),SeqAt.EqAt Ar.in1 s its.toArray[j] its'.toArray[j] (D.eq (ds.getD j .non) (es.getD j .non))):
  SeqAt.RcAt Ar s (.ref a) (.ref b) (D.eq (.lst ds) (.lst es))/\SeqAt.RcNeAt Ar s (.ref a) (.ref b) (!D.eq (.lst ds) (.lst es)):=by
 rw[show D.eq (.lst ds) (.lst es)=D.eqs ds es from rfl]
 by_cases hl:ds.length=es.length
 ·have key:=SeqAt.RcAt.lists (A:=Ar) (s:=s) (e:=fun j=>D.eq (ds.getD j .non) (es.getD j .non)) p p' (by rw[l1,l2,hl]) hu ea;have kn:=SeqAt.RcNeAt.lists (A:=Ar) (s:=s) (e:=fun j=>D.eq (ds.getD j .non) (es.getD j .non)) p p' (by rw[l1,l2,hl]) hu ea;rw[D.eqs_all ds es hl];rw[l1]at key kn;exact⟨key,kn⟩
 ·rw[D.eqs_len ds es hl];exact⟨SeqAt.RcAt.lists_lengths p p' (by rw[l1,l2];simpa using hl) hu,SeqAt.RcNeAt.lists_lengths p p' (by rw[l1,l2];simpa using hl) hu⟩
mutual
theorem Gg (I:Inv X pins σ H s):∀(d e:D) (v w:V) (u u':Value),bQ X.K A H d v->bQ X.K B H e w->RelV v u->RelV w u'->Ar.units + d.dep<cLine->d.dep<=100->e.dep<=100->SeqAt.EqAt Ar s u u' (D.eq d e)
  |.ref _,e,v,w,u,u',h1,h2,r1,r2,hu,hd,he=>by simp[D.dep]at hd
  |.non,e,v,w,u,u',h1,h2,r1,r2,hu,hd,he=>by
    have hv:v=.non:=h1;subst hv;cases r1;have hu':Ar.units<cLine:=by lia
    cases e with
    |ref _=>simp[D.dep]at he
    |non=>have hw:w=.non:=h2;subst hw;cases r2;exact xdj _
    |bl b=>have hw:w=.bl b:=h2;subst hw;cases r2;exact SeqAt.EqAt.none_bool _
    |int b=>have hw:w=.int b:=h2;subst hw;obtain⟨t,rfl⟩:=r2;exact SeqAt.EqAt.none_int _ _
    |str b=>have hw:w=.str b:=h2;subst hw;obtain⟨t,rfl⟩:=r2;exact SeqAt.EqAt.none_str _ _
    |tup es=>obtain⟨a,vs,rfl,t,_⟩:=h2;cases r2;obtain⟨its,_,p,_⟩:=I.tuple t;exact SeqAt.EqAt.none_tuple p hu'
    |lst es=>obtain⟨a,vs,rfl,t,_⟩:=h2;cases r2;obtain⟨_,its,_,p⟩:=sql I t;exact SeqAt.EqAt.none_list p hu'
  |.bl x,e,v,w,u,u',h1,h2,r1,r2,hu,hd,he=>by
    have hv:v=.bl x:=h1;subst hv;cases r1;have hu':Ar.units<cLine:=by lia
    cases e with
    |ref _=>simp[D.dep]at he
    |non=>have hw:w=.non:=h2;subst hw;cases r2;exact SeqAt.EqAt.bool_none _
    |bl b=>have hw:w=.bl b:=h2;subst hw;cases r2;exact SeqAt.EqAt.bool_bool _ _
    |int b=>have hw:w=.int b:=h2;subst hw;obtain⟨t,rfl⟩:=r2;exact SeqAt.EqAt.bool_int _ _ _
    |str b=>have hw:w=.str b:=h2;subst hw;obtain⟨t,rfl⟩:=r2;exact SeqAt.EqAt.bool_str _ _ _
    |tup es=>obtain⟨a,vs,rfl,t,_⟩:=h2;cases r2;obtain⟨its,_,p,_⟩:=I.tuple t;exact SeqAt.EqAt.bool_tuple _ p hu'
    |lst es=>obtain⟨a,vs,rfl,t,_⟩:=h2;cases r2;obtain⟨_,its,_,p⟩:=sql I t;exact SeqAt.EqAt.bool_list _ p hu'
  |.int x,e,v,w,u,u',h1,h2,r1,r2,hu,hd,he=>by
    have hv:v=.int x:=h1;subst hv;obtain⟨t0,rfl⟩:=r1;have hu':Ar.units<cLine:=by lia
    cases e with
    |ref _=>simp[D.dep]at he
    |non=>have hw:w=.non:=h2;subst hw;cases r2;exact SeqAt.EqAt.int_none _ _
    |bl b=>have hw:w=.bl b:=h2;subst hw;cases r2;exact SeqAt.EqAt.int_bool _ _ _
    |int b=>have hw:w=.int b:=h2;subst hw;obtain⟨t,rfl⟩:=r2;exact xdB _ _ _ _
    |str b=>have hw:w=.str b:=h2;subst hw;obtain⟨t,rfl⟩:=r2;exact xdy _ _ _ _
    |tup es=>obtain⟨a,vs,rfl,t,_⟩:=h2;cases r2;obtain⟨its,_,p,_⟩:=I.tuple t;exact SeqAt.EqAt.int_tuple _ _ p hu'
    |lst es=>obtain⟨a,vs,rfl,t,_⟩:=h2;cases r2;obtain⟨_,its,_,p⟩:=sql I t;exact SeqAt.EqAt.int_list _ _ p hu'
  |.str x,e,v,w,u,u',h1,h2,r1,r2,hu,hd,he=>by
    have hv:v=.str x:=h1;subst hv;obtain⟨t0,rfl⟩:=r1;have hu':Ar.units<cLine:=by lia
    cases e with
    |ref _=>simp[D.dep]at he
    |non=>have hw:w=.non:=h2;subst hw;cases r2;exact SeqAt.EqAt.str_none _ _
    |bl b=>have hw:w=.bl b:=h2;subst hw;cases r2;exact SeqAt.EqAt.str_bool _ _ _
    |int b=>have hw:w=.int b:=h2;subst hw;obtain⟨t,rfl⟩:=r2;exact xdz _ _ _ _
    |str b=>have hw:w=.str b:=h2;subst hw;obtain⟨t,rfl⟩:=r2;exact xdC _ _ _ _
    |tup es=>obtain⟨a,vs,rfl,t,_⟩:=h2;cases r2;obtain⟨its,_,p,_⟩:=I.tuple t;exact SeqAt.EqAt.str_tuple _ _ p hu'
    |lst es=>obtain⟨a,vs,rfl,t,_⟩:=h2;cases r2;obtain⟨_,its,_,p⟩:=sql I t;exact SeqAt.EqAt.str_list _ _ p hu'
  |.tup ds,e,v,w,u,u',h1,h2,r1,r2,hu,hd,he=>by
    have h1':=h1;have hd':=hd;simp only[D.dep]at hu hd;have hu':Ar.units<cLine:=by lia
    obtain⟨a,vs,rfl,t,q⟩:=h1;cases r1;obtain⟨its,rv,p,hz⟩:=I.tuple t
    cases e with
    |ref _=>simp[D.dep]at he
    |non=>have hw:w=.non:=h2;subst hw;cases r2;exact SeqAt.EqAt.tuple_none p hu'
    |bl b=>have hw:w=.bl b:=h2;subst hw;cases r2;exact SeqAt.EqAt.tuple_bool _ p hu'
    |int b=>have hw:w=.int b:=h2;subst hw;obtain⟨t,rfl⟩:=r2;exact SeqAt.EqAt.tuple_int _ _ p hu'
    |str b=>have hw:w=.str b:=h2;subst hw;obtain⟨t,rfl⟩:=r2;exact SeqAt.EqAt.tuple_str _ _ p hu'
    |tup es=>
      have h2':=h2;have he':=he;simp only[D.dep]at he;obtain⟨b,ws,rfl,t',q'⟩:=h2;cases r2
      by_cases hab:a=b
      · subst hab;rw[Is.inj I _ _ _ h1' h2' hd' he',D.eq_refl];exact xdj _
      · obtain⟨its',rv',p',hz'⟩:=I.tuple t';refine SeqAt.EqAt.of_refs hab ?_;exact(Pr (by rw[xam, <-rv.length,q.len]) (by rw[xam, <-rv'.length,q'.len]) p p' hu' fun j j1 j2=>by simpa using yu I ds es vs ws its its' q q' rv rv' (Ar:=Ar.in1) (by show Ar.units + 1 + _<_;lia) (by lia) (by lia) j (by simpa using j1) (by simpa using j2)).1
    |lst es=>obtain⟨b,ws,rfl,t',_⟩:=h2;cases r2;obtain⟨_,its',_,p'⟩:=sql I t';exact SeqAt.EqAt.tuple_list p p' hu'
  |.lst ds,e,v,w,u,u',h1,h2,r1,r2,hu,hd,he=>by
    have h1':=h1;have hd':=hd;simp only[D.dep]at hu hd;have hu':Ar.units<cLine:=by lia
    obtain⟨a,vs,rfl,t,q⟩:=h1;cases r1;obtain⟨hz,its,rv,p⟩:=sql I t
    cases e with
    |ref _=>simp[D.dep]at he
    |non=>have hw:w=.non:=h2;subst hw;cases r2;exact SeqAt.EqAt.list_none p hu'
    |bl b=>have hw:w=.bl b:=h2;subst hw;cases r2;exact SeqAt.EqAt.list_bool _ p hu'
    |int b=>have hw:w=.int b:=h2;subst hw;obtain⟨t,rfl⟩:=r2;exact SeqAt.EqAt.list_int _ _ p hu'
    |str b=>have hw:w=.str b:=h2;subst hw;obtain⟨t,rfl⟩:=r2;exact SeqAt.EqAt.list_str _ _ p hu'
    |tup es=>obtain⟨b,ws,rfl,t',_⟩:=h2;cases r2;obtain⟨its',_,p',_⟩:=I.tuple t';exact SeqAt.EqAt.list_tuple p p' hu'
    |lst es=>
      have h2':=h2;have he':=he;simp only[D.dep]at he;obtain⟨b,ws,rfl,t',q'⟩:=h2;cases r2
      by_cases hab:a=b
      · subst hab;rw[Is.inj I _ _ _ h1' h2' hd' he',D.eq_refl];exact xdj _
      · obtain⟨hz',its',rv',p'⟩:=sql I t';refine SeqAt.EqAt.of_refs hab ?_;exact(Pq (by rw[xam, <-rv.length,q.len]) (by rw[xam, <-rv'.length,q'.len]) p p' hu' fun j j1 j2=>by simpa using yu I ds es vs ws its its' q q' rv rv' (Ar:=Ar.in1) (by show Ar.units + 1 + _<_;lia) (by lia) (by lia) j (by simpa using j1) (by simpa using j2)).1
theorem yu (I:Inv X pins σ H s):∀(ds es:List D) (vs ws:List V) (its its':List Value),aC X.K A H ds vs->aC X.K B H es ws->Vals vs its->Vals ws its'->Ar.units + D.deps ds<cLine->D.deps ds<=100->D.deps es<=100->
    ∀(j:Nat) (h1:j<its.length) (h2:j<its'.length),SeqAt.EqAt Ar s its[j] its'[j] (D.eq (ds.getD j .non) (es.getD j .non))
  | [],es,vs,ws,its,its',h,h',r,r',hu,hd,he,j,j1,j2=>by
    have hv:vs=[]:=h;subst hv;cases r;exact absurd j1 (xbA _)
  |d::ds,[],vs,ws,its,its',h,h',r,r',hu,hd,he,j,j1,j2=>by
    have hv:ws=[]:=h';subst hv;cases r';exact absurd j2 (xbA _)
  |d::ds,e::es,vs,ws,its,its',h,h',r,r',hu,hd,he,j,j1,j2=>by
    obtain⟨v,vr,rfl,p,q⟩:=h;obtain⟨w,wr,rfl,p',q'⟩:=h';simp only[D.deps]at hu hd he
    cases r with
    |cons r1 r2=>
      cases r' with
      |cons r1' r2'=>
        cases j with
        |zero=>exact Gg I d e v w _ _ p.w p'.w r1 r1' (by lia) (by lia) (by lia)
        |succ j=>exact yu I ds es vr wr _ _ q q' r2 r2' (by lia) (by lia) (by lia) j (by simpa using j1) (by simpa using j2)
end
theorem Qv {d e:D}{A B:Pl}{K:Fgx}{v w:V}(fd:d.flat=true)(fe:e.flat=true)(h1:bQ K A H d v)(h2:bQ K B H e w):
  (pI v w=true/\D.eq d e=decide (v=w))\/(∃a i,v=.bl a/\w=.int i/\D.eq d e=((if a then 1 else 0)==i))\/∃a i,v=.int i/\w=.bl a/\D.eq d e=(i==(if a then 1 else 0)):=by
 cases d<;>cases e<;>simp only[D.flat,xaM]at fd fe<;>simp only[bQ,Is]at h1 h2<;>subst h1 h2<;>simp[pI,D.eq]
 all_goals first |rfl |(rw[xbz];simp)
noncomputable def pC (K:Fgx) (neg:Bool):R2:=fun x y H Q=>∃(A B:Pl) (d e:D),bQ K A H d x/\bQ K B H e y/\d9 d e=true/\d.dep<=50/\Q (.bl (if neg then !D.eq d e else D.eq d e)) H
theorem Pn (I:Inv X pins σ H s){A B:Pl}{d e:D}{x y:V}{v u:Value}(hu:X.A.units + 60<cLine)(h1:bQ X.K A H d x)(h2:bQ X.K B H e y)(rx:RelV x v)(ry:RelV y u)(fd:d.flat=false)(fe:e.flat=false)(hd:d.dep<=50)(he:e.dep<=50):
    SeqAt.RcAt X.A s v u (D.eq d e)/\SeqAt.RcNeAt X.A s v u (!D.eq d e):=by
  have hu':X.A.units<cLine:=by lia
  cases d with
  |tup ds=>
    obtain⟨a,vs,rfl,t,p⟩:=h1;cases rx;obtain⟨its,rv,pt,hz⟩:=I.tuple t;simp only[D.dep]at hd
    cases e with
    |tup es=>
      obtain⟨b,ws,rfl,t',p'⟩:=h2;cases ry;obtain⟨its',rv',pt',hz'⟩:=I.tuple t';exact Pr (by rw[xam, <-rv.length,p.len]) (by rw[xam, <-rv'.length,p'.len]) pt pt' hu' fun j j1 j2=>by simpa using yu I ds es vs ws its its' p p' rv rv' (Ar:=X.A.in1) (by show X.A.units + 1 + _<_;lia) (by lia) (by simp only[D.dep]at he;lia) j (by simpa using j1) (by simpa using j2)
    |lst es=>
      obtain⟨b,ws,rfl,t',p'⟩:=h2;cases ry;obtain⟨_,its',rv',e'⟩:=sql I t';exact⟨SeqAt.RcAt.tuple_list pt e' hu',SeqAt.RcNeAt.tuple_list pt e' hu'⟩
    |ref _=>simp[D.dep]at he
    |_=>cases fe
  |lst ds=>
    obtain⟨a,vs,rfl,t,p⟩:=h1;cases rx;obtain⟨hz,its,rv,pt⟩:=sql I t;simp only[D.dep]at hd
    cases e with
    |tup es=>
      obtain⟨b,ws,rfl,t',p'⟩:=h2;cases ry;obtain⟨its',rv',pt',hz'⟩:=I.tuple t';exact⟨SeqAt.RcAt.list_tuple pt pt' hu',SeqAt.RcNeAt.list_tuple pt pt' hu'⟩
    |lst es=>
      obtain⟨b,ws,rfl,t',p'⟩:=h2;cases ry;obtain⟨_,its',rv',pt'⟩:=sql I t';exact Pq (by rw[xam, <-rv.length,p.len]) (by rw[xam, <-rv'.length,p'.len]) pt pt' hu' fun j j1 j2=>by simpa using yu I ds es vs ws its its' p p' rv rv' (Ar:=X.A.in1) (by show X.A.units + 1 + _<_;lia) (by lia) (by simp only[D.dep]at he;lia) j (by simpa using j1) (by simpa using j2)
    |ref _=>simp[D.dep]at he
    |_=>cases fe
  |ref _=>simp[D.dep]at hd
  |_=>cases fd
theorem Xl (hu:X.A.units + 60<cLine):bM X (compareOp .Eq) (pC X.K false):=by
  intro pins s σ H x y v u Q I rx ry h;obtain⟨A,B,d,e,h1,h2,hk,hd,q⟩:=h;have q:Q (.bl (D.eq d e)) H:=q;simp only[d9,xaF,xb5,xbL]at hk
  cases fd:d.flat with
  |true=>
    rcases Qv fd (hk.1.symm.trans fd) h1 h2 with⟨sc,eq⟩ |⟨a,i,rfl,rfl,eq⟩ |⟨a,i,rfl,rfl,eq⟩
    · exact Xk pins s σ H x y v u Q I rx ry ⟨sc,by rw[<-eq];exact q⟩
    · cases rx;obtain⟨t,rfl⟩:=ry;exact EqBoolInt.eq_bool_int ⟨.bl _,H,I,rfl,by rw[<-eq];exact q⟩
    · cases ry;obtain⟨t,rfl⟩:=rx;exact EqBoolInt.eq_int_bool ⟨.bl _,H,I,rfl,by rw[<-eq];exact q⟩
  |false=>exact EqBoolInt.of_rc (Pn I hu h1 h2 rx ry fd (hk.1.symm.trans fd) hd hk.2).1 ⟨.bl _,H,I,rfl,q⟩
theorem Xy (hu:X.A.units + 60<cLine):bM X (compareOp .NotEq) (pC X.K true):=by
  intro pins s σ H x y v u Q I rx ry h;obtain⟨A,B,d,e,h1,h2,hk,hd,q⟩:=h;have q:Q (.bl (!D.eq d e)) H:=q;simp only[d9,xaF,xb5,xbL]at hk
  cases fd:d.flat with
  |true=>
    rcases Qv fd (hk.1.symm.trans fd) h1 h2 with⟨sc,eq⟩ |⟨a,i,rfl,rfl,eq⟩ |⟨a,i,rfl,rfl,eq⟩
    · exact Xx pins s σ H x y v u Q I rx ry ⟨sc,by rw[<-eq];exact q⟩
    · cases rx;obtain⟨t,rfl⟩:=ry;exact EqBoolInt.ne_bool_int ⟨.bl _,H,I,rfl,by rw[<-eq];exact q⟩
    · cases ry;obtain⟨t,rfl⟩:=rx;exact EqBoolInt.ne_int_bool ⟨.bl _,H,I,rfl,by rw[<-eq];exact q⟩
  |false=>exact EqBoolInt.of_rcne (Pn I hu h1 h2 rx ry fd (hk.1.symm.trans fd) hd hk.2).2 ⟨.bl _,H,I,rfl,q⟩
noncomputable def tB:Cp->CmpOp
 |.eq=>.Eq
 |.ne=>.NotEq
 |.lt=>.Lt
 |.le=>.LtE
 |.gt=>.Gt
 |.ge=>.GtE
 |.isin=>.In
 |.notin=>.NotIn
 |.same=>.Is
 |.other=>.IsNot
noncomputable def zG (K:Fgx):Cp->R2
 |.eq=>pC K false
 |.ne=>pC K true
 |.lt=>gU fun i j=>.bl (decide (i<j))
 |.le=>gU fun i j=>.bl (decide (i<=j))
 |.gt=>gU fun i j=>.bl (decide (j<i))
 |.ge=>gU fun i j=>.bl (decide (j<=i))
 |.isin=>fun x y H Q=>(∃i j,x=.str i/\y=.str j/\Q (.bl (!(Builtin.Str.occurrences j i 0 j.length 1).isEmpty)) H)\/CN K false x y H Q
 |.notin=>fun x y H Q=>(∃i j,x=.str i/\y=.str j/\Q (.bl (!(!(Builtin.Str.occurrences j i 0 j.length 1).isEmpty))) H)\/CN K true x y H Q
 |.same=>fun x y H Q=>(y=.non/\Q (.bl (decide (x=.non))) H)\/(∃b,y=.bl b/\Q (.bl (decide (x=.bl b))) H)
 |.other=>fun x y H Q=>(y=.non/\Q (.bl (!decide (x=.non))) H)\/(∃b,y=.bl b/\Q (.bl (!decide (x=.bl b))) H)
theorem tK (hu:X.A.units + 60<cLine):∀c:Cp,bM X (compareOp (tB c)) (zG X.K c)
 |.eq=>Xl hu
 |.ne=>Xy hu
 |.lt=>Xw
 |.le=>Xv
 |.gt=>Xn
 |.ge=>Xm
 |.isin=>Xp.or Xo
 |.notin=>XD.or Xz
 |.same=>Xr.or Xq
 |.other=>XC.or Xu
theorem yx {K:Fgx}{A:Pl}{d:D}{v:V}(f:d.flat=true)(h:Is K A H d v):mH v=true:=by
 cases d<;>simp only[D.flat,xaM]at f<;>simp only[Is]at h<;>subst h<;>rfl
theorem Gh {K:Fgx}{A B:Pl}{d e:D}{v w:V}(f:d.flat=true)(g:e.flat=true)(h:Is K A H d v)(h':Is K B H e w):nH v w=D.eq d e:=by
 cases d<;>cases e<;>simp only[D.flat,xaM]at f g<;>simp only[Is]at h h'<;>subst h h'<;>rfl
theorem yC {K:Fgx}{A:Pl}:∀{ds:List D} {vs:List V},ds.all D.flat=true->aC K A H ds vs->vs.all mH=true
  | [],_,_,h=>by rw[show _=[] from h];rfl
  |d::ds,_,f,h=>by
    obtain⟨v,r,rfl,p,q⟩:=h;rw[xb2,xaF]at f;rw[xb2,yx f.1 p,yC f.2 q];rfl
theorem lQ {K:Fgx}{A B:Pl}{e:D}{w:V}(g:e.flat=true)(h':Is K B H e w):∀{ds:List D} {vs:List V},ds.all D.flat=true->aC K A H ds vs->inV w vs=ds.any fun y=>D.eq y e
  | [],_,_,h=>by rw[show _=[] from h];rfl
  |d::ds,_,f,h=>by
    obtain⟨v,r,rfl,p,q⟩:=h;rw[xb2,xaF]at f;have:=lQ g h' f.2 q;unfold inV at this ⊢;rw[xc1,xc1,this,Gh f.1 g p h']
theorem Ba {K:Fgx}{A B:Pl}{c:Cp}{d e:D}{v w:V}{b:Bool}{Q:VK}(h:cH c d e=some b)(h1:bQ K A H d v)(h2:bQ K B H e w)(q:Q (.bl b) H):zG K c v w H Q:=by
  cases c
  case eq=>
    simp only[cH,pR,nF]at h;split at h
    · rename_i hc;cases h;exact⟨A,B,d,e,h1,h2,hc.1,hc.2,q⟩
    · cases h
  case ne=>
    simp only[cH,pR,nF]at h;split at h
    · rename_i hc;cases h;exact⟨A,B,d,e,h1,h2,hc.1,hc.2,q⟩
    · cases h
  case isin=>
    cases e with
    |str j=>
      cases d<;>simp only[cH,dI,pU,fH,pX,pW,reduceCtorEq]at h
      simp only[bQ,Is]at h1 h2;subst h1 h2;cases h;exact .inl ⟨_,_,rfl,rfl,q⟩
    |lst xs=>
      have h':(if (d.flat && xs.all D.flat)=true then some (xs.any fun y=>D.eq y d) else none)=some b:=by cases d<;>exact h
      split at h'
      · rename_i hc;rw[xaF]at hc;cases h';obtain⟨a,vs,rfl,t,p⟩:=h2;have h1':Is K A H d v:=by cases d<;>first |exact h1 |cases hc.1
        refine .inr ⟨a,vs,rfl,.inl (t),yx hc.1 h1',yC hc.2 p,?_⟩;rw[lQ hc.1 h1' hc.2 p];exact q
      · cases h'
    |tup xs=>
      have h':(if (d.flat && xs.all D.flat)=true then some (xs.any fun y=>D.eq y d) else none)=some b:=by cases d<;>exact h
      split at h'
      · rename_i hc;rw[xaF]at hc;cases h';obtain⟨a,vs,rfl,t,p⟩:=h2;have h1':Is K A H d v:=by cases d<;>first |exact h1 |cases hc.1
        refine .inr ⟨a,vs,rfl,.inr t,yx hc.1 h1',yC hc.2 p,?_⟩;rw[lQ hc.1 h1' hc.2 p];exact q
      · cases h'
    |_=>cases d<;>simp only[cH,dI,pU,fH,pX,pW,reduceCtorEq]at h
  case notin=>
    cases e with
    |str j=>
      cases d<;>simp only[cH,dI,pU,fH,pX,pW,reduceCtorEq]at h
      simp only[bQ,Is]at h1 h2;subst h1 h2;cases h;exact .inl ⟨_,_,rfl,rfl,q⟩
    |lst xs=>
      have h':(if (d.flat && xs.all D.flat)=true then some (!xs.any fun y=>D.eq y d) else none)=some b:=by cases d<;>exact h
      split at h'
      · rename_i hc;rw[xaF]at hc;cases h';obtain⟨a,vs,rfl,t,p⟩:=h2;have h1':Is K A H d v:=by cases d<;>first |exact h1 |cases hc.1
        refine .inr ⟨a,vs,rfl,.inl (t),yx hc.1 h1',yC hc.2 p,?_⟩;rw[lQ hc.1 h1' hc.2 p];exact q
      · cases h'
    |tup xs=>
      have h':(if (d.flat && xs.all D.flat)=true then some (!xs.any fun y=>D.eq y d) else none)=some b:=by cases d<;>exact h
      split at h'
      · rename_i hc;rw[xaF]at hc;cases h';obtain⟨a,vs,rfl,t,p⟩:=h2;have h1':Is K A H d v:=by cases d<;>first |exact h1 |cases hc.1
        refine .inr ⟨a,vs,rfl,.inr t,yx hc.1 h1',yC hc.2 p,?_⟩;rw[lQ hc.1 h1' hc.2 p];exact q
      · cases h'
    |_=>cases d<;>simp only[cH,dI,pU,fH,pX,pW,reduceCtorEq]at h
  case same=>
    cases d<;>cases e<;>simp only[cH,dI,pU,fH,pX,pW,reduceCtorEq]at h<;>cases h<;>simp only[bQ,Is]at h1 h2
    all_goals first
      |(subst h1 h2;first |exact .inr ⟨_,rfl,by rw[Bd];exact q⟩ |exact .inl ⟨rfl,by simpa using q⟩ |exact .inr ⟨_,rfl,by simpa using q⟩)
      |(obtain⟨a,vs,rfl,_⟩:=h1;subst h2;first |exact .inl ⟨rfl,by simpa using q⟩ |exact .inr ⟨_,rfl,by simpa using q⟩)
  case other=>
    cases d<;>cases e<;>simp only[cH,dI,pU,fH,pX,pW,reduceCtorEq]at h<;>cases h<;>simp only[bQ,Is]at h1 h2
    all_goals first
      |(subst h1 h2;first |exact .inr ⟨_,rfl,by rw[Bd];exact q⟩ |exact .inl ⟨rfl,by simpa using q⟩ |exact .inr ⟨_,rfl,by simpa using q⟩)
      |(obtain⟨a,vs,rfl,_⟩:=h1;subst h2;first |exact .inl ⟨rfl,by simpa using q⟩ |exact .inr ⟨_,rfl,by simpa using q⟩)
  all_goals
    cases d<;>cases e<;>simp only[cH,dI,pU,fH,pX,pW,reduceCtorEq]at h
    simp only[bQ,Is]at h1 h2;subst h1 h2;cases h;exact⟨_,_,rfl,rfl,q⟩
end
inductive Mode where
 |val |bor
def Ag (mg:Mgx)(H:Hp)(c:Str)(n:Int)(v:V):Prop:=∃a C dx,v=.ref a/\mg c=some (.ref C)/\H a=some (xo a C dx false)/\
 match dx with
 |none=>n=0
 |some d=>∃fs,H d=some (.xd fs)/\fs.lookup ("at":Str)=some (.int (n - 1))/\n≠0
theorem Ag.lt (l:Lt P H P' H')(h:Ag mg H c n v):Ag mg H' c n v:=by
  obtain⟨a,C,dx,e,m,ea,q⟩:=h;refine⟨a,C,dx,e,m,l.keep _ _ ea (.inl (.inr (.inr (.inl ⟨_,rfl⟩)))),?_⟩
  cases dx with
  |none=>exact q
  |some d=>
    obtain⟨fs,ed,el⟩:=q;exact⟨fs,l.keep _ _ ed (.inl (.inr (.inr (.inr ⟨_,rfl⟩)))),el⟩
noncomputable def J_ (K:Fgx) (mg:Mgx) (P:Pl) (H:Hp) (o:Option Addr) (sv:Option V):Slot->Prop
 |.un=>True
 |.val d=>∃v,sv=some v/\Is K P H d v
 |.own ds=>∃a vs,o=some a/\sv=some (.ref a)/\H a=some (.lst vs)/\aC K P H ds vs
 |.exc c n=>∃v,sv=some v/\Ag mg H c n v
structure Ok (K:Fgx)(mg:Mgx)(P0:Pl)(H0:Hp)(P:Pl)(O:List (Option Addr))(H:Hp)(M:Mm)(st:L2.St)(env:Env):Prop where
 hk:Hk K mg P H M
 base:LtE P0 H0 P H
 b0:∀a,P0.bd a->H0 a≠none
 slot:∀(i:Nat) s,env[i]? =some s->J_ K mg P H (O[i]?).join (st[i]?).join s
 own:∀a,some a∈O->P.bd a/\(∀k,k<P.n->P.io k≠a)/\H0 a=none
 inj:∀(i j:Nat) a,O[i]? =some (some a)->O[j]? =some (some a)->i=j
 olen:O.length=env.length
 slen:st.length=env.length
def cR (K:Fgx)(P:Pl)(H:Hp)(m:Mode)(d:D)(v:V):Prop:=match m with
 |.val=>Is K P H d v
 |.bor=>cF K P H d v
inductive Res where
 |v (d:D) |x (c:Str) (n:Int)
abbrev O:=Option (Res×Mm)
abbrev E:=Env->Mm->O
noncomputable def bnd (o:O) (k:D->Mm->O):O:=match o with
 |some (.v d,M)=>k d M
 |some (.x c n,M)=>some (.x c n,M)
 |none=>none
theorem cG (h:bnd o k=some (r,M')):(∃d M,o=some (.v d,M)/\k d M=some (r,M'))\/∃c n,o=some (.x c n,M')/\r=.x c n:=by
 unfold bnd at h;split at h
 ·exact .inl ⟨_,_,rfl,h⟩
 ·cases h;exact .inr ⟨_,_,rfl,rfl⟩
 ·cases h
abbrev XW:=Pl->Hp->Mm->Str->Int->Prop
section
variable {K:Fgx}{mg:Mgx}{P0 P P':Pl}{H0 H H':Hp}{M M':Mm}{Os:List (Option Addr)}{st:L2.St}{env:Env}{d:D}{v:V}{m:Mode}
theorem Is.b (h:Hk K mg P H M)(i:Is K P H d v):cF K P H d v:=by
  cases d with
  |lst ds=>
    obtain⟨a,vs,e,r,q⟩:=i;exact⟨a,vs,e,r.imp (fun⟨n,r⟩=>⟨fun k hk z=>n (z ▸ h.bd k hk),r⟩) id,q⟩
  |_=>exact i
theorem cR.of (h:Hk K mg P H M)(i:Is K P H d v):cR K P H m d v:=by
 cases m with
 |val=>exact i
 |bor=>exact i.b h
theorem cR.b (h:Hk K mg P H M)(i:cR K P H m d v):cF K P H d v:=by
 cases m with
 |val=>exact Is.b h i
 |bor=>exact i
theorem LtE.nc (l:LtE P H P' H')(e:H a=some o)(n:∀k,k<P.n->P.io k≠a):∀k,k<P'.n->P'.io k≠a:=fun k hk z=>by
 rcases xa8 k P.n with q |q
 ·rw[l.io k q]at z;exact n k q z
 ·rw[<-z,l.nw k q hk]at e;cases e
theorem cF.lt (l:LtE P H P' H')(h:Hk K mg P H M)(i:cF K P H d v):cF K P' H' d v:=by
  cases d with
  |lst ds=>
    obtain⟨a,vs,e,r,q⟩:=i;refine⟨a,vs,e,r.imp (fun⟨n,r⟩=>?_) id,aC.lt (l.lt h) q⟩;obtain⟨o,eo⟩:=Pu r;refine⟨l.nc eo n,?_⟩;rcases r with r |⟨o',r⟩
    · exact .inl (l.keep _ _ r (.inr n))
    · exact .inr ⟨o',l.keep _ _ r (.inr n)⟩
  |_=>exact Is.lt (l.lt h) i
theorem Ok.next (k:Ok K mg P0 H0 P Os H M st env)(l:LtE P H P' H')(h:Hk K mg P' H' M'):Ok K mg P0 H0 P' Os H' M' st env where
  hk:=h
  base:=k.base.trans l
  b0:=k.b0
  slot:=fun i s e=>by
    have q:=k.slot i s e
    cases s with
    |un=>exact True.intro
    |val d=>
      obtain⟨v,e1,q⟩:=q;exact⟨v,e1,Is.lt (l.lt k.hk) q⟩
    |own ds=>
      obtain ⟨a, vs, e1, e2, e3, q⟩ := q;have ho := k.own a (by
        cases hx:Os[i]? with
        |none=>rw[hx]at e1;cases e1
        |some o=>rw[hx]at e1;cases o with
          |none=>cases e1
          |some b=>cases e1;exact xaT hx)
      exact⟨a,vs,e1,e2,l.keep _ _ e3 (.inr ho.2.1),aC.lt (l.lt k.hk) q⟩
    |exc c n=>
      obtain⟨v,e1,q⟩:=q;exact⟨v,e1,q.lt (l.lt k.hk)⟩
  own:=fun a z=>by
    have ho:=k.own a z;refine⟨l.bm a ho.1,?_,ho.2.2⟩;obtain⟨o,eo⟩:∃o,H a=some o:=by
      cases e:H a with
      |none=>exact absurd e (k.hk.here a ho.1)
      |some o=>exact⟨o,rfl⟩
    exact l.nc eo ho.2.1
  inj:=k.inj
  olen:=k.olen
  slen:=k.slen
theorem Hk.same (h:Hk K mg P H M)(s:Same H H'):Hk K mg P H' M:=by
 have l:Lt P H P H':=(LtE.same s).lt h;refine⟨h.n,fun k c e=>?_,h.inj,h.bd,fun a z q=>h.here a z (s.free q)⟩;exact(h.cell k c e).up (fun _ e _=>s _ _ e) l.fz fun _ _ q=>aC.lt l q
end
noncomputable def RQ (K:Fgx) (mg:Mgx) (Wx:XW) (m:Mode) (P0:Pl) (H0:Hp) (P:Pl) (H:Hp) (M':Mm) (Q:VK):Res->Prop
 |.v d=>∀P' v H',LtE P H P' H'->Hk K mg P' H' M'->cR K P' H' m d v->Q v H'
 |.x c n=>Wx P0 H0 M' c n
theorem cA (h:PE X e t)(i:∀st H Q,t' st H Q->t st H Q):PE X e t':=fun pins s σ H Q I z=>h pins s σ H Q I (i _ _ _ z)
noncomputable def tE (K:Fgx) (mg:Mgx) (Wx:XW) (m:Mode) (f:E):TE:=fun st H Q=>∃P0 H0 P Os env M r M',Ok K mg P0 H0 P Os H M st env/\f env M=some (r,M')/\RQ K mg Wx m P0 H0 P H M' Q r
structure Fit (X:Cx)(Wx:XW):Prop where
 calm:X.calm=true
 room:X.A.units + 60<cLine
section
variable {X:Cx}{Wx:XW}{m:Mode}
def SE (X:Cx)(Wx:XW)(m:Mode)(e:Expr)(f:E):Prop:=PE X e (tE X.K X.mg Wx m f)
theorem SE.bor (h : SE X Wx .val e f) : SE X Wx m e f := cA h fun st H Q ⟨P0, H0, P, Os, env, M, r, M', k, e, q⟩ => ⟨P0,H0,P,Os,env,M,r,M',k,e,by
 cases r with
 |v d=>exact fun P' v H' l h i=>q P' v H' l h (cR.of h i)
 |x c n=>exact q⟩
theorem bf {f:E}{K:Fgx}{mg:Mgx}{P0 P:Pl}{H0 H:Hp}{Os:List (Option Addr)}{M M':Mm}{st:L2.St}{env:Env}{r:Res}{Q:VK}(k:Ok K mg P0 H0 P Os H M st env)(e:f env M=some (r,M'))
  (q:RQ K mg Wx m P0 H0 P H M' Q r):tE K mg Wx m f st H Q:=⟨P0,H0,P,Os,env,M,r,M',k,e,q⟩
noncomputable def aj (i:Nat):E:=fun env M=>match env[i]? with
 |some (.val d)=>some (.v d,M)
 |_=>none
noncomputable def xM (i:Nat):E:=fun env M=>match env[i]? with
 |some (.val d)=>some (.v d,M)
 |some (.own ds)=>some (.v (.lst ds),M)
 |_=>none
def ak (d:D):E:=fun _ M=>some (.v d,M)
theorem nW {α:Type}{l:List (Option α)}{i:Nat}{a:α}(h:(l[i]?).join=some a):l[i]? =some (some a):=by
  cases e:l[i]? with
  |none=>rw[e]at h;cases h
  |some o=>rw[e]at h;cases o with
    |none=>cases h
    |some b=>cases h;rfl
theorem Qz {i:Nat}{x:Str}{pos:Pos}(hN:X.N[i]? =some x)(hv:wC X.env.scope x)(hd:(x==("__debug__":Str))=false:=by x_go)(hcd:(x==("__classdict__":Str))=false:=by x_go):SE X Wx .val (.Name x pos) (aj i):=by
 refine cA (HF hN hv hd hcd) ?_;rintro st H Q ⟨P0,H0,P,Os,env,M,r,M',k,e,q⟩;unfold aj at e;split at e
 ·rename_i d hs;cases e;obtain⟨v,e1,i1⟩:=k.slot i _ hs;exact⟨v,nW e1,q P v H (LtE.refl P H) k.hk i1⟩
 ·cases e
theorem zbm {i:Nat}{x:Str}{pos:Pos}(hN:X.N[i]? =some x)(hv:wC X.env.scope x)(hd:(x==("__debug__":Str))=false:=by x_go)(hcd:(x==("__classdict__":Str))=false:=by x_go):SE X Wx .bor (.Name x pos) (xM i):=by
 refine cA (HF hN hv hd hcd) ?_;rintro st H Q ⟨P0,H0,P,Os,env,M,r,M',k,e,q⟩;unfold xM at e;split at e
 ·rename_i d hs;cases e;obtain⟨v,e1,i1⟩:=k.slot i _ hs;exact⟨v,nW e1,q P v H (LtE.refl P H) k.hk (cR.of k.hk i1)⟩
 ·rename_i ds hs;cases e;obtain⟨a,vs,e1,e2,e3,i1⟩:=k.slot i _ hs;exact⟨.ref a,nW e2,q P _ H (LtE.refl P H) k.hk ⟨a,vs,rfl,.inl ⟨(k.own a (xaT (nW e1))).2.1,.inl e3⟩,i1⟩⟩
 ·cases e
theorem Jc (h:PE X e (tC v))(hd:∀P H,Is X.K P H d v):SE X Wx .val e (ak d):=by
 refine cA h ?_;rintro st H Q ⟨P0,H0,P,Os,env,M,r,M',k,e,q⟩;cases e;exact q P v H (LtE.refl P H) k.hk (hd P H)
noncomputable def vw (M:Mm) (d:D):D:=match d with
  | .ref k => (match M[k]? with
    |some (.lst ds)=>.lst ds
    |_=>.ref k)
  |d=>d
theorem cF.vw {K:Fgx}{mg:Mgx}{P:Pl}{H:Hp}{M:Mm}{d:D}{v:V}(h:Hk K mg P H M)(i:cF K P H d v):bQ K P H (vw M d) v:=by
  cases d with
  |ref k=>
    unfold E3.vw;dsimp only
    split
    · rename_i ds e;obtain⟨i1,i2⟩:k<P.n/\v=.ref (P.io k):=i;obtain⟨vs,e1,q⟩:=h.cell k _ e;exact⟨_,vs,i2,.inl (.inl e1),q⟩
    · exact i
  |lst ds=>exact i.w
  |_=>exact i
noncomputable def s1 (o:D->Option D) (f:E):E:=fun env M=>bnd (f env M) fun d M1=>(o (vw M1 d)).map fun z=>(.v z,M1)
noncomputable def s2 (o:D->D->Option D) (f g:E):E:=fun env M=>bnd (f env M) fun d M1=>bnd (g env M1) fun e M2=>(o (vw M2 d) (vw M2 e)).map fun z=>(.v z,M2)
def gZ (K:Fgx)(r:R2)(o:D->D->Option D):Prop:=∀(P:Pl) (H:Hp) (d e z:D) (v w:V) (Q:VK),o d e=some z->bQ K P H d v->bQ K P H e w->(∀p,H p=none->¬ P.bd p)->(∀u H',Same H H'->Is K P H' z u->Q u H')->r v w H Q
def Ep (K:Fgx)(r:V->Hp->VK->Prop)(o:D->Option D):Prop:=∀(P:Pl) (H:Hp) (d z:D) (v:V) (Q:VK),o d=some z->bQ K P H d v->(∀p,H p=none->¬ P.bd p)->(∀u H',Same H H'->Is K P H' z u->Q u H')->r v H Q
theorem Hk.new {K:Fgx}{mg:Mgx}{P:Pl}{H:Hp}{M:Mm}(h:Hk K mg P H M):∀p,H p=none->¬ P.bd p:=fun p hp z=>h.here p z hp
theorem DR {f g:E}{o:D->D->Option D}{r:R2}{st:L2.St}{H:Hp}{Q:VK}(po:gZ X.K r o)(h:tE X.K X.mg Wx m (s2 o f g) st H Q):z7 r (tE X.K X.mg Wx .bor f) (tE X.K X.mg Wx .bor g) st H Q:=by
 obtain⟨P0,H0,P,Os,env,M,rr,M',k,e,q⟩:=h;unfold s2 at e;rcases cG e with⟨d,M1,e1,e⟩ |⟨c,n,e1,rfl⟩
 ·refine bf k e1 fun P1 v1 H1 l1 h1 i1=>?_;have k1:=k.next l1 h1
  rcases cG e with⟨d2,M2,e2,e⟩ |⟨c,n,e2,rfl⟩
  ·refine bf k1 e2 fun P2 v2 H2 l2 h2 i2=>?_;rw[xak]at e;obtain⟨z,ez,e⟩:=e;cases e;exact po P2 H2 _ _ z v1 v2 Q ez (cF.vw h2 (cF.lt l2 h1 i1)) (cF.vw h2 i2) h2.new fun u H' s i=>q P2 u H' (l1.trans (l2.trans (LtE.same s))) (h2.same s) (cR.of (h2.same s) i)
  ·exact bf k1 e2 q
 ·exact bf k e1 q
theorem zcX {f:E}{o:D->Option D}{r:V->Hp->VK->Prop}{st:L2.St}{H:Hp}{Q:VK}(po:Ep X.K r o)(h:tE X.K X.mg Wx m (s1 o f) st H Q):Rh r (tE X.K X.mg Wx .bor f) st H Q:=by
 obtain⟨P0,H0,P,Os,env,M,rr,M',k,e,q⟩:=h;unfold s1 at e;rcases cG e with⟨d,M1,e1,e⟩ |⟨c,n,e1,rfl⟩
 ·refine bf k e1 fun P1 v1 H1 l1 h1 i1=>?_;rw[xak]at e;obtain⟨z,ez,e⟩:=e;cases e;exact po P1 H1 _ z v1 Q ez (cF.vw h1 i1) h1.new fun u H' s i=>q P1 u H' (l1.trans (LtE.same s)) (h1.same s) (cR.of (h1.same s) i)
 ·exact bf k e1 q
theorem bA (ho:bM X (binaryOp op) r)(po:gZ X.K r o)(ha:SE X Wx .bor a f)(hb:SE X Wx .bor b g):SE X Wx m (.BinOp a op b pos) (s2 o f g):=
 cA (OD ho ha hb) fun _ _ _ h=>DR po h
theorem zcD (ho:bM X (compareOp op) r)(po:gZ X.K r o)(ha:SE X Wx .bor a f)(hb:SE X Wx .bor b g)(hm:behindInMarks op b=false:=by rfl):SE X Wx m (.Compare a [op] [b] pos) (s2 o f g):=
 cA (X5 ho ha hb hm) fun _ _ _ h=>DR po h
theorem zdf (ho:mC X r)(po:gZ X.K r o)(ha:SE X Wx .bor a f)(hb:SE X Wx .bor b g)(hs:Eo b:=by exact fun _ _=>rfl):SE X Wx m (.Subscript a b pos) (s2 o f g):=
 cA (Yb ho ha hb hs) fun _ _ _ h=>DR po h
noncomputable def TQ (K:Fgx) (mg:Mgx) (Wx:XW) (P0:Pl) (H0:Hp) (P:Pl) (H:Hp) (M':Mm) (Q:Bool->Hp->Prop):Res->Prop
 |.v d=>∃b,d=.bl b/\∀P' H',LtE P H P' H'->Hk K mg P' H' M'->Q b H'
 |.x c n=>Wx P0 H0 M' c n
noncomputable def m7 (K:Fgx) (mg:Mgx) (Wx:XW) (f:E):TT:=fun st H Q=>∃P0 H0 P Os env M r M',Ok K mg P0 H0 P Os H M st env/\f env M=some (r,M')/\TQ K mg Wx P0 H0 P H M' Q r
def ST (X:Cx)(Wx:XW)(e:Expr)(f:E):Prop:=PT X e (m7 X.K X.mg Wx f)
theorem HS (h:PT X e t)(i:∀st H Q,t' st H Q->t st H Q):PT X e t':=fun pins s σ H Q I z=>h pins s σ H Q I (i _ _ _ z)
theorem fX {f:E}{K:Fgx}{mg:Mgx}{P0 P:Pl}{H0 H:Hp}{Os:List (Option Addr)}{M M':Mm}{st:L2.St}{env:Env}{r:Res}{Q:Bool->Hp->Prop}(k:Ok K mg P0 H0 P Os H M st env)(e:f env M=some (r,M'))
  (q:TQ K mg Wx P0 H0 P H M' Q r):m7 K mg Wx f st H Q:=⟨P0,H0,P,Os,env,M,r,M',k,e,q⟩
theorem zc7 {f:E}{st:L2.St}{H:Hp}{Q:Bool->Hp->Prop}(h:m7 X.K X.mg Wx f st H Q):Rg (tE X.K X.mg Wx .val f) st H Q:=by
  obtain⟨P0,H0,P,Os,env,M,r,M',k,e,q⟩:=h;refine bf k e ?_
  cases r with
  |v d=>
    obtain⟨b,rfl,q⟩:=q;exact fun P' v H' l h i=>⟨b,i,q P' H' l h⟩
  |x c n=>exact q
theorem DQ (ho:bM X (compareOp op) r)(po:gZ X.K r o)(ha:SE X Wx .bor a f)(hb:SE X Wx .bor b g)(hm:behindInMarks op b=false:=by rfl):ST X Wx (.Compare a [op] [b] pos) (s2 o f g):=
 HS (YK ho ha hb hm) fun _ _ _ h=>DR po (zc7 h)
noncomputable def gB:D->Option Bool
 |.non=>some false
 |.bl b=>some b
 |.int i=>some (i !=0)
 |.str s=>if s.length<=sizeLine then some ((s.length:Int) !=0) else none
 |.lst ds=>some (!ds.isEmpty)
 |.tup ds=>some (!ds.isEmpty)
 |.ref _=>none
def cj (f:E):E:=s1 (fun d=>(gB d).map .bl) f
noncomputable def cD (f:E):E:=fun env M=>bnd (f env M) fun d M1=>match d with
 |.bl b=>some (.v (.bl (!b)),M1)
 |_=>none
noncomputable def dD (f g:E):E:=fun env M=>bnd (f env M) fun d M1=>match d with
 |.bl b=>if b=true then g env M1 else some (.v (.bl false),M1)
 |_=>none
noncomputable def lA (f g:E):E:=fun env M=>bnd (f env M) fun d M1=>match d with
 |.bl b=>if b=true then some (.v (.bl true),M1) else g env M1
 |_=>none
noncomputable def pD (c f g:E):E:=fun env M=>bnd (c env M) fun d M1=>match d with
 |.bl b=>if b=true then f env M1 else g env M1
 |_=>none
def SW (X:Cx)(Wx:XW)(e:Expr)(f:E):Prop:=PW X e (m7 X.K X.mg Wx f)
theorem Pa (h:PW X e t)(i:∀st H Q,t' st H Q->t st H Q):PW X e t':=fun wh pins s σ H Q I z=>h wh pins s σ H Q I (i _ _ _ z)
theorem kW (ha:ST X Wx a f):ST X Wx (.UnaryOp .Not a pos) (cD f):=by
 refine HS (YL ha) ?_;rintro st H Q ⟨P0,H0,P,Os,env,M,r,M',k,e,q⟩;unfold cD at e;rcases cG e with⟨d,M1,e1,e⟩ |⟨c,n,e1,rfl⟩
 ·cases d<;>simp only[reduceCtorEq]at e
  cases e;obtain⟨b,e2,q⟩:=q;cases e2;exact fX k e1 ⟨_,rfl,q⟩
 ·exact fX k e1 q
theorem Q8 (ha:ST X Wx a f):SW X Wx (.BoolOp .And [a] pos) f:=Y4 ha
theorem zX (ha:ST X Wx a f):SW X Wx (.BoolOp .Or [a] pos) f:=Y6 ha
theorem Ju (ha:ST X Wx a f)(hb:SW X Wx (.BoolOp .And (b::rest) pos) g):SW X Wx (.BoolOp .And (a::b::rest) pos) (dD f g):=by
  refine Pa (Y0 ha hb) ?_;rintro st H Q ⟨P0,H0,P,Os,env,M,r,M',k,e,q⟩;unfold dD at e;rcases cG e with⟨d,M1,e1,e⟩ |⟨c,n,e1,rfl⟩
  · cases d<;>simp only[reduceCtorEq]at e
    rename_i b;refine fX k e1 ⟨b,rfl,fun P1 H1 l1 h1=>?_⟩
    cases b with
    |true=>
      rw[xac rfl]at e ⊢;refine fX (k.next l1 h1) e ?_
      cases r with
      |v d=>obtain⟨b,e2,q⟩:=q;exact⟨b,e2,fun P' H' l h=>q P' H' (l1.trans l) h⟩
      |x c n=>exact q
    |false=>
      rw[xae (by decide)]at e ⊢;cases e;obtain⟨b,e2,q⟩:=q;cases e2;exact q P1 H1 l1 h1
  · exact fX k e1 q
theorem pN (ha:ST X Wx a f)(hb:SW X Wx (.BoolOp .Or (b::rest) pos) g):SW X Wx (.BoolOp .Or (a::b::rest) pos) (lA f g):=by
  refine Pa (Y5 ha hb) ?_;rintro st H Q ⟨P0,H0,P,Os,env,M,r,M',k,e,q⟩;unfold lA at e;rcases cG e with⟨d,M1,e1,e⟩ |⟨c,n,e1,rfl⟩
  · cases d<;>simp only[reduceCtorEq]at e
    rename_i b;refine fX k e1 ⟨b,rfl,fun P1 H1 l1 h1=>?_⟩
    cases b with
    |false=>
      rw[xae (by decide)]at e ⊢;refine fX (k.next l1 h1) e ?_
      cases r with
      |v d=>obtain⟨b,e2,q⟩:=q;exact⟨b,e2,fun P' H' l h=>q P' H' (l1.trans l) h⟩
      |x c n=>exact q
    |true=>
      rw[xac rfl]at e ⊢;cases e;obtain⟨b,e2,q⟩:=q;cases e2;exact q P1 H1 l1 h1
  · exact fX k e1 q
theorem SW.st (h:SW X Wx e f):ST X Wx e f:=h.pt
end
section
variable {X:Cx}{Wx:XW}{m:Mode}
theorem RQ.imp {K:Fgx}{mg:Mgx}{P0 P P1:Pl}{H0 H H1:Hp}{M':Mm}{Q:VK}{r:Res}(l:LtE P H P1 H1)(q:RQ K mg Wx m P0 H0 P H M' Q r):RQ K mg Wx m P0 H0 P1 H1 M' Q r:=by
 cases r with
 |v d=>exact fun P' v H' l' h i=>q P' v H' (l.trans l') h i
 |x c n=>exact q
theorem Jd (ha:SE X Wx m a f):SE X Wx m (.BoolOp op [a] pos) f:=Yi ha
theorem Dt (ha:SE X Wx .val a f)(hb:SE X Wx m (.BoolOp .And (b::rest) pos) g):SE X Wx m (.BoolOp .And (a::b::rest) pos) (dD f g):=by
  refine cA (XM ha hb) ?_;rintro st H Q ⟨P0,H0,P,Os,env,M,r,M',k,e,q⟩;unfold dD at e;rcases cG e with⟨d,M1,e1,e⟩ |⟨c,n,e1,rfl⟩
  · cases d<;>simp only[reduceCtorEq]at e
    rename_i b;refine bf k e1 fun P1 v1 H1 l1 h1 i1=>⟨b,i1,?_⟩
    cases b with
    |true=>
      rw[xac rfl]at e ⊢;exact bf (k.next l1 h1) e (RQ.imp l1 q)
    |false=>
      rw[xae (by decide)]at e ⊢;cases e;exact q P1 _ H1 l1 h1 (cR.of h1 (show Is _ _ _ (.bl false) _ from rfl))
  · exact bf k e1 q
theorem zct (hc:ST X Wx c t)(ha:SE X Wx m a f)(hb:SE X Wx m b g):SE X Wx m (.IfExp c a b pos) (pD t f g):=by
  refine cA (X8 hc ha hb) ?_;rintro st H Q ⟨P0,H0,P,Os,env,M,r,M',k,e,q⟩;unfold pD at e;rcases cG e with⟨d,M1,e1,e⟩ |⟨c,n,e1,rfl⟩
  · cases d<;>simp only[reduceCtorEq]at e
    rename_i b;refine fX k e1 ⟨b,rfl,fun P1 H1 l1 h1=>?_⟩
    cases b with
    |true=>
      rw[xac rfl]at e ⊢;exact bf (k.next l1 h1) e (RQ.imp l1 q)
    |false=>
      rw[xae (by decide)]at e ⊢;exact bf (k.next l1 h1) e (RQ.imp l1 q)
  · exact fX k e1 q
theorem Rm {K:Fgx}{P:Pl}{H:Hp}{d:D}{v:V}{b:Bool}(h:gB d=some b)(i:bQ K P H d v):nj K v H b:=by
  cases d with
  |non=>have e:v=.non:=i;subst e;cases h;rfl
  |bl c=>have e:v=.bl c:=i;subst e;cases h;rfl
  |int c=>have e:v=.int c:=i;subst e;cases h;rfl
  |str c=>
    have e:v=.str c:=i;subst e;simp only[gB]at h;split at h
    · rename_i hl;cases h;exact⟨hl,rfl⟩
    · cases h
  |lst ds=>
    obtain⟨a,vs,rfl,r,q⟩:=i;cases h;refine .inl ⟨vs,r,?_⟩
    cases ds with
    |nil=>rw[show vs=[] from q];rfl
    |cons d ds=>obtain⟨w,r',rfl,_⟩:=q;rfl
  |tup ds=>
    obtain⟨a,vs,rfl,r,q⟩:=i;cases h;refine .inr (.inl ⟨vs,r,?_⟩)
    cases ds with
    |nil=>rw[show vs=[] from q];rfl
    |cons d ds=>obtain⟨w,r',rfl,_⟩:=q;rfl
  |ref k=>cases h
theorem gW (ha:SE X Wx .bor a f)(he:∀whole,isTrue a X.env whole=(do let v <-whole;standAt a.pos;holding [v] (truthy v)):=by exact fun _=>rfl):ST X Wx a (cj f):=by
 refine HS (YM ha he) ?_;rintro st H Q ⟨P0,H0,P,Os,env,M,r,M',k,e,q⟩;unfold cj s1 at e;rcases cG e with⟨d,M1,e1,e⟩ |⟨c,n,e1,rfl⟩
 ·rw[xak]at e;obtain⟨z,ez,e⟩:=e;cases e;rw[xak]at ez;obtain⟨b,eb,rfl⟩:=ez;obtain⟨b',e2,q⟩:=q;cases e2;exact bf k e1 fun P1 v1 H1 l1 h1 i1=>⟨b,Rm eb (cF.vw h1 i1),q P1 H1 l1 h1⟩
 ·exact bf k e1 q
theorem Yh (ha:PE X a ta):PE X (.UnaryOp .Not a pos) (fun σ H Q=>ta σ H fun x H1=>∃k,nj X.K x H1 k/\Q (.bl (!k)) H1):=by
 intro pins s σ H Q I h;refine UnaryOp_ (aY (ha pins s σ H _ I h) fun v s1 ⟨x, H1, I1, r1, k, tv, q⟩ => ?_);exact not_of (aY (Ro pins s1 σ H1 x v (fun b H'=>b=k/\H'=H1) I1 r1 ⟨k,tv,rfl,rfl⟩) fun b s2 ⟨H2,I2,e1,e2⟩=>by
  subst e1 e2;exact⟨.bl (!b),H2,I2,rfl,q⟩)
def C_ (f:E):E:=s1 (fun d=>(gB d).map fun b=>.bl (!b)) f
theorem zcA (ha:SE X Wx .bor a f):SE X Wx m (.UnaryOp .Not a pos) (C_ f):=by
 refine cA (Yh ha) ?_;rintro st H Q ⟨P0,H0,P,Os,env,M,r,M',k,e,q⟩;unfold C_ s1 at e;rcases cG e with⟨d,M1,e1,e⟩ |⟨c,n,e1,rfl⟩
 ·rw[xak]at e;obtain⟨z,ez,e⟩:=e;cases e;rw[xak]at ez;obtain⟨b,eb,rfl⟩:=ez;exact bf k e1 fun P1 v1 H1 l1 h1 i1=>⟨b,Rm eb (cF.vw h1 i1),q P1 _ H1 l1 h1 (cR.of h1 (show Is _ _ _ (.bl _) _ from rfl))⟩
 ·exact bf k e1 q
inductive ResA where
 |v (ds:List D) |x (c:Str) (n:Int)
abbrev EA:=Env->Mm->Option (ResA×Mm)
def aq:EA:=fun _ M=>some (.v [],M)
noncomputable def au (f:E) (fs:EA):EA:=fun env M=>match f env M with
  | some (.v d, M1) => (match fs env M1 with
    |some (.v ds,M2)=>some (.v (d::ds),M2)
    |some (.x c n,M2)=>some (.x c n,M2)
    |none=>none)
  |some (.x c n,M1)=>some (.x c n,M1)
  |none=>none
noncomputable def cW (o:Option (ResA×Mm)) (k:List D->Mm->O):O:=match o with
 |some (.v ds,M)=>k ds M
 |some (.x c n,M)=>some (.x c n,M)
 |none=>none
theorem nA (h:cW o k=some (r,M')):(∃ds M,o=some (.v ds,M)/\k ds M=some (r,M'))\/∃c n,o=some (.x c n,M')/\r=.x c n:=by
 unfold cW at h;split at h
 ·exact .inl ⟨_,_,rfl,h⟩
 ·cases h;exact .inr ⟨_,_,rfl,rfl⟩
 ·cases h
noncomputable def cV (K:Fgx) (P:Pl) (H:Hp) (m:Mode):List D->List V->Prop
 | [],vs=>vs=[]
 |d::ds,vs=>∃v ws,vs=v::ws/\cR K P H m d v/\cV K P H m ds ws
theorem cV.iss {K:Fgx}{P:Pl}{H:Hp}:∀{ds:List D} {vs:List V},cV K P H .val ds vs->aC K P H ds vs
  | [],_,h=>h
  |_::_,_,h=>by
    obtain⟨v,ws,e,p,q⟩:=h;exact⟨v,ws,e,p,cV.iss q⟩
noncomputable def AQ (K:Fgx) (mg:Mgx) (Wx:XW) (m:Mode) (P0:Pl) (H0:Hp) (P:Pl) (H:Hp) (M':Mm) (Q:List V->Hp->Prop):ResA->Prop
 |.v ds=>∀P' vs H',LtE P H P' H'->Hk K mg P' H' M'->cV K P' H' m ds vs->Q vs H'
 |.x c n=>Wx P0 H0 M' c n
noncomputable def Q9 (K:Fgx) (mg:Mgx) (Wx:XW) (m:Mode) (fs:EA):TA:=fun st H Q=>∃P0 H0 P Os env M r M',Ok K mg P0 H0 P Os H M st env/\fs env M=some (r,M')/\AQ K mg Wx m P0 H0 P H M' Q r
def SA (X:Cx)(Wx:XW)(m:Mode)(es:List Expr)(fs:EA):Prop:=PA X es (Q9 X.K X.mg Wx m fs)
theorem Ox (h:PA X es t)(w:∀σ H Q,t' σ H Q->t σ H Q):PA X es t':=fun pos pins s σ H Q I hw=>h pos pins s σ H Q I (w σ H Q hw)
theorem aJ:SA X Wx m [] aq:=by
 refine Ox rD ?_;rintro st H Q ⟨P0,H0,P,Os,env,M,r,M',k,e,q⟩;cases e;exact q P [] H (LtE.refl P H) k.hk rfl
theorem aD (ha:SE X Wx m e f)(hr:SA X Wx m es fs)(hs:starEach (e::es) X.env=(false,eval e X.env)::starEach es X.env:=by rfl):SA X Wx m (e::es) (au f fs):=by
 refine Ox (pB ha hr hs) ?_;rintro st H Q ⟨P0,H0,P,Os,env,M,r,M',k,e,q⟩;unfold au at e;split at e
 ·rename_i d M1 e1;refine bf k e1 fun P1 v1 H1 l1 h1 i1=>?_;split at e
  ·rename_i ds M2 e2;cases e;refine⟨P0,H0,P1,Os,env,M1,_,_,k.next l1 h1,e2,fun P2 vs H2 l2 h2 i2=>q P2 _ H2 (l1.trans l2) h2 ⟨v1,vs,rfl,?_,i2⟩⟩
   cases m with
   |val=>exact Is.lt (l2.lt h1) i1
   |bor=>exact cF.lt l2 h1 i1
  ·rename_i c n M2 e2;cases e;exact⟨P0,H0,P1,Os,env,M1,_,_,k.next l1 h1,e2,q⟩
  ·cases e
 ·rename_i c n M1 e1;cases e;exact bf k e1 q
 ·cases e
noncomputable def sN (o:List D->Option D) (fs:EA):E:=fun env M=>cW (fs env M) fun ds M1=>(o (ds.map (vw M1))).map fun z=>(.v z,M1)
noncomputable def m8 (K:Fgx) (P:Pl) (H:Hp):List D->List V->Prop
 | [],vs=>vs=[]
 |d::ds,vs=>∃v ws,vs=v::ws/\bQ K P H d v/\m8 K P H ds ws
theorem cV.w {K:Fgx}{mg:Mgx}{P:Pl}{H:Hp}{M:Mm}(h:Hk K mg P H M):∀{ds:List D} {vs:List V},cV K P H m ds vs->m8 K P H (ds.map (vw M)) vs
  | [],_,q=>q
  |d::ds,_,q=>by
    obtain⟨v,ws,e,p,q⟩:=q;exact⟨v,ws,e,cF.vw h (p.b h),cV.w h q⟩
def lF (K:Fgx)(r:List V->Hp->VK->Prop)(o:List D->Option D):Prop:=∀(P:Pl) (H:Hp) (ds:List D) (z:D) (vs:List V) (Q:VK),o ds=some z->m8 K P H ds vs->(∀p,H p=none->¬ P.bd p)->(∀u H',Same H H'->Is K P H' z u->Q u H')->r vs H Q
theorem Qx (h:∀t,PA X (e::es) t->PE X ex (Jw r t))(po:lF X.K r o)(ha:SA X Wx .bor (e::es) fs):SE X Wx m ex (sN o fs):=by
 refine cA (h _ ha) ?_;rintro st H Q ⟨P0,H0,P,Os,env,M,r,M',k,e,q⟩;unfold sN at e;rcases nA e with⟨ds,M1,e1,e⟩ |⟨c,n,e1,rfl⟩
 ·rw[xak]at e;obtain⟨z,ez,e⟩:=e;cases e;exact⟨P0,H0,P,Os,env,M,_,_,k,e1,fun P1 vs H1 l1 h1 i1=>po P1 H1 _ z vs Q ez (cV.w h1 i1) h1.new fun u H' s i=>q P1 u H' (l1.trans (LtE.same s)) (h1.same s) (cR.of (h1.same s) i)⟩
 ·exact⟨P0,H0,P,Os,env,M,_,_,k,e1,q⟩
noncomputable def aV (fs:EA):E:=fun env M=>cW (fs env M) fun ds M1=>if ds.length<=sizeLine then some (.v (.tup ds),M1) else none
theorem eE {es:List Expr}{x1:Nat}{pos:Pos}{fs:EA}(ha:SA X Wx .val es fs):SE X Wx m (.Tuple es x1 pos) (aV fs):=by
 refine cA (Yl ha) ?_;rintro st H Q ⟨P0,H0,P,Os,env,M,r,M',k,e,q⟩;unfold aV at e;rcases nA e with⟨ds,M1,e1,e⟩ |⟨c,n,e1,rfl⟩
 ·split at e
  ·rename_i hl;cases e;refine⟨P0,H0,P,Os,env,M,_,_,k,e1,fun P1 vs H1 l1 h1 i1=>⟨by rw[i1.iss.len];exact hl,fun p hp=>?_⟩⟩;have s:=rZ (o:=.tup vs) hp;exact q P1 _ _ (l1.trans (LtE.same s)) (h1.same s) (cR.of (h1.same s) ⟨p,vs,rfl,.inl (.inl dw),aC.lt ((LtE.same s).lt h1) i1.iss⟩)
  ·cases e
 ·exact⟨P0,H0,P,Os,env,M,_,_,k,e1,q⟩
noncomputable def NQ (K:Fgx) (mg:Mgx) (Wx:XW) (P0:Pl) (H0:Hp) (P:Pl) (H:Hp) (M':Mm) (Q:VK):Res->Prop
 |.v d=>∃ds,d=.lst ds/\∀P' a vs H',LtE P H P' H'->Hk K mg P' H' M'->H a=none->P'.bd a->(∀k,k<P'.n->P'.io k≠a)->H' a=some (.lst vs)->aC K P' H' ds vs->Q (.ref a) H'
 |.x c n=>Wx P0 H0 M' c n
noncomputable def tN (K:Fgx) (mg:Mgx) (Wx:XW) (f:E):TE:=fun st H Q=>∃P0 H0 P Os env M r M',Ok K mg P0 H0 P Os H M st env/\f env M=some (r,M')/\NQ K mg Wx P0 H0 P H M' Q r
def SN (X:Cx)(Wx:XW)(e:Expr)(f:E):Prop:=PE X e (tN X.K X.mg Wx f)
def Pl.bar (P:Pl)(p:Addr):Pl:={P with bd:=fun a=>P.bd a\/a=p}
theorem sW {K:Fgx}{mg:Mgx}{P:Pl}{H:Hp}{M:Mm}{p:Addr}{vs:List V}(h:Hk K mg P H M)(hp:H p=none):LtE P H (P.bar p) (upd H p (.lst vs))/\Hk K mg (P.bar p) (upd H p (.lst vs)) M/\∀k,k<P.n->P.io k≠p:=by
 have s:=rZ (o:=.lst vs) hp;have nc:∀k,k<P.n->P.io k≠p:=fun k hk z=>h.here _ (h.bd k hk) (z ▸ hp);have l:LtE P H (P.bar p) (upd H p (.lst vs)):=⟨xad _,fun _ _=>rfl,fun a z=>xd4 (fun q=>q) (fun(q:a=p)=>by rw[q];exact hp) z,fun a z=>.inl z,fun a o e _=>s a o e,fun a z=>s.free z,fun k h1 h2=>absurd h1 (xeg.mpr h2)⟩;have lt:=l.lt h;refine⟨l,⟨h.n,fun k c e=>?_,h.inj,fun k hk=>.inl (h.bd k hk),fun a z q=>?_⟩,nc⟩
 ·exact(h.cell k c e).up (fun _ e _=>s _ _ e) lt.fz fun _ _ q=>aC.lt lt q
 ·rcases z with z |z
  ·exact h.here a z (s.free q)
  ·subst z;rw[dw]at q;cases q
theorem SN.se (h:SN X Wx e f)(hf:∀env M r M',f env M=some (.v r,M')->∃ds,r=.lst ds):SE X Wx .val e f:=by
  refine cA h ?_;rintro st H Q ⟨P0,H0,P,Os,env,M,r,M',k,e,q⟩;refine⟨P0,H0,P,Os,env,M,r,M',k,e,?_⟩
  cases r with
  |x c n=>exact q
  |v d=>
    obtain⟨ds,rfl⟩:=hf _ _ _ _ e;refine⟨ds,rfl,fun P' a vs H' l h ha ba nc ea is=>q (P'.less (· ≠a)) _ H' ?_ ?_ ⟨a,vs,rfl,.inl ⟨fun z=>z.2 rfl,.inl ea⟩,aC.less is⟩⟩
    · exact⟨l.n,l.io,fun b z=>l.bd b z.1,fun b z=>⟨l.bm b z,fun q=>k.hk.here b z (q ▸ ha)⟩,l.keep,l.sure,l.nw⟩
    · refine⟨h.n,fun j c e=>?_,h.inj,fun j hj=>⟨h.bd j hj,nc j hj⟩,fun b z=>h.here b z.1⟩;exact(h.cell j c e).up (fun _ z _=>z) (fun _ _ _ z=>z) fun _ _ q=>aC.less q
noncomputable def aX (fs:EA):E:=fun env M=>cW (fs env M) fun ds M1=>if ds.length<=sizeLine then some (.v (.lst ds),M1) else none
theorem dG {es:List Expr}{pos:Pos}{fs:EA}(ha:SA X Wx .val es fs):SN X Wx (.List es pos) (aX fs):=by
 refine cA (Yc ha) ?_;rintro st H Q ⟨P0,H0,P,Os,env,M,r,M',k,e,q⟩;unfold aX at e;rcases nA e with⟨ds,M1,e1,e⟩ |⟨c,n,e1,rfl⟩
 ·split at e
  ·rename_i hl;cases e;obtain⟨ds',e',q⟩:=q;cases e';refine⟨P0,H0,P,Os,env,M,_,_,k,e1,fun P1 vs H1 l1 h1 i1=>⟨by rw[i1.iss.len];exact hl,fun p hp=>?_⟩⟩;obtain⟨l2,h2,nc⟩:=sW (vs:=vs) h1 hp;exact q (P1.bar p) p vs _ (l1.trans l2) h2 (l1.sure p hp) (.inr rfl) nc dw (aC.lt (l2.lt h1) i1.iss)
  ·cases e
 ·exact⟨P0,H0,P,Os,env,M,_,_,k,e1,q⟩
theorem lst_is:∀env M r M',aX fs env M=some (.v r,M')->∃ds,r=.lst ds:=fun env M r M' e=>by
 unfold aX at e;rcases nA e with⟨ds,M1,e1,e⟩ |⟨c,n,e1,e⟩
 ·split at e
  ·cases e;exact⟨_,rfl⟩
  ·cases e
 ·cases e
end
inductive Out where
 |nx (env:Env) |bk (env:Env) |ct (env:Env) |rt (d:D) |ex (c:Str) (n:Int)
abbrev OS:=Option (Out×Mm)
abbrev S:=Env->Mm->OS
noncomputable def Post (K:Fgx) (mg:Mgx) (Wx:XW) (P0:Pl) (H0:Hp) (P:Pl) (H:Hp) (M':Mm) (D:Ends):Out->Prop
 |.nx env=>∀P' Os' H' st',Lt P H P' H'->Ok K mg P0 H0 P' Os' H' M' st' env->D.nx st' H'
 |.bk env=>∀P' Os' H' st',Lt P H P' H'->Ok K mg P0 H0 P' Os' H' M' st' env->D.bk st' H'
 |.ct env=>∀P' Os' H' st',Lt P H P' H'->Ok K mg P0 H0 P' Os' H' M' st' env->D.ct st' H'
 |.rt d=>∀P' v H',LtE P0 H0 P' H'->Hk K mg P' H' M'->Is K P' H' d v->D.rt v H'
 |.ex c n=>Wx P0 H0 M' c n
noncomputable def tS (K:Fgx) (mg:Mgx) (Wx:XW) (f:S):TS:=fun D st H=>∃P0 H0 P Os env M out M',Ok K mg P0 H0 P Os H M st env/\f env M=some (out,M')/\Post K mg Wx P0 H0 P H M' D out
def SS (X:Cx)(Wx:XW)(s:Stmt)(f:S):Prop:=PS X s (tS X.K X.mg Wx f)
def SB (X:Cx)(Wx:XW)(s:List Stmt)(f:S):Prop:=gF X s (tS X.K X.mg Wx f)
noncomputable def bJ (o:O) (k:D->Mm->OS):OS:=match o with
 |some (.v d,M)=>k d M
 |some (.x c n,M)=>some (.ex c n,M)
 |none=>none
theorem fQ (h:bJ o k=some (r,M')):(∃d M,o=some (.v d,M)/\k d M=some (r,M'))\/∃c n,o=some (.x c n,M')/\r=.ex c n:=by
 unfold bJ at h;split at h
 ·exact .inl ⟨_,_,rfl,h⟩
 ·cases h;exact .inr ⟨_,_,rfl,rfl⟩
 ·cases h
section
variable {K:Fgx}{mg:Mgx}{Wx:XW}{P0 P P' P1:Pl}{H0 H H' H1:Hp}{M M':Mm}{Os:List (Option Addr)}{st:L2.St}{env:Env}{d:D}{v:V}{i:Nat}
theorem zP (l:List (Option α))(i j:Nat)(x:Option α)(hi:i<l.length):((l.set i x)[j]?).join=if i=j then x else(l[j]?).join:=by
 rw[xbe]
 by_cases h:i=j
 ·subst h;rw[xac rfl,xac hi,xac rfl];rfl
 ·rw[xae h,xae h]
theorem Ok.asg (k:Ok K mg P0 H0 P Os H M st env)(hi:i<env.length)(h:Is K P H d v):Ok K mg P0 H0 P (Os.set i none) H M (st.set i (some v)) (env.set i (.val d)) where
 hk:=k.hk
 base:=k.base
 b0:=k.b0
 slot:=fun j s e=>by
  rw[zP _ _ _ _ (by rw[k.olen];exact hi),zP _ _ _ _ (by rw[k.slen];exact hi)];rw[xbe]at e;split at e
  ·rename_i ij;subst ij;cases e;rw[xac rfl,xac rfl];exact⟨v,rfl,h⟩
  ·rename_i ij;rw[xae ij,xae ij];exact k.slot j s e
 own := fun a h => k.own a (by
  rcases xdM h with h |h
  ·exact h
  ·cases h)
 inj:=fun j l a e1 e2=>by
  rw[xbe]at e1 e2;split at e1
  ·split at e1<;>cases e1
  ·split at e2
   ·split at e2<;>cases e2
   ·exact k.inj j l a e1 e2
 olen:=by rw[xaU,xaU,k.olen]
 slen:=by rw[xaU,xaU,k.slen]
theorem Ok.here (k:Ok K mg P0 H0 P Os H M st env)(h:some a∈Os):H a≠none:=k.hk.here a (k.own a h).1
theorem Ok.mine (k0:Ok K mg P0 H0 P Os H M st env)(l:LtE P H P' H')(hk:Hk K mg P' H' M')(hi:i<env.length)(ha:H a=none)(ba:P'.bd a)(nc:∀j,j<P'.n->P'.io j≠a)(e:H' a=some (.lst vs))(h:aC K P' H' ds vs):
  Ok K mg P0 H0 P' (Os.set i (some a)) H' M' (st.set i (some (.ref a))) (env.set i (.own ds)):=by
 have k:=k0.next l hk
 have nO:∀j,Os[j]? ≠some (some a):=fun j z=>k0.here (xaT z) ha;exact {
  hk:=k.hk
  base:=k.base
  b0:=k.b0
  slot:=fun j s e'=>by
   rw[zP _ _ _ _ (by rw[k.olen];exact hi),zP _ _ _ _ (by rw[k.slen];exact hi)];rw[xbe]at e';split at e'
   ·rename_i ij;subst ij;cases e';rw[xac rfl,xac rfl];exact⟨a,vs,rfl,rfl,e,h⟩
   ·rename_i ij;rw[xae ij,xae ij];exact k.slot j s e'
  own:=fun b hb=>by
   rcases xdM hb with hb |hb
   ·exact k.own b hb
   ·cases hb;exact⟨ba,nc,k0.base.sure a ha⟩
  inj:=fun j l b e1 e2=>by
   rw[xbe]at e1 e2;split at e1
   ·split at e1
    ·cases e1;split at e2
     ·rename_i z1 _ z2;exact z1.symm.trans z2
     ·exact absurd e2 (nO l)
    ·cases e1
   ·split at e2
    ·split at e2
     ·cases e2;exact absurd e1 (nO j)
     ·cases e2
    ·exact k.inj j l b e1 e2
  olen:=by rw[xaU,xaU,k.olen]
  slen:=by rw[xaU,xaU,k.slen]}
theorem wV (b : P.bd a) (e : H a = some o) (nf : ¬ Fx o) : Lt P H P (upd H a o') := ⟨xad _,fun _ _=>rfl,fun _ z=>.inl z,fun c u ec z=>by
  by_cases h:c=a
  ·subst h;rw[e]at ec;cases ec;exact(z.elim nf fun n=>n b).elim
  ·rw[bT h];exact ec,fun c z=>by
  by_cases h:c=a
  ·subst h;rw[dw]at z;cases z
  ·rw[bT h]at z;exact z⟩
theorem Hq:¬ Fx (.lst vs):=fun z=>by rcases z with⟨_,z⟩ |⟨_,_,z⟩ |⟨_,z⟩ |⟨_,z⟩<;>cases z
theorem Wg:¬ Fx (.ins C dx gs):=fun z=>by rcases z with⟨_,z⟩ |⟨_,_,z⟩ |⟨_,z⟩ |⟨_,z⟩<;>cases z
theorem ni.lt (l:Lt P H P' H')(e:∀o,H a=some o->H' a=some o)(h:ni K mg P H a c):ni K mg P' H' a c:=by
 exact h.up (fun _ z _=>e _ z) l.fz fun _ _ q=>aC.lt l q
theorem Ok.chg (k:Ok K mg P0 H0 P Os H M st env)(hi:env[i]? =some (.own ds))(ho:Os[i]? =some (some a))(e:H a=some (.lst vs))(h:aC K P H ds' vs'):
    Lt P H P (upd H a (.lst vs'))/\Ok K mg P0 H0 P Os (upd H a (.lst vs')) M st (env.set i (.own ds')):=by
  obtain⟨b1,b2,b3⟩:=k.own a (xaT ho);have l:Lt P H P (upd H a (.lst vs')):=wV b1 e Hq;have ilt:i<env.length:=(xaz.mp hi).1;refine⟨l,?_⟩;exact {
    hk:=⟨k.hk.n,fun j c ej=>(k.hk.cell j c ej).lt l fun o eo=>by rw[bT (b2 j (by rw[k.hk.n];exact(xaz.mp ej).1))];exact eo,k.hk.inj,k.hk.bd,fun c z q=>k.hk.here c z (l.sure c q)⟩
    base := ⟨k.base.n,k.base.io,k.base.bd,k.base.bm,fun c o ec n=>by
      have:=k.base.keep c o ec n;rw[bT (fun z=>by subst z;rw[b3]at ec;cases ec)];exact this,fun c z=>k.base.sure c (l.sure c z),k.base.nw⟩
    b0:=k.b0
    slot:=fun j s ej=>by
      rw[xbe]at ej;split at ej
      · rename_i ij;subst ij;cases ej;obtain⟨a',vs0,e1,e2,e3,q⟩:=k.slot i _ hi;rw[ho]at e1;cases e1;exact⟨a,vs',by rw[ho];rfl,e2,dw,aC.lt l h⟩
      · rename_i ij;have q:=k.slot j s ej
        cases s with
        |un=>exact True.intro
        |val d=>obtain⟨v,e1,q⟩:=q;exact⟨v,e1,Is.lt l q⟩
        |own es=>
          obtain⟨a',ws,e1,e2,e3,q⟩:=q;refine⟨a',ws,e1,e2,?_,aC.lt l q⟩;rw[bT (fun z=>ij (k.inj i j a ho (by rw[<-z];exact nW e1)))];exact e3
        |exc c n=>obtain⟨v,e1,q⟩:=q;exact⟨v,e1,q.lt l⟩
    own:=k.own
    inj:=k.inj
    olen:=by rw[xaU,k.olen]
    slen:=by rw[xaU,k.slen]}
theorem Hk.set (h:Hk K mg P H M)(e:M[j]? =some c)(w:ni K mg P (upd H (P.io j) o') (P.io j) c')(nd:c.fix=false:=by rfl):Lt P H P (upd H (P.io j) o')/\LtE P H P (upd H (P.io j) o')/\Hk K mg P (upd H (P.io j) o') (M.set j c'):=by
 have jl:j<P.n:=by rw[h.n];exact(xaz.mp e).1
 obtain ⟨o, eo, nf⟩ := h.cellAt e nd;have l : Lt P H P (upd H (P.io j) o') := wV (h.bd j jl) eo nf;refine ⟨l, ⟨xad _,fun _ _=>rfl,fun _ z=>.inl z,fun _ z=>z,fun a u ea n=>by
  have ne:a≠P.io j:=by
   rintro rfl;rw[eo]at ea;cases ea;exact n.elim nf fun nc=>nc j jl rfl
  rw[bT ne];exact ea,l.sure,fun k h1 h2=>absurd h1 (xeg.mpr h2)⟩,⟨by rw[xaU,h.n],fun k b ek=>?_,h.inj,h.bd,fun a z q=>h.here a z (l.sure a q)⟩⟩
 rw[xbe]at ek;split at ek
 ·rename_i jk;subst jk;rw[xac (by rw[<-h.n];exact jl)]at ek;cases ek;exact w
 ·rename_i jk;have kl:k<P.n:=by rw[h.n];exact(xaz.mp ek).1
  exact(h.cell k b ek).lt l fun u eu=>by rw[bT (fun z=>jk (h.inj j k jl kl z.symm))];exact eu
theorem Ok.frz (k:Ok K mg P0 H0 P Os H M st env)(hi:env[i]? =some (.own ds)):∃P' Os',Lt P H P' H/\Ok K mg P0 H0 P' Os' H M st (env.set i (.val (.lst ds))):=by
 obtain⟨a,vs,e1,e2,e3,q⟩:=k.slot i _ hi;have ho:=nW e1;obtain⟨b1,b2,b3⟩:=k.own a (xaT ho);have ilt:i<env.length:=(xaz.mp hi).1;have nO:∀b,some b∈Os.set i none->some b∈Os/\b≠a:=fun b z=>by
  obtain⟨j,hj⟩:=xd5.mp z;rw[xbe]at hj;split at hj
  ·split at hj<;>cases hj
  ·rename_i ij;exact⟨xaT hj,fun z=>by subst z;exact ij (k.inj i j b ho hj)⟩
 have l : Lt P H (P.less (· ≠ a)) H := ⟨xad _, fun _ _ => rfl, fun c z => .inl z.1, fun _ _ e _ => e, fun _ z => z⟩;refine ⟨P.less (· ≠a),Os.set i none,l,{
  hk:=⟨k.hk.n,fun j c ej=>(k.hk.cell j c ej).lt l fun _ z=>z,k.hk.inj,fun j hj=>⟨k.hk.bd j hj,b2 j hj⟩,fun c z=>k.hk.here c z.1⟩
  base:=⟨k.base.n,k.base.io,fun c z=>k.base.bd c z.1,fun c z=>⟨k.base.bm c z,fun q=>k.b0 c z (q ▸ b3)⟩,k.base.keep,k.base.sure,k.base.nw⟩
  b0:=k.b0
  slot:=fun j s ej=>?_
  own:=fun c z=>?_
  inj:=fun j l b z1 z2=>?_
  olen:=by rw[xaU,xaU,k.olen]
  slen:=by rw[xaU,k.slen]}⟩
 ·rw[zP _ _ _ _ (by rw[k.olen];exact ilt)];rw[xbe]at ej;split at ej
  ·rename_i ij;subst ij;cases ej;exact⟨.ref a,e2,a,vs,rfl,.inl ⟨fun z=>z.2 rfl,.inl e3⟩,aC.less q⟩
  ·rename_i ij;rw[xae ij];have q:=k.slot j s ej
   cases s with
   |un=>exact True.intro
   |val d=>obtain⟨v,e1,q⟩:=q;exact⟨v,e1,Is.less q⟩
   |own es=>obtain⟨a',ws,e1,e2,e3,q⟩:=q;exact⟨a',ws,e1,e2,e3,aC.less q⟩
   |exc c n=>obtain⟨v,e1,q⟩:=q;exact⟨v,e1,q.lt l⟩
 ·obtain⟨z1,z2⟩:=nO c z;obtain⟨c1,c2,c3⟩:=k.own c z1;exact⟨⟨c1,z2⟩,c2,c3⟩
 ·rw[xbe]at z1 z2;split at z1
  ·split at z1<;>cases z1
  ·split at z2
   ·split at z2<;>cases z2
   ·exact k.inj j l b z1 z2
end
section
variable {X:Cx}{Wx:XW}{pos:Pos}
theorem gq (h:PS X s t)(w:∀D σ H,t' D σ H->t D σ H):PS X s t':=fun pins s σ H D I hw=>h pins s σ H D I (w D σ H hw)
theorem HN (h:gF X s t)(w:∀D σ H,t' D σ H->t D σ H):gF X s t':=fun pins s σ H D I hw=>h pins s σ H D I (w D σ H hw)
def aA:S:=fun env M=>some (.nx env,M)
noncomputable def ao (f g:S):S:=fun env M=>match f env M with
 |some (.nx e,M1)=>g e M1
 |o=>o
theorem aK:SB X Wx [] aA:=by
 refine HN YJ ?_;rintro D st H ⟨P0,H0,P,Os,env,M,out,M',k,e,q⟩;cases e;exact q P Os H st (Lt.refl P H) k
theorem Post.lt {K:Fgx}{mg:Mgx}{P0 P P1:Pl}{H0 H H1:Hp}{M':Mm}{D:Ends}{o:Out}(l:Lt P H P1 H1)(q:Post K mg Wx P0 H0 P H M' D o):Post K mg Wx P0 H0 P1 H1 M' D o:=by
 cases o with
 |nx env=>exact fun P' Os' H' st' l' k=>q P' Os' H' st' (l.trans l') k
 |bk env=>exact fun P' Os' H' st' l' k=>q P' Os' H' st' (l.trans l') k
 |ct env=>exact fun P' Os' H' st' l' k=>q P' Os' H' st' (l.trans l') k
 |rt d=>exact q
 |ex c n=>exact q
theorem aF (h1:SS X Wx s f)(h2:SB X Wx ss g):SB X Wx (s::ss) (ao f g):=by
  refine HN (YH h1 h2) ?_;rintro D st H ⟨P0,H0,P,Os,env,M,out,M',k,e,q⟩;unfold ao at e;split at e
  · rename_i e1 M1 ef;refine⟨P0,H0,P,Os,env,M,_,_,k,ef,fun P1 Os1 H1 st1 l1 k1=>?_⟩;exact⟨P0,H0,P1,Os1,e1,M1,_,_,k1,e,q.lt l1⟩
  · rename_i o ho
    cases ef:f env M with
    |none=>rw[ef]at e;cases e
    |some om=>
      obtain⟨o1,M1⟩:=om;rw[ef]at e;cases e;refine⟨P0,H0,P,Os,env,M,_,_,k,ef,?_⟩
      cases out with
      |nx env'=>exact(ho _ _ ef).elim
      |bk env'=>exact q
      |ct env'=>exact q
      |rt d=>exact q
      |ex c n=>exact q
noncomputable def aU (i:Nat) (f:E):S:=fun env M=>bJ (f env M) fun d M1=>if i<env.length then some (.nx (env.set i (.val d)),M1) else none
theorem cI (hN:X.N.Nodup)(hi:X.N[i]? =some x)(hx:Loc X.env.scope x)(he:SE X Wx .val e f)(hs:swapsWith e (some (.Name x pos')) pos.line X.env=pure false:=by rfl)
  (hf:X.fn x=true\/X.env.scope.names.lookup x=some .local:=by first |exact .inl rfl |exact .inr rfl):SS X Wx (.Assign [.Name x pos'] e pos) (aU i f):=by
 refine gq (O6 hN hi hx he hs hf) ?_;rintro D st H ⟨P0,H0,P,Os,env,M,out,M',k,e,q⟩;unfold aU at e;rcases fQ e with⟨d,M1,e1,e⟩ |⟨c,n,e1,rfl⟩
 ·split at e
  ·rename_i hl;cases e;exact⟨P0,H0,P,Os,env,M,_,_,k,e1,fun P1 v1 H1 l1 h1 i1=>q _ _ _ _ (l1.lt k.hk) ((k.next l1 h1).asg hl i1)⟩
  ·cases e
 ·exact⟨P0,H0,P,Os,env,M,_,_,k,e1,q⟩
noncomputable def xJ (i:Nat) (f:E):S:=fun env M=>bJ (f env M) fun d M1=>match d with
 |.lst ds=>if i<env.length then some (.nx (env.set i (.own ds)),M1) else none
 |_=>none
theorem Jp (hN:X.N.Nodup)(hi:X.N[i]? =some x)(hx:Loc X.env.scope x)(he:SN X Wx e f)(hs:swapsWith e (some (.Name x pos')) pos.line X.env=pure false:=by rfl)
  (hf:X.fn x=true\/X.env.scope.names.lookup x=some .local:=by first |exact .inl rfl |exact .inr rfl):SS X Wx (.Assign [.Name x pos'] e pos) (xJ i f):=by
 refine gq (O6 hN hi hx he hs hf) ?_;rintro D st H ⟨P0,H0,P,Os,env,M,out,M',k,e,q⟩;unfold xJ at e;rcases fQ e with⟨d,M1,e1,e⟩ |⟨c,n,e1,rfl⟩
 ·cases d<;>simp only[reduceCtorEq]at e
  rename_i ds;split at e
  ·rename_i hl;cases e;exact⟨P0,H0,P,Os,env,M,_,_,k,e1,ds,rfl,fun P1 a vs H1 l1 h1 ha ba nc ea is=>q _ _ _ _ (l1.lt k.hk) (k.mine l1 h1 hl ha ba nc ea is)⟩
  ·cases e
 ·exact⟨P0,H0,P,Os,env,M,_,_,k,e1,q⟩
def aM (f:E):S:=fun env M=>bJ (f env M) fun d M1=>some (.rt d,M1)
theorem bO (he:SE X Wx .val e f):SS X Wx (.Return (some e) pos) (aM f):=by
 refine gq (YF he) ?_;rintro D st H ⟨P0,H0,P,Os,env,M,out,M',k,e,q⟩;unfold aM at e;rcases fQ e with⟨d,M1,e1,e⟩ |⟨c,n,e1,rfl⟩
 ·cases e;exact⟨P0,H0,P,Os,env,M,_,_,k,e1,fun P1 v1 H1 l1 h1 i1=>q P1 v1 H1 (k.base.trans l1) h1 i1⟩
 ·exact⟨P0,H0,P,Os,env,M,_,_,k,e1,q⟩
noncomputable def CV (f:E):S:=fun env M=>bJ (f env M) fun _ M1=>some (.nx env,M1)
theorem zbY (he:SE X Wx .bor e f)(hs:swapsWith e none pos.line X.env=pure false:=by rfl):SS X Wx (.Expr e pos) (CV f):=by
 refine gq (HJ he hs) ?_;rintro D st H ⟨P0,H0,P,Os,env,M,out,M',k,e,q⟩;unfold CV at e;rcases fQ e with⟨d,M1,e1,e⟩ |⟨c,n,e1,rfl⟩
 ·cases e;exact⟨P0,H0,P,Os,env,M,_,_,k,e1,fun P1 v1 H1 l1 h1 i1=>q _ _ _ _ (l1.lt k.hk) (k.next l1 h1)⟩
 ·exact⟨P0,H0,P,Os,env,M,_,_,k,e1,q⟩
noncomputable def cC (c:E) (f g:S):S:=fun env M=>bJ (c env M) fun d M1=>match d with
 |.bl b=>if b=true then f env M1 else g env M1
 |_=>none
theorem cM (hc:ST X Wx c t)(ha:SB X Wx a f)(hb:SB X Wx b g):SS X Wx (.If c a b pos) (cC t f g):=by
  refine gq (YD hc ha hb) ?_;rintro D st H ⟨P0,H0,P,Os,env,M,out,M',k,e,q⟩;unfold cC at e;rcases fQ e with⟨d,M1,e1,e⟩ |⟨c,n,e1,rfl⟩
  · cases d<;>simp only[reduceCtorEq]at e
    rename_i b;refine fX k e1 ⟨b,rfl,fun P1 H1 l1 h1=>?_⟩
    cases b with
    |true=>
      rw[xac rfl]at e ⊢;exact⟨P0,H0,P1,Os,env,M1,_,_,k.next l1 h1,e,q.lt (l1.lt k.hk)⟩
    |false=>
      rw[xae (by decide)]at e ⊢;exact⟨P0,H0,P1,Os,env,M1,_,_,k.next l1 h1,e,q.lt (l1.lt k.hk)⟩
  · exact fX k e1 q
noncomputable def lW (i:Nat):S:=fun env M=>match env[i]? with
 |some (.own ds)=>some (.nx (env.set i (.val (.lst ds))),M)
 |_=>none
theorem Py (h:SB X Wx ss g):SB X Wx ss (ao (lW i) g):=by
 refine HN h ?_;rintro D st H ⟨P0,H0,P,Os,env,M,out,M',k,e,q⟩;unfold ao lW at e;split at e
 ·rename_i e1 M1 ef;split at ef
  ·rename_i ds es;cases ef;obtain⟨P1,Os1,l1,k1⟩:=k.frz es;exact⟨P0,H0,P1,Os1,_,_,_,_,k1,e,q.lt l1⟩
  ·cases ef
 ·rename_i ho;split at e
  ·rename_i es;exact(ho _ _ (by rw[es])).elim
  ·cases e
noncomputable def kE (i:Nat) (f:E):S:=fun env M=>match env[i]? with
 |some (.own ds)=>bJ (f env M) fun d M1=>if ds.length<sizeLine then some (.nx (env.set i (.own (ds ++ [d]))),M1) else none
 |_=>none
theorem Jo (hN:X.N[i]? =some x)(hv:wC X.env.scope x)(he:SE X Wx .val e f)(hd:(x==("__debug__":Str))=false:=by x_go)(hcd:(x==("__classdict__":Str))=false:=by x_go)
  (hfew:((backTo q (starEach [e] X.env)).all (fun x=> !x.1) && (backToKw q (keywordEach [] X.env)).all (fun x=>x.1.isSome) && decide ([e].length + ([]:List Keyword).length + (if ([]:List Keyword).isEmpty then 0 else 1)<30))=true:=by rfl)
  (hline:(p.endLine==q.line)=true:=by rfl) (hs:starEach [e] X.env=(false,eval e X.env)::starEach [] X.env:=by rfl) (hw:swapsWith (.Call (.Attribute (.Name x p0) "append" p) [e] [] q) none pos.line X.env=pure false:=by rfl):
  SS X Wx (.Expr (.Call (.Attribute (.Name x p0) "append" p) [e] [] q) pos) (kE i f):=by
 refine gq (HJ (Hz xdW xdQ xdR Hf (HF hN hv hd hcd) (pB he rD hs) rfl hfew hline hs rfl) hw) ?_;rintro D st H ⟨P0,H0,P,Os,env,M,out,M',k,e,q⟩;unfold kE at e;split at e
 ·rename_i ds es;obtain⟨a,vs,o1,o2,o3,o4⟩:=k.slot i _ es;refine⟨.ref a,nW o2,.inl ⟨rfl,vs,.inl (.inl o3)⟩,?_⟩;rcases fQ e with⟨d,M1,e1,e⟩ |⟨c,n,e1,rfl⟩
  ·split at e
   ·rename_i hz;cases e;refine bf k e1 fun P1 v1 H1 l1 h1 i1=>?_;have k1:=k.next l1 h1
    obtain⟨a',vs',o1',o2',o3',o4'⟩:=k1.slot i _ es;have ea:a'=a:=by
     have z:=o2'.symm.trans o2;cases z;rfl
    subst ea;refine⟨a',vs',v1,rfl,rfl,o3',by rw[o4'.len];exact hz,?_⟩;obtain⟨l2,k2⟩:=k1.chg es (nW o1') o3' (aC.append o4' (aC.one i1));exact q _ _ _ _ ((l1.lt k.hk).trans l2) k2
   ·cases e
  ·exact bf k e1 q
 ·cases e
def Wk (K:Fgx)(P1:Pl)(H1:Hp)(J:It)(ds:List D):Prop:=∀P H,Lt P1 H1 P H->(∀k,k<ds.length->J.go k H)/\(∀k,ds.length<=k->k<=ds.length->J.stop k H)/\∀k x H',J.yld k H x H'->k<ds.length->H'=H/\∃d,ds[k]? =some d/\Is K P H d x
noncomputable def IQ (K:Fgx) (mg:Mgx) (Wx:XW) (P0:Pl) (H0:Hp) (P:Pl) (H:Hp) (M':Mm) (R:It->Hp->Prop):ResA->Prop
 |.v ds=>∀P' H' J,LtE P H P' H'->Hk K mg P' H' M'->Wk K P' H' J ds->R J H'
 |.x c n=>Wx P0 H0 M' c n
noncomputable def tI (K:Fgx) (mg:Mgx) (Wx:XW) (fs:EA):TI:=fun st H R=>∃P0 H0 P Os env M r M',Ok K mg P0 H0 P Os H M st env/\fs env M=some (r,M')/\IQ K mg Wx P0 H0 P H M' R r
def SI (X:Cx)(Wx:XW)(tg iter:Expr)(fs:EA):Prop:=PI X tg iter (tI X.K X.mg Wx fs)
theorem O2 (h:PI X tg iter t)(w:∀σ H R,t' σ H R->t σ H R):PI X tg iter t':=fun pins s σ H R I hw=>h pins s σ H R I (w σ H R hw)
noncomputable def loopS (i:Nat) (body:S):List D->Env->Mm->OS
  | [],env,M=>some (.nx env,M)
  | d :: ds, env, M => if i < env.length then (match body (env.set i (.val d)) M with
    |some (.nx e,M1)=>loopS i body ds e M1
    |some (.ct e,M1)=>loopS i body ds e M1
    |some (.bk e,M1)=>some (.nx e,M1)
    |some (.rt d,M1)=>some (.rt d,M1)
    |some (.ex c n,M1)=>some (.ex c n,M1)
    |none=>none) else none
noncomputable def gw (i:Nat) (fs:EA) (body:S):S:=fun env M=>match fs env M with
 |some (.v ds,M1)=>loopS i body ds env M1
 |some (.x c n,M1)=>some (.ex c n,M1)
 |none=>none
theorem V2 {K:Fgx}{mg:Mgx}{P0 P1:Pl}{H0 H1:Hp}{Os:List (Option Addr)}{M M':Mm}{st:L2.St}{env:Env}{i:Nat}{b:S}{J:It}{ds:List D}{out:Out}{D:Ends}(k:Ok K mg P0 H0 P1 Os H1 M st env)(wk:Wk K P1 H1 J ds)
  (h:loopS i b ds env M=some (out,M')) (q:Post K mg Wx P0 H0 P1 H1 M' D out):
  ∃W:Nat->Nat->L2.St->Hp->Prop,(∃m,W 0 m st H1)/\∀j m σ H,W j m σ H->
   (J.stop j H/\D.nx σ H)\/(J.go j H/\∃Nn:L2.St->Hp->Prop,(∀σ' H',Nn σ' H'->∃m',m'<m/\W (j + 1) m' σ' H')/\∀x H',J.yld j H x H'->wH i x σ H' fun σ2 H2=>tS K mg Wx b {D with nx:=Nn,ct:=Nn,bk:=D.nx} σ2 H2):=by
 refine⟨fun j m σ H=>m=ds.length - j/\j<=ds.length/\∃P Os' M1 env',Lt P1 H1 P H/\Ok K mg P0 H0 P Os' H M1 σ env'/\loopS i b (ds.drop j) env' M1=some (out,M'),⟨ds.length,by simp,xaS _,P1,Os,M,env,Lt.refl _ _,k,h⟩,?_⟩;rintro j m σ H ⟨rfl,hj,P,Os',M1,env',lt,k',h'⟩;obtain⟨w1,w2,w3⟩:=wk P H lt
 by_cases hlt:j<ds.length
 ·refine .inr ⟨w1 j hlt,fun σ' H'=>∃P Os' M1 env',Lt P1 H1 P H'/\Ok K mg P0 H0 P Os' H' M1 σ' env'/\loopS i b (ds.drop (j + 1)) env' M1=some (out,M'),fun σ' H' z=>⟨ds.length - (j + 1),by lia,rfl,hlt,z⟩,fun x H' y=>?_⟩;obtain⟨e3,d,ed,iv⟩:=w3 j x H' y hlt;subst e3;have ed':ds.drop j=d::ds.drop (j + 1):=by
   rw[xaO hlt];rw[xah hlt]at ed;rw[xaD ed]
  rw[ed']at h';simp only[loopS]at h';split at h'
  ·rename_i hi;have k2:=k'.asg hi iv;split at h'
   ·rename_i e M2 eb;exact⟨P0,H0,P,_,_,M1,_,_,k2,eb,fun P' Os2 H2 st2 l2 k3=>⟨P',Os2,_,e,lt.trans l2,k3,h'⟩⟩
   ·rename_i e M2 eb;exact⟨P0,H0,P,_,_,M1,_,_,k2,eb,fun P' Os2 H2 st2 l2 k3=>⟨P',Os2,_,e,lt.trans l2,k3,h'⟩⟩
   ·rename_i e M2 eb;cases h';exact⟨P0,H0,P,_,_,M1,_,_,k2,eb,fun P' Os2 H2 st2 l2 k3=>q P' Os2 H2 st2 (lt.trans l2) k3⟩
   ·rename_i e M2 eb;cases h';exact⟨P0,H0,P,_,_,M1,_,_,k2,eb,q⟩
   ·rename_i c n M2 eb;cases h';exact⟨P0,H0,P,_,_,M1,_,_,k2,eb,q⟩
   ·cases h'
  ·cases h'
 ·have ej:j=ds.length:=by lia
  subst ej;rw[xc7]at h';cases h';exact .inl ⟨w2 _ (xad _) (xad _),q P Os' H σ lt k'⟩
theorem DP (hp:PassesOwn (model X.prog X.w) X.A X.env X.xe)(hc:X.calm=true)(hN:X.N.Nodup)(hi:X.N[i]? =some x)(hx:Loc X.env.scope x)(hI:SI X Wx (.Name x p) iter fs)(hb:SB X Wx body b)
  (hf:X.fn x=true\/X.env.scope.names.lookup x=some .local:=by first |exact .inl rfl |exact .inr rfl) (hs:∀x,foldedSetIterable iter X.env x=pure x:=by intro _;rfl):SS X Wx (.For (.Name x p) iter body [] pos) (gw i fs b):=by
 refine gq (CG hp hc hI (zA hN hi hx hf) hb hs) ?_;rintro D st H ⟨P0,H0,P,Os,env,M,out,M',k,e,q⟩;unfold gw at e;split at e
 ·rename_i ds M1 ef;exact⟨P0,H0,P,Os,env,M,_,_,k,ef,fun P1 H1 J l1 h1 wk=>V2 (k.next l1 h1) wk e (q.lt (l1.lt k.hk))⟩
 ·rename_i c n M1 ef;cases e;exact⟨P0,H0,P,Os,env,M,_,_,k,ef,q⟩
 ·cases e
noncomputable def bR (f:E):EA:=fun env M=>match f env M with
 |some (.v (.lst ds),M1)=>some (.v ds,M1)
 |some (.x c n,M1)=>some (.x c n,M1)
 |_=>none
theorem pL (h:SE X Wx .val e f):SI X Wx tg e (bR f):=by
 refine O2 (Cz h) ?_;rintro st H R ⟨P0,H0,P,Os,env,M,r,M',k,e,q⟩;unfold bR at e;split at e
 ·rename_i ds M1 ef;cases e;refine⟨P0,H0,P,Os,env,M,_,_,k,ef,fun P1 v1 H1 l1 h1 i1=>?_⟩;obtain⟨a,vs,rfl,ra,is⟩:=i1;refine⟨a,rfl,⟨vs,ra.imp (·.2) id⟩,q P1 H1 _ l1 h1 fun P2 H2 l2=>?_⟩;have ra2:=l2.rda ra;have is2:=aC.lt l2 is;have sq:bI X.K H2 a vs:=ra2.imp (·.2) id;refine⟨fun j hj=>?_,fun j h1 h2=>⟨vs,sq,by rw[is2.len];exact h1⟩,fun j x H' y hj=>⟨y.1,?_⟩⟩
  ·obtain⟨v,ev,_⟩:=aC.get is2 (xah hj);exact⟨vs,v,sq,ev⟩
  ·obtain⟨v,ev,iv⟩:=aC.get is2 (xah hj);have:=y.2 vs sq;rw[ev]at this;cases this;exact⟨_,xah hj,iv⟩
 ·rename_i c n M1 ef;cases e;exact⟨P0,H0,P,Os,env,M,_,_,k,ef,q⟩
 ·cases e
end
abbrev G:=List D->Mm->O
noncomputable def mY (K:Fgx) (mg:Mgx) (n:Nat) (g:G):Sp:=fun vs H Q _=>vs.length=n/\∃P M ds d M',Hk K mg P H M/\aC K P H ds vs/\g ds M=some (.v d,M')/\∀P' v H',LtE P H P' H'->Hk K mg P' H' M'->Is K P' H' d v->Q v H'
noncomputable def cX (o:OS):O:=match o with
 |some (.rt d,M)=>some (.v d,M)
 |some (.nx _,M)=>some (.v .non,M)
 |some (.ex c n,M)=>some (.x c n,M)
 |_=>none
noncomputable def b_ (n:Nat) (b:S):G:=fun ds M=>cX (b (ds.map .val ++ List.replicate (n - ds.length) .un) M)
theorem za2 {K:Fgx}{mg:Mgx}{P:Pl}{H:Hp}{M:Mm}{N:List Str}{ds:List D}{vs:List V}(hk:Hk K mg P H M)(hl:vs.length<=N.length)(h:aC K P H ds vs):
  Ok K mg P H P (List.replicate N.length none) H M (L2.start N vs) (ds.map .val ++ List.replicate (N.length - ds.length) .un):=by
 have hd:=h.len;refine⟨hk,LtE.refl P H,hk.here,fun i s e=>?_,fun a z=>?_,fun i j a e1 _=>?_,by simp;lia,by simp[L2.start];lia⟩
 ·have e0:((List.replicate N.length (none:Option Addr))[i]?).join=none:=by
   rw[xa0]
   split<;>rfl
  rw[e0]
  by_cases hi:i<ds.length
  ·rw[xaH (by simpa using hi),xao,xah hi]at e;simp only[xbJ,xex]at e;subst e;obtain⟨v,ev,p⟩:=h.get (xah hi);refine⟨v,?_,p⟩;unfold L2.start;rw[xaH (by rw[xaf];lia),xao,ev];rfl
  ·rw[xas (by simpa using hi),xa0]at e;split at e
   ·cases e;exact True.intro
   ·cases e
 ·exact absurd (xdS z) (by simp)
 ·rw[xa0]at e1;split at e1<;>cases e1
structure FunD (K:Fgx)(x qual:Str)(st:Stmt)(f:Addr)(fd:FuncData):Prop where
 ex:∃(oc:Value) (od:Option Addr) (dV kV doc pm:Value) (an:Option Addr) (cdv ct:Value) (osl:Array (Option Value)),
  fd=PySem.W.fnOf x qual (bU st) (bL st) (aN st) dV kV doc pm an cdv ct/\K.lookup f=some ⟨oc,od,.func fd,osl⟩/\PySem.W.codeIn K cdv qual=true
 kp:PySem.W.keepIn K (.ref f)=true
theorem gJ {K:Fgx}{x qual:Str}{st:Stmt}{f:Addr}{oc:Value}{od an:Option Addr}{osl:Array (Option Value)}{dV kV doc pm cdv ct:Value}(l:K.lookup f=some ⟨oc,od,.func (PySem.W.fnOf x qual (bU st) (bL st) (aN st) dV kV doc pm an cdv ct),osl⟩)
  (c:PySem.W.codeIn K cdv qual=true) (k:PySem.W.keepIn K (.ref f)=true):FunD K x qual st f (PySem.W.fnOf x qual (bU st) (bL st) (aN st) dV kV doc pm an cdv ct):=⟨⟨oc,od,dV,kV,doc,pm,an,cdv,ct,osl,rfl,l,c⟩,k⟩
section
variable {P:Program}{w:World}{K:Fgx}{mg:Mgx}{base:Heap}{k:Nat}{x qual:Str}{st:Stmt}{f:Addr}{fd:FuncData}{N ps:List Str}{b:S}
def W0:XW:=fun _ _ _ _ _=>False
abbrev yq (P:Program)(w:World)(K:Fgx)(mg:Mgx)(base:Heap)(N:List Str)(qual:Str)(st:Stmt)(f:Addr)(cdv:Value)(A:Around)(outer:List PySem.Env)(s:Shared)(H:Hp)(E:XK):Cx:=(j5 fP P w K mg base N qual (aN st) f cdv A outer s H E).nox
theorem gH (F:FunD K x qual st f fd)(S:FnScope N ps (aN st))(hp:ps.length<=N.length)
  (hb:∀cdv A outer s H E,Room k (A.deeper (envOfC qual (aN st) s.heap.objs.size f cdv))->SB (yq P w K mg base N qual st f cdv A outer s H E) W0 (bL st) b):FnOk P w K mg base fP (k + 1) f fd ps (mY K mg ps.length (b_ N.length b)):=by
 obtain⟨oc,od,dV,kV,doc,pm,an,cdv,ct,osl,rfl,lk,hcd⟩:=F.ex;refine Ut lk hcd S (fun vs H Q E h=>h.1) fun A outer s H vs Q E hr h=>?_;obtain⟨hl,Pl,M,ds,d,M',hk,is,e,q⟩:=h;refine⟨_,gF.nox (hb cdv A outer s H E hr),?_⟩;unfold b_ cX at e;have st0:=za2 (N:=N) hk (by lia) is;split at e
 ·rename_i d' M2 eb;cases e;exact⟨Pl,H,Pl,_,_,M,_,_,st0,eb,fun P' v H' l h i=>q P' v H' l h i⟩
 ·rename_i env M2 eb;cases e;exact⟨Pl,H,Pl,_,_,M,_,_,st0,eb,fun P' Os' H' st' _ k'=>q P' .non H' k'.base k'.hk rfl⟩
 ·rename_i c n M2 eb;cases e
 ·cases e
def bH (P:Program)(w:World)(K:Fgx)(mg:Mgx)(base:Heap)(k:Nat)(f:Str)(n:Nat)(g:G):Prop:=
 ∃fa fd ps ds dvs sp,mg f=some (.ref fa)/\PySem.W.keepIn K (.ref fa)=true/\FnOk P w K mg base fP k fa fd ps sp/\Binds K fd ps ds/\Vals dvs ds/\∀vs H Q E,mY K mg n g vs H Q E->sp (vs ++ dvs) H Q E
theorem Us (F:FunD K x qual st f fd)(S:FnScope N ps (aN st))(hp:ps.length<=N.length)(hm:mg x=some (.ref f))(hd:Binds K fd ps [])
  (hb:∀cdv A outer s H E,Room k (A.deeper (envOfC qual (aN st) s.heap.objs.size f cdv))->SB (yq P w K mg base N qual st f cdv A outer s H E) W0 (bL st) b):bH P w K mg base (k + 1) x ps.length (b_ N.length b):=
 ⟨f,fd,ps,[],[],_,hm,F.kp,gH F S hp hb,hd,.nil,fun vs H Q E h=>by rw[xaE];exact h⟩
theorem bH.mono (a:bH P w K mg base j x n g)(h:j<=k):bH P w K mg base k x n g:=by
 obtain⟨fa,fd,ps,ds,dvs,sp,h1,h2,h3,h4⟩:=a;exact⟨fa,fd,ps,ds,dvs,sp,h1,h2,h3.mono h,h4⟩
end
section
variable {X:Cx}{Wx:XW}{m:Mode}
noncomputable def cg (g:G) (fs:EA):E:=fun env M=>cW (fs env M) fun ds M1=>match g ds M1 with
 |some (.v d,M2)=>some (.v d,M2)
 |_=>none
theorem cV.len {K:Fgx}{P:Pl}{H:Hp}:∀{ds:List D} {vs:List V},cV K P H m ds vs->vs.length=ds.length
  | [],_,h=>by rw[show _=[] from h];rfl
  |d::ds,_,h=>by
    obtain⟨v,r,e,_,q⟩:=h;subst e
    simp[cV.len q]
def sS (n:Nat)(fs:EA):Prop:=∀env M ds M',fs env M=some (.v ds,M')->ds.length=n
theorem cnt_nil:sS 0 aq:=fun env M ds M' e=>by cases e;rfl
theorem cnt_cons (h:sS n fs):sS (n + 1) (au f fs):=fun env M ds M' e=>by
 unfold au at e;split at e
 ·split at e
  ·rename_i ef;cases e;rw[xay,h _ _ _ _ ef]
  ·cases e
  ·cases e
 ·cases e
 ·cases e
theorem dF {k n:Nat}{f:Str}{g:G}{e:Expr}{es:List Expr}{fs:EA}{p pos:Pos}(a:bH X.prog X.w X.K X.mg X.base k f n g)(hr:Room k X.A)(hg:Gl X f)(ha:SA X Wx .val (e::es) fs)(hn:sS n fs)(hdb:(f==("__debug__":Str))=false:=by x_go)
  (he:starEach (e::es) X.env=(false,eval e X.env)::starEach es X.env:=by rfl) (hpl:(backTo pos (starEach es X.env)).any (·.1)=false:=by rfl):SE X Wx m (.Call (.Name f p) (e::es) [] pos) (cg g fs):=by
 obtain⟨fa,fd,ps,ds,dvs,sp,hm,hk,F,hb,hv,himp⟩:=a;refine cA (X3 F hr hg hm hk hb hv zu ha hdb he hpl) ?_;rintro st H Q ⟨P0,H0,P,Os,env,M,r,M',k,e,q⟩;unfold cg at e;rcases nA e with⟨ds,M1,e1,e⟩ |⟨c,n,e1,rfl⟩
 ·split at e
  ·rename_i d M2 eg;cases e;exact⟨P0,H0,P,Os,env,M,_,_,k,e1,fun P1 vs H1 l1 h1 i1=>himp _ _ _ _ ⟨by rw[i1.len];exact hn _ _ _ _ e1,P1,M1,ds,d,_,h1,i1.iss,eg,fun P2 v H2 l2 h2 i2=>q P2 v H2 (l1.trans l2) h2 (cR.of h2 i2)⟩⟩
  ·cases e
 ·exact⟨P0,H0,P,Os,env,M,_,_,k,e1,q⟩
end
def xU (i j:Int):Prop:=m_ i j\/(i.natAbs.log2<10000/\j.natAbs.log2<10000)
theorem Km (h:i.natAbs.log2<10000):Builtin.Int.intBits i<=10001:=by
 unfold Builtin.Int.intBits
 split<;>lia
theorem xU.ok (h:xU i j):IntMulOk i j:=by
 rcases h with h |⟨h1,h2⟩
 ·exact h.ok
 ·exact mulOk_of_bits (Km h1) (Km h2) (by decide)
theorem Ou:bM X (binaryOp .Mult) (rI xU fun i j=>.int (i * j)):=Cr fun _ _ _ _ _ _ _ hc q=>mul_int q hc.ok
section
variable {X:Cx}{pins:Pnx}{σ:L2.St}{H:Hp}{s:Shared}{K:Fgx}
noncomputable def Ph (K:Fgx):R2:=fun x y H Q=>∃l b xs zs,x=.ref l/\y=.ref b/\bI K H l xs/\bI K H b zs/\xs.length + zs.length<=sizeLine/\∀p,H p=none->Q (.ref p) (upd H p (.lst (xs ++ zs)))
theorem Xj:bM X (binaryOp .Add) (Ph X.K):=by
 intro pins s σ H x y v u Q I rx ry h;obtain⟨l,b,xs,zs,rfl,rfl,hH,hB,hz,q⟩:=h;cases rx;cases ry;obtain⟨z,its,r,⟨cls,dd,data,sl⟩,ho,hc,n,hd⟩:=sql I hH;obtain⟨z2,its2,r2,⟨cls2,dd2,data2,sl2⟩,ho2,hc2,n2,hd2⟩:=sql I hB;simp only at hc hd hc2 hd2;subst hc hd hc2 hd2;have hl:=r.length;have hl2:=r2.length;refine concat_meets ⟨_,ho,rfl⟩ ⟨_,ho2,rfl⟩ noFill_list_add seq_list_add F.slot_list_add F.entry_list_add (F.args_list_add_2 _ _) (list_addW l b its.toArray its2.toArray n n2 dd dd2 sl sl2 (by rw[xam,xam];lia)) ⟨ho,ho2,?_⟩;have ea:its.toArray ++ its2.toArray=(its ++ its2).toArray:=by simp
 rw[ea];exact⟨.ref _,_,I.lnew (t':=s.toks) (r.append r2) (by rw[xaj];lia),rfl,q _ I.fresh⟩
theorem Oh {P:Pl}{H:Hp}{ds:List D}{vs:List V}{Q:VK}(hn:∀p,H p=none->¬ P.bd p)(h:aC K P H ds vs)(q:∀u H',Same H H'->Is K P H' (.lst ds) u->Q u H'):∀p,H p=none->Q (.ref p) (upd H p (.lst vs)):=fun p hp=>by
 have s:=rZ (o:=.lst vs) hp;exact q _ _ s ⟨p,vs,rfl,.inl ⟨hn p hp,.inl dw⟩,aC.lt ⟨xad _,fun _ _=>rfl,fun _ z=>.inl z,fun a o e _=>s a o e,fun a z=>s.free z⟩ h⟩
theorem Wf {P:Pl}{H:Hp}{ds:List D}{vs:List V}{Q:VK}(h:aC K P H ds vs)(q:∀u H',Same H H'->Is K P H' (.tup ds) u->Q u H'):∀p,H p=none->Q (.ref p) (upd H p (.tup vs)):=fun p hp=>by
 have s:=rZ (o:=.tup vs) hp;exact q _ _ s ⟨p,vs,rfl,.inl (.inl dw),aC.lt ⟨xad _,fun _ _=>rfl,fun _ z=>.inl z,fun a o e _=>s a o e,fun a z=>s.free z⟩ h⟩
noncomputable def aW:D->D->Option D
 |.int i,.int j=>some (.int (i + j))
 |.str i,.str j=>if i.length + j.length<=sizeLine then some (.str (i ++ j)) else none
 |.lst xs,.lst ys=>if xs.length + ys.length<=sizeLine then some (.lst (xs ++ ys)) else none
 |_,_=>none
noncomputable def tY (K:Fgx):R2:=fun x y H Q=>gU (fun i j=>.int (i + j)) x y H Q\/(∃i j,x=.str i/\y=.str j/\i.length + j.length<=sizeLine/\Q (.str (i ++ j)) H)\/Ph K x y H Q
theorem dR:bM X (binaryOp .Add) (tY X.K):=Xg.or (Xh.or Xj)
theorem dU:gZ K (tY K) aW:=fun P H d e z v w Q h h1 h2 hn q=>by
 unfold aW at h;split at h
 ·cases h;cases h1;cases h2;exact .inl ⟨_,_,rfl,rfl,q _ H (Same.refl H) rfl⟩
 ·split at h
  ·rename_i hl;cases h;cases h1;cases h2;exact .inr (.inl ⟨_,_,rfl,rfl,hl,q _ H (Same.refl H) rfl⟩)
  ·cases h
 ·split at h
  ·rename_i hl;cases h;obtain⟨a,vs,rfl,r1,s1⟩:=h1;obtain⟨b,ws,rfl,r2,s2⟩:=h2;exact .inr (.inr ⟨a,b,vs,ws,rfl,rfl,r1,r2,by rw[s1.len,s2.len];exact hl,Oh hn (s1.append s2) q⟩)
  ·cases h
 ·cases h
noncomputable def oI (g:Int->Int->Option D):D->D->Option D
 |.int i,.int j=>g i j
 |_,_=>none
theorem yZ (h:oI g d e=some z)(h1:bQ K P H d v)(h2:bQ K P H e w):∃i j,v=.int i/\w=.int j/\g i j=some z:=by
 unfold oI at h;split at h
 ·cases h1;cases h2;exact⟨_,_,rfl,rfl,h⟩
 ·cases h
def dN:=oI fun i j=>some (.int (i - j))
theorem xu:gZ K (gU fun i j=>.int (i - j)) dN:=fun P H d e z v w Q h h1 h2 _ q=>by
 obtain⟨i,j,rfl,rfl,h⟩:=yZ h h1 h2;cases h;exact⟨i,j,rfl,rfl,q _ H (Same.refl H) rfl⟩
noncomputable def gk:=oI fun i j=>if i.natAbs<18446744073709551616\/j.natAbs<18446744073709551616\/(i.natAbs.log2<10000/\j.natAbs.log2<10000) then some (.int (i * j)) else none
theorem O9:gZ K (rI xU fun i j=>.int (i * j)) gk:=fun P H d e z v w Q h h1 h2 _ q=>by
 obtain⟨i,j,rfl,rfl,h⟩:=yZ h h1 h2;split at h
 ·rename_i hg;cases h;exact⟨i,j,rfl,rfl,by unfold xU m_;rw[show(2:Int) ^ 64=18446744073709551616 from rfl];exact hg.elim (fun z=>.inl (.inl ⟨by lia,by lia⟩)) (fun z=>z.elim (fun z=>.inl (.inr ⟨by lia,by lia⟩)) .inr),q _ H (Same.refl H) rfl⟩
 ·cases h
noncomputable def lq:=oI fun i j=>if 0<j/\j.natAbs<1073741824 then some (.int (i / j)) else none
theorem xq:gZ K (rI xT fun i j=>.int (i / j)) lq:=fun P H d e z v w Q h h1 h2 _ q=>by
 obtain⟨i,j,rfl,rfl,h⟩:=yZ h h1 h2;split at h
 ·rename_i hg;cases h;exact⟨i,j,rfl,rfl,⟨hg.1,by lia⟩,q _ H (Same.refl H) rfl⟩
 ·cases h
def oMod:=oI fun i j=>if 0<j then some (.int (i % j)) else none
theorem mQ:gZ K (rI (fun _ j=>0<j) fun i j=>.int (i % j)) oMod:=fun P H d e z v w Q h h1 h2 _ q=>by
 obtain⟨i,j,rfl,rfl,h⟩:=yZ h h1 h2;split at h
 ·rename_i hg;cases h;exact⟨i,j,rfl,rfl,hg,q _ H (Same.refl H) rfl⟩
 ·cases h
noncomputable def cO:=oI fun i j=>if 0<=j/\j.natAbs<=1000000/\i.natAbs<18446744073709551616 then some (.int (i ^ j.toNat)) else none
theorem CK:gZ K (rI sO fun i j=>.int (i ^ j.toNat)) cO:=fun P H d e z v w Q h h1 h2 _ q=>by
 obtain⟨i,j,rfl,rfl,h⟩:=yZ h h1 h2;split at h
 ·rename_i hg;cases h;exact⟨i,j,rfl,rfl,by unfold sO;rw[show(2:Nat) ^ 64=18446744073709551616 from rfl];exact⟨hg.1,by lia,hg.2.2⟩,q _ H (Same.refl H) rfl⟩
 ·cases h
def aG (c:Cp)(a b:D):Option D:=(cH c a b).map .bl
theorem zE:gZ K (zG K c) (aG c):=fun P H d e z v w Q h h1 h2 _ q=>by
 unfold aG at h;rw[xak]at h;obtain⟨b,h,rfl⟩:=h;exact Ba h h1 h2 (q _ H (Same.refl H) rfl)
noncomputable def aH:D->D->Option D
 |.lst ds,.int i=>cL ds i
 |.tup ds,.int i=>cL ds i
 |.str z,.int i=>if z.length<=sizeLine then(cL z.cps.toList i).map fun c=>.str ⟨#[c]⟩ else none
 |_,_=>none
noncomputable def Ij (K:Fgx):R2:=fun x y H Q=>tZ K x y H Q\/uc K x y H Q\/t_ x y H Q
theorem Vn:mC X (Ij X.K):=Vo.or (Vq.or Vp)
theorem Kd (h:cL ds i=some d)(q:aC K P H ds vs):∃u,cL vs i=some u/\Is K P H d u:=by
 unfold cL at h ⊢;rw[q.len]
 cases e:kj ds.length i with
 |none=>rw[e]at h;cases h
 |some j=>rw[e]at h;exact q.get h
theorem YS:gZ K (Ij K) aH:=fun P H d e z v w Q h h1 h2 _ q=>by
 unfold aH at h;split at h
 ·obtain⟨a,vs,rfl,r,s⟩:=h1;cases h2;obtain⟨u,e,p⟩:=Kd h s;exact .inl ⟨a,vs,_,u,rfl,rfl,r,e,q _ H (Same.refl H) p⟩
 ·obtain⟨a,vs,rfl,r,s⟩:=h1;cases h2;obtain⟨u,e,p⟩:=Kd h s;exact .inr (.inl ⟨a,vs,_,u,rfl,rfl,r,e,q _ H (Same.refl H) p⟩)
 ·split at h
  ·rename_i hl;rw[xak]at h;obtain⟨c,h,e⟩:=h;cases e;cases h1;cases h2;exact .inr (.inr ⟨_,_,c,rfl,rfl,hl,h,q _ H (Same.refl H) rfl⟩)
  ·cases h
 ·cases h
noncomputable def fB:List D->Option D
 | [.lst ds]=>some (.int ds.length)
 | [.tup ds]=>some (.int ds.length)
 | [.str z]=>if z.length<=sizeLine then some (.int z.length) else none
 |_=>none
def zH (K:Fgx):List V->Hp->VK->Prop:=fun xs H Q=>(∃p ys,xs=[.ref p]/\(bI K H p ys\/d7 K H p ys)/\Q (.int ys.length) H)\/∃z,xs=[.str z]/\z.length<=sizeLine/\Q (.int z.length) H
theorem A_:dz X (.builtin "len") (zH X.K):=S9.or S_
theorem CJ:lF K (zH K) fB:=fun P H ds z vs Q h i _ q=>by
 unfold fB at h;split at h
 ·obtain⟨v,ws,rfl,p,rfl⟩:=i;cases h;obtain⟨a,us,rfl,r,s⟩:=p;exact .inl ⟨a,us,rfl,.inl r,q _ H (Same.refl H) (by rw[s.len];rfl)⟩
 ·obtain⟨v,ws,rfl,p,rfl⟩:=i;cases h;obtain⟨a,us,rfl,r,s⟩:=p;exact .inl ⟨a,us,rfl,.inr r,q _ H (Same.refl H) (by rw[s.len];rfl)⟩
 ·split at h
  ·rename_i hl;obtain⟨v,ws,rfl,p,rfl⟩:=i;cases h;cases p;exact .inr ⟨_,rfl,hl,q _ H (Same.refl H) rfl⟩
  ·cases h
 ·cases h
noncomputable def h_:List D->Option D
 | [.int i,.int j]=>some (.int (if j<i then j else i))
 |_=>none
noncomputable def lJ:List D->Option D
 | [.int i,.int j]=>some (.int (if j > i then j else i))
 |_=>none
theorem HW:lF K (fun xs H Q=>∃i j,xs=[.int i,.int j]/\Q (.int (if j<i then j else i)) H) h_:=fun P H ds z vs Q h i _ q=>by
 unfold h_ at h;split at h
 ·obtain⟨v,ws,rfl,p,v',ws',rfl,p',rfl⟩:=i;cases h;cases p;cases p';exact⟨_,_,rfl,q _ H (Same.refl H) rfl⟩
 ·cases h
theorem O7:lF K (fun xs H Q=>∃i j,xs=[.int i,.int j]/\Q (.int (if j > i then j else i)) H) lJ:=fun P H ds z vs Q h i _ q=>by
 unfold lJ at h;split at h
 ·obtain⟨v,ws,rfl,p,v',ws',rfl,p',rfl⟩:=i;cases h;cases p;cases p';exact⟨_,_,rfl,q _ H (Same.refl H) rfl⟩
 ·cases h
end
section
variable {X:Cx}{Wx:XW}{m:Mode}
noncomputable def z_:D->String
 |.non=>"NoneType"
 |.bl _=>"bool"
 |.int _=>"int"
 |.str _=>"str"
 |.tup _=>"tuple"
 |.lst _=>"list"
 |.ref _=>""
theorem S7:dz X (.builtin "isinstance") (fun xs H Q=>∃(x:V) (T:String) (d:D) (P:Pl) (b:Bool),xs=[x,.ty T]/\bQ X.K P H d x/\z_ d≠""/\PySem.W.kitOne X.K (.type (z_ d)) (.type T)=some b/\Q (.bl b) H):=by
  intro pins s σ H xs us Q I r h;obtain⟨x,T,d,A,b,rfl,i,ne,e,q⟩:=h;obtain⟨u,w',rfl,rx,rT⟩:=vals2 r;cases rT;have fin:∀tk,EP X pins σ Q (.bool b) {s with toks:=tk}:=fun tk=>⟨.bl b,H,I.tok _,rfl,q⟩
  cases d with
  |non=>have hv:x=.non:=i;subst hv;exact Bq I rx (TyOf.non) e fin
  |bl y=>have hv:x=.bl y:=i;subst hv;exact Bq I rx (TyOf.bl y) e fin
  |int y=>have hv:x=.int y:=i;subst hv;exact Bq I rx (TyOf.int y) e fin
  |str y=>have hv:x=.str y:=i;subst hv;exact Bq I rx (TyOf.str y) e fin
  |ref n=>exact absurd rfl ne
  |tup ds=>
    obtain⟨a,vs,rfl,t,_⟩:=i;cases rx;obtain⟨its,_,p,_⟩:=I.tuple t;obtain⟨o,h1,h2,_⟩:=p;exact xaY xer I.kIn ⟨o,h1,h2⟩ e (fun z=>nomatch z) fin
  |lst ds=>
    obtain⟨a,vs,rfl,t,_⟩:=i;cases rx;obtain⟨_,its,_,o,h1,h2,_⟩:=sql I t;exact xaY xdJ I.kIn ⟨o,h1,h2⟩ e (fun z=>nomatch z) fin
theorem zaX {K:Fgx}{P:Pl}{H:Hp}{lo:Int}{n:Nat}:Wk K P H (Ac lo n) ((List.range n).map fun(k:Nat)=>.int (lo + k)):=fun P' H' l=>by
 rw[xaf,xbS];refine⟨fun k hk=>hk,fun k h1 _=>h1,fun k x H2 y hk=>⟨y.1,.int (lo + k),?_,y.2⟩⟩;rw[xao,List.getElem?_range hk];rfl
noncomputable def wU (fs:EA):EA:=fun env M=>match fs env M with
 |some (.v [.int j],M1)=>if -1000000000<=j/\j<=1000000000 then some (.v ((List.range j.toNat).map fun(k:Nat)=>.int (0 + k)),M1) else none
 |some (.x c n,M1)=>some (.x c n,M1)
 |_=>none
theorem zbE (hg:Gl X "range")(hm:X.mg "range"=none)(ha:SA X Wx .val [a] fs)(hs:starEach [a] X.env=[(false,eval a X.env)]:=by rfl):SI X Wx tg (.Call (.Name "range" p) [a] [] pos) (wU fs):=by
 refine O2 (Yr hg hm ha hs) ?_;rintro st H R ⟨P0,H0,P,Os,env,M,r,M',k,e,q⟩;unfold wU at e;split at e
 ·rename_i j M1 ef;split at e
  ·rename_i hj;cases e;refine⟨P0,H0,P,Os,env,M,_,_,k,ef,fun P1 vs H1 l1 h1 i1=>?_⟩;obtain⟨v,ws,rfl,p,rfl⟩:=i1;exact⟨j,by rw[show v=.int j from p],by lia,by lia,q P1 H1 _ l1 h1 zaX⟩
  ·cases e
 ·rename_i c n M1 ef;cases e;exact⟨P0,H0,P,Os,env,M,_,_,k,ef,q⟩
 ·cases e
def xg:Env->Mm->Option (Option Int×Mm):=fun _ M=>some (none,M)
noncomputable def pA (f:E):Env->Mm->Option (Option Int×Mm):=fun env M=>match f env M with
 |some (.v (.int i),M1)=>some (some i,M1)
 |_=>none
noncomputable def tP (K:Fgx) (mg:Mgx) (f:Env->Mm->Option (Option Int×Mm)):TO:=fun st H Q=>∃P0 H0 P Os env M i M',Ok K mg P0 H0 P Os H M st env/\f env M=some (i,M')/\∀P' H',LtE P H P' H'->Hk K mg P' H' M'->Q i H'
def wz (X:Cx)(e:Option Expr)(f:Env->Mm->Option (Option Int×Mm)):Prop:=PO X e (tP X.K X.mg f)
theorem O5 (h:PO X e t)(w:∀σ H Q,t' σ H Q->t σ H Q):PO X e t':=fun pins s σ H Q I hw=>h pins s σ H Q I (w σ H Q hw)
theorem Jk:wz X none xg:=by
 refine O5 Yw ?_;rintro st H Q ⟨P0,H0,P,Os,env,M,i,M',k,e,q⟩;cases e;exact q P H (LtE.refl P H) k.hk
theorem zT (h:SE X Wx .val e f):wz X (some e) (pA f):=by
 refine O5 (Yx h) ?_;rintro st H Q ⟨P0,H0,P,Os,env,M,i,M',k,e,q⟩;unfold pA at e;split at e
 ·rename_i j M1 ef;cases e;exact⟨P0,H0,P,Os,env,M,_,_,k,ef,fun P1 v H1 l1 h1 i1=>⟨j,i1,q P1 H1 l1 h1⟩⟩
 ·cases e
noncomputable def dM {α:Type} (xs:List α) (lo hi:Option Int):List α:=(xs.drop (HT.bw xs.length 0 lo)).take (HT.bw xs.length xs.length hi - HT.bw xs.length 0 lo)
theorem K6 {K:Fgx}{P:Pl}{H:Hp}{ds:List D}{vs:List V}{lo hi:Option Int}(q:aC K P H ds vs):aC K P H (dM ds lo hi) (fJ vs lo hi):=by
 unfold dM fJ;rw[q.len];exact(q.drop _).take _
noncomputable def xP (d:D) (lo hi:Option Int):Option D:=match d with
 |.lst ds=>some (.lst (dM ds lo hi))
 |.str z=>if z.length<=sizeLine then some (.str (Txt.slice z lo hi)) else none
 |_=>none
noncomputable def xK (f:E) (l h:Env->Mm->Option (Option Int×Mm)):E:=fun env M=>bnd (f env M) fun d M1=>match l env M1 with
  | some (lo, M2) => (match h env M2 with
    |some (hi,M3)=>(xP (vw M3 d) lo hi).map fun z=>(.v z,M3)
    |none=>none)
  |none=>none
theorem Jf {e:Expr}{lo hi:Option Expr}{p2 pos:Pos}{f:E}{l h:Env->Mm->Option (Option Int×Mm)}(he:SE X Wx .bor e f)(hl:wz X lo l)(hh:wz X hi h):SE X Wx m (.Subscript e (.Slice lo hi none p2) pos) (xK f l h):=by
 refine cA (OJ (zbr.or zcy) he hl hh) ?_;rintro st H Q ⟨P0,H0,P,Os,env,M,r,M',k,e,q⟩;unfold xK at e;rcases cG e with⟨d,M1,e1,e⟩ |⟨c,n,e1,rfl⟩
 ·split at e
  ·rename_i lo' M2 el;split at e
   ·rename_i hi' M3 eh;rw[xak]at e;obtain⟨z,ez,e⟩:=e;cases e;refine bf k e1 fun P1 v1 H1 l1 h1 i1=>⟨P0,H0,P1,Os,env,M1,_,_,k.next l1 h1,el,fun P2 H2 l2 h2=>⟨P0,H0,P2,Os,env,M2,_,_,(k.next l1 h1).next l2 h2,eh,fun P3 H3 l3 h3=>?_⟩⟩
    have i3:=cF.vw h3 (cF.lt l3 h2 (cF.lt l2 h1 i1));have fin:∀u H',Same H3 H'->Is X.K P3 H' z u->Q u H':=fun u H' s i=>q P3 u H' (l1.trans (l2.trans (l3.trans (LtE.same s)))) (h3.same s) (cR.of (h3.same s) i);generalize vw M' d=d' at i3 ez;unfold xP at ez;split at ez
    ·cases ez;obtain⟨a,vs,rfl,r,s⟩:=i3;exact .inl ⟨a,vs,rfl,r,Oh h3.new (K6 s) fin⟩
    ·split at ez
     ·rename_i hz;cases ez;cases i3;exact .inr ⟨_,rfl,hz,fin _ _ (Same.refl _) rfl⟩
     ·cases ez
    ·cases ez
   ·cases e
  ·cases e
 ·exact bf k e1 q
noncomputable def rE (f:E):E:=fun env M=>bnd (f env M) fun d M1=>match d with
 |.lst ds=>some (.v (.ref M1.length),M1 ++ [.lst ds])
 |_=>none
theorem zO (h:SN X Wx e f):SE X Wx m e (rE f):=by
  refine cA h ?_;rintro st H Q ⟨P0,H0,P,Os,env,M,r,M',k,e,q⟩;unfold rE at e;rcases cG e with⟨d,M1,e1,e⟩ |⟨c,n,e1,rfl⟩
  · cases d<;>simp only[reduceCtorEq]at e
    rename_i ds;cases e;refine⟨P0,H0,P,Os,env,M,_,_,k,e1,ds,rfl,fun P1 a vs H1 l1 h1 ha ba nc ea is=>?_⟩;have hn:P1.n=M1.length:=h1.n
    let P2:Pl:={io:=fun j=>if j=P1.n then a else P1.io j,n:=P1.n + 1,bd:=P1.bd}
    have io : ∀ j, j < P1.n -> P2.io j = P1.io j := fun j hj => xae (by lia);have ioN : P2.io P1.n = a := xac rfl;have l2 : Lt P1 H1 P2 H1 := ⟨xcW _, io, fun _ z => .inl z, fun _ _ e _ => e, fun _ z => z⟩;have le : LtE P H P2 H1 := ⟨xcR l1.n,fun j hj=>(io j (xap hj l1.n)).trans (l1.io j hj),l1.bd,l1.bm,l1.keep,l1.sure,fun j h2 h3=>by
      rcases xa8 j P1.n with z |z
      · rw[io j z];exact l1.nw j h2 z
      · have:j=P1.n:=xbr (xbf h3) z;rw[this,ioN];exact ha⟩
    have hk2:Hk X.K X.mg P2 H1 (M1 ++ [.lst ds]):=by
      refine⟨by rw[xaj, <-hn];rfl,fun j c ej=>?_,fun i j hi hj e=>?_,fun j hj=>?_,h1.here⟩
      · rcases xa8 j P1.n with z |z
        · rw[xaH (by rw[<-hn];exact z)]at ej;rw[io j z];exact(h1.cell j c ej).lt l2 fun _ z=>z
        · have jl:=(xaz.mp ej).1;rw[xaj,xaA, <-hn]at jl;have:j=P1.n:=by lia
          subst this;rw[xas (by rw[hn];exact xad _),hn,xbN]at ej;cases ej;rw[ioN];exact⟨vs,ea,aC.lt l2 is⟩
      · rcases xa8 i P1.n with z |z
        · rcases xa8 j P1.n with y |y
          · rw[io i z,io j y]at e;exact h1.inj i j z y e
          · have:j=P1.n:=xbr (xbf hj) y;rw[io i z,this,ioN]at e;exact absurd e (nc i z)
        · have iN:i=P1.n:=xbr (xbf hi) z;rcases xa8 j P1.n with y |y
          · rw[iN,ioN,io j y]at e;exact absurd e.symm (nc j y)
          · rw[iN];exact xbr y (xbf hj)
      · rcases xa8 j P1.n with z |z
        · rw[io j z];exact h1.bd j z
        · have:j=P1.n:=xbr (xbf hj) z;rw[this,ioN];exact ba
    exact q P2 _ H1 le hk2 (cR.of hk2 (show Is _ _ _ (.ref _) _ from⟨by show _<P1.n + 1;rw[hn];exact xba _,by rw[<-hn,ioN]⟩))
  · exact⟨P0,H0,P,Os,env,M,_,_,k,e1,q⟩
noncomputable def fW (f g:E):S:=fun env M=>bJ (f env M) fun d M1=>match d with
  | .ref j => (match M1[j]? with
    | some (.lst _) => bJ (g env M1) fun y M2 => (match M2[j]? with
      |some (.lst ds)=>if ds.length<sizeLine then some (.nx env,M2.set j (.lst (ds ++ [y]))) else none
      |_=>none)
    |_=>none)
  |_=>none
theorem DN (ho:SE X Wx .val o f)(he:SE X Wx .val e g)(hbase:attributeBase o "append" X.env (eval o X.env)=eval o X.env:=by rfl)
  (hfew:((backTo q (starEach [e] X.env)).all (fun x=> !x.1) && (backToKw q (keywordEach [] X.env)).all (fun x=>x.1.isSome) && decide ([e].length + ([]:List Keyword).length + (if ([]:List Keyword).isEmpty then 0 else 1)<30))=true:=by rfl)
  (hline:(p.endLine==q.line)=true:=by rfl) (hs:starEach [e] X.env=(false,eval e X.env)::starEach [] X.env:=by rfl) (hw:swapsWith (.Call (.Attribute o "append" p) [e] [] q) none pos.line X.env=pure false:=by rfl):
  SS X Wx (.Expr (.Call (.Attribute o "append" p) [e] [] q) pos) (fW f g):=by
 refine gq (HJ (Hz xdW xdQ xdR Hf ho (pB he rD hs) hbase hfew hline hs rfl) hw) ?_;rintro D st H ⟨P0,H0,P,Os,env,M,out,M',k,e,q⟩;unfold fW at e;rcases fQ e with⟨d,M1,e1,e⟩ |⟨c,n,e1,rfl⟩
 ·cases d<;>simp only[reduceCtorEq]at e
  rename_i j;split at e
  rotate_left
  ·cases e
  rename_i ds0 em0;refine⟨P0,H0,P,Os,env,M,_,_,k,e1,fun P1 v1 H1 l1 h1 i1=>?_⟩;have k1:=k.next l1 h1
  obtain⟨jl,rfl⟩:j<P1.n/\v1=.ref (P1.io j):=i1;obtain⟨vs0,ev0,_⟩:=h1.cell j _ em0;refine⟨.inl ⟨rfl,vs0,.inl (.inl ev0)⟩,?_⟩;rcases fQ e with⟨y,M2,e2,e⟩ |⟨c,n,e2,rfl⟩
  ·split at e
   ·rename_i ds em;split at e
    ·rename_i hz;cases e;refine bf k1 e2 fun P2 v2 H2 l2 h2 i2=>?_;obtain⟨vs,ev,is⟩:=h2.cell j _ em;rw[l2.io j jl]at ev;have i3:=Is.lt (Lt.refl P2 H2) i2;refine⟨P1.io j,vs,v2,rfl,rfl,ev,by rw[is.len];exact hz,?_⟩;have eio:P2.io j=P1.io j:=l2.io j jl;have jl2:j<P2.n:=xap jl l2.n;obtain⟨o0,eo0,nf0⟩:=h2.cellAt em;have lc:Lt P2 H2 P2 (upd H2 (P2.io j) (.lst (vs ++ [v2]))):=wV (h2.bd j jl2) eo0 nf0;obtain⟨l3,l3e,h3⟩:=h2.set (c':=.lst (ds ++ [y])) (o':=.lst (vs ++ [v2])) em ⟨vs ++ [v2],dw,aC.append (aC.lt lc is) (aC.one (Is.lt lc i2))⟩;rw[eio]at l3 l3e h3;exact q _ _ _ _ ((l1.lt k.hk).trans ((l2.lt h1).trans l3)) ((k1.next l2 h2).next l3e h3)
    ·cases e
   ·cases e
  ·exact bf k1 e2 q
 ·exact⟨P0,H0,P,Os,env,M,_,_,k,e1,q⟩
end
section
variable {X:Cx}{Wx:XW}{m:Mode}{pos:Pos}
noncomputable def bY:D->Option D
 |.int i=>some (.int (-i))
 |_=>none
theorem tX {K:Fgx}:Ep K (rU fun i=>.int (-i)) bY:=fun P H d z v Q h i _ q=>by
 unfold bY at h;split at h
 ·cases h;cases i;exact⟨_,rfl,q _ H (Same.refl H) rfl⟩
 ·cases h
theorem u6 (ho:Af X (unaryOp op) r)(po:Ep X.K r o)(ha:SE X Wx .bor a f):SE X Wx m (.UnaryOp op a pos) (s1 o f):=
 cA (Ym ho ha) fun _ _ _ h=>zcX po h
noncomputable def fM (c c':Cp) (f g h:E):E:=fun env M=>bnd (f env M) fun x M1=>bnd (g env M1) fun y M2=>match cH c (vw M2 x) (vw M2 y) with
 |some true=>bnd (h env M2) fun z M3=>(cH c' (vw M3 y) (vw M3 z)).map fun b=>(.v (.bl b),M3)
 |some false=>some (.v (.bl false),M2)
 |none=>none
theorem Tr {c c':Cp}{f g h:E}{st:L2.St}{H:Hp}{Q:VK}(w:tE X.K X.mg Wx m (fM c c' f g h) st H Q):Ra (zG X.K c) (zG X.K c') (tE X.K X.mg Wx .bor f) (tE X.K X.mg Wx .bor g) (tE X.K X.mg Wx .bor h) st H Q:=by
  obtain⟨P0,H0,P,Os,env,M,rr,M',k,e,q⟩:=w;unfold fM at e;rcases cG e with⟨x,M1,e1,e⟩ |⟨c,n,e1,rfl⟩
  · refine bf k e1 fun P1 v1 H1 l1 h1 i1=>?_;have k1:=k.next l1 h1
    rcases cG e with⟨y,M2,e2,e⟩ |⟨c,n,e2,rfl⟩
    · refine bf k1 e2 fun P2 v2 H2 l2 h2 i2=>?_;have k2:=k1.next l2 h2
      have w1:=cF.vw h2 (cF.lt l2 h1 i1);have w2:=cF.vw h2 i2;split at e
      · rename_i ec;refine Ba ec w1 w2 ⟨true,rfl,?_⟩;rw[xac rfl];rcases cG e with⟨z,M3,e3,e⟩ |⟨c,n,e3,rfl⟩
        · refine bf k2 e3 fun P3 v3 H3 l3 h3 i3=>?_;rw[xak]at e;obtain⟨b,eb,e⟩:=e;cases e;exact Ba eb (cF.vw h3 (cF.lt l3 h2 i2)) (cF.vw h3 i3) (q P3 _ H3 (l1.trans (l2.trans l3)) h3 (cR.of h3 (show Is _ _ _ (.bl b) _ from rfl)))
        · exact bf k2 e3 q
      · rename_i ec;cases e;refine Ba ec w1 w2 ⟨false,rfl,?_⟩;rw[xae (by decide)];exact q P2 _ H2 (l1.trans l2) h2 (cR.of h2 (show Is _ _ _ (.bl false) _ from rfl))
      · cases e
    · exact bf k1 e2 q
  · exact bf k e1 q
theorem zcd (hu:X.A.units + 60<cLine)(ha:SE X Wx .bor a f)(hb:SE X Wx .bor b g)(hc:SE X Wx .bor c h)(hm:lastMarks [tB c1,tB c2] [b,c]=false:=by with_unfolding_all rfl):SE X Wx m (.Compare a [tB c1,tB c2] [b,c] pos) (fM c1 c2 f g h):=
 cA (X4 (tK hu c1) (tK hu c2) ha hb hc hm) fun _ _ _ w=>Tr w
noncomputable def CW (f:E):E:=fun env M=>bnd (f env M) fun d M1=>match vw M1 d with
 |.lst ds=>some (.v (.lst ds),M1)
 |.tup ds=>some (.v (.lst ds),M1)
 |_=>none
theorem zbl (hg:Gl X "list")(hm:X.mg "list"=none)(he:SE X Wx .bor e f)(hs:starEach [e] X.env=(false,eval e X.env)::starEach [] X.env:=by rfl):SN X Wx (.Call (.Name "list" p) [e] [] pos) (CW f):=by
 refine cA (HD Tc hg hm boot_list (pB he rD hs) (by x_go) (by x_go) hs rfl) ?_;rintro st H Q ⟨P0,H0,P,Os,env,M,r,M',k,e,q⟩;unfold CW at e;rcases cG e with⟨d,M1,e1,e⟩ |⟨c,n,e1,rfl⟩
 ·refine bf k e1 ?_;have key:∀ds,r=.v (.lst ds)->M'=M1->(∀P1 v1 H1,bQ X.K P1 H1 (vw M1 d) v1->∃a vs,v1=.ref a/\(bI X.K H1 a vs\/d7 X.K H1 a vs)/\aC X.K P1 H1 ds vs)->∀P1 v1 H1,LtE P H P1 H1->Hk X.K X.mg P1 H1 M1->cR X.K P1 H1 .bor d v1->
    ∃p ys,[v1]=[V.ref p]/\(bI X.K H1 p ys\/d7 X.K H1 p ys)/\∀l,H1 l=none->Q (.ref l) (upd H1 l (.lst ys)):=by
   rintro ds rfl rfl hv P1 v1 H1 l1 h1 i1;obtain⟨ds',e',q⟩:=q;cases e';obtain⟨a,vs,rfl,sq,is⟩:=hv P1 v1 H1 (cF.vw h1 i1);refine⟨a,vs,rfl,sq,fun p hp=>?_⟩;obtain⟨l2,h2,nc⟩:=sW (vs:=vs) h1 hp;exact q (P1.bar p) p vs _ (l1.trans l2) h2 (l1.sure p hp) (.inr rfl) nc dw (aC.lt (l2.lt h1) is)
  split at e
  ·rename_i ds ev;cases e;exact key ds rfl rfl fun P1 v1 H1 i=>by
    rw[ev]at i;obtain⟨a,vs,e,s,is⟩:=i;exact⟨a,vs,e,.inl s,is⟩
  ·rename_i ds ev;cases e;exact key ds rfl rfl fun P1 v1 H1 i=>by
    rw[ev]at i;obtain⟨a,vs,e,s,is⟩:=i;exact⟨a,vs,e,.inr s,is⟩
  ·cases e
 ·exact bf k e1 q
noncomputable def lg (i j:Nat) (body:S):Nat->Nat->Env->Mm->OS
  |0,_,_,_=>none
  |n + 1,t,env,M=>match M[j]? with
    | some (.lst ds) => (match ds[t]? with
      |none=>some (.nx env,M)
      | some d => if i < env.length then (match body (env.set i (.val d)) M with
        |some (.nx e,M1)=>lg i j body n (t + 1) e M1
        |some (.ct e,M1)=>lg i j body n (t + 1) e M1
        |some (.bk e,M1)=>some (.nx e,M1)
        |some (.rt d,M1)=>some (.rt d,M1)
        |some (.ex c k,M1)=>some (.ex c k,M1)
        |none=>none) else none)
    |_=>none
noncomputable def xG (n i:Nat) (f:E) (body:S):S:=fun env M=>bJ (f env M) fun d M1=>match d with
 |.ref j=>lg i j body n 0 env M1
 |_=>none
theorem V0 {K:Fgx}{mg:Mgx}{P0 P1:Pl}{H0 H1:Hp}{Os:List (Option Addr)}{M M':Mm}{st:L2.St}{env:Env}{i j n:Nat}{b:S}{out:Out}{D:Ends}(k:Ok K mg P0 H0 P1 Os H1 M st env)(hj:j<P1.n)
    (h:lg i j b n 0 env M=some (out,M')) (q:Post K mg Wx P0 H0 P1 H1 M' D out):
    ∃W:Nat->Nat->L2.St->Hp->Prop,(∃m,W 0 m st H1)/\∀t m σ H,W t m σ H->
      ((xV K (P1.io j)).stop t H/\D.nx σ H)\/((xV K (P1.io j)).go t H/\∃Nn:L2.St->Hp->Prop,(∀σ' H',Nn σ' H'->∃m',m'<m/\W (t + 1) m' σ' H')/\∀x H',(xV K (P1.io j)).yld t H x H'->wH i x σ H' fun σ2 H2=>tS K mg Wx b {D with nx:=Nn,ct:=Nn,bk:=D.nx} σ2 H2):=by
  refine⟨fun t m σ H=>∃P Os' M1 env',Lt P1 H1 P H/\Ok K mg P0 H0 P Os' H M1 σ env'/\lg i j b m t env' M1=some (out,M'),⟨n,P1,Os,M,env,Lt.refl _ _,k,h⟩,?_⟩;rintro t m σ H ⟨P,Os',M1,env',lt,k',h'⟩
  cases m with
  |zero=>cases h'
  |succ m=>
    simp only[lg]at h';split at h'
    · rename_i ds em;obtain⟨vs,ev,is⟩:=k'.hk.cell j _ em;rw[lt.io j hj]at ev;have sq:bI K H (P1.io j) vs:=.inl (.inl ev);split at h'
      · rename_i et;cases h';refine .inl ⟨⟨vs,sq,by rw[is.len];exact xcA.mp et⟩,q P Os' H σ lt k'⟩
      · rename_i d et;obtain⟨v,evt,iv⟩:=is.get et;split at h'
        · rename_i hi;refine .inr ⟨⟨vs,v,sq,evt⟩,fun σ' H'=>∃P Os' M1 env',Lt P1 H1 P H'/\Ok K mg P0 H0 P Os' H' M1 σ' env'/\lg i j b m (t + 1) env' M1=some (out,M'),fun σ' H' z=>⟨m,xba m,z⟩,fun x H' y=>?_⟩;obtain⟨rfl,y⟩:=y;have ex:=y vs sq;rw[evt]at ex;cases ex;have k2:=k'.asg hi iv;split at h'
          · rename_i e M2 eb;exact⟨P0,H0,P,_,_,M1,_,_,k2,eb,fun P' Os2 H2 st2 l2 k3=>⟨P',Os2,_,e,lt.trans l2,k3,h'⟩⟩
          · rename_i e M2 eb;exact⟨P0,H0,P,_,_,M1,_,_,k2,eb,fun P' Os2 H2 st2 l2 k3=>⟨P',Os2,_,e,lt.trans l2,k3,h'⟩⟩
          · rename_i e M2 eb;cases h';exact⟨P0,H0,P,_,_,M1,_,_,k2,eb,fun P' Os2 H2 st2 l2 k3=>q P' Os2 H2 st2 (lt.trans l2) k3⟩
          · rename_i e M2 eb;cases h';exact⟨P0,H0,P,_,_,M1,_,_,k2,eb,q⟩
          · rename_i c n M2 eb;cases h';exact⟨P0,H0,P,_,_,M1,_,_,k2,eb,q⟩
          · cases h'
        · cases h'
    · cases h'
theorem zbF (n:Nat)(hp:PassesOwn (model X.prog X.w) X.A X.env X.xe)(hc:X.calm=true)(hN:X.N.Nodup)(hi:X.N[i]? =some x)(hx:Loc X.env.scope x)(he:SE X Wx .val e f)(hb:SB X Wx body b)
    (hf:X.fn x=true\/X.env.scope.names.lookup x=some .local:=by first |exact .inl rfl |exact .inr rfl) (hs:∀x,foldedSetIterable e X.env x=pure x:=by intro _;rfl):SS X Wx (.For (.Name x p) e body [] pos) (xG n i f b):=by
  refine gq (CG hp hc (Cz he) (zA hN hi hx hf) hb hs) ?_;rintro D st H ⟨P0,H0,P,Os,env,M,out,M',k,e,q⟩;unfold xG at e;rcases fQ e with⟨d,M1,e1,e⟩ |⟨c,n,e1,rfl⟩
  · cases d<;>simp only[reduceCtorEq]at e
    rename_i j;refine⟨P0,H0,P,Os,env,M,_,_,k,e1,fun P1 v1 H1 l1 h1 i1=>?_⟩;obtain⟨jl,rfl⟩:j<P1.n/\v1=.ref (P1.io j):=i1;have k1:=k.next l1 h1
    have hl:∃vs,bI X.K H1 (P1.io j) vs:=by
      cases n with
      |zero=>cases e
      |succ n=>
        simp only[lg]at e;split at e
        · rename_i ds em;obtain⟨vs,ev,is⟩:=h1.cell j _ em;exact⟨vs,.inl (.inl ev)⟩
        · cases e
    exact⟨P1.io j,rfl,hl,V0 k1 jl e (q.lt (l1.lt k.hk))⟩
  · exact⟨P0,H0,P,Os,env,M,_,_,k,e1,q⟩
end
noncomputable def zR (K:Fgx) (g:G):Sp:=fun vs H Q E=>∀mg,mY K mg 1 g vs H Q E
theorem Uv {P:Program}{w:World}{K:Fgx}{mg:Mgx}{base:Heap}{k:Nat}{f:Addr}{fd:FuncData}{ps:List Str}{g:G}(F:FnOk P w K mg base fP k f fd ps (mY K mg 1 g)):FnOk P w K mg base fP k f fd ps (zR K g):=
 ⟨fun vs H Q E h=>F.len vs H Q E (h mg),fun A outer s H args us vs Q E hr he hb hv hs=>F.run A outer s H args us vs Q E hr he hb hv (hs mg)⟩
theorem M8 {K:Fgx}{P:Pl}{H:Hp}:∀ns:List Int,aC K P H (ns.map D.int) (ns.map V.int)
 | []=>rfl
 |n::ns=>⟨.int n,_,rfl,rfl,M8 ns⟩
theorem VD {K:Fgx}{g:G}{H:Hp}{a:Addr}{ns:List Int}(hg:∃M,g [.lst (ns.map D.int)] []=some (.v (.bl true),M))(hS:bI K H a (ns.map V.int)):zR K g [.ref a] H (fun v _=>v=.bl true) fun _ _ _=>False:=by
 intro mg;obtain⟨M,e⟩:=hg;refine⟨rfl,⟨fun _=>0,0,fun _=>False⟩,[],[.lst (ns.map D.int)],.bl true,M,⟨rfl,fun k c e=>(by cases e),fun j k h=>absurd h (xbA _),fun k h=>absurd h (xbA _),fun a z=>z.elim⟩,⟨.ref a,[],rfl,⟨a,ns.map V.int,rfl,?_,M8 ns⟩,rfl⟩,e,fun P' v H' _ _ i=>i⟩;rcases hS with h |h
 ·exact .inl ⟨fun z=>z,h⟩
 ·exact .inr h
theorem zbA {l:PySem.W.OpenLaw}{k:Nat}{q:Program}{loose:List Str}{XP:(Mgx)->Heap->Prop}{YP:World->Heap->Prop}{d:DefRec}{K:Params->Fgx}{x:Str}{g:G}
  (hn:l.most=some 63) (hdf:d.params.defaults=[]) (hr:Room k callerA) (hY:∀(w:World) (h:Heap),YP w h->(K w.params).In h)
  (F:∀(w:World) (mg:Mgx) (fa:Addr) (h:Heap),(K w.params).In h->h.Ns mainGlobals mg->mg d.name=some (.ref fa)->
   ∃fd:FuncData,(∀(s:Shared) (u:Value),BindsTo s fd ⟨[u],[]⟩ [(x,u)])/\
    ∀base:Heap,(K w.params).In base->base.Ns mainGlobals mg->FnOk l.prog w (K w.params) mg base fP k fa fd [x] (zR (K w.params) g))
  (hg:∀ns:List Int,ns.length<=63->∃M,g [.lst (ns.map D.int)] []=some (.v (.bl true),M)):PySem.W.WalkO q loose XP YP l.row.toRowW d [] (fun f vs=>PySem.call f vs):=
 L2.zaY (sp:=fun K=>zR K g) hn (by decide) hdf hr hY F (fun K H a ns hl _ hS=>VD (hg ns hl) hS) fun _ _ _ _ z=>z
section
variable {X:Cx}{Wx:XW}{m:Mode}{e:Expr}
theorem lY (h:PE X e (tC (.int i))):SE X Wx m e (ak (.int i)):=(Jc (d:=.int i) h fun _ _=>rfl).bor
theorem Je (h:PE X e (tC (.str z))):SE X Wx m e (ak (.str z)):=(Jc (d:=.str z) h fun _ _=>rfl).bor
theorem Jb (h:PE X e (tC (.bl b))):SE X Wx m e (ak (.bl b)):=(Jc (d:=.bl b) h fun _ _=>rfl).bor
theorem Jg (hN:X.N[i]? =some x)(hv:X.env.scope.names.lookup x=some .local)(hd:(x==("__debug__":Str))=false:=by x_go)(hcd:(x==("__classdict__":Str))=false:=by x_go):SE X Wx m (.Name x pos) (aj i):=(Qz hN (.inl hv) hd hcd).bor
theorem zcL (hN:X.N[i]? =some x)(hv:X.env.scope.names.lookup x=some .local)(hd:(x==("__debug__":Str))=false:=by x_go)(hcd:(x==("__classdict__":Str))=false:=by x_go):SE X Wx .bor (.Name x pos) (xM i):=zbm hN (.inl hv) hd hcd
theorem SN.sem (h:SN X Wx e f)(hf:∀env M r M',f env M=some (.v r,M')->∃ds,r=.lst ds):SE X Wx m e f:=(SN.se h hf).bor
end
noncomputable def putD (f:Str) (d:D):List (Str×D)->List (Str×D)
 | []=>[(f,d)]
 |(g,x)::r=>if g=f then(g,d)::r else(g,x)::putD f d r
section
variable {K:Fgx}{mg:Mgx}{P:Pl}{H:Hp}{M:Mm}
def lE (K:Fgx)(P:Pl)(H:Hp)(fs:List (Str×D))(gs:List (Str×V)):Prop:=gs.map (·.1)=fs.map (·.1)/\aC K P H (fs.map (·.2)) (gs.map (·.2))
theorem Mp:∀{fs:List (Str×D)} {gs:List (Str×V)},lE K P H fs gs->fs.lookup f=some d->∃v,gs.lookup f=some v/\Is K P H d v
  | [],_,_,e=>by cases e
  |(g,x)::fs,[],h,_=>by cases h.1
  |(g,x)::fs,(g',y)::gs,h,e=>by
    obtain⟨h1,v,r,e1,p,q⟩:=h;simp only[xaP,xdZ]at h1 e1;obtain⟨rfl,h1⟩:=h1;obtain⟨rfl,rfl⟩:=e1;simp only[List.lookup]at e ⊢
    cases hg:f==g' with
    |true=>rw[hg]at e;cases e;exact⟨y,rfl,p⟩
    |false=>rw[hg]at e;exact Mp ⟨h1,q⟩ e
theorem Gp:∀{fs:List (Str×D)} {gs:List (Str×V)},gs.map (·.1)=fs.map (·.1)->fs.lookup f=none->gs.lookup f=none
  | [],[],_,_=>rfl
  | [],_::_,h,_=>by cases h
  |_::_,[],h,_=>by cases h
  |(g,x)::fs,(g',y)::gs,h,e=>by
    simp only[xaP,xdZ]at h;obtain⟨rfl,h⟩:=h;simp only[List.lookup]at e ⊢
    cases hg:f==g' with
    |true=>rw[hg]at e;cases e
    |false=>rw[hg]at e;exact Gp h e
theorem Mq (i:Is K P H d v):∀{fs:List (Str×D)} {gs:List (Str×V)},lE K P H fs gs->lE K P H (putD f d fs) (bC f v gs)
  | [],[],_=>⟨rfl,v,[],rfl,i,rfl⟩
  | [],_::_,h=>by cases h.1
  |_::_,[],h=>by cases h.1
  |(g,x)::fs,(g',y)::gs,h=>by
    obtain⟨h1,v',r,e1,p,q⟩:=h;simp only[xaP,xdZ]at h1 e1;obtain⟨rfl,h1⟩:=h1;obtain⟨rfl,rfl⟩:=e1;unfold putD bC
    split
    · exact⟨by simp[h1],v,_,rfl,i,q⟩
    · obtain⟨a,b⟩:=Mq i (fs:=fs) (gs:=gs) ⟨h1,q⟩;exact⟨by simp[a],y,_,rfl,p,b⟩
theorem UG (h:lE K P H fs gs):gs.length=fs.length:=by
 have:=congrArg List.length h.1
 simpa using this
end
structure ClsOk (K:Fgx)(mg:Mgx)(c:Str)(C:Addr):Prop where
 mg:mg c=some (.ref C)
 cl:Cls K C
section
variable {X:Cx}{Wx:XW}{m:Mode}{pos:Pos}
noncomputable def tW (M:Mm) (c:Str) (d:D):Option (Nat×List (Str×D)):=match d with
  | .ref k => (match M[k]? with
    |some (.obj c' fs)=>if c'=c then some (k,fs) else none
    |_=>none)
  |_=>none
theorem Cj (h:tW M c d=some (k,fs)):d=.ref k/\M[k]? =some (.obj c fs):=by
 unfold tW at h;split at h
 ·split at h
  ·split at h
   ·rename_i e1 e2;cases h;subst e2;exact⟨rfl,e1⟩
   ·cases h
  ·cases h
 ·cases h
noncomputable def bN (c f:Str) (o:E):E:=fun env M=>bnd (o env M) fun d M1=>match tW M1 c d with
 |some (_,fs)=>(fs.lookup f).map fun z=>(.v z,M1)
 |none=>none
theorem gA (hc:ClsOk X.K X.mg c C)(hn:kZ X.K C f)(he:SE X Wx .val e o)(hb:attributeBase e f X.env (eval e X.env)=eval e X.env:=by rfl):SE X Wx m (.Attribute e f pos) (bN c f o):=by
 refine cA (X7 he hb) ?_;rintro st H Q ⟨P0,H0,P,Os,env,M,r,M',k,e,q⟩;unfold bN at e;rcases cG e with⟨d,M1,e1,e⟩ |⟨c,n,e1,rfl⟩
 ·split at e
  ·rename_i j fs eo;rw[xak]at e;obtain⟨z,ez,e⟩:=e;cases e;obtain⟨rfl,em⟩:=Cj eo;refine bf k e1 fun P1 v1 H1 l1 h1 i1=>?_;obtain⟨jl,rfl⟩:j<P1.n/\v1=.ref (P1.io j):=i1;obtain⟨C',dx,gs,ec,eh,en,is⟩:=h1.cell j _ em;have eC:C'=C:=by
    have:=ec.symm.trans hc.mg;cases this;rfl
   subst eC;obtain⟨v,ev,iv⟩:=Mp ⟨en,is⟩ ez;exact⟨_,C',dx,gs,v,rfl,eh,hc.cl,hn,ev,q P1 v H1 l1 h1 (cR.of h1 iv)⟩
  ·cases e
 ·exact bf k e1 q
noncomputable def eY (c f:Str) (o v:E):S:=fun env M=>bJ (v env M) fun y M1=>bJ (o env M1) fun d M2=>match tW M2 c d with
 |some (k,fs)=>if fs.length<1000 then some (.nx env,M2.set k (.obj c (putD f y fs))) else none
 |none=>none
theorem zbB {K:Fgx}{mg:Mgx}{P:Pl}{H:Hp}{M:Mm}{j:Nat}{c f:Str}{fs:List (Str×D)}{y:D}{v:V}{C dx:Addr}{gs:List (Str×V)}(h:Hk K mg P H M)(em:M[j]? =some (.obj c fs))(ec:mg c=some (.ref C))(eh:H (P.io j)=some (.ins C dx gs))(fo:lE K P H fs gs)(iv:Is K P H y v):
  Lt P H P (upd H (P.io j) (.ins C dx (bC f v gs)))/\LtE P H P (upd H (P.io j) (.ins C dx (bC f v gs)))/\Hk K mg P (upd H (P.io j) (.ins C dx (bC f v gs))) (M.set j (.obj c (putD f y fs))):=by
 have jl:j<P.n:=by rw[h.n];exact(xaz.mp em).1
 have lc:Lt P H P (upd H (P.io j) (.ins C dx (bC f v gs))):=wV (h.bd j jl) eh Wg;have fp:=Mq (f:=f) iv fo;exact h.set (c':=.obj c (putD f y fs)) (o':=.ins C dx (bC f v gs)) em ⟨C,dx,bC f v gs,ec,dw,fp.1,aC.lt lc fp.2⟩
theorem xQ {c f:Str}{C:Addr}{o e:Expr}{fo fv:E}{pos':Pos}(hc:ClsOk X.K X.mg c C)(hn:kZ X.K C f)(ho:SE X Wx .val o fo)(he:SE X Wx .val e fv)(hs:swapsWith e (some (.Attribute o f pos')) pos.line X.env=pure false:=by rfl):SS X Wx (.Assign [.Attribute o f pos'] e pos) (eY c f fo fv):=by
 refine gq (YC ho he hs) ?_;rintro D st H ⟨P0,H0,P,Os,env,M,out,M',k,e,q⟩;unfold eY at e;rcases fQ e with⟨y,M1,e1,e⟩ |⟨c,n,e1,rfl⟩
 ·refine bf k e1 fun P1 v1 H1 l1 h1 i1=>?_;have k1:=k.next l1 h1
  rcases fQ e with⟨d,M2,e2,e⟩ |⟨c,n,e2,rfl⟩
  ·split at e
   ·rename_i j fs eo;split at e
    ·rename_i hl;cases e;obtain⟨rfl,em⟩:=Cj eo;refine bf k1 e2 fun P2 v2 H2 l2 h2 i2=>?_;obtain⟨jl,rfl⟩:j<P2.n/\v2=.ref (P2.io j):=i2;obtain⟨C',dx,gs,ec,eh,en,is⟩:=h2.cell j _ em;have eC:C'=C:=by
      have:=ec.symm.trans hc.mg;cases this;rfl
     subst eC;obtain⟨l3,l3e,h3⟩:=zbB (f:=f) h2 em ec eh ⟨en,is⟩ (Is.lt (l2.lt h1) i1);exact⟨_,C',dx,gs,rfl,eh,hc.cl,hn,by rw[UG ⟨en,is⟩];exact hl,q _ _ _ _ ((l1.lt k.hk).trans ((l2.lt h1).trans l3)) ((k1.next l2 h2).next l3e h3)⟩
    ·cases e
   ·cases e
  ·exact bf k1 e2 q
 ·exact bf k e1 q
def cQ (P:Program)(w:World)(K:Fgx)(mg:Mgx)(base:Heap)(k:Nat)(C:Addr)(m:Str)(n:Nat)(g:G):Prop:=
 ∃f fd ps,Meth K C m f/\FnOk P w K mg base fP k f fd ps (mY K mg n g)/\Binds K fd ps []
theorem cQ.mono {P:Program}{w:World}{K:Fgx}{mg:Mgx}{base:Heap}{j k:Nat}{C:Addr}{m:Str}{n:Nat}{g:G}(a:cQ P w K mg base j C m n g)(h:j<=k):cQ P w K mg base k C m n g:=by
 obtain⟨f,fd,ps,h1,h2,h3⟩:=a;exact⟨f,fd,ps,h1,h2.mono h,h3⟩
noncomputable def bx (c m:Str) (g:G) (o:E) (fs:EA):E:=fun env M=>bnd (o env M) fun d M1=>match tW M1 c d with
  | some (_, gs) => if gs.lookup m = none then cW (fs env M1) fun ds M2 => (match g (d::ds) M2 with
    |some (.v z,M3)=>some (.v z,M3)
    |_=>none) else none
  |none=>none
theorem sE (hc:ClsOk X.K X.mg c C)(a:cQ X.prog X.w X.K X.mg X.base k C me (n + 1) g)(hr:Room k X.A)(ho:SE X Wx .val o fo)(ha:SA X Wx .val (e::es) fs)(hn:sS n fs)
    (hst:starEach (e::es) X.env=(false,eval e X.env)::starEach es X.env:=by rfl) (hpl:(backTo pos (starEach es X.env)).any (·.1)=false:=by rfl)
    (ht : eval (.Call (.Attribute o me apos) (e :: es) [] pos) X.env = (do
      let ov <-eval o X.env
      standAt apos.atName
      let (f,first) <-holding [ov] (getMethod ov me pl)
      callWith pos f first (backTo pos (starEach (e::es) X.env)) (backToKw pos (keywordEach [] X.env))):=by rfl):
    SE X Wx m (.Call (.Attribute o me apos) (e::es) [] pos) (bx c me g fo fs):=by
  obtain⟨f,fd,ps,hm,F,hb⟩:=a;refine cA (Ye ho hc.cl hm F hr hb .nil zu ha hst hpl ht) ?_;rintro st H Q ⟨P0,H0,P,Os,env,M,r,M',k,e,q⟩;unfold bx at e;rcases cG e with⟨d,M1,e1,e⟩ |⟨c,n,e1,rfl⟩
  · split at e
    · rename_i j gs eo;split at e
      · rename_i hl;obtain⟨rfl,em⟩:=Cj eo;refine bf k e1 fun P1 v1 H1 l1 h1 i1=>?_;have k1:=k.next l1 h1
        obtain⟨jl,rfl⟩:j<P1.n/\v1=.ref (P1.io j):=i1;obtain⟨C',dx,vs,ec,eh,en,is⟩:=h1.cell j _ em;have eC:C'=C:=by
          have:=ec.symm.trans hc.mg;cases this;rfl
        subst eC;refine⟨_,dx,vs,rfl,eh,Gp en hl,?_⟩;rcases nA e with⟨ds,M2,e2,e⟩ |⟨c,n,e2,rfl⟩
        · split at e
          · rename_i z M3 eg;cases e;refine⟨P0,H0,P1,Os,env,M1,_,_,k1,e2,fun P2 us H2 l2 h2 i2=>?_⟩;dsimp only;rw[xaE];exact⟨by rw[xay,i2.len,hn _ _ _ _ e2],P2,M2,.ref j::ds,z,_,h2,⟨_,_,rfl,⟨xap jl l2.n,by rw[l2.io j jl]⟩,i2.iss⟩,eg,fun P3 v H3 l3 h3 i3=>q P3 v H3 (l1.trans (l2.trans l3)) h3 (cR.of h3 i3)⟩
          · cases e
        · exact⟨P0,H0,P1,Os,env,M1,_,_,k1,e2,q⟩
      · cases e
    · cases e
  · exact bf k e1 q
theorem Du (hc:ClsOk X.K X.mg c C)(a:cQ X.prog X.w X.K X.mg X.base k C me 1 g)(hr:Room k X.A)(ho:SE X Wx .val o fo)
    (ht : eval (.Call (.Attribute o me apos) [] [] pos) X.env = (do
      let ov <-eval o X.env
      standAt apos.atName
      let (f,first) <-holding [ov] (getMethod ov me pl)
      callWith pos f first (backTo pos (starEach [] X.env)) (backToKw pos (keywordEach [] X.env))):=by rfl):
    SE X Wx m (.Call (.Attribute o me apos) [] [] pos) (bx c me g fo aq):=by
  obtain⟨f,fd,ps,hm,F,hb⟩:=a;refine cA (Yg ho hc.cl hm F hr hb .nil zu ht) ?_;rintro st H Q ⟨P0,H0,P,Os,env,M,r,M',k,e,q⟩;unfold bx at e;rcases cG e with⟨d,M1,e1,e⟩ |⟨c,n,e1,rfl⟩
  · split at e
    · rename_i j gs eo;split at e
      · rename_i hl;obtain⟨rfl,em⟩:=Cj eo;refine bf k e1 fun P1 v1 H1 l1 h1 i1=>?_;obtain⟨jl,rfl⟩:j<P1.n/\v1=.ref (P1.io j):=i1;obtain⟨C',dx,vs,ec,eh,en,is⟩:=h1.cell j _ em;have eC:C'=C:=by
          have:=ec.symm.trans hc.mg;cases this;rfl
        subst eC;refine⟨_,dx,vs,rfl,eh,Gp en hl,?_⟩;simp only[cW,aq]at e;split at e
        · rename_i z M3 eg;cases e;exact⟨rfl,P1,M1,[.ref j],z,_,h1,⟨_,_,rfl,⟨jl,rfl⟩,rfl⟩,eg,fun P3 v H3 l3 h3 i3=>q P3 v H3 (l1.trans l3) h3 (cR.of h3 i3)⟩
        · cases e
      · cases e
    · cases e
  · exact bf k e1 q
end
section
variable {X:Cx}{Wx:XW}{m:Mode}{pos:Pos}
theorem Tp {K:Fgx}{mg:Mgx}{P:Pl}{H H':Hp}{M:Mm}{a:Addr}{c:Cl}(h:Hk K mg P H M)(s:Same H H')(ha:H a=none)(ea:H' a≠none)(hc:∀P',P'.n=P.n + 1->P'.io P.n=a->LtE P H P' H'->ni K mg P' H' a c):∃P',P'.n=P.n + 1/\P'.io P.n=a/\LtE P H P' H'/\Hk K mg P' H' (M ++ [c]):=by
 let P2:Pl:={io:=fun j=>if j=P.n then a else P.io j,n:=P.n + 1,bd:=fun b=>P.bd b\/b=a}
 have io : ∀ j, j < P.n -> P2.io j = P.io j := fun j hj => xae (by lia);have ioN : P2.io P.n = a := xac rfl;have nc : ∀ j, j < P.n -> P.io j ≠ a := fun j hj z => h.here _ (h.bd j hj) (z ▸ ha);have l : LtE P H P2 H' := ⟨xcW _,io,fun b z=>xd4 (fun q=>q) (fun(q:b=a)=>by rw[q];exact ha) z,fun _ z=>.inl z,fun b o e _=>s b o e,fun b z=>s.free z,fun j h2 h3=>by
  have:j=P.n:=xbr (xbf h3) h2;rw[this,ioN];exact ha⟩
 refine⟨P2,rfl,ioN,l,⟨by rw[xaj, <-h.n];rfl,fun j d ej=>?_,fun i j hi hj e=>?_,fun j hj=>?_,fun b z=>?_⟩⟩
 ·rcases xa8 j P.n with z |z
  ·rw[xaH (by rw[<-h.n];exact z)]at ej;rw[io j z];exact(h.cell j d ej).lt (l.lt h) fun o eo=>s _ _ eo
  ·have jl:=(xaz.mp ej).1;rw[xaj,xaA, <-h.n]at jl;have:j=P.n:=by lia
   subst this;rw[xas (by rw[h.n];exact xad _),h.n,xbN]at ej;cases ej;rw[ioN];exact hc P2 rfl ioN l
 ·rcases xa8 i P.n with z |z
  ·rcases xa8 j P.n with y |y
   ·rw[io i z,io j y]at e;exact h.inj i j z y e
   ·have:j=P.n:=xbr (xbf hj) y;rw[io i z,this,ioN]at e;exact absurd e (nc i z)
  ·have iN:i=P.n:=xbr (xbf hi) z;rcases xa8 j P.n with y |y
   ·rw[iN,ioN,io j y]at e;exact absurd e.symm (nc j y)
   ·rw[iN];exact xbr y (xbf hj)
 ·rcases xa8 j P.n with z |z
  ·rw[io j z];exact .inl (h.bd j z)
  ·have:j=P.n:=xbr (xbf hj) z;rw[this,ioN];exact .inr rfl
 ·rcases z with z |z
  ·exact fun q=>h.here b z (s.free q)
  ·rw[z];exact ea
def mj (P:Program)(w:World)(K:Fgx)(mg:Mgx)(base:Heap)(k:Nat)(C:Addr)(n:Nat)(g:G):Prop:=
 ∃f fd ps,Mk K C f/\FnOk P w K mg base fP k f fd ps (mY K mg n g)/\Binds K fd ps []
noncomputable def u5 (c:Str) (g:G) (fs:EA):E:=fun env M=>cW (fs env M) fun ds M1=>match g (.ref M1.length::ds) (M1 ++ [.obj c []]) with
 |some (.v .non,M2)=>some (.v (.ref M1.length),M2)
 |_=>none
theorem zbP {c:Str}{C:Addr}{k n:Nat}{g:G}{e:Expr}{es:List Expr}{fs:EA}{p:Pos}(hc:ClsOk X.K X.mg c C)(a:mj X.prog X.w X.K X.mg X.base k C (n + 1) g)(hr:Room (k + 1) X.A)(hg:Gl X c)(ha:SA X Wx .val (e::es) fs)(hn:sS n fs)(hdb:(c==("__debug__":Str))=false:=by x_go)
  (he:starEach (e::es) X.env=(false,eval e X.env)::starEach es X.env:=by rfl) (hpl:(backTo pos (starEach es X.env)).any (·.1)=false:=by rfl):SE X Wx m (.Call (.Name c p) (e::es) [] pos) (u5 c g fs):=by
 obtain⟨f,fd,ps,mk,F,hb⟩:=a;refine cA (Yd mk F hr hg hc.mg hb .nil zu ha hdb he hpl) ?_;rintro st H Q ⟨P0,H0,P,Os,env,M,r,M',k,e,q⟩;unfold u5 at e;rcases nA e with⟨ds,M1,e1,e⟩ |⟨c,n,e1,rfl⟩
 ·split at e
  ·rename_i M2 eg;cases e;refine⟨P0,H0,P,Os,env,M,_,_,k,e1,fun P1 vs H1 l1 h1 i1=>fun x dx hx hdx ne=>?_⟩;have s2:Same H1 (upd (upd H1 dx (.own x)) x (.ins C dx [])):=fun b o eb=>by
    rw[bT (rC eb hx),bT (rC eb hdx)];exact eb
   obtain⟨P2,n2,io2,l2,h2⟩:=Tp (c:=.obj c []) h1 s2 hx (by rw[dw];exact fun z=>nomatch z) fun P' _ _ _=>⟨C,dx,[],hc.mg,dw,rfl,rfl⟩
   have el:P1.n=M1.length:=h1.n;have iref:Is X.K P2 (upd (upd H1 dx (.own x)) x (.ins C dx [])) (.ref M1.length) (.ref x):=⟨by rw[n2,el];exact xba _,by rw[<-el,io2]⟩;refine⟨by rw[xaE,xay,i1.len,hn _ _ _ _ e1],P2,M1 ++ [.obj c []],.ref M1.length::ds,.non,_,h2,⟨_,_,rfl,iref,by rw[xaE];exact aC.lt (l2.lt h1) i1.iss⟩,eg,fun P3 v H3 l3 h3 i3=>⟨i3,?_⟩⟩;refine q P3 _ H3 (l1.trans (l2.trans l3)) h3 (cR.of h3 (Is.lt (l3.lt h2) iref))
  ·cases e
 ·exact⟨P0,H0,P,Os,env,M,_,_,k,e1,q⟩
end
end E3
namespace E3
open PySem PySem.Spec PyProof.Rows L2 PySem.W
def gG (a:Addr)(h h':Heap):Prop:=∀b o,b≠a->h.get? b=some o->h'.get? b=some o
def Grows (h h':Heap):Prop:=∀b o,h.get? b=some o->h'.get? b=some o
noncomputable def gj (h:Heap) (a:Addr) (vs:List Value):Heap:=((h.update a (Obj.mapSeq fun _=> #[])).push (seqObj "tuple" vs.toArray 0)).push (seqObj "list" #[] 0)
theorem gG.upd (h:Heap)(a:Addr)(f:Obj->Obj):gG a h (h.update a f):=fun b o nb e=>by rw[(xdr h a f).2 b nb];exact e
theorem gG.push (s:gG a h h')(o:Obj):gG a h (h'.push o):=fun b u nb e=>xag _ (s b u nb e)
theorem N_ (h:Heap)(a:Addr)(vs:List Value):gG a h (gj h a vs):=((gG.upd h a _).push _).push _
theorem T3 (h:Heap)(vs:List Value):((h.push (seqObj "list" #[] 0)).update h.objs.size (Obj.mapSeq (· ++ vs.toArray))).objs.size=h.objs.size + 1:=(Heap.size_update ..).trans (size_push' h _)
noncomputable def bG:List D->List D->Option Bool
 | [],[]=>some false
 |.int i::ps,.int j::qs=>if i=j then bG ps qs else some (decide (i<j))
 |.str a::ps,.str b::qs=>if a=b then bG ps qs else some (decide (a.cps.toList<b.cps.toList))
 |_,_=>none
section
variable {prog:Program}{w:World}{A:Around}{s:Shared}{K:Fgx}{P:Pl}{H:Hp}
theorem Nv (hq:Q b s):∀(xs ys:List D) (vs ws:List V) (us zs:List Value) (n:Nat),aC K P H xs vs->aC K P H ys ws->Vals vs us->Vals ws zs->bG xs ys=some b->(us.length=zs.length->fin=false)->KatLex prog w A true fin Q (us.zip zs) n s
  | [],ys,vs,ws,us,zs,n,i1,i2,r1,r2,e,hf=>by
    cases ys with
    |cons y ys=>cases e
    |nil=>
      rw[show vs=[] from i1]at r1;rw[show ws=[] from i2]at r2;cases r1;cases r2;cases e;rw[hf rfl];exact hq
  |x::xs,[],vs,ws,us,zs,n,i1,i2,r1,r2,e,hf=>by cases x<;>cases e
  |x::xs,y::ys,vs,ws,us,zs,n,i1,i2,r1,r2,e,hf=>by
    obtain⟨v,vr,rfl,p,i1⟩:=i1;obtain⟨u,wr,rfl,p',i2⟩:=i2
    cases r1 with
    |cons a1 r1=>
      cases r2 with
      |cons a2 r2=>
        have rest:bG xs ys=some b->∀n,KatLex prog w A true fin Q (List.zip _ _) n s:=fun e n=>Nv hq xs ys _ _ _ _ n i1 i2 r1 r2 e fun z=>hf (by simp[z]);rw[xdD];cases x<;>cases y<;>simp only[bG,reduceCtorEq]at e
        · rename_i i j;cases p;cases p';obtain⟨t1,rfl⟩:=a1;obtain⟨t2,rfl⟩:=a2;refine kat_cons (xdB _ _ _ _ prog w _ _ ?_);split at e
          · rename_i hij;subst hij;rw[show(i==i)=true from xbF i];exact kat_yes (rest e _)
          · rename_i hij;cases e;rw[show(i==j)=false from xbp.mpr hij];refine kat_no ?_
            cases n with
            |zero=>exact oneLt_int hq
            |succ n=>exact kat_one _ _ (lt_int (show PySem.W.BoolBack Q (.bool _) s from hq))
        · rename_i a c;cases p;cases p';obtain⟨t1,rfl⟩:=a1;obtain⟨t2,rfl⟩:=a2;refine kat_cons (xdC _ _ _ _ prog w _ _ ?_);split at e
          · rename_i hij;subst hij;rw[show(a==a)=true from xbF a];exact kat_yes (rest e _)
          · rename_i hij;cases e;rw[show(a==c)=false from xbp.mpr hij];refine kat_no ?_
            cases n with
            |zero=>exact oneLt_str hq
            |succ n=>exact kat_one _ _ (lt_str (show PySem.W.BoolBack Q (.bool _) s from hq))
end
noncomputable def tupI:D->Bool
 |.tup (.int _::_)=>true
 |_=>false
section
variable {X:Cx}{pins:Pnx}{σ:L2.St}{H:Hp}{s:Shared}
theorem DY (I:Inv X pins σ H s)(g:Grows s.heap h')(i:Is X.K P H (.tup xs) v)(r:RelV v u):∃a o its n ws,u=.ref a/\h'.get? a=some o/\o.cls=.type "tuple"/\o.data=.seq its n/\aC X.K P H xs ws/\Vals ws its.toList:=by
 obtain⟨a,ws,rfl,t,is⟩:=i;cases r;obtain⟨its,rv,⟨o,e1,e2,n,e3⟩,_⟩:=I.tuple t;exact⟨a,o,its.toArray,n,ws,rfl,g _ _ e1,e2,e3,is,by simpa using rv⟩
theorem Rp (I:Inv X pins σ H s)(g:Grows s.heap h'):∀(ds:List D) (vs:List V) (us:List Value),ds.all tupI=true->aC X.K P H ds vs->Vals vs us->∃fs,KatTups h' us fs/\fs.length=us.length/\∀f∈fs,∃i t,f=Value.int i t
  | [],vs,us,_,i,r=>by
    rw[show vs=[] from i]at r;cases r;exact⟨[],KatTups.nil,rfl,fun f h=>nomatch h⟩
  |d::ds,vs,us,hd,i,r=>by
    obtain⟨v,vr,rfl,p,i⟩:=i;rw[xb2,xaF]at hd
    cases r with
    |cons a1 r=>
      obtain⟨fs,k,kl,kf⟩:=Rp I g ds _ _ hd.2 i r
      cases d with
      |tup xs=>
        cases xs with
        |nil=>cases (show false=true from hd.1)
        |cons x xs=>
          cases x with
          |int z=>
            obtain⟨a,o,its,n,ws,rfl,e1,e2,e3,is,rv⟩:=DY I g p a1;obtain⟨w,wr,rfl,pw,is⟩:=is;cases pw;obtain⟨its⟩:=its
            cases rv with
            |cons b1 rv=>
              obtain⟨t,rfl⟩:=b1;refine⟨.int z t::fs,KatTups.cons e1 e2 e3 rfl k,by simp[kl],fun f hf=>?_⟩;rcases xar.mp hf with rfl |hf
              · exact⟨z,t,rfl⟩
              · exact kf f hf
          |_=>cases (show false=true from hd.1)
      |_=>cases (show false=true from hd.1)
theorem zaT (r:Vals vs us)(i:Nat):RelV (vs.getD i .non) (us.getD i Value.none):=by
  induction r generalizing i with
  |nil=>exact rfl
  |cons a r ih=>cases i with
    |zero=>simpa using a
    |succ i=>simpa using ih i
end
section
variable {prog:Program}{w:World}{A:Around}{E:Value->Shared->Prop}{s:Shared}
theorem za1 {a:Addr}{n:Nat}{vs:List Value}{P:PySem.Fin->Shared->Prop}(ho:s.heap.get? a=some (seqObj "list" vs.toArray n))(h2:vs.length<2)
  (q:∀(h':Heap) c,gG a s.heap h'->h'.get? a=some (seqObj "list" vs.toArray c)->P (.done (.ret .none)) {s with heap:=h'}):
  wpAny (model prog w) A (Builtin.«list.sort» ⟨[.ref a],[]⟩) P E s:=by
 have hz:vs.length<=sizeLine:=by rw[xaX];lia
 have st:=N_ s.heap a vs;obtain⟨e1,z1⟩:∃e1,(s.heap.update a (Obj.mapSeq fun _=>(#[]:Array Value))).get? a=some (seqObj "list" #[] e1):=⟨_,xdm ho fun _=> #[]⟩;have z2:(gj s.heap a vs).get? a=some (seqObj "list" #[] e1):=xag _ (xag _ z1);rw[list_sort_plain];refine xaa (listItems_at ho rfl (xaa (xdG ho rfl (xaa (seqEpoch_at z1 rfl (xaa (xd6 (xaa (xc3 (xbh ?_) (xaS _))) hz)))) (by simpa using hz) (xaS _))));show wpAny (model prog w) A _ P E {s with heap:=gj s.heap a vs};dsimp only;have two:vs.toArray.size<2:=by simpa using h2
 rw[xac two,xac two];generalize gj s.heap a vs=h1 at st z2 ⊢;refine xaa (xab (xaa (m:=(pure ():StateT SortSt Sem Unit).run _) (xab ?_)));dsimp only;have out:(arrOf (SortSt.mk' general' (vs.toArray.zip vs.toArray) #[] 7 none)).map (·.2)=vs.toArray:=by
  show(vs.toArray.zip vs.toArray).map (·.2)=vs.toArray;apply xc8.mp;simp only[Array.toList_map,Array.toList_zip];exact List.map_snd_zip (xad _)
 rw[out];obtain⟨c2,z3⟩:∃c2,(h1.update a (Obj.mapSeq fun _=>vs.toArray)).get? a=some (seqObj "list" vs.toArray c2):=⟨_,xdm z2 fun _=>vs.toArray⟩;refine xaa (seqEpoch_at z2 rfl (xaa (xdG z2 rfl ?_ (xaS _) (by rw[xam];exact xcR hz))));simp only[xey,xaM,xbb];exact xab (q _ c2 (fun b o nb e=>gG.upd h1 a _ b o nb (st b o nb e)) z3)
def Coll (prog:Program)(w:World)(A:Around)(s:Shared)(r:Value)(vs:List Value):Prop:=∀(E':Value->Shared->Prop) (R:List Value->Shared->Prop),(∀h' tk,Grows s.heap h'->s.heap.objs.size<=h'.objs.size->R vs {s with heap:=h',toks:=tk})->wpAny (model prog w) A.in1 (collect r) R E' s
theorem KN {l:Addr}{vs:List Value}(hl:s.heap.IsList l vs.toArray)(hz:vs.length<=sizeLine):Coll prog w A s (.ref l) vs:=fun E' R h=>
 collect_list hl (h _ s.toks (fun b o e=>by rw[xds _ _ _ _ (xaC (xan e))];exact xag _ e) (by rw[T3];exact xcW _)) hz
theorem zar {r:Value}{vs:List Value}{Q:Value->Shared->Prop}(hl:Coll prog w A s r vs)(h2:vs.length<2)
  (q:∀(h':Heap) tk c a,Grows s.heap h'->s.heap.objs.size<=a->h'.get? a=some (seqObj "list" vs.toArray c)->Q (.ref a) {s with heap:=h',toks:=tk}):
  wpAny (model prog w) A (call (.builtin "sorted") [r]) Q E s:=by
 have hz:vs.length<=sizeLine:=by rw[xaX];lia
 refine xcB kind_sorted plain_sorted entry_sorted (args_sorted1 _) ?_;unfold Builtin.«sorted»;refine xaa (m:=checkCount "sorted" 1 1 _) (xab (xaa (hl _ _ fun h1 tk g z=>xaa (xc3 ?_ hz))));have at0:(h1.push (seqObj "list" vs.toArray 0)).get? h1.objs.size=some (seqObj "list" vs.toArray 0):=xav _ rfl;refine xaa (xbh (xbE slot_list_sort ⟨_,at0,rfl⟩ entry_list_sort (za1 (s:={s with heap:=h1.push (seqObj "list" vs.toArray 0),toks:=tk}) at0 h2 fun h' c st e=>?_) (args_list_sort _)));exact⟨_,rfl,xab ⟨_,rfl,q h' tk c _ (fun b o e=>st b o (xaC (xan (g b o e))) (xag _ (g b o e))) z e⟩⟩
end
section
variable {X:Cx}{Wx:XW}
def Ii (K:Fgx):List V->Hp->VK->Prop:=fun xs H Q=>∃(a:Addr) (vs:List V),xs=[.ref a]/\bI K H a vs/\vs.length<2/\∀l,H l=none->Q (.ref l) (upd H l (.lst vs))
theorem S5:dz X (.builtin "sorted") (Ii X.K):=by
 intro pins s σ H xs us Q I r h;obtain⟨a,vs,rfl,hl,h2,q⟩:=h;obtain⟨u,rfl,rx⟩:=vals1 r;cases rx;obtain⟨its,rv,pl,hz⟩:=I.list hl;refine zar (KN pl.isList (by rw[<-rv.length];exact hz)) (by rw[<-rv.length];exact h2) fun h' tk c D g hD eD=>?_;exact⟨.ref D,_,I.laid (t':=tk) (o:=.lst vs) g hD ⟨hz,its,c,rv,eD⟩,rfl,q D (I.hok.fresh hD)⟩
theorem boot_sorted:bootBuiltins "sorted"=some (.builtin "sorted"):=by kernel_rfl
end
def Low (n:Nat)(p:Array Nat):Prop:=p.size=n/\∀x∈p.toList,x<n
section
variable {n:Nat}{lt:Nat->Nat->Option Bool}(hn:0<n)(tot:∀i j,i<n->j<n->∃b,lt i j=some b)
include hn tot
end
end E3
namespace E3
open PySem L2
section
variable {env:Env}{M M1:Mm}{f g h c:E}{d e:D}{i j:Int}{n k:Nat}{z:Str}{b:Bool}{ds es:List D}{s t:S}{x:Str}
def pJ (g:S):OS->OS
 |some (.nx e,M1)=>g e M1
 |o=>o
theorem ZG:ao s t env M=pJ t (s env M):=rfl
theorem zJ {e:Env}:pJ t (some (.nx e,M))=t e M:=rfl
theorem Iz:pJ t (some (.rt d,M))=some (.rt d,M):=rfl
theorem Zj:aA env M=some (.nx env,M):=rfl
noncomputable def Ab (M:Mm):Option Slot->O
 |some (.val d)=>some (.v d,M)
 |_=>none
noncomputable def Aa (M:Mm):Option Slot->O
 |some (.val d)=>some (.v d,M)
 |some (.own ds)=>some (.v (.lst ds),M)
 |_=>none
theorem zF:aj k env M=Ab M env[k]? :=rfl
theorem Ih:xM k env M=Aa M env[k]? :=rfl
theorem zK:Ab M (some (.val d))=some (.v d,M):=rfl
theorem IK:Aa M (some (.own ds))=some (.v (.lst ds),M):=rfl
theorem Zg:ak d env M=some (.v d,M):=rfl
def mapR (M:Mm)(o:Option D):O:=o.map fun z=>(.v z,M)
theorem zc2:mapR M (some d)=some (.v d,M):=rfl
def n_ (o:D->Option D)(r:O):O:=bnd r fun d M=>mapR M (o (vw M d))
theorem Y7 {o:D->Option D}:s1 o f env M=n_ o (f env M):=rfl
theorem Z1 {o:D->Option D}:n_ o (some (.v d,M))=mapR M (o (vw M d)):=rfl
noncomputable def vm (o:D->D->Option D) (d:D) (r:O):O:=bnd r fun e M=>mapR M (o (vw M d) (vw M e))
noncomputable def z9 (o:D->D->Option D) (k:Mm->O) (r:O):O:=bnd r fun d M=>vm o d (k M)
theorem Y8 {o:D->D->Option D}:s2 o f g env M=z9 o (g env) (f env M):=rfl
theorem Z2 {o:D->D->Option D}{q:Mm->O}:z9 o q (some (.v d,M))=vm o d (q M):=rfl
theorem Ir {o:D->D->Option D}:vm o d (some (.v e,M))=mapR M (o (vw M d) (vw M e)):=rfl
theorem zc4:vw M (.int i)=.int i:=rfl
theorem zc6:vw M (.str z)=.str z:=rfl
theorem JZ:vw M (.bl b)=.bl b:=rfl
theorem zcW:vw M (.tup ds)=.tup ds:=rfl
theorem zcN:vw M (.lst ds)=.lst ds:=rfl
theorem vq (h:M[k]? =some (.lst ds)):vw M (.ref k)=.lst ds:=by unfold vw;simp only[h]
theorem ZK:cj f env M=n_ (fun d=>(gB d).map .bl) (f env M):=rfl
theorem Zy:C_ f env M=n_ (fun d=>(gB d).map fun b=>.bl (!b)) (f env M):=rfl
noncomputable def yX (r:O):O:=bnd r fun d M=>match d with
 |.bl b=>some (.v (.bl (!b)),M)
 |_=>none
theorem Zx:cD f env M=yX (f env M):=rfl
theorem zcZ:yX (some (.v (.bl b),M))=some (.v (.bl (!b)),M):=rfl
noncomputable def nU (k1 k2:Mm->O) (r:O):O:=bnd r fun d M=>match d with
 |.bl b=>if b=true then k1 M else k2 M
 |_=>none
theorem Y9:dD f g env M=nU (g env) (fun M=>some (.v (.bl false),M)) (f env M):=rfl
theorem Ie:lA f g env M=nU (fun M=>some (.v (.bl true),M)) (g env) (f env M):=rfl
theorem Zq:pD c f g env M=nU (f env) (g env) (c env M):=rfl
theorem zdc {k1 k2:Mm->O}:nU k1 k2 (some (.v (.bl b),M))=if b=true then k1 M else k2 M:=rfl
noncomputable def tu (d:D):Option (ResA×Mm)->Option (ResA×Mm)
 |some (.v ds,M2)=>some (.v (d::ds),M2)
 |some (.x c n,M2)=>some (.x c n,M2)
 |none=>none
noncomputable def K3 (k:Mm->Option (ResA×Mm)):O->Option (ResA×Mm)
 |some (.v d,M1)=>tu d (k M1)
 |some (.x c n,M1)=>some (.x c n,M1)
 |none=>none
theorem Zw:aq env M=some (.v [],M):=rfl
theorem Zh {fs:EA}:au f fs env M=K3 (fs env) (f env M):=rfl
theorem zci {q:Mm->Option (ResA×Mm)}:K3 q (some (.v d,M))=tu d (q M):=rfl
theorem zcv:tu d (some (.v ds,M))=some (.v (d::ds),M):=rfl
noncomputable def nu (o:List D->Option D) (r:Option (ResA×Mm)):O:=cW r fun ds M=>mapR M (o (ds.map (vw M)))
theorem Zv {o:List D->Option D}{fs:EA}:sN o fs env M=nu o (fs env M):=rfl
theorem r_n {o:List D->Option D}:nu o (some (.v ds,M))=mapR M (o (ds.map (vw M))):=rfl
noncomputable def nq (k:List D->Mm->O):Option (ResA×Mm)->O
 |some (.v ds,M)=>k ds M
 |some (.x c n,M)=>some (.x c n,M)
 |none=>none
theorem zcz {q:List D->Mm->O}:nq q (some (.v ds,M))=q ds M:=rfl
theorem ZL {fs:EA}:aV fs env M=nq (fun ds M1=>if ds.length<=sizeLine then some (.v (.tup ds),M1) else none) (fs env M):=rfl
theorem Zt {fs:EA}:aX fs env M=nq (fun ds M1=>if ds.length<=sizeLine then some (.v (.lst ds),M1) else none) (fs env M):=rfl
def Kq:O->O
 |some (.v d,M)=>some (.v d,M)
 |_=>none
theorem zbL:Kq (some (.v d,M))=some (.v d,M):=rfl
theorem Zb {u:G}{fs:EA}:cg u fs env M=nq (fun ds M1=>Kq (u ds M1)) (fs env M):=rfl
noncomputable def fZ (k:D->Mm->O):O->O
 |some (.v d,M)=>k d M
 |some (.x c n,M)=>some (.x c n,M)
 |none=>none
theorem zch {q:D->Mm->O}:fZ q (some (.v d,M))=q d M:=rfl
noncomputable def Ku (M:Mm):D->O
 |.lst ds=>some (.v (.ref M.length),M ++ [.lst ds])
 |_=>none
theorem zbf:Ku M (.lst ds)=some (.v (.ref M.length),M ++ [.lst ds]):=rfl
theorem Ze:rE f env M=fZ (fun d M1=>Ku M1 d) (f env M):=rfl
noncomputable def Nx (M:Mm):D->O
 |.lst ds=>some (.v (.lst ds),M)
 |.tup ds=>some (.v (.lst ds),M)
 |_=>none
theorem zbx:Nx M (.lst ds)=some (.v (.lst ds),M):=rfl
theorem Zr:CW f env M=fZ (fun d M1=>Nx M1 (vw M1 d)) (f env M):=rfl
noncomputable def Jj (d:D) (lo:Option Int):Option (Option Int×Mm)->O
 |some (hi,M3)=>mapR M3 (xP (vw M3 d) lo hi)
 |none=>none
noncomputable def QK (d:D) (k:Mm->Option (Option Int×Mm)):Option (Option Int×Mm)->O
 |some (lo,M2)=>Jj d lo (k M2)
 |none=>none
theorem Ig {l u:Env->Mm->Option (Option Int×Mm)}:xK f l u env M=fZ (fun d M1=>QK d (u env) (l env M1)) (f env M):=rfl
theorem zcK {lo:Option Int}{q:Mm->Option (Option Int×Mm)}:QK d q (some (lo,M))=Jj d lo (q M):=rfl
theorem zcM {lo hi:Option Int}:Jj d lo (some (hi,M))=mapR M (xP (vw M d) lo hi):=rfl
theorem ZC:xg env M=some (none,M):=rfl
noncomputable def zx:O->Option (Option Int×Mm)
 |some (.v (.int i),M)=>some (some i,M)
 |_=>none
theorem Zz:pA f env M=zx (f env M):=rfl
theorem zdg:zx (some (.v (.int i),M))=some (some i,M):=rfl
noncomputable def fG (k:D->Mm->OS):O->OS
 |some (.v d,M)=>k d M
 |some (.x c n,M)=>some (.ex c n,M)
 |none=>none
theorem zcB {q:D->Mm->OS}:fG q (some (.v d,M))=q d M:=rfl
theorem Za:aU k f env M=fG (fun d M1=>if k<env.length then some (.nx (env.set k (.val d)),M1) else none) (f env M):=rfl
noncomputable def Oa (k:Nat) (env:Env) (M:Mm):D->OS
 |.lst ds=>if k<env.length then some (.nx (env.set k (.own ds)),M) else none
 |_=>none
theorem zcs:Oa k env M (.lst ds)=if k<env.length then some (.nx (env.set k (.own ds)),M) else none:=rfl
theorem Zu:xJ k f env M=fG (fun d M1=>Oa k env M1 d) (f env M):=rfl
theorem ZD:aM f env M=fG (fun d M1=>some (.rt d,M1)) (f env M):=rfl
theorem Zi:CV f env M=fG (fun _ M1=>some (.nx env,M1)) (f env M):=rfl
noncomputable def MF (s t:Mm->OS) (M:Mm):D->OS
 |.bl b=>if b=true then s M else t M
 |_=>none
theorem Iu {q r:Mm->OS}:MF q r M (.bl b)=if b=true then q M else r M:=rfl
theorem H_:cC c s t env M=fG (fun d M1=>MF (s env) (t env) M1 d) (c env M):=rfl
noncomputable def yE (k:Nat) (env:Env) (M:Mm):Option Slot->OS
 |some (.own ds)=>some (.nx (env.set k (.val (.lst ds))),M)
 |_=>none
theorem Zm:lW k env M=yE k env M env[k]? :=rfl
theorem zcI:yE k env M (some (.own ds))=some (.nx (env.set k (.val (.lst ds))),M):=rfl
noncomputable def yd (k:Nat) (env:Env) (o:O):Option Slot->OS
 |some (.own ds)=>fG (fun d M1=>if ds.length<sizeLine then some (.nx (env.set k (.own (ds ++ [d]))),M1) else none) o
 |_=>none
theorem Y_:kE k f env M=yd k env (f env M) env[k]? :=rfl
theorem zcR {o:O}:yd k env o (some (.own ds))=fG (fun d M1=>if ds.length<sizeLine then some (.nx (env.set k (.own (ds ++ [d]))),M1) else none) o:=rfl
theorem Ai {ds0:List D}{M2:Mm}(h1:f env M=some (.v (.ref k),M1))(h2:M1[k]? =some (.lst ds0))(h3:g env M1=some (.v d,M2))(h4:M2[k]? =some (.lst ds))(hl:ds.length<sizeLine):fW f g env M=some (.nx env,M2.set k (.lst (ds ++ [d]))):=by
 simp only[fW,bJ,h1,h2,h3,h4,hl,xbi]
noncomputable def forR (k:Nat) (t:S) (env:Env):Option (ResA×Mm)->OS
 |some (.v ds,M1)=>loopS k t ds env M1
 |some (.x c n,M1)=>some (.ex c n,M1)
 |none=>none
theorem Zk {fs:EA}:gw k fs t env M=forR k t env (fs env M):=rfl
theorem zcT:forR k t env (some (.v ds,M))=loopS k t ds env M:=rfl
noncomputable def yQ:O->Option (ResA×Mm)
 |some (.v (.lst ds),M1)=>some (.v ds,M1)
 |some (.x c n,M1)=>some (.x c n,M1)
 |_=>none
theorem Zn:bR f env M=yQ (f env M):=rfl
theorem zcg:yQ (some (.v (.lst ds),M))=some (.v ds,M):=rfl
noncomputable def Px:Option (ResA×Mm)->Option (ResA×Mm)
 |some (.v [.int j],M1)=>if -1000000000<=j/\j<=1000000000 then some (.v ((List.range j.toNat).map fun(k:Nat)=>.int (0 + k)),M1) else none
 |some (.x c n,M1)=>some (.x c n,M1)
 |_=>none
theorem ZF {fs:EA}:wU fs env M=Px (fs env M):=rfl
theorem zcn (h: -1000000000<=i/\i<=1000000000):Px (some (.v [.int i],M))=some (.v ((List.range i.toNat).map fun(k:Nat)=>.int (0 + k)),M):=xac h
theorem HY {m:Nat}{t:S}:b_ m t ds M=cX (t (ds.map .val ++ List.replicate (m - ds.length) .un) M):=rfl
theorem zb8:cX (some (.rt d,M))=some (.v d,M):=rfl
theorem zcl {e:Env}:cX (some (.nx e,M))=some (.v .non,M):=rfl
theorem Wq:aW (.int i) (.int j)=some (.int (i + j)):=rfl
theorem Wr:aW (.lst ds) (.lst es)=if ds.length + es.length<=sizeLine then some (.lst (ds ++ es)) else none:=rfl
theorem W5:dN (.int i) (.int j)=some (.int (i - j)):=rfl
theorem WW:gk (.int i) (.int j)=if i.natAbs<18446744073709551616\/j.natAbs<18446744073709551616\/(i.natAbs.log2<10000/\j.natAbs.log2<10000) then some (.int (i * j)) else none:=rfl
theorem Wy:lq (.int i) (.int j)=if 0<j/\j.natAbs<1073741824 then some (.int (i / j)) else none:=rfl
theorem WT:oMod (.int i) (.int j)=if 0<j then some (.int (i % j)) else none:=rfl
theorem W2:bY (.int i)=some (.int (-i)):=rfl
theorem Hv:aG .lt (.int i) (.int j)=some (.bl (decide (i<j))):=rfl
theorem Ht:aG .le (.int i) (.int j)=some (.bl (decide (i<=j))):=rfl
theorem Hr:aG .gt (.int i) (.int j)=some (.bl (decide (j<i))):=rfl
theorem Wu:aG .eq (.int i) (.int j)=some (.bl (decide (i=j))):=by
 show(pR _ _).map D.bl=_
 simp[pR,d9,D.flat,D.dep,D.eq]
 rw[xbz];simp
theorem WY:aG .ne (.int i) (.int j)=some (.bl (!decide (i=j))):=by
 show(nF _ _).map D.bl=_
 simp[nF,d9,D.flat,D.dep,D.eq]
 rw[xbz];simp
theorem WX (h:D.deps ds<=49):aG .ne (.lst ds) (.lst [])=some (.bl (!ds.isEmpty)):=by
 show(nF _ _).map D.bl=_;unfold nF;rw[xac ⟨by simp[d9,D.flat,D.dep,D.deps],by show D.deps ds + 1<=50;lia⟩];cases ds<;>rfl
theorem Wv (h:d.dep<=50):aG .eq d d=some (.bl true):=by
 show(pR d d).map D.bl=_;unfold pR;rw[xac ⟨by simp[d9,h],h⟩,D.eq_refl];rfl
theorem Ci (h:d.dep<=50):aG .ne d d=some (.bl false):=by
 show(nF d d).map D.bl=_;unfold nF;rw[xac ⟨by simp[d9,h],h⟩,D.eq_refl];rfl
theorem Wz:aH (.lst ds) (.int i)=cL ds i:=rfl
theorem WK:aH (.tup ds) (.int i)=cL ds i:=rfl
theorem WL:fB [.lst ds]=some (.int ds.length):=rfl
theorem WM:fB [.tup ds]=some (.int ds.length):=rfl
theorem WR:h_ [.int i,.int j]=some (.int (if j<i then j else i)):=rfl
theorem WQ:lJ [.int i,.int j]=some (.int (if j > i then j else i)):=rfl
theorem W6:gB (.bl b)=some b:=rfl
theorem W4 {lo hi:Option Int}:xP (.str z) lo hi=if z.length<=sizeLine then some (.str (Txt.slice z lo hi)) else none:=rfl
theorem W3 {lo hi:Option Int}:xP (.lst ds) lo hi=some (.lst (dM ds lo hi)):=rfl
end
noncomputable def Step (J:Env->Mm->Prop) (Q:OS->Prop):OS->Prop
 |some (.nx e,M)=>J e M
 |some (.ct e,M)=>J e M
 |some (.bk e,M)=>Q (some (.nx e,M))
 |some (.rt d,M)=>Q (some (.rt d,M))
 |some (.ex c n,M)=>Q (some (.ex c n,M))
 |none=>False
theorem V1 {i:Nat}{body:S}{ds:List D}{env:Env}{M:Mm}(Q:OS->Prop)(J:Nat->Env->Mm->Prop)(h0:J 0 env M)
    (hs:∀(k:Nat) d env M,ds[k]? =some d->J k env M->i<env.length/\Step (J (k + 1)) Q (body (env.set i (.val d)) M)) (hd:∀env M,J ds.length env M->Q (some (.nx env,M))):Q (loopS i body ds env M):=by
  have key:∀(m k:Nat) (env:Env) (M:Mm),m + k=ds.length->J k env M->Q (loopS i body (ds.drop k) env M):=by
    intro m
    induction m with
    |zero=>
      intro k env M hk hJ;have e:k=ds.length:=by lia
      subst e;rw[xc7];exact hd env M hJ
    |succ m ih=>
      intro k env M hk hJ;have hlt:k<ds.length:=by lia
      obtain⟨hi,h1⟩:=hs k ds[k] env M (xah hlt) hJ;rw[xaO hlt];simp only[loopS,hi,xbi]
      cases e:body (env.set i (.val ds[k])) M with
      |none=>rw[e]at h1;exact h1.elim
      |some o=>
        rw[e]at h1;obtain⟨o,M'⟩:=o
        cases o with
        |nx e'=>exact ih (k + 1) e' M' (by lia) h1
        |ct e'=>exact ih (k + 1) e' M' (by lia) h1
        |bk e'=>exact h1
        |rt d=>exact h1
        |ex c n=>exact h1
  have:=key ds.length 0 env M (by lia) h0
  rwa [xb9]at this
end E3
namespace E3
open PySem PySem.Spec PyProof.Rows L2
noncomputable def XN (H:Hp) (n:Int):Option Addr->Prop
 |none=>n=0
 |some d=>∃fs,H d=some (.xd fs)/\fs.lookup ("at":Str)=some (.int (n - 1))/\n≠0
noncomputable def XQ (K:Fgx) (mg:Mgx) (P:Pl) (H:Hp) (M':Mm) (Q:VK) (E:XK):Res->Prop
 |.v d=>∀P' v H',LtE P H P' H'->Hk K mg P' H' M'->Is K P' H' d v->Q v H'
 |.x c n=>∀P' H' C dx,LtE P H P' H'->Hk K mg P' H' M'->mg c=some (.ref C)->XN H' n dx->E (.ref C) dx H'
noncomputable def Dz (K:Fgx) (mg:Mgx) (n:Nat) (g:G):Sp:=fun vs H Q E=>vs.length=n/\∃P M ds r M',Hk K mg P H M/\aC K P H ds vs/\g ds M=some (r,M')/\XQ K mg P H M' Q E r
theorem aC.away {K:Fgx}{P:Pl}{H H':Hp}(s:∀b o,H b=some o->(∀g,o≠ .ext g)->H' b=some o){ds:List D}{vs:List V}(h:aC K P H ds vs):aC K P H' ds vs:=
 aC.rd (fun _ _=>xd4 (fun q=>s _ _ q fun _ z=>nomatch z) fun⟨o,q⟩=>⟨o,s _ _ q fun _ z=>nomatch z⟩) (fun _ _=>xd4 (fun q=>s _ _ q fun _ z=>nomatch z) fun⟨o,q⟩=>⟨o,s _ _ q fun _ z=>nomatch z⟩) h
theorem Hk.away {K:Fgx}{mg:Mgx}{P:Pl}{H H':Hp}{M:Mm}(h:Hk K mg P H M)(s:∀b o,H b=some o->(∀g,o≠ .ext g)->H' b=some o)(t:∀b,H' b=none->H b=none):Hk K mg P H' M:=by
 refine⟨h.n,fun k c e=>?_,h.inj,h.bd,fun a z q=>h.here a z (t a q)⟩;exact(h.cell k c e).up (fun o e n=>s _ _ e n) (fun b o u e=>s b _ e fun _ z=>nomatch z) fun _ _ q=>aC.away s q
structure XFit (X:Cx)(Wx:XW):Prop where
 xr:∀pins σ H s a C dx c n P0 H0 P M,Inv X pins σ H s->H a=some (xo a C dx true)->¬ P.bd a->H0 a=none->LtE P0 H0 P H->Hk X.K X.mg P H M->X.mg c=some (.ref C)->XN H n dx->Wx P0 H0 M c n->X.xe (.ref a) s
section
variable {P:Program}{w:World}{K:Fgx}{mg:Mgx}{base:Heap}{k:Nat}{x qual:Str}{st:Stmt}{f:Addr}{fd:FuncData}{N ps:List Str}{b:S}
theorem Uw (F:FnOk P w K mg base (wj P w) k f fd ps sp):FnOk P w K mg base fP k f fd ps (fun vs H Q _=>sp vs H Q E0):=
 ⟨fun vs H Q E h=>F.len vs H Q E0 h,fun A outer s H args us vs Q E hr he hb hv hs=>xcc (F.run A outer s H args us vs Q E0 hr he hb hv hs) fun r s' z=>by
  cases r with
  |error e=>obtain⟨_,_,_,_,_,_,_,_,_,_,_,_,_,_,z⟩:=z;exact z
  |ok fl=>cases fl<;>exact z⟩
theorem Gk (F:FnOk P w K mg base (wj P w) k f fd ps (Dz K mg n g)):FnOk P w K mg base fP k f fd ps (mY K mg n g):=by
 have F0:=Uw F;refine⟨fun vs H Q E h=>F0.len vs H Q E ?_,fun A outer s H args us vs Q E hr he hb hv hs=>F0.run A outer s H args us vs Q E hr he hb hv ?_⟩
 ·obtain⟨hl,P,M,ds,d,M',hk,is,e,q⟩:=h;exact⟨hl,P,M,ds,.v d,M',hk,is,e,q⟩
 ·obtain⟨hl,P,M,ds,d,M',hk,is,e,q⟩:=hs;exact⟨hl,P,M,ds,.v d,M',hk,is,e,q⟩
def fj (P:Program)(w:World)(K:Fgx)(mg:Mgx)(base:Heap)(k:Nat)(C:Addr)(m:Str)(n:Nat)(g:G):Prop:=
 ∃f fd ps,Meth K C m f/\FnOk P w K mg base (wj P w) k f fd ps (Dz K mg n g)/\Binds K fd ps []
def eZ (P:Program)(w:World)(K:Fgx)(mg:Mgx)(base:Heap)(k:Nat)(C:Addr)(n:Nat)(g:G):Prop:=
 ∃f fd ps,Mk K C f/\FnOk P w K mg base (wj P w) k f fd ps (Dz K mg n g)/\Binds K fd ps []
def pP (P:Program)(w:World)(K:Fgx)(mg:Mgx)(base:Heap)(k:Nat)(f:Str)(n:Nat)(g:G):Prop:=
 ∃fa fd ps,mg f=some (.ref fa)/\PySem.W.keepIn K (.ref fa)=true/\FnOk P w K mg base (wj P w) k fa fd ps (Dz K mg n g)/\Binds K fd ps []
theorem fj.quiet (a:fj P w K mg base k C m n g):cQ P w K mg base k C m n g:=by
 obtain⟨f,fd,ps,h1,h2,h3⟩:=a;exact⟨f,fd,ps,h1,Gk h2,h3⟩
theorem eZ.quiet (a:eZ P w K mg base k C n g):mj P w K mg base k C n g:=by
 obtain⟨f,fd,ps,h1,h2,h3⟩:=a;exact⟨f,fd,ps,h1,Gk h2,h3⟩
theorem pP.quiet (a:pP P w K mg base k x n g):bH P w K mg base k x n g:=by
 obtain⟨fa,fd,ps,h1,h2,h3,h4⟩:=a;exact⟨fa,fd,ps,[],[],_,h1,h2,Gk h3,h4,.nil,fun vs H Q E h=>by rw[xaE];exact h⟩
theorem fj.mono (a:fj P w K mg base j C m n g)(h:j<=k):fj P w K mg base k C m n g:=by
 obtain⟨f,fd,ps,h1,h2,h3⟩:=a;exact⟨f,fd,ps,h1,h2.mono h,h3⟩
theorem eZ.mono (a:eZ P w K mg base j C n g)(h:j<=k):eZ P w K mg base k C n g:=by
 obtain⟨f,fd,ps,h1,h2,h3⟩:=a;exact⟨f,fd,ps,h1,h2.mono h,h3⟩
theorem pP.mono (a:pP P w K mg base j x n g)(h:j<=k):pP P w K mg base k x n g:=by
 obtain⟨f,fd,ps,h1,h2,h3,h4⟩:=a;exact⟨f,fd,ps,h1,h2,h3.mono h,h4⟩
end
end E3
namespace L2
open PySem PySem.Spec PyProof.Rows
section
variable {X:Cx}{CX:eV}{k:Nat}{f C:Addr}{fd:FuncData}{ps:List Str}{sp:Sp}{x m:Str}{p pos apos:Pos}{e o:Expr}{es:List Expr}{ta:TE}{t:TA}{Ex:St->XK}
def R5 (CX:eV)(X:Cx)(Ex:St->XK):Prop:=∀pins σ H s e s',Inv X pins σ H s->CX X.stack H s (Ex σ) e s'->X.xe e s'
end
end L2
namespace E3
open PySem PySem.Spec PyProof.Rows L2
section
variable {X:Cx}{Wx:XW}{pos:Pos}
def SX (X:Cx)(e:Expr)(f:E):Prop:=∀Ex:L2.St->XK,R5 (wj X.prog X.w) X Ex->PE X e fun st H Q=>∃P0 H0 P Os env M r M',Ok X.K X.mg P0 H0 P Os H M st env/\f env M=some (r,M')/\XQ X.K X.mg P H M' Q (Ex st) r
noncomputable def zdk (K:Fgx) (mg:Mgx) (E:XK) (P0:Pl) (H0:Hp) (P:Pl) (H:Hp) (M':Mm) (D:Ends):Out->Prop
 |.ex c n=>∀P' H' C dx,LtE P H P' H'->Hk K mg P' H' M'->mg c=some (.ref C)->XN H' n dx->E (.ref C) dx H'
 |.nx env=>Post K mg W0 P0 H0 P H M' D (.nx env)
 |.bk env=>Post K mg W0 P0 H0 P H M' D (.bk env)
 |.ct env=>Post K mg W0 P0 H0 P H M' D (.ct env)
 |.rt d=>Post K mg W0 P0 H0 P H M' D (.rt d)
end
end E3
namespace L2
open PySem PySem.Spec PyProof.Rows
end L2
namespace E3
open PySem PySem.Spec PyProof.Rows L2
theorem zcx {K:Fgx}{C:Addr}(h1:PySem.W.findIn K (.ref C) "__getattribute__"=some (some (.builtin "BaseException.__getattribute__")))(h2:PySem.W.findIn K (.ref C) "__getattr__"=some none)(h3:PySem.W.mroIn K C (.type "BaseException")=some true):Ec K C=true:=by
 simp only[Ec,h1,h2,h3,xbF,xc2]
theorem zcC {K:Fgx}{C:Addr}(h1:Ec K C=true)(h2:PySem.W.hasDictIn K C=true)(h3:PySem.W.findIn K (.ref C) "__class__"=some (some (.builtin "object.__class__")))(h4:PySem.W.specialIn K (.builtin "object.__class__") "__get__"=some (some (.builtin "getset_descriptor.__get__")))
  (h5:PySem.W.takesIn K (.builtin "object.__class__")=some true) (h6:PySem.W.mroIn K C (.type "object")=some true):Ed K C=true:=by
 simp only[Ed,h1,h2,h3,h4,h5,h6,xbF,xc2]
end E3
namespace E3
open PySem L2
section
variable {env:Env}{M M1 M2:Mm}{f g o v:E}{d e x:D}{i:Int}{k:Nat}{ds:List D}{s t:S}{c me fl:Str}{fs:List (Str×D)}{gg:G}{fa:EA}
theorem Hx (h:M[k]? =some (.obj c fs)):tW M c (.ref k)=some (k,fs):=by unfold tW;simp only[h,xbi]
theorem Bh (h1:o env M=some (.v (.ref k),M1))(h2:M1[k]? =some (.obj c fs))(h3:fs.lookup fl=some x):bN c fl o env M=some (.v x,M1):=by
 simp only[bN,bnd,h1,Hx h2,h3,xbJ]
theorem Lw (h1:v env M=some (.v x,M1))(h2:o env M1=some (.v (.ref k),M2))(h3:M2[k]? =some (.obj c fs))(h4:fs.length<1000):eY c fl o v env M=some (.nx env,M2.set k (.obj c (putD fl x fs))):=by
 simp only[eY,bJ,h1,h2,Hx h3,h4,xbi]
theorem gP (h1:o env M=some (.v (.ref k),M1))(h2:M1[k]? =some (.obj c fs))(h3:fs.lookup me=none)(h4:fa env M1=some (.v ds,M2))(h5:gg (.ref k::ds) M2=some (.v x,M3)):bx c me gg o fa env M=some (.v x,M3):=by
 simp only[bx,bnd,h1,Hx h2,h3,xbi,cW,h4,h5]
theorem V6 (h4:fa env M=some (.v ds,M1))(h5:gg (.ref M1.length::ds) (M1 ++ [.obj c []])=some (.v .non,M3)):u5 c gg fa env M=some (.v (.ref M1.length),M3):=by
 simp only[u5,cW,h4,h5]
end
theorem mj.mono (a:mj P w K mg base j C n g)(h:j<=k):mj P w K mg base k C n g:=by
 obtain⟨f,fd,ps,h1,h2,h3⟩:=a;exact⟨f,fd,ps,h1,h2.mono h,h3⟩
end E3
namespace E3
open PySem PySem.Spec PyProof.Rows L2
theorem cT (hN:X.N[i]? =some x)(hv:wC X.env.scope x)(hd:(x==("__debug__":Str))=false:=by x_go)(hcd:(x==("__classdict__":Str))=false:=by x_go):SE X Wx m (.Name x pos) (aj i):=(Qz hN hv hd hcd).bor
noncomputable def bW (cs:List (Str×Nat)) (env:Env):Env:=cs.map fun p=>(env[p.2]?).getD .un
noncomputable def i_ (cs:List (Str×Nat)) (Os:List (Option Addr)):List (Option Addr):=cs.map fun p=>(Os[p.2]?).join
section
variable {K:Fgx}{mg:Mgx}{P0 P:Pl}{H0 H:Hp}{M:Mm}{Os:List (Option Addr)}{st:L2.St}{env:Env}{d:D}{v:V}
theorem FJ {cs:List (Str×Nat)}{i:Nat}{a:Addr}(h:(i_ cs Os)[i]? =some (some a)):∃p,cs[i]? =some p/\Os[p.2]? =some (some a):=by
 unfold i_ at h;rw[xao,xak]at h;obtain⟨p,e,h⟩:=h;exact⟨p,e,nW h⟩
theorem Ok.cap {cs:List (Str×Nat)}(k:Ok K mg P0 H0 P Os H M st env)(nd:(cs.map (·.2)).Nodup)(h:Is K P H d v):Ok K mg P0 H0 P (none::i_ cs Os) H M (some v::dJ cs st) (.val d::bW cs env) where
  hk:=k.hk
  base:=k.base
  b0:=k.b0
  slot:=fun i s e=>by
    cases i with
    |zero=>cases e;exact⟨v,rfl,h⟩
    |succ i=>
      rw[xcj]at e ⊢;rw[xcj];unfold bW at e;rw[xao,xak]at e;obtain⟨p,ep,e⟩:=e;have eo:((i_ cs Os)[i]?).join=(Os[p.2]?).join:=by unfold i_;rw[xao,ep];rfl
      have es:((dJ cs st)[i]?).join=(st[p.2]?).join:=by unfold dJ;rw[xao,ep];rfl
      rw[eo,es]
      cases e':env[p.2]? with
      |none=>rw[e']at e;cases e;exact True.intro
      |some s'=>rw[e']at e;cases e;exact k.slot _ _ e'
  own:=fun a h=>by
    rw[xar]at h;rcases h with h |h
    · cases h
    · obtain⟨i,hi⟩:=xd5.mp h;obtain⟨p,_,e⟩:=FJ hi;exact k.own a (xaT e)
  inj:=fun i j a e1 e2=>by
    cases i with
    |zero=>cases e1
    |succ i=>
      cases j with
      |zero=>cases e2
      |succ j=>
        rw[xcj]at e1 e2;obtain⟨p,h1,h2⟩:=FJ e1;obtain⟨q,h3,h4⟩:=FJ e2;have e:=k.inj _ _ a h2 h4;congr 1;have hi:(cs.map (·.2))[i]? =some p.2:=by rw[xao,h1];rfl
        have hj:(cs.map (·.2))[j]? =some p.2:=by rw[xao,h3,e];rfl
        have il:=(xaz.mp hi).1;exact(List.getElem?_inj il nd).mp (hi.trans hj.symm)
  olen:=by simp[i_,bW]
  slen:=by simp[dJ,bW]
end
section
variable {X:Cx}{Wx:XW}{m:Mode}{pos:Pos}
noncomputable def eH (q e:E) (env:Env):List D->List D->Mm->Option (List D×Mm)
  | [],acc,M=>some (acc,M)
  |d::ds,acc,M=>match q (.val d::env) M with
    | some (.v (.bl true), M1) => (match e (.val d::env) M1 with
      |some (.v y,M2)=>if acc.length + 1<sizeLine then eH q e env ds (acc ++ [y]) M2 else none
      |_=>none)
    |some (.v (.bl false),M1)=>eH q e env ds acc M1
    |_=>none
noncomputable def kI (cs:List (Str×Nat)) (fs:EA) (q e:E):E:=fun env M=>match fs env M with
  | some (.v ds, M1) => (match eH q e (bW cs env) ds [] M1 with
    |some (ys,M2)=>some (.v (.lst ys),M2)
    |none=>none)
  |some (.x c n,M1)=>some (.x c n,M1)
  |none=>none
theorem yp:∀env M r M',kI cs fs q e env M=some (.v r,M')->∃ds,r=.lst ds:=fun env M r M' h=>by
 unfold kI at h;split at h
 ·split at h
  ·cases h;exact⟨_,rfl⟩
  ·cases h
 ·cases h
 ·cases h
theorem Mv {K:Fgx}{mg:Mgx}{P1 P:Pl}{H1 H:Hp}{M:Mm}{D:Addr}{vs vs':List V}(l:LtE P1 H1 P H)(h:Hk K mg P H M)(hD:H1 D=none)(bD:P.bd D)(nc:∀k,k<P.n->P.io k≠D)(e:H D=some (.lst vs)):
  Lt P H P (upd H D (.lst vs'))/\LtE P1 H1 P (upd H D (.lst vs'))/\Hk K mg P (upd H D (.lst vs')) M:=by
 have lc:Lt P H P (upd H D (.lst vs')):=wV bD e Hq;refine⟨lc,⟨l.n,l.io,l.bd,l.bm,fun c o ec n=>?_,fun c z=>l.sure c (lc.sure c z),l.nw⟩,⟨h.n,fun j c ej=>(h.cell j c ej).lt lc fun o eo=>?_,h.inj,h.bd,fun c z q=>h.here c z (lc.sure c q)⟩⟩
 ·rw[bT (fun z=>by subst z;rw[hD]at ec;cases ec)];exact l.keep c o ec n
 ·rw[bT (nc j (by rw[h.n];exact(xaz.mp ej).1))];exact eo
noncomputable def NR (K:Fgx) (mg:Mgx) (Wx:XW) (P0:Pl) (H0:Hp) (P:Pl) (H:Hp) (M':Mm) (R:Addr->Hp->Prop):Res->Prop
 |.v d=>∃ds,d=.lst ds/\∀P' a vs H',LtE P H P' H'->Hk K mg P' H' M'->H a=none->P'.bd a->(∀k,k<P'.n->P'.io k≠a)->H' a=some (.lst vs)->aC K P' H' ds vs->R a H'
 |.x c n=>Wx P0 H0 M' c n
theorem FZ {K:Fgx}{mg:Mgx}{cs:List (Str×Nat)}{fs:EA}{q e:E}{P0 P:Pl}{H0 H:Hp}{Os:List (Option Addr)}{M M':Mm}{st:L2.St}{env:Env}{r:Res}{R:Addr->Hp->Prop}(nd:(cs.map (·.2)).Nodup)
    (k:Ok K mg P0 H0 P Os H M st env) (h:kI cs fs q e env M=some (r,M')) (w:NR K mg Wx P0 H0 P H M' R r):xR (tI K mg Wx fs) (m7 K mg W0 q) (tE K mg W0 .val e) cs st H R:=by
  unfold kI at h;split at h
  · rename_i ds M1 ef;split at h
    rotate_left
    · cases h
    rename_i ys M2 ec;cases h;obtain ⟨ds', e', w⟩ := w;cases e';refine ⟨P0, H0, P, Os, env, M, _, _, k, ef, fun P1 H1 J l1 h1 wk D hD => ?_⟩;obtain ⟨l2, h2, nc⟩ := sW (vs := []) h1 hD;refine ⟨fun i m vs H2=>m=ds.length - i/\i<=ds.length/\∃P2 M3 acc,LtE P1 H1 P2 H2/\Hk K mg P2 H2 M3/\P2.bd D/\(∀k,k<P2.n->P2.io k≠D)/\H2 D=some (.lst vs)/\aC K P2 H2 acc vs/\acc.length<sizeLine/\eH q e (bW cs env) (ds.drop i) acc M3=some (ys,M'),
      ⟨ds.length,by simp,xaS _,P1.bar D,M1,[],l2,h2,.inr rfl,nc,dw,rfl,by x_go,by rw[xb9];exact ec⟩,?_⟩
    rintro i m vs H2 ⟨rfl,hi,P2,M3,acc,l3,h3,bD,nD,eD,is,hz,ec⟩;refine⟨eD,?_⟩;obtain⟨w1,w2,w3⟩:=wk P2 H2 (l3.lt h1)
    by_cases hlt:i<ds.length
    · refine .inr ⟨w1 i hlt,by rw[is.len];exact hz,fun vs' H'=>∃P2 M3 acc,LtE P1 H1 P2 H'/\Hk K mg P2 H' M3/\P2.bd D/\(∀k,k<P2.n->P2.io k≠D)/\H' D=some (.lst vs')/\aC K P2 H' acc vs'/\acc.length<sizeLine/\eH q e (bW cs env) (ds.drop (i + 1)) acc M3=some (ys,M'),
        fun vs' H' z=>⟨ds.length - (i + 1),Nat.sub_lt_sub_left hlt (xba i),rfl,hlt,z⟩,fun x H' y=>?_⟩
      obtain⟨e3,d,ed,iv⟩:=w3 i x H' y hlt;subst e3;have ed':ds.drop i=d::ds.drop (i + 1):=by
        rw[xaO hlt];rw[xah hlt]at ed;rw[xaD ed]
      rw[ed']at ec;have kk:=((k.next l1 h1).next l3 h3).cap (cs:=cs) nd iv
      simp only[eH]at ec;split at ec
      · rename_i M4 eq;refine fX kk eq ⟨true,rfl,fun P4 H4 l4 h4=>?_⟩;dsimp only;rw[xac rfl];split at ec
        · rename_i y' M5 ee;split at ec
          · rename_i hz';refine bf (kk.next l4 h4) ee fun P5 v5 H5 l5 h5 i5=>?_
            have l45:=l4.trans l5;have eD5:H5 D=some (.lst vs):=l45.keep D _ eD (.inr nD);have nD5:∀k,k<P5.n->P5.io k≠D:=l45.nc eD nD;obtain⟨g1,g2,g3⟩:=Mv (vs':=vs ++ [v5]) (l3.trans l45) h5 hD (l45.bm D bD) nD5 eD5;refine⟨eD5,P5,M5,acc ++ [y'],g2,g3,l45.bm D bD,nD5,dw,aC.append (aC.lt ((l45.lt h3).trans g1) is) (aC.one (Is.lt g1 i5)),by rw[xaj];exact hz',ec⟩
          · cases ec
        · cases ec
      · rename_i M4 eq;refine fX kk eq ⟨false,rfl,fun P4 H4 l4 h4=>?_⟩;dsimp only;rw[xae (by decide)];exact⟨P4,M4,acc,l3.trans l4,h4,l4.bm D bD,l4.nc eD nD,l4.keep D _ eD (.inr nD),aC.lt (l4.lt h3) is,hz,ec⟩
      · cases ec
    · have ei:i=ds.length:=by lia
      subst ei;rw[xc7]at ec;cases ec;exact .inl ⟨w2 _ (xad _) (xad _),w P2 D vs H2 (l1.trans l3) h3 (l1.sure D hD) bD nD eD is⟩
  · rename_i c n M1 ef;cases h;exact⟨P0,H0,P,Os,env,M,_,_,k,ef,w⟩
  · cases h
def SQ (X:Cx)(ifs:List Expr)(q:E):Prop:=fY X ifs (m7 X.K X.mg W0 q)
theorem DG:SQ X [] (ak (.bl true)):=fun pins s σ H Q I h=>by
 obtain⟨P0,H0,P,Os,env,M,r,M',k,e,q⟩:=h;cases e;obtain⟨b,e2,q⟩:=q;cases e2;exact Yt pins s σ H Q I (q P H (LtE.refl P H) k.hk)
theorem Jl (h:ST X W0 c q):SQ X [c] q:=Yu h
section
variable {elt iter:Expr}{ifs:List Expr}{scope:Scope}{fs:EA}{q e:E}
theorem Dw (x:Str)(cs:List (Str×Nat))(hc:X.calm=true)(nd:(cs.map (·.2)).Nodup)(hi:SI X Wx (.Name x px) iter fs)
  (hq:∀(cl:List (Str×Addr)) (C:Addr) (s₀:Shared) (H₀:Hp) (ex:List Addr) (pn:Pnx),SQ (cN X (x::cs.map (·.1)) scope cl C s₀ H₀ ex pn) ifs q)
  (he:∀(cl:List (Str×Addr)) (C:Addr) (s₀:Shared) (H₀:Hp) (ex:List Addr) (pn:Pnx),SE (cN X (x::cs.map (·.1)) scope cl C s₀ H₀ ex pn) W0 .val elt e)
  (ok:wG X.N X.env.scope x cs scope=true:=by kernel_rfl) (hs:∀x,foldedSetIterable iter X.env x=pure x:=by intro _;rfl):
  SN X Wx (.ListComp elt [⟨.Name x px,iter,ifs,0⟩] scope pos) (kI cs fs q e):=by
 refine cA (Oz (tq:=m7 X.K X.mg W0 q) (te:=tE X.K X.mg W0 .val e) x cs hc hi hq he ok hs) ?_;rintro st H Q ⟨P0,H0,P,Os,env,M,r,M',k,e,w⟩;refine FZ nd k e ?_
 cases r with
 |v d=>exact w
 |x c n=>exact w
theorem Uz {K:Fgx}{mg:Mgx}{P P':Pl}{H H':Hp}{M M':Mm}{a:Addr}{vs:List V}{ds:List D}(k:Hk K mg P H M)(l:LtE P H P' H')(h:Hk K mg P' H' M')(ha:H a=none)(nc:∀j,j<P'.n->P'.io j≠a)(ea:H' a=some (.lst vs))(is:aC K P' H' ds vs):
  LtE P H (P'.less (· ≠a)) H'/\Hk K mg (P'.less (· ≠a)) H' M'/\Is K (P'.less (· ≠a)) H' (.lst ds) (.ref a):=by
 have l2 : Lt P' H' (P'.less (· ≠ a)) H' := ⟨xad _, fun _ _ => rfl, fun c z => .inl z.1, fun _ _ e _ => e, fun _ z => z⟩;exact ⟨⟨l.n,l.io,fun b z=>l.bd b z.1,fun b z=>⟨l.bm b z,fun q=>k.here b z (q ▸ ha)⟩,l.keep,l.sure,l.nw⟩,
  ⟨h.n,fun j c e=>(h.cell j c e).lt l2 fun _ z=>z,h.inj,fun j hj=>⟨h.bd j hj,nc j hj⟩,fun b z=>h.here b z.1⟩,
  a,vs,rfl,.inl ⟨fun z=>z.2 rfl,.inl ea⟩,aC.less is⟩
theorem zbV (x:Str)(cs:List (Str×Nat))(hN:X.N.Nodup)(hk:X.N[i]? =some y)(hy:Loc X.env.scope y)(hc:X.calm=true)(nd:(cs.map (·.2)).Nodup)(hi:SI X Wx (.Name x px) iter fs)
  (hq:∀(cl:List (Str×Addr)) (C:Addr) (s₀:Shared) (H₀:Hp) (ex:List Addr) (pn:Pnx),SQ (cN X (x::cs.map (·.1)) scope cl C s₀ H₀ ex pn) ifs q)
  (he:∀(cl:List (Str×Addr)) (C:Addr) (s₀:Shared) (H₀:Hp) (ex:List Addr) (pn:Pnx),SE (cN X (x::cs.map (·.1)) scope cl C s₀ H₀ ex pn) W0 .val elt e)
  (ok:wG X.N X.env.scope x cs scope=true:=by kernel_rfl) (hs:∀x,foldedSetIterable iter X.env x=pure x:=by intro _;rfl)
  (hsw:swapsWith (.ListComp elt [⟨.Name x px,iter,ifs,0⟩] scope pos) (some (.Name y py)) spos.line X.env=pure true:=by rfl)
  (hf:X.fn y=true\/X.env.scope.names.lookup y=some .local:=by first |exact .inl rfl |exact .inr rfl):
  SS X Wx (.Assign [.Name y py] (.ListComp elt [⟨.Name x px,iter,ifs,0⟩] scope pos) spos) (aU i (kI cs fs q e)):=by
 refine gq (YG (tq:=m7 X.K X.mg W0 q) (te:=tE X.K X.mg W0 .val e) x cs hN hk hy hc hi hq he ok hs hsw hf) ?_;rintro D st H ⟨P0,H0,P,Os,env,M,out,M',k,ee,w⟩;unfold aU at ee;rcases fQ ee with⟨d,M1,e1,ee⟩ |⟨c,n,e1,rfl⟩
 ·obtain⟨ds,rfl⟩:=yp _ _ _ _ e1;split at ee
  ·rename_i hl;cases ee;refine FZ nd k e1 ⟨ds,rfl,fun P1 a vs H1 l1 h1 ha ba nc ea is=>?_⟩;obtain⟨l2,h2,i2⟩:=Uz k.hk l1 h1 ha nc ea is;exact w _ _ _ _ (l2.lt k.hk) ((k.next l2 h2).asg hl i2)
  ·cases ee
 ·exact FZ nd k e1 w
end
end
noncomputable def toKey:D->Option Key
 |.int i=>some (.inl i)
 |.str z=>some (.inr z)
 |_=>none
section
variable {X:Cx}{Wx:XW}{m:Mode}{pos:Pos}
inductive ResP where
 |v (ps:List (D×D)) |x (c:Str) (n:Int)
noncomputable def keysOf:List (D×D)->Option (List (Key×D))
  | []=>some []
  |p::ps=>match toKey p.1,keysOf ps with
    |some k,some r=>some ((k,p.2)::r)
    |_,_=>none
noncomputable def dY (M:Mm) (d:D):String:=match d with
  | .ref k => (match M[k]? with
    |some (.lst _)=>"list"
    |some (.dct _)=>"dict"
    |_=>"")
  |d=>z_ d
noncomputable def dW (tb:String->String->Option Bool) (T:String) (f:E):E:=fun env M=>bnd (f env M) fun d M1=>if dY M1 d="" then none else(tb (dY M1 d) T).map fun b=>(.v (.bl b),M1)
theorem S8:dz X (.builtin "isinstance") (fun xs H Q=>∃(x:V) (T:String) (d:D) (P:Pl) (M:Mm) (b:Bool),xs=[x,.ty T]/\Hk X.K X.mg P H M/\cF X.K P H d x/\dY M d≠""/\PySem.W.kitOne X.K (.type (dY M d)) (.type T)=some b/\Q (.bl b) H):=by
  intro pins s σ H xs us Q I r h;obtain⟨x,T,d,P,M,b,rfl,hk,i,ne,e,q⟩:=h;have old:dY M d=z_ (vw M d)->wpAny (model X.prog X.w) X.A (call (.builtin "isinstance") us) (EP X pins σ Q) X.xe s:=fun et=>by
    rw[et]at ne e;exact S7 pins s σ H _ us Q I r ⟨x,T,vw M d,P,b,rfl,cF.vw hk i,ne,e,q⟩
  cases d with
  |ref k=>
    cases em:M[k]? with
    |none=>simp[dY,em]at ne
    |some c=>
      cases c with
      |lst ds=>exact old (by simp[dY,vw,em,z_])
      |obj c fs=>simp[dY,em]at ne
      |dcf kvs=>simp[dY,em]at ne
      |dtf kvs=>simp[dY,em]at ne
      |fn i caps=>simp[dY,em]at ne
      |tpc ds=>simp[dY,em]at ne
      |tbl nm i=>simp[dY,em]at ne
      |dct kvs=>
        obtain⟨u,w',rfl,rx,rT⟩:=vals2 r;cases rT;obtain⟨kl,rfl⟩:k<P.n/\x=.ref (P.io k):=i;cases rx;obtain⟨vs,ev,_⟩:=hk.cell k _ em;obtain⟨_,_,vs',_,o,es,ep,h1,h2,_⟩:=I.hok _ _ ev;simp only[dY,em]at e;exact xaY xdK I.kIn ⟨o,h1,h2.1⟩ e (fun z=>nomatch z) fun tk=>⟨.bl b,H,I.tok _,rfl,q⟩
      |dtc kvs=>simp[dY,em]at ne
  |non=>exact old rfl
  |bl _=>exact old rfl
  |int _=>exact old rfl
  |str _=>exact old rfl
  |tup _=>exact old rfl
  |lst _=>exact old rfl
theorem su (ht:∀t b,tb t T=some b->PySem.W.kitOne X.K (.type t) (.type T)=some b)(he:SE X Wx .bor e f)(hg:Gl X "isinstance")(hm:X.mg "isinstance"=none)(hg':Gl X (Str.ofString T))(hm':X.mg (Str.ofString T)=none)(hT:bootBuiltins (Str.ofString T)=some (.type T))
  (n1:Str.ofString T≠"__name__":=by x_go) (n2:(Str.ofString T==("__debug__":Str))=false:=by x_go) (hs:starEach [e,.Name (Str.ofString T) p'] X.env=(false,eval e X.env)::starEach [.Name (Str.ofString T) p'] X.env:=by rfl):
  SE X Wx m (.Call (.Name "isinstance" p) [e,.Name (Str.ofString T) p'] [] pos) (dW tb T f):=by
 have pT:PE X (.Name (Str.ofString T) p') (tC (.ty T)):=XS hg' hm' hT rfl n1 n2;refine cA (Cw S8 hg hm boot_isinstance (pB he (pB pT rD) hs) (by x_go) (by x_go) hs rfl) ?_;rintro st H Q ⟨P0,H0,P,Os,env,M,r,M',k,e,q⟩;unfold dW at e;rcases cG e with⟨d,M1,e1,e⟩ |⟨c,n,e1,rfl⟩
 ·split at e
  ·cases e
  ·rename_i hne;rw[xak]at e;obtain⟨b,eb,e⟩:=e;cases e;exact bf k e1 fun P1 v1 H1 l1 h1 i1=>⟨v1,T,d,P1,_,b,rfl,h1,i1,hne,ht _ _ eb,q P1 _ H1 l1 h1 (cR.of h1 (show Is _ _ _ (.bl b) _ from rfl))⟩
 ·exact bf k e1 q
end
section
variable {X:Cx}{Wx:XW}{m:Mode}{pos:Pos}
noncomputable def pK:List Nat->List D->Env->Option Env
 | [],[],env=>some env
 |i::is,d::ds,env=>if i<env.length then pK is ds (env.set i (.val d)) else none
 |_,_,_=>none
def SG (X:Cx)(ts:List Expr)(is:List Nat):Prop:=∃t,xW X ts t/\∀P0 H0 P Os st H M env env' ds vs Q,Ok X.K X.mg P0 H0 P Os H M st env->aC X.K P H ds vs->pK is ds env=some env'->(∀Os' st',Ok X.K X.mg P0 H0 P Os' H M st' env'->Q st' H)->t vs st H Q
theorem Ji : SG X [] [] := ⟨_,Yq,fun P0 H0 P Os st H M env env' ds vs Q k is e q=>by
 cases ds with
 |nil=>cases e;exact⟨is,q _ _ k⟩
 |cons d ds=>cases e⟩
theorem mW (hN:X.N.Nodup)(hi:X.N[i]? =some x)(hx:Loc X.env.scope x)(hr:SG X ts is)(hf:X.fn x=true\/X.env.scope.names.lookup x=some .local:=by first |exact .inl rfl |exact .inr rfl)
    (hs:(assignEach (.Name x p::ts) X.env).map (·.2)=assign (.Name x p) X.env::(assignEach ts X.env).map (·.2):=by rfl):SG X (.Name x p::ts) (i::is):=by
  obtain⟨t,h1,h2⟩:=hr;refine⟨_,Yp (zA hN hi hx hf) h1 hs,fun P0 H0 P Os st H M env env' ds vs Q k is e q=>?_⟩
  cases ds with
  |nil=>cases e
  |cons d ds=>
    obtain⟨v,r,rfl,iv,is⟩:=is;simp only[pK]at e;split at e
    · rename_i hl;exact⟨v,r,rfl,h2 _ _ _ _ _ _ _ _ _ _ _ _ (k.asg hl iv) is e q⟩
    · cases e
noncomputable def setAt (M:Mm) (d y x:D):Option Mm:=match d with
  | .ref j => (match y with
    | .int i => (match M[j]? with
      | some (.lst ds) => (match kj ds.length i with
        |some n=>some (M.set j (.lst (ds.set n x)))
        |none=>none)
      |_=>none)
    |_=>none)
  |_=>none
theorem zaC (h:setAt M d y x=some M'):∃j i ds n,d=.ref j/\y=.int i/\M[j]? =some (.lst ds)/\kj ds.length i=some n/\M'=M.set j (.lst (ds.set n x)):=by
 unfold setAt at h;split at h
 ·split at h
  ·split at h
   ·rename_i em;split at h
    ·rename_i en;cases h;exact⟨_,_,_,_,rfl,rfl,em,en,rfl⟩
    ·cases h
   ·cases h
  ·cases h
 ·cases h
noncomputable def mU (f g v:E):S:=fun env M=>bJ (v env M) fun x M1=>bJ (f env M1) fun d M2=>bJ (g env M2) fun y M3=>match setAt M3 d y x with
 |some M4=>some (.nx env,M4)
 |none=>none
theorem QX (ho:SE X Wx .val o f)(hi:SE X Wx .val i g)(he:SE X Wx .val e v)
  (ha : ∀ v, assign (.Subscript o i pos') X.env v = (do
   let ov <-holding [v] (eval o X.env)
   let iv <-holding [v,ov] (eval i X.env)
   standAt pos'
   holding [v,ov,iv] (setItem ov iv v)
   release [v,ov,iv] []):=by intro _;rfl)
  (hs:swapsWithSole [.Subscript o i pos'] e pos.line X.env=pure false:=by rfl) (hw:swappedStores [.Subscript o i pos'] e X.env=pure none:=by rfl) (h1:(assignEach [.Subscript o i pos'] X.env).map (·.2)=[assign (.Subscript o i pos') X.env]:=by rfl):
  SS X Wx (.Assign [.Subscript o i pos'] e pos) (mU f g v):=by
 refine gq (Yz he (Yo ho hi set_list ha) hs hw h1) ?_;rintro D st H ⟨P0,H0,P,Os,env,M,out,M',k,e,q⟩;unfold mU at e;rcases fQ e with⟨x,M1,e1,e⟩ |⟨c,n,e1,rfl⟩
 ·refine bf k e1 fun P1 v1 H1 l1 h1 i1=>?_;have k1:=k.next l1 h1
  rcases fQ e with⟨d,M2,e2,e⟩ |⟨c,n,e2,rfl⟩
  ·refine bf k1 e2 fun P2 v2 H2 l2 h2 i2=>?_;have k2:=k1.next l2 h2
   rcases fQ e with⟨y,M3,e3,e⟩ |⟨c,n,e3,rfl⟩
   ·refine bf k2 e3 fun P3 v3 H3 l3 h3 i3=>?_;split at e
    ·rename_i M4 ea;cases e;obtain⟨j,i,ds,n,rfl,rfl,em,en,rfl⟩:=zaC ea;cases i3;obtain⟨jl,rfl⟩:j<P2.n/\v2=.ref (P2.io j):=i2;obtain⟨vs,ev,is⟩:=h3.cell j _ em;have jl3:j<P3.n:=xap jl l3.n;have eio:P3.io j=P2.io j:=l3.io j jl;have ix:=Is.lt ((l2.lt h1).trans (l3.lt h2)) i1;have lc:Lt P3 H3 P3 (upd H3 (P3.io j) (.lst (vs.set n v1))):=wV (h3.bd j jl3) ev Hq;obtain⟨l4,l4e,h4⟩:=h3.set (c':=.lst (ds.set n x)) (o':=.lst (vs.set n v1)) em ⟨_,dw,aC.set n (aC.lt lc is) (Is.lt lc ix)⟩;rw[eio]at l4 l4e h4 ev;refine⟨_,vs,i,n,rfl,rfl,ev,by rw[is.len];exact en,?_⟩;exact q _ _ _ _ ((l1.lt k.hk).trans ((l2.lt h1).trans ((l3.lt h2).trans l4))) ((k2.next l3 h3).next l4e h4)
    ·cases e
   ·exact bf k2 e3 q
  ·exact bf k1 e2 q
 ·exact bf k e1 q
end
end E3
namespace E3
open PySem L2
section
variable {env:Env}{M M1 M2:Mm}{f g o v:E}{d e x:D}{i:Int}{k:Nat}{ds es:List D}{s t:S}{z:Str}{fa:EA}{b:Bool}
noncomputable def FT:Option (List D×Mm)->O
 |some (ys,M)=>some (.v (.lst ys),M)
 |none=>none
noncomputable def KR (q e:E) (env:Env):Option (ResA×Mm)->O
 |some (.v ds,M1)=>FT (eH q e env ds [] M1)
 |some (.x c n,M1)=>some (.x c n,M1)
 |none=>none
theorem Zf {cs:List (Str×Nat)}{q e:E}:kI cs fa q e env M=KR q e (bW cs env) (fa env M):=rfl
theorem zce {q e:E}:KR q e env (some (.v ds,M))=FT (eH q e env ds [] M):=rfl
theorem zbK:FT (some (ds,M))=some (.v (.lst ds),M):=rfl
theorem FW {q e : E} (F : D -> Option D) : ∀ (ds acc : List D), (∀d∈ds,match F d with
    |some y=>q (.val d::env) M=some (.v (.bl true),M)/\e (.val d::env) M=some (.v y,M)
    |none=>q (.val d::env) M=some (.v (.bl false),M))->acc.length + ds.length<sizeLine->eH q e env ds acc M=some (acc ++ ds.filterMap F,M)
  | [],acc,_,_=>by simp[eH]
  |d::ds,acc,h,hl=>by
    have hd:=h d (by simp);have hr:∀acc',acc'.length + ds.length<sizeLine->eH q e env ds acc' M=some (acc' ++ ds.filterMap F,M):=fun acc' hl'=>FW F ds acc' (fun d' hd'=>h d' (by simp[hd'])) hl';rw[xay]at hl
    cases hF:F d with
    |none=>
      rw[hF]at hd;simp only[eH,hd,xcf,hF];exact hr acc (by lia)
    |some y=>
      rw[hF]at hd;simp only[eH,hd.1,hd.2,xcf,hF];rw[xac (by lia),hr (acc ++ [y]) (by rw[xaj,xaA];lia)]
      simp
theorem comp_map {e:E}(F:D->D)(ds:List D)(h:∀d∈ds,e (.val d::env) M=some (.v (F d),M))(hl:ds.length<sizeLine):eH (ak (.bl true)) e env ds [] M=some (ds.map F,M):=by
 rw[FW (fun d=>some (F d)) ds [] (fun d hd=>⟨rfl,h d hd⟩) (by simpa using hl),List.filterMap_eq_map'];rfl
theorem Zd:bW [] env=[]:=rfl
theorem Zc {x:Str}{n:Nat}{cs:List (Str×Nat)}:bW ((x,n)::cs) env=(env[n]?).getD .un::bW cs env:=rfl
noncomputable def kh (tb:String->String->Option Bool) (T:String) (M:Mm) (ty:String):O:=if ty="" then none else(tb ty T).map fun b=>(.v (.bl b),M)
noncomputable def yJ (tb:String->String->Option Bool) (T:String) (r:O):O:=bnd r fun d M=>kh tb T M (dY M d)
theorem Zo {tb:String->String->Option Bool}{T:String}:dW tb T f env M=yJ tb T (f env M):=rfl
theorem zcJ {tb:String->String->Option Bool}{T:String}:yJ tb T (some (.v d,M))=kh tb T M (dY M d):=rfl
theorem ty_int:dY M (.int i)="int":=rfl
theorem zco:dY M (.tup ds)="tuple":=rfl
theorem zcp:dY M (.lst ds)="list":=rfl
theorem Ru (h:M[k]? =some (.lst ds)):dY M (.ref k)="list":=by unfold dY;simp only[h]
theorem Ry {tb:String->String->Option Bool}{T ty:String}(h:ty≠"":=by decide):kh tb T M ty=(tb ty T).map fun b=>(.v (.bl b),M):=xae h
theorem zcP {tb:String->String->Option Bool}{T:String}:kh tb T M "int"=(tb "int" T).map fun b=>(.v (.bl b),M):=rfl
theorem zc8 {tb:String->String->Option Bool}{T:String}:kh tb T M "tuple"=(tb "tuple" T).map fun b=>(.v (.bl b),M):=rfl
theorem zcH {tb:String->String->Option Bool}{T:String}:kh tb T M "list"=(tb "list" T).map fun b=>(.v (.bl b),M):=rfl
theorem Mz {M3:Mm}{j:Nat}(h0:v env M=some (.v x,M1))(h1:f env M1=some (.v (.ref k),M2))(h2:g env M2=some (.v (.int i),M3))(h3:M3[k]? =some (.lst ds))(h4:kj ds.length i=some j):mU f g v env M=some (.nx env,M3.set k (.lst (ds.set j x))):=by
 simp only[mU,bJ,setAt,h0,h1,h2,h3,h4]
end
end E3
namespace L2
open PySem PySem.Spec PyProof.Rows
end L2
namespace E3
open PySem PySem.Spec PyProof.Rows L2
section
variable {es:List Expr}{env:PySem.Env}{pos:Pos}
theorem cU:starEach (.Constant c k pos::es) env=(false,eval (.Constant c k pos) env)::starEach es env:=by rfl
theorem aO:starEach (.Name x pos::es) env=(false,eval (.Name x pos) env)::starEach es env:=by rfl
theorem sH:starEach (.BinOp a o b pos::es) env=(false,eval (.BinOp a o b pos) env)::starEach es env:=by rfl
theorem vg:starEach (.Call f as ks pos::es) env=(false,eval (.Call f as ks pos) env)::starEach es env:=by rfl
theorem Jq:starEach (.Attribute a x pos::es) env=(false,eval (.Attribute a x pos) env)::starEach es env:=by rfl
theorem dj:starEach (.Subscript a b pos::es) env=(false,eval (.Subscript a b pos) env)::starEach es env:=by rfl
theorem mZ:starEach (.Tuple as k pos::es) env=(false,eval (.Tuple as k pos) env)::starEach es env:=by rfl
theorem QZ:starEach (.List as pos::es) env=(false,eval (.List as pos) env)::starEach es env:=by rfl
theorem zao:starEach (.ListComp a gs sc pos::es) env=(false,eval (.ListComp a gs sc pos) env)::starEach es env:=by rfl
end
end E3
namespace L2
open PySem PySem.Spec PyProof.Rows
end L2
namespace E3
open PySem PySem.Spec PyProof.Rows L2
structure XPass (X:Cx)(Wx:XW):Prop where
 xc:∀pins σ H s a C dx T c n P0 H0 P M,Caught X pins σ H s a C dx T->LtE P0 H0 P H->Hk X.K X.mg P H M->X.mg c=some (.ref C)->XN H n dx->Wx P0 H0 M c n->X.xe (.ref a) s
section
variable {K:Fgx}{P:Pl}{H:Hp}
noncomputable def nT:List D->Option (List Int)
 | []=>some []
 |.int i::ds=>(nT ds).map (i:: ·)
 |_::_=>none
theorem Bp:∀{ds:List D} {is:List Int} {vs:List V},nT ds=some is->aC K P H ds vs->vs=is.map V.int
  | [],_,_,e,h=>by cases e;exact h
  |d::ds,is,vs,e,h=>by
    obtain⟨v,r,rfl,i,h⟩:=h
    cases d with
    |int n=>
      simp only[nT,xak]at e;obtain⟨is',e',rfl⟩:=e;cases i;rw[Bp e' h];rfl
    |_=>simp[nT]at e
theorem ints_map:∀(is:List Int),nT (is.map D.int)=some is
 | []=>rfl
 |i::is=>by simp[nT,ints_map is]
noncomputable def sJ:List D->Option (List Str)
 | []=>some []
 |.str z::ds=>(sJ ds).map (z:: ·)
 |_::_=>none
theorem Jt:∀{ds:List D} {zs:List Str} {vs:List V},sJ ds=some zs->aC K P H ds vs->vs=zs.map V.str
  | [],_,_,e,h=>by cases e;exact h
  |d::ds,zs,vs,e,h=>by
    obtain⟨v,r,rfl,i,h⟩:=h
    cases d with
    |str n=>
      simp only[sJ,xak]at e;obtain⟨zs',e',rfl⟩:=e;cases i;rw[Jt e' h];rfl
    |_=>simp[sJ]at e
theorem strs_map:∀(zs:List Str),sJ (zs.map D.str)=some zs
 | []=>rfl
 |b::bs=>by simp[sJ,strs_map bs]
noncomputable def lK:List D->Option D
 | [.int i]=>if i.natAbs.log2<1920 then some (.str (toString i)) else none
 |_=>none
theorem YX:lF K (fun xs H Q=>∃i,xs=[.int i]/\i.natAbs.log2<1920/\Q (.str (toString i)) H) lK:=fun P H ds z vs Q h i _ q=>by
 unfold lK at h;split at h
 ·split at h
  ·rename_i hl;obtain⟨v,ws,rfl,p,rfl⟩:=i;cases h;cases p;exact⟨_,rfl,hl,q _ H (Same.refl H) rfl⟩
  ·cases h
 ·cases h
noncomputable def g_:List D->Option D
 | [.str z]=>if z.length<=640 then(intText? z).map .int else none
 |_=>none
theorem YQ:lF K (fun xs H Q=>∃z n,xs=[.str z]/\intText? z=some n/\z.length<=640/\Q (.int n) H) g_:=fun P H ds z vs Q h i _ q=>by
 unfold g_ at h;split at h
 ·split at h
  ·rename_i hl;rw[xak]at h;obtain⟨n,en,rfl⟩:=h;obtain⟨v,ws,rfl,p,rfl⟩:=i;cases p;exact⟨_,n,rfl,en,hl,q _ H (Same.refl H) rfl⟩
  ·cases h
 ·cases h
noncomputable def lM:List D->Option D
 | [.lst ds]=>(nT ds).map fun is=>.int is.sum
 |_=>none
theorem YZ:lF K (fun xs H Q=>∃(p:Addr) (is:List Int),xs=[.ref p]/\bI K H p (is.map V.int)/\Q (.int is.sum) H) lM:=fun P H ds z vs Q h i _ q=>by
 unfold lM at h;split at h
 ·rw[xak]at h;obtain⟨is,ei,rfl⟩:=h;obtain⟨v,ws,rfl,p,rfl⟩:=i;obtain⟨a,us,rfl,r,s⟩:=p;rw[Bp ei s]at r;exact⟨a,is,rfl,r,q _ H (Same.refl H) rfl⟩
 ·cases h
end
section
variable {X:Cx}{Wx:XW}{m:Mode}{pos:Pos}
def J7 (K:Fgx)(r:V->List V->Hp->VK->Prop)(o:Str->List D->Option D):Prop:=∀(P:Pl) (H:Hp) (y:Str) (ds:List D) (z:D) (vs:List V) (Q:VK),o y ds=some z->m8 K P H ds vs->(∀p,H p=none->¬ P.bd p)->(∀u H',Same H H'->Is K P H' z u->Q u H')->r (.str y) vs H Q
noncomputable def CZ (o:Str->List D->Option D) (f:E) (fs:EA):E:=fun env M=>bnd (f env M) fun d M1=>match d with
 |.str y=>cW (fs env M1) fun ds M2=>(o y (ds.map (vw M2))).map fun z=>(.v z,M2)
 |_=>none
theorem zde {a e:Expr}{es:List Expr}{name:Str}{id:String}{r:V->List V->Hp->VK->Prop}{o:Str->List D->Option D}{f:E}{fs:EA}{p:Pos}(slot:PySem.Slot "str" name id)(hty:typeOf (.builtin id)=pure (.type "method_descriptor"))(hm:Em X id r)(po:J7 X.K r o)(ha:SE X Wx .val a f)(hs:SA X Wx .bor (e::es) fs)
  (hbase:attributeBase a name X.env (eval a X.env)=eval a X.env:=by rfl)
  (hfew:((backTo pos (starEach (e::es) X.env)).all (fun x=> !x.1) && (backToKw pos (keywordEach [] X.env)).all (fun x=>x.1.isSome) && decide ((e::es).length + ([]:List Keyword).length + (if ([]:List Keyword).isEmpty then 0 else 1)<30))=true:=by rfl)
  (hline:(p.endLine==pos.line)=true:=by rfl) (hst:starEach (e::es) X.env=(false,eval e X.env)::starEach es X.env:=by rfl) (hplain:(backTo pos (starEach es X.env)).any (·.1)=false:=by rfl):
  SE X Wx m (.Call (.Attribute a name p) (e::es) [] pos) (CZ o f fs):=by
 refine cA (Hz PySem.F.plainAttrs_str slot hty hm ha hs hbase hfew hline hst hplain) ?_;rintro st H Q ⟨P0,H0,P,Os,env,M,r,M',k,e,q⟩;unfold CZ at e;rcases cG e with⟨d,M1,e1,e⟩ |⟨c,n,e1,rfl⟩
 ·cases d<;>simp only[reduceCtorEq]at e
  rename_i y;refine bf k e1 fun P1 v1 H1 l1 h1 i1=>?_;have k1:=k.next l1 h1
  cases i1;refine⟨rfl,?_⟩;rcases nA e with⟨ds,M2,e2,e⟩ |⟨c,n,e2,rfl⟩
  ·rw[xak]at e;obtain⟨z,ez,e⟩:=e;cases e;exact⟨P0,H0,P1,Os,env,M1,_,_,k1,e2,fun P2 vs H2 l2 h2 i2=>po P2 H2 y _ z vs Q ez (cV.w h2 i2) h2.new fun u H' s i=>q P2 u H' (l1.trans (l2.trans (LtE.same s))) (h2.same s) (cR.of (h2.same s) i)⟩
  ·exact⟨P0,H0,P1,Os,env,M1,_,_,k1,e2,q⟩
 ·exact bf k e1 q
noncomputable def zZ (z:Str):List D->Option D
  | [.lst ds]=>match sJ ds with
    |some ys=>if z.length<=16/\(ys.map (·.length)).sum + ys.length<=1048576 then some (.str (Txt.join z ys)) else none
    |none=>none
  |_=>none
theorem YT {K:Fgx}:J7 K (rJoin K) zZ:=fun P H y ds z vs Q h i _ q=>by
 unfold zZ at h;split at h
 ·split at h
  ·rename_i ys ey;split at h
   ·rename_i hl;cases h;obtain⟨v,ws,rfl,p,rfl⟩:=i;obtain⟨a,us,rfl,r,s⟩:=p;rw[Jt ey s]at r;exact⟨y,a,ys,rfl,rfl,r,hl.1,hl.2,q _ H (Same.refl H) rfl⟩
   ·cases h
  ·cases h
 ·cases h
end
def pF:S:=fun _ _=>none
theorem zbo (h:PS X s fun _ _ _=>False):SS X Wx s pF:=gq h fun D st H ⟨_,_,_,_,_,_,_,_,_,e,_⟩=>by cases e
theorem YB:PS X s fun _ _ _=>False:=fun pins s σ H D I h=>h.elim
theorem vf:SS X Wx s pF:=zbo YB
inductive KRows (K:Fgx)(w:World):List (Str×D)->List DictEntry->List (Key×Value)->Prop
 |nil:KRows K w [] [] []
 |cons {z:Str} {d:D} {t:Tok} {u:Value} {v:V} {hs:Int} {tb:List (Str×D)} {es:List DictEntry} {vs:List (Key×Value)}:hs=hashStr w z->RelV v u->(∀P H,Is K P H d v)->KRows K w tb es vs->KRows K w ((z,d)::tb) (⟨hs,.str z t,u⟩::es) ((.inr z,u)::vs)
def KTab (K:Fgx)(w:World)(a:Addr)(tb:List (Str×D)):Prop:=∃o es ep vs,K.lookup a=some o/\o.ExactDict/\o.data=.dict es ep/\KRows K w tb es.toList vs/\(tb.map (·.1)).Nodup/\(a==sysModules)=false
end E3
namespace L2
open PySem PySem.Spec PyProof.Rows
def zdl (h:Heap)(a t:Addr)(i:Int):Prop:=∃o,h.get? a=some o/\o.cls=.type "reversed"/\o.data=.fields #[.ref t,rawInt i]
end L2
namespace E3
open PySem PySem.Spec PyProof.Rows L2
section
variable {X:Cx}{Wx:XW}{m:Mode}{pos:Pos}
theorem M6 {K:Fgx}{a:Addr}{o:Obj}{its:Array Value}{n:Nat}{ds:List D}{vs:List V}(l:K.lookup a=some o)(c:o.cls=.type "tuple")(e:o.data=.seq its n)(z:its.size<=sizeLine)(r:Vals vs its.toList)(i:∀P H,aC K P H ds vs):∀P H,Is K P H (.tup ds) (.ref a):=
 fun P H=>⟨a,vs,rfl,.inr ⟨o,its,n,l,c,e,z,r⟩,i P H⟩
def gY (P:Program)(w:World)(K:Fgx)(mg:Mgx)(base:Heap)(k:Nat)(C:Addr)(m:Str)(n:Nat)(g:G):Prop:=
 ∃f fd ps ds dvs sp,Meth K C m f/\FnOk P w K mg base fP k f fd ps sp/\Binds K fd ps ds/\Vals dvs ds/\∀vs H Q E,mY K mg n g vs H Q E->sp (vs ++ dvs) H Q E
theorem gY.mono {P:Program}{w:World}{K:Fgx}{mg:Mgx}{base:Heap}{j k:Nat}{C:Addr}{m:Str}{n:Nat}{g:G}(a:gY P w K mg base j C m n g)(h:j<=k):gY P w K mg base k C m n g:=by
 obtain⟨f,fd,ps,ds,dvs,sp,h1,h2,h3⟩:=a;exact⟨f,fd,ps,ds,dvs,sp,h1,h2.mono h,h3⟩
structure OwnIs (K:Fgx)(C:Addr):Prop where
 ca:PySem.W.findIn K (.ref C) "__class__"=some (some (.builtin "object.__class__"))
 gt:PySem.W.specialIn K (.builtin "object.__class__") "__get__"=some (some (.builtin "getset_descriptor.__get__"))
 tk:PySem.W.takesIn K (.builtin "object.__class__")=some true
 mr:PySem.W.mroIn K C (.type "object")=some true
 me:PySem.W.kitOne K (.ref C) (.ref C)=some true
end
end E3
namespace E3
open PySem L2
noncomputable def dg (n:Nat):List Nat:=(Nat.toDigits 10 n).map Char.toNat
theorem K_ (n:Nat):NumText.AllDigits (dg n):=fun c hc=>by
 obtain⟨d,hd,rfl⟩:=xaw.mp hc;have h:=Nat.isDigit_of_mem_toDigits (by decide) (by decide) hd;simp only[Char.isDigit,xaF,xb5]at h;exact⟨h.1,h.2⟩
theorem Lb (n:Nat):dg n≠ []:=fun e=>Nat.toDigits_ne_nil (List.map_eq_nil_iff.mp e)
theorem La (h1:1<=k)(h:n<10 ^ k):(dg n).length<=k:=by
 rw[dg,xaf];exact toDigits_len_pow (by decide) h1 h
noncomputable def mX (i:Int):Str:=Str.ofString (toString i)
theorem Dv (h:0<=i):(mX i).cps.toList=dg i.toNat:=by
 have:=W.KIN.signs_num i.toNat;rw[xep h]at this;exact this
theorem QC (h:i<0):(mX i).cps.toList=45::dg i.natAbs:=by
 obtain⟨m,rfl⟩:∃m,i=Int.negSucc m:=by
  cases i with
  |ofNat n=>exact absurd h (by simp)
  |negSucc m=>exact⟨m,rfl⟩
 unfold mX dg;rw[PyProof.Rows.signs_ofString];show List.map Char.toNat ("-" ++ toString (m + 1)).toList=_;rw[String.toList_append,xaR,Nat.toString_eq_ofList_toDigits]
 simp
theorem QB (h1:1<=k)(h:i.natAbs<10 ^ k):(mX i).length<=k + 1:=by
 show(mX i).cps.size<=k + 1;rw[<-xai]
 by_cases h0:0<=i
 ·rw[Dv h0];have:=La (n:=i.toNat) h1 (by rw[<-Int.natAbs_of_nonneg h0]at *;simpa using h);lia
 ·rw[QC (by lia),xay];have:=La h1 h;lia
theorem Vc (h:i.natAbs<10 ^ 600):intText? (mX i)=some i:=by
 have hl:=QB (by decide) h
 by_cases h0:0<=i
 ·rw[intText_digits (by rw[Dv h0];exact K_ _) (by rw[Dv h0];exact Lb _) (by lia),Dv h0];have:=W.KIN.val_back i.toNat;unfold dg;rw[this,xep h0]
 ·rw[intText_neg (QC (by lia)) (K_ _) (Lb _) (by lia)];have:=W.KIN.val_back i.natAbs;unfold dg;rw[this];congr 1;lia
noncomputable def cd (s:Str):List Nat:=s.cps.toList
theorem FN (a b:Str):cd (a ++ b)=cd a ++ cd b:=by
 unfold cd;rw[Str.cps_append,xbc]
theorem rz (x:Str):x.length=(cd x).length:=by
 show x.cps.size=x.cps.toList.length
 simp
theorem VP (h:n<340282366920938463463374607431768211456):n.log2<1920:=by
 by_cases h0:n=0
 ·rw[h0];decide
 ·have:=(Nat.log2_lt h0 (k:=128)).mpr h;lia
section
variable {env:Env}{M M1:Mm}{f g h c:E}{d e:D}{i j:Int}{n k:Nat}{z:Str}{b:Bool}{ds es:List D}{s t:S}{x:Str}{fa:EA}{u:G}
noncomputable def Ob (o:Str->List D->Option D) (q:Mm->Option (ResA×Mm)) (M:Mm):D->O
 |.str y=>nu (o y) (q M)
 |_=>none
theorem Iw {o:Str->List D->Option D}{q:Mm->Option (ResA×Mm)}:Ob o q M (.str z)=nu (o z) (q M):=rfl
theorem Ib {o:Str->List D->Option D}:CZ o f fa env M=fZ (fun d M1=>Ob o (fa env) M1 d) (f env M):=rfl
theorem Ws {y:Str}:aW (.str z) (.str y)=if z.length + y.length<=sizeLine then some (.str (z ++ y)) else none:=rfl
theorem WD:aH (.str z) (.int i)=if z.length<=sizeLine then(cL z.cps.toList i).map fun c=>.str ⟨#[c]⟩ else none:=rfl
theorem Hw:lK [.int i]=if i.natAbs.log2<1920 then some (.str (toString i)) else none:=rfl
theorem Hs:g_ [.str z]=if z.length<=640 then(intText? z).map .int else none:=rfl
theorem Ww {y:Str}:aG .eq (.str z) (.str y)=some (.bl (decide (z=y))):=by
 unfold aG cH pR;rw[xac (by constructor<;>first |rfl |simp[D.dep])]
 have:(z==y)=decide (z=y):=by rw[xbz];simp
 simp[D.eq,this]
noncomputable def Q0 (k:Nat) (t:S) (ds:List D):OS->OS
 |some (.nx e,M1)=>loopS k t ds e M1
 |some (.ct e,M1)=>loopS k t ds e M1
 |some (.bk e,M1)=>some (.nx e,M1)
 |some (.rt d,M1)=>some (.rt d,M1)
 |some (.ex c n,M1)=>some (.ex c n,M1)
 |none=>none
theorem Ia:loopS k t (d::ds) env M=if k<env.length then Q0 k t ds (t (env.set k (.val d)) M) else none:=rfl
theorem Pk {e':Env}:Q0 k t ds (some (.nx e',M))=loopS k t ds e' M:=rfl
theorem R_ {α:Type}{xs:List α}{i:Int}(d:α)(h0:0<=i)(h1:i<xs.length):cL xs i=some (xs.getD i.toNat d):=by
 obtain⟨k,rfl⟩:∃k:Nat,i=k:=⟨i.toNat,by lia⟩;have hk:k<xs.length:=by lia
 exact wD (by simp[hk])
theorem at0 {α:Type}{a:α}{xs:List α}:cL (a::xs) 0=some a:=wD (j:=0) rfl
theorem at1 {α:Type}{a b:α}{xs:List α}:cL (a::b::xs) 1=some b:=wD (j:=1) rfl
theorem at2 {α:Type}{a b c:α}{xs:List α}:cL (a::b::c::xs) 2=some c:=wD (j:=2) rfl
theorem R9 {α:Type}{a b c d:α}{xs:List α}:cL (a::b::c::d::xs) 3=some d:=wD (j:=3) rfl
theorem T5 {α β:Type}(f:α->β)(xs:List α)(lo hi:Option Int):dM (xs.map f) lo hi=(dM xs lo hi).map f:=by
 unfold dM;rw[xaf, <-List.map_drop, <-List.map_take]
theorem T4 {α:Type}(xs:List α)(lo hi:Option Int):(dM xs lo hi).length<=xs.length:=by
 unfold dM;rw[xbl,xbU];lia
end
end E3
namespace L2
open PySem PySem.Spec PyProof.Rows
end L2
namespace E3
open PySem PySem.Spec PyProof.Rows L2
end E3
namespace L2
open PySem PySem.Spec PyProof.Rows
end L2
namespace E3
open PySem PySem.Spec PyProof.Rows L2
end E3
namespace L2
open PySem PySem.Spec PyProof.Rows
end L2
namespace E3
open PySem PySem.Spec PyProof.Rows L2
section
variable {X:Cx}{Wx:XW}{pos:Pos}
noncomputable def gC (is:List Nat) (d:D) (env:Env):Option Env:=match d with
 |.tup es=>if es.length=is.length then pK is es env else none
 |_=>none
noncomputable def rA (is:List Nat) (body:S):List D->Env->Mm->OS
  | [],env,M=>some (.nx env,M)
  |d::ds,env,M=>match gC is d env with
    | some env1 => (match body env1 M with
      |some (.nx e,M1)=>rA is body ds e M1
      |some (.ct e,M1)=>rA is body ds e M1
      |some (.bk e,M1)=>some (.nx e,M1)
      |some (.rt d,M1)=>some (.rt d,M1)
      |some (.ex c n,M1)=>some (.ex c n,M1)
      |none=>none)
    |none=>none
noncomputable def xH (is:List Nat) (fs:EA) (body:S):S:=fun env M=>match fs env M with
 |some (.v ds,M1)=>rA is body ds env M1
 |some (.x c n,M1)=>some (.ex c n,M1)
 |none=>none
theorem zbu (hp:PassesOwn (model X.prog X.w) X.A X.env X.xe)(hc:X.calm=true)(hG:SG X ts is)(hI:SI X Wx (.Tuple ts n tp) iter fs)(hb:SB X Wx body b)
    (hn:(assignEach ts X.env).length=is.length:=by rfl) (hst:(assignEach ts X.env).findIdx? (·.1)=none:=by rfl)
    (hfs:∀x,foldedSetIterable iter X.env x=pure x:=by intro _;rfl):SS X Wx (.For (.Tuple ts n tp) iter body [] pos) (xH is fs b):=by
  obtain⟨t,hpg,ht⟩:=hG;refine gq (CG hp hc hI (O1 (n:=is.length) hc hpg hn hst) hb hfs) ?_;rintro D st H ⟨P0,H0,P,Os,env,M,out,M',k,e,q⟩;unfold xH at e;split at e
  · rename_i ds M1 ef;refine⟨P0,H0,P,Os,env,M,_,_,k,ef,fun P1 H1 J l1 h1 wk=>?_⟩;have k1:=k.next l1 h1
    have q1:=q.lt (l1.lt k.hk);refine⟨fun j m σ H=>m=ds.length - j/\j<=ds.length/\∃P Os' M2 env',Lt P1 H1 P H/\Ok X.K X.mg P0 H0 P Os' H M2 σ env'/\rA is b (ds.drop j) env' M2=some (out,M'),⟨ds.length,by simp,xaS _,P1,Os,M1,env,Lt.refl _ _,k1,e⟩,?_⟩;rintro j m σ H2 ⟨rfl,hj,P2,Os',M2,env',lt,k',h'⟩;obtain⟨w1,w2,w3⟩:=wk P2 H2 lt
    by_cases hlt:j<ds.length
    · refine .inr ⟨w1 j hlt,fun σ' H'=>∃P Os' M2 env',Lt P1 H1 P H'/\Ok X.K X.mg P0 H0 P Os' H' M2 σ' env'/\rA is b (ds.drop (j + 1)) env' M2=some (out,M'),fun σ' H' z=>⟨ds.length - (j + 1),by lia,rfl,hlt,z⟩,fun x H3 y=>?_⟩;obtain⟨e3,d,ed,iv⟩:=w3 j x H3 y hlt;subst e3;have ed':ds.drop j=d::ds.drop (j + 1):=by
        rw[xaO hlt];rw[xah hlt]at ed;rw[xaD ed]
      rw[ed']at h';simp only[rA]at h';split at h'
      · rename_i env1 ee;unfold gC at ee;split at ee
        · rename_i es;split at ee
          · rename_i hl;obtain⟨a,vs,rfl,sq,is'⟩:=iv;refine⟨a,vs,rfl,sq,by rw[is'.len];exact hl,ht _ _ _ _ _ _ _ _ _ _ _ _ k' is' ee fun Os2 st2 k4=>?_⟩;split at h'
            · rename_i e4 M4 eb;exact⟨P0,H0,P2,_,_,M2,_,_,k4,eb,fun P' Os2 H2 st2 l2 k5=>⟨P',Os2,_,e4,lt.trans l2,k5,h'⟩⟩
            · rename_i e4 M4 eb;exact⟨P0,H0,P2,_,_,M2,_,_,k4,eb,fun P' Os2 H2 st2 l2 k5=>⟨P',Os2,_,e4,lt.trans l2,k5,h'⟩⟩
            · rename_i e4 M4 eb;cases h';exact⟨P0,H0,P2,_,_,M2,_,_,k4,eb,fun P' Os2 H2 st2 l2 k5=>q1 P' Os2 H2 st2 (lt.trans l2) k5⟩
            · rename_i d4 M4 eb;cases h';exact⟨P0,H0,P2,_,_,M2,_,_,k4,eb,q1⟩
            · rename_i c4 n4 M4 eb;cases h';exact⟨P0,H0,P2,_,_,M2,_,_,k4,eb,q1⟩
            · cases h'
          · cases ee
        · cases ee
      · cases h'
    · have ej:j=ds.length:=by lia
      subst ej;rw[xc7]at h';cases h';exact .inl ⟨w2 _ (xad _) (xad _),q1 P2 Os' H2 σ lt k'⟩
  · rename_i c n M1 ef;cases e;exact⟨P0,H0,P,Os,env,M,_,_,k,ef,q⟩
  · cases e
end
section
variable {X:Cx}{Wx:XW}{m:Mode}{pos:Pos}{K:Fgx}
noncomputable def QL (d:D) (lo hi:Option Int):Option D:=match d with
 |.tup ds=>if HT.bw ds.length 0 lo=0/\HT.bw ds.length ds.length hi=ds.length then none else some (.tup (dM ds lo hi))
 |_=>none
noncomputable def pG (f:E) (l h:Env->Mm->Option (Option Int×Mm)):E:=fun env M=>bnd (f env M) fun d M1=>match l env M1 with
  | some (lo, M2) => (match h env M2 with
    |some (hi,M3)=>(QL d lo hi).map fun z=>(.v z,M3)
    |none=>none)
  |none=>none
theorem zcf {e:Expr}{lo hi:Option Expr}{p2:Pos}{f:E}{l h:Env->Mm->Option (Option Int×Mm)}(he:SE X Wx .val e f)(hl:wz X lo l)(hh:wz X hi h):SE X Wx m (.Subscript e (.Slice lo hi none p2) pos) (pG f l h):=by
 refine cA (OJ zcm he hl hh) ?_;rintro st H Q ⟨P0,H0,P,Os,env,M,r,M',k,e,q⟩;unfold pG at e;rcases cG e with⟨d,M1,e1,e⟩ |⟨c,n,e1,rfl⟩
 ·split at e
  ·rename_i lo' M2 el;split at e
   ·rename_i hi' M3 eh;rw[xak]at e;obtain⟨z,ez,e⟩:=e;cases e;refine⟨P0,H0,P,Os,env,M,_,_,k,e1,fun P1 v1 H1 l1 h1 i1=>⟨P0,H0,P1,Os,env,M1,_,_,k.next l1 h1,el,fun P2 H2 l2 h2=>⟨P0,H0,P2,Os,env,M2,_,_,(k.next l1 h1).next l2 h2,eh,fun P3 H3 l3 h3=>?_⟩⟩⟩
    have i3:=Is.lt (l3.lt h2) (Is.lt (l2.lt h1) i1);have fin:∀u H',Same H3 H'->Is X.K P3 H' z u->Q u H':=fun u H' s i=>q P3 u H' (l1.trans (l2.trans (l3.trans (LtE.same s)))) (h3.same s) (cR.of (h3.same s) i);unfold QL at ez;split at ez
    ·split at ez
     ·cases ez
     ·rename_i hw;cases ez;obtain⟨a,vs,rfl,r,s⟩:=i3;exact⟨a,vs,rfl,r,by rw[s.len];exact hw,Wf (K6 s) fin⟩
    ·cases ez
   ·cases e
  ·cases e
 ·exact⟨P0,H0,P,Os,env,M,_,_,k,e1,q⟩
theorem aC.rep {P:Pl}{H:Hp}{ds:List D}{vs:List V}(h:aC K P H ds vs):∀n:Nat,aC K P H (List.replicate n ds).flatten (List.replicate n vs).flatten
  |0=>rfl
  |n + 1=>by
    rw[xbB,xbB,xb4,xb4];exact h.append (aC.rep h n)
noncomputable def Ja (f g:E):E:=fun env M=>bnd (f env M) fun d M1=>match d with
  |.lst ds=>bnd (g env M1) fun e M2=>match e with
    |.int i=>if i.natAbs<=100000/\ds.length<=100 then some (.v (.lst (List.replicate i.toNat ds).flatten),M2) else none
    |_=>none
  |_=>none
end
end E3
namespace L2
open PySem PySem.Spec PyProof.Rows
section
variable {X:Cx}
theorem Td:X.calm=true->dz X (.builtin "max") (fun xs H Q=>∃(p:Addr) (is:List Int),xs=[.ref p]/\0<is.length/\bI X.K H p (is.map V.int)/\∀m,m∈is->(∀a∈is,a<=m)->Q (.int m) H):=by
 intro hc pins s σ H xs us Q I r h;obtain⟨p,is,rfl,hne,hq,q⟩:=h;obtain⟨u,rfl,rx⟩:=vals1 r;cases rx;obtain⟨its,rv,pl,hz⟩:=I.list hq;have hi:=Gx rv;have hn:=hi.numsOf;have hlen:=rv.length;rw[xaf]at hlen;obtain⟨zs,hzs⟩:=hi.allInts.items;have hl:=pl.isList;have e1:numsOf its.toArray.toList=is:=hn;rw[hzs]at hl e1;have hs:0<zs.size:=by
  have:its.toArray.size=zs.size:=by rw[hzs];simp[intItems]
  rw[xam]at this;lia
 rw[nums_intItems]at e1;refine max_intList (I.ok.hd hc) hl hs fun v h' tk hv hk=>?_;obtain⟨t,rfl⟩:=intItems_at hv;obtain⟨h1,h2⟩:=argBest_gt (numAt zs) (zs.size - 1);refine⟨.int _,H,I.kept hk,⟨t,rfl⟩,q _ ?_ fun a ha=>?_⟩
 ·rw[<-e1,numAt_eq];exact getD_mem (by rw[xaf,xai];lia)
 ·rw[<-e1]at ha;obtain⟨j,hj,rfl⟩:=mem_getD ha;rw[xaf,xai]at hj;rw[<-numAt_eq];exact h2 j (by lia)
end
end L2
namespace E3
open PySem PySem.Spec PyProof.Rows L2
section
variable {X:Cx}{Wx:XW}{pos:Pos}
noncomputable def dX:List Int->Int
 | []=>0
 | [a]=>a
 |a::b::r=>max a (dX (b::r))
theorem JM:∀{is:List Int} {m:Int},m∈is->(∀a∈is,a<=m)->dX is=m
  | [],_,h,_=>by cases h
  | [a],m,h,_=>by rw[xax]at h;exact h.symm
  |a::b::r,m,h,g=>by
    have ha:=g a (xau ..);unfold dX;rcases xar.mp h with rfl |h
    · have:dX (b::r)<=m:=by
        have hb:∀(l:List Int),l≠ []->(∀a∈l,a<=m)->dX l<=m:=fun l=>by
          induction l with
          |nil=>exact fun z=>absurd rfl z
          |cons c l ih=>
            intro _ g
            cases l with
            |nil=>exact g c (by simp)
            |cons d l=>
              have h1:=g c (by simp);have h2:=ih (by simp) fun a ha=>g a (xal _ ha);unfold dX;lia
        exact hb (b::r) (by simp) fun a ha=>g a (xal _ ha)
      lia
    · have:=JM h fun a ha=>g a (xal _ ha);lia
noncomputable def yg:List D->Option D
  | [.lst ds]=>match nT ds with
    |some is=>if 0<is.length then some (.int (dX is)) else none
    |none=>none
  |_=>none
theorem YW {K:Fgx}:lF K (fun xs H Q=>∃(p:Addr) (is:List Int),xs=[.ref p]/\0<is.length/\bI K H p (is.map V.int)/\∀m,m∈is->(∀a∈is,a<=m)->Q (.int m) H) yg:=fun P H ds z vs Q h i _ q=>by
 unfold yg at h;split at h
 ·split at h
  ·rename_i is ei;split at h
   ·rename_i hl;cases h;obtain⟨v,ws,rfl,p,rfl⟩:=i;obtain⟨a,us,rfl,r,s⟩:=p;have eu:=Bp ei s;subst eu;exact⟨a,is,rfl,hl,r,fun m h1 h2=>by rw[<-JM h1 h2];exact q _ H (Same.refl H) rfl⟩
   ·cases h
  ·cases h
 ·cases h
end
end E3
namespace E3
end E3
namespace E3
open PySem PySem.Spec PyProof.Rows L2
mutual
def D.nr:D->Bool
 |.tup xs=>D.nrs xs
 |.lst xs=>D.nrs xs
 |.ref _=>false
 |_=>true
def D.nrs:List D->Bool
 | []=>true
 |a::as=>D.nr a && D.nrs as
end
noncomputable def Pf:Pl:=⟨fun _=>0,0,fun _=>False⟩
section
variable {K:Fgx}{mg:Mgx}{P P':Pl}{H H':Hp}{M:Mm}
mutual
theorem Is.fre:∀{d:D} {v:V},D.nr d=true->Is K P H d v->Is K Pf H d v
 |.non,_,_,h=>h
 |.bl _,_,_,h=>h
 |.int _,_,_,h=>h
 |.str _,_,_,h=>h
 |.tup _,_,n,h=>by obtain⟨a,vs,e,s,q⟩:=h;exact⟨a,vs,e,s,aC.fre n q⟩
 |.lst _,_,n,h=>by obtain⟨a,vs,e,s,q⟩:=h;exact⟨a,vs,e,s.imp (fun z=>⟨fun z=>z,z.2⟩) id,aC.fre n q⟩
 |.ref _,_,n,_=>by cases n
theorem aC.fre:∀{ds:List D} {vs:List V},D.nrs ds=true->aC K P H ds vs->aC K Pf H ds vs
  | [],_,_,h=>h
  |_::_,_,n,h=>by
    obtain⟨v,r,e,p,q⟩:=h;have n:=xdn.mp n;exact⟨v,r,e,Is.fre n.1 p,aC.fre n.2 q⟩
end
mutual
theorem Is.lf_any:∀{d:D} {v:V},D.lf d=true->Is K P H d v->Is K P' H d v
 |.non,_,_,h=>h
 |.bl _,_,_,h=>h
 |.int _,_,_,h=>h
 |.str _,_,_,h=>h
 |.tup _,_,n,h=>by obtain⟨a,vs,e,s,q⟩:=h;exact⟨a,vs,e,s,aC.lf_any n q⟩
 |.lst _,_,n,_=>by cases n
 |.ref _,_,n,_=>by cases n
theorem aC.lf_any:∀{ds:List D} {vs:List V},D.lfs ds=true->aC K P H ds vs->aC K P' H ds vs
  | [],_,_,h=>h
  |_::_,_,n,h=>by
    obtain⟨v,r,e,p,q⟩:=h;have n:=xdn.mp n;exact⟨v,r,e,Is.lf_any n.1 p,aC.lf_any n.2 q⟩
end
end
section
variable {X:Cx}{Wx:XW}{m:Mode}{pos:Pos}
theorem cZ (hr:Room k X.A)(h:X.A.units + 60<cLine->SB X Wx ss b):SB X Wx ss b:=h (xcI (Nat.add_le_add_left (by decide) _) hr.units)
theorem kO {e:Expr}{es:List Expr}{x:Str}{id:String}{r:List V->Hp->VK->Prop}{o:List D->Option D}{fs:EA}{p:Pos}(hc:dz X (.builtin id) r)(hg:Gl X x)(hm:X.mg x=none)(hv:bootBuiltins x=some (.builtin id))(po:lF X.K r o)(ha:SA X Wx .bor (e::es) fs)
  (hn:x≠"__name__":=by x_go) (hdb:(x==("__debug__":Str))=false:=by x_go) (he:starEach (e::es) X.env=(false,eval e X.env)::starEach es X.env:=by rfl) (hpl:(backTo pos (starEach es X.env)).any (·.1)=false:=by rfl):SE X Wx m (.Call (.Name x p) (e::es) [] pos) (sN o fs):=
 Qx (fun _ ha=>Cw hc hg hm hv ha hn hdb he hpl) po ha
theorem Qy (hc:dz X (.type T) r)(hg:Gl X x)(hm:X.mg x=none)(hv:bootBuiltins x=some (.type T))(po:lF X.K r o)(ha:SA X Wx .bor (e::es) fs)
  (hn:x≠"__name__":=by x_go) (hdb:(x==("__debug__":Str))=false:=by x_go) (he:starEach (e::es) X.env=(false,eval e X.env)::starEach es X.env:=by rfl) (hpl:(backTo pos (starEach es X.env)).any (·.1)=false:=by rfl):SE X Wx m (.Call (.Name x p) (e::es) [] pos) (sN o fs):=
 Qx (fun _ ha=>HD hc hg hm hv ha hn hdb he hpl) po ha
end
section
variable (P:Program)(w:World)(K:Fgx)(mg:Mgx)(base:Heap)(k:Nat)(f:Addr)(N:List Str)(q:Str)(st:Stmt)(b:S)
abbrev RT:Prop:=∀(cdv:Value) (A:Around) (outer:List PySem.Env) (s:Shared) (H:Hp) (E:XK),Room k (A.deeper (envOfC q (aN st) s.heap.objs.size f cdv))->SB (yq P w K mg base N q st f cdv A outer s H E) W0 (bL st) b
end
theorem c7 (h1:sc.kind=.function:=by rfl)(h2:sc.isCoroutine=false:=by rfl)(h3:sc.isGenerator=false:=by rfl)(h4:N.Nodup:=by x_go)(h5:N.take P.length=P:=by rfl)
  (h6:∀x∈P,sc.names.lookup x=some .local\/sc.names.lookup x=some .cell:=by x_go) (h7:∀y∈sc.names,y.2≠ .free:=by x_go):FnScope N P sc:=⟨h1,h2,h3,h4,h5,h6,h7⟩
abbrev LV (st:Stmt)(x:Str):Prop:=(aN st).names.lookup x=some .local
abbrev LC (st:Stmt)(x:Str):Prop:=(aN st).names.lookup x=some .cell
structure DefAt (K:Fgx)(mg:Mgx)(x:Str)(st:Stmt)(ps:List Str)(f:Addr)(fd:FuncData):Prop where
 mg:mg x=some (.ref f)
 F:FunD K x x st f fd
 b:Binds K fd ps []
theorem DefAt.ok {P:Program}{w:World}{K:Fgx}{mg:Mgx}{base:Heap}{k:Nat}{x:Str}{st:Stmt}{f:Addr}{fd:FuncData}{N ps:List Str}{b:S}(D:DefAt K mg x st ps f fd)(S:FnScope N ps (aN st))(hr:RT P w K mg base k f N x st b)(hp:ps.length<=N.length:=by decide):bH P w K mg base (k + 1) x ps.length (b_ N.length b):=Us D.F S hp D.mg D.b hr
def bV (K:Fgx)(x:Str)(st:Stmt):Prop:=∃(f:Addr) (oc kV dc pm cd ct:Value) (od an:Option Addr) (sl:Array (Option Value)),PySem.W.nsIn K mainGlobals x=some (some (.ref f))/\K.lookup f=some ⟨oc,od,.func (PySem.W.fnOf x x (bU st) (bL st) (aN st) .none kV dc pm an cd ct),sl⟩/\PySem.W.codeIn K cd x=true/\PySem.W.keepIn K (.ref f)=true
theorem bV.mk {K:Fgx}{x:Str}{st:Stmt}{f:Addr}{oc kV dc pm cd ct:Value}{od an:Option Addr}{sl:Array (Option Value)}(a:PySem.W.nsIn K mainGlobals x=some (some (.ref f)))(l:K.lookup f=some ⟨oc,od,.func (PySem.W.fnOf x x (bU st) (bL st) (aN st) .none kV dc pm an cd ct),sl⟩)(c:PySem.W.codeIn K cd x=true)(k:PySem.W.keepIn K (.ref f)=true):bV K x st:=⟨f,oc,kV,dc,pm,cd,ct,od,an,sl,a,l,c,k⟩
theorem bV.at {K:Fgx}{h:Heap}{mg:Mgx}{x:Str}{st:Stmt}{ps:List Str}(F:bV K x st)(X:K.In h)(G:h.Ns mainGlobals mg)
  (hb:∀(kV doc pm:Value) (an:Option Addr) (cdv ct:Value) (us:List Value),us.length=ps.length->bindArgs (PySem.W.fnOf x x (bU st) (bL st) (aN st) .none kV doc pm an cdv ct) ⟨us,[]⟩=pure (ps.zip us)):∃f fd,DefAt K mg x st ps f fd:=by
 obtain⟨f,oc,kV,dc,pm,cd,ct,od,an,sl,a,l,c,k⟩:=F;exact⟨f,_,PySem.W.mg_of X G a,gJ l c k,(gK (st:=st) l c k).binds hb⟩
end E3
namespace L2
open PySem PySem.Spec PyProof.Rows
abbrev TH:=Ends->Addr->Addr->Option Addr->St->Hp->Prop
def HB (X:Cx)(hs:List ExceptHandler)(t:TH):Prop:=∀(pins:Pnx) (s:Shared) (σ:St) (H:Hp) (a C:Addr) (dx:Option Addr) (T:Addr) (D:Ends),
 Caught X pins σ H s a C dx T->kY X.K C=true->X.A.handled=none->t D C a dx σ H->wpAny (model X.prog X.w) X.A (handleBy (.ref a) X.env hs) (SP X pins D) X.xe s
end L2
namespace E3
open PySem PySem.Spec PyProof.Rows L2
abbrev HE:=Str->Int->Env->Mm->OS
section
variable {X:Cx}{Wx:XW}{m:Mode}{pos:Pos}
noncomputable def tH (X:Cx) (hh:HE):TH:=fun D C a dx st H=>∃P0 H0 P Os env M c n out M',Ok X.K X.mg P0 H0 P Os H M st env/\X.mg c=some (.ref C)/\J_ X.K X.mg P H none (some (.ref a)) (.exc c n)/\hh c n env M=some (out,M')/\Post X.K X.mg W0 P0 H0 P H M' D out
def En (out:Out):Prop:=(∃e,out=.nx e)\/∃d,out=.rt d
structure SH (X:Cx)(hs:List ExceptHandler)(hh:HE):Prop where
 hb:HB X hs (tH X hh)
 ok:∀c n env M out M',hh c n env M=some (out,M')->(∃C,X.mg c=some (.ref C)/\kY X.K C=true)/\En out
variable {suite:List Stmt}{b0:Stmt}{cn n:Str}{np hp:Pos}{c:Addr}{i:Nat}{h:S}{hs:List ExceptHandler}{r:HE}{cat:Str->Option Bool}
end
end E3
namespace L2
open PySem PySem.Spec PyProof.Rows
section
variable {X:Cx}{e:Expr}{es:List Expr}{te:TE}{t:TA}{pos:Pos}
open Builtin Builtin.Str in
open Builtin Builtin.Str in
open Builtin Builtin.Str in
end
end L2
namespace E3
open PySem PySem.Spec PyProof.Rows L2
section
variable {X:Cx}{Wx:XW}{m:Mode}
theorem Sv {P:Program}{w:World}{K:Fgx}{mg:Mgx}{base:Heap}{N:List Str}{q:Str}{st:Stmt}{f:Addr}{cdv:Value}{A:Around}{outer:List PySem.Env}{s:Shared}{H:Hp}{E:XK}{i:Nat}{x:Str}{pos:Pos}(hN:N[i]? =some x:=by rfl)(hv:LV st x:=by kernel_rfl)(hd:(x==("__debug__":Str))=false:=by x_go)(hcd:(x==("__classdict__":Str))=false:=by x_go):SE (yq P w K mg base N q st f cdv A outer s H E) Wx m (.Name x pos) (aj i):=Jg hN hv hd hcd
theorem Lv {P:Program}{w:World}{K:Fgx}{mg:Mgx}{base:Heap}{N:List Str}{q:Str}{st:Stmt}{f:Addr}{cdv:Value}{A:Around}{outer:List PySem.Env}{s:Shared}{H:Hp}{E:XK}{x:Str}(hv:LV st x:=by kernel_rfl):Loc (yq P w K mg base N q st f cdv A outer s H E).env.scope x:=.inl hv
theorem Lu {a b:Prop}(h:a:=by kernel_rfl):a\/b:=.inl h
theorem Ei {i:Int}{j pos}:SE X Wx m (.Constant (.int i) j pos) (ak (.int i)):=lY X_
theorem Es {z:Str}{j pos}:SE X Wx m (.Constant (.str z) j pos) (ak (.str z)):=Je Yj
theorem Eb {b:Bool}{j pos}:SE X Wx m (.Constant (.bool b) j pos) (ak (.bl b)):=Jb XR
theorem Ek {a b:Expr}{pos:Pos}{f g:E}(ha:SE X Wx .bor a f)(hb:SE X Wx .bor b g)(hs:Eo b:=by exact fun _ _=>rfl):SE X Wx m (.Subscript a b pos) (s2 aH f g):=zdf Vn YS ha hb hs
theorem Cm {a b:Expr}{op:CmpOp}{c:Cp}{pos:Pos}{f g:E}(hu:X.A.units + 60<cLine)(ha:SE X Wx .bor a f)(hb:SE X Wx .bor b g)(ho:op=tB c:=by rfl)(hm:behindInMarks op b=false:=by rfl):SE X Wx m (.Compare a [op] [b] pos) (s2 (aG c) f g):=by subst ho;exact zcD (tK hu c) zE ha hb hm
theorem Ct {a b:Expr}{op:CmpOp}{c:Cp}{pos:Pos}{f g:E}(hu:X.A.units + 60<cLine)(ha:SE X Wx .bor a f)(hb:SE X Wx .bor b g)(ho:op=tB c:=by rfl)(hm:behindInMarks op b=false:=by rfl):ST X Wx (.Compare a [op] [b] pos) (s2 (aG c) f g):=by subst ho;exact DQ (tK hu c) zE ha hb hm
end
section
variable {P:Program}{w:World}{K:Fgx}{h base:Heap}{mg:Mgx}{k:Nat}{x:Str}{st:Stmt}{N ps:List Str}{b:S}
abbrev HB (x:Str)(st:Stmt)(ps:List Str):Prop:=∀(kV doc pm:Value) (an:Option Addr) (cdv ct:Value) (us:List Value),us.length=ps.length->bindArgs (PySem.W.fnOf x x (bU st) (bL st) (aN st) .none kV doc pm an cdv ct) ⟨us,[]⟩=pure (ps.zip us)
theorem RP {a0:Str}(h:∀{kV doc pm:Value} {an:Option Addr} {cdv ct u0:Value},bindArgs (PySem.W.fnOf x x (bU st) (bL st) (aN st) .none kV doc pm an cdv ct) ⟨[u0],[]⟩=pure [(a0,u0)]):HB x st [a0]:=fun _ _ _ _ _ _ us hl=>match us,hl with | [_],_=>h
theorem RV {a0 a1:Str}(h:∀{kV doc pm:Value} {an:Option Addr} {cdv ct u0 u1:Value},bindArgs (PySem.W.fnOf x x (bU st) (bL st) (aN st) .none kV doc pm an cdv ct) ⟨[u0,u1],[]⟩=pure [(a0,u0),(a1,u1)]):HB x st [a0,a1]:=fun _ _ _ _ _ _ us hl=>match us,hl with | [_,_],_=>h
theorem RW {a0 a1 a2:Str}(h:∀{kV doc pm:Value} {an:Option Addr} {cdv ct u0 u1 u2:Value},bindArgs (PySem.W.fnOf x x (bU st) (bL st) (aN st) .none kV doc pm an cdv ct) ⟨[u0,u1,u2],[]⟩=pure [(a0,u0),(a1,u1),(a2,u2)]):HB x st [a0,a1,a2]:=fun _ _ _ _ _ _ us hl=>match us,hl with | [_,_,_],_=>h
theorem RX {a0 a1 a2 a3:Str}(h:∀{kV doc pm:Value} {an:Option Addr} {cdv ct u0 u1 u2 u3:Value},bindArgs (PySem.W.fnOf x x (bU st) (bL st) (aN st) .none kV doc pm an cdv ct) ⟨[u0,u1,u2,u3],[]⟩=pure [(a0,u0),(a1,u1),(a2,u2),(a3,u3)]):HB x st [a0,a1,a2,a3]:=fun _ _ _ _ _ _ us hl=>match us,hl with | [_,_,_,_],_=>h
theorem RZ {a0 a1 a2 a3 a4:Str}(h:∀{kV doc pm:Value} {an:Option Addr} {cdv ct u0 u1 u2 u3 u4:Value},bindArgs (PySem.W.fnOf x x (bU st) (bL st) (aN st) .none kV doc pm an cdv ct) ⟨[u0,u1,u2,u3,u4],[]⟩=pure [(a0,u0),(a1,u1),(a2,u2),(a3,u3),(a4,u4)]):HB x st [a0,a1,a2,a3,a4]:=fun _ _ _ _ _ _ us hl=>match us,hl with | [_,_,_,_,_],_=>h
theorem bV.ok (F:bV K x st)(X:K.In h)(G:h.Ns mainGlobals mg)(S:FnScope N ps (aN st))(hr:∀f,RT P w K mg base k f N x st b)
  (hb:HB x st ps:=by first |exact RP rfl |exact RV rfl |exact RW rfl |exact RX rfl |exact RZ rfl) (hp:ps.length<=N.length:=by decide):bH P w K mg base (k + 1) x ps.length (b_ N.length b):=by
 obtain⟨f,d,D⟩:=F.at X G hb;exact D.ok S (hr f) hp
theorem bH.up {j n:Nat}{g:G}(a:bH P w K mg base j x n g)(h:j<=k:=by decide):bH P w K mg base k x n g:=a.mono h
theorem pP.up {j n:Nat}{g:G}(a:pP P w K mg base j x n g)(h:j<=k:=by decide):pP P w K mg base k x n g:=a.mono h
theorem mj.up {j n:Nat}{C:Addr}{g:G}(a:mj P w K mg base j C n g)(h:j<=k:=by decide):mj P w K mg base k C n g:=a.mono h
theorem cQ.up {j n:Nat}{C:Addr}{m:Str}{g:G}(a:cQ P w K mg base j C m n g)(h:j<=k:=by decide):cQ P w K mg base k C m n g:=a.mono h
theorem fj.up {j n:Nat}{C:Addr}{m:Str}{g:G}(a:fj P w K mg base j C m n g)(h:j<=k:=by decide):fj P w K mg base k C m n g:=a.mono h
theorem eZ.up {j n:Nat}{C:Addr}{g:G}(a:eZ P w K mg base j C n g)(h:j<=k:=by decide):eZ P w K mg base k C n g:=a.mono h
theorem gY.up {j n:Nat}{C:Addr}{m:Str}{g:G}(a:gY P w K mg base j C m n g)(h:j<=k:=by decide):gY P w K mg base k C m n g:=a.mono h
theorem mK {K:Fgx}{t:Addr}{d m s j0 j1 j2}{a b:Str}{i:Int}(l:K.lookup t=some ⟨.type "tuple",d,.seq #[.str a j0,.str b j1,.int i j2] m,s⟩):∀P H,Is K P H (.tup [.str a,.str b,.int i]) (.ref t):=M6 (vs:=[.str a,.str b,.int i]) l rfl rfl (by show 3<=sizeLine;decide) (.cons ⟨_,rfl⟩ (.cons ⟨_,rfl⟩ (.cons ⟨_,rfl⟩ .nil))) (fun _ _=>⟨_,_,rfl,rfl,⟨_,_,rfl,rfl,⟨_,_,rfl,rfl,rfl⟩⟩⟩)
end
end E3
namespace L2
open PySem PySem.Spec PyProof.Rows
end L2
namespace E3
open PySem PySem.Spec PyProof.Rows L2
end E3
namespace L2
open PySem PySem.Spec PyProof.Rows
end L2
namespace E3
open PySem PySem.Spec PyProof.Rows L2
end E3
namespace L2
open PySem PySem.Spec PyProof.Rows
end L2
namespace E3
open PySem PySem.Spec PyProof.Rows L2
section
variable {X:Cx}{Wx:XW}{m:Mode}{pos:Pos}
noncomputable def k_ (j:Nat) (q e:E) (env:Env):Nat->Nat->List D->Mm->Option (List D×Mm)
  |0,_,_,_=>none
  |n + 1,t,acc,M=>match M[j]? with
    | some (.lst ds) => (match ds[t]? with
      |none=>some (acc,M)
      | some d => (match q (.val d::env) M with
        | some (.v (.bl true), M2) => (match e (.val d::env) M2 with
          |some (.v y,M3)=>if acc.length + 1<sizeLine then k_ j q e env n (t + 1) (acc ++ [y]) M3 else none
          |_=>none)
        |some (.v (.bl false),M2)=>k_ j q e env n (t + 1) acc M2
        |_=>none))
    |_=>none
noncomputable def lV (n:Nat) (cs:List (Str×Nat)) (f q e:E):E:=fun env M=>bnd (f env M) fun d M1=>match d with
  | .ref j => (match k_ j q e (bW cs env) n 0 [] M1 with
    |some (ys,M2)=>some (.v (.lst ys),M2)
    |none=>none)
  |_=>none
theorem Tz {n:Nat}{cs:List (Str×Nat)}{f q e:E}:∀env M r M',lV n cs f q e env M=some (.v r,M')->∃ds,r=.lst ds:=fun env M r M' h=>by
 unfold lV at h;rcases cG h with⟨d,M1,e1,h⟩ |⟨c,n,e1,h⟩
 ·split at h
  ·split at h
   ·cases h;exact⟨_,rfl⟩
   ·cases h
  ·cases h
 ·cases h
theorem TF {K:Fgx}{mg:Mgx}{n:Nat}{cs:List (Str×Nat)}{f q e:E}{P0 P:Pl}{H0 H:Hp}{Os:List (Option Addr)}{M M':Mm}{st:L2.St}{env:Env}{r:Res}{R:Addr->Hp->Prop}(nd:(cs.map (·.2)).Nodup)
    (k:Ok K mg P0 H0 P Os H M st env) (ee:lV n cs f q e env M=some (r,M')) (w:NR K mg Wx P0 H0 P H M' R r):xR (Mx K (tE K mg Wx .val f)) (m7 K mg W0 q) (tE K mg W0 .val e) cs st H R:=by
  unfold lV at ee;rcases cG ee with⟨d,M1,e1,ee⟩ |⟨c,n,e1,rfl⟩
  · split at ee
    · rename_i j;split at ee
      · rename_i ys M2 ec;cases ee;obtain⟨ds',e',w⟩:=w;cases e';refine⟨P0,H0,P,Os,env,M,_,_,k,e1,fun P1 v1 H1 l1 h1 i1=>?_⟩;obtain⟨jl,rfl⟩:j<P1.n/\v1=.ref (P1.io j):=i1;have hl:∃vs,bI K H1 (P1.io j) vs:=by
          cases n with
          |zero=>cases ec
          |succ n=>
            simp only[k_]at ec;split at ec
            · rename_i ds em;obtain⟨vs,ev,is⟩:=h1.cell j _ em;exact⟨vs,.inl (.inl ev)⟩
            · cases ec
        refine ⟨P1.io j, rfl, hl, fun D hD => ?_⟩;obtain ⟨l2, h2, nc⟩ := sW (vs := []) h1 hD;refine ⟨fun i m vs H2=>∃P2 M3 acc,LtE P1 H1 P2 H2/\Hk K mg P2 H2 M3/\P2.bd D/\(∀k,k<P2.n->P2.io k≠D)/\H2 D=some (.lst vs)/\aC K P2 H2 acc vs/\acc.length<sizeLine/\k_ j q e (bW cs env) m i acc M3=some (ys,M'),
          ⟨n,P1.bar D,M1,[],l2,h2,.inr rfl,nc,dw,rfl,by x_go,ec⟩,?_⟩
        rintro i m vs H2 ⟨P2,M3,acc,l3,h3,bD,nD,eD,is,hz,ec⟩;refine⟨eD,?_⟩
        cases m with
        |zero=>cases ec
        |succ m=>
          simp only[k_]at ec;split at ec
          · rename_i ds em;obtain⟨us,ev,iu⟩:=h3.cell j _ em;rw[l3.io j jl]at ev;have sq:bI K H2 (P1.io j) us:=.inl (.inl ev);split at ec
            · rename_i et;cases ec;exact .inl ⟨⟨us,sq,by rw[iu.len];exact xcA.mp et⟩,w P2 D vs H2 (l1.trans l3) h3 (l1.sure D hD) bD nD eD is⟩
            · rename_i d et;obtain ⟨v, evt, iv⟩ := iu.get et;refine .inr ⟨⟨us,v,sq,evt⟩,by rw[is.len];exact hz,fun vs' H'=>∃P2 M3 acc,LtE P1 H1 P2 H'/\Hk K mg P2 H' M3/\P2.bd D/\(∀k,k<P2.n->P2.io k≠D)/\H' D=some (.lst vs')/\aC K P2 H' acc vs'/\acc.length<sizeLine/\k_ j q e (bW cs env) m (i + 1) acc M3=some (ys,M'),
                fun vs' H' z=>⟨m,xba _,z⟩,fun x' H' y=>?_⟩
              obtain⟨rfl,hy⟩:=y;have ex':v=x':=xaD (evt.symm.trans (hy us sq));subst ex';have kk:=((k.next l1 h1).next l3 h3).cap (cs:=cs) nd iv
              split at ec
              · rename_i M4 eq;refine fX kk eq ⟨true,rfl,fun P4 H4 l4 h4=>?_⟩;dsimp only;rw[xac rfl];have k4:=kk.next l4 h4
                have eD4:H4 D=some (.lst vs):=l4.keep D _ eD (.inr nD);have nD4:∀k,k<P4.n->P4.io k≠D:=l4.nc eD nD;have bD4:=l4.bm D bD;have is4:=aC.lt (l4.lt h3) is;split at ec
                · rename_i y' M5 ey;split at ec
                  · rename_i hz';refine bf k4 ey fun P5 v5 H5 l5 h5 i5=>?_;have eD5:H5 D=some (.lst vs):=l5.keep D _ eD4 (.inr nD4);have nD5:∀k,k<P5.n->P5.io k≠D:=l5.nc eD4 nD4;obtain⟨g1,g2,g3⟩:=Mv (vs':=vs ++ [v5]) (l3.trans (l4.trans l5)) h5 hD (l5.bm D bD4) nD5 eD5;exact⟨eD5,P5,M5,acc ++ [y'],g2,g3,l5.bm D bD4,nD5,dw,aC.append (aC.lt ((l5.lt h4).trans g1) is4) (aC.one (Is.lt g1 i5)),by rw[xaj];exact hz',ec⟩
                  · cases ec
                · cases ec
              · rename_i M4 eq;refine fX kk eq ⟨false,rfl,fun P4 H4 l4 h4=>?_⟩;dsimp only;rw[xae (by decide)];exact⟨P4,M4,acc,l3.trans l4,h4,l4.bm D bD,l4.nc eD nD,l4.keep D _ eD (.inr nD),aC.lt (l4.lt h3) is,hz,ec⟩
              · cases ec
          · cases ec
      · cases ee
    · cases ee
  · exact⟨P0,H0,P,Os,env,M,_,_,k,e1,w⟩
theorem QS (n:Nat)(x:Str)(cs:List (Str×Nat)){px:Pos}{iter elt:Expr}{ifs:List Expr}{scope:Scope}{f q e:E}(hc:X.calm=true)(nd:(cs.map (·.2)).Nodup)(hi:SE X Wx .val iter f)
  (hq:∀(cl:List (Str×Addr)) (C:Addr) (s₀:Shared) (H₀:Hp) (ex:List Addr) (pn:Pnx),SQ (cN X (x::cs.map (·.1)) scope cl C s₀ H₀ ex pn) ifs q)
  (he:∀(cl:List (Str×Addr)) (C:Addr) (s₀:Shared) (H₀:Hp) (ex:List Addr) (pn:Pnx),SE (cN X (x::cs.map (·.1)) scope cl C s₀ H₀ ex pn) W0 .val elt e)
  (ok:wG X.N X.env.scope x cs scope=true:=by kernel_rfl) (hs:∀x,foldedSetIterable iter X.env x=pure x:=by intro _;rfl):
  SN X Wx (.ListComp elt [⟨.Name x px,iter,ifs,0⟩] scope pos) (lV n cs f q e):=by
 refine cA (Oz (tq:=m7 X.K X.mg W0 q) (te:=tE X.K X.mg W0 .val e) x cs hc (Cz hi) hq he ok hs) ?_;rintro st H Q ⟨P0,H0,P,Os,env,M,r,M',k,ee,w⟩;refine TF nd k ee ?_
 cases r with
 |v d=>exact w
 |x c n=>exact w
noncomputable def sZ (j:Nat) (e:E) (env:Env):Nat->Nat->List D->Mm->Option (List D×Mm)
  |0,_,_,_=>none
  |n + 1,t,acc,M=>match M[j]? with
    | some (.lst ds) => (match ds[t]? with
      |none=>some (acc,M)
      | some d => (match e (.val d::env) M with
        |some (.v y,M2)=>if acc.length + 1<sizeLine then sZ j e env n (t + 1) (acc ++ [y]) M2 else none
        |_=>none))
    |_=>none
noncomputable def mR (n:Nat) (cs:List (Str×Nat)) (f e:E):E:=fun env M=>bnd (f env M) fun d M1=>match d with
  | .ref j => (match sZ j e (bW cs env) n 0 [] M1 with
    |some (ys,M2)=>some (.v (.lst ys),M2)
    |none=>none)
  |_=>none
theorem Tw {n:Nat}{cs:List (Str×Nat)}{f e:E}:∀env M r M',mR n cs f e env M=some (.v r,M')->∃ds,r=.lst ds:=fun env M r M' h=>by
 unfold mR at h;rcases cG h with⟨d,M1,e1,h⟩ |⟨c,n,e1,h⟩
 ·split at h
  ·split at h
   ·cases h;exact⟨_,rfl⟩
   ·cases h
  ·cases h
 ·cases h
theorem KQ {j:Nat}{e:E}{env:Env}:∀(n t:Nat) (acc:List D) (M:Mm),sZ j e env n t acc M=k_ j (ak (.bl true)) e env n t acc M
  |0,_,_,_=>rfl
  |n + 1,t,acc,M=>by
    simp only[sZ,k_,ak,KQ n]
theorem zaE {n:Nat}{cs:List (Str×Nat)}{f e:E}:mR n cs f e=lV n cs f (ak (.bl true)) e:=by
 funext env M;simp only[mR,lV,KQ]
theorem za4 (n:Nat)(x:Str)(cs:List (Str×Nat)){px:Pos}{iter elt:Expr}{scope:Scope}{f e:E}(hc:X.calm=true)(nd:(cs.map (·.2)).Nodup)(hi:SE X Wx .val iter f)
  (he:∀(cl:List (Str×Addr)) (C:Addr) (s₀:Shared) (H₀:Hp) (ex:List Addr) (pn:Pnx),SE (cN X (x::cs.map (·.1)) scope cl C s₀ H₀ ex pn) W0 .val elt e)
  (ok:wG X.N X.env.scope x cs scope=true:=by kernel_rfl) (hs:∀x,foldedSetIterable iter X.env x=pure x:=by intro _;rfl):
  SN X Wx (.ListComp elt [⟨.Name x px,iter,[],0⟩] scope pos) (mR n cs f e):=by
 rw[zaE];exact QS n x cs hc nd hi (fun _ _ _ _ _ _=>DG) he ok hs
end
end E3
namespace E3
open PySem L2
section
variable {env:Env}{M M1 M2 M3 M4:Mm}{f g h v:E}{d e x y:D}{i:Int}{n k:Nat}{ds es:List D}{kvs:List (Key×D)}{key:Key}
theorem KZ {j:Nat}{e:E}(F:D->D)(hM:M[j]? =some (.lst ds))(he:∀d∈ds,e (.val d::env) M=some (.v (F d),M)):∀(n t:Nat) (acc:List D),ds.length - t<n->t<=ds.length->acc.length + (ds.length - t)<sizeLine->sZ j e env n t acc M=some (acc ++ (ds.drop t).map F,M)
  |0,t,acc,h,_,_=>absurd h (xbA _)
  |n + 1,t,acc,h,ht,hl=>by
    by_cases q:t<ds.length
    · simp only[sZ,hM,xah q,he _ (xbv q)];rw[xac (by lia),KZ F hM he n (t + 1) (acc ++ [F ds[t]]) (by lia) q (by rw[xaj,xaA];lia),xaO q,xaP,xat];rfl
    · simp only[sZ,hM,xbj (xbu q)];rw[List.drop_of_length_le (xbu q)]
      simp
theorem Sy {cs:List (Str×Nat)}{j:Nat}{e:E}(F:D->D)(h1:f env M=some (.v (.ref j),M1))(hM:M1[j]? =some (.lst ds))(he:∀d∈ds,e (.val d::bW cs env) M1=some (.v (F d),M1))(hn:ds.length<n)(hl:ds.length<sizeLine):
  mR n cs f e env M=some (.v (.lst (ds.map F)),M1):=by
 simp only[mR,bnd,h1,KZ F hM he n 0 [] (by lia) (xaS _) (by simpa using hl),xb9,xa4]
end
end E3
namespace L2
open PySem PySem.Spec PyProof.Rows
end L2
namespace E3
open PySem PySem.Spec PyProof.Rows L2
end E3
namespace E3
open PySem PySem.Spec PyProof.Rows L2 PySem.W
section
variable {n:Nat}{lt:Nat->Nat->Option Bool}{le:Nat->Nat->Prop}
def Pm (n:Nat)(p:Array Nat):Prop:=p.Perm (List.range n).toArray
theorem Mt {p q:Array Nat}{i j:Nat}(h:p[i]? =q[j]?):p.getD i 0=q.getD j 0:=by
 rw[xbY,xbY,h]
theorem zdj {p:Array Nat}{i j:Nat}(hj:j<=p.size)(k:Nat):(kas_rev p i j).getD k 0=if i<=k/\k<j then p.getD (i + j - 1 - k) 0 else p.getD k 0:=by
 have:=getElem?_mirror_all (xs:=p) (i:=i) hj k
 split
 ·rename_i h;rw[xac h]at this;exact Mt this
 ·rename_i h;rw[xae h]at this;exact Mt this
def Up (le:Nat->Nat->Prop)(p:Array Nat)(m:Nat):Prop:=∀i j,i<=j->j<m->le (p.getD i 0) (p.getD j 0)
def Dn (le:Nat->Nat->Prop)(p:Array Nat)(m:Nat):Prop:=∀i j,i<=j->j<m->le (p.getD j 0) (p.getD i 0)
def Al (le:Nat->Nat->Prop)(p:Array Nat)(m q:Nat):Prop:=∀i j,m - (q + 1)<=i->i<m->m - (q + 1)<=j->j<m->le (p.getD i 0) (p.getD j 0)
variable (hn:0<n)(rf:∀i,le i i)(tr:∀i j k,le i j->le j k->le i k)(H:∀i j,i<n->j<n->∃b,lt i j=some b/\(b=true->le i j)/\(b=false->le j i))
include rf tr
include hn H
end
end E3
namespace L2
open PySem PySem.Spec PyProof.Rows
section
variable {X:Cx}
theorem Ks:X.calm=true->dz X (.builtin "min") (fun xs H Q=>∃(p:Addr) (is:List Int),xs=[.ref p]/\0<is.length/\bI X.K H p (is.map V.int)/\∀m,m∈is->(∀a∈is,m<=a)->Q (.int m) H):=by
 intro hc pins s σ H xs us Q I r h;obtain⟨p,is,rfl,hne,hq,q⟩:=h;obtain⟨u,rfl,rx⟩:=vals1 r;cases rx;obtain⟨its,rv,pl,hz⟩:=I.list hq;have hi:=Gx rv;have hn:=hi.numsOf;have hlen:=rv.length;rw[xaf]at hlen;obtain⟨zs,hzs⟩:=hi.allInts.items;have hl:=pl.isList;have e1:numsOf its.toArray.toList=is:=hn;rw[hzs]at hl e1;have hs:0<zs.size:=by
  have:its.toArray.size=zs.size:=by rw[hzs];simp[intItems]
  rw[xam]at this;lia
 rw[nums_intItems]at e1;refine min_intList (I.ok.hd hc) hl hs fun v h' tk hv hk=>?_;obtain⟨t,rfl⟩:=intItems_at hv;obtain⟨h1,h2⟩:=argBest_lt (numAt zs) (zs.size - 1);refine⟨.int _,H,I.kept hk,⟨t,rfl⟩,q _ ?_ fun a ha=>?_⟩
 ·rw[<-e1,numAt_eq];exact getD_mem (by rw[xaf,xai];lia)
 ·rw[<-e1]at ha;obtain⟨j,hj,rfl⟩:=mem_getD ha;rw[xaf,xai]at hj;rw[<-numAt_eq];exact h2 j (by lia)
end
end L2
namespace E3
open PySem PySem.Spec PyProof.Rows L2
noncomputable def d8:List Int->Int
 | []=>0
 | [a]=>a
 |a::b::r=>min a (d8 (b::r))
theorem Ko {m:Int}:∀(l:List Int),l≠ []->(∀a∈l,m<=a)->m<=d8 l
  | [],z,_=>absurd rfl z
  | [c],_,g=>g c (by simp)
  |c::d::l,_,g=>by
    have h1:=g c (by simp);have h2:=Ko (d::l) (by simp) fun a ha=>g a (xal _ ha);unfold d8;lia
theorem Fw:∀{is:List Int} {m:Int},m∈is->(∀a∈is,m<=a)->d8 is=m
  | [],_,h,_=>by cases h
  | [a],m,h,_=>by rw[xax]at h;exact h.symm
  |a::b::r,m,h,g=>by
    have ha:=g a (xau ..);have hb:=Ko (b::r) (by simp) fun a ha=>g a (xal _ ha);unfold d8;rcases xar.mp h with rfl |h
    · lia
    · have:=Fw h fun a ha=>g a (xal _ ha);lia
noncomputable def sV:List D->Option D
  | [.lst ds]=>match nT ds with
    |some is=>if 0<is.length then some (.int (d8 is)) else none
    |none=>none
  |_=>none
theorem O8 {K:Fgx}:lF K (fun xs H Q=>∃(p:Addr) (is:List Int),xs=[.ref p]/\0<is.length/\bI K H p (is.map V.int)/\∀m,m∈is->(∀a∈is,m<=a)->Q (.int m) H) sV:=fun P H ds z vs Q h i _ q=>by
 unfold sV at h;split at h
 ·split at h
  ·rename_i is ei;split at h
   ·rename_i hl;cases h;obtain⟨v,ws,rfl,p,rfl⟩:=i;obtain⟨a,us,rfl,r,s⟩:=p;have eu:=Bp ei s;subst eu;exact⟨a,is,rfl,hl,r,fun m h1 h2=>by rw[<-Fw h1 h2];exact q _ H (Same.refl H) rfl⟩
   ·cases h
  ·cases h
 ·cases h
section
variable {X:Cx}{Wx:XW}{m:Mode}{pos:Pos}{K:Fgx}
theorem zbO {a b:Expr}{f g:E}(hl:SN X Wx a f)(hr:SE X Wx .val b g):SN X Wx (.BinOp a .Mult b pos) (Ja f g):=by
  refine cA (OD XH hl hr) ?_;rintro st H Q ⟨P0,H0,P,Os,env,M,r,M',k,e,q⟩;unfold Ja at e;rcases cG e with⟨d,M1,e1,e⟩ |⟨c,n,e1,rfl⟩
  · split at e
    · rename_i ds;refine⟨P0,H0,P,Os,env,M,_,_,k,e1,ds,rfl,fun P1 a vs H1 l1 h1 ha ba nc ea is=>?_⟩;rcases cG e with⟨d2,M2,e2,e⟩ |⟨c,n,e2,rfl⟩
      · split at e
        · rename_i i;split at e
          · rename_i hi;cases e;obtain⟨ds',e',q⟩:=q;cases e';refine⟨P0,H0,P1,Os,env,M1,_,_,k.next l1 h1,e2,fun P2 v2 H2 l2 h2 i2=>?_⟩
            have ev:v2=.int i:=i2;subst ev;have e3:=l2.keep a _ ea (.inr nc);have is2:=aC.lt (l2.lt h1) is;have ln:vs.length=ds.length:=is.len;refine⟨a,i,vs,rfl,rfl,e3,by lia,by lia,?_,fun p hp=>?_⟩
            · rw[xaX,ln];have:ds.length * i.toNat<=100 * 100000:=Nat.mul_le_mul hi.2 (by lia);lia
            · obtain⟨l3,h3,nc3⟩:=sW (vs:=(List.replicate i.toNat vs).flatten) h2 hp;exact q (P2.bar p) p _ _ (l1.trans (l2.trans l3)) h3 ((l1.trans l2).sure p hp) (.inr rfl) nc3 dw (aC.lt (l3.lt h2) (is2.rep _))
          · cases e
        · cases e
      · exact⟨P0,H0,P1,Os,env,M1,_,_,k.next l1 h1,e2,q⟩
    · cases e
  · exact⟨P0,H0,P,Os,env,M,_,_,k,e1,q⟩
end
section
variable {X:Cx}{Wx:XW}
def XP (X:Cx)(D:Ends)(f:Flow)(s':Shared):Prop:=match f with
 |.ret u=>∃v H',s'.os=X.s₀.os/\AllBare s'.gens/\Un X.fs [] X.H₀ H' X.s₀.heap s'.heap/\cJ X.prog X.w H' s'.heap/\RelV v u/\D.rt v H'
 |.brk=>∃σ' H',D.bk σ' H'
 |.cont=>∃σ' H',D.ct σ' H'
 |.next=>False
end
def RL (mg:Mgx)(base:Heap):Prop:=∃bm o,mg "__builtins__"=some (.ref bm)/\bm≠builtinsNs/\bm≠mainGlobals/\base.get? bm=some o/\o.cls=.type "module"/\o.dict=some builtinsNs/\o.data=.plain
structure MkOk (X:Cx)(nm:Str)(i:FnT)(caps:List (Str×Nat))(cl:List (Str×Addr))(c Pt:Addr)(j:Nat):Prop where
 ex:X.ex=[]
 fn:∀x,X.fn x=true
 st:∃params body scope,i.st=.FunctionDef i.x params body [] none [] scope none i.x i.pos/\((params.defaults=[]/\i.dd=[])\/∃n a p,params.defaults=[.Constant (.int n) a p]/\i.dd=[n]/\cl≠ [])/\params.kw_defaults=[]/\params.kwonlyargs=[]/\annTrees params none X.env=[]
 q:qualnameIn X.env i.x i.x=i.q
 code:X.env.code=.ref c
 tab:PySem.W.tabIn X.K nm=some (c,Pt)
 hd:PySem.W.codeHdIn X.K c Pt=true
 bm:RL X.mg X.base
 clo:closureFor (aN i.st) X.env=pure cl
 nam:cl.map (·.1)=caps.map (·.1)
 Bj:caps.map (·.1)=i.fr
 cel:∀p∈cl,X.env.cells.lookup p.1=some p.2
 cap:∀p∈caps,X.N[p.2]? =some p.1/\X.env.scope.names.lookup p.1=some .cell/\p.2≠j
 nd:X.N.Nodup
 jx:X.N[j]? =some i.x
 jl:X.env.scope.names.lookup i.x=some .local
 db:(i.x==("__debug__":Str))=false
 cd:(i.x==("__classdict__":Str))=false
structure FnScopeC (N ps fr:List Str)(sc:Scope):Prop where
 kind:sc.kind=.function
 co:sc.isCoroutine=false
 gen:sc.isGenerator=false
 nd:N.Nodup
 pre:N.take ps.length=ps
 suf:N.drop (N.length - fr.length)=fr
 len:ps.length + fr.length<=N.length
 par:∀x∈ps,sc.names.lookup x=some .local
 fre:∀x∈fr,sc.names.lookup x=some .free
 all:∀y∈sc.names,y.2=.free->y.1∈fr
 noc:∀y∈sc.names,y.2≠ .cell
noncomputable def sI (N:List Str) (vs cvs:List V):L2.St:=vs.map some ++ (List.replicate (N.length - vs.length - cvs.length) none ++ cvs.map some)
noncomputable def nG (np n:Nat) (ds:List D):Env:=(ds.take np).map .val ++ (List.replicate (n - ds.length) .un ++ (ds.drop np).map .val)
def tL (np n:Nat)(b:S):G:=fun ds M=>cX (b (nG np n ds) M)
noncomputable def Bc (P:Program) (w:World) (K:Fgx) (mg:Mgx) (base:Heap) (N:List Str) (i:FnT) (f:Addr) (cd:Value) (cl:List (Str×Addr)) (A:Around) (outer:List PySem.Env) (s:Shared) (H:Hp):Cx where
 prog:=P
 w:=w
 K:=K
 mg:=mg
 base:=base
 A:=A.deeper (PySem.W.envX i.q (aN i.st) s.heap.objs.size f cd cl)
 N:=N
 s₀:=s
 H₀:=H
 env:=PySem.W.envX i.q (aN i.st) s.heap.objs.size f cd cl
 outer:=outer
 stack:=PySem.W.envX i.q (aN i.st) s.heap.objs.size f cd cl::outer
 ex:=[]
 calm:=true
 fn:=fun _=>false
 pn:=[]
 xe:=fun _ _=>False
theorem lB.get {H:Hp}:∀{cl:List (Str×Addr)} {vs:List V} {j:Nat} {p:Str×Addr},lB H cl vs->cl[j]? =some p->∃v u o,vs[j]? =some v/\RelV v u/\H p.2=some (.frz o (.own p.2))/\o.data=.cell (some u)
  | [],_,_,_,_,e=>by simp at e
  |q::cl,_,0,p,h,e=>by
    obtain⟨v,ws,u,o,e1,r,g,d,_⟩:=h
    simp at e
    subst e e1;exact⟨v,u,o,rfl,r,g,d⟩
  |q::cl,_,j + 1,p,h,e=>by
    obtain⟨v,ws,u,o,e1,_,_,_,h⟩:=h;subst e1;exact lB.get (j:=j) h (by simpa using e)
theorem lB.len {H:Hp}:∀{cl:List (Str×Addr)} {vs:List V},lB H cl vs->vs.length=cl.length
  | [],_,h=>by rw[show _=[] from h];rfl
  |q::cl,_,h=>by
    obtain⟨v,ws,u,o,e1,_,_,_,h⟩:=h;subst e1
    simp[h.len]
theorem BJ {β:Type}:∀{l:List (Str×β)} {y:Str} {u:β},(l.map (·.1)).Nodup->(y,u)∈l->l.lookup y=some u
  | [],_,_,_,h=>nomatch h
  |(z,v)::l,y,u,nd,h=>by
    have nd':=xbM.mp nd;rw[xbV];rcases xar.mp h with hm |hm
    · obtain⟨rfl,rfl⟩:=Prod.mk.inj hm;rw[xbF]
    · have:(y==z)=false:=by
        rw[xbp];exact fun z'=>nd'.1 (xaw.mpr ⟨_,hm,z'⟩)
      rw[this];exact BJ nd'.2 hm
theorem RK {α β:Type}:∀{l:List α} {m:List β},l.length=m.length->(l.zip m).map (·.1)=l
  | [],[],_=>rfl
  | [],_::_,h=>by simp at h
  |_::_,[],h=>by simp at h
  |a::l,b::m,h=>by
    rw[xdD,xaP,RK (by simpa using h)]
theorem zip_get {α β:Type}:∀{l:List α} {m:List β} {i:Nat} {a:α} {b:β},l[i]? =some a->m[i]? =some b->(a,b)∈l.zip m
  | [],_,_,_,_,h,_=>by simp at h
  |_::_,[],_,_,_,_,h=>by simp at h
  |a::l,b::m,0,_,_,h1,h2=>by
    simp at h1 h2
    subst h1 h2
    simp
  |a::l,b::m,i + 1,_,_,h1,h2=>by
    rw[xdD];exact xal _ (zip_get (i:=i) (by simpa using h1) (by simpa using h2))
section
variable {P:Program}{w:World}{K:Fgx}{mg:Mgx}{base:Heap}{k:Nat}{i:FnT}{N ps:List Str}{b:S}
theorem Vf {fr:List Str}{f:Addr}{cd:Value}{cl:List (Str×Addr)}{A:Around}{outer:List PySem.Env}{s:Shared}{H:Hp}{us:List Value}{vs cvs:List V}{h':Heap}{tk:Nat}(S:FnScopeC N ps fr (aN i.st))(hd:A.handled=none)(e0:Env0 P w K mg base A outer s H)
    (hl:vs.length=ps.length) (r:Vals vs us) (hfr:cl.map (·.1)=fr) (hc:lB H cl cvs) (hi:∀x y a,cl.lookup x=some a->cl.lookup y=some a->x=y)
    (hns:h'.Ns s.heap.objs.size (fun x=>(ps.zip us).reverse.lookup x)) (hk:∀b o,s.heap.get? b=some o->h'.get? b=some o):
    Inv (Bc P w K mg base N i f cd cl A outer s H) [] (sI N vs cvs) H {s with heap:=h',toks:=tk}:=by
  have noA:∀b:Addr,b∉(Bc P w K mg base N i f cd cl A outer s H).ex:=fun b z=>absurd (show b∈([]:List Addr) from z) (by simp);have ndf:(cl.map (·.1)).Nodup:=by rw[hfr, <-S.suf];exact S.nd.sublist (List.drop_sublist _ _)
  have cll:cvs.length=fr.length:=by rw[hc.len, <-hfr,xaf]
  have S_len:=S.len;have cellAt:∀y c,cl.lookup y=some c->∃u o,H c=some (.frz o (.own c))/\o.data=.cell (some u)/\h'.get? c=some o:=fun y c e=>by
    obtain⟨j,hj⟩:=List.getElem?_of_mem (xbq e);obtain⟨v,u,o,_,_,g,d⟩:=hc.get hj;exact⟨u,o,g,d,hk _ _ (e0.hok _ _ g).1⟩
  have ulen:us.length=ps.length:=by rw[<-r.length];exact hl
  have ndP:ps.Nodup:=by rw[<-S.pre];exact S.nd.sublist (xew _ _)
  refine ⟨⟨e0.mod,S.kind,rfl,rfl,xad _,hi,fun y hy=>?_,(fun y c z=>nomatch z),fun _=>hd,Around.frames_deeper e0.frames,.inr ⟨rfl,rfl⟩,fun b z=>absurd z (noA b),e0.bs,e0.bsz,fun b _ _=>noA b,fun b z=>absurd z (noA b),e0.funs,e0.frf⟩,
    rfl,e0.bare,Un.kept hk,⟨_,hns,fun n y v h1 h2 h3=>?_⟩,fun y c h=>?_,e0.hok.fresh (xad _),fun y c h=>?_,fun p hp=>absurd (show p∈([]:Pnx) from hp) (by simp),e0.hok.kept hk,?_⟩
  · have hy:(aN i.st).names.lookup y=some .cell\/(aN i.st).names.lookup y=some .free:=hy;rcases hy with hy |hy
    · exact absurd rfl (S.noc _ (xbq hy))
    · have:y∈cl.map (·.1):=by rw[hfr];exact S.all _ (xbq hy) rfl
      obtain⟨p,hp,rfl⟩:=xaw.mp this;exact⟨p.2,BJ ndf hp⟩
  · unfold sI at h2
    by_cases hn:n<vs.length
    · rw[xaH (by simpa using hn),xao]at h2;have ha:vs[n]? =some v:=by
        cases e:vs[n]? with
        |none=>rw[e]at h2;cases h2
        |some a=>rw[e]at h2;cases h2;rfl
      obtain⟨u,hu,rv⟩:=r.get ha;have hp:ps[n]? =some y:=by rw[<-S.pre,xcH (by lia)];exact h1
      refine⟨u,rv,.inl ⟨S.par y (xaT hp),?_⟩⟩;refine BJ ?_ (xct.mpr (zip_get hp hu));rw[List.map_reverse,RK ulen.symm];exact(List.reverse_perm _).nodup_iff.mpr ndP
    · rw[xas (by simpa using hn),xaf]at h2
      by_cases hn2:n - vs.length<N.length - vs.length - cvs.length
      · rw[xaH (by simpa using hn2),xa0,xac hn2]at h2;cases h2
      · rw[xas (by simpa using hn2),xaZ,xao]at h2;have ha:cvs[n - vs.length - (N.length - vs.length - cvs.length)]? =some v:=by
          cases e:cvs[n - vs.length - (N.length - vs.length - cvs.length)]? with
          |none=>rw[e]at h2;cases h2
          |some a=>rw[e]at h2;cases h2;rfl
        have hf:fr[n - vs.length - (N.length - vs.length - cvs.length)]? =some y:=by
          have:(N.drop (N.length - fr.length))[n - vs.length - (N.length - vs.length - cvs.length)]? =some y:=by
            rw[xet, <-h1];congr 1;lia
          rw[S.suf]at this;exact this
        rw[<-hfr,xao,xak]at hf;obtain⟨p,hp,rfl⟩:=hf;obtain⟨v',u,o,ev,ru,g,d⟩:=hc.get hp;rw[ha]at ev;cases ev;refine⟨u,ru,.inr ⟨.inr (S.fre _ (by rw[<-hfr];exact xaw.mpr ⟨p,xaT hp,rfl⟩)),p.2,BJ ndf (xaT hp),o,hk _ _ (e0.hok _ _ g).1,d⟩⟩
  · obtain⟨u,o,_,d,g⟩:=cellAt y c h;exact⟨some u,o,g,d⟩
  · obtain⟨u,o,g,_,_⟩:=cellAt y c h;exact .inr ⟨rfl,o,_,g⟩
  · unfold sI;show _=N.length;rw[xaj,xaj,xaf,xaZ,xaf];lia
theorem zaA {Pl:Pl}{H:Hp}{M:Mm}{ds cds:List D}{vs cvs:List V}(hk:Hk K mg Pl H M)(hl:vs.length + cvs.length<=N.length)(h:aC K Pl H ds vs)(hc:aC K Pl H cds cvs):
  Ok K mg Pl H Pl (List.replicate N.length none) H M (sI N vs cvs) (nG ds.length N.length (ds ++ cds)):=by
 have hd:=h.len;have hd2:=hc.len;have ee:nG ds.length N.length (ds ++ cds)=ds.map .val ++ (List.replicate (N.length - vs.length - cvs.length) .un ++ cds.map .val):=by
  unfold nG;rw[List.take_left,List.drop_left,xaj,hd,hd2,Nat.sub_sub]
 rw[ee];refine⟨hk,LtE.refl Pl H,hk.here,fun n s e=>?_,fun a z=>?_,fun n j a e1 _=>?_,by simp;lia,by simp[sI];lia⟩
 ·have e0:((List.replicate N.length (none:Option Addr))[n]?).join=none:=by
   rw[xa0]
   split<;>rfl
  rw[e0];unfold sI
  by_cases hi:n<ds.length
  ·rw[xaH (by simpa using hi),xao,xah hi]at e;simp only[xbJ,xex]at e;subst e;obtain⟨v,ev,p⟩:=h.get (xah hi);refine⟨v,?_,p⟩;rw[xaH (by rw[xaf];lia),xao,ev];rfl
  ·rw[xas (by simpa using hi),xaf]at e
   by_cases h2:n - ds.length<N.length - vs.length - cvs.length
   ·rw[xaH (by simpa using h2),xa0,xac h2]at e;cases e;exact True.intro
   ·rw[xas (by simpa using h2),xaZ,xao,xak]at e;obtain⟨d,ed,rfl⟩:=e;obtain⟨v,ev,p⟩:=hc.get ed;rw[<-hd]at ev;refine⟨v,?_,p⟩;rw[xas (by rw[xaf];lia),xaf,xas (by rw[xaZ];lia),xaZ,xao,ev];rfl
 ·exact absurd (xdS z) (by simp)
 ·rw[xa0]at e1;split at e1<;>cases e1
def pO (P:Program)(w:World)(K:Fgx)(mg:Mgx)(base:Heap)(k:Nat)(i:FnT)(n:Nat)(g:G):Prop:=
 ∀(A:Around) (outer:List PySem.Env) (s:Shared) (H:Hp) (us:List Value) (vs:List V) (Q:VK) (E:XK) (f:Addr) (caps:List (Str×D)) (Pl:Pl) (M:Mm) (ds:List D) (d:D) (M':Mm),Room k A->Env0 P w K mg base A outer s H->Vals vs us->vs.length=n->
  Hk K mg Pl H M->wu K mg Pl H f i caps->aC K Pl H ds vs->g (ds ++ caps.map (·.2)) M=some (.v d,M')->(∀P' v H',LtE Pl H P' H'->Hk K mg P' H' M'->Is K P' H' d v->Q v H')->codeAny (model P w) A (.call (.ref f) ⟨us,[]⟩) (CR fP outer P w H s Q E) s
theorem pO.mono {j:Nat}{n:Nat}{g:G}(a:pO P w K mg base j i n g)(h:j<=k):pO P w K mg base k i n g:=fun A outer s H us vs Q E f caps Pl M ds d M' hr=>a A outer s H us vs Q E f caps Pl M ds d M' (hr.mono h)
def m9 (i:FnT)(ps:List Str)(n:Nat)(dn:List Int):Prop:=n + dn.length=ps.length/\∀(H:Hp) (s:Shared) (mgv:Value) (cl:List (Str×Addr)) (dV doc ctv cd:Value) (us:List Value),us.length=n->lD H i.dd dV->(∀a o u,H a=some (.frz o u)->s.heap.get? a=some o)->
 ∃us',Vals (dn.map V.int) us'/\BindsTo s (PySem.W.fnX i.x i.q (bU i.st) (bL i.st) (aN i.st) cl dV .none doc mgv none cd ctv) ⟨us,[]⟩ (ps.zip (us ++ us'))
theorem M9 {K:Fgx}{P:Pl}{H:Hp}:∀dn:List Int,aC K P H (dn.map D.int) (dn.map V.int)
 | []=>rfl
 |_::r=>⟨_,_,rfl,rfl,M9 r⟩
theorem M_ {K:Fgx}{P:Pl}{H:Hp}:∀{ds es:List D} {vs ws:List V},aC K P H ds vs->aC K P H es ws->aC K P H (ds ++ es) (vs ++ ws)
  | [],_,_,_,h,g=>by
    obtain rfl:=h;exact g
  |_::_,_,_,_,⟨v,r,e,h,t⟩,g=>by
    subst e;exact⟨v,_,rfl,h,M_ t g⟩
theorem Uu {n:Nat}{dn:List Int}{g:G}(S:FnScopeC N ps i.fr (aN i.st))(hbn:m9 i ps n dn)(hg:∀ds cs M,ds.length=n->g (ds ++ cs) M=tL ps.length N.length b ((ds ++ dn.map .int) ++ cs) M)
    (hb:∀f cd cl A outer s H,Room k (A.deeper (PySem.W.envX i.q (aN i.st) s.heap.objs.size f cd cl))->SB (Bc P w K mg base N i f cd cl A outer s H) W0 (bL i.st) b):pO P w K mg base (k + 1) i n g:=by
  intro A outer s H us0 vs0 Q E f caps Pl M ds0 d M' hr e0 r0 hn0 hk fc is0 e q;obtain⟨cl,dV,doc,ctv,c,cvs,e1,⟨e2,edf⟩,⟨e3,hfr'⟩,e4,e5,e6⟩:=fc;obtain⟨oc,fs,t,c1,c2,c3⟩:=e2;have ho:s.heap.get? f=some (L_ mg i cl dV doc ctv c):=(e0.hok f _ e1).1;have hcr:s.heap.CodeRec (.ref c) i.q:=⟨c,oc,fs,t,rfl,(e0.hok c _ c1).1,c2,c3⟩;have lim:s.heap.NoLimit:=e0.mod.nolimit.keeps fun b o e=>(e0.bs b o e).1;obtain⟨us',rd,hbt⟩:=hbn.2 H s ((mg "__name__").getD .none) cl dV doc ctv (.ref c) us0 (by rw[<-r0.length];exact hn0) edf fun a o u z=>(e0.hok a _ z).1;rw[hg _ _ _ (by rw[<-hn0];exact is0.len.symm)]at e;have r:Vals (vs0 ++ dn.map V.int) (us0 ++ us'):=r0.append rd;have hn:(vs0 ++ dn.map V.int).length=ps.length:=by rw[xaj,xaf,hn0];exact hbn.1
  have is:aC K Pl H (ds0 ++ dn.map D.int) (vs0 ++ dn.map V.int):=M_ is0 (M9 dn);clear is0 r0 rd hn0 hg;generalize us0 ++ us'=us at r hbt;generalize vs0 ++ dn.map V.int=vs at r hn is;generalize ds0 ++ dn.map D.int=ds at is e;have ulen:us.length=ps.length:=by rw[<-r.length];exact hn
  have kept:∀h':Heap,Heap.SameBut s.heap.objs.size (s.heap.push {cls:=.type "frame",data:=.dict #[]}) h'->∀b o,s.heap.get? b=some o->h'.get? b=some o:=fun h' hs b o g=>by
    rw[hs.2 b (xaC (xan g))];exact xag _ g
  refine codeAny_call_function hr.depth ho rfl S.co S.gen rfl hcr (hbt _ _ _ _ ?_);refine wpAny_newFunctionEnv S.noc (fun y hy=>S.par _ (xdi hy).1) (fun h' hns hsame=>⟨lim.keeps (kept h' hsame),codeAny_func ?_⟩) S.kind;have cll:cvs.length=i.fr.length:=by rw[e5.len, <-hfr', <-e3,xaf]
  have S_len:=S.len;have dl:=is.len;have I:=Vf (P:=P) (w:=w) (base:=base) (f:=f) (cd:=.ref c) (A:=A) (outer:=outer) (tk:=s.toks + (ps.zip us).length) S hr.hd e0 hn r (e3.trans hfr') e5 e6 hns (kept h' hsame);have st0:=zaA (N:=N) (ds:=ds) (cds:=caps.map (·.2)) hk (by lia) is e4;rw[show ds.length=ps.length by lia]at st0;have hq:tS K mg W0 b {nx:=fun _ H'=>Q .non H',rt:=Q} (sI N vs cvs) H:=by
    unfold tL cX at e;split at e
    · rename_i d' M2 eb;cases e;exact⟨Pl,H,Pl,_,_,M,_,_,st0,eb,fun P' v H' l h i=>q P' v H' l h i⟩
    · rename_i env M2 eb;cases e;exact⟨Pl,H,Pl,_,_,M,_,_,st0,eb,fun P' Os' H' st' _ k'=>q P' .non H' k'.base k'.hk rfl⟩
    · rename_i c n M2 eb;cases e
    · cases e
  refine xbd (hb f (.ref c) cl A outer s H (hr.deeper _) [] _ (sI N vs cvs) H _ I hq) (fun fl s' hs=>?_) fun e s' hs=>False.elim hs
  cases fl with
  |ret u=>
    obtain⟨v,σ',H',J,rv,z⟩:=hs;exact⟨v,H',J.os,J.bare,J.base,J.hok,rv,z⟩
  |next=>
    obtain⟨σ',H',J,z⟩:=hs;exact⟨.non,H',J.os,J.bare,J.base,J.hok,rfl,z⟩
  |brk=>
    obtain⟨_,_,_,z⟩:=hs;exact False.elim z
  |cont=>
    obtain⟨_,_,_,z⟩:=hs;exact False.elim z
end
noncomputable def f9 (caps:List (Str×Nat)) (env:PySem.Env):List (Str×Addr):=caps.map fun p=>(p.1,(env.cells.lookup p.1).getD 0)
section
variable (P:Program)(w:World)(K:Fgx)(mg:Mgx)(base:Heap)(k:Nat)(f:Addr)(N:List Str)(q:Str)(st:Stmt)(b:S)(c:Addr)(i:FnT)
abbrev J8:Prop:=∀(f:Addr) (cd:Value) (cl:List (Str×Addr)) (A:Around) (outer:List PySem.Env) (s:Shared) (H:Hp),Room k (A.deeper (PySem.W.envX i.q (aN i.st) s.heap.objs.size f cd cl))->SB (Bc P w K mg base N i f cd cl A outer s H) W0 (bL i.st) b
end
section
variable {P:Program}{w:World}{K:Fgx}{mg:Mgx}{h base:Heap}{k:Nat}{f:Addr}{N ps:List Str}{x q:Str}{st:Stmt}{b:S}{c Pt:Addr}{i:FnT}
theorem m9.of {n:Nat}{dn:List Int}(hl:n + dn.length=ps.length)(hd:i.dd=[])(h:dn=[]/\∀(s:Shared) (mgv:Value) (cl:List (Str×Addr)) (doc ctv cd:Value) (us:List Value),us.length=ps.length->BindsTo s (PySem.W.fnX i.x i.q (bU i.st) (bL i.st) (aN i.st) cl .none .none doc mgv none cd ctv) ⟨us,[]⟩ (ps.zip us)):m9 i ps n dn:=
 ⟨hl,fun H s mgv cl dV doc ctv cd us hu hD hH=>by
  obtain⟨rfl,h⟩:=h;rcases hD with⟨_,rfl⟩ |⟨z,_⟩
  ·exact⟨[],.nil,by rw[xaE];exact h s mgv cl doc ctv cd us (by rw[hu, <-hl];rfl)⟩
  ·exact absurd hd z⟩
theorem m9.dfl {n:Nat}{dn:List Int}{z:Int}(hl:n + dn.length=ps.length)(hd:i.dd=[z])
    (h:∀(s:Shared) (mgv:Value) (cl:List (Str×Addr)) (td:Addr) (doc ctv cd:Value) (us:List Value) (o:Obj) (m t:Nat),us.length=n->s.heap.get? td=some o->o.data=.seq #[.int z t] m->∃us',Vals (dn.map V.int) us'/\BindsTo s (PySem.W.fnX i.x i.q (bU i.st) (bL i.st) (aN i.st) cl (.ref td) .none doc mgv none cd ctv) ⟨us,[]⟩ (ps.zip (us ++ us'))):m9 i ps n dn:=
  ⟨hl,fun H s mgv cl dV doc ctv cd us hu hD hH=>by
    rcases hD with⟨e,_⟩ |⟨_,td,o,its,m,rfl,g,ed,r⟩
    · rw[hd]at e;cases e
    · rw[hd]at r;obtain⟨t,rfl⟩:∃t,its= #[.int z t]:=by
        rcases its with⟨l⟩;have r:Vals [V.int z] l:=r
        cases r with
        |cons a b=>
          cases b;obtain⟨t,rfl⟩:=a;exact⟨t,rfl⟩
      exact h s mgv cl td doc ctv cd us o m t hu (hH td o _ g) ed⟩
theorem Eh {a0:Str}(hd:i.dd=[])(h:∀{mgv:Value} {cl:List (Str×Addr)} {doc ctv cd u0:Value},bindArgs (PySem.W.fnX i.x i.q (bU i.st) (bL i.st) (aN i.st) cl .none .none doc mgv none cd ctv) ⟨[u0],[]⟩=pure [(a0,u0)]):m9 i [a0] 1 []:=
 .of rfl hd ⟨rfl,fun _ _ _ _ _ _ us hl=>match us,hl with | [_],_=>.of_eq h⟩
theorem Ej {a0 a1:Str}(hd:i.dd=[])(h:∀{mgv:Value} {cl:List (Str×Addr)} {doc ctv cd u0 u1:Value},bindArgs (PySem.W.fnX i.x i.q (bU i.st) (bL i.st) (aN i.st) cl .none .none doc mgv none cd ctv) ⟨[u0,u1],[]⟩=pure [(a0,u0),(a1,u1)]):m9 i [a0,a1] 2 []:=
 .of rfl hd ⟨rfl,fun _ _ _ _ _ _ us hl=>match us,hl with | [_,_],_=>.of_eq h⟩
theorem El {a0 a1 a2:Str}{z:Int}(hd:i.dd=[z])(h:∀{s:Shared} {mgv:Value} {cl:List (Str×Addr)} {td:Addr} {doc ctv cd u0 u1 u2:Value} {o:Obj} {m t:Nat},s.heap.get? td=some o->o.data=.seq #[.int z t] m->BindsTo s (PySem.W.fnX i.x i.q (bU i.st) (bL i.st) (aN i.st) cl (.ref td) .none doc mgv none cd ctv) ⟨[u0,u1,u2],[]⟩ [(a0,u0),(a1,u1),(a2,u2)]):m9 i [a0,a1,a2] 3 []:=
 .dfl rfl hd fun _ _ _ _ _ _ _ us _ _ _ hl g e=>match us,hl with | [_,_,_],_=>⟨[],.nil,h g e⟩
theorem J8.ok (S:FnScopeC N ps i.fr (aN i.st))(hb:J8 P w K mg base k N b i)(hp:m9 i ps ps.length []:=by first |exact Eh rfl rfl |exact Ej rfl rfl |exact El rfl fun h₁ h₂=>BindsTo.of_defaults rfl h₁ h₂ rfl rfl):pO P w K mg base (k + 1) i ps.length (tL ps.length N.length b):=Uu S hp (fun ds cs M _=>by rw[xdk,xaE]) hb
theorem pO.up {j n:Nat}{g:G}(a:pO P w K mg base j i n g)(h:j<=k:=by decide):pO P w K mg base k i n g:=a.mono h
end
end E3
namespace L2
open PySem PySem.Spec PyProof.Rows
end L2
namespace E3
open PySem PySem.Spec PyProof.Rows L2
end E3
namespace L2
open PySem PySem.Spec PyProof.Rows
end L2
namespace E3
open PySem PySem.Spec PyProof.Rows L2
mutual
def D.plain:D->Bool
 |.ref _=>false
 |.tup ds=>D.plains ds
 |.lst ds=>D.plains ds
 |_=>true
def D.plains:List D->Bool
 | []=>true
 |d::ds=>D.plain d && D.plains ds
end
section
variable {K:Fgx}{P:Pl}{H:Hp}{io:Nat->Addr}
mutual
theorem Vh:∀{d:D} {v:V},D.plain d=true->Is K P H d v->Is K ⟨io,0,fun _=>False⟩ H d v
 |.non,_,_,h |.bl _,_,_,h |.int _,_,_,h |.str _,_,_,h=>h
 |.ref _,_,p,_=>by simp[D.plain]at p
 |.tup ds,_,p,⟨a,vs,e,t,q⟩=>⟨a,vs,e,t,GP (by simpa [D.plain] using p) q⟩
 |.lst ds,_,p,⟨a,vs,e,t,q⟩=>⟨a,vs,e,t.imp (fun z=>⟨fun y=>y,z.2⟩) id,GP (by simpa [D.plain] using p) q⟩
theorem GP:∀{ds:List D} {vs:List V},D.plains ds=true->aC K P H ds vs->aC K ⟨io,0,fun _=>False⟩ H ds vs
  | [],_,_,h=>h
  |d::ds,_,p,⟨v,r,e,h,t⟩=>by
    simp only[D.plains,xaF]at p;exact⟨v,r,e,Vh p.1 h,GP p.2 t⟩
end
end
end E3
namespace TS
open PySem PyProof.Rows PySem.W
variable {prog:Program}{w:World}{A:Around}{E:Value->Shared->Prop}{R:Shared->Prop}{α β:Type}
def Ok (prog:Program)(w:World)(A:Around)(E:Value->Shared->Prop)(R:Shared->Prop)(m:StateT SortSt Sem α)(st:SortSt)(P:α->SortSt->Prop):Prop:=
 ∀s,R s->kasC (model prog w) A E m (fun a st' s'=>R s'/\P a st') st s
section
variable {st:SortSt}{P Q:α->SortSt->Prop}
theorem aR {a:α}(h:P a st):Ok prog w A E R (pure a) st P:=fun s r=>kasC_pure ⟨r,h⟩
theorem Ok.mono {m:StateT SortSt Sem α}(h:Ok prog w A E R m st P)(q:∀a st',P a st'->Q a st'):Ok prog w A E R m st Q:=
 fun s r=>xbd (h s r) (fun _ _ z=>⟨z.1,q _ _ z.2⟩) fun _ _ e=>e
theorem aL {m:StateT SortSt Sem β}{f:β->StateT SortSt Sem α}(h:Ok prog w A E R m st fun b st'=>Ok prog w A E R (f b) st' P):Ok prog w A E R (m >>=f) st P:=
 fun s r=>kasC_bind (xbd (h s r) (fun _ s' z=>z.2 s' z.1) fun _ _ e=>e)
theorem mL {P:SortSt->SortSt->Prop}(h:P st st):Ok prog w A E R get st P:=fun s r=>kasC_get ⟨r,h⟩
theorem wY {P:PUnit->SortSt->Prop}{f:SortSt->SortSt}(h:P ⟨⟩ (f st)):Ok prog w A E R (modify f) st P:=fun s r=>kasC_modify ⟨r,h⟩
theorem Xe {P:PUnit->SortSt->Prop}{st':SortSt}(h:P ⟨⟩ st'):Ok prog w A E R (set st') st P:=fun s r=>by
 unfold kasC;rw[StateT.run_set];exact xab ⟨r,h⟩
theorem wZ {P:Unit->SortSt->Prop}{x:String}(h:P () st):Ok prog w A E R (liftM (rule x)) st P:=fun s r=>kasC_lift (xeh ⟨r,h⟩)
end
theorem Oo {f:Nat->β->StateT SortSt Sem (ForInStep β)}(I:Nat->β->SortSt->Prop){P:β->SortSt->Prop}:∀(n a:Nat) (b:β) (st:SortSt),I a b st->
    (∀i b st,a<=i->i<a + n->I i b st->Ok prog w A E R (f i b) st fun r st'=>match r with |.done b'=>P b' st' |.yield b'=>I (i + 1) b' st')->(∀b st,I (a + n) b st->P b st)->Ok prog w A E R (forIn (List.range' a n) b f) st P
  |0,a,b,st,h,_,q=>fun s r=>kasC_nil ⟨r,q b st h⟩
  |n + 1,a,b,st,h,hs,q=>fun s r=>by
    rw[List.range'_succ];refine kasC_cons (xbd (hs a b st (xad _) (by lia) h s r) (fun z s' k=>?_) fun _ _ e=>e);obtain⟨z,st'⟩:=z
    cases z with
    |done b'=>exact k
    |yield b'=>exact Oo I n (a + 1) b' st' k.2 (fun i b st h1 h2=>hs i b st (by lia) (by lia)) (fun b st h=>q b st (by rw[show a + (n + 1)=a + 1 + n by lia];exact h)) s' k.1
theorem fV {a n:Nat}{b:β}{st:SortSt}{f:Nat->β->StateT SortSt Sem (ForInStep β)}{P:β->SortSt->Prop}(I:Nat->β->SortSt->Prop)(h:I a b st)
  (hs:∀i b st,a<=i->i<n->I i b st->Ok prog w A E R (f i b) st fun r st'=>match r with |.done b'=>P b' st' |.yield b'=>I (i + 1) b' st') (q:∀b st,I (max a n) b st->P b st):Ok prog w A E R (forIn [a:n] b f) st P:=
 fun s r=>kasC_range (Oo I (n - a) a b st h (fun i b st h1 h2=>hs i b st h1 (by lia)) (fun b st h=>q b st (by rw[show max a n=a + (n - a) by lia];exact h)) s r)
abbrev Rk:=Keyed->Nat
structure Bs (κ:SortKind)(a₀:Array Keyed)(st:SortSt):Prop where
 kd:kindOf st=κ
 nf:failedOf st=none
 pm:(arrOf st).Perm a₀
def mq (prog:Program)(w:World)(A:Around)(R:Shared->Prop)(κ:SortKind)(a₀:Array Keyed)(rk:Rk):Prop:=
 ∀x y,x∈a₀->y∈a₀->∀s,R s->wpAny (model prog w) A (keyLt' κ x.1 y.1) (fun c s'=>R s'/\c=decide (rk x<rk y)) (fun _ _=>False) s
variable {κ:SortKind}{a₀:Array Keyed}{rk:Rk}
theorem zm {st:SortSt}{x y:Keyed}{P:Option Bool->SortSt->Prop}(C:mq prog w A R κ a₀ rk)(B:Bs κ a₀ st)(hx:x∈a₀)(hy:y∈a₀)(h:P (some (decide (rk x<rk y))) st):Ok prog w A E R (lt' x y) st P:=by
 rw[lt'_eq];refine aL (mL fun s r=>?_);rw[B.kd];refine kasC_bind (kasC_lift (xen (xbd (C x y hx hy s r) (fun c s' z=>?_) fun _ _ hF=>hF.elim)));obtain⟨r',rfl⟩:=z;exact kasC_pure ⟨r',h⟩
theorem dO {st:SortSt}{a:Array Keyed}{i:Nat}{P:Keyed->SortSt->Prop}(hi:i<a.size)(h:P a[i] st):Ok prog w A E R (elem' a i) st P:=by
 rw[elem'_eq,xb6 hi];exact aR h
noncomputable def vv (rk:Rk) (a:Array Keyed) (i:Nat):Nat:=rk (a.getD i (Value.none,Value.none))
theorem dH {a:Array Keyed}{i:Nat}(h:i<a.size):vv rk a i=rk a[i]:=by unfold vv;simp[Array.getD,h]
theorem vp {a b:Array Keyed}{i j:Nat}(h:a[i]? =b[j]?):vv rk a i=vv rk b j:=by
 unfold vv;rw[xbY,xbY,h]
theorem zj {st:SortSt}{i j:Nat}{P:Option Bool->SortSt->Prop}(C:mq prog w A R κ a₀ rk)(B:Bs κ a₀ st)(hi:i<(arrOf st).size)(hj:j<(arrOf st).size)(h:P (some (decide (vv rk (arrOf st) i<vv rk (arrOf st) j))) st):Ok prog w A E R (ltAt' i j) st P:=by
 rw[ltAt'_eq];refine aL (mL ?_);refine aL (dO hi (aL (dO hj ?_)));rw[dH hi,dH hj]at h;exact zm C B (B.pm.mem_iff.mp (xaL hi)) (B.pm.mem_iff.mp (xaL hj)) h
def Up (v:Nat->Nat)(i j:Nat):Prop:=∀k l,i<=k->k<=l->l<j->v k<=v l
def Dn (v:Nat->Nat)(i j:Nat):Prop:=∀k l,i<=k->k<=l->l<j->v l<=v k
theorem Up.one {v:Nat->Nat}{i:Nat}:Up v i (i + 1):=fun k l h1 h2 h3=>by rw[show k=l by lia];exact xad _
theorem Dn.one {v:Nat->Nat}{i:Nat}:Dn v i (i + 1):=fun k l h1 h2 h3=>by rw[show k=l by lia];exact xad _
theorem Up.snoc {v:Nat->Nat}{i j:Nat}(h:Up v i j)(hij:i<j)(e:v (j - 1)<=v j):Up v i (j + 1):=fun k l h1 h2 h3=>by
 by_cases hl:l=j
 ·subst hl
  by_cases hk:k=l
  ·subst hk;exact xad _
  ·exact xaq (h k (l - 1) h1 (by lia) (by lia)) e
 ·exact h k l h1 h2 (by lia)
theorem Dn.snoc {v:Nat->Nat}{i j:Nat}(h:Dn v i j)(hij:i<j)(e:v j<=v (j - 1)):Dn v i (j + 1):=fun k l h1 h2 h3=>by
 by_cases hl:l=j
 ·subst hl
  by_cases hk:k=l
  ·subst hk;exact xad _
  ·exact xaq e (h k (l - 1) h1 (by lia) (by lia))
 ·exact h k l h1 h2 (by lia)
theorem Bs.arr {st:SortSt}(B:Bs κ a₀ st){x:Array Keyed}(h:x.Perm (arrOf st)):Bs κ a₀ (setArr st x):=⟨B.kd,B.nf,h.trans B.pm⟩
theorem Bs.size {st:SortSt}(B:Bs κ a₀ st):(arrOf st).size=a₀.size:=B.pm.size_eq
theorem Ea {a:Array Keyed}{i j:Nat}(hj:j<=a.size)(k:Nat):vv rk (mirror a i j ((j - i) / 2)) k=if i<=k/\k<j then vv rk a (i + j - 1 - k) else vv rk a k:=by
 have h:=getElem?_mirror_all (xs:=a) (i:=i) hj k;split at h
 ·rename_i c;rw[xac c];exact vp h
 ·rename_i c;rw[xae c];exact vp h
theorem Ck {st:SortSt}{i j:Nat}{P:Unit->SortSt->Prop}(h:P () (setArr st (mirror (arrOf st) i j ((j - i) / 2)))):Ok prog w A E R (reverseSlice' i j) st P:=by
 rw[reverseSlice'_eq];exact wY h
variable {prog:Program}{w:World}{A:Around}{E:Value->Shared->Prop}{R:Shared->Prop}{α β:Type}{κ:SortKind}{a₀:Array Keyed}{rk:Rk}
structure Fr (rk:Rk)(lo:Nat)(st st':SortSt):Prop where
 v:∀k,k<lo->vv rk (arrOf st') k=vv rk (arrOf st) k
 p:pendingOf st'=pendingOf st
theorem Fr.rfl {lo:Nat}{st:SortSt}:Fr rk lo st st:=⟨fun _ _=>by trivial,by trivial⟩
theorem Fr.trans {lo:Nat}{s1 s2 s3:SortSt}(a:Fr rk lo s1 s2)(b:Fr rk lo s2 s3):Fr rk lo s1 s3:=⟨fun k h=>(b.v k h).trans (a.v k h),b.p.trans a.p⟩
theorem Fr.rev {lo i j:Nat}{st:SortSt}(hi:lo<=i)(hj:j<=(arrOf st).size):Fr rk lo st (setArr st (mirror (arrOf st) i j ((j - i) / 2))):=
 ⟨fun k h=>(Ea hj k).trans (xae (by lia)),by trivial⟩
theorem IV {a:Array Keyed}{i j:Nat}(hj:j<=a.size)(h:∀k,i<=k->k<j->vv rk a k=vv rk a (j - 1))(k:Nat):vv rk (mirror a i j ((j - i) / 2)) k=vv rk a k:=by
 rw[Ea hj]
 split
 ·rename_i c;rw[h k c.1 c.2,h _ (by lia) (by lia)]
 ·exact Eq.refl _
section
variable {st:SortSt}{lo nrem:Nat}(C:mq prog w A R κ a₀ rk)
include C
theorem Om (hz:lo + nrem<=a₀.size){n:Nat}(h1:1<=n)(hn:n<=nrem)(B:Bs κ a₀ st)(u:Up (vv rk (arrOf st)) lo (lo + n)){P:Option (Option Nat)×Nat->SortSt->Prop}
  (q:∀m,n<=m->m<=nrem->Up (vv rk (arrOf st)) lo (lo + m)->(m=nrem\/vv rk (arrOf st) (lo + m)<vv rk (arrOf st) (lo + m - 1))->P (none,m) st):
  Ok prog w A E R (forIn [n:nrem] ((none,n):Option (Option Nat)×Nat) fun _ s=>do
   let x <-ltAt' (lo + s.2) (lo + s.2 - 1)
   match x with
   |some c=>if c=true then pure (.done (none,s.2)) else pure (.yield (none,s.2 + 1))
   |_=>pure (.done (some none,s.2))) st P:=by
 refine fV (fun i c st'=>st'=st/\c=(none,i)/\Up (vv rk (arrOf st)) lo (lo + i)) ⟨rfl,rfl,u⟩ ?_ ?_
 ·rintro i c st' h1 h2 ⟨rfl,rfl,u⟩;have sz:=B.size;refine aL (zj C B (by lia) (by lia) ?_);dsimp only
  by_cases hc:vv rk (arrOf st') (lo + i)<vv rk (arrOf st') (lo + i - 1)
  ·rw[xac (by simpa using hc)];exact aR (q i h1 (by lia) u (.inr hc))
  ·rw[xae (by simpa using hc)];exact aR ⟨rfl,rfl,u.snoc (by lia) (xbu hc)⟩
 ·rintro c st' ⟨rfl,rfl,u⟩;rw[show max n nrem=nrem by lia]at u ⊢;exact q nrem hn (xad _) u (.inl rfl)
theorem Xa (hz:lo + nrem<=a₀.size)(h1:1<=nrem)(B:Bs κ a₀ st){P:Option Nat->SortSt->Prop}
  (q:∀m st',1<=m->m<=nrem->Bs κ a₀ st'->Up (vv rk (arrOf st')) lo (lo + m)->Fr rk lo st st'->P (some m) st'):Ok prog w A E R (countRun' lo nrem) st P:=by
 have sz:=B.size;rw[countRun'_eq];refine aL (Om C hz (xad 1) h1 B Up.one fun m m1 m2 u hor=>?_);dsimp only
 by_cases hm:m=nrem
 ·rw[xac (by simpa using hm)];exact aR (q m st m1 m2 B u Fr.rfl)
 rw[xae (by simpa using hm)];have hlt:=hor.resolve_left hm;generalize hT:(bind (liftM (rule _)) _:StateT SortSt Sem (Option Nat))=T;have tail:∀st',Bs κ a₀ st'->Dn (vv rk (arrOf st')) lo (lo + m + 1)->Fr rk lo st st'->Ok prog w A E R T st' P:=by
  subst hT;intro st' B' d' f';refine aL (wZ (aL (Ok.mono (P:=fun c s2=>∃i e,c=(none,i,e)/\1<=i/\i<=nrem/\Bs κ a₀ s2/\Dn (vv rk (arrOf s2)) lo (lo + i)/\Fr rk lo st s2/\e + 1<=i/\∀k,lo + i - (e + 1)<=k->k<lo + i->vv rk (arrOf s2) k=vv rk (arrOf s2) (lo + i - 1))
   (fV (fun i c s2=>∃e,c=(none,i,e)/\Bs κ a₀ s2/\Dn (vv rk (arrOf s2)) lo (lo + i)/\Fr rk lo st s2/\e + 1<=i/\∀k,lo + i - (e + 1)<=k->k<lo + i->vv rk (arrOf s2) k=vv rk (arrOf s2) (lo + i - 1)) ?_ ?_ ?_) ?_)))
  ·refine⟨0,rfl,B',d',f',by lia,fun k h1 h2=>?_⟩;rw[show k=lo + (m + 1) - 1 by lia]
  ·rintro i c s2 g1 g2 ⟨e,rfl,B2,d2,f2,he,ha⟩;have sz2:=B2.size;dsimp only;refine aL (zj C B2 (by lia) (by lia) ?_);dsimp only
   by_cases hc:vv rk (arrOf s2) (lo + i)<vv rk (arrOf s2) (lo + i - 1)
   ·rw[xac (by simpa using hc)];have dd:Dn (vv rk (arrOf s2)) lo (lo + i + 1):=d2.snoc (by lia) (xa5 hc)
    split
    ·have ev:=IV (rk:=rk) (a:=arrOf s2) (i:=lo + i - (e + 1)) (j:=lo + i) (by lia) ha;refine aL (Ck (aR ⟨0,rfl,B2.arr (xdx _ _ _ _),?_,f2.trans (Fr.rev (by lia) (by lia)),by lia,fun k h1 h2=>?_⟩))
     ·intro k l k1 k2 k3;show vv rk (mirror _ _ _ _) l<=vv rk (mirror _ _ _ _) k;rw[ev,ev];exact dd k l k1 k2 (by lia)
     ·rw[show k=lo + (i + 1) - 1 by lia]
    ·exact aR ⟨0,rfl,B2,dd,f2,by lia,fun k h1 h2=>by rw[show k=lo + (i + 1) - 1 by lia]⟩
   ·rw[xae (by simpa using hc)];refine aL (zj C B2 (by lia) (by lia) ?_);dsimp only
    by_cases hd:vv rk (arrOf s2) (lo + i - 1)<vv rk (arrOf s2) (lo + i)
    ·rw[xac (by simpa using hd)];exact aR ⟨i,e,rfl,by lia,by lia,B2,d2,f2,he,ha⟩
    ·rw[xae (by simpa using hd)];have eq:vv rk (arrOf s2) (lo + i)=vv rk (arrOf s2) (lo + i - 1):=by lia
     refine aR ⟨e + 1,rfl,B2,d2.snoc (by lia) (by lia),f2,by lia,fun k h1 h2=>?_⟩;rw[show lo + (i + 1) - 1=lo + i by lia]
     by_cases hk:k=lo + i
     ·rw[hk]
     ·rw[eq];exact ha k (by lia) (by lia)
  ·rintro c s2 ⟨e,rfl,B2,d2,f2,he,ha⟩;rw[show max (m + 1) nrem=nrem by lia]at d2 he ha ⊢;exact⟨nrem,e,rfl,by lia,by lia,B2,d2,f2,he,ha⟩
  ·rintro c s2 ⟨i,e,rfl,i1,i2,B2,d2,f2,he,ha⟩;have sz2:=B2.size;dsimp only;generalize hL:(bind (reverseSlice' lo (lo + i)) _:StateT SortSt Sem (Option Nat))=L;have go:∀s3,Bs κ a₀ s3->Dn (vv rk (arrOf s3)) lo (lo + i)->Fr rk lo st s3->Ok prog w A E R L s3 P:=fun s3 B3 d3 f3=>by
    subst hL;have sz3:=B3.size;refine aL (Ck (aL (Om C hz i1 i2 (B3.arr (xdx _ _ _ _)) ?_ fun m m1 m2 u _=>?_)))
    ·intro k l k1 k2 k3;show vv rk (mirror _ _ _ _) k<=vv rk (mirror _ _ _ _) l;rw[Ea (by lia),Ea (by lia),xac (by lia),xac (by lia)];exact d3 _ _ (by lia) (by lia) (by lia)
    ·exact aR (q m _ (by lia) m2 (B3.arr (xdx _ _ _ _)) u (f3.trans (Fr.rev (xad _) (by lia))))
   split
   ·have ev:=IV (rk:=rk) (a:=arrOf s2) (i:=lo + i - (e + 1)) (j:=lo + i) (by lia) ha;refine aL (Ck (go _ (B2.arr (xdx _ _ _ _)) ?_ (f2.trans (Fr.rev (by lia) (by lia)))));intro k l k1 k2 k3;show vv rk (mirror _ _ _ _) l<=vv rk (mirror _ _ _ _) k;rw[ev,ev];exact d2 k l k1 k2 k3
   ·exact go s2 B2 d2 f2
 by_cases hg:m > 1
 ·rw[xac hg];refine aL (zj C B (by lia) (by lia) ?_);dsimp only
  by_cases hr:vv rk (arrOf st) lo<vv rk (arrOf st) (lo + m - 1)
  ·rw[xac (by simpa using hr)];exact aR (q m st m1 m2 B u Fr.rfl)
  ·rw[xae (by simpa using hr)];have al:∀k,lo<=k->k<lo + m->vv rk (arrOf st) k=vv rk (arrOf st) (lo + m - 1):=fun k k1 k2=>by
    have z1:=u lo k (xad _) k1 k2;have z2:=u k (lo + m - 1) k1 (by lia) (by lia);lia
   have ev:=IV (rk:=rk) (a:=arrOf st) (i:=lo) (j:=lo + m) (by lia) al;refine aL (Ck (tail _ (B.arr (xdx _ _ _ _)) ?_ (Fr.rev (xad _) (by lia))));have dn:Dn (vv rk (arrOf st)) lo (lo + m + 1):=Dn.snoc (fun k l k1 k2 k3=>by rw[al k k1 (by lia),al l (by lia) k3];exact xad _) (by lia) (xa5 hlt);intro k l k1 k2 k3;show vv rk (mirror _ _ _ _) l<=vv rk (mirror _ _ _ _) k;rw[ev,ev];exact dn k l k1 k2 k3
 ·rw[xae hg];have e1:m=1:=by lia
  subst e1;exact tail st B (Dn.one.snoc (by lia) (xa5 hlt)) Fr.rfl
end
variable {prog:Program}{w:World}{A:Around}{E:Value->Shared->Prop}{R:Shared->Prop}{α β:Type}{κ:SortKind}{a₀:Array Keyed}{rk:Rk}
theorem zcc {a:Array Keyed}{src d:Nat}(hs:src<a.size)(hd:d<=src)(k:Nat):vv rk (bubble a src d) k=if k=src - d then vv rk a src else if src - d<k/\k<=src then vv rk a (k - 1) else vv rk a k:=by
 have h:=getElem?_bubble hs d hd k;split at h
 ·rename_i c;rw[xac c];exact vp h
 ·rename_i c;rw[xae c];split at h
  ·rename_i c;rw[xac c];exact vp h
  ·rename_i c;rw[xae c];exact vp h
theorem W_ {st:SortSt}{lo n ok:Nat}(C:mq prog w A R κ a₀ rk)(hz:lo + n<=a₀.size)(hk:1<=ok)(hn:ok<=n)(B:Bs κ a₀ st)(u:Up (vv rk (arrOf st)) lo (lo + ok)){P:Bool->SortSt->Prop}
  (q:∀st',Bs κ a₀ st'->Up (vv rk (arrOf st')) lo (lo + n)->Fr rk lo st st'->P true st'):Ok prog w A E R (binarySort' lo n ok) st P:=by
 rw[binarySort'_eq,show max ok 1=ok by lia];refine aL (fV (fun i c s2=>c=(none,())/\Bs κ a₀ s2/\Up (vv rk (arrOf s2)) lo (lo + i)/\Fr rk lo st s2) ⟨rfl,B,u,Fr.rfl⟩ ?_ ?_)
 ·rintro k c s2 k1 k2 ⟨rfl, B2, u2, f2⟩;have sz := B2.size;dsimp only;refine aL (Ok.mono (P:=fun c s3=>s3=s2/\∃l,c=(none,l,l)/\l<=k/\(∀i,i<l->vv rk (arrOf s2) (lo + i)<=vv rk (arrOf s2) (lo + k))/\∀i,l<=i->i<k->vv rk (arrOf s2) (lo + k)<=vv rk (arrOf s2) (lo + i))
   (fV (fun i c s3=>s3=s2/\∃l r,c=(none,l,r)/\l<=r/\r<=k/\r - l<=k - i/\(∀i,i<l->vv rk (arrOf s2) (lo + i)<=vv rk (arrOf s2) (lo + k))/\∀i,r<=i->i<k->vv rk (arrOf s2) (lo + k)<=vv rk (arrOf s2) (lo + i)) ?_ ?_ ?_) ?_)
  ·exact⟨rfl,0,k,rfl,by lia,by lia,by lia,fun i hi=>by lia,fun i h1 h2=>by lia⟩
  ·rintro i c s3 i1 i2 ⟨rfl,l,r,rfl,lr,rk',hm,hl,hr⟩;dsimp only
   by_cases hge:l >=r
   ·rw[xac hge];obtain rfl:l=r:=by lia
    exact aR ⟨rfl,l,rfl,rk',hl,hr⟩
   ·rw[xae hge];refine aL (zj C B2 (by lia) (by lia) ?_);dsimp only
    by_cases hc:vv rk (arrOf s3) (lo + k)<vv rk (arrOf s3) (lo + (l + r) / 2)
    ·rw[xac (by simpa using hc)];refine aR ⟨rfl,l,(l + r) / 2,rfl,by lia,by lia,by lia,hl,fun j j1 j2=>?_⟩;exact xaq (xa5 hc) (u2 _ _ (by lia) (by lia) (by lia))
    ·rw[xae (by simpa using hc)];refine aR ⟨rfl,(l + r) / 2 + 1,r,rfl,by lia,by lia,by lia,fun j j1=>?_,hr⟩;exact xaq (u2 _ _ (by lia) (by lia) (by lia)) (xbu hc)
  ·rintro c s3 ⟨rfl,l,r,rfl,lr,rk',hm,hl,hr⟩;obtain rfl:l=r:=by lia
   exact⟨rfl,l,rfl,rk',hl,hr⟩
  ·rintro c s3 ⟨rfl,l,rfl,lk,hl,hr⟩;dsimp only;rw[moveDown'_eq];have eb:∀j,vv rk (bubble (arrOf s3) (lo + k) (lo + k - (lo + l))) j=_:=zcc (by lia) (by lia);refine aL (wY (aR ⟨rfl,B2.arr (bubble_perm _ _ _),fun i j i1 i2 i3=>?_,f2.trans ⟨fun j hj=>?_,rfl⟩⟩))
   ·show vv rk (bubble _ _ _) i<=vv rk (bubble _ _ _) j;rw[eb,eb];have hl':=fun i=>hl (i - lo);have hr':=fun i=>hr (i - lo)
    repeat' split
    ·exact xad _
    ·have:=hr (j - 1 - lo) (by lia) (by lia);rw[show lo + (j - 1 - lo)=j - 1 by lia]at this;exact this
    ·lia
    ·lia
    ·exact u2 _ _ (by lia) (by lia) (by lia)
    ·lia
    ·have:=hl (i - lo) (by lia);rw[show lo + (i - lo)=i by lia]at this;exact this
    ·exact u2 _ _ (by lia) (by lia) (by lia)
    ·exact u2 _ _ (by lia) (by lia) (by lia)
   ·show vv rk (bubble _ _ _) j=_;rw[eb,xae (by lia),xae (by lia)]
 ·rintro c s2 ⟨rfl,B2,u2,f2⟩;rw[show max ok n=n by lia]at u2;exact aR (q s2 B2 u2 f2)
variable {prog:Program}{w:World}{A:Around}{E:Value->Shared->Prop}{R:Shared->Prop}{α β:Type}{κ:SortKind}{a₀:Array Keyed}{rk:Rk}
noncomputable def gal:Bool->Keyed->Array Keyed->Nat->Nat->Nat->StateT SortSt Sem (Option Nat):=sortPriv% PySem.Builtin.gallop
theorem UL (b : Bool) (x : Keyed) (a : Array Keyed) (o n h : Nat) : gal b x a o n h = (do
 let f (i:Nat):StateT SortSt Sem (Option Bool):=do
  let y <-elem' a (o + i)
  if b then lt' y x else return (<-lt' x y).map (!·)
 let mut p:=0
 let mut q:=1
 let mut l:=0
 let mut u:=0
 let some c <-f h |return none
 if c then
  let m:=n - h
  for _ in [0:n] do
   if q >=m then break
   let some d <-f (h + q) |return none
   if !d then break
   p:=q
   q:=2 * q + 1
  l:=h + p + 1
  u:=h + min q m
 else
  let m:=h + 1
  for _ in [0:n] do
   if q >=m then break
   let some d <-f (h - q) |return none
   if d then break
   p:=q
   q:=2 * q + 1
  l:=h + 1 - min q m
  u:=h - p
 for _ in [0:n] do
  if l >=u then break
  let m:=l + (u - l) / 2
  let some d <-f m |return none
  if d then l:=m + 1 else u:=m
 return some u):=rfl
def thr (rk:Rk)(b:Bool)(x:Keyed):Nat:=if b then rk x else rk x + 1
theorem wX {st:SortSt}{b:Bool}{x:Keyed}{a:Array Keyed}{o n h:Nat}(C:mq prog w A R κ a₀ rk)(B:Bs κ a₀ st)(hx:x∈a₀)(ha:∀y∈a,y∈a₀)(hz:o + n<=a.size)(hh:h<n)(u:Up (vv rk a) o (o + n)){P:Option Nat->SortSt->Prop}
    (q:∀k,k<=n->(∀i,i<k->vv rk a (o + i)<thr rk b x)->(∀i,k<=i->i<n->thr rk b x<=vv rk a (o + i))->P (some k) st):Ok prog w A E R (gal b x a o n h) st P:=by
  rw[UL]
  extract_lets f p0 q0 jp m1 m2
  have hf:∀{P:Option Bool->SortSt->Prop} i,i<n->P (some (decide (vv rk a (o + i)<thr rk b x))) st->Ok prog w A E R (f i) st P:=by
    intro P i hi hP;refine aL (dO (by lia) ?_);have hv:vv rk a (o + i)=rk a[o + i]:=dH (by lia);have hm:=ha _ (xaL (i:=o + i) (by lia));unfold thr at hP;rw[hv]at hP
    cases b with
    |true=>exact zm C B hm hx hP
    |false=>
      refine aL (zm C B hx hm (aR ?_));have e:(!decide (rk x<rk a[o + i]))=decide (rk a[o + i]<rk x + 1):=by
        by_cases z:rk x<rk a[o + i]
        · rw[xaW z,xaI (by lia)];rfl
        · rw[xaI z,xaW (by lia)];rfl
      rw[xbJ,e];exact hP
  generalize thr rk b x=t at hf q;have up:∀i j,i<=j->j<n->vv rk a (o + i)<=vv rk a (o + j):=fun i j h1 h2=>u _ _ (by lia) (by lia) (by lia);generalize hv:(fun i=>vv rk a (o + i))=v at *
  replace hf:∀{P:Option Bool->SortSt->Prop} i,i<n->P (some (decide (v i<t))) st->Ok prog w A E R (f i) st P:=by subst hv;exact hf
  replace q:∀k,k<=n->(∀i,i<k->v i<t)->(∀i,k<=i->i<n->t<=v i)->P (some k) st:=by subst hv;exact q
  replace up:∀i j,i<=j->j<n->v i<=v j:=by subst hv;exact up
  clear_value f
  have last:∀p r l k,l<=k->k<=n->(∀i,i<l->v i<t)->(∀i,k<=i->i<n->t<=v i)->Ok prog w A E R (jp () p r l k) st P:=by
    intro p r l k h1 h2 h3 h4;dsimp only [jp];refine aL (Ok.mono (P:=fun c s3=>s3=st/\∃l,c=(none,l,l)/\l<=n/\(∀i,i<l->v i<t)/\∀i,l<=i->i<n->t<=v i)
      (fV (fun i c s3=>s3=st/\∃l k,c=(none,l,k)/\l<=k/\k<=n/\k - l<=n - i/\(∀i,i<l->v i<t)/\∀i,k<=i->i<n->t<=v i) ⟨rfl,l,k,rfl,h1,h2,by lia,h3,h4⟩ ?_ ?_) ?_)
    · rintro i c s3 i1 i2 ⟨rfl,l,k,rfl,g1,g2,gm,g3,g4⟩;dsimp only
      by_cases hge:l >=k
      · rw[xac hge];obtain rfl:l=k:=by lia
        exact aR ⟨rfl,l,rfl,g2,g3,g4⟩
      · rw[xae hge];refine aL (hf _ (by lia) ?_);dsimp only
        by_cases hc:v (l + (k - l) / 2)<t
        · rw[xac (by simpa using hc)];exact aR ⟨rfl,_,k,rfl,by lia,g2,by lia,fun j hj=>xcI (up j _ (by lia) (by lia)) hc,g4⟩
        · rw[xae (by simpa using hc)];exact aR ⟨rfl,l,_,rfl,by lia,by lia,by lia,g3,fun j j1 j2=>xaq (xbu hc) (up _ j j1 j2)⟩
    · rintro c s3 ⟨rfl,l,k,rfl,g1,g2,gm,g3,g4⟩;obtain rfl:l=k:=by lia
      exact⟨rfl,l,rfl,g2,g3,g4⟩
    · rintro c s3 ⟨rfl,l,rfl,g2,g3,g4⟩;exact aR (q l g2 g3 g4)
  clear_value jp
  refine aL (hf h hh ?_);dsimp only
  by_cases hc:v h<t
  · rw [xac (by simpa using hc)];refine aL (Ok.mono (P:=fun c s3=>s3=st/\∃p r,c=(none,p,r)/\v (h + p)<t/\h + p<n/\p<r/\(r >=m1\/t<=v (h + r)))
      (fV (fun i c s3=>s3=st/\∃p r,c=(none,p,r)/\v (h + p)<t/\h + p<n/\p<r/\i + 1<=r) ⟨rfl,0,1,rfl,hc,hh,by lia,by lia⟩ ?_ ?_) ?_)
    · rintro i c s3 i1 i2 ⟨rfl,p,r,rfl,g1,g2,g3,g4⟩;dsimp only
      by_cases hge:r >=m1
      · rw[xac hge];exact aR ⟨rfl,p,r,rfl,g1,g2,g3,.inl hge⟩
      · rw[xae hge];have hr:h + r<n:=by simp only[m1]at hge;lia
        refine aL (hf _ hr ?_);dsimp only
        by_cases hd:v (h + r)<t
        · rw[xae (by simpa using hd)];exact aR ⟨rfl,r,2 * r + 1,rfl,hd,hr,by lia,by lia⟩
        · rw[xac (by simpa using hd)];exact aR ⟨rfl,p,r,rfl,g1,g2,g3,.inr (by lia)⟩
    · rintro c s3 ⟨rfl,p,r,rfl,g1,g2,g3,g4⟩;exact⟨rfl,p,r,rfl,g1,g2,g3,.inl (by simp only[m1];lia)⟩
    · rintro c s3 ⟨rfl,p,r,rfl,g1,g2,g3,g4⟩;dsimp only[m1]at g4 ⊢;refine last _ _ _ _ (by lia) (by lia) (fun j hj=>xcI (up j (h + p) (by lia) g2) g1) fun j j1 j2=>?_;rcases g4 with g4 |g4
      · lia
      · exact xaq g4 (up _ j (by lia) j2)
  · rw [xae (by simpa using hc)];refine aL (Ok.mono (P:=fun c s3=>s3=st/\∃p r,c=(none,p,r)/\t<=v (h - p)/\p<=h/\p<r/\(r >=m2\/v (h - r)<t))
      (fV (fun i c s3=>s3=st/\∃p r,c=(none,p,r)/\t<=v (h - p)/\p<=h/\p<r/\i + 1<=r) ⟨rfl,0,1,rfl,by simpa using hc,by lia,by lia,by lia⟩ ?_ ?_) ?_)
    · rintro i c s3 i1 i2 ⟨rfl,p,r,rfl,g1,g2,g3,g4⟩;dsimp only
      by_cases hge:r >=m2
      · rw[xac hge];exact aR ⟨rfl,p,r,rfl,g1,g2,g3,.inl hge⟩
      · rw[xae hge];have hr:r<=h:=by simp only[m2]at hge;lia
        refine aL (hf _ (by lia) ?_);dsimp only
        by_cases hd:v (h - r)<t
        · rw[xac (by simpa using hd)];exact aR ⟨rfl,p,r,rfl,g1,g2,g3,.inr hd⟩
        · rw[xae (by simpa using hd)];exact aR ⟨rfl,r,2 * r + 1,rfl,by lia,hr,by lia,by lia⟩
    · rintro c s3 ⟨rfl,p,r,rfl,g1,g2,g3,g4⟩;exact⟨rfl,p,r,rfl,g1,g2,g3,.inl (by simp only[m2];lia)⟩
    · rintro c s3 ⟨rfl,p,r,rfl,g1,g2,g3,g4⟩;dsimp only[m2]at g4 ⊢;refine last _ _ _ _ (by lia) (by lia) (fun j hj=>?_) fun j j1 j2=>xaq g1 (up _ j j1 j2);rcases g4 with g4 |g4
      · lia
      · exact xcI (up j (h - r) (by lia) (by lia)) g4
variable {prog:Program}{w:World}{A:Around}{E:Value->Shared->Prop}{R:Shared->Prop}{α β:Type}{κ:SortKind}{a₀:Array Keyed}{rk:Rk}
abbrev Sd (rk:Rk)(l:List Keyed):Prop:=l.Pairwise fun x y=>rk x<=rk y
structure Mg (rk:Rk)(T O X Y:List Keyed):Prop where
 x:Sd rk (O ++ X)
 y:Sd rk (O ++ Y)
 p:(O ++ (X ++ Y)).Perm T
theorem Mg.swap {T O X Y:List Keyed}(m:Mg rk T O X Y):Mg rk T O Y X:=⟨m.y,m.x,(xcp O xdc).trans m.p⟩
theorem Mg.go {T O X X' Y:List Keyed}(m:Mg rk T O (X ++ X') Y)(h:∀a∈X,∀b∈Y,rk a<=rk b):Mg rk T (O ++ X) X' Y:=by
 refine⟨by rw[xat];exact m.x,?_,by simpa only[xat] using m.p⟩;have h1:=xaQ.mp m.x;have h2:=xaQ.mp m.y;have h3:=xaQ.mp h1.2.1;rw[xat];refine xaQ.mpr ⟨h1.1,xaQ.mpr ⟨h3.1,h2.2.1,h⟩,fun a ha b hb=>?_⟩;rcases xaJ.mp hb with hb |hb
 ·exact h1.2.2 a ha b (xde _ hb)
 ·exact h2.2.2 a ha b hb
theorem Mg.fin {T O X:List Keyed}(m:Mg rk T O X []):Sd rk (O ++ X)/\(O ++ X).Perm T:=⟨m.x,by simpa using m.p⟩
structure Mh (rk:Rk)(T O X Y:List Keyed):Prop where
 x:Sd rk (X ++ O)
 y:Sd rk (Y ++ O)
 p:(X ++ Y ++ O).Perm T
theorem Mh.swap {T O X Y:List Keyed}(m:Mh rk T O X Y):Mh rk T O Y X:=⟨m.y,m.x,(xcY O xdc).trans m.p⟩
theorem Mh.go {T O X X' Y:List Keyed}(m:Mh rk T O (X' ++ X) Y)(h:∀a∈X,∀b∈Y,rk b<=rk a):Mh rk T (X ++ O) X' Y:=by
 have h1:=xaQ.mp m.x;have h2:=xaQ.mp m.y;have h3:=xaQ.mp h1.1;refine⟨by rw[<-xat];exact m.x,?_,?_⟩
 ·refine xaQ.mpr ⟨h2.1,xaQ.mpr ⟨h3.2.1,h1.2.1,fun a ha b hb=>h1.2.2 a (xaK _ ha) b hb⟩,fun a ha b hb=>?_⟩;rcases xaJ.mp hb with hb |hb
  ·exact h b hb a ha
  ·exact h2.2.2 a ha b hb
 ·refine List.Perm.trans ?_ m.p;simp only[xat];refine xcp X' ?_;rw[<-xat, <-xat];exact xcY O xdc
noncomputable def yS:Array Keyed->Array Keyed->StateT SortSt Sem (Array Keyed):=sortPriv% PySem.Builtin.mergeLo
noncomputable def yR:Array Keyed->Array Keyed->StateT SortSt Sem (Array Keyed):=sortPriv% PySem.Builtin.mergeHi
noncomputable def setG (g:Nat):StateT SortSt Sem Unit:=modify fun s=>SortSt.mk' (kindOf s) (arrOf s) (pendingOf s) g (failedOf s)
theorem V5 (a b : Array Keyed) : yS a b = (do
 rule "list.sort.merge-lo"
 let t:=a.size + b.size
 let fin (o:Array Keyed) (i j:Nat):=o ++ a.extract i a.size ++ b.extract j b.size
 let lst (o:Array Keyed) (i j:Nat):=o ++ b.extract j b.size ++ a.extract i a.size
 let mut o:Array Keyed:= #[<-elem' b 0]
 let mut i:=0
 let mut j:=1
 if j==b.size then return fin o i j
 if i + 1==a.size then return lst o i j
 let mut g:=gallopOf (<-get)
 for _ in [0:t] do
  let mut m:=0
  let mut n:=0
  for _ in [0:t] do
   let some c <-lt' (<-elem' b j) (<-elem' a i) |return fin o i j
   if c then
    o:=o.push (<-elem' b j);j:=j + 1;n:=n + 1;m:=0
    if j==b.size then return fin o i j
    if n >=g then break
   else
    o:=o.push (<-elem' a i);i:=i + 1;m:=m + 1;n:=0
    if i + 1==a.size then return lst o i j
    if m >=g then break
  rule "list.sort.gallop"
  g:=g + 1
  for _ in [0:t] do
   if g > 1 then g:=g - 1
   setG g
   let some k <-gal false (<-elem' b j) a i (a.size - i) 0 |return fin o i j
   m:=k
   if k > 0 then
    o:=o ++ a.extract i (i + k);i:=i + k
    if i + 1==a.size then return lst o i j
    if i==a.size then return fin o i j
   o:=o.push (<-elem' b j);j:=j + 1
   if j==b.size then return fin o i j
   let some k <-gal true (<-elem' a i) b j (b.size - j) 0 |return fin o i j
   n:=k
   if k > 0 then
    o:=o ++ b.extract j (j + k);j:=j + k
    if j==b.size then return fin o i j
   o:=o.push (<-elem' a i);i:=i + 1
   if i + 1==a.size then return lst o i j
   if m<7 && n<7 then break
  g:=g + 1
  setG g
 unsupported "internal:list.sort.merge-bound"):=rfl
variable {prog:Program}{w:World}{A:Around}{E:Value->Shared->Prop}{R:Shared->Prop}{α β:Type}{κ:SortKind}{a₀:Array Keyed}{rk:Rk}
def Sg (st st':SortSt):Prop:=∃g,st'=SortSt.mk' (kindOf st) (arrOf st) (pendingOf st) g (failedOf st)
theorem Sg.rfl {st:SortSt}:Sg st st:=⟨gallopOf st,by trivial⟩
theorem Cq {st:SortSt}{g:Nat}{P:Unit->SortSt->Prop}(h:∀st',Sg st st'->P () st'):Ok prog w A E R (setG g) st P:=wY (h _ ⟨g,by trivial⟩)
theorem Sg.trans {s1 s2 s3:SortSt}(a:Sg s1 s2)(b:Sg s2 s3):Sg s1 s3:=by
 obtain⟨g,rfl⟩:=a;obtain⟨g',rfl⟩:=b;exact⟨g',by trivial⟩
theorem Sg.bs {st st':SortSt}(a:Sg st st')(B:Bs κ a₀ st):Bs κ a₀ st':=by
 obtain⟨g,rfl⟩:=a;exact⟨B.kd,B.nf,B.pm⟩
theorem Lf {a:Array Keyed}{i:Nat}:(a.extract i a.size).toList=a.toList.drop i:=by
 rw[xbO,xbs,xbW (by simp)]
theorem Lh {a:Array Keyed}{i k:Nat}:(a.extract i (i + k)).toList=(a.toList.drop i).take k:=by
 rw[xbO,xbs,Nat.add_sub_cancel_left]
theorem Ga {a:Array Keyed}{i:Nat}(h:i<a.size):a.toList.drop i=a[i]::a.toList.drop (i + 1):=by
 rw[xaO (by simpa using h)];rfl
theorem mV {a:Array Keyed}(s:Sd rk a.toList){i j:Nat}(h:i<=j)(hj:j<a.size):rk (a[i]'(by lia))<=rk a[j]:=by
 by_cases e:i=j
 ·subst e;exact xad _
 ·exact xcC.mp s i j (by simpa using (by lia:i<a.size)) (by simpa using hj) (by lia)
theorem BP {a:Array Keyed}{i:Nat}{x:Keyed}(h:x∈a.toList.drop i):∃k,i<=k/\∃hk:k<a.size,x=a[k]:=by
 obtain⟨k,hk,e⟩:=xcg h;rw[xez]at e;simp only[xbU,xai]at hk;exact⟨i + k,by lia,by lia,e.symm⟩
theorem G9 {a:Array Keyed}{i n:Nat}{x:Keyed}(h:x∈(a.toList.drop i).take n):∃k,i<=k/\k<i + n/\∃hk:k<a.size,x=a[k]:=by
 obtain⟨k,hk,e⟩:=xcg h;rw[xeA,xez]at e;simp only[xbl,xbU,xai]at hk;exact⟨i + k,by lia,by lia,by lia,e.symm⟩
theorem JV {a:Array Keyed}(s:Sd rk a.toList){i:Nat}:Up (vv rk a) i a.size:=fun k l h1 h2 h3=>by
 rw[dH (by lia),dH h3];exact mV s h2 h3
theorem Xc {st:SortSt}{a b:Array Keyed}(C:mq prog w A R κ a₀ rk)(B:Bs κ a₀ st)(ha:∀y∈a,y∈a₀)(hb:∀y∈b,y∈a₀)(sa:Sd rk a.toList)(sb:Sd rk b.toList)(na:0<a.size)(nb:0<b.size)
    (f:∀x∈a,rk b[0]<=rk x) (l:∀y∈b,rk y<=rk a[a.size - 1]) {P:Array Keyed->SortSt->Prop} (q:∀r st',Sd rk r.toList->r.toList.Perm (a.toList ++ b.toList)->Sg st st'->P r st'):Ok prog w A E R (yS a b) st P:=by
  rw[V5]
  extract_lets t fin lst i0 j0
  generalize hT:a.toList ++ b.toList=T at q;have fn:∀o i j,Mg rk T o.toList (a.toList.drop i) (b.toList.drop j)->(i=a.size\/j=b.size)->∀st',Sg st st'->P (fin o i j) st':=fun o i j m h st' g=>by
    have e:(fin o i j).toList=o.toList ++ a.toList.drop i ++ b.toList.drop j:=by simp only[fin,xbc,Lf]
    rcases h with rfl |rfl
    · rw[xbD (i:=a.size) (by simp)]at m e;rw[xaE]at e;exact q _ _ (by rw[e];exact m.swap.fin.1) (by rw[e];exact m.swap.fin.2) g
    · rw[xbD (i:=b.size) (by simp)]at m e;rw[xaE]at e;exact q _ _ (by rw[e];exact m.fin.1) (by rw[e];exact m.fin.2) g
  have ls:∀o i j,Mg rk T o.toList (a.toList.drop i) (b.toList.drop j)->i + 1=a.size->∀st',Sg st st'->P (lst o i j) st':=fun o i j m h st' g=>by
    have e:(lst o i j).toList=o.toList ++ b.toList.drop j ++ a.toList.drop i:=by simp only[lst,xbc,Lf]
    have d:a.toList.drop i=[a[a.size - 1]]:=by
      rw[Ga (by lia),xbD (by simp;lia)];simp only[show a.size - 1=i by lia]
    have m2 : Mg rk T (o.toList ++ b.toList.drop j) (a.toList.drop i) [] := (Mg.go (X':=[]) (by rw[xaE];exact m.swap) fun y hy x hx=>by
      rw[d,xax]at hx;subst hx;exact l y (xa7.mp (List.mem_of_mem_drop hy))).swap
    exact q _ _ (by rw[e];exact m2.fin.1) (by rw[e];exact m2.fin.2) g
  clear_value fin lst
  -- a step of b,a step of a
  have stB:∀o i j (hj:j<b.size),Mg rk T o (a.toList.drop i) (b.toList.drop j)->(∀k (hk:k<a.size),i<=k->rk b[j]<=rk a[k])->Mg rk T (o ++ [b[j]]) (a.toList.drop i) (b.toList.drop (j + 1)):=fun o i j hj m h=>
    (Mg.go (X:=[b[j]]) (by have:=m.swap;rw[Ga hj]at this;exact this) fun x hx y hy=>by
      rw[xax]at hx;subst hx;obtain⟨k,k1,k2,rfl⟩:=BP hy;exact h k k2 k1).swap
  have stA:∀o i j (hi:i<a.size),Mg rk T o (a.toList.drop i) (b.toList.drop j)->(∀k (hk:k<b.size),j<=k->rk a[i]<=rk b[k])->Mg rk T (o ++ [a[i]]) (a.toList.drop (i + 1)) (b.toList.drop j):=fun o i j hi m h=>
    Mg.go (X:=[a[i]]) (by rw[Ga hi]at m;exact m) fun x hx y hy=>by
      rw[xax]at hx;subst hx;obtain⟨k,k1,k2,rfl⟩:=BP hy;exact h k k2 k1
  have m0:Mg rk T [b[0]] (a.toList.drop 0) (b.toList.drop 1):=stB [] 0 0 nb ⟨by simpa using sa,by simpa using sb,by simp[hT]⟩ fun k hk _=>f _ (xaL hk);refine aL (wZ (aL (dO nb ?_)))
  extract_lets o0
  dsimp -zeta -zetaHave only[i0,j0,o0]
  by_cases h1:1=b.size
  · rw[xac (by simpa using h1)];exact aR (fn _ _ _ m0 (.inr h1) _ Sg.rfl)
  rw[xae (by simpa using h1)]
  by_cases h2:0 + 1=a.size
  · rw[xac (by simpa using h2)];exact aR (ls _ _ _ m0 h2 _ Sg.rfl)
  rw[xae (by simpa using h2)];clear i0 j0 o0;refine aL (mL ?_)
  let Gd:Array Keyed->Prop:=fun r=>∀st',Sg st st'->P r st'
  let J:Array Keyed->Nat->Nat->Prop:=fun o i j=>i + 1<a.size/\j<b.size/\Mg rk T o.toList (a.toList.drop i) (b.toList.drop j)
  refine aL (Ok.mono (P:=fun c s2=>Sg st s2/\∃r o i j g,c=(some r,o,i,j,g)/\Gd r)
    (fV (fun x c s2=>Sg st s2/\∃o i j g,c=(none,o,i,j,g)/\J o i j/\x<i + j) ⟨Sg.rfl,_,0,1,_,rfl,⟨by lia,by lia,m0⟩,by lia⟩ ?_ ?_) ?_)
  · rintro x c s2 x1 x2 ⟨g2,o,i,j,g,rfl,hJ,hx⟩
    extract_lets o' i' j' g' m' n'
    refine aL (Ok.mono (P:=fun c s3=>Sg st s3/\∃o i j m n,(J o i j/\x + 1<i + j/\c=(none,o,i,j,m,n))\/∃r,c=(some r,o,i,j,m,n)/\Gd r)
      (fV (fun y c s3=>Sg st s3/\∃o i j m n,c=(none,o,i,j,m,n)/\J o i j/\x + y<i + j) ⟨g2,o,i,j,0,0,rfl,hJ,by lia⟩ ?_ ?_) ?_)
    · rintro y c s3 y1 y2 ⟨g3,o,i,j,m,n,rfl,⟨J1,J2,J3⟩,hy⟩
      clear_value o' i' j' g' m' n'
      dsimp only;refine aL (dO J2 (aL (dO (by lia) (aL (zm C (g3.bs B) (hb _ (xaL _)) (ha _ (xaL _)) ?_)))));dsimp only
      by_cases hc:rk b[j]<rk a[i]
      · rw[xac (by simpa using hc)];have m2:=stB _ i j J2 J3 fun k hk ik=>xaq (xa5 hc) (mV sa ik hk);rw[<-xa6]at m2;refine aL (dO J2 ?_)
        by_cases e:j + 1=b.size
        · rw[xac (by simpa using e)];exact aR ⟨g3,_,_,_,_,_,.inr ⟨_,rfl,fn _ _ _ m2 (.inr e)⟩⟩
        · rw[xae (by simpa using e)]
          split
          · exact aR ⟨g3,_,_,_,_,_,.inl ⟨⟨J1,by lia,m2⟩,by lia,rfl⟩⟩
          · exact aR ⟨g3,_,_,_,_,_,rfl,⟨J1,by lia,m2⟩,by lia⟩
      · rw[xae (by simpa using hc)];have m2:=stA _ i j (by lia) J3 fun k hk ik=>xaq (xbu hc) (mV sb ik hk);rw[<-xa6]at m2;refine aL (dO (by lia) ?_)
        by_cases e:i + 1 + 1=a.size
        · rw[xac (by simpa using e)];exact aR ⟨g3,_,_,_,_,_,.inr ⟨_,rfl,ls _ _ _ m2 e⟩⟩
        · rw[xae (by simpa using e)]
          split
          · exact aR ⟨g3,_,_,_,_,_,.inl ⟨⟨by lia,J2,m2⟩,by lia,rfl⟩⟩
          · exact aR ⟨g3,_,_,_,_,_,rfl,⟨by lia,J2,m2⟩,by lia⟩
    · rintro c s3 ⟨g3,o,i,j,m,n,rfl,hJ,hy⟩;exact⟨g3,o,i,j,m,n,.inl ⟨hJ,by lia,rfl⟩⟩
    · rintro c s3 ⟨g3,o,i,j,m,n,⟨hJ,hy,rfl⟩ |⟨r,rfl,hr⟩⟩
      · refine aL (wZ (aL (Ok.mono (P:=fun c s4=>Sg st s4/\∃o i j g m n,(J o i j/\x + 1<i + j/\c=(none,o,i,j,g,m,n))\/∃r,c=(some r,o,i,j,g,m,n)/\Gd r)
          (fV (fun y c s4=>Sg st s4/\∃o i j g m n,c=(none,o,i,j,g,m,n)/\J o i j/\x + 1<i + j) ⟨g3,o,i,j,_,m,n,rfl,hJ,hy⟩ ?_ ?_) ?_)))
        · clear hJ hy o i j m n
          clear_value o' i' j' g' m' n'
          rintro y c s4 y1 y2 ⟨g4,o,i,j,g,m,n,rfl,⟨J1,J2,J3⟩,hy⟩
          extract_lets z0 oo z1 ii z2 jj z3 gg z4 mm nn j1 jp g1
          have eo:oo=o:=rfl;have ei:ii=i:=rfl;have ej:jj=j:=rfl
          clear_value z0 z1 z2 z3 z4 oo ii jj gg mm nn
          clear z0 z1 z2 z3 z4;subst eo ei ej
          suffices hjp:∀g',Ok prog w A E R (jp () g') s4 _ by split<;>exact hjp _
          intro g';refine aL (Cq fun s5 g5=>aL (dO J2 ?_))
          replace g5:=g4.trans g5
          refine aL (wX C (g5.bs B) (hb _ (xaL _)) ha (by lia) (by lia) (by rw[show ii + (a.size - ii)=a.size by lia];exact JV sa) fun k k1 k2 k3=>?_);have t0:thr rk false b[jj]=rk b[jj] + 1:=rfl;rw[t0]at k2 k3
          dsimp -zeta -zetaHave only
          extract_lets mk jp2 o2 i2
          suffices hjp2:∀o i,i + 1<a.size->ii<=i->(∀k (hk:k<a.size),i<=k->rk b[jj]<=rk a[k])->Mg rk T o.toList (a.toList.drop i) (b.toList.drop jj)->Ok prog w A E R (jp2 () o i) s5 _ by
            have hk3:∀k' (hk:k'<a.size),ii + k<=k'->rk b[jj]<=rk a[k']:=fun k' hk h=>by
              have:=k3 (k' - ii) (by lia) (by lia);rw[show ii + (k' - ii)=k' by lia,dH hk]at this;lia
            by_cases hk:k > 0
            · rw[xac hk];have m2:Mg rk T o2.toList (a.toList.drop i2) (b.toList.drop jj):=by
                have e:o2.toList=oo.toList ++ (a.toList.drop ii).take k:=by simp only[o2,xbc,Lh]
                rw[e];refine Mg.go (X':=a.toList.drop i2) (by simp only[i2];rw[<-xd7,xcq];exact J3) fun u hu v hv=>?_;obtain⟨p,p1,p2,p3,rfl⟩:=G9 hu;obtain⟨p',p1',p2',rfl⟩:=BP hv;have z1:=k2 (p - ii) (by lia);rw[show ii + (p - ii)=p by lia,dH p3]at z1;have z2:=mV sb p1' p2';lia
              have ei2:i2=ii + k:=rfl
              clear_value o2 i2
              by_cases e1:i2 + 1=a.size
              · rw[xac (by simpa using e1)];exact aR ⟨g5,_,_,_,_,_,_,.inr ⟨_,rfl,ls _ _ _ m2 e1⟩⟩
              rw[xae (by simpa using e1)]
              by_cases e2:i2=a.size
              · rw[xac (by simpa using e2)];exact aR ⟨g5,_,_,_,_,_,_,.inr ⟨_,rfl,fn _ _ _ m2 (.inl e2)⟩⟩
              rw[xae (by simpa using e2)];exact hjp2 _ _ (by lia) (by lia) (fun k' hk' h=>hk3 k' hk' (by lia)) m2
            · rw[xae hk];exact hjp2 _ _ J1 (xad _) (fun k' hk' h=>hk3 k' hk' (by lia)) J3
          intro o i i1 i3 hlow m2;refine aL (dO J2 ?_);have m3:=stB _ i jj J2 m2 hlow;rw[<-xa6]at m3
          extract_lets o3 i4
          have ej1:j1=jj + 1:=rfl
          change Mg rk T o3.toList (a.toList.drop i) (b.toList.drop j1) at m3
          clear_value o3 j1
          by_cases e3:j1=b.size
          · rw[xac (by simpa using e3)];exact aR ⟨g5,_,_,_,_,_,_,.inr ⟨_,rfl,fn _ _ _ m3 (.inr e3)⟩⟩
          rw[xae (by simpa using e3)];refine aL (dO (by lia) (aL (wX C (g5.bs B) (ha _ (xaL _)) hb (by lia) (by lia) (by rw[show j1 + (b.size - j1)=b.size by lia];exact JV sb) fun k' k1' k2' k3'=>?_)));have t1:thr rk true a[i]=rk a[i]:=rfl;rw[t1]at k2' k3'
          dsimp -zeta -zetaHave only
          extract_lets nk jp3 o4 j4
          suffices hjp3:∀o j,j1<=j->j<b.size->(∀k (hk:k<b.size),j<=k->rk a[i]<=rk b[k])->Mg rk T o.toList (a.toList.drop i) (b.toList.drop j)->Ok prog w A E R (jp3 () o j) s5 _ by
            have hk3:∀k (hk:k<b.size),j1 + k'<=k->rk a[i]<=rk b[k]:=fun k hk h=>by
              have:=k3' (k - j1) (by lia) (by lia);rw[show j1 + (k - j1)=k by lia,dH hk]at this;lia
            by_cases hk:k' > 0
            · rw[xac hk];have m4:Mg rk T o4.toList (a.toList.drop i) (b.toList.drop j4):=by
                have e:o4.toList=o3.toList ++ (b.toList.drop j1).take k':=by simp only[o4,xbc,Lh]
                rw[e];refine(Mg.go (X':=b.toList.drop j4) (by simp only[j4];rw[<-xd7,xcq];exact m3.swap) fun u hu v hv=>?_).swap;obtain⟨p,p1,p2,p3,rfl⟩:=G9 hu;obtain⟨p',p1',p2',rfl⟩:=BP hv;have z1:=k2' (p - j1) (by lia);rw[show j1 + (p - j1)=p by lia,dH p3]at z1;have z2:=mV sa p1' p2';lia
              have ej4:j4=j1 + k':=rfl
              clear_value o4 j4
              by_cases e1:j4=b.size
              · rw[xac (by simpa using e1)];exact aR ⟨g5,_,_,_,_,_,_,.inr ⟨_,rfl,fn _ _ _ m4 (.inr e1)⟩⟩
              rw[xae (by simpa using e1)];exact hjp3 _ _ (by lia) (by lia) (fun k hk' h=>hk3 k hk' (by lia)) m4
            · rw[xae hk];exact hjp3 _ _ (xad _) (by lia) (fun k hk' h=>hk3 k hk' (by lia)) m3
          intro o j jl jb hlow2 m5;refine aL (dO (by lia) ?_);have m6:=stA _ i j (by lia) m5 hlow2;rw[<-xa6]at m6
          extract_lets o5
          have ei4:i4=i + 1:=rfl
          change Mg rk T o5.toList (a.toList.drop i4) (b.toList.drop j) at m6
          clear_value o5 i4
          by_cases e4:i4 + 1=a.size
          · rw[xac (by simpa using e4)];exact aR ⟨g5,_,_,_,_,_,_,.inr ⟨_,rfl,ls _ _ _ m6 e4⟩⟩
          rw[xae (by simpa using e4)]
          split
          · exact aR ⟨g5,_,_,_,_,_,_,.inl ⟨⟨by lia,jb,m6⟩,by lia,rfl⟩⟩
          · exact aR ⟨g5,_,_,_,_,_,_,rfl,⟨by lia,jb,m6⟩,by lia⟩
        · rintro c s4 ⟨g4,o,i,j,g,m,n,rfl,hJ,hy⟩;exact⟨g4,o,i,j,g,m,n,.inl ⟨hJ,hy,rfl⟩⟩
        · rintro c s4 ⟨g4,o,i,j,g,m,n,⟨hJ,hy,rfl⟩ |⟨r,rfl,hr⟩⟩
          · exact aL (Cq fun s5 g5=>aR ⟨g4.trans g5,o,i,j,_,rfl,hJ,hy⟩)
          · exact aR ⟨g4,r,_,_,_,_,rfl,hr⟩
      · exact aR ⟨g3,r,_,_,_,_,rfl,hr⟩
  · rintro c s2 ⟨g2,o,i,j,g,rfl,hJ,hx⟩;have:=hJ.1;have:=hJ.2.1;lia
  · rintro c s2 ⟨g2,r,o,i,j,g,rfl,hr⟩;exact aR (hr s2 g2)
variable {prog:Program}{w:World}{A:Around}{E:Value->Shared->Prop}{R:Shared->Prop}{α β:Type}{κ:SortKind}{a₀:Array Keyed}{rk:Rk}
theorem V3 (a b : Array Keyed) : yR a b = (do
 rule "list.sort.merge-hi"
 let t:=a.size + b.size
 let fin (o:Array Keyed) (i j:Nat):=a.extract 0 i ++ b.extract 0 j ++ o.reverse
 let lst (o:Array Keyed) (i j:Nat):=b.extract 0 j ++ a.extract 0 i ++ o.reverse
 let mut i:=a.size - 1
 let mut j:=b.size
 let mut o:Array Keyed:= #[<-elem' a i]
 if i==0 then return fin o i j
 if j==1 then return lst o i j
 let mut g:=gallopOf (<-get)
 for _ in [0:t] do
  let mut m:=0
  let mut n:=0
  for _ in [0:t] do
   let some c <-lt' (<-elem' b (j - 1)) (<-elem' a (i - 1)) |return fin o i j
   if c then
    i:=i - 1;o:=o.push (<-elem' a i);m:=m + 1;n:=0
    if i==0 then return fin o i j
    if m >=g then break
   else
    j:=j - 1;o:=o.push (<-elem' b j);n:=n + 1;m:=0
    if j==1 then return lst o i j
    if n >=g then break
  rule "list.sort.gallop"
  g:=g + 1
  for _ in [0:t] do
   if g > 1 then g:=g - 1
   setG g
   let some p <-gal false (<-elem' b (j - 1)) a 0 i (i - 1) |return fin o i j
   let k:=i - p
   m:=k
   if k > 0 then
    o:=o ++ (a.extract p i).reverse;i:=p
    if i==0 then return fin o i j
   j:=j - 1;o:=o.push (<-elem' b j)
   if j==1 then return lst o i j
   let some p <-gal true (<-elem' a (i - 1)) b 0 j (j - 1) |return fin o i j
   let k:=j - p
   n:=k
   if k > 0 then
    o:=o ++ (b.extract p j).reverse;j:=p
    if j==1 then return lst o i j
    if j==0 then return fin o i j
   i:=i - 1;o:=o.push (<-elem' a i)
   if i==0 then return fin o i j
   if m<7 && n<7 then break
  g:=g + 1
  setG g
 unsupported "internal:list.sort.merge-bound"):=rfl
theorem Lg {a:Array Keyed}{i:Nat}:(a.extract 0 i).toList=a.toList.take i:=by
 rw[xbO,xbs,xb9,Nat.sub_zero]
theorem Gj {a:Array Keyed}{p i:Nat}(h:p<=i):a.toList.take i=a.toList.take p ++ (a.extract p i).toList:=by
 rw[xbO,xbs];have e:p + (i - p)=i:=by lia
 rw[<-List.take_add,e]
theorem JL {a:Array Keyed}{i:Nat}(h:i<a.size):a.toList.take (i + 1)=a.toList.take i ++ [a[i]]:=by
 rw[xeB,xah (by simpa using h)];rfl
theorem BW {a:Array Keyed}{i:Nat}{x:Keyed}(h:x∈a.toList.take i):∃k,k<i/\∃hk:k<a.size,x=a[k]:=by
 obtain⟨k,hk,e⟩:=xcg h;rw[xeA]at e;simp only[xbl,xai]at hk;exact⟨k,by lia,by lia,e.symm⟩
theorem mem_mid {a:Array Keyed}{p i:Nat}{x:Keyed}(h:x∈(a.extract p i).toList):∃k,p<=k/\k<i/\∃hk:k<a.size,x=a[k]:=by
 rw[xbO,xbs]at h;obtain⟨k,k1,k2,k3,e⟩:=G9 h;exact⟨k,k1,by lia,k3,e⟩
theorem Rx {a:Array Keyed}(s:Sd rk a.toList){i:Nat}(h:i<=a.size):Up (vv rk a) 0 (0 + i):=fun k l h1 h2 h3=>by
 rw[dH (by lia),dH (by lia)];exact mV s h2 (by lia)
theorem Xb {st:SortSt}{a b:Array Keyed}(C:mq prog w A R κ a₀ rk)(B:Bs κ a₀ st)(ha:∀y∈a,y∈a₀)(hb:∀y∈b,y∈a₀)(sa:Sd rk a.toList)(sb:Sd rk b.toList)(na:0<a.size)(nb:0<b.size)
    (f:∀x∈a,rk b[0]<=rk x) (l:∀y∈b,rk y<=rk a[a.size - 1]) {P:Array Keyed->SortSt->Prop} (q:∀r st',Sd rk r.toList->r.toList.Perm (a.toList ++ b.toList)->Sg st st'->P r st'):Ok prog w A E R (yR a b) st P:=by
  rw[V3]
  extract_lets t fin lst i0 j0
  generalize hT:a.toList ++ b.toList=T at q;have fn:∀o i j,Mh rk T o.toList.reverse (a.toList.take i) (b.toList.take j)->(i=0\/j=0)->∀st',Sg st st'->P (fin o i j) st':=fun o i j m h st' g=>by
    have e:(fin o i j).toList=a.toList.take i ++ b.toList.take j ++ o.toList.reverse:=by simp only[fin,xbc,Lg,xcu]
    have p:(fin o i j).toList.Perm T:=by rw[e];exact m.p
    refine q _ _ ?_ p g;rcases h with rfl |rfl
    · rw[e,xd8,xa4];exact m.y
    · rw[e,xd8,xaE];exact m.x
  have ls:∀o i j,Mh rk T o.toList.reverse (a.toList.take i) (b.toList.take j)->j=1->∀st',Sg st st'->P (lst o i j) st':=fun o i j m h st' g=>by
    have e:(lst o i j).toList=b.toList.take j ++ (a.toList.take i ++ o.toList.reverse):=by simp only[lst,xbc,Lg,xcu,xat]
    have m2:Mh rk T (a.toList.take i ++ o.toList.reverse) [] (b.toList.take j):=Mh.go (X':=[]) (by rw[xa4];exact m) fun x hx y hy=>by
      subst h;rw[show(1:Nat)=0 + 1 from rfl,JL nb]at hy;rw[xd8,xa4,xax]at hy;subst hy;exact f x (xa7.mp (List.mem_of_mem_take hx))
    refine q _ _ (by rw[e];exact m2.y) ?_ g;rw[e];have:=m2.p
    rwa [xa4]at this
  clear_value fin lst
  have stA:∀o i j (hi:i<a.size),Mh rk T o (a.toList.take (i + 1)) (b.toList.take j)->(∀k (hk:k<b.size),k<j->rk b[k]<=rk a[i])->Mh rk T (a[i]::o) (a.toList.take i) (b.toList.take j):=fun o i j hi m h=>
    Mh.go (X:=[a[i]]) (by rw[JL hi]at m;exact m) fun x hx y hy=>by
      rw[xax]at hx;subst hx;obtain⟨k,k1,k2,rfl⟩:=BW hy;exact h k k2 k1
  have stB:∀o i j (hj:j<b.size),Mh rk T o (a.toList.take i) (b.toList.take (j + 1))->(∀k (hk:k<a.size),k<i->rk a[k]<=rk b[j])->Mh rk T (b[j]::o) (a.toList.take i) (b.toList.take j):=fun o i j hj m h=>
    (Mh.go (X:=[b[j]]) (by have:=m.swap;rw[JL hj]at this;exact this) fun x hx y hy=>by
      rw[xax]at hx;subst hx;obtain⟨k,k1,k2,rfl⟩:=BW hy;exact h k k2 k1).swap
  have m0 : Mh rk T [a[a.size - 1]] (a.toList.take (a.size - 1)) (b.toList.take b.size) := stA [] (a.size - 1) b.size (by lia) (by
    rw[show a.size - 1 + 1=a.size by lia,xbW (by simp),xbW (by simp)];exact⟨by simpa using sa,by simpa using sb,by simp[hT]⟩) fun k hk _=>l _ (xaL hk)
  refine aL (wZ (aL (dO (show i0<a.size by simp only[i0];lia) ?_)))
  extract_lets o0
  dsimp -zeta -zetaHave only[i0,j0,o0]
  by_cases h1:a.size - 1=0
  · rw[xac (by simpa using h1)];exact aR (fn #[a[a.size - 1]] _ _ m0 (.inl h1) _ Sg.rfl)
  rw[xae (by simpa using h1)]
  by_cases h2:b.size=1
  · rw[xac (by simpa using h2)];exact aR (ls #[a[a.size - 1]] _ _ m0 h2 _ Sg.rfl)
  rw[xae (by simpa using h2)];refine aL (mL ?_)
  let Gd:Array Keyed->Prop:=fun r=>∀st',Sg st st'->P r st'
  let J:Array Keyed->Nat->Nat->Prop:=fun o i j=>0<i/\i<a.size/\1<j/\j<=b.size/\Mh rk T o.toList.reverse (a.toList.take i) (b.toList.take j)
  refine aL (Ok.mono (P:=fun c s2=>Sg st s2/\∃r o i j g,c=(some r,i,j,o,g)/\Gd r)
    (fV (fun x c s2=>Sg st s2/\∃o i j g,c=(none,i,j,o,g)/\J o i j/\x + i + j<t) ⟨Sg.rfl,_,_,_,_,rfl,⟨by lia,by lia,by lia,by lia,m0⟩,by simp only[t];lia⟩ ?_ ?_) ?_)
  · rintro x c s2 x1 x2 ⟨g2,o,i,j,g,rfl,hJ,hx⟩
    extract_lets i' j' o' g' m' n'
    refine aL (Ok.mono (P:=fun c s3=>Sg st s3/\∃o i j m n,(J o i j/\x + 1 + i + j<t/\c=(none,i,j,o,m,n))\/∃r,c=(some r,i,j,o,m,n)/\Gd r)
      (fV (fun y c s3=>Sg st s3/\∃o i j m n,c=(none,i,j,o,m,n)/\J o i j/\x + y + i + j<t) ⟨g2,o,i,j,0,0,rfl,hJ,by lia⟩ ?_ ?_) ?_)
    · rintro y c s3 y1 y2 ⟨g3,o,i,j,m,n,rfl,⟨J1,J2,J3,J4,J5⟩,hy⟩
      clear_value o' i' j' g' m' n'
      dsimp only;refine aL (dO (show j - 1<b.size by lia) (aL (dO (show i - 1<a.size by lia) (aL (zm C (g3.bs B) (hb _ (xaL _)) (ha _ (xaL _)) ?_)))));dsimp only
      by_cases hc:rk b[j - 1]<rk a[i - 1]
      · rw[xac (by simpa using hc)];have m2:=stA _ (i - 1) j (by lia) (by rw[show i - 1 + 1=i by lia];exact J5) fun k hk ik=>xaq (mV sb (show k<=j - 1 by lia) (by lia)) (xa5 hc);refine aL (dO (show i - 1<a.size by lia) ?_);have m3:Mh rk T (o.push a[i - 1]).toList.reverse (a.toList.take (i - 1)) (b.toList.take j):=by rw[xa6,xbC];exact m2
        by_cases e:i - 1=0
        · rw[xac (by simpa using e)];exact aR ⟨g3,_,_,_,_,_,.inr ⟨_,rfl,fn _ _ _ m3 (.inl e)⟩⟩
        · rw[xae (by simpa using e)]
          split
          · exact aR ⟨g3,_,_,_,_,_,.inl ⟨⟨by lia,by lia,J3,J4,m3⟩,by lia,rfl⟩⟩
          · exact aR ⟨g3,_,_,_,_,_,rfl,⟨by lia,by lia,J3,J4,m3⟩,by lia⟩
      · rw[xae (by simpa using hc)];have m2:=stB _ i (j - 1) (by lia) (by rw[show j - 1 + 1=j by lia];exact J5) fun k hk ik=>xaq (mV sa (show k<=i - 1 by lia) (by lia)) (xbu hc);refine aL (dO (show j - 1<b.size by lia) ?_);have m3:Mh rk T (o.push b[j - 1]).toList.reverse (a.toList.take i) (b.toList.take (j - 1)):=by rw[xa6,xbC];exact m2
        by_cases e:j - 1=1
        · rw[xac (by simpa using e)];exact aR ⟨g3,_,_,_,_,_,.inr ⟨_,rfl,ls _ _ _ m3 e⟩⟩
        · rw[xae (by simpa using e)]
          split
          · exact aR ⟨g3,_,_,_,_,_,.inl ⟨⟨J1,J2,by lia,by lia,m3⟩,by lia,rfl⟩⟩
          · exact aR ⟨g3,_,_,_,_,_,rfl,⟨J1,J2,by lia,by lia,m3⟩,by lia⟩
    · rintro c s3 ⟨g3,o,i,j,m,n,rfl,hJ,hy⟩;exact⟨g3,o,i,j,m,n,.inl ⟨hJ,by simp only[t]at hy ⊢;lia,rfl⟩⟩
    · rintro c s3 ⟨g3,o,i,j,m,n,⟨hJ,hy,rfl⟩ |⟨r,rfl,hr⟩⟩
      · refine aL (wZ (aL (Ok.mono (P:=fun c s4=>Sg st s4/\∃o i j g m n,(J o i j/\x + 1 + i + j<t/\c=(none,i,j,o,g,m,n))\/∃r,c=(some r,i,j,o,g,m,n)/\Gd r)
          (fV (fun y c s4=>Sg st s4/\∃o i j g m n,c=(none,i,j,o,g,m,n)/\J o i j/\x + 1 + i + j<t) ⟨g3,o,i,j,_,m,n,rfl,hJ,hy⟩ ?_ ?_) ?_)))
        · clear hJ hy o i j m n
          clear_value o' i' j' g' m' n'
          rintro y c s4 y1 y2 ⟨g4,o,i,j,g,m,n,rfl,⟨J1,J2,J3,J4,J5⟩,hy⟩
          extract_lets z0 ii z1 jj z2 oo z3 gg z4 mm nn j1 jp g1
          have eo:oo=o:=rfl;have ei:ii=i:=rfl;have ej:jj=j:=rfl
          clear_value z0 z1 z2 z3 z4 oo ii jj gg mm nn
          clear z0 z1 z2 z3 z4;subst eo ei ej
          suffices hjp:∀g',Ok prog w A E R (jp () g') s4 _ by split<;>exact hjp _
          intro g';refine aL (Cq fun s5 g5=>aL (dO (show jj - 1<b.size by lia) ?_))
          replace g5:=g4.trans g5
          refine aL (wX C (g5.bs B) (hb _ (xaL _)) ha (by lia) (by lia) (Rx sa (by lia)) fun p k1 k2 k3=>?_);have t0:thr rk false b[jj - 1]=rk b[jj - 1] + 1:=rfl;rw[t0]at k2 k3;simp only[xeu]at k2 k3
          dsimp -zeta -zetaHave only
          extract_lets kk mk jp2 o2 i2
          suffices hjp2:∀i o,0<i->i<=ii->(∀k (hk:k<a.size),k<i->rk a[k]<=rk b[jj - 1])->Mh rk T o.toList.reverse (a.toList.take i) (b.toList.take jj)->Ok prog w A E R (jp2 () i o) s5 _ by
            have hk2:∀k (hk:k<a.size),k<p->rk a[k]<=rk b[jj - 1]:=fun k hk h=>by
              have:=k2 k h;rw[dH hk]at this;lia
            by_cases hk:kk > 0
            · rw[xac hk];have m2:Mh rk T o2.toList.reverse (a.toList.take i2) (b.toList.take jj):=by
                have e:o2.toList.reverse=(a.extract p ii).toList ++ oo.toList.reverse:=by simp only[o2,xbc,xcu,xbC,xdo]
                rw[e];refine Mh.go (X':=a.toList.take i2) (by simp only[i2];rw[<-Gj k1];exact J5) fun u hu v hv=>?_;obtain⟨q1,p1,p2,p3,rfl⟩:=mem_mid hu;obtain⟨q2,p1',p2',rfl⟩:=BW hv;have z1:=k3 q1 p1 p2;rw[dH p3]at z1;have z2:=mV sb (show q2<=jj - 1 by lia) (by lia);lia
              have ei2:i2=p:=rfl
              clear_value o2 i2
              subst ei2
              by_cases e1:i2=0
              · rw[xac (by simpa using e1)];exact aR ⟨g5,_,_,_,_,_,_,.inr ⟨_,rfl,fn _ _ _ m2 (.inl e1)⟩⟩
              rw[xae (by simpa using e1)];exact hjp2 _ _ (by lia) (by lia) hk2 m2
            · rw[xae hk];have ep:p=ii:=by simp only[kk]at hk;lia
              subst ep;exact hjp2 _ _ J1 (xad _) hk2 J5
          intro i o i1 i3 hlow m2;have ej1:j1=jj - 1:=rfl;refine aL (dO (show j1<b.size by lia) ?_);have m3:=stB _ i j1 (by lia) (by rw[show j1 + 1=jj by lia];exact m2) hlow
          extract_lets o3 i4
          replace m3:Mh rk T o3.toList.reverse (a.toList.take i) (b.toList.take j1):=by simp only[o3];rw[xa6,xbC];exact m3
          clear_value o3 j1
          by_cases e3:j1=1
          · rw[xac (by simpa using e3)];exact aR ⟨g5,_,_,_,_,_,_,.inr ⟨_,rfl,ls _ _ _ m3 e3⟩⟩
          rw[xae (by simpa using e3)];refine aL (dO (show i - 1<a.size by lia) (aL (wX C (g5.bs B) (ha _ (xaL _)) hb (by lia) (by lia) (Rx sb (by lia)) fun p' k1' k2' k3'=>?_)));have t1:thr rk true a[i - 1]=rk a[i - 1]:=rfl;rw[t1]at k2' k3';simp only[xeu]at k2' k3'
          dsimp -zeta -zetaHave only
          extract_lets k4 nk jp3 o4 j4
          suffices hjp3:∀j o,j<=j1->1<j->(∀k (hk:k<b.size),k<j->rk b[k]<=rk a[i - 1])->Mh rk T o.toList.reverse (a.toList.take i) (b.toList.take j)->Ok prog w A E R (jp3 () j o) s5 _ by
            have hk2:∀k (hk:k<b.size),k<p'->rk b[k]<=rk a[i - 1]:=fun k hk h=>by
              have:=k2' k h;rw[dH hk]at this;lia
            by_cases hk:k4 > 0
            · rw[xac hk];have m4:Mh rk T o4.toList.reverse (a.toList.take i) (b.toList.take j4):=by
                have e:o4.toList.reverse=(b.extract p' j1).toList ++ o3.toList.reverse:=by simp only[o4,xbc,xcu,xbC,xdo]
                rw[e];refine(Mh.go (X':=b.toList.take j4) (by simp only[j4];rw[<-Gj k1'];exact m3.swap) fun u hu v hv=>?_).swap;obtain⟨q1,p1,p2,p3,rfl⟩:=mem_mid hu;obtain⟨q2,p1',p2',rfl⟩:=BW hv;have z1:=k3' q1 p1 p2;rw[dH p3]at z1;have z2:=mV sa (show q2<=i - 1 by lia) (by lia);lia
              have ej4:j4=p':=rfl
              clear_value o4 j4
              subst ej4
              by_cases e1:j4=1
              · rw[xac (by simpa using e1)];exact aR ⟨g5,_,_,_,_,_,_,.inr ⟨_,rfl,ls _ _ _ m4 e1⟩⟩
              rw[xae (by simpa using e1)]
              by_cases e2:j4=0
              · rw[xac (by simpa using e2)];exact aR ⟨g5,_,_,_,_,_,_,.inr ⟨_,rfl,fn _ _ _ m4 (.inr e2)⟩⟩
              rw[xae (by simpa using e2)];exact hjp3 _ _ (by lia) (by lia) hk2 m4
            · rw[xae hk];have ep:p'=j1:=by simp only[k4]at hk;lia
              exact hjp3 _ _ (xad _) (by lia) (fun k hk h=>hk2 k hk (by lia)) m3
          intro j o jl jb hlow2 m5;have ei4:i4=i - 1:=rfl;refine aL (dO (show i4<a.size by lia) ?_);have m6:=stA _ i4 j (by lia) (by rw[show i4 + 1=i by lia];exact m5) hlow2
          extract_lets o5
          replace m6:Mh rk T o5.toList.reverse (a.toList.take i4) (b.toList.take j):=by simp only[o5];rw[xa6,xbC];exact m6
          clear_value o5 i4
          by_cases e4:i4=0
          · rw[xac (by simpa using e4)];exact aR ⟨g5,_,_,_,_,_,_,.inr ⟨_,rfl,fn _ _ _ m6 (.inl e4)⟩⟩
          rw[xae (by simpa using e4)]
          split
          · exact aR ⟨g5,_,_,_,_,_,_,.inl ⟨⟨by lia,by lia,jb,by lia,m6⟩,by lia,rfl⟩⟩
          · exact aR ⟨g5,_,_,_,_,_,_,rfl,⟨by lia,by lia,jb,by lia,m6⟩,by lia⟩
        · rintro c s4 ⟨g4,o,i,j,g,m,n,rfl,hJ,hy⟩;exact⟨g4,o,i,j,g,m,n,.inl ⟨hJ,hy,rfl⟩⟩
        · rintro c s4 ⟨g4,o,i,j,g,m,n,⟨hJ,hy,rfl⟩ |⟨r,rfl,hr⟩⟩
          · exact aL (Cq fun s5 g5=>aR ⟨g4.trans g5,o,i,j,_,rfl,hJ,hy⟩)
          · exact aR ⟨g4,r,_,_,_,_,rfl,hr⟩
      · exact aR ⟨g3,r,_,_,_,_,rfl,hr⟩
  · rintro c s2 ⟨g2,o,i,j,g,rfl,hJ,hx⟩;have:=hJ.1;simp only[t]at hx;lia
  · rintro c s2 ⟨g2,r,o,i,j,g,rfl,hr⟩;exact aR (hr s2 g2)
variable {prog:Program}{w:World}{A:Around}{E:Value->Shared->Prop}{R:Shared->Prop}{α β:Type}{κ:SortKind}{a₀:Array Keyed}{rk:Rk}
noncomputable def lay (o:Nat) (m a:Array Keyed):Array Keyed:=m.toList.zipIdx.foldl (fun a (p,j)=>a.setIfInBounds (o + j) p) a
theorem Wa (i : Nat) : mergeAt' i = (do
 let s <-get
 let (some (o,n,w),some (p,m,_)):=((pendingOf s)[i]?,(pendingOf s)[i + 1]?) |unsupported "internal:list.sort.pending"
 set (setPending s (((pendingOf s).setIfInBounds i (o,n + m,w)).eraseIdxIfInBounds (i + 1)))
 let some k <-gal false (<-elem' (arrOf s) p) (arrOf s) o n 0 |return false
 let (o,n):=(o + k,n - k)
 if n==0 then return true
 let some m <-gal true (<-elem' (arrOf s) (o + n - 1)) (arrOf s) p m (m - 1) |return false
 if m==0 then return true
 let x:=(arrOf s).extract o p
 let y:=(arrOf s).extract p (p + m)
 let r <-if n<=m then yS x y else yR x y
 modify fun s=>setArr s (lay o r (arrOf s))
 return (failedOf (<-get)).isNone):=rfl
theorem Nt (o:Nat):∀(l:List Keyed) (d:Nat) (a:Array Keyed),o + d + l.length<=a.size->
    ((l.zipIdx d).foldl (fun a (p,j)=>a.setIfInBounds (o + j) p) a).size=a.size/\∀k,((l.zipIdx d).foldl (fun a (p,j)=>a.setIfInBounds (o + j) p) a)[k]? =if o + d<=k/\k<o + d + l.length then l[k - (o + d)]? else a[k]?
  | [],d,a,h=>⟨rfl,fun k=>by rw[xae (by simp only[xa9];lia)];rfl⟩
  |x::l,d,a,h=>by
    rw[xay]at h;obtain⟨h1,h2⟩:=Nt o l (d + 1) (a.setIfInBounds (o + d) x) (by rw[xdT];lia);rw[xdT]at h1;refine⟨h1,fun k=>(h2 k).trans ?_⟩;rw[xay]
    by_cases c:k=o + d
    · subst c;rw[xae (by lia),xac (by lia),xbN,xdv,xac rfl,xac (by lia)];rfl
    · by_cases c2:o + (d + 1)<=k/\k<o + (d + 1) + l.length
      · rw[xac c2,xac (by lia),show k - (o + d)=k - (o + (d + 1)) + 1 by lia,xcj]
      · rw[xae c2,xae (by lia),xdv,xae (by lia)]
theorem Nr {o:Nat}{m a:Array Keyed}(h:o + m.size<=a.size)(k:Nat):(lay o m a)[k]? =if o<=k/\k<o + m.size then m[k - o]? else a[k]? :=by
 have:=(Nt o m.toList 0 a (by simpa using h)).2 k;simp only[Nat.add_zero,xai,xaV]at this;exact this
theorem VF {o:Nat}{m a:Array Keyed}(h:o + m.size<=a.size)(p:m.toList.Perm (a.extract o (o + m.size)).toList):(lay o m a).Perm a:=by
 have e1:(lay o m a).toList=a.toList.take o ++ (m.toList ++ a.toList.drop (o + m.size)):=by
  refine xeC fun k=>?_;rw[xaV,Nr h]
  by_cases c:k<o
  ·rw[xae (by lia),xaH (by simp;lia),xcH c,xaV]
  ·rw[xas (by simp;lia),xbl,xai,show min o a.size=o by lia]
   by_cases c2:k<o + m.size
   ·rw[xac (by lia),xaH (by simp;lia),xaV]
   ·rw[xae (by lia),xas (by simp;lia),xai,xet,xaV];congr 1;lia
 have e2:a.toList=a.toList.take o ++ ((a.extract o (o + m.size)).toList ++ a.toList.drop (o + m.size)):=by
  rw[<-xat, <-Gj (by lia),xcq]
 refine Array.perm_iff_toList_perm.mpr ?_;rw[e1];refine List.Perm.trans ?_ (List.Perm.of_eq e2.symm);exact xcp _ (xcY _ p)
theorem Qw {a:Array Keyed}{i j:Nat}(h:Up (vv rk a) i j)(hj:j<=a.size):Sd rk (a.extract i j).toList:=by
 refine xcC.mpr fun p q hp hq pq=>?_;simp only[xai,xcJ]at hp hq;have e:∀q (hq:q<(a.extract i j).toList.length),rk (a.extract i j).toList[q]=vv rk a (i + q):=fun q hq=>by
  simp only[xai,xcJ]at hq;rw[dH (by lia)]
  simp
 rw[e,e];exact h _ _ (by lia) (by lia) (by lia)
theorem yV {a:Array Keyed}{p i:Nat}{x:Keyed}(h:x∈a.extract p i):∃k,p<=k/\k<i/\k<a.size/\rk x=vv rk a k/\x∈a:=by
 obtain⟨k,k1,k2,k3,rfl⟩:=mem_mid (xa7.mpr h);exact⟨k,k1,k2,k3,(dH k3).symm,xaL k3⟩
theorem Up.join {v:Nat->Nat}{i j k:Nat}(a:Up v i j)(b:Up v j k)(h:∀p q,i<=p->p<j->j<=q->q<k->v p<=v q):Up v i k:=fun p q h1 h2 h3=>by
 by_cases c:q<j
 ·exact a p q h1 h2 c
 ·by_cases d:p<j
  ·exact h p q h1 d (by lia) h3
  ·exact b p q (by lia) h2 h3
theorem Xd {st:SortSt}{i o n x p m y:Nat}(C:mq prog w A R κ a₀ rk)(B:Bs κ a₀ st)(e1:(pendingOf st)[i]? =some (o,n,x))(e2:(pendingOf st)[i + 1]? =some (p,m,y))(hp:p=o + n)(n1:1<=n)(m1:1<=m)(hz:p + m<=a₀.size)
    (u1:Up (vv rk (arrOf st)) o p) (u2:Up (vv rk (arrOf st)) p (p + m)) {P:Bool->SortSt->Prop}
    (q:∀st',Bs κ a₀ st'->pendingOf st'=((pendingOf st).setIfInBounds i (o,n + m,x)).eraseIdxIfInBounds (i + 1)->Up (vv rk (arrOf st')) o (p + m)->(∀k,k<o\/p + m<=k->vv rk (arrOf st') k=vv rk (arrOf st) k)->P true st'):Ok prog w A E R (mergeAt' i) st P:=by
  have sz:=B.size;have hm:∀y∈arrOf st,y∈a₀:=fun y hy=>B.pm.mem_iff.mp hy;rw[Wa];refine aL (mL ?_);rw[e1,e2];dsimp only;refine aL (Xe ?_);have B2:Bs κ a₀ (setPending st (((pendingOf st).setIfInBounds i (o,n + m,x)).eraseIdxIfInBounds (i + 1))):=⟨B.kd,B.nf,B.pm⟩;refine aL (dO (show p<(arrOf st).size by lia) (aL (wX C B2 (hm _ (xaL _)) hm (by lia) (by lia) (by rw[<-hp];exact u1) fun k k1 k2 k3=>?_)));dsimp only;have tp:thr rk false (arrOf st)[p]=vv rk (arrOf st) p + 1:=by rw[dH (by lia)];rfl
  rw[tp]at k2 k3
  by_cases c1:n - k=0
  · rw[xac (by simpa using c1)];refine aR (q _ B2 rfl (u1.join u2 fun p' q' h1 h2 h3 h4=>?_) fun _ _=>rfl);have:=k2 (p' - o) (by lia);rw[show o + (p' - o)=p' by lia]at this;exact xaq (by lia) (u2 p q' (xad _) h3 h4)
  rw[xae (by simpa using c1)];refine aL (dO (show o + k + (n - k) - 1<(arrOf st).size by lia) (aL (wX C B2 (hm _ (xaL _)) hm (by lia) (by lia) u2 fun d d1 d2 d3=>?_)));dsimp only;have tq:thr rk true (arrOf st)[o + k + (n - k) - 1]=vv rk (arrOf st) (p - 1):=by rw[dH (show p - 1<_ by lia)];show rk _=rk _;simp only[show o + k + (n - k) - 1=p - 1 by lia]
  rw[tq]at d2 d3
  by_cases c2:d=0
  · rw[xac (by simpa using c2)];refine aR (q _ B2 rfl (u1.join u2 fun p' q' h1 h2 h3 h4=>?_) fun _ _=>rfl);have:=d3 (q' - p) (by lia) (by lia);rw[show p + (q' - p)=q' by lia]at this;exact xaq (u1 p' (p - 1) h1 (by lia) (by lia)) this
  rw[xae (by simpa using c2)];have szx:((arrOf st).extract (o + k) p).size=n - k:=by rw[xcJ];lia
  have szy:((arrOf st).extract p (p + d)).size=d:=by rw[xcJ];lia
  have hk3:∀j,o + k<=j->j<p->vv rk (arrOf st) p<vv rk (arrOf st) j:=fun j h1 h2=>by
    have:=k3 (j - o) (by lia) (by lia);rw[show o + (j - o)=j by lia]at this;lia
  have hd2:∀j,p<=j->j<p + d->vv rk (arrOf st) j<vv rk (arrOf st) (p - 1):=fun j h1 h2=>by
    have:=d2 (j - p) (by lia)
    rwa [show p + (j - p)=j by lia]at this
  have gx:∀(h:0<((arrOf st).extract p (p + d)).size),rk ((arrOf st).extract p (p + d))[0]=vv rk (arrOf st) p:=fun h=>by rw[dH (by lia)];simp
  have gy:∀(h:((arrOf st).extract (o + k) p).size - 1<((arrOf st).extract (o + k) p).size),rk ((arrOf st).extract (o + k) p)[((arrOf st).extract (o + k) p).size - 1]=vv rk (arrOf st) (p - 1):=fun h=>by
    rw[dH (by lia),Array.getElem_extract];simp only[szx,show o + k + (n - k - 1)=p - 1 by lia]
  have mrg:∀(f:Array Keyed->Array Keyed->StateT SortSt Sem (Array Keyed)),(f=yS\/f=yR)->∀{P:Array Keyed->SortSt->Prop},(∀r st',Sd rk r.toList->r.toList.Perm (((arrOf st).extract (o + k) p).toList ++ ((arrOf st).extract p (p + d)).toList)->Sg (setPending st (((pendingOf st).setIfInBounds i (o,n + m,x)).eraseIdxIfInBounds (i + 1))) st'->P r st')->
      Ok prog w A E R (f ((arrOf st).extract (o + k) p) ((arrOf st).extract p (p + d))) (setPending st (((pendingOf st).setIfInBounds i (o,n + m,x)).eraseIdxIfInBounds (i + 1))) P:=by
    have h1:∀y∈(arrOf st).extract (o + k) p,y∈a₀:=fun y hy=>hm _ (yV (rk:=rk) hy).choose_spec.2.2.2.2;have h2:∀y∈(arrOf st).extract p (p + d),y∈a₀:=fun y hy=>hm _ (yV (rk:=rk) hy).choose_spec.2.2.2.2;have h3:Sd rk ((arrOf st).extract (o + k) p).toList:=Qw (fun a b z1 z2 z3=>u1 a b (by lia) z2 z3) (by lia);have h4:Sd rk ((arrOf st).extract p (p + d)).toList:=Qw (fun a b z1 z2 z3=>u2 a b z1 z2 (by lia)) (by lia);have h5:∀z∈(arrOf st).extract (o + k) p,rk (((arrOf st).extract p (p + d))[0]'(by lia))<=rk z:=fun z hz=>by
      obtain⟨j,j1,j2,j3,j4,_⟩:=yV (rk:=rk) hz;rw[j4,gx];exact xa5 (hk3 j j1 j2)
    have h6:∀z∈(arrOf st).extract p (p + d),rk z<=rk (((arrOf st).extract (o + k) p)[((arrOf st).extract (o + k) p).size - 1]'(by lia)):=fun z hz=>by
      obtain⟨j,j1,j2,j3,j4,_⟩:=yV (rk:=rk) hz;rw[j4,gy];exact xa5 (hd2 j j1 j2)
    rintro f (rfl |rfl) P hP
    · exact Xc C B2 h1 h2 h3 h4 (by lia) (by lia) h5 h6 hP
    · exact Xb C B2 h1 h2 h3 h4 (by lia) (by lia) h5 h6 hP
  have rest:∀r st',Sd rk r.toList->r.toList.Perm (((arrOf st).extract (o + k) p).toList ++ ((arrOf st).extract p (p + d)).toList)->Sg (setPending st (((pendingOf st).setIfInBounds i (o,n + m,x)).eraseIdxIfInBounds (i + 1))) st'->
      Ok prog w A E R (do modify fun s=>setArr s (lay (o + k) r (arrOf s));let s <-get;pure (failedOf s).isNone) st' P:=by
    rintro r st' sr pr ⟨g,rfl⟩;have lr:r.size=n - k + d:=by
      have:=pr.length_eq
      rwa [xaj,xai,xai,xai,szx,szy]at this
    have ee:((arrOf st).extract (o + k) p).toList ++ ((arrOf st).extract p (p + d)).toList=((arrOf st).extract (o + k) (o + k + r.size)).toList:=by
      rw[show o + k + r.size=p + d by lia];simp only[xbO,xbs];rw[show p + d - p=d by lia,show p + d - (o + k)=(p - (o + k)) + d by lia,List.take_add,xd7,show o + k + (p - (o + k))=p by lia]
    rw[ee]at pr;have la:o + k + r.size<=(arrOf st).size:=by lia
    have lv:∀j,vv rk (lay (o + k) r (arrOf st)) j=if o + k<=j/\j<o + k + r.size then vv rk r (j - (o + k)) else vv rk (arrOf st) j:=fun j=>by
      have h:=Nr (m:=r) (a:=arrOf st) la j;split at h
      · rename_i c;rw[xac c];exact vp h
      · rename_i c;rw[xae c];exact vp h
    have bd:∀j,j<r.size->vv rk (arrOf st) p<=vv rk r j/\vv rk r j<=vv rk (arrOf st) (p - 1):=fun j hj=>by
      have hmem:r[j]∈((arrOf st).extract (o + k) (o + k + r.size)).toList:=pr.mem_iff.mp (xa7.mpr (xaL hj));obtain⟨j',j1,j2,j3,j4,_⟩:=yV (rk:=rk) (xa7.mp hmem);rw[dH hj,j4]
      by_cases c:j'<p
      · exact⟨xa5 (hk3 j' j1 c),u1 _ _ (by lia) (by lia) (by lia)⟩
      · exact⟨u2 _ _ (xad _) (by lia) (by lia),xa5 (hd2 j' (by lia) (by lia))⟩
    have ur:Up (vv rk r) 0 r.size:=JV sr;refine aL (wY (aL (mL (aR ?_))));show P (failedOf st).isNone _;rw[B.nf];refine q _ ⟨B.kd,rfl,(VF la pr).trans B.pm⟩ rfl ?_ ?_
    · intro a b h1 h2 h3;show vv rk (lay _ _ _) a<=vv rk (lay _ _ _) b;rw[lv,lv];have lo:∀a,o<=a->a<o + k->vv rk (arrOf st) a<=vv rk (arrOf st) p:=fun a h1 h2=>by
        have:=k2 (a - o) (by lia);rw[show o + (a - o)=a by lia]at this;lia
      have hi:∀b,p + d<=b->b<p + m->vv rk (arrOf st) (p - 1)<=vv rk (arrOf st) b:=fun b h1 h2=>by
        have:=d3 (b - p) (by lia) (by lia)
        rwa [show p + (b - p)=b by lia]at this
      have mid:=hk3 (p - 1) (by lia) (by lia)
      split
      · split
        · exact ur _ _ (by lia) (by lia) (by lia)
        · exact xaq (bd _ (by lia)).2 (hi b (by lia) (by lia))
      · split
        · exact xaq (lo a h1 (by lia)) (bd _ (by lia)).1
        · by_cases c:a<o + k
          · by_cases c':b<o + k
            · exact u1 a b h1 h2 (by lia)
            · exact xaq (lo a h1 c) (xaq (xa5 mid) (hi b (by lia) (by lia)))
          · exact u2 a b (by lia) h2 (by lia)
    · intro j hj;show vv rk (lay _ _ _) j=_;rw[lv,xae (by lia)]
  split
  · exact aL (mrg yS (.inl rfl) rest)
  · exact aL (mrg yR (.inr rfl) rest)
variable {prog:Program}{w:World}{A:Around}{E:Value->Shared->Prop}{R:Shared->Prop}{α β:Type}{κ:SortKind}{a₀:Array Keyed}{rk:Rk}
noncomputable def Rs (v:Nat->Nat):List (Nat×Nat×Nat)->Nat->Nat->Prop
 | [],i,j=>i=j
 |(o,n,_)::l,i,j=>o=i/\1<=n/\Up v i (i + n)/\Rs v l (i + n) j
theorem Rs.le {v:Nat->Nat}:∀{l:List (Nat×Nat×Nat)} {i j:Nat},Rs v l i j->i + l.length<=j
  | [],i,j,h=>xdh h
  |(o,n,_)::l,i,j,h=>by
    have:=Rs.le h.2.2.2;have:=h.2.1;rw[xay];lia
theorem Rs.app {v:Nat->Nat}:∀{l:List (Nat×Nat×Nat)} {l':List (Nat×Nat×Nat)} {i j:Nat},Rs v (l ++ l') i j->∃k,Rs v l i k/\Rs v l' k j
  | [],l',i,j,h=>⟨i,rfl,h⟩
  |(o,n,_)::l,l',i,j,h=>by
    obtain⟨k,a,b⟩:=Rs.app (l:=l) h.2.2.2;exact⟨k,⟨h.1,h.2.1,h.2.2.1,a⟩,b⟩
theorem Rs.join {v:Nat->Nat}:∀{l:List (Nat×Nat×Nat)} {l':List (Nat×Nat×Nat)} {i j k:Nat},Rs v l i k->Rs v l' k j->Rs v (l ++ l') i j
 | [],l',i,j,k,a,b=>by cases (show i=k from a);exact b
 |(o,n,_)::l,l',i,j,k,a,b=>⟨a.1,a.2.1,a.2.2.1,Rs.join a.2.2.2 b⟩
theorem Rs.same {v v':Nat->Nat}:∀{l:List (Nat×Nat×Nat)} {i j:Nat},Rs v l i j->(∀k,i<=k->k<j->v' k=v k)->Rs v' l i j
  | [],i,j,h,e=>h
  |(o,n,_)::l,i,j,h,e=>by
    have:=h.2.2.2.le;refine⟨h.1,h.2.1,fun a b h1 h2 h3=>?_,Rs.same h.2.2.2 fun k k1 k2=>e k (by lia) k2⟩;rw[e a h1 (by lia),e b (by lia) (by lia)];exact h.2.2.1 a b h1 h2 h3
theorem Rs.up {v:Nat->Nat}{l:List (Nat×Nat×Nat)}{i j:Nat}(h:Rs v l i j)(h1:l.length<=1):Up v i j:=by
 match l,h,h1 with
 | [],h,_=>cases (show i=j from h);exact fun a b h1 h2 h3=>by lia
 | [(o,n,_)],h,_=>cases (show i + n=j from h.2.2.2);exact h.2.2.1
theorem Rs.power {v:Nat->Nat}{w:Nat}:∀{l:List (Nat×Nat×Nat)} {i j:Nat} (k:Nat),Rs v l i j->Rs v (l.modify k fun z=>(z.1,z.2.1,w)) i j
 | [],i,j,k,h=>by rw[List.modify_nil];exact h
 |(o,n,_)::l,i,j,0,h=>by rw[List.modify_zero_cons];exact h
 |(o,n,_)::l,i,j,k + 1,h=>by rw[List.modify_succ_cons];exact⟨h.1,h.2.1,h.2.2.1,Rs.power k h.2.2.2⟩
structure Sr (κ:SortKind)(a₀:Array Keyed)(rk:Rk)(lo:Nat)(st:SortSt):Prop where
 b:Bs κ a₀ st
 r:Rs (vv rk (arrOf st)) (pendingOf st).toList 0 lo
theorem Oq {st:SortSt}{lo i:Nat}(C:mq prog w A R κ a₀ rk)(S:Sr κ a₀ rk lo st)(hl:lo<=a₀.size)(hi:i + 1<(pendingOf st).size){P:Bool->SortSt->Prop}
  (q:∀st',Sr κ a₀ rk lo st'->(pendingOf st').size + 1=(pendingOf st).size->(∀k,lo<=k->vv rk (arrOf st') k=vv rk (arrOf st) k)->P true st'):Ok prog w A E R (mergeAt' i) st P:=by
 have ht:=S.r;have e0:(pendingOf st).toList=(pendingOf st).toList.take i ++ (pendingOf st).toList.drop i:=(xcq ..).symm;rw[xaO (by simp;lia),xaO (by simp;lia)]at e0;rcases h1:(pendingOf st).toList[i]'(by simp;lia) with⟨o,n,x⟩;rcases h2:(pendingOf st).toList[i + 1]'(by simp;lia) with⟨p,m,y⟩;rw[h1,h2]at e0;have g1:(pendingOf st)[i]? =some (o,n,x):=by rw[<-xaV,xah (by simp;lia),h1]
 have g2:(pendingOf st)[i + 1]? =some (p,m,y):=by rw[<-xaV,xah (by simp;lia),h2]
 generalize hL:(pendingOf st).toList.take i=L at e0;generalize hM:(pendingOf st).toList.drop (i + 1 + 1)=M at e0;have lL:L.length=i:=by rw[<-hL,xbl,xai];lia
 rw[e0]at ht;obtain⟨k,r1,r2⟩:=ht.app;obtain⟨rfl,n1,u1,rfl,m1,u2,r3⟩:=r2;have l3:=r3.le;refine Xd C S.b g1 g2 rfl n1 m1 (by lia) u1 u2 fun st' B' hp' u' f'=>q st' ⟨B',?_⟩ ?_ fun j hj=>f' j (.inr (by lia))
 ·rw[hp'];rw[xdd,xdH,e0,xb0 _ _ (by lia),lL,xbN,xbZ,List.eraseIdx_append_of_length_le (by lia),lL,show i + 1 - i=1 by lia];refine(r1.same fun j _ j2=>f' j (.inl j2)).join ?_;refine⟨rfl,by lia,by rw[<-Nat.add_assoc];exact u',?_⟩;rw[<-Nat.add_assoc];exact r3.same fun j j1 _=>f' j (.inr j1)
 ·rw[hp', <-xai, <-xai,xdd,List.length_eraseIdx_of_lt (by simpa using hi),xdH,xaU,xai];lia
theorem Xf {a:Array Keyed}(C:mq prog w A R κ a rk){P:Unit->SortSt->Prop}(q:∀st',(arrOf st').Perm a->failedOf st'=none->Up (vv rk (arrOf st')) 0 a.size->P () st'):
    Ok prog w A E R sortRuns' (SortSt.mk' κ a #[] 7 none) P:=by
  rw[sortRuns'_eq];refine aL (mL ?_);show Ok prog w A E R _ _ _
  extract_lets size minrun lo0
  have es:size=a.size:=rfl
  clear_value size minrun
  subst es;refine aL (Ok.mono (P:=fun c st=>c=(none,a.size)/\Sr κ a rk a.size st) (fV (fun x c st=>∃lo,c=(none,lo)/\lo<=a.size/\(lo=a.size\/x<=lo)/\Sr κ a rk lo st) ⟨0,rfl,by lia,by lia,⟨rfl,rfl,Array.Perm.refl _⟩,rfl⟩ ?_ ?_) ?_)
  · rintro x c st x1 x2 ⟨lo,rfl,hl,hx,S⟩
    extract_lets lo' jp
    have el:lo'=lo:=rfl
    clear_value lo'
    subst el
    by_cases c1:lo' >=a.size
    · rw[xac c1];obtain rfl:lo'=a.size:=by lia
      exact aR ⟨rfl,S⟩
    rw[xae c1]
    suffices hjp:∀n st,1<=n->lo' + n<=a.size->Sr κ a rk lo' st->Up (vv rk (arrOf st)) lo' (lo' + n)->Ok prog w A E R (jp () n) st _ by
      refine aL (Xa C (show lo' + (a.size - lo')<=a.size by lia) (by lia) S.b fun m st' m1 m2 B' u' f'=>?_);have S':Sr κ a rk lo' st':=⟨B',by rw[f'.p];exact S.r.same fun k _ k2=>f'.v k k2⟩;show Ok prog w A E R (if m<minrun then _ else jp () m) _ _
      by_cases c3:m<minrun
      · rw[xac c3];refine aL (wZ (aL (W_ C (show lo' + min (a.size - lo') minrun<=a.size by lia) m1 (by lia) B' u' fun st2 B2 u2 f2=>?_)));rw[xae (by simp)];exact hjp _ _ (by lia) (by lia) ⟨B2,by rw[f2.p];exact S'.r.same fun k _ k2=>f2.v k k2⟩ u2
      · rw[xae c3];exact hjp m st' m1 (by lia) S' u'
    intro n st n1 n2 S u;have push:∀st:SortSt,Sr κ a rk lo' st->Up (vv rk (arrOf st)) lo' (lo' + n)->Sr κ a rk (lo' + n) (setPending st ((pendingOf st).push (lo',n,0))):=fun st S u=>by
      refine⟨⟨S.b.kd,S.b.nf,S.b.pm⟩,?_⟩;show Rs _ ((pendingOf st).push (lo',n,0)).toList 0 _;rw[xa6];exact S.r.join ⟨rfl,n1,u,rfl⟩
    refine aL (mL ?_)
    extract_lets l1 jp2
    suffices hjp2:∀st,Sr κ a rk lo' st->Up (vv rk (arrOf st)) lo' (lo' + n)->Ok prog w A E R (jp2 ()) st _ by
      split
      · rename_i s1 n1' w1 _
        extract_lets pw
        refine aL (Ok.mono (P:=fun c st=>c=(none,())/\Sr κ a rk lo' st/\Up (vv rk (arrOf st)) lo' (lo' + n)) (fV (fun _ c st=>c=(none,())/\Sr κ a rk lo' st/\Up (vv rk (arrOf st)) lo' (lo' + n)) ⟨rfl,S,u⟩ ?_ fun _ _ h=>h) ?_)
        · rintro y c st y1 y2 ⟨rfl,S,u⟩;refine aL (mL ?_)
          extract_lets pp
          by_cases c2:pp.size > 1
          · have e2:(if pp.size > 1 then pp[pp.size - 2]? else none)=some pp[pp.size - 2]:=by rw[xac c2,xb6]
            rw[e2]
            split
            · split
              · exact aR ⟨rfl,S,u⟩
              · refine aL (Oq C S hl (show pp.size - 2 + 1<pp.size by lia) fun st' S' _ f'=>?_);rw[xae (by simp)];refine aR ⟨rfl,S',fun i j h1 h2 h3=>?_⟩;rw[f' i h1,f' j (by lia)];exact u i j h1 h2 h3
            · exact aR ⟨rfl,S,u⟩
          · rw[xae c2];exact aR ⟨rfl,S,u⟩
        · rintro c st ⟨rfl,S,u⟩;refine aL (wY (hjp2 _ ⟨⟨S.b.kd,S.b.nf,S.b.pm⟩,?_⟩ u));show Rs _ ((pendingOf st).modify _ _).toList 0 _;rw[Array.toList_modify, <-xai];exact S.r.power _
      · exact hjp2 st S u
    exact fun st S u=>aL (wY (aR ⟨lo' + n,rfl,n2,by lia,push st S u⟩))
  · rintro c st ⟨lo,rfl,hl,hx,S⟩;have e:lo=a.size:=by lia
    subst e;exact⟨rfl,S⟩
  · rintro c st ⟨rfl,S⟩;dsimp only;have h0:=S.r.le;rw[xai]at h0;refine aL (Ok.mono (P:=fun c st=>c=(none,())/\Sr κ a rk a.size st/\(pendingOf st).size<=1) (fV (fun x c st=>c=(none,())/\Sr κ a rk a.size st/\((pendingOf st).size<=1\/x + (pendingOf st).size<=a.size)) ⟨rfl,S,by lia⟩ ?_ ?_) ?_)
    · rintro x c st x1 x2 ⟨rfl,S,hx⟩;refine aL (mL ?_)
      by_cases c1:(pendingOf st).size<=1
      · rw[xac c1];exact aR ⟨rfl,S,c1⟩
      rw[xae c1];refine aL (Oq C S (xad _) (by(repeat' split)<;>lia) fun st' S' hs _=>?_)
      rw[xae (by simp)];exact aR ⟨rfl,S',.inr (by lia)⟩
    · rintro c st ⟨rfl,S,hx⟩;refine⟨rfl,S,?_⟩;have:=S.r.le;rw[xai]at this;lia
    · rintro c st ⟨rfl,S,h1⟩;exact aR (q st S.b.pm S.b.nf (S.r.up (by simpa using h1)))
end TS
namespace E3
open PySem PySem.Spec PyProof.Rows L2 PySem.W
theorem TY {a b:Str}(h:a.cps.toList=b.cps.toList):a=b:=PySem.Str.ext' (xc8.mp h)
noncomputable def lo:D->D->Prop
 |.int i,.int j=>i<j
 |.str a,.str b=>a.cps.toList<b.cps.toList
 |_,_=>False
noncomputable def fl:D->Bool
 |.int _=>true
 |.str _=>true
 |_=>false
theorem Bx {a:D}(h:lo a a):False:=by
 cases a<;>first |exact h |exact absurd h (Int.lt_irrefl _) |exact xcr _ h
theorem Ny {a b c:D}(h:lo a b)(g:lo b c):lo a c:=by
 cases a<;>cases b<;>(try exact h.elim)<;>cases c<;>(try exact g.elim)
 ·exact Int.lt_trans h g
 ·exact xc4 h g
theorem tV {a b:D}{x y:List D}{c:Bool}(h:bG (a::x) (b::y)=some c):(a=b/\fl a=true/\bG x y=some c)\/(lo a b/\c=true)\/(lo b a/\c=false):=by
 cases a<;>cases b<;>(try cases h)
 ·rename_i i j;simp only[bG]at h
  by_cases e:i=j
  ·rw[xac e]at h;exact .inl ⟨by rw[e],rfl,h⟩
  ·rw[xae e]at h
   by_cases g:i<j
   ·rw[xaW g]at h;exact .inr (.inl ⟨g,(xaD h).symm⟩)
   ·rw[xaI g]at h;exact .inr (.inr ⟨show j<i by lia,(xaD h).symm⟩)
 ·rename_i i j;simp only[bG]at h
  by_cases e:i=j
  ·rw[xac e]at h;exact .inl ⟨by rw[e],rfl,h⟩
  ·rw[xae e]at h
   by_cases g:i.cps.toList<j.cps.toList
   ·rw[xaW g]at h;exact .inr (.inl ⟨g,(xaD h).symm⟩)
   ·rw[xaI g]at h;refine .inr (.inr ⟨?_,(xaD h).symm⟩);show j.cps.toList<i.cps.toList
    by_cases k:j.cps.toList<i.cps.toList
    ·exact k
    ·exact absurd (TY (List.le_antisymm (xd1.mp k) (xd1.mp g))) e
theorem BK {a b:D}{x y:List D}(h:lo a b):bG (a::x) (b::y)=some true:=by
 cases a<;>cases b<;>(try exact h.elim)
 ·rename_i i j;have h:i<j:=h;simp only[bG];rw[xae (by lia),xaW h]
 ·rename_i i j;have h:i.cps.toList<j.cps.toList:=h;simp only[bG];rw[xae (fun e=>xcr _ (e ▸ h)),xaW h]
theorem G6 {a b:D}{x y:List D}(h:lo b a):bG (a::x) (b::y)=some false:=by
 cases a<;>cases b<;>(try exact h.elim)
 ·rename_i i j;have h:j<i:=h;simp only[bG];rw[xae (by lia),xaI (by lia)]
 ·rename_i i j;have h:j.cps.toList<i.cps.toList:=h;simp only[bG];rw[xae (fun e=>xcr _ (e ▸ h)),xaI fun g=>xcr _ (xc4 h g)]
theorem lt_eq {a:D}{x y:List D}(h:fl a=true):bG (a::x) (a::y)=bG x y:=by
 cases a<;>(try cases h)<;>simp only[bG,xbi]
theorem G7 {x:D}{xs:List D}{c:Bool}:bG (x::xs) []=some c->False:=by cases x<;>exact fun h=>nomatch h
theorem N5 {x:D}{xs:List D}{c:Bool}:bG [] (x::xs)=some c->False:=fun h=>nomatch h
theorem NZ:∀{x:List D} {b:Bool},bG x x=some b->b=false
  | [],b,h=>(xaD h).symm
  |a::x,b,h=>by
    rcases tV h with⟨_,_,h⟩ |⟨h,_⟩ |⟨h,_⟩
    · exact NZ h
    · exact(Bx h).elim
    · exact(Bx h).elim
theorem G5:∀{x y z:List D} {b:Bool},bG x y=some b->bG y z=some b->bG x z=some b
  | [],[],z,b,_,g=>g
  | [],_::_,_,_,h,_=>(N5 h).elim
  |_::_,[],_,_,h,_=>(G7 h).elim
  |_::_,_::_,[],_,_,g=>(G7 g).elim
  |a::x,c::y,d::z,b,h,g=>by
    rcases tV h with⟨rfl,f,h'⟩ |⟨h',rfl⟩ |⟨h',rfl⟩
    · rcases tV g with⟨rfl,_,g'⟩ |⟨g',rfl⟩ |⟨g',rfl⟩
      · rw[lt_eq f];exact G5 h' g'
      · exact BK g'
      · exact G6 g'
    · rcases tV g with⟨rfl,_,_⟩ |⟨g',_⟩ |⟨_,e⟩
      · exact BK h'
      · exact BK (Ny h' g')
      · cases e
    · rcases tV g with⟨rfl,_,_⟩ |⟨_,e⟩ |⟨g',_⟩
      · exact G6 h'
      · cases e
      · exact G6 (Ny g' h')
theorem NT:∀{x y:List D},bG x y=some false->bG y x=some false->x=y
  | [],[],_,_=>rfl
  | [],_::_,h,_=>(N5 h).elim
  |_::_,[],h,_=>(G7 h).elim
  |a::x,c::y,h,g=>by
    rcases tV h with⟨rfl,f,h⟩ |⟨_,e⟩ |⟨h,_⟩
    · rw[lt_eq f]at g;rw[NT h g]
    · cases e
    · rw[BK h]at g;cases g
noncomputable def zM (T:List (List D)) (x:List D):Nat:=T.countP fun y=>bG y x==some true
theorem K4 {α:Type}{p q:α->Bool}:∀{l:List α} {x:α},(∀z∈l,p z=true->q z=true)->x∈l->q x=true->p x=false->l.countP p<l.countP q
  |y::l,x,h,hx,h1,h2=>by
    rw[List.countP_cons,List.countP_cons];have mo:l.countP p<=l.countP q:=xd9 fun z hz=>h z (xal _ hz);rcases xar.mp hx with rfl |hx
    · rw[h1,h2];simp only[xbi,xaM,xbb];lia
    · have ih:=K4 (fun z hz=>h z (xal _ hz)) hx h1 h2;have:=h y xau
      by_cases e:p y=true
      · rw[e,this e];lia
      · rw[xae e];lia
theorem IW {T:List (List D)}(cm:∀x∈T,∀y∈T,∃b,bG x y=some b){x y:List D}(hx:x∈T)(hy:y∈T){b:Bool}(h:bG x y=some b):b=decide (zM T x<zM T y):=by
  cases b with
  |true=>
    refine(xaW (K4 (x:=x) (fun z _ hz=>?_) hx (by rw[h];rfl) ?_)).symm
    · rw[G5 (eq_of_beq hz) h];rfl
    · obtain⟨c,e⟩:=cm x hx x hx;rw[e,NZ e];rfl
  |false=>
    refine(xaI (xeD.mpr (xd9 fun z hz h1=>?_))).symm;obtain⟨c,e⟩:=cm z hz x hx
    cases c with
    |true=>rw[e];rfl
    |false=>
      have:=G5 e h;rw[eq_of_beq h1]at this;cases this
noncomputable def fD:Value->D
 |.int z _=>.int z
 |.str x _=>.str x
 |_=>.non
noncomputable def tD (h:Heap):Value->List D
  | .ref a => (match h.get? a with
    | some o => (match o.data with
      |.seq its _=>its.toList.map fD
      |_=>[])
    |none=>[])
  |_=>[]
section
variable {prog:Program}{w:World}{A:Around}{E:Value->Shared->Prop}{s:Shared}
theorem zaJ {a:Addr}{n:Nat}{vs:List Value}{κ:SortKind}{rv:Value->Nat}{P:PySem.Fin->Shared->Prop}(ho:s.heap.get? a=some (seqObj "list" vs.toArray n))(h2:2<=vs.length)(hz:vs.length<=sizeLine)
  (hk:∀(h':Heap) (Q':SortKind->Shared->Prop),gG a s.heap h'->Q' κ {s with heap:=h'}->wpAny (model prog w) A (keyKind' vs.toArray) Q' (fun _ _=>False) {s with heap:=h'})
  (hc:∀(h':Heap),gG a s.heap h'->∀u∈vs,∀u'∈vs,∀tk C,(∀tk,C (decide (rv u<rv u')) {s with heap:=h',toks:=tk})->wpAny (model prog w) A (keyLt' κ u u') C (fun _ _=>False) {s with heap:=h',toks:=tk})
  (q:∀(h':Heap) tk c (us:List Value),us.Perm vs->us.Pairwise (fun u u'=>rv u<=rv u')->gG a s.heap h'->h'.get? a=some (seqObj "list" us.toArray c)->P (.done (.ret .none)) {s with heap:=h',toks:=tk}):
  wpAny (model prog w) A (Builtin.«list.sort» ⟨[.ref a],[]⟩) P E s:=by
 have st:=N_ s.heap a vs;obtain⟨e1,z1⟩:∃e1,(s.heap.update a (Obj.mapSeq fun _=>(#[]:Array Value))).get? a=some (seqObj "list" #[] e1):=⟨_,xdm ho fun _=> #[]⟩;have z2:(gj s.heap a vs).get? a=some (seqObj "list" #[] e1):=xag _ (xag _ z1);rw[list_sort_plain];refine xaa (listItems_at ho rfl (xaa (xdG ho rfl (xaa (seqEpoch_at z1 rfl (xaa (xd6 (xaa (xc3 (xbh ?_) (xaS _))) hz)))) (by simpa using hz) (xaS _))));show wpAny (model prog w) A _ P E {s with heap:=gj s.heap a vs};dsimp only;have two:¬ vs.toArray.size<2:=by simpa using h2
 rw[xae two,xae two];generalize gj s.heap a vs=h1 at st z2 ⊢;have kind:=hk h1 (fun κ' s'=>κ'=κ/\s'={s with heap:=h1}) st ⟨rfl,rfl⟩;refine xaa (xbd kind (fun κ' s0 z=>?_) fun _ _ x=>x.elim);obtain⟨rfl,rfl⟩:=z;have mz:∀x∈vs.toArray.zip vs.toArray,x.1=x.2/\x.1∈vs:=fun x hx=>by
  have hx:x∈vs.zip vs:=by simpa using xa7.mpr hx
  obtain⟨i,hi,e⟩:=xcg hx;rw[List.getElem_zip]at e;subst e;exact⟨rfl,xbv _⟩
 have run := TS.Xf (prog := prog) (w := w) (A := A) (E := E) (R := fun s' => ∃ tk, s' = { s with heap := h1, toks := tk }) (κ := κ') (a := vs.toArray.zip vs.toArray) (rk := fun x => rv x.1) (fun x y hx hy s' r=>by
  obtain⟨tk,rfl⟩:=r;exact hc h1 st _ (mz x hx).2 _ (mz y hy).2 tk _ fun tk'=>⟨⟨tk',rfl⟩,rfl⟩) (P:=fun _ st'=>(arrOf st').Perm (vs.toArray.zip vs.toArray)/\failedOf st'=none/\TS.Up (TS.vv (fun x=>rv x.1) (arrOf st')) 0 (vs.toArray.zip vs.toArray).size) (fun st' a b c=>⟨a,b,c⟩) {s with heap:=h1} ⟨s.toks,rfl⟩
 refine xaa (xbd run ?_ fun _ _ e=>e);rintro⟨⟨⟩,st'⟩ s' ⟨⟨tk,rfl⟩,hp,hf,hu⟩;dsimp only;have hp2:((arrOf st').toList.map (·.2)).Perm vs:=by
  have e:((vs.toArray.zip vs.toArray).toList.map (·.2))=vs:=by rw[Array.toList_zip];exact List.map_snd_zip (xad _)
  exact((Array.Perm.toList hp).map _).trans (List.Perm.of_eq e)
 have dg:∀x∈(arrOf st').toList,x.1=x.2:=fun x hx=>(mz x (hp.mem_iff.mp (xa7.mp hx))).1;have sz:(vs.toArray.zip vs.toArray).size=(arrOf st').size:=hp.size_eq.symm;have hs2:((arrOf st').toList.map (·.2)).Pairwise fun u u'=>rv u<=rv u':=by
  rw[xcS,xcC];intro i j hi hj hij;rw[xai]at hi hj;have:=hu i j (xaS _) (by lia) (by lia);rw[TS.dH hi,TS.dH hj]at this;rw[<-dg _ (xbv _), <-dg _ (xbv _)];exact this
 have ea:(arrOf st').map (·.2)=((arrOf st').toList.map (·.2)).toArray:=by
  apply xc8.mp;rw[Array.toList_map]
 rw[ea];generalize (arrOf st').toList.map (·.2)=us at hp2 hs2;have hl:=hp2.length_eq;obtain⟨c2,z3⟩:∃c2,(h1.update a (Obj.mapSeq fun _=>us.toArray)).get? a=some (seqObj "list" us.toArray c2):=⟨_,xdm z2 fun _=>us.toArray⟩;refine xaa (seqEpoch_at z2 rfl (xaa (xdG z2 rfl ?_ (xaS _) (by rw[xam,hl];exact xcR hz))));rw[hf];simp only[xey,xaM,xbb];exact xab (q _ tk c2 us hp2 hs2 (fun b o nb e=>gG.upd h1 a _ b o nb (st b o nb e)) z3)
theorem zan {r:Value}{vs:List Value}{κ:SortKind}{rv:Value->Nat}{Q:Value->Shared->Prop}(hl:Coll prog w A s r vs)(h2:2<=vs.length)(hz:vs.length<=sizeLine)
  (hk:∀(h':Heap) tk (Q':SortKind->Shared->Prop),Grows s.heap h'->Q' κ {s with heap:=h',toks:=tk}->wpAny (model prog w) A.in1.in1 (keyKind' vs.toArray) Q' (fun _ _=>False) {s with heap:=h',toks:=tk})
  (hc:∀(h':Heap),Grows s.heap h'->∀u∈vs,∀u'∈vs,∀tk C,(∀tk,C (decide (rv u<rv u')) {s with heap:=h',toks:=tk})->wpAny (model prog w) A.in1.in1 (keyLt' κ u u') C (fun _ _=>False) {s with heap:=h',toks:=tk})
  (q:∀(h':Heap) tk c a (us:List Value),us.Perm vs->us.Pairwise (fun u u'=>rv u<=rv u')->Grows s.heap h'->s.heap.objs.size<=a->h'.get? a=some (seqObj "list" us.toArray c)->Q (.ref a) {s with heap:=h',toks:=tk}):
  wpAny (model prog w) A (call (.builtin "sorted") [r]) Q E s:=by
 refine xcB kind_sorted plain_sorted entry_sorted (args_sorted1 _) ?_;unfold Builtin.«sorted»;refine xaa (m:=checkCount "sorted" 1 1 _) (xab (xaa (hl _ _ fun h1 t1 g z=>xaa (xc3 ?_ hz))));have at0:(h1.push (seqObj "list" vs.toArray 0)).get? h1.objs.size=some (seqObj "list" vs.toArray 0):=xav _ rfl;have up:∀h',gG h1.objs.size (h1.push (seqObj "list" vs.toArray 0)) h'->Grows s.heap h':=fun h' st b o e=>st b o (xaC (xan (g b o e))) (xag _ (g b o e));refine xaa (xbh (xbE slot_list_sort ⟨_,at0,rfl⟩ entry_list_sort (zaJ (s:={s with heap:=h1.push (seqObj "list" vs.toArray 0),toks:=t1}) at0 h2 hz (fun h' Q' st=>hk h' t1 Q' (up h' st)) (fun h' st=>hc h' (up h' st)) fun h' tk c us hp hs st e=>?_) (args_list_sort _)));exact⟨_,rfl,xab ⟨_,rfl,q h' tk c _ us hp hs (up h' st) z e⟩⟩
end
noncomputable def tupS:D->Bool
 |.tup (.str _::_)=>true
 |_=>false
noncomputable def rm:D->D->Prop
 |.tup x,.tup y=>bG y x=some false
 |_,_=>False
def gR (ds:List D):Prop:=(ds.all tupI=true\/ds.all tupS=true)/\∀xs ys,.tup xs∈ds->.tup ys∈ds->∃b,bG xs ys=some b
theorem G4 {a b:D}(h:rm a b)(g:rm b a):a=b:=by
 cases a<;>(try exact h.elim)<;>cases b<;>(try exact h.elim)
 rw[NT g h]
theorem gR.tup {ds:List D}(h:gR ds):∀d∈ds,∃xs,d=.tup xs:=fun d hd=>by
 rcases h.1 with h |h<;>have:=xbm.mp h d hd<;>cases d<;>first |exact⟨_,rfl⟩ |(cases this)
theorem gR.perm {ds es:List D}(h:gR ds)(p:es.Perm ds):gR es:=by
 refine⟨h.1.imp (fun z=>xbm.mpr fun d hd=>xbm.mp z d (p.mem_iff.mp hd)) (fun z=>xbm.mpr fun d hd=>xbm.mp z d (p.mem_iff.mp hd)),fun xs ys hx hy=>h.2 xs ys (p.mem_iff.mp hx) (p.mem_iff.mp hy)⟩
theorem Ly:∀{x:List D} {b:Bool},bG x x=some b->∀d∈x,fl d=true
  | [],_,_=>fun d hd=>nomatch hd
  |a::x,b,h=>by
    rcases tV h with⟨_,f,h'⟩ |⟨h',_⟩ |⟨h',_⟩
    · intro d hd;rcases xar.mp hd with rfl |hd
      · exact f
      · exact Ly h' d hd
    · exact(Bx h').elim
    · exact(Bx h').elim
section
variable {X:Cx}{Wx:XW}{pins:Pnx}{σ:L2.St}{H:Hp}{s:Shared}
theorem Li {K:Fgx}{P:Pl}{H:Hp}:∀{xs:List D} {vs:List V} {us:List Value},(∀d∈xs,fl d=true)->aC K P H xs vs->Vals vs us->us.map fD=xs
  | [],vs,us,_,i,r=>by
    rw[show vs=[] from i]at r;cases r;rfl
  |d::xs,vs,us,hf,i,r=>by
    obtain⟨v,vr,rfl,p,i⟩:=i
    cases r with
    |cons a r=>
      have f:=hf d xau;rw[xaP,Li (fun e he=>hf e (xal _ he)) i r];congr 1;cases d<;>(try cases f)
      · cases p;obtain⟨t,rfl⟩:=a;rfl
      · cases p;obtain⟨t,rfl⟩:=a;rfl
theorem zcY {P:Pl}(I:Inv X pins σ H s){h':Heap}(g:Grows s.heap h'){xs:List D}{v:V}{u:Value}(i:Is X.K P H (.tup xs) v)(r:RelV v u){b:Bool}(hb:bG xs xs=some b):tD h' u=xs:=by
 obtain⟨a,o,its,n,ws,rfl,e1,e2,e3,is,rv⟩:=DY I g i r;unfold tD;dsimp only;rw[e1];dsimp only;rw[e3];exact Li (Ly hb) is rv
theorem Jx {P:Pl}(I:Inv X pins σ H s){h':Heap}(g:Grows s.heap h'):∀{ds:List D} {vs:List V} {us:List Value},(∀d∈ds,∃xs b,d=.tup xs/\bG xs xs=some b)->aC X.K P H ds vs->Vals vs us->ds=us.map fun u=>.tup (tD h' u)
  | [],vs,us,_,i,r=>by
    rw[show vs=[] from i]at r;cases r;rfl
  |d::ds,vs,us,hf,i,r=>by
    obtain⟨v,vr,rfl,p,i⟩:=i
    cases r with
    |cons a r=>
      obtain⟨xs,b,rfl,hb⟩:=hf d xau;rw[xaP, <-Jx I g (fun e he=>hf e (xal _ he)) i r,zcY I g p a hb]
theorem Yn {K:Fgx}{P:Pl}{H:Hp}{us us':List Value}(p:us'.Perm us):∀{ds:List D} {vs:List V},aC K P H ds vs->Vals vs us->∃ds' vs',ds'.Perm ds/\aC K P H ds' vs'/\Vals vs' us':=by
  induction p with
  |nil=>exact fun {ds vs} i r=>⟨ds,vs,List.Perm.refl _,i,r⟩
  |cons x p ih=>
    intro ds vs i r
    cases r with
    |cons a r=>
      cases ds with
      |nil=>cases i
      |cons d ds=>
        obtain⟨v,vr,e,p,i⟩:=i;cases e;obtain⟨ds',vs',p',i',r'⟩:=ih i r;exact⟨d::ds',_::vs',p'.cons d,⟨_,_,rfl,p,i'⟩,.cons a r'⟩
  |swap x y l=>
    intro ds vs i r
    cases r with
    |cons a r=>
      cases r with
      |cons b r=>
        cases ds with
        |nil=>cases i
        |cons d ds=>
          obtain⟨v,vr,e,p,i⟩:=i;cases e
          cases ds with
          |nil=>cases i
          |cons d2 ds=>
            obtain⟨v2,vr2,e,p2,i⟩:=i;cases e;exact⟨d2::d::ds,_,List.Perm.swap _ _ _,⟨_,_,rfl,p2,_,_,rfl,p,i⟩,.cons b (.cons a r)⟩
  |trans p1 p2 ih1 ih2=>
    intro ds vs i r;obtain⟨ds',vs',p',i',r'⟩:=ih2 i r;obtain⟨ds2,vs2,p3,i3,r3⟩:=ih1 i' r';exact⟨ds2,vs2,p3.trans p',i3,r3⟩
theorem Rq {P:Pl}(I:Inv X pins σ H s){h':Heap}(g:Grows s.heap h'):∀(ds:List D) (vs:List V) (us:List Value),ds.all tupS=true->aC X.K P H ds vs->Vals vs us->∃fs,KatTups h' us fs/\fs.length=us.length/\∀f∈fs,∃i t,f=Value.str i t
  | [],vs,us,_,i,r=>by
    rw[show vs=[] from i]at r;cases r;exact⟨[],KatTups.nil,rfl,fun f h=>nomatch h⟩
  |d::ds,vs,us,hd,i,r=>by
    obtain⟨v,vr,rfl,p,i⟩:=i;rw[xb2,xaF]at hd
    cases r with
    |cons a1 r=>
      obtain⟨fs,k,kl,kf⟩:=Rq I g ds _ _ hd.2 i r
      cases d with
      |tup xs=>
        cases xs with
        |nil=>cases (show false=true from hd.1)
        |cons x xs=>
          cases x with
          |str z=>
            obtain⟨a,o,its,n,ws,rfl,e1,e2,e3,is,rv⟩:=DY I g p a1;obtain⟨w,wr,rfl,pw,is⟩:=is;cases pw;obtain⟨its⟩:=its
            cases rv with
            |cons b1 rv=>
              obtain⟨t,rfl⟩:=b1;refine⟨.str z t::fs,KatTups.cons e1 e2 e3 rfl k,by simp[kl],fun f hf=>?_⟩;rcases xar.mp hf with rfl |hf
              · exact⟨z,t,rfl⟩
              · exact kf f hf
          |_=>cases (show false=true from hd.1)
      |_=>cases (show false=true from hd.1)
def Z0 (K:Fgx):List V->Hp->VK->Prop:=fun xs H Q=>∃(P:Pl) (a:Addr) (vs:List V) (ds:List D),xs=[.ref a]/\bI K H a vs/\aC K P H ds vs/\2<=ds.length/\gR ds/\
 ∀l es vs',es.Perm ds->es.Pairwise rm->aC K P H es vs'->H l=none->Q (.ref l) (upd H l (.lst vs'))
theorem zaQ {P:Pl}{vs:List V}{ds:List D}{its:List Value}{r:Value}{Q:VK}(I:Inv X pins σ H s)(cl:Coll X.prog X.w X.A s r its)(rv:Vals vs its)(hz:vs.length<=sizeLine)(is:aC X.K P H ds vs)(h2:2<=ds.length)(ok:gR ds)
  (q:∀l es vs',es.Perm ds->es.Pairwise rm->aC X.K P H es vs'->H l=none->Q (.ref l) (upd H l (.lst vs'))):wpAny (model X.prog X.w) X.A (call (.builtin "sorted") [r]) (EP X pins σ Q) X.xe s:=by
 have l1:its.length=ds.length:=by rw[<-rv.length,is.len]
 have fla:∀d∈ds,∃xs b,d=.tup xs/\bG xs xs=some b:=fun d hd=>by
  obtain⟨xs,rfl⟩:=ok.tup d hd;obtain⟨b,hb⟩:=ok.2 xs xs hd hd;exact⟨xs,b,rfl,hb⟩
 have g0:Grows s.heap s.heap:=fun _ _ e=>e;have e0:=Jx I g0 fla is rv;generalize hT:its.map (tD s.heap)=T;have inT:∀{u},u∈its->tD s.heap u∈T:=fun hu=>by rw[<-hT];exact xbT hu
 have ofT:∀x∈T,D.tup x∈ds:=fun x hx=>by
  rw[<-hT]at hx;obtain⟨u,hu,rfl⟩:=xaw.mp hx;rw[e0];exact xbT (f:=fun u=>D.tup (tD s.heap u)) hu
 have cm:∀x∈T,∀y∈T,∃b,bG x y=some b:=fun x hx y hy=>ok.2 x y (ofT x hx) (ofT y hy);have item:∀{h':Heap},Grows s.heap h'->∀u∈its,∃a o t n w,u=.ref a/\h'.get? a=some o/\o.data=.seq t n/\aC X.K P H (tD s.heap u) w/\Vals w t.toList:=fun {h'} g u hu=>by
  obtain⟨i,hi,rfl⟩:=xcg hu;have ed:ds[i]? =some (.tup (tD s.heap its[i])):=by rw[e0,xao,xah hi];rfl
  obtain⟨v,ev,iv⟩:=is.get ed;have rr:RelV v its[i]:=by
   have:=zaT rv i;rw[xdI,xdI,ev,xah hi]at this;exact this
  obtain⟨a1,o1,t1,n1,w1,e1,f1,f2,f3,f4,f5⟩:=DY I g iv rr;exact⟨a1,o1,t1,n1,w1,e1,f1,f3,f4,f5⟩
 refine zan (κ:=tuples' true) (rv:=fun u=>zM T (tD s.heap u)) cl (by lia) (by rw[<-rv.length];exact hz) (fun h' tk Q' g hq=>?_) (fun h' g u hu u' hu' tk C hC=>?_) fun h' tk c D' us hp hs g hD eD=>?_
 ·rcases ok.1 with ht |ht
  ·obtain ⟨fs, k, kl, kf⟩ := Rp I g ds vs its ht is rv;exact kat_kind (T := .type "int") k (by lia) (fun f hf=>by
    obtain⟨i,t,rfl⟩:=kf f hf;intro A Q E s _ q;exact xab q) (by x_go) hq
  ·obtain ⟨fs, k, kl, kf⟩ := Rq I g ds vs its ht is rv;exact kat_kind (T := .type "str") k (by lia) (fun f hf=>by
    obtain⟨i,t,rfl⟩:=kf f hf;intro A Q E s _ q;exact xab q) (by x_go) hq
 ·obtain⟨b,hb⟩:=cm _ (inT hu) _ (inT hu');have eb:=IW cm (inT hu) (inT hu') hb;obtain⟨a1,o1,t1,n1,w1,e1,f1,f3,f4,f5⟩:=item g u hu;obtain⟨a2,o2,t2,n2,w2,e2,g1,g3,g4,g5⟩:=item g u' hu';generalize tD s.heap u=x at hb eb f4 hC;generalize tD s.heap u'=y at hb eb g4 hC;rw[e1,e2];refine kat_lt (s:={s with heap:=h',toks:=tk}) f1 f3 g1 g3 (Nv (b:=b) (by rw[eb];exact hC tk) x y w1 w2 _ _ 0 f4 g4 f5 g5 hb fun z=>?_);simp only[xai]at z
  simp[z]
 ·obtain⟨es,vs',p',i',r'⟩:=Yn hp is rv;have ok':=ok.perm p';have e1:=Jx I g0 (fun d hd=>fla d (p'.mem_iff.mp hd)) i' r';have hsd:es.Pairwise rm:=by
   rw[e1,xcS];refine hs.imp_of_mem fun {u u'} hu hu' hle=>?_;have m1:=inT (hp.mem_iff.mp hu);have m2:=inT (hp.mem_iff.mp hu');obtain⟨b,hb⟩:=cm _ m2 _ m1;have eb:=IW cm m2 m1 hb;rw[xaI (xeD.mpr hle)]at eb;rw[eb]at hb;exact hb
  have hlen:vs'.length<=sizeLine:=by
   rw[i'.len,p'.length_eq, <-is.len];exact hz
  exact⟨.ref D',_,I.laid (o:=.lst vs') g hD ⟨hlen,_,c,r',eD⟩,rfl,q D' es vs' p' hsd i' (I.hok.fresh hD)⟩
theorem Tg:dz X (.builtin "sorted") (Z0 X.K):=by
 intro pins s σ H xs us Q I r h;obtain⟨P,a,vs,ds,rfl,hl,is,h2,ok,q⟩:=h;obtain⟨u,rfl,rx⟩:=vals1 r;cases rx;obtain⟨its,rv,pl,hz⟩:=I.list hl;exact zaQ I (KN pl.isList (by rw[<-rv.length];exact hz)) rv hz is h2 ok q
noncomputable def dh (ds:List D):Option (List D):=if ds.length<2 then some ds else @dite _ (gR ds/\∃es:List D,es.Perm ds/\es.Pairwise rm) (Classical.propDecidable _) (fun h=>some (Classical.choose h.2)) fun _=>none
noncomputable def kJ (f:E):E:=fun env M=>bnd (f env M) fun d M1=>match vw M1 d with
 |.lst ds=>(dh ds).map fun es=>(.v (.lst es),M1)
 |_=>none
theorem zQ {e:Expr}{f:E}{p pos:Pos}(hg:Gl X "sorted")(hm:X.mg "sorted"=none)(he:SE X Wx .bor e f)(hs:starEach [e] X.env=(false,eval e X.env)::starEach [] X.env:=by rfl):SN X Wx (.Call (.Name "sorted" p) [e] [] pos) (kJ f):=by
 refine cA (Cw (S5.or Tg) hg hm boot_sorted (pB he rD hs) (by x_go) (by x_go) hs rfl) ?_;rintro st H Q ⟨P0,H0,P,Os,env,M,r,M',k,e,q⟩;unfold kJ at e;rcases cG e with⟨d,M1,e1,e⟩ |⟨c,n,e1,rfl⟩
 ·refine bf k e1 fun P1 v1 H1 l1 h1 i1=>?_;have iw:=cF.vw h1 i1;split at e
  ·rename_i ds ev;rw[xak]at e;obtain⟨es,ez,e⟩:=e;cases e;obtain⟨ds',e',q⟩:=q;cases e';rw[ev]at iw;obtain⟨a,vs,rfl,sq,is⟩:=iw;have fin:∀ws,aC X.K P1 H1 es ws->∀l,H1 l=none->Q (.ref l) (upd H1 l (.lst ws)):=fun ws iws l hl=>by
    obtain⟨l2,h2,nc⟩:=sW (vs:=ws) h1 hl;exact q (P1.bar l) l ws _ (l1.trans l2) h2 (l1.sure l hl) (.inr rfl) nc dw (aC.lt (l2.lt h1) iws)
   unfold dh at ez;split at ez
   ·rename_i hlt;cases ez;exact .inl ⟨a,vs,rfl,sq,by rw[is.len];exact hlt,fin vs is⟩
   ·split at ez
    ·rename_i h2 h3;have sp:=xcs h3.2;rw[xaD ez]at sp;refine .inr ⟨P1,a,vs,ds,rfl,sq,is,by lia,h3.1,fun l es' vs' p' s' i' hl=>?_⟩;have ee:es'=es:=xcd (fun a b _ _=>G4) s' sp.2 (p'.trans sp.1.symm);subst ee;exact fin vs' i' l hl
    ·cases ez
  ·cases e
 ·exact bf k e1 q
theorem u_ {ds:List D}(h:gR ds):∃es,dh ds=some es/\es.Perm ds/\es.Pairwise rm:=by
  unfold dh
  split
  · rename_i h2;refine⟨ds,rfl,List.Perm.refl _,?_⟩
    match ds,h2 with
    | [],_=>exact .nil
    | [d],_=>exact List.pairwise_singleton _ _
  · let un:D->List D:=fun d=>match d with |.tup x=>x |_=>[]
    have hun:∀d∈ds,d=.tup (un d):=fun d hd=>by
      obtain⟨xs,rfl⟩:=h.tup d hd;rfl
    have cm:∀x∈ds.map un,∀y∈ds.map un,∃b,bG x y=some b:=fun x hx y hy=>by
      obtain⟨d,hd,rfl⟩:=xaw.mp hx;obtain⟨e,he,rfl⟩:=xaw.mp hy;exact h.2 _ _ (hun d hd ▸ hd) (hun e he ▸ he)
    let le:D->D->Bool:=fun a b=>decide (zM (ds.map un) (un a)<=zM (ds.map un) (un b))
    have hp := List.mergeSort_perm ds le;have hs := List.pairwise_mergeSort (le := le) (fun a b c h1 h2 => xaW (xaq (xcT h1) (xcT h2))) (fun a b=>by
      simp only[le,Bool.or_eq_true,xb5];exact Nat.le_total _ _) ds
    have ex : ∃ es : List D, es.Perm ds /\ es.Pairwise rm := ⟨_,hp,hs.imp_of_mem fun {a b} ha hb hle=>by
      have m1:=hp.mem_iff.mp ha;have m2:=hp.mem_iff.mp hb;obtain⟨c,hc⟩:=cm _ (xbT m2) _ (xbT m1);have ec:=IW cm (xbT m2) (xbT m1) hc;rw[xaI (xeD.mpr (xcT hle))]at ec;rw[ec]at hc;rw[hun a m1,hun b m2];exact hc⟩
    rw[dif_pos ⟨h,ex⟩];exact⟨_,rfl,xcs ex⟩
theorem QT {ds es:List D}(h:gR ds)(p:es.Perm ds):dh es=dh ds:=by
 obtain⟨a,ea,pa,sa⟩:=u_ h;obtain⟨b,eb,pb,sb⟩:=u_ (h.perm p);rw[ea,eb,xcd (fun a b _ _=>G4) sb sa (pb.trans (p.trans pa.symm))]
theorem Dy {f:E}:∀env M r M',kJ f env M=some (.v r,M')->∃ds,r=.lst ds:=fun env M r M' e=>by
 unfold kJ at e;rcases cG e with⟨ds,M1,e1,e⟩ |⟨c,n,e1,e⟩
 ·split at e
  ·rw[xak]at e;obtain⟨es,_,e⟩:=e;cases e;exact⟨_,rfl⟩
  ·cases e
 ·cases e
end
end E3
namespace L2
open PySem PySem.Spec PyProof.Rows
end L2
namespace E3
open PySem PySem.Spec PyProof.Rows L2 PySem.W
structure DefAtD (K:Fgx)(mg:Mgx)(x:Str)(st:Stmt)(ps:List Str)(dd:List D)(f:Addr)(fd:FuncData):Prop where
 mg:mg x=some (.ref f)
 F:FunD K x x st f fd
 b:Binds K fd ps []
 bd:∃(dv:List V) (du:List Value),Binds K fd ps du/\Vals dv du/\(∀P H,aC K P H dd dv)/\dv.length=dd.length
section
variable {P:Program}{w:World}{K:Fgx}{mg:Mgx}{base:Heap}{k:Nat}{x:Str}{st:Stmt}{f:Addr}{fd:FuncData}{N ps:List Str}{b:S}{dd:List D}
theorem DefAtD.ok (D:DefAtD K mg x st ps dd f fd)(S:FnScope N ps (aN st))(hr:RT P w K mg base k f N x st b)(hp:ps.length<=N.length:=by decide):bH P w K mg base (k + 1) x ps.length (b_ N.length b):=
 DefAt.ok ⟨D.mg,D.F,D.b⟩ S hr hp
end
section
variable {M:Mm}{env:Env}{f:E}{fs:EA}{ds es:List D}
noncomputable def vd (M:Mm):D->O
 |.lst ds=>mapR M ((dh ds).map .lst)
 |_=>none
theorem ZJ:kJ f env M=fZ (fun d M1=>vd M1 (vw M1 d)) (f env M):=by
  unfold kJ fZ bnd
  cases f env M with
  |none=>rfl
  |some p=>obtain⟨r,M'⟩:=p;cases r with
    |x c n=>rfl
    |v d=>
      dsimp only;unfold vd;cases vw M' d<;>try rfl
      dsimp only;cases dh _<;>rfl
theorem CP (h:dh ds=some es):vd M (.lst ds)=some (.v (.lst es),M):=by show mapR M ((dh ds).map D.lst)=_;rw[h];rfl
end
end E3
namespace L2
open PySem PySem.Spec PyProof.Rows
noncomputable def iB (K : Fgx) (C f : Addr) (me : Str) : Bool := PySem.W.specialIn K (.ref C) "__getattribute__" == some (some (.builtin "type.__getattribute__")) && (match PySem.W.typeIn K (.ref C) with
  | some mc => PySem.W.readsIn K C mc && (match PySem.W.findCls K (.ref C) mc me with
    |some (.val (.ref g))=>g==f
    |_=>false)
  |none=>false) && PySem.W.handedIn (.ref f) && PySem.W.keepIn K (.ref f)
section
variable {X:Cx}{Wx:XK}{x me:Str}{C f:Addr}{CX:Prop}{k:Nat}{fd:FuncData}{ps:List Str}{ds:List Value}{dvs:List V}{e:Expr}{es:List Expr}{t:TA}{np apos pos:Pos}{pl:Sem Bool}
theorem Sx {A:Around}{E:Value->Shared->Prop}{s:Shared}{K:Fgx}{prog:Program}{w:World}{Q:Value×List Value->Shared->Prop}(hb:iB K C f me=true)(kx:K.In s.heap)(h:Q (.ref f,[]) {s with toks:=s.toks + 1}):wpAny (model prog w) A (getMethod (.ref C) me pl) Q E s:=by
 unfold iB at hb;simp only[xaF]at hb;obtain⟨⟨⟨h1,h2⟩,h3⟩,_⟩:=hb;split at h2
 ·rename_i mc _;obtain⟨h4,h5⟩:=xdn.mp h2;split at h5
  ·rename_i g eg;have:=xbL.mp h5;subst this;exact PySem.W.method_cls kx (xbL.mp h1) (PySem.W.cls_value kx h4 eg h3 h)
  ·cases h5
 ·cases h2
end
end L2
namespace E3
open PySem PySem.Spec PyProof.Rows L2
def lZ (P:Program)(w:World)(K:Fgx)(mg:Mgx)(base:Heap)(k:Nat)(c me:Str)(n:Nat)(g:G):Prop:=
 ∃C fa fd ps ds dvs sp,mg c=some (.ref C)/\iB K C fa me=true/\FnOk P w K mg base fP k fa fd ps sp/\Binds K fd ps ds/\Vals dvs ds/\∀vs H Q E,mY K mg n g vs H Q E->sp (vs ++ dvs) H Q E
theorem lZ.mono {P:Program}{w:World}{K:Fgx}{mg:Mgx}{base:Heap}{c me:Str}{k j n:Nat}{g:G}(a:lZ P w K mg base j c me n g)(h:j<=k):lZ P w K mg base k c me n g:=by
 obtain⟨C,fa,fd,ps,ds,dvs,sp,h1,h2,h3,h4⟩:=a;exact⟨C,fa,fd,ps,ds,dvs,sp,h1,h2,h3.mono h,h4⟩
theorem lZ.up {P:Program}{w:World}{K:Fgx}{mg:Mgx}{base:Heap}{c me:Str}{k j n:Nat}{g:G}(a:lZ P w K mg base j c me n g)(h:j<=k:=by decide):lZ P w K mg base k c me n g:=a.mono h
section
variable {X:Cx}{Wx:XW}{m:Mode}
theorem zbU {k n:Nat}{c me:Str}{g:G}{e:Expr}{es:List Expr}{fs:EA}{np apos pos:Pos}{pl:Sem Bool}(a:lZ X.prog X.w X.K X.mg X.base k c me n g)(hr:Room k X.A)(hg:Gl X c)(ha:SA X Wx .val (e::es) fs)(hn:sS n fs)(hdb:(c==("__debug__":Str))=false:=by x_go)
  (he:starEach (e::es) X.env=(false,eval e X.env)::starEach es X.env:=by rfl) (hpl:(backTo pos (starEach es X.env)).any (·.1)=false:=by rfl)
  (ht : eval (.Call (.Attribute (.Name c np) me apos) (e :: es) [] pos) X.env = (do
   let ov <-eval (.Name c np) X.env
   standAt apos.atName
   let (f,first) <-holding [ov] (getMethod ov me pl)
   callWith pos f first (backTo pos (starEach (e::es) X.env)) (backToKw pos (keywordEach [] X.env))):=by rfl):SE X Wx m (.Call (.Attribute (.Name c np) me apos) (e::es) [] pos) (cg g fs):=by
 obtain⟨C,fa,fd,ps,ds,dvs,sp,hm,hbs,F,hb,hv,himp⟩:=a;have hk:PySem.W.keepIn X.K (.ref fa)=true:=by
  unfold iB at hbs;simp only[xaF]at hbs;exact hbs.2
 have pb:PE X (.Call (.Attribute (.Name c np) me apos) (e::es) [] pos) (Q_ sp dvs E0 (Q9 X.K X.mg Wx .val fs)):=by
  intro pins s σ H Q I h;refine xdb (pl:=pl) (Bw I hg hm (Sx hbs I.kIn ?_) hdb) ht;have I1:=I.tok (s.toks + 1);refine xcG (first:=[]) (h₀:=X.base) I.ok.mod.kin hk (aY (ha pos pins _ σ H _ I1 h) fun us s1 ⟨vs,H1,I1,r,q⟩=>⟨I1.kIn,?_⟩) he hpl
  exact CQ F hr hb hv zu I1 r q
 refine cA pb ?_;rintro st H Q ⟨P0,H0,P,Os,env,M,r,M',k,e,q⟩;unfold cg at e;rcases nA e with⟨ds,M1,e1,e⟩ |⟨c,n,e1,rfl⟩
 ·split at e
  ·rename_i d M2 eg;cases e;exact⟨P0,H0,P,Os,env,M,_,_,k,e1,fun P1 vs H1 l1 h1 i1=>himp _ _ _ _ ⟨by rw[i1.len];exact hn _ _ _ _ e1,P1,M1,ds,d,_,h1,i1.iss,eg,fun P2 v H2 l2 h2 i2=>q P2 v H2 (l1.trans l2) h2 (cR.of h2 i2)⟩⟩
  ·cases e
 ·exact⟨P0,H0,P,Os,env,M,_,_,k,e1,q⟩
end
structure BasAt (K:Fgx)(C:Addr)(q:Str)(st:Stmt)(ps:List Str)(f:Addr)(fd:FuncData):Prop where
 bs:iB K C f "__init__"=true
 F:FunD K "__init__" q st f fd
 b:Binds K fd ps []
theorem BasAt.ok {P:Program}{w:World}{K:Fgx}{mg:Mgx}{base:Heap}{k:Nat}{c:Str}{C:Addr}{q:Str}{st:Stmt}{f:Addr}{fd:FuncData}{N ps:List Str}{b:S}(D:BasAt K C q st ps f fd)(hm:mg c=some (.ref C))(S:FnScope N ps (aN st))(hr:RT P w K mg base k f N q st b)(hp:ps.length<=N.length:=by decide):lZ P w K mg base (k + 1) c "__init__" ps.length (b_ N.length b):=
 ⟨C,f,fd,ps,[],[],_,hm,D.bs,gH D.F S hp hr,D.b,.nil,fun vs H Q E h=>by rw[xaE];exact h⟩
section
variable {X:Cx}{Wx:XW}{m:Mode}{pos:Pos}
structure OwnTo (K:Fgx)(C B:Addr):Prop where
 ca:PySem.W.findIn K (.ref C) "__class__"=some (some (.builtin "object.__class__"))
 gt:PySem.W.specialIn K (.builtin "object.__class__") "__get__"=some (some (.builtin "getset_descriptor.__get__"))
 tk:PySem.W.takesIn K (.builtin "object.__class__")=some true
 mr:PySem.W.mroIn K C (.type "object")=some true
 me:PySem.W.kitOne K (.ref C) (.ref B)=some true
end
end E3
namespace L2
open PySem PySem.Spec PyProof.Rows
end L2
namespace E3
open PySem PySem.Spec PyProof.Rows L2
end E3
namespace L2
open PySem PySem.Spec PyProof.Rows
end L2
namespace E3
open PySem PySem.Spec PyProof.Rows L2
end E3
namespace L2
open PySem PySem.Spec PyProof.Rows
end L2
namespace E3
open PySem PySem.Spec PyProof.Rows L2
section
variable {X:Cx}{Wx:XW}{pos:Pos}
noncomputable def gO (is:List Nat) (j:Nat) (body:S):Nat->Nat->Env->Mm->OS
  |0,_,_,_=>none
  |n + 1,t,env,M=>match M[j]? with
    | some (.lst ds) => (match ds[t]? with
      |none=>some (.nx env,M)
      | some d => (match gC is d env with
        | some env1 => (match body env1 M with
          |some (.nx e,M1)=>gO is j body n (t + 1) e M1
          |some (.ct e,M1)=>gO is j body n (t + 1) e M1
          |some (.bk e,M1)=>some (.nx e,M1)
          |some (.rt d,M1)=>some (.rt d,M1)
          |some (.ex c k,M1)=>some (.ex c k,M1)
          |none=>none)
        |none=>none))
    |_=>none
noncomputable def rF (n:Nat) (is:List Nat) (f:E) (body:S):S:=fun env M=>bJ (f env M) fun d M1=>match d with
 |.ref j=>gO is j body n 0 env M1
 |_=>none
theorem QW (n:Nat){ts:List Expr}{is:List Nat}{e:Expr}{body:List Stmt}{f:E}{b:S}{k0:Nat}{tp:Pos}(hp:PassesOwn (model X.prog X.w) X.A X.env X.xe)(hc:X.calm=true)(hG:SG X ts is)(he:SE X Wx .val e f)(hb:SB X Wx body b)
    (hn:(assignEach ts X.env).length=is.length:=by rfl) (hst:(assignEach ts X.env).findIdx? (·.1)=none:=by rfl)
    (hs:∀x,foldedSetIterable e X.env x=pure x:=by intro _;rfl):SS X Wx (.For (.Tuple ts k0 tp) e body [] pos) (rF n is f b):=by
  obtain⟨t,hpg,ht⟩:=hG;refine gq (CG hp hc (Cz he) (O1 (n:=is.length) hc hpg hn hst) hb hs) ?_;rintro D st H ⟨P0,H0,P,Os,env,M,out,M',k,e,q⟩;unfold rF at e;rcases fQ e with⟨d,M1,e1,e⟩ |⟨c,n,e1,rfl⟩
  · cases d<;>simp only[reduceCtorEq]at e
    rename_i j;refine⟨P0,H0,P,Os,env,M,_,_,k,e1,fun P1 v1 H1 l1 h1 i1=>?_⟩;obtain⟨jl,rfl⟩:j<P1.n/\v1=.ref (P1.io j):=i1;have k1:=k.next l1 h1
    have q1:=q.lt (l1.lt k.hk);have hl:∃vs,bI X.K H1 (P1.io j) vs:=by
      cases n with
      |zero=>cases e
      |succ n=>
        simp only[gO]at e;split at e
        · rename_i ds em;obtain⟨vs,ev,is⟩:=h1.cell j _ em;exact⟨vs,.inl (.inl ev)⟩
        · cases e
    refine⟨P1.io j,rfl,hl,fun t m σ H=>∃P Os' M1 env',Lt P1 H1 P H/\Ok X.K X.mg P0 H0 P Os' H M1 σ env'/\gO is j b m t env' M1=some (out,M'),⟨n,P1,Os,M1,env,Lt.refl _ _,k1,e⟩,?_⟩;rintro t m σ H ⟨P,Os',M1,env',lt,k',h'⟩
    cases m with
    |zero=>cases h'
    |succ m=>
      simp only[gO]at h';split at h'
      · rename_i ds em;obtain⟨vs,ev,iss⟩:=k'.hk.cell j _ em;rw[lt.io j jl]at ev;have sq:bI X.K H (P1.io j) vs:=.inl (.inl ev);split at h'
        · rename_i et;cases h';refine .inl ⟨⟨vs,sq,by rw[iss.len];exact xcA.mp et⟩,q1 P Os' H σ lt k'⟩
        · rename_i d et;obtain⟨v,evt,iv⟩:=iss.get et;refine .inr ⟨⟨vs,v,sq,evt⟩,fun σ' H'=>∃P Os' M1 env',Lt P1 H1 P H'/\Ok X.K X.mg P0 H0 P Os' H' M1 σ' env'/\gO is j b m (t + 1) env' M1=some (out,M'),fun σ' H' z=>⟨m,xba m,z⟩,fun x H' y=>?_⟩;obtain⟨rfl,y⟩:=y;have ex:=y vs sq;rw[evt]at ex;cases ex;split at h'
          · rename_i env1 ee;unfold gC at ee;split at ee
            · rename_i es;split at ee
              · rename_i hl;obtain⟨a,us,rfl,sq',is'⟩:=iv;refine⟨a,us,rfl,sq',by rw[is'.len];exact hl,ht _ _ _ _ _ _ _ _ _ _ _ _ k' is' ee fun Os2 st2 k4=>?_⟩;split at h'
                · rename_i e4 M4 eb;exact⟨P0,H0,P,_,_,M1,_,_,k4,eb,fun P' Os2 H2 st2 l2 k5=>⟨P',Os2,_,e4,lt.trans l2,k5,h'⟩⟩
                · rename_i e4 M4 eb;exact⟨P0,H0,P,_,_,M1,_,_,k4,eb,fun P' Os2 H2 st2 l2 k5=>⟨P',Os2,_,e4,lt.trans l2,k5,h'⟩⟩
                · rename_i e4 M4 eb;cases h';exact⟨P0,H0,P,_,_,M1,_,_,k4,eb,fun P' Os2 H2 st2 l2 k5=>q1 P' Os2 H2 st2 (lt.trans l2) k5⟩
                · rename_i d4 M4 eb;cases h';exact⟨P0,H0,P,_,_,M1,_,_,k4,eb,q1⟩
                · rename_i c4 n4 M4 eb;cases h';exact⟨P0,H0,P,_,_,M1,_,_,k4,eb,q1⟩
                · cases h'
              · cases ee
            · cases ee
          · cases h'
      · cases h'
  · exact⟨P0,H0,P,Os,env,M,_,_,k,e1,q⟩
end
section
variable {P:Program}{w:World}{K:Fgx}{base:Heap}{mg:Mgx}{k:Nat}{C:Addr}{x q:Str}{st:Stmt}{N ps:List Str}{b:S}
inductive MAt (K:Fgx)(C:Addr)(x q:Str)(st:Stmt):Prop
 |mk {f:Addr} {oc kV dc pm cd ct:Value} {od an:Option Addr} {sl:Array (Option Value)} (a:PySem.W.findIn K (.ref C) x=some (some (.ref f))) (l:K.lookup f=some ⟨oc,od,.func (PySem.W.fnOf x q (bU st) (bL st) (aN st) .none kV dc pm an cd ct),sl⟩) (c:PySem.W.codeIn K cd q=true) (k:PySem.W.keepIn K (.ref f)=true) (n:PySem.W.isFn K (.ref f)=true):MAt K C x q st
abbrev HM (x q:Str)(st:Stmt)(ps:List Str):Prop:=∀(kV doc pm:Value) (an:Option Addr) (cdv ct:Value) (us:List Value),us.length=ps.length->bindArgs (PySem.W.fnOf x q (bU st) (bL st) (aN st) .none kV doc pm an cdv ct) ⟨us,[]⟩=pure (ps.zip us)
theorem MAt.at (F:MAt K C x q st)(hb:HM x q st ps):∃f fd,Meth K C x f/\PySem.W.findIn K (.ref C) x=some (some (.ref f))/\PySem.W.isFn K (.ref f)=true/\FunD K x q st f fd/\Binds K fd ps []:=by
 obtain⟨a,l,c,k,n⟩:=F;exact⟨_,_,⟨a,n,k⟩,a,n,gJ l c k,(gK (st:=st) l c k).binds hb⟩
theorem MAt.ok (F:MAt K C x q st)(S:FnScope N ps (aN st))(hr:∀f,RT P w K mg base k f N q st b)
  (hb:HM x q st ps:=by first |exact fun _ _ _ _ _ _ us hl=>(match us,hl with | [_],_=>rfl) |exact fun _ _ _ _ _ _ us hl=>(match us,hl with | [_,_],_=>rfl) |exact fun _ _ _ _ _ _ us hl=>(match us,hl with | [_,_,_],_=>rfl) |exact fun _ _ _ _ _ _ us hl=>(match us,hl with | [_,_,_,_],_=>rfl))
  (hp:ps.length<=N.length:=by decide):cQ P w K mg base (k + 1) C x ps.length (b_ N.length b):=by
 obtain⟨f,fd,M,_,_,D,B⟩:=F.at hb;exact⟨_,_,_,M,gH D S hp (hr f),B⟩
end
end E3
namespace L2
open PySem PySem.Spec PyProof.Rows
section
variable {prog:Program}{w:World}{A:Around}{E:Value->Shared->Prop}{s:Shared}
def Kp (t t':SetTable):Prop:=t'.led=t.led/\(t.plain=false->t'.plain=false)
theorem Vv (t:SetTable)(es:Array (Int×Value))(h:Int)(x:Value):Kp t (layNew t es h x).2.1:=by
 unfold layNew
 split
 ·dsimp only;unfold SetTable.orStandIn
  split
  ·exact⟨rfl,fun e=>e⟩
  ·exact⟨rfl,fun _=>rfl⟩
 ·exact⟨rfl,fun _=>rfl⟩
theorem Vw (t:SetTable)(es:Array (Int×Value))(n:Nat):Kp t (relayAll t es n).2.1:=by
 unfold relayAll
 split
 ·rename_i t' order e;dsimp only
  split
  ·unfold SetTable.relaid SetTable.laid at e;rw[Option.bind_eq_bind,Option.bind_eq_some_iff]at e;obtain⟨ow,_,e⟩:=e;cases e;exact⟨rfl,fun e=>e⟩
  ·exact⟨rfl,fun _=>rfl⟩
 ·exact⟨rfl,fun _=>rfl⟩
noncomputable def txt (es:Array (Int×Value)):List Str:=es.toList.map fun e=>strOf e.2
def g8 (prog:Program)(w:World)(o:Obj)(T:List Str):Prop:=o.ExactSet/\∃es ep t,o.data=.set es ep t/\ElemsOf (PySem.strKind prog w) es.toList/\(txt es).Nodup/\(∀k,k∈txt es ↔ k∈T)/\es.size<=T.length/\t.fits es.size=true/\t.led= !(w.params.followText "set-order")/\(es.size=0\/t.plain=false)
theorem JR {k:Str}{v:Value}(h:(PySem.strKind prog w).is k v=true):∃t,v=.str k t:=Value.isStrOf_shape h
theorem Rr {es:Array (Int×Value)}(hel:ElemsOf (PySem.strKind prog w) es.toList){k:Str}:k∈txt es ↔ ∃e∈es.toList,(PySem.strKind prog w).is k e.2=true:=by
 unfold txt;rw[xaw]
 constructor
 ·rintro⟨e,he,rfl⟩;obtain⟨⟨k',hk,_⟩,_⟩:=hel e he;obtain⟨t,e'⟩:=JR hk;exact⟨e,he,by rw[e'];exact strKind_is _ _ _ _⟩
 ·rintro⟨e,he,hk⟩;obtain⟨t,e'⟩:=JR hk;exact⟨e,he,by rw[e'];rfl⟩
theorem JT {a:Addr}{o:Obj}{es:Array (Int×Value)}{ep:Nat}{t:SetTable}{es1:Array (Int×Value)}{t1:SetTable}{h:Heap}(ho:h.get? a=some o)(hd:o.data=.set es ep t):(h.update a (Obj.putSet es1 t1)).get? a=some {o with data:=.set es1 (ep + 1) t1}:=by
 have:=xbG (Obj.putSet es1 t1) ho (by rw[putSet_of es1 t1 hd];rfl)
 rwa [putSet_of es1 t1 hd]at this
theorem zcr {a:Addr}{o:Obj}{T:List Str}{k:Str}{tk:Tok}{Q:Bool->Shared->Prop}(ho:s.heap.get? a=some o)(ht:g8 prog w o T)(hr:T.length + 1<scanBound)
    (h:∀b h' o' tk',Heap.SameBut a s.heap h'->h'.get? a=some o'->g8 prog w o' (T ++ [k])->Q b {s with heap:=h',toks:=tk'}):wpAny (model prog w) A (setAdd a (.str k tk)) Q E s:=by
  obtain⟨hex,es,ep,t,hd,hel,nd,mem,len,hf,led,pl⟩:=ht;have hk:=strKind_is prog w k tk;unfold setAdd;refine xbh (xaa ((PySem.strKind prog w).pyHash (k:=k) hk ?_));unfold setAddHashed setAddHashedIn;refine xbh (xaa (xbo (s:={s with toks:=s.toks + 1}) ho hd hf ?_));dsimp only;rw[byScan_of (knd:=PySem.strKind prog w) rfl (by lia) hel];simp only[↓reduceIte];unfold setAddByScan;refine xaa (xaa (xeh (xaa (wpAny_setScan_of (knd:=PySem.strKind prog w) (s:={s with toks:=s.toks + 1}) hk ho hd hf hel ?_))))
  cases hi:List.findIdx? (fun e=>(PySem.strKind prog w).is k e.2) es.toList with
  |some j=>
    dsimp only;obtain⟨hj,hp,_⟩:=List.findIdx?_eq_some_iff_getElem.mp hi;have km:k∈T:=(mem k).mp ((Rr hel).mpr ⟨_,xbv hj,hp⟩);refine xab (xab (h _ s.heap o _ (Heap.SameBut.refl a s.heap) ho ⟨hex,es,ep,t,hd,hel,nd,fun k'=>?_,by rw[xaj];lia,hf,led,pl⟩));rw[mem,xaJ,xax];exact⟨.inl,fun z=>z.elim id fun z=>z ▸ km⟩
  |none=>
    dsimp only;have kn:k∉txt es:=fun z=>by
      obtain⟨e,he,hp⟩:=(Rr hel).mp z;have:=List.findIdx?_eq_none_iff.mp hi e he;rw[hp]at this;cases this
    have hg:∀(b:Bool) {s₁:Shared} {Q':Unit->Shared->Prop},Q' () s₁->wpAny (model prog w) A (match b with |true=>rule "set.scan.the-table-gave-way" |false=>pure ()) Q' E s₁:=fun b s₁ Q' q=>by cases b<;>first |exact xab q |exact xeh q
    have hp:=layNew_perm t es ((PySem.strKind prog w).hash k) (.str k tk);have hf1:=layNew_fits t es ((PySem.strKind prog w).hash k) (.str k tk);have k1:=Vv t es ((PySem.strKind prog w).hash k) (.str k tk);generalize layNew t es ((PySem.strKind prog w).hash k) (.str k tk)=L at hp hf1 k1 ⊢;obtain⟨es1,t1,wd,gave⟩:=L;dsimp only at hp hf1 k1 ⊢;rw[xa6]at hp;have fin:∀{es2:Array (Int×Value)} {t2:SetTable} (h':Heap) (o':Obj) (e':Nat),es2.toList.Perm (es.toList ++ [((PySem.strKind prog w).hash k,.str k tk)])->t2.fits es2.size=true->t2.led=t.led->t2.plain=false->Heap.SameBut a s.heap h'->h'.get? a=some o'->o'.ExactSet->o'.data=.set es2 e' t2->g8 prog w o' (T ++ [k]):=by
      intro es2 t2 h' o' e' p f l pn sb e ex d;have el:ElemsOf (PySem.strKind prog w) es2.toList:=(hel.push hk rfl).perm p;have px:(txt es2).Perm (txt es ++ [k]):=by
        have:=p.map fun e=>strOf e.2
        rwa [xaR]at this
      refine⟨ex,es2,e',t2,d,el,px.nodup_iff.mpr (List.nodup_append.mpr ⟨nd,by simp,?_⟩),fun k'=>?_,?_,f,l.trans led,.inr pn⟩
      · intro x hx y hy e;rw[xax]at hy;exact kn (by rw[<-hy, <-e];exact hx)
      · rw[px.mem_iff,xaJ,xaJ,mem]
      · have:=p.length_eq;rw[xaj,xai,xai]at this;rw[xaj];simp only[xaA]at this ⊢;lia
    have sz:es1.size<scanBound:=by
      have:=hp.length_eq;rw[xaj,xai,xai]at this;simp only[xaA]at this;lia
    have tail : ∀ (t2 : SetTable), t2.fits es1.size = true -> t2.led = t.led -> t2.plain = false -> wpAny (model prog w) A (do
        storeSet a es1 t2
        if (!wd && t2.tooFull)=true then do
            (match (relayAll t2 es1 (SetTable.grown es1.size)).2.2 with |true=>rule "set.scan.the-table-gave-way" |false=>pure ())
            storeSet a (relayAll t2 es1 (SetTable.grown es1.size)).1 (relayAll t2 es1 (SetTable.grown es1.size)).2.1
            pure (some true)
          else pure (some true)) (fun r s'=>wpAny (model prog w) A (match r with |some added=>pure added |none=>setAddHashedIn a (.str k tk) ((PySem.strKind prog w).hash k) 99999) Q E s') E {s with toks:=s.toks + 1}:=fun t2 f l pn=>by
      refine xaa (wpAny_storeSet_of (s:={s with toks:=s.toks + 1}) ho hd ?_ (fits_of_scanBound sz));have o1:=JT (es1:=es1) (t1:=t2) ho hd;have b1:=xdr s.heap a (Obj.putSet es1 t2)
      split
      · have hp2:=relayAll_perm t2 es1 (SetTable.grown es1.size);have hf2:=relayAll_fits t2 es1 (SetTable.grown es1.size);have k2:=Vw t2 es1 (SetTable.grown es1.size);generalize relayAll t2 es1 (SetTable.grown es1.size)=L2 at hp2 hf2 k2 ⊢;obtain⟨es2,t3,g2⟩:=L2;dsimp only at hp2 hf2 k2 ⊢;have sz2:es2.size=es1.size:=by rw[<-xai,hp2.length_eq,xai]
        refine xaa (hg _ (xaa (wpAny_storeSet_of (s:={s with heap:=s.heap.update a (Obj.putSet es1 t2),toks:=s.toks + 1}) o1 rfl ?_ (fits_of_scanBound (by rw[sz2];exact sz)))));have b2:=b1.trans (xdr _ a (Obj.putSet es2 t3));exact xab (xab (h _ _ _ _ b2 (JT o1 rfl) (fin _ _ _ (hp2.trans hp) hf2 (k2.1.trans l) (k2.2 pn) b2 (JT o1 rfl) hex rfl)))
      · exact xab (xab (h _ _ _ _ b1 o1 (fin _ _ _ hp f l pn b1 o1 hex rfl)))
    refine xaa (hg _ ?_)
    split
    · refine xaa ?_;rw[hashByValue_scannable 8 rfl];exact xab (tail _ (SetTable.fits_plain_off hf1) k1.1 rfl)
    · rename_i np;exact xaa (xab (tail _ hf1 k1.1 (by simpa using np)))
end
section
variable {prog:Program}{w:World}{A:Around}{E:Value->Shared->Prop}{s:Shared}
theorem zbd {R:Result->Shared->Prop}{I l S:Addr}{items:Array Value}{ss:List Str}(hh:A.in1.handled=none)(ne:l≠I)(n1:S≠I)(n2:S≠l)(hi:StrsAre items.toList ss)(hb:items.size + 1<scanBound):
    ∀(k i:Nat) (s:Shared) (o:Obj),items.size - i=k->i<=items.size->s.heap.IsListIter I l i->s.heap.IsList l items->s.heap.get? S=some o->g8 prog w o (ss.take i)->
      (∀h' o' tk,(∀b u,b≠S->b≠I->s.heap.get? b=some u->h'.get? b=some u)->h'.get? S=some o'->g8 prog w o' ss->R (.ok (.ret .none)) {s with heap:=h',toks:=tk})->
      codeAny (model prog w) A (.builtin "set.update.loop" ⟨[.ref S,.ref I],[]⟩) R s:=by
  have W:=Walks.list (prog:=prog) (w:=w) hh I l ne items;have ln:ss.length=items.size:=by rw[<-hi.strs,xaf,xai]
  have sw:∀b,b≠I->b∉ [I]:=fun b nb z=>nb (xax.mp z);intro k
  induction k with
  |zero=>
    intro i s o hk hi' st sl ho ht hR;obtain rfl:i=items.size:=by lia
    refine xcD F.entry_set_update_loop ?_;rw[xcv xcO _];show wpAny _ A.in1 (pyNext (.ref I) >>=_) _ _ s;refine xaa (W.done s _ _ ⟨st,sl⟩ fun h' tk hm=>?_);show wpAny _ A.in1 (ret Value.none) _ _ _;rw[xbW (by lia)]at ht;exact xab (hR h' o tk (fun b u _ nb e=>hm b u (sw b nb) e) (hm S o (sw S n1) ho) ht)
  |succ k ih=>
    intro i s o hk hi' st sl ho ht hR;have lt:i<items.size:=by lia
    refine xcD F.entry_set_update_loop ?_;rw[xcv xcO _];show wpAny _ A.in1 (pyNext (.ref I) >>=_) _ _ s;refine xaa (W.item i s _ _ lt ⟨st,sl⟩ fun v h' tk hP st' hm=>?_);obtain⟨x,t,rfl⟩:=hi.all v (by rw[xa7];exact Array.mem_of_getElem? hP);have ex:ss[i]? =some x:=by
      rw[<-hi.strs,xao,xaV,hP];rfl
    show wpAny _ A.in1 (holding [Value.str x t] (setAdd S (.str x t)) >>=_) _ _ _;have tl:(ss.take i).length<=i:=by rw[xbl];lia
    refine xaa (xbh (zcr (s:={s with heap:=h',toks:=tk}) (hm S o (sw S n1) ho) ht (by lia) fun b h2 o2 tk2 sb e2 t2=>?_));have kp:∀b u,b≠S->h'.get? b=some u->h2.get? b=some u:=fun b u nb e=>by rw[sb.2 b nb];exact e
    refine xab ⟨xeo xcO _,ih (i + 1) _ o2 (by lia) lt (st'.1.at fun u e=>kp I u (xbR n1) e) (st'.2.at fun u e=>kp l u (xbR n2) e) e2 ?_ fun h3 o3 tk3 k3 e3 t3=>?_⟩
    · rw[xeB,ex];exact t2
    · exact hR h3 o3 tk3 (fun b u nb nI e=>k3 b u nb nI (kp b u nb (hm b u (sw b nI) e))) e3 t3
theorem zb7 (led:Bool)(h:led= !(w.params.followText "set-order")):g8 prog w {cls:=.type "set",dict:=none,data:=.set #[] 0 (.fresh 0 0 led)} []:=
 ⟨⟨rfl,rfl,rfl⟩, #[],0,_,rfl,fun e he=>by simp at he,by simp[txt],fun k=>by simp[txt],xad _,rfl,h,.inl rfl⟩
theorem zbN (a:Value){Q₁:Value->Shared->Prop}(h:Q₁ (.ref s.heap.objs.size) {s with heap:=s.heap.push {cls:=.type "set",dict:=none,data:=.set #[] 0 (.fresh 0 0 (!(w.params.followText "set-order")))}}):codeAny (model prog w) A (.call (.builtin "set.__new__") ⟨[.type "set",a],[]⟩) (wants Q₁ E) s:=by
 refine codeAny_call_builtin PySem.F.plain_set_new PySem.F.entry_set_new (wpAny_of_eq (PySem.F.newCall_set_1 a) ?_);unfold Builtin.«set.__new__» Builtin.Frozenset.newClass;have hsub:=sub_set_self;obtain⟨hp,g,d,tk,os⟩:=s;dsimp only
 wp_walk
 refine xc9 (xab ?_);simp only[newObj];exact xaa (wpAny_alloc (xab (xab h)))
theorem zb0 {l:Addr}{items:Array Value}{ss:List Str}{Q:Value->Shared->Prop}(hh:A.handled=none)(hl:s.heap.IsList l items)(hi:StrsAre items.toList ss)(hb:items.size + 1<scanBound)
  (h:∀h' o tk,(∀b u,s.heap.get? b=some u->h'.get? b=some u)->h'.get? s.heap.objs.size=some o->g8 prog w o ss->Q (.ref s.heap.objs.size) {s with heap:=h',toks:=tk}):wpAny (model prog w) A (call (.type "set") [.ref l]) Q E s:=by
 obtain⟨c,tl,hmro⟩:=xbw.mro;have hmade:=xbw.made;have hsub:=xbw.sub;have h1:=xbw.notType;have h2:=xbw.canCreate;have hct:=PySem.F.typeCall_set_1 (.ref l);refine wpAny_call (codeAny_of_tree (xab ⟨Code.quiet_builtin _ (by x_go),xcD PySem.F.entry_type_call ?_⟩));rw[Around.under_plain (weight_type_call_type "set" [.ref l] []) rfl]
 repeat (any_goals (first |assumption |wp_step))
 refine xcc (zbN (.ref l) (E:=E) (Q₁:=fun v s1=>∃led:Bool,v=.ref s.heap.objs.size/\led= !(w.params.followText "set-order")/\s1={s with heap:=s.heap.push {cls:=.type "set",dict:=none,data:=.set #[] 0 (.fresh 0 0 led)}}) ⟨_,rfl,rfl,rfl⟩) fun r s1 hr=>?_;rcases r with e |fl
 ·exact hr
 cases fl<;>try exact hr
 rename_i obj;obtain⟨led,rfl,hled,rfl⟩:=hr;have hS:(s.heap.push {cls:=.type "set",dict:=none,data:=.set #[] 0 (.fresh 0 0 led)}).get? s.heap.objs.size=_:=xav _ rfl;have hT:Shared.TypeIs {s with heap:=s.heap.push {cls:=.type "set",dict:=none,data:=.set #[] 0 (.fresh 0 0 led)}} (.ref s.heap.objs.size) "set":=⟨_,hS,rfl⟩;have hli:=xbw.init.lookup;have hbi:=xbw.init.bind (.ref s.heap.objs.size)
 repeat (any_goals (first |assumption |wp_step))
 refine xcc (codeAny_call_builtin (R:=wants (fun v s2=>v=.none/\∃h' o' tk,s2={s with heap:=h',toks:=tk}/\(∀b u,s.heap.get? b=some u->h'.get? b=some u)/\h'.get? s.heap.objs.size=some o'/\g8 prog w o' ss) E) xbw.init.plain PySem.F.entry_set_init (check_set_init_1 hT ?_)) fun r2 s2 hr2=>?_
 ·obtain⟨⟨_,od,dt,os⟩,gl,cl,nl,dl⟩:=hl;cases cl;cases dl;have gl':=xag {cls:=.type "set",dict:=none,data:=.set #[] 0 (.fresh 0 0 led)} gl;have hl1:(s.heap.push {cls:=.type "set",dict:=none,data:=.set #[] 0 (.fresh 0 0 led)}).IsList l items:=⟨_,gl',rfl,nl,rfl⟩;have lS:l<s.heap.objs.size:=xan gl;unfold Builtin.«set.__init__» noKeywords Builtin.Frozenset.updateFrom;have hsls:=PySem.F.sub_list_set;have hslf:=PySem.F.sub_list_frozenset;have hne:(Value.type "list"==Value.type "dict")=false:=by decide
  generalize hPI:pyIter=PI
  wp_walk
  subst hPI;refine wpAny_pyIter_list hl1 (xaa (wpAny_runValue ?_));have sz:(s.heap.push {cls:=.type "set",dict:=none,data:=.set #[] 0 (.fresh 0 0 led)}).objs.size=s.heap.objs.size + 1:=xb8 ..;have a1:l≠(s.heap.push {cls:=.type "set",dict:=none,data:=.set #[] 0 (.fresh 0 0 led)}).objs.size:=by rw[sz];exact xaC (xcQ lS)
  have a2:s.heap.objs.size≠(s.heap.push {cls:=.type "set",dict:=none,data:=.set #[] 0 (.fresh 0 0 led)}).objs.size:=by rw[sz];exact xaC (xba _)
  refine zbd (A:=A.in1.in1) hh a1 a2 (xcb lS) hi hb _ 0 _ _ rfl (xaS _) ?_ ?_ ?_ (zb7 led hled) ?_
  ·exact⟨_,xav _ rfl,rfl,rfl⟩
  ·exact hl1.push _
  ·exact xag _ hS
  ·intro h' o' tk k e t;refine xab (xab ⟨rfl,h',o',tk,rfl,fun b u g=>?_,e,t⟩);have:=xan g;exact k b u (xaC this) (by rw[sz];exact xaC (xcQ this)) (xag _ (xag _ g))
 ·rcases r2 with e |fl
  ·exact hr2
  cases fl<;>try exact hr2
  obtain⟨rfl,h',o',tk,rfl,k,e,t⟩:=hr2
  repeat (any_goals (first |assumption |wp_step))
  exact h _ _ _ k e t
end
theorem QJ:Manifest.owners.lookup (String.ofList ['r','o','t','a','r','e','t','i','_','t','e','s'].reverse)=some Manifest.sig_set_iterator:=by kernel_rfl
theorem sG:Slot "set_iterator" "__next__" "set_iterator.__next__":=
 .of (owner:="set_iterator") (n:="__next__") (by rw[typeLookup_type,builtinLookup_eq_fast];kernel_rfl) (by x_go) (by x_go) (by x_go)
  (by first |exact .inl (by x_go) |exact .inr (by x_go)) (by rw[isSubtype_type];kernel_rfl)
theorem QD:Slot "set_iterator" "__iter__" "set_iterator.__iter__":=
 .of (owner:="set_iterator") (n:="__iter__") (by rw[typeLookup_type,builtinLookup_eq_fast];kernel_rfl) (by x_go) (by x_go) (by x_go)
  (by first |exact .inl (by x_go) |exact .inr (by x_go)) (by rw[isSubtype_type];kernel_rfl)
theorem QG:entryFor table "set_iterator.__next__"=some Builtin.«set_iterator.__next__» :=entryFor_of_tree (by kernel_rfl)
theorem QF (a:Value):argsOk "set_iterator.__next__" ⟨[a],[]⟩:=by
 unfold argsOk;rw[signature?_of (id:="set_iterator.__next__") (n:=['_','_','t','x','e','n','_','_']) (o:=['r','o','t','a','r','e','t','i','_','t','e','s']) (by kernel_rfl) QJ];kernel_rfl
theorem zaj:entryFor table "set_iterator.__iter__"=some Builtin.«dict_keyiterator.__iter__» :=
 entryFor_alias (id':="dict_keyiterator.__iter__") (by kernel_rfl) (by first |rfl |decide +kernel |(unfold String.splitOn;simp +decide [String.splitOnAux])) (by x_go) (by kernel_rfl)
theorem zal (a:Value):argsOk "set_iterator.__iter__" ⟨[a],[]⟩:=by
 unfold argsOk;rw[signature?_of (id:="set_iterator.__iter__") (n:=['_','_','r','e','t','i','_','_']) (o:=['r','o','t','a','r','e','t','i','_','t','e','s']) (by kernel_rfl) QJ];kernel_rfl
theorem zai:entryFor table "set.__iter__"=some Builtin.«frozenset.__iter__» :=
 entryFor_alias (id':="frozenset.__iter__") (by kernel_rfl) (by first |rfl |decide +kernel |(unfold String.splitOn;simp +decide [String.splitOnAux])) (by x_go) (by kernel_rfl)
theorem Gi {α:Type}:∀(l:List α) (i:Nat) (h:i<l.length),(l[i]::l.eraseIdx i).Perm l
 |x::l,0,_=>.refl _
 |x::l,i + 1,h=>(List.Perm.swap x _ _).trans ((Gi l i (Nat.lt_of_succ_lt_succ h)).cons x)
theorem O3 {α:Type}(f:Nat->Nat):∀(n k:Nat) (l:List α) (o:Array α),n=l.length->(pickOrder.go f n k l o).toList.Perm (o.toList ++ l)
  |0,k,l,o,h=>by
    cases l with
    |nil=>unfold pickOrder.go;rw[xaE]
    |cons _ _=>cases h
  |n + 1,k,l,o,h=>by
    have lt:f k % l.length<l.length:=Nat.mod_lt _ (by lia);unfold pickOrder.go;rw[xah lt];refine(O3 f n (k + 1) _ _ (by rw[xei,xac lt];lia)).trans ?_;rw[xa6,xat];exact(Gi l _ lt).append_left _
theorem O4 {α:Type}(f:Nat->Nat)(xs:Array α):(pickOrder f xs).toList.Perm xs.toList:=O3 f _ 0 _ _ (by simp)
section
variable {prog:Program}{w:World}{A:Around}{E:Value->Shared->Prop}{s:Shared}
theorem zca {src:Source}{n:Nat}{Q:Nat->Shared->Prop}(hn:0<n)(h:∀i d,i<n->Q i {s with drawn:=d}):wpAny (model prog w) A (choose src n) Q E s:=
 fun _ _ _=>⟨xcb hn,h _ _ (Nat.mod_lt _ hn)⟩
theorem RG {α:Type}:∀(n:Nat) (l:List α) (s:Shared) (Q:List α->Shared->Prop),n=l.length->(∀l' d,l'.Perm l->Q l' {s with drawn:=d})->wpAny (model prog w) A (drawOrder n l) Q E s
  |0,l,s,Q,h,q=>by
    cases l with
    |nil=>exact xab (q [] s.drawn (.refl _))
    |cons _ _=>cases h
  |n + 1,[],s,Q,h,q=>by cases h
  |n + 1,x::l,s,Q,h,q=>by
    unfold drawOrder;refine xaa (zca (xev _) fun i d lt=>?_);rw[xah lt];refine xaa (RG n _ _ _ (by rw[xei,xac lt];simp only[xay]at h ⊢;lia) fun l' d' p=>xab (q _ d' ((p.cons _).trans (Gi _ _ lt))))
end
section
variable {prog:Program}{w:World}{A:Around}{E:Value->Shared->Prop}{s:Shared}
noncomputable def V4 (xs:Array (Int×Value)) (t:SetTable):Sem Unit:=do if !t.led && xs.size > 1 then unsupported "set:maker-not-led"
noncomputable def G8 (xs:Array (Int×Value)) (t:SetTable):Sem Unit:=do if !t.led && !xs.isEmpty then unsupported "set:maker-not-led"
theorem Cg (a : Addr) (x y z : Nat) : setNext a x y z = (do
 let (xs,e0,tb) <-setState a
 if (<-setsByText) then
  if e0 !=z then unsupported "set_iterator.__next__:elements-changed"
  return ((<-setWalk a)[y]?).map fun u=>(u.2,x)
 if !tb.plain && xs.size > 1 then unsupported "set_iterator.__next__:the-table-is-plain-no-more"
 G8 xs tb
 let j:=SetTable.below tb.place x
 return match xs[j]?,tb.place[j]? with
  |some (_,u),some v=>some (u,v + 1)
  |_,_=>none):=rfl
theorem RD (a : Addr) : setWalk a = (do
 let (xs,e0,tb) <-setState a
 if (<-setsByText) then return pickOrder ((<-ask).params.setOrder a e0) xs
 if !tb.plain && xs.size > 1 then return (<-drawOrder xs.size xs.toList).toArray
 V4 xs tb
 return xs):=rfl
theorem T6 (a : Addr) : setDrawn a = (do
 let (xs,_,tb) <-setState a
 let b <-setsByText
 return !b && (!tb.plain && xs.size > 1)):=rfl
theorem wg {Q:Bool->Shared->Prop}(h:Q (w.params.followText "set-order") s):wpAny (model prog w) A setsByText Q E s:=xaa (xc9 (xab h))
noncomputable def wB (f:Value) (i:Nat) (S:Addr) (n ep:Nat):Obj:={cls:=.type "set_iterator",data:=.fields #[f,.int i 0,.ref S,.int n 0,.int ep 0]}
def wA (w:World)(es:Array (Int×Value))(ep:Nat)(t:SetTable)(S T:Addr)(vs:List Value)(h:Heap)(f:Value)(i:Nat):Prop:=
 (w.params.followText "set-order"=true/\f=.int 0 0/\vs=(pickOrder (w.params.setOrder S ep) es).toList.map (·.2))\/
 (w.params.followText "set-order"=false/\es.size<=1/\vs=es.toList.map (·.2)/\∃x:Nat,f=.int x 0/\(i<es.size->SetTable.below t.place x=i)/\(es.size<=i->es.size<=SetTable.below t.place x))\/
 (∃(ps:List Nat) (o:Obj),f=.ref T/\h.get? T=some o/\o.data=.seq (List.toArray (ps.map fun(p:Nat)=>rawInt p)) 0/\ps.length=es.size/\vs=ps.map (fun p=>(es.getD p (0,.none)).2)/\∀p∈ps,p<es.size)
theorem Ke (p j:Nat):SetTable.below #[p] j=if p<j then 1 else 0:=by
 show SetTable.below.go #[p] j 1 0 1=_;unfold SetTable.below.go
 by_cases h:p<j
 ·simp[h,SetTable.below.go]
 ·simp[h,SetTable.below.go]
theorem zbi {I S T:Addr}{o:Obj}{es:Array (Int×Value)}{ep i:Nat}{t:SetTable}{f:Value}{vs:List Value}{Q:Option Value->Shared->Prop}(hI:s.heap.get? I=some (wB f i S es.size ep))(ho:s.heap.get? S=some o)(hd:o.data=.set es ep t)(hf:t.fits es.size=true)(hl:t.led= !(w.params.followText "set-order"))
  (F:wA w es ep t S T vs s.heap f i) (hv:vs.length=es.size) (lt:i<es.size)
  (hQ:∀h' f',h'.get? I=some (wB f' (i + 1) S es.size ep)->Heap.SameBut I s.heap h'->(∀h2:Heap,(∀b u,b≠I->s.heap.get? b=some u->h2.get? b=some u)->wA w es ep t S T vs h2 f' (i + 1))->Q vs[i]? {s with heap:=h'}):wpAny (model prog w) A (pyNext (.ref I)) Q E s:=by
 have tt:s.TypeIs (.ref I) "set_iterator":=⟨_,hI,rfl⟩;have lv:i<vs.length:=by lia
 unfold pyNext;refine xaa (xen (xcN (name:=Str.ofString "__next__") tt sG (xbE sG tt QG ?_ (QF _))));unfold Builtin.«set_iterator.__next__»;refine xaa (m:=slotArgs "__next__" 0 _) (xab (xaa (wpAny_fieldsOf hI rfl ?_)));dsimp only;refine xaa (xdt ho hd hf ?_);rw[xae (by simp)];refine xaa (xab ?_);have fin:∀(v f':Value) (s1:Shared),vs[i]? =some v->s1.heap.get? I=some (wB f' (i + 1) S es.size ep)->Heap.SameBut I s.heap s1.heap->s1={s with heap:=s1.heap}->(∀h2:Heap,(∀b u,b≠I->s.heap.get? b=some u->h2.get? b=some u)->wA w es ep t S T vs h2 f' (i + 1))->wpAny (model prog w) A (pure (some v)) Q E s1:=fun v f' s1 ev e1 sb es1 F'=>by
  have:=hQ s1.heap f' e1 sb F';rw[ev, <-es1]at this;exact xab this
 rcases F with⟨bt,rfl,ev⟩ |⟨bt,e1,ev,x,rfl,ex,_⟩ |⟨ps,oT,rfl,gT,dT,lp,ev,pl⟩
 ·dsimp only;rw[Cg];refine xaa (xaa (xbo ho hd hf ?_));dsimp only;refine xaa (wg ?_);rw[bt,xac rfl,xae (by simp),RD];refine xaa (xaa (xbo ho hd hf ?_));dsimp only;refine xaa (wg ?_);rw[bt,xac rfl];refine xaa (xc9 (xab ?_));have g:(pickOrder (w.params.setOrder S ep) es)[i]?.map (·.2)=some vs[i]:=by
   rw[<-xah lv]
   conv=>rhs;rw[ev]
   rw[xao,xaV]
  rw[xak]at g;obtain⟨⟨h0,v⟩,g1,g2⟩:=g;refine xab ?_
  replace g1:(pickOrder ((model prog w).w.params.setOrder S ep) es)[i]? =some (h0,v):=g1
  simp only[xby,g1,xbJ];refine xaa (xbk (k:=0) hI (xev _) fun h1 e1 s1=>?_);refine xaa (xbk (s:={s with heap:=h1}) (k:=1) e1 (xbt rfl) fun h2 e2 s2=>xab ⟨_,rfl,?_⟩);refine fin v (.int 0 0) {s with heap:=h2} ?_ ?_ (s1.trans s2) rfl fun h3 _=>.inl ⟨bt,rfl,ev⟩
  ·rw[xah lv];exact congrArg some g2.symm
  ·exact e2
 ·dsimp only;rw[Cg];refine xaa (xaa (xbo ho hd hf ?_));dsimp only;refine xaa (wg ?_);have z1:es.size=1:=by lia
  obtain rfl:i=0:=by lia
  obtain⟨p,hp⟩:∃p,t.place= #[p]:=by
   have:t.place.size=1:=by simp only[SetTable.fits,xaF,xbL]at hf;lia
   exact⟨t.place[0],Array.ext (by simpa using this) fun j h1 h2=>by simp at h2;subst h2;rfl⟩
  rw[bt,xae (by simp),xae (by simp[z1])];unfold G8;rw[xae (by simp[hl,bt])];refine xaa (xab (xab ?_));have e0:SetTable.below t.place x=0:=ex lt;have e0':es[0]? =some es[0]:=xb6 lt;rw[hp]at e0;simp only[xby,hp,e0,e0',show(#[p]:Array Nat)[0]? =some p from rfl];refine xaa (xbk (k:=0) hI (xev _) fun h1 e1 s1=>?_);refine xaa (xbk (s:={s with heap:=h1}) (k:=1) e1 (xbt rfl) fun h2 e2 s2=>xab ⟨_,rfl,?_⟩);refine fin _ (.int (p + 1:Nat) 0) {s with heap:=h2} ?_ ?_ (s1.trans s2) rfl fun h3 _=>.inr (.inl ⟨bt,by lia,ev,p + 1,rfl,fun z=>by lia,fun _=>?_⟩)
  ·rw[ev,xao,xaV,e0'];rfl
  ·exact e2
  ·rw[hp,Ke,xac (xba _)];lia
 ·have nl:i<ps.length:=by lia
  dsimp only;unfold seqItems?;refine xaa (xaa (xef gT ?_));rw[dT];refine xab ?_;have e0:(List.toArray (ps.map fun(p:Nat)=>rawInt p))[i]? =some (rawInt ps[i]):=by
   rw[xea,xao,xah nl];rfl
  simp only[xby,e0];dsimp only[rawInt];unfold setNextDrawn;refine xaa (xaa (xbo ho hd hf ?_));have pe:ps[i]<es.size:=pl _ (xbv nl);have e1':es[ps[i]]? =some es[ps[i]]:=xb6 pe;dsimp only;rw[xae (by simp)];simp only[xby,e1'];refine xab ?_;refine xaa (xbk (k:=1) hI (xbt rfl) fun h1 e1 s1=>xab ⟨_,rfl,?_⟩);refine fin _ (.ref T) {s with heap:=h1} ?_ ?_ s1 rfl fun h3 k3=>.inr (.inr ⟨ps,oT,rfl,k3 T oT ?_ gT,dT,lp,ev,pl⟩)
  ·rw[ev,xao,xah nl];simp[e1']
  ·exact e1
  ·rintro rfl;rw[hI]at gT;cases gT;cases dT
end
section
variable {prog:Program}{w:World}{A:Around}{E:Value->Shared->Prop}{s:Shared}
theorem zbI {I S T:Addr}{o:Obj}{es:Array (Int×Value)}{ep:Nat}{t:SetTable}{f:Value}{vs:List Value}{Q:Option Value->Shared->Prop}(hh:A.handled=none)(hI:s.heap.get? I=some (wB f es.size S es.size ep))(ho:s.heap.get? S=some o)(hd:o.data=.set es ep t)(hf:t.fits es.size=true)(hl:t.led= !(w.params.followText "set-order"))
  (F:wA w es ep t S T vs s.heap f es.size) (hv:vs.length=es.size)
  (hQ:∀h',Heap.ExtBut I s.heap h'->Q none {s with heap:=h'}):wpAny (model prog w) A (pyNext (.ref I)) Q E s:=by
 have tt:s.TypeIs (.ref I) "set_iterator":=⟨_,hI,rfl⟩;unfold pyNext;refine xaa (xen (xcN (name:=Str.ofString "__next__") tt sG (xbE sG tt QG ?_ (QF _))));unfold Builtin.«set_iterator.__next__»;refine xaa (m:=slotArgs "__next__" 0 _) (xab (xaa (wpAny_fieldsOf hI rfl ?_)));dsimp only;refine xaa (xdt ho hd hf ?_);rw[xae (by simp)];refine xaa (xab ?_);have stop:∀{s1:Shared},Heap.ExtBut I s.heap s1.heap->s1={s with heap:=s1.heap}->wpAny (model prog w) A.in1 (newExc (.type "StopIteration") [] >>=raiseNew) (fun fin s'=>∃v,fin=Fin.done (Flow.ret v)/\wpAny (model prog w) A (pure (some v)) Q E s')
   (fun e s'=>wpAny (model prog w) A (do if <-isInstance e (.type "StopIteration") then pure none else throw e) Q E s') s1:=fun {s1} hx es1=>by
  refine xaa ?_;simp only[newExc,newTuple];refine xaa (xa2 (xaa (m:=firstArgMember _ _) (wpAny_of_eq (a:=Value.none) (by first |rfl |(simp only[firstArgMember];rfl)) (xa2 ?_ (by size_fits)))) (by size_fits))
  simp only[raiseNew];refine xaa (wpAny_handled ?_);rw[show A.in1.handled=none from hh];refine xaa (xab (wpAny_throw ?_));refine xaa (wpAny_isInstance (T:="StopIteration") (b:=true) ⟨_,xav _ rfl,rfl⟩ isSubtype_stop (xab ?_));obtain⟨hp,g,d,tk,os⟩:=s1;cases es1;exact hQ _ ((hx.push _).push _)
 rcases F with⟨bt,rfl,ev⟩ |⟨bt,e1,ev,x,rfl,_,ex⟩ |⟨ps,oT,rfl,gT,dT,lp,ev,pl⟩
 ·dsimp only;rw[Cg];refine xaa (xaa (xbo ho hd hf ?_));dsimp only;refine xaa (wg ?_);rw[bt,xac rfl,xae (by simp),RD];refine xaa (xaa (xbo ho hd hf ?_));dsimp only;refine xaa (wg ?_);rw[bt,xac rfl];refine xaa (xc9 (xab (xab ?_)));have g:(pickOrder ((model prog w).w.params.setOrder S ep) es)[es.size]? =none:=by
   rw[xcw];have:=(O4 (w.params.setOrder S ep) es).length_eq;simp only[xai]at this;exact xdh this
  simp only[xby,g,Option.map_none];refine xaa (xbk (k:=2) hI (xbt rfl) fun h1 e1 s1=>stop (s1:={s with heap:=h1}) s1.extBut rfl)
 ·dsimp only;rw[Cg];refine xaa (xaa (xbo ho hd hf ?_));dsimp only;refine xaa (wg ?_);rw[bt,xae (by simp),xae (by simp;lia)];unfold G8;rw[xae (by simp[hl,bt])];refine xaa (xab (xab ?_));have e0:es[SetTable.below t.place x]? =none:=xcw.mpr (ex (xad _));simp only[xby,e0];refine xaa (xbk (k:=2) hI (xbt rfl) fun h1 e1 s1=>stop (s1:={s with heap:=h1}) s1.extBut rfl)
 ·dsimp only;unfold seqItems?;refine xaa (xaa (xef gT ?_));rw[dT];refine xab ?_;have e0:(List.toArray (ps.map fun(p:Nat)=>rawInt p))[es.size]? =none:=by
   rw[xea,xao,xbj (by lia)];rfl
  simp only[xby,e0];refine xaa (xbk (k:=0) hI (xbt rfl) fun h1 e1 s1=>?_);refine xaa (xbk (s:={s with heap:=h1}) (k:=2) e1 (xbt rfl) fun h2 e2 s2=>stop (s1:={s with heap:=h2}) (s1.trans s2).extBut rfl)
theorem za3 (hh:A.handled=none){I S T:Addr}{o:Obj}{es:Array (Int×Value)}{ep:Nat}{t:SetTable}{vs:List Value}(ne:S≠I)(hd:o.data=.set es ep t)(hf:t.fits es.size=true)(hl:t.led= !(w.params.followText "set-order"))(hv:vs.length=es.size):
  Walks prog w A I [I,S,T] [I] es.size (fun i v=>vs[i]? =some v) (fun i h=>∃f,h.get? I=some (wB f i S es.size ep)/\h.get? S=some o/\wA w es ep t S T vs h f i) where
 sub:=fun b hb=>by simp at hb;simp[hb]
 frame:=fun i h h' ⟨f,a,b,c⟩ k=>⟨f,k I (by simp) _ a,k S (by simp) _ b,c.imp id (xd4 id fun⟨ps,oT,e1,e2,r⟩=>⟨ps,oT,e1,k T (by simp) _ e2,r⟩)⟩
 item:=fun i s Q E lt ⟨f,a,b,c⟩ hQ=>zbi a b hd hf hl c hv lt fun h' f' e1 sb F'=>by
  have lv:i<vs.length:=by lia
  have kp:∀b u,b≠I->s.heap.get? b=some u->h'.get? b=some u:=fun b u nb e=>by rw[sb.2 b nb];exact e
  have:=hQ vs[i] h' s.toks (xah lv) ⟨f',e1,kp S _ ne b,F' h' kp⟩ fun b u nb e=>kp b u (fun z=>nb (by simp[z])) e;rw[xah lv];exact this
 done:=fun s Q E ⟨f,a,b,c⟩ hQ=>zbI hh a b hd hf hl c hv fun h' eb=>hQ h' s.toks fun b o hb e=>eb b o (fun z=>hb (by simp[z])) e
 self:=fun i s Q E ⟨f,a,_⟩ hQ=>wpAny_pyIter_slot ⟨_,a,rfl⟩ QD (xbE QD ⟨_,a,rfl⟩ zaj (xab ⟨_,rfl,"set_iterator",_,⟨_,a,rfl⟩,sG.lookup,hQ⟩) (zal _))
theorem zbJ {es:Array (Int×Value)}(hel:ElemsOf (PySem.strKind prog w) es.toList){vs:List Value}(p:vs.Perm (es.toList.map (·.2))):StrsAre vs (vs.map strOf)/\(vs.map strOf).Perm (txt es):=by
 refine⟨strsAre_map vs fun v hv=>?_,?_⟩
 ·obtain⟨e,he,rfl⟩:=xaw.mp (p.mem_iff.mp hv);obtain⟨⟨k,hk,_⟩,_⟩:=hel e he;obtain⟨t,e'⟩:=JR hk;exact⟨k,t,e'⟩
 ·have:=p.map strOf
  rwa [xbP]at this
theorem zbz {S:Addr}{o:Obj}{U:List Str}{Q:Value->Shared->Prop}(hh:A.handled=none)(ho:s.heap.get? S=some o)(ht:g8 prog w o U)(hu:U.length<64)
    (h:∀(h':Heap) d (I T:Addr) (vs:List Value) (n:Nat) (St:Nat->Heap->Prop),vs.length=n->(∀b u,s.heap.get? b=some u->h'.get? b=some u)->s.heap.objs.size<=I->(T=S\/s.heap.objs.size<=T)->Walks prog w A I [I,S,T] [I] n (fun i v=>vs[i]? =some v) St->St 0 h'->
      StrsAre vs (vs.map strOf)->(vs.map strOf).Nodup->(∀k,k∈vs.map strOf ↔ k∈U)->vs.length<=U.length->Q (.ref I) {s with heap:=h',drawn:=d}):wpAny (model prog w) A (pyIter (.ref S)) Q E s:=by
  obtain⟨hex,es,ep,t,hd,hel,nd,mem,len,hf,led,pl⟩:=ht;have hT:s.TypeIs (.ref S) "set":=⟨o,ho,hex.1⟩;have ls:=xan ho;have fin:∀(h':Heap) d (I T:Addr) (vs:List Value) (f:Value),vs.Perm (es.toList.map (·.2))->(∀b u,s.heap.get? b=some u->h'.get? b=some u)->s.heap.objs.size<=I->(T=S\/s.heap.objs.size<=T)->h'.get? I=some (wB f 0 S es.size ep)->wA w es ep t S T vs h' f 0->Q (.ref I) {s with heap:=h',drawn:=d}:=fun h' d I T vs f p k gI gT e F=>by
    obtain⟨a,b⟩:=zbJ hel p;have lv:vs.length=es.size:=by rw[p.length_eq,xaf,xai]
    exact h h' d I T vs _ _ lv k gI gT (za3 hh (xaC (xap ls gI)) hd hf led lv) ⟨f,e,k S o ho,F⟩ a (b.nodup_iff.mpr nd) (fun k=>by rw[b.mem_iff,mem]) (by lia)
  refine wpAny_pyIter_slot hT xeb (xbE xeb hT zai ?_ (PySem.F.args_set_iter_1 _));unfold Builtin.«frozenset.__iter__»;refine xaa (m:=Builtin.Frozenset.slot0 "__iter__" _) (xab (xaa (xaa (xdt ho hd hf (xab (xaa ?_))))));rw[T6];refine xaa (xbo ho hd hf (xaa (wg (xab ?_))))
  cases bt:w.params.followText "set-order" with
  |true=>
    simp only[Bool.not_true,xcL,xaM,xbb];refine xaa (xab (xaa (xdL ho hd hf ?_)));unfold newFields;refine xaa (xa2 ?_);refine xab ⟨_,rfl,"set_iterator",_,⟨_,xav _ rfl,rfl⟩,sG.lookup,?_⟩;exact fin _ s.drawn _ S _ (.int 0 0) ((O4 (w.params.setOrder S ep) es).map _) (fun b u e=>xag _ e) (xad _) (.inl rfl) (xav _ rfl) (.inl ⟨bt,rfl,rfl⟩)
  |false=>
    by_cases h2:es.size<=1
    · have c:(!t.plain && decide (es.size > 1))=false:=by rw[xaI (by lia),xcM]
      simp only[xec,xc5,c,xaM,xbb];refine xaa (xab (xaa (xdL ho hd hf ?_)));unfold newFields;refine xaa (xa2 ?_);refine xab ⟨_,rfl,"set_iterator",_,⟨_,xav _ rfl,rfl⟩,sG.lookup,?_⟩;refine fin _ s.drawn _ S _ (.int (0:Nat) 0) (.refl _) (fun b u e=>xag _ e) (xad _) (.inl rfl) (xav _ rfl) (.inr (.inl ⟨bt,h2,rfl,0,rfl,fun z=>?_,fun z=>by lia⟩));obtain⟨p,hp⟩:∃p,t.place= #[p]:=by
        have:t.place.size=1:=by simp only[SetTable.fits,xaF,xbL]at hf;lia
        exact⟨t.place[0],Array.ext (by simpa using this) fun j h1 h2=>by simp at h2;subst h2;rfl⟩
      rw[hp,Ke];rfl
    · have c:(!t.plain && decide (es.size > 1))=true:=by
        rw[pl.resolve_left (by lia),xaW (by lia)];rfl
      simp only[xec,xc5,c,xbi];refine xaa (RG es.size (List.range es.size) _ _ xbS.symm fun ps d p=>?_);refine xaa (xd6 ?_ (by rw[xaf,p.length_eq,xbS,xaX];lia));have g0:∀b u,s.heap.get? b=some u->(s.heap.push {cls:=.type "tuple",data:=.seq (List.toArray (ps.map fun(i:Nat)=>rawInt i))}).get? b=some u:=fun b u e=>xag _ e;refine xaa (xdL (s:={s with heap:=s.heap.push {cls:=.type "tuple",data:=.seq (List.toArray (ps.map fun(i:Nat)=>rawInt i))},drawn:=d}) (g0 S o ho) hd hf ?_);unfold newFields;refine xaa (xa2 ?_);refine xab ⟨_,rfl,"set_iterator",_,⟨_,xav _ rfl,rfl⟩,sG.lookup,?_⟩;have lp:ps.length=es.size:=by rw[p.length_eq,xbS]
      refine fin _ d _ s.heap.objs.size (ps.map fun p=>(es.getD p (0,.none)).2) (.ref s.heap.objs.size) ?_ (fun b u e=>xag _ (g0 b u e)) ?_ (.inr (xad _)) (xav _ rfl) (.inr (.inr ⟨ps,_,rfl,xag _ (xav _ rfl),rfl,lp,rfl,fun q hq=>?_⟩))
      · refine(p.map _).trans (.of_eq ?_);refine List.ext_getElem (by simp) fun j h1 h2=>?_;simp only[xaf,xbS]at h1
        simp[h1]
      · rw[xb8];exact xcW _
      · have:=p.mem_iff.mp hq
        rwa [xcK]at this
end
section
variable {prog:Program}{w:World}{A:Around}{E:Value->Shared->Prop}{s:Shared}
theorem zbt {r:Addr}{Q:Bool->Shared->Prop}(hT:s.TypeIs (.ref r) "set")(h:Q false s):wpAny (model prog w) A (Builtin.List.listLengthHint (.ref r)) Q E s:=by
 unfold Builtin.List.listLengthHint;refine xaa (wpAny_specialOf hT PySem.F.slot_set_len.lookup ?_);have hs:splitId "set.__len__"=some ("set","__len__"):=by kernel_rfl
 simp only[hs];refine xaa (wpAny_isInstance (b:=true) hT sub_set_self ?_);rw[xae (by decide),xac (by kernel_rfl)];exact xaa (wpAny_typeOf hT (xab h))
theorem zbG {S:Addr}{o:Obj}{U:List Str}{R:List Value->Shared->Prop}(hh:A.handled=none)(ho:s.heap.get? S=some o)(ht:g8 prog w o U)(hu:U.length<64)
    (q:∀(h':Heap) d tk (vs:List Value),(∀b u,s.heap.get? b=some u->h'.get? b=some u)->s.heap.objs.size<=h'.objs.size->StrsAre vs (vs.map strOf)->(vs.map strOf).Nodup->(∀k,k∈vs.map strOf ↔ k∈U)->vs.length<=U.length->R vs {s with heap:=h',drawn:=d,toks:=tk}):wpAny (model prog w) A (collect (.ref S)) R E s:=by
  have ls:=xan ho;unfold collect;refine xaa (wpAny_runValue (xcD entry_proto_collect' ?_));rw[xcv PySem.F.plain_proto_collect _];show wpAny _ A.in1 (newList [] >>=fun l=>again (.builtin "list.__iadd__" ⟨[l,.ref S],[]⟩)) _ _ s;refine xaa (xa2 (xab ⟨xeo xdX _,xcD entry_list_iadd' ?_⟩));rw[xcv xdX _];show wpAny _ A.in1 (Builtin.List.listExtendWith (.ref s.heap.objs.size) (.ref S) (.ref s.heap.objs.size)) _ _ _;have gD:(s.heap.push {cls:=.type "list",data:=.seq ([]:List Value).toArray}).get? s.heap.objs.size=some {cls:=.type "list",data:=.seq #[]}:=xav _ rfl;have gS:(s.heap.push {cls:=.type "list",data:=.seq ([]:List Value).toArray}).get? S=some o:=xag _ ho;unfold Builtin.List.listExtendWith;refine xaa (wpAny_typeOf (T:="set") ⟨o,gS,ht.1.1⟩ ?_);have h1:Builtin.List.listSameRef (.ref s.heap.objs.size) (.ref S)=false:=by simp[Builtin.List.listSameRef,xcb ls]
  have h2:(Value.type "set"==Value.type "list")=false:=by decide
  have h3:(Value.type "set"==Value.type "tuple")=false:=by decide
  simp only[h1,h2,h3,Bool.or_false,xaM,xbb];refine xaa (zbz (s:={s with heap:=s.heap.push {cls:=.type "list",data:=.seq ([]:List Value).toArray}}) (A:=A.in1) hh gS ht hu fun h' d I T vs n St lv k gI gT W st a nd mm le=>?_);have sz:(s.heap.push {cls:=.type "list",data:=.seq ([]:List Value).toArray}).objs.size=s.heap.objs.size + 1:=xb8 ..;have gD':=k _ _ gD;have nf:s.heap.objs.size∉ [I,S,T]:=by
    simp only[xar,xdU,or_false,not_or];rw[sz]at gI gT;exact⟨xaC gI,xcb ls,gT.elim (fun z=>z ▸ xcb ls) fun z=>xaC z⟩
  have key:∀(h2:Heap) c,St 0 h2->(∀b u,b≠s.heap.objs.size->h'.get? b=some u->h2.get? b=some u)->h2.get? s.heap.objs.size=some {cls:=.type "list",data:=.seq #[] c}->codeAny (model prog w) A (.builtin "list.extend.loop" ⟨[.ref s.heap.objs.size,.ref I,.ref s.heap.objs.size],[]⟩)
      (fun x s'=>∃h3 tk acc c,x=.ok (.ret (.ref s.heap.objs.size))/\s'={s with heap:=h3,drawn:=d,toks:=tk}/\(∀b u,s.heap.get? b=some u->h3.get? b=some u)/\h3.get? s.heap.objs.size=some {cls:=.type "list",dict:=none,data:=.seq acc c,slots:= #[]}/\acc.toList=vs) {s with heap:=h2,drawn:=d}:=fun h2 c st2 k2 g2=>by
    refine codeAny_extend_loopS W.toS (by rw[xaX];lia) _ nf _ n 0 _ #[] c rfl (xaS _) st2 g2 (ItemsOf.nil _) fun s' acc c' hm g3 it=>?_;refine⟨s'.heap,s'.toks,acc,c',rfl,?_,fun b u e=>?_,g3,?_⟩
    · obtain⟨hp,g,d',tk,os⟩:=s';have e1:g=s.gens:=hm.gens;have e2:d'=d:=hm.drawn;have e3:os=s.os:=hm.os;rw[e1,e2,e3]
    · have lt:=xan e;refine hm.heap b u ?_ (k2 b u (xaC lt) (k b u (xag _ e)));simp only[xar,xdU,or_false,not_or];rw[sz]at gI;exact⟨xaC lt,xaC (Nat.lt_trans lt gI)⟩
    · refine xeC fun j=>?_;rw[xaV]
      cases e:acc[j]? with
      |none=>
        have:=xcw.mp e;rw[it.1]at this;rw[xbj (by lia)]
      |some v=>exact(it.2 j v e).symm
  refine xaa (xbh (zbt ⟨_,k _ _ gS,ht.1.1⟩ ?_));rw[xac (by x_go)];have g2:=xbG (Obj.mapSeq (·.push Value.none)) gD' rfl;have g3:=xbG (Obj.mapSeq (·.pop)) g2 rfl;have k3:∀b u,b≠s.heap.objs.size->h'.get? b=some u->((h'.update s.heap.objs.size (Obj.mapSeq (·.push Value.none))).update s.heap.objs.size (Obj.mapSeq (·.pop))).get? b=some u:=fun b u nb e=>by
    rw[xds _ _ _ _ nb,xds _ _ _ _ nb];exact e
  refine xaa (xeh (xaa ?_));refine xaa (m:=updateSeq s.heap.objs.size (·.push .none)) (wpAny_updateSeq gD' rfl (wpAny_updateSeq (hz:=by seq_fits) g2 rfl ?_));refine xab ⟨xeo PySem.F.plain_extend_loop _,xcc (key _ _ (W.frame 0 _ _ st fun b hb u e=>k3 b u (fun z=>nf (z ▸ hb)) e) k3 g3) fun x s' z=>?_⟩;obtain⟨h3,tk,acc,c,rfl,rfl,g,e1,rfl⟩:=z;exact xaa (xef e1 (xab (q h3 d tk _ g (xa5 (xan e1)) a nd mm le)))
end
end L2
namespace L2
open PySem PySem.Spec PyProof.Rows E3
section
variable {prog:Program}{w:World}{A:Around}{E:Value->Shared->Prop}{s:Shared}
theorem zaF {S:Addr}{o:Obj}{U:List Str}{Q:Value->Shared->Prop}(hh:A.handled=none)(ho:s.heap.get? S=some o)(ht:g8 prog w o U)(hu:U.length<64)
  (q:∀(h':Heap) d tk c a (vs:List Value) (ss:List Str),Grows s.heap h'->s.heap.objs.size<=a->h'.get? a=some (seqObj "list" vs.toArray c)->StrsAre vs ss->ss.Nodup->(∀k,k∈ss ↔ k∈U)->sortedS ss=true->vs.length<64->Q (.ref a) {s with heap:=h',drawn:=d,toks:=tk}):
  wpAny (model prog w) A (call (.builtin "sorted") [.ref S]) Q E s:=by
 refine xcB kind_sorted plain_sorted entry_sorted (args_sorted1 _) ?_;unfold Builtin.«sorted»;refine xaa (m:=checkCount "sorted" 1 1 _) (xab (xaa (zbG (A:=A.in1) hh ho ht hu fun h1 d tk vs g z a nd mm le=>xaa (xc3 ?_ (by rw[xaX];lia)))));have at0:(h1.push (seqObj "list" vs.toArray 0)).get? h1.objs.size=some (seqObj "list" vs.toArray 0):=xav _ rfl;refine xaa (xbh (xbE slot_list_sort ⟨_,at0,rfl⟩ entry_list_sort (list_sort_treeK (s:={s with heap:=h1.push (seqObj "list" vs.toArray 0),drawn:=d,toks:=tk}) strKind_oneLt at0 a.keysOf (fun v₁ v₂ rest e=>keyKind_strs (by rw[<-e];exact a)) (by lia) fun st' hp hs=>?_) (args_list_sort _)));obtain⟨ss,a1,a2,a3⟩:=sorted_out_str a hp hs;obtain⟨c,e⟩:=sortedHeap_at (out:=(arrOf st').map (·.2)) at0;refine⟨_,rfl,xab ⟨_,rfl,q _ d tk c _ ((arrOf st').map (·.2)).toList ss (fun b u e=>?_) z e a1 (a2.nodup_iff.mpr nd) (fun k=>by rw[a2.mem_iff,mm]) a3 ?_⟩⟩
 ·have g':=g b u e;rw[sortedHeap_old (xaC (xan g')) (by rw[xb8];exact xcQ (xan g'))];exact xag _ g'
 ·have h1:ss.length=vs.length:=by rw[a2.length_eq,xaf]
  have h2:((arrOf st').map (·.2)).toList.length=ss.length:=by rw[<-a1.strs,xaf]
  lia
end
end L2
namespace E3
open PySem PySem.Spec PyProof.Rows L2 PySem.W
noncomputable def cY (x:Str):List Str->List Str
 | []=>[x]
 |y::l=>if x=y then y::l else if x.cps.toList<y.cps.toList then x::y::l else y::cY x l
abbrev nZ (x y:Str):Prop:=x.cps.toList<y.cps.toList
theorem Gw {x k:Str}:∀{l:List Str},k∈cY x l ↔ k=x\/k∈l
  | []=>by simp[cY]
  |y::l=>by
    unfold cY
    split
    · rename_i e;subst e;exact⟨.inr,fun h=>h.elim (fun h=>h ▸ xau) id⟩
    · split
      · exact xar
      · rw[xar,Gw,xar];exact⟨fun h=>h.elim (fun h=>.inr (.inl h)) fun h=>h.elim .inl fun h=>.inr (.inr h),fun h=>h.elim (fun h=>.inr (.inl h)) fun h=>h.elim .inl fun h=>.inr (.inr h)⟩
theorem NP {x y:Str}(h:¬ x=y)(g:¬ nZ x y):nZ y x:=by
 by_cases k:y.cps.toList<x.cps.toList
 ·exact k
 ·exact absurd (PySem.Str.ext' (xc8.mp (List.le_antisymm (xd1.mp k) (xd1.mp g)))) h
theorem MN {x:Str}:∀{l:List Str},l.Pairwise nZ->(cY x l).Pairwise nZ
  | [],_=>by simp[cY]
  |y::l,h=>by
    have h':=xbH.mp h;unfold cY
    split
    · exact h
    · rename_i e
      split
      · rename_i g;refine xbH.mpr ⟨fun z hz=>?_,h⟩;rcases xar.mp hz with rfl |hz
        · exact g
        · exact xc4 g (h'.1 z hz)
      · rename_i g;refine xbH.mpr ⟨fun z hz=>?_,MN h'.2⟩;rcases Gw.mp hz with rfl |hz
        · exact NP e g
        · exact h'.1 z hz
def cP (T:List Str):List Str:=T.foldr cY []
theorem Jm {k:Str}:∀{T:List Str},k∈cP T ↔ k∈T
  | []=>Iff.rfl
  |x::T=>by
    show k∈cY x (cP T) ↔ _;rw[Gw,Jm,xar]
theorem DK:∀{T:List Str},(cP T).Pairwise nZ
 | []=>.nil
 |x::T=>MN DK
theorem Pg:∀{l:List Str},sortedS l=true->l.Nodup->l.Pairwise nZ
  | [],_,_=>.nil
  | [x],_,_=>by simp
  |x::y::l,h,nd=>by
    have h1:(!ltCps y.cps.toList x.cps.toList && risingS y l)=true:=h;rw[xaF]at h1;have nd':=xbM.mp nd;have ih:=Pg (l:=y::l) h1.2 nd'.2;have xy:nZ x y:=NP (fun e=>nd'.1 (e ▸ xau)) (by have:=h1.1;rw[ltCps_eq]at this;simpa using this);refine xbH.mpr ⟨fun z hz=>?_,ih⟩;rcases xar.mp hz with rfl |hz
    · exact xy
    · exact xc4 xy ((xbH.mp ih).1 z hz)
theorem Pb {l:List Str}(h:l.Pairwise nZ):l.Nodup:=List.Pairwise.imp (fun {a b} (g:nZ a b) (e:a=b)=>xcr b.cps.toList (e ▸ g)) h
theorem zbe {T ss:List Str}(h:sortedS ss=true)(nd:ss.Nodup)(m:∀k,k∈ss ↔ k∈T):ss=cP T:=
 xcd (fun a b _ _ x y=>absurd (xc4 x y) (xcr _)) (Pg h nd) DK ((List.perm_ext_iff_of_nodup nd (Pb DK)).mpr fun k=>by rw[m,Jm])
section
variable {X:Cx}{Wx:XW}{m:Mode}{pos:Pos}
theorem boot_set:bootBuiltins "set"=some (.type "set"):=by kernel_rfl
def ZW (X:Cx):List V->Hp->VK->Prop:=fun xs H Q=>∃(a:Addr) (T:List Str),xs=[.ref a]/\bI X.K H a (T.map V.str)/\T.length<64/\∀l o,g8 X.prog X.w o T->H l=none->Q (.ref l) (upd H l (.frz o (.own l)))
theorem Q5:∀{T:List Str} {us:List Value},Vals (T.map V.str) us->StrsAre us T
 | [],_,.nil=>.nil
 |_::_,_,.cons ⟨t,e⟩ r=>e ▸ .cons _ t (Q5 r)
theorem RB:∀{T:List Str} {us:List Value},StrsAre us T->Vals (T.map V.str) us
 |_,_,.nil=>.nil
 |_,_,.cons _ t r=>.cons ⟨t,rfl⟩ (RB r)
theorem Te (hc:X.calm=true):dz X (.type "set") (ZW X):=by
 intro pins s σ H xs us Q I r h;obtain⟨a,T,rfl,hl,lt,q⟩:=h;obtain⟨u,rfl,rx⟩:=vals1 r;cases rx;obtain⟨its,rv,pl,hz⟩:=I.list hl;have ln:its.length=T.length:=by rw[<-rv.length,xaf]
 refine zb0 (I.ok.hd hc) pl.isList (Q5 rv) (by rw[xam];show _ + 1<4096;lia) fun h' o tk k e t=>?_;exact⟨.ref s.heap.objs.size,_,I.laid (t':=tk) (o:=.frz o (.own s.heap.objs.size)) k (xad _) ⟨e,_,e⟩,rfl,q _ o t (I.hok.fresh (xad _))⟩
def ZX (X:Cx):List V->Hp->VK->Prop:=fun xs H Q=>∃(r:Addr) (o:Obj) (T:List Str),xs=[.ref r]/\H r=some (.frz o (.own r))/\g8 X.prog X.w o T/\T.length<64/\∀l,H l=none->Q (.ref l) (upd H l (.lst ((cP T).map V.str)))
theorem Tf (hc:X.calm=true):dz X (.builtin "sorted") (ZX X):=by
 intro pins s σ H xs us Q I r h;obtain⟨v,o,T,rfl,hv,ht,lt,q⟩:=h;obtain⟨u,rfl,rx⟩:=vals1 r;cases rx;refine zaF (I.ok.hd hc) (I.hok v _ hv).1 ht lt fun h' d tk c a vs ss g ha e st nd mm so l64=>?_;rw[zbe so nd mm]at st;have I':Inv X pins σ H {s with drawn:=d}:=⟨I.ok,I.os,I.bare,I.base,I.loc,I.cell,I.free,I.freeC,I.pin,I.hok,I.len⟩;have rv:=RB st;exact⟨.ref a,_,I'.laid (t':=tk) (o:=.lst ((cP T).map V.str)) g ha ⟨by rw[rv.length,xaX];lia,_,c,rv,e⟩,rfl,q a (I.hok.fresh ha)⟩
theorem M7 {K:Fgx}{P:Pl}{H:Hp}:∀(T:List Str),aC K P H (T.map D.str) (T.map V.str)
 | []=>rfl
 |_::T=>⟨_,_,rfl,rfl,M7 T⟩
noncomputable def rG (f:E):E:=fun env M=>bnd (f env M) fun d M1=>match vw M1 d with
  | .lst ds => (match sJ ds with
    |some T=>if T.length<64 then some (.v (.lst ((cP T).map D.str)),M1) else none
    |none=>none)
  |_=>none
theorem zbq {e:Expr}{f:E}{p p1 q pos1:Pos}(hc:X.calm=true)(hm:X.mg "sorted"=none)(hm':X.mg "set"=none)(hg:Gl X "sorted")(hg':Gl X "set")(he:SE X Wx .bor e f)
  (hs:starEach [e] X.env=(false,eval e X.env)::starEach [] X.env:=by rfl) (hs':starEach [.Call (.Name "set" p) [e] [] q] X.env=(false,eval (.Call (.Name "set" p) [e] [] q) X.env)::starEach [] X.env:=by rfl):SN X Wx (.Call (.Name "sorted" p1) [.Call (.Name "set" p) [e] [] q] [] pos1) (rG f):=by
 refine cA (Cw (Tf hc) hg hm boot_sorted (pB (HD (Te hc) hg' hm' boot_set (pB he rD hs) (by x_go) (by x_go) hs rfl) rD hs') (by x_go) (by x_go) hs' rfl) ?_;rintro st H Q ⟨P0,H0,P,Os,env,M,r,M',k,e,q⟩;unfold rG at e;rcases cG e with⟨d,M1,e1,e⟩ |⟨c,n,e1,rfl⟩
 ·refine bf k e1 fun P1 v1 H1 l1 h1 i1=>?_;have iw:=cF.vw h1 i1;split at e
  ·rename_i ds ev;split at e
   ·rename_i T eT;split at e
    ·rename_i lt;cases e;obtain⟨ds',e',q⟩:=q;cases e';rw[ev]at iw;obtain⟨a,vs,rfl,sq,is⟩:=iw;rw[Jt eT is]at sq;refine⟨a,T,rfl,sq,lt,fun v o t hv=>?_⟩;have s1:=rZ (o:=.frz o (.own v)) hv;have h2:=h1.same s1;have l2:=l1.trans (LtE.same s1);refine⟨v,o,T,rfl,dw,t,lt,fun l hl=>?_⟩;obtain⟨l3,h3,nc⟩:=sW (vs:=(cP T).map V.str) h2 hl;exact q (P1.bar l) l _ _ (l2.trans l3) h3 (l2.sure l hl) (.inr rfl) nc dw (M7 _)
    ·cases e
   ·cases e
  ·cases e
 ·exact bf k e1 q
theorem zbW {f:E}:∀env M r M',rG f env M=some (.v r,M')->∃ds,r=.lst ds:=fun env M r M' e=>by
 unfold rG at e;rcases cG e with⟨d,M1,_,e⟩ |⟨c,n,_,h⟩
 ·split at e
  ·split at e
   ·split at e
    ·cases e;exact⟨_,rfl⟩
    ·cases e
   ·cases e
  ·cases e
 ·cases h
end
end E3
namespace My
open PySem PySem.Spec PyProof.Rows L2 E3
noncomputable def zaD:List (Str×D):=[("+",(.tup [(.str "number"),(.str "number"),(.int 2)])),("-",(.tup [(.str "number"),(.str "number"),(.int 2)])),("*",(.tup [(.str "number"),(.str "number"),(.int 2)])),("least",(.tup [(.str "number"),(.str "number"),(.int 2)])),("most",(.tup [(.str "number"),(.str "number"),(.int 2)])),("<",(.tup [(.str "truth"),(.str "number"),(.int 2)])),("=",(.tup [(.str "truth"),(.str "number"),(.int 2)])),("not",(.tup [(.str "truth"),(.str "truth"),(.int 1)])),("and",(.tup [(.str "truth"),(.str "truth"),(.int 2)])),("or",(.tup [(.str "truth"),(.str "truth"),(.int 2)]))]
noncomputable def top (i:Nat):Stmt:=PySem.Challenge.pw_rowdam_k44_gaps.main.body.getD i (.Pass ⟨0,0,0,0⟩)
noncomputable def yj:List Str:=["int","min","max","isinstance","bool","len","sum","sorted","set","range","tuple","list","str"]
noncomputable def lO (s:Stmt) (j:Nat):Stmt:=match s with
 |.ClassDef _ _ _ body _ _ _ _ _ _ _=>body.getD j s
 |_=>s
structure Ad where
 GapStation:Addr
 Station:Addr
 DamError:Addr
 NoExpr:Addr
structure Txt (K:Fgx)(mg:Mgx)(C:Ad)(w:World):Prop where
 blt:∀b∈yj,mg b=none
 cl_GapStation:ClsOk K mg "GapStation" C.GapStation
 cl_Station:ClsOk K mg "Station" C.Station
 na_GapStation_fold:kZ K C.GapStation "fold"
 na_GapStation_gap:kZ K C.GapStation "gap"
 na_GapStation_kept:kZ K C.GapStation "kept"
 na_GapStation_marks:kZ K C.GapStation "marks"
 xm_DamError:mg "DamError"=some (.ref C.DamError)
 xc_DamError:kY K C.DamError=true
 xm_NoExpr:mg "NoExpr"=some (.ref C.NoExpr)
 xc_NoExpr:kY K C.NoExpr=true
 xn_NoExpr:RJ K C.NoExpr=true
 xk_NoExpr:PySem.W.keepIn K (.ref C.NoExpr)=true
 xs_NoExpr:Ed K C.NoExpr=true
 k_ALL_LETTERS:∃a,mg "ALL_LETTERS"=some (.ref a)/\∀P H,Is K P H (.tup [(.str "t"),(.str "v"),(.str "w")]) (.ref a)
 k_NEEDS:∃a,mg "NEEDS"=some (.ref a)/\KTab K w a zaD
 k_FIGURES:∃t,mg "FIGURES"=some (.str "0123456789" t)
 k_MOST_FIGURES:∃t,mg "MOST_FIGURES"=some (.int 20 t)
 k_MOST_VALUE:∃t,mg "MOST_VALUE"=some (.int 1000000000000000000000000000000000000000000000000000000000000 t)
 k_LAST:∃t,mg "LAST"=some (.int 1000000000000000 t)
 k_LETTERS:∃t,mg "LETTERS"=some (.str "abcdefghijklmnopqrstuvwxyz" t)
 k_COND_LETTERS:∃t,mg "COND_LETTERS"=some (.str "tv" t)
structure MetAt (K:Fgx)(C:Addr)(x q:Str)(st:Stmt)(ps:List Str)(f:Addr)(fd:FuncData):Prop where
 M:Meth K C x f
 F:FunD K x q st f fd
 b:Binds K fd ps []
structure IniAt (K:Fgx)(C:Addr)(q:Str)(st:Stmt)(ps:List Str)(f:Addr)(fd:FuncData):Prop where
 M:Mk K C f
 F:FunD K "__init__" q st f fd
 b:Binds K fd ps []
structure MetAtD (K:Fgx)(C:Addr)(x q:Str)(st:Stmt)(ps:List Str)(dd:List D)(f:Addr)(fd:FuncData):Prop where
 M:Meth K C x f
 F:FunD K x q st f fd
 b:Binds K fd ps []
 bd:∃(dv:List V) (du:List Value),Binds K fd ps du/\Vals dv du/\(∀P H,aC K P H dd dv)/\dv.length=dd.length
noncomputable def Gy (t:String):Option Bool:=if t="int" then some false else if t="bool" then some true else if t="str" then some false else if t="list" then some false else if t="tuple" then some false else if t="NoneType" then some false else if t="dict" then some false else none
theorem Vi {K:Fgx}:∀t b,Gy t=some b->PySem.W.kitOne K (.type t) (.type "bool")=some b:=by
 intro t b h;unfold Gy at h;split at h
 ·rename_i e;subst e;cases h;kernel_rfl
 split at h
 ·rename_i e;subst e;cases h;kernel_rfl
 split at h
 ·rename_i e;subst e;cases h;kernel_rfl
 split at h
 ·rename_i e;subst e;cases h;kernel_rfl
 split at h
 ·rename_i e;subst e;cases h;kernel_rfl
 split at h
 ·rename_i e;subst e;cases h;kernel_rfl
 split at h
 ·rename_i e;subst e;cases h;kernel_rfl
 cases h
noncomputable def Gz (t:String):Option Bool:=if t="int" then some true else if t="bool" then some true else if t="str" then some false else if t="list" then some false else if t="tuple" then some false else if t="NoneType" then some false else if t="dict" then some false else none
theorem Vj {K:Fgx}:∀t b,Gz t=some b->PySem.W.kitOne K (.type t) (.type "int")=some b:=by
 intro t b h;unfold Gz at h;split at h
 ·rename_i e;subst e;cases h;kernel_rfl
 split at h
 ·rename_i e;subst e;cases h;kernel_rfl
 split at h
 ·rename_i e;subst e;cases h;kernel_rfl
 split at h
 ·rename_i e;subst e;cases h;kernel_rfl
 split at h
 ·rename_i e;subst e;cases h;kernel_rfl
 split at h
 ·rename_i e;subst e;cases h;kernel_rfl
 split at h
 ·rename_i e;subst e;cases h;kernel_rfl
 cases h
noncomputable def GD (t:String):Option Bool:=if t="int" then some false else if t="bool" then some false else if t="str" then some false else if t="list" then some true else if t="tuple" then some false else if t="NoneType" then some false else if t="dict" then some false else none
theorem Vk {K:Fgx}:∀t b,GD t=some b->PySem.W.kitOne K (.type t) (.type "list")=some b:=by
 intro t b h;unfold GD at h;split at h
 ·rename_i e;subst e;cases h;kernel_rfl
 split at h
 ·rename_i e;subst e;cases h;kernel_rfl
 split at h
 ·rename_i e;subst e;cases h;kernel_rfl
 split at h
 ·rename_i e;subst e;cases h;kernel_rfl
 split at h
 ·rename_i e;subst e;cases h;kernel_rfl
 split at h
 ·rename_i e;subst e;cases h;kernel_rfl
 split at h
 ·rename_i e;subst e;cases h;kernel_rfl
 cases h
noncomputable def GJ (t:String):Option Bool:=if t="int" then some false else if t="bool" then some false else if t="str" then some false else if t="list" then some false else if t="tuple" then some true else if t="NoneType" then some false else if t="dict" then some false else none
theorem Vl {K:Fgx}:∀t b,GJ t=some b->PySem.W.kitOne K (.type t) (.type "tuple")=some b:=by
 intro t b h;unfold GJ at h;split at h
 ·rename_i e;subst e;cases h;kernel_rfl
 split at h
 ·rename_i e;subst e;cases h;kernel_rfl
 split at h
 ·rename_i e;subst e;cases h;kernel_rfl
 split at h
 ·rename_i e;subst e;cases h;kernel_rfl
 split at h
 ·rename_i e;subst e;cases h;kernel_rfl
 split at h
 ·rename_i e;subst e;cases h;kernel_rfl
 split at h
 ·rename_i e;subst e;cases h;kernel_rfl
 cases h
noncomputable def aQ (t T:String):Option Bool:=if T="bool" then Gy t else if T="int" then Gz t else if T="list" then GD t else if T="tuple" then GJ t else none
theorem Ng:aQ "int" "bool"=some false:=by x_go
theorem Nh:aQ "int" "int"=some true:=by x_go
theorem zb3:aQ "int" "list"=some false:=by x_go
theorem zbH:aQ "int" "tuple"=some false:=by x_go
theorem zbR:aQ "bool" "bool"=some true:=by x_go
theorem zb2:aQ "bool" "int"=some true:=by x_go
theorem zbZ:aQ "bool" "list"=some false:=by x_go
theorem za9:aQ "bool" "tuple"=some false:=by x_go
theorem zb4:aQ "str" "bool"=some false:=by x_go
theorem zb9:aQ "str" "int"=some false:=by x_go
theorem zb6:aQ "str" "list"=some false:=by x_go
theorem zbv:aQ "str" "tuple"=some false:=by x_go
theorem zbM:aQ "list" "bool"=some false:=by x_go
theorem zb5:aQ "list" "int"=some false:=by x_go
theorem GR:aQ "list" "list"=some true:=by x_go
theorem zba:aQ "list" "tuple"=some false:=by x_go
theorem zbb:aQ "tuple" "bool"=some false:=by x_go
theorem zbX:aQ "tuple" "int"=some false:=by x_go
theorem zbc:aQ "tuple" "list"=some false:=by x_go
theorem Ni:aQ "tuple" "tuple"=some true:=by x_go
theorem zay:aQ "NoneType" "bool"=some false:=by x_go
theorem zaM:aQ "NoneType" "int"=some false:=by x_go
theorem zaB:aQ "NoneType" "list"=some false:=by x_go
theorem zax:aQ "NoneType" "tuple"=some false:=by x_go
theorem zbj:aQ "dict" "bool"=some false:=by x_go
theorem zb1:aQ "dict" "int"=some false:=by x_go
theorem zbQ:aQ "dict" "list"=some false:=by x_go
theorem za8:aQ "dict" "tuple"=some false:=by x_go
theorem q_ {K:Fgx}:∀t T b,aQ t T=some b->PySem.W.kitOne K (.type t) (.type T)=some b:=by
 intro t T b h;unfold aQ at h;split at h
 ·rename_i e;subst e;exact Vi t b h
 split at h
 ·rename_i e;subst e;exact Vj t b h
 split at h
 ·rename_i e;subst e;exact Vk t b h
 split at h
 ·rename_i e;subst e;exact Vl t b h
 cases h
abbrev Dp:Stmt:=top 34
theorem Qp:FnScope ["row"] ["row"] (aN Dp):=c7
noncomputable def Fp:S:=(ao (aM (aV (au (sN g_ (au (s2 aH (s2 aH (aj 0) (ak (.int 3))) (ak (.int 0))) aq)) (au (s2 aH (s2 aH (aj 0) (ak (.int 3))) (ak (.int 1))) aq)))) aA)
def p8:G:=b_ 1 Fp
abbrev Dq:Stmt:=top 40
theorem Qq:FnScope ["thing"] ["thing"] (aN Dq):=c7
noncomputable def Fq:S:=(ao (aM (aV (au (ak (.str "thing")) (au (s2 aH (aj 0) (ak (.int 0))) (au (s2 aH (aj 0) (ak (.int 1))) (au (s2 aH (aj 0) (ak (.int 2))) aq)))))) aA)
def Bk:G:=b_ 1 Fq
abbrev Dm:Stmt:=top 49
theorem Qo:FnScope ["fold","value"] ["fold","value"] (aN Dm):=c7
noncomputable def Fo:S:=(ao (aM (pD (s2 (aG .eq) (aj 0) (ak (.str "count"))) (ak (.int 1)) (aj 1))) aA)
def wQ:G:=b_ 2 Fo
abbrev Dr:Stmt:=top 50
theorem Qt:FnScope ["fold","one","other"] ["fold","one","other"] (aN Dr):=c7
noncomputable def Ft:S:=(ao (cC (s2 (aG .eq) (aj 0) (ak (.str "most"))) (ao (aM (sN lJ (au (aj 1) (au (aj 2) aq)))) aA) aA) (ao (cC (s2 (aG .eq) (aj 0) (ak (.str "least"))) (ao (aM (sN h_ (au (aj 1) (au (aj 2) aq)))) aA) aA) (ao (aM (s2 aW (aj 1) (aj 2))) aA)))
def wR:G:=b_ 3 Ft
abbrev rH:Stmt:=lO (top 41) 0
theorem Pz:FnScope ["self","row"] ["self","row"] (aN rH):=c7
noncomputable def Ew:S:=(ao (eY "GapStation" "marks" (aj 0) (rE (Ja (aX (au (ak (.int 0)) aq)) (sN fB (au (s2 aH (aj 1) (ak (.int 2))) aq))))) aA)
def yF:G:=b_ 2 Ew
abbrev rJ:Stmt:=lO (top 54) 0
theorem PB:FnScope ["self","row","rest"] ["self","row"] (aN rJ):=c7
noncomputable def Aj:S:=(ao (CV (cg yF (au (aj 0) (au (aj 1) aq)))) (ao (aU 2 (cg p8 (au (aj 1) aq))) (ao (eY "GapStation" "gap" (aj 0) (s2 aH (aj 2) (ak (.int 0)))) (ao (eY "GapStation" "fold" (aj 0) (s2 aH (aj 2) (ak (.int 1)))) (ao (eY "GapStation" "kept" (aj 0) (aX aq)) aA)))))
def wI:G:=b_ 3 Aj
abbrev Ds:Stmt:=top 56
theorem Qu:FnScope ["row"] ["row"] (aN Ds):=c7
noncomputable def Fv:S:=(ao (cC (s2 (aG .eq) (s2 aH (aj 0) (ak (.int 0))) (ak (.str "keep"))) (ao pF aA) aA) (ao (cC (s2 (aG .eq) (s2 aH (aj 0) (ak (.int 0))) (ak (.str "turn"))) (ao pF aA) aA) (ao (cC (s2 (aG .eq) (s2 aH (aj 0) (ak (.int 0))) (ak (.str "share"))) (ao pF aA) aA) (ao (cC (s2 (aG .eq) (s2 aH (aj 0) (ak (.int 0))) (ak (.str "pour"))) (ao pF aA) aA) (ao (cC (s2 (aG .isin) (s2 aH (aj 0) (ak (.int 0))) (aV (au (ak (.str "fixed")) (au (ak (.str "slide")) aq)))) (ao pF aA) aA) (ao (cC (s2 (aG .eq) (s2 aH (aj 0) (ak (.int 0))) (ak (.str "gap"))) (ao (aM (u5 "GapStation" wI (au (aj 0) aq))) aA) aA) (ao (cC (s2 (aG .eq) (s2 aH (aj 0) (ak (.int 0))) (ak (.str "join"))) (ao pF aA) aA) (ao pF aA))))))))
def yH:G:=b_ 1 Fv
abbrev Dl:Stmt:=top 58
theorem Qn:FnScope ["_law_found"] ["_law_found"] (aN Dl):=c7
noncomputable def Fl:S:=(ao (aM (dD (dW aQ "int" (aj 0)) (C_ (dW aQ "bool" (aj 0))))) aA)
def mJ:G:=b_ 1 Fl
abbrev Dc:Stmt:=top 59
theorem Qe:FnScope ["_law_script","_law_k"] ["_law_script","_law_k"] (aN Dc):=c7
noncomputable def Ey:S:=(ao (cC (s2 (aG .lt) (aj 1) (sN fB (au (aj 0) aq))) (ao (aM (s2 aH (aj 0) (aj 1))) aA) aA) (ao (aM (ak (.int 0))) aA))
def tQ:G:=b_ 2 Ey
abbrev Df:Stmt:=top 60
theorem Qh:FnScope ["_law_fold_here","_law_values"] ["_law_fold_here","_law_values"] (aN Df):=c7
noncomputable def E_:S:=(ao (cC (s2 (aG .eq) (aj 0) (ak (.str "count"))) (ao (aM (sN fB (au (aj 1) aq))) aA) aA) (ao (cC (s2 (aG .eq) (aj 0) (ak (.str "most"))) (ao (aM (sN yg (au (aj 1) aq))) aA) aA) (ao (cC (s2 (aG .eq) (aj 0) (ak (.str "least"))) (ao (aM (sN sV (au (aj 1) aq))) aA) aA) (ao (aM (sN lM (au (aj 1) aq))) aA))))
def nR:G:=b_ 2 E_
abbrev zN:Stmt:=top 61
theorem Qf:FnScope ["_law_things","_law_gap","_law_runs","_law_key","_law_time","_law_value"] ["_law_things","_law_gap"] (aN zN):=c7
theorem zag:LC zN "_law_key":=by kernel_rfl
noncomputable def yL:S:=(ao (cC (dD (s2 (aG .ne) (aj 2) (aX aq)) (dD (s2 (aG .eq) (s2 aH (s2 aH (aj 2) (s1 bY (ak (.int 1)))) (ak (.int 2))) (aj 3)) (s2 (aG .lt) (s2 dN (aj 4) (s2 aH (s2 aH (aj 2) (s1 bY (ak (.int 1)))) (ak (.int 1)))) (aj 1)))) (ao (mU (aj 2) (s1 bY (ak (.int 1))) (aV (au (s2 aH (s2 aH (aj 2) (s1 bY (ak (.int 1)))) (ak (.int 0))) (au (aj 4) (au (aj 3) (au (s2 aW (s2 aH (s2 aH (aj 2) (s1 bY (ak (.int 1)))) (ak (.int 3))) (aX (au (aj 5) aq))) aq)))))) aA) (ao (fW (aj 2) (aV (au (aj 4) (au (aj 4) (au (aj 3) (au (aX (au (aj 5) aq)) aq)))))) aA)) aA)
noncomputable def sY:E:=(s2 (aG .eq) (s2 aH (aj 0) (ak (.int 1))) (aj 1))
noncomputable def yt:E:=(aV (au (s2 aH (aj 0) (ak (.int 0))) (au (s2 aH (aj 0) (ak (.int 2))) aq)))
noncomputable def yM:S:=(ao (xH [4,5] (bR (kJ (lV 1000 [("_law_key",3)] (aj 0) sY yt))) yL) aA)
def Gf:E:=(s2 aH (aj 0) (ak (.int 1)))
noncomputable def Ez:S:=(ao (aU 2 (rE (aX aq))) (ao (gw 3 (bR (rG (mR 1000 [] (aj 0) Gf))) yM) (ao (aM (aj 2)) aA)))
def j_:G:=b_ 6 Ez
abbrev Dh:Stmt:=top 62
theorem Qj:FnScope ["_law_cell","_law_size","_law_word","_law_place"] ["_law_cell"] (aN Dh):=c7
noncomputable def Bg:E:=(s2 aH (ak (.str "kbzqaxmp")) (s2 oMod (s2 aW (s2 lq (aj 1) (ak (.int 8))) (aj 0)) (ak (.int 8))))
noncomputable def Fe:S:=(ao (aU 1 (s2 aW (ak (.int 1)) (s2 oMod (aj 0) (ak (.int 8))))) (ao (aU 2 (CZ zZ (ak (.str "")) (au (kI [("_law_cell",0)] (wU (au (aj 1) aq)) (ak (.bl true)) Bg) aq))) (ao (aU 3 (s2 oMod (s2 lq (aj 0) (ak (.int 64))) (aj 1))) (ao (aM (aX (au (aj 2) (au (s2 aW (s2 aW (xK (aj 2) xg (pA (aj 3))) (ak (.str "c"))) (xK (aj 2) (pA (s2 aW (aj 3) (ak (.int 1)))) xg)) (au (ak (.str "zebra")) aq))))) aA))))
def yG:G:=b_ 4 Fe
abbrev Dd:Stmt:=top 63
theorem Qg:FnScope ["_law_things","_law_gap","_law_fold_here","_law_low","_law_high","_law_found","_law_first","_law_last","_law_key","_law_values"] ["_law_things","_law_gap","_law_fold_here","_law_low","_law_high"] (aN Dd):=c7
noncomputable def yN:S:=(ao (cC (dD (s2 (aG .lt) (aj 3) (s2 aW (aj 7) (aj 1))) (s2 (aG .le) (s2 aW (aj 7) (aj 1)) (aj 4))) (ao (kE 5 (aV (au (ak (.str "thing")) (au (s2 dN (s2 aW (aj 7) (aj 1)) (ak (.int 1))) (au (aj 8) (au (cg nR (au (aj 2) (au (aj 9) aq))) aq)))))) aA) aA) aA)
noncomputable def EY:S:=(ao (xJ 5 (aX aq)) (ao (rF 1000 [6,7,8,9] (cg j_ (au (aj 0) (au (aj 1) aq))) yN) (ao (lW 5) (ao (aM (kJ (aj 5))) aA))))
def pY:G:=b_ 10 EY
abbrev Dk:Stmt:=top 64
theorem Qm:FnScope ["_law_things","_law_gap","_law_fold_here","_law_low","_law_found","_law_first","_law_last","_law_key","_law_values"] ["_law_things","_law_gap","_law_fold_here","_law_low"] (aN Dk):=c7
noncomputable def yP:S:=(ao (cC (s2 (aG .gt) (s2 aW (aj 6) (aj 1)) (aj 3)) (ao (kE 4 (aV (au (aj 5) (au (aj 6) (au (aj 7) (au (cg nR (au (aj 2) (au (aj 8) aq))) aq)))))) aA) aA) aA)
noncomputable def Fj:S:=(ao (xJ 4 (aX aq)) (ao (rF 1000 [5,6,7,8] (cg j_ (au (aj 0) (au (aj 1) aq))) yP) (ao (lW 4) (ao (aM (kJ (aj 4))) aA))))
def wO:G:=b_ 9 Fj
abbrev Di:Stmt:=top 65
theorem Qk:FnScope ["_law_found","_law_item"] ["_law_found"] (aN Di):=c7
noncomputable def yO:S:=(ao (cC (lA (cD (cj (dW aQ "tuple" (aj 1)))) (lA (cD (cj (cg mJ (au (s2 aH (aj 1) (ak (.int 1))) aq)))) (cD (cj (cg mJ (au (s2 aH (aj 1) (s1 bY (ak (.int 1)))) aq)))))) (ao (aM (ak (.bl false))) aA) aA) aA)
noncomputable def Fg:S:=(ao (cC (cD (cj (dW aQ "list" (aj 0)))) (ao (aM (ak (.bl false))) aA) aA) (ao (gw 1 (bR (aj 0)) yO) (ao (aM (ak (.bl true))) aA)))
def p7:G:=b_ 2 Fg
abbrev rK:Stmt:=lO (top 54) 4
theorem PJ:FnScope ["self"] ["self"] (aN rK):=c7
noncomputable def Ak:S:=(ao (aM (rE (kJ (bN "GapStation" "kept" (aj 0))))) aA)
def tM:G:=b_ 1 Ak
abbrev rQ:Stmt:=lO (top 41) 9
theorem PX:FnScope ["self"] ["self"] (aN rQ):=c7
noncomputable def Av:S:=(ao (aM (aV (au (rE (CW (bN "GapStation" "marks" (aj 0)))) (au (bx "GapStation" "all_kept" tM (aj 0) aq) aq)))) aA)
def wL:G:=b_ 1 Av
abbrev Dj:Stmt:=top 65
theorem Ql:FnScope ["_law_found","_law_item"] ["_law_found"] (aN Dj):=c7
noncomputable def Bt:S:=(ao (cC (lA (cD (cj (dW aQ "tuple" (aj 1)))) (lA (cD (cj (cg mJ (au (s2 aH (aj 1) (ak (.int 1))) aq)))) (cD (cj (cg mJ (au (s2 aH (aj 1) (s1 bY (ak (.int 1)))) aq)))))) (ao (aM (ak (.bl false))) aA) aA) aA)
noncomputable def Fi:S:=(ao (cC (cD (cj (dW aQ "list" (aj 0)))) (ao (aM (ak (.bl false))) aA) aA) (ao (xG 1000 1 (aj 0) Bt) (ao (aM (ak (.bl true))) aA)))
def wN:G:=b_ 2 Fi
abbrev Dg:Stmt:=top 66
theorem Qi:FnScope ["_law_station","_law_mark","_law_due","_law_found"] ["_law_station","_law_mark","_law_due"] (aN Dg):=c7
def BX:S:=(ao (aM (ak (.bl true))) aA)
noncomputable def Og:S:=(ao (fW (s2 aH (aj 3) (ak (.int 1))) (ak (.int 7))) BX)
noncomputable def Oe:S:=(ao (fW (s2 aH (aj 3) (ak (.int 0))) (ak (.int 7))) Og)
noncomputable def Od:S:=(ao (cC (lA (cD (cj (dW aQ "list" (s2 aH (aj 3) (ak (.int 1)))))) (lA (cD (cj (cg wN (au (s2 aH (aj 3) (ak (.int 1))) aq)))) (s2 (aG .ne) (s2 aH (aj 3) (ak (.int 1))) (aj 2)))) (ao (aM (ak (.bl false))) aA) aA) Oe)
noncomputable def Oc:S:=(ao (cC (lA (cD (cj (dW aQ "tuple" (aj 3)))) (lA (s2 (aG .ne) (sN fB (au (aj 3) aq)) (ak (.int 2))) (s2 (aG .ne) (s2 aH (aj 3) (ak (.int 0))) (aX (au (aj 1) aq))))) (ao (aM (ak (.bl false))) aA) aA) Od)
noncomputable def Fb:S:=(ao (aU 3 (bx "GapStation" "state" wL (aj 0) aq)) Oc)
def pZ:G:=b_ 4 Fb
abbrev rO:Stmt:=lO (top 54) 1
theorem PL:FnScope ["self","span","thing"] ["self","span","thing"] (aN rO):=c7
noncomputable def Ao:S:=(ao (aM (dD (s2 (aG .eq) (s2 aH (aj 1) (ak (.int 2))) (s2 aH (aj 2) (ak (.int 1)))) (fM .lt .lt (s2 dN (s2 aH (aj 1) (ak (.int 0))) (bN "GapStation" "gap" (aj 0))) (s2 aH (aj 2) (ak (.int 0))) (s2 aW (s2 aH (aj 1) (ak (.int 1))) (bN "GapStation" "gap" (aj 0)))))) aA)
def wK:G:=b_ 3 Ao
abbrev pH:Stmt:=lO (top 54) 2
theorem Qc:FnScope ["self","way","thing","first","last","part","apart","span"] ["self","way","thing"] (aN pH):=c7
theorem zaa:LV pH "apart":=by kernel_rfl
noncomputable def yK:S:=(ao (cC (cj (bx "GapStation" "is_near" wK (aj 0) (au (aj 7) (au (aj 2) aq)))) (ao (aU 3 (sN h_ (au (aj 3) (au (s2 aH (aj 7) (ak (.int 0))) aq)))) (ao (aU 4 (sN lJ (au (aj 4) (au (s2 aH (aj 7) (ak (.int 1))) aq)))) (ao (aU 5 (cg wR (au (bN "GapStation" "fold" (aj 0)) (au (aj 5) (au (s2 aH (aj 7) (ak (.int 3))) aq))))) aA))) (ao (kE 6 (aj 7)) aA)) aA)
noncomputable def Aw:S:=(ao (aU 3 (s2 aH (aj 2) (ak (.int 0)))) (ao (aU 4 (s2 aH (aj 2) (ak (.int 0)))) (ao (aU 5 (cg wQ (au (bN "GapStation" "fold" (aj 0)) (au (s2 aH (aj 2) (ak (.int 2))) aq)))) (ao (xJ 6 (aX aq)) (ao (gw 7 (bR (bN "GapStation" "kept" (aj 0))) yK) (ao (eY "GapStation" "kept" (aj 0) (s2 aW (xM 6) (aX (au (aV (au (aj 3) (au (aj 4) (au (s2 aH (aj 2) (ak (.int 1))) (au (aj 5) aq))))) aq)))) (ao (aM (aX aq)) aA)))))))
def wM:G:=b_ 8 Aw
abbrev rP:Stmt:=lO (top 41) 1
theorem PN:FnScope ["self"] ["self"] (aN rP):=c7
noncomputable def Aq:S:=(ao (aM (sN sV (au (bN "GapStation" "marks" (aj 0)) aq))) aA)
def nP:G:=b_ 1 Aq
abbrev rM:Stmt:=lO (top 54) 3
theorem PK:FnScope ["self","low","closing"] ["self","low"] (aN rM):=c7
noncomputable def Bf:E:=(aV (au (s2 dN (s2 aW (s2 aH (aj 0) (ak (.int 1))) (bN "GapStation" "gap" (aj 1))) (ak (.int 1))) (au (s2 aH (aj 0) (ak (.int 2))) (au (s2 aH (aj 0) (ak (.int 3))) aq))))
noncomputable def Az:E:=(s2 (aG .gt) (s2 aW (s2 aH (aj 0) (ak (.int 1))) (bN "GapStation" "gap" (aj 2))) (aj 1))
def Gb:E:=(aj 0)
noncomputable def Fy:E:=(s2 (aG .le) (s2 aW (s2 aH (aj 0) (ak (.int 1))) (bN "GapStation" "gap" (aj 2))) (aj 1))
def Ld:E:=(aj 0)
noncomputable def Am:S:=(ao (aU 2 (kI [("low",1),("self",0)] (bR (bN "GapStation" "kept" (aj 0))) Fy Ld)) (ao (eY "GapStation" "kept" (aj 0) (kI [("low",1),("self",0)] (bR (bN "GapStation" "kept" (aj 0))) Az Gb)) (ao (aM (kJ (kI [("self",0)] (bR (aj 2)) (ak (.bl true)) Bf))) aA)))
def wJ:G:=b_ 3 Am
abbrev rY:Stmt:=lO (top 41) 4
theorem Qd:FnScope ["self","low"] ["self","low"] (aN rY):=c7
def Ge:E:=(cg Bk (au (aj 0) aq))
noncomputable def Ax:S:=(ao (aM (s2 aW (kI [] (bR (bx "GapStation" "close_at" wJ (aj 0) (au (aj 1) aq))) (ak (.bl true)) Ge) (aX (au (aV (au (ak (.str "mark")) (au (aj 1) aq))) aq)))) aA)
def tO:G:=b_ 2 Ax
abbrev rW:Stmt:=lO (top 41) 3
theorem Qa:FnScope ["self","way","mark","before","low"] ["self","way","mark"] (aN rW):=c7
noncomputable def yh:S:=(ao (cC (s2 (aG .le) (aj 2) (s2 aH (bN "GapStation" "marks" (aj 0)) (aj 1))) (ao (aM (aX aq)) aA) aA) (ao (aU 3 (bx "GapStation" "low" nP (aj 0) aq)) (ao (mU (bN "GapStation" "marks" (aj 0)) (aj 1) (aj 2)) (ao (aU 4 (bx "GapStation" "low" nP (aj 0) aq)) (ao (cC (s2 (aG .eq) (aj 4) (aj 3)) (ao (aM (aX aq)) aA) aA) (ao (aM (bx "GapStation" "tell_low" tO (aj 0) (au (aj 4) aq))) aA))))))
def nQ:G:=b_ 5 yh
abbrev rR:Stmt:=lO (top 41) 2
theorem P_:FnScope ["self","way","item"] ["self","way","item"] (aN rR):=c7
noncomputable def wF:S:=(ao (cC (s2 (aG .eq) (s2 aH (aj 2) (ak (.int 0))) (ak (.str "mark"))) (ao (aM (bx "GapStation" "take_mark" nQ (aj 0) (au (aj 1) (au (s2 aH (aj 2) (ak (.int 1))) aq)))) aA) aA) (ao (aM (bx "GapStation" "take_thing" wM (aj 0) (au (aj 1) (au (pG (aj 2) (pA (ak (.int 1))) xg) aq)))) aA))
def fU:G:=b_ 3 wF
abbrev lX:Stmt:=top 67
theorem Qs:FnScope ["_law_script","_law_cell","_law_gap","_law_fold_here","_law_station","_law_keys_here","_law_things","_law_mark","_law_time","_law_due","_law_found","_law_key","_law_value"] ["_law_script"] (aN lX):=c7
noncomputable def BZ:S:=(ao (aM (dD (cg p7 (au (aj 10) aq)) (dD (s2 (aG .eq) (aj 10) (aj 9)) (cg pZ (au (aj 4) (au (ak (.int 1000000000000000)) (au (aX aq) aq))))))) aA)
noncomputable def Cd:S:=(ao (aU 10 (bx "GapStation" "take_in" fU (aj 4) (au (ak (.int 0)) (au (aV (au (ak (.str "mark")) (au (ak (.int 1000000000000000)) aq))) aq)))) BZ)
noncomputable def Ca:S:=(ao (aU 9 (s2 aW (cg pY (au (aj 6) (au (aj 2) (au (aj 3) (au (aj 7) (au (ak (.int 1000000000000000)) aq)))))) (aX (au (aV (au (ak (.str "mark")) (au (ak (.int 1000000000000000)) aq))) aq)))) Cd)
noncomputable def BL:S:=(ao (cC (cD (cj (cg pZ (au (aj 4) (au (aj 7) (au (cg wO (au (aj 6) (au (aj 2) (au (aj 3) (au (aj 7) aq))))) aq)))))) (ao (aM (ak (.bl false))) aA) aA) aA)
noncomputable def wW:S:=(ao (cC (lA (cD (cj (cg p7 (au (aj 10) aq)))) (s2 (aG .ne) (aj 10) (aj 9))) (ao (aM (ak (.bl false))) aA) aA) BL)
noncomputable def rB:S:=(ao (cC (s2 (aG .eq) (s2 oMod (aj 1) (ak (.int 5))) (ak (.int 0))) (ao (cC (s2 (aG .gt) (aj 8) (aj 7)) (ao (aU 9 (s2 aW (cg pY (au (aj 6) (au (aj 2) (au (aj 3) (au (aj 7) (au (aj 8) aq)))))) (aX (au (aV (au (ak (.str "mark")) (au (aj 8) aq))) aq)))) aA) aA) (ao (aU 7 (aj 8)) (ao (aU 10 (bx "GapStation" "take_in" fU (aj 4) (au (ak (.int 0)) (au (aV (au (ak (.str "mark")) (au (aj 8) aq))) aq)))) aA))) (ao (aU 11 (s2 aH (aX (au (s2 aH (aj 5) (ak (.int 0))) (au (s2 aH (aj 5) (ak (.int 1))) (au (s2 aH (aj 5) (ak (.int 2))) (au (s2 aH (aj 5) (ak (.int 0))) aq))))) (s2 dN (s2 oMod (aj 1) (ak (.int 5))) (ak (.int 1))))) (ao (aU 12 (s2 dN (s2 oMod (s2 lq (aj 1) (ak (.int 19))) (s2 aW (s2 gk (ak (.int 2)) (s2 cO (ak (.int 10)) (ak (.int 60)))) (ak (.int 1)))) (s2 cO (ak (.int 10)) (ak (.int 60))))) (ao (fW (aj 6) (aV (au (aj 8) (au (aj 11) (au (aj 12) aq))))) (ao (aU 10 (bx "GapStation" "take_in" fU (aj 4) (au (ak (.int 0)) (au (aV (au (ak (.str "thing")) (au (aj 8) (au (aj 11) (au (aj 12) aq))))) aq)))) aA))))) wW)
def N6:S:=(ao (aU 9 (aX aq)) rB)
noncomputable def Bu:S:=(ao (aU 8 (sN h_ (au (s2 cO (ak (.int 10)) (ak (.int 12))) (au (s2 aW (aj 7) (s2 oMod (s2 lq (aj 1) (ak (.int 5))) (s2 aW (s2 gk (ak (.int 3)) (aj 2)) (ak (.int 1))))) aq)))) N6)
noncomputable def B_:S:=(ao (gw 1 (bR (xK (aj 0) (pA (ak (.int 2))) (pA (ak (.int 60))))) Bu) Ca)
def Ho:S:=(ao (aU 7 (ak (.int 0))) B_)
def Hl:S:=(ao (aU 6 (rE (aX aq))) Ho)
noncomputable def Hj:S:=(ao (aU 5 (cg yG (au (s2 lq (cg tQ (au (aj 0) (au (ak (.int 1)) aq))) (ak (.int 4))) aq))) Hl)
noncomputable def Hi:S:=(ao (aU 4 (cg yH (au (aV (au (ak (.str "gap")) (au (ak (.str "g")) (au (aV (au (ak (.str "a")) aq)) (au (aV (au (sN lK (au (aj 2) aq)) (au (aj 3) aq))) aq))))) aq))) Hj)
noncomputable def Hh:S:=(ao (aU 3 (s2 aH (aX (au (ak (.str "sum")) (au (ak (.str "count")) (au (ak (.str "most")) (au (ak (.str "least")) aq))))) (s2 oMod (cg tQ (au (aj 0) (au (ak (.int 1)) aq))) (ak (.int 4))))) Hi)
noncomputable def Hg:S:=(ao (aU 2 (s2 aW (ak (.int 1)) (s2 oMod (s2 lq (aj 1) (ak (.int 4))) (s2 aH (aX (au (ak (.int 9)) (au (ak (.int 9)) (au (ak (.int 60)) (au (s2 cO (ak (.int 10)) (ak (.int 12))) aq))))) (s2 oMod (aj 1) (ak (.int 4))))))) Hh)
noncomputable def Ay:S:=(ao (aU 1 (cg tQ (au (aj 0) (au (ak (.int 0)) aq)))) Hg)
def Ms:G:=b_ 13 Ay
section
variable {P:Program}{w:World}{K:Fgx}{mg:Mgx}{C:Ad}{base:Heap}{k k0:Nat}{f:Addr}
theorem zaU (T:Txt K mg C w):RT P w K mg base k f ["row"] "gap_of" Dp Fp:=fun cdv A outer s H E hr=>by
 refine cZ hr fun hu=>?_;have nd:=(Qp).nd;have B_int:=T.blt "int" (by x_go);exact aF (bO (eE (aD (Qy S6 rfl B_int boot_int YQ (aD (Ek (Ek Sv Ei) Ei) aJ dj)) (aD (Ek (Ek Sv Ei) Ei) aJ dj) vg))) aK
theorem zaI (T:Txt K mg C w):RT P w K mg base k f ["thing"] "item_of" Dq Fq:=fun cdv A outer s H E hr=>by
 refine cZ hr fun hu=>?_;have nd:=(Qq).nd;exact aF (bO (eE (aD Es (aD (Ek Sv Ei) (aD (Ek Sv Ei) (aD (Ek Sv Ei) aJ dj) dj) dj) cU))) aK
theorem zat (T:Txt K mg C w):RT P w K mg base k f ["fold","value"] "first_of" Dm Fo:=fun cdv A outer s H E hr=>by
 refine cZ hr fun hu=>?_;have nd:=(Qo).nd;exact aF (bO (zct (Ct hu Sv Es) Ei Sv)) aK
theorem za0 (T:Txt K mg C w):RT P w K mg base k f ["fold","one","other"] "merged" Dr Ft:=fun cdv A outer s H E hr=>by
 refine cZ hr fun hu=>?_;have nd:=(Qt).nd;have B_max:=T.blt "max" (by x_go);have B_min:=T.blt "min" (by x_go);refine aF (cM (Ct hu Sv Es) (aF (bO (kO (Kr rfl) rfl B_max boot_max O7 (aD Sv (aD Sv aJ aO) aO))) aK) aK) ?_;refine aF (cM (Ct hu Sv Es) (aF (bO (kO (Fz rfl) rfl B_min boot_min HW (aD Sv (aD Sv aJ aO) aO))) aK) aK) ?_;exact aF (bO (bA dR dU Sv Sv)) aK
theorem Z4 (T:Txt K mg C w):RT P w K mg base k f ["self","row"] "Station.__init__" rH Ew:=fun cdv A outer s H E hr=>by
 refine cZ hr fun hu=>?_;have nd:=(Pz).nd;have B_len:=T.blt "len" (by x_go);exact aF (xQ T.cl_GapStation T.na_GapStation_marks Sv (zO (zbO (dG (aD Ei aJ cU)) (kO A_ rfl B_len xdw CJ (aD (Ek Sv Ei) aJ dj))))) aK
theorem Z5 (T:Txt K mg C w)(a_gap_of:bH P w K mg base k "gap_of" 1 p8)(a_GapStation_Station___init__:lZ P w K mg base k "Station" "__init__" 2 yF):RT P w K mg base k f ["self","row","rest"] "GapStation.__init__" rJ Aj:=fun cdv A outer s H E hr=>by
 refine cZ hr fun hu=>?_;have nd:=(PB).nd;refine aF (zbY (zbU a_GapStation_Station___init__ hr rfl (aD Sv (aD Sv aJ aO) aO) (cnt_cons (cnt_cons cnt_nil)))) ?_;refine aF (cI (i:=2) nd rfl Lv (dF a_gap_of hr rfl (aD Sv aJ aO) (cnt_cons cnt_nil))) ?_;refine aF (xQ T.cl_GapStation T.na_GapStation_gap Sv (Ek Sv Ei)) ?_;refine aF (xQ T.cl_GapStation T.na_GapStation_fold Sv (Ek Sv Ei)) ?_;exact aF (xQ T.cl_GapStation T.na_GapStation_kept Sv (SN.sem (dG aJ) lst_is)) aK
theorem zam (T:Txt K mg C w)(hk0:k0 + 1=k)(a_GapStation___init__:mj P w K mg base k0 C.GapStation 2 wI):RT P w K mg base k f ["row"] "station_of" Ds Fv:=fun cdv A outer s H E hr=>by
 refine cZ hr fun hu=>?_;have hr1:=hr;rw[<-hk0]at hr1;have nd:=(Qu).nd;refine aF (cM (Ct hu (Ek Sv Ei) Es) (aF vf aK) aK) ?_;refine aF (cM (Ct hu (Ek Sv Ei) Es) (aF vf aK) aK) ?_;refine aF (cM (Ct hu (Ek Sv Ei) Es) (aF vf aK) aK) ?_;refine aF (cM (Ct hu (Ek Sv Ei) Es) (aF vf aK) aK) ?_;refine aF (cM (Ct hu (Ek Sv Ei) (eE (aD Es (aD Es aJ cU) cU))) (aF vf aK) aK) ?_;refine aF (cM (Ct hu (Ek Sv Ei) Es) (aF (bO (zbP T.cl_GapStation a_GapStation___init__ hr1 rfl (aD Sv aJ aO) (cnt_cons cnt_nil))) aK) aK) ?_;refine aF (cM (Ct hu (Ek Sv Ei) Es) (aF vf aK) aK) ?_;refine aF ?_ ?_
 ·exact vf
 exact aK
theorem zaZ (T:Txt K mg C w):RT P w K mg base k f ["_law_found"] "_law_whole" Dl Fl:=fun cdv A outer s H E hr=>by
 refine cZ hr fun hu=>?_;have nd:=(Qn).nd;have B_bool:=T.blt "bool" (by x_go);have B_int:=T.blt "int" (by x_go);have B_isinstance:=T.blt "isinstance" (by x_go);exact aF (bO (Dt (su (T:="int") (fun t b h=>q_ t "int" b h) Sv rfl B_isinstance rfl B_int boot_int) (Jd (zcA (su (T:="bool") (fun t b h=>q_ t "bool" b h) Sv rfl B_isinstance rfl B_bool boot_bool))))) aK
theorem zas (T:Txt K mg C w):RT P w K mg base k f ["_law_script","_law_k"] "_law_cell_at" Dc Ey:=fun cdv A outer s H E hr=>by
 refine cZ hr fun hu=>?_;have nd:=(Qe).nd;have B_len:=T.blt "len" (by x_go);refine aF (cM (Ct hu Sv (kO A_ rfl B_len xdw CJ (aD Sv aJ aO))) (aF (bO (Ek Sv Sv)) aK) aK) ?_;exact aF (bO Ei) aK
theorem zbh (T:Txt K mg C w):RT P w K mg base k f ["_law_fold_here","_law_values"] "_law_fold" Df E_:=fun cdv A outer s H E hr=>by
 refine cZ hr fun hu=>?_;have nd:=(Qh).nd;have B_len:=T.blt "len" (by x_go);have B_max:=T.blt "max" (by x_go);have B_min:=T.blt "min" (by x_go);have B_sum:=T.blt "sum" (by x_go);refine aF (cM (Ct hu Sv Es) (aF (bO (kO A_ rfl B_len xdw CJ (aD Sv aJ aO))) aK) aK) ?_;refine aF (cM (Ct hu Sv Es) (aF (bO (kO (Td rfl) rfl B_max boot_max YW (aD Sv aJ aO))) aK) aK) ?_;refine aF (cM (Ct hu Sv Es) (aF (bO (kO (Ks rfl) rfl B_min boot_min O8 (aD Sv aJ aO))) aK) aK) ?_;exact aF (bO (kO (Tj rfl) rfl B_sum boot_sum YZ (aD Sv aJ aO))) aK
theorem zaG (T:Txt K mg C w):RT P w K mg base k f ["_law_things","_law_gap","_law_runs","_law_key","_law_time","_law_value"] "_law_chains" zN Ez:=fun cdv A outer s H E hr=>by
 refine cZ hr fun hu=>?_;have nd:=(Qf).nd;have B_set:=T.blt "set" (by x_go);have B_sorted:=T.blt "sorted" (by x_go);refine aF (cI (i:=2) nd rfl Lv (zO (dG aJ))) ?_;refine aF (DP xbQ rfl nd rfl (.inr zag) (pL (SN.sem (zbq rfl B_sorted B_set rfl rfl (SN.sem (za4 1000 "_law_one" [] rfl (by x_go) Sv (fun _ _ _ _ _ _=>(Ek (cT rfl (.inl (by kernel_rfl))) Ei))) Tw)) zbW)) (aF (zbu xbQ rfl (mW (i:=4) nd rfl Lv (mW (i:=5) nd rfl Lv Ji)) (pL (SN.sem (zQ rfl B_sorted (SN.sem (QS 1000 "_law_one" [("_law_key",3)] rfl (by x_go) Sv (fun _ _ _ _ _ _=>(Jl (DQ (tK (X:=cN _ _ _ _ _ _ _ _ _) hu .eq) zE (Ek (cT rfl (.inl (by kernel_rfl))) Ei) (cT rfl (.inr (.inl (by kernel_rfl))))))) (fun _ _ _ _ _ _=>(eE (aD (Ek (cT rfl (.inl (by kernel_rfl))) Ei) (aD (Ek (cT rfl (.inl (by kernel_rfl))) Ei) aJ dj) dj)))) Tz)) Dy)) (aF (cM (SW.st (Ju (Ct hu Sv (SN.sem (dG aJ) lst_is)) (Ju (Ct hu (Ek (Ek Sv (u6 vo tX Ei)) Ei) (cT rfl (.inr Lu))) (Q8 (Ct hu (bA w6 xu Sv (Ek (Ek Sv (u6 vo tX Ei)) Ei)) Sv))))) (aF (QX Sv (u6 vo tX Ei) (eE (aD (Ek (Ek Sv (u6 vo tX Ei)) Ei) (aD Sv (aD (cT rfl (.inr Lu)) (aD (bA dR dU (Ek (Ek Sv (u6 vo tX Ei)) Ei) (SN.sem (dG (aD Sv aJ aO)) lst_is)) aJ sH) aO) aO) dj))) aK) (aF (DN Sv (eE (aD Sv (aD Sv (aD (cT rfl (.inr Lu)) (aD (SN.sem (dG (aD Sv aJ aO)) lst_is) aJ QZ) aO) aO) aO))) aK)) aK)) aK)) ?_;exact aF (bO Sv) aK
theorem zbs (T:Txt K mg C w):RT P w K mg base k f ["_law_cell","_law_size","_law_word","_law_place"] "_law_keys" Dh Fe:=fun cdv A outer s H E hr=>by
 refine cZ hr fun hu=>?_;have nd:=(Qj).nd;have B_range:=T.blt "range" (by x_go);refine aF (cI (i:=1) nd rfl Lv (bA dR dU Ei (bA mO mQ (cT rfl (.inr Lu)) Ei))) ?_;refine aF (cI (i:=2) nd rfl Lv (zde PySem.F.slot_str_join PySem.F.type_str_join Wc YT Es (aD (SN.sem (Dw "_law_k" [("_law_cell",0)] rfl (by x_go) (zbE rfl B_range (aD Sv aJ aO)) (fun _ _ _ _ _ _=>DG) (fun _ _ _ _ _ _=>(Ek Es (bA mO mQ (bA dR dU (bA w5 xq (cT rfl (.inr (.inl (by kernel_rfl)))) Ei) (cT rfl (.inl (by kernel_rfl)))) Ei)))) yp) aJ zao))) ?_;refine aF (cI (i:=3) nd rfl Lv (bA mO mQ (bA w5 xq (cT rfl (.inr Lu)) Ei) Sv)) ?_;exact aF (bO (SN.sem (dG (aD Sv (aD (bA dR dU (bA dR dU (Jf Sv Jk (zT (Wx:=W0) Sv)) Es) (Jf Sv (zT (Wx:=W0) (bA dR dU Sv Ei)) Jk)) (aD Es aJ cU) sH) aO)) lst_is)) aK
theorem zaH (T:Txt K mg C w)(a__fold:bH P w K mg base k "_law_fold" 2 nR)(a__chains:bH P w K mg base k "_law_chains" 2 j_):RT P w K mg base k f ["_law_things","_law_gap","_law_fold_here","_law_low","_law_high","_law_found","_law_first","_law_last","_law_key","_law_values"] "_law_closed" Dd EY:=fun cdv A outer s H E hr=>by
 refine cZ hr fun hu=>?_;have nd:=(Qg).nd;have B_sorted:=T.blt "sorted" (by x_go);refine aF (Jp (i:=5) nd rfl Lv (dG aJ)) ?_;refine aF (QW 1000 xbQ rfl (mW (i:=6) nd rfl Lv (mW (i:=7) nd rfl Lv (mW (i:=8) nd rfl Lv (mW (i:=9) nd rfl Lv Ji)))) (dF a__chains hr rfl (aD Sv (aD Sv aJ aO) aO) (cnt_cons (cnt_cons cnt_nil))) (aF (cM (SW.st (Ju (Ct hu Sv (bA dR dU Sv Sv)) (Q8 (Ct hu (bA dR dU Sv Sv) Sv)))) (aF (Jo rfl Lu (eE (aD Es (aD (bA w6 xu (bA dR dU Sv Sv) Ei) (aD Sv (aD (dF a__fold hr rfl (aD Sv (aD Sv aJ aO) aO) (cnt_cons (cnt_cons cnt_nil))) aJ vg) aO) sH) cU))) aK) aK) aK)) ?_;refine Py ?_;exact aF (bO (SN.sem (zQ rfl B_sorted Sv) Dy)) aK
theorem zbg (T:Txt K mg C w)(a__fold:bH P w K mg base k "_law_fold" 2 nR)(a__chains:bH P w K mg base k "_law_chains" 2 j_):RT P w K mg base k f ["_law_things","_law_gap","_law_fold_here","_law_low","_law_found","_law_first","_law_last","_law_key","_law_values"] "_law_open" Dk Fj:=fun cdv A outer s H E hr=>by
 refine cZ hr fun hu=>?_;have nd:=(Qm).nd;have B_sorted:=T.blt "sorted" (by x_go);refine aF (Jp (i:=4) nd rfl Lv (dG aJ)) ?_;refine aF (QW 1000 xbQ rfl (mW (i:=5) nd rfl Lv (mW (i:=6) nd rfl Lv (mW (i:=7) nd rfl Lv (mW (i:=8) nd rfl Lv Ji)))) (dF a__chains hr rfl (aD Sv (aD Sv aJ aO) aO) (cnt_cons (cnt_cons cnt_nil))) (aF (cM (Ct hu (bA dR dU Sv Sv) Sv) (aF (Jo rfl Lu (eE (aD Sv (aD Sv (aD Sv (aD (dF a__fold hr rfl (aD Sv (aD Sv aJ aO) aO) (cnt_cons (cnt_cons cnt_nil))) aJ vg) aO) aO) aO))) aK) aK) aK)) ?_;refine Py ?_;exact aF (bO (SN.sem (zQ rfl B_sorted Sv) Dy)) aK
theorem zaV (T:Txt K mg C w)(a__whole:bH P w K mg base k "_law_whole" 1 mJ):RT P w K mg base k f ["_law_found","_law_item"] "_law_kinds" Di Fg:=fun cdv A outer s H E hr=>by
 refine cZ hr fun hu=>?_;have nd:=(Qk).nd;have B_isinstance:=T.blt "isinstance" (by x_go);have B_list:=T.blt "list" (by x_go);have B_tuple:=T.blt "tuple" (by x_go);refine aF (cM (kW (gW (su (T:="list") (fun t b h=>q_ t "list" b h) Sv rfl B_isinstance rfl B_list boot_list))) (aF (bO Eb) aK) aK) ?_;refine aF (DP xbQ rfl nd rfl Lv (pL Sv) (aF (cM (SW.st (pN (kW (gW (su (T:="tuple") (fun t b h=>q_ t "tuple" b h) Sv rfl B_isinstance rfl B_tuple boot_tuple))) (pN (kW (gW (dF a__whole hr rfl (aD (Ek Sv Ei) aJ dj) (cnt_cons cnt_nil)))) (zX (kW (gW (dF a__whole hr rfl (aD (Ek Sv (u6 vo tX Ei)) aJ dj) (cnt_cons cnt_nil)))))))) (aF (bO Eb) aK) aK) aK)) ?_;exact aF (bO Eb) aK
theorem Z6 (T:Txt K mg C w):RT P w K mg base k f ["self"] "GapStation.all_kept" rK Ak:=fun cdv A outer s H E hr=>by
 refine cZ hr fun hu=>?_;have nd:=(PJ).nd;have B_sorted:=T.blt "sorted" (by x_go);exact aF (bO (zO (zQ rfl B_sorted (gA T.cl_GapStation T.na_GapStation_kept Sv)))) aK
theorem Z_ (T:Txt K mg C w)(a_GapStation_all_kept:cQ P w K mg base k C.GapStation "all_kept" 1 tM):RT P w K mg base k f ["self"] "Station.state" rQ Av:=fun cdv A outer s H E hr=>by
 refine cZ hr fun hu=>?_;have nd:=(PX).nd;have B_list:=T.blt "list" (by x_go);exact aF (bO (eE (aD (zO (zbl rfl B_list (gA T.cl_GapStation T.na_GapStation_marks Sv))) (aD (Du T.cl_GapStation a_GapStation_all_kept hr Sv) aJ vg) vg))) aK
theorem zaw (T:Txt K mg C w)(a__whole:bH P w K mg base k "_law_whole" 1 mJ):RT P w K mg base k f ["_law_found","_law_item"] "_law_kinds" Dj Fi:=fun cdv A outer s H E hr=>by
 refine cZ hr fun hu=>?_;have nd:=(Ql).nd;have B_isinstance:=T.blt "isinstance" (by x_go);have B_list:=T.blt "list" (by x_go);have B_tuple:=T.blt "tuple" (by x_go);refine aF (cM (kW (gW (su (T:="list") (fun t b h=>q_ t "list" b h) Sv rfl B_isinstance rfl B_list boot_list))) (aF (bO Eb) aK) aK) ?_;refine aF (zbF 1000 xbQ rfl nd rfl Lv Sv (aF (cM (SW.st (pN (kW (gW (su (T:="tuple") (fun t b h=>q_ t "tuple" b h) Sv rfl B_isinstance rfl B_tuple boot_tuple))) (pN (kW (gW (dF a__whole hr rfl (aD (Ek Sv Ei) aJ dj) (cnt_cons cnt_nil)))) (zX (kW (gW (dF a__whole hr rfl (aD (Ek Sv (u6 vo tX Ei)) aJ dj) (cnt_cons cnt_nil)))))))) (aF (bO Eb) aK) aK) aK)) ?_;exact aF (bO Eb) aK
theorem zbD (T:Txt K mg C w)(a_GapStation_state:cQ P w K mg base k C.GapStation "state" 1 wL)(a__kinds_c:bH P w K mg base k "_law_kinds" 1 wN):RT P w K mg base k f ["_law_station","_law_mark","_law_due","_law_found"] "_law_kept" Dg Fb:=fun cdv A outer s H E hr=>by
 refine cZ hr fun hu=>?_;have nd:=(Qi).nd;have B_isinstance:=T.blt "isinstance" (by x_go);have B_len:=T.blt "len" (by x_go);have B_list:=T.blt "list" (by x_go);have B_tuple:=T.blt "tuple" (by x_go);refine aF (cI (i:=3) nd rfl Lv (Du T.cl_GapStation a_GapStation_state hr Sv)) ?_;refine aF (cM (SW.st (pN (kW (gW (su (T:="tuple") (fun t b h=>q_ t "tuple" b h) Sv rfl B_isinstance rfl B_tuple boot_tuple))) (pN (Ct hu (kO A_ rfl B_len xdw CJ (aD Sv aJ aO)) Ei) (zX (Ct hu (Ek Sv Ei) (SN.sem (dG (aD Sv aJ aO)) lst_is)))))) (aF (bO Eb) aK) aK) ?_;refine aF (cM (SW.st (pN (kW (gW (su (T:="list") (fun t b h=>q_ t "list" b h) (Ek Sv Ei) rfl B_isinstance rfl B_list boot_list))) (pN (kW (gW (dF a__kinds_c hr rfl (aD (Ek Sv Ei) aJ dj) (cnt_cons cnt_nil)))) (zX (Ct hu (Ek Sv Ei) Sv))))) (aF (bO Eb) aK) aK) ?_;refine aF (DN (Ek Sv Ei) Ei) ?_;refine aF (DN (Ek Sv Ei) Ei) ?_;exact aF (bO Eb) aK
theorem Z8 (T:Txt K mg C w):RT P w K mg base k f ["self","span","thing"] "GapStation.is_near" rO Ao:=fun cdv A outer s H E hr=>by
 refine cZ hr fun hu=>?_;have nd:=(PL).nd;exact aF (bO (Dt (Cm hu (Ek Sv Ei) (Ek Sv Ei)) (Jd (zcd (c1:=.lt) (c2:=.lt) hu (bA w6 xu (Ek Sv Ei) (gA T.cl_GapStation T.na_GapStation_gap Sv)) (Ek Sv Ei) (bA dR dU (Ek Sv Ei) (gA T.cl_GapStation T.na_GapStation_gap Sv)))))) aK
theorem zab (T:Txt K mg C w)(a_first_of:bH P w K mg base k "first_of" 2 wQ)(a_merged:bH P w K mg base k "merged" 3 wR)(a_GapStation_is_near:cQ P w K mg base k C.GapStation "is_near" 3 wK):RT P w K mg base k f ["self","way","thing","first","last","part","apart","span"] "GapStation.take_thing" pH Aw:=fun cdv A outer s H E hr=>by
 refine cZ hr fun hu=>?_;have nd:=(Qc).nd;have B_max:=T.blt "max" (by x_go);have B_min:=T.blt "min" (by x_go);refine aF (cI (i:=3) nd rfl Lv (Ek Sv Ei)) ?_;refine aF (cI (i:=4) nd rfl Lv (Ek Sv Ei)) ?_;refine aF (cI (i:=5) nd rfl Lv (dF a_first_of hr rfl (aD (gA T.cl_GapStation T.na_GapStation_fold Sv) (aD (Ek Sv Ei) aJ dj) Jq) (cnt_cons (cnt_cons cnt_nil)))) ?_;refine aF (Jp (i:=6) nd rfl Lv (dG aJ)) ?_;refine aF (DP xbQ rfl nd rfl Lv (pL (gA T.cl_GapStation T.na_GapStation_kept Sv)) (aF (cM (gW (sE T.cl_GapStation a_GapStation_is_near hr Sv (aD Sv (aD Sv aJ aO) aO) (cnt_cons (cnt_cons cnt_nil)))) (aF (cI (i:=3) nd rfl Lv (kO (Fz rfl) rfl B_min boot_min HW (aD Sv (aD (Ek Sv Ei) aJ dj) aO))) (aF (cI (i:=4) nd rfl Lv (kO (Kr rfl) rfl B_max boot_max O7 (aD Sv (aD (Ek Sv Ei) aJ dj) aO))) (aF (cI (i:=5) nd rfl Lv (dF a_merged hr rfl (aD (gA T.cl_GapStation T.na_GapStation_fold Sv) (aD Sv (aD (Ek Sv Ei) aJ dj) aO) Jq) (cnt_cons (cnt_cons (cnt_cons cnt_nil))))) aK))) (aF (Jo rfl Lu Sv) aK)) aK)) ?_;refine aF (xQ T.cl_GapStation T.na_GapStation_kept Sv (bA dR dU (zcL rfl (zaa)) (SN.sem (dG (aD (eE (aD Sv (aD Sv (aD (Ek Sv Ei) (aD Sv aJ aO) dj) aO) aO)) aJ mZ)) lst_is))) ?_;exact aF (bO (SN.sem (dG aJ) lst_is)) aK
theorem Z9 (T:Txt K mg C w):RT P w K mg base k f ["self"] "Station.low" rP Aq:=fun cdv A outer s H E hr=>by
 refine cZ hr fun hu=>?_;have nd:=(PN).nd;have B_min:=T.blt "min" (by x_go);exact aF (bO (kO (Ks rfl) rfl B_min boot_min O8 (aD (gA T.cl_GapStation T.na_GapStation_marks Sv) aJ Jq))) aK
theorem Z7 (T:Txt K mg C w):RT P w K mg base k f ["self","low","closing"] "GapStation.close_at" rM Am:=fun cdv A outer s H E hr=>by
 refine cZ hr fun hu=>?_;have nd:=(PK).nd;have B_sorted:=T.blt "sorted" (by x_go);refine aF (zbV "span" [("low",1),("self",0)] (i:=2) nd rfl Lv rfl (by x_go) (pL (gA T.cl_GapStation T.na_GapStation_kept (cT rfl (.inr Lu)))) (fun _ _ _ _ _ _=>(Jl (DQ (tK (X:=cN _ _ _ _ _ _ _ _ _) hu .le) zE (bA dR dU (Ek (cT rfl (.inl (by kernel_rfl))) Ei) (gA T.cl_GapStation T.na_GapStation_gap (cT rfl (.inr (.inl (by kernel_rfl)))))) (cT rfl (.inr (.inl (by kernel_rfl))))))) (fun _ _ _ _ _ _=>(cT rfl (.inl (by kernel_rfl))))) ?_;refine aF (xQ T.cl_GapStation T.na_GapStation_kept (cT rfl (.inr Lu)) (SN.sem (Dw "span" [("low",1),("self",0)] rfl (by x_go) (pL (gA T.cl_GapStation T.na_GapStation_kept (cT rfl (.inr Lu)))) (fun _ _ _ _ _ _=>(Jl (DQ (tK (X:=cN _ _ _ _ _ _ _ _ _) hu .gt) zE (bA dR dU (Ek (cT rfl (.inl (by kernel_rfl))) Ei) (gA T.cl_GapStation T.na_GapStation_gap (cT rfl (.inr (.inl (by kernel_rfl)))))) (cT rfl (.inr (.inl (by kernel_rfl))))))) (fun _ _ _ _ _ _=>(cT rfl (.inl (by kernel_rfl))))) yp)) ?_;exact aF (bO (SN.sem (zQ rfl B_sorted (SN.sem (Dw "span" [("self",0)] rfl (by x_go) (pL Sv) (fun _ _ _ _ _ _=>DG) (fun _ _ _ _ _ _=>(eE (aD (bA w6 xu (bA dR dU (Ek (cT rfl (.inl (by kernel_rfl))) Ei) (gA T.cl_GapStation T.na_GapStation_gap (cT rfl (.inr (.inl (by kernel_rfl)))))) Ei) (aD (Ek (cT rfl (.inl (by kernel_rfl))) Ei) (aD (Ek (cT rfl (.inl (by kernel_rfl))) Ei) aJ dj) dj) sH)))) yp)) Dy)) aK
theorem zad (T:Txt K mg C w)(a_item_of:bH P w K mg base k "item_of" 1 Bk)(a_GapStation_close_at:cQ P w K mg base k C.GapStation "close_at" 2 wJ):RT P w K mg base k f ["self","low"] "Station.tell_low" rY Ax:=fun cdv A outer s H E hr=>by
 refine cZ hr fun hu=>?_;have nd:=(Qd).nd;exact aF (bO (bA dR dU (SN.sem (Dw "thing" [] rfl (by x_go) (pL (sE T.cl_GapStation a_GapStation_close_at hr Sv (aD Sv aJ aO) (cnt_cons cnt_nil))) (fun _ _ _ _ _ _=>DG) (fun _ _ _ _ _ _=>(dF a_item_of hr rfl (aD (cT rfl (.inl (by kernel_rfl))) aJ aO) (cnt_cons cnt_nil)))) yp) (SN.sem (dG (aD (eE (aD Es (aD Sv aJ aO) cU)) aJ mZ)) lst_is))) aK
theorem zac (T:Txt K mg C w)(a_GapStation_low:cQ P w K mg base k C.GapStation "low" 1 nP)(a_GapStation_tell_low:cQ P w K mg base k C.GapStation "tell_low" 2 tO):RT P w K mg base k f ["self","way","mark","before","low"] "Station.take_mark" rW yh:=fun cdv A outer s H E hr=>by
 refine cZ hr fun hu=>?_;have nd:=(Qa).nd;refine aF (cM (Ct hu Sv (Ek (gA T.cl_GapStation T.na_GapStation_marks Sv) Sv)) (aF (bO (SN.sem (dG aJ) lst_is)) aK) aK) ?_;refine aF (cI (i:=3) nd rfl Lv (Du T.cl_GapStation a_GapStation_low hr Sv)) ?_;refine aF (QX (gA T.cl_GapStation T.na_GapStation_marks Sv) Sv Sv) ?_;refine aF (cI (i:=4) nd rfl Lv (Du T.cl_GapStation a_GapStation_low hr Sv)) ?_;refine aF (cM (Ct hu Sv Sv) (aF (bO (SN.sem (dG aJ) lst_is)) aK) aK) ?_;exact aF (bO (sE T.cl_GapStation a_GapStation_tell_low hr Sv (aD Sv aJ aO) (cnt_cons cnt_nil))) aK
theorem zae (T:Txt K mg C w)(a_GapStation_take_thing:cQ P w K mg base k C.GapStation "take_thing" 3 wM)(a_GapStation_take_mark:cQ P w K mg base k C.GapStation "take_mark" 3 nQ):RT P w K mg base k f ["self","way","item"] "Station.take_in" rR wF:=fun cdv A outer s H E hr=>by
 refine cZ hr fun hu=>?_;have nd:=(P_).nd;refine aF (cM (Ct hu (Ek Sv Ei) Es) (aF (bO (sE T.cl_GapStation a_GapStation_take_mark hr Sv (aD Sv (aD (Ek Sv Ei) aJ dj) aO) (cnt_cons (cnt_cons cnt_nil)))) aK) aK) ?_;exact aF (bO (sE T.cl_GapStation a_GapStation_take_thing hr Sv (aD Sv (aD (zcf Sv (zT (Wx:=W0) Ei) Jk) aJ dj) aO) (cnt_cons (cnt_cons cnt_nil)))) aK
theorem zcV (T:Txt K mg C w)(a_station_of:bH P w K mg base k "station_of" 1 yH)(a__cell_at:bH P w K mg base k "_law_cell_at" 2 tQ)(a__keys:bH P w K mg base k "_law_keys" 1 yG)(a__closed:bH P w K mg base k "_law_closed" 5 pY)(a__open:bH P w K mg base k "_law_open" 4 wO)(a__kinds:bH P w K mg base k "_law_kinds" 1 p7)(a__kept:bH P w K mg base k "_law_kept" 3 pZ)(a_GapStation_take_in:cQ P w K mg base k C.GapStation "take_in" 3 fU):RT P w K mg base k f ["_law_script","_law_cell","_law_gap","_law_fold_here","_law_station","_law_keys_here","_law_things","_law_mark","_law_time","_law_due","_law_found","_law_key","_law_value"] "law" lX Ay:=fun cdv A outer s H E hr=>by
 refine cZ hr fun hu=>?_;have nd:=(Qs).nd;have B_min:=T.blt "min" (by x_go);have B_str:=T.blt "str" (by x_go);obtain⟨t_LAST,m_LAST⟩:=T.k_LAST;refine aF (cI (i:=1) nd rfl Lv (dF a__cell_at hr rfl (aD Sv (aD Ei aJ cU) aO) (cnt_cons (cnt_cons cnt_nil)))) ?_;refine aF (cI (i:=2) nd rfl Lv (bA dR dU Ei (bA mO mQ (bA w5 xq Sv Ei) (Ek (SN.sem (dG (aD Ei (aD Ei (aD Ei (aD (bA Cv CK Ei Ei) aJ sH) cU) cU) cU)) lst_is) (bA mO mQ Sv Ei))))) ?_;refine aF (cI (i:=3) nd rfl Lv (Ek (SN.sem (dG (aD Es (aD Es (aD Es (aD Es aJ cU) cU) cU) cU)) lst_is) (bA mO mQ (dF a__cell_at hr rfl (aD Sv (aD Ei aJ cU) aO) (cnt_cons (cnt_cons cnt_nil))) Ei))) ?_;refine aF (cI (i:=4) nd rfl Lv (dF a_station_of hr rfl (aD (eE (aD Es (aD Es (aD (eE (aD Es aJ cU)) (aD (eE (aD (Qy Ti rfl B_str boot_str YX (aD Sv aJ aO)) (aD Sv aJ aO) vg)) aJ mZ) mZ) cU) cU)) aJ mZ) (cnt_cons cnt_nil))) ?_;refine aF (cI (i:=5) nd rfl Lv (dF a__keys hr rfl (aD (bA w5 xq (dF a__cell_at hr rfl (aD Sv (aD Ei aJ cU) aO) (cnt_cons (cnt_cons cnt_nil))) Ei) aJ sH) (cnt_cons cnt_nil))) ?_;refine aF (cI (i:=6) nd rfl Lv (zO (dG aJ))) ?_;refine aF (cI (i:=7) nd rfl Lv Ei) ?_;refine aF (DP xbQ rfl nd rfl Lv (pL (Jf Sv (zT (Wx:=W0) Ei) (zT (Wx:=W0) Ei))) (aF (cI (i:=8) nd rfl Lv (kO (Fz rfl) rfl B_min boot_min HW (aD (bA Cv CK Ei Ei) (aD (bA dR dU Sv (bA mO mQ (bA w5 xq Sv Ei) (bA dR dU (bA Ou O9 Ei Sv) Ei))) aJ sH) sH))) (aF (cI (i:=9) nd rfl Lv (SN.sem (dG aJ) lst_is)) (aF (cM (Ct hu (bA mO mQ Sv Ei) Ei) (aF (cM (Ct hu Sv Sv) (aF (cI (i:=9) nd rfl Lv (bA dR dU (dF a__closed hr rfl (aD Sv (aD Sv (aD Sv (aD Sv (aD Sv aJ aO) aO) aO) aO) aO) (cnt_cons (cnt_cons (cnt_cons (cnt_cons (cnt_cons cnt_nil)))))) (SN.sem (dG (aD (eE (aD Es (aD Sv aJ aO) cU)) aJ mZ)) lst_is))) aK) aK) (aF (cI (i:=7) nd rfl Lv Sv) (aF (cI (i:=10) nd rfl Lv (sE T.cl_GapStation a_GapStation_take_in hr Sv (aD Ei (aD (eE (aD Es (aD Sv aJ aO) cU)) aJ mZ) cU) (cnt_cons (cnt_cons cnt_nil)))) aK))) (aF (cI (i:=11) nd rfl Lv (Ek (SN.sem (dG (aD (Ek Sv Ei) (aD (Ek Sv Ei) (aD (Ek Sv Ei) (aD (Ek Sv Ei) aJ dj) dj) dj) dj)) lst_is) (bA w6 xu (bA mO mQ Sv Ei) Ei))) (aF (cI (i:=12) nd rfl Lv (bA w6 xu (bA mO mQ (bA w5 xq Sv Ei) (bA dR dU (bA Ou O9 Ei (bA Cv CK Ei Ei)) Ei)) (bA Cv CK Ei Ei))) (aF (DN Sv (eE (aD Sv (aD Sv (aD Sv aJ aO) aO) aO))) (aF (cI (i:=10) nd rfl Lv (sE T.cl_GapStation a_GapStation_take_in hr Sv (aD Ei (aD (eE (aD Es (aD Sv (aD Sv (aD Sv aJ aO) aO) aO) cU)) aJ mZ) cU) (cnt_cons (cnt_cons cnt_nil)))) aK))))) (aF (cM (SW.st (pN (kW (gW (dF a__kinds hr rfl (aD Sv aJ aO) (cnt_cons cnt_nil)))) (zX (Ct hu Sv Sv)))) (aF (bO Eb) aK) aK) (aF (cM (kW (gW (dF a__kept hr rfl (aD Sv (aD Sv (aD (dF a__open hr rfl (aD Sv (aD Sv (aD Sv (aD Sv aJ aO) aO) aO) aO) (cnt_cons (cnt_cons (cnt_cons (cnt_cons cnt_nil))))) aJ vg) aO) aO) (cnt_cons (cnt_cons (cnt_cons cnt_nil)))))) (aF (bO Eb) aK) aK) aK)))))) ?_;refine aF (cI (i:=9) nd rfl Lv (bA dR dU (dF a__closed hr rfl (aD Sv (aD Sv (aD Sv (aD Sv (aD (lY (Cy (v:=(.int 1000000000000000)) rfl m_LAST ⟨t_LAST,rfl⟩)) aJ aO) aO) aO) aO) aO) (cnt_cons (cnt_cons (cnt_cons (cnt_cons (cnt_cons cnt_nil)))))) (SN.sem (dG (aD (eE (aD Es (aD (lY (Cy (v:=(.int 1000000000000000)) rfl m_LAST ⟨t_LAST,rfl⟩)) aJ aO) cU)) aJ mZ)) lst_is))) ?_;refine aF (cI (i:=10) nd rfl Lv (sE T.cl_GapStation a_GapStation_take_in hr Sv (aD Ei (aD (eE (aD Es (aD (lY (Cy (v:=(.int 1000000000000000)) rfl m_LAST ⟨t_LAST,rfl⟩)) aJ aO) cU)) aJ mZ) cU) (cnt_cons (cnt_cons cnt_nil)))) ?_;exact aF (bO (Dt (dF a__kinds hr rfl (aD Sv aJ aO) (cnt_cons cnt_nil)) (Dt (Cm hu Sv Sv) (Jd (dF a__kept hr rfl (aD Sv (aD (lY (Cy (v:=(.int 1000000000000000)) rfl m_LAST ⟨t_LAST,rfl⟩)) (aD (SN.sem (dG aJ) lst_is) aJ QZ) aO) aO) (cnt_cons (cnt_cons (cnt_cons cnt_nil)))))))) aK
end
noncomputable def tR:Nat:=5
def lR:G:=Ms
abbrev wNs:String:="ZG zJ Iz Zj zF Ih zK IK Zg zc2 Y7 Z1 Y8 Z2 Ir zc4 zc6 JZ zcW zcN ZK Zy Zx zcZ Y9 Ie Zq zdc Zw Zh zci zcv Zv r_n zcz ZL Zt zbL Zb zch zbf Ze zbx Zr Ig zcK zcM ZC Zz zdg zcB Za zcs Zu ZD Zi Iu H_ Zm zcI Y_ zcR Zk zcT Zn zcg ZF HY zb8 zcl Wq Wr W5 Wy WT W2 Hv Ht Hr Wu WY Wz WK WL WM WR WQ W6 W4 W3 sizeLine_eq Option.map_some Option.map_none List.getElem?_cons_zero List.getElem?_cons_succ List.set_cons_zero List.set_cons_succ List.map_cons List.map_nil List.length_cons List.length_nil List.length_map List.replicate List.cons_append List.nil_append List.append_nil reduceCtorEq if_true if_false reduceIte Bool.not_true Bool.not_false Nat.reduceSub Nat.reduceAdd Nat.reduceLeDiff Nat.reduceLT Int.reduceLT Int.reduceLE Int.reduceAdd Int.reduceSub Int.reduceMul Int.reduceNeg Int.reduceAbs Int.reduceEq Int.reducePow Int.reduceMod Int.reduceDiv Int.reduceToNat Nat.zero_le and_true true_and and_self or_true true_or Bool.false_eq_true decide_eq_true_eq decide_true decide_false Bool.not_eq_true' decide_eq_false_iff_not not_true_eq_false not_false_eq_true eq_self Zf zce zbK Zd Zc Option.getD_some Zo zcJ ty_int zco zcp zcP zc8 zcH WW List.isEmpty_cons List.isEmpty_nil Bool.true_eq_false Bool.and_self Bool.and_true Bool.true_and Bool.and_false Bool.false_and Iw Ib Ws WD Hw Hs Ww Bool.true_or Bool.false_or Bool.or_true Bool.or_false at0 at1 at2 R9 Pk ZJ"
local macro_rules | `(tactic| z_go)=>do
 let l <-(wNs.splitOn " ").toArray.mapM fun n=> `(Lean.Parser.Tactic.simpLemma| $(Lean.mkIdent n.toName):term)
 `(tactic| try simp only[$l,*])
noncomputable def fi (f:Str) (v:Int):Int:=if f="count" then 1 else v
noncomputable def dB (f:Str) (a b:Int):Int:=if f="most" then(if b > a then b else a) else if f="least" then(if b<a then b else a) else a + b
noncomputable def fo (f:Str):List Int->Int
 | []=>0
 |a::r=>(r.map (fi f)).foldl (dB f) (fi f a)
noncomputable def lf (f:Str) (is:List Int):Int:=if f="sum" then is.sum else if f="count" then is.length else if f="most" then dX is else d8 is
theorem fold_max:∀(r:List Int) (a:Int),(r.foldl (fun x y=>if y > x then y else x) a=a\/r.foldl (fun x y=>if y > x then y else x) a∈r)/\a<=r.foldl (fun x y=>if y > x then y else x) a/\∀y∈r,y<=r.foldl (fun x y=>if y > x then y else x) a
  | [],a=>⟨.inl rfl,xb7 _,fun y h=>nomatch h⟩
  |b::r,a=>by
    obtain⟨h1,h2,h3⟩:=fold_max r (if b > a then b else a)
    rw[xaG];generalize r.foldl (fun x y=>if y > x then y else x) (if b > a then b else a)=m at *
    have hb:a<=(if b > a then b else a)/\b<=(if b > a then b else a):=by split<;>lia
    refine⟨?_,by lia,fun y hy=>?_⟩
    · rcases h1 with h1 |h1
      · rw[h1]
        split
        · exact .inr (by simp)
        · exact .inl rfl
      · exact .inr (by simp[h1])
    · rcases xar.mp hy with rfl |hy
      · lia
      · exact h3 y hy
theorem fold_min:∀(r:List Int) (a:Int),(r.foldl (fun x y=>if y<x then y else x) a=a\/r.foldl (fun x y=>if y<x then y else x) a∈r)/\r.foldl (fun x y=>if y<x then y else x) a<=a/\∀y∈r,r.foldl (fun x y=>if y<x then y else x) a<=y
  | [],a=>⟨.inl rfl,xb7 _,fun y h=>nomatch h⟩
  |b::r,a=>by
    obtain⟨h1,h2,h3⟩:=fold_min r (if b<a then b else a)
    rw[xaG];generalize r.foldl (fun x y=>if y<x then y else x) (if b<a then b else a)=m at *
    have hb:(if b<a then b else a)<=a/\(if b<a then b else a)<=b:=by split<;>lia
    refine⟨?_,by lia,fun y hy=>?_⟩
    · rcases h1 with h1 |h1
      · rw[h1]
        split
        · exact .inr (by simp)
        · exact .inl rfl
      · exact .inr (by simp[h1])
    · rcases xar.mp hy with rfl |hy
      · lia
      · exact h3 y hy
theorem fold_add:∀(r:List Int) (a:Int),r.foldl (fun x y=>x + y) a=a + r.sum
 | [],a=>by simp
 |b::r,a=>by rw[xaG,fold_add r,xcx];lia
theorem Q6:∀r:List Int,(r.map fun _=>(1:Int)).sum=r.length
 | []=>rfl
 |b::r=>by rw[xaP,xcx,Q6 r,xay];lia
theorem Q7:∀r:List Int,r.reverse.sum=r.sum
 | []=>rfl
 |b::r=>by rw[List.reverse_cons,List.sum_append,Q7 r,xcx,xcx,List.sum_nil];lia
theorem Gm {f:Str}{is:List Int}(hf:f="sum"\/f="count"\/f="most"\/f="least")(hn:is≠ []):fo f is=lf f is.reverse:=by
  cases is with
  |nil=>exact absurd rfl hn
  |cons a r=>
    rcases hf with rfl |rfl |rfl |rfl
    · have e1:fi "sum"=id:=by funext v;rfl
      have e2:dB "sum"=fun x y=>x + y:=by funext x y;rfl
      show(r.map (fi "sum")).foldl (dB "sum") (fi "sum" a)=(a::r).reverse.sum;rw[e1,e2,xcZ,fold_add,Q7,xcx];rfl
    · have e1:fi "count"=fun _=>1:=by funext v;rfl
      have e2:dB "count"=fun x y=>x + y:=by funext x y;rfl
      show(r.map (fi "count")).foldl (dB "count") (fi "count" a)=((a::r).reverse.length:Int);rw[e1,e2,fold_add,Q6,List.length_reverse,xay];show(1:Int) + r.length=_;lia
    · have e1:fi "most"=id:=by funext v;rfl
      have e2:dB "most"=fun x y=>if y > x then y else x:=by funext x y;rfl
      show(r.map (fi "most")).foldl (dB "most") (fi "most" a)=dX (a::r).reverse;rw[e1,e2,xcZ];obtain⟨h1,h2,h3⟩:=fold_max r a;refine(JM ?_ fun y hy=>?_).symm
      · rw[xct];rcases h1 with h1 |h1
        · exact xar.mpr (.inl h1)
        · exact xar.mpr (.inr h1)
      · rw[xct]at hy;rcases xar.mp hy with rfl |hy
        · exact h2
        · exact h3 y hy
    · have e1:fi "least"=id:=by funext v;rfl
      have e2:dB "least"=fun x y=>if y<x then y else x:=by funext x y;rfl
      show(r.map (fi "least")).foldl (dB "least") (fi "least" a)=d8 (a::r).reverse;rw[e1,e2,xcZ];obtain⟨h1,h2,h3⟩:=fold_min r a;refine(Fw ?_ fun y hy=>?_).symm
      · rw[xct];rcases h1 with h1 |h1
        · exact xar.mpr (.inl h1)
        · exact xar.mpr (.inr h1)
      · rw[xct]at hy;rcases xar.mp hy with rfl |hy
        · exact h2
        · exact h3 y hy
abbrev Fd (f:Str):Prop:=f="sum"\/f="count"\/f="most"\/f="least"
abbrev Th:=Int×Str×Int
abbrev Hu:=Int×Int×Int
abbrev bZ:=Str×Hu
noncomputable def mn (a b:Int):Int:=if b<a then b else a
noncomputable def mx (a b:Int):Int:=if b > a then b else a
noncomputable def near (g:Int) (s:bZ) (x:Th):Bool:=decide (s.1=x.2.1) && (decide (s.2.1 - g<x.1) && decide (x.1<s.2.2.1 + g))
noncomputable def op (f:Str) (a b:Hu):Hu:=(mn a.1 b.1,mx a.2.1 b.2.1,dB f a.2.2 b.2.2)
def eX (f:Str)(x:Th):Hu:=(x.1,x.1,fi f x.2.2)
noncomputable def cu (g:Int) (f:Str) (S:List bZ) (x:Th):Hu:=((S.filter fun s=>near g s x).map (·.2)).foldl (op f) (eX f x)
noncomputable def ins (g:Int) (f:Str) (S:List bZ) (x:Th):List bZ:=(S.filter fun s=> !near g s x) ++ [(x.2.1,cu g f S x)]
theorem Wb {f:Str}{a b:Int}:dB f a b=dB f b a:=by
 unfold dB
 repeat' split
 all_goals lia
theorem N8 {f:Str}{a b c:Int}:dB f (dB f a b) c=dB f a (dB f b c):=by
 unfold dB
 split
 ·repeat' split
  all_goals lia
 ·split
  ·repeat' split
   all_goals lia
  ·lia
theorem Cu {f:Str}{a b:Hu}:op f a b=op f b a:=by
 unfold op mn mx;rw[Wb];refine xdu ?_ (xdu ?_ rfl)
 ·dsimp only;repeat' split
  all_goals lia
 ·dsimp only;repeat' split
  all_goals lia
theorem Hy {f:Str}{a b c:Hu}:op f (op f a b) c=op f a (op f b c):=by
 unfold op mn mx;refine xdu ?_ (xdu ?_ N8)
 ·dsimp only;repeat' split
  all_goals lia
 ·dsimp only;repeat' split
  all_goals lia
theorem XF {f:Str}{a b c:Hu}:op f (op f a b) c=op f (op f a c) b:=by rw[Hy,Cu (a:=b), <-Hy]
theorem Ma {f:Str}{l l':List Hu}(p:l.Perm l'):∀z,l.foldl (op f) z=l'.foldl (op f) z:=by
 induction p with
 |nil=>exact fun _=>rfl
 |cons x _ ih=>exact fun z=>ih _
 |swap x y l=>exact fun z=>by rw[xaG,xaG,xaG,xaG,XF]
 |trans _ _ h1 h2=>exact fun z=>(h1 z).trans (h2 z)
theorem yD {f:Str}{a:Hu}:∀(l:List Hu) (z:Hu),op f a (l.foldl (op f) z)=l.foldl (op f) (op f a z)
 | [],_=>rfl
 |x::l,z=>by rw[xaG,xaG,yD l,Hy]
theorem Mw {f:Str}:∀(l:List Hu) (z:Hu),(l.foldl (op f) z).1<=z.1/\(∀s∈l,(l.foldl (op f) z).1<=s.1)/\((l.foldl (op f) z).1=z.1\/∃s∈l,(l.foldl (op f) z).1=s.1)
  | [],z=>⟨xb7 _,(fun s h=>nomatch h),.inl rfl⟩
  |x::l,z=>by
    obtain⟨h1,h2,h3⟩:=Mw (f:=f) l (op f z x);rw[xaG];have e:(op f z x).1=mn z.1 x.1:=rfl;rw[e]at h1 h3;unfold mn at h1 h3;refine⟨by split at h1<;>lia,fun s hs=>?_,?_⟩
    · rcases xar.mp hs with rfl |hs
      · split at h1<;>lia
      · exact h2 s hs
    · rcases h3 with h3 |⟨s,hs,h3⟩
      · split at h3
        · exact .inr ⟨x,xau,h3⟩
        · exact .inl h3
      · exact .inr ⟨s,xal _ hs,h3⟩
theorem Bl {f:Str}:∀(l:List Hu) (z:Hu),z.2.1<=(l.foldl (op f) z).2.1/\(∀s∈l,s.2.1<=(l.foldl (op f) z).2.1)/\((l.foldl (op f) z).2.1=z.2.1\/∃s∈l,(l.foldl (op f) z).2.1=s.2.1)
  | [],z=>⟨xb7 _,(fun s h=>nomatch h),.inl rfl⟩
  |x::l,z=>by
    obtain⟨h1,h2,h3⟩:=Bl (f:=f) l (op f z x);rw[xaG];have e:(op f z x).2.1=mx z.2.1 x.2.1:=rfl;rw[e]at h1 h3;unfold mx at h1 h3;refine⟨by split at h1<;>lia,fun s hs=>?_,?_⟩
    · rcases xar.mp hs with rfl |hs
      · split at h1<;>lia
      · exact h2 s hs
    · rcases h3 with h3 |⟨s,hs,h3⟩
      · split at h3
        · exact .inr ⟨x,xau,h3⟩
        · exact .inl h3
      · exact .inr ⟨s,xal _ hs,h3⟩
theorem lU {g:Int}{s:bZ}{x:Th}:near g s x=true ↔ s.1=x.2.1/\s.2.1 - g<x.1/\x.1<s.2.2.1 + g:=by
 unfold near;simp only[xaF,xb5]
section
variable {g:Int}{f:Str}{S:List bZ}{a b:Th}
theorem Ce (g0:0<g):near g (a.2.1,cu g f S a) b=true ↔ a.2.1=b.2.1/\((a.1 - g<b.1/\b.1<a.1 + g)\/∃s∈S,near g s a=true/\near g s b=true):=by
  obtain⟨l1,l2,l3⟩:=Mw (f:=f) ((S.filter fun s=>near g s a).map (·.2)) (eX f a);obtain⟨r1,r2,r3⟩:=Bl (f:=f) ((S.filter fun s=>near g s a).map (·.2)) (eX f a);have z1:(eX f a).1=a.1:=rfl;have z2:(eX f a).2.1=a.1:=rfl;rw[lU];show _/\(cu g f S a).1 - g<b.1/\b.1<(cu g f S a).2.1 + g ↔ _;unfold cu;have of:∀h:Hu,h∈(S.filter fun s=>near g s a).map (·.2)->∃s∈S,near g s a=true/\s.2=h:=fun h hh=>by
    obtain⟨s,hs,rfl⟩:=xaw.mp hh;obtain⟨h1,h2⟩:=xbK.mp hs;exact⟨s,h1,h2,rfl⟩
  have to:∀s∈S,near g s a=true->s.2∈(S.filter fun s=>near g s a).map (·.2):=fun s hs hn=>xaw.mpr ⟨s,xbK.mpr ⟨hs,hn⟩,rfl⟩;generalize (S.filter fun s=>near g s a).map (·.2)=L at *
  constructor
  · rintro⟨k,h1,h2⟩;refine⟨k,?_⟩
    by_cases c1:a.1 - g<b.1
    · by_cases c2:b.1<a.1 + g
      · exact .inl ⟨c1,c2⟩
      · rcases r3 with r3 |⟨h,hh,r3⟩
        · lia
        · obtain⟨s,hs,hn,rfl⟩:=of h hh;obtain⟨n1,n2,n3⟩:=lU.mp hn;exact .inr ⟨s,hs,hn,lU.mpr ⟨n1.trans k,by lia,by lia⟩⟩
    · rcases l3 with l3 |⟨h,hh,l3⟩
      · lia
      · obtain⟨s,hs,hn,rfl⟩:=of h hh;obtain⟨n1,n2,n3⟩:=lU.mp hn;exact .inr ⟨s,hs,hn,lU.mpr ⟨n1.trans k,by lia,by lia⟩⟩
  · rintro⟨k,h |⟨s,hs,h1,h2⟩⟩
    · exact⟨k,by lia,by lia⟩
    · obtain⟨n1,n2,n3⟩:=lU.mp h2;have:=l2 _ (to s hs h1);have:=r2 _ (to s hs h1);exact⟨k,by lia,by lia⟩
theorem Wd (g0:0<g):near g (a.2.1,cu g f S a) b=near g (b.2.1,cu g f S b) a:=by
 rw[xbz,Ce g0,Ce g0]
 constructor
 ·rintro⟨k,h |⟨s,hs,h1,h2⟩⟩
  ·exact⟨k.symm,.inl ⟨by lia,by lia⟩⟩
  ·exact⟨k.symm,.inr ⟨s,hs,h2,h1⟩⟩
 ·rintro⟨k,h |⟨s,hs,h1,h2⟩⟩
  ·exact⟨k.symm,.inl ⟨by lia,by lia⟩⟩
  ·exact⟨k.symm,.inr ⟨s,hs,h2,h1⟩⟩
theorem Lz {α:Type}{p q:α->Bool}:∀l:List α,((l.filter fun x=>(!p x) && q x) ++ l.filter p).Perm ((l.filter fun x=>(!q x) && p x) ++ l.filter q)
  | []=>.refl _
  |x::l=>by
    have ih:=Lz (p:=p) (q:=q) l;cases hp:p x<;>cases hq:q x<;>simp only[xce,hp,hq,Bool.not_true,xec,xc5,xcL,xc2,xcM,xaM,xbi,xbb,List.cons_append]
    · exact ih
    · exact(ih.cons x).trans xda.symm
    · exact xda.trans (ih.cons x)
    · exact xda.trans ((ih.cons x).trans xda.symm)
theorem Vb (g0:0<g):(ins g f (ins g f S a) b).Perm (ins g f (ins g f S b) a):=by
  have sy:=Wd (g:=g) (f:=f) (S:=S) (a:=a) (b:=b) g0;have two:∀a b:Th,(ins g f S a).filter (fun s=> !near g s b)=(S.filter fun s=> !near g s a && !near g s b) ++ if near g (a.2.1,cu g f S a) b=true then [] else [(a.2.1,cu g f S a)]:=fun a b=>by
    unfold ins;rw[xcl,xbx];congr 1
    · exact xbg fun s _=>xc6 _ _
    · cases h:near g (a.2.1,cu g f S a) b<;>simp[h]
  have tw':∀a b:Th,cu g f (ins g f S a) b=(((S.filter fun s=> !near g s a && near g s b).map (·.2)) ++ if near g (a.2.1,cu g f S a) b=true then [cu g f S a] else []).foldl (op f) (eX f b):=fun a b=>by
    show(((ins g f S a).filter (fun s=>near g s b)).map (·.2)).foldl (op f) (eX f b)=_;unfold ins;rw[xcl,xbx,xaR];congr 2
    · rw[show(S.filter fun s=>near g s b && !near g s a)=S.filter fun s=> !near g s a && near g s b from xbg fun s _=>xc6 _ _]
    · cases h:near g (a.2.1,cu g f S a) b<;>simp[h]
  have cm:(S.filter fun s=> !near g s a && !near g s b)=S.filter fun s=> !near g s b && !near g s a:=xbg fun s _=>xc6 _ _;show((ins g f S a).filter (fun s=> !near g s b) ++ [(b.2.1,cu g f (ins g f S a) b)]).Perm ((ins g f S b).filter (fun s=> !near g s a) ++ [(a.2.1,cu g f (ins g f S b) a)]);rw[two,two,tw',tw',cm, <-sy]
  cases h:near g (a.2.1,cu g f S a) b with
  |true=>
    have k:a.2.1=b.2.1:=((Ce g0).mp h).1;simp only[xbi,xaE,xco,xaG,List.foldl_nil];refine .of_eq (congrArg (fun h=>(S.filter fun s=> !near g s b && !near g s a) ++ [h]) (xdu k.symm ?_));dsimp only;unfold cu;rw[yD,yD,Cu,Cu (b:=eX f b),yD,yD, <-xco, <-xco,Cu (a:=eX f b), <-xaR, <-xaR];exact Ma ((Lz (p:=fun s=>near g s a) (q:=fun s=>near g s b) S).map _) _
  |false=>
    simp only[xaM,xbb,xaE];have no:∀s∈S,¬ (near g s a=true/\near g s b=true):=fun s hs z=>by
      have:near g (a.2.1,cu g f S a) b=true:=(Ce g0).mpr ⟨by rw[<-(lU.mp z.1).1, <-(lU.mp z.2).1],.inr ⟨s,hs,z⟩⟩;rw[h]at this;cases this
    have e1:(S.filter fun s=> !near g s a && near g s b)=S.filter fun s=>near g s b:=xbg fun s hs=>by
      have:=no s hs;cases h1:near g s a<;>cases h2:near g s b<;>simp_all
    have e2:(S.filter fun s=> !near g s b && near g s a)=S.filter fun s=>near g s a:=xbg fun s hs=>by
      have:=no s hs;cases h1:near g s a<;>cases h2:near g s b<;>simp_all
    rw[e1,e2,xat,xat];exact(List.Perm.swap _ _ _).append_left _
end
section
variable {g:Int}{f:Str}
theorem Bo {S S':List bZ}{x:Th}(p:S.Perm S'):(ins g f S x).Perm (ins g f S' x):=by
 unfold ins cu;rw[Ma ((p.filter _).map _)];exact(p.filter _).append_right _
theorem R8 (g0:0<g){T T':List Th}(p:T.Perm T'):∀{S S':List bZ},S.Perm S'->(T.foldl (ins g f) S).Perm (T'.foldl (ins g f) S'):=by
  induction p with
  |nil=>exact fun h=>h
  |cons x _ ih=>exact fun h=>ih (Bo h)
  |swap x y l=>
    intro S S' h;rw[xaG,xaG,xaG,xaG];have q:(ins g f (ins g f S y) x).Perm (ins g f (ins g f S' x) y):=(Bo (Bo h)).trans (Vb g0);generalize ins g f (ins g f S y) x=A at q;generalize ins g f (ins g f S' x) y=B at q;clear h
    induction l generalizing A B with
    |nil=>exact q
    |cons z l ih=>exact ih _ _ (Bo q)
  |trans _ _ h1 h2=>exact fun h=>(h1 h).trans (h2 (.refl _))
def spans (g:Int)(f:Str)(T:List Th):List bZ:=T.foldl (ins g f) []
theorem zap {T:List Th}{x:Th}:spans g f (T ++ [x])=ins g f (spans g f T) x:=by
 unfold spans;rw[xco];rfl
def aZ (g mk:Int)(s:bZ):Bool:=decide (mk<s.2.2.1 + g)
theorem Va {S:List bZ}{x:Th}{mk:Int}(g0:0<g)(hx:mk<=x.1):ins g f (S.filter (aZ g mk)) x=(ins g f S x).filter (aZ g mk):=by
  have e1:(S.filter (aZ g mk)).filter (fun s=>near g s x)=S.filter fun s=>near g s x:=by
    rw[xbx];refine xbg fun s _=>?_
    cases h:near g s x with
    |false=>rfl
    |true=>
      have:=(lU.mp h).2.2;rw[xc5];exact xaW (by lia)
  have e2:aZ g mk (x.2.1,cu g f S x)=true:=by
    have:=(Bl (f:=f) ((S.filter fun s=>near g s x).map (·.2)) (eX f x)).1;refine xaW ?_;show mk<(((S.filter fun s=>near g s x).map (·.2)).foldl (op f) (eX f x)).2.1 + g;have z:(eX f x).2.1=x.1:=rfl;lia
  unfold ins;rw[xcl,xdY e2,List.filter_nil,xbx,xbx];unfold cu;rw[e1,show(S.filter fun s=>(!near g s x) && aZ g mk s)=S.filter fun s=>aZ g mk s && !near g s x from xbg fun s _=>xc6 _ _]
theorem Ov {S:List bZ}{mk low:Int}(h:mk<=low):(S.filter (aZ g mk)).filter (aZ g low)=S.filter (aZ g low):=by
 rw[xbx];refine xbg fun s _=>?_;unfold aZ;rw[<-Bool.decide_and];exact xdV.mpr ⟨fun z=>z.1,fun z=>⟨z,by lia⟩⟩
abbrev Rn:=Int×Int×Str×List Int
def sm (f:Str)(r:Rn):bZ:=(r.2.2.1,r.1,r.2.1,lf f r.2.2.2)
theorem VG {is:List Int}{v:Int}(hf:Fd f)(hn:is≠ []):lf f (is ++ [v])=dB f (fi f v) (lf f is):=by
 have h1:=Gm hf (is:=(is ++ [v]).reverse) (by simp);have h2:=Gm hf (is:=is.reverse) (by simpa using hn);rw[xdo]at h1 h2;rw[<-h1, <-h2,xbC];obtain⟨a,r,e⟩:∃a r,is.reverse=a::r:=by
  cases e:is.reverse with
  |nil=>exact absurd (List.reverse_eq_nil_iff.mp e) hn
  |cons a r=>exact⟨a,r,rfl⟩
 rw[e];show((a::r).map (fi f)).foldl (dB f) (fi f v)=dB f (fi f v) ((r.map (fi f)).foldl (dB f) (fi f a));rw[xaP,xaG];generalize r.map (fi f)=l;generalize fi f a=x;generalize fi f v=y;clear e h1 h2
 induction l generalizing x with
 |nil=>rfl
 |cons z l ih=>rw[xaG,xaG,N8,ih]
noncomputable def stp (g:Int) (k:Str) (R:List Rn) (p:Int×Int):List Rn:=match R.getLast? with
 |some r=>if r.2.2.1=k/\p.1 - r.2.1<g then R.dropLast ++ [(r.1,p.1,k,r.2.2.2 ++ [p.2])] else R ++ [(p.1,p.1,k,[p.2])]
 |none=>[(p.1,p.1,k,[p.2])]
structure RI (g:Int)(k:Str)(R0 R1:List Rn)(t:Int):Prop where
 o:∀r∈R0,r.2.2.1≠k
 k:∀r∈R1,r.2.2.1=k/\r.1<=r.2.1/\r.2.1<=t/\r.2.2.2≠ []
 s:R1.Pairwise fun a b=>a.2.1 + g<=b.1
theorem RI.later {k:Str}{R0 R1:List Rn}{t t':Int}(h:RI g k R0 R1 t)(l:t<=t'):RI g k R0 R1 t':=⟨h.o,fun r hr=>by obtain⟨a,b,c,d⟩:=h.k r hr;exact⟨a,b,by lia,d⟩,h.s⟩
theorem zbT {k:Str}{R0 R1:List Rn}{p:Int×Int}(g0:0<g)(hf:Fd f)(h:RI g k R0 R1 p.1):∃R1',stp g k (R0 ++ R1) p=R0 ++ R1'/\RI g k R0 R1' p.1/\R1'≠ []/\(R0 ++ R1').map (sm f)=ins g f ((R0 ++ R1).map (sm f)) (p.1,k,p.2):=by
  have far:∀Q:List Rn,(∀r∈Q,r.2.2.1=k->r.2.1 + g<=p.1)->((Q.map (sm f)).filter fun s=> !near g s (p.1,k,p.2))=Q.map (sm f)/\((Q.map (sm f)).filter fun s=>near g s (p.1,k,p.2))=[]:=fun Q hQ=>by
    have n:∀s∈Q.map (sm f),near g s (p.1,k,p.2)=false:=fun s hs=>by
      obtain⟨r,hr,rfl⟩:=xaw.mp hs;rw[Bool.eq_false_iff];intro z;obtain⟨z1,z2,z3⟩:=lU.mp z;have:=hQ r hr z1;have z3:p.1<r.2.1 + g:=z3;lia
    exact⟨List.filter_eq_self.mpr fun s hs=>by rw[n s hs];rfl,xd2.mpr fun s hs=>by rw[n s hs];decide⟩
  have h0:∀r∈R0,r.2.2.1=k->r.2.1 + g<=p.1:=fun r hr e=>absurd e (h.o r hr);have new:∀Q:List Rn,(∀r∈Q,r.2.2.1=k->r.2.1 + g<=p.1)->(Q ++ [(p.1,p.1,k,[p.2])]).map (sm f)=ins g f (Q.map (sm f)) (p.1,k,p.2):=fun Q hQ=>by
    obtain⟨e1,e2⟩:=far Q hQ;unfold ins cu;rw[e1,e2,xaR];refine congrArg (fun z=>Q.map (sm f) ++ [(k,p.1,p.1,z)]) ?_;show lf f [p.2]=fi f p.2;exact(Gm hf (is:=[p.2]) (by simp)).symm
  have snoc:∀Q:List Rn,(∀r∈Q,r.2.2.1=k/\r.1<=r.2.1/\r.2.1 + g<=p.1/\r.2.2.2≠ [])->Q.Pairwise (fun a b=>a.2.1 + g<=b.1)->RI g k R0 (Q ++ [(p.1,p.1,k,[p.2])]) p.1:=fun Q hQ pw=>by
    refine⟨h.o,fun r hr=>?_,xaQ.mpr ⟨pw,by simp,fun a ha b hb=>?_⟩⟩
    · rcases xaJ.mp hr with hr |hr
      · obtain⟨a,b,c,d⟩:=hQ r hr;exact⟨a,b,by lia,d⟩
      · rw[xax.mp hr];exact⟨rfl,xb7 _,xb7 _,by simp⟩
    · rw[xax.mp hb];exact(hQ a ha).2.2.1
  rcases xed R1 with rfl |⟨Q,r,rfl⟩
  · refine⟨[(p.1,p.1,k,[p.2])],?_,snoc [] (fun r hr=>nomatch hr) .nil,by simp,?_⟩
    · rw[xaE];unfold stp
      cases e:R0.getLast? with
      |none=>
        rw[xdN]at e;rw[e];rfl
      |some r=>
        dsimp only;rw[xae fun z=>h.o r (xej e) z.1]
    · rw[xaE];exact new R0 h0
  · rw[xee]at h ⊢;obtain⟨rk,r1,r2,r3⟩:=h.k r (by simp);have pw:=xaQ.mp h.s;have hQ:∀q∈Q,q.2.2.1=k/\q.1<=q.2.1/\q.2.1 + g<=r.1/\q.2.2.2≠ []:=fun q hq=>by
      obtain⟨a,b,c,d⟩:=h.k q (by simp[hq]);exact⟨a,b,pw.2.2 q hq r (by simp),d⟩
    have lastE:(R0 ++ (Q ++ [r])).getLast? =some r:=by rw[<-xat,xek];rfl
    have dropE:(R0 ++ (Q ++ [r])).dropLast=R0 ++ Q:=by rw[<-xat,xel]
    unfold stp;rw[lastE];dsimp only
    by_cases c:p.1 - r.2.1<g
    · rw[xac ⟨rk,c⟩,dropE];refine⟨Q ++ [(r.1,p.1,k,r.2.2.2 ++ [p.2])],by rw[xat],⟨h.o,fun x hx=>?_,xaQ.mpr ⟨pw.1,by simp,fun a ha b hb=>?_⟩⟩,by simp,?_⟩
      · rcases xaJ.mp hx with hx |hx
        · obtain⟨a,b,c,d⟩:=hQ x hx;exact⟨a,b,by lia,d⟩
        · rw[xax.mp hx];refine⟨rfl,?_,xb7 _,by simp⟩;show r.1<=p.1;lia
      · rw[xax.mp hb];exact(hQ a ha).2.2.1
      · have fr:∀q∈R0 ++ Q,q.2.2.1=k->q.2.1 + g<=p.1:=fun q hq e=>by
          rcases xaJ.mp hq with hq |hq
          · exact h0 q hq e
          · have:=(hQ q hq).2.2.1;lia
        obtain⟨e1,e2⟩:=far _ fr;have nr:near g (sm f r) (p.1,k,p.2)=true:=lU.mpr ⟨rk,by show r.1 - g<p.1;lia,by show p.1<r.2.1 + g;lia⟩;rw[<-xat, <-xat,xaR,xaR (l₂:=[r])];unfold ins cu;have f1:([r].map (sm f)).filter (fun s=> !near g s (p.1,k,p.2))=[]:=by simp[nr]
        have f2:([r].map (sm f)).filter (fun s=>near g s (p.1,k,p.2))=[sm f r]:=by simp[nr]
        rw[xcl,xcl,e1,e2,f1,f2,xaE,xa4];refine congrArg (fun z=>(R0 ++ Q).map (sm f) ++ [z]) ?_;show(k,r.1,p.1,lf f (r.2.2.2 ++ [p.2]))=(k,mn p.1 r.1,mx p.1 r.2.1,dB f (fi f p.2) (lf f r.2.2.2));rw[VG hf r3];unfold mn mx;rw[xae (show ¬ r.2.1 > p.1 by lia)]
        by_cases z:r.1<p.1
        · rw[xac z]
        · rw[xae z,show r.1=p.1 by lia]
    · rw[xae fun z=>c z.2];refine⟨Q ++ [r] ++ [(p.1,p.1,k,[p.2])],by simp only[xat],snoc (Q ++ [r]) (fun q hq=>?_) h.s,by simp,?_⟩
      · rcases xaJ.mp hq with hq |hq
        · obtain⟨a,b,c,d⟩:=hQ q hq;exact⟨a,b,by lia,d⟩
        · rw[xax.mp hq];exact⟨rk,r1,by lia,r3⟩
      · rw[<-xat];refine new _ fun q hq e=>?_;rcases xaJ.mp hq with hq |hq
        · exact h0 q hq e
        · rcases xaJ.mp hq with hq |hq
          · have:=(hQ q hq).2.2.1;lia
          · rw[xax.mp hq];lia
end
section
variable {g:Int}{f:Str}
def toT (k:Str)(p:Int×Int):Th:=(p.1,k,p.2)
theorem Kw {k:Str}{R0:List Rn}(g0:0<g)(hf:Fd f):∀(ps:List (Int×Int)) (R1:List Rn) (t:Int),RI g k R0 R1 t->(∀p∈ps,t<=p.1)->(ps.Pairwise fun a b=>a.1<=b.1)->
    ∃R1' t',ps.foldl (stp g k) (R0 ++ R1)=R0 ++ R1'/\RI g k R0 R1' t'/\(R0 ++ R1').map (sm f)=(ps.map (toT k)).foldl (ins g f) ((R0 ++ R1).map (sm f))
  | [],R1,t,h,_,_=>⟨R1,t,rfl,h,rfl⟩
  |p::ps,R1,t,h,ht,pw=>by
    obtain⟨p1,p2⟩:=xbH.mp pw;obtain⟨R2,e1,h1, -,m1⟩:=zbT (p:=p) (f:=f) g0 hf (h.later (ht p xau));obtain⟨R3,t',e2,h2,m2⟩:=Kw g0 hf ps R2 p.1 h1 p1 p2;exact⟨R3,t',by rw[xaG,e1,e2],h2,by rw[m2,m1];rfl⟩
theorem Tq {k:Str}{R0:List Rn}(g0:0<g)(hf:Fd f)(ho:∀r∈R0,r.2.2.1≠k){ps:List (Int×Int)}(pw:ps.Pairwise fun a b=>a.1<=b.1):
  (∀r∈ps.foldl (stp g k) R0,r∈R0\/r.2.2.1=k/\r.2.2.2≠ [])/\(ps.foldl (stp g k) R0).map (sm f)=(ps.map (toT k)).foldl (ins g f) (R0.map (sm f)):=by
 obtain⟨t,ht⟩:∃t:Int,∀p∈ps,t<=p.1:=by
  cases ps with
  |nil=>exact⟨0,fun p h=>nomatch h⟩
  |cons p ps=>exact⟨p.1,fun q hq=>(xar.mp hq).elim (fun e=>e ▸ xb7 _) fun hq=>(xbH.mp pw).1 q hq⟩
 obtain⟨R1,t',e,h,m⟩:=Kw (k:=k) (R0:=R0) (f:=f) g0 hf ps [] t ⟨ho,(fun r hr=>nomatch hr),.nil⟩ ht pw
 rw[xaE]at e m;rw[e];refine⟨fun r hr=>?_,m⟩;rcases xaJ.mp hr with hr |hr
 ·exact .inl hr
 ·obtain⟨a, -, -,d⟩:=h.k r hr;exact .inr ⟨a,d⟩
noncomputable def fK (g:Int) (Y:Str->List (Int×Int)) (ks:List Str) (R:List Rn):List Rn:=ks.foldl (fun R k=>(Y k).foldl (stp g k) R) R
theorem Ow {Y:Str->List (Int×Int)}(g0:0<g)(hf:Fd f):∀(ks:List Str) (R0:List Rn),ks.Nodup->(∀r∈R0,r.2.2.1∉ks)->(∀r∈R0,r.2.2.2≠ [])->(∀k∈ks,(Y k).Pairwise fun a b=>a.1<=b.1)->
    (∀r∈fK g Y ks R0,r.2.2.2≠ [])/\(fK g Y ks R0).map (sm f)=(ks.flatMap fun k=>(Y k).map (toT k)).foldl (ins g f) (R0.map (sm f))
  | [],R0,_,_,hv,_=>⟨hv,rfl⟩
  |k::ks,R0,nd,ho,hv,pw=>by
    rw [xbM] at nd;obtain ⟨a, b⟩ := Tq (k := k) (R0 := R0) (f := f) g0 hf (fun r hr e => ho r hr (e ▸ xau)) (pw k xau);obtain ⟨c, d⟩ := Ow (Y := Y) g0 hf ks ((Y k).foldl (stp g k) R0) nd.2 (fun r hr=>by
      rcases a r hr with h |⟨h, -⟩
      · exact fun z=>ho r h (xal _ z)
      · rw[h];exact nd.1) (fun r hr=>(a r hr).elim (hv r) fun z=>z.2) fun k hk=>pw k (xal _ hk)
    refine⟨c,?_⟩;show(fK g Y ks ((Y k).foldl (stp g k) R0)).map (sm f)=_;rw[d,b,xcU,xco]
theorem LK:∀(ks:List Str) (T:List Th),ks.Nodup->(∀x∈T,x.2.1∈ks)->(ks.flatMap fun k=>T.filter fun x=>decide (x.2.1=k)).Perm T
  | [],T,_,h=>by
    cases T with
    |nil=>exact .refl _
    |cons x T=>exact nomatch h x xau
  |k::ks,T,nd,h=>by
    rw[xbM]at nd;have ih:=LK ks (T.filter fun x=> !decide (x.2.1=k)) nd.2 fun x hx=>by
      obtain⟨h1,h2⟩:=xbK.mp hx;rcases xar.mp (h x h1) with e |e
      · rw[xaW e]at h2;cases h2
      · exact e
    rw[xcU];refine List.Perm.trans (xcp _ ?_) (List.filter_append_perm (fun x=>decide (x.2.1=k)) T);refine List.Perm.trans (.of_eq ?_) ih;unfold List.flatMap;refine congrArg List.flatten (xcy fun k' hk=>?_);rw[xbx];refine xbg fun x _=>?_
    by_cases e:x.2.1=k'
    · rw[xaW e,xaI (fun z=>nd.1 (by rw[<-z,e];exact hk))];rfl
    · rw[xaI e];rfl
theorem LR {α β:Type}{F G:α->List β}:∀l:List α,(∀a∈l,(F a).Perm (G a))->(l.flatMap F).Perm (l.flatMap G)
  | [],_=>.refl _
  |a::l,h=>by
    rw[xcU,xcU];exact(h a xau).append (LR l fun x hx=>h x (xal _ hx))
theorem zbC {Y:Str->List (Int×Int)}{ks:List Str}{T:List Th}(g0:0<g)(hf:Fd f)(nd:ks.Nodup)(hk:∀x∈T,x.2.1∈ks)(pw:∀k∈ks,(Y k).Pairwise fun a b=>a.1<=b.1)(hy:∀k∈ks,(Y k).Perm ((T.filter fun x=>decide (x.2.1=k)).map fun x=>(x.1,x.2.2))):
  (∀r∈fK g Y ks [],r.2.2.2≠ [])/\((fK g Y ks []).map (sm f)).Perm (spans g f T):=by
 obtain⟨a,b⟩:=Ow (Y:=Y) (f:=f) g0 hf ks [] nd (fun r hr=>nomatch hr) (fun r hr=>nomatch hr) pw
 refine⟨a,?_⟩;rw[b];refine R8 g0 ?_ (.refl _);refine List.Perm.trans (LR ks fun k hk=>((hy k hk).map (toT k)).trans (.of_eq ?_)) (LK ks T nd hk);rw[xbP]
 conv=>rhs;rw[<-xcZ (T.filter fun x=>decide (x.2.1=k))]
 refine xcy fun x hx=>?_;have:=xcT (xbK.mp hx).2;show(x.1,k,x.2.2)=x;rw[<-this]
end
variable {M:Mm}
theorem Gv {N E:Mm}{k:Nat}{c:E3.Cl}(h:N[k]? =some c):(N ++ E)[k]? =some c:=by rw[xaH (xaz.mp h).1];exact h
theorem xO {k j:Nat}{c c':E3.Cl}(h:M[k]? =some c)(n:j≠k):(M.set j c')[k]? =some c:=by rw[xdf n];exact h
theorem Jh {j:Nat}{c c':E3.Cl}(h:M[j]? =some c):(M.set j c')[j]? =some c':=xcV (xaz.mp h).1
def bK (x:Th):D:=.tup [.int x.1,.str x.2.1,.int x.2.2]
noncomputable def cB (r:Rn):D:=.tup [.int r.1,.int r.2.1,.str r.2.2.1,.lst (r.2.2.2.map .int)]
def aP (s:bZ):D:=.tup [.int s.2.1,.int s.2.2.1,.str s.1,.int s.2.2.2]
def Sm (n:Nat)(R:List Rn):Prop:=R.length<=n/\∀r∈R,r.2.2.2.length<=n
theorem Sm.stp {n:Nat}{R:List Rn}{g:Int}{k:Str}{p:Int×Int}(h:Sm n R):Sm (n + 1) (stp g k R p):=by
 have up : ∀ r ∈ R, r.2.2.2.length <= n + 1 := fun r hr => xcR (h.2 r hr);have sn : Sm (n + 1) (R ++ [(p.1, p.1, k, [p.2])]) := ⟨by rw[xaj,xaA];exact Nat.succ_le_succ h.1,fun r hr=>by
  rcases xaJ.mp hr with hr |hr
  ·exact up r hr
  ·rw[xax.mp hr];exact Nat.le_add_left 1 n⟩
 unfold My.stp
 split
 ·rename_i r e
  split
  ·refine⟨?_,fun x hx=>?_⟩
   ·have:=h.1;rw[xaj,List.length_dropLast,xaA];lia
   ·rcases xaJ.mp hx with hx |hx
    ·exact up x (List.dropLast_subset _ hx)
    ·rw[xax.mp hx];show(r.2.2.2 ++ [p.2]).length<=n + 1;rw[xaj,xaA];exact Nat.succ_le_succ (h.2 r (xej e))
  ·exact sn
 ·rename_i e;rw[xdN]at e;rw[e]at sn;exact sn
theorem yr {n:Nat}:∀l:List D,(∀d∈l,d.dep<=n)->D.deps l<=n
  | [],_=>xaS _
  |d::l,h=>by
    have h1:=h d (by simp);have h2:=yr l fun x hx=>h x (by simp[hx]);show max d.dep (D.deps l)<=n;lia
theorem zbn (R:List Rn):D.deps (R.map cB)<=5:=yr _ fun d hd=>by
 obtain⟨r, -,rfl⟩:=xaw.mp hd;have:D.deps (r.2.2.2.map D.int)<=1:=yr _ fun d hd=>by
  obtain⟨i, -,rfl⟩:=xaw.mp hd
  simp[D.dep]
 simp only[cB,D.dep,D.deps];lia
theorem zc0 {R:List Rn}{c:D}{n N:Nat}{g t v:Int}{k:Str}(hM:M[n]? =some (.lst (R.map cB)))(hs:Sm N R)(hN:N<=10000):
  yL [.val c,.val (.int g),.val (.ref n),.val (.str k),.val (.int t),.val (.int v)] M=some (.nx [.val c,.val (.int g),.val (.ref n),.val (.str k),.val (.int t),.val (.int v)],M.set n (.lst ((stp g k R (t,v)).map cB))):=by
 have wv:vw M (.ref n)=.lst (R.map cB):=vq hM;have rl:=hs.1;have ap:fW (aj 2) (aV (au (aj 4) (au (aj 4) (au (aj 3) (au (aX (au (aj 5) aq)) aq))))) [.val c,.val (.int g),.val (.ref n),.val (.str k),.val (.int t),.val (.int v)] M=some (.nx [.val c,.val (.int g),.val (.ref n),.val (.str k),.val (.int t),.val (.int v)],M.set n (.lst ((R ++ [(t,t,k,[v])]).map cB))):=by
  rw[Ai (k:=n) (ds0:=R.map cB) (ds:=R.map cB) (d:=cB (t,t,k,[v])) (M1:=M) (M2:=M) rfl hM rfl hM (by rw[xaf,xaX];lia),xaR];rfl
 unfold yL;generalize fW _ _=FA at ap ⊢;rcases xed R with rfl |⟨Q,r,rfl⟩
 ·have ne:aG .ne (.lst []) (.lst [])=some (.bl false):=Ci (by simp[D.dep,D.deps]);z_go;rw[wv,xdk,ne];z_go;rw[ap];z_go;rfl
 ·rw[xee]at *;have dd:D.deps ((Q ++ [r]).map cB)<=49:=xaq (zbn _) (by decide);have ne:aG .ne (.lst ((Q ++ [r]).map cB)) (.lst [])=some (.bl true):=by
   rw[WX dd,show((Q ++ [r]).map cB).isEmpty=false by simp];rfl
  have il:kj ((Q ++ [r]).map cB).length (-1)=some Q.length:=by
   rw[xaf,xaj,xaA];unfold kj;rw[xae (by decide),xac (by lia)];exact congrArg some (by lia)
  have ix:cL ((Q ++ [r]).map cB) (-1)=some (cB r):=by
   unfold cL;rw[il,Option.bind_some,xaR,xas (by simp),xaf,xbN];rfl
  have i0:s2 aH (aj 2) (s1 bY (ak (.int 1))) [.val c,.val (.int g),.val (.ref n),.val (.str k),.val (.int t),.val (.int v)] M=some (.v (cB r),M):=by
   z_go;rw[wv];z_go;rw[ix];z_go
  have lr:=hs.2 r (by simp);have st:mU (aj 2) (s1 bY (ak (.int 1))) (aV (au (s2 aH (s2 aH (aj 2) (s1 bY (ak (.int 1)))) (ak (.int 0))) (au (aj 4) (au (aj 3) (au (s2 aW (s2 aH (s2 aH (aj 2) (s1 bY (ak (.int 1)))) (ak (.int 3))) (aX (au (aj 5) aq))) aq))))) [.val c,.val (.int g),.val (.ref n),.val (.str k),.val (.int t),.val (.int v)] M=some (.nx [.val c,.val (.int g),.val (.ref n),.val (.str k),.val (.int t),.val (.int v)],M.set n (.lst ((Q ++ [(r.1,t,k,r.2.2.2 ++ [v])]).map cB))):=by
   have e:aV (au (s2 aH (s2 aH (aj 2) (s1 bY (ak (.int 1)))) (ak (.int 0))) (au (aj 4) (au (aj 3) (au (s2 aW (s2 aH (s2 aH (aj 2) (s1 bY (ak (.int 1)))) (ak (.int 3))) (aX (au (aj 5) aq))) aq)))) [.val c,.val (.int g),.val (.ref n),.val (.str k),.val (.int t),.val (.int v)] M=some (.v (cB (r.1,t,k,r.2.2.2 ++ [v])),M):=by
    generalize s2 aH (aj 2) (s1 bY (ak (.int 1)))=FL at i0 ⊢;unfold cB at *;have ml:(r.2.2.2.map D.int).length<=10000:=by rw[xaf];lia
    rw[xaR];generalize r.2.2.2.map D.int=ms at *;z_go;rw[i0];z_go;rw[i0];z_go;rw[xac (by lia)];z_go
   rw[Mz (k:=n) (i:= -1) (x:=cB (r.1,t,k,r.2.2.2 ++ [v])) (M1:=M) (M2:=M) (M3:=M) (ds:=(Q ++ [r]).map cB) (j:=Q.length) e rfl rfl hM il];refine congrArg (fun l=>some (Out.nx _,M.set n (E3.Cl.lst l))) ?_;rw[xaR,xaR,xb0 _ _ (by simp),xaf,xbN];rfl
  have es:stp g k (Q ++ [r]) (t,v)=if r.2.2.1=k/\t - r.2.1<g then Q ++ [(r.1,t,k,r.2.2.2 ++ [v])] else Q ++ [r] ++ [(t,t,k,[v])]:=by
   unfold stp;rw[xek,xel];rfl
  generalize mU _ _ _=FS at st ⊢;generalize s2 aH (aj 2) (s1 bY (ak (.int 1)))=FL at i0 ⊢;have u:cB r=.tup [.int r.1,.int r.2.1,.str r.2.2.1,.lst (r.2.2.2.map .int)]:=rfl;rw[u]at i0;generalize r.2.2.2.map D.int=ms at i0;rw[es];z_go;rw[wv,ne];z_go;rw[i0];z_go
  by_cases c1:r.2.2.1=k
  ·simp only[c1,xbI];z_go;rw[i0];z_go
   by_cases c2:t - r.2.1<g
   ·rw[xac c2];simp only[c2,xbI];z_go;rw[st];z_go
   ·rw[xae c2];simp only[c2,xaN];z_go;rw[ap];z_go
  ·simp only[c1,xaN,false_and,xbb];z_go;rw[ap];z_go
variable {M:Mm}
noncomputable def gn (p:Int×Int):D:=.tup [.int p.1,.int p.2]
def rN (M:Mm)(R:List Rn):Mm:=M ++ [.lst (R.map cB)]
theorem Ik {R:List Rn}:(rN M R)[M.length]? =some (.lst (R.map cB)):=by unfold rN;rw[xas (xad _),xbN];rfl
theorem ZR {R R':List Rn}:(rN M R).set M.length (.lst (R'.map cB))=rN M R':=by
 unfold rN;rw[xb0 _ _ (xad _),xbN];rfl
theorem Pj {c:D}{g:Int}{k:Str}:∀(ps:List (Int×Int)) (R:List Rn) (N:Nat) (s4 s5:Slot),Sm N R->N + ps.length<=10000->∃s4' s5',rA [4,5] yL (ps.map gn) [.val c,.val (.int g),.val (.ref M.length),.val (.str k),s4,s5] (rN M R)=some (.nx [.val c,.val (.int g),.val (.ref M.length),.val (.str k),s4',s5'],rN M (ps.foldl (stp g k) R))/\Sm (N + ps.length) (ps.foldl (stp g k) R)
  | [],R,N,s4,s5,h,_=>⟨s4,s5,rfl,h⟩
  |p::ps,R,N,s4,s5,h,hl=>by
    rw[xay]at hl;have b:=zc0 (c:=c) (g:=g) (t:=p.1) (v:=p.2) (k:=k) (Ik (M:=M)) h (by lia);rw[ZR]at b;obtain⟨s4',s5',e,h'⟩:=Pj ps (stp g k R p) (N + 1) (.val (.int p.1)) (.val (.int p.2)) h.stp (by lia);refine⟨s4',s5',?_,by rw[xay,show N + (ps.length + 1)=N + 1 + ps.length by lia];exact h'⟩;rw[xaP];simp only[rA,show gC [4,5] (gn p) [.val c,.val (.int g),.val (.ref M.length),.val (.str k),s4,s5]=some [.val c,.val (.int g),.val (.ref M.length),.val (.str k),.val (.int p.1),.val (.int p.2)] from rfl,b];exact e
theorem JN {t t' v v':Int}:∃b,bG [.int t,.int v] [.int t',.int v']=some b:=by
 simp only[bG]
 repeat' split
 all_goals exact⟨_,rfl⟩
noncomputable def D_ (d:D):Int×Int:=match d with
 |.tup [.int a,.int b]=>(a,b)
 |_=>(0,0)
theorem zV (l:List (Int×Int)):∃ps:List (Int×Int),dh (l.map gn)=some (ps.map gn)/\ps.Perm l/\ps.Pairwise fun a b=>a.1<=b.1:=by
 have ok:gR (l.map gn):=by
  refine⟨.inl (xbm.mpr fun d hd=>?_),fun xs ys hx hy=>?_⟩
  ·obtain⟨k, -,rfl⟩:=xaw.mp hd;rfl
  ·obtain⟨k, -,e⟩:=xaw.mp hx;obtain⟨k', -,e'⟩:=xaw.mp hy;rw[<-D.tup.inj e, <-D.tup.inj e'];exact JN
 obtain⟨es,e1,e2,e3⟩:=u_ ok;have ee:es=(es.map D_).map gn:=by
  rw[xbP]
  conv=>lhs;rw[<-xcZ es]
  refine xcy fun d hd=>?_;obtain⟨k, -,rfl⟩:=xaw.mp (e2.mem_iff.mp hd);rfl
 refine⟨es.map D_,by rw[<-ee];exact e1,?_,?_⟩
 ·have:=e2.map D_;rw[xbP]at this;rw[show l=l.map (D_ ∘ gn) from(xcZ l).symm];exact this
 ·rw[ee,xcS]at e3;refine e3.imp fun {a b} h=>?_;have h:bG [.int b.1,.int b.2] [.int a.1,.int a.2]=some false:=h;simp only[bG]at h
  by_cases c:b.1=a.1
  ·lia
  ·rw[xae c]at h;have:=of_decide_eq_false (xaD h);lia
noncomputable def gQ (X:List Th) (k:Str):List (Int×Int):=(X.filter fun x=>decide (x.2.1=k)).map fun x=>(x.1,x.2.2)
noncomputable def Yk (X:List Th) (k:Str):List (Int×Int):=Classical.choose (zV (gQ X k))
theorem Ah (X:List Th)(k:Str):dh ((gQ X k).map gn)=some ((Yk X k).map gn)/\(Yk X k).Perm (gQ X k)/\(Yk X k).Pairwise fun a b=>a.1<=b.1:=xcs (zV (gQ X k))
theorem HX {X:List Th}{c:Nat}{k:Str}(hc:M[c]? =some (.lst (X.map bK))):∀(n t:Nat) (acc:List D),t<=X.length->X.length - t<n->acc.length + (X.length - t)<=1000->k_ c sY yt [.val (.str k)] n t acc M=some (acc ++ (gQ (X.drop t) k).map gn,M)
  |0,t,acc,_,h,_=>absurd h (xbA _)
  |n + 1,t,acc,ht,hn,hl=>by
    simp only[k_,hc]
    by_cases h:t<X.length
    · have e:(X.map bK)[t]? =some (bK X[t]):=by rw[xao,xah h];rfl
      have b1:sY (.val (bK X[t])::[.val (.str k)]) M=some (.v (.bl (decide (X[t].2.1=k))),M):=by
        show sY [.val (.tup [.int X[t].1,.str X[t].2.1,.int X[t].2.2]),.val (.str k)] M=_;unfold sY;z_go
      have b2:yt (.val (bK X[t])::[.val (.str k)]) M=some (.v (gn (X[t].1,X[t].2.2)),M):=rfl;have dr:gQ (X.drop t) k=(if decide (X[t].2.1=k)=true then [(X[t].1,X[t].2.2)] else []) ++ gQ (X.drop (t + 1)) k:=by
        unfold gQ;rw[xaO h,xce]
        split<;>rfl
      rw[dr];simp only[e,b1,b2]
      cases hb:decide (X[t].2.1=k) with
      |true=>
        simp only[xbi];rw[b2];dsimp only;rw[xac (by rw[xaX];lia),HX hc n (t + 1) _ h (by lia) (by rw[xaj,xaA];lia),xat];rfl
      |false=>
        simp only[xaM,xbb,xa4];exact HX hc n (t + 1) acc h (by lia) (by lia)
    · rw[xbj (by rw[xaf];lia),xbD (by lia)]
      simp[gQ]
theorem zcw {f:E}{env:E3.Env}{M1:Mm}{T:List Str}(h:f env M=some (.v (.lst (T.map .str)),M1))(hl:T.length<64):rG f env M=some (.v (.lst ((cP T).map .str)),M1):=by
 simp only[rG,bnd,h,show vw M1 (.lst (T.map D.str))=.lst (T.map D.str) from rfl,E3.strs_map,xac hl]
theorem Vx {T:List Str}:(cP T).Nodup:=Pb DK
theorem MK {x:Str}:∀{l:List Str},(cY x l).length<=l.length + 1
  | []=>by simp[cY]
  |y::l=>by
    have ih:=MK (x:=x) (l:=l);unfold cY
    split
    · simp
    · split
      · simp
      · simp only[xay];lia
theorem Nq:∀{T:List Str},(cP T).length<=T.length
  | []=>xad _
  |x::T=>by
    have:=Nq (T:=T);have h2:=MK (x:=x) (l:=cP T);show(cY x (cP T)).length<=_;rw[xay];lia
theorem Ol {X:List Th}{k:Str}:(gQ X k).length<=X.length:=by
 unfold gQ;rw[xaf];exact xb1 ..
theorem Wt {X:List Th}{R:List Rn}{c N:Nat}{g:Int}{k:Str}{s4 s5:Slot}(hc:M[c]? =some (.lst (X.map bK)))(hX:X.length<=63)(h:Sm N R)(hN:N<=9000):∃s4' s5',yM [.val (.ref c),.val (.int g),.val (.ref M.length),.val (.str k),s4,s5] (rN M R)=some (.nx [.val (.ref c),.val (.int g),.val (.ref M.length),.val (.str k),s4',s5'],rN M ((Yk X k).foldl (stp g k) R))/\Sm (N + (Yk X k).length) ((Yk X k).foldl (stp g k) R):=by
 obtain⟨y1,y2,y3⟩:=Ah X k;have yl:(Yk X k).length<=63:=by rw[y2.length_eq];exact xaq Ol hX
 obtain⟨s4',s5',e,h'⟩:=Pj (M:=M) (c:=.ref c) (g:=g) (k:=k) (Yk X k) R N s4 s5 h (by lia);refine⟨s4',s5',?_,h'⟩;have hc':(rN M R)[c]? =some (.lst (X.map bK)):=Gv hc;have q:=HX (M:=rN M R) (k:=k) hc' 1000 0 [] (xaS _) (by lia) (by simp only[xa9];lia);rw[xb9,xa4]at q;have cq:lV 1000 [("_law_key",3)] (aj 0) sY yt [.val (.ref c),.val (.int g),.val (.ref M.length),.val (.str k),s4,s5] (rN M R)=some (.v (.lst ((gQ X k).map gn)),rN M R):=by
  unfold lV;rw[show aj 0 [Slot.val (.ref c),.val (.int g),.val (.ref M.length),.val (.str k),s4,s5] (rN M R)=some (.v (.ref c),rN M R) from rfl];show(match k_ c _ _ (bW [("_law_key",3)] [.val (.ref c),.val (.int g),.val (.ref M.length),.val (.str k),s4,s5]) 1000 0 [] (rN M R) with |some (ys,M2)=>_ |none=>_)=_
  rw[show bW [(("_law_key":Str),3)] [Slot.val (.ref c),.val (.int g),.val (.ref M.length),.val (.str k),s4,s5]=[.val (.str k)] from rfl,q]
 have sr:bR (kJ (lV 1000 [("_law_key",3)] (aj 0) sY yt)) [.val (.ref c),.val (.int g),.val (.ref M.length),.val (.str k),s4,s5] (rN M R)=some (.v ((Yk X k).map gn),rN M R):=by
  simp only[bR,kJ,bnd,cq,show vw (rN M R) (.lst ((gQ X k).map gn))=.lst ((gQ X k).map gn) from rfl,y1,xbJ]
 unfold yM;generalize bR _=FI at sr ⊢;have fu:xH [4,5] FI yL [.val (.ref c),.val (.int g),.val (.ref M.length),.val (.str k),s4,s5] (rN M R)=some (.nx [.val (.ref c),.val (.int g),.val (.ref M.length),.val (.str k),s4',s5'],rN M ((Yk X k).foldl (stp g k) R)):=by
  simp only[xH,sr];exact e
 generalize xH _ _ _=FU at fu ⊢;z_go;rw[fu];z_go
theorem Oj {X:List Th}{c:Nat}{g:Int}(hc:M[c]? =some (.lst (X.map bK)))(hX:X.length<=63):∀(ks:List Str) (R:List Rn) (N:Nat) (s3 s4 s5:Slot),Sm N R->N + 63 * ks.length<=4000->∃s3' s4' s5',loopS 3 yM (ks.map .str) [.val (.ref c),.val (.int g),.val (.ref M.length),s3,s4,s5] (rN M R)=some (.nx [.val (.ref c),.val (.int g),.val (.ref M.length),s3',s4',s5'],rN M (fK g (Yk X) ks R))
  | [],R,N,s3,s4,s5,_,_=>⟨s3,s4,s5,rfl⟩
  |k::ks,R,N,s3,s4,s5,h,hl=>by
    rw[xay]at hl;obtain⟨s4',s5',e,h'⟩:=Wt (g:=g) (k:=k) (s4:=s4) (s5:=s5) hc hX h (by lia);have yl:(Yk X k).length<=63:=by rw[(Ah X k).2.1.length_eq];exact xaq Ol hX
    obtain⟨a,b,d,e2⟩:=Oj hc hX ks _ _ (.val (.str k)) s4' s5' h' (by lia);refine⟨a,b,d,?_⟩;rw[xaP,Ia,xac (by simp)];simp only[xcm,xbZ];rw[e];exact e2
def gh (X:List Th):List Str:=cP (X.map (·.2.1))
def runs (g:Int)(X:List Th):List Rn:=fK g (Yk X) (gh X) []
theorem QV {g:Int}{f:Str}{T:List Th}:(spans g f T).length<=T.length:=by
  have:∀(T:List Th) (S:List bZ),(T.foldl (ins g f) S).length<=S.length + T.length:=fun T=>by
    induction T with
    |nil=>exact fun S=>xad _
    |cons x T ih=>
      intro S;have h1:=ih (ins g f S x);have h2:=xb1 (fun s=> !near g s x) S;have h3:(ins g f S x).length=(S.filter fun s=> !near g s x).length + 1:=by unfold ins;rw[xaj,xaA]
      rw[xaG,xay];lia
  have h:=this T [];rw[xa9,xeu]at h;exact h
theorem CT {g:Int}{f:Str}{X:List Th}(g0:0<g)(hf:Fd f):(∀r∈runs g X,r.2.2.2≠ [])/\((runs g X).map (sm f)).Perm (spans g f X)/\(runs g X).length<=X.length:=by
 obtain⟨a,b⟩:=zbC (Y:=Yk X) (ks:=gh X) (T:=X) (f:=f) g0 hf Vx (fun x hx=>Jm.mpr (xaw.mpr ⟨x,hx,rfl⟩)) (fun k _=>(Ah X k).2.2) fun k _=>(Ah X k).2.1;refine⟨a,b,?_⟩;have:=b.length_eq;rw[xaf]at this;have l:=QV (g:=g) (f:=f) (T:=X);show(fK g (Yk X) (gh X) []).length<=_;lia
theorem Lj {X:List Th}{c:Nat}{g:Int}(hc:M[c]? =some (.lst (X.map bK)))(hX:X.length<=63):j_ [.ref c,.int g] M=some (.v (.ref M.length),rN M (runs g X)):=by
 have hc0:(rN M [])[c]? =some (.lst (X.map bK)):=Gv hc;have kl:(gh X).length<=63:=by have:=Nq (T:=X.map (·.2.1));rw[xaf]at this;unfold gh;lia
 obtain⟨s3,s4,s5,e⟩:=Oj (g:=g) hc hX (gh X) [] 0 .un .un .un ⟨xad _,fun r hr=>nomatch hr⟩ (by lia)
 have cc:mR 1000 [] (aj 0) Gf [.val (.ref c),.val (.int g),.val (.ref M.length),.un,.un,.un] (rN M [])=some (.v (.lst ((X.map (·.2.1)).map .str)),rN M []):=by
  rw[Sy (fun d=>match d with |.tup [_,b,_]=>b |d=>d) (M1:=rN M []) (ds:=X.map bK) (j:=c) rfl hc0 (fun d hd=>?_) (by rw[xaf];lia) (by rw[xaf,xaX];lia),xbP,xbP]
  ·rfl
  ·obtain⟨x, -,rfl⟩:=xaw.mp hd;rfl
 have sr:bR (rG (mR 1000 [] (aj 0) Gf)) [.val (.ref c),.val (.int g),.val (.ref M.length),.un,.un,.un] (rN M [])=some (.v ((gh X).map .str),rN M []):=by
  simp only[bR,zcw cc (by rw[xaf];lia)];rfl
 unfold j_ Ez;generalize bR _=FI at sr ⊢;generalize yM=B at e ⊢;have z:M ++ [E3.Cl.lst []]=rN M []:=rfl;z_go;rw[z,sr];z_go;rw[e];z_go;rfl
variable {M:Mm}
theorem Lq {f:Str}{is:List Int}(hf:Fd f)(hn:is≠ []):nR [.str f,.lst (is.map .int)] M=some (.v (.int (lf f is)),M):=by
 have hp:0<is.length:=List.length_pos_iff.mpr hn;have wv:vw M (.lst (is.map .int))=.lst (is.map .int):=rfl;have e0:(is.map D.int).length=is.length:=xaf ..;have e2:yg [.lst (is.map .int)]=some (.int (dX is)):=by simp only[yg,E3.ints_map,hp,xbi]
 have e3:sV [.lst (is.map .int)]=some (.int (d8 is)):=by simp only[sV,E3.ints_map,hp,xbi]
 have e4:lM [.lst (is.map .int)]=some (.int is.sum):=by simp only[lM,E3.ints_map,xbJ]
 have n1:((Str.ofString "sum":Str)=Str.ofString "count")=False:=xcn (by x_go);have n2:((Str.ofString "sum":Str)=Str.ofString "most")=False:=xcn (by x_go);have n3:((Str.ofString "sum":Str)=Str.ofString "least")=False:=xcn (by x_go);have n4:((Str.ofString "most":Str)=Str.ofString "count")=False:=xcn (by x_go);have n5:((Str.ofString "least":Str)=Str.ofString "count")=False:=xcn (by x_go);have n6:((Str.ofString "least":Str)=Str.ofString "most")=False:=xcn (by x_go);unfold nR E_;generalize is.map D.int=ds at *;rcases hf with rfl |rfl |rfl |rfl
 ·rw[show lf "sum" is=is.sum from rfl];z_go;simp only[n1,xaN];z_go;simp only[n2,xaN];z_go;simp only[n3,xaN];z_go;rw[e4];z_go
 ·rw[show lf "count" is=is.length from rfl];z_go;rw[e0]
 ·rw[show lf "most" is=dX is from rfl];z_go;simp only[n4,xaN];z_go;rw[e2];z_go
 ·rw[show lf "least" is=d8 is from rfl];z_go;simp only[n5,xaN];z_go;simp only[n6,xaN];z_go;rw[e3];z_go
section
variable {f:Str}{g lo hi:Int}{a0:Slot}{j:Nat}{R:List Rn}
noncomputable def mD (g:Int) (s:bZ):D:=.tup [.str "thing",.int (s.2.2.1 + g - 1),.str s.1,.int s.2.2.2]
noncomputable def inC (g lo hi:Int) (s:bZ):Bool:=decide (lo<s.2.2.1 + g) && decide (s.2.2.1 + g<=hi)
theorem Tt {ds:List D}{r:Rn}(hf:Fd f)(hn:r.2.2.2≠ [])(hl:ds.length<=1000):
  yN [a0,.val (.int g),.val (.str f),.val (.int lo),.val (.int hi),.own ds,.val (.int r.1),.val (.int r.2.1),.val (.str r.2.2.1),.val (.lst (r.2.2.2.map .int))] M=
   some (.nx [a0,.val (.int g),.val (.str f),.val (.int lo),.val (.int hi),.own (ds ++ if inC g lo hi (sm f r)=true then [mD g (sm f r)] else []),.val (.int r.1),.val (.int r.2.1),.val (.str r.2.2.1),.val (.lst (r.2.2.2.map .int))],M):=by
 have fl:=Lq (M:=M) hf hn;have ic:inC g lo hi (sm f r)=(decide (lo<r.2.1 + g) && decide (r.2.1 + g<=hi)):=rfl;have cd:mD g (sm f r)=.tup [.str "thing",.int (r.2.1 + g - 1),.str r.2.2.1,.int (lf f r.2.2.2)]:=rfl;rw[ic,cd];unfold yN;generalize r.2.2.2.map D.int=ms at *;generalize nR=GF at fl ⊢
 by_cases h1:lo<r.2.1 + g
 ·by_cases h2:r.2.1 + g<=hi
  ·simp only[h1,h2,xbI,xc2,xbi];z_go;simp only[h1,h2,xbI];z_go
   try simp only[h1,h2,xbI]
   z_go;rw[fl];z_go;rw[xac (by lia)];z_go
  ·simp only[h1,h2,xbI,xaN,xcM,xaM,xbb,xaE];z_go;simp only[h1,xbI];z_go
   try simp only[h1,h2,xbI,xaN]
   z_go
 ·simp only[h1,xaN,xcL,xaM,xbb,xaE];z_go;simp only[h1,xaN];z_go
theorem Kz (hf:Fd f)(hM:M[j]? =some (.lst (R.map cB)))(hv:∀r∈R,r.2.2.2≠ []):∀(n t:Nat) (ds:List D) (s6 s7 s8 s9:Slot),t<=R.length->R.length - t<n->ds.length + (R.length - t)<=1000->∃s6' s7' s8' s9',gO [6,7,8,9] j yN n t [a0,.val (.int g),.val (.str f),.val (.int lo),.val (.int hi),.own ds,s6,s7,s8,s9] M=some (.nx [a0,.val (.int g),.val (.str f),.val (.int lo),.val (.int hi),.own (ds ++ (((R.drop t).map (sm f)).filter (inC g lo hi)).map (mD g)),s6',s7',s8',s9'],M)
  |0,t,ds,_,_,_,_,_,h,_=>absurd h (xbA _)
  |n + 1,t,ds,s6,s7,s8,s9,ht,hn,hl=>by
    by_cases h:t<R.length
    · have e:(R.map cB)[t]? =some (cB R[t]):=by rw[xao,xah h];rfl
      have b := Tt (M := M) (a0 := a0) (g := g) (lo := lo) (hi := hi) (ds := ds) (r := R[t]) hf (hv _ (xbv h)) (by lia);obtain ⟨a, b', c, d, e2⟩ := Kz hf hM hv n (t + 1) (ds ++ if inC g lo hi (sm f R[t]) = true then [mD g (sm f R[t])] else []) (.val (.int R[t].1)) (.val (.int R[t].2.1)) (.val (.str R[t].2.2.1)) (.val (.lst (R[t].2.2.2.map .int))) h (by lia) (by
        rw[xaj]
        split
        · rw[xaA];lia
        · rw[xa9];lia)
      refine⟨a,b',c,d,?_⟩;simp only[gO,hM,e,show gC [6,7,8,9] (cB R[t]) [a0,.val (.int g),.val (.str f),.val (.int lo),.val (.int hi),.own ds,s6,s7,s8,s9]=some [a0,.val (.int g),.val (.str f),.val (.int lo),.val (.int hi),.own ds,.val (.int R[t].1),.val (.int R[t].2.1),.val (.str R[t].2.2.1),.val (.lst (R[t].2.2.2.map .int))] from rfl,b];rw[e2,xaO h,xaP,xce,xat];congr 6
      split<;>rfl
    · refine⟨s6,s7,s8,s9,?_⟩;simp only[gO,hM];rw[xbj (by rw[xaf];lia),xbD (by lia)]
      simp
end
variable {M:Mm}
section
variable {f:Str}{g lo hi:Int}{a0:Slot}{j:Nat}{R:List Rn}
theorem Xi {ds:List D}{r:Rn}(hf:Fd f)(hn:r.2.2.2≠ [])(hl:ds.length<=1000):
  yP [a0,.val (.int g),.val (.str f),.val (.int lo),.own ds,.val (.int r.1),.val (.int r.2.1),.val (.str r.2.2.1),.val (.lst (r.2.2.2.map .int))] M=
   some (.nx [a0,.val (.int g),.val (.str f),.val (.int lo),.own (ds ++ if aZ g lo (sm f r)=true then [aP (sm f r)] else []),.val (.int r.1),.val (.int r.2.1),.val (.str r.2.2.1),.val (.lst (r.2.2.2.map .int))],M):=by
 have fl:=Lq (M:=M) hf hn;have ic:aZ g lo (sm f r)=decide (lo<r.2.1 + g):=rfl;have cd:aP (sm f r)=.tup [.int r.1,.int r.2.1,.str r.2.2.1,.int (lf f r.2.2.2)]:=rfl;rw[ic,cd];unfold yP;generalize r.2.2.2.map D.int=ms at *;generalize nR=GF at fl ⊢
 by_cases h1:lo<r.2.1 + g
 ·simp only[h1,xbI,xbi];z_go;simp only[show r.2.1 + g > lo from h1,xbI];z_go;rw[fl];z_go;rw[xac (by lia)];z_go
 ·simp only[h1,xaN,xaM,xbb,xaE];z_go;simp only[show ¬ r.2.1 + g > lo from h1,xaN];z_go
theorem Ot (hf:Fd f)(hM:M[j]? =some (.lst (R.map cB)))(hv:∀r∈R,r.2.2.2≠ []):∀(n t:Nat) (ds:List D) (s6 s7 s8 s9:Slot),t<=R.length->R.length - t<n->ds.length + (R.length - t)<=1000->∃s6' s7' s8' s9',gO [5,6,7,8] j yP n t [a0,.val (.int g),.val (.str f),.val (.int lo),.own ds,s6,s7,s8,s9] M=some (.nx [a0,.val (.int g),.val (.str f),.val (.int lo),.own (ds ++ (((R.drop t).map (sm f)).filter (aZ g lo)).map aP),s6',s7',s8',s9'],M)
  |0,t,ds,_,_,_,_,_,h,_=>absurd h (xbA _)
  |n + 1,t,ds,s6,s7,s8,s9,ht,hn,hl=>by
    by_cases h:t<R.length
    · have e:(R.map cB)[t]? =some (cB R[t]):=by rw[xao,xah h];rfl
      have b := Xi (M := M) (a0 := a0) (g := g) (lo := lo) (ds := ds) (r := R[t]) hf (hv _ (xbv h)) (by lia);obtain ⟨a, b', c, d, e2⟩ := Ot hf hM hv n (t + 1) (ds ++ if aZ g lo (sm f R[t]) = true then [aP (sm f R[t])] else []) (.val (.int R[t].1)) (.val (.int R[t].2.1)) (.val (.str R[t].2.2.1)) (.val (.lst (R[t].2.2.2.map .int))) h (by lia) (by
        rw[xaj]
        split
        · rw[xaA];lia
        · rw[xa9];lia)
      refine⟨a,b',c,d,?_⟩;simp only[gO,hM,e,show gC [5,6,7,8] (cB R[t]) [a0,.val (.int g),.val (.str f),.val (.int lo),.own ds,s6,s7,s8,s9]=some [a0,.val (.int g),.val (.str f),.val (.int lo),.own ds,.val (.int R[t].1),.val (.int R[t].2.1),.val (.str R[t].2.2.1),.val (.lst (R[t].2.2.2.map .int))] from rfl,b];rw[e2,xaO h,xaP,xce,xat];congr 6
      split<;>rfl
    · refine⟨s6,s7,s8,s9,?_⟩;simp only[gO,hM];rw[xbj (by rw[xaf];lia),xbD (by lia)]
      simp
end
theorem Rv {n j:Nat}{is:List Nat}{f:E}{b:S}{env:E3.Env}{M1:Mm}(h:f env M=some (.v (.ref j),M1)):rF n is f b env M=gO is j b n 0 env M1:=by simp only[rF,bJ,h]
section
variable {f:Str}{g lo hi:Int}{c:Nat}{X:List Th}{es:List D}
theorem Lk (hc:M[c]? =some (.lst (X.map bK)))(hX:X.length<=63)(g0:0<g)(hf:Fd f)(hs:dh ((((runs g X).map (sm f)).filter (inC g lo hi)).map (mD g))=some es):pY [.ref c,.int g,.str f,.int lo,.int hi] M=some (.v (.lst es),rN M (runs g X)):=by
 obtain⟨v, -,l⟩:=CT (X:=X) g0 hf;have fc:=Lj (g:=g) hc hX;obtain⟨a,b,d,e,h⟩:=Kz (M:=rN M (runs g X)) (a0:=.val (.ref c)) (g:=g) (lo:=lo) (hi:=hi) hf Ik v 1000 0 [] .un .un .un .un (xaS _) (by lia) (by rw[xa9];lia);rw[xb9,xa4]at h;have sc:cg j_ (au (aj 0) (au (aj 1) aq)) [.val (.ref c),.val (.int g),.val (.str f),.val (.int lo),.val (.int hi),.own [],.un,.un,.un,.un] M=some (.v (.ref M.length),rN M (runs g X)):=by
  generalize j_=GC at fc ⊢;z_go;rw[fc];z_go
 unfold pY EY;generalize yN=B at h ⊢;generalize cg j_ _=FC at sc ⊢;have u:=Rv (n:=1000) (is:=[6,7,8,9]) (b:=B) sc;generalize rF _ _ _ _=FU at u ⊢;rw[h]at u;generalize (((runs g X).map (sm f)).filter (inC g lo hi)).map (mD g)=L at *;generalize rN M (runs g X)=N at *;z_go;rw[u];z_go;rw[CP hs];z_go
theorem Uk (hc:M[c]? =some (.lst (X.map bK)))(hX:X.length<=63)(g0:0<g)(hf:Fd f)(hs:dh ((((runs g X).map (sm f)).filter (aZ g lo)).map aP)=some es):wO [.ref c,.int g,.str f,.int lo] M=some (.v (.lst es),rN M (runs g X)):=by
 obtain⟨v, -,l⟩:=CT (X:=X) g0 hf;have fc:=Lj (g:=g) hc hX;obtain⟨a,b,d,e,h⟩:=Ot (M:=rN M (runs g X)) (a0:=.val (.ref c)) (g:=g) (lo:=lo) hf Ik v 1000 0 [] .un .un .un .un (xaS _) (by lia) (by rw[xa9];lia);rw[xb9,xa4]at h;have sc:cg j_ (au (aj 0) (au (aj 1) aq)) [.val (.ref c),.val (.int g),.val (.str f),.val (.int lo),.own [],.un,.un,.un,.un] M=some (.v (.ref M.length),rN M (runs g X)):=by
  generalize j_=GC at fc ⊢;z_go;rw[fc];z_go
 unfold wO Fj;generalize yP=B at h ⊢;generalize cg j_ _=FC at sc ⊢;have u:=Rv (n:=1000) (is:=[5,6,7,8]) (b:=B) sc;generalize rF _ _ _ _=FU at u ⊢;rw[h]at u;generalize (((runs g X).map (sm f)).filter (aZ g lo)).map aP=L at *;generalize rN M (runs g X)=N at *;z_go;rw[u];z_go;rw[CP hs];z_go
end
variable {M:Mm}
theorem Ub {f:Str}{v:Int}:wQ [.str f,.int v] M=some (.v (.int (fi f v)),M):=by
 unfold wQ Fo;z_go;unfold fi
 by_cases h:f="count"
 ·subst h;z_go
 ·simp only[h,xaN,xbb];z_go
theorem Ui {f:Str}{a b:Int}:wR [.str f,.int a,.int b] M=some (.v (.int (dB f a b)),M):=by
 unfold wR Ft;z_go;unfold dB
 by_cases h:f="most"
 ·subst h;z_go
 ·simp only[h,xaN,xbb];z_go
  by_cases h:f="least"
  ·subst h;z_go
  ·simp only[h,xaN,xbb];z_go
abbrev mG (g:Int)(f:Str)(K:List D):List (Str×D):=[(("marks":Str),D.ref 1),("gap",.int g),("fold",.str f),("kept",.lst K)]
def OB (g:Int)(f:Str)(K:List D):E3.Cl:=.obj "GapStation" (mG g f K)
structure St (Q:List D)(g:Int)(f:Str)(mk:Int)(S:List bZ)(M:Mm):Prop where
 o:M[0]? =some (OB g f (S.map aP))
 m:M[1]? =some (.lst [.int mk])
 x:M[2]? =some (.lst Q)
def keeps (M N:Mm):Prop:=∀(k:Nat) c,M[k]? =some c->N[k]? =some c
section
variable {Q:List D}{g mk:Int}{f:Str}{S:List bZ}{K:List D}
theorem St.kp {N:Mm}(i:St Q g f mk S M)(h:keeps M N):St Q g f mk S N:=⟨h _ _ i.o,h _ _ i.m,h _ _ i.x⟩
theorem G3 {E:Mm}:keeps M (M ++ E):=fun _ _ h=>Gv h
theorem St.app {E:Mm}(i:St Q g f mk S M):St Q g f mk S (M ++ E):=i.kp G3
theorem St.put {S':List bZ}(i:St Q g f mk S M):St Q g f mk S' (M.set 0 (OB g f (S'.map aP))):=⟨Jh i.o,xO i.m (by decide),xO i.x (by decide)⟩
theorem St.mrk {n:Int}(i:St Q g f mk S M):St Q g f n S (M.set 1 (.lst [.int n])):=⟨xO i.o (by decide),Jh i.m,xO i.x (by decide)⟩
theorem St.thg {Q':List D}(i:St Q g f mk S M):St Q' g f mk S (M.set 2 (.lst Q')):=⟨xO i.o (by decide),xO i.m (by decide),Jh i.x⟩
theorem VN:List.lookup ("marks":Str) (mG g f K)=some (.ref 1):=by kernel_rfl
theorem VJ:List.lookup ("gap":Str) (mG g f K)=some (.int g):=by kernel_rfl
theorem VH:List.lookup ("fold":Str) (mG g f K)=some (.str f):=by kernel_rfl
theorem VL:List.lookup ("kept":Str) (mG g f K)=some (.lst K):=by kernel_rfl
theorem gM {x:Str}(h:(x=="marks" || x=="gap" || x=="fold" || x=="kept")=false):List.lookup x (mG g f K)=none:=by
 simp only[Bool.or_eq_false_iff]at h;simp only[List.lookup,h.1.1.1,h.1.1.2,h.1.2,h.2]
theorem O_ {K':List D}:putD ("kept":Str) (.lst K') (mG g f K)=mG g f K':=by kernel_rfl
theorem lN {k:Nat}{env:E3.Env}(i:St Q g f mk S M)(he:env[k]? =some (.val (.ref 0))):bN "GapStation" "marks" (aj k) env M=some (.v (.ref 1),M):=Bh (k:=0) (by simp only[zF,he,zK]) i.o VN
theorem nJ {k:Nat}{env:E3.Env}(i:St Q g f mk S M)(he:env[k]? =some (.val (.ref 0))):bN "GapStation" "gap" (aj k) env M=some (.v (.int g),M):=Bh (k:=0) (by simp only[zF,he,zK]) i.o VJ
theorem yw {k:Nat}{env:E3.Env}(i:St Q g f mk S M)(he:env[k]? =some (.val (.ref 0))):bN "GapStation" "fold" (aj k) env M=some (.v (.str f),M):=Bh (k:=0) (by simp only[zF,he,zK]) i.o VH
theorem nM {k:Nat}{env:E3.Env}(i:St Q g f mk S M)(he:env[k]? =some (.val (.ref 0))):bN "GapStation" "kept" (aj k) env M=some (.v (.lst (S.map aP)),M):=Bh (k:=0) (by simp only[zF,he,zK]) i.o VL
theorem SJ {A B C:E}{env:E3.Env}{p q r:Int}(e1:A env M=some (.v (.int p),M))(e2:B env M=some (.v (.int q),M))(e3:C env M=some (.v (.int r),M)):fM .lt .lt A B C env M=some (.v (.bl (decide (p<q) && decide (q<r))),M):=by
 have k:∀i j:Int,cH .lt (vw M (.int i)) (vw M (.int j))=some (decide (i<j)):=fun _ _=>rfl;simp only[fM,bnd,e1,e2,e3,k];cases decide (p<q)<;>rfl
theorem Uj {s:bZ}{x:Th}(i:St Q g f mk S M):wK [.ref 0,aP s,bK x] M=some (.v (.bl (near g s x)),M):=by
 have fg:=nJ (k:=0) (env:=[.val (.ref 0),.val (aP s),.val (bK x)]) i rfl;have cc:fM .lt .lt (s2 dN (s2 aH (aj 1) (ak (.int 0))) (bN "GapStation" "gap" (aj 0))) (s2 aH (aj 2) (ak (.int 0))) (s2 aW (s2 aH (aj 1) (ak (.int 1))) (bN "GapStation" "gap" (aj 0))) [.val (.ref 0),.val (aP s),.val (bK x)] M=some (.v (.bl (decide (s.2.1 - g<x.1) && decide (x.1<s.2.2.1 + g))),M):=by
  generalize bN "GapStation" "gap" (aj 0)=F at fg ⊢;unfold aP bK at *;refine SJ ?_ rfl ?_
  ·z_go;rw[fg];z_go
  ·z_go;rw[fg];z_go
 unfold wK Ao;generalize fM _ _ _ _ _=F at cc ⊢;unfold near;generalize (decide (s.2.1 - g<x.1) && decide (x.1<s.2.2.1 + g))=b at cc ⊢;unfold aP bK at *
 by_cases h:s.1=x.2.1
 ·rw[xaW h,xc5];z_go;rw[xac h,cc];z_go
 ·rw[xaI h,xcL];z_go;rw[xae h];z_go
theorem zcu {s:bZ}{x:Th}{h:Hu}{a1 a7:Slot}{ds:List D}(i:St Q g f mk S M)(hl:ds.length<=1000):
    yK [.val (.ref 0),a1,.val (bK x),.val (.int h.1),.val (.int h.2.1),.val (.int h.2.2),.own ds,.val (aP s)] M=
      some (.nx [.val (.ref 0),a1,.val (bK x),.val (.int (if near g s x=true then op f h s.2 else h).1),.val (.int (if near g s x=true then op f h s.2 else h).2.1),.val (.int (if near g s x=true then op f h s.2 else h).2.2),.own (ds ++ if near g s x=true then [] else [aP s]),.val (aP s)],M):=by
  have mt:bx "GapStation" "is_near" wK (aj 0) (au (aj 7) (au (aj 2) aq)) [.val (.ref 0),a1,.val (bK x),.val (.int h.1),.val (.int h.2.1),.val (.int h.2.2),.own ds,.val (aP s)] M=some (.v (.bl (near g s x)),M):=gP (k:=0) (ds:=[aP s,bK x]) rfl i.o (gM (by x_go)) (by z_go) (Uj i);have ff:=fun e3 e4=>yw (k:=0) (env:=[.val (.ref 0),a1,.val (bK x),e3,e4,.val (.int h.2.2),.own ds,.val (aP s)]) i rfl;have fm:=Ui (M:=M) (f:=f) (a:=h.2.2) (b:=s.2.2.2);unfold yK;generalize bx _ _ _ _ _=FM at mt ⊢;generalize bN "GapStation" "fold" (aj 0)=FF at ff ⊢;generalize wR=GM at fm ⊢
  cases hn:near g s x with
  |true=>
    rw[hn]at mt;simp only[xbi,xaE];unfold aP op mn mx at *;z_go;rw[mt];z_go;rw[ff];z_go;rw[fm];z_go
  |false=>
    rw[hn]at mt;simp only[xaM,xbb];unfold aP at *;z_go;rw[mt];z_go;rw[xac (by lia)];z_go
theorem Rj {x:Th}{a1:Slot}(i:St Q g f mk S M):∀(Z:List bZ) (h:Hu) (ds:List D) (s7:Slot),ds.length + Z.length<=1000->∃s7' h',h'=((Z.filter fun s=>near g s x).map (·.2)).foldl (op f) h/\loopS 7 yK (Z.map aP) [.val (.ref 0),a1,.val (bK x),.val (.int h.1),.val (.int h.2.1),.val (.int h.2.2),.own ds,s7] M=some (.nx [.val (.ref 0),a1,.val (bK x),.val (.int h'.1),.val (.int h'.2.1),.val (.int h'.2.2),.own (ds ++ (Z.filter fun s=> !near g s x).map aP),s7'],M)
  | [],h,ds,s7,_=>⟨s7,h,rfl,by rw[List.filter_nil,xdk,xaE];rfl⟩
  |s::Z,h,ds,s7,hl=>by
    rw [xay] at hl;have b := zcu (s := s) (x := x) (h := h) (a1 := a1) (a7 := s7) (ds := ds) i (by lia);obtain ⟨s7', h', eh, e⟩ := Rj (x := x) (a1 := a1) i Z (if near g s x = true then op f h s.2 else h) (ds ++ if near g s x = true then [] else [aP s]) (.val (aP s)) (by
      rw[xaj]
      split
      · rw[xa9];lia
      · rw[xaA];lia)
    refine⟨s7',h',?_,?_⟩
    · rw[eh,xce]
      split<;>rfl
    · rw[xaP,Ia,xac (by simp)];simp only[xcm,xbZ];rw[b];refine Eq.trans e ?_;rw[xat,xce];cases near g s x<;>rfl
theorem Uq {x:Th}{a1:D}(i:St Q g f mk S M)(hl:S.length<=900):wM [.ref 0,a1,bK x] M=some (.v (.lst []),M.set 0 (OB g f ((ins g f S x).map aP))):=by
 obtain⟨s7,h',eh,e⟩:=Rj (x:=x) (a1:=.val a1) i S (eX f x) [] .un (by rw[xa9];lia);have eh:h'=cu g f S x:=eh;subst eh;rw[xa4]at e;have fr:=Ub (M:=M) (f:=f) (v:=x.2.2);have f1:=yw (k:=0) (env:=[.val (.ref 0),.val a1,.val (bK x),.val (.int x.1),.val (.int x.1),.un,.un,.un]) i rfl;have f2:=nM (k:=0) (env:=[.val (.ref 0),.val a1,.val (bK x),.val (.int x.1),.val (.int x.1),.val (.int (fi f x.2.2)),.own [],.un]) i rfl;have ll:=xb1 (fun s=> !near g s x) S;have al:((S.filter fun s=> !near g s x).map aP).length<=900:=by rw[xaf];lia
 have es:(ins g f S x).map aP=(S.filter fun s=> !near g s x).map aP ++ [.tup [.int (cu g f S x).1,.int (cu g f S x).2.1,.str x.2.1,.int (cu g f S x).2.2]]:=by
  unfold ins;rw[xaR];rfl
 have sf:eY "GapStation" "kept" (aj 0) (s2 aW (xM 6) (aX (au (aV (au (aj 3) (au (aj 4) (au (s2 aH (aj 2) (ak (.int 1))) (au (aj 5) aq))))) aq))) [.val (.ref 0),.val a1,.val (bK x),.val (.int (cu g f S x).1),.val (.int (cu g f S x).2.1),.val (.int (cu g f S x).2.2),.own ((S.filter fun s=> !near g s x).map aP),s7] M=some (.nx [.val (.ref 0),.val a1,.val (bK x),.val (.int (cu g f S x).1),.val (.int (cu g f S x).2.1),.val (.int (cu g f S x).2.2),.own ((S.filter fun s=> !near g s x).map aP),s7],M.set 0 (OB g f ((ins g f S x).map aP))):=by
  rw [Lw (k := 0) (x := .lst ((ins g f S x).map aP)) (fs := mG g f (S.map aP)) (M1 := M) (M2 := M) (by
   rw[es];generalize (S.filter fun s=> !near g s x).map aP=A at *;unfold bK;z_go;rw[xac (by lia)];z_go) rfl i.o (by simp),O_]
  rfl
 unfold wM Aw;generalize yK=B at e ⊢;generalize eY _ _ _ _=FS at sf ⊢;generalize bN "GapStation" "fold" (aj 0)=F1 at f1 ⊢;generalize bN "GapStation" "kept" (aj 0)=F2 at f2 ⊢;generalize wQ=GF at fr ⊢;generalize M.set 0 (OB g f ((ins g f S x).map aP))=M1 at sf ⊢;have e1:(eX f x).1=x.1:=rfl;have e2:(eX f x).2.1=x.1:=rfl;have e3:(eX f x).2.2=fi f x.2.2:=rfl;rw[e1,e2,e3]at e;unfold bK at *;z_go;rw[f1];z_go;rw[fr];z_go;rw[f2];z_go;rw[e];z_go;rw[sf];z_go
end
variable {M:Mm}
noncomputable def eU (g:Int) (s:bZ):D:=.tup [.int (s.2.2.1 + g - 1),.str s.1,.int s.2.2.2]
noncomputable def bF (d:D):D:=match d with
 |.tup [a,b,c]=>.tup [.str "thing",a,b,c]
 |d=>d
theorem LQ {α β:Type}{p:α->Bool}{g:α->β}:∀l:List α,(l.filterMap fun x=>if p x=true then some (g x) else none)=(l.filter p).map g
  | []=>rfl
  |x::l=>by
    have ih:=LQ (p:=p) (g:=g) l
    cases h:p x with
    |true=>rw[List.filterMap_cons_some (b:=g x) (by rw[h];rfl),xdY h,xaP,ih]
    |false=>rw[List.filterMap_cons_none (by rw[h];rfl),List.filter_cons_of_neg (by rw[h];decide),ih]
noncomputable def Rw (d:D):bZ:=match d with
 |.tup [.int a,.int b,.str k,.int p]=>(k,a,b,p)
 |_=>default
theorem Ky {env:E3.Env}{q e:E}{S:List bZ}{p:bZ->Bool}(h:∀s∈S,q (.val (aP s)::env) M=some (.v (.bl (p s)),M))(he:∀d,e (.val d::env) M=some (.v d,M))(hl:S.length<=1000):eH q e env (S.map aP) [] M=some ((S.filter p).map aP,M):=by
 rw[FW (M:=M) (fun d=>if p (Rw d)=true then some d else none) (S.map aP) [] (fun d hd=>?_) (by rw[xaf,xaX,xa9];lia),xa4,xes]
 ·refine congrArg (fun l=>some (l,M)) ?_;rw[<-LQ];rfl
 ·obtain⟨s,hs,rfl⟩:=xaw.mp hd;have q1:=h s hs;show match (if p s=true then some (aP s) else none) with
   |some y=>q (.val (aP s)::env) M=some (.v (.bl true),M)/\e (.val (aP s)::env) M=some (.v y,M)
   |none=>q (.val (aP s)::env) M=some (.v (.bl false),M)
  cases hb:p s with
  |true=>rw[hb]at q1;exact⟨q1,he _⟩
  |false=>rw[hb]at q1;exact q1
section
variable {Q:List D}{g mk:Int}{f:Str}{S:List bZ}{K:List D}
theorem Ua {low:Int}{es:List D}(i:St Q g f mk S M)(hS:S.length<=1000)(hs:dh ((S.filter fun s=> !aZ g low s).map (eU g))=some es):wJ [.ref 0,.int low] M=some (.v (.lst es),M.set 0 (OB g f ((S.filter (aZ g low)).map aP))):=by
 have fk := nM (k := 0) (env := [.val (.ref 0), .val (.int low), .un]) i rfl;have fk2 := nM (k := 0) (env := [.val (.ref 0), .val (.int low), .val (.lst ((S.filter fun s => !aZ g low s).map aP))]) i rfl;have c1 : eH Fy Ld [.val (.int low), .val (.ref 0)] (S.map aP) [] M = some ((S.filter fun s => !aZ g low s).map aP, M) := Ky (fun s _=>by
  have fg:=nJ (k:=2) (env:=[.val (aP s),.val (.int low),.val (.ref 0)]) i rfl;have e:(!aZ g low s)=decide (s.2.2.1 + g<=low):=by
   unfold aZ;rw[<-decide_not];exact xdV.mpr (by lia)
  rw[e];unfold Fy;generalize bN "GapStation" "gap" (aj 2)=F at fg ⊢;unfold aP at *;z_go;rw[fg];z_go) (fun d=>rfl) hS
 have c2 : eH Az Gb [.val (.int low), .val (.ref 0)] (S.map aP) [] M = some ((S.filter (aZ g low)).map aP, M) := Ky (fun s _=>by
  have fg:=nJ (k:=2) (env:=[.val (aP s),.val (.int low),.val (.ref 0)]) i rfl;have e:aZ g low s=decide (s.2.2.1 + g > low):=rfl;rw[e];unfold Az;generalize bN "GapStation" "gap" (aj 2)=F at fg ⊢;unfold aP at *;z_go;rw[fg];z_go) (fun d=>rfl) hS
 have l1:=xb1 (fun s=> !aZ g low s) S;have i2:St Q g f mk (S.filter (aZ g low)) (M.set 0 (OB g f ((S.filter (aZ g low)).map aP))):=i.put;have c3:eH (ak (.bl true)) Bf [.val (.ref 0)] ((S.filter fun s=> !aZ g low s).map aP) [] (M.set 0 (OB g f ((S.filter (aZ g low)).map aP)))=some ((S.filter fun s=> !aZ g low s).map (eU g),M.set 0 (OB g f ((S.filter (aZ g low)).map aP))):=by
  rw[comp_map (fun d=>eU g (Rw d)) ((S.filter fun s=> !aZ g low s).map aP) (fun d hd=>?_) (by rw[xaf,xaX];lia),xbP]
  ·rfl
  ·obtain⟨s, -,rfl⟩:=xaw.mp hd;have fg:=nJ (k:=1) (env:=[.val (aP s),.val (.ref 0)]) i2 rfl;show Bf [.val (aP s),.val (.ref 0)] _=some (.v (eU g s),_);unfold Bf;generalize bN "GapStation" "gap" (aj 1)=F at fg ⊢;unfold aP eU at *;z_go;rw[fg];z_go
 have sf:eY "GapStation" "kept" (aj 0) (kI [("low",1),("self",0)] (bR (bN "GapStation" "kept" (aj 0))) Az Gb) [.val (.ref 0),.val (.int low),.val (.lst ((S.filter fun s=> !aZ g low s).map aP))] M=some (.nx [.val (.ref 0),.val (.int low),.val (.lst ((S.filter fun s=> !aZ g low s).map aP))],M.set 0 (OB g f ((S.filter (aZ g low)).map aP))):=by
  rw [Lw (k := 0) (x := .lst ((S.filter (aZ g low)).map aP)) (fs := mG g f (S.map aP)) (M1 := M) (M2 := M) (by
   generalize bN "GapStation" "kept" (aj 0)=F at fk2 ⊢;z_go;rw[fk2];z_go;rw[c2];z_go) rfl i.o (by simp),O_]
  rfl
 unfold wJ Am;generalize eY _ _ _ _=FS at sf ⊢;generalize bN "GapStation" "kept" (aj 0)=F at fk ⊢;generalize M.set 0 (OB g f ((S.filter (aZ g low)).map aP))=M1 at *;generalize (S.filter fun s=> !aZ g low s).map (eU g)=T at *;generalize (S.filter fun s=> !aZ g low s).map aP=C at *;z_go;rw[fk];z_go;rw[c1];z_go;rw[sf];z_go;rw[c3];z_go;rw[CP hs];z_go
theorem Lr (i:St Q g f mk S M):nP [.ref 0] M=some (.v (.int mk),M):=by
 have fm:=lN (k:=0) (env:=[.val (.ref 0)]) i rfl;have wv:vw M (.ref 1)=.lst [.int mk]:=vq i.m;unfold nP Aq;generalize bN "GapStation" "marks" (aj 0)=F at fm ⊢;z_go;rw[fm];z_go;rw[wv,show sV [.lst [.int mk]]=some (.int mk) from rfl];z_go
theorem Uo {low:Int}{es:List D}(i:St Q g f mk S M)(hS:S.length<=1000)(hs:dh ((S.filter fun s=> !aZ g low s).map (eU g))=some es)(he:∀d∈es,∃s,d=eU g s)(el:es.length<=1000):
  tO [.ref 0,.int low] M=some (.v (.lst (es.map bF ++ [.tup [.str "mark",.int low]])),M.set 0 (OB g f ((S.filter (aZ g low)).map aP))):=by
 have e:=Ua i hS hs;have m:bx "GapStation" "close_at" wJ (aj 0) (au (aj 1) aq) [.val (.ref 0),.val (.int low)] M=_:=gP (k:=0) (ds:=[.int low]) rfl i.o (gM (by x_go)) (by z_go) e;generalize M.set 0 (OB g f ((S.filter (aZ g low)).map aP))=M' at m ⊢;have cm:eH (ak (.bl true)) Ge [] es [] M'=some (es.map bF,M'):=by
  rw[comp_map bF es (fun d hd=>?_) (by rw[xaX];lia)];obtain⟨s,rfl⟩:=he d hd;unfold Ge eU;z_go;unfold Bk Fq;z_go;rfl
 have il:(es.map bF).length<=1000:=by rw[xaf];exact el
 unfold tO Ax;generalize bx _ _ _ _ _=F at m ⊢;generalize es.map bF=I at cm il ⊢;z_go;rw[m];z_go;rw[cm];z_go;rw[xac (by lia)];z_go
end
variable {M:Mm}
section
variable {Q:List D}{g mk:Int}{f:Str}{S:List bZ}{K:List D}
theorem Ls {t:Int}{es:List D}(i:St Q g f mk S M)(ht:mk<t)(hS:S.length<=1000)(hs:dh ((S.filter fun s=> !aZ g t s).map (eU g))=some es)(he:∀d∈es,∃s,d=eU g s)(el:es.length<=1000):
  ∃M',fU [.ref 0,.int 0,.tup [.str "mark",.int t]] M=some (.v (.lst (es.map bF ++ [.tup [.str "mark",.int t]])),M')/\St Q g f t (S.filter (aZ g t)) M':=by
 have i1:St Q g f t S (M.set 1 (.lst [.int t])):=i.mrk;have e:=Uo i1 hS hs he el;have i':St Q g f t (S.filter (aZ g t)) ((M.set 1 (.lst [.int t])).set 0 (OB g f ((S.filter (aZ g t)).map aP))):=i1.put;generalize ((M.set 1 (.lst [.int t])).set 0 (OB g f ((S.filter (aZ g t)).map aP)))=M' at e i';refine⟨M',?_,i'⟩;have fm:=lN (k:=0) (env:=[.val (.ref 0),.val (.int 0),.val (.int t),.un,.un]) i rfl;have wv:vw M (.ref 1)=.lst [.int mk]:=vq i.m;have tm:nQ [.ref 0,.int 0,.int t] M=some (.v (.lst (es.map bF ++ [.tup [.str "mark",.int t]])),M'):=by
  have b1:bx "GapStation" "low" nP (aj 0) aq [.val (.ref 0),.val (.int 0),.val (.int t),.un,.un] M=some (.v (.int mk),M):=gP (k:=0) (ds:=[]) rfl i.o (gM (by x_go)) rfl (Lr i);have b2:bx "GapStation" "low" nP (aj 0) aq [.val (.ref 0),.val (.int 0),.val (.int t),.val (.int mk),.un] (M.set 1 (.lst [.int t]))=some (.v (.int t),M.set 1 (.lst [.int t])):=gP (k:=0) (ds:=[]) rfl i1.o (gM (by x_go)) rfl (Lr i1);have si:mU (bN "GapStation" "marks" (aj 0)) (aj 1) (aj 2) [.val (.ref 0),.val (.int 0),.val (.int t),.val (.int mk),.un] M=some (.nx [.val (.ref 0),.val (.int 0),.val (.int t),.val (.int mk),.un],M.set 1 (.lst [.int t])):=by
   rw[Mz (k:=1) (i:=0) (x:=.int t) (M1:=M) (M2:=M) (M3:=M) (ds:=[.int mk]) (j:=0) rfl (lN (k:=0) i rfl) rfl i.m rfl];rfl
  have b3:bx "GapStation" "tell_low" tO (aj 0) (au (aj 4) aq) [.val (.ref 0),.val (.int 0),.val (.int t),.val (.int mk),.val (.int t)] (M.set 1 (.lst [.int t]))=_:=gP (k:=0) (ds:=[.int t]) rfl i1.o (gM (by x_go)) (by z_go) e;unfold nQ yh;generalize M.set 1 (E3.Cl.lst [.int t])=M1 at b2 b3 si ⊢;generalize mU (bN "GapStation" "marks" (aj 0)) (aj 1) (aj 2)=F3 at si ⊢;generalize bN "GapStation" "marks" (aj 0)=F at fm ⊢;generalize bx "GapStation" "low" nP (aj 0) aq=F2 at b1 b2 ⊢;generalize bx "GapStation" "tell_low" tO (aj 0) (au (aj 4) aq)=F4 at b3 ⊢;generalize es.map bF ++ [.tup [.str "mark",.int t]]=R at b3 ⊢;z_go;rw[fm];z_go;rw[wv];z_go;rw[xae (by lia)];z_go;rw[b1];z_go;rw[si];z_go;rw[b2];z_go;rw[xae (by lia)];z_go;rw[b3];z_go
 have m:bx "GapStation" "take_mark" nQ (aj 0) (au (aj 1) (au (s2 aH (aj 2) (ak (.int 1))) aq)) [.val (.ref 0),.val (.int 0),.val (.tup [.str "mark",.int t])] M=_:=gP (k:=0) (ds:=[.int 0,.int t]) rfl i.o (gM (by x_go)) (by z_go) tm;unfold fU wF;generalize bx _ _ _ _ (au (aj 1) (au (s2 aH (aj 2) (ak (.int 1))) aq))=F at m ⊢;generalize bx _ _ _ _ _=F2;generalize es.map bF ++ [D.tup [.str "mark",.int t]]=R at m ⊢;z_go;rw[m];z_go
theorem Uh (i:St Q g f mk S M):fU [.ref 0,.int 0,.tup [.str "mark",.int mk]] M=some (.v (.lst []),M):=by
 have fm:=lN (k:=0) (env:=[.val (.ref 0),.val (.int 0),.val (.int mk),.un,.un]) i rfl;have wv:vw M (.ref 1)=.lst [.int mk]:=vq i.m;have tm:nQ [.ref 0,.int 0,.int mk] M=some (.v (.lst []),M):=by
  unfold nQ yh;generalize bN "GapStation" "marks" (aj 0)=F at fm ⊢;z_go;rw[fm];z_go;rw[wv];z_go;rw[xac (xb7 _)];z_go
 have m:bx "GapStation" "take_mark" nQ (aj 0) (au (aj 1) (au (s2 aH (aj 2) (ak (.int 1))) aq)) [.val (.ref 0),.val (.int 0),.val (.tup [.str "mark",.int mk])] M=_:=gP (k:=0) (ds:=[.int 0,.int mk]) rfl i.o (gM (by x_go)) (by z_go) tm;unfold fU wF;generalize bx _ _ _ _ (au (aj 1) (au (s2 aH (aj 2) (ak (.int 1))) aq))=F at m ⊢;generalize bx _ _ _ _ _=F2;z_go;rw[m];z_go
def GQ (x:Th):D:=.tup [.str "thing",.int x.1,.str x.2.1,.int x.2.2]
theorem Um {x:Th}(i:St Q g f mk S M)(hl:S.length<=900):fU [.ref 0,.int 0,GQ x] M=some (.v (.lst []),M.set 0 (OB g f ((ins g f S x).map aP))):=by
 have e:=Uq (x:=x) (a1:=.int 0) i hl;obtain⟨t,z,v⟩:=x;have k1:((Str.ofString "thing":Str)=Str.ofString "mark")=False:=xcn (by x_go);have m:bx "GapStation" "take_thing" wM (aj 0) (au (aj 1) (au (pG (aj 2) (pA (ak (.int 1))) xg) aq)) [.val (.ref 0),.val (.int 0),.val (.tup [.str "thing",.int t,.str z,.int v])] M=_:=gP (k:=0) (ds:=[.int 0,bK (t,z,v)]) rfl i.o (gM (by x_go)) rfl e;show fU [.ref 0,.int 0,.tup [.str "thing",.int t,.str z,.int v]] M=_;unfold fU wF;generalize bx _ "take_thing" _ _ _=F at m ⊢;generalize bx _ _ _ _ _=F2;z_go;simp only[k1,xaN];z_go;rw[m];z_go
theorem T_ {ks:List D}(i:St Q g f mk S M)(hs:dh (S.map aP)=some ks):tM [.ref 0] M=some (.v (.ref M.length),M ++ [.lst ks]):=by
 have fk:=nM (k:=0) (env:=[.val (.ref 0)]) i rfl;unfold tM Ak;generalize bN "GapStation" "kept" (aj 0)=F at fk ⊢;z_go;rw[fk];z_go;rw[CP hs];z_go
theorem Ul {ks:List D}(i:St Q g f mk S M)(hs:dh (S.map aP)=some ks):wL [.ref 0] M=some (.v (.tup [.ref M.length,.ref (M.length + 1)]),M ++ [.lst [.int mk]] ++ [.lst ks]):=by
 have fm:=lN (k:=0) (env:=[.val (.ref 0)]) i rfl;have wv:vw M (.ref 1)=.lst [.int mk]:=vq i.m;have i1:=i.app (E:=[.lst [.int mk]]);have m:bx "GapStation" "all_kept" tM (aj 0) aq [.val (.ref 0)] (M ++ [.lst [.int mk]])=some (.v (.ref (M.length + 1)),M ++ [.lst [.int mk]] ++ [.lst ks]):=by
  have:=gP (k:=0) (ds:=[]) (c:="GapStation") (me:="all_kept") (gg:=tM) (o:=aj 0) (fa:=aq) (env:=[Slot.val (.ref 0)]) rfl i1.o (gM (by x_go)) rfl (T_ i1 hs);rw[xaj]at this;exact this
 unfold wL Av;generalize bN "GapStation" "marks" (aj 0)=F at fm ⊢;generalize bx _ _ _ _ _=F2 at m ⊢;z_go;rw[fm];z_go;rw[wv];z_go;rw[m];z_go
theorem Lx {i:Int}:mJ [.int i] M=some (.v (.bl true),M):=by
 unfold mJ Fl;z_go;simp only[Nh,Ng];z_go;simp only[Nh,Ng];z_go
abbrev Kn (d:D):Prop:=∃(w:D) (t:Int) (r:List D) (x:Int),d=.tup (w::.int t::r)/\cL (w::.int t::r) (-1)=some (.int x)/\cL (w::.int t::r) 1=some (.int t)
theorem Ri {L:D}{d:D}(h:Kn d):yO [.val L,.val d] M=some (.nx [.val L,.val d],M):=by
 obtain⟨w,t,r,x,rfl,hx,h1⟩:=h;have e1:=Lx (M:=M) (i:=t);have e2:=Lx (M:=M) (i:=x);unfold yO;generalize mJ=G at e1 e2 ⊢;z_go;simp only[Ni];z_go
 try rw[h1]
 z_go;rw[e1];z_go;rw[hx];z_go;rw[e2];z_go
theorem Nk {L:D}:∀(ds:List D) (s1:Slot),(∀d∈ds,Kn d)->∃s1',loopS 1 yO ds [.val L,s1] M=some (.nx [.val L,s1'],M)
  | [],s1,_=>⟨s1,rfl⟩
  |d::ds,s1,h=>by
    obtain⟨s',e⟩:=Nk ds (.val d) fun x hx=>h x (xal _ hx);refine⟨s',?_⟩;rw[Ia,xac (by simp only[xay,xa9];decide)];simp only[xcm,xbZ];rw[Ri (h d xau)];simp only[Pk];exact e
theorem Lp {L:List D}(h:∀d∈L,Kn d):p7 [.lst L] M=some (.v (.bl true),M):=by
 obtain⟨s',e⟩:=Nk (M:=M) (L:=.lst L) L .un h;unfold p7 Fg;generalize yO=B at e ⊢;z_go;simp only[GR];z_go;rw[e];z_go
theorem Nm {j:Nat}{L:List D}(hM:M[j]? =some (.lst L))(h:∀d∈L,Kn d):∀(n t:Nat) (s1:Slot),t<=L.length->L.length - t<n->∃s1',lg 1 j Bt n t [.val (.ref j),s1] M=some (.nx [.val (.ref j),s1'],M)
  |0,t,_,_,hn=>absurd hn (xbA _)
  |n + 1,t,s1,ht,hn=>by
    by_cases hl:t<L.length
    · obtain⟨s',e⟩:=Nm hM h n (t + 1) (.val L[t]) hl (by lia);refine⟨s',?_⟩;have b:Bt [.val (.ref j),.val L[t]] M=some (.nx [.val (.ref j),.val L[t]],M):=Ri (h _ (xbv hl));simp only[lg,hM,xah hl];rw[xac (by simp)];simp only[xcm,xbZ,b];exact e
    · refine⟨s1,?_⟩;simp only[lg,hM,xbj (xbu hl)]
theorem SM {n i j:Nat}{f:E}{b:E3.S}{env:E3.Env}{M1:Mm}(h:f env M=some (.v (.ref j),M1)):xG n i f b env M=lg i j b n 0 env M1:=by simp only[xG,bJ,h]
theorem Ug {j:Nat}{L:List D}(hM:M[j]? =some (.lst L))(h:∀d∈L,Kn d)(hl:L.length<1000):wN [.ref j] M=some (.v (.bl true),M):=by
 obtain⟨s',e⟩:=Nm hM h 1000 0 .un (xaS _) (by lia);have fc:=SM (M:=M) (n:=1000) (i:=1) (j:=j) (f:=aj 0) (b:=Bt) (env:=[.val (.ref j),.un]) (M1:=M) rfl;rw[e]at fc;unfold wN Fi;generalize xG _ _ _ _=F at fc ⊢;z_go;rw[Ru hM,Ry];z_go;simp only[GR];z_go;rw[fc];z_go
theorem Ln {ks:List D}(i:St Q g f mk S M)(hs:dh (S.map aP)=some ks)(hk:∀d∈ks,Kn d)(hd:D.deps ks<=5)(hl:ks.length<1000):∃M',pZ [.ref 0,.int mk,.lst ks] M=some (.v (.bl true),M')/\keeps M M':=by
 have st:=Ul i hs;have m:bx "GapStation" "state" wL (aj 0) aq [.val (.ref 0),.val (.int mk),.val (.lst ks),.un] M=_:=gP (k:=0) (ds:=[]) rfl i.o (gM (by x_go)) (by z_go) st;have c0:(M ++ [E3.Cl.lst [.int mk]] ++ [E3.Cl.lst ks])[M.length]? =some (.lst [.int mk]):=by rw[xat,xas (xad _),xbN];rfl
 have c1:(M ++ [E3.Cl.lst [.int mk]] ++ [E3.Cl.lst ks])[M.length + 1]? =some (.lst ks):=by rw[xat,xas (by lia),show M.length + 1 - M.length=1 by lia];rfl
 have z0:(M ++ [E3.Cl.lst [.int mk]] ++ [E3.Cl.lst ks]).set M.length (.lst ([.int mk] ++ [.int 7]))=M ++ [.lst [.int mk,.int 7],.lst ks]:=by
  rw[xat,xb0 _ _ (xad _),xbN];rfl
 have z1:(M ++ [E3.Cl.lst [.int mk,.int 7],.lst ks]).set (M.length + 1) (.lst (ks ++ [.int 7]))=M ++ [.lst [.int mk,.int 7],.lst (ks ++ [.int 7])]:=by
  rw[xb0 _ _ (by lia),show M.length + 1 - M.length=1 by lia];rfl
 have c1':(M ++ [E3.Cl.lst [.int mk,.int 7],.lst ks])[M.length + 1]? =some (.lst ks):=by rw[xas (by lia),show M.length + 1 - M.length=1 by lia];rfl
 have ap1:∀N M1:Mm,N[M.length]? =some (.lst [.int mk])->N.set M.length (.lst ([.int mk] ++ [.int 7]))=M1->fW (s2 aH (aj 3) (ak (.int 0))) (ak (.int 7)) [.val (.ref 0),.val (.int mk),.val (.lst ks),.val (.tup [.ref M.length,.ref (M.length + 1)])] N=some (.nx [.val (.ref 0),.val (.int mk),.val (.lst ks),.val (.tup [.ref M.length,.ref (M.length + 1)])],M1):=fun N M1 h e=>by
  rw[Ai (k:=M.length) (ds0:=[.int mk]) (ds:=[.int mk]) (d:=.int 7) (M1:=N) (M2:=N) rfl h rfl h (by rw[xaX];show 1<16777216;decide),e]
 have ap2:∀N M1:Mm,N[M.length + 1]? =some (.lst ks)->N.set (M.length + 1) (.lst (ks ++ [.int 7]))=M1->fW (s2 aH (aj 3) (ak (.int 1))) (ak (.int 7)) [.val (.ref 0),.val (.int mk),.val (.lst ks),.val (.tup [.ref M.length,.ref (M.length + 1)])] N=some (.nx [.val (.ref 0),.val (.int mk),.val (.lst ks),.val (.tup [.ref M.length,.ref (M.length + 1)])],M1):=fun N M1 h e=>by
  rw[Ai (k:=M.length + 1) (ds0:=ks) (ds:=ks) (d:=.int 7) (M1:=N) (M2:=N) rfl h rfl h (by rw[xaX];lia),e]
 have a1:=ap1 _ _ c0 z0;have a2:=ap2 _ _ c1' z1;have w0:vw (M ++ [E3.Cl.lst [.int mk]] ++ [E3.Cl.lst ks]) (.ref M.length)=.lst [.int mk]:=vq c0;have w1:vw (M ++ [E3.Cl.lst [.int mk]] ++ [E3.Cl.lst ks]) (.ref (M.length + 1))=.lst ks:=vq c1;have fk:=Ug c1 hk hl;refine⟨M ++ [.lst [.int mk,.int 7],.lst (ks ++ [.int 7])],?_,G3⟩;have d1:aG .ne (.lst [.int mk]) (.lst [.int mk])=some (.bl false):=Ci (by simp[D.dep,D.deps]);have d2:aG .ne (.lst ks) (.lst ks)=some (.bl false):=Ci (by show D.deps _ + 1<=50;lia);have q5:∀N:Mm,∀e:E3.Env,cX (BX e N)=some (.v (.bl true),N):=fun N e=>by
  unfold BX;z_go
 clear z0 z1 ap1 ap2 st;generalize M ++ [E3.Cl.lst [.int mk]] ++ [E3.Cl.lst ks]=N at *;generalize M ++ [E3.Cl.lst [.int mk,.int 7],.lst ks]=N1 at *;generalize M ++ [E3.Cl.lst [.int mk,.int 7],.lst (ks ++ [.int 7])]=N2 at *;unfold pZ Fb Oc Od Oe Og;generalize BX=n5 at q5 ⊢;generalize bx _ _ _ _ _=F1 at m ⊢;generalize fW (s2 aH (aj 3) (ak (.int 0))) _=A1 at a1 ⊢;generalize fW (s2 aH (aj 3) (ak (.int 1))) _=A2 at a2 ⊢;generalize wN=GK at fk ⊢;generalize M.length=k at *;z_go;rw[m];z_go;simp only[Ni];z_go;rw[xae (by decide),w0,d1];z_go;rw[Ru c1,Ry];z_go;simp only[GR];z_go;rw[fk];z_go;rw[w1,d2];z_go;rw[a1];z_go;rw[a2];z_go;exact q5 _ _
end
variable {M:Mm}
theorem z8 {t t' v v':Int}{z z':Str}:∃b,bG [.int t,.str z,.int v] [.int t',.str z',.int v']=some b:=by
 simp only[bG]
 repeat' split
 all_goals exact⟨_,rfl⟩
theorem JQ {t t' v v' a a':Int}{z z':Str}:∃b,bG [.int a,.int t,.str z,.int v] [.int a',.int t',.str z',.int v']=some b:=by
 simp only[bG]
 repeat' split
 all_goals exact⟨_,rfl⟩
theorem zc (L:List bZ):gR (L.map aP):=by
 refine⟨.inl (xbm.mpr fun d hd=>?_),fun xs ys hx hy=>?_⟩
 ·obtain⟨k, -,rfl⟩:=xaw.mp hd;rfl
 ·obtain⟨k, -,e⟩:=xaw.mp hx;obtain⟨k', -,e'⟩:=xaw.mp hy;rw[<-D.tup.inj e, <-D.tup.inj e'];exact JQ
theorem zf {g:Int}(L:List bZ):gR (L.map (eU g)):=by
 refine⟨.inl (xbm.mpr fun d hd=>?_),fun xs ys hx hy=>?_⟩
 ·obtain⟨k, -,rfl⟩:=xaw.mp hd;rfl
 ·obtain⟨k, -,e⟩:=xaw.mp hx;obtain⟨k', -,e'⟩:=xaw.mp hy;rw[<-D.tup.inj e, <-D.tup.inj e'];exact z8
theorem za {g:Int}(L:List bZ):gR (L.map (mD g)):=by
 refine⟨.inr (xbm.mpr fun d hd=>?_),fun xs ys hx hy=>?_⟩
 ·obtain⟨k, -,rfl⟩:=xaw.mp hd;rfl
 ·obtain⟨k, -,e⟩:=xaw.mp hx;obtain⟨k', -,e'⟩:=xaw.mp hy;rw[<-D.tup.inj e, <-D.tup.inj e',E3.lt_eq rfl];exact z8
theorem zcq {g:Int}{L:List bZ}{es:List D}(h:dh (L.map (eU g))=some es):dh (L.map (mD g))=some (es.map bF)/\(∀d∈es,∃s,d=eU g s)/\es.length=L.length:=by
 obtain⟨es',e1,e2,e3⟩:=u_ (zf (g:=g) L);rw[h]at e1;cases e1;obtain⟨cs,c1,c2,c3⟩:=u_ (za (g:=g) L);have of:∀d∈es,∃s,d=eU g s:=fun d hd=>by
  obtain⟨s, -,rfl⟩:=xaw.mp (e2.mem_iff.mp hd);exact⟨s,rfl⟩
 refine⟨?_,of,by rw[e2.length_eq,xaf]⟩;rw[c1];refine congrArg some (xcd (fun _ _ _ _=>G4) c3 (xcS.mpr (e3.imp_of_mem fun {a b} ha hb l=>?_)) (c2.trans ?_))
 ·obtain⟨s,rfl⟩:=of a ha;obtain⟨s',rfl⟩:=of b hb;show bG (.str "thing"::_) (.str "thing"::_)=some false;rw[E3.lt_eq rfl];exact l
 ·have:=e2.symm.map bF;rw[xbP]at this;exact this
theorem Mf {g B:Int}{f:Str}:∀(T:List Th) (S:List bZ),(∀s∈S,s.2.2.1<=B)->(∀x∈T,x.1<=B)->∀s∈T.foldl (ins g f) S,s.2.2.1<=B
  | [],S,h,_=>h
  | x :: T, S, h, hx => Mf T (ins g f S x) (fun s hs=>by
    unfold ins at hs;rcases xaJ.mp hs with hs |hs
    · exact h s (xbK.mp hs).1
    · rw[xax.mp hs];show(((S.filter fun s=>near g s x).map (·.2)).foldl (op f) (eX f x)).2.1<=B;rcases(Bl (f:=f) ((S.filter fun s=>near g s x).map (·.2)) (eX f x)).2.2 with e |⟨h',hh,e⟩
      · rw[e];exact hx x xau
      · obtain⟨s',hs',rfl⟩:=xaw.mp hh;rw[e];exact h s' (xbK.mp hs').1) fun y hy=>hx y (xal _ hy)
theorem U8 {g mk t:Int}{S:List bZ}:(S.filter (aZ g mk)).filter (fun s=> !aZ g t s)=S.filter (inC g mk t):=by
 rw[xbx];refine xbg fun s _=>?_;unfold aZ inC;rw[xc6];congr 1;rw[<-decide_not];exact xdV.mpr (by lia)
structure Iv (g:Int)(f:Str)(X:List Th)(mk:Int)(M:Mm):Prop where
 i:St (X.map bK) g f mk ((spans g f X).filter (aZ g mk)) M
 m0:0<=mk
 m1:mk<=1000000000000
 b:∀x∈X,x.1<=1000000000000
section
variable {g mk:Int}{f:Str}{X:List Th}
theorem Iv.kp {N:Mm}(v:Iv g f X mk M)(h:keeps M N):Iv g f X mk N:=⟨v.i.kp h,v.m0,v.m1,v.b⟩
theorem Br {R:List Rn}:keeps M (rN M R):=G3
theorem zU (h:X.length<=63)(p:bZ->Bool):((spans g f X).filter p).length<=63:=xaq (xb1 ..) (xaq QV h)
theorem XJ (g0:0<g)(hf:Fd f)(h:X.length<=63):∃ks:List D,dh (((spans g f X).filter (aZ g mk)).map aP)=some ks/\dh ((((runs g X).map (sm f)).filter (aZ g mk)).map aP)=some ks/\(∀d∈ks,Kn d)/\D.deps ks<=5/\ks.length<1000:=by
 obtain⟨ks,e1,e2, -⟩:=u_ (zc ((spans g f X).filter (aZ g mk)));have p:=((CT (X:=X) g0 hf).2.1.filter (aZ g mk)).map aP;have of:∀d∈ks,∃s,d=aP s:=fun d hd=>by
  obtain⟨s, -,rfl⟩:=xaw.mp (e2.mem_iff.mp hd);exact⟨s,rfl⟩
 have l:=zU (g:=g) (f:=f) h (aZ g mk);refine⟨ks,e1,by rw[QT (zc _) p];exact e1,fun d hd=>?_,yr _ fun d hd=>?_,by rw[e2.length_eq,xaf];lia⟩
 ·obtain⟨s,rfl⟩:=of d hd;exact⟨_,_,_,_,rfl,rfl,rfl⟩
 ·obtain⟨s,rfl⟩:=of d hd
  simp[aP,D.dep,D.deps]
theorem KH {t:Int}(g0:0<g)(hf:Fd f)(h:X.length<=63):∃es:List D,dh ((((spans g f X).filter (aZ g mk)).filter fun s=> !aZ g t s).map (eU g))=some es/\dh ((((runs g X).map (sm f)).filter (inC g mk t)).map (mD g))=some (es.map bF)/\(∀d∈es,∃s,d=eU g s)/\es.length<=63:=by
 obtain⟨es,e1, -, -⟩:=u_ (zf (g:=g) (((spans g f X).filter (aZ g mk)).filter fun s=> !aZ g t s));obtain⟨a,b,c⟩:=zcq e1;rw[U8]at a c;have p:=((CT (X:=X) g0 hf).2.1.filter (inC g mk t)).map (mD g);refine⟨es,e1,by rw[QT (za _) p];exact a,b,?_⟩;rw[c];exact zU h _
theorem t4 {a0 a1 a5 a8 a9 a10 a11 a12:Slot}(g0:0<g)(hf:Fd f)(v:Iv g f X mk M)(hl:X.length<=63):∃M',BL [a0,a1,.val (.int g),.val (.str f),.val (.ref 0),a5,.val (.ref 2),.val (.int mk),a8,a9,a10,a11,a12] M=some (.nx [a0,a1,.val (.int g),.val (.str f),.val (.ref 0),a5,.val (.ref 2),.val (.int mk),a8,a9,a10,a11,a12],M')/\Iv g f X mk M':=by
 obtain⟨ks,e1,e2,e3,e4,e5⟩:=XJ (mk:=mk) g0 hf hl;have fo:=Uk (lo:=mk) v.i.x hl g0 hf e2;obtain⟨M',fk,kp⟩:=Ln (v.i.kp (Br (R:=runs g X))) e1 e3 e4 e5;refine⟨M',?_,(v.kp Br).kp kp⟩;unfold BL;generalize wO=GO at fo ⊢;generalize pZ=GK at fk ⊢;z_go;rw[fo];z_go;rw[fk];z_go
theorem t3 {a0 a1 a5 a8 a11 a12:Slot}{L:List D}(g0:0<g)(hf:Fd f)(v:Iv g f X mk M)(hl:X.length<=63)(hk:∀d∈L,Kn d)(hd:D.deps L<=5):∃M',wW [a0,a1,.val (.int g),.val (.str f),.val (.ref 0),a5,.val (.ref 2),.val (.int mk),a8,.val (.lst L),.val (.lst L),a11,a12] M=some (.nx [a0,a1,.val (.int g),.val (.str f),.val (.ref 0),a5,.val (.ref 2),.val (.int mk),a8,.val (.lst L),.val (.lst L),a11,a12],M')/\Iv g f X mk M':=by
 obtain⟨M',e,v'⟩:=t4 (a0:=a0) (a1:=a1) (a5:=a5) (a8:=a8) (a9:=.val (.lst L)) (a10:=.val (.lst L)) (a11:=a11) (a12:=a12) g0 hf v hl;refine⟨M',?_,v'⟩;have fk:=Lp (M:=M) hk;have ne:aG .ne (.lst L) (.lst L)=some (.bl false):=Ci (by show D.deps L + 1<=50;lia);unfold wW;generalize BL=F at e ⊢;generalize p7=GK at fk ⊢;z_go;rw[fk];z_go;rw[ne];z_go;rw[e]
theorem Nb {es:List D}{t:Int}(h:∀d∈es,∃s,d=eU g s):(∀d∈es.map bF ++ [.tup [.str "mark",.int t]],Kn d)/\D.deps (es.map bF ++ [.tup [.str "mark",.int t]])<=5:=by
 refine⟨fun d hd=>?_,yr _ fun d hd=>?_⟩
 ·rcases xaJ.mp hd with hd |hd
  ·obtain⟨d',hd',rfl⟩:=xaw.mp hd;obtain⟨s,rfl⟩:=h d' hd';exact⟨_,_,_,_,rfl,rfl,rfl⟩
  ·rw[xax.mp hd];exact⟨_,_,_,_,rfl,rfl,rfl⟩
 ·rcases xaJ.mp hd with hd |hd
  ·obtain⟨d',hd',rfl⟩:=xaw.mp hd;obtain⟨s,rfl⟩:=h d' hd'
   simp[bF,eU,D.dep,D.deps]
  ·rw[xax.mp hd]
   simp[D.dep,D.deps]
end
theorem jL {z:Str}{ws:List Str}(hz:z.length<=16)(h:(ws.map (·.length)).sum + ws.length<=1048576):zZ z [.lst (ws.map D.str)]=some (.str (Txt.join z ws)):=by
 unfold zZ;simp only[E3.strs_map];rw[xac ⟨hz,h⟩]
theorem TX {α:Type}[Inhabited α]{e:E3.E}{env:E3.Env}{n:Nat}{f:α->D}{p:α->Prop}(h:∀k,k<n->∃a,p a/\∀M:Mm,e (.val (.int (0 + (k:Int)))::env) M=some (.v (f a),M))(hn:n<=1000):
  ∃as:List α,as.length=n/\(∀a∈as,p a)/\∀M:Mm,eH (ak (.bl true)) e env ((List.range n).map fun(k:Nat)=>D.int (0 + k)) [] M=some (as.map f,M):=by
 let g:Nat->α:=fun k=>if hk:k<n then Classical.choose (h k hk) else default
 have hg:∀k,(hk:k<n)->p (g k)/\∀M:Mm,e (.val (.int (0 + (k:Int)))::env) M=some (.v (f (g k)),M):=fun k hk=>by
  simp only[g,dif_pos hk];exact xcs (h k hk)
 refine⟨(List.range n).map g,by simp,fun a ha=>?_,fun M=>?_⟩
 ·obtain⟨k,hk,rfl⟩:=xaw.mp ha;exact(hg k (xcK.mp hk)).1
 ·rw [comp_map (fun d => match d with | .int i => f (g i.toNat) | d => d) _ (fun d hd=>by
   obtain⟨k,hk,rfl⟩:=xaw.mp hd;have:=(hg k (xcK.mp hk)).2 M;dsimp only;rw[show(0 + (k:Int)).toNat=k by lia];exact this) (by rw[xaX,xaf,xbS];lia),xbP,xbP]
  congr 2;refine xcy fun k _=>?_;show f (g (0 + (k:Int)).toNat)=f (g k);rw[show(0 + (k:Int)).toNat=k by lia]
theorem zaS {x:Str}{j:Int}(h:0<=j/\j<=x.length):cd (Txt.slice x none (some j))=(cd x).take j.toNat:=by
 have:=PyProof.Rows.slice_closes_to (x:=x) (j:=j) ⟨h.1,by show j<=((cd x).length:Int);rw[<-rz];exact h.2⟩;rw[eq_of_beq this];show List.take (j - 0).toNat (List.drop (0:Int).toNat (cd x))=_;rw[Int.sub_zero];rfl
theorem zaW {x:Str}{j:Int}(h:0<=j/\j<=x.length):cd (Txt.slice x (some j) none)=(cd x).drop j.toNat:=by
 have:=PyProof.Rows.slice_closes_from (x:=x) (i:=j) ⟨h.1,by show j<=((cd x).length:Int);rw[<-rz];exact h.2⟩;rw[eq_of_beq this];show List.take (((cd x).length:Int) - j).toNat (List.drop j.toNat (cd x))=_;rw[xbW];rw[xbU];lia
noncomputable def KB:Str:=Str.ofString "kbzqaxmp"
theorem T7 {x:Int}{k:Nat}:∃z:Str,z.length=1/\∀M:Mm,Bg [.val (.int (0 + (k:Int))),.val (.int x)] M=some (.v (.str z),M):=by
 have h0:=xdp (x / 8 + (0 + (k:Int))) (show(8:Int)≠0 by decide);have h1:=xdE (x / 8 + (0 + (k:Int))) (show(0:Int)<8 by decide);have ec:cL KB.cps.toList ((x / 8 + (0 + (k:Int))) % 8)=some (KB.cps.toList.getD ((x / 8 + (0 + (k:Int))) % 8).toNat 0):=R_ 0 h0 (by rw[show KB.cps.toList.length=8 by x_go];exact h1);refine⟨⟨#[KB.cps.toList.getD ((x / 8 + (0 + (k:Int))) % 8).toNat 0]⟩,rfl,fun M=>?_⟩;unfold Bg;rw[show(Str.ofString "kbzqaxmp")=KB from rfl];z_go;rw[xac (by rw[show KB.length=8 by x_go];decide),ec];z_go
theorem Nj:∀ws:List Str,(∀z∈ws,z.length=1)->(Str.join (Str.ofString "") ws).length=ws.length
  | [],_=>by x_go
  | [a],h=>by
    show a.length=1;exact h a xau
  |a::b::r,h=>by
    have ih:=Nj (b::r) fun z hz=>h z (xal _ hz);have ha:=h a xau;show(a ++ Str.ofString "" ++ Str.join (Str.ofString "") (b::r):Str).length=_;rw[rz]at ih ha ⊢;rw[FN,FN,xaj,xaj,ha,ih,show cd (Str.ofString "")=[] by x_go,xay (as:=b::r)];simp only[xa9];lia
theorem zda {z:Str}{ps:List Str}:Txt.join z ps=Str.join z ps:=by
 show Builtin.Str.glued _ _=_;rw[StrLaws.glued_eq_join]
theorem zW:∀ws:List Str,(∀z∈ws,z.length=1)->(ws.map (·.length)).sum=ws.length
 | [],_=>rfl
 |a::r,h=>by rw[xaP,xcx,zW r fun z hz=>h z (xal _ hz),h a xau,xay];lia
theorem Ue {c:Int}:∃k0 k1:Str,∀M:Mm,yG [.int c] M=some (.v (.lst [.str k0,.str k1,.str "zebra"]),M):=by
 obtain⟨n,hn⟩:∃n:Nat,1 + c % 8=n:=⟨(1 + c % 8).toNat,by lia⟩;have n8:1<=n/\n<=8:=by lia
 obtain⟨ws,l1,l2,ew⟩:=TX (e:=Bg) (env:=[.val (.int c)]) (n:=n) (f:=D.str) (p:=fun z:Str=>z.length=1) (fun k hk=>T7) (by lia);have jl:=jL (z:=Str.ofString "") (ws:=ws) (by x_go) (by rw[zW ws l2];lia);have wl:(Txt.join (Str.ofString "") ws).length=n:=by rw[zda,Nj ws l2,l1]
 generalize Txt.join (Str.ofString "") ws=w at jl wl;have p0:=xdp (c / 64) (show(n:Int)≠0 by lia);have p1:=xdE (c / 64) (show(0:Int)<n by lia);have t1:(Txt.slice w none (some (c / 64 % n))).length<=8:=by rw[rz,zaS ⟨p0,by lia⟩,xbl, <-rz];lia
 have t2:(Txt.slice w (some (c / 64 % n + 1)) none).length<=8:=by rw[rz,zaW ⟨by lia,by lia⟩,xbU, <-rz];lia
 refine⟨w,Txt.slice w none (some (c / 64 % n)) ++ Str.ofString "c" ++ Txt.slice w (some (c / 64 % n + 1)) none,fun M=>?_⟩;have t3:(Txt.slice w none (some (c / 64 % n)) ++ Str.ofString "c":Str).length<=9:=by
  rw[rz]at t1 ⊢;rw[FN,xaj,show(cd (Str.ofString "c")).length=1 by x_go];lia
 unfold yG Fe;z_go;rw[hn,zcn (by lia),xby];z_go;rw[ew M];z_go;rw[jl];z_go;rw[xac (by lia)];z_go;rw[xac (by lia)];z_go;rw[xac (by rw[show(Str.ofString "c").length=1 by x_go];lia)];z_go;rw[xac (by lia)];z_go;rw[xac (by lia)];z_go
variable {M:Mm}
section
variable {g mk:Int}{f:Str}{X:List Th}
theorem zbp {c t:Int}{a0 a5 a10 a11 a12:Slot}(g0:0<g)(hf:Fd f)(v:Iv g f X mk M)(hl:X.length<=63)(hc:c % 5=0)(ht1:mk<=t)(ht2:t<=1000000000000):
  ∃M' b9 b10,rB [a0,.val (.int c),.val (.int g),.val (.str f),.val (.ref 0),a5,.val (.ref 2),.val (.int mk),.val (.int t),.val (.lst []),a10,a11,a12] M=some (.nx [a0,.val (.int c),.val (.int g),.val (.str f),.val (.ref 0),a5,.val (.ref 2),.val (.int t),.val (.int t),b9,b10,a11,a12],M')/\Iv g f X t M':=by
 have m0:=v.m0;have sl:=zU (g:=g) (f:=f) hl (aZ g mk)
 by_cases hm:mk<t
 ·obtain⟨es,e1,e2,e3,e4⟩:=KH (mk:=mk) (t:=t) g0 hf hl;have fc:=Lk (M:=M) (lo:=mk) (hi:=t) v.i.x hl g0 hf e2;have v1:=v.kp (Br (R:=runs g X));obtain⟨M2,fm,i2⟩:=Ls v1.i hm (by lia) e1 e3 (by lia);rw[Ov (by lia)]at i2;obtain⟨k1,k2⟩:=Nb (t:=t) e3;obtain⟨M',e,v'⟩:=t3 (a0:=a0) (a1:=.val (.int c)) (a5:=a5) (a8:=.val (.int t)) (a11:=a11) (a12:=a12) g0 hf (⟨i2,by lia,ht2,v.b⟩:Iv g f X t M2) hl k1 k2;refine⟨M',.val (.lst (es.map bF ++ [.tup [.str "mark",.int t]])),.val (.lst (es.map bF ++ [.tup [.str "mark",.int t]])),?_,v'⟩;have mt:∀y:Slot,bx "GapStation" "take_in" fU (aj 4) (au (ak (.int 0)) (au (aV (au (ak (.str "mark")) (au (aj 8) aq))) aq)) [a0,.val (.int c),.val (.int g),.val (.str f),.val (.ref 0),a5,.val (.ref 2),.val (.int t),.val (.int t),y,a10,a11,a12] (rN M (runs g X))=_:=fun y=>gP (k:=0) (ds:=[.int 0,.tup [.str "mark",.int t]]) rfl v1.i.o (gM (by x_go)) (by z_go) fm;have il:(es.map bF).length<=63:=by rw[xaf];exact e4
  unfold rB;generalize wW=F1 at e ⊢;generalize bx _ _ _ _ (au (ak (.int 0)) (au (aV (au (ak (.str "mark")) (au (aj 8) aq))) aq))=F2 at mt ⊢;generalize bx _ _ _ _ _=F3;generalize pY=GC at fc ⊢;generalize es.map bF=I at *;generalize rN M (runs g X)=N at *;clear fm;z_go;rw[xac hc];z_go;rw[xac hm,fc];z_go;rw[xac (by lia)];z_go;rw[mt];z_go;rw[e]
 ·obtain rfl:t=mk:=by lia
  have fm:=Uh v.i;obtain⟨M',e,v'⟩:=t3 (L:=[]) (a0:=a0) (a1:=.val (.int c)) (a5:=a5) (a8:=.val (.int t)) (a11:=a11) (a12:=a12) g0 hf v hl (fun d hd=>nomatch hd) (by simp[D.deps])
  refine⟨M',.val (.lst []),.val (.lst []),?_,v'⟩;have mt:bx "GapStation" "take_in" fU (aj 4) (au (ak (.int 0)) (au (aV (au (ak (.str "mark")) (au (aj 8) aq))) aq)) [a0,.val (.int c),.val (.int g),.val (.str f),.val (.ref 0),a5,.val (.ref 2),.val (.int t),.val (.int t),.val (.lst []),a10,a11,a12] M=_:=gP (k:=0) (ds:=[.int 0,.tup [.str "mark",.int t]]) rfl v.i.o (gM (by x_go)) (by z_go) fm;unfold rB;generalize wW=F1 at e ⊢;generalize bx _ _ _ _ (au (ak (.int 0)) (au (aV (au (ak (.str "mark")) (au (aj 8) aq))) aq))=F2 at mt ⊢;generalize bx _ _ _ _ _=F3;clear fm;z_go;rw[xac hc];z_go;rw[xae (by lia)];z_go;rw[mt];z_go;rw[e]
theorem T8 {c:Int}{env:E3.Env}(h:env[1]? =some (.val (.int c))):s2 dN (s2 oMod (s2 lq (aj 1) (ak (.int 19))) (s2 aW (s2 gk (ak (.int 2)) (s2 cO (ak (.int 10)) (ak (.int 60)))) (ak (.int 1)))) (s2 cO (ak (.int 10)) (ak (.int 60))) env M=some (.v (.int (c / 19 % 2000000000000000000000000000000000000000000000000000000000001 - 1000000000000000000000000000000000000000000000000000000000000)),M):=by
 have a1:s2 lq (aj 1) (ak (.int 19)) env M=some (.v (.int (c / 19)),M):=by
  z_go;rw[h];z_go
 have a2:s2 cO (ak (.int 10)) (ak (.int 60)) env M=some (.v (.int 1000000000000000000000000000000000000000000000000000000000000),M):=by kernel_rfl
 have a3:s2 aW (s2 gk (ak (.int 2)) (s2 cO (ak (.int 10)) (ak (.int 60)))) (ak (.int 1)) env M=some (.v (.int 2000000000000000000000000000000000000000000000000000000000001),M):=by kernel_rfl
 generalize s2 lq (aj 1) (ak (.int 19))=F1 at a1 ⊢;generalize s2 aW (s2 gk _ _) _=F3 at a3 ⊢;generalize s2 cO _ _=F2 at a2 ⊢;z_go;rw[a1];z_go;rw[a3];z_go;rw[a2];z_go
theorem zaP {c t:Int}{a0 a10 a11 a12:Slot}{k0 k1:Str}(g0:0<g)(hf:Fd f)(v:Iv g f X mk M)(hl:X.length<63)(hc:¬ c % 5=0)(ht1:mk<=t)(ht2:t<=1000000000000):
  ∃x M' b9 b10 b11 b12,rB [a0,.val (.int c),.val (.int g),.val (.str f),.val (.ref 0),.val (.lst [.str k0,.str k1,.str "zebra"]),.val (.ref 2),.val (.int mk),.val (.int t),.val (.lst []),a10,a11,a12] M=some (.nx [a0,.val (.int c),.val (.int g),.val (.str f),.val (.ref 0),.val (.lst [.str k0,.str k1,.str "zebra"]),.val (.ref 2),.val (.int mk),.val (.int t),b9,b10,b11,b12],M')/\Iv g f (X ++ [x]) mk M':=by
 obtain⟨z,hz⟩:∃z:Str,cL [D.str k0,.str k1,.str "zebra",.str k0] (c % 5 - 1)=some (.str z):=by
  have:c % 5 - 1=0\/c % 5 - 1=1\/c % 5 - 1=2\/c % 5 - 1=3:=by lia
  rcases this with h |h |h |h<;>rw[h]<;>exact⟨_,rfl⟩
 obtain⟨w,hw⟩:∃w:Int,w=c / 19 % 2000000000000000000000000000000000000000000000000000000000001 - 1000000000000000000000000000000000000000000000000000000000000:=⟨_,rfl⟩;have ev:∀env:E3.Env,env[1]? =some (.val (.int c))->_:=fun env h=>T8 (M:=M) (env:=env) h;rw[<-hw]at ev;have sl:=zU (g:=g) (f:=f) (xa5 hl) (aZ g mk);have i1:St ((X ++ [(t,z,w)]).map bK) g f mk ((spans g f X).filter (aZ g mk)) (M.set 2 (.lst (X.map bK ++ [bK (t,z,w)]))):=by rw[xaR];exact v.i.thg
 have em:=Um (x:=(t,z,w)) i1 (by lia);have i2:St ((X ++ [(t,z,w)]).map bK) g f mk (ins g f ((spans g f X).filter (aZ g mk)) (t,z,w)) _:=i1.put;rw[Va g0 ht1, <-zap]at i2 em;have nb:∀y∈X ++ [(t,z,w)],y.1<=1000000000000:=fun y hy=>by
  rcases xaJ.mp hy with hy |hy
  ·exact v.b y hy
  ·rw[xax.mp hy];exact ht2
 obtain⟨M',e,v'⟩:=t3 (L:=[]) (a0:=a0) (a1:=.val (.int c)) (a5:=.val (.lst [.str k0,.str k1,.str "zebra"])) (a8:=.val (.int t)) (a11:=.val (.str z)) (a12:=.val (.int w)) g0 hf (⟨i2,v.m0,v.m1,nb⟩:Iv g f (X ++ [(t,z,w)]) mk _) (by rw[xaj,xaA];lia) (fun d hd=>nomatch hd) (by simp[D.deps])
 refine⟨(t,z,w),M',.val (.lst []),.val (.lst []),.val (.str z),.val (.int w),?_,v'⟩;have mt:bx "GapStation" "take_in" fU (aj 4) (au (ak (.int 0)) (au (aV (au (ak (.str "thing")) (au (aj 8) (au (aj 11) (au (aj 12) aq))))) aq)) [a0,.val (.int c),.val (.int g),.val (.str f),.val (.ref 0),.val (.lst [.str k0,.str k1,.str "zebra"]),.val (.ref 2),.val (.int mk),.val (.int t),.val (.lst []),a10,.val (.str z),.val (.int w)] (M.set 2 (.lst (X.map bK ++ [bK (t,z,w)])))=_:=gP (k:=0) (ds:=[.int 0,GQ (t,z,w)]) rfl i1.o (gM (by x_go)) (by unfold GQ;z_go) em;have ap:fW (aj 6) (aV (au (aj 8) (au (aj 11) (au (aj 12) aq)))) [a0,.val (.int c),.val (.int g),.val (.str f),.val (.ref 0),.val (.lst [.str k0,.str k1,.str "zebra"]),.val (.ref 2),.val (.int mk),.val (.int t),.val (.lst []),a10,.val (.str z),.val (.int w)] M=some (.nx [a0,.val (.int c),.val (.int g),.val (.str f),.val (.ref 0),.val (.lst [.str k0,.str k1,.str "zebra"]),.val (.ref 2),.val (.int mk),.val (.int t),.val (.lst []),a10,.val (.str z),.val (.int w)],M.set 2 (.lst (X.map bK ++ [bK (t,z,w)]))):=Ai (M1:=M) (M2:=M) rfl v.i.x rfl v.i.x (by rw[xaf,xaX];lia);unfold rB;generalize wW=F1 at e ⊢;generalize bx _ _ _ _ (au (ak (.int 0)) (au (aV (au (ak (.str "thing")) (au (aj 8) (au (aj 11) (au (aj 12) aq))))) aq))=F2 at mt ⊢;generalize bx _ _ _ _ _=F3;generalize fW (aj 6) _=FA at ap ⊢;generalize M.set 2 (E3.Cl.lst (X.map bK ++ [bK (t,z,w)]))=M1 at *;generalize M1.set 0 _=M2 at *;generalize s2 dN (s2 oMod (s2 lq (aj 1) (ak (.int 19))) _) _=FV at ev ⊢;clear em;z_go;rw[xae hc];z_go;rw[hz];z_go;rw[ev _ rfl];z_go;rw[ap];z_go;rw[mt];z_go;rw[e]
end
variable {M:Mm}
theorem Mr {ns:List Int}{k:Int}(hk:0<=k):tQ [.lst (ns.map .int),.int k] M=some (.v (.int (ns.getD k.toNat 0)),M):=by
 unfold tQ Ey;z_go
 by_cases h:k<(ns.length:Int)
 ·simp only[h,xbI];z_go;have e:cL (ns.map D.int) k=some (.int (ns.getD k.toNat 0)):=by
   obtain⟨j,rfl⟩:∃j:Nat,k=j:=⟨k.toNat,by lia⟩;refine wD ?_;have:j<ns.length:=by lia
   rw[xao,xah this]
   simp[List.getD,this]
  rw[e];z_go
 ·simp only[h,xaN];z_go
  simp[List.getD,xbj (show ns.length<=k.toNat by lia)]
theorem zdh {n:Int}(h0:0<=n)(h1:n<=1000000000000):lK [.int n]=some (.str (mX n))/\g_ [.str (mX n)]=some (.int n):=by
 have hl:(mX n).length<=14:=QB (i:=n) (k:=13) (by decide) (by lia);refine⟨?_,?_⟩
 ·rw[Hw,xac (VP (by lia))];rfl
 ·rw[Hs,xac (by lia),Vc (xap (show n.natAbs<1000000000001 by lia) (by x_go))];rfl
theorem Ux {x:Int}:∃f:Str,Fd f/\cL [D.str "sum",.str "count",.str "most",.str "least"] (x % 4)=some (.str f):=by
 have h:x % 4=0\/x % 4=1\/x % 4=2\/x % 4=3:=by lia
 rcases h with h |h |h |h<;>rw[h]
 ·exact⟨_,.inl rfl,rfl⟩
 ·exact⟨_,.inr (.inl rfl),rfl⟩
 ·exact⟨_,.inr (.inr (.inl rfl)),rfl⟩
 ·exact⟨_,.inr (.inr (.inr rfl)),rfl⟩
theorem zc3 {x:Int}:∃p:Int,0<p/\p<=1000000000000/\cL [D.int 9,.int 9,.int 60,.int 1000000000000] (x % 4)=some (.int p):=by
 have h:x % 4=0\/x % 4=1\/x % 4=2\/x % 4=3:=by lia
 rcases h with h |h |h |h<;>rw[h]
 ·exact⟨9,by decide,by decide,rfl⟩
 ·exact⟨9,by decide,by decide,rfl⟩
 ·exact⟨60,by decide,by decide,rfl⟩
 ·exact⟨1000000000000,by decide,by decide,rfl⟩
noncomputable def lu (w f:Str):D:=.tup [.str "gap",.str "g",.tup [.str "a"],.tup [.str w,.str f]]
theorem Uc {g:Int}{w f:Str}(e1:g_ [.str w]=some (.int g)):p8 [lu w f] M=some (.v (.tup [.int g,.str f]),M):=by
 unfold p8 Fp lu;z_go;rw[<-Hs,e1];z_go
def ZM (g:Int)(f:Str):Mm:=[OB g f [],.lst [.int 0]]
theorem U_ {w f:Str}:yF [.ref 0,lu w f] [.obj "GapStation" []]=some (.v .non,[.obj "GapStation" [("marks",.ref 1)],.lst [.int 0]]):=by kernel_rfl
theorem U9 {g:Int}{w f:Str}(hw:p8 [lu w f] [.obj "GapStation" [("marks",.ref 1)],.lst [.int 0]]=some (.v (.tup [.int g,.str f]),[.obj "GapStation" [("marks",.ref 1)],.lst [.int 0]])):wI [.ref 0,lu w f] [.obj "GapStation" []]=some (.v .non,ZM g f):=by
 have b0:=U_ (w:=w) (f:=f);have b1:∀row:D,(ao (eY "GapStation" "gap" (aj 0) (s2 aH (aj 2) (ak (.int 0)))) (ao (eY "GapStation" "fold" (aj 0) (s2 aH (aj 2) (ak (.int 1)))) (ao (eY "GapStation" "kept" (aj 0) (aX aq)) aA))) [.val (.ref 0),.val row,.val (.tup [.int g,.str f])] [.obj "GapStation" [("marks",.ref 1)],.lst [.int 0]]=some (.nx [.val (.ref 0),.val row,.val (.tup [.int g,.str f])],ZM g f):=fun row=>by kernel_rfl
 unfold wI Aj;generalize (ao (eY "GapStation" "gap" (aj 0) _) _)=F1 at b1 ⊢;generalize yF=G at b0 ⊢;generalize p8=G2 at hw ⊢;generalize lu w f=row at *;generalize [E3.Cl.obj "GapStation" [("marks",.ref 1)],.lst [.int 0]]=N at *;generalize [E3.Cl.obj "GapStation" []]=N0 at *;z_go;rw[b0];z_go;rw[hw];z_go;rw[b1];z_go
theorem Ud {g:Int}{w f:Str}(hw:∀M,p8 [lu w f] M=some (.v (.tup [.int g,.str f]),M)):yH [lu w f] []=some (.v (.ref 0),ZM g f):=by
 have mk:u5 "GapStation" wI (au (aj 0) aq) [.val (lu w f)] []=some (.v (.ref 0),ZM g f):=V6 (M1:=[]) (ds:=[lu w f]) rfl (U9 (hw _));have k1:(Str.ofString "gap"=Str.ofString "keep")=False:=xcn (by x_go);have k2:(Str.ofString "gap"=Str.ofString "turn")=False:=xcn (by x_go);have k3:(Str.ofString "gap"=Str.ofString "share")=False:=xcn (by x_go);have k4:(Str.ofString "gap"=Str.ofString "pour")=False:=xcn (by x_go);have k5:aG .isin (.str (Str.ofString "gap")) (.tup [.str (Str.ofString "fixed"),.str (Str.ofString "slide")])=some (.bl false):=by kernel_rfl
 clear hw;unfold yH Fv;generalize u5 _ _ _=F at mk ⊢;generalize ZM g f=M2 at mk ⊢;unfold lu at *;z_go;simp only[k1,xaN];z_go;simp only[k2,xaN];z_go;simp only[k3,xaN];z_go;simp only[k4,xaN];z_go;rw[k5];z_go;rw[mk];z_go
theorem Vm {g:Int}{f:Str}:Iv g f [] 0 (ZM g f ++ [.lst []]):=⟨⟨rfl,rfl,rfl⟩,by decide,by decide,fun x hx=>nomatch hx⟩
section
variable {M:Mm}{g mk:Int}{f:Str}{X:List Th}
theorem turn {c:Int}{a0 a8 a9 a10 a11 a12:Slot}{k0 k1:Str}(g0:0<g)(hf:Fd f)(v:Iv g f X mk M)(hl:X.length<63):
  ∃X' mk' M' b8 b9 b10 b11 b12,X'.length<=X.length + 1/\Bu [a0,.val (.int c),.val (.int g),.val (.str f),.val (.ref 0),.val (.lst [.str k0,.str k1,.str "zebra"]),.val (.ref 2),.val (.int mk),a8,a9,a10,a11,a12] M=some (.nx [a0,.val (.int c),.val (.int g),.val (.str f),.val (.ref 0),.val (.lst [.str k0,.str k1,.str "zebra"]),.val (.ref 2),.val (.int mk'),b8,b9,b10,b11,b12],M')/\Iv g f X' mk' M':=by
 have m0:=v.m0;have m1:=v.m1;obtain⟨r,hr,r0⟩:∃r:Int,r=c / 5 % (3 * g + 1)/\0<=r:=⟨_,rfl,xdp _ (by lia)⟩;obtain⟨t,ht⟩:∃t:Int,t=if mk + r<1000000000000 then mk + r else 1000000000000:=⟨_,rfl⟩
 have h1:mk<=t:=by rw[ht];split<;>lia
 have h2:t<=1000000000000:=by rw[ht];split<;>lia
 have p12:∀env:E3.Env,s2 cO (ak (.int 10)) (ak (.int 12)) env M=some (.v (.int 1000000000000),M):=fun env=>by kernel_rfl
 have st:∀(env':E3.Env) (M':Mm),rB [a0,.val (.int c),.val (.int g),.val (.str f),.val (.ref 0),.val (.lst [.str k0,.str k1,.str "zebra"]),.val (.ref 2),.val (.int mk),.val (.int t),.val (.lst []),a10,a11,a12] M=some (.nx env',M')->Bu [a0,.val (.int c),.val (.int g),.val (.str f),.val (.ref 0),.val (.lst [.str k0,.str k1,.str "zebra"]),.val (.ref 2),.val (.int mk),a8,a9,a10,a11,a12] M=some (.nx env',M'):=fun env' M' e=>by
  unfold Bu N6;generalize rB=F at e ⊢;generalize s2 cO (ak (.int 10)) (ak (.int 12))=FP at p12 ⊢;z_go;rw[p12];z_go;rw[xac (by lia), <-hr];z_go;rw[<-ht,e]
 by_cases hc:c % 5=0
 ·obtain⟨M',b9,b10,e,v'⟩:=zbp (c:=c) (t:=t) (a0:=a0) (a5:=.val (.lst [.str k0,.str k1,.str "zebra"])) (a10:=a10) (a11:=a11) (a12:=a12) g0 hf v (by lia) hc h1 h2;exact⟨X,t,M',_,b9,b10,_,_,by lia,st _ _ e,v'⟩
 ·obtain⟨x,M',b9,b10,b11,b12,e,v'⟩:=zaP (c:=c) (t:=t) (a0:=a0) (a10:=a10) (a11:=a11) (a12:=a12) (k0:=k0) (k1:=k1) g0 hf v hl hc h1 h2;exact⟨X ++ [x],mk,M',_,b9,b10,b11,b12,by rw[xaj,xaA];lia,st _ _ e,v'⟩
theorem fin {a0 a1 a5 a8 a9 a10 a11 a12:Slot}(g0:0<g)(g1:g<=1000000000000)(hf:Fd f)(v:Iv g f X mk M)(hl:X.length<=63):
  ∃M',cX (Ca [a0,a1,.val (.int g),.val (.str f),.val (.ref 0),a5,.val (.ref 2),.val (.int mk),a8,a9,a10,a11,a12] M)=some (.v (.bl true),M'):=by
 have m1:=v.m1;have sl:=zU (g:=g) (f:=f) hl (aZ g mk);obtain⟨es,e1,e2,e3,e4⟩:=KH (mk:=mk) (t:=1000000000000000) g0 hf hl;have fc:=Lk (M:=M) (lo:=mk) (hi:=1000000000000000) v.i.x hl g0 hf e2;have v1:=v.kp (Br (R:=runs g X));obtain⟨M2,fm,i2⟩:=Ls v1.i (show mk<1000000000000000 by lia) (by lia) e1 e3 (by lia);rw[Ov (by lia)]at i2;obtain⟨k1,k2⟩:=Nb (t:=1000000000000000) e3;have no:(spans g f X).filter (aZ g 1000000000000000)=[]:=xd2.mpr fun s hs=>by
  have:=Mf (g:=g) (f:=f) X [] (fun s h=>nomatch h) v.b s hs
  unfold aZ;rw[xaI (by lia)]
  decide
 rw[no]at i2;obtain⟨M3,fk, -⟩:=Ln (ks:=[]) i2 (by simp[dh]) (fun d hd=>nomatch hd) (by simp[D.deps]) (by simp)
 refine⟨M3,?_⟩;have kk:=Lp (M:=M2) k1;have eq:aG .eq (.lst (es.map bF ++ [.tup [.str "mark",.int 1000000000000000]])) (.lst (es.map bF ++ [.tup [.str "mark",.int 1000000000000000]]))=some (.bl true):=Wv (by show D.deps _ + 1<=50;lia);have mt:∀y:Slot,bx "GapStation" "take_in" fU (aj 4) (au (ak (.int 0)) (au (aV (au (ak (.str "mark")) (au (ak (.int 1000000000000000)) aq))) aq)) [a0,a1,.val (.int g),.val (.str f),.val (.ref 0),a5,.val (.ref 2),.val (.int mk),a8,y,a10,a11,a12] (rN M (runs g X))=_:=fun y=>gP (k:=0) (ds:=[.int 0,.tup [.str "mark",.int 1000000000000000]]) rfl v1.i.o (gM (by x_go)) (by z_go) fm;have il:(es.map bF).length<=63:=by rw[xaf];exact e4
 clear fm k1 k2;generalize hR:es.map bF ++ [D.tup [.str "mark",.int 1000000000000000]]=R at *;have q10:cX (BZ [a0,a1,.val (.int g),.val (.str f),.val (.ref 0),a5,.val (.ref 2),.val (.int mk),a8,.val (.lst R),.val (.lst R),a11,a12] M2)=some (.v (.bl true),M3):=by
  unfold BZ;generalize p7=GK at kk ⊢;generalize pZ=GL at fk ⊢;z_go;rw[kk];z_go;rw[eq];z_go;rw[fk];z_go
 have q9:cX (Cd [a0,a1,.val (.int g),.val (.str f),.val (.ref 0),a5,.val (.ref 2),.val (.int mk),a8,.val (.lst R),a10,a11,a12] (rN M (runs g X)))=some (.v (.bl true),M3):=by
  unfold Cd;generalize BZ=nx at q10 ⊢;generalize bx _ _ _ _ _=F at mt ⊢;z_go;rw[mt];z_go;exact q10
 unfold Ca;generalize Cd=nx at q9 ⊢;generalize pY=GC at fc ⊢;generalize es.map bF=I at *;generalize rN M (runs g X)=N at *;z_go;rw[fc];z_go;rw[xac (by lia)];z_go;rw[hR];exact q9
end
theorem main {ns:List Int}{g c:Int}{f:Str}{k0 k1:Str}(hl:ns.length<=63)(g0:0<g)(g1:g<=1000000000000)(hf:Fd f):
  ∃M',cX (B_ [.val (.lst (ns.map .int)),.val (.int c),.val (.int g),.val (.str f),.val (.ref 0),.val (.lst [.str k0,.str k1,.str "zebra"]),.val (.ref 2),.val (.int 0),.un,.un,.un,.un,.un] (ZM g f ++ [.lst []]))=some (.v (.bl true),M'):=by
 have i0:=Vm (g:=g) (f:=f);unfold B_;generalize ZM g f ++ [E3.Cl.lst []]=N0 at i0 ⊢;generalize h8:Ca=nx8;z_go;rw[T5, <-h8];have cl:=T4 ns (some 2) (some 60);generalize dM ns (some 2) (some 60)=es at cl;refine V1 (Q:=fun o=>∃M,cX (pJ _ o)=some (.v (.bl true),M)) (fun k env N=>∃(X:List Th) (mk:Int) (s1 s8 s9 s10 s11 s12:E3.Slot),X.length<=k/\Iv g f X mk N/\env=[.val (.lst (ns.map .int)),s1,.val (.int g),.val (.str f),.val (.ref 0),.val (.lst [.str k0,.str k1,.str "zebra"]),.val (.ref 2),.val (.int mk),s8,s9,s10,s11,s12]) ⟨[],0,_,_,_,_,_,_,xad _,i0,rfl⟩ ?_ ?_
 ·rintro k d env N hd ⟨X,mk,s1,s8,s9,s10,s11,s12,hk,v,rfl⟩;rw[xao,xak]at hd;obtain⟨n,hn,rfl⟩:=hd;have kl:=(xaz.mp hn).1;refine⟨by simp,?_⟩;simp only[xcm,xbZ];obtain⟨X',mk',M',b8,b9,b10,b11,b12,xl,e,v'⟩:=turn (c:=n) (a0:=.val (.lst (ns.map .int))) (a8:=s8) (a9:=s9) (a10:=s10) (a11:=s11) (a12:=s12) (k0:=k0) (k1:=k1) g0 hf v (by lia);rw[e];exact⟨X',mk',_,_,_,_,_,_,by lia,v',rfl⟩
 ·rintro env N ⟨X,mk,s1,s8,s9,s10,s11,s12,hk,v,rfl⟩;rw[xaf]at hk;obtain⟨M',e⟩:=fin (a0:=.val (.lst (ns.map .int))) (a1:=s1) (a5:=.val (.lst [.str k0,.str k1,.str "zebra"])) (a8:=s8) (a9:=s9) (a10:=s10) (a11:=s11) (a12:=s12) g0 g1 hf v (by lia);exact⟨M',by simp only[zJ];exact e⟩
theorem Vy:∀ns:List Int,ns.length<=63->∃M,lR [.lst (ns.map D.int)] []=some (.v (.bl true),M):=by
 intro ns hl;have c0:=fun N=>Mr (M:=N) (ns:=ns) (k:=0) (by decide);have c1:=fun N=>Mr (M:=N) (ns:=ns) (k:=1) (by decide);generalize ns.getD (0:Int).toNat 0=v0 at c0;generalize ns.getD (1:Int).toNat 0=v1 at c1;obtain⟨p,p0,p1,ep⟩:=zc3 (x:=v0);obtain⟨f,hf,eF⟩:=Ux (x:=v1);obtain⟨g,hg⟩:∃g:Int,g=1 + v0 / 4 % p:=⟨_,rfl⟩;have a0:=xdp (v0 / 4) (show p≠0 by lia);have a1:=xdE (v0 / 4) p0;obtain⟨b1,b2⟩:=zdh (n:=g) (by lia) (by lia);obtain⟨k0,k1,ek⟩:=Ue (c:=v1 / 4);have st:=Ud (g:=g) (w:=mX g) (f:=f) fun M=>Uc b2;obtain⟨M',q⟩:=main (ns:=ns) (g:=g) (c:=v0) (f:=f) (k0:=k0) (k1:=k1) hl (by lia) (by lia) hf;refine⟨M',?_⟩;have zl:(ZM g f).length=2:=rfl;have p12:∀env:E3.Env,s2 cO (ak (.int 10)) (ak (.int 12)) env []=some (.v (.int 1000000000000),[]):=fun env=>by kernel_rfl
 generalize ZM g f=N at st q zl;unfold lR Ms Ay;generalize h1:Hg=nx1;z_go;rw[c0];z_go;rw[<-h1];unfold Hg;generalize h2:Hh=nx2;generalize s2 cO (ak (.int 10)) (ak (.int 12))=FP at p12 ⊢;z_go;rw[p12];z_go;rw[ep];z_go;rw[xac (by lia)];z_go;rw[<-hg, <-h2];unfold Hh;generalize h3:Hi=nx3;z_go;rw[c1];z_go;rw[eF];z_go;rw[<-h3];unfold Hi;generalize h4:Hj=nx4;unfold lu at st;z_go;rw[<-Hw,b1];z_go;rw[st];z_go;rw[<-h4];unfold Hj;generalize h5:Hl=nx5;z_go;rw[c1];z_go;rw[ek];z_go;rw[<-h5];unfold Hl;generalize h6:Ho=nx6;z_go;rw[zl, <-h6];unfold Ho;generalize B_=nx7 at q ⊢;z_go;exact q
theorem Vz {l:PySem.W.OpenLaw}{w:World}{K:Fgx}{mg:Mgx}{C:Ad}{h base:Heap}{f14 f15 f16 f17 f18 f19 f20 f21 f22 f23 f24 f25:Addr}{d14 d15 d16 d17 d18 d19 d20 d21 d22 d23 d24 d25:FuncData}(X:K.In h)(G:h.Ns mainGlobals mg)(T:Txt K mg C w)
  (F0:bV K "gap_of" Dp)
  (F1:bV K "item_of" Dq)
  (F2:bV K "first_of" Dm)
  (F3:bV K "merged" Dr)
  (F4:bV K "station_of" Ds)
  (F5:bV K "_law_whole" Dl)
  (F6:bV K "_law_cell_at" Dc)
  (F7:bV K "_law_fold" Df)
  (F8:bV K "_law_chains" zN)
  (F9:bV K "_law_keys" Dh)
  (F10:bV K "_law_closed" Dd)
  (F11:bV K "_law_open" Dk)
  (F12:bV K "_law_kinds" Di)
  (F13:bV K "_law_kept" Dg)
  (D14:DefAt K mg "law" lX ["_law_script"] f14 d14)
  (D15:IniAt K C.GapStation "GapStation.__init__" rJ ["self","row"] f15 d15)
  (D16:MetAt K C.GapStation "is_near" "GapStation.is_near" rO ["self","span","thing"] f16 d16)
  (D17:MetAt K C.GapStation "take_thing" "GapStation.take_thing" pH ["self","way","thing"] f17 d17)
  (D18:MetAt K C.GapStation "close_at" "GapStation.close_at" rM ["self","low"] f18 d18)
  (D19:MetAt K C.GapStation "all_kept" "GapStation.all_kept" rK ["self"] f19 d19)
  (D20:MetAt K C.GapStation "low" "Station.low" rP ["self"] f20 d20)
  (D21:MetAt K C.GapStation "take_in" "Station.take_in" rR ["self","way","item"] f21 d21)
  (D22:MetAt K C.GapStation "take_mark" "Station.take_mark" rW ["self","way","mark"] f22 d22)
  (D23:MetAt K C.GapStation "tell_low" "Station.tell_low" rY ["self","low"] f23 d23)
  (D24:MetAt K C.GapStation "state" "Station.state" rQ ["self"] f24 d24)
  (D25:BasAt K C.Station "Station.__init__" rH ["self","row"] f25 d25)
  (F26:bV K "_law_kinds" Dj)
  :FnOk l.prog w K mg base fP tR f14 d14 ["_law_script"] (mY K mg 1 lR):=by
 have A0:bH l.prog w K mg base 1 "gap_of" 1 p8:=(F0.ok X G Qp (fun _=>zaU (k:=0) T) :);have A1:bH l.prog w K mg base 1 "item_of" 1 Bk:=(F1.ok X G Qq (fun _=>zaI (k:=0) T) :);have A2:bH l.prog w K mg base 1 "first_of" 2 wQ:=(F2.ok X G Qo (fun _=>zat (k:=0) T) :);have A3:bH l.prog w K mg base 1 "merged" 3 wR:=(F3.ok X G Qt (fun _=>za0 (k:=0) T) :);have A25:lZ l.prog w K mg base 1 "Station" "__init__" 2 yF:=(D25.ok (b:=Ew) T.cl_Station.mg Pz (Z4 (k:=0) T) :);have A15:mj l.prog w K mg base 2 C.GapStation 2 wI:=⟨_,_,_,D15.M,gH (b:=Aj) D15.F PB (by decide) (Z5 (k:=1) T A0.up A25.up),D15.b⟩;have A4:bH l.prog w K mg base 4 "station_of" 1 yH:=(F4.ok X G Qu (fun _=>zam (k:=3) (k0:=2) T rfl A15.up) :);have A5:bH l.prog w K mg base 1 "_law_whole" 1 mJ:=(F5.ok X G Qn (fun _=>zaZ (k:=0) T) :);have A6:bH l.prog w K mg base 1 "_law_cell_at" 2 tQ:=(F6.ok X G Qe (fun _=>zas (k:=0) T) :);have A7:bH l.prog w K mg base 1 "_law_fold" 2 nR:=(F7.ok X G Qh (fun _=>zbh (k:=0) T) :);have A8:bH l.prog w K mg base 1 "_law_chains" 2 j_:=(F8.ok X G Qf (fun _=>zaG (k:=0) T) :);have A9:bH l.prog w K mg base 1 "_law_keys" 1 yG:=(F9.ok X G Qj (fun _=>zbs (k:=0) T) :);have A10:bH l.prog w K mg base 2 "_law_closed" 5 pY:=(F10.ok X G Qg (fun _=>zaH (k:=1) T A7.up A8.up) :);have A11:bH l.prog w K mg base 2 "_law_open" 4 wO:=(F11.ok X G Qm (fun _=>zbg (k:=1) T A7.up A8.up) :);have A12:bH l.prog w K mg base 2 "_law_kinds" 1 p7:=(F12.ok X G Qk (fun _=>zaV (k:=1) T A5.up) :);have A19:cQ l.prog w K mg base 1 C.GapStation "all_kept" 1 tM:=⟨_,_,_,D19.M,gH (b:=Ak) D19.F PJ (by decide) (Z6 (k:=0) T),D19.b⟩;have A24:cQ l.prog w K mg base 2 C.GapStation "state" 1 wL:=⟨_,_,_,D24.M,gH (b:=Av) D24.F PX (by decide) (Z_ (k:=1) T A19.up),D24.b⟩;have A26:bH l.prog w K mg base 2 "_law_kinds" 1 wN:=(F26.ok X G Ql (fun _=>zaw (k:=1) T A5.up) :);have A13:bH l.prog w K mg base 3 "_law_kept" 3 pZ:=(F13.ok X G Qi (fun _=>zbD (k:=2) T A24.up A26.up) :);have A16:cQ l.prog w K mg base 1 C.GapStation "is_near" 3 wK:=⟨_,_,_,D16.M,gH (b:=Ao) D16.F PL (by decide) (Z8 (k:=0) T),D16.b⟩;have A17:cQ l.prog w K mg base 2 C.GapStation "take_thing" 3 wM:=⟨_,_,_,D17.M,gH (b:=Aw) D17.F Qc (by decide) (zab (k:=1) T A2.up A3.up A16.up),D17.b⟩;have A20:cQ l.prog w K mg base 1 C.GapStation "low" 1 nP:=⟨_,_,_,D20.M,gH (b:=Aq) D20.F PN (by decide) (Z9 (k:=0) T),D20.b⟩;have A18:cQ l.prog w K mg base 1 C.GapStation "close_at" 2 wJ:=⟨_,_,_,D18.M,gH (b:=Am) D18.F PK (by decide) (Z7 (k:=0) T),D18.b⟩;have A23:cQ l.prog w K mg base 2 C.GapStation "tell_low" 2 tO:=⟨_,_,_,D23.M,gH (b:=Ax) D23.F Qd (by decide) (zad (k:=1) T A1.up A18.up),D23.b⟩;have A22:cQ l.prog w K mg base 3 C.GapStation "take_mark" 3 nQ:=⟨_,_,_,D22.M,gH (b:=yh) D22.F Qa (by decide) (zac (k:=2) T A20.up A23.up),D22.b⟩;have A21:cQ l.prog w K mg base 4 C.GapStation "take_in" 3 fU:=⟨_,_,_,D21.M,gH (b:=wF) D21.F P_ (by decide) (zae (k:=3) T A17.up A22.up),D21.b⟩;exact gH (b:=Ay) D14.F Qs (by decide) (zcV (k:=4) T A4.up A6.up A9.up A10.up A11.up A12.up A13.up A21.up)
theorem all_mk {l:W.OpenLaw}{w:World}{K:W.Frag}{h:Heap}{mg:Mgx}{fa:Addr}(X:K.In h)(G:h.Ns mainGlobals mg)(hfa:mg "law"=some (.ref fa))
  (j6:W.nsIn K mainGlobals "GapStation"=some (some (.ref j7)))
  (j8:W.nsIn K mainGlobals "Station"=some (some (.ref j9)))
  (jc:W.nsIn K mainGlobals "DamError"=some (some (.ref jd)))
  (je:W.nsIn K mainGlobals "NoExpr"=some (some (.ref jf)))
  (jg:W.plainGet K j7 Str.empty=true) (jh:W.hasDictIn K j7=true) (ji:W.plainOver K j7=true) (jm:W.findIn K (.ref j7) "__setattr__"=some (some (.builtin "object.__setattr__")))
  (jo:W.plainGet K j9 Str.empty=true) (jq:W.hasDictIn K j9=true) (jr:W.plainOver K j9=true) (jt:W.findIn K (.ref j9) "__setattr__"=some (some (.builtin "object.__setattr__")))
  (ju:W.findIn K (.ref j7) "fold"=some none)
  (jw:W.findIn K (.ref j7) "gap"=some none)
  (jy:W.findIn K (.ref j7) "kept"=some none)
  (jz:W.findIn K (.ref j7) "marks"=some none)
  (jA:kY K jd=true)
  (jB:kY K jf=true)
  (jC:RJ K jf=true) (jD:W.keepIn K (.ref jf)=true) (jE:Ed K jf=true)
  (F0:bV K "gap_of" Dp)
  (F1:bV K "item_of" Dq)
  (F2:bV K "first_of" Dm)
  (F3:bV K "merged" Dr)
  (F4:bV K "station_of" Ds)
  (F5:bV K "_law_whole" Dl)
  (F6:bV K "_law_cell_at" Dc)
  (F7:bV K "_law_fold" Df)
  (F8:bV K "_law_chains" zN)
  (F9:bV K "_law_keys" Dh)
  (F10:bV K "_law_closed" Dd)
  (F11:bV K "_law_open" Dk)
  (F12:bV K "_law_kinds" Di)
  (F13:bV K "_law_kept" Dg)
  (a14:W.nsIn K mainGlobals "law"=some (some (.ref f14))) (l14:K.lookup f14=some ⟨oc14,od14,.func (W.fnOf "law" "law" (bU lX) (bL lX) (aN lX) .none kV14 dc14 pm14 an14 cd14 ct14),sl14⟩) (c14:W.codeIn K cd14 "law"=true) (k14:W.keepIn K (.ref f14)=true)
  (a15:W.findIn K (.ref j7) "__init__"=some (some (.ref f15))) (l15:K.lookup f15=some ⟨oc15,od15,.func (W.fnOf "__init__" "GapStation.__init__" (bU rJ) (bL rJ) (aN rJ) .none kV15 dc15 pm15 an15 cd15 ct15),sl15⟩) (c15:W.codeIn K cd15 "GapStation.__init__"=true) (k15:W.keepIn K (.ref f15)=true)
  (n15:W.isFn K (.ref f15)=true)
  (w15:W.makesIn K j7=true) (y15:W.keepIn K (.ref j7)=true)
  (a16:W.findIn K (.ref j7) "is_near"=some (some (.ref f16))) (l16:K.lookup f16=some ⟨oc16,od16,.func (W.fnOf "is_near" "GapStation.is_near" (bU rO) (bL rO) (aN rO) .none kV16 dc16 pm16 an16 cd16 ct16),sl16⟩) (c16:W.codeIn K cd16 "GapStation.is_near"=true) (k16:W.keepIn K (.ref f16)=true)
  (n16:W.isFn K (.ref f16)=true)
  (a17:W.findIn K (.ref j7) "take_thing"=some (some (.ref f17))) (l17:K.lookup f17=some ⟨oc17,od17,.func (W.fnOf "take_thing" "GapStation.take_thing" (bU pH) (bL pH) (aN pH) .none kV17 dc17 pm17 an17 cd17 ct17),sl17⟩) (c17:W.codeIn K cd17 "GapStation.take_thing"=true) (k17:W.keepIn K (.ref f17)=true)
  (n17:W.isFn K (.ref f17)=true)
  (a18:W.findIn K (.ref j7) "close_at"=some (some (.ref f18))) (l18:K.lookup f18=some ⟨oc18,od18,.func (W.fnOf "close_at" "GapStation.close_at" (bU rM) (bL rM) (aN rM) .none kV18 dc18 pm18 an18 cd18 ct18),sl18⟩) (c18:W.codeIn K cd18 "GapStation.close_at"=true) (k18:W.keepIn K (.ref f18)=true)
  (n18:W.isFn K (.ref f18)=true)
  (a19:W.findIn K (.ref j7) "all_kept"=some (some (.ref f19))) (l19:K.lookup f19=some ⟨oc19,od19,.func (W.fnOf "all_kept" "GapStation.all_kept" (bU rK) (bL rK) (aN rK) .none kV19 dc19 pm19 an19 cd19 ct19),sl19⟩) (c19:W.codeIn K cd19 "GapStation.all_kept"=true) (k19:W.keepIn K (.ref f19)=true)
  (n19:W.isFn K (.ref f19)=true)
  (a20:W.findIn K (.ref j7) "low"=some (some (.ref f20))) (l20:K.lookup f20=some ⟨oc20,od20,.func (W.fnOf "low" "Station.low" (bU rP) (bL rP) (aN rP) .none kV20 dc20 pm20 an20 cd20 ct20),sl20⟩) (c20:W.codeIn K cd20 "Station.low"=true) (k20:W.keepIn K (.ref f20)=true)
  (n20:W.isFn K (.ref f20)=true)
  (a21:W.findIn K (.ref j7) "take_in"=some (some (.ref f21))) (l21:K.lookup f21=some ⟨oc21,od21,.func (W.fnOf "take_in" "Station.take_in" (bU rR) (bL rR) (aN rR) .none kV21 dc21 pm21 an21 cd21 ct21),sl21⟩) (c21:W.codeIn K cd21 "Station.take_in"=true) (k21:W.keepIn K (.ref f21)=true)
  (n21:W.isFn K (.ref f21)=true)
  (a22:W.findIn K (.ref j7) "take_mark"=some (some (.ref f22))) (l22:K.lookup f22=some ⟨oc22,od22,.func (W.fnOf "take_mark" "Station.take_mark" (bU rW) (bL rW) (aN rW) .none kV22 dc22 pm22 an22 cd22 ct22),sl22⟩) (c22:W.codeIn K cd22 "Station.take_mark"=true) (k22:W.keepIn K (.ref f22)=true)
  (n22:W.isFn K (.ref f22)=true)
  (a23:W.findIn K (.ref j7) "tell_low"=some (some (.ref f23))) (l23:K.lookup f23=some ⟨oc23,od23,.func (W.fnOf "tell_low" "Station.tell_low" (bU rY) (bL rY) (aN rY) .none kV23 dc23 pm23 an23 cd23 ct23),sl23⟩) (c23:W.codeIn K cd23 "Station.tell_low"=true) (k23:W.keepIn K (.ref f23)=true)
  (n23:W.isFn K (.ref f23)=true)
  (a24:W.findIn K (.ref j7) "state"=some (some (.ref f24))) (l24:K.lookup f24=some ⟨oc24,od24,.func (W.fnOf "state" "Station.state" (bU rQ) (bL rQ) (aN rQ) .none kV24 dc24 pm24 an24 cd24 ct24),sl24⟩) (c24:W.codeIn K cd24 "Station.state"=true) (k24:W.keepIn K (.ref f24)=true)
  (n24:W.isFn K (.ref f24)=true)
  (a25:W.findIn K (.ref j9) "__init__"=some (some (.ref f25))) (l25:K.lookup f25=some ⟨oc25,od25,.func (W.fnOf "__init__" "Station.__init__" (bU rH) (bL rH) (aN rH) .none kV25 dc25 pm25 an25 cd25 ct25),sl25⟩) (c25:W.codeIn K cd25 "Station.__init__"=true) (k25:W.keepIn K (.ref f25)=true)
  (jF:iB K j9 f25 "__init__"=true)
  (F26:bV K "_law_kinds" Dj)
  (jG:W.nsIn K mainGlobals "int"=some none)
  (jH:W.nsIn K mainGlobals "min"=some none)
  (jJ:W.nsIn K mainGlobals "max"=some none)
  (jK:W.nsIn K mainGlobals "isinstance"=some none)
  (jM:W.nsIn K mainGlobals "bool"=some none)
  (jN:W.nsIn K mainGlobals "len"=some none)
  (jO:W.nsIn K mainGlobals "sum"=some none)
  (jP:W.nsIn K mainGlobals "sorted"=some none)
  (jQ:W.nsIn K mainGlobals "set"=some none)
  (jR:W.nsIn K mainGlobals "range"=some none)
  (jT:W.nsIn K mainGlobals "tuple"=some none)
  (jU:W.nsIn K mainGlobals "list"=some none)
  (jV:W.nsIn K mainGlobals "str"=some none)
  (jW:W.nsIn K mainGlobals "ALL_LETTERS"=some (some (.ref jX))) (jY:K.lookup jX=some ⟨.type "tuple",jZ,.seq #[.str "t" qb,.str "v" qe,.str "w" qg] qj,ql⟩)
  (qm:W.nsIn K mainGlobals "NEEDS"=some (some (.ref qp)))
  (qt:K.lookup qp=some ⟨.type "dict",none,.dict #[⟨qu,.str "+" qw,.ref qx⟩,⟨qy,.str "-" qz,.ref qC⟩,⟨qD,.str "*" qF,.ref qG⟩,⟨qH,.str "least" qI,.ref qJ⟩,⟨qK,.str "most" qL,.ref qM⟩,⟨qN,.str "<" qO,.ref qP⟩,⟨qQ,.str "=" qR,.ref qT⟩,⟨qU,.str "not" qW,.ref qX⟩,⟨qY,.str "and" qZ,.ref o7⟩,⟨o8,.str "or" o9,.ref oh⟩] ou, #[]⟩) (oA:(qp==sysModules)=false)
  (oE:qu=hashStr w "+")
  (oF:K.lookup qx=some ⟨.type "tuple",oG,.seq #[.str "number" oH,.str "number" oJ,.int 2 oK] oM,oN⟩)
  (oO:qy=hashStr w "-")
  (oR:K.lookup qC=some ⟨.type "tuple",oU,.seq #[.str "number" oV,.str "number" oW,.int 2 oX] oY,oZ⟩)
  (iy:qD=hashStr w "*")
  (iz:K.lookup qG=some ⟨.type "tuple",iC,.seq #[.str "number" iD,.str "number" iG,.int 2 iH] iI,iJ⟩)
  (iK:qH=hashStr w "least")
  (iM:K.lookup qJ=some ⟨.type "tuple",iQ,.seq #[.str "number" iR,.str "number" iT,.int 2 iU] iV,iW⟩)
  (iY:qK=hashStr w "most")
  (iZ:K.lookup qM=some ⟨.type "tuple",u9,.seq #[.str "number" ud,.str "number" uf,.int 2 ug] uh,uo⟩)
  (uq:qN=hashStr w "<")
  (uw:K.lookup qP=some ⟨.type "tuple",ux,.seq #[.str "truth" uy,.str "number" uz,.int 2 uD] uE,uF⟩)
  (uG:qQ=hashStr w "=")
  (uH:K.lookup qT=some ⟨.type "tuple",uI,.seq #[.str "truth" uJ,.str "number" uK,.int 2 uL] uM,uN⟩)
  (uO:qU=hashStr w "not")
  (uP:K.lookup qX=some ⟨.type "tuple",uQ,.seq #[.str "truth" uR,.str "truth" uT,.int 1 uU] uV,uW⟩)
  (uX:qY=hashStr w "and")
  (uY:K.lookup o7=some ⟨.type "tuple",uZ,.seq #[.str "truth" v7,.str "truth" v8,.int 2 v9] vA,vB⟩)
  (vC:o8=hashStr w "or")
  (vD:K.lookup oh=some ⟨.type "tuple",vG,.seq #[.str "truth" vH,.str "truth" vI,.int 2 vJ] vK,vL⟩)
  (vM:W.nsIn K mainGlobals "FIGURES"=some (some (.str "0123456789" vN)))
  (vO:W.nsIn K mainGlobals "MOST_FIGURES"=some (some (.int 20 vP)))
  (vQ:W.nsIn K mainGlobals "MOST_VALUE"=some (some (.int 1000000000000000000000000000000000000000000000000000000000000 vR)))
  (vU:W.nsIn K mainGlobals "LAST"=some (some (.int 1000000000000000 vV)))
  (vW:W.nsIn K mainGlobals "LETTERS"=some (some (.str "abcdefghijklmnopqrstuvwxyz" vX)))
  (vY:W.nsIn K mainGlobals "COND_LETTERS"=some (some (.str "tv" vZ)))
  :∃fd:FuncData,(∀(s:Shared) (v:Value),BindsTo s fd ⟨[v],[]⟩ [("_law_script",v)])/\∀base:Heap,K.In base->base.Ns mainGlobals mg->FnOk l.prog w K mg base fP tR fa fd ["_law_script"] (zR K lR):=by
 have e:=hfa.symm.trans (xca X G a14);cases e;have T:Txt (w:=w) K mg ⟨j7,j9,jd,jf⟩:=⟨by simp only[yj,xar,xdU,or_false,forall_eq_or_imp,forall_eq];exact⟨xbn X G jG,xbn X G jH,xbn X G jJ,xbn X G jK,xbn X G jM,xbn X G jN,xbn X G jO,xbn X G jP,xbn X G jQ,xbn X G jR,xbn X G jT,xbn X G jU,xbn X G jV⟩,⟨xca X G j6,jg,jh,ji,jm⟩,⟨xca X G j8,jo,jq,jr,jt⟩,ju,jw,jy,jz,xca X G jc,jA,xca X G je,jB,jC,jD,jE,⟨_,xca X G jW,M6 (vs:=[(.str "t"),(.str "v"),(.str "w")]) (its:= #[.str "t" _,.str "v" _,.str "w" _]) (o:=⟨.type "tuple",_,.seq #[.str "t" _,.str "v" _,.str "w" _] _,_⟩) jY rfl rfl (by show 3<=sizeLine;decide) (.cons ⟨_,rfl⟩ (.cons ⟨_,rfl⟩ (.cons ⟨_,rfl⟩ (.nil)))) (fun _ _=>⟨_,_,rfl,rfl,⟨_,_,rfl,rfl,⟨_,_,rfl,rfl,rfl⟩⟩⟩)⟩,⟨_,xca X G qm,_,_,_,_,qt,⟨rfl,rfl,rfl⟩,rfl,.cons (v:=.ref qx) oE rfl (mK oF) (.cons (v:=.ref qC) oO rfl (mK oR) (.cons (v:=.ref qG) iy rfl (mK iz) (.cons (v:=.ref qJ) iK rfl (mK iM) (.cons (v:=.ref qM) iY rfl (mK iZ) (.cons (v:=.ref qP) uq rfl (mK uw) (.cons (v:=.ref qT) uG rfl (mK uH) (.cons (v:=.ref qX) uO rfl (mK uP) (.cons (v:=.ref o7) uX rfl (mK uY) (.cons (v:=.ref oh) vC rfl (mK vD) (.nil)))))))))),by x_go,oA⟩,⟨_,xca X G vM⟩,⟨_,xca X G vO⟩,⟨_,xca X G vQ⟩,⟨_,xca X G vU⟩,⟨_,xca X G vW⟩,⟨_,xca X G vY⟩⟩;have D14:DefAt K mg "law" lX ["_law_script"] _ _:=⟨xca X G a14,gJ l14 c14 k14,(gK (st:=lX) l14 c14 k14).binds (ps:=["_law_script"]) fun _ _ _ _ _ _ us hl=>match us,hl with | [_],_=>rfl⟩
 have D15:IniAt K j7 "GapStation.__init__" rJ ["self","row"] _ _:=⟨⟨w15,a15,n15,y15⟩,gJ l15 c15 k15,(gK (st:=rJ) l15 c15 k15).binds (ps:=["self","row"]) fun _ _ _ _ _ _ us hl=>match us,hl with | [_,_],_=>rfl⟩
 have D16:MetAt K j7 "is_near" "GapStation.is_near" rO ["self","span","thing"] _ _:=⟨⟨a16,n16,k16⟩,gJ l16 c16 k16,(gK (st:=rO) l16 c16 k16).binds (ps:=["self","span","thing"]) fun _ _ _ _ _ _ us hl=>match us,hl with | [_,_,_],_=>rfl⟩
 have D17:MetAt K j7 "take_thing" "GapStation.take_thing" pH ["self","way","thing"] _ _:=⟨⟨a17,n17,k17⟩,gJ l17 c17 k17,(gK (st:=pH) l17 c17 k17).binds (ps:=["self","way","thing"]) fun _ _ _ _ _ _ us hl=>match us,hl with | [_,_,_],_=>rfl⟩
 have D18:MetAt K j7 "close_at" "GapStation.close_at" rM ["self","low"] _ _:=⟨⟨a18,n18,k18⟩,gJ l18 c18 k18,(gK (st:=rM) l18 c18 k18).binds (ps:=["self","low"]) fun _ _ _ _ _ _ us hl=>match us,hl with | [_,_],_=>rfl⟩
 have D19:MetAt K j7 "all_kept" "GapStation.all_kept" rK ["self"] _ _:=⟨⟨a19,n19,k19⟩,gJ l19 c19 k19,(gK (st:=rK) l19 c19 k19).binds (ps:=["self"]) fun _ _ _ _ _ _ us hl=>match us,hl with | [_],_=>rfl⟩
 have D20:MetAt K j7 "low" "Station.low" rP ["self"] _ _:=⟨⟨a20,n20,k20⟩,gJ l20 c20 k20,(gK (st:=rP) l20 c20 k20).binds (ps:=["self"]) fun _ _ _ _ _ _ us hl=>match us,hl with | [_],_=>rfl⟩
 have D21:MetAt K j7 "take_in" "Station.take_in" rR ["self","way","item"] _ _:=⟨⟨a21,n21,k21⟩,gJ l21 c21 k21,(gK (st:=rR) l21 c21 k21).binds (ps:=["self","way","item"]) fun _ _ _ _ _ _ us hl=>match us,hl with | [_,_,_],_=>rfl⟩
 have D22:MetAt K j7 "take_mark" "Station.take_mark" rW ["self","way","mark"] _ _:=⟨⟨a22,n22,k22⟩,gJ l22 c22 k22,(gK (st:=rW) l22 c22 k22).binds (ps:=["self","way","mark"]) fun _ _ _ _ _ _ us hl=>match us,hl with | [_,_,_],_=>rfl⟩
 have D23:MetAt K j7 "tell_low" "Station.tell_low" rY ["self","low"] _ _:=⟨⟨a23,n23,k23⟩,gJ l23 c23 k23,(gK (st:=rY) l23 c23 k23).binds (ps:=["self","low"]) fun _ _ _ _ _ _ us hl=>match us,hl with | [_,_],_=>rfl⟩
 have D24:MetAt K j7 "state" "Station.state" rQ ["self"] _ _:=⟨⟨a24,n24,k24⟩,gJ l24 c24 k24,(gK (st:=rQ) l24 c24 k24).binds (ps:=["self"]) fun _ _ _ _ _ _ us hl=>match us,hl with | [_],_=>rfl⟩
 have D25:BasAt K j9 "Station.__init__" rH ["self","row"] _ _:=⟨jF,gJ l25 c25 k25,(gK (st:=rH) l25 c25 k25).binds (ps:=["self","row"]) fun _ _ _ _ _ _ us hl=>match us,hl with | [_,_],_=>rfl⟩
 refine⟨W.fnOf "law" "law" (bU lX) (bL lX) (aN lX) .none kV14 dc14 pm14 an14 cd14 ct14,fun s v=>.of_eq rfl,fun base _ _=>Uv ?_⟩;exact Vz X G T F0 F1 F2 F3 F4 F5 F6 F7 F8 F9 F10 F11 F12 F13 D14 D15 D16 D17 D18 D19 D20 D21 D22 D23 D24 D25 F26
end My
open PySem PySem.W PyProof.Rows
set_option maxRecDepth 100000 in
set_option maxHeartbeats 0 in
theorem PySem.Challenge.cw_rowdam_k44_gaps_holds : PySem.Challenge.rw_rowdam_k44_gaps.Holds := by
 w_on;refine HQ.two "special-get-raises" My.he My.hAf My.hBf My.hAt My.hBt ?_
 k_fill
 refine E3.zbA (l:=PySem.Challenge.rw_rowdam_k44_gaps) (k:=My.tR) (g:=My.lR) (x:="_law_script") rfl rfl ⟨rfl,by decide,by decide⟩ (fun w h Y=>by first |exact PySem.W.kIn_of Y |exact PySem.W.km_in_of Y) ?F My.Vy
 case F=>
  intro w mg fa h KX G hmg
  refine' My.all_mk KX G hmg ?j6 ?j8 ?jc ?je ?jg ?jh ?ji ?jm ?jo ?jq ?jr ?jt ?ju ?jw ?jy ?jz ?jA ?jB ?jC ?jD ?jE ?F0 ?F1 ?F2 ?F3 ?F4 ?F5 ?F6 ?F7 ?F8 ?F9 ?F10 ?F11 ?F12 ?F13 ?a14 ?l14 ?c14 ?k14 ?a15 ?l15 ?c15 ?k15 ?n15 ?w15 ?y15 ?a16 ?l16 ?c16 ?k16 ?n16 ?a17 ?l17 ?c17 ?k17 ?n17 ?a18 ?l18 ?c18 ?k18 ?n18 ?a19 ?l19 ?c19 ?k19 ?n19 ?a20 ?l20 ?c20 ?k20 ?n20 ?a21 ?l21 ?c21 ?k21 ?n21 ?a22 ?l22 ?c22 ?k22 ?n22 ?a23 ?l23 ?c23 ?k23 ?n23 ?a24 ?l24 ?c24 ?k24 ?n24 ?a25 ?l25 ?c25 ?k25 ?jF ?F26 ?jG ?jH ?jJ ?jK ?jM ?jN ?jO ?jP ?jQ ?jR ?jT ?jU ?jV ?jW ?jY ?qm ?qt ?oA ?oE ?oF ?oO ?oR ?iy ?iz ?iK ?iM ?iY ?iZ ?uq ?uw ?uG ?uH ?uO ?uP ?uX ?uY ?vC ?vD ?vM ?vO ?vQ ?vU ?vW ?vY
  (case j6 |j8 |jc |je |jg |jh |ji |jm |jo |jq |jr |jt |ju |jw |jy |jz=>k_is);(case jA |jB |jC=>kernel_rfl);(case jD=>k_is);(case jE=>refine E3.zcC (E3.zcx ?_ ?_ ?_) ?_ ?_ ?_ ?_ ?_<;>k_is);(case a14 |l14 |c14 |k14 |a15 |l15 |c15 |k15=>k_is);(case n15 |w15=>kernel_rfl);(case y15 |a16 |l16 |c16 |k16=>k_is);(case n16=>kernel_rfl);(case a17 |l17 |c17 |k17=>k_is);(case n17=>kernel_rfl);(case a18 |l18 |c18 |k18=>k_is);(case n18=>kernel_rfl);(case a19 |l19 |c19 |k19=>k_is);(case n19=>kernel_rfl);(case a20 |l20 |c20 |k20=>k_is);(case n20=>kernel_rfl);(case a21 |l21 |c21 |k21=>k_is);(case n21=>kernel_rfl);(case a22 |l22 |c22 |k22=>k_is);(case n22=>kernel_rfl);(case a23 |l23 |c23 |k23=>k_is);(case n23=>kernel_rfl);(case a24 |l24 |c24 |k24=>k_is);(case n24=>kernel_rfl);(case a25 |l25 |c25 |k25=>k_is);(case jF=>kernel_rfl);(case jG |jH |jJ |jK |jM |jN |jO |jP |jQ |jR |jT |jU |jV |jW |jY |qm |qt=>k_is);(case oA=>first |decide +kernel |kernel_rfl);(case oE=>rfl);(case oF=>k_is);(case oO=>rfl);(case oR=>k_is);(case iy=>rfl);(case iz=>k_is);(case iK=>rfl);(case iM=>k_is);(case iY=>rfl);(case iZ=>k_is);(case uq=>rfl);(case uw=>k_is);(case uG=>rfl);(case uH=>k_is);(case uO=>rfl);(case uP=>k_is);(case uX=>rfl);(case uY=>k_is);(case vC=>rfl);(case vD |vM |vO |vQ |vU |vW |vY=>k_is);all_goals (refine' E3.bV.mk ?a ?l ?c ?k;(case a=>k_is);(case l=>k_is);(case c=>k_is);(case k=>k_is))
