import PyProof.Rows.All
import Wide.All
import OpenK.AllK
import Wide.FinOn
import Lean
import PyProof.EqAt
import PyProof.EqKinds
import PyProof.TupleCall
import KE.KIsAll
import KE.KMinKey
import KE.KTupSum
import KE.KxSplit
import KE.KxAffix
import KE.KIntText
import PyProof.NeKinds
import PyProof.Rows.EqBoolInt
import KE.KSortTup
import KE.KDictLaws
import KE.KNestM
import PyProof.Conv_int_bool
import PySem.Challenge.RW_rowdam_k45_joins
noncomputable section
set_option Elab.async false
set_option linter.all false
set_option compiler.extract_closed false
set_option maxRecDepth 100000
def tG:=@PySem.wpAny_bind
def xaa:=@PySem.Heap.get?_push_of_some
def xab:=@if_pos
def xac:=@Option.map_eq_some_iff
def xad:=@if_neg
def xae:=@List.size_toArray
def xaf:=@Nat.le_refl
def xag:=@List.getElem?_eq_getElem
def xah:=@PySem.wpAny_pure
def xai:=@Nat.lt_of_lt_of_le
def xaj:=@List.length_append
def xak:=@List.mem_cons_of_mem
def xal:=@List.length_map
def xam:=@List.getElem?_eq_some_iff
def xan:=@List.getElem?_map
theorem xao:type_of%@List.length_cons:=by intros;rfl
def xap:=@Bool.and_eq_true
def xaq:=@PySem.Heap.lt_size
def xar:=@List.append_assoc
def xas:=@PySem.Heap.get?_push_size
def xat:=@List.mem_cons_self
def xau:=@Bool.false_ne_true
def xav:=@Option.some.inj
def xaw:=@List.getElem?_append_right
def xax:=@List.append_nil
def xay:=@Nat.ne_of_lt
def xaz:=@decide_eq_false
def xaA:=@List.length_set
def xaB:=@Nat.le_trans
def xaC:=@List.mem_of_getElem?
def xaD:=@List.mem_map
def xaE:=@List.mem_append_right
def xaF:=@decide_eq_true
def xaG:=@PySem.sizeLine_eq
def xaH:=@List.getElem?_append_left
def xaI:=@List.map_cons
def xaJ:=@List.mem_cons
def xaK:=@List.length_reverse
def xaL:=@Bool.eq_iff_iff
def xaM:=@List.all_eq_true
def xaN:=@PySem.wpAny_newObj_type
def xaO:=@PySem.wpAny_mono
def xaP:=@PySem.W.kia_one
theorem xaQ:type_of%@List.length_singleton:=by intros;rfl
theorem xaR:type_of%@Array.length_toList:=by intros;rfl
def xaS:=@decide_eq_true_eq
def xaT:=@List.pairwise_append
def xaU:=@PySem.Heap.get?_update_other
theorem xaV:type_of%@List.length_nil:=by intros;rfl
def xaW:=@beq_eq_false_iff_ne
def xaX:=@PySem.mem_of_lookup
def xaY:=@Array.getD_eq_getD_getElem?
def xaZ:=@List.getElem?_replicate
def xa0:=@List.getD_eq_getElem?_getD
def xa2:=@List.mem_filter
def xa3:=@PySem.Obj.data_mapFields
def xa4:=@Nat.lt_or_ge
def xa5:=@Bool.false_eq_true
def xa6:=@List.drop_eq_getElem_cons
def xa7:=@List.getElem?_set
def xa8:=@Nat.le_of_lt_succ
def xa9:=@Nat.lt_irrefl
def xba:=@PySem.W.mg_none_of
theorem xbb:type_of%@Option.map_some:=by intros;rfl
def xbc:=@Nat.le_antisymm
def xbd:=@List.filter_cons_of_pos
def xbe:=@Nat.lt_succ_self
def xbf:=@beq_self_eq_true
def xbg:=@Nat.zero_le
def xbh:=@beq_iff_eq
theorem xbi:type_of%@List.nil_append:=by intros;rfl
def xbj:=@List.getElem?_eq_none
def xbk:=@List.length_filter_le
def xbl:=@List.mem_singleton
def xbm:=@PySem.wpAny_holding
def xbn:=@PySem.wpAny_field
def xbo:=@if_true
def xbp:=@List.filter_cons_of_neg
def xbq:=@List.flatMap_cons
def xbr:=@List.mem_append
theorem xbs:type_of%@List.replicate_succ:=by intros;rfl
def xbt:=@Array.getElem?_eq_some_iff
def xbu:=@Ne.symm
def xbv:=@List.length_replicate
def xbw:=@List.getElem?_eq_none_iff
def xbx:=@List.nodup_cons
def xby:=@of_decide_eq_true
theorem xbz:type_of%@List.all_cons:=by intros;rfl
theorem xbA:type_of%@List.getElem?_cons_succ:=by intros;rfl
def xbB:=@List.mem_map_of_mem
def xbC:=@List.length_take
theorem xbD:type_of%@List.lookup_cons:=by intros;rfl
def xbE:=@Nat.le_succ
def xbF:=@PySem.wpAny_Call_Name_kw
def xbG:=@PySem.W.callWith_K
def xbH:=@PySem.W.methodCall_KW
def xbI:=@PySem.Heap.get?_update_self
def xbJ:=@PySem.PassesOwn.never
def xbK:=@PySem.wpAny_truthy_bool
theorem xbL:type_of%@List.flatten_cons:=by intros;rfl
def xbM:=@List.reverse_cons
def xbN:=@PySem.W.mg_of
def xbO:=@PySem.codeAny_mono
def xbP:=@if_false
def xbQ:=@List.length_drop
def xbR:=@PySem.wpAny_call_entry
def xbS:=@List.map_nil
def xbT:=@List.getElem_mem
theorem xbU:type_of%@List.filterMap_cons:=by intros;rfl
def xbV:=@PySem.W.plainGet_of
def xbW:=@PyProof.Rows.slot_tuple_getitem
def xbX:=@PySem.wpAny_getItem_str_slice
def xbY:=@PySem.F.plainAttrs_list
theorem xbZ:type_of%@List.any_cons:=by intros;rfl
theorem xb0:type_of%@List.find?_cons:=by intros;rfl
def xb1:=@Bool.or_eq_true
def xb2:=@of_decide_eq_false
theorem xb3:type_of%@List.set_cons_succ:=by intros;rfl
theorem xb4:type_of%@List.set_cons_zero:=by intros;rfl
def xb5:=@List.getElem?_set_self
def xb6:=@Nat.le_of_lt
def xb7:=@PySem.Heap.size_push
def xb8:=@PySem.wpAny_setField
def xb9:=@PySem.Obj.isFreed_of_fields
def xca:=@PySem.builtinLookup_eq_fast
def xcb:=@PyProof.Rows.callWith_type1
def xcc:=@List.getElem?_set_ne
theorem xcd:type_of%@Option.getD_some:=by intros;rfl
def xce:=@PyProof.Rows.boot_min
theorem xcf:type_of%@List.cons_append:=by intros;rfl
def xcg:=@Nat.pow_le_pow_right
def xch:=@PySem.wpAny_standAt
def xci:=@PySem.F.excBase_ValueError
def xcj:=@PySem.strLen_append
def xck:=@PySem.wpAny_of_eq
def xcl:=@PySem.Heap.SameBut.update
def xcm:=@List.map_append
def xcn:=@PySem.wpAny_passesOwn
def xco:=@List.of_mem_zip
theorem xcp:type_of%@List.foldl_cons:=by intros;rfl
def xcq:=@List.cons.injEq
theorem xcr:type_of%@Option.isSome_some:=by intros;rfl
def xcs:=@List.map_map
def xct:=@PySem.W.callWith_F
def xcu:=@eq_false
def xcv:=@List.mem_range
def xcw:=@List.drop_zero
def xcx:=@PySem.wpAny_callSpecial?_slot
def xcy:=@Nat.lt_succ_of_lt
def xcz:=@List.pairwise_map
def xcA:=@PySem.W.cellsFrom_some
def xcB:=@List.drop_eq_nil_of_le
def xcC:=@PySem.wpAny_execs_cons
def xcD:=@List.drop_length
def xcE:=@List.map_reverse
theorem xcF:type_of%@List.reverse_nil:=by intros;rfl
def xcG:=@List.filter_cons
def xcH:=@PySem.codeAny_call_function
def xcI:=@PySem.Heap.get?_none_of_le
def xcJ:=@List.mem_append_left
def xcK:=@Nat.le_of_eq
def xcL:=@PySem.SeqAt.EqAt.same
def xcM:=@PySem.wpAny_specialOf
def xcN:=@PySem.post_val_or_str
def xcO:=@Nat.sub_self
def xcP:=@PyProof.Rows.get?_update_seq
def xcQ:=@PySem.typeLookup_type
def xcR:=@PyProof.Rows.slice_closes_from
def xcS:=@Bool.and_eq_true_iff
def xcT:=@Int.emod_nonneg
def xcU:=@List.map_congr_left
def xcV:=@Bool.and_false
def xcW:=@PySem.isSubtype_type
def xcX:=@List.lt_irrefl
def xcY:=@PySem.boot_len
def xcZ:=@PySem.SeqAt.EqAt.int_str
def xc1:=@PySem.SeqAt.EqAt.str_int
def xc2:=@PyProof.Rows.slot_tuple_getitem
def xc3:=@PySem.SeqAt.EqAt.int_int
def xc4:=@PySem.SeqAt.EqAt.str_str
theorem xc5:type_of%@List.zip_cons_cons:=by intros;rfl
def xc6:=@PySem.wpAny_newTextTuple
theorem xc7:type_of%@Option.isSome_none:=by intros;rfl
def xc8:=@Int.emod_lt_of_pos
def xc9:=@PySem.Calls.Name_function_global
def xda:=@PySem.wpAny_newFunctionEnv_cells
def xdb:=@Bool.and_self
def xdc:=@PyProof.Rows.listUpdate_at
def xdd:=@PySem.wpAny_newList
def xde:=@PySem.W.kitx_list
def xdf:=@PySem.W.kitx_dict
theorem xdh:type_of%@Int.toNat_natCast:=by intros;rfl
def xdi:=@List.length_range
def xdj:=@Bool.not_eq_true'
def xdk:=@Option.some.injEq
def xdl:=@Nat.le_succ_of_le
def xdm:=@PySem.wpAny_call
def xdn:=@PySem.call_meets
def xdo:=@List.mem_or_eq_of_mem_set
def xdp:=@PySem.Calls.call_function_entry
def xdq:=@Array.getElem?_eq_getElem
def xdr:=@Nat.ne_of_gt
def xds:=@List.getElem?_take_of_lt
def xdt:=@PySem.F.args_tuple_add_2
def xdu:=@PySem.Txt.slice_le
def xdv:=@PySem.SeqAt.RcAt.lists_lengths
def xdw:=@PySem.F.slot_list_append
def xdx:=@PySem.F.type_list_append
def xdy:=@List.eq_of_mem_replicate
def xdz:=@Array.toList_inj
def xdA:=@PySem.AutoSeq1.wpAny_loadPart'
def xdB:=@Nat.le_add_right
def xdC:=@List.not_mem_nil
def xdD:=@List.Perm.eq_of_pairwise
def xdE:=@PySem.F.entry_tuple_add
def xdF:=@Option.bind_eq_some_iff
theorem xdG:type_of%@List.getElem?_cons_zero:=by intros;rfl
def xdH:=@Nat.not_lt_zero
theorem xdI:type_of%@Option.map_none:=by intros;rfl
def xdJ:=@PySem.F.slot_tuple_add
def xdK:=@PySem.seqIndex_of
def xdL:=@List.take_of_length_le
def xdM:=@Array.getElem?_toList
def xdN:=@List.mem_iff_getElem?
def xdO:=@List.dropLast_eq_take
theorem xdP:type_of%@List.tail_cons:=by intros;rfl
def xdQ:=@List.countP_mono_left
def xdR:=@List.take_append_drop
def xdS:=@List.set_append_right
def xdT:=@Array.mem_toList_iff
def xdU:=@Nat.not_le
def xdV:=@Prod.mk.injEq
def xdW:=@Bool.and_true
def xdX:=@PySem.wpAny_attempt
def xdY:=@List.getElem?_range
def xdZ:=@List.map_eq_nil_iff
def xd0:=@Int.toNat_of_nonneg
def xd1:=@List.takeWhile_cons
def xd2:=@Nat.add_le_add_left
def xd3:=@PySem.W.codeHd_of_K
def xd4:=@Array.append_assoc
def xd5:=@List.mem_filterMap
def xd6:=@Array.find?_toList
def xd7:=@PySem.W.kitx_tuple
def xd8:=@PySem.W.codeRec_of
def xd9:=@Nat.min_self
def xea:=@Nat.lt_of_le_of_lt
def xeb:=@List.filter_append
def xec:=@List.take_sublist
def xed:=@bne_self_eq_false
def xee:=@Array.Perm.toList
def xef:=@Int.le_refl
def xeg:=@Nat.not_lt
abbrev Fgx:=PySem.W.Frag
abbrev Mgx:=PySem.Str->Option PySem.Value
abbrev Pnx:=List (PySem.Addr×PySem.Obj)
local macro_rules | `(tactic| x_go)=> `(tactic| decide +kernel)
namespace HQ
open PySem PySem.W PySem.Calls PyProof.Rows
noncomputable def Rb {α:Type} (t:BT):(BT->α)->α:= @BT.rec (fun _=>(BT->α)->α) (fun k=>k .nil) (fun v _ _ a b k=>a fun l=>b fun r=>k (.node v l r)) t
theorem Jv {α:Type}:∀(t:BT) (k:BT->α),Rb t k=k t
 |.nil,_=>rfl
 |.node _ l r,_=>(Jv l _).trans (Jv r _)
noncomputable def pC {α:Type} (n:Nat) (k:Nat->α):α:= @Nat.rec (fun _=>α) (k 0) (fun n _=>k (Nat.succ n)) n
theorem Rf {α:Type}(n:Nat)(k:Nat->α):pC n k=k n:=by cases n<;>rfl
def frs {α:Type}(s:SharedT)(k:SharedT->α):α:= @SharedT.rec (fun _=>α) (fun T n l g d i o=>Rb T fun T=>pC n fun n=>pC i fun i=>k ⟨T,n,l,g,d,i,o⟩) s
theorem Y9 {α:Type}(s:SharedT)(k:SharedT->α):frs s k=k s:=(Jv _ _).trans ((Rf _ _).trans (Rf _ _))
abbrev qd:Code->Sem Fin:=Fast.tw11892475500146522536 Fast.tw14364793385576792824
noncomputable def Ou (p:Program) (w:World):SharedT->Thread->Option (SharedT×Thread)
  |⟨T,n,l,g,d,i,o⟩,⟨c,cd,q,fs⟩=>match c with
    |.load .. |.update .. |.alloc .. |.loadIfAlive .. =>Fast.tw10156331382660048174 qd p w ⟨T,n,l,g,d,i,o⟩ ⟨c,cd,q,fs⟩
    |c=>match Fast.tw8437177126325714943 qd p w ⟨{},g,d,i,o⟩ ⟨c,cd,q,fs⟩ with
      |.go ⟨_,g,d,i,o⟩ t=>some (⟨T,n,l,g,d,i,o⟩,t)
      |.halt _ _=>none
theorem zfq {p:Program}{w:World}(s:SharedT)(t:Thread):Ou p w s t=stepT (denote treeTable) p w s t:=by
 obtain⟨T,n,l,g,d,i,o⟩:=s;obtain⟨c,cd,q,fs⟩:=t;rw[show denote treeTable=qd by unfold qd;rw[<-Fast.te11892475500146522536, <-Fast.te14364793385576792824]];cases c<;>(unfold Ou;dsimp only;first |rw[<-Fast.te10156331382660048174] |(unfold stepT;dsimp only;rw[<-Fast.te8437177126325714943];cases step qd p w _ _<;>rfl))
abbrev OS:=Option SharedT
noncomputable def bd (p:Program) (w:World) (n:Nat) (ih:SharedT->Thread->OS) (s:SharedT) (t:Thread):OS:=
 @Bool.rec (fun _=>OS) (@Bool.rec (fun _=>OS) none (@Option.rec _ (fun _=>OS) none (fun r=> @Prod.rec _ _ (fun _=>OS) (fun s t=> @Bool.rec (fun _=>OS) (ih s t) (frs s fun s=>ih s t) (Nat.beq (n % 64) 0)) r) (Ou p w s t)) (Fast.tw6613529449190102663 11 (some (.ref 6)) t)) (some s) (through t)
noncomputable def go (p:Program) (w:World) (n:Nat):SharedT->Thread->OS:= @Nat.rec (fun _=>SharedT->Thread->OS) (fun _ _=>none) (bd p w) n
theorem wY {p:Program}{w:World}:∀{n:Nat} {s s':SharedT} {t:Thread},go p w n s t=some s'->topRun treeTable p w 11 (some (.ref 6)) n s.abs t=some s'.abs
  |0,_,_,_,h=>by cases h
  |n + 1,s,s',t,h=>by
    rw[show go p w (n + 1) s t=bd p w n (go p w n) s t from rfl]at h;unfold bd at h;rw[zfq, <-Fast.te6613529449190102663]at h;unfold topRun
    cases ht:through t with
    |true=>rw[ht]at h;cases h;rfl
    |false=>
      rw[ht]at h
      cases hk:stepOk 11 (some (.ref 6)) t with
      |false=>rw[hk]at h;cases h
      |true=>
        rw[hk]at h
        cases hs:stepT (denote treeTable) p w s t with
        |none=>rw[hs]at h;cases h
        |some r=>
          obtain⟨s₂,t₂⟩:=r;rw[hs]at h;dsimp only at h ⊢;rw[stepT_spec hs];rw[Y9]at h;exact wY (by revert h;cases Nat.beq (n % 64) 0<;>exact id)
noncomputable def mkT:List Obj->Nat->BT->BT
 | [],_,t=>t
 |o::l,i,t=>mkT l (i + 1) (t.ins i o)
noncomputable def bS (w:World) (o:OsState):SharedT:=⟨mkT (boot_heap w.params).objs.toList 0 .nil,11,{},⟨[]⟩,boot_drawn,boot_toks,o⟩
theorem Xo (w:World)(o:OsState):(bS w o).abs=⟨boot_heap w.params,⟨[]⟩,boot_drawn,boot_toks,o⟩:=by kernel_rfl
theorem Xp (P:Params):((boot_heap P).isNs mainGlobals && (Array.mk []:Array GenState).size==0,(boot_heap P).objs.size,(boot_heap P).nsMap mainGlobals "__annotations__")=(true,11,some (.ref 6)):=by kernel_rfl
noncomputable def lst {α:Type} (T:BT) (n:Nat):List Obj->(List Obj->α)->α:=
 @Nat.rec (fun _=>List Obj->(List Obj->α)->α) (fun a k=>k a) (fun i ih a k=> @Option.rec Obj (fun _=>α) (ih (default::a) k) (fun o=> @Obj.rec (fun _=>α) (fun c d t l=>ih (⟨c,d,t,l⟩::a) k) o) (T.get i)) n
theorem SM {α:Type}(T:BT):∀(n:Nat) (a:List Obj) (k:List Obj->α),lst T n a k=k (T.list n ++ a)
  |0,_,_=>rfl
  |n + 1,a,k=>by
    rw[show T.list (n + 1)=T.list n ++ [(T.get n).getD default] by unfold BT.list;rw[List.range_succ,xcm];rfl,xar];unfold lst;dsimp only;cases T.get n<;>exact SM T n _ k
noncomputable def PK {α:Type} (s:SharedT) (k:Shared->α):α:= @SharedT.rec (fun _=>α) (fun T n l g d i o=>lst T n [] fun a=>k ⟨⟨⟨a⟩,l⟩,g,d,i,o⟩) s
theorem PL {α:Type}(s:SharedT)(k:Shared->α):PK s k=k s.abs:=(SM _ _ _ _).trans (by rw[xax];rfl)
section
variable {p q:Program}{lo:List Str}{Xt:Shared->Bool}{α:Type}{Yf:Shared->α}{Ya:World->α}{N:Nat}{g0:Bool}{B C:Prop}
abbrev Pre (_:LeftO p q lo Xt Yf Ya N g0/\B->C):Prop:=(opening p=plainProg p.main.scope.names/\∀s,fenceModules? p s=some s)/\Nat.ble 600 N=true
abbrev See {β:Type}(p:Program)(N:Nat)(v:World->World)(f:World->Shared->β)(y:World->β):Prop:=∀w o,(go p (v w) N (bS (v w) o) (topStub p)).map (fun s=>PK s (f (v w)))=some (y (v w))
abbrev mQ (v:World->World)(_:LeftO p q lo Xt Yf Ya N g0/\B->C):Prop:=
 See p N v (fun w s=>(staticsOk (importedModules p.main.body) (boot_heap w.params) s.heap && namesBound p s.heap && gensDone s && laidKept (boot_heap w.params) s.heap,Yf s)) fun w=>(true,Ya w)
abbrev mR (v:World->World)(_:LeftO p q lo Xt Yf Ya N g0/\B->C):Prop:=See p N v (fun _ s=>Fast.tw4187177175401517315 q lo (importedModules p.main.body) Xt g0 s) fun _=>openGood q lo
theorem left {v:World->World}{H:LeftO p q lo Xt Yf Ya N g0/\B->C}(e:Pre H)(a:mQ v H)(b:mR v H)(w:World):
  (openEnds treeTable p (v w) N).map (fun s=>(openSeen q lo (importedModules p.main.body) Xt g0 s,Yf s))=some (openGood q lo,Ya (v w)):=by
 obtain⟨⟨h,gs,d,k,o⟩,e1,e2⟩:=xac.mp (boot_open e.1.1 e.2 e.1.2 (v w));obtain⟨rfl,rfl,rfl,rfl⟩:h=boot_heap (v w).params/\gs=⟨[]⟩/\d=boot_drawn/\k=boot_toks:=by simpa using e2
 obtain⟨s,hs,hv⟩:=xac.mp (a w o);have hb:=b w o;rw[hs,xbb,PL, <-Fast.te4187177175401517315]at hb;rw[PL]at hv;obtain⟨l1,l3⟩:=Prod.mk.inj hv;obtain⟨z1,z2,z3⟩:_/\_/\_:=by simpa only[xdV] using Xp (v w).params
 have hr:=wY hs;rw[Xo]at hr;have t:topFrom treeTable p (v w) N ⟨boot_heap (v w).params,⟨[]⟩,boot_drawn,boot_toks,o⟩=some s.abs:=by
  unfold topFrom;dsimp only;rw[z1,z2,z3,hr];dsimp only[Option.bind_some];rw[l1]
 unfold openEnds;rw[e1,Option.bind_some,t];exact congrArg some (Prod.ext (xav hb) l3)
theorem two (row:String){H:LeftO p q lo Xt Yf Ya N g0/\B->C}(e:Pre H)(a:mQ (·.withFollow row false) H)(b:mR (·.withFollow row false) H)(c:mQ (·.withFollow row true) H)(d:mR (·.withFollow row true) H)(hB:B):C:=
 H ⟨fun w=>by
  have x:=left e a b w;have y:=left e c d w;have z:=World.withFollow_self w row;cases h:w.params.followText row<;>rw[h]at z<;>simp only[z]at x y<;>assumption,hB⟩
end
end HQ
section
local macro_rules
  | `(tactic| refine $f:term $as:term*)=>do
    let mut bs:= #[]
    let mut hit:=false
    for a in as do
      if a.raw.isOfKind ``Lean.Parser.Term.syntheticHole && a.raw[1].getId== `hl then
        hit:=true
        bs:=bs.push (<- `((And.left ?hx)))
      else if a.raw.isOfKind ``Lean.Parser.Term.syntheticHole && a.raw[1].getId== `hc then
        bs:=bs.push (<- `((And.right ?hx)))
      else bs:=bs.push a
    if hit then `(tactic| refine $f $bs*) else Lean.Macro.throwUnsupported
set_option maxHeartbeats 0 in
open_top My.hdAll for PySem.Challenge.rw_rowdam_k45_joins
theorem My.he:HQ.Pre My.hdAll:=⟨⟨by kernel_rfl,fun _=>by kernel_rfl⟩,by kernel_rfl⟩
theorem My.hBf:HQ.mR (·.withFollow "special-get-raises" false) My.hdAll:=fun _ _=>by kernel_rfl
theorem My.hBt:HQ.mR (·.withFollow "special-get-raises" true) My.hdAll:=fun _ _=>by kernel_rfl
theorem My.hAf:HQ.mQ (·.withFollow "special-get-raises" false) My.hdAll:=fun _ _=>by kernel_rfl
theorem My.hAt:HQ.mQ (·.withFollow "special-get-raises" true) My.hdAll:=fun _ _=>by kernel_rfl
end
namespace L2
open PySem PySem.Spec PyProof.Rows
abbrev Key:=Sum Int Str
noncomputable def yN:Key->Value->Bool
 |.inl k,v=>Value.isInt k v
 |.inr x,v=>Value.isStrOf x v
def JR (w:World):Key->Int
 |.inl k=>hashInt k
 |.inr x=>hashStr w x
theorem rQ:∀{k:Key} {v:Value},yN k v=true->(∃i t,k=Sum.inl i/\v=Value.int i t)\/(∃x t,k=Sum.inr x/\v=Value.str x t)
  |.inl i,v,h=>by
    obtain⟨t,e⟩:=Value.isInt_shape (k:=i) (v:=v) h;exact .inl ⟨i,t,rfl,e⟩
  |.inr x,v,h=>by
    obtain⟨t,e⟩:=Value.isStrOf_shape (x:=x) (v:=v) h;exact .inr ⟨x,t,rfl,e⟩
theorem ZR (i:Int)(t:Tok):yN (.inl i) (.int i t)=true:=by simp[yN,Value.isInt]
theorem ZS (x:Str)(t:Tok):yN (.inr x) (.str x t)=true:=by simp[yN,Value.isStrOf]
theorem ZV (a b:Int):decide ((Sum.inl a:Key)=Sum.inl b)=(a==b):=by
 by_cases e:a=b
 ·subst e;simp
 ·have h:¬ (Sum.inl a:Key)=Sum.inl b:=fun q=>e (Sum.inl.inj q);rw[xaz h];exact(xaW.mpr e).symm
theorem Z1 (a b:Str):decide ((Sum.inr a:Key)=Sum.inr b)=decide (a=b):=by
 by_cases e:a=b
 ·subst e;simp
 ·have h:¬ (Sum.inr a:Key)=Sum.inr b:=fun q=>e (Sum.inr.inj q);rw[xaz h,xaz e]
theorem ZW (a:Int)(b:Str):decide ((Sum.inl a:Key)=Sum.inr b)=false:=xaz (fun q=>nomatch q)
theorem ZX (a:Str)(b:Int):decide ((Sum.inr a:Key)=Sum.inl b)=false:=xaz (fun q=>nomatch q)
noncomputable def pG (prog:Program) (w:World):PySem.KeyKind prog w Key where
 is:=yN
 hash:=JR w
 inj:=fun v a b ha hb=>by
  rcases rQ ha with⟨i,t,rfl,rfl⟩ |⟨x,t,rfl,rfl⟩
  ·rcases rQ hb with⟨j,u,rfl,e⟩ |⟨y,u,rfl,e⟩
   ·injection e with e1 _;rw[e1]
   ·exact nomatch e
  ·rcases rQ hb with⟨j,u,rfl,e⟩ |⟨y,u,rfl,e⟩
   ·exact nomatch e
   ·injection e with e1 _;rw[e1]
 byValue:=fun k v h=>by
  rcases rQ h with⟨i,t,rfl,rfl⟩ |⟨x,t,rfl,rfl⟩<;>rfl
 pyHash:=fun hv h=>by
  rcases rQ hv with⟨i,t,rfl,rfl⟩ |⟨x,t,rfl,rfl⟩
  ·exact wpAny_pyHash_int h
  ·exact wpAny_pyHash_str h
 eqBool:=fun hu hv h=>by
  rcases rQ hu with⟨i,t,rfl,rfl⟩ |⟨x,t,rfl,rfl⟩
  ·rcases rQ hv with⟨j,u,rfl,rfl⟩ |⟨y,u,rfl,rfl⟩
   ·rw[ZV]at h;exact wpAny_eqBool_int h
   ·rw[ZW]at h;exact xcZ i t y u _ _ _ _ h
  ·rcases rQ hv with⟨j,u,rfl,rfl⟩ |⟨y,u,rfl,rfl⟩
   ·rw[ZX]at h;exact xc1 x t j u _ _ _ _ h
   ·rw[Z1]at h;exact wpAny_eqBool_str h
 «strs» :=fun k x t v h=>by
  rcases rQ h with⟨i,u,rfl,e⟩ |⟨y,u,rfl,e⟩
  ·exact nomatch e
  ·injection e with e1 _
   subst e1;cases v<;>rfl
theorem zaJ (prog:Program)(w:World)(i:Int)(t:Tok):(pG prog w).is (.inl i) (.int i t)=true:=ZR i t
theorem J3 (prog:Program)(w:World)(x:Str)(t:Tok):(pG prog w).is (.inr x) (.str x t)=true:=ZS x t
inductive V where
 |non |bl (b:Bool) |int (i:Int) |str (x:Str) |byt (b:Array UInt8) |flt (b:UInt64) |ref (a:Addr) |ty (n:String)
 deriving DecidableEq
noncomputable def RelV:V->Value->Prop
 |.non,u=>u=Value.none
 |.bl b,u=>u=Value.bool b
 |.int i,u=>∃t,u=Value.int i t
 |.str x,u=>∃t,u=Value.str x t
 |.byt b,u=>∃t,u=Value.bytes b t
 |.flt b,u=>∃t,u=Value.float b t
 |.ref a,u=>u=Value.ref a
 |.ty n,u=>u=Value.type n
abbrev Vals:List V->List Value->Prop:=Paired RelV
theorem Vals.length (r:Vals xs us):xs.length=us.length:=Paired.length r
theorem Vals.get:∀{xs:List V} {us:List Value} {i:Nat} {x:V},Vals xs us->xs[i]? =some x->∃u,us[i]? =some u/\RelV x u
  |_,_,_,_,.nil,e=>by simp at e
  |_,_,0,_,.cons r _,e=>by simp at e;subst e;exact⟨_,rfl,r⟩
  |_,_,i + 1,x,.cons _ t,e=>by
    obtain⟨u,h1,h2⟩:=Vals.get (i:=i) (x:=x) t (by simpa using e);exact⟨u,by simpa using h1,h2⟩
theorem Vals.set (r:RelV x u):∀{xs:List V} {us:List Value} (i:Nat),Vals xs us->Vals (xs.set i x) (us.set i u)
 |_,_,_,.nil=>.nil
 |_,_,0,.cons _ t=>.cons r t
 |_,_,i + 1,.cons q t=>.cons q (Vals.set r i t)
theorem Vals.append:∀{xs ys:List V} {us ws:List Value},Vals xs us->Vals ys ws->Vals (xs ++ ys) (us ++ ws)
 |_,_,_,_,.nil,s=>s
 |_,_,_,_,.cons r t,s=>.cons r (Vals.append t s)
theorem Vals.take:∀{xs:List V} {us:List Value} (n:Nat),Vals xs us->Vals (xs.take n) (us.take n)
 |_,_,0,_=>.nil
 |_,_,_ + 1,.nil=>.nil
 |_,_,n + 1,.cons r t=>.cons r (Vals.take n t)
theorem Vals.drop:∀{xs:List V} {us:List Value} (n:Nat),Vals xs us->Vals (xs.drop n) (us.drop n)
 |_,_,0,r=>r
 |_,_,_ + 1,.nil=>.nil
 |_,_,n + 1,.cons _ t=>Vals.drop n t
noncomputable def eN:Option V->Option Value->Prop
 |some v,some u=>RelV v u
 |none,none=>True
 |_,_=>False
def KV {κ:Type}:List (κ×V)->List (κ×Value)->Prop:=Paired fun(p:κ×V) (q:κ×Value)=>p.1=q.1/\RelV p.2 q.2
def kV:Key->V
 |.inl i=>.int i
 |.inr x=>.str x
inductive HO where
  |lst (xs:List V)
  |tup (xs:List V)
  |dK (kvs:List (Key×V)) |dT (kvs:List (List Key×V))
  |set (S:Int->Bool) (n:Nat)
  |ins (C dx:Addr) (fs:List (Str×V))
  |own (x:Addr)
  |xd (fs:List (Str×V))
  |met (f x:Addr)
  |rng (lo hi:Int)
  |frz (o:Obj) (u:HO)
  |tbl (ps:Array Value)
  |ext (φ:Heap->Prop)
abbrev Hp:=Addr->Option HO
noncomputable def upd (H:Hp) (a:Addr) (o:HO):Hp:=fun b=>if b=a then some o else H b
theorem bW:upd H a o a=some o:=by unfold upd;rw[xab rfl]
theorem aU (h:b≠a):upd H a o b=H b:=by unfold upd;rw[xad h]
theorem zcP:upd (upd H a o) a u=upd H a u:=by
 funext b;unfold upd;split<;>rfl
theorem lR {H:Hp}{a b:Addr}{o:HO}(h:H a=some o)(h':H b=none):a≠b:=by
 intro e;subst e;rw[h]at h';cases h'
section
variable (P:Program)(w:World)
noncomputable def dI (H:Hp) (h:Heap) (a:Addr):HO->Prop
 |.lst xs=>xs.length<=sizeLine/\∃(its:List Value) (n:Nat),Vals xs its/\h.get? a=some {cls:=.type "list",data:=.seq its.toArray n}
 |.tup xs=>xs.length<=sizeLine/\∃its:List Value,Vals xs its/\IsTup h a its.toArray
 |.dK kvs=>kvs.length<=sizeLine/\(a==sysModules)=false/\∃vs,KV kvs vs/\h.DictOf (pG P w) a vs
 |.dT kvs=>kvs.length<=sizeLine/\(a==sysModules)=false/\∃xs:List (List Key×Addr×Value),
   Paired (fun(p:List Key×V) (q:List Key×Addr×Value)=>p.1=q.1/\H q.2.1=some (.tup (p.1.map kV))/\RelV p.2 q.2.2) kvs xs/\
   ∃o es ep,h.get? a=some o/\o.ExactDict/\o.data=.dict es ep/\es.toList=xs.map (entryOfKey (tupleKind (pG P w)))/\(xs.map (·.1)).Nodup
 |.set S n=>h.SetOf (intKind P w) a S n
 |.ins C dx fs=>H dx=some (.own a)/\fs.length<=1000/\dx≠a/\h.get? a=some (PySem.W.instObj C dx)/\
   ∃mA,h.Ns1 dx mA/\(∀f,eN (fs.lookup f) (mA f))/\PySem.Within mA (fs.map (·.1))
 |.own _=>∃o,h.get? a=some o
 |.xd fs=>∃mA,h.Ns1 a mA/\∀f,eN (fs.lookup f) (mA f)
 |.rng lo hi=>∃t u v,h.get? a=some {cls:=.type "range",data:=.fields #[.int lo t,.int hi u,.int 1 v]}
 |.frz o u=>h.get? a=some o/\dI H h a u
 |.tbl ps=>h.get? a=some {cls:=.none,data:=.fields ps}
 |.met f x=>h.get? a=some (PySem.W.methodObj (.ref f) (.ref x))
 |.ext φ=>φ h/\(∃o,h.get? a=some o)/\∀h1 h2:Heap,φ h1->(∀o,h1.get? a=some o->h2.get? a=some o)->φ h2
def cN (H:Hp)(h:Heap):Prop:=∀a o,H a=some o->dI P w H h a o
end
section
variable {P:Program}{w:World}{H H':Hp}{h h':Heap}{a:Addr}{o:HO}
theorem dI.lt (x:dI P w H h a o):a<h.objs.size:=by
 cases o with
 |lst xs=>obtain⟨_,_,_,_,e⟩:=x;exact xaq e
 |tup xs=>obtain⟨_,_,_,p⟩:=x;exact p.lt
 |dK kvs=>obtain⟨_,_,_,_,o,_,_,e,_⟩:=x;exact xaq e
 |dT kvs=>obtain⟨_,_,_,_,o,_,_,e,_⟩:=x;exact xaq e
 |set S n=>obtain⟨o,_,_,_,e,_⟩:=x;exact xaq e
 |ins C dx fs=>obtain⟨_,_,_,e,_⟩:=x;exact xaq e
 |own y=>obtain⟨_,e⟩:=x;exact xaq e
 |xd fs=>obtain⟨_,⟨_,_,_,e,_⟩,_⟩:=x;exact xaq e
 |rng lo hi=>obtain⟨_,_,_,e⟩:=x;exact xaq e
 |frz ob u=>obtain⟨e,_⟩:=x;exact xaq e
 |tbl ps=>exact xaq (show h.get? a=some _ from x)
 |met f y=>exact xaq (show h.get? a=some _ from x)
 |ext φ=>obtain⟨_,⟨_,e⟩,_⟩:=x;exact xaq e
theorem Paired.mapP:∀{l₁:List α} {l₂:List β},Paired F l₁ l₂->(∀a b,F a b->G a b)->Paired G l₁ l₂
 |_,_,.nil,_=>.nil
 |_,_,.cons r t,f=>.cons (f _ _ r) (Paired.mapP t f)
theorem dI.stay (x:dI P w H h a o)(k:∀b u,(b=a\/H b=some (.own a))->h.get? b=some u->h'.get? b=some u)
    (ho:∀b,H b=some (.own a)->H' b=some (.own a)) (ht:∀b xs,H b=some (.tup xs)->H' b=some (.tup xs)):dI P w H' h' a o:=by
  induction o with
  |lst xs=>obtain⟨z,its,n,r,e⟩:=x;exact⟨z,its,n,r,k _ _ (.inl rfl) e⟩
  |tup xs=>obtain⟨z,its,r,ob,e,c⟩:=x;exact⟨z,its,r,ob,k _ _ (.inl rfl) e,c⟩
  |dK kvs=>obtain⟨z,y,vs,r,ob,es,ep,e,c⟩:=x;exact⟨z,y,vs,r,ob,es,ep,k _ _ (.inl rfl) e,c⟩
  |dT kvs=>
    obtain⟨z,y,xs,r,ob,es,ep,e,c⟩:=x;exact⟨z,y,xs,Paired.mapP r fun p q z=>⟨z.1,ht _ _ z.2.1,z.2.2⟩,ob,es,ep,k _ _ (.inl rfl) e,c⟩
  |set S n=>obtain⟨ob,es,ep,t,e,c⟩:=x;exact⟨ob,es,ep,t,k _ _ (.inl rfl) e,c⟩
  |ins C dx fs=>
    obtain⟨d,z,ne,e,mA,⟨od,es,ep,e2,c⟩,r⟩:=x;exact⟨ho _ d,z,ne,k _ _ (.inl rfl) e,mA,⟨od,es,ep,k _ _ (.inr d) e2,c⟩,r⟩
  |own y=>obtain⟨ob,e⟩:=x;exact⟨ob,k _ _ (.inl rfl) e⟩
  |xd fs=>obtain⟨mA,⟨od,es,ep,e,c⟩,r⟩:=x;exact⟨mA,⟨od,es,ep,k _ _ (.inl rfl) e,c⟩,r⟩
  |rng lo hi=>obtain⟨t,u,v,e⟩:=x;exact⟨t,u,v,k _ _ (.inl rfl) e⟩
  |frz ob u ih=>obtain⟨e,q⟩:=x;exact⟨k _ _ (.inl rfl) e,ih q⟩
  |tbl ps=>
    have e:h.get? a=some {cls:=.none,data:=.fields ps}:=x;show h'.get? a=some {cls:=.none,data:=.fields ps};exact k a _ (.inl rfl) e
  |met f y=>
    have e:h.get? a=some (PySem.W.methodObj (.ref f) (.ref y)):=x;show h'.get? a=some (PySem.W.methodObj (.ref f) (.ref y));exact k a _ (.inl rfl) e
  |ext φ=>obtain⟨p,⟨o,e⟩,st⟩:=x;exact⟨st _ _ p fun o q=>k _ _ (.inl rfl) q,⟨o,k _ _ (.inl rfl) e⟩,st⟩
theorem cN.lt (x:cN P w H h)(e:H a=some o):a<h.objs.size:=(x a o e).lt
theorem cN.fresh (x:cN P w H h)(e:h.objs.size<=a):H a=none:=by
 cases q:H a with
 |none=>rfl
 |some u=>exact absurd (xai (x.lt q) e) (xa9 _)
theorem cN.kept (x:cN P w H h)(k:∀b u,h.get? b=some u->h'.get? b=some u):cN P w H h':=fun a o e=>
 (x a o e).stay (fun b u _ q=>k b u q) (fun _ q=>q) fun _ _ q=>q
theorem cN.laid (x:cN P w H h)(k:∀b u,h.get? b=some u->h'.get? b=some u)(hp:h.objs.size<=a)(new:dI P w (upd H a o) h' a o):cN P w (upd H a o) h':=fun b u e=>by
 have hn:=x.fresh hp
 by_cases hb:b=a
 ·subst hb;rw[bW]at e;cases e;exact new
 ·rw[aU hb]at e;exact(x b u e).stay (fun c v _ q=>k c v q) (fun c q=>by rw[aU (lR q hn)];exact q) fun c xs q=>by rw[aU (lR q hn)];exact q
end
def Rd (H:Hp)(a:Addr)(u:HO):Prop:=H a=some u\/∃o,H a=some (.frz o u)
theorem Rd.ok (r:Rd H a u)(x:cN P w H h):dI P w H h a u:=by
 rcases r with r |⟨o,r⟩
 ·exact x a u r
 ·obtain⟨_,q⟩:=x a _ r;exact q
noncomputable def Dd:Option HO->Prop
 |some (.lst _)=>True
 |some (.dK _)=>True
 |some (.dT _)=>True
 |some (.set _ _)=>True
 |some (.ins _ _ _)=>True
 |some (.ext _)=>True
 |_=>False
section
variable {P:Program}{w:World}{H:Hp}{h h':Heap}{x e:Addr}{o':HO}
theorem cN.write (ok:cN P w H h)(mu:Dd (H x))(he:e=x\/H e=some (.own x))(k:∀b u,b≠e->h.get? b=some u->h'.get? b=some u)(heo:∃u,h'.get? e=some u)
  (new:dI P w (upd H x o') h' x o'):cN P w (upd H x o') h':=fun b u q=>by
 have nown:∀c y,H c=some (.own y)->c≠x:=fun c y r z=>by subst z;rw[r]at mu;exact mu
 have ntup:∀c xs,H c=some (.tup xs)->c≠x:=fun c xs r z=>by subst z;rw[r]at mu;exact mu
 by_cases hb:b=x
 ·subst hb;rw[bW]at q;cases q;exact new
 ·rw[aU hb]at q
  by_cases hbe:b=e
  ·have q':H b=some (.own x):=by
    rcases he with z |z
    ·exact absurd (hbe.trans z) hb
    ·rw[hbe];exact z
   rw[q]at q';cases q';obtain⟨v,hv⟩:=heo;exact⟨v,by rw[hbe];exact hv⟩
  ·refine(ok b u q).stay (fun c v hc r=>k c v ?_ r) (fun c r=>by rw[aU (nown c b r)];exact r) fun c xs r=>by rw[aU (ntup c xs r)];exact r
   rcases hc with rfl |hc
   ·exact hbe
   ·rintro rfl;rcases he with z |z
    ·exact nown c b hc z
    ·rw[hc]at z;cases z;exact hb rfl
end
structure Un (fs ex:List Addr)(H H':Hp)(h h':Heap):Prop where
 keep:∀b o,h.get? b=some o->H b=none->b∉fs->b∉ex->h'.get? b=some o
 slot:∀b o,h.get? b=some o->H b=none->b∈fs->b∉ex->∃sl,h'.get? b=some {o with slots:=sl}
 free:∀b o,h.get? b=some o->H b=none->b∉ex->H' b=none
 there:∀b o,h.get? b=some o->b∉ex->∃o',h'.get? b=some o'
 tups:∀b xs,H b=some (.tup xs)->H' b=some (.tup xs)
 frzs:∀b o u,H b=some (.frz o u)->H' b=some (.frz o u)
 tbls:∀b ps,H b=some (.tbl ps)->∃more,H' b=some (.tbl (ps ++ more))
section
variable {fs fs' ex ex':List Addr}{H H1 H2:Hp}{h h1 h2 h':Heap}{a x e:Addr}{o:HO}
theorem Un.any (u:Un fs ex H H1 h h1)(q:h.get? b=some ob)(n:H b=none)(hx:b∉ex):∃sl,h1.get? b=some {ob with slots:=sl}:=by
 by_cases hb:b∈fs
 ·exact u.slot b ob q n hb hx
 ·exact⟨ob.slots,u.keep b ob q n hb hx⟩
theorem Un.trans (a:Un fs ex H H1 h h1)(b:Un fs ex H1 H2 h1 h2):Un fs ex H H2 h h2 where
 keep:=fun c ob q n hc hx=>b.keep c ob (a.keep c ob q n hc hx) (a.free c ob q n hx) hc hx
 slot:=fun c ob q n hc hx=>by
  obtain⟨sl,e1⟩:=a.slot c ob q n hc hx;obtain⟨sl',e2⟩:=b.slot c _ e1 (a.free c ob q n hx) hc hx;exact⟨sl',e2⟩
 free:=fun c ob q n hx=>by
  obtain⟨o',e1⟩:=a.there c ob q hx;exact b.free c o' e1 (a.free c ob q n hx) hx
 there:=fun c ob q hx=>by
  obtain⟨o',e1⟩:=a.there c ob q hx;exact b.there c o' e1 hx
 tups:=fun c xs q=>b.tups c xs (a.tups c xs q)
 frzs:=fun c ob xs q=>b.frzs c ob xs (a.frzs c ob xs q)
 tbls:=fun c ps q=>by
  obtain⟨m1,e1⟩:=a.tbls c ps q;obtain⟨m2,e2⟩:=b.tbls c _ e1;exact⟨m1 ++ m2,by rw[e2,xd4]⟩
theorem Un.kept (k:∀b u,h.get? b=some u->h'.get? b=some u):Un fs ex H H h h':=
 ⟨fun b ob q _ _ _=>k b ob q,fun b ob q _ _ _=>⟨ob.slots,k b ob q⟩,fun _ _ _ n _=>n,fun b ob q _=>⟨ob,k b ob q⟩,fun _ _ q=>q,fun _ _ _ q=>q,fun _ ps q=>⟨#[],by rw[q];simp⟩⟩
theorem Un.refl:Un fs ex H H h h:=Un.kept fun _ _ q=>q
theorem Un.laid (k:∀b u,h.get? b=some u->h'.get? b=some u)(hp:h.objs.size<=a)(hn:H a=none):Un fs ex H (upd H a o) h h' where
 keep:=fun b u q _ _ _=>k b u q
 slot:=fun b u q _ _ _=>⟨u.slots,k b u q⟩
 free:=fun b u q n _=>by rw[aU (xay (xai (xaq q) hp))];exact n
 there:=fun b u q _=>⟨u,k b u q⟩
 tups:=fun b xs q=>by rw[aU (lR q hn)];exact q
 frzs:=fun b u xs q=>by rw[aU (lR q hn)];exact q
 tbls:=fun b ps q=>⟨#[],by rw[aU (lR q hn),q];simp⟩
theorem Un.write (mu:Dd (H x))(he:e=x\/H e=some (.own x))(k:∀b u,b≠e->h.get? b=some u->h'.get? b=some u)(heo:∃u,h'.get? e=some u):Un fs ex H (upd H x o) h h':=by
 have hx:∀b,H b=none->b≠x:=fun b n z=>by subst z;rw[n]at mu;exact mu
 have hb:∀b,H b=none->b≠e:=fun b n z=>by
  subst z;rcases he with r |r
  ·exact hx b n r
  ·rw[n]at r;cases r
 have hm:∀b u,H b=some u->¬ Dd (some u)->b≠x:=fun b u q nm z=>by subst z;rw[q]at mu;exact nm mu
 refine ⟨fun b u q n _ _=>k b u (hb b n) q,fun b u q n _ _=>⟨u.slots,k b u (hb b n) q⟩,fun b u q n _=>by rw[aU (hx b n)];exact n,fun b u q _=>?_,
  fun b xs q=>by rw[aU (hm b _ q fun z=>z)];exact q,fun b u xs q=>by rw[aU (hm b _ q fun z=>z)];exact q,fun b ps q=>⟨#[],by rw[aU (hm b _ q fun z=>z),q];simp⟩⟩
 by_cases hbe:b=e
 ·subst hbe;exact heo
 ·exact⟨u,k b u hbe q⟩
theorem Un.mono (u:Un fs ex H H1 h h1)(hs:∀b∈fs,b∈fs')(hx:∀b∈ex,b∈ex'):Un fs' ex' H H1 h h1:=
 ⟨fun b ob q n hb he=>u.keep b ob q n (fun z=>hb (hs b z)) fun z=>he (hx b z),fun _ _ q n _ he=>u.any q n fun z=>he (hx _ z),fun b ob q n he=>u.free b ob q n fun z=>he (hx b z),fun b ob q he=>u.there b ob q fun z=>he (hx b z),u.tups,u.frzs,u.tbls⟩
end
noncomputable def G6 (h:Heap) (H:Hp):List Addr:=(List.range h.objs.size).filter fun a=>(H a).isSome
def eO (h:Heap)(H:Hp):Heap:=PySem.W.hideAll h (G6 h H)
theorem Zi (h:Heap)(H:Hp):(eO h H).objs.size=h.objs.size:=PySem.W.hideAll_size _ _
theorem Zh (e:h.get? b=some o)(n:H b=none):(eO h H).get? b=some o:=
 PySem.W.hideAll_get _ e fun hm=>by
  have q:(H b).isSome=true:=(xa2.mp hm).2;rw[n]at q;simp at q
theorem zc2 (e:(eO h H).get? b=some o):h.get? b=some o/\H b=none:=by
  have e':h.get? b=some o:=PySem.W.of_hideAll (G6 h H) e;refine⟨e',?_⟩
  cases q:H b with
  |none=>rfl
  |some x=>
    have hm:b∈G6 h H:=xa2.mpr ⟨xcv.mpr (xaq e'),by simp[q]⟩;have z:(eO h H).get? b=none:=PySem.W.hideAll_none (G6 h H) hm;rw[z]at e;cases e
structure Mod (K:Fgx)(mg:Mgx)(base:Heap):Prop where
 kin:K.In base
 glob:base.Ns mainGlobals mg
 blt:∃mb,base.Ns builtinsNs mb/\∀x:Str,x≠"__name__"->mb x=bootBuiltins x
 nolimit:base.NoLimit
structure Cx where
 prog:Program
 w:World
 K:Fgx
 mg:Mgx
 base:Heap
 A:Around
 N:List Str
 s₀:Shared
 H₀:Hp
 env:Env
 outer:List Env
 stack:List Env
 ex:List Addr
 fn:Str->Bool
 calm:Bool
 pn:Pnx
 xe:Value->Shared->Prop
def frs (l:List Env):List Addr:=l.filterMap (·.frame)
abbrev Cx.fs (X:Cx):List Addr:=frs X.outer
def yp (sc:Scope)(x:Str):Prop:=sc.names.lookup x=some .local\/sc.names.lookup x=some .cell\/sc.names.lookup x=some .free
def Loc (sc:Scope)(x:Str):Prop:=sc.names.lookup x=some .local\/sc.names.lookup x=some .cell
def Look (env:Env)(h:Heap)(m:Mgx)(x:Str)(u:Value):Prop:=
 (env.kindOf x=some .local/\m x=some u)\/((env.kindOf x=some .cell\/env.kindOf x=some .free)/\∃c,env.cells.lookup x=some c/\h.IsCell c (some u))
structure Cx.Ok (X:Cx):Prop where
 mod:Mod X.K X.mg X.base
 kind:X.env.scope.kind=.function
 glob:X.env.globals=mainGlobals
 blt:X.env.builtins=builtinsNs
 above:X.s₀.heap.objs.size<=X.env.locals
 inj:∀x y c,X.env.cells.lookup x=some c->X.env.cells.lookup y=some c->x=y
 has:∀x,(X.env.kindOf x=some .cell\/X.env.kindOf x=some .free)->∃c,X.env.cells.lookup x=some c
 cab:∀x c,X.fn x=true->X.env.cells.lookup x=some c->X.s₀.heap.objs.size<=c
 hd:X.calm=true->X.A.handled=none
 frames:X.A.frames=some X.stack
 stk:X.stack=X.outer\/(X.stack=X.env::X.outer/\X.env.frame=some X.env.locals)
 exf:∀b∈X.ex,b≠X.env.locals/\∀x c,X.env.cells.lookup x=some c->c≠b
 bs:∀b o,X.base.get? b=some o->X.s₀.heap.get? b=some o/\X.H₀ b=none
 bsz:X.base.objs.size<=X.s₀.heap.objs.size
 noex:∀b o,X.base.get? b=some o->b∉X.ex
 exfs:∀b∈X.ex,b∉X.fs
 funs:X.s₀.heap.FunFrames X.base X.outer
 frf:∀b∈X.fs,X.H₀ b=none
structure Inv (X:Cx)(pins:Pnx)(σ:List (Option V))(H:Hp)(s:Shared):Prop where
 ok:X.Ok
 os:s.os=X.s₀.os
 bare:AllBare s.gens
 base:Un X.fs X.ex X.H₀ H X.s₀.heap s.heap
 loc:∃m,s.heap.Ns X.env.locals m/\∀(i:Nat) (x:Str) (v:V),X.N[i]? =some x->σ[i]? =some (some v)->yp X.env.scope x->∃u,RelV v u/\Look X.env s.heap m x u
 cell:∀x c,X.env.cells.lookup x=some c->∃v,s.heap.IsCell c v
 free:H X.env.locals=none
 freeC:∀x c,X.env.cells.lookup x=some c->H c=none\/(X.fn x=false/\∃o u,H c=some (.frz o u))
 pin:∀p∈X.pn ++ pins,s.heap.get? p.1=some p.2/\H p.1=none/\p.1≠X.env.locals/\p.1∉X.fs/\∀v,p.2.data≠ .cell v
 hok:cN X.prog X.w H s.heap
 len:σ.length=X.N.length
section
variable {X:Cx}{pins:Pnx}{σ:List (Option V)}{H H':Hp}{s:Shared}{h':Heap}
theorem Cx.Ok.nofr (ok:X.Ok)(e:X.base.get? b=some o):b∉X.fs:=fun hb=>by
 have:=(ok.funs.mem hb).1;rw[e]at this;cases this
theorem Inv.bs (I:Inv X pins σ H s):∀b o,X.base.get? b=some o->s.heap.get? b=some o/\H b=none:=fun b o e=>
 ⟨I.base.keep b o (I.ok.bs b o e).1 (I.ok.bs b o e).2 (I.ok.nofr e) (I.ok.noex b o e),I.base.free b o (I.ok.bs b o e).1 (I.ok.bs b o e).2 (I.ok.noex b o e)⟩
theorem Inv.bk (I:Inv X pins σ H s):∀b o,X.base.get? b=some o->s.heap.get? b=some o:=fun b o e=>(I.bs b o e).1
theorem Inv.mod (I:Inv X pins σ H s):Mod X.K X.mg X.base:=I.ok.mod
theorem Inv.kIn (I:Inv X pins σ H s):X.K.In s.heap:=I.ok.mod.kin.keeps I.bk
theorem Inv.lt (I:Inv X pins σ H s):X.env.locals<s.heap.objs.size:=let ⟨_,hn,_⟩:=I.loc;hn.lt
theorem Inv.sz (I:Inv X pins σ H s):X.s₀.heap.objs.size<=s.heap.objs.size:=xaB I.ok.above (xb6 I.lt)
theorem Inv.nofs (I:Inv X pins σ H s)(h:s.heap.objs.size<=a):a∉X.fs:=fun hb=>by
 obtain⟨_,o,ho,_⟩:=I.ok.funs.mem hb;exact absurd (xai (xaq ho) (xaB I.sz h)) (xa9 _)
theorem Inv.cne (I:Inv X pins σ H s):∀x c,X.env.cells.lookup x=some c->c≠X.env.locals:=fun x c e z=>by
 obtain⟨v,o,ho,hd⟩:=I.cell x c e;obtain⟨m,⟨o',es,ep,ho',hd',_⟩,_⟩:=I.loc;rw[z,ho']at ho;cases ho;rw[hd']at hd;cases hd
theorem Inv.funs (I:Inv X pins σ H s):s.heap.FunFrames X.base X.outer:=by
  have all:∀(l:List Env),(∀b∈frs l,b∈X.fs)->X.s₀.heap.FunFrames X.base l->s.heap.FunFrames X.base l:=by
    intro l
    induction l with
    |nil=>intro _ _;trivial
    |cons env r ih=>
      intro hs hl;obtain⟨hk,⟨L,o,hf,hn,ho,hd⟩,hr⟩:=hl;have hL:L∈X.fs:=hs L (by unfold frs;rw[xbU,hf];exact xat);obtain⟨sl,e⟩:=I.base.slot L o ho (I.ok.frf L hL) hL fun z=>I.ok.exfs L z hL;exact⟨hk,⟨L,_,hf,hn,e,hd⟩,ih (fun b hb=>hs b (by unfold frs;rw[xbU,hf];exact xak _ hb)) hr⟩
  exact all X.outer (fun _ hb=>hb) I.ok.funs
theorem Inv.stack (I:Inv X pins σ H s):s.heap.FunFrames X.base X.stack:=by
 rcases I.ok.stk with e |⟨e,hf⟩
 ·rw[e];exact I.funs
 ·rw[e];obtain⟨m,hn,_⟩:=I.loc;refine .cons (by rw[I.ok.kind];decide) hf hn ?_ I.funs;exact xcI (xaB I.ok.bsz I.ok.above)
theorem Inv.stkSub (I:Inv X pins σ H s):∀b∈frs X.stack,b∈X.env.locals::X.fs:=fun b hb=>by
 rcases I.ok.stk with e |⟨e,hf⟩
 ·rw[e]at hb;exact xak _ hb
 ·rw[e]at hb;unfold frs at hb;rw[xbU,hf]at hb;exact hb
theorem Inv.stkFree (I:Inv X pins σ H s):∀b∈frs X.stack,H b=none:=fun b hb=>by
 rcases xaJ.mp (I.stkSub b hb) with e |hb
 ·rw[e];exact I.free
 ·obtain⟨_,o,ho,_⟩:=I.ok.funs.mem hb;exact I.base.free b o ho (I.ok.frf b hb) fun z=>I.ok.exfs b z hb
theorem Inv.step {g':Array GenState}{t':Nat}{d':Drawn}{ch:List Addr}(I:Inv X pins σ H s)
  (hch:∀b∈ch,(b∈X.ex\/X.s₀.heap.objs.size<=b)/\b≠X.env.locals/\(∀x c,X.env.cells.lookup x=some c->c≠b)/\∀p∈X.pn ++ pins,p.1≠b)
  (keep:∀b o,b≠X.env.locals->b∉X.fs->b∉ch->s.heap.get? b=some o->H b=none->h'.get? b=some o)
  (slot:∀b o,b≠X.env.locals->b∈X.fs->b∉ch->s.heap.get? b=some o->H b=none->∃sl,h'.get? b=some {o with slots:=sl}) (free:∀b o,b∉ch->s.heap.get? b=some o->H b=none->H' b=none)
  (there:∀b o,b∉ch->s.heap.get? b=some o->∃o',h'.get? b=some o')
  (tups:∀b xs,H b=some (.tup xs)->H' b=some (.tup xs)) (frzs:∀b o u,H b=some (.frz o u)->H' b=some (.frz o u)) (tbls:∀b ps,H b=some (.tbl ps)->∃more,H' b=some (.tbl (ps ++ more)))
  (ns:∀m,s.heap.Ns X.env.locals m->h'.Ns X.env.locals m) (hok:cN X.prog X.w H' h') (hg:AllBare g'):
  Inv X pins σ H' {s with heap:=h',gens:=g',drawn:=d',toks:=t'}:=by
 have neL:∀b o,X.s₀.heap.get? b=some o->b≠X.env.locals:=fun b o e=>xay (xai (xaq e) I.ok.above);have neC:∀b o,X.s₀.heap.get? b=some o->b∉X.ex->b∉ch:=fun b o e hx hb=>by
  rcases(hch b hb).1 with z |z
  ·exact hx z
  ·exact absurd (xai (xaq e) z) (xa9 _)
 have cellK:∀x c,X.env.cells.lookup x=some c->∀v,s.heap.IsCell c v->h'.IsCell c v:=fun x c e v ⟨o,ho,hd⟩=>by
  have nch:c∉ch:=fun z=>(hch c z).2.2.1 x c e rfl;rcases I.freeC x c e with fc |⟨_,o',u',fc⟩
  ·by_cases hc:c∈X.fs
   ·obtain⟨sl,q⟩:=slot c o (I.cne x c e) hc nch ho fc;exact⟨_,q,hd⟩
   ·exact⟨o,keep c o (I.cne x c e) hc nch ho fc,hd⟩
  ·obtain⟨e1,_⟩:=I.hok c _ fc;obtain⟨e2,_⟩:=hok c _ (frzs c _ _ fc);rw[ho]at e1;cases e1;exact⟨o,e2,hd⟩
 refine⟨I.ok,I.os,hg,⟨fun b o e n hb hx=>?_,fun b o e n hb hx=>?_,fun b o e n hx=>?_,fun b o e hx=>?_,fun b xs e=>tups b xs (I.base.tups b xs e),fun b o xs e=>frzs b o xs (I.base.frzs b o xs e),fun b ps e=>?_⟩,?_,fun x c e=>?_,?_,fun x c e=>?_,fun p hp=>?_,hok,I.len⟩
 ·exact keep b o (neL b o e) hb (neC b o e hx) (I.base.keep b o e n hb hx) (I.base.free b o e n hx)
 ·obtain⟨sl,e1⟩:=I.base.slot b o e n hb hx;obtain⟨sl',e2⟩:=slot b _ (neL b o e) hb (neC b o e hx) e1 (I.base.free b o e n hx);exact⟨sl',e2⟩
 ·obtain⟨o',e1⟩:=I.base.there b o e hx;exact free b o' (neC b o e hx) e1 (I.base.free b o e n hx)
 ·obtain⟨o',e1⟩:=I.base.there b o e hx;exact there b o' (neC b o e hx) e1
 ·obtain⟨m1,e1⟩:=I.base.tbls b ps e;obtain⟨m2,e2⟩:=tbls b _ e1;exact⟨m1 ++ m2,by rw[e2,xd4]⟩
 ·obtain⟨m,hn,hl⟩:=I.loc;refine⟨m,ns m hn,fun i x v e1 e2 e3=>?_⟩;obtain⟨u,r,l⟩:=hl i x v e1 e2 e3;refine⟨u,r,?_⟩;rcases l with l |⟨k,c,e,z⟩
  ·exact .inl l
  ·exact .inr ⟨k,c,e,cellK x c e _ z⟩
 ·obtain⟨v,z⟩:=I.cell x c e;exact⟨v,cellK x c e v z⟩
 ·obtain⟨m,⟨o,_,_,ho,_⟩,_⟩:=I.loc;exact free _ o (fun z=>(hch _ z).2.1 rfl) ho I.free
 ·obtain⟨v,o,ho,hd⟩:=I.cell x c e;rcases I.freeC x c e with fc |⟨fn,o',u',fc⟩
  ·exact .inl (free c o (fun z=>(hch c z).2.2.1 x c e rfl) ho fc)
  ·exact .inr ⟨fn,o',u',frzs c _ _ fc⟩
 ·obtain⟨e,n,ne,nf,d⟩:=I.pin p hp;have nch:p.1∉ch:=fun z=>(hch p.1 z).2.2.2 p hp rfl;exact⟨keep p.1 p.2 ne nf nch e n,free p.1 p.2 nch e n,ne,nf,d⟩
theorem Inv.un {t':Nat}(I:Inv X pins σ H s)(u:Un X.fs [] H H' s.heap h')(hok:cN X.prog X.w H' h'):Inv X pins σ H' {s with heap:=h',toks:=t'}:=by
 obtain ⟨m, ⟨o, es, ep, ho, r⟩, _⟩ := id I.loc;obtain ⟨sl, hL⟩ := u.any ho I.free (by simp);exact I.step (g' := s.gens) (d' := s.drawn) (ch := []) (fun _ z => nomatch z) (fun b o _ hb _ e n => u.keep b o e n hb (by simp)) (fun b o _ hb _ e n => u.slot b o e n hb (by simp)) (fun b o _ e n => u.free b o e n (by simp)) (fun b o _ e => u.there b o e (by simp)) u.tups u.frzs u.tbls (fun m' hm=>by
  obtain⟨o',es',ep',ho',r'⟩:=hm;rw[ho]at ho';cases ho';exact⟨_,es',ep',hL,r'⟩) hok I.bare
theorem Inv.call {g':Array GenState}{t':Nat}{d':Drawn}{ch:List Addr}(I:Inv X pins σ H s)(u:Un (frs X.stack) ch H H' s.heap h')(hok:cN X.prog X.w H' h')(hg:AllBare g')
  (hch:∀b∈ch,(b∈X.ex\/X.s₀.heap.objs.size<=b)/\b≠X.env.locals/\(∀x c,X.env.cells.lookup x=some c->c≠b)/\∀p∈X.pn ++ pins,p.1≠b):
  Inv X pins σ H' {s with heap:=h',gens:=g',drawn:=d',toks:=t'}:=by
 obtain ⟨m, ⟨o, es, ep, ho, r⟩, _⟩ := id I.loc;obtain ⟨sl, hL⟩ := u.any ho I.free fun z => (hch _ z).2.1 rfl;exact I.step (ch := ch) hch (fun b o hL hb hc e n => u.keep b o e n (fun z => (xaJ.mp (I.stkSub b z)).elim hL hb) hc) (fun b o _ _ hc e n => u.any e n hc) (fun b o hc e n => u.free b o e n hc) (fun b o hc e => u.there b o e hc) u.tups u.frzs u.tbls (fun m' hm=>by
  obtain⟨o',es',ep',ho',r'⟩:=hm;rw[ho]at ho';cases ho';exact⟨_,es',ep',hL,r'⟩) hok hg
theorem Inv.turned {t':Nat}{it:Addr}(I:Inv X pins σ H s)(k:∀b o,b≠it->s.heap.get? b=some o->h'.get? b=some o)(hn:H it=none)(hL:it≠X.env.locals)
  (h1:it∈X.ex\/X.s₀.heap.objs.size<=it) (h2:∀x c,X.env.cells.lookup x=some c->c≠it) (h3:∀p∈X.pn ++ pins,p.1≠it):Inv X pins σ H {s with heap:=h',toks:=t'}:=by
 have nit:∀b u,H b=some u->b≠it:=fun b u e z=>by rw[z,hn]at e;cases e
 refine I.step (g':=s.gens) (d':=s.drawn) (ch:=[it]) (fun b hb=>?_) (fun b o _ _ hc e _=>k b o (fun z=>hc (by simp[z])) e) (fun b o _ _ hc e _=>⟨o.slots,k b o (fun z=>hc (by simp[z])) e⟩) (fun _ _ _ _ n=>n)
  (fun b o hc e=>⟨o,k b o (fun z=>hc (by simp[z])) e⟩) (fun _ _ e=>e) (fun _ _ _ e=>e) (fun b ps e=>⟨#[],by rw[e];simp⟩) (fun m hm=>?_) (fun b u e=>?_) I.bare
 ·have e:b=it:=by simpa using hb
  subst e;exact⟨h1,hL,h2,h3⟩
 ·obtain⟨o,es,ep,ho,r⟩:=hm;exact⟨o,es,ep,k _ o (xbu hL) ho,r⟩
 ·refine(I.hok b u e).stay (fun c v hc q=>k c v ?_ q) (fun _ q=>q) fun _ _ q=>q;rcases hc with z |z
  ·rw[z];exact nit b u e
  ·exact nit c _ z
theorem Inv.tok (I:Inv X pins σ H s)(t:Nat):Inv X pins σ H {s with toks:=t}:=I.un (h':=s.heap) (t':=t) Un.refl I.hok
theorem Inv.kept (I:Inv X pins σ H s)(k:∀b u,s.heap.get? b=some u->h'.get? b=some u):Inv X pins σ H {s with heap:=h',toks:=t'}:=I.un (Un.kept k) (I.hok.kept k)
theorem Inv.laid (I:Inv X pins σ H s)(k:∀b u,s.heap.get? b=some u->h'.get? b=some u)(hp:s.heap.objs.size<=a)(new:dI X.prog X.w (upd H a o) h' a o):
  Inv X pins σ (upd H a o) {s with heap:=h',toks:=t'}:=I.un (Un.laid k hp (I.hok.fresh hp)) (I.hok.laid k hp new)
theorem Inv.write (I:Inv X pins σ H s)(mu:Dd (H x))(he:e=x\/H e=some (.own x))(k:∀b u,b≠e->s.heap.get? b=some u->h'.get? b=some u)(heo:∃u,h'.get? e=some u)
  (new:dI X.prog X.w (upd H x o) h' x o):Inv X pins σ (upd H x o) {s with heap:=h',toks:=t'}:=I.un (Un.write mu he k heo) (I.hok.write mu he k heo new)
theorem Inv.pins_of (I:Inv X pins σ H s)(h:∀p∈pins',s.heap.get? p.1=some p.2/\H p.1=none/\p.1≠X.env.locals/\p.1∉X.fs/\∀v,p.2.data≠ .cell v):Inv X pins' σ H s:=
 ⟨I.ok,I.os,I.bare,I.base,I.loc,I.cell,I.free,I.freeC,fun p hp=>(xbr.mp hp).elim (fun z=>I.pin p (xcJ _ z)) (h p),I.hok,I.len⟩
theorem Tr {N:List Str}(hN:N.Nodup){i j:Nat}{x:Str}(a:N[i]? =some x)(b:N[j]? =some x):i=j:=by
 obtain⟨h1,e1⟩:=xam.mp a;obtain⟨h2,e2⟩:=xam.mp b;exact(List.getElem_inj hN).mp (e1.trans e2.symm)
theorem zbv {M:Model}{A:Around}{E:Value->Shared->Prop}{i:Nat}{x:Str}{v:V}{u:Value}{Q:Unit->Shared->Prop}(I:Inv X pins σ H s)(hN:X.N.Nodup)(hi:X.N[i]? =some x)(hx:Loc X.env.scope x)(r:RelV v u)
    (h:∀s',Inv X pins (σ.set i (some v)) H s'->(∃a,Heap.SameBut a s.heap s'.heap/\(a=X.env.locals\/X.env.cells.lookup x=some a))->Q () s') (hf:X.fn x=true\/X.env.scope.names.lookup x=some .local:=by first |exact .inl rfl |exact .inr rfl |assumption):wpAny M A (storeName X.env x u) Q E s:=by
  obtain⟨m,hn,hl⟩:=id I.loc;have hcls:(X.env.scope.kind==.class || (X.env.scope.kind==.module && X.env.locals !=X.env.globals))=false:=by rw[I.ok.kind];rfl
  have hiσ:i<σ.length:=by rw[I.len];exact(xam.mp hi).1
  have cne:=I.cne;have tracked:∀{a:Addr} {h':Heap},(∃o,s.heap.get? a=some o/\H a=none)->Heap.SameBut a s.heap h'->cN X.prog X.w H h':=fun {a h'} ha hs b ob e=>by
    obtain⟨_,_,hfree⟩:=ha;refine(I.hok b ob e).stay (fun c w' hc q=>(hs.2 c ?_).trans q) (fun _ q=>q) fun _ _ q=>q;rintro rfl;rcases hc with rfl |hc
    · rw[hfree]at e;cases e
    · rw[hfree]at hc;cases hc
  rcases hx with hk |hk
  · refine wpAny_storeName_local hk hn (fun h' hn' hs=>?_) hcls;obtain⟨oL,_,_,hoL,_⟩:=id hn;refine h _ ⟨I.ok,I.os,I.bare,⟨fun b o e n hb hx=>?_,fun b o e n hb hx=>?_,I.base.free,fun b o e hx=>?_,I.base.tups,I.base.frzs,I.base.tbls⟩,⟨_,hn',fun j y v' e1 e2 e3=>?_⟩,fun y c e=>?_,I.free,I.freeC,fun p hp=>?_,tracked ⟨oL,hoL,I.free⟩ hs,by simpa using I.len⟩ ⟨_,hs,.inl rfl⟩
    · exact(hs.2 b (xay (xai (xaq e) I.ok.above))).trans (I.base.keep b o e n hb hx)
    · obtain⟨sl,e1⟩:=I.base.slot b o e n hb hx;exact⟨sl,(hs.2 b (xay (xai (xaq e) I.ok.above))).trans e1⟩
    · obtain⟨o',e1⟩:=I.base.there b o e hx;exact⟨o',(hs.2 b (xay (xai (xaq e) I.ok.above))).trans e1⟩
    · by_cases hj:j=i
      · subst hj;rw[hi]at e1;cases e1;rw[xb5 hiσ]at e2;cases e2;exact⟨u,r,.inl ⟨hk,by simp⟩⟩
      · rw[xcc (xbu hj)]at e2;obtain⟨u',r',q⟩:=hl j y v' e1 e2 e3;refine⟨u',r',?_⟩;rcases q with⟨k,e⟩ |⟨k,c,e,z⟩
        · refine .inl ⟨k,?_⟩;have:y≠x:=fun e=>hj (Tr hN e1 (e ▸ hi))
          simp[this,e]
        · exact .inr ⟨k,c,e,z.sameBut hs (cne y c e)⟩
    · obtain⟨w',z⟩:=I.cell y c e;exact⟨w',z.sameBut hs (cne y c e)⟩
    · obtain⟨e,n,ne,nf,d⟩:=I.pin p hp;exact⟨(hs.2 p.1 ne).trans e,n,ne,nf,d⟩
  · have hfn:X.fn x=true:=by
      rcases hf with z |z
      · exact z
      · rw[z]at hk;cases hk
    obtain⟨c,hc⟩:=I.ok.has x (.inl hk);obtain⟨w',z⟩:=I.cell x c hc;refine wpAny_storeName_cell I.ok.kind hk hc z (fun h' hc' hs=>?_);obtain⟨oc,hoc,hocd⟩:=id z;refine h {s with heap:=h'} ⟨I.ok,I.os,I.bare,⟨fun b o e n hb hx=>?_,fun b o e n hb hx=>?_,I.base.free,fun b o e hx=>?_,I.base.tups,I.base.frzs,I.base.tbls⟩,⟨m,hn.sameBut hs (xbu (cne x c hc)),fun j y v' e1 e2 e3=>?_⟩,fun y c' e=>?_,I.free,I.freeC,fun p hp=>?_,tracked ⟨oc,hoc,(I.freeC x c hc).resolve_right fun z=>by rw[z.1]at hfn;cases hfn⟩ hs,by simpa using I.len⟩ ⟨c,hs,.inr hc⟩
    · exact(hs.2 b (xay (xai (xaq e) (I.ok.cab x c hfn hc)))).trans (I.base.keep b o e n hb hx)
    · obtain⟨sl,e1⟩:=I.base.slot b o e n hb hx;exact⟨sl,(hs.2 b (xay (xai (xaq e) (I.ok.cab x c hfn hc)))).trans e1⟩
    · obtain⟨o',e1⟩:=I.base.there b o e hx;exact⟨o',(hs.2 b (xay (xai (xaq e) (I.ok.cab x c hfn hc)))).trans e1⟩
    · by_cases hj:j=i
      · subst hj;rw[hi]at e1;cases e1;rw[xb5 hiσ]at e2;cases e2;exact⟨u,r,.inr ⟨.inl hk,c,hc,hc'⟩⟩
      · rw[xcc (xbu hj)]at e2;obtain⟨u',r',q⟩:=hl j y v' e1 e2 e3;refine⟨u',r',?_⟩;rcases q with q |⟨k,c',e,z'⟩
        · exact .inl q
        · refine .inr ⟨k,c',e,z'.sameBut hs ?_⟩;rintro rfl;exact hj (Tr hN e1 (I.ok.inj _ _ _ e hc ▸ hi))
    · by_cases hcc:c'=c
      · subst hcc;exact⟨_,hc'⟩
      · obtain⟨w2,z2⟩:=I.cell y c' e;exact⟨w2,z2.sameBut hs hcc⟩
    · obtain⟨e,n,ne,nf,d⟩:=I.pin p hp;refine⟨(hs.2 p.1 ?_).trans e,n,ne,nf,d⟩;intro q;rw[q,hoc]at e;have q':oc=p.2:=xav e;exact d w' (by rw[<-q'];exact hocd)
theorem GZ (I:Inv X pins σ H s)(hN:X.N.Nodup)(hi:X.N[i]? =some x)(hx:Loc X.env.scope x)(r:RelV v u)
  (h:∀s',Inv X pins (σ.set i (some v)) H s'->Q () s') (hf:X.fn x=true\/X.env.scope.names.lookup x=some .local:=by first |exact .inl rfl |exact .inr rfl |assumption):wpAny M A (storeName X.env x u) Q E s:=
 zbv I hN hi hx r (fun s' I' _=>h s' I') hf
theorem Inv.call' (I:Inv X pins σ H s)(ho:s'.os=s.os)(u:Un (frs X.stack) ch H H' s.heap s'.heap)(hok:cN X.prog X.w H' s'.heap)(hg:AllBare s'.gens)
  (hch:∀b∈ch,(b∈X.ex\/X.s₀.heap.objs.size<=b)/\b≠X.env.locals/\(∀x c,X.env.cells.lookup x=some c->c≠b)/\∀p∈X.pn ++ pins,p.1≠b):Inv X pins σ H' s':=by
 obtain⟨h',g',d',t',o'⟩:=s';have e:o'=s.os:=ho;subst e;exact I.call (g':=g') (t':=t') (d':=d') u hok hg hch
end
abbrev XK:=Value->Option Addr->Hp->Prop
abbrev St:=List (Option V)
abbrev VK:=V->Hp->Prop
abbrev TE:=St->Hp->VK->Prop
abbrev TT:=St->Hp->(Bool->Hp->Prop)->Prop
abbrev TA:=St->Hp->(List V->Hp->Prop)->Prop
structure Ends where
 nx:St->Hp->Prop
 rt:VK
 bk:St->Hp->Prop:=fun _ _=>False
 ct:St->Hp->Prop:=fun _ _=>False
abbrev TS:=Ends->St->Hp->Prop
def EP (X:Cx)(pins:Pnx)(σ:St)(Q:VK)(u:Value)(s':Shared):Prop:=∃v H',Inv X pins σ H' s'/\RelV v u/\Q v H'
def TP (X:Cx)(pins:Pnx)(σ:St)(Q:Bool->Hp->Prop)(b:Bool)(s':Shared):Prop:=∃H',Inv X pins σ H' s'/\Q b H'
def AP (X:Cx)(pins:Pnx)(σ:St)(Q:List V->Hp->Prop)(us:List Value)(s':Shared):Prop:=∃vs H',Inv X pins σ H' s'/\Vals vs us/\Q vs H'
def SP (X:Cx)(pins:Pnx)(D:Ends)(f:Flow)(s':Shared):Prop:=
 match f with
 |.next=>∃σ' H',Inv X pins σ' H' s'/\D.nx σ' H'
 |.brk=>∃σ' H',Inv X pins σ' H' s'/\D.bk σ' H'
 |.cont=>∃σ' H',Inv X pins σ' H' s'/\D.ct σ' H'
 |.ret u=>∃v σ' H',Inv X pins σ' H' s'/\RelV v u/\D.rt v H'
def PE (X:Cx)(e:Expr)(t:TE):Prop:=
 ∀(pins:Pnx) (s:Shared) (σ:St) (H:Hp) (Q:VK),Inv X pins σ H s->t σ H Q->wpAny (model X.prog X.w) X.A (eval e X.env) (EP X pins σ Q) X.xe s
def PT (X:Cx)(e:Expr)(t:TT):Prop:=
 ∀(pins:Pnx) (s:Shared) (σ:St) (H:Hp) (Q:Bool->Hp->Prop),Inv X pins σ H s->t σ H Q->wpAny (model X.prog X.w) X.A (isTrue e X.env (eval e X.env)) (TP X pins σ Q) X.xe s
def PW (X:Cx)(e:Expr)(t:TT):Prop:=
 ∀(whole:Sem Value) (pins:Pnx) (s:Shared) (σ:St) (H:Hp) (Q:Bool->Hp->Prop),Inv X pins σ H s->t σ H Q->wpAny (model X.prog X.w) X.A (isTrue e X.env whole) (TP X pins σ Q) X.xe s
theorem PW.pt (h:PW X e t):PT X e t:=h _
def PA (X:Cx)(es:List Expr)(t:TA):Prop:=
 ∀(pos:Pos) (pins:Pnx) (s:Shared) (σ:St) (H:Hp) (Q:List V->Hp->Prop),Inv X pins σ H s->t σ H Q->wpAny (model X.prog X.w) X.A (spliced (backTo pos (starEach es X.env))) (AP X pins σ Q) X.xe s
def PS (X:Cx)(st:Stmt)(t:TS):Prop:=
 ∀(pins:Pnx) (s:Shared) (σ:St) (H:Hp) (D:Ends),Inv X pins σ H s->t D σ H->wpAny (model X.prog X.w) X.A (exec st X.env) (SP X pins D) X.xe s
def i_ (X:Cx)(st:List Stmt)(t:TS):Prop:=
 ∀(pins:Pnx) (s:Shared) (σ:St) (H:Hp) (D:Ends),Inv X pins σ H s->t D σ H->wpAny (model X.prog X.w) X.A (execs st X.env) (SP X pins D) X.xe s
theorem aP (h:wpAny M A t Q E s)(hQ:∀a s,Q a s->Q' a s):wpAny M A t Q' E s:=xaO h hQ fun _ _ x=>x
section
variable {X:Cx}
def O6 (i:Nat):TE:=fun σ H Q=>∃v,σ[i]? =some (some v)/\Q v H
def tC (v:V):TE:=fun _ H Q=>Q v H
theorem Fb (hN:X.N[i]? =some x)(hv:yp X.env.scope x)(hd:(x==("__debug__":Str))=false:=by decide)(hcd:(x==("__classdict__":Str))=false:=by decide):PE X (.Name x pos) (O6 i):=by
 intro pins s σ H Q I h;obtain⟨v,e,h⟩:=h;obtain⟨m,hn,hl⟩:=I.loc;obtain⟨u,r,l⟩:=hl i x v hN e hv;have fin:EP X pins σ Q u s:=⟨v,H,I,r,h⟩;rcases l with⟨hk,hm⟩ |⟨hk,c,hc,hcell⟩
 ·exact wpAny_Name (wpAny_loadName_local I.ok.kind hk hn hm fin) hd
 ·rcases hk with hk |hk
  ·exact wpAny_Name (wpAny_loadName_cell I.ok.kind hk hc hcell fin) hd
  ·exact wpAny_Name (wpAny_loadName_free I.ok.kind hk hc hcell fin hcd) hd
theorem zdR {i j pos}:PE X (.Constant (.int i) j pos) (tC (.int i)):=fun _ _ _ H _ I h=>wpAny_Constant_int ⟨.int i,H,I.tok _,⟨_,rfl⟩,h⟩
theorem zg8 {b j pos}:PE X (.Constant (.bool b) j pos) (tC (.bl b)):=fun _ _ _ H _ I h=>Constant_bool ⟨.bl b,H,I,rfl,h⟩
theorem zd2 {x j pos}:PE X (.Constant (.str x) j pos) (tC (.str x)):=fun _ _ _ H _ I h=>Calls.Constant_str ⟨.str x,H,I.tok _,⟨_,rfl⟩,h⟩
def Gl (X:Cx)(x:Str):Prop:=X.env.kindOf x=some .globalImplicit
theorem u5 (I:Inv X pins σ H s)(hg:Gl X x)(hm:X.mg x=some u)(h:Q u s)
  (hd:(x==("__debug__":Str))=false:=by decide):wpAny (model X.prog X.w) X.A (eval (.Name x pos) X.env) Q E s:=
 xc9 I.ok.kind hg (Calls.loadGlobal_global (by rw[I.ok.glob];exact I.mod.glob.keeps I.bk) hm h) hd
theorem Ba (I:Inv X pins σ H s)(hg:Gl X x)(hm:X.mg x=none)(hv:bootBuiltins x=some u)(h:Q u s)
  (hn:x≠"__name__":=by decide) (hd:(x==("__debug__":Str))=false:=by decide):wpAny (model X.prog X.w) X.A (eval (.Name x pos) X.env) Q E s:=by
 obtain⟨mb,h1,h2⟩:=I.mod.blt;exact xc9 I.ok.kind hg (Calls.loadGlobal_builtin (by rw[I.ok.glob];exact I.mod.glob.keeps I.bk) hm (by rw[I.ok.blt];exact h1.keeps I.bk) ((h2 x hn).trans hv) h) hd
theorem Bq (hg:Gl X x)(hm:X.mg x=some u)(r:RelV v u)(hd:(x==("__debug__":Str))=false:=by decide):PE X (.Name x pos) (tC v):=
 fun _ _ _ H _ I h=>u5 I hg hm ⟨v,H,I,r,h⟩ hd
theorem zdq (hg:Gl X x)(hm:X.mg x=none)(hv:bootBuiltins x=some u)(r:RelV v u)(hn:x≠"__name__":=by decide)(hd:(x==("__debug__":Str))=false:=by decide):PE X (.Name x pos) (tC v):=
 fun _ _ _ H _ I h=>Ba I hg hm hv ⟨v,H,I,r,h⟩ hn hd
variable {a b:Expr}{ta tb:TE}{pos:Pos}
def PC (X:Cx)(op:CmpOp)(a b:Expr)(t:TE):Prop:=
 ∀(pins:Pnx) (s:Shared) (σ:St) (H:Hp) (Q:VK),Inv X pins σ H s->t σ H Q->
  wpAny (model X.prog X.w) X.A (eval a X.env) (fun v s₁=>wpAny (model X.prog X.w) X.A (eval b X.env) (fun u s₂=>wpAny (model X.prog X.w) X.A (compareOp op v u) (EP X pins σ Q) X.xe s₂) X.xe s₁) X.xe s
def tB (t:TE):TT:=fun σ H Q=>t σ H fun x H1=>∃c,x=.bl c/\Q c H1
theorem zd8 (h:PC X op a b t)(h1:behindInMarks op b=false:=by first |exact nobehind _ (by decide) (by decide) |rfl):PT X (.Compare a [op] [b] pos) (tB t):=by
 intro pins s σ H Q I hw;refine wpAny_isTrue_Compare1 (aP (h pins s σ H _ I hw) fun v s1 h1=>aP h1 fun u s2 h2=>aP h2 fun c s3 ⟨x,H1,I1,r1,q1⟩=>?_) h1;obtain⟨d,rfl,q⟩:=q1;cases r1;exact xbK ⟨H1,I1,q⟩
variable {tA tB':TT}{rest:List Expr}
noncomputable def Ov (t u:TT):TT:=fun σ H Q=>t σ H fun c H1=>if c=true then u σ H1 Q else Q false H1
noncomputable def tOr (t u:TT):TT:=fun σ H Q=>t σ H fun c H1=>if c=true then Q true H1 else u σ H1 Q
def O2 (t:TT):TT:=fun σ H Q=>t σ H fun c H1=>Q (!c) H1
theorem zdh (ha:PT X a tA):PW X (.BoolOp .And [a] pos) tA:=by
 intro wh pins s σ H Q I h;refine isTrue_and (aP (ha pins s σ H Q I h) fun c s1 e=>?_)
 cases c with
 |true=>exact isTrue_and_nil e
 |false=>exact e
theorem zfa (ha:PT X a tA):PW X (.BoolOp .Or [a] pos) tA:=by
 intro wh pins s σ H Q I h;refine isTrue_or (aP (ha pins s σ H Q I h) fun c s1 e=>?_)
 cases c with
 |false=>exact isTrue_or_nil e
 |true=>exact e
theorem ze3 (ha:PT X a tA)(hb:PW X (.BoolOp .And (b::rest) pos) tB'):PW X (.BoolOp .And (a::b::rest) pos) (Ov tA tB'):=by
 intro wh pins s σ H Q I h;refine isTrue_and (aP (ha pins s σ H _ I h) fun c s1 ⟨H1,I1,q1⟩=>?_)
 cases c with
 |true=>exact hb wh pins s1 σ H1 Q I1 q1
 |false=>exact⟨H1,I1,q1⟩
theorem zgM (ha:PT X a tA)(hb:PW X (.BoolOp .Or (b::rest) pos) tB'):PW X (.BoolOp .Or (a::b::rest) pos) (tOr tA tB'):=by
 intro wh pins s σ H Q I h;refine isTrue_or (aP (ha pins s σ H _ I h) fun c s1 ⟨H1,I1,q1⟩=>?_)
 cases c with
 |true=>exact⟨H1,I1,q1⟩
 |false=>exact hb wh pins s1 σ H1 Q I1 q1
theorem zdG (ha:PT X a tA):PT X (.UnaryOp .Not a pos) (O2 tA):=by
 intro pins s σ H Q I h;exact isTrue_not (ha pins s σ H (fun c H1=>Q (!c) H1) I h)
noncomputable def zhe (ta tb:TE):TE:=fun σ H Q=>ta σ H fun x H1=>∃c,x=.bl c/\if c=true then tb σ H1 Q else Q (.bl false) H1
noncomputable def O3 (ta tb:TE):TE:=fun σ H Q=>ta σ H fun x H1=>∃c,x=.bl c/\if c=true then Q (.bl true) H1 else tb σ H1 Q
theorem zeZ {op}(h:PE X a t):PE X (.BoolOp op [a] pos) t:=fun pins s σ H Q I hw=>BoolOp_one (h pins s σ H Q I hw)
theorem zd7 (ha:PE X a ta)(hb:PE X (.BoolOp .And (b::rest) pos) tb):PE X (.BoolOp .And (a::b::rest) pos) (zhe ta tb):=by
 intro pins s σ H Q I h;refine BoolOp_and (aP (ha pins s σ H _ I h) fun v s1 ⟨x,H1,I1,r1,q1⟩=>?_);obtain⟨c,rfl,q1⟩:=q1;cases r1;refine xbK ?_
 cases c with
 |true=>exact hb pins s1 σ H1 Q I1 q1
 |false=>exact⟨.bl false,H1,I1,rfl,q1⟩
theorem zgP (ha:PE X a ta)(hb:PE X (.BoolOp .Or (b::rest) pos) tb):PE X (.BoolOp .Or (a::b::rest) pos) (O3 ta tb):=by
 intro pins s σ H Q I h;refine BoolOp_or (aP (ha pins s σ H _ I h) fun v s1 ⟨x,H1,I1,r1,q1⟩=>?_);obtain⟨c,rfl,q1⟩:=q1;cases r1;refine xbK ?_
 cases c with
 |false=>exact hb pins s1 σ H1 Q I1 q1
 |true=>exact⟨.bl true,H1,I1,rfl,q1⟩
noncomputable def tIf (t:TT) (ta tb:TE):TE:=fun σ H Q=>t σ H fun c H1=>if c=true then ta σ H1 Q else tb σ H1 Q
theorem zbO (hc:PT X c tA)(ha:PE X a ta)(hb:PE X b tb):PE X (.IfExp c a b pos) (tIf tA ta tb):=by
 intro pins s σ H Q I h;refine wpAny_IfExp (aP (hc pins s σ H _ I h) fun d s1 ⟨H1,I1,q1⟩=>?_)
 cases d with
 |true=>exact ha pins s1 σ H1 Q I1 q1
 |false=>exact hb pins s1 σ H1 Q I1 q1
end
def bU (K:Fgx)(H:Hp)(a:Addr)(xs:List V):Prop:=
 Rd H a (.lst xs)\/
  ∃(o:Obj) (its:Array Value) (n:Nat),K.lookup a=some o/\o.cls=.type "list"/\o.dict=none/\o.data=.seq its n/\its.size<=sizeLine/\Vals xs its.toList
def c7 (K:Fgx)(H:Hp)(a:Addr)(xs:List V):Prop:=
 Rd H a (.tup xs)\/
  ∃(o:Obj) (its:Array Value) (n:Nat),K.lookup a=some o/\o.cls=.type "tuple"/\o.data=.seq its n/\its.size<=sizeLine/\Vals xs its.toList
noncomputable def HJ:Value->Option V
 |.none=>some .non
 |.bool b=>some (.bl b)
 |.int i _=>some (.int i)
 |.str x _=>some (.str x)
 |.bytes b _=>some (.byt b)
 |.float b _=>some (.flt b)
 |.ref a=>some (.ref a)
 |.type n=>some (.ty n)
 |_=>none
theorem RelV.abs (r:RelV x u):HJ u=some x:=by
 cases x with
 |non=>cases r;rfl
 |bl _=>cases r;rfl
 |int _=>obtain⟨t,rfl⟩:=r;rfl
 |str _=>obtain⟨t,rfl⟩:=r;rfl
 |byt _=>obtain⟨t,rfl⟩:=r;rfl
 |flt _=>obtain⟨t,rfl⟩:=r;rfl
 |ref _=>cases r;rfl
 |ty _=>cases r;rfl
theorem RelV.inj (r:RelV x u)(q:RelV y u):x=y:=xav (r.abs.symm.trans q.abs)
theorem Vals.inj:∀{xs ys:List V} {us:List Value},Vals xs us->Vals ys us->xs=ys
 |_,_,_,.nil,.nil=>rfl
 |_,_,_,.cons r t,.cons r' t'=>by rw[r.inj r',Vals.inj t t']
section
variable {X:Cx}{pins:Pnx}{σ:St}{H:Hp}{s:Shared}{a:Addr}{xs ys:List V}
theorem Inv.list (I:Inv X pins σ H s)(h:bU X.K H a xs):∃its:List Value,Vals xs its/\PlainL s.heap a its.toArray/\xs.length<=sizeLine:=by
 rcases h with h |⟨o,its,n,hk,hc,hd,hs,hz,r⟩
 ·obtain⟨z,its,n,r,e⟩:=h.ok I.hok;exact⟨its,r,⟨_,n,e,rfl,rfl,rfl⟩,z⟩
 ·refine⟨its.toList,r,⟨o,n,I.kIn a o hk,hc,hd,by simpa using hs⟩,?_⟩;have e:=r.length;simp only[xaR]at e;omega
theorem Inv.tuple (I:Inv X pins σ H s)(h:c7 X.K H a xs):∃its:List Value,Vals xs its/\IsTup s.heap a its.toArray/\xs.length<=sizeLine:=by
 rcases h with h |⟨o,its,n,hk,hc,hs,hz,r⟩
 ·obtain⟨z,its,r,p⟩:=h.ok I.hok;exact⟨its,r,p,z⟩
 ·refine⟨its.toList,r,⟨o,I.kIn a o hk,hc,n,by simpa using hs⟩,?_⟩;have e:=r.length;simp only[xaR]at e;omega
theorem Inv.list_inj (I:Inv X pins σ H s)(h:bU X.K H a xs)(h':bU X.K H a ys):xs=ys:=by
 obtain⟨its,r,⟨o,n,e,_,_,d⟩,_⟩:=I.list h;obtain⟨its',r',⟨o',n',e',_,_,d'⟩,_⟩:=I.list h';rw[e]at e';cases e';rw[d]at d'
 injection d' with d1 _
 have:its=its':=by simpa using congrArg Array.toList d1
 subst this;exact r.inj r'
theorem Inv.tuple_inj (I:Inv X pins σ H s)(h:c7 X.K H a xs)(h':c7 X.K H a ys):xs=ys:=by
 obtain⟨its,r,⟨o,e,_,n,d⟩,_⟩:=I.tuple h;obtain⟨its',r',⟨o',e',_,n',d'⟩,_⟩:=I.tuple h';rw[e]at e';cases e';rw[d]at d'
 injection d' with d1 _
 have:its=its':=by simpa using congrArg Array.toList d1
 subst this;exact r.inj r'
end
abbrev Cx.wish (X:Cx)(E:Value->Shared->Prop):Cx:={X with xe:=E}
abbrev Cx.nox (X:Cx):Cx:=X.wish fun _ _=>False
theorem Cx.Ok.wish {X:Cx}(ok:X.Ok)(E:Value->Shared->Prop):(X.wish E).Ok:=
 ⟨ok.mod,ok.kind,ok.glob,ok.blt,ok.above,ok.inj,ok.has,ok.cab,ok.hd,ok.frames,ok.stk,ok.exf,ok.bs,ok.bsz,ok.noex,ok.exfs,ok.funs,ok.frf⟩
theorem Cx.Ok.unwish {X:Cx}{E:Value->Shared->Prop}(ok:(X.wish E).Ok):X.Ok:=
 ⟨ok.mod,ok.kind,ok.glob,ok.blt,ok.above,ok.inj,ok.has,ok.cab,ok.hd,ok.frames,ok.stk,ok.exf,ok.bs,ok.bsz,ok.noex,ok.exfs,ok.funs,ok.frf⟩
section
variable {X:Cx}{pins:Pnx}{σ:St}{H:Hp}{s:Shared}{E:Value->Shared->Prop}
theorem Inv.wish (I:Inv X pins σ H s)(E:Value->Shared->Prop):Inv (X.wish E) pins σ H s:=⟨I.ok.wish E,I.os,I.bare,I.base,I.loc,I.cell,I.free,I.freeC,I.pin,I.hok,I.len⟩
theorem Inv.unwish (I:Inv (X.wish E) pins σ H s):Inv X pins σ H s:=⟨I.ok.unwish,I.os,I.bare,I.base,I.loc,I.cell,I.free,I.freeC,I.pin,I.hok,I.len⟩
theorem SP.unwish (h:SP (X.wish E) pins D f s'):SP X pins D f s':=by
 cases f with
 |next=>obtain⟨σ',H',I,q⟩:=h;exact⟨σ',H',I.unwish,q⟩
 |brk=>obtain⟨σ',H',I,q⟩:=h;exact⟨σ',H',I.unwish,q⟩
 |cont=>obtain⟨σ',H',I,q⟩:=h;exact⟨σ',H',I.unwish,q⟩
 |ret u=>obtain⟨v,σ',H',I,r,q⟩:=h;exact⟨v,σ',H',I.unwish,r,q⟩
theorem i_.nox {st:List Stmt}{t:TS}(h:i_ X.nox st t):i_ X st t:=fun pins s σ H D I hw=>
 xaO (h pins s σ H D (I.wish _) hw) (fun _ _ q=>q.unwish) fun _ _ z=>False.elim z
end
section
variable {X:Cx}{st:Stmt}{rest:List Stmt}{t u:TS}{e:Expr}{te:TE}{pos:Pos}
def zg5:TS:=fun D σ H=>D.nx σ H
def CN (t u:TS):TS:=fun D σ H=>t {D with nx:=u D} σ H
theorem zcA:i_ X [] zg5:=fun _ _ σ H _ I h=>wpAny_execs_nil ⟨σ,H,I,h⟩
theorem zbE (h1:PS X st t)(h2:i_ X rest u):i_ X (st::rest) (CN t u):=by
  intro pins s σ H D I h;refine xcC (aP (h1 pins s σ H {D with nx:=u D} I h) fun f s1 q=>?_)
  cases f with
  |next=>
    obtain⟨σ',H',I',q⟩:=q;exact h2 pins s1 σ' H' D I' q
  |ret v=>exact q
  |brk=>exact q
  |cont=>exact q
theorem Inv.quiet (I:Inv X pins σ H s):interactive X.env=false:=by simp[interactive,I.ok.kind]
def zfH (te:TE):TS:=fun D σ H=>te σ H fun _ H1=>D.nx σ H1
theorem Fg (he:PE X e te)(hs:swapsWith e none pos.line X.env=pure false:=by rfl):PS X (.Expr e pos) (zfH te):=by
 intro pins s σ H D I h;exact wpAny_Expr_any (aP (he pins s σ H _ I h) fun v s1 ⟨x,H1,I1,r1,q1⟩=>⟨σ,H1,I1,q1⟩) I.quiet hs
def O4 (te:TE):TS:=fun D σ H=>te σ H D.rt
theorem zeO (he:PE X e te):PS X (.Return (some e) pos) (O4 te):=by
 intro pins s σ H D I h;exact wpAny_Return_some (aP (he pins s σ H _ I h) fun v s1 ⟨x,H1,I1,r1,q1⟩=>⟨x,σ,H1,I1,r1,q1⟩)
noncomputable def OJ (c:TT) (t u:TS):TS:=fun D σ H=>c σ H fun b H1=>if b=true then t D σ H1 else u D σ H1
theorem zgF (hc:PT X c tc)(ha:i_ X a t)(hb:i_ X b u):PS X (.If c a b pos) (OJ tc t u):=by
 intro pins s σ H D I h;refine wpAny_If (aP (hc pins s σ H _ I h) fun d s1 ⟨H1,I1,q1⟩=>?_)
 cases d with
 |true=>exact ha pins s1 σ H1 D I1 q1
 |false=>exact hb pins s1 σ H1 D I1 q1
end
abbrev TG:=V->St->Hp->(St->Hp->Prop)->Prop
def PG (X:Cx)(target:Expr)(t:TG):Prop:=
 ∀(pins:Pnx) (s:Shared) (σ:St) (H:Hp) (v:V) (u:Value) (Q:St->Hp->Prop),Inv X pins σ H s->RelV v u->t v σ H Q->
  wpAny (model X.prog X.w) X.A (assign target X.env u) (fun _ s'=>∃σ' H',Inv X pins σ' H' s'/\Q σ' H') X.xe s
abbrev zK:=V->V->V->Hp->(Hp->Prop)->Prop
def zJ (X:Cx)(t:zK):Prop:=
 ∀(pins:Pnx) (s:Shared) (σ:St) (H:Hp) (o i v:V) (ov iv u:Value) (Q:Hp->Prop),Inv X pins σ H s->RelV o ov->RelV i iv->RelV v u->t o i v H Q->
  wpAny (model X.prog X.w) X.A (setItem ov iv u) (fun _ s'=>∃H',Inv X pins σ H' s'/\Q H') X.xe s
section
variable {X:Cx}{pos:Pos}
def Ea (i:Nat):TG:=fun v σ H Q=>Q (σ.set i (some v)) H
theorem T6 (hN:X.N.Nodup)(hi:X.N[i]? =some x)(hx:Loc X.env.scope x)(hf:X.fn x=true\/X.env.scope.names.lookup x=some .local:=by first |exact .inl rfl |exact .inr rfl |assumption):PG X (.Name x pos) (Ea i):=by
 intro pins s σ H v u Q I r h;exact wpAny_assign_Name (GZ I hN hi hx r (fun s' I'=>⟨_,H,I',h⟩) hf)
noncomputable def Jy (to ti:TE) (t:zK):TG:=fun v σ H Q=>to σ H fun o H1=>ti σ H1 fun i H2=>t o i v H2 fun H3=>Q σ H3
theorem zdP (ho:PE X o to)(hi:PE X i ti)(hs:zJ X t)
  (ha : ∀ v, assign (.Subscript o i pos) X.env v = (do
   let ov <-holding [v] (eval o X.env)
   let iv <-holding [v,ov] (eval i X.env)
   standAt pos
   holding [v,ov,iv] (setItem ov iv v)
   release [v,ov,iv] []):=by intro _;rfl):PG X (.Subscript o i pos) (Jy to ti t):=by
 intro pins s σ H v u Q I r h;rw[ha];refine tG (xbm (aP (ho pins s σ H _ I h) fun ov s1 ⟨x,H1,I1,r1,q1⟩=>?_));refine tG (xbm (aP (hi pins s1 σ H1 _ I1 q1) fun iv s2 ⟨y,H2,I2,r2,q2⟩=>?_));refine tG (xch (tG (xbm (aP (hs pins s2 σ H2 x y v ov iv u _ I2 r1 r2 r q2) fun _ s3 ⟨H3,I3,q3⟩=>?_))));exact wpAny_release ⟨σ,H3,I3,q3⟩
noncomputable def Cy (te:TE) (g:TG):TS:=fun D σ H=>te σ H fun x H1=>g x σ H1 D.nx
theorem zeI (he:PE X e te)(hg:PG X tg g)(hs:swapsWithSole [tg] e pos.line X.env=pure false:=by rfl)(hw:swappedStores [tg] e X.env=pure none:=by rfl)
  (h1:(assignEach [tg] X.env).map (·.2)=[assign tg X.env]:=by rfl):PS X (.Assign [tg] e pos) (Cy te g):=by
 intro pins s σ H D I h;refine wpAny_Assign_stores (aP (he pins s σ H _ I h) fun v s1 ⟨x,H1,I1,r1,q1⟩=>?_) hs hw;rw[h1];exact aP (hg pins s1 σ H1 x v _ I1 r1 q1) fun _ s2 q=>q
theorem Ua (hN:X.N.Nodup)(hi:X.N[i]? =some x)(hx:Loc X.env.scope x)(he:PE X e te)(hs:swapsWith e (some (.Name x pos')) pos.line X.env=pure false:=by rfl)(hf:X.fn x=true\/X.env.scope.names.lookup x=some .local:=by first |exact .inl rfl |exact .inr rfl |assumption):
  PS X (.Assign [.Name x pos'] e pos) (Cy te (Ea i)):=by
 intro pins s σ H D I h;refine wpAny_Assign_Name (aP (he pins s σ H _ I h) fun v s1 ⟨y,H1,I1,r1,q1⟩=>?_) hs;exact GZ I1 hN hi hx r1 (fun s2 I2=>⟨_,H1,I2,q1⟩) hf
end
structure It where
 go:Nat->Hp->Prop
 yld:Nat->Hp->V->Hp->Prop
 stop:Nat->Hp->Prop
def eG (X:Cx)(pins:Pnx)(H:Hp)(b:Addr):Prop:=
 H b=none/\b≠X.env.locals/\b∉X.fs/\(b∈X.ex\/X.s₀.heap.objs.size<=b)/\(∀x c,X.env.cells.lookup x=some c->c≠b)/\∀p∈X.pn ++ pins,p.1≠b
theorem Inv.fpOk (I:Inv X pins σ H s)(hb:s.heap.objs.size<=b)(hn:H' b=none):eG X pins H' b:=by
 refine⟨hn,xdr (xai I.lt hb),I.nofs hb,.inr (xaB I.sz hb),fun x c e z=>?_,fun p hp z=>?_⟩
 ·obtain⟨v,q⟩:=I.cell x c e;exact absurd (xai q.lt (by rw[z];exact hb)) (xa9 _)
 ·exact absurd (xai (xaq (I.pin p hp).1) (by rw[z];exact hb)) (xa9 _)
structure Turn (P:Program)(w:World)(K:Fgx)(tg:Expr)(J:It)(fp:List Addr)(it:Addr)(tn:Nat->Heap->Prop):Prop where
 mem:it∈fp
 obj:∀i h,tn i h->∀b∈fp,∃o,h.get? b=some o/\∀v,o.data≠ .cell v
 keep:∀i h h',tn i h->(∀b∈fp,∀o,h.get? b=some o->h'.get? b=some o)->tn i h'
 item:∀(X:Cx),X.prog=P->X.w=w->X.K=K->X.calm=true->∀(i:Nat) (pins:Pnx) (s:Shared) (σ:St) (H:Hp) (E:Value->Shared->Prop),Inv X pins σ H s->(∀b∈fp,eG X pins H b)->tn i s.heap->J.go i H->
  wpAny (model P w) X.A (pyNext (.ref it)) (fun r s1=>∃u,r=some u/\
   wpAny (model P w) X.A (letOwnedTupleGo tg (.ref it) u) (fun _ s2=>∃x H',Inv X pins σ H' s2/\RelV x u/\J.yld i H x H'/\tn (i + 1) s2.heap/\∀b∈fp,H' b=none) E s1) E s
 done:∀(X:Cx),X.prog=P->X.w=w->X.K=K->X.calm=true->∀(i:Nat) (pins:Pnx) (s:Shared) (σ:St) (H:Hp) (E:Value->Shared->Prop),Inv X pins σ H s->(∀b∈fp,eG X pins H b)->tn i s.heap->J.stop i H->
  wpAny (model P w) X.A (pyNext (.ref it)) (fun r s1=>r=none/\Inv X pins σ H s1) E s
 self:∀(A:Around) (i:Nat) (s:Shared) (Q:Value->Shared->Prop) (E:Value->Shared->Prop),tn i s.heap->Q (.ref it) s->wpAny (model P w) A (pyIter (.ref it)) Q E s
abbrev TI:=St->Hp->(It->Hp->Prop)->Prop
def PIE (X:Cx)(pins:Pnx)(σ:St)(tg:Expr)(R:It->Hp->Prop)(itv:Value)(s2:Shared):Prop:=
 ∃(it:Addr) (fp:List Addr) (tn:Nat->Heap->Prop) (J:It) (H':Hp),itv=.ref it/\Inv X pins σ H' s2/\Turn X.prog X.w X.K tg J fp it tn/\tn 0 s2.heap/\(∀b∈fp,eG X pins H' b)/\R J H'
def PI (X:Cx)(tg iter:Expr)(wi:TI):Prop:=
 ∀(pins:Pnx) (s:Shared) (σ:St) (H:Hp) (R:It->Hp->Prop),Inv X pins σ H s->wi σ H R->
  wpAny (model X.prog X.w) X.A (eval iter X.env) (fun v s1=>wpAny (model X.prog X.w) X.A (pyIter v) (PIE X pins σ tg R) X.xe s1) X.xe s
theorem wY {M:Model}{A:Around}{E:Value->Shared->Prop}{s:Shared}{tg:Expr}{it:Addr}{u:Value}{o:Obj}{n:String}{vs:Array Value}{Q:Unit->Shared->Prop}(ho:s.heap.get? it=some o)(hc:o.cls=.type n)(hd:o.data=.fields vs)
    (hn:["enumerate","zip","dict_itemiterator","dict_reverseitemiterator","odict_iterator","itertools.zip_longest","itertools.pairwise"].contains n=false) (hQ:Q () s):wpAny M A (letOwnedTupleGo tg (.ref it) u) Q E s:=by
  unfold letOwnedTupleGo;cases tg<;>first
    |exact xah hQ
    | (cases u<;>first
        |exact xah hQ
        | (refine tG (wpAny_load ho ?_)
           rw[hc,hd];show wpAny M A (if (["enumerate","zip","dict_itemiterator","dict_reverseitemiterator","odict_iterator","itertools.zip_longest","itertools.pairwise"].contains n && vs[0]? ==some (rawInt _))=true then _ else _) Q E s
           rw[xad (by intro h;rw[hn,Bool.false_and]at h;cases h)];exact xah hQ))
noncomputable def zG (K:Fgx) (a:Addr):It:=
 ⟨fun i H=>∃xs x,bU K H a xs/\xs[i]? =some x,fun i H x H'=>H'=H/\∀xs,bU K H a xs->xs[i]? =some x,fun i H=>∃xs,bU K H a xs/\xs.length<=i⟩
noncomputable def Px (K:Fgx) (a:Addr):It:=
 ⟨fun i H=>∃xs x,c7 K H a xs/\xs[i]? =some x,fun i H x H'=>H'=H/\∀xs,c7 K H a xs->xs[i]? =some x,fun i H=>∃xs,c7 K H a xs/\xs.length<=i⟩
noncomputable def Dc (lo:Int) (n:Nat):It:=⟨fun i _=>i<n,fun i H x H'=>H'=H/\x=.int (lo + i),fun i _=>n<=i⟩
theorem zbb {P:Program}{w:World}{K:Fgx}{tg:Expr}(a it:Addr):Turn P w K tg (zG K a) [it] it (fun i h=>h.IsListIter it a i) where
 mem:=by simp
 obj:=fun i h st b hb=>by
  have e:b=it:=by simpa using hb
  subst e;obtain⟨o,e,c,d⟩:=st;exact⟨o,e,fun v z=>by rw[d]at z;cases z⟩
 keep:=fun i h h' st k=>st.at fun o e=>k it (by simp) o e
 item:=by
  intro X hP hw hK hc i pins s σ H E I hf st hg;subst hP hw hK;obtain⟨xs,x,hq,hx⟩:=hg;obtain⟨its,rv,p,hz⟩:=I.list hq;obtain⟨u,hu,ru⟩:=rv.get hx;obtain⟨f0,f1,f2,f3,f4,f5⟩:=hf it (by simp);refine wpAny_pyNext_list_item st p.isList (x:=u) (by simpa using hu) fun h' st' sb=>?_;have I1:Inv X pins σ H {s with heap:=h'}:=I.turned (t':=s.toks) (fun b o hb e=>(sb.2 b hb).trans e) f0 f1 f3 f4 f5;obtain⟨o,e,c,d⟩:=id st';exact⟨u,rfl,wY (s:={s with heap:=h'}) e c d (by decide) ⟨x,H,I1,ru,⟨rfl,fun ys hy=>by rw[I.list_inj hy hq];exact hx⟩,st',fun b hb=>(hf b hb).1⟩⟩
 done:=by
  intro X hP hw hK hc i pins s σ H E I hf st hg;subst hP hw hK;obtain⟨xs,hq,hx⟩:=hg;obtain⟨its,rv,p,hz⟩:=I.list hq;obtain⟨f0,f1,f2,f3,f4,f5⟩:=hf it (by simp);have hl:=rv.length;exact wpAny_pyNext_list_end (I.ok.hd hc) st p.isList (by simp;omega) fun h' eb=>⟨rfl,I.turned (t':=s.toks) (fun b o hb e=>eb b o hb e) f0 f1 f3 f4 f5⟩
 self:=fun _ _ _ _ _ st h=>wpAny_pyIter_listiter st h
theorem za6 {P:Program}{w:World}{K:Fgx}{tg:Expr}(a it:Addr):Turn P w K tg (Px K a) [it] it (fun i h=>h.IsTupleIter it a i) where
 mem:=by simp
 obj:=fun i h st b hb=>by
  have e:b=it:=by simpa using hb
  subst e;obtain⟨o,e,c,d⟩:=st;exact⟨o,e,fun v z=>by rw[d]at z;cases z⟩
 keep:=fun i h h' st k=>st.at fun o e=>k it (by simp) o e
 item:=by
  intro X hP hw hK hc i pins s σ H E I hf st hg;subst hP hw hK;obtain⟨xs,x,hq,hx⟩:=hg;obtain⟨its,rv,p,hz⟩:=I.tuple hq;obtain⟨u,hu,ru⟩:=rv.get hx;obtain⟨f0,f1,f2,f3,f4,f5⟩:=hf it (by simp);refine wpAny_pyNext_tuple_item st (show s.heap.IsTuple a its.toArray from p) (x:=u) (by simpa using hu) fun h' st' sb=>?_;have I1:Inv X pins σ H {s with heap:=h'}:=I.turned (t':=s.toks) (fun b o hb e=>(sb.2 b hb).trans e) f0 f1 f3 f4 f5;obtain⟨o,e,c,d⟩:=id st';exact⟨u,rfl,wY (s:={s with heap:=h'}) e c d (by decide) ⟨x,H,I1,ru,⟨rfl,fun ys hy=>by rw[I.tuple_inj hy hq];exact hx⟩,st',fun b hb=>(hf b hb).1⟩⟩
 done:=by
  intro X hP hw hK hc i pins s σ H E I hf st hg;subst hP hw hK;obtain⟨xs,hq,hx⟩:=hg;obtain⟨its,rv,p,hz⟩:=I.tuple hq;obtain⟨f0,f1,f2,f3,f4,f5⟩:=hf it (by simp);have hl:=rv.length;exact wpAny_pyNext_tuple_end (I.ok.hd hc) st (show s.heap.IsTuple a its.toArray from p) (by simp;omega) fun h' eb=>⟨rfl,I.turned (t':=s.toks) (fun b o hb e=>eb b o hb e) f0 f1 f3 f4 f5⟩
 self:=fun _ _ _ _ _ st h=>wpAny_pyIter_tupleiter st h
theorem zaR {P:Program}{w:World}{K:Fgx}{tg:Expr}(it:Addr)(lo:Int)(n:Nat):Turn P w K tg (Dc lo n) [it] it (fun i h=>IsRangeIter h it (lo + (i:Nat) * 1) ((n:Int) - (i:Nat)) 1) where
 mem:=by simp
 obj:=fun i h st b hb=>by
  have e:b=it:=by simpa using hb
  subst e;exact ⟨_,st,fun v z=>by
   have z':Data.fields _=Data.cell v:=z;cases z'⟩
 keep:=fun i h h' st k=>k it (by simp) _ st
 item:=by
  intro X hP hw hK hc i pins s σ H E I hf st hg;subst hP hw hK;obtain⟨f0,f1,f2,f3,f4,f5⟩:=hf it (by simp);have W:=Walks.range (prog:=X.prog) (w:=X.w) (I.ok.hd hc) it lo 1 n;refine W.item i s _ _ hg st fun v h' tk hv st' kk=>?_;obtain⟨t,rfl⟩:=hv;have I1:Inv X pins σ H {s with heap:=h',toks:=tk}:=I.turned (fun b o hb e=>kk b o (by simpa using hb) e) f0 f1 f3 f4 f5;refine⟨_,rfl,wY (s:={s with heap:=h',toks:=tk}) (n:="range_iterator") st' rfl rfl (by decide) ⟨.int (lo + i),H,I1,⟨t,?_⟩,⟨rfl,rfl⟩,st',fun b hb=>(hf b hb).1⟩⟩;rw[Int.mul_one]
 done:=by
  intro X hP hw hK hc i pins s σ H E I hf st hg;subst hP hw hK;obtain⟨f0,f1,f2,f3,f4,f5⟩:=hf it (by simp);exact wpAny_pyNext_range_end (I.ok.hd hc) st (by have:n<=i:=hg;omega) fun h' eb=>⟨rfl,I.turned (t':=s.toks) (fun b o hb e=>eb b o hb e) f0 f1 f3 f4 f5⟩
 self:=fun _ _ _ _ _ st h=>wpAny_pyIter_rangeiter st h
section
variable {X:Cx}{tg:Expr}
noncomputable def JD (K:Fgx) (tl:TE):TI:=fun σ H R=>tl σ H fun x H1=>∃a,x=.ref a/\(∃xs,bU K H1 a xs)/\R (zG K a) H1
noncomputable def JG (K:Fgx) (tl:TE):TI:=fun σ H R=>tl σ H fun x H1=>∃a,x=.ref a/\(∃xs,c7 K H1 a xs)/\R (Px K a) H1
theorem Fd {l:Expr}{tl:TE}(hl:PE X l tl):PI X tg l (JD X.K tl):=by
 intro pins s σ H R I h;refine aP (hl pins s σ H _ I h) fun v s1 ⟨x,H1,I1,r1,q1⟩=>?_;obtain⟨a,e,⟨xs,hq⟩,q⟩:=q1;subst e;cases r1;obtain⟨its,rv,p,hz⟩:=I1.list hq;refine wpAny_pyIter_list p.isList ?_;refine⟨s1.heap.objs.size,[s1.heap.objs.size],_,_,H1,rfl,I1.kept (t':=s1.toks) fun b o e=>xaa _ e,zbb a _,⟨_,xas _ rfl,rfl,rfl⟩,fun b hb=>?_,q⟩;have e:b=s1.heap.objs.size:=by simpa using hb
 subst e;exact I1.fpOk (xaf _) (I1.hok.fresh (xaf _))
theorem zd0 {l:Expr}{tl:TE}(hl:PE X l tl):PI X tg l (JG X.K tl):=by
 intro pins s σ H R I h;refine aP (hl pins s σ H _ I h) fun v s1 ⟨x,H1,I1,r1,q1⟩=>?_;obtain⟨a,e,⟨xs,hq⟩,q⟩:=q1;subst e;cases r1;obtain⟨its,rv,p,hz⟩:=I1.tuple hq;refine wpAny_pyIter_tuple (show s1.heap.IsTuple a its.toArray from p) ?_;refine⟨s1.heap.objs.size,[s1.heap.objs.size],_,_,H1,rfl,I1.kept (t':=s1.toks) fun b o e=>xaa _ e,za6 a _,⟨_,xas _ rfl,rfl,rfl⟩,fun b hb=>?_,q⟩;have e:b=s1.heap.objs.size:=by simpa using hb
 subst e;exact I1.fpOk (xaf _) (I1.hok.fresh (xaf _))
theorem zbB {pins:Pnx}{σ:St}{H:Hp}{s:Shared}{R:It->Hp->Prop}{E:Value->Shared->Prop}{lo hi:Int}{t u v:Tok}{tk:Nat}(I:Inv X pins σ H s)(h1: -(2 ^ 62)<=lo)(h2:lo<2 ^ 62)(h3: -(2 ^ 62)<=hi)(h4:hi<2 ^ 62)
  (q:R (Dc lo (hi - lo).toNat) H):wpAny (model X.prog X.w) X.A (pyIter (.ref s.heap.objs.size)) (PIE X pins σ tg R) E {s with heap:=s.heap.push {cls:=.type "range",data:=.fields #[.int lo t,.int hi u,.int 1 v]},toks:=tk}:=by
 refine wpAny_pyIter_range (IsRange.new ..) (small_one h1 h2 h3 h4) ?_;have I1 : Inv X pins σ H { s with heap := s.heap.push { cls := .type "range", data := .fields #[.int lo t, .int hi u, .int 1 v] }, toks := tk } := I.kept fun b o e => xaa _ e;refine ⟨(s.heap.push {cls:=.type "range",data:=.fields #[.int lo t,.int hi u,.int 1 v]}).objs.size,[(s.heap.push {cls:=.type "range",data:=.fields #[.int lo t,.int hi u,.int 1 v]}).objs.size],_,_,H,rfl,
  I1.kept (t':=tk) fun b o e=>xaa _ e,zaR _ lo (hi - lo).toNat,?_,fun b hb=>?_,q⟩
 ·have e1:lo + ((0:Nat):Int) * 1=lo:=by simp
  have e2:(((hi - lo).toNat:Nat):Int) - ((0:Nat):Int)=Builtin.Range.rangeSize lo hi 1:=by rw[rangeSize_one];split<;>omega
  show IsRangeIter _ _ (lo + ((0:Nat):Int) * 1) ((((hi - lo).toNat:Nat):Int) - ((0:Nat):Int)) 1;rw[e1,e2];exact xas _ rfl
 ·have e:b=(s.heap.push {cls:=.type "range",data:=.fields #[.int lo t,.int hi u,.int 1 v]}).objs.size:=by simpa using hb
  subst e;exact I1.fpOk (xaf _) (I1.hok.fresh (xaf _))
noncomputable def wZ (ta:TA):TI:=fun σ H R=>ta σ H fun vs H1=>∃j:Int,vs=[.int j]/\ -(2 ^ 62)<=j/\j<2 ^ 62/\R (Dc 0 j.toNat) H1
theorem zbq {a:Expr}{ta:TA}{p pos:Pos}(hg:Gl X "range")(hm:X.mg "range"=none)(ha:PA X [a] ta)(hs:starEach [a] X.env=[(false,eval a X.env)]:=by rfl):PI X tg (.Call (.Name "range" p) [a] [] pos) (wZ ta):=by
  intro pins s σ H R I h;refine Call_ (Ba I hg hm boot_range (xcb (aP (ha pos pins s σ H _ I h) fun us s1 ⟨vs,H1,I1,r1,q1⟩=>?_) hs rfl));obtain⟨j,e,q1,q2,q⟩:=q1;subst e
  cases r1 with
  |cons r rr=>
    cases rr;obtain⟨t,rfl⟩:=r;exact call_range_1 (zbB I1 (by omega) (by omega) q1 q2 (by simpa using q))
noncomputable def OD (wi:TI) (g:TG) (tb:TS):TS:=fun D σ H=>wi σ H fun J H1=>∃W:Nat->Nat->St->Hp->Prop,(∃m,W 0 m σ H1)/\∀i m σ H,W i m σ H->
 (J.stop i H/\D.nx σ H)\/(J.go i H/\∃N:St->Hp->Prop,(∀σ' H',N σ' H'->∃m',m'<m/\W (i + 1) m' σ' H')/\∀x H',J.yld i H x H'->g x σ H' fun σ2 H2=>tb {D with nx:=N,ct:=N,bk:=D.nx} σ2 H2)
noncomputable def Bt (fp:List Addr) (h:Heap):Pnx:=fp.filterMap fun b=>(h.get? b).map fun o=>(b,o)
theorem Ep (hb:b∈fp)(e:h.get? b=some o):(b,o)∈Bt fp h:=xd5.mpr ⟨b,hb,by rw[e];rfl⟩
theorem za9 (hp:p∈Bt fp h):p.1∈fp/\h.get? p.1=some p.2:=by
  obtain⟨b,hb,e⟩:=xd5.mp hp
  cases q:h.get? b with
  |none=>rw[q]at e;cases e
  |some o=>
    rw[q]at e;have e':(b,o)=p:=xav e;subst e';exact⟨hb,q⟩
theorem Inv.pinned (I:Inv X pins σ H s)(hf:∀b∈fp,eG X pins H b)(ho:∀b∈fp,∃o,s.heap.get? b=some o/\∀v,o.data≠ .cell v):Inv X (pins ++ Bt fp s.heap) σ H s:=
 I.pins_of fun p hp=>(xbr.mp hp).elim (fun z=>I.pin p (xaE _ z)) fun z=>by
  obtain⟨hb,e⟩:=za9 z;obtain⟨f0,f1,f2,_⟩:=hf p.1 hb;obtain⟨o,e',d⟩:=ho p.1 hb;rw[e]at e';cases e';exact⟨e,f0,f1,f2,d⟩
theorem Inv.unpinned (I:Inv X (pins ++ pl) σ H s):Inv X pins σ H s:=I.pins_of fun p hp=>I.pin p (xaE _ (xcJ _ hp))
theorem T_ (hp:PassesOwn (model X.prog X.w) X.A X.env X.xe)(hc:X.calm=true)(hi:PI X tg iter wi)(hg:PG X tg g)(hb:i_ X body tb)
  (hs:∀x,foldedSetIterable iter X.env x=pure x:=by intro _;rfl):PS X (.For tg iter body [] pos) (OD wi g tb):=by
 intro pins s σ H D I h;refine wpAny_For (aP (hi pins s σ H _ I h) fun v s1 h1=>aP h1 fun itv s2 h2=>?_) hs;obtain⟨it,fp,tn,J,H2,e,I2,T,st2,f2,W,⟨m0,w0⟩,turn⟩:=h2;subst e
 -- what stays true of the iterator's objects through the loop
 have stat:∀{H':Hp},(∀b∈fp,H' b=none)->∀b∈fp,eG X pins H' b:=fun hn b hb=>⟨hn b hb,(f2 b hb).2⟩;refine codeAny_forLoop_any (fun n s'=>∃i σ' H',Inv X pins σ' H' s'/\tn i s'.heap/\(∀b∈fp,H' b=none)/\W i n σ' H') ?_ m0 ⟨0,σ,H2,I2,st2,fun b hb=>(f2 b hb).1,w0⟩;rintro n s3 ⟨i,σ3,H3,I3,st3,fr3,w3⟩;rcases turn i n σ3 H3 w3 with⟨stop,qn⟩ |⟨go,N,hN,step⟩
 ·refine xcn hp (aP (T.done X rfl rfl rfl hc i pins s3 σ3 H3 X.xe I3 (stat fr3) st3 stop) fun r s4 ⟨hr,I4⟩=>?_);subst hr;exact wpAny_execs_nil ⟨σ3,H3,I4,qn⟩
 ·refine xcn hp (aP (T.item X rfl rfl rfl hc i pins s3 σ3 H3 X.xe I3 (stat fr3) st3 go) fun r s4 ⟨u,hr,h4⟩=>?_);subst hr;refine xcn hp (aP h4 fun _ s5 ⟨x,H5,I5,r5,y5,st5,fr5⟩=>?_);have I5':=I5.pinned (stat fr5) (T.obj _ _ st5);refine xcn hp (aP (hg _ s5 σ3 H5 x u _ I5' r5 (step x H5 y5)) fun _ s6 ⟨σ6,H6,I6,q6⟩=>?_);refine xcn hp (aP (hb _ s6 σ6 H6 _ I6 q6) fun f s7 q7=>?_);have again:∀{σ7:St} {H7:Hp},Inv X (pins ++ Bt fp s5.heap) σ7 H7 s7->N σ7 H7->∃m,m<n/\∃i σ' H',Inv X pins σ' H' s7/\tn i s7.heap/\(∀b∈fp,H' b=none)/\W i m σ' H':=fun {σ7 H7} I7 n7=>by
   obtain⟨m',hm,w7⟩:=hN σ7 H7 n7;refine⟨m',hm,i + 1,σ7,H7,I7.unpinned,T.keep _ _ _ st5 fun b hb o e=>(I7.pin (b,o) (xaE _ (xaE _ (Ep hb e)))).1,fun b hb=>?_,w7⟩;obtain⟨o,e,d⟩:=T.obj _ _ st5 b hb;exact(I7.pin (b,o) (xaE _ (xaE _ (Ep hb e)))).2.1
  cases f with
  |next=>obtain⟨σ7,H7,I7,n7⟩:=q7;exact again I7 n7
  |cont=>obtain⟨σ7,H7,I7,n7⟩:=q7;exact again I7 n7
  |brk=>obtain⟨σ7,H7,I7,q7⟩:=q7;exact⟨σ7,H7,I7.unpinned,q7⟩
  |ret v=>obtain⟨x7,σ7,H7,I7,r7,q7⟩:=q7;exact⟨x7,σ7,H7,I7.unpinned,r7,q7⟩
end
abbrev R2:=V->V->Hp->VK->Prop
def bY (X:Cx)(f:Value->Value->Sem Value)(r:R2):Prop:=
 ∀(pins:Pnx) (s:Shared) (σ:St) (H:Hp) (x y:V) (v u:Value) (Q:VK),Inv X pins σ H s->RelV x v->RelV y u->r x y H Q->
  wpAny (model X.prog X.w) X.A (f v u) (EP X pins σ Q) X.xe s
def Dg (X:Cx)(f:Value->Sem Value)(r:V->Hp->VK->Prop):Prop:=
 ∀(pins:Pnx) (s:Shared) (σ:St) (H:Hp) (x:V) (v:Value) (Q:VK),Inv X pins σ H s->RelV x v->r x H Q->
  wpAny (model X.prog X.w) X.A (f v) (EP X pins σ Q) X.xe s
def dH (X:Cx)(f:Value)(r:List V->Hp->VK->Prop):Prop:=
 ∀(pins:Pnx) (s:Shared) (σ:St) (H:Hp) (xs:List V) (us:List Value) (Q:VK),Inv X pins σ H s->Vals xs us->r xs H Q->
  wpAny (model X.prog X.w) X.A (call f us) (EP X pins σ Q) X.xe s
def Hz (X:Cx)(r:V->Hp->(Bool->Hp->Prop)->Prop):Prop:=
 ∀(pins:Pnx) (s:Shared) (σ:St) (H:Hp) (x:V) (v:Value) (Q:Bool->Hp->Prop),Inv X pins σ H s->RelV x v->r x H Q->
  wpAny (model X.prog X.w) X.A (truthy v) (TP X pins σ Q) X.xe s
noncomputable def CK (r:R2) (ta tb:TE):TE:=fun σ H Q=>ta σ H fun x H1=>tb σ H1 fun y H2=>r x y H2 Q
noncomputable def WD (r:V->Hp->VK->Prop) (ta:TE):TE:=fun σ H Q=>ta σ H fun x H1=>r x H1 Q
noncomputable def rI (C:Int->Int->Prop) (g:Int->Int->V):R2:=fun x y H Q=>∃i j,x=.int i/\y=.int j/\C i j/\Q (g i j) H
noncomputable def kY (g:Int->Int->V):R2:=fun x y H Q=>∃i j,x=.int i/\y=.int j/\Q (g i j) H
def rU (g:Int->V):V->Hp->VK->Prop:=fun x H Q=>∃i,x=.int i/\Q (g i) H
section
variable {X:Cx}{a b c:Expr}{ta tb tc:TE}{pos:Pos}
theorem wN (ha:PE X a ta)(hb:PE X b tb){pins:Pnx}{s:Shared}{σ:St}{H:Hp}{R:V->V->Hp->Prop}(I:Inv X pins σ H s)
  (h:ta σ H fun x H1=>tb σ H1 fun y H2=>R x y H2) {Q:Value->Shared->Prop} {f:Value->Value->Sem Value}
  (hf:∀v u s2 x y H2,Inv X pins σ H2 s2->RelV x v->RelV y u->R x y H2->wpAny (model X.prog X.w) X.A (f v u) Q X.xe s2):
  wpAny (model X.prog X.w) X.A (eval a X.env) (fun v s₁=>wpAny (model X.prog X.w) X.A (eval b X.env) (fun u s₂=>wpAny (model X.prog X.w) X.A (f v u) Q X.xe s₂) X.xe s₁) X.xe s:=by
 refine aP (ha pins s σ H _ I h) fun v s1 ⟨x,H1,I1,r1,q1⟩=>?_;refine aP (hb pins s1 σ H1 _ I1 q1) fun u s2 ⟨y,H2,I2,r2,q2⟩=>?_;exact hf v u s2 x y H2 I2 r1 r2 q2
theorem T4 {op:Operator}{r:R2}(ho:bY X (binaryOp op) r)(ha:PE X a ta)(hb:PE X b tb):PE X (.BinOp a op b pos) (CK r ta tb):=by
 intro pins s σ H Q I h;exact wpAny_BinOp (wN ha hb I h fun v u s2 x y H2 I2 rx ry q=>ho pins s2 σ H2 x y v u Q I2 rx ry q)
theorem zgb (ho:Dg X (unaryOp op) r)(ha:PE X a ta):PE X (.UnaryOp op a pos) (WD r ta):=by
 intro pins s σ H Q I h;exact UnaryOp_ (aP (ha pins s σ H _ I h) fun v s1 ⟨x,H1,I1,r1,q1⟩=>ho pins s1 σ H1 x v Q I1 r1 q1)
theorem EY {f:Value->Value->Sem Value}{C:Int->Int->Prop}{g:Int->Int->Int}
  (rule:∀(i j:Int) (t u:Tok) (s:Shared) (Q:Value->Shared->Prop) (E:Value->Shared->Prop),C i j->Q (.int (g i j) s.toks) {s with toks:=s.toks + 1}->wpAny (model X.prog X.w) X.A (f (.int i t) (.int j u)) Q E s):
  bY X f (rI C fun i j=>.int (g i j)):=by
 intro pins s σ H x y v u Q I rx ry h;obtain⟨i,j,rfl,rfl,hc,q⟩:=h;obtain⟨t,rfl⟩:=rx;obtain⟨t',rfl⟩:=ry;exact rule i j t t' s _ _ hc ⟨.int (g i j),H,I.tok _,⟨_,rfl⟩,q⟩
theorem Bl {f:Value->Value->Sem Value}{g:Int->Int->Int}
  (rule:∀(i j:Int) (t u:Tok) (s:Shared) (Q:Value->Shared->Prop) (E:Value->Shared->Prop),Q (.int (g i j) s.toks) {s with toks:=s.toks + 1}->wpAny (model X.prog X.w) X.A (f (.int i t) (.int j u)) Q E s):
  bY X f (kY fun i j=>.int (g i j)):=by
 intro pins s σ H x y v u Q I rx ry h;obtain⟨i,j,rfl,rfl,q⟩:=h;obtain⟨t,rfl⟩:=rx;obtain⟨t',rfl⟩:=ry;exact rule i j t t' s _ _ ⟨.int (g i j),H,I.tok _,⟨_,rfl⟩,q⟩
theorem rZ {f:Value->Value->Sem Value}{g:Int->Int->Bool}
  (rule:∀(i j:Int) (t u:Tok) (s:Shared) (Q:Value->Shared->Prop) (E:Value->Shared->Prop),Q (.bool (g i j)) s->wpAny (model X.prog X.w) X.A (f (.int i t) (.int j u)) Q E s):
  bY X f (kY fun i j=>.bl (g i j)):=by
 intro pins s σ H x y v u Q I rx ry h;obtain⟨i,j,rfl,rfl,q⟩:=h;obtain⟨t,rfl⟩:=rx;obtain⟨t',rfl⟩:=ry;exact rule i j t t' s _ _ ⟨.bl (g i j),H,I,rfl,q⟩
def zE (i j:Int):Prop:=0<j/\j<1073741824
def wL (i j:Int):Prop:=0<=j/\j<=1000000/\i.natAbs<2 ^ 64
def pN (i j:Int):Prop:=(-(2 ^ 64)<i/\i<2 ^ 64)\/(-(2 ^ 64)<j/\j<2 ^ 64)
theorem pN.ok (h:pN i j):IntMulOk i j:=by
 rcases h with⟨h1,h2⟩ |⟨h1,h2⟩
 ·exact .of_left (intBits_le_64 h1 h2)
 ·exact .of_right (intBits_le_64 h1 h2)
theorem zfn:bY X (binaryOp .Add) (kY fun i j=>.int (i + j)):=Bl fun _ _ _ _ _ _ _ q=>add_int q
theorem xG:bY X (binaryOp .Sub) (kY fun i j=>.int (i - j)):=Bl fun _ _ _ _ _ _ _ q=>sub_int q
theorem u_:bY X (binaryOp .FloorDiv) (rI zE fun i j=>.int (i / j)):=EY fun i j _ _ _ _ _ hc q=>by
 have h1:(0:Int)<j:=hc.1;have h2:j<1073741824:=hc.2;exact floordiv_int (by omega) (by rw[Int.fdiv_eq_ediv_of_nonneg i (by omega)];exact q) (.inl (PyProof.noPylong_small (by omega)))
theorem nq:bY X (binaryOp .Mod) (rI (fun _ j=>0<j) fun i j=>.int (i % j)):=EY fun i j _ _ _ _ _ hc q=>by
 have h1:(0:Int)<j:=hc;exact mod_int' (by omega) (by rw[Int.fmod_eq_emod_of_nonneg i (by omega)];exact q)
theorem yQ:bY X (binaryOp .Pow) (rI wL fun i j=>.int (i ^ j.toNat)):=EY fun _ _ _ _ _ _ _ hc q=>pow_int_small hc.1 hc.2.1 hc.2.2 q
theorem unI {f:Value->Sem Value}{g:Int->Int}
  (rule:∀(i:Int) (t:Tok) (s:Shared) (Q:Value->Shared->Prop) (E:Value->Shared->Prop),Q (.int (g i) s.toks) {s with toks:=s.toks + 1}->wpAny (model X.prog X.w) X.A (f (.int i t)) Q E s):
  Dg X f (rU fun i=>.int (g i)):=by
 intro pins s σ H x v Q I rx h;obtain⟨i,rfl,q⟩:=h;obtain⟨t,rfl⟩:=rx;exact rule i t s _ _ ⟨.int (g i),H,I.tok _,⟨_,rfl⟩,q⟩
theorem Pb:Dg X (unaryOp .USub) (rU fun i=>.int (-i)):=unI fun _ _ _ _ _ q=>neg_int q
end
noncomputable def sV:V->V->Bool
 |.non,.non=>true |.non,.int _=>true |.int _,.non=>true |.non,.bl _=>true |.bl _,.non=>true |.non,.str _=>true |.str _,.non=>true
 |.int _,.int _=>true |.bl _,.bl _=>true |.str _,.str _=>true |.byt _,.byt _=>true
 |.int _,.str _=>true |.str _,.int _=>true |.bl _,.str _=>true |.str _,.bl _=>true
 |_,_=>false
def rEq:R2:=fun x y H Q=>sV x y=true/\Q (.bl (decide (x=y))) H
def rNe:R2:=fun x y H Q=>sV x y=true/\Q (.bl (!decide (x=y))) H
theorem QF:decide (V.int i=V.int j)=(i==j):=by
 rw[xaL]
 simp
theorem DW:decide (V.bl i=V.bl j)=(i==j):=by
 rw[xaL]
 simp
theorem QG:decide (V.str i=V.str j)=(i==j):=by
 rw[xaL]
 simp
theorem QD:decide (V.byt i=V.byt j)=(i.toList==j.toList):=by
 rw[xaL];cases i;cases j
 simp
section
variable {X:Cx}{a b c:Expr}{ta tb tc:TE}{pos:Pos}
theorem bI (I:Inv X pins σ H s)(q:Q (.bl k) H)(e:k=k'):EP X pins σ Q (.bool k') s:=by
 subst e;exact⟨.bl k,H,I,rfl,q⟩
theorem zgo:bY X (compareOp .Eq) rEq:=by
  intro pins s σ H x y v u Q I rx ry h;obtain⟨hs,q⟩:=h
  cases x with
  |non=>
    cases rx
    cases y with
    |non=>cases ry;exact PySem.EqNone.eq_none_none (bI I q (by simp))
    |bl j=>cases ry;exact PySem.EqNone.eq_none_bool (bI I q (by simp))
    |int j=>obtain⟨t',rfl⟩:=ry;exact PySem.EqNone.eq_none_int (bI I q (by simp))
    |str j=>obtain⟨t',rfl⟩:=ry;exact PySem.EqNone.eq_none_str (bI I q (by simp))
    |_=>exact absurd (show false=true from hs) xau
  |bl i=>
    cases rx
    cases y with
    |non=>cases ry;exact PySem.EqNone.eq_bool_none (bI I q (by simp))
    |bl j=>cases ry;exact eq_bool (bI I q DW)
    |str j=>obtain⟨t',rfl⟩:=ry;exact PySem.EqMixed.eq_bool_str (bI I q (by simp))
    |_=>exact absurd (show false=true from hs) xau
  |int i=>
    obtain⟨t,rfl⟩:=rx
    cases y with
    |non=>cases ry;exact PySem.EqNone.eq_int_none (bI I q (by simp))
    |int j=>obtain⟨t',rfl⟩:=ry;exact eq_int (bI I q QF)
    |str j=>obtain⟨t',rfl⟩:=ry;exact PySem.EqMixed.eq_int_str (bI I q (by simp))
    |_=>exact absurd (show false=true from hs) xau
  |str i=>
    obtain⟨t,rfl⟩:=rx
    cases y with
    |non=>cases ry;exact PySem.EqNone.eq_str_none (bI I q (by simp))
    |bl j=>cases ry;exact PySem.EqMixed.eq_str_bool (bI I q (by simp))
    |int j=>obtain⟨t',rfl⟩:=ry;exact PySem.EqMixed.eq_str_int (bI I q (by simp))
    |str j=>obtain⟨t',rfl⟩:=ry;exact eq_str (bI I q QG)
    |_=>exact absurd (show false=true from hs) xau
  |byt i=>
    obtain⟨t,rfl⟩:=rx
    cases y with
    |byt j=>obtain⟨t',rfl⟩:=ry;exact PySem.W.eq_bytes (bI I q QD)
    |_=>exact absurd (show false=true from hs) xau
  |_=>cases y<;>exact absurd (show false=true from hs) xau
theorem zgA:bY X (compareOp .NotEq) rNe:=by
  intro pins s σ H x y v u Q I rx ry h;obtain⟨hs,q⟩:=h
  cases x with
  |non=>
    cases rx
    cases y with
    |non=>cases ry;exact PySem.EqNone.ne_none_none (bI I q (by simp))
    |bl j=>cases ry;exact PySem.EqNone.ne_none_bool (bI I q (by simp))
    |int j=>obtain⟨t',rfl⟩:=ry;exact PySem.EqNone.ne_none_int (bI I q (by simp))
    |str j=>obtain⟨t',rfl⟩:=ry;exact PySem.EqNone.ne_none_str (bI I q (by simp))
    |_=>exact absurd (show false=true from hs) xau
  |bl i=>
    cases rx
    cases y with
    |non=>cases ry;exact PySem.EqNone.ne_bool_none (bI I q (by simp))
    |bl j=>cases ry;exact ne_bool (bI I q (congrArg not DW))
    |str j=>obtain⟨t',rfl⟩:=ry;exact PySem.EqMixed.ne_bool_str (bI I q (by simp))
    |_=>exact absurd (show false=true from hs) xau
  |int i=>
    obtain⟨t,rfl⟩:=rx
    cases y with
    |non=>cases ry;exact PySem.EqNone.ne_int_none (bI I q (by simp))
    |int j=>obtain⟨t',rfl⟩:=ry;exact ne_int (bI I q (congrArg not QF))
    |str j=>obtain⟨t',rfl⟩:=ry;exact PySem.EqMixed.ne_int_str (bI I q (by simp))
    |_=>exact absurd (show false=true from hs) xau
  |str i=>
    obtain⟨t,rfl⟩:=rx
    cases y with
    |non=>cases ry;exact PySem.EqNone.ne_str_none (bI I q (by simp))
    |bl j=>cases ry;exact PySem.EqMixed.ne_str_bool (bI I q (by simp))
    |int j=>obtain⟨t',rfl⟩:=ry;exact PySem.EqMixed.ne_str_int (bI I q (by simp))
    |str j=>obtain⟨t',rfl⟩:=ry;exact ne_str (bI I q (congrArg not QG))
    |_=>exact absurd (show false=true from hs) xau
  |byt i=>
    obtain⟨t,rfl⟩:=rx
    cases y with
    |byt j=>obtain⟨t',rfl⟩:=ry;exact PySem.W.ne_bytes (bI I q (congrArg not QD))
    |_=>exact absurd (show false=true from hs) xau
  |_=>cases y<;>exact absurd (show false=true from hs) xau
theorem zgN:bY X (compareOp .Lt) (kY fun i j=>.bl (decide (i<j))):=rZ fun _ _ _ _ _ _ _ q=>lt_int q
theorem zfz:bY X (compareOp .LtE) (kY fun i j=>.bl (decide (i<=j))):=rZ fun _ _ _ _ _ _ _ q=>le_int q
theorem zfE:bY X (compareOp .Gt) (kY fun i j=>.bl (decide (j<i))):=rZ fun _ _ _ _ _ _ _ q=>gt_int q
theorem zgg:bY X (compareOp .GtE) (kY fun i j=>.bl (decide (j<=i))):=rZ fun _ _ _ _ _ _ _ q=>ge_int q
theorem zbk:bY X (compareOp .In) (fun x y H Q=>∃i j,x=.str i/\y=.str j/\Q (.bl (!(Builtin.Str.occurrences j i 0 j.length 1).isEmpty)) H):=by
 intro pins s σ H x y v u Q I rx ry h;obtain⟨i,j,rfl,rfl,q⟩:=h;obtain⟨t,rfl⟩:=rx;obtain⟨t',rfl⟩:=ry;exact in_str (bI I q rfl)
theorem zet:bY X (compareOp .Is) (fun x y H Q=>y=.non/\Q (.bl (decide (x=.non))) H):=by
 intro pins s σ H x y v u Q I rx ry h;obtain⟨rfl,q⟩:=h;cases ry;refine is_none_gen (bI I q ?_);cases x<;>first
  |(cases rx;rfl)
  |(obtain⟨t,rfl⟩:=rx;rfl)
theorem zde:bY X (compareOp .IsNot) (fun x y H Q=>y=.non/\Q (.bl (!decide (x=.non))) H):=by
 intro pins s σ H x y v u Q I rx ry h;obtain⟨rfl,q⟩:=h;cases ry;refine isnot_none_gen (bI I q ?_);cases x<;>first
  |(cases rx;rfl)
  |(obtain⟨t,rfl⟩:=rx;rfl)
theorem zaG:bY X (compareOp .NotIn) (fun x y H Q=>∃i j,x=.str i/\y=.str j/\Q (.bl (!(!(Builtin.Str.occurrences j i 0 j.length 1).isEmpty))) H):=by
 intro pins s σ H x y v u Q I rx ry h;obtain⟨i,j,rfl,rfl,q⟩:=h;obtain⟨t,rfl⟩:=rx;obtain⟨t',rfl⟩:=ry;exact notIn_str (bI I q rfl)
theorem bY.or (h:bY X f r)(h':bY X f r'):bY X f (fun x y H Q=>r x y H Q\/r' x y H Q):=by
 intro pins s σ H x y v u Q I rx ry q;rcases q with q |q
 ·exact h pins s σ H x y v u Q I rx ry q
 ·exact h' pins s σ H x y v u Q I rx ry q
theorem zcW {op:CmpOp}{r:R2}(ho:bY X (compareOp op) r)(ha:PE X a ta)(hb:PE X b tb)(hm:behindInMarks op b=false):PE X (.Compare a [op] [b] pos) (CK r ta tb):=by
 intro pins s σ H Q I h;exact wpAny_Compare1 (wN ha hb I h fun v u s2 x y H2 I2 rx ry q=>ho pins s2 σ H2 x y v u Q I2 rx ry q) hm
noncomputable def Wz (t:TE):TT:=fun σ H Q=>t σ H fun x H'=>∃k,x=.bl k/\Q k H'
theorem zcD (ho:bY X (compareOp op) r)(ha:PE X a ta)(hb:PE X b tb)(hm:behindInMarks op b=false):PT X (.Compare a [op] [b] pos) (Wz (CK r ta tb)):=by
 intro pins s σ H Q I h;refine wpAny_isTrue_Compare1 (aP (ha pins s σ H _ I h) fun v s1 ⟨x,H1,I1,r1,q1⟩=>aP (hb pins s1 σ H1 _ I1 q1) fun u s2 ⟨y,H2,I2,r2,q2⟩=>
  aP (ho pins s2 σ H2 x y v u _ I2 r1 r2 q2) fun c s3 ⟨z,H3,I3,r3,k,e,q3⟩=>?_) hm
 subst e;cases r3;exact xbK ⟨H3,I3,q3⟩
def pP (K:Fgx)(x:V)(H:Hp)(k:Bool):Prop:=
 match x with
 |.non=>k=false
 |.bl b=>k=b
 |.int i=>k=(i !=0)
 |.str y=>y.length<=sizeLine/\k=((y.length:Int) !=0)
 |.byt y=>y.size<=sizeLine/\k=((y.size:Int) !=0)
 |.ref p=>(∃xs,bU K H p xs/\k= !xs.isEmpty)\/(∃xs,c7 K H p xs/\k= !xs.isEmpty)\/∃kvs,H p=some (.dK kvs)/\k= !kvs.isEmpty
 |_=>False
theorem Zw (r:KV kvs vs):(!vs.isEmpty)= !kvs.isEmpty:=by
 cases r<;>rfl
theorem Rw (r:Vals xs its):(!its.toArray.isEmpty)= !xs.isEmpty:=by
 cases r<;>simp
theorem rR:(sizeLine:Nat)<2 ^ 63:=by rw[xaG];decide
theorem WX:Hz X (fun x H Q=>∃k,pP X.K x H k/\Q k H):=by
  intro pins s σ H x v Q I rx h;obtain⟨k,e,q⟩:=h;have hl:=rR;have hs:sizeLine=16777216:=xaG
  cases x with
  |non=>
    cases rx;have e':k=false:=e;subst e';exact truthy_none ⟨H,I,q⟩
  |bl b=>
    cases rx;have e':k=b:=e;subst e';exact xbK ⟨H,I,q⟩
  |int i=>
    obtain⟨t,rfl⟩:=rx;have e':k=(i !=0):=e;subst e';exact PySem.P.truthy_int ⟨H,I,q⟩
  |str y=>
    obtain⟨t,rfl⟩:=rx;obtain⟨hy,e'⟩:y.length<=sizeLine/\k=((y.length:Int) !=0):=e;subst e';exact PySem.P.truthy_str (by omega) ⟨H,I.tok _,q⟩
  |byt y=>
    obtain⟨t,rfl⟩:=rx;obtain⟨hy,e'⟩:y.size<=sizeLine/\k=((y.size:Int) !=0):=e;subst e';exact PySem.W.truthy_bytes (by omega) ⟨H,I.tok _,q⟩
  |ref p=>
    cases rx;have e':(∃xs,bU X.K H p xs/\k= !xs.isEmpty)\/(∃xs,c7 X.K H p xs/\k= !xs.isEmpty)\/∃kvs,H p=some (.dK kvs)/\k= !kvs.isEmpty:=e;rcases e' with⟨xs,hx,e'⟩ |⟨xs,hx,e'⟩ |⟨kvs,hx,e'⟩
    · subst e';obtain⟨its,r,pl,hz⟩:=I.list hx;have hlen:=r.length;exact wpAny_truthy_list pl.isList (by simp only[xae];omega) ⟨H,I.tok _,by rw[Rw r];exact q⟩
    · subst e';obtain⟨its,r,pl,hz⟩:=I.tuple hx;have hlen:=r.length;exact truthy_tuple pl (by simp only[xae];omega) ⟨H,I.tok _,by rw[Rw r];exact q⟩
    · subst e';obtain⟨hz,hS,vs,r,m⟩:kvs.length<=sizeLine/\(p==sysModules)=false/\∃vs,KV kvs vs/\s.heap.DictOf (pG X.prog X.w) p vs:=I.hok p _ hx;have hlen:kvs.length=vs.length:=Paired.length r;exact wpAny_truthy_dict hS m (by omega) ⟨H,I.tok _,by rw[Zw r];exact q⟩
  |_=>exact(show False from e).elim
theorem zbG (ha:PE X a ta)(he:∀whole,isTrue a X.env whole=(do let v <-whole;standAt a.pos;holding [v] (truthy v))):
  PT X a (fun σ H Q=>ta σ H fun x H'=>∃k,pP X.K x H' k/\Q k H'):=by
 intro pins s σ H Q I h;exact isTrue_plain (aP (ha pins s σ H _ I h) fun v s1 ⟨x,H1,I1,r1,q1⟩=>WX pins s1 σ H1 x v Q I1 r1 q1) (he _)
theorem zaS:bY X (binaryOp .Add) (fun x y H Q=>∃i j,x=.str i/\y=.str j/\i.length + j.length<=sizeLine/\Q (.str (i ++ j)) H):=by
 intro pins s σ H x y v u Q I rx ry h;obtain⟨i,j,rfl,rfl,hz,q⟩:=h;obtain⟨t,rfl⟩:=rx;obtain⟨t',rfl⟩:=ry;exact add_str (fun t' tk=>⟨.str (i ++ j),H,I.tok _,⟨_,rfl⟩,q⟩) hz
theorem vals1 (r:Vals [x] us):∃u,us=[u]/\RelV x u:=by
 cases r with
 |cons r1 r2=>cases r2;exact⟨_,rfl,r1⟩
theorem vals2 (r:Vals [x,y] us):∃u w',us=[u,w']/\RelV x u/\RelV y w':=by
  cases r with
  |cons r1 r2=>
    cases r2 with
    |cons r3 r4=>cases r4;exact⟨_,_,rfl,r1,r3⟩
theorem Qm:dH X (.builtin "abs") (fun xs H Q=>∃i,xs=[.int i]/\Q (.int (if i<0 then -i else i)) H):=by
 intro pins s σ H xs us Q I r h;obtain⟨i,rfl,q⟩:=h;obtain⟨u,rfl,t,rfl⟩:=vals1 r;exact call_abs_int fun u tk=>⟨.int (if i<0 then -i else i),H,I.tok _,⟨_,rfl⟩,q⟩
theorem yu (hc:X.calm=true):dH X (.builtin "max") (fun xs H Q=>∃i j,xs=[.int i,.int j]/\Q (.int (if j > i then j else i)) H):=by
 intro pins s σ H xs us Q I r h;obtain⟨i,j,rfl,q⟩:=h;obtain⟨u,w',rfl,⟨t,rfl⟩,⟨t',rfl⟩⟩:=vals2 r;refine max_two_ints (I.ok.hd hc) fun h' tk k=>⟨_,H,I.kept k,?_,q⟩
 by_cases hj:j > i
 ·rw[xab hj,xab hj];exact⟨_,rfl⟩
 ·rw[xad hj,xad hj];exact⟨_,rfl⟩
theorem DK (hc:X.calm=true):dH X (.builtin "min") (fun xs H Q=>∃i j,xs=[.int i,.int j]/\Q (.int (if j<i then j else i)) H):=by
 intro pins s σ H xs us Q I r h;obtain⟨i,j,rfl,q⟩:=h;obtain⟨u,w',rfl,⟨t,rfl⟩,⟨t',rfl⟩⟩:=vals2 r;refine min_two_ints (I.ok.hd hc) fun h' tk k=>⟨_,H,I.kept k,?_,q⟩
 by_cases hj:j<i
 ·rw[xab hj,xab hj];exact⟨_,rfl⟩
 ·rw[xad hj,xad hj];exact⟨_,rfl⟩
theorem XM:dH X (.type "str") (fun xs H Q=>∃i,xs=[.int i]/\i.natAbs.log2<1920/\Q (.str (toString i)) H):=by
 intro pins s σ H xs us Q I r h;obtain⟨i,rfl,hz,q⟩:=h;obtain⟨u,rfl,t,rfl⟩:=vals1 r;exact PySem.P.str_of_int hz ⟨.str _,H,I.tok _,⟨_,rfl⟩,q⟩
end
structure ObjM (h:Heap)(x dx C:Addr)(mA:Mgx):Prop where
 obj:h.get? x=some (PySem.W.instObj C dx)
 ns:h.Ns1 dx mA
 ne:dx≠x
theorem zbp {h:Heap}{dx:Addr}{mA:Mgx}(n:h.Ns1 dx mA):∃od,h.get? dx=some od/\∀name,PySem.W.lookIn name od=some (mA name):=by
 obtain⟨o,es,ep,ho,hd,hk,_,hm⟩:=n;refine⟨o,ho,fun name=>?_⟩;have e:=hm name;unfold nsFind findBy at e;rw[<-xd6]at e;unfold PySem.W.lookIn;rw[hd];dsimp only
 split
 ·rename_i y q;rw[q]at e;exact congrArg some e
 ·rename_i q;rw[q]at e;have a:es.toList.any (·.refKey)=false:=by
   rw[List.any_eq_false];intro y hy;obtain⟨z,t,hkey⟩:=hk y (xdT.mp hy)
   simp[DictEntry.refKey,hkey]
  have a':¬ es.toList.any (·.refKey)=true:=by rw[a];exact xau
  rw[xad a'];exact congrArg some e
theorem ObjM.look (I:ObjM h x dx C mA):∃od,PySem.W.InstAt h x (PySem.W.instObj C dx) C (some od)/\∀name,PySem.W.lookIn name od=some (mA name):=
 let ⟨od,ho,hl⟩:=zbp I.ns
 ⟨od,⟨I.obj,rfl,rfl,ho⟩,hl⟩
section
variable {prog:Program}{w:World}{A:Around}{E:Value->Shared->Prop}{s:Shared}{K:Fgx}{x dx C f:Addr}{mA:Mgx}{name:Str}{v:Value}
theorem get_map (X:K.In s.heap)(I:ObjM s.heap x dx C mA)(hg:PySem.W.plainGet K C name=true)(hh:PySem.W.hasDictIn K C=true)
  (ha:PySem.W.findIn K (.ref C) name=some none) (hv:mA name=some v) (hv':PySem.W.handedIn v=true) (h:Q v {s with toks:=s.toks + 1}):
  wpAny (model prog w) A (getAttr (.ref x) name expr) Q E s:=by
 obtain⟨od,J,hl⟩:=I.look;exact PySem.W.get_value X J (xbV hg).1 (PySem.W.findObj_own hh ha rfl (by rw[hl,hv])) hv' h
theorem Zc (X:K.In s.heap)(I:ObjM s.heap x dx C mA)(hg:PySem.W.plainGet K C name=true)
  (hf:PySem.W.findIn K (.ref C) name=some (some (.ref f))) (ht:PySem.W.isFn K (.ref f)=true) (hv:mA name=none) (h:Q (.ref f,[.ref x]) s):
  wpAny (model prog w) A (getMethod (.ref x) name pl) Q E s:=by
 obtain⟨od,J,hl⟩:=I.look;exact PySem.W.method_fn X J (xbV hg).1 (xbV hg).2 hf (xbh.mp ht) (by show(PySem.W.lookIn name od).map (·.isSome)=some false;rw[hl,hv];rfl) h
theorem zc9 (X:K.In s.heap)(I:ObjM s.heap x dx C mA)
  (hs:PySem.W.findIn K (.ref C) "__setattr__"=some (some (.builtin "object.__setattr__"))) (hp:PySem.W.plainOver K C=true) (ht:PySem.W.takerIn K C name=some none) (hh:PySem.W.hasDictIn K C=true)
  (hw:PySem.Within mA ns) (hsz:ns.length<=sizeLine)
  (h:∀h',ObjM h' x dx C (fun y=>if y=name then some v else mA y)->Heap.SameBut dx s.heap h'->Q () {s with heap:=h',toks:=s.toks + 2}):
  wpAny (model prog w) A (setAttr (.ref x) name v) Q E s:=by
 obtain⟨od,J,hl⟩:=I.look;refine PySem.W.set_plain X J hs (PySem.W.osa_open (s:={s with toks:=s.toks + 1}) (r:=none) X J hp ht fun b=>?_);obtain⟨cd,hc,hd'⟩:=PySem.W.any_some hh;have hx:s.heap.get? x=some ⟨.ref C,some dx,.plain, #[]⟩:=I.obj;refine tG (xah (tG (tG (wpAny_loadPart hx (tG (PySem.W.Looks.here (s:={s with toks:=s.toks + 1}) (PySem.W.looks_clsIn X hc) ?_))))));rw[hd'];refine xah (a:=some dx) (tG (xah (tG ?_)));refine wpAny_nsSet1 (s:={s with toks:=s.toks + 1}) I.ns fun h' hn2 hs2=>?_;obtain⟨oD,esD,epD,hoD,hdD,hcD⟩:=hn2.count (PySem.Within.cons name v hw);refine tG (wpAny_lookBehind hoD (by rw[hdD];exact pastItsLine_dict (xaB hcD (by rw[xao];omega))) ?_);exact xah (h _ ⟨(hs2.2 _ (xbu I.ne)).trans I.obj,hn2,I.ne⟩ hs2)
theorem zb7 (X:K.In s.heap)(hm:PySem.W.makesIn K C=true)
  (hi:PySem.W.findIn K (.ref C) "__init__"=some (some (.ref f))) (hf:PySem.W.typeIn K (.ref f)=some (.type "function"))
  (h:codeAny (model prog w) (A.under (.builtin "type.__call__" ⟨.ref C::vs,kw⟩)) (.call (.ref f) ⟨.ref (s.heap.objs.size + 1)::vs,kw⟩) (PySem.W.InitBack (s.heap.objs.size + 1) R)
   {s with heap:=(s.heap.push PySem.W.emptyDict).push (PySem.W.instObj C s.heap.objs.size)}):
  codeAny (model prog w) A (.call (.ref C) ⟨vs,kw⟩) R s:=by
 obtain⟨hh,g,d,t,os⟩:=s;exact PySem.W.make_core (PySem.W.makes_of X hm) (PySem.W.looks_findIn X hi) (fun self=>PySem.W.bind_fn X self hf) (.inl rfl) h
end
noncomputable def bK (f:Str) (v:V):List (Str×V)->List (Str×V)
 | []=>[(f,v)]
 |(g,x)::r=>if g=f then(g,v)::r else(g,x)::bK f v r
theorem Sx (f g:Str)(v:V):∀fs:List (Str×V),(bK f v fs).lookup g=if g=f then some v else fs.lookup g
  | []=>by
    show List.lookup g [(f,v)]=_
    by_cases h:g=f
    · have hb:(g==f)=true:=xbh.mpr h;simp only[List.lookup,hb,xab h]
    · have hb:(g==f)=false:=xaW.mpr h;simp only[List.lookup,hb,xad h]
  |(k,x)::r=>by
    have ih:=Sx f g v r;rw[show bK f v ((k,x)::r)=(if k=f then(k,v)::r else(k,x)::bK f v r) from rfl]
    by_cases hk:k=f
    · rw[xab hk]
      by_cases h:g=k
      · have hb:(g==k)=true:=xbh.mpr h;simp only[List.lookup,hb,xab (h.trans hk)]
      · have hb:(g==k)=false:=xaW.mpr h;simp only[List.lookup,hb,xad (fun e:g=f=>h (e.trans hk.symm))]
    · rw[xad hk]
      by_cases h:g=k
      · have hb:(g==k)=true:=xbh.mpr h;simp only[List.lookup,hb,xad (fun e:g=f=>hk (h.symm.trans e))]
      · have hb:(g==k)=false:=xaW.mpr h;simp only[List.lookup,hb];exact ih
theorem JT (f:Str)(v:V):∀fs:List (Str×V),f∈(bK f v fs).map (·.1)/\∀g,g∈fs.map (·.1)->g∈(bK f v fs).map (·.1)
  | []=>⟨by simp[bK],fun g h=>by simp at h⟩
  |(k,x)::r=>by
    obtain⟨i1,i2⟩:=JT f v r;rw[show bK f v ((k,x)::r)=(if k=f then(k,v)::r else(k,x)::bK f v r) from rfl]
    by_cases hk:k=f
    · rw[xab hk];subst hk;exact⟨by simp,fun g h=>by simpa using h⟩
    · rw[xad hk];refine⟨?_,fun g h=>?_⟩
      · rw[xaI];exact xak _ i1
      · rw[xaI]at h ⊢;rcases xaJ.mp h with e |e
        · exact xaJ.mpr (.inl e)
        · exact xak _ (i2 g e)
theorem R7 (f:Str)(v:V):∀fs:List (Str×V),(bK f v fs).length<=fs.length + 1
  | []=>by simp[bK]
  |(k,x)::r=>by
    have ih:=R7 f v r;rw[show bK f v ((k,x)::r)=(if k=f then(k,v)::r else(k,x)::bK f v r) from rfl]
    by_cases hk:k=f
    · rw[xab hk,xao,xao];omega
    · rw[xad hk,xao,xao];omega
theorem eN.some_of (r:eN (some v) o):∃u,o=some u/\RelV v u:=by
 cases o with
 |none=>exact(show False from r).elim
 |some u=>exact⟨u,rfl,r⟩
theorem eN.none_of (r:eN none o):o=none:=by
 cases o with
 |none=>rfl
 |some u=>exact(show False from r).elim
theorem Zf (r:RelV v u):PySem.W.handedIn u=true:=by
 cases v with
 |non=>cases (show u=Value.none from r);rfl
 |bl b=>cases (show u=Value.bool b from r);rfl
 |int i=>obtain⟨t,e⟩:=(show ∃t,u=Value.int i t from r);cases e;rfl
 |str x=>obtain⟨t,e⟩:=(show ∃t,u=Value.str x t from r);cases e;rfl
 |byt b=>obtain⟨t,e⟩:=(show ∃t,u=Value.bytes b t from r);cases e;rfl
 |flt b=>obtain⟨t,e⟩:=(show ∃t,u=Value.float b t from r);cases e;rfl
 |ref a=>cases (show u=Value.ref a from r);rfl
 |ty n=>cases (show u=Value.type n from r);rfl
section
variable {P:Program}{w:World}{H H':Hp}{h h':Heap}{a C dx:Addr}{fs fs':List (Str×V)}
theorem Ao (hok:cN P w H h)(e:H a=some (.ins C dx fs)):∃mA,ObjM h a dx C mA/\(∀f,eN (fs.lookup f) (mA f))/\PySem.Within mA (fs.map (·.1))/\fs.length<=1000/\H dx=some (.own a):=by
 obtain⟨d,z,ne,ob,mA,n,r,q⟩:=(show dI P w H h a (.ins C dx fs) from hok a _ e);exact⟨mA,⟨ob,n,ne⟩,r,q,z,d⟩
end
structure Cls (K:Fgx)(C:Addr):Prop where
 pg:PySem.W.plainGet K C Str.empty=true
 hd:PySem.W.hasDictIn K C=true
 po:PySem.W.plainOver K C=true
 sa:PySem.W.findIn K (.ref C) "__setattr__"=some (some (.builtin "object.__setattr__"))
theorem Cls.get {K:Fgx}{C:Addr}(c:Cls K C)(f:Str):PySem.W.plainGet K C f=true:=c.pg
def gG (K:Fgx)(C:Addr)(f:Str):Prop:=PySem.W.findIn K (.ref C) f=some none
theorem gG.taker {K:Fgx}{C:Addr}{f:Str}(n:gG K C f):PySem.W.takerIn K C f=some none:=by
 unfold PySem.W.takerIn;rw[show PySem.W.findIn K (.ref C) f=some none from n];rfl
structure Con (K:Fgx)(C:Addr)(f:Str)(v:V)(u:Value):Prop where
 at_:PySem.W.findIn K (.ref C) f=some (some u)
 rel:RelV v u
 get:PySem.W.specialIn K u "__get__"=some none
 cp:PySem.W.copiedNames.contains f=false
structure Meth (K:Fgx)(C:Addr)(m:Str)(f:Addr):Prop where
 at_:PySem.W.findIn K (.ref C) m=some (some (.ref f))
 fn:PySem.W.isFn K (.ref f)=true
 kp:PySem.W.keepIn K (.ref f)=true
section
variable {X:Cx}{pins:Pnx}{σ:St}{H:Hp}{s:Shared}{a C dx:Addr}{fs:List (Str×V)}{f:Str}{v:V}{A:Around}{E:Value->Shared->Prop}
theorem Rn (I:Inv X pins σ H s)(e:H a=some (.ins C dx fs))(c:Cls X.K C)(n:gG X.K C f)(l:fs.lookup f=some v)
  (h:∀u s',Inv X pins σ H s'->RelV v u->Q u s'):wpAny (model X.prog X.w) A (getAttr (.ref a) f b) Q E s:=by
 obtain⟨mA,O,r,_,_,_⟩:=Ao I.hok e;obtain⟨u,hu,ru⟩:=eN.some_of (v:=v) (o:=mA f) (by rw[<-l];exact r f);exact get_map I.kIn O (c.get f) c.hd n hu (Zf ru) (h u _ (I.tok _) ru)
theorem Ro (I:Inv X pins σ H s)(e:H a=some (.ins C dx fs))(c:Cls X.K C)(k:Meth X.K C m g)(l:fs.lookup m=none)
  (h:Q (.ref g,[.ref a]) s):wpAny (model X.prog X.w) A (getMethod (.ref a) m pl) Q E s:=by
 obtain⟨mA,O,r,_,_,_⟩:=Ao I.hok e;have hn:mA m=none:=eN.none_of (by rw[<-l];exact r m);exact Zc I.kIn O (c.get m) k.at_ k.fn hn h
theorem za7 (I:Inv X pins σ H s)(e:H a=some (.ins C dx fs))(c:Cls X.K C)(n:gG X.K C f)(hl:fs.length<1000)(ry:RelV y u)
  (h:∀s',Inv X pins σ (upd H a (.ins C dx (bK f y fs))) s'->Q () s'):wpAny (model X.prog X.w) A (setAttr (.ref a) f u) Q E s:=by
 obtain⟨mA,O,r,wi,_,ho⟩:=Ao I.hok e;have hz:(fs.map (·.1)).length<=sizeLine:=by rw[xal,xaG];omega
 refine zc9 I.kIn O c.sa c.po n.taker c.hd wi hz fun h' O' sb=>h _ ?_;have hd:∃o,h'.get? dx=some o:=let ⟨o,_,_,e',_⟩:=O'.ns;⟨o,e'⟩
 refine I.write (x:=a) (e:=dx) (by rw[e];exact True.intro) (.inr ho) (fun b q hb z=>(sb.2 b hb).trans z) hd ?_;refine⟨by rw[aU O.ne];exact ho,?_,O.ne,O'.obj,_,O'.ns,fun g=>?_,fun g hg=>?_⟩
 ·have:=R7 f y fs;omega
 ·show eN ((bK f y fs).lookup g) (if g=f then some u else mA g)
  rw[Sx]
  by_cases q:g=f
  ·rw[xab q,xab q];exact ry
  ·rw[xad q,xad q];exact r g
 ·by_cases q:g=f
  ·rw[q];exact(JT f y fs).1
  ·refine(JT f y fs).2 g (wi g fun z=>hg ?_);show(if g=f then some u else mA g)=none
   rw[xad q];exact z
theorem Inv.made (I:Inv X pins σ H s):Inv X pins σ (upd (upd H s.heap.objs.size (.own (s.heap.objs.size + 1))) (s.heap.objs.size + 1) (.ins C s.heap.objs.size []))
  {s with heap:=(s.heap.push PySem.W.emptyDict).push (PySem.W.instObj C s.heap.objs.size)}:=by
 have e1:(s.heap.push PySem.W.emptyDict).get? s.heap.objs.size=some PySem.W.emptyDict:=xas s.heap rfl;have e2:((s.heap.push PySem.W.emptyDict).push (PySem.W.instObj C s.heap.objs.size)).get? (s.heap.objs.size + 1)=some (PySem.W.instObj C s.heap.objs.size):=by
  have:=xas (s.heap.push PySem.W.emptyDict) (o:=PySem.W.instObj C s.heap.objs.size) rfl
  rwa [xb7]at this
 have e3:(s.heap.push PySem.W.emptyDict).Ns s.heap.objs.size (fun _=>none):=⟨PySem.W.emptyDict, #[],_,e1,rfl,(fun e he=>absurd he (by simp)),fun _=>rfl⟩;have I1:=I.laid (a:=s.heap.objs.size) (o:=.own (s.heap.objs.size + 1)) (h':=s.heap.push PySem.W.emptyDict) (t':=s.toks) (fun b u q=>xaa _ q) (xaf _) ⟨_,e1⟩;refine I1.laid (a:=s.heap.objs.size + 1) (o:=.ins C s.heap.objs.size []) (t':=s.toks) (fun b u q=>xaa _ q) (xcK (xb7 _ _)) ?_;have ne:s.heap.objs.size≠s.heap.objs.size + 1:=xay (xbe _);refine⟨by rw[aU ne,bW],xbg _,ne,e2,fun _=>none,(Heap.Ns1.of_empty e3).at fun o q=>xaa _ q,fun _=>True.intro,fun y hy=>absurd rfl hy⟩
theorem Xn (hb:attributeBase e f env (eval e env)=eval e env)
  (h:wpAny (model prog w) A (eval e env) (fun o s₁=>wpAny (model prog w) A (getAttr o f true) Q E s₁) E s):wpAny (model prog w) A (eval (.Attribute e f pos) env) Q E s:=
 Attribute_any_ h (by rw[arm_eval_Attribute,hb])
end
noncomputable def Oz (K:Fgx) (ta:TE) (f:Str):TE:=fun σ H Q=>ta σ H fun x H1=>∃a C dx fs v,x=.ref a/\H1 a=some (.ins C dx fs)/\Cls K C/\gG K C f/\fs.lookup f=some v/\Q v H1
noncomputable def Ny (K:Fgx) (ta tv:TE) (f:Str):TS:=fun D σ H=>tv σ H fun y H1=>ta σ H1 fun x H2=>∃a C dx fs,x=.ref a/\H2 a=some (.ins C dx fs)/\Cls K C/\gG K C f/\fs.length<1000/\
 D.nx σ (upd H2 a (.ins C dx (bK f y fs)))
section
variable {X:Cx}{o e value:Expr}{f:Str}{pos pos' tpos:Pos}{ta tv:TE}
theorem ze2 (he:PE X e ta)(hb:attributeBase e f X.env (eval e X.env)=eval e X.env):PE X (.Attribute e f pos) (Oz X.K ta f):=by
 intro pins s σ H Q I h;refine Xn hb (aP (he pins s σ H _ I h) fun u s1 ⟨x,H1,I1,rx,a,C,dx,fs,v,ex,ea,c,n,l,q⟩=>?_);subst ex;obtain rfl:u=Value.ref a:=rx;exact Rn I1 ea c n l fun u' s2 I2 ru=>⟨v,H1,I2,ru,q⟩
theorem zee (ha:PE X o ta)(hv:PE X value tv)(hs:swapsWith value (some (.Attribute o f pos')) pos.line X.env=pure false):PS X (.Assign [.Attribute o f pos'] value pos) (Ny X.K ta tv f):=by
 intro pins s σ H D I h;refine plainObj_wpAny_Assign_Attribute (aP (hv pins s σ H _ I h) fun u s1 ⟨y,H1,I1,ry,q⟩=>aP (ha pins s1 σ H1 _ I1 q) fun ov s2 ⟨x,H2,I2,rx,a,C,dx,fs,ex,ea,c,n,l,q2⟩=>?_) hs;subst ex;obtain rfl:ov=Value.ref a:=rx;exact za7 I2 ea c n l ry fun s3 I3=>⟨σ,_,I3,q2⟩
noncomputable def xJ:V->V->Hp->VK->Prop:=fun x y H Q=>∃i j,x=.int i/\y=.int j/\Q (.int (i + j)) H
end
section
variable {X:Cx}{pins:Pnx}{σ:St}{H:Hp}{s:Shared}{A:Around}{E:Value->Shared->Prop}{Q:Value->Shared->Prop}{c:Value}{b:Bool}
inductive TyOf (K:Fgx)(H:Hp):V->Value->Prop where
 |non:TyOf K H .non (.type "NoneType")
 |bl (x:Bool):TyOf K H (.bl x) (.type "bool")
 |int (i:Int):TyOf K H (.int i) (.type "int")
 |str (x:Str):TyOf K H (.str x) (.type "str")
 |flt (x:UInt64):TyOf K H (.flt x) (.type "float")
 |lst {a:Addr} {xs:List V} (e:H a=some (.lst xs)):TyOf K H (.ref a) (.type "list")
 |frz {a:Addr} {o:Obj} {xs:List V} (e:H a=some (.frz o (.lst xs))):TyOf K H (.ref a) (.type "list")
 |tup {a:Addr} {xs:List V} (e:H a=some (.tup xs)):TyOf K H (.ref a) (.type "tuple")
 |dK {a:Addr} {kvs:List (Key×V)} (e:H a=some (.dK kvs)):TyOf K H (.ref a) (.type "dict")
 |dT {a:Addr} {kvs:List (List Key×V)} (e:H a=some (.dT kvs)):TyOf K H (.ref a) (.type "dict")
 |ins {a C dx:Addr} {fs:List (Str×V)} (e:H a=some (.ins C dx fs)) (cl:Cls K C) (ha:PySem.W.findIn K (.ref C) "__class__"=some (some (.builtin "object.__class__")))
   (hn:PySem.W.specialIn K (.builtin "object.__class__") "__get__"=some (some (.builtin "getset_descriptor.__get__"))) (htk:PySem.W.takesIn K (.builtin "object.__class__")=some true)
   (hm:PySem.W.mroIn K C (.type "object")=some true):TyOf K H (.ref a) (.ref C)
theorem Ef (I:Inv X pins σ H s)(rx:RelV x u)(ty:TyOf X.K H x t)(e:PySem.W.kitOne X.K t c=some b)(h:∀tk,Q (.bool b) {s with toks:=tk}):
    wpAny (model X.prog X.w) A (call (.builtin "isinstance") [u,c]) Q E s:=by
  cases ty with
  |non=>cases (show u=Value.none from rx);exact xaP PySem.W.kitx_none I.kIn True.intro e (fun z=>nomatch z) h
  |bl y=>cases (show u=Value.bool y from rx);exact xaP PySem.W.kitx_bool I.kIn True.intro e (fun z=>nomatch z) h
  |int i=>obtain⟨t,q⟩:=(show ∃t,u=Value.int i t from rx);cases q;exact xaP PySem.W.kitx_int I.kIn True.intro e (fun z=>nomatch z) h
  |str y=>obtain⟨t,q⟩:=(show ∃t,u=Value.str y t from rx);cases q;exact xaP PySem.W.kitx_str I.kIn True.intro e (fun z=>nomatch z) h
  |flt y=>obtain⟨t,q⟩:=(show ∃t,u=Value.float y t from rx);cases q;exact xaP PySem.W.kitx_float I.kIn True.intro e (fun z=>nomatch z) h
  | @lst a xs ea=>
    cases (show u=Value.ref a from rx);obtain⟨_,_,n,_,h1⟩:=(show dI X.prog X.w H s.heap a (.lst xs) from I.hok a _ ea);exact xaP xde I.kIn ⟨_,h1,rfl⟩ e (fun z=>nomatch z) h
  | @frz a ob xs ea=>
    cases (show u=Value.ref a from rx);obtain⟨_,_,_,n,_,h1⟩:=(show dI X.prog X.w H s.heap a (.frz ob (.lst xs)) from I.hok a _ ea);exact xaP xde I.kIn ⟨_,h1,rfl⟩ e (fun z=>nomatch z) h
  | @tup a xs ea=>
    cases (show u=Value.ref a from rx);obtain⟨_,_,_,p⟩:=(show dI X.prog X.w H s.heap a (.tup xs) from I.hok a _ ea);obtain⟨o,h1,h2,_⟩:=p;exact xaP xd7 I.kIn ⟨o,h1,h2⟩ e (fun z=>nomatch z) h
  | @dK a kvs ea=>
    cases (show u=Value.ref a from rx);obtain⟨_,_,vs,_,p⟩:=(show dI X.prog X.w H s.heap a (.dK kvs) from I.hok a _ ea);obtain⟨o,es,ep,h1,h2,_⟩:=p;exact xaP xdf I.kIn ⟨o,h1,h2.1⟩ e (fun z=>nomatch z) h
  | @dT a kvs ea=>
    cases (show u=Value.ref a from rx);obtain⟨_,_,xs,_,o,es,ep,h1,h2,_⟩:=(show dI X.prog X.w H s.heap a (.dT kvs) from I.hok a _ ea);exact xaP xdf I.kIn ⟨o,h1,h2.1⟩ e (fun z=>nomatch z) h
  | @ins a C dx fs ea cl ha hn htk hm=>
    cases (show u=Value.ref a from rx);obtain⟨mA,O,_⟩:=Ao I.hok ea;obtain⟨od,J,_⟩:=O.look;exact xaP (PySem.W.kitx_own (cl.get _) cl.hd ha hn htk hm) I.kIn J e (fun z=>nomatch z) h
end
structure Room (k:Nat)(A:Around):Prop where
 hd:A.handled=none
 dp:A.depth + 3 * k + 5<recursionLimit
 un:A.units + 16 * k + 200<cLine
theorem Room.mono (r:Room k A)(h:j<=k):Room j A:=⟨r.hd,by have:=r.dp;omega,by have:=r.un;omega⟩
theorem Room.deeper (r:Room (k + 1) A)(env:Env):Room k (A.deeper env):=
 ⟨r.hd,by have:=r.dp;show A.depth + 1 + 3 * k + 5<_;omega,by have:=r.un;show A.units + 3 + 16 * k + 200<_;omega⟩
theorem zaZ {A:Around}{C:Addr}{us:List Value}{kw:List (Str×Value)}:(A.under (.builtin "type.__call__" ⟨.ref C::us,kw⟩)).depth=A.depth + 1:=by
 first |rfl |simp[Around.under,Code.weight,Code.isCreation,Code.isGuard,Code.isCaller,Code.frames,Code.isFrame,guardIds]
theorem zaU {A:Around}{C:Addr}{us:List Value}{kw:List (Str×Value)}:(A.under (.builtin "type.__call__" ⟨.ref C::us,kw⟩)).units=A.units + 1:=by
 first |rfl |simp[Around.under,Code.cUnits,Code.frames,Code.isFrame]
theorem Room.make (r:Room (k + 1) A)(C:Addr)(us:List Value)(kw:List (Str×Value)):Room k (A.under (.builtin "type.__call__" ⟨.ref C::us,kw⟩)):=
 ⟨r.hd,by have:=r.dp;rw[zaZ];omega,by have:=r.un;rw[zaU];omega⟩
theorem Room.depth (r:Room k A):A.depth<recursionLimit:=by have:=r.dp;omega
theorem Room.units (r:Room k A):A.units + 64<cLine:=by have:=r.un;omega
def CJ:TA:=fun _ H Q=>Q [] H
noncomputable def zgT (ta:TE) (tr:TA):TA:=fun σ H Q=>ta σ H fun x H1=>tr σ H1 fun xs H2=>Q (x::xs) H2
section
variable {X:Cx}{e:Expr}{es:List Expr}{te:TE}{t:TA}{pos:Pos}
theorem vd:PA X [] CJ:=fun _ _ _ _ H Q I h=>Calls.spliced_nil ⟨[],H,I,.nil,h⟩
theorem su (ha:PE X e te)(hr:PA X es t)(hs:starEach (e::es) X.env=(false,eval e X.env)::starEach es X.env:=by rfl):PA X (e::es) (zgT te t):=by
 intro pos pins s σ H Q I h;rw[hs];show wpAny _ _ (spliced ((false,eval e X.env)::backTo pos (starEach es X.env))) _ _ s;refine Calls.spliced_cons (aP (ha pins s σ H _ I h) fun u s1 ⟨x,H1,I1,r1,q1⟩=>?_);exact aP (hr pos pins s1 σ H1 _ I1 q1) fun us s2 ⟨xs,H2,I2,r2,q2⟩=>⟨x::xs,H2,I2,.cons r1 r2,q2⟩
noncomputable def O5 (t:TA):TE:=fun σ H Q=>t σ H fun xs H1=>xs.length<=sizeLine/\∀p,H1 p=none->Q (.ref p) (upd H1 p (.tup xs))
noncomputable def O1 (t:TA):TE:=fun σ H Q=>t σ H fun xs H1=>xs.length<=sizeLine/\∀p,H1 p=none->Q (.ref p) (upd H1 p (.lst xs))
theorem zeV {x1}(h:PA X es t):PE X (.Tuple es x1 pos) (O5 t):=by
 intro pins s σ H Q I hq;refine wpAny_Tuple_spliced (aP (h pos pins s σ H _ I hq) fun us s1 ⟨xs,H1,I1,r,z,q⟩=>⟨by rw[<-r.length];exact z,?_⟩);have hf:H1 s1.heap.objs.size=none:=I1.hok.fresh (xaf _);refine⟨.ref s1.heap.objs.size,upd H1 s1.heap.objs.size (.tup xs),I1.laid (t':=s1.toks) (fun b u e=>xaa _ e) (xaf _) ?_,rfl,q _ hf⟩;exact⟨z,us,r,⟨_,xas _ rfl,rfl,_,rfl⟩⟩
theorem zeQ (h:PA X es t):PE X (.List es pos) (O1 t):=by
 intro pins s σ H Q I hq;refine wpAny_List_spliced (aP (h pos pins s σ H _ I hq) fun us s1 ⟨xs,H1,I1,r,z,q⟩=>⟨by rw[<-r.length];exact z,?_⟩);have hf:H1 s1.heap.objs.size=none:=I1.hok.fresh (xaf _);refine⟨.ref s1.heap.objs.size,upd H1 s1.heap.objs.size (.lst xs),I1.laid (t':=s1.toks) (fun b u e=>xaa _ e) (xaf _) ?_,rfl,q _ hf⟩;exact⟨z,us,0,r,xas _ rfl⟩
end
abbrev Sp:=List V->Hp->VK->XK->Prop
abbrev fP:=List Env->Hp->Shared->XK->Value->Shared->Prop
structure Env0 (P:Program)(w:World)(K:Fgx)(mg:Mgx)(base:Heap)(A:Around)(outer:List Env)(s:Shared)(H:Hp):Prop where
 frames:A.frames=some outer
 mod:Mod K mg base
 bs:∀b o,base.get? b=some o->s.heap.get? b=some o/\H b=none
 bsz:base.objs.size<=s.heap.objs.size
 funs:s.heap.FunFrames base outer
 frf:∀b∈frs outer,H b=none
 hok:cN P w H s.heap
 bare:AllBare s.gens
def CE (outer:List Env)(P:Program)(w:World)(H:Hp)(s:Shared)(Q:VK)(u:Value)(s':Shared):Prop:=
 ∃v H',s'.os=s.os/\AllBare s'.gens/\Un (frs outer) [] H H' s.heap s'.heap/\cN P w H' s'.heap/\RelV v u/\Q v H'
def CR (CX:fP)(outer:List Env)(P:Program)(w:World)(H:Hp)(s:Shared)(Q:VK)(E:XK)(r:Result)(s':Shared):Prop:=
 match r with
 |.ok (.ret u)=>CE outer P w H s Q u s'
 |.ok _=>False
 |.error e=>CX outer H s E e s'
structure FnOk (P:Program)(w:World)(K:Fgx)(mg:Mgx)(base:Heap)(CX:fP)(k:Nat)(f:Addr)(fd:FuncData)(ps:List Str)(sp:Sp):Prop where
 len:∀vs H Q E,sp vs H Q E->vs.length=ps.length
 run:∀(A:Around) (outer:List Env) (s:Shared) (H:Hp) (args:Args) (us:List Value) (vs:List V) (Q:VK) (E:XK),Room k A->Env0 P w K mg base A outer s H->BindsTo s fd args (ps.zip us)->Vals vs us->sp vs H Q E->
  codeAny (model P w) A (.call (.ref f) args) (CR CX outer P w H s Q E) s
theorem FnOk.mono {P:Program}{w:World}{K:Fgx}{mg:Mgx}{base:Heap}{CX:fP}{j k:Nat}{f:Addr}{fd:FuncData}{ps:List Str}{sp:Sp}(F:FnOk P w K mg base CX j f fd ps sp)(h:j<=k):
  FnOk P w K mg base CX k f fd ps sp:=⟨F.len,fun A outer s H args us vs Q E hr=>F.run A outer s H args us vs Q E (hr.mono h)⟩
theorem Env0.make {P:Program}{w:World}{K:Fgx}{mg:Mgx}{base:Heap}{A:Around}{outer:List Env}{s:Shared}{H:Hp}(e:Env0 P w K mg base A outer s H)(C:Addr)(us:List Value)(kw:List (Str×Value)):
  Env0 P w K mg base (A.under (.builtin "type.__call__" ⟨.ref C::us,kw⟩)) outer s H:=⟨by first |exact e.frames |(simpa [Around.under,Code.envs,Code.isFrame,pushEnvs] using e.frames),e.mod,e.bs,e.bsz,e.funs,e.frf,e.hok,e.bare⟩
section
variable {X:Cx}{pins:Pnx}{σ:St}{H:Hp}{s s':Shared}
theorem Inv.env0 (I:Inv X pins σ H s):Env0 X.prog X.w X.K X.mg X.base X.A X.stack s H:=
 ⟨I.ok.frames,I.ok.mod,I.bs,xaB I.ok.bsz I.sz,I.stack,I.stkFree,I.hok,I.bare⟩
theorem Inv.after (I:Inv X pins σ H s)(h:CE X.stack X.prog X.w H s Q u s'):EP X pins σ Q u s':=by
 obtain⟨v,H',os,bare,un,hok,r,q⟩:=h;obtain⟨hh,g,d,t,os'⟩:=s';obtain rfl:os'=s.os:=os;exact⟨v,H',I.call (h':=hh) (g':=g) (d':=d) (t':=t) (ch:=[]) un hok bare (fun b z=>absurd z (by simp)),r,q⟩
end
noncomputable def Ww (sp:Sp) (dvs:List V) (E:XK) (t:TA):TE:=fun σ H Q=>t σ H fun vs H1=>sp (vs ++ dvs) H1 Q E
noncomputable def Wy (C:Addr) (m:Str) (sp:Sp) (dvs:List V) (E:XK) (ta:TE) (t:TA):TE:=fun σ H Q=>ta σ H fun x H1=>∃a dx fs,x=.ref a/\H1 a=some (.ins C dx fs)/\fs.lookup m=none/\
 t σ H1 fun vs H2=>sp (x::(vs ++ dvs)) H2 Q E
noncomputable def zgQ (C:Addr) (sp:Sp) (dvs:List V) (E:XK) (t:TA):TE:=fun σ H Q=>t σ H fun vs H1=>∀x dx,H1 x=none->H1 dx=none->dx≠x->
 sp (.ref x::(vs ++ dvs)) (upd (upd H1 dx (.own x)) x (.ins C dx [])) (fun v H2=>v=.non/\Q (.ref x) H2) E
def Binds (K:Fgx)(fd:FuncData)(ps:List Str)(ds:List Value):Prop:=
 ∀(s:Shared) (us:List Value),K.In s.heap->(us ++ ds).length=ps.length->BindsTo s fd ⟨us,[]⟩ (ps.zip (us ++ ds))
theorem Binds.all {K:Fgx}{fd:FuncData}{ps:List Str}(h:∀us:List Value,us.length=ps.length->bindArgs fd ⟨us,[]⟩=pure (ps.zip us)):Binds K fd ps []:=fun s us _ hl=>by
 rw[xax]at hl ⊢;exact .of_eq (h us hl)
def Passes (CX:fP)(X:Cx)(E:XK):Prop:=∀(pins:Pnx) (σ:St) (H:Hp) (s:Shared) (e:Value) (s':Shared),Inv X pins σ H s->CX X.stack H s E e s'->X.xe e s'
section
variable {X:Cx}{CX:fP}{k:Nat}{f C:Addr}{fd:FuncData}{ps:List Str}{sp:Sp}{dvs:List V}{ds:List Value}{E:XK}{x m:Str}{p pos apos:Pos}{e o:Expr}{es:List Expr}{ta:TE}{t:TA}
theorem FP (F:FnOk X.prog X.w X.K X.mg X.base CX k f fd ps sp)(hr:Room k X.A)(hb:Binds X.K fd ps ds)(hd:Vals dvs ds)(hx:Passes CX X E)
    (I:Inv X pins σ H s) (r:Vals vs us) (h:sp (vs ++ dvs) H Q E):wpAny (model X.prog X.w) X.A (call (.ref f) us) (EP X pins σ Q) X.xe s:=by
  have r2:Vals (vs ++ dvs) (us ++ ds):=r.append hd;have hl:(us ++ ds).length=ps.length:=by rw[<-r2.length];exact F.len _ _ _ _ h
  refine xdm (xbO (F.run X.A X.stack s H ⟨us,[]⟩ (us ++ ds) (vs ++ dvs) Q E hr I.env0 (hb s us I.kIn hl) r2 h) fun r s' hq=>?_)
  cases r with
  |error e=>exact hx pins σ H s e s' I hq
  |ok fl=>
    cases fl with
    |ret u=>exact I.after hq
    |next=>exact False.elim hq
    |brk=>exact False.elim hq
    |cont=>exact False.elim hq
theorem zck (F:FnOk X.prog X.w X.K X.mg X.base CX k f fd ps sp)(hr:Room k X.A)(hg:Gl X x)(hm:X.mg x=some (.ref f))(hk:PySem.W.keepIn X.K (.ref f)=true)(hb:Binds X.K fd ps ds)(hd:Vals dvs ds)(hx:Passes CX X E)
  (ha:PA X (e::es) t) (hdb:(x==("__debug__":Str))=false:=by decide) (he:starEach (e::es) X.env=(false,eval e X.env)::starEach es X.env:=by rfl) (hpl:(backTo pos (starEach es X.env)).any (·.1)=false:=by rfl):
  PE X (.Call (.Name x p) (e::es) [] pos) (Ww sp dvs E t):=by
 intro pins s σ H Q I h;refine xbF (u5 I hg hm ?_ hdb);refine xbG (h₀:=X.base) I.ok.mod.kin hk (aP (ha pos pins s σ H _ I h) fun us s1 ⟨vs,H1,I1,r,q⟩=>⟨I1.kIn,?_⟩) he hpl;exact FP F hr hb hd hx I1 r q
theorem zdk (he:PE X o ta)(c:Cls X.K C)(hm:Meth X.K C m f)(F:FnOk X.prog X.w X.K X.mg X.base CX k f fd ps sp)(hr:Room k X.A)(hb:Binds X.K fd ps ds)(hd:Vals dvs ds)(hx:Passes CX X E)(ha:PA X (e::es) t)
  (hst:starEach (e::es) X.env=(false,eval e X.env)::starEach es X.env:=by rfl) (hpl:(backTo pos (starEach es X.env)).any (·.1)=false:=by rfl)
  (ht : eval (.Call (.Attribute o m apos) (e :: es) [] pos) X.env = (do
   let ov <-eval o X.env
   standAt apos.atName
   let (f,first) <-holding [ov] (getMethod ov m pl)
   callWith pos f first (backTo pos (starEach (e::es) X.env)) (backToKw pos (keywordEach [] X.env))):=by rfl):
  PE X (.Call (.Attribute o m apos) (e::es) [] pos) (Wy C m sp dvs E ta t):=by
 intro pins s σ H Q I h;refine xbH (pl:=pl) (aP (he pins s σ H _ I h) fun u s1 ⟨x,H1,I1,rx,a,dx,fs,ex,ea,l,q⟩=>?_) ht;subst ex;obtain rfl:u=Value.ref a:=rx;refine Ro I1 ea c hm l ?_;refine xbG (first:=[.ref a]) (h₀:=X.base) I.ok.mod.kin hm.kp (aP (ha pos pins s1 σ H1 _ I1 q) fun us s2 ⟨vs,H2,I2,r,q2⟩=>⟨I2.kIn,?_⟩) hst hpl
 exact FP (us:=.ref a::us) (vs:=.ref a::vs) F hr hb hd hx I2 (.cons rfl r) q2
theorem zbQ (he:PE X o ta)(c:Cls X.K C)(hm:Meth X.K C m f)(F:FnOk X.prog X.w X.K X.mg X.base CX k f fd ps sp)(hr:Room k X.A)(hb:Binds X.K fd ps ds)(hd:Vals dvs ds)(hx:Passes CX X E)
  (ht : eval (.Call (.Attribute o m apos) [] [] pos) X.env = (do
   let ov <-eval o X.env
   standAt apos.atName
   let (f,first) <-holding [ov] (getMethod ov m pl)
   callWith pos f first (backTo pos (starEach [] X.env)) (backToKw pos (keywordEach [] X.env))):=by rfl):
  PE X (.Call (.Attribute o m apos) [] [] pos) (Wy C m sp dvs E ta CJ):=by
 intro pins s σ H Q I h;refine xbH (pl:=pl) (aP (he pins s σ H _ I h) fun u s1 ⟨x,H1,I1,rx,a,dx,fs,ex,ea,l,q⟩=>?_) ht;subst ex;obtain rfl:u=Value.ref a:=rx;refine Ro I1 ea c hm l ?_;exact PySem.W.callWith_K0 (first:=[.ref a]) I1.kIn hm.kp (FP (us:=[.ref a]) (vs:=[.ref a]) F hr hb hd hx I1 (.cons rfl .nil) q)
structure Mk (K:Fgx)(C f:Addr):Prop where
 makes:PySem.W.makesIn K C=true
 init:PySem.W.findIn K (.ref C) "__init__"=some (some (.ref f))
 fn:PySem.W.isFn K (.ref f)=true
 kp:PySem.W.keepIn K (.ref C)=true
theorem zb9 (M:Mk X.K C f)(F:FnOk X.prog X.w X.K X.mg X.base CX k f fd ps sp)(hr:Room (k + 1) X.A)(hb:Binds X.K fd ps ds)(hd:Vals dvs ds)
    (hx:Passes CX X E) (I:Inv X pins σ H s) (r:Vals vs us)
    (h:∀x dx,H x=none->H dx=none->dx≠x->sp (.ref x::(vs ++ dvs)) (upd (upd H dx (.own x)) x (.ins C dx [])) (fun v H2=>v=.non/\Q (.ref x) H2) E):
    wpAny (model X.prog X.w) X.A (call (.ref C) us) (EP X pins σ Q) X.xe s:=by
  have hq:=h (s.heap.objs.size + 1) s.heap.objs.size (I.hok.fresh (xbE _)) (I.hok.fresh (xaf _)) (xay (xbe _));have I2:=Inv.made (C:=C) I;have r2:Vals (V.ref (s.heap.objs.size + 1)::(vs ++ dvs)) (Value.ref (s.heap.objs.size + 1)::(us ++ ds)):=.cons rfl (r.append hd);have hl:(Value.ref (s.heap.objs.size + 1)::us ++ ds).length=ps.length:=by
    have e:=r2.length;rw[F.len _ _ _ _ hq]at e;exact e.symm
  refine xdm (zb7 (f := f) I.kIn M.makes M.init (xbh.mp M.fn) (xbO (F.run _ X.stack _ _ ⟨Value.ref (s.heap.objs.size + 1)::us,[]⟩ (Value.ref (s.heap.objs.size + 1)::(us ++ ds)) _ _ E (hr.make C us [])
    (I2.env0.make C us []) (hb _ (Value.ref (s.heap.objs.size + 1)::us) I2.kIn hl) r2 hq) fun r s' hq'=>?_))
  cases r with
  |error e=>exact hx pins σ _ _ e s' I2 hq'
  |ok fl=>
    cases fl with
    |ret u=>
      obtain⟨v,H',I3,rv,ev,q3⟩:=I2.after hq';subst ev;exact⟨rv,⟨V.ref (s.heap.objs.size + 1),H',I3,rfl,q3⟩⟩
    |next=>exact False.elim hq'
    |brk=>exact False.elim hq'
    |cont=>exact False.elim hq'
theorem zdi (M:Mk X.K C f)(F:FnOk X.prog X.w X.K X.mg X.base CX k f fd ps sp)(hr:Room (k + 1) X.A)(hg:Gl X x)(hm:X.mg x=some (.ref C))(hb:Binds X.K fd ps ds)(hd:Vals dvs ds)(hx:Passes CX X E)
  (ha:PA X (e::es) t) (hdb:(x==("__debug__":Str))=false:=by decide) (he:starEach (e::es) X.env=(false,eval e X.env)::starEach es X.env:=by rfl) (hpl:(backTo pos (starEach es X.env)).any (·.1)=false:=by rfl):
  PE X (.Call (.Name x p) (e::es) [] pos) (zgQ C sp dvs E t):=by
 intro pins s σ H Q I h;refine xbF (u5 I hg hm ?_ hdb);refine xbG (h₀:=X.base) I.ok.mod.kin M.kp (aP (ha pos pins s σ H _ I h) fun us s1 ⟨vs,H1,I1,r,q⟩=>⟨I1.kIn,?_⟩) he hpl;exact zb9 M F hr hb hd hx I1 r q
end
section
variable {X:Cx}{CX:fP}{k:Nat}{f C:Addr}{fd:FuncData}{ps ks:List Str}{sp:Sp}{E:XK}{x m:Str}{p pos apos kpos:Pos}{e o:Expr}{es:List Expr}{kws:List Keyword}{te ta:TE}{t tk:TA}{nm:Option Str}
structure KBinds (K:Fgx)(fd:FuncData)(ps ks:List Str)(g:List Value->List Value->List Value)(gV:List V->List V->List V):Prop where
 to:∀(s:Shared) (us ws:List Value),K.In s.heap->(g us ws).length=ps.length->BindsTo s fd ⟨us,ks.zip ws⟩ (ps.zip (g us ws))
 rel:∀{vs:List V} {us:List Value} {zs:List V} {ws:List Value},Vals vs us->Vals zs ws->Vals (gV vs zs) (g us ws)
variable {g:List Value->List Value->List Value}{gV:List V->List V->List V}
end
structure FnScope (N P:List Str)(sc:Scope):Prop where
 kind:sc.kind=.function
 co:sc.isCoroutine=false
 gen:sc.isGenerator=false
 nd:N.Nodup
 pre:N.take P.length=P
 par:∀x∈P,sc.names.lookup x=some .local\/sc.names.lookup x=some .cell
 nofree:∀y∈sc.names,y.2≠ .free
theorem Qe {kindOf:Str->Option NameKind}{x:Str}:∀{binds:List (Str×Value)} {m:Mgx},(∀v,(x,v)∉binds)->bindL kindOf binds m x=m x
  | [],_,_=>rfl
  |(n,v)::r,m,h=>by
    unfold bindL;rw[Qe fun w hw=>h w (xak _ hw)]
    split
    · have:x≠n:=by rintro rfl;exact h v xat
      simp[this]
    · rfl
theorem Qc {kindOf:Str->Option NameKind}{x:Str}:∀{binds:List (Str×Value)} {m:Mgx},(∀v,(x,v)∉binds)->bindC kindOf binds m x=m x
  | [],_,_=>rfl
  |(n,v)::r,m,h=>by
    unfold bindC;rw[Qc fun w hw=>h w (xak _ hw)]
    split
    · rfl
    · have:x≠n:=by rintro rfl;exact h v xat
      simp[this]
theorem Qd {kindOf:Str->Option NameKind}{x:Str}{v:Value}:∀{P:List Str} {vs:List Value} {i:Nat} {m:Mgx},P.Nodup->P[i]? =some x->vs[i]? =some v->kindOf x=some .local->
    bindL kindOf (P.zip vs) m x=some v
  | [],_,_,_,_,h,_,_=>by simp at h
  |_::_,[],_,_,_,_,h,_=>by simp at h
  |p::P,w::vs,0,m,nd,h1,h2,hk=>by
    simp at h1 h2;subst h1;subst h2
    show bindL kindOf ((p,w)::P.zip vs) m p=_;unfold bindL;rw[Qe fun v hv=>(xbx.mp nd).1 (xco hv).1,xab hk]
    simp
  |p::P,w::vs,i + 1,m,nd,h1,h2,hk=>by
    show bindL kindOf ((p,w)::P.zip vs) m x=_;unfold bindL;exact Qd (i:=i) (xbx.mp nd).2 (by simpa using h1) (by simpa using h2) hk
theorem Qa {kindOf:Str->Option NameKind}{x:Str}{v:Value}:∀{P:List Str} {vs:List Value} {i:Nat} {m:Mgx},P.Nodup->P[i]? =some x->vs[i]? =some v->kindOf x≠some .local->
    bindC kindOf (P.zip vs) m x=some v
  | [],_,_,_,_,h,_,_=>by simp at h
  |_::_,[],_,_,_,_,h,_=>by simp at h
  |p::P,w::vs,0,m,nd,h1,h2,hk=>by
    simp at h1 h2;subst h1;subst h2
    show bindC kindOf ((p,w)::P.zip vs) m p=_;unfold bindC;rw[Qc fun v hv=>(xbx.mp nd).1 (xco hv).1,xad hk]
    simp
  |p::P,w::vs,i + 1,m,nd,h1,h2,hk=>by
    show bindC kindOf ((p,w)::P.zip vs) m x=_;unfold bindC;exact Qa (i:=i) (xbx.mp nd).2 (by simpa using h1) (by simpa using h2) hk
noncomputable def start (N:List Str) (vs:List V):St:=vs.map some ++ List.replicate (N.length - vs.length) none
noncomputable def cY (CX:fP) (P:Program) (w:World) (K:Fgx) (mg:Mgx) (base:Heap) (N:List Str) (qual:Str) (scope:Scope) (f:Addr) (cd:Value) (A:Around) (outer:List Env) (s:Shared) (H:Hp) (E:XK):Cx where
 prog:=P
 w:=w
 K:=K
 mg:=mg
 base:=base
 A:=A.deeper (envOfC qual scope s.heap.objs.size f cd)
 N:=N
 s₀:=s
 H₀:=H
 env:=envOfC qual scope s.heap.objs.size f cd
 outer:=outer
 stack:=envOfC qual scope s.heap.objs.size f cd::outer
 ex:=[]
 calm:=true
 fn:=fun _=>true
 pn:=[]
 xe:=fun e s'=>wpAny (model P w) (A.deeper (envOfC qual scope s.heap.objs.size f cd)) (leaving (envOfC qual scope s.heap.objs.size f cd) e) (fun _ s''=>CX outer H s E e s'') (fun e' s''=>CX outer H s E e' s'') s'
theorem Je {sc:Scope}{n:Nat}{x:Str}(h:sc.names.lookup x=some .cell):∃c,(cellsFrom n sc.names []).lookup x=some c:=by
 have q:=xcA sc.names n [] (.inl h);exact Option.isSome_iff_exists.mp q
theorem Rv {CX:fP}{P:Program}{w:World}{K:Fgx}{mg:Mgx}{base:Heap}{N ps:List Str}{qual:Str}{scope:Scope}{f:Addr}{cd:Value}{A:Around}{outer:List Env}{s s1:Shared}{H:Hp}{E:XK}{us:List Value}{vs:List V}
  (S:FnScope N ps scope) (hd:A.handled=none) (e0:Env0 P w K mg base A outer s H) (hl:vs.length=ps.length) (r:Vals vs us)
  (x:InCallC s s.heap.objs.size (bindL (envOfC qual scope s.heap.objs.size f cd).kindOf (ps.zip us) fun _=>none) (cellsFrom (s.heap.objs.size + 1) scope.names []) (bindC (envOfC qual scope s.heap.objs.size f cd).kindOf (ps.zip us) fun _=>none) s1):
  Inv (cY CX P w K mg base N qual scope f cd A outer s H E) [] (start N vs) H s1:=by
 have hpl:ps.length<=N.length:=by have:=congrArg List.length S.pre;rw[xbC]at this;omega
 obtain ⟨h1, tk, rfl, hk⟩ := x.done;have noA : ∀ b : Addr, b ∉ (cY CX P w K mg base N qual scope f cd A outer s H E).ex := fun b z => absurd (show b ∈ ([] : List Addr) from z) (by simp);refine ⟨⟨e0.mod,S.kind,rfl,rfl,xaf _,fun y z c h1 h2=>?_,fun y hy=>?_,fun y c _ h=>?_,fun _=>hd,Around.frames_deeper e0.frames,.inr ⟨rfl,rfl⟩,fun b z=>absurd z (noA b),e0.bs,e0.bsz,fun b _ _=>noA b,fun b z=>absurd z (noA b),e0.funs,e0.frf⟩,
  rfl,e0.bare,Un.kept hk,⟨_,x.toInCall.ns,fun i y v h1 h2 h3=>?_⟩,fun y c h=>⟨_,x.cell y c h⟩,e0.hok.fresh (xaf _),fun y c h=>?_,fun p hp=>absurd (show p∈([]:Pnx) from hp) (by simp),e0.hok.kept hk,?_⟩
 ·exact name_of_addr x.apart (xaX h1) (xaX h2)
 ·have hy:scope.names.lookup y=some .cell\/scope.names.lookup y=some .free:=hy;rcases hy with hy |hy
  ·exact Je hy
  ·exact absurd rfl (S.nofree _ (xaX hy))
 ·exact xb6 (x.above y c (xaX h))
 ·have hi:i<vs.length:=by
   unfold start at h2
   by_cases hi:i<vs.length
   ·exact hi
   ·rw[xaw (by simpa using hi)]at h2;rw[xaZ]at h2;split at h2<;>cases h2
  have ha:vs[i]? =some v:=by
   unfold start at h2;rw[xaH (by simpa using hi),xan]at h2
   cases e:vs[i]? with
   |none=>rw[e]at h2;cases h2
   |some a=>rw[e]at h2;cases h2;rfl
  obtain⟨u,hu,rv⟩:=r.get ha;have hp:ps[i]? =some y:=by
   rw[<-S.pre,xds (by omega)];exact h1
  have ndP:ps.Nodup:=by rw[<-S.pre];exact S.nd.sublist (xec _ _)
  refine⟨u,rv,?_⟩;rcases S.par y (xaC hp) with k |k
  ·exact .inl ⟨k,Qd ndP hp hu k⟩
  ·obtain⟨c,e⟩:=Je (n:=s.heap.objs.size + 1) k;refine .inr ⟨.inl k,c,e,?_⟩;have q:=x.cell y c e;rw[Qa ndP hp hu (by show scope.names.lookup y≠_;rw[k];decide)]at q;exact q
 ·exact .inl (e0.hok.fresh (xb6 (x.above y c (xaX h))))
 ·unfold start;show _=N.length;rw[xaj,xal,xbv];omega
theorem Q_ {CX:fP}{P:Program}{w:World}{K:Fgx}{mg:Mgx}{base:Heap}{k:Nat}{f:Addr}{name qual:Str}{params:Arguments}{body:List Stmt}{scope:Scope}{dV kV doc pm cdv ct oc:Value}{an od:Option Addr}
    {osl:Array (Option Value)} {N ps:List Str} {sp:Sp} (lk:K.lookup f=some ⟨oc,od,.func (PySem.W.fnOf name qual params body scope dV kV doc pm an cdv ct),osl⟩) (hcd:PySem.W.codeIn K cdv qual=true) (S:FnScope N ps scope)
    (len:∀vs H Q E,sp vs H Q E->vs.length=ps.length)
    (hbody:∀(A:Around) (outer:List Env) (s:Shared) (H:Hp) (vs:List V) (Q:VK) (E:XK),Room k (A.deeper (envOfC qual scope s.heap.objs.size f cdv))->sp vs H Q E->
      ∃t,i_ (cY CX P w K mg base N qual scope f cdv A outer s H E) body t/\t {nx:=fun _ H'=>Q .non H',rt:=Q} (start N vs) H):
    FnOk P w K mg base CX (k + 1) f (PySem.W.fnOf name qual params body scope dV kV doc pm an cdv ct) ps sp:=by
  refine⟨len,fun A outer s H args us vs Q E hr e0 hb r hsp=>?_⟩;have hl:=len _ _ _ _ hsp;have KX:K.In s.heap:=e0.mod.kin.keeps fun b o e=>(e0.bs b o e).1;have lim:s.heap.NoLimit:=e0.mod.nolimit.keeps fun b o e=>(e0.bs b o e).1;have hkind:∀y∈ps.zip us,scope.names.lookup y.1=some .local\/(scope.names.lookup y.1=some .cell/\((cellsFrom (s.heap.objs.size + 1) scope.names []).lookup y.1).isSome=true):=fun⟨n,v⟩ hy=>by
    rcases S.par n (xco hy).1 with q |q
    · exact .inl q
    · exact .inr ⟨q,xcA _ _ _ (.inl q)⟩
  refine xcH hr.depth (KX _ _ lk) rfl S.co S.gen rfl (xd8 KX hcd) (hb _ _ _ _ ?_);refine xda S.kind hkind fun env he s1 x=>?_;subst he;refine⟨lim.keeps x.toInCall.keep,codeAny_func ?_⟩;obtain⟨t,ht,hq⟩:=hbody A outer s H vs Q E (hr.deeper _) hsp;have I:Inv (cY CX P w K mg base N qual scope f cdv A outer s H E) [] (start N vs) H s1:=Rv S hr.hd e0 hl r x;refine xaO (ht [] s1 (start N vs) H _ I hq) (fun fl s' hs=>?_) fun e s' hs=>hs;have fin:∀{σ':St} {H':Hp} {v:V} {u:Value},Inv (cY CX P w K mg base N qual scope f cdv A outer s H E) [] σ' H' s'->RelV v u->Q v H'->CE outer P w H s Q u s':=
    fun {σ' H' v u} J rv q=>⟨v,H',J.os,J.bare,J.base,J.hok,rv,q⟩
  cases fl with
  |ret u=>
    obtain⟨v,σ',H',J,rv,q⟩:=hs;exact fin J rv q
  |next=>
    obtain⟨σ',H',J,q⟩:=hs;exact fin (v:=V.non) (u:=Value.none) J rfl q
  |brk=>
    obtain⟨_,_,_,q⟩:=hs;exact False.elim q
  |cont=>
    obtain⟨_,_,_,q⟩:=hs;exact False.elim q
section
variable {X:Cx}{x:Str}{p pos:Pos}{e:Expr}{es:List Expr}{t:TA}{id T:String}{r:List V->Hp->VK->Prop}
noncomputable def Ox (r:List V->Hp->VK->Prop) (t:TA):TE:=fun σ H Q=>t σ H fun vs H1=>r vs H1 Q
theorem Ly (hc:dH X (.builtin id) r)(hg:Gl X x)(hm:X.mg x=none)(hv:bootBuiltins x=some (.builtin id))(ha:PA X (e::es) t)(hn:x≠"__name__":=by decide)(hdb:(x==("__debug__":Str))=false:=by decide)
  (he:starEach (e::es) X.env=(false,eval e X.env)::starEach es X.env:=by rfl) (hpl:(backTo pos (starEach es X.env)).any (·.1)=false:=by rfl):PE X (.Call (.Name x p) (e::es) [] pos) (Ox r t):=by
 intro pins s σ H Q I h;refine xbF (Ba I hg hm hv ?_ hn hdb);exact PyProof.Rows.callWith_builtin1 (aP (ha pos pins s σ H _ I h) fun us s1 ⟨vs,H1,I1,r1,q1⟩=>hc pins s1 σ H1 vs us Q I1 r1 q1) he hpl
theorem TY (hc:dH X (.type T) r)(hg:Gl X x)(hm:X.mg x=none)(hv:bootBuiltins x=some (.type T))(ha:PA X (e::es) t)(hn:x≠"__name__":=by decide)(hdb:(x==("__debug__":Str))=false:=by decide)
  (he:starEach (e::es) X.env=(false,eval e X.env)::starEach es X.env:=by rfl) (hpl:(backTo pos (starEach es X.env)).any (·.1)=false:=by rfl):PE X (.Call (.Name x p) (e::es) [] pos) (Ox r t):=by
 intro pins s σ H Q I h;refine xbF (Ba I hg hm hv ?_ hn hdb);exact xcb (aP (ha pos pins s σ H _ I h) fun us s1 ⟨vs,H1,I1,r1,q1⟩=>hc pins s1 σ H1 vs us Q I1 r1 q1) he hpl
end
end L2
namespace HT
open PySem PyProof.Rows
section
open PySem.SeqAt
open PySem.AutoSeq1 (wpAny_loadPart')
open PySem.MeetsSeq PySem.MeetsSeq2 PySem.MeetsSeq3
end
section
variable {prog:Program}{w:World}{A:Around}{E:Value->Shared->Prop}{s:Shared}
theorem XS (ht:IsTup s.heap t vs.toArray)(hb:IsTup s.heap b ws.toArray)(hv:vs≠ [])
  (h1:ws=[]->Q (.ref t) s) (h2:ws≠ []->Q (.ref s.heap.objs.size) {s with heap:=s.heap.push {cls:=.type "tuple",data:=.seq (vs ++ ws).toArray}})
  (hsz:vs.length + ws.length<=sizeLine):wpAny (model prog w) A (binaryOp .Add (.ref t) (.ref b)) Q E s:=by
 obtain⟨⟨cls,dd,data,sl⟩,ho,hc,n,hd⟩:=id ht;obtain⟨⟨cls2,dd2,data2,sl2⟩,ho2,hc2,n2,hd2⟩:=id hb;simp only at hc hd hc2 hd2;subst hc hd hc2 hd2;have e:vs.toArray ++ ws.toArray=(vs ++ ws).toArray:=by simp
 by_cases hw:ws=[]
 ·exact concat_meets ⟨_,ho,rfl⟩ ⟨_,ho2,rfl⟩ noFill_tuple_add seq_tuple_add xdJ xdE (xdt _ _)
   (tuple_addW1 t b vs.toArray ws.toArray n n2 dd dd2 sl sl2 (by simpa using hv) (by simp[hw])) ⟨ho,ho2,h1 hw⟩
 ·refine concat_meets ⟨_,ho,rfl⟩ ⟨_,ho2,rfl⟩ noFill_tuple_add seq_tuple_add xdJ xdE (xdt _ _)
   (tuple_addW2 t b vs.toArray ws.toArray n n2 dd dd2 sl sl2 (by simpa using hv) (by simpa using hw) (by rw[xae,xae];exact hsz)) ⟨ho,ho2,?_⟩
  rw[e];exact h2 hw
noncomputable def bw (n d:Nat):Option Int->Nat
 |none=>d
 |some v=>if v<0 then(v + (n:Int)).toNat else min v.toNat n
theorem zbY (n d:Nat):bw n d none=d:=rfl
theorem zcR (n d k:Nat):bw n d (some (k:Int))=min k n:=by
 show(if (k:Int)<0 then((k:Int) + (n:Int)).toNat else min (k:Int).toNat n)=min k n
 rw[xad (by omega),xdh]
theorem zdE (n d:Nat)(hd:d<=n)(o:Option Int):bw n d o<=n:=by
  cases o with
  |none=>exact hd
  |some v=>
    show(if v<0 then(v + (n:Int)).toNat else min v.toNat n)<=n
    by_cases hv:v<0
    · rw[xab hv];omega
    · rw[xad hv];exact Nat.min_le_right _ _
theorem Qs (v:Int)(n d:Nat):(if v<0 then max (v + (n:Int)) 0 else min v (n:Int))=((bw n d (some v):Nat):Int):=by
 show(if v<0 then max (v + (n:Int)) 0 else min v (n:Int))=(((if v<0 then(v + (n:Int)).toNat else min v.toNat n):Nat):Int)
 by_cases hv:v<0
 ·simp only[xab hv];omega
 ·simp only[xad hv];omega
theorem Xi (lo hi:Option Int)(n:Nat):Builtin.Slice.sliceAdjust lo hi 1 (n:Int)=(((bw n 0 lo:Nat):Int),((bw n n hi:Nat):Int)):=by
 have h1:¬ ((1:Int)<0):=by omega
 unfold Builtin.Slice.sliceAdjust;simp only[h1,xbP];refine Prod.ext ?_ ?_
 ·cases lo with
  |none=>rfl
  |some v=>exact Qs v n 0
 ·cases hi with
  |none=>rfl
  |some v=>exact Qs v n n
theorem zaT (i j:Nat):Builtin.Slice.slicePlaces (i:Int) (j:Int) 1=j - i:=by
 unfold Builtin.Slice.slicePlaces;have h1:(1:Int) > 0:=by omega
 simp only[h1,xbo,Int.ediv_one]
 split<;>omega
theorem V_ (p:IsPart v o)(h:Q o s):wpAny (model prog w) A (Builtin.Slice.slicePartIndex v) Q E s:=by
 cases p with
 |none=>exact slicePart_none h
 |int i t=>exact slicePart_int h
theorem zav {sl:Addr}{vl vu:Value}{lo hi:Option Int}{n:Nat}{Q:Int×Int×Nat->Shared->Prop}(hs:s.heap.IsSliceOf sl vl vu .none)(pl:IsPart vl lo)(pu:IsPart vu hi)
  (h:Q (((bw n 0 lo:Nat):Int),1,bw n n hi - bw n 0 lo) s):wpAny (model prog w) A (Builtin.Slice.sliceApplied (.ref sl) (pure (n:Int))) Q E s:=by
 obtain⟨os,hos,hcs,hds⟩:=id hs;unfold Builtin.Slice.sliceApplied Builtin.Slice.sliceFields;refine tG (tG (xbn hos hds (x:=vl) rfl (tG (xbn hos hds (x:=vu) rfl (tG (xbn hos hds (x:=.none) rfl (xah ?_)))))));refine tG (slicePart_none ?_);show wpAny _ _ (if ((1:Int)==0)=true then _ else _) _ _ s
 rw[xad (by decide)];refine tG (V_ pl (tG (V_ pu (tG (xah ?_)))));show wpAny _ _ (match Builtin.Slice.sliceAdjust lo hi 1 (n:Int) with |(lo,hi)=>pure (lo,(1:Int),Builtin.Slice.slicePlaces lo hi 1)) _ _ s
 rw[Xi lo hi n];show wpAny _ _ (pure (((bw n 0 lo:Nat):Int),(1:Int),Builtin.Slice.slicePlaces ((bw n 0 lo:Nat):Int) ((bw n n hi:Nat):Int) 1)) _ _ s;rw[zaT];exact xah h
theorem zb2 (xs:Array Value)(i k:Nat):((List.range k).filterMap fun(m:Nat)=>xs[((i:Int) + (m:Int) * 1).toNat]?).toArray=((xs.toList.drop i).take k).toArray:=by
 have e:(fun(m:Nat)=>xs[((i:Int) + (m:Int) * 1).toNat]?)=fun m=>xs[i + m]? :=by
  funext m;have:((i:Int) + (m:Int) * 1).toNat=i + m:=by omega
  rw[this]
 rw[e];have:=pick_run xs i k;rw[List.filterMap_map]at this;have e2:((fun x=>xs[x]?) ∘ fun x=>i + x)=fun m=>xs[i + m]? :=rfl;rw[e2]at this;rw[this]
theorem Zb {t sl:Addr}{items:Array Value}{vl vu:Value}{lo hi:Option Int}{Q:Value->Shared->Prop}(ht:IsTup s.heap t items)(hs:s.heap.IsSliceOf sl vl vu .none)(pl:IsPart vl lo)(pu:IsPart vu hi)
  (hw:¬ (bw items.size 0 lo=0/\bw items.size items.size hi=items.size))
  (h:Q (.ref s.heap.objs.size) {s with heap:=s.heap.push {cls:=.type "tuple",data:=.seq ((items.toList.drop (bw items.size 0 lo)).take (bw items.size items.size hi - bw items.size 0 lo)).toArray}})
  (hsz:items.size<=sizeLine):wpAny (model prog w) A (getItem (.ref t) (.ref sl)) Q E s:=by
 have htake:sizeOk (.seq ((items.toList.drop (bw items.size 0 lo)).take (bw items.size items.size hi - bw items.size 0 lo)).toArray):=by
  show((items.toList.drop (bw items.size 0 lo)).take (bw items.size items.size hi - bw items.size 0 lo)).toArray.size<=sizeLine;rw[xae,xbC,xbQ,xaR];omega
 have hj:bw items.size items.size hi<=items.size:=zdE _ _ (xaf _) hi;obtain⟨os,hos,hcs,hds⟩:=id hs;have hTs:s.TypeIs (.ref sl) "slice":=⟨os,hos,hcs⟩;unfold getItem
 try with_reducible refine xbm ?_
 first |refine tG (xah ?_) |skip
 refine tG (wpAny_sequenceKey ht.typeIs (by decide) ?_);refine tG (xcx (name:=Str.ofString "__getitem__") ht.typeIs xbW
  (xbR xbW ht.typeIs entry_tuple_getitem ?_ (args_tuple_getitem _ _)))
 show wpAny _ _ (Builtin.Tuple.tupleItemsOf (.ref t) >>=_) _ _ s;refine tG (tupleItemsOf_ ht ?_);refine tG (wpAny_typeOf hTs ?_);rw[xab (by decide)];refine tG (zav hs pl pu ?_);have hno:¬ ((((bw items.size 0 lo:Nat):Int)==0 && (1:Int)==1 && (bw items.size items.size hi - bw items.size 0 lo)==items.size)=true):=by
  intro q;rw[xap,xap]at q;have q1:((bw items.size 0 lo:Nat):Int)=0:=eq_of_beq q.1.1;have q2:bw items.size items.size hi - bw items.size 0 lo=items.size:=eq_of_beq q.2;exact hw ⟨by omega,by omega⟩
 show wpAny _ _ (if (((bw items.size 0 lo:Nat):Int)==0 && (1:Int)==1 && (bw items.size items.size hi - bw items.size 0 lo)==items.size)=true then _ else _) _ _ s
 rw[xad hno,zb2]
 first
  |exact tG (m:=Builtin.Tuple.tupleExact _) (xaN (xah ⟨_,rfl,xah h⟩) htake)
  |exact tG (m:=Builtin.Tuple.tupleExact _) (xaN (tG (xah (xah ⟨_,rfl,xah h⟩))) htake)
  |exact tG (tG (m:=Builtin.Tuple.tupleExact _) (xaN (xah (xah ⟨_,rfl,xah h⟩)) htake))
  |exact tG (tG (m:=Builtin.Tuple.tupleExact _) (xaN (xah ⟨_,rfl,xah h⟩) htake))
end
end HT
namespace L2
open PySem PySem.Spec PyProof.Rows
abbrev TO:=St->Hp->(Option Int->Hp->Prop)->Prop
def PO (X:Cx)(e:Option Expr)(t:TO):Prop:=
 ∀(pins:Pnx) (s:Shared) (σ:St) (H:Hp) (Q:Option Int->Hp->Prop),Inv X pins σ H s->t σ H Q->
  wpAny (model X.prog X.w) X.A (evalPart e X.env) (fun u s'=>∃o H',Inv X pins σ H' s'/\IsPart u o/\Q o H') X.xe s
def zcX:TO:=fun _ H Q=>Q none H
noncomputable def zg4 (t:TE):TO:=fun σ H Q=>t σ H fun x H1=>∃i,x=.int i/\Q (some i) H1
section
variable {X:Cx}{e:Expr}{te:TE}{lo hi:Option Expr}{tl th:TO}{pos p2:Pos}
theorem zdc:PO X none zcX:=by
 intro pins s σ H Q I h;rw[evalPart_none];exact xah ⟨none,H,I,.none,h⟩
theorem zcp (h:PE X e te):PO X (some e) (zg4 te):=by
 intro pins s σ H Q I hw;rw[evalPart_some];refine aP (h pins s σ H _ I hw) fun u s1 ⟨x,H1,I1,r1,q1⟩=>?_;obtain⟨i,rfl,q⟩:=q1;obtain⟨t,rfl⟩:=r1;exact⟨some i,H1,I1,.int i t,q⟩
def tO (X:Cx)(r:V->Option Int->Option Int->Hp->VK->Prop):Prop:=
 ∀(pins:Pnx) (s:Shared) (σ:St) (H:Hp) (x:V) (v vl vu:Value) (lo hi:Option Int) (sl:Addr) (Q:VK),Inv X pins σ H s->RelV x v->s.heap.IsSliceOf sl vl vu .none->IsPart vl lo->IsPart vu hi->r x lo hi H Q->
  ∃T id,typeLookup (.type T) "__getitem__"=pure (some (.builtin id))/\s.TypeIs v T/\wpAny (model X.prog X.w) X.A (getItem v (.ref sl)) (EP X pins σ Q) X.xe s
theorem tO.or (h:tO X r)(h':tO X r'):tO X (fun x lo hi H Q=>r x lo hi H Q\/r' x lo hi H Q):=by
 intro pins s σ H x v vl vu lo hi sl Q I rx hs pl pu q;rcases q with q |q
 ·exact h pins s σ H x v vl vu lo hi sl Q I rx hs pl pu q
 ·exact h' pins s σ H x v vl vu lo hi sl Q I rx hs pl pu q
noncomputable def tSl (r:V->Option Int->Option Int->Hp->VK->Prop) (te:TE) (tl th:TO):TE:=fun σ H Q=>te σ H fun x H1=>tl σ H1 fun l H2=>th σ H2 fun u H3=>r x l u H3 Q
theorem T5 (hr:tO X r)(he:PE X e te)(hl:PO X lo tl)(hu:PO X hi th):PE X (.Subscript e (.Slice lo hi none p2) pos) (tSl r te tl th):=by
 intro pins s σ H Q I h;refine Subscript_ (aP (he pins s σ H _ I h) fun v s1 ⟨x,H1,I1,r1,q1⟩=>?_);refine wpAny_Slice (aP (hl pins s1 σ H1 _ I1 q1) fun vl s2 ⟨l,H2,I2,pl,q2⟩=>aP (hu pins s2 σ H2 _ I2 q2) fun vu s3 ⟨u,H3,I3,pu,q3⟩=>?_);rw[evalPart_none];refine xah ?_;have I4:Inv X pins σ H3 {s3 with heap:=s3.heap.push {cls:=.type "slice",data:=.fields #[vl,vu,.none]}}:=I3.kept (t':=s3.toks) fun b ob q=>xaa _ q;obtain⟨T,id,hT,ht,hg⟩:=hr pins {s3 with heap:=s3.heap.push {cls:=.type "slice",data:=.fields #[vl,vu,.none]}} σ H3 x v vl vu l u s3.heap.objs.size Q I4 r1 (Heap.IsSliceOf.new ..) pl pu q3;show wpAny (model X.prog X.w) X.A (subscriptTail e (.Slice lo hi none p2) v (.ref s3.heap.objs.size)) (EP X pins σ Q) X.xe {s3 with heap:=s3.heap.push {cls:=.type "slice",data:=.fields #[vl,vu,.none]}};exact tail_any (ops:=[.ref s3.heap.objs.size,v]) ht hT hg (by with_unfolding_all rfl)
noncomputable def gj (xs:List V) (lo hi:Option Int):List V:=(xs.drop (HT.bw xs.length 0 lo)).take (HT.bw xs.length xs.length hi - HT.bw xs.length 0 lo)
theorem Qz (xs:List V)(lo hi:Option Int):(gj xs lo hi).length<=xs.length:=by
 unfold gj;rw[xbC,xbQ];omega
def M9 (K:Fgx):V->Option Int->Option Int->Hp->VK->Prop:=fun x lo hi H Q=>∃a xs,x=.ref a/\c7 K H a xs/\
 ¬ (HT.bw xs.length 0 lo=0/\HT.bw xs.length xs.length hi=xs.length)/\∀p,H p=none->Q (.ref p) (upd H p (.tup (gj xs lo hi)))
theorem zek:tO X (M9 X.K):=by
 intro pins s σ H x v vl vu lo hi sl Q I rx hs pl pu h;obtain⟨a,xs,rfl,hx,hw,q⟩:=h;cases rx;obtain⟨its,r,ht,hz⟩:=I.tuple hx;have hlen:its.toArray.size=xs.length:=by rw[xae];exact r.length.symm
 refine⟨"tuple",_,xbW.lookup,ht.typeIs,?_⟩;refine HT.Zb ht hs pl pu (by rw[hlen];exact hw) ?_ (by rw[hlen];exact hz);rw[hlen];refine⟨.ref s.heap.objs.size,_,I.laid (t':=s.toks) (o:=.tup (gj xs lo hi)) (fun b ob q=>xaa _ q) (xaf _) ?_,rfl,q _ (I.hok.fresh (xaf _))⟩;exact⟨xaB (Qz xs lo hi) hz,_,(r.drop (HT.bw xs.length 0 lo)).take (HT.bw xs.length xs.length hi - HT.bw xs.length 0 lo),IsTup.new _ _⟩
noncomputable def Uh (K:Fgx):R2:=fun x y H Q=>∃a b xs ys,x=.ref a/\y=.ref b/\c7 K H a xs/\c7 K H b ys/\xs≠ []/\xs.length + ys.length<=sizeLine/\
 (ys=[]->Q (.ref a) H)/\(ys≠ []->∀p,H p=none->Q (.ref p) (upd H p (.tup (xs ++ ys))))
theorem Vals.nil_iff (r:Vals xs us):us=[] ↔ xs=[]:=by
 cases r with
 |nil=>simp
 |cons _ _=>simp
theorem Lx:bY X (binaryOp .Add) (Uh X.K):=by
 intro pins s σ H x y v u Q I rx ry h;obtain⟨a,b,xs,ys,rfl,rfl,ha,hb,hx,hz,q1,q2⟩:=h;cases rx;cases ry;obtain⟨its,r1,p1,_⟩:=I.tuple ha;obtain⟨its2,r2,p2,_⟩:=I.tuple hb;refine HT.XS p1 p2 (fun z=>hx (r1.nil_iff.mp z)) (fun z=>⟨.ref a,H,I,rfl,q1 (r2.nil_iff.mp z)⟩) (fun z=>?_) (by rw[<-r1.length, <-r2.length];exact hz);refine⟨.ref s.heap.objs.size,_,I.laid (t':=s.toks) (o:=.tup (xs ++ ys)) (fun b ob q=>xaa _ q) (xaf _) ?_,rfl,q2 (fun w=>z (r2.nil_iff.mpr w)) _ (I.hok.fresh (xaf _))⟩;exact⟨by rw[xaj];exact hz,_,r1.append r2,IsTup.new _ _⟩
end
noncomputable def kj (n:Nat) (i:Int):Option Nat:=if 0<=i then(if i<n then some i.toNat else none) else if -(n:Int)<=i then some (i + n).toNat else none
noncomputable def cu {α:Type} (xs:List α) (i:Int):Option α:=(kj xs.length i).bind fun j=>xs[j]?
theorem RJ (h:kj n i=some j):seqIndex? i n=some j/\j<n/\ -(n:Int)<=i/\i<n:=by
 unfold kj at h
 by_cases h0:0<=i
 ·rw[xab h0]at h
  by_cases h1:i<n
  ·rw[xab h1]at h;have e:i.toNat=j:=xav h;exact⟨by rw[xdK h0 h1,e],by omega,by omega,h1⟩
  ·rw[xad h1]at h;cases h
 ·rw[xad h0]at h
  by_cases h1: -(n:Int)<=i
  ·rw[xab h1]at h;have e:(i + n).toNat=j:=xav h;exact⟨by rw[seqIndex_neg (by omega) h1,e],by omega,h1,by omega⟩
  ·rw[xad h1]at h;cases h
theorem HS (h:cu xs i=some v):∃j,seqIndex? i xs.length=some j/\xs[j]? =some v/\j<xs.length/\ -(xs.length:Int)<=i/\i<xs.length:=by
  unfold cu at h
  cases e:kj xs.length i with
  |none=>rw[e]at h;cases h
  |some j=>
    rw[e]at h;obtain⟨h1,h2,h3,h4⟩:=RJ e;exact⟨j,h1,h,h2,h3,h4⟩
theorem yq {α:Type}{xs:List α}{j:Nat}{v:α}(h:xs[j]? =some v):cu xs (j:Int)=some v:=by
 have hj:j<xs.length:=(xam.mp h).1;have e:kj xs.length (j:Int)=some j:=by
  unfold kj;rw[xab (by omega),xab (by omega)];simp
 unfold cu;rw[e];exact h
def Hu (b:Expr):Prop:=∀o i,subscripted b false o i=operate [o,i] (getItem o i)
def nZ (X:Cx)(r:R2):Prop:=
 ∀(value slice:Expr) (pins:Pnx) (s:Shared) (σ:St) (H:Hp) (x y:V) (v u:Value) (Q:VK),Inv X pins σ H s->RelV x v->RelV y u->r x y H Q->
  subscripted slice false v u=operate [v,u] (getItem v u)->wpAny (model X.prog X.w) X.A (subscriptTail value slice v u) (EP X pins σ Q) X.xe s
def yg (X:Cx)(id:String)(r:V->List V->Hp->VK->Prop):Prop:=
 ∀(pins:Pnx) (s:Shared) (σ:St) (H:Hp) (x:V) (xs:List V) (v:Value) (us:List Value) (Q:VK),Inv X pins σ H s->RelV x v->Vals xs us->r x xs H Q->
  wpAny (model X.prog X.w) X.A (call (.builtin id) (v::us)) (EP X pins σ Q) X.xe s
section
variable {X:Cx}{a b:Expr}{ta tb:TE}{pos:Pos}
theorem nZ.or (h:nZ X r)(h':nZ X r'):nZ X (fun x y H Q=>r x y H Q\/r' x y H Q):=by
 intro value slice pins s σ H x y v u Q I rx ry q hs;rcases q with q |q
 ·exact h value slice pins s σ H x y v u Q I rx ry q hs
 ·exact h' value slice pins s σ H x y v u Q I rx ry q hs
theorem zfJ (hr:nZ X r)(ha:PE X a ta)(hb:PE X b tb)(hs:Hu b):PE X (.Subscript a b pos) (CK r ta tb):=by
 intro pins s σ H Q I h;exact Subscript_ (wN ha hb I h fun v u s2 x y H2 I2 rx ry q=>hr a b pins s2 σ H2 x y v u Q I2 rx ry q (hs _ _))
noncomputable def xK (K:Fgx):R2:=fun x y H Q=>∃p xs i v,x=.ref p/\y=.int i/\bU K H p xs/\cu xs i=some v/\Q v H
noncomputable def xO (K:Fgx):R2:=fun x y H Q=>∃p xs i v,x=.ref p/\y=.int i/\c7 K H p xs/\cu xs i=some v/\Q v H
noncomputable def xM:R2:=fun x y H Q=>∃z i c,x=.str z/\y=.int i/\z.length<=sizeLine/\cu z.cps.toList i=some c/\Q (.str ⟨#[c]⟩) H
theorem ZK:nZ X (xK X.K):=by
 intro value slice pins s σ H x y v u Q I rx ry h hs;obtain⟨p,xs,i,z,rfl,rfl,hq,he,q⟩:=h;cases rx;obtain⟨t,rfl⟩:=ry;obtain⟨its,r,pl,hz⟩:=I.list hq;obtain⟨j,h1,h2,h3,h4,h5⟩:=HS he;obtain⟨w,ew,rw'⟩:=r.get h2;have hl:=r.length;have hn:=rR;have fin:EP X pins σ Q w s:=⟨z,H,I,rw',q⟩
 by_cases h0:0<=i
 ·have hj:i.toNat=j:=by
   rw[xdK h0 h5]at h1;exact xav h1
  exact item_listR pl.isList h0 (by omega) (by rw[hj];simpa using ew) fin hs
 ·have hj:(i + (its.toArray.size:Int)).toNat=j:=by
   rw[seqIndex_neg (by omega) h4]at h1;rw[xae, <-hl];exact xav h1
  exact subscriptTail_builtinR (x:=w) pl.isList.typeIs slot_list_getitem.lookup
   (wpAny_getItem_list_neg (Q:=fun r s'=>r=w/\EP X pins σ Q r s') pl.isList (by omega) (by rw[xae]<;>omega) (by omega) (by rw[hj];simpa using ew) ⟨rfl,fin⟩) hs
theorem ZP:nZ X (xO X.K):=by
 intro value slice pins s σ H x y v u Q I rx ry h hs;obtain⟨p,xs,i,z,rfl,rfl,hq,he,q⟩:=h;cases rx;obtain⟨t,rfl⟩:=ry;obtain⟨its,r,pl,hz⟩:=I.tuple hq;obtain⟨j,h1,h2,h3,h4,h5⟩:=HS he;obtain⟨w,ew,rw'⟩:=r.get h2;have hl:=r.length;have hn:=rR;have fin:EP X pins σ Q w s:=⟨z,H,I,rw',q⟩;exact subscriptTail_builtinR (x:=w) pl.typeIs xc2.lookup
  (getItem_tuple (j:=j) (Q:=fun r s'=>r=w/\EP X pins σ Q r s') pl (by omega) (by omega) (by rw[xae, <-hl];exact h1) (by simpa using ew) ⟨rfl,fin⟩) hs
theorem ZL:nZ X xM:=by
 intro value slice pins s σ H x y v u Q I rx ry h hs;obtain⟨z,i,c,rfl,rfl,hz,he,q⟩:=h;obtain⟨t,rfl⟩:=rx;obtain⟨t',rfl⟩:=ry;obtain⟨j,h1,h2,h3,h4,h5⟩:=HS he;have hl:z.cps.toList.length=z.length:=by simp[Str.length]
 rw [hl] at h1 h4 h5;have hn := rR;exact tail_any (typeIs_str s z t) slot_str_getitem.lookup (getItem_str (c := c) (by
  have e1:decide (i< -(2 ^ 63:Int))=false:=xaz (by omega);have e2:decide (i >=2 ^ 63)=false:=xaz (by omega);rw[e1,e2,Bool.or_false]) (by rw[h1];simpa using h2) ⟨.str ⟨#[c]⟩,H,I.tok _,⟨_,rfl⟩,q⟩) hs
noncomputable def MN (K:Fgx):R2:=fun x y H Q=>xK K x y H Q\/xO K x y H Q\/xM x y H Q
theorem za2 (its:List Value)(n j:Nat)(u:Value):Obj.mapSeq (·.setIfInBounds j u) {cls:=.type "list",data:=.seq its.toArray n}={cls:=.type "list",data:=.seq (its.set j u).toArray n}:=by
 simp[Obj.mapSeq]
theorem Inv.lst (I:Inv X pins σ H s)(h:H p=some (.lst xs)):
  ∃(its:List Value) (n:Nat),Vals xs its/\s.heap.get? p=some {cls:=.type "list",data:=.seq its.toArray n}/\xs.length<=sizeLine:=by
 obtain⟨z,its,n,r,e⟩:=I.hok p _ h;exact⟨its,n,r,e,z⟩
theorem Inv.lstUpd {pins:Pnx}{σ:St}{H:Hp}{s:Shared}{p:Addr}{xs ys:List V}{its its':List Value}{n n':Nat}{f:Obj->Obj}(I:Inv X pins σ H s)(h:H p=some (.lst xs))
  (ho:s.heap.get? p=some {cls:=.type "list",data:=.seq its.toArray n}) (hf:f {cls:=.type "list",data:=.seq its.toArray n}={cls:=.type "list",data:=.seq its'.toArray n'}) (r:Vals ys its') (hz:ys.length<=sizeLine) (t:Nat):
  Inv X pins σ (upd H p (.lst ys)) {s with heap:=s.heap.update p f,toks:=t}:=by
 have e:(s.heap.update p f).get? p=some {cls:=.type "list",data:=.seq its'.toArray n'}:=by
  rw[xbI f ho (by rw[hf]<;>rfl),hf]
 refine I.write (x:=p) (e:=p) (by rw[h];trivial) (.inl rfl) (fun b u hb q=>(xaU _ _ (xbu hb)).trans q) ⟨_,e⟩ ?_;exact⟨hz,its',n',r,e⟩
def zfG:V->V->V->Hp->(Hp->Prop)->Prop:=fun o i v H Q=>∃p xs k j,o=.ref p/\i=.int k/\H p=some (.lst xs)/\kj xs.length k=some j/\Q (upd H p (.lst (xs.set j v)))
theorem set_list:zJ X zfG:=by
 intro pins s σ H o i v ov iv u Q I ro ri rv h;obtain⟨p,xs,k,j,rfl,rfl,hp,hj,q⟩:=h;cases ro;obtain⟨t,rfl⟩:=ri;obtain⟨its,n,r,ho,hz⟩:=I.lst hp;obtain⟨h1,h2,h3,h4⟩:=RJ hj;have hl:=r.length;have hn:=rR;have I':Inv X pins σ (upd H p (.lst (xs.set j v))) {s with heap:=s.heap.update p (Obj.mapSeq (·.setIfInBounds j u))}:=
  I.lstUpd hp ho (za2 its n j u) (r.set rv j) (by rw[xaA];exact hz) s.toks
 by_cases h0:0<=k
 ·have hk:k.toNat=j:=by
   rw[xdK h0 h4]at h1;exact xav h1
  exact PySem.W.ki_setAt ho h0 (by omega) (by rw[xae, <-hl];exact h4) (by rw[hk];exact⟨_,I',q⟩)
 ·have hk:(k + (its.toArray.size:Int)).toNat=j:=by
   rw[seqIndex_neg (by omega) h3]at h1;rw[xae, <-hl];exact xav h1
  exact PySem.W.ki_setBack ho (by omega) (by rw[xae, <-hl];exact h3) (by omega) (by rw[hk];exact⟨_,I',q⟩)
theorem zaD (lo hi:Option Int)(n:Nat):(sliceBounds lo hi none n).1=((HT.bw n 0 lo:Nat):Int)/\(sliceBounds lo hi none n).2.1=((HT.bw n n hi:Nat):Int)/\(sliceBounds lo hi none n).2.2=1:=by
  refine⟨?_,?_,rfl⟩
  · cases lo with
    |none=>simp[sliceBounds,HT.bw]
    |some i=>
      simp only[sliceBounds,HT.bw,Option.getD_none,show(1:Int) > 0 by decide,xbo]
      by_cases h:i<0
      · simp only[h,xbo]<;>omega
      · simp only[h,xbP]<;>omega
  · cases hi with
    |none=>simp[sliceBounds,HT.bw]
    |some i=>
      simp only[sliceBounds,HT.bw,Option.getD_none,show(1:Int) > 0 by decide,xbo]
      by_cases h:i<0
      · simp only[h,xbo]<;>omega
      · simp only[h,xbP]<;>omega
theorem zaz (its:List Value)(lo hi:Option Int):slicePick its.toArray lo hi none=((its.drop (HT.bw its.length 0 lo)).take (HT.bw its.length its.length hi - HT.bw its.length 0 lo)).toArray:=by
 obtain⟨h1,h2,h3⟩:=zaD lo hi its.toArray.size;unfold slicePick;rw[h1,h2,h3];simp only[sliceRange_one,pick_run,xae]<;>rfl
def M7 (K:Fgx):V->Option Int->Option Int->Hp->VK->Prop:=fun x lo hi H Q=>∃a xs,x=.ref a/\bU K H a xs/\∀p,H p=none->Q (.ref p) (upd H p (.lst (gj xs lo hi)))
theorem zcs:tO X (M7 X.K):=by
 intro pins s σ H x v vl vu lo hi sl Q I rx hs pl pu h;obtain⟨a,xs,rfl,hx,q⟩:=h;cases rx;obtain⟨its,r,ht,hz⟩:=I.list hx;have hlen:=r.length;refine⟨"list",_,slot_list_getitem.lookup,ht.isList.typeIs,?_⟩;refine wpAny_getItem_list_slice ht.isList hs pl pu .none (by simp) ?_ (by rw[xae]<;>omega)
 rw[zaz, <-hlen];refine⟨.ref s.heap.objs.size,_,I.laid (t':=s.toks) (o:=.lst (gj xs lo hi)) (fun b ob q=>xaa _ q) (xaf _) ?_,rfl,q _ (I.hok.fresh (xaf _))⟩;exact⟨xaB (Qz xs lo hi) hz,_,0,(r.drop (HT.bw xs.length 0 lo)).take (HT.bw xs.length xs.length hi - HT.bw xs.length 0 lo),xas _ rfl⟩
noncomputable def pA:V->Bool
 |.non=>true
 |.bl _=>true
 |.int _=>true
 |.str _=>true
 |_=>false
noncomputable def rz:V->V->Bool
 |.non,.non=>true
 |.bl a,.bl b=>a==b
 |.bl a,.int b=>(if a then 1 else 0)==b
 |.int a,.bl b=>a==(if b then 1 else 0)
 |.int a,.int b=>a==b
 |.str a,.str b=>a==b
 |_,_=>false
theorem Yy (ry:RelV y u)(rx:RelV x v)(fy:pA y=true)(fx:pA x=true):SeqAt.EqAt A s u v (rz y x):=by
  cases y with
  |non=>
    cases ry
    cases x with
    |non=>cases rx;exact xcL _
    |bl b=>cases rx;exact SeqAt.EqAt.none_bool b
    |int b=>obtain⟨t,rfl⟩:=rx;exact SeqAt.EqAt.none_int b t
    |str b=>obtain⟨t,rfl⟩:=rx;exact SeqAt.EqAt.none_str b t
    |_=>exact absurd (show false=true from fx) xau
  |bl a=>
    cases ry
    cases x with
    |non=>cases rx;exact SeqAt.EqAt.bool_none a
    |bl b=>cases rx;exact SeqAt.EqAt.bool_bool a b
    |int b=>obtain⟨t,rfl⟩:=rx;exact SeqAt.EqAt.bool_int a b t
    |str b=>obtain⟨t,rfl⟩:=rx;exact SeqAt.EqAt.bool_str a b t
    |_=>exact absurd (show false=true from fx) xau
  |int a=>
    obtain⟨t',rfl⟩:=ry
    cases x with
    |non=>cases rx;exact SeqAt.EqAt.int_none a t'
    |bl b=>cases rx;exact SeqAt.EqAt.int_bool a t' b
    |int b=>obtain⟨t,rfl⟩:=rx;exact xc3 a t' b t
    |str b=>obtain⟨t,rfl⟩:=rx;exact xcZ a t' b t
    |_=>exact absurd (show false=true from fx) xau
  |str a=>
    obtain⟨t',rfl⟩:=ry
    cases x with
    |non=>cases rx;exact SeqAt.EqAt.str_none a t'
    |bl b=>cases rx;exact SeqAt.EqAt.str_bool a t' b
    |int b=>obtain⟨t,rfl⟩:=rx;exact xc1 a t' b t
    |str b=>obtain⟨t,rfl⟩:=rx;exact xc4 a t' b t
    |_=>exact absurd (show false=true from fx) xau
  |_=>exact absurd (show false=true from fy) xau
noncomputable def gK (x:V) (u:Value):Bool:=match u with
 |.none=>rz .non x
 |.bool b=>rz (.bl b) x
 |.int i _=>rz (.int i) x
 |.str z _=>rz (.str z) x
 |_=>false
theorem QX (r:RelV y u)(f:pA y=true):gK x u=rz y x:=by
 cases y with
 |non=>cases r;rfl
 |bl b=>cases r;rfl
 |int i=>obtain⟨t,rfl⟩:=r;rfl
 |str z=>obtain⟨t,rfl⟩:=r;rfl
 |_=>exact absurd (show false=true from f) xau
theorem zM:∀{xs:List V} {us:List Value},Vals xs us->xs.all pA=true->us.any (gK x)=xs.any fun y=>rz y x
  |_,_,.nil,_=>rfl
  |y::xs,u::us,.cons r t,f=>by
    rw[xbz,xap]at f;rw[xbZ,xbZ,QX r f.1,zM t f.2]
theorem Bf (rx:RelV x v)(fx:pA x=true):∀{xs:List V} {us:List Value},Vals xs us->xs.all pA=true->∀u∈us,SeqAt.EqAt A s u v (gK x u)
  |_,_,.nil,_=>fun u hu=>by cases hu
  |y::xs,u::us,.cons r t,f=>fun u' hu=>by
    rw[xbz,xap]at f;rcases xaJ.mp hu with rfl |hu
    · rw[QX r f.1];exact Yy r rx f.1 fx
    · exact Bf rx fx t f.2 u' hu
def inV (x:V)(xs:List V):Bool:=xs.any fun y=>rz y x
noncomputable def Fw (K:Fgx) (neg:Bool):R2:=fun x y H Q=>∃p xs,y=.ref p/\(bU K H p xs\/c7 K H p xs)/\pA x=true/\xs.all pA=true/\Q (.bl (if neg then !inV x xs else inV x xs)) H
theorem zbt:bY X (compareOp .In) (Fw X.K false):=by
 intro pins s σ H x y v u Q I rx ry h;obtain⟨p,xs,rfl,hq,fx,fs,q⟩:=h;cases ry;rcases hq with hq |hq
 ·obtain⟨its,r,pl,hz⟩:=I.list hq;refine SeqAt.in_listAt (gK x) pl.isList (fun w hw=>Bf rx fx r fs w (by simpa using hw)) ⟨.bl _,H,I,rfl,?_⟩;rw[show its.toArray.any (gK x)=its.any (gK x) by simp,zM r fs];exact q
 ·obtain⟨its,r,pl,hz⟩:=I.tuple hq;refine SeqAt.in_tupleAt (gK x) pl (fun w hw=>Bf rx fx r fs w (by simpa using hw)) ⟨.bl _,H,I,rfl,?_⟩;rw[show its.toArray.any (gK x)=its.any (gK x) by simp,zM r fs];exact q
theorem zaB:bY X (compareOp .NotIn) (Fw X.K true):=by
 intro pins s σ H x y v u Q I rx ry h;obtain⟨p,xs,rfl,hq,fx,fs,q⟩:=h;cases ry;rcases hq with hq |hq
 ·obtain⟨its,r,pl,hz⟩:=I.list hq;refine SeqAt.notIn_listAt (gK x) pl.isList (fun w hw=>Bf rx fx r fs w (by simpa using hw)) ⟨.bl _,H,I,rfl,?_⟩;rw[show its.toArray.any (gK x)=its.any (gK x) by simp,zM r fs];exact q
 ·obtain⟨its,r,pl,hz⟩:=I.tuple hq;refine SeqAt.notIn_tupleAt (gK x) pl (fun w hw=>Bf rx fx r fs w (by simpa using hw)) ⟨.bl _,H,I,rfl,?_⟩;rw[show its.toArray.any (gK x)=its.any (gK x) by simp,zM r fs];exact q
theorem Xz:dH X (.builtin "len") (fun xs H Q=>∃p ys,xs=[.ref p]/\(bU X.K H p ys\/c7 X.K H p ys)/\Q (.int ys.length) H):=by
 intro pins s σ H xs us Q I r h;obtain⟨p,ys,rfl,hq,q⟩:=h;obtain⟨u,rfl,rx⟩:=vals1 r;cases rx;have hn:=rR;rcases hq with hq |hq
 ·obtain⟨its,r',pl,hz⟩:=I.list hq;have hlen:=r'.length;exact Calls.call_len_list pl.isList (by simp only[xae]<;>omega) ⟨.int ys.length,H,I.tok _,⟨s.toks + 1,by rw[xae,hlen]⟩,q⟩
 ·obtain⟨its,r',pl,hz⟩:=I.tuple hq;have hlen:=r'.length;exact len_tuple pl (by simp only[xae]<;>omega) ⟨.int ys.length,H,I.tok _,⟨s.toks + 1,by rw[xae,hlen]⟩,q⟩
theorem XC:dH X (.builtin "len") (fun xs H Q=>∃z,xs=[.str z]/\z.length<=sizeLine/\Q (.int z.length) H):=by
 intro pins s σ H xs us Q I r h;obtain⟨z,rfl,hz,q⟩:=h;obtain⟨u,rfl,t,rfl⟩:=vals1 r;have hn:=rR;exact len_str (by omega) ⟨.int z.length,H,I.tok _,⟨_,rfl⟩,q⟩
theorem dH.or (h:dH X f r)(h':dH X f r'):dH X f (fun xs H Q=>r xs H Q\/r' xs H Q):=by
 intro pins s σ H xs us Q I rs q;rcases q with q |q
 ·exact h pins s σ H xs us Q I rs q
 ·exact h' pins s σ H xs us Q I rs q
theorem XD:dH X (.type "list") (fun xs H Q=>∃p ys,xs=[.ref p]/\(bU X.K H p ys\/c7 X.K H p ys)/\∀l,H l=none->Q (.ref l) (upd H l (.lst ys))):=by
 intro pins s σ H xs us Q I r h;obtain⟨p,ys,rfl,hq,q⟩:=h;obtain⟨u,rfl,rx⟩:=vals1 r;cases rx;have fin:∀(its:List Value),Vals ys its->ys.length<=sizeLine->∀(h':Heap) (c':Nat),(∀b o',s.heap.get? b=some o'->h'.get? b=some o')->
   h'.get? s.heap.objs.size=some {cls:=.type "list",dict:=none,data:=.seq its.toArray c',slots:= #[]}->EP X pins σ Q (.ref s.heap.objs.size) {s with heap:=h'}:=fun its r' hz h' c' kp e=>
  ⟨.ref s.heap.objs.size,_,I.laid (t':=s.toks) kp (xaf _) (show dI X.prog X.w _ h' _ (.lst ys) from⟨hz,its,c',r',e⟩),rfl,q _ (I.hok.fresh (xaf _))⟩
 rcases hq with hq |hq
 ·obtain⟨its,r',pl,hz⟩:=I.list hq;have hlen:=r'.length;obtain⟨o,ho,hc,n,hd⟩:=pl.isList;exact call_list_seq p (.inl rfl) ho hc hd (fun h' c' kp e=>fin its r' hz h' c' kp e) (by simp only[xae]<;>omega)
 ·obtain⟨its,r',pl,hz⟩:=I.tuple hq;have hlen:=r'.length;obtain⟨o,ho,hc,n,hd⟩:=pl;exact call_list_seq p (.inr rfl) ho hc hd (fun h' c' kp e=>fin its r' hz h' c' kp e) (by simp only[xae]<;>omega)
theorem XR:dH X (.type "tuple") (fun xs H Q=>∃p ys,xs=[.ref p]/\((bU X.K H p ys/\∀l,H l=none->Q (.ref l) (upd H l (.tup ys)))\/(c7 X.K H p ys/\Q (.ref p) H))):=by
 intro pins s σ H xs us Q I r h;obtain⟨p,ys,rfl,h⟩:=h;obtain⟨u,rfl,rx⟩:=vals1 r;cases rx;rcases h with⟨hq,q⟩ |⟨hq,q⟩
 ·obtain⟨its,r',pl,hz⟩:=I.list hq;have hlen:=r'.length;refine call_tuple_list pl.isList (fun h' kp=>?_) (by simp only[xae]<;>omega)
  have I1:Inv X pins σ H {s with heap:=h'}:=I.kept (t':=s.toks) kp;have I2:Inv X pins σ (upd H h'.objs.size (.tup ys)) {s with heap:=h'.push {cls:=.type "tuple",data:=.seq its.toArray}}:=
   I1.laid (t':=s.toks) (fun b o e=>xaa _ e) (xaf _) (show dI X.prog X.w _ _ _ (.tup ys) from⟨hz,its,r',IsTup.new _ _⟩)
  exact⟨.ref h'.objs.size,_,I2,rfl,q _ (I1.hok.fresh (xaf _))⟩
 ·obtain⟨its,r',pl,hz⟩:=I.tuple hq;exact call_tuple_same pl ⟨.ref p,H,I,rfl,q⟩
def Pa (K:Fgx)(T:String)(x:V)(H:Hp):Prop:=match x with
 |.str _=>T="str"
 |.int _=>T="int"
 |.ref p=>(T="list"/\∃xs,bU K H p xs)\/(T="tuple"/\∃o,K.lookup p=some o/\o.cls=.type "tuple"/\o.dict=none)\/
   (T="dict"/\((∃kvs,H p=some (.dK kvs))\/∃kvs,H p=some (.dT kvs)))\/(T="set"/\∃S n,H p=some (.set S n))
 |_=>False
theorem W5 (I:Inv X pins σ H s)(r:RelV x v)(ty:Pa X.K T x H):
    s.TypeIs v T/\∀a,v=.ref a->∃ob,s.heap.get? a=some ob/\ob.dict=none:=by
  cases x with
  |str z=>
    obtain⟨t,rfl⟩:=r;cases (show T="str" from ty);exact⟨typeIs_str s z t,fun _ e=>nomatch e⟩
  |int i=>
    obtain⟨t,rfl⟩:=r;cases (show T="int" from ty);exact⟨typeIs_int s i t,fun _ e=>nomatch e⟩
  |ref p=>
    cases r;rcases ty with⟨rfl,xs,hq⟩ |⟨rfl,o,hk,hc,hd⟩ |⟨rfl,hk⟩ |⟨rfl,S,n,hk⟩
    · obtain⟨its,_,pl,_⟩:=I.list hq;refine⟨pl.isList.typeIs,fun a e=>?_⟩;cases e;obtain⟨o,n,e,c,hd,_⟩:=pl;exact⟨o,e,hd⟩
    · refine⟨⟨o,I.kIn p o hk,hc⟩,fun a e=>?_⟩;cases e;exact⟨o,I.kIn _ o hk,hd⟩
    · have z:∃o,s.heap.get? p=some o/\o.ExactDict:=by
        rcases hk with⟨kvs,hk⟩ |⟨kvs,hk⟩
        · obtain⟨_,_,_,_,o,_,_,e,ex,_⟩:=I.hok p _ hk;exact⟨o,e,ex⟩
        · obtain⟨_,_,_,_,o,_,_,e,ex,_⟩:=I.hok p _ hk;exact⟨o,e,ex⟩
      obtain⟨o,e,ex⟩:=z;refine⟨⟨o,e,ex.1⟩,fun a e2=>?_⟩;cases e2;exact⟨o,e,ex.2.1⟩
    · obtain⟨o,_,_,_,e,ex,_⟩:=I.hok p _ hk;refine⟨⟨o,e,ex.1⟩,fun a e2=>?_⟩;cases e2;exact⟨o,e,ex.2.1⟩
  |_=>exact False.elim ty
noncomputable def Ow (K:Fgx) (T:String) (r:V->List V->Hp->VK->Prop) (to:TE):TE:=fun σ H Q=>to σ H fun x H1=>Pa K T x H1/\r x [] H1 Q
noncomputable def tBM (K:Fgx) (T:String) (r:V->List V->Hp->VK->Prop) (to:TE) (t:TA):TE:=fun σ H Q=>to σ H fun x H1=>Pa K T x H1/\t σ H1 fun xs H2=>r x xs H2 Q
variable {o e:Expr}{es:List Expr}{to:TE}{t:TA}{name:Str}{apos cpos:Pos}{T id:String}{r:V->List V->Hp->VK->Prop}
theorem zeA (pa:PlainAttrs T)(slot:Slot T name id)(hty:typeOf (.builtin id)=pure (.type "method_descriptor"))(hm:yg X id r)(ho:PE X o to)
  (hbase:attributeBase o name X.env (eval o X.env)=eval o X.env:=by rfl) (hline:(apos.endLine==cpos.line)=true:=by rfl):PE X (.Call (.Attribute o name apos) [] [] cpos) (Ow X.K T r to):=by
 intro pins s σ H Q I h;refine wpAny_Call_method0_late hbase hline (aP (ho pins s σ H _ I h) fun v s1 ⟨x,H1,I1,r1,ty,q1⟩=>?_);obtain⟨h1,h2⟩:=W5 I1 r1 ty;exact⟨T,id,pa,slot,hty,h1,h2,Calls.callWith_builtin rfl (PySem.evalArgs_none (hm pins s1 σ H1 x [] v [] Q I1 r1 .nil q1))⟩
theorem E_ (pa:PlainAttrs T)(slot:Slot T name id)(hty:typeOf (.builtin id)=pure (.type "method_descriptor"))(hm:yg X id r)(ho:PE X o to)(ha:PA X (e::es) t)
  (hbase:attributeBase o name X.env (eval o X.env)=eval o X.env:=by rfl)
  (hfew : ((backTo cpos (starEach (e::es) X.env)).all (fun x=> !x.1) && (backToKw cpos (keywordEach [] X.env)).all (fun x=>x.1.isSome)
   && decide ((e::es).length + ([]:List Keyword).length + (if ([]:List Keyword).isEmpty then 0 else 1)<30))=true:=by rfl)
  (hline:(apos.endLine==cpos.line)=true:=by rfl) (hs:starEach (e::es) X.env=(false,eval e X.env)::starEach es X.env:=by rfl) (hplain:(backTo cpos (starEach es X.env)).any (·.1)=false:=by rfl):
  PE X (.Call (.Attribute o name apos) (e::es) [] cpos) (tBM X.K T r to t):=by
 intro pins s σ H Q I h;refine wpAny_Call_method_late hbase hfew hline rfl (aP (ho pins s σ H _ I h) fun v s1 ⟨x,H1,I1,r1,ty,q1⟩=>?_);obtain⟨h1,h2⟩:=W5 I1 r1 ty;refine⟨T,id,pa,slot,hty,h1,h2,?_⟩;have hA:=ha cpos pins s1 σ H1 _ I1 q1;rw[hs]at hA ⊢;refine Calls.callWith_builtin (by show(false || (backTo cpos (starEach es X.env)).any (·.1))=false;rw[hplain]<;>rfl) (Calls.evalArgs_plain ?_)
 exact aP hA fun us s2 ⟨vs,H2,I2,r2,q2⟩=>hm pins s2 σ H2 x vs v us Q I2 r1 r2 q2
end
def Hr (X:Cx)(id:String)(r:V->List V->Hp->VK->Prop):Prop:=
 ∀(pins:Pnx) (s:Shared) (σ:St) (H:Hp) (x:V) (xs:List V) (v:Value) (us:List Value) (Q:VK),Inv X pins σ H s->RelV x v->Vals xs us->r x xs H Q->
  wpAny (model X.prog X.w) X.A (call (.builtin id) (v::us)) (EP X pins σ Q) X.xe s
theorem Vals.one:∀{x:V} {us:List Value},Vals [x] us->∃u,us=[u]/\RelV x u
 |_,_,.cons r .nil=>⟨_,rfl,r⟩
theorem Vals.zero:∀{us:List Value},Vals [] us->us=[]
 |_,.nil=>rfl
theorem Vals.dropLast (h:Vals xs us):Vals xs.dropLast us.dropLast:=by
  induction h with
  |nil=>exact .nil
  |cons r t ih=>
    cases t with
    |nil=>exact .nil
    |cons q t'=>exact .cons r ih
theorem Vals.rep (h:Vals xs us):∀k:Nat,Vals (List.replicate k xs).flatten (List.replicate k us).flatten
  |0=>.nil
  |k + 1=>by
    rw[xbs,xbs,xbL,xbL];exact Vals.append h (Vals.rep h k)
theorem Yz (l:List α):l.eraseIdx (l.length - 1)=l.dropLast:=by
  induction l with
  |nil=>rfl
  |cons a r ih=>
    cases r with
    |nil=>rfl
    |cons b r=>
      have e:(a::b::r).length - 1=((b::r).length - 1) + 1:=by
        have h1:(a::b::r).length=r.length + 2:=rfl;have h2:(b::r).length=r.length + 1:=rfl;omega
      rw[e,List.eraseIdx_cons_succ,ih]
      all_goals rfl
theorem foldl_rep (its:List Value):∀(k:Nat) (acc:List Value),
    List.foldl (fun x1 x2=>x1 ++ x2) acc.toArray (List.replicate k its.toArray)=(acc ++ (List.replicate k its).flatten).toArray
  |0,acc=>by simp
  |k + 1,acc=>by
    have e:acc.toArray ++ its.toArray=(acc ++ its).toArray:=by simp
    have e2:(acc ++ its) ++ (List.replicate k its).flatten=acc ++ (List.replicate (k + 1) its).flatten:=by
      rw[xbs,xbL,xar]
    rw[<-e2, <-foldl_rep its k (acc ++ its), <-e,xbs,xcp]
section
variable {X:Cx}{pins:Pnx}{σ:St}{H:Hp}{s:Shared}{l b:Addr}{xs ys zs:List V}
theorem Inv.lset {its its':List Value}{n:Nat}{f:Array Value->Array Value}{t':Nat}(I:Inv X pins σ H s)(hH:H l=some (.lst xs))
  (e:s.heap.get? l=some {cls:=.type "list",data:=.seq its.toArray n}) (hf:f its.toArray=its'.toArray) (hv:Vals ys its') (hz:ys.length<=sizeLine):
  Inv X pins σ (upd H l (.lst ys)) {s with heap:=s.heap.update l (Obj.mapSeq f),toks:=t'}:=by
 have q:=PySem.IsL.update e f;rw[hf]at q;refine I.write (x:=l) (e:=l) (by rw[hH];exact trivial) (.inl rfl) (fun b' u hb hu=>(xaU s.heap (Obj.mapSeq f) (xbu hb)).trans hu) ⟨_,q⟩ ?_;exact⟨hz,its',_,hv,q⟩
theorem Inv.lnew (I:Inv X pins σ H s)(hv:Vals ys its)(hz:ys.length<=sizeLine):
  Inv X pins σ (upd H s.heap.objs.size (.lst ys)) {s with heap:=s.heap.push {cls:=.type "list",data:=.seq its.toArray},toks:=t'}:=
 I.laid (fun _ _ q=>xaa _ q) (xaf _) ⟨hz,its,0,hv,xas _ rfl⟩
theorem Inv.fresh (I:Inv X pins σ H s):H s.heap.objs.size=none:=I.hok.fresh (xaf _)
theorem Inv.lstM (I:Inv X pins σ H s)(hH:H l=some (.lst xs)):xs.length<=sizeLine/\∃(its:List Value) (n:Nat),Vals xs its/\xs.length=its.length/\s.heap.get? l=some {cls:=.type "list",data:=.seq its.toArray n}:=by
 obtain⟨z,its,n,r,e⟩:=I.hok l _ hH;exact⟨z,its,n,r,r.length,e⟩
theorem zcc (h:n<=sizeLine):Builtin.List.listTooLong n=false:=by
 unfold Builtin.List.listTooLong;exact xaz (by omega)
end
section
variable {X:Cx}
def zcN:V->List V->Hp->VK->Prop:=fun x vs H Q=>∃l xs y,x=.ref l/\vs=[y]/\H l=some (.lst xs)/\xs.length<sizeLine/\Q .non (upd H l (.lst (xs ++ [y])))
theorem J4:Hr X "list.append" zcN:=by
 intro pins s σ H x vs v us Q I rx rv h;obtain⟨l,xs,y,rfl,rfl,hH,hz,q⟩:=h;cases rx;obtain⟨u,rfl,ru⟩:=rv.one;obtain⟨z,its,n,r,hl,e⟩:=I.lstM hH;refine xdn F.slot_list_append ⟨_,e,rfl⟩ F.entry_list_append (F.args_list_append_2 _ _) (PySem.list_append l its.toArray n u (by rw[xae];omega)) ⟨e,?_⟩;refine⟨.non,_,I.lset (its':=its ++ [u]) hH e (by simp) (r.append (.cons ru .nil)) ?_,rfl,q⟩;rw[xaj,xaQ];omega
def MP:V->List V->Hp->VK->Prop:=fun x vs H Q=>∃l xs y,x=.ref l/\vs=[]/\H l=some (.lst xs)/\xs[xs.length - 1]? =some y/\Q y (upd H l (.lst xs.dropLast))
theorem zd6:Hr X "list.pop" MP:=by
 intro pins s σ H x vs v us Q I rx rv h;obtain⟨l,xs,y,rfl,rfl,hH,hy,q⟩:=h;cases rx;have hus:=rv.zero;subst hus;obtain⟨z,its,n,r,hl,e⟩:=I.lstM hH;obtain⟨u,hu,ru⟩:=r.get hy;have hy':its.toArray[its.toArray.size - 1]? =some u:=by
  show its.toArray[its.length - 1]? =some u;rw[<-xdM, <-hl];exact hu
 refine xdn F.slot_list_pop ⟨_,e,rfl⟩ F.entry_list_pop (F.args_list_pop_1 _) (MeetsSeq.list_pop_last l its.toArray n u hy' (by rw[xae];omega)) ⟨e,?_⟩;refine⟨y,_,I.lset (its':=its.dropLast) hH e ?_ r.dropLast ?_,ru,q⟩
 ·show its.toArray.eraseIdxIfInBounds (its.toArray.size - 1)=its.dropLast.toArray;rw[xae,List.eraseIdxIfInBounds_toArray,Yz]
 ·rw[List.length_dropLast];omega
noncomputable def M6:R2:=fun x y H Q=>∃l k xs,x=.ref l/\y=.int k/\H l=some (.lst xs)/\ -(2 ^ 63)<=k/\k<2 ^ 63/\xs.length * k.toNat<=sizeLine/\
 ∀p,H p=none->Q (.ref p) (upd H p (.lst (List.replicate k.toNat xs).flatten))
theorem len_rep (xs:List α)(k:Nat):(List.replicate k xs).flatten.length=k * xs.length:=by
 induction k with
 |zero=>simp
 |succ k ih=>rw[xbs,xbL,xaj,ih,Nat.succ_mul,Nat.add_comm]
theorem zeS:bY X (binaryOp .Mult) M6:=by
  intro pins s σ H x y v u Q I rx ry h;obtain⟨l,k,xs,rfl,rfl,hH,h1,h2,hz,q⟩:=h;cases rx;obtain⟨t,rfl⟩:=ry;obtain⟨z,its,n,r,hl,e⟩:=I.lstM hH;have hlen:its.toArray.size * k.toNat<=sizeLine:=by rw[xae, <-hl];exact hz
  have hcap:¬ its.toArray.size * k.toNat > (2 ^ 63 - 1) / 8:=by
    have:(sizeLine:Nat)<=(2 ^ 63 - 1) / 8:=by decide
    omega
  have hfit:¬ (!Builtin.List.listFitsIndex k)=true:=by
    rw[fitsIndex_both h1 h2];exact xau
  have hlong:¬ Builtin.List.listTooLong (its.toArray.size * k.toNat)=true:=by
    rw[zcc hlen];exact xau
  have hnew:List.foldl (fun x1 x2=>x1 ++ x2) #[] (List.replicate (if its.toArray.isEmpty=true then 0 else k.toNat) its.toArray)=(List.replicate k.toNat its).flatten.toArray:=by
    have f0:∀m:Nat,List.foldl (fun x1 x2=>x1 ++ x2) #[] (List.replicate m its.toArray)=(List.replicate m its).flatten.toArray:=fun m=>by
      have:=foldl_rep its m [];rw[xbi]at this;exact this
    rw[f0]
    cases its with
    |nil=>simp
    |cons a r'=>rw[xad (by simp)]
  refine wpAny_binaryOp_repeat_ref (T:="list") (U:="int") (by decide) ⟨_,e,rfl⟩ (fun s'=>typeIs_int s' k t) noFill_list_mul F.fills_int_mul F.slot_int_rmul repeat_list F.slot_int_index.lookup
    (xdn F.slot_int_rmul (typeIs_int s k t) F.entry_int_rmul (F.args_int_rmul_2 _ _) (int___rmul___int_list k t l its.toArray n)
      ⟨e,rfl,⟨_,e,rfl⟩,xdn F.slot_list_mul ⟨_,e,rfl⟩ F.entry_list_mul (F.args_list_mul_2 _ _) (AutoListH.list___mul___list_int_3 l its.toArray n k t hfit hcap hlong) ⟨e,?_⟩⟩)
  rw[hnew];exact⟨.ref _,_,I.lnew (t':=s.toks) (r.rep k.toNat) (by rw[len_rep,Nat.mul_comm];exact hz),rfl,q _ I.fresh⟩
end
end L2
namespace Att
open PySem PySem.W PySem.Calls PyProof.Rows
theorem Zu:∀(ns:List Int) (vs:List Value),WellAll P h vs (ns.map WData.int)->IntsAre vs ns:=by
  intro ns
  induction ns with
  |nil=>
    intro vs w;rw[xbS]at w;cases w;exact .nil
  |cons n ns ih=>
    intro vs w;rw[xaI]at w
    cases w with
    |cons a b=>
      cases a;exact .cons _ _ (ih _ b)
theorem zbm {l:OpenLaw}{n:Nat}(hn:l.most=some n){P:Params}{h:Heap}{args:List WData}{vals:List Value}
    (hpre:l.row.toRowW.claim.pre args=true) (hwl:WellAll P h vals args):
    ∃a vs ns,vals=[Value.ref a]/\args=[WData.list (ns.map WData.int)]/\h.get? a=some {cls:=.type "list",data:=.seq vs.toArray}/\IntsAre vs ns/\ns.length<=n:=by
  have hsh:WShape.hasAll [] args [.list .int]=true:=(pre_splitW hpre).1;have hc:l.pre.holds [] {args:=args}=true:=(pre_splitW hpre).2;obtain⟨d,r,rfl,h1,h2⟩:=hasAllW_cons hsh;obtain rfl:=hasAllW_nil h2;obtain⟨xs,rfl,h3⟩:=hasW_list h1;obtain⟨ns,rfl⟩:=items_int h3;have hlen:ns.length<=n:=by
    unfold OpenLaw.pre at hc;have h4:(WTm.not (.lt (.lit (.int (n:Int))) (.len (.arg 0)))).holds [] {args:=[.list (ns.map .int)]}=true:=by
      have h4:=(holds_andW hc).1;rw[hn]at h4;exact h4
    have h5:=condW_of h4 (w_not (w_lt w_lit (w_len_list (w_arg rfl))));rw[xal]at h5;refine Nat.le_of_not_lt fun q=>?_;have q':(n:Int)<((ns.length:Nat):Int):=by omega
    first
      |(rw[xaF q']at h5;exact absurd h5 (by decide))
      |(simp at h5;omega)
  cases hwl with
  |cons w1 w2=>
    cases w2
    cases w1 with
    |list ho hall=>exact⟨_,_,ns,rfl,rfl,ho,Zu ns _ hall,hlen⟩
theorem zba (l:OpenLaw)(args:List WData):l.row.toRowW.claim.post args (.bool true) args=true:=
 postW_of (r:=l.row.toRowW) (X:=(true==true))
  (show WShape.has [] (.bool true) .bool=true by first |rfl |decide |simp[WShape.has,WShape.arms,WShape.armsAll])
  (show(WTm.eq .res (.lit (.bool true))).value [] {args:=args,res:=some (.bool true),after:=args}=some (.bool (true==true)) from w_eq_bool (w_res rfl) w_lit) rfl
theorem Xm {l:OpenLaw}{n:Nat}{q:Program}{loose:List Str}{XP:(Mgx)->Heap->Prop}{YP:World->Heap->Prop}{d:DefRec}
  (hn:l.most=some n) (hdf:d.params.defaults=[])
  (call:∀(w:World) (s₀ s₁:Shared) (mg mb:Mgx) (fa:Addr) (o:Obj) (pm cd doc:Value) (a:Addr) (vs:List Value) (ns:List Int),
   Ground q loose [] XP w s₀ mg mb s₁.heap->YP w s₁.heap->
   s₁.heap.get? fa=some o->o.data=.func (docDef d.name d.params d.body d.scope pm cd doc)->s₁.heap.CodeRec cd d.name->mg d.name=some (.ref fa)->
   s₁.heap.get? a=some {cls:=.type "list",data:=.seq vs.toArray}->IntsAre vs ns->ns.length<=n->s₁.gens= #[]->
   codeAny (model l.prog w) callerA (.call (.ref fa) ⟨[.ref a],[]⟩) (fun r s'=>r=.ok (.ret (.bool true))/\OldK s₁.heap s'.heap/\s'.os=s₁.os/\AllBare s'.gens) s₁):
  WalkO q loose XP YP l.row.toRowW d [] (fun f vs=>PySem.call f vs):=by
 intro w s₀ s₁ mg mb G Y fa o pm cd doc dV kV ho hd hcd hD hmg hg args vals as hpre hlay hrd hwl hlo;obtain rfl:dV=.none:=Dflts.none hD hdf;obtain rfl:kV=.none:=Dflts.noKw hD;obtain⟨a,vs,ns,rfl,rfl,hobj,hints,hlen⟩:=zbm hn hpre hwl;refine enter_call (xbO (call w s₀ s₁ mg mb fa o pm cd doc a vs ns G Y ho (fd_plain hd) hcd hmg hobj hints hlen hg) fun r s' hq=>?_);obtain⟨rfl,h2,h3,h4⟩:=hq;exact⟨.inl ⟨.bool true,.bool true,[],rfl,fun _=>rfl,.bool true,zba l _,fun _=>⟨List.Pairwise.nil,fun _ hm=>(nomatch hm)⟩⟩,h2,h3,h4⟩
end Att
namespace L2
open PySem PySem.Spec PyProof.Rows
theorem W8:∀{vs:List Value} {ns:List Int},IntsAre vs ns->Vals (ns.map V.int) vs
 |_,_,.nil=>.nil
 |_,_,.cons n t h=>.cons ⟨t,rfl⟩ (W8 h)
noncomputable def b_ (s:Stmt):Arguments:=match s with
 |.FunctionDef _ a _ _ _ _ _ _ _ _=>a
 |_=>{posonlyargs:=[],args:=[],vararg:=none,kwonlyargs:=[],kw_defaults:=[],kwarg:=none,defaults:=[]}
noncomputable def bJ (s:Stmt):List Stmt:=match s with
 |.FunctionDef _ _ b _ _ _ _ _ _ _=>b
 |_=>[]
noncomputable def aJ (s:Stmt):Scope:=match s with
 |.FunctionDef _ _ _ _ _ _ sc _ _ _=>sc
 |_=>{kind:=.function,names:=[],isGenerator:=false,isCoroutine:=false}
abbrev fO:fP:=fun _ _ _ _ _ _=>False
abbrev E0:XK:=fun _ _ _=>False
theorem Bo:Passes fO X E0:=fun _ _ _ _ _ _ _ h=>h.elim
structure Fun (K:Fgx)(x qual:Str)(st:Stmt)(f:Addr)(fd:FuncData):Prop where
 ex:∃(oc:Value) (od:Option Addr) (kV doc pm:Value) (an:Option Addr) (cdv ct:Value) (osl:Array (Option Value)),
  fd=PySem.W.fnOf x qual (b_ st) (bJ st) (aJ st) .none kV doc pm an cdv ct/\K.lookup f=some ⟨oc,od,.func fd,osl⟩/\PySem.W.codeIn K cdv qual=true
 kp:PySem.W.keepIn K (.ref f)=true
section
variable {P:Program}{w:World}{K:Fgx}{mg:Mgx}{base:Heap}
theorem Fun.binds {x qual:Str}{st:Stmt}{f:Addr}{fd:FuncData}{ps:List Str}(F:Fun K x qual st f fd)
  (h:∀(kV doc pm:Value) (an:Option Addr) (cdv ct:Value) (us:List Value),us.length=ps.length->bindArgs (PySem.W.fnOf x qual (b_ st) (bJ st) (aJ st) .none kV doc pm an cdv ct) ⟨us,[]⟩=pure (ps.zip us)):Binds K fd ps []:=by
 obtain⟨oc,od,kV,doc,pm,an,cdv,ct,osl,rfl,lk,hcd⟩:=F.ex;exact .all (h kV doc pm an cdv ct)
theorem j4 {x qual:Str}{st:Stmt}{f:Addr}{oc:Value}{od an:Option Addr}{osl:Array (Option Value)}{kV doc pm cdv ct:Value}(l:K.lookup f=some ⟨oc,od,.func (PySem.W.fnOf x qual (b_ st) (bJ st) (aJ st) .none kV doc pm an cdv ct),osl⟩)
  (c:PySem.W.codeIn K cdv qual=true) (k:PySem.W.keepIn K (.ref f)=true):Fun K x qual st f (PySem.W.fnOf x qual (b_ st) (bJ st) (aJ st) .none kV doc pm an cdv ct):=⟨⟨oc,od,kV,doc,pm,an,cdv,ct,osl,rfl,l,c⟩,k⟩
end
def Same (H H':Hp):Prop:=∀b o,H b=some o->H' b=some o
theorem Same.refl (H:Hp):Same H H:=fun _ _ h=>h
theorem Same.trans (a:Same H H1)(b:Same H1 H2):Same H H2:=fun c o h=>b c o (a c o h)
theorem Same.free (e:Same H H')(h:H' l=Option.none):H l=Option.none:=by
  cases q:H l with
  |none=>rfl
  |some o=>
    rw[e l o q]at h;cases h
end L2
set_option maxHeartbeats 0
namespace L2
open PySem PySem.Spec PyProof.Rows
section
variable {κ:Type}[DecidableEq κ]
noncomputable def gB (kvs:List (κ×V)) (k:κ):Option V:=(kvs.find? fun kv=>decide (kv.1=k)).map (·.2)
noncomputable def putK (kvs:List (κ×V)) (k:κ) (v:V):List (κ×V):=
 if (kvs.any fun kv=>decide (kv.1=k))=true then kvs.map (fun kv=>if kv.1=k then(kv.1,v) else kv) else kvs ++ [(k,v)]
theorem zbL {p:κ×V}{r:List (κ×V)}{k:κ}(e:p.1=k):gB (p::r) k=some p.2:=by simp[gB,xb0,e]
theorem zce {p:κ×V}{r:List (κ×V)}{k:κ}(e:¬ p.1=k):gB (p::r) k=gB r k:=by simp[gB,xb0,e]
theorem zb5 (k:κ):∀kvs:List (κ×V),(kvs.any fun kv=>decide (kv.1=k))=(gB kvs k).isSome
  | []=>rfl
  |p::r=>by
    rw[xbZ]
    by_cases e:p.1=k
    · simp only[zbL e,xaF e,Bool.true_or,xcr]
    · rw[zce e,xaz e,Bool.false_or];exact zb5 k r
end
theorem RX (r:RelV (kV k) u):(pG P w).is k u=true:=by
 cases k with
 |inl i=>obtain⟨t,e⟩:=(show ∃t,u=Value.int i t from r);subst e;exact zaJ P w i t
 |inr x=>obtain⟨t,e⟩:=(show ∃t,u=Value.str x t from r);subst e;exact J3 P w x t
abbrev KT (H:Hp):List (List Key×V)->List (List Key×Addr×Value)->Prop:=Paired fun p q=>p.1=q.1/\H q.2.1=some (.tup (p.1.map kV))/\RelV p.2 q.2.2
def Xe (H:Hp)(a:Addr)(y:V)(r:Option V):Prop:=
 (∃kvs k,Rd H a (.dK kvs)/\y=kV k/\r=gB kvs k)\/∃kvs k b,Rd H a (.dT kvs)/\y=.ref b/\H b=some (.tup (k.map kV))/\r=gB kvs k
def Xf (H:Hp)(a:Addr)(y v:V)(H':Hp):Prop:=
 (∃kvs k,H a=some (.dK kvs)/\y=kV k/\kvs.length<sizeLine/\H'=upd H a (.dK (putK kvs k v)))\/
 ∃kvs k b,H a=some (.dT kvs)/\y=.ref b/\H b=some (.tup (k.map kV))/\kvs.length<sizeLine/\H'=upd H a (.dT (putK kvs k v))
def zH (i:Expr):Prop:=∀ov iv,subscripted i false ov iv=operate [ov,iv] (getItem ov iv)
theorem zcT {prog:Program}{w:World}{A:Around}{E:Value->Shared->Prop}{s:Shared}{env:Env}{value slice:Expr}{pos:Pos}{T id:String}{Q:Value->Shared->Prop}
  (hl:typeLookup (.type T) "__getitem__"=pure (some (.builtin id))) (hs:zH slice)
  (h:wpAny (model prog w) A (eval value env) (fun o s₁=>wpAny (model prog w) A (eval slice env) (fun i s₂=>s₂.TypeIs o T/\wpAny (model prog w) A (getItem o i) Q E s₂) E s₁) E s):
  wpAny (model prog w) A (eval (.Subscript value slice pos) env) Q E s:=by
 refine Subscript_ (xaO h (fun o s₁ h₁=>xaO h₁ (fun i s₂ h₂=>?_) fun _ _ x=>x) fun _ _ x=>x);obtain⟨hT,h₂⟩:=h₂;unfold subscriptTail;refine tG ?_;rw[getitemInPython_of_ne hT.not_modules];refine tG (xcM hT hl ?_);have fin:wpAny (model prog w) A (subscripted slice false o i) (fun r s₃=>wpAny (model prog w) A (letTemporaryGo value o r >>=fun _=>pure r) Q E s₃) E s₂:=by
  rw[hs o i];exact wpAny_operating (xaO h₂ (fun r s₃ h₃=>tG (wpAny_letTemporaryGo (xah h₃))) fun _ _ x=>x)
 first
  |exact xah (tG fin)
  |exact tG (xah (tG fin))
  |exact tG fin
structure M1 (X:Cx)(o:Expr)(m:Str)(apos:Pos)(e:Expr)(cpos:Pos):Prop where
 base:attributeBase o m X.env (eval o X.env)=eval o X.env
 few : ((backTo cpos (starEach [e] X.env)).all (fun x=> !x.1) && (backToKw cpos (keywordEach [] X.env)).all (fun x=>x.1.isSome)
  && decide (([e]:List Expr).length + ([]:List Keyword).length + (if ([]:List Keyword).isEmpty then 0 else 1)<30))=true
 line:(apos.endLine==cpos.line)=true
 trees:backTo cpos (starEach [e] X.env)=[(false,eval e X.env)]
structure M2 (X:Cx)(o:Expr)(m:Str)(apos:Pos)(e f:Expr)(cpos:Pos):Prop where
 base:attributeBase o m X.env (eval o X.env)=eval o X.env
 few : ((backTo cpos (starEach [e,f] X.env)).all (fun x=> !x.1) && (backToKw cpos (keywordEach [] X.env)).all (fun x=>x.1.isSome)
  && decide (([e,f]:List Expr).length + ([]:List Keyword).length + (if ([]:List Keyword).isEmpty then 0 else 1)<30))=true
 line:(apos.endLine==cpos.line)=true
 trees:backTo cpos (starEach [e,f] X.env)=[(false,eval e X.env),(false,eval f X.env)]
end L2
namespace Att
open PySem PySem.W PySem.Calls PyProof.Rows
end Att
namespace L2
open PySem PySem.Spec PyProof.Rows
noncomputable def Its (z:Str):It:=⟨fun i _=>i<z.cps.size,fun i H x H'=>H'=H/\∃c,z.cps[i]? =some c/\x=.str ⟨#[c]⟩,fun i _=>i=z.cps.size⟩
theorem Ze (hQ:Q () s):wpAny M A (letOwnedTupleGo tg (.ref it) (.str x t)) Q E s:=by
 unfold letOwnedTupleGo;cases tg<;>exact xah hQ
theorem W3 {P:Program}{w:World}{K:Fgx}{tg:Expr}{ty:String}{z:Str}{t:Tok}{it:Addr}
  (W:∀A:Around,A.handled=none->Walks P w A it [it] [it] z.cps.size (SignAt z) (fun i h=>h.IsStrIter it ty z t i))
  (hself:∀(A:Around) (i:Nat) (s:Shared) (Q:Value->Shared->Prop) (E:Value->Shared->Prop),s.heap.IsStrIter it ty z t i->Q (.ref it) s->wpAny (model P w) A (pyIter (.ref it)) Q E s):
  Turn P w K tg (Its z) [it] it (fun i h=>h.IsStrIter it ty z t i) where
 mem:=by simp
 obj:=fun i h st b hb=>by
  have e:b=it:=by simpa using hb
  subst e;obtain⟨o,e,c,d⟩:=st;exact⟨o,e,fun v z=>by rw[d]at z;cases z⟩
 keep:=fun i h h' st k=>by
  obtain⟨o,e,c,d⟩:=st;exact⟨o,k it (by simp) o e,c,d⟩
 item:=by
  intro X hP hw hK hc i pins s σ H E I hf st hg;subst hP hw hK;obtain⟨f0,f1,f2,f3,f4,f5⟩:=hf it (by simp);refine(W X.A (I.ok.hd hc)).item i s _ _ hg st fun v h' tk hv st' kk=>?_;obtain⟨c,u,hcc,rfl⟩:=hv;have I1:Inv X pins σ H {s with heap:=h',toks:=tk}:=I.turned (fun b o hb e=>kk b o (by simpa using hb) e) f0 f1 f3 f4 f5;exact⟨_,rfl,Ze ⟨.str ⟨#[c]⟩,H,I1,⟨_,rfl⟩,⟨rfl,c,hcc,rfl⟩,st',fun b hb=>(hf b hb).1⟩⟩
 done:=by
  intro X hP hw hK hc i pins s σ H E I hf st hg;subst hP hw hK;have hg':i=z.cps.size:=hg;subst hg';obtain⟨f0,f1,f2,f3,f4,f5⟩:=hf it (by simp);exact(W X.A (I.ok.hd hc)).done s _ _ st fun h' tk kk=>⟨rfl,I.turned (fun b o hb e=>kk b o (by simpa using hb) e) f0 f1 f3 f4 f5⟩
 self:=fun A i s Q E st q=>hself A i s Q E st q
section
variable {X:Cx}{tg:Expr}
noncomputable def JF (tl:TE):TI:=fun σ H R=>tl σ H fun x H1=>∃z,x=.str z/\R (Its z) H1
theorem ze6 {l:Expr}{tl:TE}(hl:PE X l tl):PI X tg l (JF tl):=by
 intro pins s σ H R I h;refine aP (hl pins s σ H _ I h) fun v s1 ⟨x,H1,I1,r1,q1⟩=>?_;obtain⟨z,e,q⟩:=q1;subst e;obtain⟨t,e⟩:=r1;subst e;have fp:∀b∈ [s1.heap.objs.size],eG X pins H1 b:=fun b hb=>by
  have e:b=s1.heap.objs.size:=by simpa using hb
  subst e;exact I1.fpOk (xaf _) (I1.hok.fresh (xaf _))
 cases ha:z.cps.all (· <128)
 ·refine wpAny_pyIter_wide ha ?_;exact ⟨s1.heap.objs.size,[s1.heap.objs.size],_,_,H1,rfl,I1.kept (t':=s1.toks) fun b o e=>xaa _ e,
   W3 (ty:="str_iterator") (z:=z) (t:=t) (fun A hA=>Walks.strWide hA _ z t) (fun _ _ _ _ _ st q=>wpAny_pyIter_striter_wide st q),⟨_,xas _ rfl,rfl,rfl⟩,fp,q⟩
 ·refine wpAny_pyIter_ascii ha ?_;exact ⟨s1.heap.objs.size,[s1.heap.objs.size],_,_,H1,rfl,I1.kept (t':=s1.toks) fun b o e=>xaa _ e,
   W3 (ty:="str_ascii_iterator") (z:=z) (t:=t) (fun A hA=>Walks.strAscii hA _ z t) (fun _ _ _ _ _ st q=>wpAny_pyIter_striter_ascii st q),⟨_,xas _ rfl,rfl,rfl⟩,fp,q⟩
end
theorem zaX:∀{us:List Value},Vals (ys.map V.str) us->StrsAre us ys:=by
  induction ys with
  |nil=>intro us r;rw[xbS]at r;cases r;exact .nil
  |cons n ns ih=>
    intro us r;rw[xaI]at r
    cases r with
    |cons r1 r2=>
      obtain⟨t,e⟩:=r1;subst e;exact .cons n t (ih r2)
section
variable {X:Cx}
def rJoin (K:Fgx):V->List V->Hp->VK->Prop:=fun x vs H Q=>∃z l ys,x=.str z/\vs=[.ref l]/\bU K H l (ys.map V.str)/\z.length<=16/\(ys.map (·.length)).sum + ys.length<=1048576/\Q (.str (Txt.join z ys)) H
theorem zc0:yg X "str.join" (rJoin X.K):=by
 intro pins s σ H x vs v us Q I rx rv h;obtain⟨z,l,ys,rfl,rfl,hq,h1,h2,q⟩:=h;obtain⟨t,rfl⟩:=rx;obtain⟨u,rfl,ru⟩:=rv.one;cases ru;obtain⟨its,r,pl,hz⟩:=I.list hq;exact join_listW pl.isList (by simpa using zaX r) h1 h2 fun t' k=>⟨.str _,H,I.tok _,⟨_,rfl⟩,q⟩
def M8:V->Option Int->Option Int->Hp->VK->Prop:=fun x lo hi H Q=>∃z,x=.str z/\z.length<=sizeLine/\Q (.str (Txt.slice z lo hi)) H
theorem zeB:tO X M8:=by
 intro pins s σ H x v vl vu lo hi sl Q I rx hs pl pu h;obtain⟨z,rfl,hz,q⟩:=h;obtain⟨t,rfl⟩:=rx;refine⟨"str",_,F.slot_str_getitem.lookup,typeIs_str _ _ _,?_⟩;obtain⟨o,ho,hc,hd⟩:=hs;cases pl<;>cases pu
 ·exact xbX (l:=none) (u:=none) (st:=none) ⟨o,ho,hc,hd⟩ rfl (xcN ⟨xaB (xdu z none none) hz,fun t' k=>⟨.str _,H,I.tok _,⟨_,rfl⟩,q⟩⟩)
 ·rename_i j uj;exact xbX (l:=none) (u:=some (j,uj)) (st:=none) ⟨o,ho,hc,hd⟩ rfl (xcN ⟨xaB (xdu z none (some j)) hz,fun t' k=>⟨.str _,H,I.tok _,⟨_,rfl⟩,q⟩⟩)
 ·rename_i i ui;exact xbX (l:=some (i,ui)) (u:=none) (st:=none) ⟨o,ho,hc,hd⟩ rfl (xcN ⟨xaB (xdu z (some i) none) hz,fun t' k=>⟨.str _,H,I.tok _,⟨_,rfl⟩,q⟩⟩)
 ·rename_i i ui j uj;exact xbX (l:=some (i,ui)) (u:=some (j,uj)) (st:=none) ⟨o,ho,hc,hd⟩ rfl (xcN ⟨xaB (xdu z (some i) (some j)) hz,fun t' k=>⟨.str _,H,I.tok _,⟨_,rfl⟩,q⟩⟩)
theorem zfp:bY X (compareOp .Is) (fun x y H Q=>∃b,y=.bl b/\Q (.bl (decide (x=.bl b))) H):=by
 intro pins s σ H x y v u Q I rx ry h;obtain⟨b,rfl,q⟩:=h;cases ry
 cases x with
 |bl c=>cases rx;exact xah (bI I q (by cases b<;>cases c<;>rfl))
 |non=>cases rx;exact xah (bI I q (by simp))
 |int _=>obtain⟨t,rfl⟩:=rx;exact xah (bI I q (by simp))
 |str _=>obtain⟨t,rfl⟩:=rx;exact xah (bI I q (by simp))
 |byt _=>obtain⟨t,rfl⟩:=rx;exact xah (bI I q (by simp))
 |flt _=>obtain⟨t,rfl⟩:=rx;exact xah (bI I q (by simp))
 |ref _=>cases rx;exact xah (bI I q (by simp))
 |ty _=>cases rx;exact xah (bI I q (by simp))
theorem zbw:bY X (compareOp .IsNot) (fun x y H Q=>∃b,y=.bl b/\Q (.bl (!decide (x=.bl b))) H):=by
 intro pins s σ H x y v u Q I rx ry h;obtain⟨b,rfl,q⟩:=h;cases ry
 cases x with
 |bl c=>cases rx;exact xah (bI I q (by cases b<;>cases c<;>rfl))
 |non=>cases rx;exact xah (bI I q (by simp))
 |int _=>obtain⟨t,rfl⟩:=rx;exact xah (bI I q (by simp))
 |str _=>obtain⟨t,rfl⟩:=rx;exact xah (bI I q (by simp))
 |byt _=>obtain⟨t,rfl⟩:=rx;exact xah (bI I q (by simp))
 |flt _=>obtain⟨t,rfl⟩:=rx;exact xah (bI I q (by simp))
 |ref _=>cases rx;exact xah (bI I q (by simp))
 |ty _=>cases rx;exact xah (bI I q (by simp))
theorem range_any (bs:List Bool):(List.range bs.length).any (fun i=>(bs[i]?).getD false)=bs.any id:=by
 rw[xaL,List.any_eq_true,List.any_eq_true]
 constructor
 ·rintro⟨i,hi,h⟩;have hi':=xcv.mp hi;rw[xag hi']at h;exact⟨_,xbT hi',h⟩
 ·rintro⟨b,hb,h⟩;obtain⟨i,hi,e⟩:=List.mem_iff_getElem.mp hb;refine⟨i,xcv.mpr hi,?_⟩;rw[xag hi,e];exact h
theorem Xq {bs:List Bool}{its:List Value}(r:Vals (bs.map V.bl) its){i:Nat}{v:Value}(h:its.toArray[i]? =some v):v=.bool ((bs[i]?).getD false):=by
 have h':its[i]? =some v:=by simpa using h
 have hl:=r.length;rw[xal]at hl;have hi:i<bs.length:=by
  have:=(xam.mp h').1;omega
 have hx:(bs.map V.bl)[i]? =some (V.bl bs[i]):=by rw[xan,xag hi];rfl
 obtain⟨u,hu,ru⟩:=r.get hx;rw[h']at hu;cases hu;rw[xag hi];exact ru
theorem Xv (hc:X.calm=true):dH X (.builtin "any") (fun xs H Q=>∃(p:Addr) (bs:List Bool),xs=[.ref p]/\bU X.K H p (bs.map V.bl)/\Q (.bl (bs.any id)) H):=by
 intro pins s σ H xs us Q I r h;obtain⟨p,bs,rfl,hq,q⟩:=h;obtain⟨u,rfl,ru⟩:=vals1 r;cases ru;obtain⟨its,rv,pl,hz⟩:=I.list hq;have hp:p<s.heap.objs.size:=by obtain⟨o,ho,_⟩:=pl.isList;exact xaq ho
 have hn:its.toArray.size=bs.length:=by rw[xae, <-rv.length,xal]
 refine call_any_walk (wpAny_pyIter_list pl.isList ⟨s.heap.objs.size,_,_,its.toArray.size,_,_,fun i=>(bs[i]?).getD false,rfl,Walks.list (A:=X.A.in1) (show X.A.in1.handled=none from I.ok.hd hc) _ p (xay hp) its.toArray,
  ⟨⟨_,xas _ rfl,rfl,rfl⟩,pl.isList.at fun o e=>xaa _ e⟩,fun i v s' Q' E' hv hQ=>?_,fun h' tk kk=>?_⟩)
 ·rw[Xq rv hv];exact xbK hQ
 ·rw[hn,range_any];refine⟨.bl _,H,I.kept fun b o e=>kk b o ?_ (xaa _ e),rfl,q⟩;intro z;have z':b=s.heap.objs.size:=by simpa using z
  exact xa9 _ (z' ▸ xaq e)
end
section
variable {X:Cx}{pins:Pnx}{σ:St}{H:Hp}{s:Shared}
theorem Zt:∀{us:List Value},Vals (ns.map V.int) us->IntsAre us ns:=by
  induction ns with
  |nil=>intro us h;cases us with
    |nil=>exact .nil
    |cons u us=>cases h
  |cons n ns ih=>intro us h;cases us with
    |nil=>cases h
    |cons u us=>
      cases h with
      |cons a b=>
        obtain⟨t,rfl⟩:=a;exact .cons _ _ (ih b)
end
section
variable {X:Cx}{pins:Pnx}{σ:St}{H:Hp}{s:Shared}
def Uj:V->List V->Hp->VK->Prop:=fun x vs H Q=>∃z y,x=.str z/\vs=[.str y]/\Q (.bl (Txt.startswith z y)) H
theorem zbc:yg X "str.startswith" Uj:=by
 intro pins s σ H x vs v us Q I rx rv h;obtain⟨z,y,rfl,rfl,q⟩:=h;obtain⟨t,rfl⟩:=rx;obtain⟨u,rfl,t',rfl⟩:=rv.one;exact SC.startswith ⟨.bl _,H,I,rfl,q⟩
def Ui:V->List V->Hp->VK->Prop:=fun x vs H Q=>∃z y,x=.str z/\vs=[.str y]/\z.length<=sizeLine/\Q (.str (Txt.lstripChars z y)) H
theorem zbd:yg X "str.lstrip" Ui:=by
 intro pins s σ H x vs v us Q I rx rv h;obtain⟨z,y,rfl,rfl,hz,q⟩:=h;obtain⟨t,rfl⟩:=rx;obtain⟨u,rfl,t',rfl⟩:=rv.one;exact SC.lstripChars (fun t' k=>⟨.str _,H,I.tok _,⟨_,rfl⟩,q⟩) hz
theorem Ja:dH X (.type "int") (fun xs H Q=>∃z n,xs=[.str z]/\intText? z=some n/\z.length<=640/\Q (.int n) H):=by
 intro pins s σ H xs us Q I r h;obtain⟨z,n,rfl,h1,h2,q⟩:=h;obtain⟨u,rfl,t,rfl⟩:=vals1 r;exact W.KIN.call_text h1 h2 ⟨.int n,H,I.tok _,⟨_,rfl⟩,q⟩
end
noncomputable def textV:V->Option Str
 |.str z=>if z.length<=sizeLine then some z else none
 |.int i=>if i.natAbs.log2<1920 then some (toString i) else none
 |_=>none
abbrev TJ:=Str->St->Hp->VK->Prop
def PJ (X:Cx)(vs:List Expr)(t:TJ):Prop:=∀(pins:Pnx) (s:Shared) (σ:St) (H:Hp) (out:Str) (Q:VK),Inv X pins σ H s->t out σ H Q->wpAny (model X.prog X.w) X.A (joinParts out (evalEach vs X.env)) (EP X pins σ Q) X.xe s
def JQ:TJ:=fun out _ H Q=>out.length<=sizeLine/\Q (.str out) H
noncomputable def ZQ (te:TE) (tj:TJ):TJ:=fun out σ H Q=>te σ H fun v H1=>∃y,textV v=some y/\(out ++ y).length<=sizeLine/\tj (out ++ y) σ H1 Q
section
variable {X:Cx}{vs:List Expr}{te:TE}{tj:TJ}
theorem ze4:PJ X [] JQ:=fun pins s σ H out Q I h=>joinParts_nil ⟨.str out,H,I.tok _,⟨_,rfl⟩,h.2⟩ h.1
theorem zd4 (hv:PJ X vs tj)(hz:z.length<=sizeLine):PJ X (.Constant (.str z) k pos::vs) (fun out σ H Q=>(out ++ z).length<=sizeLine/\tj (out ++ z) σ H Q):=fun pins s σ H out Q I h=>by
 refine joinParts_cons (Calls.Constant_str ?_);exact⟨h.1,hv pins _ σ H _ Q (I.tok _) h.2⟩
theorem zeg (he:PE X e te)(hv:PJ X vs tj):PJ X (.FormattedValue e (-1) none pos::vs) (ZQ te tj):=fun pins s σ H out Q I h=>by
 refine joinParts_cons (FormattedValue_plain (aP (he pins s σ H _ I h) fun u s1 ⟨x,H1,I1,r1,y,ey,hl,q⟩=>?_));cases x<;>simp only[textV,reduceCtorEq]at ey
 case int i=>
  split at ey
  ·rename_i hd;cases ey;obtain⟨t,rfl⟩:=r1;exact formatField_int_small hd ⟨hl,hv pins _ σ H1 _ Q (I1.tok _) q⟩
  ·cases ey
 case str z=>
  split at ey
  ·rename_i hz;cases ey;obtain⟨t,rfl⟩:=r1;exact formatField_str (fun t' tk=>⟨hl,hv pins _ σ H1 _ Q (I1.tok _) q⟩) hz
  ·cases ey
theorem zd9 (h:PJ X (v::w::vs) tj):PE X (.JoinedStr (v::w::vs) pos) (fun σ H Q=>tj Str.empty σ H Q):=fun pins s σ H Q I q=>JoinedStr_many (h pins s σ H _ Q I q)
end
theorem Ra (g:α->β->β):∀(l:List α) (b:β),(∀x∈l,∀b,f x b=pure (.yield (g x b)))->(forIn l b f:Sem β)=pure (l.foldl (fun b x=>g x b) b)
  | [],b,_=>rfl
  |x::l,b,h=>by
    rw[List.forIn_cons,h x xat b];simp only[pure_bind,xcp];exact Ra g l (g x b) fun y hy=>h y (xak _ hy)
noncomputable def n_ (cells:List (Str×Addr)) (cs:List (Str×Addr)) (x:Str×NameKind):List (Str×Addr):=if x.2=.free then(x.1,(cells.lookup x.1).getD 0)::cs else cs
noncomputable def dJ (cells:List (Str×Addr)) (names:List (Str×NameKind)):List (Str×Addr):=names.foldl (n_ cells) []
theorem Yd (h:∀y∈scope.names,y.2=.free->∃c,env.cells.lookup y.1=some c):closureFor scope env=pure (dJ env.cells scope.names):=by
 simp only [closureFor];rw [Ra (fun x cs => n_ env.cells cs x) scope.names [] (fun x hx c=>by
  obtain⟨n,kind⟩:=x
  by_cases hk:kind=.free
  ·obtain⟨a,ha⟩:=h _ hx hk;subst hk;have ha':env.cells.lookup n=some a:=ha
   simp[cellOf,ha',n_]
  ·have hk':(kind==NameKind.free)=false:=by simpa using hk
   simp[hk',hk,n_])]
 rfl
theorem Qt:∀(names:List (Str×NameKind)) (acc:List (Str×Addr)),(∀y∈names,y.2=.free->∃c,cells.lookup y.1=some c)->
    (∀x c,acc.lookup x=some c->cells.lookup x=some c)->∀x c,(names.foldl (n_ cells) acc).lookup x=some c->cells.lookup x=some c
  | [],_,_,h,x,c,e=>h x c e
  |(n,k)::r,acc,hc,h,x,c,e=>by
    rw[xcp]at e;refine Qt r _ (fun y hy=>hc y (xak _ hy)) ?_ x c e;intro y d hd;unfold n_ at hd
    by_cases hk:k=.free
    · obtain⟨a,ha⟩:=hc (n,k) xat hk;have ha':cells.lookup n=some a:=ha;simp only[hk,xbo,ha',xcd,xbD]at hd
      cases hyn:y==n with
      |true=>
        rw[hyn]at hd;have e2:=eq_of_beq hyn;subst e2;exact ha'.trans hd
      |false=>
        rw[hyn]at hd;exact h y d hd
    · simp only[hk,xbP]at hd;exact h y d hd
theorem Jf:∀(names:List (Str×NameKind)) (acc:List (Str×Addr)) (x:Str),((x,NameKind.free)∈names\/∃c,acc.lookup x=some c)->∃c,(names.foldl (n_ cells) acc).lookup x=some c
  | [],acc,x,h=>by
    rcases h with h |h
    · exact absurd h (by simp)
    · exact h
  |(n,k)::r,acc,x,h=>by
    rw[xcp];refine Jf r _ x ?_;have keep:(∃c,acc.lookup x=some c)->∃c,(n_ cells acc (n,k)).lookup x=some c:=fun⟨c,hc⟩=>by
      unfold n_
      by_cases hk:k=.free
      · simp only[hk,xbo,xbD]
        cases hxn:x==n with
        |true=>exact⟨_,rfl⟩
        |false=>exact⟨c,hc⟩
      · simp only[hk,xbP];exact⟨c,hc⟩
    rcases h with h |h
    · rcases xaJ.mp h with h |h
      · cases h;refine .inr ?_;unfold n_;simp only[xbo,xbD,xbf];exact⟨_,rfl⟩
      · exact .inl h
    · exact .inr (keep h)
noncomputable def dD (psc:Scope) (names:List (Str×NameKind)):List (Str×NameKind):=names.map fun(n,k)=>if (k==.free && psc.kind==.function && psc.names.lookup n==some .cell) then(n,.cell) else(n,k)
theorem BR {psc:Scope}:∀{names:List (Str×NameKind)} {x:Str} {k':NameKind},(dD psc names).lookup x=some k'->(k'=.cell\/k'=.free)->(∀y∈names,y.2≠ .cell)->(x,NameKind.free)∈names
  | [],_,_,h,_,_=>by simp[dD]at h
  |(n,k)::r,x,k',h,hk,hn=>by
    have ih:= @BR psc r x k';have h':List.lookup x ((if (k==NameKind.free && psc.kind==.function && psc.names.lookup n==some .cell)=true then(n,NameKind.cell) else(n,k))::dD psc r)=some k':=h
    cases hx:x==n with
    |true=>
      have e:=eq_of_beq hx;subst e
      by_cases hc:(k==NameKind.free && psc.kind==.function && psc.names.lookup x==some .cell)=true
      · have hkf:k=.free:=by
          cases k<;>first |rfl |(exfalso;simp at hc)
        rw[hkf];exact xat
      · rw[xad hc]at h';simp only[xbD,xbf]at h';have e2:k=k':=xav h';subst e2;rcases hk with hk |hk
        · exact absurd hk (hn (x,k) xat)
        · rw[hk];exact xat
    |false=>
      refine xak _ (ih ?_ hk fun y hy=>hn y (xak _ hy))
      by_cases hc:(k==NameKind.free && psc.kind==.function && psc.names.lookup n==some .cell)=true
      · rw[xab hc]at h';simp only[xbD,hx]at h';exact h'
      · rw[xad hc]at h';simp only[xbD,hx]at h';exact h'
noncomputable def fQ (cs:List (Str×Nat)) (σ:St):St:=cs.map fun p=>(σ[p.2]?).join
abbrev d8 (X:Cx)(Nc:List Str)(scope:Scope)(cl:List (Str×Addr))(C:Addr)(s₀:Shared)(H₀:Hp)(ex:List Addr)(pn:Pnx):Cx:=
 {X with N:=Nc,s₀:=s₀,H₀:=H₀,env:=compEnvC scope cl C X.env,outer:=X.stack,ex:=ex,fn:=fun _=>false,pn:=pn,xe:=fun _ _=>False}
noncomputable def yx (N:List Str) (psc:Scope) (x:Str) (cs:List (Str×Nat)) (scope:Scope):Bool:=
 scope.kind==.function && scope.names.lookup x==some .local && decide ((x::cs.map (·.1)).Nodup) &&
 scope.names.all (fun y=>y.2 !=.cell && (y.2 !=.local || scope.names.lookup y.1==some .local) && (y.2 !=.free || (psc.names.lookup y.1==some .cell || psc.names.lookup y.1==some .free))) &&
 cs.all (fun p=>N[p.2]? ==some p.1 && (psc.names.lookup p.1==some .cell || psc.names.lookup p.1==some .free) && ((dD psc scope.names).lookup p.1==some .cell || (dD psc scope.names).lookup p.1==some .free))
structure CompOk (N:List Str)(psc:Scope)(x:Str)(cs:List (Str×Nat))(scope:Scope):Prop where
 kind:scope.kind=.function
 own:scope.names.lookup x=some .local
 nd:(x::cs.map (·.1)).Nodup
 cell:∀y∈scope.names,y.2≠ .cell
 names:∀y∈scope.names,y.2=.local->scope.names.lookup y.1=some .local
 has:∀y∈scope.names,y.2=.free->psc.names.lookup y.1=some .cell\/psc.names.lookup y.1=some .free
 cap:∀p∈cs,N[p.2]? =some p.1/\(psc.names.lookup p.1=some .cell\/psc.names.lookup p.1=some .free)/\((dD psc scope.names).lookup p.1=some .cell\/(dD psc scope.names).lookup p.1=some .free)
theorem CompOk.of (h:yx N psc x cs scope=true):CompOk N psc x cs scope:=by
 unfold yx at h;simp only[xap,xb1,xaM,xbh,xaS,bne_iff_ne,ne_eq]at h;obtain⟨⟨⟨⟨h1,h2⟩,h3⟩,h4⟩,h5⟩:=h;refine⟨h1,h2,h3,fun y hy=>(h4 y hy).1.1,fun y hy e=>?_,fun y hy e=>?_,fun p hp=>⟨(h5 p hp).1.1,(h5 p hp).1.2,(h5 p hp).2⟩⟩
 ·rcases(h4 y hy).1.2 with z |z
  ·exact absurd e z
  ·exact z
 ·rcases(h4 y hy).2 with z |z
  ·exact absurd e z
  ·exact z
def mO (X:Cx)(ifs:List Expr)(t:TT):Prop:=
 ∀(pins:Pnx) (s:Shared) (σ:St) (H:Hp) (Q:Bool->Hp->Prop),Inv X pins σ H s->t σ H Q->
  wpAny (model X.prog X.w) X.A (forIn ifs true fun c r=>if r=true then do let ok <-isTrue c X.env (eval c X.env);pure (ForInStep.yield ok) else pure (ForInStep.yield r)) (TP X pins σ Q) X.xe s
def mq:TT:=fun _ H Q=>Q true H
theorem T7:mO X [] mq:=fun _ _ _ H _ I h=>wpAny_tests_nil ⟨H,I,h⟩
theorem zca (h:PT X c t):mO X [c] t:=fun pins s σ H Q I hw=>wpAny_tests_one (h pins s σ H Q I hw)
def Cz (wi:TI)(tq:TT)(te:TE)(cs:List (Str×Nat)):St->Hp->(Addr->Hp->Prop)->Prop:=fun σ H R=>wi σ H fun J H1=>∀D,H1 D=none->
  ∃W:Nat->Nat->List V->Hp->Prop,(∃m,W 0 m [] (upd H1 D (.lst [])))/\∀i m ys H2,W i m ys H2->H2 D=some (.lst ys)/\
    ((J.stop i H2 /\ R D H2) \/ (J.go i H2/\ys.length<sizeLine/\∃N:List V->Hp->Prop,(∀ys' H',N ys' H'->∃m',m'<m/\W (i + 1) m' ys' H')/\∀v H3,J.yld i H2 v H3->tq (some v::fQ cs σ) H3 fun b H4=>
      if b=true then te (some v::fQ cs σ) H4 fun y H5=>H5 D=some (.lst ys)/\N (ys ++ [y]) (upd H5 D (.lst (ys ++ [y]))) else N ys H4))
section
variable {prog:Program}{w:World}{A:Around}{R:Result->Shared->Prop}{s:Shared}
theorem Yg (I:Nat->Shared->Prop)
    (turn : ∀ n s, I n s -> wpAny (model prog w) A (pyNext it) (fun r s₁=>match r with
      |none=>R (.ok .next) s₁
      | some v => wpAny (model prog w) A (letOwnedTupleGo target it v) (fun _ s₁' => wpAny (model prog w) A (assign target env v) (fun _ s₂=>
          wpAny (model prog w) A (forIn ifs true fun c r => if r = true then do let ok <- isTrue c env (eval c env); pure (ForInStep.yield ok) else pure (ForInStep.yield r)) (fun ok s₃=>
            if ok = true then wpAny (model prog w) A (eval elt env) (fun x s₄=>
              wpAny (model prog w) A (call (.builtin "list.append") [acc,x]) (fun _ s₅=>∃m,m<n/\I m s₅) (fun _ _=>False) s₄) (fun _ _=>False) s₃
            else ∃m,m<n/\I m s₃) (fun _ _=>False) s₂) (fun _ _=>False) s₁') (fun _ _=>False) s₁) (fun _ _=>False) s)
    (n:Nat) (h:I n s):
    codeAny (model prog w) A (.compLoop (.ListComp elt [⟨target,iter,ifs,0⟩] scope pos) 0 it acc env) R s:=by
  refine codeAny_loop rfl I (fun n s hI=>?_) n h;show wpAny _ A ((compTurn (.ListComp elt [⟨target,iter,ifs,0⟩] scope pos) 0 it acc env).onRaise (fun x=>do noteFrame x env;theTreesLotGoes x)) _ _ s
  refine wpAny_noted ?_;rw[compTurn_list];refine tG (xch (tG (xaO (turn n s hI) (fun r s₁ h₁=>?_) fun _ _ h'=>h'.elim)))
  cases r with
  |none=>exact xah h₁
  |some v=>
    refine tG (xaO h₁ (fun _ s₁' h₁'=>?_) fun _ _ h'=>h'.elim);refine tG (xaO h₁' (fun _ s₂ h₂=>tG (xaO h₂ (fun ok s₃ h₃=>?_) fun _ _ h'=>h'.elim)) fun _ _ h'=>h'.elim)
    cases ok with
    |false=>exact xah ⟨rfl,h₃⟩
    |true=>
      exact tG (tG (xaO h₃ (fun x s₄ h₄=>tG (xaO h₄ (fun _ s₅ h₅=>xah (xah ⟨rfl,h₅⟩)) fun _ _ h'=>h'.elim)) fun _ _ h'=>h'.elim))
end
section
variable {X:Cx}{elt iter:Expr}{ifs:List Expr}{x:Str}{px:Pos}{scope:Scope}{pos:Pos}{wi:TI}{tq:TT}{te:TE}{cs:List (Str×Nat)}
theorem Yl (hc:X.calm=true)(hi:PI X (.Name x px) iter wi)
    (hq:∀(cl:List (Str×Addr)) (C:Addr) (s₀:Shared) (H₀:Hp) (ex:List Addr) (pn:Pnx),mO (d8 X (x::cs.map (·.1)) scope cl C s₀ H₀ ex pn) ifs tq)
    (he:∀(cl:List (Str×Addr)) (C:Addr) (s₀:Shared) (H₀:Hp) (ex:List Addr) (pn:Pnx),PE (d8 X (x::cs.map (·.1)) scope cl C s₀ H₀ ex pn) elt te)
    (ok:CompOk X.N X.env.scope x cs scope) {pins:Pnx} {s:Shared} {σ:St} {H:Hp} {R:Addr->Hp->Prop} (I:Inv X pins σ H s) (h:Cz wi tq te cs σ H R)
    {RR:Value->Addr->Result->Shared->Prop}
    (hRR:∀(D C:Addr) (oC:Obj) (H':Hp) (s':Shared),Inv X (pins ++ [(C,oC)]) σ H' s'->(∀h':Heap,h'.get? C=some oC->∃m,h'.Ns C m)->eG X pins H' C->R D H'->RR (.ref D) C (.ok .next) s'):
    wpAny (model X.prog X.w) X.A (eval iter X.env) (fun xv s₁ => wpAny (model X.prog X.w) X.A (pyIter xv) (fun itv s₂ => wpAny (model X.prog X.w) X.A (newList []) (fun acc s₃=>
      wpAny (model X.prog X.w) X.A (newFunctionEnv scope X.env.globals (dJ X.env.cells scope.names) [] X.env.qual none .none (some X.env)) (fun cenv s₄=>
        codeAny (model X.prog X.w) X.A (.compStart (.ListComp elt [⟨.Name x px,iter,ifs,0⟩] scope pos) 0 itv acc {cenv with scope:=relabel scope X.env}) (RR acc cenv.locals) s₄) X.xe s₃) X.xe s₂) X.xe s₁) X.xe s:=by
  refine aP (hi pins s σ H _ I h) fun v s1 h1=>aP h1 fun itv s2 h2=>?_;obtain⟨it,fp,tn,J,H2,e,I2,T,st2,f2,h2⟩:=h2;subst e;have hhas:∀y∈scope.names,y.2=.free->∃c,X.env.cells.lookup y.1=some c:=fun y hy hk=>I2.ok.has y.1 (ok.has y hy hk);refine xaN (wpAny_newFunctionEnv ok.cell (by intro y hy;simp at hy) (fun h₁ hns₁ hsb₁=>?_) ok.kind);dsimp only at hns₁ hsb₁ ⊢;generalize hHH:s2.heap.push {cls:=.type "list",dict:=none,data:=.seq ([]:List Value).toArray}=HH at hns₁ hsb₁ ⊢;have hC:HH.objs.size=s2.heap.objs.size + 1:=by rw[<-hHH,xb7]
  have hDC:s2.heap.objs.size≠HH.objs.size:=by rw[hC];exact xay (xbe _)
  have hCle:s2.heap.objs.size<=HH.objs.size:=by rw[hC];exact xbE _
  have below:∀b,b<s2.heap.objs.size->b≠HH.objs.size:=fun b hb=>by rw[hC];exact xay (xcy hb)
  have old:∀b o,s2.heap.get? b=some o->h₁.get? b=some o:=fun b o e=>hsb₁.extBut b o (below b (xaq e)) (xaa _ (hHH ▸ xaa _ e));have hacc:h₁.get? s2.heap.objs.size=some {cls:=.type "list",dict:=none,data:=.seq ([]:List Value).toArray}:=hsb₁.extBut _ _ hDC (xaa _ (hHH ▸ xas _ rfl));have nD:H2 s2.heap.objs.size=none:=I2.hok.fresh (xaf _);have nC:H2 HH.objs.size=none:=I2.hok.fresh hCle;obtain⟨W,⟨m0,w0⟩,turn⟩:=h2 s2.heap.objs.size nD
  -- the block's context
  have fpC:∀b∈fp,b≠HH.objs.size:=fun b hb=>by
    obtain⟨o,ho,_⟩:=T.obj 0 _ st2 b hb;exact below b (xaq ho)
  have fpD:∀b∈fp,b≠s2.heap.objs.size:=fun b hb=>by
    obtain⟨o,ho,_⟩:=T.obj 0 _ st2 b hb;exact xay (xaq ho)
  have pinC:∀p∈X.pn ++ pins,p.1≠HH.objs.size:=fun p hp=>below _ (xaq (I2.pin p hp).1);have clIn:∀y c,(dJ X.env.cells scope.names).lookup y=some c->X.env.cells.lookup y=some c:=Qt scope.names [] hhas (fun y c e=>by cases e);have kindRel:∀y,(relabel scope X.env).names.lookup y=(dD X.env.scope scope.names).lookup y:=fun _=>rfl;have okC:(d8 X (x::cs.map (·.1)) scope (dJ X.env.cells scope.names) HH.objs.size s2 H2 fp (X.pn ++ pins)).Ok:=
    { mod:=I2.ok.mod
      kind:=ok.kind
      glob:=I2.ok.glob
      blt:=I2.ok.blt
      above:=hCle
      inj:=fun y z c e1 e2=>I2.ok.inj y z c (clIn y c e1) (clIn z c e2)
      has:=fun y hk=>by
        have hm:(y,NameKind.free)∈scope.names:=by
          rcases hk with hk |hk
          · exact BR (psc:=X.env.scope) (k':=.cell) hk (.inl rfl) ok.cell
          · exact BR (psc:=X.env.scope) (k':=.free) hk (.inr rfl) ok.cell
        exact Jf scope.names [] y (.inl hm)
      cab:=fun y c hf _=>by cases hf
      hd:=I2.ok.hd
      frames:=I2.ok.frames
      stk:=.inl rfl
      exf:=fun b hb=>⟨fpC b hb,fun y c e z=>(f2 b hb).2.2.2.2.1 y c (clIn y c e) z⟩
      bs:=fun b o e=>I2.bs b o e
      bsz:=xaB I2.ok.bsz I2.sz
      noex:=fun b o e hb=>by
        rcases(f2 b hb).2.2.2.1 with z |z
        · exact I2.ok.noex b o e z
        · exact absurd (xai (xaq e) (xaB I2.ok.bsz z)) (xa9 _)
      exfs:=fun b hb z=>by
        rcases xaJ.mp (I2.stkSub b z) with q |q
        · exact(f2 b hb).2.1 q
        · exact(f2 b hb).2.2.1 q
      funs:=I2.stack
      frf:=I2.stkFree}
  have IC:Inv (d8 X (x::cs.map (·.1)) scope (dJ X.env.cells scope.names) HH.objs.size s2 H2 fp (X.pn ++ pins)) [] (none::fQ cs σ) (upd H2 s2.heap.objs.size (.lst [])) {s2 with heap:=h₁,toks:=s2.toks + ([]:List (Str×Value)).length}:=
    { ok:=okC
      os:=rfl
      bare:=I2.bare
      base:=Un.laid old (xaf _) nD
      loc:=by
        refine⟨_,hns₁,fun i y u e1 e2 _=>?_⟩
        cases i with
        |zero=>
          have e2':(none:Option V)=some u:=xav e2;cases e2'
        |succ i=>
          have e1':(cs.map (·.1))[i]? =some y:=e1;have e2':(fQ cs σ)[i]? =some (some u):=e2;rw[xan]at e1';unfold fQ at e2';rw[xan]at e2'
          cases ep:cs[i]? with
          |none=>rw[ep]at e1';cases e1'
          |some p=>
            rw[ep]at e1' e2';have e1'':p.1=y:=xav e1';have e2'':(σ[p.2]?).join=some u:=xav e2';have e3:σ[p.2]? =some (some u):=by
              cases q:σ[p.2]? with
              |none=>rw[q]at e2'';cases e2''
              |some z=>rw[q]at e2'';exact congrArg some e2''
            subst e1'';obtain⟨hN,hkp,hkc⟩:=ok.cap p (xaC ep);obtain⟨mP,_,hl⟩:=I2.loc;obtain⟨u',ru,lk⟩:=hl p.2 p.1 u hN e3 (.inr hkp);refine⟨u',ru,.inr ⟨hkc,?_⟩⟩;rcases lk with⟨k0,_⟩ |⟨_,c,hcell,his⟩
            · exfalso
              have k0':X.env.scope.names.lookup p.1=some .local:=k0;rcases hkp with z |z<;>(rw[k0']at z;cases z)
            · have hm:(p.1,NameKind.free)∈scope.names:=by
                rcases hkc with z |z
                · exact BR z (.inl rfl) ok.cell
                · exact BR z (.inr rfl) ok.cell
              obtain⟨c',hc'⟩:=Jf (cells:=X.env.cells) scope.names [] p.1 (.inl hm);have e5:c'=c:=xav ((clIn p.1 c' hc').symm.trans hcell);exact⟨c',hc',by rw[e5];exact his.keeps old⟩
      cell:=fun y c e=>by
        obtain⟨v',q⟩:=I2.cell y c (clIn y c e);exact⟨v',q.keeps old⟩
      free:=by
        show upd H2 s2.heap.objs.size (.lst []) HH.objs.size=none;rw[aU hDC.symm];exact nC
      freeC:=fun y c e=>by
        have hcl:c<s2.heap.objs.size:=by
          obtain⟨_,q⟩:=I2.cell y c (clIn y c e);exact q.lt
        rw[aU (xay hcl)];exact(I2.freeC y c (clIn y c e)).imp id fun z=>⟨rfl,z.2⟩
      pin:=fun p hp=>by
        have hp':p∈X.pn ++ pins:=by
          rcases xbr.mp hp with z |z
          · exact z
          · cases z
        obtain⟨e1,e2,e3,e4,e5⟩:=I2.pin p hp';refine⟨old _ _ e1,?_,pinC p hp',fun z=>?_,e5⟩
        · rw[aU (xay (xaq e1))];exact e2
        · rcases xaJ.mp (I2.stkSub p.1 z) with q |q
          · exact e3 q
          · exact e4 q
      hok:=I2.hok.laid old (xaf _) ⟨xbg _,[],0,.nil,hacc⟩
      len:=by simp[fQ]}
  have stC:tn 0 h₁:=T.keep 0 _ _ st2 fun b _ o e=>old b o e;have frC:∀b∈fp,upd H2 s2.heap.objs.size (HO.lst []) b=none:=fun b hb=>by
    rw[aU (fpD b hb)];exact(f2 b hb).1
  -- what stays true of the iterator's objects in the block
  have stat:∀{H':Hp},(∀b∈fp,H' b=none)->∀b∈fp,eG (d8 X (x::cs.map (·.1)) scope (dJ X.env.cells scope.names) HH.objs.size s2 H2 fp (X.pn ++ pins)) [] H' b:=fun {H'} hn b hb=>
    ⟨hn b hb, fpC b hb, okC.exfs b hb, .inl hb, fun y c e => (okC.exf b hb).2 y c e, fun p hp => (f2 b hb).2.2.2.2.2 p (by
      rcases xbr.mp hp with z |z
      · exact z
      · cases z)⟩
  have loop:∀s₃:Shared,s₃={s2 with heap:=h₁,toks:=s2.toks + ([]:List (Str×Value)).length}->
      codeAny (model X.prog X.w) X.A (.compLoop (.ListComp elt [⟨.Name x px,iter,ifs,0⟩] scope pos) 0 (.ref it) (.ref s2.heap.objs.size) (compEnvC scope (dJ X.env.cells scope.names) HH.objs.size X.env)) (RR (.ref s2.heap.objs.size) HH.objs.size) s₃:=by
    rintro s₃ rfl;refine Yg (fun n s'=>∃(i:Nat) (v:Option V) (ys:List V) (H':Hp),Inv (d8 X (x::cs.map (·.1)) scope (dJ X.env.cells scope.names) HH.objs.size s2 H2 fp (X.pn ++ pins)) [] (v::fQ cs σ) H' s'/\tn i s'.heap/\(∀b∈fp,H' b=none)/\W i n ys H')
      ?_ m0 ⟨0,none,[],_,IC,stC,frC,w0⟩
    rintro n s3 ⟨i,v3,ys,H3,I3,st3,fr3,w3⟩;obtain⟨hD3,tr⟩:=turn i n ys H3 w3;rcases tr with⟨stop,qn⟩ |⟨go,hsz,N,hN,step⟩
    · refine aP (T.done (d8 X (x::cs.map (·.1)) scope (dJ X.env.cells scope.names) HH.objs.size s2 H2 fp (X.pn ++ pins)) rfl rfl rfl hc i [] s3 _ H3 _ I3 (stat fr3) st3 stop) fun r s4 ⟨hr,I4⟩=>?_;subst hr;show RR (.ref s2.heap.objs.size) HH.objs.size (.ok .next) s4
      have IP:Inv X pins σ H3 s4:=I2.call' (ch:=fp) I4.os I4.base I4.hok I4.bare fun b hb=>⟨(f2 b hb).2.2.2.1,(f2 b hb).2.1,(f2 b hb).2.2.2.2.1,(f2 b hb).2.2.2.2.2⟩;obtain⟨m4,⟨oC,es,ep,hoC,hdC,hk1,hk2⟩,_⟩:=I4.loc;have nC3:H3 HH.objs.size=none:=I4.free;have fC:eG X pins H3 HH.objs.size:=I2.fpOk hCle nC3;refine hRR _ _ oC H3 s4 (IP.pins_of fun p hp=>?_) (fun h' e=>⟨m4,oC,es,ep,e,hdC,hk1,hk2⟩) fC qn;rcases xbr.mp hp with z |z
      · exact IP.pin p (xaE _ z)
      · have e:p=(HH.objs.size,oC):=by simpa using z
        subst e;exact ⟨hoC,nC3,fC.2.1,fC.2.2.1,fun v z=>by
          have z':oC.data=.cell v:=z;rw[hdC]at z';cases z'⟩
    · refine aP (T.item (d8 X (x::cs.map (·.1)) scope (dJ X.env.cells scope.names) HH.objs.size s2 H2 fp (X.pn ++ pins)) rfl rfl rfl hc i [] s3 _ H3 _ I3 (stat fr3) st3 go) fun r s4 ⟨u,hr,h4⟩=>?_;subst hr;refine aP h4 fun _ s5 ⟨y,H5,I5,r5,y5,st5,fr5⟩=>?_;have I5':=I5.pinned (stat fr5) (T.obj _ _ st5);have hloc:Loc (d8 X (x::cs.map (·.1)) scope (dJ X.env.cells scope.names) HH.objs.size s2 H2 fp (X.pn ++ pins)).env.scope x:=.inl (lookup_relabel_local ok.own);refine wpAny_assign_Name (GZ (i:=0) I5' ok.nd rfl hloc r5 (fun s6 I6=>?_) (.inr (lookup_relabel_local ok.own)));refine aP (hq _ _ _ _ _ _ _ s6 _ H5 _ I6 (step y H5 y5)) fun b s7 ⟨H7,I7,q7⟩=>?_;have again:∀{v':Option V} {H8:Hp} {s8:Shared} {ys':List V} {m':Nat},Inv (d8 X (x::cs.map (·.1)) scope (dJ X.env.cells scope.names) HH.objs.size s2 H2 fp (X.pn ++ pins)) ([] ++ Bt fp s5.heap) (v'::fQ cs σ) H8 s8->W (i + 1) m' ys' H8->
          ∃(i:Nat) (v:Option V) (ys:List V) (H':Hp),Inv (d8 X (x::cs.map (·.1)) scope (dJ X.env.cells scope.names) HH.objs.size s2 H2 fp (X.pn ++ pins)) [] (v::fQ cs σ) H' s8/\tn i s8.heap/\(∀b∈fp,H' b=none)/\W i m' ys H':=fun {v' H8 s8 ys' m'} I8 w8=>by
        refine⟨i + 1,v',ys',H8,I8.unpinned,T.keep _ _ _ st5 fun b hb o e=>(I8.pin (b,o) (xaE _ (xaE _ (Ep hb e)))).1,fun b hb=>?_,w8⟩;obtain⟨o,e,d⟩:=T.obj _ _ st5 b hb;exact(I8.pin (b,o) (xaE _ (xaE _ (Ep hb e)))).2.1
      cases b with
      |false=>
        rw[xad xau]at q7;rw[xad xau];obtain⟨m',hm,w8⟩:=hN _ _ q7;exact⟨m',hm,again I7 w8⟩
      |true=>
        rw[xab rfl]at q7;rw[xab rfl];refine aP (he _ _ _ _ _ _ _ s7 _ H7 _ I7 q7) fun z s8 ⟨zv,H8,I8,r8,hD8,n8⟩=>?_;obtain⟨m',hm,w8⟩:=hN _ _ n8;refine aP (J4 (X:=d8 X (x::cs.map (·.1)) scope (dJ X.env.cells scope.names) HH.objs.size s2 H2 fp (X.pn ++ pins)) _ s8 _ H8 (.ref s2.heap.objs.size) [zv] (.ref s2.heap.objs.size) [z] (fun _ H9=>H9=upd H8 s2.heap.objs.size (.lst (ys ++ [zv]))) I8 rfl (.cons r8 .nil) ⟨_,ys,zv,rfl,rfl,hD8,hsz,rfl⟩) fun _ s9 ⟨_,H9,I9,_,e9⟩=>?_;subst e9;exact⟨m',hm,again I9 w8⟩
  exact codeAny_compStart_list (loop _ rfl) (T.self _ 0 _ _ _ stC (loop _ rfl))
noncomputable def zgC (wi:TI) (tq:TT) (te:TE) (cs:List (Str×Nat)):TE:=fun σ H Q=>Cz wi tq te cs σ H fun D H'=>Q (.ref D) H'
theorem Lz (x:Str)(cs:List (Str×Nat))(hc:X.calm=true)(hi:PI X (.Name x px) iter wi)
  (hq:∀(cl:List (Str×Addr)) (C:Addr) (s₀:Shared) (H₀:Hp) (ex:List Addr) (pn:Pnx),mO (d8 X (x::cs.map (·.1)) scope cl C s₀ H₀ ex pn) ifs tq)
  (he:∀(cl:List (Str×Addr)) (C:Addr) (s₀:Shared) (H₀:Hp) (ex:List Addr) (pn:Pnx),PE (d8 X (x::cs.map (·.1)) scope cl C s₀ H₀ ex pn) elt te)
  (ok:yx X.N X.env.scope x cs scope=true:=by kernel_rfl) (hs:∀x,foldedSetIterable iter X.env x=pure x:=by intro _;rfl):
  PE X (.ListComp elt [⟨.Name x px,iter,ifs,0⟩] scope pos) (zgC wi tq te cs):=by
 intro pins s σ H Q I h;have ok':=CompOk.of ok;rw[eval_ListComp];refine wpAny_comprehension_free (use:=none) rfl hs (Yd fun y hy hk=>I.ok.has y.1 (ok'.has y hy hk)) ok'.kind ok'.names ?_;refine Yl (RR:=fun acc C=>compPost (model X.prog X.w) X.A X.xe none (EP X pins σ Q) acc C) hc hi hq he ok' I h ?_;intro D C oC H' s' I' hns fC q;refine⟨_,(hns _ (I'.pin (C,oC) (xaE _ (xaE _ (by simp)))).1).choose_spec,fun h' hs'=>?_⟩;have I1:Inv X pins σ H' s':=I'.unpinned;exact⟨.ref D,H',I1.turned (t':=s'.toks) (fun b o hb e=>(hs'.2 b hb).trans e) fC.1 fC.2.1 fC.2.2.2.1 fC.2.2.2.2.1 fC.2.2.2.2.2,rfl,q⟩
end
def Pu (J:It)(tq:TT)(te:TE)(cs:List (Str×Nat))(σ:St)(H1:Hp)(R:Addr->Hp->Prop):Prop:=∀D,H1 D=none->
  ∃W:Nat->Nat->List V->Hp->Prop,(∃m,W 0 m [] (upd H1 D (.lst [])))/\∀i m ys H2,W i m ys H2->H2 D=some (.lst ys)/\
    ((J.stop i H2 /\ R D H2) \/ (J.go i H2/\ys.length<sizeLine/\∃N:List V->Hp->Prop,(∀ys' H',N ys' H'->∃m',m'<m/\W (i + 1) m' ys' H')/\∀v H3,J.yld i H2 v H3->tq (some v::fQ cs σ) H3 fun b H4=>
      if b=true then te (some v::fQ cs σ) H4 fun y H5=>H5 D=some (.lst ys)/\N (ys ++ [y]) (upd H5 D (.lst (ys ++ [y]))) else N ys H4))
theorem Ym (n:Nat)(P:Addr->Nat->List V->Hp->Prop)
  (h0:∀D,H1 D=none->P D 0 [] (upd H1 D (.lst []))) (hl:∀D i ys H2,i<=n->P D i ys H2->H2 D=some (.lst ys)/\ys.length<sizeLine)
  (hgo:∀D i ys H2,i<n->P D i ys H2->J.go i H2) (hst:∀D ys H2,H1 D=none->P D n ys H2->J.stop n H2/\R D H2)
  (hs:∀D i v ys H2 H3,i<n->P D i ys H2->J.yld i H2 v H3->tq (some v::fQ cs σ) H3 fun b H4=>if b=true then te (some v::fQ cs σ) H4 fun y H5=>H5 D=some (.lst ys)/\P D (i + 1) (ys ++ [y]) (upd H5 D (.lst (ys ++ [y]))) else P D (i + 1) ys H4):
  Pu J tq te cs σ H1 R:=by
 intro D hD;refine⟨fun i m ys H=>m=n - i/\i<=n/\P D i ys H,⟨n,by simp,xbg _,h0 D hD⟩,?_⟩;rintro i m ys H2 ⟨rfl,hi,p⟩;obtain⟨q2,q3⟩:=hl D i ys H2 hi p;refine⟨q2,?_⟩
 by_cases hlt:i<n
 ·exact .inr ⟨hgo D i ys H2 hlt p,q3,P D (i + 1),fun ys' H' p'=>⟨n - (i + 1),by omega,rfl,hlt,p'⟩,fun v H3 y=>hs D i v ys H2 H3 hlt p y⟩
 ·have e:i=n:=by omega
  subst e;exact .inl (hst D ys H2 hD p)
theorem nM (hD:H D=none):Same H (upd H D o):=fun b ob e=>by
 rw[aU (lR e hD)];exact e
theorem comp_map {J:It}{te:TE}{cs:List (Str×Nat)}{σ:St}{H1:Hp}{R:Addr->Hp->Prop}(n:Nat)(f:Nat->V)(hn:n<sizeLine)
  (hgo:∀i H2,i<n->Same H1 H2->J.go i H2) (hst:∀H2,Same H1 H2->J.stop n H2)
  (hy:∀i v H2 H3,i<n->Same H1 H2->J.yld i H2 v H3->H3=H2/\∀Q:VK,Q (f i) H2->te (some v::fQ cs σ) H2 Q)
  (hd:∀D,H1 D=none->R D (upd H1 D (.lst ((List.range n).map f)))):Pu J mq te cs σ H1 R:=by
 refine Ym n (fun D i ys H2=>i<=n/\H1 D=none/\ys=(List.range i).map f/\H2=upd H1 D (.lst ys)) (fun D hD=>⟨xbg _,hD,rfl,rfl⟩) ?_ ?_ ?_ ?_
 ·rintro D i ys H2 hi ⟨_,hD,e1,e2⟩;subst e1 e2;exact⟨bW,by rw[xal,xdi];omega⟩
 ·rintro D i ys H2 hi ⟨_,hD,e1,e2⟩;subst e2;exact hgo i _ hi (nM hD)
 ·rintro D ys H2 _ ⟨_,hD,e1,e2⟩;subst e2;refine⟨hst _ (nM hD),?_⟩;subst e1;exact hd D hD
 ·rintro D i v ys H2 H3 hi ⟨_,hD,e1,e2⟩ y;subst e2;obtain⟨e3,q⟩:=hy i v _ H3 hi (nM hD) y;subst e3;unfold mq;dsimp only;rw[xab rfl];refine q _ ⟨bW,hi,hD,?_,zcP⟩;rw[e1,List.range_succ,xcm];rfl
structure Noted (fs:List Addr)(z:Addr)(h h':Heap)(e:Addr)(oe:Obj)(T:Addr)(fl:Value):Prop where
 keep:∀b o,b∉fs->b≠e->b≠z->h.get? b=some o->h'.get? b=some o
 slot:∀b o,b∈fs->b≠e->b≠z->h.get? b=some o->∃sl,h'.get? b=some {o with slots:=sl}
 exc:h'.get? e=some (oe.mapFields (·.setIfInBounds 1 (.ref T)))
 new:h.objs.size<=T
 tb:∃oT ts,h'.get? T=some oT/\oT.data=.fields ts/\ts[3]? =some fl
section
variable {M:Model}{A:Around}{E:Value->Shared->Prop}{s:Shared}{base:Heap}{env:Env}{outer:List Env}{L e z:Addr}{oe:Obj}{vs:Array Value}{Q:Unit->Shared->Prop}
theorem Tt (a1:A.frames=some (env::outer))(a2:s.heap.FunFrames base (env::outer))(a3:env.frame=some L)
  (a4:s.heap.get? e=some oe) (a5:oe.data=.fields vs) (a6:1<vs.size)
  (k:∀h' T,Noted (frs (env::outer)) e s.heap h' e oe T (rawInt L)->Q () {s with heap:=h'}):
  wpAny M A (do
   let a <-frameOf env
   let pl <-entryPlaceOf L hadNext
   let b <-EntryCells.newEntry head a .none (rawInt L) .none pl
   setField (.ref e) 1 b) Q E s:=by
 have ne:e∉frs (env::outer):=fun m=>by
  obtain⟨_,o,e1,e2⟩:=a2.mem m;rw[a4]at e1;cases e1;exact e2 vs a5
 refine tG (wpAny_frameOf_fun a1 a2 a3 fun h1 S=>?_);refine tG (wpAny_entryPlaceOf fun pl hpl=>?_);unfold EntryCells.newEntry newFields;refine tG (xaN ?_ (hpl.sizeOk5 _ _ _ _ _));have b1:h1.get? e=some oe:=(S.2.1 e ne).trans a4;have b2:=xaa (h:=h1) {cls:=.type "traceback",dict:=none,data:=.fields ([head,.ref L,.none,rawInt L,.none] ++ (if pl.isEmpty then List.replicate 6 Value.none else pl)).toArray} b1
 refine xb8 b2 a5 a6 (k _ h1.objs.size ?_);have n1:h1.objs.size≠e:=xdr (xaq b1);have frd:=xb9 (xa3 a5 (·.setIfInBounds 1 (Value.ref h1.objs.size)));refine⟨fun b o nb nbe _ hb=>?_,fun b o _ nbe _ hb=>?_,xbI _ b2 frd,xcK S.1.symm,?_⟩
 ·rw[xaU _ _ (xbu nbe)];exact xaa _ ((S.2.1 b nb).trans hb)
 ·obtain⟨sl,q⟩:=S.2.2 b o hb;refine⟨sl,?_⟩;rw[xaU _ _ (xbu nbe)];exact xaa _ q
 ·refine⟨_,_,(xaU _ _ (xbu n1)).trans (xas h1 rfl),rfl,?_⟩;rcases hpl with rfl |⟨_,_,_,_,_,_,_,rfl⟩<;>simp
theorem YT (b1:s.heap.get? e=some oe)(b2:oe.data=.fields vs)(b3:vs[1]? =some (.ref T))(b4:s.heap.get? T=some oT)(b5:oT.data=.fields ts)(b6:3<ts.size)
  (k:Q () {s with heap:=s.heap.update T (Obj.mapFields (·.setIfInBounds 3 .none))}):wpAny M A (setFlight (.ref e) none) Q E s:=by
 unfold setFlight;refine tG (xbn b1 b2 b3 ?_);rw[xab (by simp)];exact xb8 b4 b5 b6 k
theorem zbs (N:Noted fs z h h1 e oe T fl)(a4:h.get? e=some oe)(a5:oe.data=.fields vs):Noted fs z h (h1.update T (Obj.mapFields (·.setIfInBounds 3 .none))) e oe T .none:=by
 obtain⟨oT,ts,t1,t2,t3⟩:=N.tb;have ne:∀b o,h.get? b=some o->b≠T:=fun b o q=>xay (xai (xaq q) N.new);refine⟨fun b o n1 n2 n3 hb=>?_,fun b o n1 n2 n3 hb=>?_,?_,N.new,?_⟩
 ·rw[xaU _ _ (xbu (ne b o hb))];exact N.keep b o n1 n2 n3 hb
 ·obtain⟨sl,q⟩:=N.slot b o n1 n2 n3 hb;exact⟨sl,by rw[xaU _ _ (xbu (ne b o hb))];exact q⟩
 ·rw[xaU _ _ (xbu (ne e oe a4))];exact N.exc
 ·have z3:3<ts.size:=(xbt.mp t3).1;exact⟨_,_,xbI _ t1 (xb9 (xa3 t2 _)),xa3 t2 _,by simp[z3]⟩
theorem Tw (N:Noted fs z h s.heap e oe T fl)(a4:h.get? e=some oe)(a5:oe.data=.fields vs)(a6:1<vs.size)
  (k:∀h',Noted fs z h h' e oe T .none->Q () {s with heap:=h'}):wpAny M A (setFlight (.ref e) none) Q E s:=by
 obtain⟨oT,ts,t1,t2,t3⟩:=N.tb;refine YT N.exc (xa3 a5 _) (by simp[a6]) t1 t2 (xbt.mp t3).1 (k _ (zbs N a4 a5))
theorem zaP (a1:A.frames=some (env::outer))(a2:s.heap.FunFrames base (env::outer))(a3:env.frame=some L)
  (a4:s.heap.get? e=some oe) (a5:oe.data=.fields vs) (a6:vs[1]? =some .none) (k:∀h' T,Noted (frs (env::outer)) e s.heap h' e oe T .none->Q () {s with heap:=h'}):wpAny M A (leaving env (.ref e)) Q E s:=by
 have z1:=(xbt.mp a6).1;unfold leaving noteFrame;simp only[a3];refine tG (tG (xbn a4 a5 a6 ?_));rw[xad (by decide)];exact Tt a1 a2 a3 a4 a5 z1 fun h' T N=>Tw (s:={s with heap:=h'}) N a4 a5 z1 fun h2 N2=>k h2 T N2
theorem zbx (a1:A.frames=some (env::outer))(a2:s.heap.FunFrames base (env::outer))(a3:env.frame=some L)
  (a4:s.heap.get? e=some oe) (a5:oe.data=.fields vs) (a6:vs[1]? =some (.ref T0)) (b1:T0≠e) (b2:s.heap.get? T0=some oT) (b3:oT.data=.fields ts) (b4:ts[3]? =some .none)
  (k:∀h' T,Noted (frs (env::outer)) T0 s.heap h' e oe T (rawInt L)->Q () {s with heap:=h'}):wpAny M A (noteFrame (.ref e) env) Q E s:=by
 have z1:=(xbt.mp a6).1;unfold noteFrame;simp only[a3];refine tG (xbn a4 a5 a6 ?_);rw[xab (by simp)];refine tG (xbn b2 b3 b4 ?_);rw[xad (by simp[rawInt])];refine tG (xb8 b2 b3 (xbt.mp b4).1 ?_);have oth:∀b,b≠T0->(s.heap.update T0 (Obj.mapFields (·.setIfInBounds 3 Value.none))).get? b=s.heap.get? b:=fun b hb=>xaU _ _ (xbu hb);have fr:∀b o,s.heap.get? b=some o->(∀us,o.data≠ .fields us)->b≠T0:=fun b o hb n r=>by
  rw[r,b2]at hb;cases hb;exact n ts b3
 refine Tt (s:={s with heap:=s.heap.update T0 (Obj.mapFields (·.setIfInBounds 3 Value.none))}) a1 (a2.of_keeps fun b o hb n=>⟨o,(oth b (fr b o hb n)).trans hb,rfl⟩) a3 ((oth e (xbu b1)).trans a4) a5 z1 fun h' T N=>k h' T ?_;exact⟨fun b o n1 n2 n3 hb=>N.keep b o n1 n2 n2 ((oth b n3).trans hb),fun b o n1 n2 n3 hb=>N.slot b o n1 n2 n2 ((oth b n3).trans hb),N.exc,by rw[<-Heap.size_after_update s.heap T0 (Obj.mapFields (·.setIfInBounds 3 Value.none))];exact N.new,N.tb⟩
end
section
variable {prog:Program}{w:World}{A:Around}{E:Value->Shared->Prop}{h:Heap}{g:Array GenState}{d:Drawn}{t:Nat}{os:OsState}
variable {nm q:Str}{C N:Addr}{bs bm bmB:List Value}{hdct:Bool}{sn:List Str}{sub:List Value}{ab:Bool}{col:Option Bool}{dd:Option Addr}{k0 k1 k2 k3 k5:Option Value}{B newId initId:String}
theorem za1 (hh:A.handled=none)
  (k : wpAny (model prog w) A x (fun v s₁=>∃e oe vs,v=.ref e/\(∃C nm q N bs bm hdct sn sub ab col dd k0 k1 k2 k3 k5 newId,s₁.heap.get? C=some (excClassObj nm q C N bs bm hdct sn sub ab col dd k0 k1 k2 k3 k5 newId)/\bm.contains (.type "BaseException")=true/\oe.cls=.ref C)/\
   s₁.heap.get? e=some oe/\oe.data=.fields vs/\vs[1]? =some .none/\E (.ref e) s₁) E s):
  wpAny (model prog w) A (raiseStmt env (some x) none) Q E s:=by
 unfold raiseStmt;refine tG (xaO k (fun v s₁ h₁=>?_) fun _ _ x=>x);obtain⟨e,oe,vs,rfl,⟨C,nm,q,N,bs,bm,hdct,sn,sub,ab,col,dd,k0,k1,k2,k3,k5,newId,hC,hb,hc⟩,he,hd,h1,hE⟩:=h₁;have hcB:(Value.ref C::bm).contains (.type "BaseException")=true:=by rw[List.contains_cons,hb,Bool.or_true]
 obtain⟨oc,od,odt,osl⟩:=oe;dsimp only at hc hd;subst hc hd;obtain⟨hp,g,d,tk,os⟩:=s₁
 repeat (first |with_reducible refine wpAny_loadPart_at he ?_ |with_reducible refine wpAny_loadPart_at hC ?_ |(with_reducible refine wpAny_isSubtype_exc hC ?_;rw[hcB]) |with_reducible refine xbn he rfl h1 ?_ |wp_step)
 exact wpAny_raiseNew_none hh hE
end
abbrev Pk:List Value:=[.type "ValueError",.type "Exception",.type "BaseException",.type "object"]
def Pj:List Value->Bool
 |.ref _::r=>Pj r
 |l=>l==Pk
noncomputable def d7 (K:Fgx) (C:Addr):Bool:=match K.lookup C with
  | some ⟨.type "type", _, .cls cd, sl⟩ => (match cd.mro,sl.toList with
    |.ref c::bm,[_,_,_,_,some (.builtin n),_]=>c==C && (n=="ValueError.__new__" && (!cd.hasDel && (PySem.W.tailIn K Pk bm && (PySem.W.nsOkIn K cd.ns && (cd.hasDict && Pj bm)))))
    |_,_=>false)
  |_=>false
structure XCls (h:Heap)(C:Addr)(nm qn:Str)(N:Addr)(bs bm:List Value)(sn:List Str)(sub:List Value)(ab:Bool)(col:Option Bool)(dd:Option Addr)(k0 k1 k2 k3 k5:Option Value):Prop where
 obj:h.get? C=some (excClassObj nm qn C N bs bm true sn sub ab col dd k0 k1 k2 k3 k5 "ValueError.__new__")
 tail:OwnTail h Pk bm
 ns:h.Ns N (h.nsMap N)
 over:Pj bm=true
theorem W_ {K:Fgx}{h:Heap}{C:Addr}(X:K.In h)(q:d7 K C=true):∃nm qn N bs bm sn sub ab col dd k0 k1 k2 k3 k5,
  XCls h C nm qn N bs bm sn sub ab col dd k0 k1 k2 k3 k5/\K.lookup C=some (excClassObj nm qn C N bs bm true sn sub ab col dd k0 k1 k2 k3 k5 "ValueError.__new__"):=by
 unfold d7 at q;split at q
 ·rename_i dd cd sl ho;split at q
  ·rename_i c bm k0 k1 k2 k3 n k5 hm hs;simp only[xap,xbh,xdj]at q;obtain⟨q1,q2,q3,q4,q5,q6,q7⟩:=q;obtain⟨nm,bs,mro,ns,qn,hd,sn,sub,ab,col,del⟩:=cd;obtain⟨sl⟩:=sl;dsimp only at hm hs q3 q5 q6;subst q1 q2 hm q3 q6 hs;exact⟨nm,qn,ns,bs,bm,sn,sub,ab,col,dd,k0,k1,k2,k3,k5,⟨X _ _ ho,PySem.W.tail_of_in X q4,.of_isNs (PySem.W.isNs_of_in X q5),q7⟩,ho⟩
  ·cases q
 ·cases q
noncomputable def C_ (K:Fgx) (C:Addr):Bool:=match K.lookup C with
 |some ⟨_,_,.cls cd,_⟩=>PySem.W.nsIn K cd.ns "__init__"==some none
 |_=>false
noncomputable def G7 (K:Fgx) (C:Addr):Bool:=PySem.W.findIn K (.ref C) "__getattribute__"==some (some (.builtin "BaseException.__getattribute__")) &&
 (PySem.W.findIn K (.ref C) "__getattr__"==some none && PySem.W.mroIn K C (.type "BaseException")==some true)
noncomputable def xo (a C:Addr) (dx:Option Addr) (b:Bool):HO:=.ext fun h=>∃oe vs t,h.get? a=some oe/\oe.cls=.ref C/\oe.dict=dx/\oe.data=.fields vs/\vs.size=6/\vs[0]? =some (.ref t)/\(b=true->vs[1]? =some .none)
theorem Xb (x:∃oe vs t,h.get? a=some oe/\oe.cls=.ref C/\oe.dict=dx/\oe.data=.fields vs/\vs.size=6/\vs[0]? =some (.ref t)/\(b=true->vs[1]? =some .none)):
  dI P w H h a (xo a C dx b):=by
 obtain⟨oe,vs,t,e,r⟩:=x;exact⟨⟨oe,vs,t,e,r⟩,⟨oe,e⟩,fun h1 h2 ⟨oe,vs,t,e,r⟩ k=>⟨oe,vs,t,k _ e,r⟩⟩
def G9 (h:Heap)(a T:Addr):Prop:=∃oe vs oT ts,h.get? a=some oe/\oe.data=.fields vs/\vs[1]? =some (.ref T)/\T≠a/\h.get? T=some oT/\oT.data=.fields ts/\ts[3]? =some .none
section
variable {P:Program}{w:World}{H:Hp}{h h':Heap}{fs ch:List Addr}{z a C T:Addr}{oe:Obj}{fl:Value}{dx:Option Addr}{b:Bool}{vs:Array Value}
theorem Tv (N:Noted fs z h h' a oe T .none)(e1:h.get? a=some oe)(e2:oe.data=.fields vs)(e3:vs.size=6):G9 h' a T:=by
 obtain⟨oT,ts,t1,t2,t3⟩:=N.tb;refine⟨_,_,oT,ts,N.exc,xa3 e2 _,by simp[e3],fun q=>?_,t1,t2,t3⟩;have z:=xai (xaq e1) N.new;rw[q]at z;exact absurd z (xa9 _)
theorem zbF (N:Noted fs z h h' a oe T fl)(x:∃vs t,oe.cls=.ref C/\oe.dict=dx/\oe.data=.fields vs/\vs.size=6/\vs[0]? =some (.ref t)):∃oe vs t,h'.get? a=some oe/\oe.cls=.ref C/\oe.dict=dx/\oe.data=.fields vs/\vs.size=6/\vs[0]? =some (.ref t)/\(false=true->vs[1]? =some .none):=by
 obtain⟨vs,t,c1,c2,c3,c4,c5⟩:=x;refine⟨_,_,t,N.exc,(Obj.cls_mapFields _ _).trans c1,?_,xa3 c3 _,by simp[c4],?_,fun q=>by cases q⟩
 ·obtain⟨_,_,od,_⟩:=oe;dsimp only at c3;subst c3;exact c2
 ·rw[Array.getElem?_setIfInBounds_ne (by decide)];exact c5
theorem W6 (N:Noted fs z h h' a oe T fl)(ha:H a=some (xo a C dx b))(hz:z=a\/z∈ch):Un fs ch H (upd H a (xo a C dx false)) h h':=by
 have n1:∀c,H c=none->c≠a:=fun c n q=>by rw[q,ha]at n;cases n
 have n2:∀c,c≠a->c∉ch->c≠z:=fun c n m q=>by
  rcases hz with r |r
  ·exact n (q.trans r)
  ·exact m (q ▸ r)
 have n3:∀c u,H c=some u->(∀φ,u≠ .ext φ)->c≠a:=fun c u q m r=>by
  rw[r,ha]at q;exact m _ (xav q).symm
 refine ⟨fun c o q n hc hx=>N.keep c o hc (n1 c n) (n2 c (n1 c n) hx) q,fun c o q n hc hx=>N.slot c o hc (n1 c n) (n2 c (n1 c n) hx) q,fun c o q n hx=>by rw[aU (n1 c n)];exact n,fun c o q hx=>?_,
  fun c xs q=>by rw[aU (n3 c _ q (by intro _ z;cases z))];exact q,fun c o u q=>by rw[aU (n3 c _ q (by intro _ z;cases z))];exact q,fun c ps q=>⟨#[],by rw[aU (n3 c _ q (by intro _ z;cases z)),q];simp⟩⟩
 by_cases ca:c=a
 ·rw[ca];exact⟨_,N.exc⟩
 ·by_cases cf:c∈fs
  ·obtain⟨sl,r⟩:=N.slot c o cf ca (n2 c ca hx) q;exact⟨_,r⟩
  ·exact⟨o,N.keep c o cf ca (n2 c ca hx) q⟩
theorem Rp (ok:cN P w H h)(N:Noted fs z h h' a oe T fl)(ha:H a=some (xo a C dx b))(hz:z=a\/H z=none)(hf:∀c∈fs,H c=none)
  (x:∃vs t,oe.cls=.ref C/\oe.dict=dx/\oe.data=.fields vs/\vs.size=6/\vs[0]? =some (.ref t)):cN P w (upd H a (xo a C dx false)) h':=fun c u q=>by
 have n3:∀c u,H c=some u->(∀φ,u≠ .ext φ)->c≠a:=fun c u q m r=>by
  rw[r,ha]at q;exact m _ (xav q).symm
 by_cases hc:c=a
 ·subst hc;rw[bW]at q;cases q;exact Xb (zbF N x)
 ·rw [aU hc] at q;have kp : ∀ d u v, H d = some u -> d ≠ a -> h.get? d = some v -> h'.get? d = some v := fun d u v q nd r => N.keep d v (fun m => by rw [hf d m] at q; cases q) nd (fun e=>by
   rcases hz with g |g
   ·exact nd (e.trans g)
   ·rw[e,g]at q;cases q) r
  refine(ok c u q).stay (fun d v hd r=>?_) (fun d r=>by rw[aU (n3 d _ r (by intro _ z;cases z))];exact r) fun d xs r=>by rw[aU (n3 d _ r (by intro _ z;cases z))];exact r
  rcases hd with rfl |hd
  ·exact kp d u v q hc r
  ·exact kp d _ v hd (n3 d _ hd (by intro _ z;cases z)) r
theorem Un.less (u:Un (L::fs) ch H H' h h')(n:h.get? L=none):Un fs ch H H' h h':=by
 have m:∀c o,h.get? c=some o->c≠L:=fun c o q e=>by rw[e,n]at q;cases q
 exact⟨fun c o q k hc hx=>u.keep c o q k (fun z=>(xaJ.mp z).elim (m c o q) hc) hx,fun c o q k hc hx=>u.slot c o q k (xak _ hc) hx,u.free,u.there,u.tups,u.frzs,u.tbls⟩
end
noncomputable def lu (P:Program) (w:World):fP:=fun outer H s E e s'=>∃a C dx H' T,e=.ref a/\s'.os=s.os/\AllBare s'.gens/\Un (frs outer) [] H H' s.heap s'.heap/\cN P w H' s'.heap/\H' a=some (xo a C dx false)/\H' T=none/\s.heap.objs.size<=T/\G9 s'.heap a T/\E (.ref C) dx H'
section
variable {X:Cx}{pins:Pnx}{σ:St}{H:Hp}{s:Shared}
theorem zb1 {P:Program}{w:World}{K:Fgx}{mg:Mgx}{base:Heap}{N:List Str}{qual:Str}{scope:Scope}{f:Addr}{cd:Value}{A:Around}{outer:List PySem.Env}{E:XK}{H1:Hp}{s1:Shared}{a C:Addr}{dx:Option Addr}
  (I:Inv (cY (lu P w) P w K mg base N qual scope f cd A outer s H E) pins σ H1 s1) (ha:H1 a=some (xo a C dx true)) (hE:E (.ref C) dx (upd H1 a (xo a C dx false))):(cY (lu P w) P w K mg base N qual scope f cd A outer s H E).xe (.ref a) s1:=by
 obtain⟨oe,vs,t,e1,e2,e3,e4,e5,e6,e7⟩:=(I.hok a _ ha).1;have fr:=I.ok.frames;have st:=I.stack;refine zaP fr st rfl e1 e4 (e7 rfl) fun h' T Nn=>?_;have hL:s.heap.get? (envOfC qual scope s.heap.objs.size f cd).locals=none:=xcI I.ok.above;have u1:Un (s.heap.objs.size::frs outer) [] H H1 s.heap s1.heap:=Un.mono (fs':=s.heap.objs.size::frs outer) (ex':=[]) I.base (fun b hb=>xak _ hb) fun b hb=>hb;have u2:Un (s.heap.objs.size::frs outer) [] H1 (upd H1 a (xo a C dx false)) s1.heap h':=W6 Nn ha (.inl rfl);have hT:H1 T=none:=I.hok.fresh Nn.new;have nT:T≠a:=fun q=>by rw[q,ha]at hT;cases hT
 refine⟨a,C,dx,_,T,rfl,I.os,I.bare,(u1.trans u2).less hL,Rp I.hok Nn ha (.inl rfl) (fun c hc=>I.stkFree c hc) ⟨vs,t,e2,e3,e4,e5,e6⟩,bW,by rw[aU nT];exact hT,xaB I.sz Nn.new,Tv Nn e1 e4 e5,hE⟩
end
theorem dI.some_of (x:dI P w H h a o):∃u,h.get? a=some u:=by
 cases o with
 |lst xs=>obtain⟨_,_,_,_,e⟩:=x;exact⟨_,e⟩
 |tup xs=>obtain⟨_,_,_,u,e,_⟩:=x;exact⟨u,e⟩
 |dK kvs=>obtain⟨_,_,_,_,u,_,_,e,_⟩:=x;exact⟨u,e⟩
 |dT kvs=>obtain⟨_,_,_,_,u,_,_,e,_⟩:=x;exact⟨u,e⟩
 |set S n=>obtain⟨u,_,_,_,e,_⟩:=x;exact⟨u,e⟩
 |ins C dx fs=>obtain⟨_,_,_,e,_⟩:=x;exact⟨_,e⟩
 |own y=>exact x
 |xd fs=>obtain⟨_,⟨u,_,_,e,_⟩,_⟩:=x;exact⟨u,e⟩
 |rng lo hi=>obtain⟨_,_,_,e⟩:=x;exact⟨_,e⟩
 |frz ob u=>obtain⟨e,_⟩:=x;exact⟨_,e⟩
 |tbl ps=>exact⟨_,x⟩
 |met f y=>exact⟨_,x⟩
 |ext φ=>exact x.2.1
theorem zfh (e:H a=some o):upd H a o=H:=by
 funext b;unfold upd
 split
 ·subst_vars;exact e.symm
 ·rfl
theorem Xa (ok:cN P w H h)(e:H a=some (xo a C dx b)):
  ∃oe vs t,h.get? a=some oe/\oe.cls=.ref C/\oe.dict=dx/\oe.data=.fields vs/\vs.size=6/\vs[0]? =some (.ref t)/\(b=true->vs[1]? =some .none):=(ok a _ e).1
section
variable {X:Cx}{pins:Pnx}{σ:St}{H:Hp}{s:Shared}
theorem Inv.laidN (I:Inv X pins σ H s)(k:∀b u,s.heap.get? b=some u->h'.get? b=some u)(n:s.heap.get? a=none)(new:dI X.prog X.w (upd H a o) h' a o):
    H a=none/\Inv X pins σ (upd H a o) {s with heap:=h',toks:=t'}:=by
  have hn:H a=none:=by
    cases q:H a with
    |none=>rfl
    |some u=>
      obtain⟨v,e⟩:=(I.hok a u q).some_of;rw[n]at e;cases e
  refine ⟨hn, I.un ⟨fun b u q _ _ _=>k b u q,fun b u q _ _ _=>⟨u.slots,k b u q⟩,fun b u q m _=>?_,fun b u q _=>⟨u,k b u q⟩,fun b xs q=>by rw[aU (lR q hn)];exact q,fun b u xs q=>by rw[aU (lR q hn)];exact q,
    fun b ps q=>⟨#[],by rw[aU (lR q hn),q];simp⟩⟩ fun b u q=>?_⟩
  · rw[aU (fun z=>by rw[z,n]at q;cases q)];exact m
  · by_cases hb:b=a
    · subst hb;rw[bW]at q;cases q;exact new
    · rw[aU hb]at q;exact(I.hok b u q).stay (fun c v _ r=>k c v r) (fun c r=>by rw[aU (lR r hn)];exact r) fun c xs r=>by rw[aU (lR r hn)];exact r
theorem zcb {e:Expr}{te:TE}{pos:Pos}{W:Addr->Addr->Option Addr->Hp->Prop}(he:PE X e te)(hc:X.calm=true)
  (hx:∀pins σ H s a C dx,Inv X pins σ H s->H a=some (xo a C dx true)->W a C dx H->X.xe (.ref a) s):
  PS X (.Raise (some e) none pos) (fun _ σ H=>te σ H fun v H1=>∃a C dx,v=.ref a/\H1 a=some (xo a C dx true)/\d7 X.K C=true/\W a C dx H1):=by
 intro pins s σ H D I h;rw[arm_exec_Raise];refine tG (xch (za1 (I.ok.hd hc) (tG (aP (he pins s σ H _ I h) fun u s1 ⟨v,H1,I1,rv,a,C,dx,ev,ea,q1,w⟩=>tG (xch (xah ?_))))));subst ev;cases rv;obtain⟨nm,qn,N,bs,bm,sn,sub,ab,col,dd,k0,k1,k2,k3,k5,Y,lk⟩:=W_ I1.kIn q1;obtain⟨oe,vs,t,e1,e2,e3,e4,e5,e6,e7⟩:=Xa I1.hok ea;exact⟨a,oe,vs,rfl,⟨C,nm,qn,N,bs,bm,_,sn,sub,ab,col,dd,k0,k1,k2,k3,k5,_,Y.obj,Y.tail.hasType xci.hasBase,e2⟩,e1,e4,e7 rfl,hx pins σ H1 s1 a C dx I1 ea w⟩
noncomputable def G8 (K : Fgx) (C : Addr) : Bool := G7 K C && (PySem.W.hasDictIn K C && (PySem.W.findIn K (.ref C) "__class__"==some (some (.builtin "object.__class__")) &&
 (PySem.W.specialIn K (.builtin "object.__class__") "__get__"==some (some (.builtin "getset_descriptor.__get__")) && (PySem.W.takesIn K (.builtin "object.__class__")==some true && PySem.W.mroIn K C (.type "object")==some true))))
end
section
variable {X:Cx}{pins:Pnx}{σ:St}{H:Hp}{s:Shared}
structure Caught (X:Cx)(pins:Pnx)(σ:St)(H:Hp)(s:Shared)(a C:Addr)(dx:Option Addr)(T:Addr):Prop where
 inv:Inv X pins σ H s
 obj:H a=some (xo a C dx false)
 fl:G9 s.heap a T
 hT:H T=none
 t1:X.s₀.heap.objs.size<=T
 t2:T≠X.env.locals
 t3:∀x c,X.env.cells.lookup x=some c->c≠T
 t4:∀p∈X.pn ++ pins,p.1≠T
theorem Qo (I:Inv X pins σ H s)(h:s.heap.objs.size<=T):X.s₀.heap.objs.size<=T/\T≠X.env.locals/\(∀x c,X.env.cells.lookup x=some c->c≠T)/\∀p∈X.pn ++ pins,p.1≠T:=by
 refine⟨xaB I.sz h,xdr (xai I.lt h),fun x c e=>?_,fun p hp=>?_⟩
 ·obtain⟨v,o,ho,_⟩:=I.cell x c e;exact xay (xai (xaq ho) h)
 ·exact xay (xai (xaq (I.pin p hp).1) h)
theorem X3 (I:Inv X pins σ H s)(h:lu X.prog X.w X.stack H s E e s'):∃a C dx H' T,e=.ref a/\Caught X pins σ H' s' a C dx T/\E (.ref C) dx H':=by
 obtain⟨a,C,dx,H',T,rfl,os,bare,un,hok,ha,hT,hz,fl,hE⟩:=h;have I2:=I.call' os un hok bare (fun b z=>nomatch z)
 obtain⟨z1,z2,z3,z4⟩:=Qo I hz;exact⟨a,C,dx,H',T,rfl,⟨I2,ha,fl,hT,z1,z2,z3,z4⟩,hE⟩
variable {a C T:Addr}{dx:Option Addr}{Q:Unit->Shared->Prop}{E:Value->Shared->Prop}{M:Model}
theorem Caught.note (c:Caught X pins σ H s a C dx T)(hs:X.stack=X.env::X.outer)(hf:X.env.frame=some X.env.locals)(k:∀s' T',Caught X pins σ H s' a C dx T'->Q () s'):
  wpAny M X.A (noteFrame (.ref a) X.env) (fun _ s2=>wpAny M X.A (setFlight (.ref a) none) Q E s2) E s:=by
 obtain ⟨oe, vs, t, e1, e2, e3, e4, e5, e6, _⟩ := Xa c.inv.hok c.obj;obtain ⟨oe', vs', oT, ts, f1, f2, f3, f4, f5, f6, f7⟩ := c.fl;rw [e1] at f1;cases f1;rw [e4] at f2;cases f2;have fr := c.inv.ok.frames;have st := c.inv.stack;rw [hs] at fr st;refine zbx fr st hf e1 e4 f3 f4 f5 f6 f7 fun h' T' N => Tw (s := { s with heap := h' }) N e1 e4 (by omega) fun h2 N2 => k _ T' ?_;have hx : ∃ vs t, oe.cls = .ref C /\ oe.dict = dx /\ oe.data = .fields vs /\ vs.size = 6 /\ vs[0]? = some (.ref t) := ⟨vs, t, e2, e3, e4, e5, e6⟩;rw [<- hs] at N2;have u := W6 (ch := [T]) N2 c.obj (.inr (xbl.mpr rfl));have hk := Rp c.inv.hok N2 c.obj (.inr c.hT) (fun b hb => c.inv.stkFree b hb) hx;rw [zfh c.obj] at u hk;have I2 : Inv X pins σ H { s with heap := h2 } := c.inv.call' (s' := { s with heap := h2 }) rfl u hk c.inv.bare (fun b hb=>by
  rw[xbl.mp hb];exact⟨.inr c.t1,c.t2,c.t3,c.t4⟩)
 obtain⟨z1,z2,z3,z4⟩:=Qo c.inv N2.new;exact⟨I2,c.obj,Tv N2 e1 e4 e5,c.inv.hok.fresh N2.new,z1,z2,z3,z4⟩
end
abbrev Cx.pin (X:Cx)(pins:Pnx)(E:Value->Shared->Prop):Cx:={X with pn:=X.pn ++ pins,xe:=E}
abbrev Cx.suite (X:Cx)(e:Value):Cx:={X with A:=X.A.mark (some e),calm:=false,xe:=fun _ _=>False}
theorem zb0 {X:Cx}{CX:fP}{k:Nat}{f:Addr}{fd:FuncData}{ps:List Str}{sp:Sp}{dvs:List V}{ds:List Value}{x:Str}{p pos:Pos}{e:Expr}{es:List Expr}{t:TA}{Ex:St->XK}(F:FnOk X.prog X.w X.K X.mg X.base CX k f fd ps sp)(hr:Room k X.A)(hg:Gl X x)
    (hm:X.mg x=some (.ref f)) (hk:PySem.W.keepIn X.K (.ref f)=true) (hb:Binds X.K fd ps ds) (hd:Vals dvs ds) (hx:∀pins σ H s e s',Inv X pins σ H s->CX X.stack H s (Ex σ) e s'->X.xe e s') (ha:PA X (e::es) t)
    (hdb:(x==("__debug__":Str))=false) (he:starEach (e::es) X.env=(false,eval e X.env)::starEach es X.env) (hpl:(backTo pos (starEach es X.env)).any (·.1)=false):
    PE X (.Call (.Name x p) (e::es) [] pos) (fun σ H Q=>t σ H fun vs H1=>sp (vs ++ dvs) H1 Q (Ex σ)):=by
  intro pins s σ H Q I h;refine xbF (u5 I hg hm ?_ hdb);refine xbG (h₀:=X.base) I.ok.mod.kin hk (aP (ha pos pins s σ H _ I h) fun us s1 ⟨vs,H1,I1,r,q⟩=>⟨I1.kIn,?_⟩) he hpl;have r2:Vals (vs ++ dvs) (us ++ ds):=r.append hd;have hl:(us ++ ds).length=ps.length:=by rw[<-r2.length];exact F.len _ _ _ _ q
  refine xdm (xbO (F.run X.A X.stack s1 H1 ⟨us,[]⟩ (us ++ ds) (vs ++ dvs) Q (Ex σ) hr I1.env0 (hb s1 us I1.kIn hl) r2 q) fun rr s' hq=>?_)
  cases rr with
  |error e=>exact hx pins σ H1 s1 e s' I1 hq
  |ok fl=>
    cases fl with
    |ret u=>exact I1.after hq
    |next=>exact False.elim hq
    |brk=>exact False.elim hq
    |cont=>exact False.elim hq
theorem ns_none_of {K:Fgx}{h:Heap}{N:Addr}{mg:Mgx}{n:Str}(X:K.In h)(G:h.Ns N mg)(e:PySem.W.nsIn K N n=some none):mg n=none:=by
 obtain⟨o,es,ep,ho,hd,_,hf⟩:=G;unfold PySem.W.nsIn at e;split at e
 ·rename_i q;have z:=X _ _ q;rw[ho]at z;cases z;cases hd;split at e
  ·cases e
  ·rename_i he;rw[<-hf];unfold nsFind findBy;rw[<-xd6,he];rfl
 ·cases e
section
variable {X:Cx}
def WR (C:Addr)(Q:VK)(vs:List V)(H:Hp):Prop:=vs.length=1/\∀a,H a=none->Q (.ref a) (upd H a (xo a C none true))
noncomputable def ze8 (C:Addr) (te:TE):TE:=fun σ H Q=>te σ H fun v H1=>WR C Q [v] H1
theorem zbC {C:Addr}{x:Str}{p pos:Pos}{e:Expr}{te:TE}(q1:d7 X.K C=true)(q2:C_ X.K C=true)(kp:PySem.W.keepIn X.K (.ref C)=true)(hg:Gl X x)(hm:X.mg x=some (.ref C))(he:PE X e te)(hdb:(x==("__debug__":Str))=false)
  (hs:starEach [e] X.env=[(false,eval e X.env)]):PE X (.Call (.Name x p) [e] [] pos) (ze8 C te):=by
 intro pins s σ H Q I h;refine xbF (u5 I hg hm ?_ hdb);refine xbG (h₀:=X.base) I.ok.mod.kin kp (aP (su he vd hs pos pins s σ H (WR C Q) I h) fun us s1 ⟨vs,H1,I1,r,q⟩=>⟨I1.kIn,?_⟩) hs rfl;obtain⟨nm,qn,N,bs,bm,sn,sub,ab,col,dd,k0,k1,k2,k3,k5,Y,lk⟩:=W_ I1.kIn q1;unfold C_ at q2;rw[lk]at q2;simp only[xbh]at q2;have c3:=ns_none_of I1.kIn Y.ns q2;have hl:us.length=1:=by
  rw[<-r.length,q.1]
 obtain⟨hh,g,d,t,os⟩:=s1;refine wpAny_call_exc_subU xci (by x_go) xci Y.tail Y.obj Y.ns c3 (fun h' a M=>?_) (by show us.length<=sizeLine;rw[hl,xaG];decide);obtain⟨t0,m1,_,_⟩:=M.there;obtain⟨hn,I2⟩:=I1.laidN (a:=a) (o:=xo a C none true) (t':=t) M.keeps M.new (Xb ⟨_,_,t0,m1,rfl,rfl,rfl,rfl,rfl,fun _=>rfl⟩);exact⟨V.ref a,_,I2,rfl,q.2 a hn⟩
end
end L2
namespace E3
open PySem PySem.Spec PyProof.Rows L2
inductive D where
 |non |bl (b:Bool) |int (i:Int) |str (s:Str) |tup (xs:List D) |lst (xs:List D) |ref (n:Nat)
structure FnT where
 st:Stmt
 x:Str
 q:Str
 pos:Pos
 fr:List Str
 dd:List Int:=[]
inductive Cl where
  |lst (ds:List D) |obj (c:Str) (fs:List (Str×D)) |dct (kvs:List (L2.Key×D))
    |dcf (kvs:List (L2.Key×D))
    |fn (i:FnT) (caps:List (Str×D)) |tbl (nm:Str) (i:FnT)
abbrev Mm:=List Cl
inductive Slot where
 |un |val (d:D) |own (ds:List D) |exc (c:Str) (n:Int)
abbrev Env:=List Slot
mutual
def D.lf:D->Bool
 |.tup xs=>D.lfs xs
 |.lst _=>false
 |.ref _=>false
 |_=>true
def D.lfs:List D->Bool
 | []=>true
 |a::as=>D.lf a && D.lfs as
end
def KL (K:Fgx)(a:Addr)(vs:List V):Prop:=∃(o:Obj) (its:Array Value) (n:Nat),K.lookup a=some o/\o.cls=.type "list"/\o.dict=none/\o.data=.seq its n/\its.size<=sizeLine/\Vals vs its.toList
structure Pl where
 io:Nat->Addr
 n:Nat
 bd:Addr->Prop
def Hy (K:Fgx)(P:Pl)(H:Hp)(a:Addr)(vs:List V):Prop:=(¬ P.bd a/\Rd H a (.lst vs))\/KL K a vs
def Pz (K:Fgx)(P:Pl)(H:Hp)(a:Addr)(vs:List V):Prop:=((∀k,k<P.n->P.io k≠a)/\Rd H a (.lst vs))\/KL K a vs
mutual
def Is (K:Fgx)(P:Pl)(H:Hp):D->V->Prop
 |.non,v=>v=.non
 |.bl b,v=>v=.bl b
 |.int i,v=>v=.int i
 |.str s,v=>v=.str s
 |.tup ds,v=>∃a vs,v=.ref a/\c7 K H a vs/\aD K P H ds vs
 |.lst ds,v=>∃a vs,v=.ref a/\Hy K P H a vs/\aD K P H ds vs
 |.ref k,v=>k<P.n/\v=.ref (P.io k)
def aD (K:Fgx)(P:Pl)(H:Hp):List D->List V->Prop
 | [],vs=>vs=[]
 |d::ds,vs=>∃v r,vs=v::r/\Is K P H d v/\aD K P H ds r
end
def Fx (o:HO):Prop:=(∃xs,o=.tup xs)\/(∃u w,o=.frz u w)\/(∃g,o=.ext g)\/∃fs,o=.xd fs
structure Lt (P:Pl)(H:Hp)(P':Pl)(H':Hp):Prop where
 n:P.n<=P'.n
 io:∀k,k<P.n->P'.io k=P.io k
 bd:∀a,P'.bd a->P.bd a\/H a=none
 keep:∀a o,H a=some o->(Fx o\/¬ P.bd a)->H' a=some o
 sure:∀a,H' a=none->H a=none
section
variable {K:Fgx}{P P' P'':Pl}{H H' H'':Hp}
theorem Lt.refl (P:Pl)(H:Hp):Lt P H P H:=⟨xaf _,fun _ _=>rfl,fun _ z=>.inl z,fun _ _ e _=>e,fun _ z=>z⟩
theorem Lt.frz (l:Lt P H P' H'):∀b o u,H b=some (.frz o u)->H' b=some (.frz o u):=fun b o u e=>l.keep b _ e (.inl (.inr (.inl ⟨_,_,rfl⟩)))
theorem Lt.not (l:Lt P H P' H')(e:H a=some o)(n:¬ P.bd a):¬ P'.bd a:=fun z=>(l.bd a z).elim n fun z=>by rw[e]at z;cases z
theorem Lt.trans (l:Lt P H P' H')(m:Lt P' H' P'' H''):Lt P H P'' H'' where
 n:=xaB l.n m.n
 io:=fun k h=>(m.io k (xai h l.n)).trans (l.io k h)
 bd:=fun a z=>(m.bd a z).elim (l.bd a) fun z=>.inr (l.sure a z)
 keep:=fun a o e h=>m.keep a o (l.keep a o e h) (h.imp id fun n=>l.not e n)
 sure:=fun a z=>l.sure a (m.sure a z)
theorem Lt.rd (l:Lt P H P' H')(n:¬ P.bd a)(h:Rd H a (.lst xs)):Rd H' a (.lst xs):=by
 rcases h with h |⟨o,h⟩
 ·exact .inl (l.keep _ _ h (.inr n))
 ·exact .inr ⟨o,l.keep _ _ h (.inr n)⟩
theorem Uo (h:Rd H a o):∃o',H a=some o':=h.elim (fun h=>⟨_,h⟩) fun⟨_,h⟩=>⟨_,h⟩
theorem Lt.rda (l:Lt P H P' H')(h:Hy K P H a xs):Hy K P' H' a xs:=h.imp (fun⟨n,h⟩=>⟨by obtain⟨o,e⟩:=Uo h;exact l.not e n,l.rd n h⟩) id
theorem Lt.tup (l:Lt P H P' H')(h:c7 K H a xs):c7 K H' a xs:=by
 rcases h with(h |⟨o,h⟩) |h
 ·exact .inl (.inl (l.keep _ _ h (.inl (.inl ⟨_,rfl⟩))))
 ·exact .inl (.inr ⟨o,l.keep _ _ h (.inl (.inr (.inl ⟨_,_,rfl⟩)))⟩)
 ·exact .inr h
mutual
theorem Is.lt (l:Lt P H P' H'):∀{d:D} {v:V},Is K P H d v->Is K P' H' d v
  |.non,_,h=>h
  |.bl _,_,h=>h
  |.int _,_,h=>h
  |.str _,_,h=>h
  |.tup ds,_,h=>by
    obtain⟨a,vs,e,s,r⟩:=h;exact⟨a,vs,e,l.tup s,aD.lt l r⟩
  |.lst ds,_,h=>by
    obtain⟨a,vs,e,s,r⟩:=h;exact⟨a,vs,e,l.rda s,aD.lt l r⟩
  |.ref k,_,h=>⟨xai h.1 l.n,by rw[l.io k h.1];exact h.2⟩
theorem aD.lt (l:Lt P H P' H'):∀{ds:List D} {vs:List V},aD K P H ds vs->aD K P' H' ds vs
  | [],_,h=>h
  |_::_,_,h=>by
    obtain⟨v,r,e,p,q⟩:=h;exact⟨v,r,e,Is.lt l p,aD.lt l q⟩
end
noncomputable def Pl.less (P:Pl) (B:Addr->Prop):Pl:={P with bd:=fun a=>P.bd a/\B a}
mutual
theorem Is.less:∀{d:D} {v:V},Is K P H d v->Is K (P.less B) H d v
  |.non,_,h=>h
  |.bl _,_,h=>h
  |.int _,_,h=>h
  |.str _,_,h=>h
  |.tup ds,_,h=>by
    obtain⟨a,vs,e,s,r⟩:=h;exact⟨a,vs,e,s,aD.less r⟩
  |.lst ds,_,h=>by
    obtain⟨a,vs,e,s,r⟩:=h;exact⟨a,vs,e,s.imp (fun⟨n,h⟩=>⟨fun z=>n z.1,h⟩) id,aD.less r⟩
  |.ref k,_,h=>h
theorem aD.less:∀{ds:List D} {vs:List V},aD K P H ds vs->aD K (P.less B) H ds vs
  | [],_,h=>h
  |_::_,_,h=>by
    obtain⟨v,r,e,p,q⟩:=h;exact⟨v,r,e,Is.less p,aD.less q⟩
end
mutual
theorem Is.free (P':Pl):∀{d:D} {v:V},d.lf=true->Is K P H d v->Is K P' H d v
  |.non,_,_,h=>h
  |.bl _,_,_,h=>h
  |.int _,_,_,h=>h
  |.str _,_,_,h=>h
  |.tup ds,_,l,h=>by
    obtain⟨a,vs,e,s,r⟩:=h;exact⟨a,vs,e,s,aD.free P' (by simpa only[D.lf] using l) r⟩
  |.lst _,_,l,_=>by simp[D.lf]at l
  |.ref _,_,l,_=>by simp[D.lf]at l
theorem aD.free (P':Pl):∀{ds:List D} {vs:List V},D.lfs ds=true->aD K P H ds vs->aD K P' H ds vs
  | [],_,_,h=>h
  |_::_,_,l,h=>by
    obtain⟨v,r,e,p,q⟩:=h;simp only[D.lfs,xap]at l;exact⟨v,r,e,Is.free P' l.1 p,aD.free P' l.2 q⟩
end
theorem aD.len:∀{ds:List D} {vs:List V},aD K P H ds vs->vs.length=ds.length
  | [],_,h=>by rw[show _=[] from h];rfl
  |d::ds,_,h=>by
    obtain⟨v,r,e,_,q⟩:=h;subst e
    simp[aD.len q]
theorem aD.get:∀{ds:List D} {vs:List V} {i:Nat} {d:D},aD K P H ds vs->ds[i]? =some d->∃v,vs[i]? =some v/\Is K P H d v
  | [],_,_,_,_,e=>by simp at e
  |d::ds,_,0,_,h,e=>by
    obtain⟨v,r,e',p,_⟩:=h
    simp at e
    subst e e';exact⟨v,rfl,p⟩
  |d::ds,_,i + 1,_,h,e=>by
    obtain⟨v,r,e',_,q⟩:=h;subst e'
    simpa using aD.get (i:=i) q (by simpa using e)
theorem aD.append:∀{ds es:List D} {vs ws:List V},aD K P H ds vs->aD K P H es ws->aD K P H (ds ++ es) (vs ++ ws)
  | [],_,_,_,h,q=>by rw[show _=[] from h];exact q
  |d::ds,_,_,_,h,q=>by
    obtain⟨v,r,e,p,h⟩:=h;subst e;exact⟨v,r ++ _,rfl,p,aD.append h q⟩
theorem aD.take:∀{ds:List D} {vs:List V} (n:Nat),aD K P H ds vs->aD K P H (ds.take n) (vs.take n)
  |_,_,0,_=>rfl
  | [],_,n + 1,h=>by rw[show _=[] from h];rfl
  |d::ds,_,n + 1,h=>by
    obtain⟨v,r,e,p,h⟩:=h;subst e;exact⟨v,_,rfl,p,aD.take n h⟩
theorem aD.drop:∀{ds:List D} {vs:List V} (n:Nat),aD K P H ds vs->aD K P H (ds.drop n) (vs.drop n)
  |_,_,0,h=>h
  | [],_,n + 1,h=>by rw[show _=[] from h];rfl
  |d::ds,_,n + 1,h=>by
    obtain⟨v,r,e,p,h⟩:=h;subst e;exact aD.drop n h
theorem aD.one (h:Is K P H d v):aD K P H [d] [v]:=⟨v,[],rfl,h,rfl⟩
theorem aD.set:∀{ds:List D} {vs:List V} {d:D} {v:V} (n:Nat),aD K P H ds vs->Is K P H d v->aD K P H (ds.set n d) (vs.set n v)
  | [],_,_,_,_,h,_=>by rw[show _=[] from h];rfl
  |d::ds,_,_,_,0,h,p=>by
    obtain⟨v,r,e,_,h⟩:=h;subst e;exact⟨_,r,rfl,p,h⟩
  |d::ds,_,_,_,n + 1,h,p=>by
    obtain⟨v,r,e,q,h⟩:=h;subst e;exact⟨v,_,rfl,q,aD.set n h p⟩
end
noncomputable def mD (H:Hp):List (Str×Addr)->List V->Prop
 | [],vs=>vs=[]
 |p::r,vs=>∃v ws u o,vs=v::ws/\RelV v u/\H p.2=some (.frz o (.own p.2))/\o.data=.cell (some u)/\mD H r ws
theorem mD.up {H H':Hp}(s:∀b o u,H b=some (.frz o u)->H' b=some (.frz o u)):∀{cl:List (Str×Addr)} {vs:List V},mD H cl vs->mD H' cl vs
  | [],_,h=>h
  |_::_,_,h=>by
    obtain⟨v,ws,u,o,e,r,q,d,h⟩:=h;exact⟨v,ws,u,o,e,r,s _ _ _ q,d,h.up s⟩
def f9 (H:Hp)(c:Addr)(q:Str):Prop:=∃(o:Obj) (fs:Array Value) (t:Tok),H c=some (.frz o (.own c))/\o.data=.fields fs/\fs[1]? =some (.str q t)
theorem f9.up {H H':Hp}{c:Addr}{q:Str}(s:∀b o u,H b=some (.frz o u)->H' b=some (.frz o u))(h:f9 H c q):f9 H' c q:=by
 obtain⟨o,fs,t,e,r⟩:=h;exact⟨o,fs,t,s _ _ _ e,r⟩
def fj (H:Hp)(dd:List Int)(dV:Value):Prop:=(dd=[]/\dV=.none)\/(dd≠ []/\∃(td:Addr) (o:Obj) (its:Array Value) (n:Nat),dV=.ref td/\H td=some (.frz o (.own td))/\o.data=.seq its n/\Vals (dd.map V.int) its.toList)
theorem fj.up {H H':Hp}{dd:List Int}{dV:Value}(s:∀b o u,H b=some (.frz o u)->H' b=some (.frz o u))(h:fj H dd dV):fj H' dd dV:=
 h.imp id fun⟨e,td,o,its,n,e1,e2,r⟩=>⟨e,td,o,its,n,e1,s _ _ _ e2,r⟩
noncomputable def pB (mg:Mgx) (i:FnT) (cl:List (Str×Addr)) (dV doc ctv:Value) (c:Addr):Obj:={cls:=.type "function",data:=.func (PySem.W.fnX i.x i.q (b_ i.st) (bJ i.st) (aJ i.st) cl dV .none doc ((mg "__name__").getD .none) none (.ref c) ctv)}
def iB (K:Fgx)(mg:Mgx)(P:Pl)(H:Hp)(a:Addr)(i:FnT)(caps:List (Str×D)):Prop:=
 ∃(cl:List (Str×Addr)) (dV doc ctv:Value) (c:Addr) (vs:List V),H a=some (.frz (pB mg i cl dV doc ctv c) (.own a))/\(f9 H c i.q/\fj H i.dd dV)/\(cl.map (·.1)=caps.map (·.1)/\caps.map (·.1)=i.fr)/\aD K P H (caps.map (·.2)) vs/\mD H cl vs/\∀x y a,cl.lookup x=some a->cl.lookup y=some a->x=y
theorem iB.up {K:Fgx}{mg:Mgx}{P P':Pl}{H H':Hp}{a:Addr}{i:FnT}{caps:List (Str×D)}(h:iB K mg P H a i caps)(s:∀b o u,H b=some (.frz o u)->H' b=some (.frz o u))(q:∀ds vs,aD K P H ds vs->aD K P' H' ds vs):iB K mg P' H' a i caps:=by
 obtain⟨cl,dV,doc,ctv,c,vs,e1,e2,e3,e4,e5,e6⟩:=h;exact⟨cl,dV,doc,ctv,c,vs,s _ _ _ e1,⟨e2.1.up s,e2.2.up s⟩,e3,q _ _ e4,e5.up s,e6⟩
def pO (K:Fgx)(H:Hp)(a:Addr)(nm:Str)(i:FnT):Prop:=
 ∃(c:Addr) (ps:Array Value),PySem.W.tabIn K nm=some (c,a)/\H a=some (.tbl ps)/\(ps= #[]\/∃c',ps= #[rawInt i.pos.line,rawInt i.pos.col,.ref c']/\f9 H c' i.q)
theorem pO.up {K:Fgx}{H H':Hp}{a:Addr}{nm:Str}{i:FnT}(h:pO K H a nm i)(e:∀o,H a=some o->H' a=some o)(s:∀b o u,H b=some (.frz o u)->H' b=some (.frz o u)):pO K H' a nm i:=by
 obtain⟨c,ps,e1,e2,e3⟩:=h;exact⟨c,ps,e1,e _ e2,e3.imp id fun⟨c',z,q⟩=>⟨c',z,q.up s⟩⟩
noncomputable def yd (K:Fgx) (mg:Mgx) (P:Pl) (H:Hp) (a:Addr):Cl->Prop
 |.lst ds=>∃vs,H a=some (.lst vs)/\aD K P H ds vs
 |.obj c fs=>∃C dx gs,mg c=some (.ref C)/\H a=some (.ins C dx gs)/\gs.map (·.1)=fs.map (·.1)/\aD K P H (fs.map (·.2)) (gs.map (·.2))
 |.dct kvs=>∃vs:List (L2.Key×V),H a=some (.dK vs)/\vs.map (·.1)=kvs.map (·.1)/\aD K P H (kvs.map (·.2)) (vs.map (·.2))
 |.dcf kvs=>∃(vs:List (L2.Key×V)) (ob:Obj) (es:Array DictEntry) (ep:Nat),H a=some (.frz ob (.dK vs))/\ob.data=.dict es ep/\vs.map (·.1)=kvs.map (·.1)/\aD K P H (kvs.map (·.2)) (vs.map (·.2))
 |.fn i caps=>iB K mg P H a i caps
 |.tbl nm i=>pO K H a nm i
noncomputable def Cl.fix:Cl->Bool
 |.dcf _=>true
 |.fn _ _=>true
 |_=>false
structure Hk (K:Fgx)(mg:Mgx)(P:Pl)(H:Hp)(M:Mm):Prop where
 n:P.n=M.length
 cell:∀(k:Nat) c,M[k]? =some c->yd K mg P H (P.io k) c
 inj:∀j k,j<P.n->k<P.n->P.io j=P.io k->j=k
 bd:∀k,k<P.n->P.bd (P.io k)
 here:∀a,P.bd a->H a≠none
structure LtE (P:Pl)(H:Hp)(P':Pl)(H':Hp):Prop where
 n:P.n<=P'.n
 io:∀k,k<P.n->P'.io k=P.io k
 bd:∀a,P'.bd a->P.bd a\/H a=none
 bm:∀a,P.bd a->P'.bd a
 keep:∀a o,H a=some o->(Fx o\/∀k,k<P.n->P.io k≠a)->H' a=some o
 sure:∀a,H' a=none->H a=none
 nw:∀k,P.n<=k->k<P'.n->H (P'.io k)=none
section
variable {K:Fgx}{mg:Mgx}{P P' P'':Pl}{H H' H'':Hp}{M M':Mm}
theorem LtE.refl (P:Pl)(H:Hp):LtE P H P H:=⟨xaf _,fun _ _=>rfl,fun _ z=>.inl z,fun _ z=>z,fun _ _ e _=>e,fun _ z=>z,fun k h1 h2=>absurd h1 (xdU.mpr h2)⟩
theorem LtE.same (s:Same H H'):LtE P H P H':=⟨xaf _,fun _ _=>rfl,fun _ z=>.inl z,fun _ z=>z,fun a o e _=>s a o e,fun a z=>s.free z,fun k h1 h2=>absurd h1 (xdU.mpr h2)⟩
theorem Hk.cellAt (h:Hk K mg P H M)(hc:M[k]? =some c)(nd:c.fix=false:=by rfl):∃o,H (P.io k)=some o/\¬ Fx o:=by
  have:=h.cell k c hc
  cases c with
  |lst ds=>
    obtain⟨vs,e,_⟩:=this;exact⟨_,e,fun z=>by rcases z with⟨_,z⟩ |⟨_,_,z⟩ |⟨_,z⟩ |⟨_,z⟩<;>cases z⟩
  |obj c fs=>
    obtain⟨C,dx,gs,_,e,_⟩:=this;exact⟨_,e,fun z=>by rcases z with⟨_,z⟩ |⟨_,_,z⟩ |⟨_,z⟩ |⟨_,z⟩<;>cases z⟩
  |dct kvs=>
    obtain⟨vs,e,_⟩:=this;exact⟨_,e,fun z=>by rcases z with⟨_,z⟩ |⟨_,_,z⟩ |⟨_,z⟩ |⟨_,z⟩<;>cases z⟩
  |dcf kvs=>cases nd
  |fn i caps=>cases nd
  |tbl nm i=>
    obtain⟨c,ps,_,e,_⟩:=this;exact⟨_,e,fun z=>by rcases z with⟨_,z⟩ |⟨_,_,z⟩ |⟨_,z⟩ |⟨_,z⟩<;>cases z⟩
theorem LtE.lt (l:LtE P H P' H')(h:Hk K mg P H M):Lt P H P' H' where
 n:=l.n
 io:=l.io
 bd:=l.bd
 sure:=l.sure
 keep:=fun a o e z=>l.keep a o e (z.imp id fun z k hk q=>z (q ▸ h.bd k hk))
theorem LtE.trans (l:LtE P H P' H')(m:LtE P' H' P'' H''):LtE P H P'' H'' where
 n:=xaB l.n m.n
 io:=fun k h=>(m.io k (xai h l.n)).trans (l.io k h)
 bd:=fun a z=>(m.bd a z).elim (l.bd a) fun z=>.inr (l.sure a z)
 bm:=fun a z=>m.bm a (l.bm a z)
 keep:=fun a o e h=>m.keep a o (l.keep a o e h) <| h.imp id fun h k hk q=>by
  rcases xa4 k P.n with z |z
  ·rw[l.io k z]at q;exact h k z q
  ·rw[<-q,l.nw k z hk]at e;cases e
 sure:=fun a z=>l.sure a (m.sure a z)
 nw:=fun k h1 h2=>by
  rcases xa4 k P'.n with z |z
  ·rw[m.io k z];exact l.nw k h1 z
  ·exact l.sure _ (m.nw k z h2)
end
inductive Cp where
 |eq |ne |lt |le |gt |ge |isin |notin |same |other
mutual
def D.eq:D->D->Bool
 |.non,.non=>true
 |.bl a,.bl b=>a==b
 |.bl a,.int b=>(if a then 1 else 0)==b
 |.int a,.bl b=>a==(if b then 1 else 0)
 |.int a,.int b=>a==b
 |.str a,.str b=>a==b
 |.tup a,.tup b=>D.eqs a b
 |.lst a,.lst b=>D.eqs a b
 |.ref a,.ref b=>a==b
 |_,_=>false
def D.eqs:List D->List D->Bool
 | [],[]=>true
 |a::as,b::bs=>D.eq a b && D.eqs as bs
 |_,_=>false
end
mutual
def D.dep:D->Nat
 |.tup xs=>D.deps xs + 1
 |.lst xs=>D.deps xs + 1
 |.ref _=>101
 |_=>0
def D.deps:List D->Nat
 | []=>0
 |a::as=>max (D.dep a) (D.deps as)
end
noncomputable def D.flat:D->Bool
 |.tup _=>false
 |.lst _=>false
 |.ref _=>false
 |_=>true
noncomputable def t_ (i j:Str):Bool:= !(Builtin.Str.occurrences j i 0 j.length 1).isEmpty
def dO (a b:D):Bool:=a.flat==b.flat && decide (b.dep<=50)
noncomputable def yt (a b:D):Option Bool:=if dO a b=true/\a.dep<=50 then some (D.eq a b) else none
noncomputable def pZ (a b:D):Option Bool:=if dO a b=true/\a.dep<=50 then some (!D.eq a b) else none
noncomputable def dN (f:Int->Int->Bool) (a b:D):Option Bool:=match a with
 |.int i=>(match b with |.int j=>some (f i j) |_=>none)
 |_=>none
noncomputable def pY (a b:D):Option Bool:=match b with
 |.str j=>(match a with |.str i=>some (t_ i j) |_=>none)
 |.lst xs=>if (a.flat && xs.all D.flat)=true then some (xs.any fun y=>D.eq y a) else none
 |.tup xs=>if (a.flat && xs.all D.flat)=true then some (xs.any fun y=>D.eq y a) else none
 |_=>none
noncomputable def gb (a b:D):Option Bool:=match b with
 |.str j=>(match a with |.str i=>some (!t_ i j) |_=>none)
 |.lst xs=>if (a.flat && xs.all D.flat)=true then some (!xs.any fun y=>D.eq y a) else none
 |.tup xs=>if (a.flat && xs.all D.flat)=true then some (!xs.any fun y=>D.eq y a) else none
 |_=>none
noncomputable def tV (a b:D):Option Bool:=match b with
 |.bl b=>(match a with |.bl a=>some (a==b) |_=>some false)
 |.non=>(match a with |.non=>some true |_=>some false)
 |_=>none
noncomputable def tU (a b:D):Option Bool:=match b with
 |.bl b=>(match a with |.bl a=>some (!(a==b)) |_=>some true)
 |.non=>(match a with |.non=>some false |_=>some true)
 |_=>none
noncomputable def cQ (c:Cp) (a b:D):Option Bool:=match c with
 |.eq=>yt a b
 |.ne=>pZ a b
 |.lt=>dN (fun i j=>decide (i<j)) a b
 |.le=>dN (fun i j=>decide (i<=j)) a b
 |.gt=>dN (fun i j=>decide (j<i)) a b
 |.ge=>dN (fun i j=>decide (j<=i)) a b
 |.isin=>pY a b
 |.notin=>gb a b
 |.same=>tV a b
 |.other=>tU a b
noncomputable def dz (K:Fgx) (P:Pl) (H:Hp):D->V->Prop
 |.lst ds,v=>∃a vs,v=.ref a/\Pz K P H a vs/\aD K P H ds vs
 |d,v=>Is K P H d v
section
variable {X:Cx}{pins:Pnx}{σ:L2.St}{H:Hp}{s:Shared}
theorem zgL {K:Fgx}{P:Pl}{a:Addr}{xs:List V}(h:Pz K P H a xs):bU K H a xs:=h.imp (·.2) id
noncomputable def cj (K:Fgx) (P:Pl) (H:Hp):D->V->Prop
 |.lst ds,v=>∃a vs,v=.ref a/\bU K H a vs/\aD K P H ds vs
 |d,v=>Is K P H d v
theorem dz.w {K:Fgx}{P:Pl}{d:D}{v:V}(h:dz K P H d v):cj K P H d v:=by
 cases d<;>first |exact h |(obtain⟨a,vs,e,r,q⟩:=h;exact⟨a,vs,e,zgL r,q⟩)
theorem Is.w {K:Fgx}{P:Pl}{d:D}{v:V}(h:Is K P H d v):cj K P H d v:=by
 cases d<;>first |exact h |(obtain⟨a,vs,e,r,q⟩:=h;exact⟨a,vs,e,r.imp (·.2) id,q⟩)
theorem sql (I:Inv X pins σ H s)(h:bU X.K H l xs):xs.length<=sizeLine/\∃its:List Value,Vals xs its/\s.heap.IsList l its.toArray:=by
 obtain⟨its,r,p,z⟩:=I.list h;exact⟨z,its,r,p.isList⟩
mutual
theorem Is.inj (I:Inv X pins σ H s):∀(d e:D) (v:V),cj X.K A H d v->cj X.K B H e v->d.dep<=100->e.dep<=100->d=e
  |.ref _,e,v,h,h',hd,he=>by simp[D.dep]at hd
  |.non,e,v,h,h',hd,he=>by
    have hv:v=.non:=h;subst hv;cases e<;>first |(simp[D.dep]at he;done) |(simp[cj,Is]at h'<;>rfl)
  |.bl b,e,v,h,h',hd,he=>by
    have hv:v=.bl b:=h;subst hv;cases e<;>first |(simp[D.dep]at he;done) |(simp[cj,Is]at h'<;>simp[h'])
  |.int b,e,v,h,h',hd,he=>by
    have hv:v=.int b:=h;subst hv;cases e<;>first |(simp[D.dep]at he;done) |(simp[cj,Is]at h'<;>simp[h'])
  |.str b,e,v,h,h',hd,he=>by
    have hv:v=.str b:=h;subst hv;cases e<;>first |(simp[D.dep]at he;done) |(simp[cj,Is]at h'<;>simp[h'])
  |.tup ds,e,v,h,h',hd,he=>by
    simp only[D.dep]at hd;simp only[cj,Is]at h;obtain⟨a,vs,rfl,t,r⟩:=h
    cases e with
    |tup es=>
      simp only[cj,Is]at h';obtain⟨b,ws,e1,t',r'⟩:=h';cases e1;have e2:=I.tuple_inj t t';subst e2;simp only[D.dep]at he;rw[aD.inj I ds es vs r r' (by omega) (by omega)]
    |lst es=>
      obtain⟨b,ws,e1,t',r'⟩:=h';cases e1;obtain⟨_,its,_,o2,e2,c2,_⟩:=sql I t';obtain⟨its2,_,⟨o,e3,c3,_⟩,_⟩:=I.tuple t;rw[e2]at e3;cases e3;rw[c2]at c3;exact absurd c3 (by simp)
    |ref _=>simp[D.dep]at he
    |_=>simp[cj,Is]at h'
  |.lst ds,e,v,h,h',hd,he=>by
    simp only[D.dep]at hd;obtain⟨a,vs,rfl,t,r⟩:=h
    cases e with
    |lst es=>
      obtain⟨b,ws,e1,t',r'⟩:=h';cases e1;have e2:=I.list_inj (t) (t');subst e2;simp only[D.dep]at he;rw[aD.inj I ds es vs r r' (by omega) (by omega)]
    |tup es=>
      simp only[cj,Is]at h';obtain⟨b,ws,e1,t',r'⟩:=h';cases e1;obtain⟨_,its,_,o2,e2,c2,_⟩:=sql I t;obtain⟨its2,_,⟨o,e3,c3,_⟩,_⟩:=I.tuple t';rw[e2]at e3;cases e3;rw[c2]at c3;exact absurd c3 (by simp)
    |ref _=>simp[D.dep]at he
    |_=>simp[cj,Is]at h'
theorem aD.inj (I:Inv X pins σ H s):∀(ds es:List D) (vs:List V),aD X.K A H ds vs->aD X.K B H es vs->D.deps ds<=100->D.deps es<=100->ds=es
  | [],es,vs,h,h',hd,he=>by
    have hv:vs=[]:=h;subst hv
    cases es with
    |nil=>rfl
    |cons=>simp[aD]at h'
  |d::ds,es,vs,h,h',hd,he=>by
    simp only[D.deps]at hd;obtain⟨v,r,rfl,p,q⟩:=h
    cases es with
    |nil=>simp[aD]at h'
    |cons e es=>
      obtain⟨v',r',e1,p',q'⟩:=h';cases e1;simp only[D.deps]at he;rw[Is.inj I d e v p.w p'.w (by omega) (by omega),aD.inj I ds es r q q' (by omega) (by omega)]
end
mutual
theorem D.eq_refl:∀d:D,D.eq d d=true
 |.non=>rfl
 |.bl b=>by simp[D.eq]
 |.int b=>by simp[D.eq]
 |.str b=>by simp[D.eq]
 |.tup ds=>by simp only[D.eq];exact D.eqs_refl ds
 |.lst ds=>by simp only[D.eq];exact D.eqs_refl ds
 |.ref n=>by simp[D.eq]
theorem D.eqs_refl:∀d:List D,D.eqs d d=true
 | []=>rfl
 |d::ds=>by simp only[D.eqs,D.eq_refl d,D.eqs_refl ds,xdb]
end
theorem D.eqs_len:∀(ds es:List D),ds.length≠es.length->D.eqs ds es=false
  | [],[],h=>absurd rfl h
  | [],_::_,_=>rfl
  |_::_,[],_=>rfl
  |d::ds,e::es,h=>by
    simp only[D.eqs,D.eqs_len ds es (by simpa using h),xcV]
theorem D.eqs_all:∀(ds es:List D),ds.length=es.length->D.eqs ds es=(List.range ds.length).all fun j=>D.eq (ds.getD j .non) (es.getD j .non)
  | [],[],_=>rfl
  |d::ds,e::es,h=>by
    rw[D.eqs,D.eqs_all ds es (by simpa using h),xao,List.range_succ_eq_map,xbz,List.all_map];rfl
mutual
theorem Jl (I:Inv X pins σ H s):∀(d e:D) (v w:V) (u u':Value),cj X.K A H d v->cj X.K B H e w->RelV v u->RelV w u'->Ar.units + d.dep<cLine->d.dep<=100->e.dep<=100->SeqAt.EqAt Ar s u u' (D.eq d e)
  |.ref _,e,v,w,u,u',h1,h2,r1,r2,hu,hd,he=>by simp[D.dep]at hd
  |.non,e,v,w,u,u',h1,h2,r1,r2,hu,hd,he=>by
    have hv:v=.non:=h1;subst hv;cases r1;have hu':Ar.units<cLine:=by omega
    cases e with
    |ref _=>simp[D.dep]at he
    |non=>have hw:w=.non:=h2;subst hw;cases r2;exact xcL _
    |bl b=>have hw:w=.bl b:=h2;subst hw;cases r2;exact SeqAt.EqAt.none_bool _
    |int b=>have hw:w=.int b:=h2;subst hw;obtain⟨t,rfl⟩:=r2;exact SeqAt.EqAt.none_int _ _
    |str b=>have hw:w=.str b:=h2;subst hw;obtain⟨t,rfl⟩:=r2;exact SeqAt.EqAt.none_str _ _
    |tup es=>obtain⟨a,vs,rfl,t,_⟩:=h2;cases r2;obtain⟨its,_,p,_⟩:=I.tuple t;exact SeqAt.EqAt.none_tuple p hu'
    |lst es=>obtain⟨a,vs,rfl,t,_⟩:=h2;cases r2;obtain⟨_,its,_,p⟩:=sql I t;exact SeqAt.EqAt.none_list p hu'
  |.bl x,e,v,w,u,u',h1,h2,r1,r2,hu,hd,he=>by
    have hv:v=.bl x:=h1;subst hv;cases r1;have hu':Ar.units<cLine:=by omega
    cases e with
    |ref _=>simp[D.dep]at he
    |non=>have hw:w=.non:=h2;subst hw;cases r2;exact SeqAt.EqAt.bool_none _
    |bl b=>have hw:w=.bl b:=h2;subst hw;cases r2;exact SeqAt.EqAt.bool_bool _ _
    |int b=>have hw:w=.int b:=h2;subst hw;obtain⟨t,rfl⟩:=r2;exact SeqAt.EqAt.bool_int _ _ _
    |str b=>have hw:w=.str b:=h2;subst hw;obtain⟨t,rfl⟩:=r2;exact SeqAt.EqAt.bool_str _ _ _
    |tup es=>obtain⟨a,vs,rfl,t,_⟩:=h2;cases r2;obtain⟨its,_,p,_⟩:=I.tuple t;exact SeqAt.EqAt.bool_tuple _ p hu'
    |lst es=>obtain⟨a,vs,rfl,t,_⟩:=h2;cases r2;obtain⟨_,its,_,p⟩:=sql I t;exact SeqAt.EqAt.bool_list _ p hu'
  |.int x,e,v,w,u,u',h1,h2,r1,r2,hu,hd,he=>by
    have hv:v=.int x:=h1;subst hv;obtain⟨t0,rfl⟩:=r1;have hu':Ar.units<cLine:=by omega
    cases e with
    |ref _=>simp[D.dep]at he
    |non=>have hw:w=.non:=h2;subst hw;cases r2;exact SeqAt.EqAt.int_none _ _
    |bl b=>have hw:w=.bl b:=h2;subst hw;cases r2;exact SeqAt.EqAt.int_bool _ _ _
    |int b=>have hw:w=.int b:=h2;subst hw;obtain⟨t,rfl⟩:=r2;exact xc3 _ _ _ _
    |str b=>have hw:w=.str b:=h2;subst hw;obtain⟨t,rfl⟩:=r2;exact xcZ _ _ _ _
    |tup es=>obtain⟨a,vs,rfl,t,_⟩:=h2;cases r2;obtain⟨its,_,p,_⟩:=I.tuple t;exact SeqAt.EqAt.int_tuple _ _ p hu'
    |lst es=>obtain⟨a,vs,rfl,t,_⟩:=h2;cases r2;obtain⟨_,its,_,p⟩:=sql I t;exact SeqAt.EqAt.int_list _ _ p hu'
  |.str x,e,v,w,u,u',h1,h2,r1,r2,hu,hd,he=>by
    have hv:v=.str x:=h1;subst hv;obtain⟨t0,rfl⟩:=r1;have hu':Ar.units<cLine:=by omega
    cases e with
    |ref _=>simp[D.dep]at he
    |non=>have hw:w=.non:=h2;subst hw;cases r2;exact SeqAt.EqAt.str_none _ _
    |bl b=>have hw:w=.bl b:=h2;subst hw;cases r2;exact SeqAt.EqAt.str_bool _ _ _
    |int b=>have hw:w=.int b:=h2;subst hw;obtain⟨t,rfl⟩:=r2;exact xc1 _ _ _ _
    |str b=>have hw:w=.str b:=h2;subst hw;obtain⟨t,rfl⟩:=r2;exact xc4 _ _ _ _
    |tup es=>obtain⟨a,vs,rfl,t,_⟩:=h2;cases r2;obtain⟨its,_,p,_⟩:=I.tuple t;exact SeqAt.EqAt.str_tuple _ _ p hu'
    |lst es=>obtain⟨a,vs,rfl,t,_⟩:=h2;cases r2;obtain⟨_,its,_,p⟩:=sql I t;exact SeqAt.EqAt.str_list _ _ p hu'
  |.tup ds,e,v,w,u,u',h1,h2,r1,r2,hu,hd,he=>by
    have h1':=h1;have hd':=hd;simp only[D.dep]at hu hd;have hu':Ar.units<cLine:=by omega
    obtain⟨a,vs,rfl,t,q⟩:=h1;cases r1;obtain⟨its,rv,p,hz⟩:=I.tuple t
    cases e with
    |ref _=>simp[D.dep]at he
    |non=>have hw:w=.non:=h2;subst hw;cases r2;exact SeqAt.EqAt.tuple_none p hu'
    |bl b=>have hw:w=.bl b:=h2;subst hw;cases r2;exact SeqAt.EqAt.tuple_bool _ p hu'
    |int b=>have hw:w=.int b:=h2;subst hw;obtain⟨t,rfl⟩:=r2;exact SeqAt.EqAt.tuple_int _ _ p hu'
    |str b=>have hw:w=.str b:=h2;subst hw;obtain⟨t,rfl⟩:=r2;exact SeqAt.EqAt.tuple_str _ _ p hu'
    |tup es=>
      have h2':=h2;have he':=he;simp only[D.dep]at he;obtain⟨b,ws,rfl,t',q'⟩:=h2;cases r2
      by_cases hab:a=b
      · subst hab;rw[Is.inj I _ _ _ h1' h2' hd' he',D.eq_refl];exact xcL _
      · obtain⟨its',rv',p',hz'⟩:=I.tuple t';refine SeqAt.EqAt.of_refs hab ?_;have l1:its.toArray.size=ds.length:=by rw[xae, <-rv.length,q.len]
        have l2:its'.toArray.size=es.length:=by rw[xae, <-rv'.length,q'.len]
        have key:=SeqAt.RcAt.tuples (A:=Ar) (s:=s) (e:=fun j=>D.eq (ds.getD j .non) (es.getD j .non)) p p' hu' fun j j1 j2=>by
          simpa using wO I ds es vs ws its its' q q' rv rv' (Ar:=Ar.in1) (by show Ar.units + 1 + _<_;omega) (by omega) (by omega) j (by simpa using j1) (by simpa using j2)
        rw[l1,l2]at key
        by_cases hl:ds.length=es.length
        · rw[show D.eq (.tup ds) (.tup es)=D.eqs ds es from rfl,D.eqs_all ds es hl];rw[hl,xd9,xbf,xdW]at key;rw[hl];exact key
        · rw[show D.eq (.tup ds) (.tup es)=D.eqs ds es from rfl,D.eqs_len ds es hl];rw[xaW.mpr hl,xcV]at key;exact key
    |lst es=>obtain⟨b,ws,rfl,t',_⟩:=h2;cases r2;obtain⟨_,its',_,p'⟩:=sql I t';exact SeqAt.EqAt.tuple_list p p' hu'
  |.lst ds,e,v,w,u,u',h1,h2,r1,r2,hu,hd,he=>by
    have h1':=h1;have hd':=hd;simp only[D.dep]at hu hd;have hu':Ar.units<cLine:=by omega
    obtain⟨a,vs,rfl,t,q⟩:=h1;cases r1;obtain⟨hz,its,rv,p⟩:=sql I t
    cases e with
    |ref _=>simp[D.dep]at he
    |non=>have hw:w=.non:=h2;subst hw;cases r2;exact SeqAt.EqAt.list_none p hu'
    |bl b=>have hw:w=.bl b:=h2;subst hw;cases r2;exact SeqAt.EqAt.list_bool _ p hu'
    |int b=>have hw:w=.int b:=h2;subst hw;obtain⟨t,rfl⟩:=r2;exact SeqAt.EqAt.list_int _ _ p hu'
    |str b=>have hw:w=.str b:=h2;subst hw;obtain⟨t,rfl⟩:=r2;exact SeqAt.EqAt.list_str _ _ p hu'
    |tup es=>obtain⟨b,ws,rfl,t',_⟩:=h2;cases r2;obtain⟨its',_,p',_⟩:=I.tuple t';exact SeqAt.EqAt.list_tuple p p' hu'
    |lst es=>
      have h2':=h2;have he':=he;simp only[D.dep]at he;obtain⟨b,ws,rfl,t',q'⟩:=h2;cases r2
      by_cases hab:a=b
      · subst hab;rw[Is.inj I _ _ _ h1' h2' hd' he',D.eq_refl];exact xcL _
      · obtain⟨hz',its',rv',p'⟩:=sql I t';refine SeqAt.EqAt.of_refs hab ?_;have l1:its.toArray.size=ds.length:=by rw[xae, <-rv.length,q.len]
        have l2:its'.toArray.size=es.length:=by rw[xae, <-rv'.length,q'.len]
        by_cases hl:ds.length=es.length
        · have key:=SeqAt.RcAt.lists (A:=Ar) (s:=s) (e:=fun j=>D.eq (ds.getD j .non) (es.getD j .non)) p p' (by rw[l1,l2,hl]) hu' fun j j1 j2=>by
            simpa using wO I ds es vs ws its its' q q' rv rv' (Ar:=Ar.in1) (by show Ar.units + 1 + _<_;omega) (by omega) (by omega) j (by simpa using j1) (by simpa using j2)
          rw[show D.eq (.lst ds) (.lst es)=D.eqs ds es from rfl,D.eqs_all ds es hl];rw[l1]at key;exact key
        · rw[show D.eq (.lst ds) (.lst es)=D.eqs ds es from rfl,D.eqs_len ds es hl];exact xdv p p' (by rw[l1,l2];simpa using hl) hu'
theorem wO (I:Inv X pins σ H s):∀(ds es:List D) (vs ws:List V) (its its':List Value),aD X.K A H ds vs->aD X.K B H es ws->Vals vs its->Vals ws its'->Ar.units + D.deps ds<cLine->D.deps ds<=100->D.deps es<=100->
    ∀(j:Nat) (h1:j<its.length) (h2:j<its'.length),SeqAt.EqAt Ar s its[j] its'[j] (D.eq (ds.getD j .non) (es.getD j .non))
  | [],es,vs,ws,its,its',h,h',r,r',hu,hd,he,j,j1,j2=>by
    have hv:vs=[]:=h;subst hv;cases r;exact absurd j1 (xdH _)
  |d::ds,[],vs,ws,its,its',h,h',r,r',hu,hd,he,j,j1,j2=>by
    have hv:ws=[]:=h';subst hv;cases r';exact absurd j2 (xdH _)
  |d::ds,e::es,vs,ws,its,its',h,h',r,r',hu,hd,he,j,j1,j2=>by
    obtain⟨v,vr,rfl,p,q⟩:=h;obtain⟨w,wr,rfl,p',q'⟩:=h';simp only[D.deps]at hu hd he
    cases r with
    |cons r1 r2=>
      cases r' with
      |cons r1' r2'=>
        cases j with
        |zero=>exact Jl I d e v w _ _ p.w p'.w r1 r1' (by omega) (by omega) (by omega)
        |succ j=>exact wO I ds es vr wr _ _ q q' r2 r2' (by omega) (by omega) (by omega) j (by simpa using j1) (by simpa using j2)
end
theorem VD {d e:D}{A B:Pl}{K:Fgx}{v w:V}(fd:d.flat=true)(fe:e.flat=true)(h1:cj K A H d v)(h2:cj K B H e w):
  (sV v w=true/\D.eq d e=decide (v=w))\/(∃a i,v=.bl a/\w=.int i/\D.eq d e=((if a then 1 else 0)==i))\/∃a i,v=.int i/\w=.bl a/\D.eq d e=(i==(if a then 1 else 0)):=by
 cases d<;>cases e<;>simp only[D.flat,xa5]at fd fe<;>simp only[cj,Is]at h1 h2<;>subst h1 h2<;>simp[sV,D.eq]
 all_goals first |rfl |(rw[xaL];simp)
noncomputable def sG (K:Fgx) (neg:Bool):R2:=fun x y H Q=>∃(A B:Pl) (d e:D),cj K A H d x/\cj K B H e y/\dO d e=true/\d.dep<=50/\Q (.bl (if neg then !D.eq d e else D.eq d e)) H
theorem zdH (hu:X.A.units + 60<cLine):bY X (compareOp .Eq) (sG X.K false):=by
  intro pins s σ H x y v u Q I rx ry h;obtain⟨A,B,d,e,h1,h2,hk,hd,q⟩:=h;have q:Q (.bl (D.eq d e)) H:=q;have fin:SeqAt.RcAt X.A s v u (D.eq d e)->wpAny (model X.prog X.w) X.A (compareOp .Eq v u) (EP X pins σ Q) X.xe s:=fun r=>EqBoolInt.of_rc r ⟨.bl _,H,I,rfl,q⟩;have hu':X.A.units<cLine:=by omega
  cases fd:d.flat with
  |true=>
    simp only[dO,xap,xaS,xbh]at hk;have fe:e.flat=true:=hk.1.symm.trans fd;rcases VD fd fe h1 h2 with⟨sc,eq⟩ |⟨a,i,rfl,rfl,eq⟩ |⟨a,i,rfl,rfl,eq⟩
    · exact zgo pins s σ H x y v u Q I rx ry ⟨sc,by rw[<-eq];exact q⟩
    · cases rx;obtain⟨t,rfl⟩:=ry;exact EqBoolInt.eq_bool_int ⟨.bl _,H,I,rfl,by rw[<-eq];exact q⟩
    · cases ry;obtain⟨t,rfl⟩:=rx;exact EqBoolInt.eq_int_bool ⟨.bl _,H,I,rfl,by rw[<-eq];exact q⟩
  |false=>
    simp only[dO,xap,xaS,xbh]at hk;have he:=hk.2;have fe:e.flat=false:=hk.1.symm.trans fd
    cases d with
    |tup ds=>
      obtain⟨a,vs,rfl,t,p⟩:=h1;cases rx;obtain⟨its,rv,pt,hz⟩:=I.tuple t;simp only[D.dep]at hd
      cases e with
      |tup es=>
        obtain⟨b,ws,rfl,t',p'⟩:=h2;cases ry;obtain⟨its',rv',pt',hz'⟩:=I.tuple t';have l1:its.toArray.size=ds.length:=by rw[xae, <-rv.length,p.len]
        have l2:its'.toArray.size=es.length:=by rw[xae, <-rv'.length,p'.len]
        have key:=SeqAt.RcAt.tuples (A:=X.A) (s:=s) (e:=fun j=>D.eq (ds.getD j .non) (es.getD j .non)) pt pt' hu' fun j j1 j2=>by
          simpa using wO I ds es vs ws its its' p p' rv rv' (Ar:=X.A.in1) (by show X.A.units + 1 + _<_;omega) (by omega) (by simp only[D.dep]at he;omega) j (by simpa using j1) (by simpa using j2)
        rw[l1,l2]at key;refine fin ?_
        by_cases hl:ds.length=es.length
        · rw[show D.eq (.tup ds) (.tup es)=D.eqs ds es from rfl,D.eqs_all ds es hl];rw[hl,xd9,xbf,xdW]at key;rw[hl];exact key
        · rw[show D.eq (.tup ds) (.tup es)=D.eqs ds es from rfl,D.eqs_len ds es hl];rw[xaW.mpr hl,xcV]at key;exact key
      |lst es=>
        obtain⟨b,ws,rfl,t',p'⟩:=h2;cases ry;obtain⟨_,its',rv',e'⟩:=sql I t';exact fin (SeqAt.RcAt.tuple_list pt e' hu')
      |ref _=>simp[D.dep]at he
      |_=>cases fe
    |lst ds=>
      obtain⟨a,vs,rfl,t,p⟩:=h1;cases rx;obtain⟨hz,its,rv,pt⟩:=sql I t;simp only[D.dep]at hd
      cases e with
      |tup es=>
        obtain⟨b,ws,rfl,t',p'⟩:=h2;cases ry;obtain⟨its',rv',pt',hz'⟩:=I.tuple t';exact fin (SeqAt.RcAt.list_tuple pt pt' hu')
      |lst es=>
        obtain⟨b,ws,rfl,t',p'⟩:=h2;cases ry;obtain⟨_,its',rv',pt'⟩:=sql I t';have l1:its.toArray.size=ds.length:=by rw[xae, <-rv.length,p.len]
        have l2:its'.toArray.size=es.length:=by rw[xae, <-rv'.length,p'.len]
        refine fin ?_
        by_cases hl:ds.length=es.length
        · have key:=SeqAt.RcAt.lists (A:=X.A) (s:=s) (e:=fun j=>D.eq (ds.getD j .non) (es.getD j .non)) pt pt' (by rw[l1,l2,hl]) hu' fun j j1 j2=>by
            simpa using wO I ds es vs ws its its' p p' rv rv' (Ar:=X.A.in1) (by show X.A.units + 1 + _<_;omega) (by omega) (by simp only[D.dep]at he;omega) j (by simpa using j1) (by simpa using j2)
          rw[show D.eq (.lst ds) (.lst es)=D.eqs ds es from rfl,D.eqs_all ds es hl];rw[l1]at key;exact key
        · rw[show D.eq (.lst ds) (.lst es)=D.eqs ds es from rfl,D.eqs_len ds es hl];exact xdv pt pt' (by rw[l1,l2];simpa using hl) hu'
      |ref _=>simp[D.dep]at he
      |_=>cases fe
    |ref _=>simp[D.dep]at hd
    |_=>cases fd
theorem zeE (hu:X.A.units + 60<cLine):bY X (compareOp .NotEq) (sG X.K true):=by
  intro pins s σ H x y v u Q I rx ry h;obtain⟨A,B,d,e,h1,h2,hk,hd,q⟩:=h;have q:Q (.bl (!D.eq d e)) H:=q;have fin:SeqAt.RcNeAt X.A s v u (!D.eq d e)->wpAny (model X.prog X.w) X.A (compareOp .NotEq v u) (EP X pins σ Q) X.xe s:=fun r=>EqBoolInt.of_rcne r ⟨.bl _,H,I,rfl,q⟩;have hu':X.A.units<cLine:=by omega
  cases fd:d.flat with
  |true=>
    simp only[dO,xap,xaS,xbh]at hk;have fe:e.flat=true:=hk.1.symm.trans fd;rcases VD fd fe h1 h2 with⟨sc,eq⟩ |⟨a,i,rfl,rfl,eq⟩ |⟨a,i,rfl,rfl,eq⟩
    · exact zgA pins s σ H x y v u Q I rx ry ⟨sc,by rw[<-eq];exact q⟩
    · cases rx;obtain⟨t,rfl⟩:=ry;exact EqBoolInt.ne_bool_int ⟨.bl _,H,I,rfl,by rw[<-eq];exact q⟩
    · cases ry;obtain⟨t,rfl⟩:=rx;exact EqBoolInt.ne_int_bool ⟨.bl _,H,I,rfl,by rw[<-eq];exact q⟩
  |false=>
    simp only[dO,xap,xaS,xbh]at hk;have he:=hk.2;have fe:e.flat=false:=hk.1.symm.trans fd
    cases d with
    |tup ds=>
      obtain⟨a,vs,rfl,t,p⟩:=h1;cases rx;obtain⟨its,rv,pt,hz⟩:=I.tuple t;simp only[D.dep]at hd
      cases e with
      |tup es=>
        obtain⟨b,ws,rfl,t',p'⟩:=h2;cases ry;obtain⟨its',rv',pt',hz'⟩:=I.tuple t';have l1:its.toArray.size=ds.length:=by rw[xae, <-rv.length,p.len]
        have l2:its'.toArray.size=es.length:=by rw[xae, <-rv'.length,p'.len]
        have key:=SeqAt.RcNeAt.tuples (A:=X.A) (s:=s) (e:=fun j=>D.eq (ds.getD j .non) (es.getD j .non)) pt pt' hu' fun j j1 j2=>by
          simpa using wO I ds es vs ws its its' p p' rv rv' (Ar:=X.A.in1) (by show X.A.units + 1 + _<_;omega) (by omega) (by simp only[D.dep]at he;omega) j (by simpa using j1) (by simpa using j2)
        rw[l1,l2]at key;refine fin ?_
        by_cases hl:ds.length=es.length
        · rw[show D.eq (.tup ds) (.tup es)=D.eqs ds es from rfl,D.eqs_all ds es hl];rw[hl,xd9,xbf,xdW]at key;rw[hl];exact key
        · rw[show D.eq (.tup ds) (.tup es)=D.eqs ds es from rfl,D.eqs_len ds es hl];rw[xaW.mpr hl,xcV]at key;exact key
      |lst es=>
        obtain⟨b,ws,rfl,t',p'⟩:=h2;cases ry;obtain⟨_,its',rv',e'⟩:=sql I t';exact fin (SeqAt.RcNeAt.tuple_list pt e' hu')
      |ref _=>simp[D.dep]at he
      |_=>cases fe
    |lst ds=>
      obtain⟨a,vs,rfl,t,p⟩:=h1;cases rx;obtain⟨hz,its,rv,pt⟩:=sql I t;simp only[D.dep]at hd
      cases e with
      |tup es=>
        obtain⟨b,ws,rfl,t',p'⟩:=h2;cases ry;obtain⟨its',rv',pt',hz'⟩:=I.tuple t';exact fin (SeqAt.RcNeAt.list_tuple pt pt' hu')
      |lst es=>
        obtain⟨b,ws,rfl,t',p'⟩:=h2;cases ry;obtain⟨_,its',rv',pt'⟩:=sql I t';have l1:its.toArray.size=ds.length:=by rw[xae, <-rv.length,p.len]
        have l2:its'.toArray.size=es.length:=by rw[xae, <-rv'.length,p'.len]
        refine fin ?_
        by_cases hl:ds.length=es.length
        · have key:=SeqAt.RcNeAt.lists (A:=X.A) (s:=s) (e:=fun j=>D.eq (ds.getD j .non) (es.getD j .non)) pt pt' (by rw[l1,l2,hl]) hu' fun j j1 j2=>by
            simpa using wO I ds es vs ws its its' p p' rv rv' (Ar:=X.A.in1) (by show X.A.units + 1 + _<_;omega) (by omega) (by simp only[D.dep]at he;omega) j (by simpa using j1) (by simpa using j2)
          rw[show D.eq (.lst ds) (.lst es)=D.eqs ds es from rfl,D.eqs_all ds es hl];rw[l1]at key;exact key
        · rw[show D.eq (.lst ds) (.lst es)=D.eqs ds es from rfl,D.eqs_len ds es hl];exact SeqAt.RcNeAt.lists_lengths pt pt' (by rw[l1,l2];simpa using hl) hu'
      |ref _=>simp[D.dep]at he
      |_=>cases fe
    |ref _=>simp[D.dep]at hd
    |_=>cases fd
noncomputable def Ji:Cp->CmpOp
 |.eq=>.Eq
 |.ne=>.NotEq
 |.lt=>.Lt
 |.le=>.LtE
 |.gt=>.Gt
 |.ge=>.GtE
 |.isin=>.In
 |.notin=>.NotIn
 |.same=>.Is
 |.other=>.IsNot
noncomputable def MJ (K:Fgx):Cp->R2
 |.eq=>sG K false
 |.ne=>sG K true
 |.lt=>kY fun i j=>.bl (decide (i<j))
 |.le=>kY fun i j=>.bl (decide (i<=j))
 |.gt=>kY fun i j=>.bl (decide (j<i))
 |.ge=>kY fun i j=>.bl (decide (j<=i))
 |.isin=>fun x y H Q=>(∃i j,x=.str i/\y=.str j/\Q (.bl (!(Builtin.Str.occurrences j i 0 j.length 1).isEmpty)) H)\/Fw K false x y H Q
 |.notin=>fun x y H Q=>(∃i j,x=.str i/\y=.str j/\Q (.bl (!(!(Builtin.Str.occurrences j i 0 j.length 1).isEmpty))) H)\/Fw K true x y H Q
 |.same=>fun x y H Q=>(y=.non/\Q (.bl (decide (x=.non))) H)\/(∃b,y=.bl b/\Q (.bl (decide (x=.bl b))) H)
 |.other=>fun x y H Q=>(y=.non/\Q (.bl (!decide (x=.non))) H)\/(∃b,y=.bl b/\Q (.bl (!decide (x=.bl b))) H)
theorem zW (hu:X.A.units + 60<cLine):∀c:Cp,bY X (compareOp (Ji c)) (MJ X.K c)
 |.eq=>zdH hu
 |.ne=>zeE hu
 |.lt=>zgN
 |.le=>zfz
 |.gt=>zfE
 |.ge=>zgg
 |.isin=>zbk.or zbt
 |.notin=>zaG.or zaB
 |.same=>zet.or zfp
 |.other=>zde.or zbw
theorem z7 {K:Fgx}{A:Pl}{d:D}{v:V}(f:d.flat=true)(h:Is K A H d v):pA v=true:=by
 cases d<;>simp only[D.flat,xa5]at f<;>simp only[Is]at h<;>subst h<;>rfl
theorem Jm {K:Fgx}{A B:Pl}{d e:D}{v w:V}(f:d.flat=true)(g:e.flat=true)(h:Is K A H d v)(h':Is K B H e w):rz v w=D.eq d e:=by
 cases d<;>cases e<;>simp only[D.flat,xa5]at f g<;>simp only[Is]at h h'<;>subst h h'<;>rfl
theorem z8 {K:Fgx}{A:Pl}:∀{ds:List D} {vs:List V},ds.all D.flat=true->aD K A H ds vs->vs.all pA=true
  | [],_,_,h=>by rw[show _=[] from h];rfl
  |d::ds,_,f,h=>by
    obtain⟨v,r,rfl,p,q⟩:=h;rw[xbz,xap]at f;rw[xbz,z7 f.1 p,z8 f.2 q];rfl
theorem m8 {K:Fgx}{A B:Pl}{e:D}{w:V}(g:e.flat=true)(h':Is K B H e w):∀{ds:List D} {vs:List V},ds.all D.flat=true->aD K A H ds vs->inV w vs=ds.any fun y=>D.eq y e
  | [],_,_,h=>by rw[show _=[] from h];rfl
  |d::ds,_,f,h=>by
    obtain⟨v,r,rfl,p,q⟩:=h;rw[xbz,xap]at f;have:=m8 g h' f.2 q;unfold inV at this ⊢;rw[xbZ,xbZ,this,Jm f.1 g p h']
theorem Ye {K:Fgx}{A B:Pl}{c:Cp}{d e:D}{v w:V}{b:Bool}{Q:VK}(h:cQ c d e=some b)(h1:cj K A H d v)(h2:cj K B H e w)(q:Q (.bl b) H):MJ K c v w H Q:=by
  cases c
  case eq=>
    simp only[cQ,yt,pZ]at h;split at h
    · rename_i hc;cases h;exact⟨A,B,d,e,h1,h2,hc.1,hc.2,q⟩
    · cases h
  case ne=>
    simp only[cQ,yt,pZ]at h;split at h
    · rename_i hc;cases h;exact⟨A,B,d,e,h1,h2,hc.1,hc.2,q⟩
    · cases h
  case isin=>
    cases e with
    |str j=>
      cases d<;>simp only[cQ,dN,pY,gb,tV,tU,reduceCtorEq]at h
      simp only[cj,Is]at h1 h2;subst h1 h2;cases h;exact .inl ⟨_,_,rfl,rfl,q⟩
    |lst xs=>
      have h':(if (d.flat && xs.all D.flat)=true then some (xs.any fun y=>D.eq y d) else none)=some b:=by cases d<;>exact h
      split at h'
      · rename_i hc;rw[xap]at hc;cases h';obtain⟨a,vs,rfl,t,p⟩:=h2;have h1':Is K A H d v:=by cases d<;>first |exact h1 |cases hc.1
        refine .inr ⟨a,vs,rfl,.inl (t),z7 hc.1 h1',z8 hc.2 p,?_⟩;rw[m8 hc.1 h1' hc.2 p];exact q
      · cases h'
    |tup xs=>
      have h':(if (d.flat && xs.all D.flat)=true then some (xs.any fun y=>D.eq y d) else none)=some b:=by cases d<;>exact h
      split at h'
      · rename_i hc;rw[xap]at hc;cases h';obtain⟨a,vs,rfl,t,p⟩:=h2;have h1':Is K A H d v:=by cases d<;>first |exact h1 |cases hc.1
        refine .inr ⟨a,vs,rfl,.inr t,z7 hc.1 h1',z8 hc.2 p,?_⟩;rw[m8 hc.1 h1' hc.2 p];exact q
      · cases h'
    |_=>cases d<;>simp only[cQ,dN,pY,gb,tV,tU,reduceCtorEq]at h
  case notin=>
    cases e with
    |str j=>
      cases d<;>simp only[cQ,dN,pY,gb,tV,tU,reduceCtorEq]at h
      simp only[cj,Is]at h1 h2;subst h1 h2;cases h;exact .inl ⟨_,_,rfl,rfl,q⟩
    |lst xs=>
      have h':(if (d.flat && xs.all D.flat)=true then some (!xs.any fun y=>D.eq y d) else none)=some b:=by cases d<;>exact h
      split at h'
      · rename_i hc;rw[xap]at hc;cases h';obtain⟨a,vs,rfl,t,p⟩:=h2;have h1':Is K A H d v:=by cases d<;>first |exact h1 |cases hc.1
        refine .inr ⟨a,vs,rfl,.inl (t),z7 hc.1 h1',z8 hc.2 p,?_⟩;rw[m8 hc.1 h1' hc.2 p];exact q
      · cases h'
    |tup xs=>
      have h':(if (d.flat && xs.all D.flat)=true then some (!xs.any fun y=>D.eq y d) else none)=some b:=by cases d<;>exact h
      split at h'
      · rename_i hc;rw[xap]at hc;cases h';obtain⟨a,vs,rfl,t,p⟩:=h2;have h1':Is K A H d v:=by cases d<;>first |exact h1 |cases hc.1
        refine .inr ⟨a,vs,rfl,.inr t,z7 hc.1 h1',z8 hc.2 p,?_⟩;rw[m8 hc.1 h1' hc.2 p];exact q
      · cases h'
    |_=>cases d<;>simp only[cQ,dN,pY,gb,tV,tU,reduceCtorEq]at h
  case same=>
    cases d<;>cases e<;>simp only[cQ,dN,pY,gb,tV,tU,reduceCtorEq]at h<;>cases h<;>simp only[cj,Is]at h1 h2
    all_goals first
      |(subst h1 h2;first |exact .inr ⟨_,rfl,by rw[DW];exact q⟩ |exact .inl ⟨rfl,by simpa using q⟩ |exact .inr ⟨_,rfl,by simpa using q⟩)
      |(obtain⟨a,vs,rfl,_⟩:=h1;subst h2;first |exact .inl ⟨rfl,by simpa using q⟩ |exact .inr ⟨_,rfl,by simpa using q⟩)
  case other=>
    cases d<;>cases e<;>simp only[cQ,dN,pY,gb,tV,tU,reduceCtorEq]at h<;>cases h<;>simp only[cj,Is]at h1 h2
    all_goals first
      |(subst h1 h2;first |exact .inr ⟨_,rfl,by rw[DW];exact q⟩ |exact .inl ⟨rfl,by simpa using q⟩ |exact .inr ⟨_,rfl,by simpa using q⟩)
      |(obtain⟨a,vs,rfl,_⟩:=h1;subst h2;first |exact .inl ⟨rfl,by simpa using q⟩ |exact .inr ⟨_,rfl,by simpa using q⟩)
  all_goals
    cases d<;>cases e<;>simp only[cQ,dN,pY,gb,tV,tU,reduceCtorEq]at h
    simp only[cj,Is]at h1 h2;subst h1 h2;cases h;exact⟨_,_,rfl,rfl,q⟩
end
inductive Mode where
 |val |bor
def Dh (mg:Mgx)(H:Hp)(c:Str)(n:Int)(v:V):Prop:=∃a C dx,v=.ref a/\mg c=some (.ref C)/\H a=some (xo a C dx false)/\
 match dx with
 |none=>n=0
 |some d=>∃fs,H d=some (.xd fs)/\fs.lookup ("at":Str)=some (.int (n - 1))/\n≠0
theorem Dh.lt (l:Lt P H P' H')(h:Dh mg H c n v):Dh mg H' c n v:=by
  obtain⟨a,C,dx,e,m,ea,q⟩:=h;refine⟨a,C,dx,e,m,l.keep _ _ ea (.inl (.inr (.inr (.inl ⟨_,rfl⟩)))),?_⟩
  cases dx with
  |none=>exact q
  |some d=>
    obtain⟨fs,ed,el⟩:=q;exact⟨fs,l.keep _ _ ed (.inl (.inr (.inr (.inr ⟨_,rfl⟩)))),el⟩
noncomputable def PB (K:Fgx) (mg:Mgx) (P:Pl) (H:Hp) (o:Option Addr) (sv:Option V):Slot->Prop
 |.un=>True
 |.val d=>∃v,sv=some v/\Is K P H d v
 |.own ds=>∃a vs,o=some a/\sv=some (.ref a)/\H a=some (.lst vs)/\aD K P H ds vs
 |.exc c n=>∃v,sv=some v/\Dh mg H c n v
structure Ok (K:Fgx)(mg:Mgx)(P0:Pl)(H0:Hp)(P:Pl)(O:List (Option Addr))(H:Hp)(M:Mm)(st:L2.St)(env:Env):Prop where
 hk:Hk K mg P H M
 base:LtE P0 H0 P H
 b0:∀a,P0.bd a->H0 a≠none
 slot:∀(i:Nat) s,env[i]? =some s->PB K mg P H (O[i]?).join (st[i]?).join s
 own:∀a,some a∈O->P.bd a/\(∀k,k<P.n->P.io k≠a)/\H0 a=none
 inj:∀(i j:Nat) a,O[i]? =some (some a)->O[j]? =some (some a)->i=j
 olen:O.length=env.length
 slen:st.length=env.length
def cO (K:Fgx)(P:Pl)(H:Hp)(m:Mode)(d:D)(v:V):Prop:=match m with
 |.val=>Is K P H d v
 |.bor=>dz K P H d v
inductive Res where
 |v (d:D) |x (c:Str) (n:Int)
abbrev O:=Option (Res×Mm)
abbrev E:=Env->Mm->O
noncomputable def bnd (o:O) (k:D->Mm->O):O:=match o with
 |some (.v d,M)=>k d M
 |some (.x c n,M)=>some (.x c n,M)
 |none=>none
theorem cA (h:bnd o k=some (r,M')):(∃d M,o=some (.v d,M)/\k d M=some (r,M'))\/∃c n,o=some (.x c n,M')/\r=.x c n:=by
 unfold bnd at h;split at h
 ·exact .inl ⟨_,_,rfl,h⟩
 ·cases h;exact .inr ⟨_,_,rfl,rfl⟩
 ·cases h
abbrev XW:=Pl->Hp->Mm->Str->Int->Prop
section
variable {K:Fgx}{mg:Mgx}{P0 P P':Pl}{H0 H H':Hp}{M M':Mm}{Os:List (Option Addr)}{st:L2.St}{env:Env}{d:D}{v:V}{m:Mode}
theorem Is.b (h:Hk K mg P H M)(i:Is K P H d v):dz K P H d v:=by
  cases d with
  |lst ds=>
    obtain⟨a,vs,e,r,q⟩:=i;exact⟨a,vs,e,r.imp (fun⟨n,r⟩=>⟨fun k hk z=>n (z ▸ h.bd k hk),r⟩) id,q⟩
  |_=>exact i
theorem cO.of (h:Hk K mg P H M)(i:Is K P H d v):cO K P H m d v:=by
 cases m with
 |val=>exact i
 |bor=>exact i.b h
theorem cO.b (h:Hk K mg P H M)(i:cO K P H m d v):dz K P H d v:=by
 cases m with
 |val=>exact Is.b h i
 |bor=>exact i
theorem LtE.nc (l:LtE P H P' H')(e:H a=some o)(n:∀k,k<P.n->P.io k≠a):∀k,k<P'.n->P'.io k≠a:=fun k hk z=>by
 rcases xa4 k P.n with q |q
 ·rw[l.io k q]at z;exact n k q z
 ·rw[<-z,l.nw k q hk]at e;cases e
theorem dz.lt (l:LtE P H P' H')(h:Hk K mg P H M)(i:dz K P H d v):dz K P' H' d v:=by
  cases d with
  |lst ds=>
    obtain⟨a,vs,e,r,q⟩:=i;refine⟨a,vs,e,r.imp (fun⟨n,r⟩=>?_) id,aD.lt (l.lt h) q⟩;obtain⟨o,eo⟩:=Uo r;refine⟨l.nc eo n,?_⟩;rcases r with r |⟨o',r⟩
    · exact .inl (l.keep _ _ r (.inr n))
    · exact .inr ⟨o',l.keep _ _ r (.inr n)⟩
  |_=>exact Is.lt (l.lt h) i
theorem Ok.next (k:Ok K mg P0 H0 P Os H M st env)(l:LtE P H P' H')(h:Hk K mg P' H' M'):Ok K mg P0 H0 P' Os H' M' st env where
  hk:=h
  base:=k.base.trans l
  b0:=k.b0
  slot:=fun i s e=>by
    have q:=k.slot i s e
    cases s with
    |un=>exact True.intro
    |val d=>
      obtain⟨v,e1,q⟩:=q;exact⟨v,e1,Is.lt (l.lt k.hk) q⟩
    |own ds=>
      obtain ⟨a, vs, e1, e2, e3, q⟩ := q;have ho := k.own a (by
        cases hx:Os[i]? with
        |none=>rw[hx]at e1;cases e1
        |some o=>rw[hx]at e1;cases o with
          |none=>cases e1
          |some b=>cases e1;exact xaC hx)
      exact⟨a,vs,e1,e2,l.keep _ _ e3 (.inr ho.2.1),aD.lt (l.lt k.hk) q⟩
    |exc c n=>
      obtain⟨v,e1,q⟩:=q;exact⟨v,e1,q.lt (l.lt k.hk)⟩
  own:=fun a z=>by
    have ho:=k.own a z;refine⟨l.bm a ho.1,?_,ho.2.2⟩;obtain⟨o,eo⟩:∃o,H a=some o:=by
      cases e:H a with
      |none=>exact absurd e (k.hk.here a ho.1)
      |some o=>exact⟨o,rfl⟩
    exact l.nc eo ho.2.1
  inj:=k.inj
  olen:=k.olen
  slen:=k.slen
theorem Hk.same (h:Hk K mg P H M)(s:Same H H'):Hk K mg P H' M:=by
  have l:Lt P H P H':=(LtE.same s).lt h;refine⟨h.n,fun k c e=>?_,h.inj,h.bd,fun a z q=>h.here a z (s.free q)⟩;have:=h.cell k c e
  cases c with
  |lst ds=>
    obtain⟨vs,e1,q⟩:=this;exact⟨vs,s _ _ e1,aD.lt l q⟩
  |obj c fs=>
    obtain⟨C,dx,gs,e1,e2,e3,q⟩:=this;exact⟨C,dx,gs,e1,s _ _ e2,e3,aD.lt l q⟩
  |dct kvs=>
    obtain⟨vs,e1,e2,q⟩:=this;exact⟨vs,s _ _ e1,e2,aD.lt l q⟩
  |dcf kvs=>
    obtain⟨vs,ob,es,ep,e1,eD,e2,q⟩:=this;exact⟨vs,ob,es,ep,s _ _ e1,eD,e2,aD.lt l q⟩
  |fn i caps=>exact iB.up this l.frz fun _ _ q=>aD.lt l q
  |tbl nm i=>exact pO.up this (fun _ e=>s _ _ e) l.frz
end
noncomputable def RQ (K:Fgx) (mg:Mgx) (Wx:XW) (m:Mode) (P0:Pl) (H0:Hp) (P:Pl) (H:Hp) (M':Mm) (Q:VK):Res->Prop
 |.v d=>∀P' v H',LtE P H P' H'->Hk K mg P' H' M'->cO K P' H' m d v->Q v H'
 |.x c n=>Wx P0 H0 M' c n
theorem cB (h:PE X e t)(i:∀st H Q,t' st H Q->t st H Q):PE X e t':=fun pins s σ H Q I z=>h pins s σ H Q I (i _ _ _ z)
noncomputable def tE (K:Fgx) (mg:Mgx) (Wx:XW) (m:Mode) (f:E):TE:=fun st H Q=>∃P0 H0 P Os env M r M',Ok K mg P0 H0 P Os H M st env/\f env M=some (r,M')/\RQ K mg Wx m P0 H0 P H M' Q r
structure Fit (X:Cx)(Wx:XW):Prop where
 calm:X.calm=true
 room:X.A.units + 60<cLine
section
variable {X:Cx}{Wx:XW}{m:Mode}
def SE (X:Cx)(Wx:XW)(m:Mode)(e:Expr)(f:E):Prop:=PE X e (tE X.K X.mg Wx m f)
theorem SE.bor (h : SE X Wx .val e f) : SE X Wx m e f := cB h fun st H Q ⟨P0, H0, P, Os, env, M, r, M', k, e, q⟩ => ⟨P0,H0,P,Os,env,M,r,M',k,e,by
 cases r with
 |v d=>exact fun P' v H' l h i=>q P' v H' l h (cO.of h i)
 |x c n=>exact q⟩
theorem aV {f:E}{K:Fgx}{mg:Mgx}{P0 P:Pl}{H0 H:Hp}{Os:List (Option Addr)}{M M':Mm}{st:L2.St}{env:Env}{r:Res}{Q:VK}(k:Ok K mg P0 H0 P Os H M st env)(e:f env M=some (r,M'))
  (q:RQ K mg Wx m P0 H0 P H M' Q r):tE K mg Wx m f st H Q:=⟨P0,H0,P,Os,env,M,r,M',k,e,q⟩
noncomputable def aj (i:Nat):E:=fun env M=>match env[i]? with
 |some (.val d)=>some (.v d,M)
 |_=>none
def ao (d:D):E:=fun _ M=>some (.v d,M)
theorem uc {α:Type}{l:List (Option α)}{i:Nat}{a:α}(h:(l[i]?).join=some a):l[i]? =some (some a):=by
  cases e:l[i]? with
  |none=>rw[e]at h;cases h
  |some o=>rw[e]at h;cases o with
    |none=>cases h
    |some b=>cases h;rfl
theorem V1 {i:Nat}{x:Str}{pos:Pos}(hN:X.N[i]? =some x)(hv:yp X.env.scope x)(hd:(x==("__debug__":Str))=false:=by x_go)(hcd:(x==("__classdict__":Str))=false:=by x_go):SE X Wx .val (.Name x pos) (aj i):=by
 refine cB (Fb hN hv hd hcd) ?_;rintro st H Q ⟨P0,H0,P,Os,env,M,r,M',k,e,q⟩;unfold aj at e;split at e
 ·rename_i d hs;cases e;obtain⟨v,e1,i1⟩:=k.slot i _ hs;exact⟨v,uc e1,q P v H (LtE.refl P H) k.hk i1⟩
 ·cases e
theorem Gz (h:PE X e (tC v))(hd:∀P H,Is X.K P H d v):SE X Wx .val e (ao d):=by
 refine cB h ?_;rintro st H Q ⟨P0,H0,P,Os,env,M,r,M',k,e,q⟩;cases e;exact q P v H (LtE.refl P H) k.hk (hd P H)
noncomputable def vw (M:Mm) (d:D):D:=match d with
  | .ref k => (match M[k]? with
    |some (.lst ds)=>.lst ds
    |_=>.ref k)
  |d=>d
theorem dz.vw {K:Fgx}{mg:Mgx}{P:Pl}{H:Hp}{M:Mm}{d:D}{v:V}(h:Hk K mg P H M)(i:dz K P H d v):cj K P H (vw M d) v:=by
  cases d with
  |ref k=>
    unfold E3.vw;dsimp only
    split
    · rename_i ds e;obtain⟨i1,i2⟩:k<P.n/\v=.ref (P.io k):=i;obtain⟨vs,e1,q⟩:=h.cell k _ e;exact⟨_,vs,i2,.inl (.inl e1),q⟩
    · exact i
  |lst ds=>exact i.w
  |_=>exact i
noncomputable def s1 (o:D->Option D) (f:E):E:=fun env M=>bnd (f env M) fun d M1=>(o (vw M1 d)).map fun z=>(.v z,M1)
noncomputable def s2 (o:D->D->Option D) (f g:E):E:=fun env M=>bnd (f env M) fun d M1=>bnd (g env M1) fun e M2=>(o (vw M2 d) (vw M2 e)).map fun z=>(.v z,M2)
def jj (K:Fgx)(r:R2)(o:D->D->Option D):Prop:=∀(P:Pl) (H:Hp) (d e z:D) (v w:V) (Q:VK),o d e=some z->cj K P H d v->cj K P H e w->(∀p,H p=none->¬ P.bd p)->(∀u H',Same H H'->Is K P H' z u->Q u H')->r v w H Q
def Hv (K:Fgx)(r:V->Hp->VK->Prop)(o:D->Option D):Prop:=∀(P:Pl) (H:Hp) (d z:D) (v:V) (Q:VK),o d=some z->cj K P H d v->(∀p,H p=none->¬ P.bd p)->(∀u H',Same H H'->Is K P H' z u->Q u H')->r v H Q
theorem Hk.new {K:Fgx}{mg:Mgx}{P:Pl}{H:Hp}{M:Mm}(h:Hk K mg P H M):∀p,H p=none->¬ P.bd p:=fun p hp z=>h.here p z hp
theorem G3 {f g:E}{o:D->D->Option D}{r:R2}{st:L2.St}{H:Hp}{Q:VK}(po:jj X.K r o)(h:tE X.K X.mg Wx m (s2 o f g) st H Q):CK r (tE X.K X.mg Wx .bor f) (tE X.K X.mg Wx .bor g) st H Q:=by
 obtain⟨P0,H0,P,Os,env,M,rr,M',k,e,q⟩:=h;unfold s2 at e;rcases cA e with⟨d,M1,e1,e⟩ |⟨c,n,e1,rfl⟩
 ·refine aV k e1 fun P1 v1 H1 l1 h1 i1=>?_;have k1:=k.next l1 h1
  rcases cA e with⟨d2,M2,e2,e⟩ |⟨c,n,e2,rfl⟩
  ·refine aV k1 e2 fun P2 v2 H2 l2 h2 i2=>?_;rw[xac]at e;obtain⟨z,ez,e⟩:=e;cases e;exact po P2 H2 _ _ z v1 v2 Q ez (dz.vw h2 (dz.lt l2 h1 i1)) (dz.vw h2 i2) h2.new fun u H' s i=>q P2 u H' (l1.trans (l2.trans (LtE.same s))) (h2.same s) (cO.of (h2.same s) i)
  ·exact aV k1 e2 q
 ·exact aV k e1 q
theorem zga {f:E}{o:D->Option D}{r:V->Hp->VK->Prop}{st:L2.St}{H:Hp}{Q:VK}(po:Hv X.K r o)(h:tE X.K X.mg Wx m (s1 o f) st H Q):WD r (tE X.K X.mg Wx .bor f) st H Q:=by
 obtain⟨P0,H0,P,Os,env,M,rr,M',k,e,q⟩:=h;unfold s1 at e;rcases cA e with⟨d,M1,e1,e⟩ |⟨c,n,e1,rfl⟩
 ·refine aV k e1 fun P1 v1 H1 l1 h1 i1=>?_;rw[xac]at e;obtain⟨z,ez,e⟩:=e;cases e;exact po P1 H1 _ z v1 Q ez (dz.vw h1 i1) h1.new fun u H' s i=>q P1 u H' (l1.trans (LtE.same s)) (h1.same s) (cO.of (h1.same s) i)
 ·exact aV k e1 q
theorem bA (ho:bY X (binaryOp op) r)(po:jj X.K r o)(ha:SE X Wx .bor a f)(hb:SE X Wx .bor b g):SE X Wx m (.BinOp a op b pos) (s2 o f g):=
 cB (T4 ho ha hb) fun _ _ _ h=>G3 po h
theorem VJ (ho:bY X (compareOp op) r)(po:jj X.K r o)(ha:SE X Wx .bor a f)(hb:SE X Wx .bor b g)(hm:behindInMarks op b=false:=by rfl):SE X Wx m (.Compare a [op] [b] pos) (s2 o f g):=
 cB (zcW ho ha hb hm) fun _ _ _ h=>G3 po h
theorem zfY (ho:nZ X r)(po:jj X.K r o)(ha:SE X Wx .bor a f)(hb:SE X Wx .bor b g)(hs:Hu b:=by exact fun _ _=>rfl):SE X Wx m (.Subscript a b pos) (s2 o f g):=
 cB (zfJ ho ha hb hs) fun _ _ _ h=>G3 po h
noncomputable def TQ (K:Fgx) (mg:Mgx) (Wx:XW) (P0:Pl) (H0:Hp) (P:Pl) (H:Hp) (M':Mm) (Q:Bool->Hp->Prop):Res->Prop
 |.v d=>∃b,d=.bl b/\∀P' H',LtE P H P' H'->Hk K mg P' H' M'->Q b H'
 |.x c n=>Wx P0 H0 M' c n
noncomputable def tu (K:Fgx) (mg:Mgx) (Wx:XW) (f:E):TT:=fun st H Q=>∃P0 H0 P Os env M r M',Ok K mg P0 H0 P Os H M st env/\f env M=some (r,M')/\TQ K mg Wx P0 H0 P H M' Q r
def ST (X:Cx)(Wx:XW)(e:Expr)(f:E):Prop:=PT X e (tu X.K X.mg Wx f)
theorem Fi (h:PT X e t)(i:∀st H Q,t' st H Q->t st H Q):PT X e t':=fun pins s σ H Q I z=>h pins s σ H Q I (i _ _ _ z)
theorem gF {f:E}{K:Fgx}{mg:Mgx}{P0 P:Pl}{H0 H:Hp}{Os:List (Option Addr)}{M M':Mm}{st:L2.St}{env:Env}{r:Res}{Q:Bool->Hp->Prop}(k:Ok K mg P0 H0 P Os H M st env)(e:f env M=some (r,M'))
  (q:TQ K mg Wx P0 H0 P H M' Q r):tu K mg Wx f st H Q:=⟨P0,H0,P,Os,env,M,r,M',k,e,q⟩
theorem WY {f:E}{st:L2.St}{H:Hp}{Q:Bool->Hp->Prop}(h:tu X.K X.mg Wx f st H Q):Wz (tE X.K X.mg Wx .val f) st H Q:=by
  obtain⟨P0,H0,P,Os,env,M,r,M',k,e,q⟩:=h;refine aV k e ?_
  cases r with
  |v d=>
    obtain⟨b,rfl,q⟩:=q;exact fun P' v H' l h i=>⟨b,i,q P' H' l h⟩
  |x c n=>exact q
theorem Oo (ho:bY X (compareOp op) r)(po:jj X.K r o)(ha:SE X Wx .bor a f)(hb:SE X Wx .bor b g)(hm:behindInMarks op b=false:=by rfl):ST X Wx (.Compare a [op] [b] pos) (s2 o f g):=
 Fi (zcD ho ha hb hm) fun _ _ _ h=>G3 po (WY h)
noncomputable def gA:D->Option Bool
 |.non=>some false
 |.bl b=>some b
 |.int i=>some (i !=0)
 |.str s=>if s.length<=sizeLine then some ((s.length:Int) !=0) else none
 |.lst ds=>some (!ds.isEmpty)
 |.tup ds=>some (!ds.isEmpty)
 |.ref _=>none
def cD (f:E):E:=s1 (fun d=>(gA d).map .bl) f
noncomputable def cU (f:E):E:=fun env M=>bnd (f env M) fun d M1=>match d with
 |.bl b=>some (.v (.bl (!b)),M1)
 |_=>none
noncomputable def dF (f g:E):E:=fun env M=>bnd (f env M) fun d M1=>match d with
 |.bl b=>if b=true then g env M1 else some (.v (.bl false),M1)
 |_=>none
noncomputable def fM (f g:E):E:=fun env M=>bnd (f env M) fun d M1=>match d with
 |.bl b=>if b=true then some (.v (.bl true),M1) else g env M1
 |_=>none
noncomputable def nA (c f g:E):E:=fun env M=>bnd (c env M) fun d M1=>match d with
 |.bl b=>if b=true then f env M1 else g env M1
 |_=>none
def SW (X:Cx)(Wx:XW)(e:Expr)(f:E):Prop:=PW X e (tu X.K X.mg Wx f)
theorem Uc (h:PW X e t)(i:∀st H Q,t' st H Q->t st H Q):PW X e t':=fun wh pins s σ H Q I z=>h wh pins s σ H Q I (i _ _ _ z)
theorem mK (ha:ST X Wx a f):ST X Wx (.UnaryOp .Not a pos) (cU f):=by
 refine Fi (zdG ha) ?_;rintro st H Q ⟨P0,H0,P,Os,env,M,r,M',k,e,q⟩;unfold cU at e;rcases cA e with⟨d,M1,e1,e⟩ |⟨c,n,e1,rfl⟩
 ·cases d<;>simp only[reduceCtorEq]at e
  cases e;obtain⟨b,e2,q⟩:=q;cases e2;exact gF k e1 ⟨_,rfl,q⟩
 ·exact gF k e1 q
theorem zc3 (ha:ST X Wx a f):SW X Wx (.BoolOp .And [a] pos) f:=zdh ha
theorem wK (ha:ST X Wx a f):SW X Wx (.BoolOp .Or [a] pos) f:=zfa ha
theorem Wt (ha:ST X Wx a f)(hb:SW X Wx (.BoolOp .And (b::rest) pos) g):SW X Wx (.BoolOp .And (a::b::rest) pos) (dF f g):=by
  refine Uc (ze3 ha hb) ?_;rintro st H Q ⟨P0,H0,P,Os,env,M,r,M',k,e,q⟩;unfold dF at e;rcases cA e with⟨d,M1,e1,e⟩ |⟨c,n,e1,rfl⟩
  · cases d<;>simp only[reduceCtorEq]at e
    rename_i b;refine gF k e1 ⟨b,rfl,fun P1 H1 l1 h1=>?_⟩
    cases b with
    |true=>
      rw[xab rfl]at e ⊢;refine gF (k.next l1 h1) e ?_
      cases r with
      |v d=>obtain⟨b,e2,q⟩:=q;exact⟨b,e2,fun P' H' l h=>q P' H' (l1.trans l) h⟩
      |x c n=>exact q
    |false=>
      rw[xad (by decide)]at e ⊢;cases e;obtain⟨b,e2,q⟩:=q;cases e2;exact q P1 H1 l1 h1
  · exact gF k e1 q
theorem nU (ha:ST X Wx a f)(hb:SW X Wx (.BoolOp .Or (b::rest) pos) g):SW X Wx (.BoolOp .Or (a::b::rest) pos) (fM f g):=by
  refine Uc (zgM ha hb) ?_;rintro st H Q ⟨P0,H0,P,Os,env,M,r,M',k,e,q⟩;unfold fM at e;rcases cA e with⟨d,M1,e1,e⟩ |⟨c,n,e1,rfl⟩
  · cases d<;>simp only[reduceCtorEq]at e
    rename_i b;refine gF k e1 ⟨b,rfl,fun P1 H1 l1 h1=>?_⟩
    cases b with
    |false=>
      rw[xad (by decide)]at e ⊢;refine gF (k.next l1 h1) e ?_
      cases r with
      |v d=>obtain⟨b,e2,q⟩:=q;exact⟨b,e2,fun P' H' l h=>q P' H' (l1.trans l) h⟩
      |x c n=>exact q
    |true=>
      rw[xab rfl]at e ⊢;cases e;obtain⟨b,e2,q⟩:=q;cases e2;exact q P1 H1 l1 h1
  · exact gF k e1 q
theorem SW.st (h:SW X Wx e f):ST X Wx e f:=h.pt
end
section
variable {X:Cx}{Wx:XW}{m:Mode}
theorem RQ.imp {K:Fgx}{mg:Mgx}{P0 P P1:Pl}{H0 H H1:Hp}{M':Mm}{Q:VK}{r:Res}(l:LtE P H P1 H1)(q:RQ K mg Wx m P0 H0 P H M' Q r):RQ K mg Wx m P0 H0 P1 H1 M' Q r:=by
 cases r with
 |v d=>exact fun P' v H' l' h i=>q P' v H' (l.trans l') h i
 |x c n=>exact q
theorem wF (ha:SE X Wx m a f):SE X Wx m (.BoolOp op [a] pos) f:=zeZ ha
theorem Cg (ha:SE X Wx .val a f)(hb:SE X Wx m (.BoolOp .And (b::rest) pos) g):SE X Wx m (.BoolOp .And (a::b::rest) pos) (dF f g):=by
  refine cB (zd7 ha hb) ?_;rintro st H Q ⟨P0,H0,P,Os,env,M,r,M',k,e,q⟩;unfold dF at e;rcases cA e with⟨d,M1,e1,e⟩ |⟨c,n,e1,rfl⟩
  · cases d<;>simp only[reduceCtorEq]at e
    rename_i b;refine aV k e1 fun P1 v1 H1 l1 h1 i1=>⟨b,i1,?_⟩
    cases b with
    |true=>
      rw[xab rfl]at e ⊢;exact aV (k.next l1 h1) e (RQ.imp l1 q)
    |false=>
      rw[xad (by decide)]at e ⊢;cases e;exact q P1 _ H1 l1 h1 (cO.of h1 (show Is _ _ _ (.bl false) _ from rfl))
  · exact aV k e1 q
theorem N8 (ha:SE X Wx .val a f)(hb:SE X Wx m (.BoolOp .Or (b::rest) pos) g):SE X Wx m (.BoolOp .Or (a::b::rest) pos) (fM f g):=by
  refine cB (zgP ha hb) ?_;rintro st H Q ⟨P0,H0,P,Os,env,M,r,M',k,e,q⟩;unfold fM at e;rcases cA e with⟨d,M1,e1,e⟩ |⟨c,n,e1,rfl⟩
  · cases d<;>simp only[reduceCtorEq]at e
    rename_i b;refine aV k e1 fun P1 v1 H1 l1 h1 i1=>⟨b,i1,?_⟩
    cases b with
    |false=>
      rw[xad (by decide)]at e ⊢;exact aV (k.next l1 h1) e (RQ.imp l1 q)
    |true=>
      rw[xab rfl]at e ⊢;cases e;exact q P1 _ H1 l1 h1 (cO.of h1 (show Is _ _ _ (.bl true) _ from rfl))
  · exact aV k e1 q
theorem VN (hc:ST X Wx c t)(ha:SE X Wx m a f)(hb:SE X Wx m b g):SE X Wx m (.IfExp c a b pos) (nA t f g):=by
  refine cB (zbO hc ha hb) ?_;rintro st H Q ⟨P0,H0,P,Os,env,M,r,M',k,e,q⟩;unfold nA at e;rcases cA e with⟨d,M1,e1,e⟩ |⟨c,n,e1,rfl⟩
  · cases d<;>simp only[reduceCtorEq]at e
    rename_i b;refine gF k e1 ⟨b,rfl,fun P1 H1 l1 h1=>?_⟩
    cases b with
    |true=>
      rw[xab rfl]at e ⊢;exact aV (k.next l1 h1) e (RQ.imp l1 q)
    |false=>
      rw[xad (by decide)]at e ⊢;exact aV (k.next l1 h1) e (RQ.imp l1 q)
  · exact gF k e1 q
theorem WW {K:Fgx}{P:Pl}{H:Hp}{d:D}{v:V}{b:Bool}(h:gA d=some b)(i:cj K P H d v):pP K v H b:=by
  cases d with
  |non=>have e:v=.non:=i;subst e;cases h;rfl
  |bl c=>have e:v=.bl c:=i;subst e;cases h;rfl
  |int c=>have e:v=.int c:=i;subst e;cases h;rfl
  |str c=>
    have e:v=.str c:=i;subst e;simp only[gA]at h;split at h
    · rename_i hl;cases h;exact⟨hl,rfl⟩
    · cases h
  |lst ds=>
    obtain⟨a,vs,rfl,r,q⟩:=i;cases h;refine .inl ⟨vs,r,?_⟩
    cases ds with
    |nil=>rw[show vs=[] from q];rfl
    |cons d ds=>obtain⟨w,r',rfl,_⟩:=q;rfl
  |tup ds=>
    obtain⟨a,vs,rfl,r,q⟩:=i;cases h;refine .inr (.inl ⟨vs,r,?_⟩)
    cases ds with
    |nil=>rw[show vs=[] from q];rfl
    |cons d ds=>obtain⟨w,r',rfl,_⟩:=q;rfl
  |ref k=>cases h
theorem g_ (ha:SE X Wx .bor a f)(he:∀whole,isTrue a X.env whole=(do let v <-whole;standAt a.pos;holding [v] (truthy v)):=by exact fun _=>rfl):ST X Wx a (cD f):=by
 refine Fi (zbG ha he) ?_;rintro st H Q ⟨P0,H0,P,Os,env,M,r,M',k,e,q⟩;unfold cD s1 at e;rcases cA e with⟨d,M1,e1,e⟩ |⟨c,n,e1,rfl⟩
 ·rw[xac]at e;obtain⟨z,ez,e⟩:=e;cases e;rw[xac]at ez;obtain⟨b,eb,rfl⟩:=ez;obtain⟨b',e2,q⟩:=q;cases e2;exact aV k e1 fun P1 v1 H1 l1 h1 i1=>⟨b,WW eb (dz.vw h1 i1),q P1 H1 l1 h1⟩
 ·exact aV k e1 q
theorem zcO (ha:PE X a ta):PE X (.UnaryOp .Not a pos) (fun σ H Q=>ta σ H fun x H1=>∃k,pP X.K x H1 k/\Q (.bl (!k)) H1):=by
 intro pins s σ H Q I h;refine UnaryOp_ (aP (ha pins s σ H _ I h) fun v s1 ⟨x, H1, I1, r1, k, tv, q⟩ => ?_);exact not_of (aP (WX pins s1 σ H1 x v (fun b H'=>b=k/\H'=H1) I1 r1 ⟨k,tv,rfl,rfl⟩) fun b s2 ⟨H2,I2,e1,e2⟩=>by
  subst e1 e2;exact⟨.bl (!b),H2,I2,rfl,q⟩)
def Cd (f:E):E:=s1 (fun d=>(gA d).map fun b=>.bl (!b)) f
theorem V0 (ha:SE X Wx .bor a f):SE X Wx m (.UnaryOp .Not a pos) (Cd f):=by
 refine cB (zcO ha) ?_;rintro st H Q ⟨P0,H0,P,Os,env,M,r,M',k,e,q⟩;unfold Cd s1 at e;rcases cA e with⟨d,M1,e1,e⟩ |⟨c,n,e1,rfl⟩
 ·rw[xac]at e;obtain⟨z,ez,e⟩:=e;cases e;rw[xac]at ez;obtain⟨b,eb,rfl⟩:=ez;exact aV k e1 fun P1 v1 H1 l1 h1 i1=>⟨b,WW eb (dz.vw h1 i1),q P1 _ H1 l1 h1 (cO.of h1 (show Is _ _ _ (.bl _) _ from rfl))⟩
 ·exact aV k e1 q
inductive ResA where
 |v (ds:List D) |x (c:Str) (n:Int)
abbrev EA:=Env->Mm->Option (ResA×Mm)
def au:EA:=fun _ M=>some (.v [],M)
noncomputable def aA (f:E) (fs:EA):EA:=fun env M=>match f env M with
  | some (.v d, M1) => (match fs env M1 with
    |some (.v ds,M2)=>some (.v (d::ds),M2)
    |some (.x c n,M2)=>some (.x c n,M2)
    |none=>none)
  |some (.x c n,M1)=>some (.x c n,M1)
  |none=>none
noncomputable def cP (o:Option (ResA×Mm)) (k:List D->Mm->O):O:=match o with
 |some (.v ds,M)=>k ds M
 |some (.x c n,M)=>some (.x c n,M)
 |none=>none
theorem mX (h:cP o k=some (r,M')):(∃ds M,o=some (.v ds,M)/\k ds M=some (r,M'))\/∃c n,o=some (.x c n,M')/\r=.x c n:=by
 unfold cP at h;split at h
 ·exact .inl ⟨_,_,rfl,h⟩
 ·cases h;exact .inr ⟨_,_,rfl,rfl⟩
 ·cases h
noncomputable def cM (K:Fgx) (P:Pl) (H:Hp) (m:Mode):List D->List V->Prop
 | [],vs=>vs=[]
 |d::ds,vs=>∃v ws,vs=v::ws/\cO K P H m d v/\cM K P H m ds ws
theorem cM.iss {K:Fgx}{P:Pl}{H:Hp}:∀{ds:List D} {vs:List V},cM K P H .val ds vs->aD K P H ds vs
  | [],_,h=>h
  |_::_,_,h=>by
    obtain⟨v,ws,e,p,q⟩:=h;exact⟨v,ws,e,p,cM.iss q⟩
noncomputable def AQ (K:Fgx) (mg:Mgx) (Wx:XW) (m:Mode) (P0:Pl) (H0:Hp) (P:Pl) (H:Hp) (M':Mm) (Q:List V->Hp->Prop):ResA->Prop
 |.v ds=>∀P' vs H',LtE P H P' H'->Hk K mg P' H' M'->cM K P' H' m ds vs->Q vs H'
 |.x c n=>Wx P0 H0 M' c n
noncomputable def Wv (K:Fgx) (mg:Mgx) (Wx:XW) (m:Mode) (fs:EA):TA:=fun st H Q=>∃P0 H0 P Os env M r M',Ok K mg P0 H0 P Os H M st env/\fs env M=some (r,M')/\AQ K mg Wx m P0 H0 P H M' Q r
def SA (X:Cx)(Wx:XW)(m:Mode)(es:List Expr)(fs:EA):Prop:=PA X es (Wv X.K X.mg Wx m fs)
theorem TX (h:PA X es t)(w:∀σ H Q,t' σ H Q->t σ H Q):PA X es t':=fun pos pins s σ H Q I hw=>h pos pins s σ H Q I (w σ H Q hw)
theorem aL:SA X Wx m [] au:=by
 refine TX vd ?_;rintro st H Q ⟨P0,H0,P,Os,env,M,r,M',k,e,q⟩;cases e;exact q P [] H (LtE.refl P H) k.hk rfl
theorem aF (ha:SE X Wx m e f)(hr:SA X Wx m es fs)(hs:starEach (e::es) X.env=(false,eval e X.env)::starEach es X.env:=by rfl):SA X Wx m (e::es) (aA f fs):=by
 refine TX (su ha hr hs) ?_;rintro st H Q ⟨P0,H0,P,Os,env,M,r,M',k,e,q⟩;unfold aA at e;split at e
 ·rename_i d M1 e1;refine aV k e1 fun P1 v1 H1 l1 h1 i1=>?_;split at e
  ·rename_i ds M2 e2;cases e;refine⟨P0,H0,P1,Os,env,M1,_,_,k.next l1 h1,e2,fun P2 vs H2 l2 h2 i2=>q P2 _ H2 (l1.trans l2) h2 ⟨v1,vs,rfl,?_,i2⟩⟩
   cases m with
   |val=>exact Is.lt (l2.lt h1) i1
   |bor=>exact dz.lt l2 h1 i1
  ·rename_i c n M2 e2;cases e;exact⟨P0,H0,P1,Os,env,M1,_,_,k.next l1 h1,e2,q⟩
  ·cases e
 ·rename_i c n M1 e1;cases e;exact aV k e1 q
 ·cases e
noncomputable def sN (o:List D->Option D) (fs:EA):E:=fun env M=>cP (fs env M) fun ds M1=>(o (ds.map (vw M1))).map fun z=>(.v z,M1)
noncomputable def pK (K:Fgx) (P:Pl) (H:Hp):List D->List V->Prop
 | [],vs=>vs=[]
 |d::ds,vs=>∃v ws,vs=v::ws/\cj K P H d v/\pK K P H ds ws
theorem cM.w {K:Fgx}{mg:Mgx}{P:Pl}{H:Hp}{M:Mm}(h:Hk K mg P H M):∀{ds:List D} {vs:List V},cM K P H m ds vs->pK K P H (ds.map (vw M)) vs
  | [],_,q=>q
  |d::ds,_,q=>by
    obtain⟨v,ws,e,p,q⟩:=q;exact⟨v,ws,e,dz.vw h (p.b h),cM.w h q⟩
def mF (K:Fgx)(r:List V->Hp->VK->Prop)(o:List D->Option D):Prop:=∀(P:Pl) (H:Hp) (ds:List D) (z:D) (vs:List V) (Q:VK),o ds=some z->pK K P H ds vs->(∀p,H p=none->¬ P.bd p)->(∀u H',Same H H'->Is K P H' z u->Q u H')->r vs H Q
theorem VH (h:∀t,PA X (e::es) t->PE X ex (Ox r t))(po:mF X.K r o)(ha:SA X Wx .bor (e::es) fs):SE X Wx m ex (sN o fs):=by
 refine cB (h _ ha) ?_;rintro st H Q ⟨P0,H0,P,Os,env,M,r,M',k,e,q⟩;unfold sN at e;rcases mX e with⟨ds,M1,e1,e⟩ |⟨c,n,e1,rfl⟩
 ·rw[xac]at e;obtain⟨z,ez,e⟩:=e;cases e;exact⟨P0,H0,P,Os,env,M,_,_,k,e1,fun P1 vs H1 l1 h1 i1=>po P1 H1 _ z vs Q ez (cM.w h1 i1) h1.new fun u H' s i=>q P1 u H' (l1.trans (LtE.same s)) (h1.same s) (cO.of (h1.same s) i)⟩
 ·exact⟨P0,H0,P,Os,env,M,_,_,k,e1,q⟩
noncomputable def aW (fs:EA):E:=fun env M=>cP (fs env M) fun ds M1=>if ds.length<=sizeLine then some (.v (.tup ds),M1) else none
theorem dY {es:List Expr}{x1:Nat}{pos:Pos}{fs:EA}(ha:SA X Wx .val es fs):SE X Wx m (.Tuple es x1 pos) (aW fs):=by
 refine cB (zeV ha) ?_;rintro st H Q ⟨P0,H0,P,Os,env,M,r,M',k,e,q⟩;unfold aW at e;rcases mX e with⟨ds,M1,e1,e⟩ |⟨c,n,e1,rfl⟩
 ·split at e
  ·rename_i hl;cases e;refine⟨P0,H0,P,Os,env,M,_,_,k,e1,fun P1 vs H1 l1 h1 i1=>⟨by rw[i1.iss.len];exact hl,fun p hp=>?_⟩⟩;have s:=nM (o:=.tup vs) hp;exact q P1 _ _ (l1.trans (LtE.same s)) (h1.same s) (cO.of (h1.same s) ⟨p,vs,rfl,.inl (.inl bW),aD.lt ((LtE.same s).lt h1) i1.iss⟩)
  ·cases e
 ·exact⟨P0,H0,P,Os,env,M,_,_,k,e1,q⟩
noncomputable def NQ (K:Fgx) (mg:Mgx) (Wx:XW) (P0:Pl) (H0:Hp) (P:Pl) (H:Hp) (M':Mm) (Q:VK):Res->Prop
 |.v d=>∃ds,d=.lst ds/\∀P' a vs H',LtE P H P' H'->Hk K mg P' H' M'->H a=none->P'.bd a->(∀k,k<P'.n->P'.io k≠a)->H' a=some (.lst vs)->aD K P' H' ds vs->Q (.ref a) H'
 |.x c n=>Wx P0 H0 M' c n
noncomputable def tN (K:Fgx) (mg:Mgx) (Wx:XW) (f:E):TE:=fun st H Q=>∃P0 H0 P Os env M r M',Ok K mg P0 H0 P Os H M st env/\f env M=some (r,M')/\NQ K mg Wx P0 H0 P H M' Q r
def SN (X:Cx)(Wx:XW)(e:Expr)(f:E):Prop:=PE X e (tN X.K X.mg Wx f)
def Pl.bar (P:Pl)(p:Addr):Pl:={P with bd:=fun a=>P.bd a\/a=p}
theorem wM {K:Fgx}{mg:Mgx}{P:Pl}{H:Hp}{M:Mm}{p:Addr}{vs:List V}(h:Hk K mg P H M)(hp:H p=none):LtE P H (P.bar p) (upd H p (.lst vs))/\Hk K mg (P.bar p) (upd H p (.lst vs)) M/\∀k,k<P.n->P.io k≠p:=by
  have s:=nM (o:=.lst vs) hp;have nc:∀k,k<P.n->P.io k≠p:=fun k hk z=>h.here _ (h.bd k hk) (z ▸ hp);have l:LtE P H (P.bar p) (upd H p (.lst vs)):=⟨xaf _,fun _ _=>rfl,fun a z=>Or.imp (fun q=>q) (fun(q:a=p)=>by rw[q];exact hp) z,fun a z=>.inl z,fun a o e _=>s a o e,fun a z=>s.free z,fun k h1 h2=>absurd h1 (xdU.mpr h2)⟩;have lt:=l.lt h;refine⟨l,⟨h.n,fun k c e=>?_,h.inj,fun k hk=>.inl (h.bd k hk),fun a z q=>?_⟩,nc⟩
  · have:=h.cell k c e
    cases c with
    |lst ds=>
      obtain⟨vs,e1,q⟩:=this;exact⟨vs,s _ _ e1,aD.lt lt q⟩
    |obj c fs=>
      obtain⟨C,dx,gs,e1,e2,e3,q⟩:=this;exact⟨C,dx,gs,e1,s _ _ e2,e3,aD.lt lt q⟩
    |dct kvs=>
      obtain⟨vs,e1,e2,q⟩:=this;exact⟨vs,s _ _ e1,e2,aD.lt lt q⟩
    |dcf kvs=>
      obtain⟨vs,ob,es,ep,e1,eD,e2,q⟩:=this;exact⟨vs,ob,es,ep,s _ _ e1,eD,e2,aD.lt lt q⟩
    |fn i caps=>exact iB.up this lt.frz fun _ _ q=>aD.lt lt q
    |tbl nm i=>exact pO.up this (fun _ e=>s _ _ e) lt.frz
  · rcases z with z |z
    · exact h.here a z (s.free q)
    · subst z;rw[bW]at q;cases q
theorem SN.se (h:SN X Wx e f)(hf:∀env M r M',f env M=some (.v r,M')->∃ds,r=.lst ds):SE X Wx .val e f:=by
  refine cB h ?_;rintro st H Q ⟨P0,H0,P,Os,env,M,r,M',k,e,q⟩;refine⟨P0,H0,P,Os,env,M,r,M',k,e,?_⟩
  cases r with
  |x c n=>exact q
  |v d=>
    obtain⟨ds,rfl⟩:=hf _ _ _ _ e;refine⟨ds,rfl,fun P' a vs H' l h ha ba nc ea is=>q (P'.less (· ≠a)) _ H' ?_ ?_ ⟨a,vs,rfl,.inl ⟨fun z=>z.2 rfl,.inl ea⟩,aD.less is⟩⟩
    · exact⟨l.n,l.io,fun b z=>l.bd b z.1,fun b z=>⟨l.bm b z,fun q=>k.hk.here b z (q ▸ ha)⟩,l.keep,l.sure,l.nw⟩
    · refine⟨h.n,fun j c e=>?_,h.inj,fun j hj=>⟨h.bd j hj,nc j hj⟩,fun b z=>h.here b z.1⟩;have:=h.cell j c e
      cases c with
      |lst ds=>
        obtain⟨vs,e1,q⟩:=this;exact⟨vs,e1,aD.less q⟩
      |obj c fs=>
        obtain⟨C,dx,gs,e1,e2,e3,q⟩:=this;exact⟨C,dx,gs,e1,e2,e3,aD.less q⟩
      |dct kvs=>
        obtain⟨vs,e1,e2,q⟩:=this;exact⟨vs,e1,e2,aD.less q⟩
      |dcf kvs=>
        obtain⟨vs,ob,es,ep,e1,eD,e2,q⟩:=this;exact⟨vs,ob,es,ep,e1,eD,e2,aD.less q⟩
      |fn i caps=>exact iB.up this (fun _ _ _ z=>z) fun _ _ q=>aD.less q
      |tbl nm i=>exact this
noncomputable def aX (fs:EA):E:=fun env M=>cP (fs env M) fun ds M1=>if ds.length<=sizeLine then some (.v (.lst ds),M1) else none
theorem dZ {es:List Expr}{pos:Pos}{fs:EA}(ha:SA X Wx .val es fs):SN X Wx (.List es pos) (aX fs):=by
 refine cB (zeQ ha) ?_;rintro st H Q ⟨P0,H0,P,Os,env,M,r,M',k,e,q⟩;unfold aX at e;rcases mX e with⟨ds,M1,e1,e⟩ |⟨c,n,e1,rfl⟩
 ·split at e
  ·rename_i hl;cases e;obtain⟨ds',e',q⟩:=q;cases e';refine⟨P0,H0,P,Os,env,M,_,_,k,e1,fun P1 vs H1 l1 h1 i1=>⟨by rw[i1.iss.len];exact hl,fun p hp=>?_⟩⟩;obtain⟨l2,h2,nc⟩:=wM (vs:=vs) h1 hp;exact q (P1.bar p) p vs _ (l1.trans l2) h2 (l1.sure p hp) (.inr rfl) nc bW (aD.lt (l2.lt h1) i1.iss)
  ·cases e
 ·exact⟨P0,H0,P,Os,env,M,_,_,k,e1,q⟩
theorem lst_is:∀env M r M',aX fs env M=some (.v r,M')->∃ds,r=.lst ds:=fun env M r M' e=>by
 unfold aX at e;rcases mX e with⟨ds,M1,e1,e⟩ |⟨c,n,e1,e⟩
 ·split at e
  ·cases e;exact⟨_,rfl⟩
  ·cases e
 ·cases e
end
inductive Out where
 |nx (env:Env) |bk (env:Env) |ct (env:Env) |rt (d:D) |ex (c:Str) (n:Int)
abbrev OS:=Option (Out×Mm)
abbrev S:=Env->Mm->OS
noncomputable def Post (K:Fgx) (mg:Mgx) (Wx:XW) (P0:Pl) (H0:Hp) (P:Pl) (H:Hp) (M':Mm) (D:Ends):Out->Prop
 |.nx env=>∀P' Os' H' st',Lt P H P' H'->Ok K mg P0 H0 P' Os' H' M' st' env->D.nx st' H'
 |.bk env=>∀P' Os' H' st',Lt P H P' H'->Ok K mg P0 H0 P' Os' H' M' st' env->D.bk st' H'
 |.ct env=>∀P' Os' H' st',Lt P H P' H'->Ok K mg P0 H0 P' Os' H' M' st' env->D.ct st' H'
 |.rt d=>∀P' v H',LtE P0 H0 P' H'->Hk K mg P' H' M'->Is K P' H' d v->D.rt v H'
 |.ex c n=>Wx P0 H0 M' c n
noncomputable def tS (K:Fgx) (mg:Mgx) (Wx:XW) (f:S):TS:=fun D st H=>∃P0 H0 P Os env M out M',Ok K mg P0 H0 P Os H M st env/\f env M=some (out,M')/\Post K mg Wx P0 H0 P H M' D out
def SS (X:Cx)(Wx:XW)(s:Stmt)(f:S):Prop:=PS X s (tS X.K X.mg Wx f)
def SB (X:Cx)(Wx:XW)(s:List Stmt)(f:S):Prop:=i_ X s (tS X.K X.mg Wx f)
noncomputable def bM (o:O) (k:D->Mm->OS):OS:=match o with
 |some (.v d,M)=>k d M
 |some (.x c n,M)=>some (.ex c n,M)
 |none=>none
theorem gC (h:bM o k=some (r,M')):(∃d M,o=some (.v d,M)/\k d M=some (r,M'))\/∃c n,o=some (.x c n,M')/\r=.ex c n:=by
 unfold bM at h;split at h
 ·exact .inl ⟨_,_,rfl,h⟩
 ·cases h;exact .inr ⟨_,_,rfl,rfl⟩
 ·cases h
section
variable {K:Fgx}{mg:Mgx}{Wx:XW}{P0 P P' P1:Pl}{H0 H H' H1:Hp}{M M':Mm}{Os:List (Option Addr)}{st:L2.St}{env:Env}{d:D}{v:V}{i:Nat}
theorem Cq (l:List (Option α))(i j:Nat)(x:Option α)(hi:i<l.length):((l.set i x)[j]?).join=if i=j then x else(l[j]?).join:=by
 rw[xa7]
 by_cases h:i=j
 ·subst h;rw[xab rfl,xab hi,xab rfl];rfl
 ·rw[xad h,xad h]
theorem Ok.asg (k:Ok K mg P0 H0 P Os H M st env)(hi:i<env.length)(h:Is K P H d v):Ok K mg P0 H0 P (Os.set i none) H M (st.set i (some v)) (env.set i (.val d)) where
 hk:=k.hk
 base:=k.base
 b0:=k.b0
 slot:=fun j s e=>by
  rw[Cq _ _ _ _ (by rw[k.olen];exact hi),Cq _ _ _ _ (by rw[k.slen];exact hi)];rw[xa7]at e;split at e
  ·rename_i ij;subst ij;cases e;rw[xab rfl,xab rfl];exact⟨v,rfl,h⟩
  ·rename_i ij;rw[xad ij,xad ij];exact k.slot j s e
 own := fun a h => k.own a (by
  rcases xdo h with h |h
  ·exact h
  ·cases h)
 inj:=fun j l a e1 e2=>by
  rw[xa7]at e1 e2;split at e1
  ·split at e1<;>cases e1
  ·split at e2
   ·split at e2<;>cases e2
   ·exact k.inj j l a e1 e2
 olen:=by rw[xaA,xaA,k.olen]
 slen:=by rw[xaA,xaA,k.slen]
theorem Ok.here (k:Ok K mg P0 H0 P Os H M st env)(h:some a∈Os):H a≠none:=k.hk.here a (k.own a h).1
theorem Ok.mine (k0:Ok K mg P0 H0 P Os H M st env)(l:LtE P H P' H')(hk:Hk K mg P' H' M')(hi:i<env.length)(ha:H a=none)(ba:P'.bd a)(nc:∀j,j<P'.n->P'.io j≠a)(e:H' a=some (.lst vs))(h:aD K P' H' ds vs):
  Ok K mg P0 H0 P' (Os.set i (some a)) H' M' (st.set i (some (.ref a))) (env.set i (.own ds)):=by
 have k:=k0.next l hk
 have nO:∀j,Os[j]? ≠some (some a):=fun j z=>k0.here (xaC z) ha;exact {
  hk:=k.hk
  base:=k.base
  b0:=k.b0
  slot:=fun j s e'=>by
   rw[Cq _ _ _ _ (by rw[k.olen];exact hi),Cq _ _ _ _ (by rw[k.slen];exact hi)];rw[xa7]at e';split at e'
   ·rename_i ij;subst ij;cases e';rw[xab rfl,xab rfl];exact⟨a,vs,rfl,rfl,e,h⟩
   ·rename_i ij;rw[xad ij,xad ij];exact k.slot j s e'
  own:=fun b hb=>by
   rcases xdo hb with hb |hb
   ·exact k.own b hb
   ·cases hb;exact⟨ba,nc,k0.base.sure a ha⟩
  inj:=fun j l b e1 e2=>by
   rw[xa7]at e1 e2;split at e1
   ·split at e1
    ·cases e1;split at e2
     ·rename_i z1 _ z2;exact z1.symm.trans z2
     ·exact absurd e2 (nO l)
    ·cases e1
   ·split at e2
    ·split at e2
     ·cases e2;exact absurd e1 (nO j)
     ·cases e2
    ·exact k.inj j l b e1 e2
  olen:=by rw[xaA,xaA,k.olen]
  slen:=by rw[xaA,xaA,k.slen]}
theorem w6 (b : P.bd a) (e : H a = some o) (nf : ¬ Fx o) : Lt P H P (upd H a o') := ⟨xaf _,fun _ _=>rfl,fun _ z=>.inl z,fun c u ec z=>by
  by_cases h:c=a
  ·subst h;rw[e]at ec;cases ec;exact(z.elim nf fun n=>n b).elim
  ·rw[aU h];exact ec,fun c z=>by
  by_cases h:c=a
  ·subst h;rw[bW]at z;cases z
  ·rw[aU h]at z;exact z⟩
theorem Eu:¬ Fx (.lst vs):=fun z=>by rcases z with⟨_,z⟩ |⟨_,_,z⟩ |⟨_,z⟩ |⟨_,z⟩<;>cases z
theorem zeT:¬ Fx (.ins C dx gs):=fun z=>by rcases z with⟨_,z⟩ |⟨_,_,z⟩ |⟨_,z⟩ |⟨_,z⟩<;>cases z
theorem yd.lt (l:Lt P H P' H')(e:∀o,H a=some o->H' a=some o)(h:yd K mg P H a c):yd K mg P' H' a c:=by
  cases c with
  |lst ds=>
    obtain⟨vs,e1,q⟩:=h;exact⟨vs,e _ e1,aD.lt l q⟩
  |obj c fs=>
    obtain⟨C,dx,gs,e1,e2,e3,q⟩:=h;exact⟨C,dx,gs,e1,e _ e2,e3,aD.lt l q⟩
  |dct kvs=>
    obtain⟨vs,e1,e2,q⟩:=h;exact⟨vs,e _ e1,e2,aD.lt l q⟩
  |dcf kvs=>
    obtain⟨vs,ob,es,ep,e1,eD,e2,q⟩:=h;exact⟨vs,ob,es,ep,e _ e1,eD,e2,aD.lt l q⟩
  |fn i caps=>exact iB.up h l.frz fun _ _ q=>aD.lt l q
  |tbl nm i=>exact pO.up h e l.frz
theorem Ok.chg (k:Ok K mg P0 H0 P Os H M st env)(hi:env[i]? =some (.own ds))(ho:Os[i]? =some (some a))(e:H a=some (.lst vs))(h:aD K P H ds' vs'):
    Lt P H P (upd H a (.lst vs'))/\Ok K mg P0 H0 P Os (upd H a (.lst vs')) M st (env.set i (.own ds')):=by
  obtain⟨b1,b2,b3⟩:=k.own a (xaC ho);have l:Lt P H P (upd H a (.lst vs')):=w6 b1 e Eu;have ilt:i<env.length:=(xam.mp hi).1;refine⟨l,?_⟩;exact {
    hk:=⟨k.hk.n,fun j c ej=>(k.hk.cell j c ej).lt l fun o eo=>by rw[aU (b2 j (by rw[k.hk.n];exact(xam.mp ej).1))];exact eo,k.hk.inj,k.hk.bd,fun c z q=>k.hk.here c z (l.sure c q)⟩
    base := ⟨k.base.n,k.base.io,k.base.bd,k.base.bm,fun c o ec n=>by
      have:=k.base.keep c o ec n;rw[aU (fun z=>by subst z;rw[b3]at ec;cases ec)];exact this,fun c z=>k.base.sure c (l.sure c z),k.base.nw⟩
    b0:=k.b0
    slot:=fun j s ej=>by
      rw[xa7]at ej;split at ej
      · rename_i ij;subst ij;cases ej;obtain⟨a',vs0,e1,e2,e3,q⟩:=k.slot i _ hi;rw[ho]at e1;cases e1;exact⟨a,vs',by rw[ho];rfl,e2,bW,aD.lt l h⟩
      · rename_i ij;have q:=k.slot j s ej
        cases s with
        |un=>exact True.intro
        |val d=>obtain⟨v,e1,q⟩:=q;exact⟨v,e1,Is.lt l q⟩
        |own es=>
          obtain⟨a',ws,e1,e2,e3,q⟩:=q;refine⟨a',ws,e1,e2,?_,aD.lt l q⟩;rw[aU (fun z=>ij (k.inj i j a ho (by rw[<-z];exact uc e1)))];exact e3
        |exc c n=>obtain⟨v,e1,q⟩:=q;exact⟨v,e1,q.lt l⟩
    own:=k.own
    inj:=k.inj
    olen:=by rw[xaA,k.olen]
    slen:=by rw[xaA,k.slen]}
theorem Hk.set (h:Hk K mg P H M)(e:M[j]? =some c)(w:yd K mg P (upd H (P.io j) o') (P.io j) c')(nd:c.fix=false:=by rfl):Lt P H P (upd H (P.io j) o')/\LtE P H P (upd H (P.io j) o')/\Hk K mg P (upd H (P.io j) o') (M.set j c'):=by
 have jl:j<P.n:=by rw[h.n];exact(xam.mp e).1
 obtain ⟨o, eo, nf⟩ := h.cellAt e nd;have l : Lt P H P (upd H (P.io j) o') := w6 (h.bd j jl) eo nf;refine ⟨l, ⟨xaf _,fun _ _=>rfl,fun _ z=>.inl z,fun _ z=>z,fun a u ea n=>by
  have ne:a≠P.io j:=by
   rintro rfl;rw[eo]at ea;cases ea;exact n.elim nf fun nc=>nc j jl rfl
  rw[aU ne];exact ea,l.sure,fun k h1 h2=>absurd h1 (xdU.mpr h2)⟩,⟨by rw[xaA,h.n],fun k b ek=>?_,h.inj,h.bd,fun a z q=>h.here a z (l.sure a q)⟩⟩
 rw[xa7]at ek;split at ek
 ·rename_i jk;subst jk;rw[xab (by rw[<-h.n];exact jl)]at ek;cases ek;exact w
 ·rename_i jk;have kl:k<P.n:=by rw[h.n];exact(xam.mp ek).1
  exact(h.cell k b ek).lt l fun u eu=>by rw[aU (fun z=>jk (h.inj j k jl kl z.symm))];exact eu
theorem Ok.frz (k:Ok K mg P0 H0 P Os H M st env)(hi:env[i]? =some (.own ds)):∃P' Os',Lt P H P' H/\Ok K mg P0 H0 P' Os' H M st (env.set i (.val (.lst ds))):=by
 obtain⟨a,vs,e1,e2,e3,q⟩:=k.slot i _ hi;have ho:=uc e1;obtain⟨b1,b2,b3⟩:=k.own a (xaC ho);have ilt:i<env.length:=(xam.mp hi).1;have nO:∀b,some b∈Os.set i none->some b∈Os/\b≠a:=fun b z=>by
  obtain⟨j,hj⟩:=xdN.mp z;rw[xa7]at hj;split at hj
  ·split at hj<;>cases hj
  ·rename_i ij;exact⟨xaC hj,fun z=>by subst z;exact ij (k.inj i j b ho hj)⟩
 have l : Lt P H (P.less (· ≠ a)) H := ⟨xaf _, fun _ _ => rfl, fun c z => .inl z.1, fun _ _ e _ => e, fun _ z => z⟩;refine ⟨P.less (· ≠a),Os.set i none,l,{
  hk:=⟨k.hk.n,fun j c ej=>(k.hk.cell j c ej).lt l fun _ z=>z,k.hk.inj,fun j hj=>⟨k.hk.bd j hj,b2 j hj⟩,fun c z=>k.hk.here c z.1⟩
  base:=⟨k.base.n,k.base.io,fun c z=>k.base.bd c z.1,fun c z=>⟨k.base.bm c z,fun q=>k.b0 c z (q ▸ b3)⟩,k.base.keep,k.base.sure,k.base.nw⟩
  b0:=k.b0
  slot:=fun j s ej=>?_
  own:=fun c z=>?_
  inj:=fun j l b z1 z2=>?_
  olen:=by rw[xaA,xaA,k.olen]
  slen:=by rw[xaA,k.slen]}⟩
 ·rw[Cq _ _ _ _ (by rw[k.olen];exact ilt)];rw[xa7]at ej;split at ej
  ·rename_i ij;subst ij;cases ej;exact⟨.ref a,e2,a,vs,rfl,.inl ⟨fun z=>z.2 rfl,.inl e3⟩,aD.less q⟩
  ·rename_i ij;rw[xad ij];have q:=k.slot j s ej
   cases s with
   |un=>exact True.intro
   |val d=>obtain⟨v,e1,q⟩:=q;exact⟨v,e1,Is.less q⟩
   |own es=>obtain⟨a',ws,e1,e2,e3,q⟩:=q;exact⟨a',ws,e1,e2,e3,aD.less q⟩
   |exc c n=>obtain⟨v,e1,q⟩:=q;exact⟨v,e1,q.lt l⟩
 ·obtain⟨z1,z2⟩:=nO c z;obtain⟨c1,c2,c3⟩:=k.own c z1;exact⟨⟨c1,z2⟩,c2,c3⟩
 ·rw[xa7]at z1 z2;split at z1
  ·split at z1<;>cases z1
  ·split at z2
   ·split at z2<;>cases z2
   ·exact k.inj j l b z1 z2
end
section
variable {X:Cx}{Wx:XW}{pos:Pos}
theorem kO (h:PS X s t)(w:∀D σ H,t' D σ H->t D σ H):PS X s t':=fun pins s σ H D I hw=>h pins s σ H D I (w D σ H hw)
theorem LQ (h:i_ X s t)(w:∀D σ H,t' D σ H->t D σ H):i_ X s t':=fun pins s σ H D I hw=>h pins s σ H D I (w D σ H hw)
def aC:S:=fun env M=>some (.nx env,M)
noncomputable def aq (f g:S):S:=fun env M=>match f env M with
 |some (.nx e,M1)=>g e M1
 |o=>o
theorem aK:SB X Wx [] aC:=by
 refine LQ zcA ?_;rintro D st H ⟨P0,H0,P,Os,env,M,out,M',k,e,q⟩;cases e;exact q P Os H st (Lt.refl P H) k
theorem Post.lt {K:Fgx}{mg:Mgx}{P0 P P1:Pl}{H0 H H1:Hp}{M':Mm}{D:Ends}{o:Out}(l:Lt P H P1 H1)(q:Post K mg Wx P0 H0 P H M' D o):Post K mg Wx P0 H0 P1 H1 M' D o:=by
 cases o with
 |nx env=>exact fun P' Os' H' st' l' k=>q P' Os' H' st' (l.trans l') k
 |bk env=>exact fun P' Os' H' st' l' k=>q P' Os' H' st' (l.trans l') k
 |ct env=>exact fun P' Os' H' st' l' k=>q P' Os' H' st' (l.trans l') k
 |rt d=>exact q
 |ex c n=>exact q
theorem aG (h1:SS X Wx s f)(h2:SB X Wx ss g):SB X Wx (s::ss) (aq f g):=by
  refine LQ (zbE h1 h2) ?_;rintro D st H ⟨P0,H0,P,Os,env,M,out,M',k,e,q⟩;unfold aq at e;split at e
  · rename_i e1 M1 ef;refine⟨P0,H0,P,Os,env,M,_,_,k,ef,fun P1 Os1 H1 st1 l1 k1=>?_⟩;exact⟨P0,H0,P1,Os1,e1,M1,_,_,k1,e,q.lt l1⟩
  · rename_i o ho
    cases ef:f env M with
    |none=>rw[ef]at e;cases e
    |some om=>
      obtain⟨o1,M1⟩:=om;rw[ef]at e;cases e;refine⟨P0,H0,P,Os,env,M,_,_,k,ef,?_⟩
      cases out with
      |nx env'=>exact(ho _ _ ef).elim
      |bk env'=>exact q
      |ct env'=>exact q
      |rt d=>exact q
      |ex c n=>exact q
noncomputable def aQ (i:Nat) (f:E):S:=fun env M=>bM (f env M) fun d M1=>if i<env.length then some (.nx (env.set i (.val d)),M1) else none
theorem cg (hN:X.N.Nodup)(hi:X.N[i]? =some x)(hx:Loc X.env.scope x)(he:SE X Wx .val e f)(hs:swapsWith e (some (.Name x pos')) pos.line X.env=pure false:=by rfl)
  (hf:X.fn x=true\/X.env.scope.names.lookup x=some .local:=by first |exact .inl rfl |exact .inr rfl):SS X Wx (.Assign [.Name x pos'] e pos) (aQ i f):=by
 refine kO (Ua hN hi hx he hs hf) ?_;rintro D st H ⟨P0,H0,P,Os,env,M,out,M',k,e,q⟩;unfold aQ at e;rcases gC e with⟨d,M1,e1,e⟩ |⟨c,n,e1,rfl⟩
 ·split at e
  ·rename_i hl;cases e;exact⟨P0,H0,P,Os,env,M,_,_,k,e1,fun P1 v1 H1 l1 h1 i1=>q _ _ _ _ (l1.lt k.hk) ((k.next l1 h1).asg hl i1)⟩
  ·cases e
 ·exact⟨P0,H0,P,Os,env,M,_,_,k,e1,q⟩
noncomputable def yX (i:Nat) (f:E):S:=fun env M=>bM (f env M) fun d M1=>match d with
 |.lst ds=>if i<env.length then some (.nx (env.set i (.own ds)),M1) else none
 |_=>none
theorem Ol (hN:X.N.Nodup)(hi:X.N[i]? =some x)(hx:Loc X.env.scope x)(he:SN X Wx e f)(hs:swapsWith e (some (.Name x pos')) pos.line X.env=pure false:=by rfl)
  (hf:X.fn x=true\/X.env.scope.names.lookup x=some .local:=by first |exact .inl rfl |exact .inr rfl):SS X Wx (.Assign [.Name x pos'] e pos) (yX i f):=by
 refine kO (Ua hN hi hx he hs hf) ?_;rintro D st H ⟨P0,H0,P,Os,env,M,out,M',k,e,q⟩;unfold yX at e;rcases gC e with⟨d,M1,e1,e⟩ |⟨c,n,e1,rfl⟩
 ·cases d<;>simp only[reduceCtorEq]at e
  rename_i ds;split at e
  ·rename_i hl;cases e;exact⟨P0,H0,P,Os,env,M,_,_,k,e1,ds,rfl,fun P1 a vs H1 l1 h1 ha ba nc ea is=>q _ _ _ _ (l1.lt k.hk) (k.mine l1 h1 hl ha ba nc ea is)⟩
  ·cases e
 ·exact⟨P0,H0,P,Os,env,M,_,_,k,e1,q⟩
def aM (f:E):S:=fun env M=>bM (f env M) fun d M1=>some (.rt d,M1)
theorem aZ (he:SE X Wx .val e f):SS X Wx (.Return (some e) pos) (aM f):=by
 refine kO (zeO he) ?_;rintro D st H ⟨P0,H0,P,Os,env,M,out,M',k,e,q⟩;unfold aM at e;rcases gC e with⟨d,M1,e1,e⟩ |⟨c,n,e1,rfl⟩
 ·cases e;exact⟨P0,H0,P,Os,env,M,_,_,k,e1,fun P1 v1 H1 l1 h1 i1=>q P1 v1 H1 (k.base.trans l1) h1 i1⟩
 ·exact⟨P0,H0,P,Os,env,M,_,_,k,e1,q⟩
noncomputable def yW (f:E):S:=fun env M=>bM (f env M) fun _ M1=>some (.nx env,M1)
theorem Oj (he:SE X Wx .bor e f)(hs:swapsWith e none pos.line X.env=pure false:=by rfl):SS X Wx (.Expr e pos) (yW f):=by
 refine kO (Fg he hs) ?_;rintro D st H ⟨P0,H0,P,Os,env,M,out,M',k,e,q⟩;unfold yW at e;rcases gC e with⟨d,M1,e1,e⟩ |⟨c,n,e1,rfl⟩
 ·cases e;exact⟨P0,H0,P,Os,env,M,_,_,k,e1,fun P1 v1 H1 l1 h1 i1=>q _ _ _ _ (l1.lt k.hk) (k.next l1 h1)⟩
 ·exact⟨P0,H0,P,Os,env,M,_,_,k,e1,q⟩
noncomputable def bO (c:E) (f g:S):S:=fun env M=>bM (c env M) fun d M1=>match d with
 |.bl b=>if b=true then f env M1 else g env M1
 |_=>none
theorem bT (hc:ST X Wx c t)(ha:SB X Wx a f)(hb:SB X Wx b g):SS X Wx (.If c a b pos) (bO t f g):=by
  refine kO (zgF hc ha hb) ?_;rintro D st H ⟨P0,H0,P,Os,env,M,out,M',k,e,q⟩;unfold bO at e;rcases gC e with⟨d,M1,e1,e⟩ |⟨c,n,e1,rfl⟩
  · cases d<;>simp only[reduceCtorEq]at e
    rename_i b;refine gF k e1 ⟨b,rfl,fun P1 H1 l1 h1=>?_⟩
    cases b with
    |true=>
      rw[xab rfl]at e ⊢;exact⟨P0,H0,P1,Os,env,M1,_,_,k.next l1 h1,e,q.lt (l1.lt k.hk)⟩
    |false=>
      rw[xad (by decide)]at e ⊢;exact⟨P0,H0,P1,Os,env,M1,_,_,k.next l1 h1,e,q.lt (l1.lt k.hk)⟩
  · exact gF k e1 q
noncomputable def lY (i:Nat):S:=fun env M=>match env[i]? with
 |some (.own ds)=>some (.nx (env.set i (.val (.lst ds))),M)
 |_=>none
theorem NZ (h:SB X Wx ss g):SB X Wx ss (aq (lY i) g):=by
 refine LQ h ?_;rintro D st H ⟨P0,H0,P,Os,env,M,out,M',k,e,q⟩;unfold aq lY at e;split at e
 ·rename_i e1 M1 ef;split at ef
  ·rename_i ds es;cases ef;obtain⟨P1,Os1,l1,k1⟩:=k.frz es;exact⟨P0,H0,P1,Os1,_,_,_,_,k1,e,q.lt l1⟩
  ·cases ef
 ·rename_i ho;split at e
  ·rename_i es;exact(ho _ _ (by rw[es])).elim
  ·cases e
noncomputable def sI (i:Nat) (f:E):S:=fun env M=>match env[i]? with
 |some (.own ds)=>bM (f env M) fun d M1=>if ds.length<sizeLine then some (.nx (env.set i (.own (ds ++ [d]))),M1) else none
 |_=>none
theorem zeJ (hN:X.N[i]? =some x)(hv:yp X.env.scope x)(he:SE X Wx .val e f)(hd:(x==("__debug__":Str))=false:=by x_go)(hcd:(x==("__classdict__":Str))=false:=by x_go)
  (hfew:((backTo q (starEach [e] X.env)).all (fun x=> !x.1) && (backToKw q (keywordEach [] X.env)).all (fun x=>x.1.isSome) && decide ([e].length + ([]:List Keyword).length + (if ([]:List Keyword).isEmpty then 0 else 1)<30))=true:=by rfl)
  (hline:(p.endLine==q.line)=true:=by rfl) (hs:starEach [e] X.env=(false,eval e X.env)::starEach [] X.env:=by rfl) (hw:swapsWith (.Call (.Attribute (.Name x p0) "append" p) [e] [] q) none pos.line X.env=pure false:=by rfl):
  SS X Wx (.Expr (.Call (.Attribute (.Name x p0) "append" p) [e] [] q) pos) (sI i f):=by
 refine kO (Fg (E_ xbY xdw xdx J4 (Fb hN hv hd hcd) (su he vd hs) rfl hfew hline hs rfl) hw) ?_;rintro D st H ⟨P0,H0,P,Os,env,M,out,M',k,e,q⟩;unfold sI at e;split at e
 ·rename_i ds es;obtain⟨a,vs,o1,o2,o3,o4⟩:=k.slot i _ es;refine⟨.ref a,uc o2,.inl ⟨rfl,vs,.inl (.inl o3)⟩,?_⟩;rcases gC e with⟨d,M1,e1,e⟩ |⟨c,n,e1,rfl⟩
  ·split at e
   ·rename_i hz;cases e;refine aV k e1 fun P1 v1 H1 l1 h1 i1=>?_;have k1:=k.next l1 h1
    obtain⟨a',vs',o1',o2',o3',o4'⟩:=k1.slot i _ es;have ea:a'=a:=by
     have z:=o2'.symm.trans o2;cases z;rfl
    subst ea;refine⟨a',vs',v1,rfl,rfl,o3',by rw[o4'.len];exact hz,?_⟩;obtain⟨l2,k2⟩:=k1.chg es (uc o1') o3' (aD.append o4' (aD.one i1));exact q _ _ _ _ ((l1.lt k.hk).trans l2) k2
   ·cases e
  ·exact aV k e1 q
 ·cases e
def Wk (K:Fgx)(P1:Pl)(H1:Hp)(J:It)(ds:List D):Prop:=∀P H,Lt P1 H1 P H->(∀k,k<ds.length->J.go k H)/\(∀k,ds.length<=k->k<=ds.length->J.stop k H)/\∀k x H',J.yld k H x H'->k<ds.length->H'=H/\∃d,ds[k]? =some d/\Is K P H d x
noncomputable def IQ (K:Fgx) (mg:Mgx) (Wx:XW) (P0:Pl) (H0:Hp) (P:Pl) (H:Hp) (M':Mm) (R:It->Hp->Prop):ResA->Prop
 |.v ds=>∀P' H' J,LtE P H P' H'->Hk K mg P' H' M'->Wk K P' H' J ds->R J H'
 |.x c n=>Wx P0 H0 M' c n
noncomputable def tI (K:Fgx) (mg:Mgx) (Wx:XW) (fs:EA):TI:=fun st H R=>∃P0 H0 P Os env M r M',Ok K mg P0 H0 P Os H M st env/\fs env M=some (r,M')/\IQ K mg Wx P0 H0 P H M' R r
def SI (X:Cx)(Wx:XW)(tg iter:Expr)(fs:EA):Prop:=PI X tg iter (tI X.K X.mg Wx fs)
theorem Br (h:PI X tg iter t)(w:∀σ H R,t' σ H R->t σ H R):PI X tg iter t':=fun pins s σ H R I hw=>h pins s σ H R I (w σ H R hw)
noncomputable def loopS (i:Nat) (body:S):List D->Env->Mm->OS
  | [],env,M=>some (.nx env,M)
  | d :: ds, env, M => if i < env.length then (match body (env.set i (.val d)) M with
    |some (.nx e,M1)=>loopS i body ds e M1
    |some (.ct e,M1)=>loopS i body ds e M1
    |some (.bk e,M1)=>some (.nx e,M1)
    |some (.rt d,M1)=>some (.rt d,M1)
    |some (.ex c n,M1)=>some (.ex c n,M1)
    |none=>none) else none
noncomputable def dW (i:Nat) (fs:EA) (body:S):S:=fun env M=>match fs env M with
 |some (.v ds,M1)=>loopS i body ds env M1
 |some (.x c n,M1)=>some (.ex c n,M1)
 |none=>none
theorem zbr {K:Fgx}{mg:Mgx}{P0 P1:Pl}{H0 H1:Hp}{Os:List (Option Addr)}{M M':Mm}{st:L2.St}{env:Env}{i:Nat}{b:S}{J:It}{ds:List D}{out:Out}{D:Ends}(k:Ok K mg P0 H0 P1 Os H1 M st env)(wk:Wk K P1 H1 J ds)
  (h:loopS i b ds env M=some (out,M')) (q:Post K mg Wx P0 H0 P1 H1 M' D out):
  ∃W:Nat->Nat->L2.St->Hp->Prop,(∃m,W 0 m st H1)/\∀j m σ H,W j m σ H->
   (J.stop j H/\D.nx σ H)\/(J.go j H/\∃Nn:L2.St->Hp->Prop,(∀σ' H',Nn σ' H'->∃m',m'<m/\W (j + 1) m' σ' H')/\∀x H',J.yld j H x H'->Ea i x σ H' fun σ2 H2=>tS K mg Wx b {D with nx:=Nn,ct:=Nn,bk:=D.nx} σ2 H2):=by
 refine⟨fun j m σ H=>m=ds.length - j/\j<=ds.length/\∃P Os' M1 env',Lt P1 H1 P H/\Ok K mg P0 H0 P Os' H M1 σ env'/\loopS i b (ds.drop j) env' M1=some (out,M'),⟨ds.length,by simp,xbg _,P1,Os,M,env,Lt.refl _ _,k,h⟩,?_⟩;rintro j m σ H ⟨rfl,hj,P,Os',M1,env',lt,k',h'⟩;obtain⟨w1,w2,w3⟩:=wk P H lt
 by_cases hlt:j<ds.length
 ·refine .inr ⟨w1 j hlt,fun σ' H'=>∃P Os' M1 env',Lt P1 H1 P H'/\Ok K mg P0 H0 P Os' H' M1 σ' env'/\loopS i b (ds.drop (j + 1)) env' M1=some (out,M'),fun σ' H' z=>⟨ds.length - (j + 1),by omega,rfl,hlt,z⟩,fun x H' y=>?_⟩;obtain⟨e3,d,ed,iv⟩:=w3 j x H' y hlt;subst e3;have ed':ds.drop j=d::ds.drop (j + 1):=by
   rw[xa6 hlt];rw[xag hlt]at ed;rw[xav ed]
  rw[ed']at h';simp only[loopS]at h';split at h'
  ·rename_i hi;have k2:=k'.asg hi iv;split at h'
   ·rename_i e M2 eb;exact⟨P0,H0,P,_,_,M1,_,_,k2,eb,fun P' Os2 H2 st2 l2 k3=>⟨P',Os2,_,e,lt.trans l2,k3,h'⟩⟩
   ·rename_i e M2 eb;exact⟨P0,H0,P,_,_,M1,_,_,k2,eb,fun P' Os2 H2 st2 l2 k3=>⟨P',Os2,_,e,lt.trans l2,k3,h'⟩⟩
   ·rename_i e M2 eb;cases h';exact⟨P0,H0,P,_,_,M1,_,_,k2,eb,fun P' Os2 H2 st2 l2 k3=>q P' Os2 H2 st2 (lt.trans l2) k3⟩
   ·rename_i e M2 eb;cases h';exact⟨P0,H0,P,_,_,M1,_,_,k2,eb,q⟩
   ·rename_i c n M2 eb;cases h';exact⟨P0,H0,P,_,_,M1,_,_,k2,eb,q⟩
   ·cases h'
  ·cases h'
 ·have ej:j=ds.length:=by omega
  subst ej;rw[xcD]at h';cases h';exact .inl ⟨w2 _ (xaf _) (xaf _),q P Os' H σ lt k'⟩
theorem wI (hp:PassesOwn (model X.prog X.w) X.A X.env X.xe)(hc:X.calm=true)(hN:X.N.Nodup)(hi:X.N[i]? =some x)(hx:Loc X.env.scope x)(hI:SI X Wx (.Name x p) iter fs)(hb:SB X Wx body b)
  (hf:X.fn x=true\/X.env.scope.names.lookup x=some .local:=by first |exact .inl rfl |exact .inr rfl) (hs:∀x,foldedSetIterable iter X.env x=pure x:=by intro _;rfl):SS X Wx (.For (.Name x p) iter body [] pos) (dW i fs b):=by
 refine kO (T_ hp hc hI (T6 hN hi hx hf) hb hs) ?_;rintro D st H ⟨P0,H0,P,Os,env,M,out,M',k,e,q⟩;unfold dW at e;split at e
 ·rename_i ds M1 ef;exact⟨P0,H0,P,Os,env,M,_,_,k,ef,fun P1 H1 J l1 h1 wk=>zbr (k.next l1 h1) wk e (q.lt (l1.lt k.hk))⟩
 ·rename_i c n M1 ef;cases e;exact⟨P0,H0,P,Os,env,M,_,_,k,ef,q⟩
 ·cases e
noncomputable def fH (f:E):EA:=fun env M=>match f env M with
 |some (.v (.lst ds),M1)=>some (.v ds,M1)
 |some (.x c n,M1)=>some (.x c n,M1)
 |_=>none
theorem zf (h:SE X Wx .val e f):SI X Wx tg e (fH f):=by
 refine Br (Fd h) ?_;rintro st H R ⟨P0,H0,P,Os,env,M,r,M',k,e,q⟩;unfold fH at e;split at e
 ·rename_i ds M1 ef;cases e;refine⟨P0,H0,P,Os,env,M,_,_,k,ef,fun P1 v1 H1 l1 h1 i1=>?_⟩;obtain⟨a,vs,rfl,ra,is⟩:=i1;refine⟨a,rfl,⟨vs,ra.imp (·.2) id⟩,q P1 H1 _ l1 h1 fun P2 H2 l2=>?_⟩;have ra2:=l2.rda ra;have is2:=aD.lt l2 is;have sq:bU X.K H2 a vs:=ra2.imp (·.2) id;refine⟨fun j hj=>?_,fun j h1 h2=>⟨vs,sq,by rw[is2.len];exact h1⟩,fun j x H' y hj=>⟨y.1,?_⟩⟩
  ·obtain⟨v,ev,_⟩:=aD.get is2 (xag hj);exact⟨vs,v,sq,ev⟩
  ·obtain⟨v,ev,iv⟩:=aD.get is2 (xag hj);have:=y.2 vs sq;rw[ev]at this;cases this;exact⟨_,xag hj,iv⟩
 ·rename_i c n M1 ef;cases e;exact⟨P0,H0,P,Os,env,M,_,_,k,ef,q⟩
 ·cases e
end
abbrev G:=List D->Mm->O
noncomputable def nR (K:Fgx) (mg:Mgx) (n:Nat) (g:G):Sp:=fun vs H Q _=>vs.length=n/\∃P M ds d M',Hk K mg P H M/\aD K P H ds vs/\g ds M=some (.v d,M')/\∀P' v H',LtE P H P' H'->Hk K mg P' H' M'->Is K P' H' d v->Q v H'
noncomputable def cZ (o:OS):O:=match o with
 |some (.rt d,M)=>some (.v d,M)
 |some (.nx _,M)=>some (.v .non,M)
 |some (.ex c n,M)=>some (.x c n,M)
 |_=>none
noncomputable def bF (n:Nat) (b:S):G:=fun ds M=>cZ (b (ds.map .val ++ List.replicate (n - ds.length) .un) M)
theorem Ot {K:Fgx}{mg:Mgx}{P:Pl}{H:Hp}{M:Mm}{N:List Str}{ds:List D}{vs:List V}(hk:Hk K mg P H M)(hl:vs.length<=N.length)(h:aD K P H ds vs):
  Ok K mg P H P (List.replicate N.length none) H M (L2.start N vs) (ds.map .val ++ List.replicate (N.length - ds.length) .un):=by
 have hd:=h.len;refine⟨hk,LtE.refl P H,hk.here,fun i s e=>?_,fun a z=>?_,fun i j a e1 _=>?_,by simp;omega,by simp[L2.start];omega⟩
 ·have e0:((List.replicate N.length (none:Option Addr))[i]?).join=none:=by
   rw[xaZ]
   split<;>rfl
  rw[e0]
  by_cases hi:i<ds.length
  ·rw[xaH (by simpa using hi),xan,xag hi]at e;simp only[xbb,xdk]at e;subst e;obtain⟨v,ev,p⟩:=h.get (xag hi);refine⟨v,?_,p⟩;unfold L2.start;rw[xaH (by rw[xal];omega),xan,ev];rfl
  ·rw[xaw (by simpa using hi),xaZ]at e;split at e
   ·cases e;exact True.intro
   ·cases e
 ·exact absurd (xdy z) (by simp)
 ·rw[xaZ]at e1;split at e1<;>cases e1
structure FunD (K:Fgx)(x qual:Str)(st:Stmt)(f:Addr)(fd:FuncData):Prop where
 ex:∃(oc:Value) (od:Option Addr) (dV kV doc pm:Value) (an:Option Addr) (cdv ct:Value) (osl:Array (Option Value)),
  fd=PySem.W.fnOf x qual (b_ st) (bJ st) (aJ st) dV kV doc pm an cdv ct/\K.lookup f=some ⟨oc,od,.func fd,osl⟩/\PySem.W.codeIn K cdv qual=true
 kp:PySem.W.keepIn K (.ref f)=true
theorem gP {K:Fgx}{x qual:Str}{st:Stmt}{f:Addr}{oc:Value}{od an:Option Addr}{osl:Array (Option Value)}{dV kV doc pm cdv ct:Value}(l:K.lookup f=some ⟨oc,od,.func (PySem.W.fnOf x qual (b_ st) (bJ st) (aJ st) dV kV doc pm an cdv ct),osl⟩)
  (c:PySem.W.codeIn K cdv qual=true) (k:PySem.W.keepIn K (.ref f)=true):FunD K x qual st f (PySem.W.fnOf x qual (b_ st) (bJ st) (aJ st) dV kV doc pm an cdv ct):=⟨⟨oc,od,dV,kV,doc,pm,an,cdv,ct,osl,rfl,l,c⟩,k⟩
section
variable {P:Program}{w:World}{K:Fgx}{mg:Mgx}{base:Heap}{k:Nat}{x qual:Str}{st:Stmt}{f:Addr}{fd:FuncData}{N ps:List Str}{b:S}
def W0:XW:=fun _ _ _ _ _=>False
abbrev q_ (P:Program)(w:World)(K:Fgx)(mg:Mgx)(base:Heap)(N:List Str)(qual:Str)(st:Stmt)(f:Addr)(cdv:Value)(A:Around)(outer:List PySem.Env)(s:Shared)(H:Hp)(E:XK):Cx:=(cY fO P w K mg base N qual (aJ st) f cdv A outer s H E).nox
theorem gO (F:FunD K x qual st f fd)(S:FnScope N ps (aJ st))(hp:ps.length<=N.length)
  (hb:∀cdv A outer s H E,Room k (A.deeper (envOfC qual (aJ st) s.heap.objs.size f cdv))->SB (q_ P w K mg base N qual st f cdv A outer s H E) W0 (bJ st) b):FnOk P w K mg base fO (k + 1) f fd ps (nR K mg ps.length (bF N.length b)):=by
 obtain⟨oc,od,dV,kV,doc,pm,an,cdv,ct,osl,rfl,lk,hcd⟩:=F.ex;refine Q_ lk hcd S (fun vs H Q E h=>h.1) fun A outer s H vs Q E hr h=>?_;obtain⟨hl,Pl,M,ds,d,M',hk,is,e,q⟩:=h;refine⟨_,i_.nox (hb cdv A outer s H E hr),?_⟩;unfold bF cZ at e;have st0:=Ot (N:=N) hk (by omega) is;split at e
 ·rename_i d' M2 eb;cases e;exact⟨Pl,H,Pl,_,_,M,_,_,st0,eb,fun P' v H' l h i=>q P' v H' l h i⟩
 ·rename_i env M2 eb;cases e;exact⟨Pl,H,Pl,_,_,M,_,_,st0,eb,fun P' Os' H' st' _ k'=>q P' .non H' k'.base k'.hk rfl⟩
 ·rename_i c n M2 eb;cases e
 ·cases e
def aY (P:Program)(w:World)(K:Fgx)(mg:Mgx)(base:Heap)(k:Nat)(f:Str)(n:Nat)(g:G):Prop:=
 ∃fa fd ps ds dvs sp,mg f=some (.ref fa)/\PySem.W.keepIn K (.ref fa)=true/\FnOk P w K mg base fO k fa fd ps sp/\Binds K fd ps ds/\Vals dvs ds/\∀vs H Q E,nR K mg n g vs H Q E->sp (vs ++ dvs) H Q E
theorem YX (F:FunD K x qual st f fd)(S:FnScope N ps (aJ st))(hp:ps.length<=N.length)(hm:mg x=some (.ref f))(hd:Binds K fd ps [])
  (hb:∀cdv A outer s H E,Room k (A.deeper (envOfC qual (aJ st) s.heap.objs.size f cdv))->SB (q_ P w K mg base N qual st f cdv A outer s H E) W0 (bJ st) b):aY P w K mg base (k + 1) x ps.length (bF N.length b):=
 ⟨f,fd,ps,[],[],_,hm,F.kp,gO F S hp hb,hd,.nil,fun vs H Q E h=>by rw[xax];exact h⟩
theorem aY.mono (a:aY P w K mg base j x n g)(h:j<=k):aY P w K mg base k x n g:=by
 obtain⟨fa,fd,ps,ds,dvs,sp,h1,h2,h3,h4⟩:=a;exact⟨fa,fd,ps,ds,dvs,sp,h1,h2,h3.mono h,h4⟩
end
section
variable {X:Cx}{Wx:XW}{m:Mode}
noncomputable def cC (g:G) (fs:EA):E:=fun env M=>cP (fs env M) fun ds M1=>match g ds M1 with
 |some (.v d,M2)=>some (.v d,M2)
 |_=>none
theorem cM.len {K:Fgx}{P:Pl}{H:Hp}:∀{ds:List D} {vs:List V},cM K P H m ds vs->vs.length=ds.length
  | [],_,h=>by rw[show _=[] from h];rfl
  |d::ds,_,h=>by
    obtain⟨v,r,e,_,q⟩:=h;subst e
    simp[cM.len q]
def nY (n:Nat)(fs:EA):Prop:=∀env M ds M',fs env M=some (.v ds,M')->ds.length=n
theorem cnt_nil:nY 0 au:=fun env M ds M' e=>by cases e;rfl
theorem cnt_cons (h:nY n fs):nY (n + 1) (aA f fs):=fun env M ds M' e=>by
 unfold aA at e;split at e
 ·split at e
  ·rename_i ef;cases e;rw[xao,h _ _ _ _ ef]
  ·cases e
  ·cases e
 ·cases e
 ·cases e
theorem cW {k n:Nat}{f:Str}{g:G}{e:Expr}{es:List Expr}{fs:EA}{p pos:Pos}(a:aY X.prog X.w X.K X.mg X.base k f n g)(hr:Room k X.A)(hg:Gl X f)(ha:SA X Wx .val (e::es) fs)(hn:nY n fs)(hdb:(f==("__debug__":Str))=false:=by x_go)
  (he:starEach (e::es) X.env=(false,eval e X.env)::starEach es X.env:=by rfl) (hpl:(backTo pos (starEach es X.env)).any (·.1)=false:=by rfl):SE X Wx m (.Call (.Name f p) (e::es) [] pos) (cC g fs):=by
 obtain⟨fa,fd,ps,ds,dvs,sp,hm,hk,F,hb,hv,himp⟩:=a;refine cB (zck F hr hg hm hk hb hv Bo ha hdb he hpl) ?_;rintro st H Q ⟨P0,H0,P,Os,env,M,r,M',k,e,q⟩;unfold cC at e;rcases mX e with⟨ds,M1,e1,e⟩ |⟨c,n,e1,rfl⟩
 ·split at e
  ·rename_i d M2 eg;cases e;exact⟨P0,H0,P,Os,env,M,_,_,k,e1,fun P1 vs H1 l1 h1 i1=>himp _ _ _ _ ⟨by rw[i1.len];exact hn _ _ _ _ e1,P1,M1,ds,d,_,h1,i1.iss,eg,fun P2 v H2 l2 h2 i2=>q P2 v H2 (l1.trans l2) h2 (cO.of h2 i2)⟩⟩
  ·cases e
 ·exact⟨P0,H0,P,Os,env,M,_,_,k,e1,q⟩
end
def zF (i j:Int):Prop:=pN i j\/(i.natAbs.log2<10000/\j.natAbs.log2<10000)
theorem Qf (h:i.natAbs.log2<10000):Builtin.Int.intBits i<=10001:=by
 unfold Builtin.Int.intBits
 split<;>omega
theorem zF.ok (h:zF i j):IntMulOk i j:=by
 rcases h with h |⟨h1,h2⟩
 ·exact h.ok
 ·exact mulOk_of_bits (Qf h1) (Qf h2) (by decide)
theorem Bm:bY X (binaryOp .Mult) (rI zF fun i j=>.int (i * j)):=EY fun _ _ _ _ _ _ _ hc q=>mul_int q hc.ok
section
variable {X:Cx}{pins:Pnx}{σ:L2.St}{H:Hp}{s:Shared}{K:Fgx}
noncomputable def Ug (K:Fgx):R2:=fun x y H Q=>∃l b xs zs,x=.ref l/\y=.ref b/\bU K H l xs/\bU K H b zs/\xs.length + zs.length<=sizeLine/\∀p,H p=none->Q (.ref p) (upd H p (.lst (xs ++ zs)))
theorem zdl:bY X (binaryOp .Add) (Ug X.K):=by
 intro pins s σ H x y v u Q I rx ry h;obtain⟨l,b,xs,zs,rfl,rfl,hH,hB,hz,q⟩:=h;cases rx;cases ry;obtain⟨z,its,r,⟨cls,dd,data,sl⟩,ho,hc,n,hd⟩:=sql I hH;obtain⟨z2,its2,r2,⟨cls2,dd2,data2,sl2⟩,ho2,hc2,n2,hd2⟩:=sql I hB;simp only at hc hd hc2 hd2;subst hc hd hc2 hd2;have hl:=r.length;have hl2:=r2.length;refine concat_meets ⟨_,ho,rfl⟩ ⟨_,ho2,rfl⟩ noFill_list_add seq_list_add F.slot_list_add F.entry_list_add (F.args_list_add_2 _ _) (list_addW l b its.toArray its2.toArray n n2 dd dd2 sl sl2 (by rw[xae,xae];omega)) ⟨ho,ho2,?_⟩;have ea:its.toArray ++ its2.toArray=(its ++ its2).toArray:=by simp
 rw[ea];exact⟨.ref _,_,I.lnew (t':=s.toks) (r.append r2) (by rw[xaj];omega),rfl,q _ I.fresh⟩
theorem Tp {P:Pl}{H:Hp}{ds:List D}{vs:List V}{Q:VK}(hn:∀p,H p=none->¬ P.bd p)(h:aD K P H ds vs)(q:∀u H',Same H H'->Is K P H' (.lst ds) u->Q u H'):∀p,H p=none->Q (.ref p) (upd H p (.lst vs)):=fun p hp=>by
 have s:=nM (o:=.lst vs) hp;exact q _ _ s ⟨p,vs,rfl,.inl ⟨hn p hp,.inl bW⟩,aD.lt ⟨xaf _,fun _ _=>rfl,fun _ z=>.inl z,fun a o e _=>s a o e,fun a z=>s.free z⟩ h⟩
theorem Kf {P:Pl}{H:Hp}{ds:List D}{vs:List V}{Q:VK}(h:aD K P H ds vs)(q:∀u H',Same H H'->Is K P H' (.tup ds) u->Q u H'):∀p,H p=none->Q (.ref p) (upd H p (.tup vs)):=fun p hp=>by
 have s:=nM (o:=.tup vs) hp;exact q _ _ s ⟨p,vs,rfl,.inl (.inl bW),aD.lt ⟨xaf _,fun _ _=>rfl,fun _ z=>.inl z,fun a o e _=>s a o e,fun a z=>s.free z⟩ h⟩
noncomputable def bR:D->D->Option D
 |.int i,.int j=>some (.int (i + j))
 |.str i,.str j=>if i.length + j.length<=sizeLine then some (.str (i ++ j)) else none
 |.lst xs,.lst ys=>if xs.length + ys.length<=sizeLine then some (.lst (xs ++ ys)) else none
 |_,_=>none
noncomputable def xJ (K:Fgx):R2:=fun x y H Q=>kY (fun i j=>.int (i + j)) x y H Q\/(∃i j,x=.str i/\y=.str j/\i.length + j.length<=sizeLine/\Q (.str (i ++ j)) H)\/Ug K x y H Q
theorem kJ:bY X (binaryOp .Add) (xJ X.K):=zfn.or (zaS.or zdl)
theorem kW:jj K (xJ K) bR:=fun P H d e z v w Q h h1 h2 hn q=>by
 unfold bR at h;split at h
 ·cases h;cases h1;cases h2;exact .inl ⟨_,_,rfl,rfl,q _ H (Same.refl H) rfl⟩
 ·split at h
  ·rename_i hl;cases h;cases h1;cases h2;exact .inr (.inl ⟨_,_,rfl,rfl,hl,q _ H (Same.refl H) rfl⟩)
  ·cases h
 ·split at h
  ·rename_i hl;cases h;obtain⟨a,vs,rfl,r1,s1⟩:=h1;obtain⟨b,ws,rfl,r2,s2⟩:=h2;exact .inr (.inr ⟨a,b,vs,ws,rfl,rfl,r1,r2,by rw[s1.len,s2.len];exact hl,Tp hn (s1.append s2) q⟩)
  ·cases h
 ·cases h
noncomputable def oI (g:Int->Int->Option D):D->D->Option D
 |.int i,.int j=>g i j
 |_,_=>none
theorem Bh (h:oI g d e=some z)(h1:cj K P H d v)(h2:cj K P H e w):∃i j,v=.int i/\w=.int j/\g i j=some z:=by
 unfold oI at h;split at h
 ·cases h1;cases h2;exact⟨_,_,rfl,rfl,h⟩
 ·cases h
def dU:=oI fun i j=>some (.int (i - j))
theorem xH:jj K (kY fun i j=>.int (i - j)) dU:=fun P H d e z v w Q h h1 h2 _ q=>by
 obtain⟨i,j,rfl,rfl,h⟩:=Bh h h1 h2;cases h;exact⟨i,j,rfl,rfl,q _ H (Same.refl H) rfl⟩
noncomputable def eX:=oI fun i j=>if i.natAbs<18446744073709551616\/j.natAbs<18446744073709551616\/(i.natAbs.log2<10000/\j.natAbs.log2<10000) then some (.int (i * j)) else none
theorem Bw:jj K (rI zF fun i j=>.int (i * j)) eX:=fun P H d e z v w Q h h1 h2 _ q=>by
 obtain⟨i,j,rfl,rfl,h⟩:=Bh h h1 h2;split at h
 ·rename_i hg;cases h;exact⟨i,j,rfl,rfl,by unfold zF pN;rw[show(2:Int) ^ 64=18446744073709551616 from rfl];exact hg.elim (fun z=>.inl (.inl ⟨by omega,by omega⟩)) (fun z=>z.elim (fun z=>.inl (.inr ⟨by omega,by omega⟩)) .inr),q _ H (Same.refl H) rfl⟩
 ·cases h
noncomputable def kI:=oI fun i j=>if 0<j/\j.natAbs<1073741824 then some (.int (i / j)) else none
theorem vf:jj K (rI zE fun i j=>.int (i / j)) kI:=fun P H d e z v w Q h h1 h2 _ q=>by
 obtain⟨i,j,rfl,rfl,h⟩:=Bh h h1 h2;split at h
 ·rename_i hg;cases h;exact⟨i,j,rfl,rfl,⟨hg.1,by omega⟩,q _ H (Same.refl H) rfl⟩
 ·cases h
def oMod:=oI fun i j=>if 0<j then some (.int (i % j)) else none
theorem nu:jj K (rI (fun _ j=>0<j) fun i j=>.int (i % j)) oMod:=fun P H d e z v w Q h h1 h2 _ q=>by
 obtain⟨i,j,rfl,rfl,h⟩:=Bh h h1 h2;split at h
 ·rename_i hg;cases h;exact⟨i,j,rfl,rfl,hg,q _ H (Same.refl H) rfl⟩
 ·cases h
noncomputable def dw:=oI fun i j=>if 0<=j/\j.natAbs<=1000000/\i.natAbs<18446744073709551616 then some (.int (i ^ j.toNat)) else none
theorem yU:jj K (rI wL fun i j=>.int (i ^ j.toNat)) dw:=fun P H d e z v w Q h h1 h2 _ q=>by
 obtain⟨i,j,rfl,rfl,h⟩:=Bh h h1 h2;split at h
 ·rename_i hg;cases h;exact⟨i,j,rfl,rfl,by unfold wL;rw[show(2:Nat) ^ 64=18446744073709551616 from rfl];exact⟨hg.1,by omega,hg.2.2⟩,q _ H (Same.refl H) rfl⟩
 ·cases h
def aH (c:Cp)(a b:D):Option D:=(cQ c a b).map .bl
theorem Bv:jj K (MJ K c) (aH c):=fun P H d e z v w Q h h1 h2 _ q=>by
 unfold aH at h;rw[xac]at h;obtain⟨b,h,rfl⟩:=h;exact Ye h h1 h2 (q _ H (Same.refl H) rfl)
noncomputable def aN:D->D->Option D
 |.lst ds,.int i=>cu ds i
 |.tup ds,.int i=>cu ds i
 |.str z,.int i=>if z.length<=sizeLine then(cu z.cps.toList i).map fun c=>.str ⟨#[c]⟩ else none
 |_,_=>none
noncomputable def MN (K:Fgx):R2:=fun x y H Q=>xK K x y H Q\/xO K x y H Q\/xM x y H Q
theorem ZJ:nZ X (MN X.K):=ZK.or (ZP.or ZL)
theorem P_ (h:cu ds i=some d)(q:aD K P H ds vs):∃u,cu vs i=some u/\Is K P H d u:=by
 unfold cu at h ⊢;rw[q.len]
 cases e:kj ds.length i with
 |none=>rw[e]at h;cases h
 |some j=>rw[e]at h;exact q.get h
theorem zgs:jj K (MN K) aN:=fun P H d e z v w Q h h1 h2 _ q=>by
 unfold aN at h;split at h
 ·obtain⟨a,vs,rfl,r,s⟩:=h1;cases h2;obtain⟨u,e,p⟩:=P_ h s;exact .inl ⟨a,vs,_,u,rfl,rfl,r,e,q _ H (Same.refl H) p⟩
 ·obtain⟨a,vs,rfl,r,s⟩:=h1;cases h2;obtain⟨u,e,p⟩:=P_ h s;exact .inr (.inl ⟨a,vs,_,u,rfl,rfl,r,e,q _ H (Same.refl H) p⟩)
 ·split at h
  ·rename_i hl;rw[xac]at h;obtain⟨c,h,e⟩:=h;cases e;cases h1;cases h2;exact .inr (.inr ⟨_,_,c,rfl,rfl,hl,h,q _ H (Same.refl H) rfl⟩)
  ·cases h
 ·cases h
noncomputable def fu:List D->Option D
 | [.lst ds]=>some (.int ds.length)
 | [.tup ds]=>some (.int ds.length)
 | [.str z]=>if z.length<=sizeLine then some (.int z.length) else none
 |_=>none
def BJ (K:Fgx):List V->Hp->VK->Prop:=fun xs H Q=>(∃p ys,xs=[.ref p]/\(bU K H p ys\/c7 K H p ys)/\Q (.int ys.length) H)\/∃z,xs=[.str z]/\z.length<=sizeLine/\Q (.int z.length) H
theorem DG:dH X (.builtin "len") (BJ X.K):=Xz.or XC
theorem Fj:mF K (BJ K) fu:=fun P H ds z vs Q h i _ q=>by
 unfold fu at h;split at h
 ·obtain⟨v,ws,rfl,p,rfl⟩:=i;cases h;obtain⟨a,us,rfl,r,s⟩:=p;exact .inl ⟨a,us,rfl,.inl r,q _ H (Same.refl H) (by rw[s.len];rfl)⟩
 ·obtain⟨v,ws,rfl,p,rfl⟩:=i;cases h;obtain⟨a,us,rfl,r,s⟩:=p;exact .inl ⟨a,us,rfl,.inr r,q _ H (Same.refl H) (by rw[s.len];rfl)⟩
 ·split at h
  ·rename_i hl;obtain⟨v,ws,rfl,p,rfl⟩:=i;cases h;cases p;exact .inr ⟨_,rfl,hl,q _ H (Same.refl H) rfl⟩
  ·cases h
 ·cases h
noncomputable def gJ:List D->Option D
 | [.int i,.int j]=>some (.int (if j<i then j else i))
 |_=>none
noncomputable def fB:List D->Option D
 | [.int i,.int j]=>some (.int (if j > i then j else i))
 |_=>none
theorem Fl:mF K (fun xs H Q=>∃i j,xs=[.int i,.int j]/\Q (.int (if j<i then j else i)) H) gJ:=fun P H ds z vs Q h i _ q=>by
 unfold gJ at h;split at h
 ·obtain⟨v,ws,rfl,p,v',ws',rfl,p',rfl⟩:=i;cases h;cases p;cases p';exact⟨_,_,rfl,q _ H (Same.refl H) rfl⟩
 ·cases h
theorem yR:mF K (fun xs H Q=>∃i j,xs=[.int i,.int j]/\Q (.int (if j > i then j else i)) H) fB:=fun P H ds z vs Q h i _ q=>by
 unfold fB at h;split at h
 ·obtain⟨v,ws,rfl,p,v',ws',rfl,p',rfl⟩:=i;cases h;cases p;cases p';exact⟨_,_,rfl,q _ H (Same.refl H) rfl⟩
 ·cases h
end
section
variable {X:Cx}{Wx:XW}{m:Mode}
noncomputable def CW:D->String
 |.non=>"NoneType"
 |.bl _=>"bool"
 |.int _=>"int"
 |.str _=>"str"
 |.tup _=>"tuple"
 |.lst _=>"list"
 |.ref _=>""
theorem Xx:dH X (.builtin "isinstance") (fun xs H Q=>∃(x:V) (T:String) (d:D) (P:Pl) (b:Bool),xs=[x,.ty T]/\cj X.K P H d x/\CW d≠""/\PySem.W.kitOne X.K (.type (CW d)) (.type T)=some b/\Q (.bl b) H):=by
  intro pins s σ H xs us Q I r h;obtain⟨x,T,d,A,b,rfl,i,ne,e,q⟩:=h;obtain⟨u,w',rfl,rx,rT⟩:=vals2 r;cases rT;have fin:∀tk,EP X pins σ Q (.bool b) {s with toks:=tk}:=fun tk=>⟨.bl b,H,I.tok _,rfl,q⟩
  cases d with
  |non=>have hv:x=.non:=i;subst hv;exact Ef I rx (TyOf.non) e fin
  |bl y=>have hv:x=.bl y:=i;subst hv;exact Ef I rx (TyOf.bl y) e fin
  |int y=>have hv:x=.int y:=i;subst hv;exact Ef I rx (TyOf.int y) e fin
  |str y=>have hv:x=.str y:=i;subst hv;exact Ef I rx (TyOf.str y) e fin
  |ref n=>exact absurd rfl ne
  |tup ds=>
    obtain⟨a,vs,rfl,t,_⟩:=i;cases rx;obtain⟨its,_,p,_⟩:=I.tuple t;obtain⟨o,h1,h2,_⟩:=p;exact xaP xd7 I.kIn ⟨o,h1,h2⟩ e (fun z=>nomatch z) fin
  |lst ds=>
    obtain⟨a,vs,rfl,t,_⟩:=i;cases rx;obtain⟨_,its,_,o,h1,h2,_⟩:=sql I t;exact xaP xde I.kIn ⟨o,h1,h2⟩ e (fun z=>nomatch z) fin
theorem zbA {K:Fgx}{P:Pl}{H:Hp}{lo:Int}{n:Nat}:Wk K P H (Dc lo n) ((List.range n).map fun(k:Nat)=>.int (lo + k)):=fun P' H' l=>by
 rw[xal,xdi];refine⟨fun k hk=>hk,fun k h1 _=>h1,fun k x H2 y hk=>⟨y.1,.int (lo + k),?_,y.2⟩⟩;rw[xan,xdY hk];rfl
noncomputable def wZ (fs:EA):EA:=fun env M=>match fs env M with
 |some (.v [.int j],M1)=>if -1000000000<=j/\j<=1000000000 then some (.v ((List.range j.toNat).map fun(k:Nat)=>.int (0 + k)),M1) else none
 |some (.x c n,M1)=>some (.x c n,M1)
 |_=>none
theorem V4 (hg:Gl X "range")(hm:X.mg "range"=none)(ha:SA X Wx .val [a] fs)(hs:starEach [a] X.env=[(false,eval a X.env)]:=by rfl):SI X Wx tg (.Call (.Name "range" p) [a] [] pos) (wZ fs):=by
 refine Br (zbq hg hm ha hs) ?_;rintro st H R ⟨P0,H0,P,Os,env,M,r,M',k,e,q⟩;unfold wZ at e;split at e
 ·rename_i j M1 ef;split at e
  ·rename_i hj;cases e;refine⟨P0,H0,P,Os,env,M,_,_,k,ef,fun P1 vs H1 l1 h1 i1=>?_⟩;obtain⟨v,ws,rfl,p,rfl⟩:=i1;exact⟨j,by rw[show v=.int j from p],by omega,by omega,q P1 H1 _ l1 h1 zbA⟩
  ·cases e
 ·rename_i c n M1 ef;cases e;exact⟨P0,H0,P,Os,env,M,_,_,k,ef,q⟩
 ·cases e
def gD:Env->Mm->Option (Option Int×Mm):=fun _ M=>some (none,M)
noncomputable def fK (f:E):Env->Mm->Option (Option Int×Mm):=fun env M=>match f env M with
 |some (.v (.int i),M1)=>some (some i,M1)
 |_=>none
noncomputable def tP (K:Fgx) (mg:Mgx) (f:Env->Mm->Option (Option Int×Mm)):TO:=fun st H Q=>∃P0 H0 P Os env M i M',Ok K mg P0 H0 P Os H M st env/\f env M=some (i,M')/\∀P' H',LtE P H P' H'->Hk K mg P' H' M'->Q i H'
def yj (X:Cx)(e:Option Expr)(f:Env->Mm->Option (Option Int×Mm)):Prop:=PO X e (tP X.K X.mg f)
theorem T8 (h:PO X e t)(w:∀σ H Q,t' σ H Q->t σ H Q):PO X e t':=fun pins s σ H Q I hw=>h pins s σ H Q I (w σ H Q hw)
theorem zm:yj X none gD:=by
 refine T8 zdc ?_;rintro st H Q ⟨P0,H0,P,Os,env,M,i,M',k,e,q⟩;cases e;exact q P H (LtE.refl P H) k.hk
theorem wH (h:SE X Wx .val e f):yj X (some e) (fK f):=by
 refine T8 (zcp h) ?_;rintro st H Q ⟨P0,H0,P,Os,env,M,i,M',k,e,q⟩;unfold fK at e;split at e
 ·rename_i j M1 ef;cases e;exact⟨P0,H0,P,Os,env,M,_,_,k,ef,fun P1 v H1 l1 h1 i1=>⟨j,i1,q P1 H1 l1 h1⟩⟩
 ·cases e
noncomputable def cI {α:Type} (xs:List α) (lo hi:Option Int):List α:=(xs.drop (HT.bw xs.length 0 lo)).take (HT.bw xs.length xs.length hi - HT.bw xs.length 0 lo)
theorem QC {K:Fgx}{P:Pl}{H:Hp}{ds:List D}{vs:List V}{lo hi:Option Int}(q:aD K P H ds vs):aD K P H (cI ds lo hi) (gj vs lo hi):=by
 unfold cI gj;rw[q.len];exact(q.drop _).take _
noncomputable def zj (d:D) (lo hi:Option Int):Option D:=match d with
 |.lst ds=>some (.lst (cI ds lo hi))
 |.str z=>if z.length<=sizeLine then some (.str (Txt.slice z lo hi)) else none
 |_=>none
noncomputable def xP (f:E) (l h:Env->Mm->Option (Option Int×Mm)):E:=fun env M=>bnd (f env M) fun d M1=>match l env M1 with
  | some (lo, M2) => (match h env M2 with
    |some (hi,M3)=>(zj (vw M3 d) lo hi).map fun z=>(.v z,M3)
    |none=>none)
  |none=>none
theorem GD {e:Expr}{lo hi:Option Expr}{p2 pos:Pos}{f:E}{l h:Env->Mm->Option (Option Int×Mm)}(he:SE X Wx .bor e f)(hl:yj X lo l)(hh:yj X hi h):SE X Wx m (.Subscript e (.Slice lo hi none p2) pos) (xP f l h):=by
 refine cB (T5 (zcs.or zeB) he hl hh) ?_;rintro st H Q ⟨P0,H0,P,Os,env,M,r,M',k,e,q⟩;unfold xP at e;rcases cA e with⟨d,M1,e1,e⟩ |⟨c,n,e1,rfl⟩
 ·split at e
  ·rename_i lo' M2 el;split at e
   ·rename_i hi' M3 eh;rw[xac]at e;obtain⟨z,ez,e⟩:=e;cases e;refine aV k e1 fun P1 v1 H1 l1 h1 i1=>⟨P0,H0,P1,Os,env,M1,_,_,k.next l1 h1,el,fun P2 H2 l2 h2=>⟨P0,H0,P2,Os,env,M2,_,_,(k.next l1 h1).next l2 h2,eh,fun P3 H3 l3 h3=>?_⟩⟩
    have i3:=dz.vw h3 (dz.lt l3 h2 (dz.lt l2 h1 i1));have fin:∀u H',Same H3 H'->Is X.K P3 H' z u->Q u H':=fun u H' s i=>q P3 u H' (l1.trans (l2.trans (l3.trans (LtE.same s)))) (h3.same s) (cO.of (h3.same s) i);generalize vw M' d=d' at i3 ez;unfold zj at ez;split at ez
    ·cases ez;obtain⟨a,vs,rfl,r,s⟩:=i3;exact .inl ⟨a,vs,rfl,r,Tp h3.new (QC s) fin⟩
    ·split at ez
     ·rename_i hz;cases ez;cases i3;exact .inr ⟨_,rfl,hz,fin _ _ (Same.refl _) rfl⟩
     ·cases ez
    ·cases ez
   ·cases e
  ·cases e
 ·exact aV k e1 q
noncomputable def gY (f:E):E:=fun env M=>bnd (f env M) fun d M1=>match d with
 |.lst ds=>some (.v (.ref M1.length),M1 ++ [.lst ds])
 |_=>none
theorem pJ (h:SN X Wx e f):SE X Wx m e (gY f):=by
  refine cB h ?_;rintro st H Q ⟨P0,H0,P,Os,env,M,r,M',k,e,q⟩;unfold gY at e;rcases cA e with⟨d,M1,e1,e⟩ |⟨c,n,e1,rfl⟩
  · cases d<;>simp only[reduceCtorEq]at e
    rename_i ds;cases e;refine⟨P0,H0,P,Os,env,M,_,_,k,e1,ds,rfl,fun P1 a vs H1 l1 h1 ha ba nc ea is=>?_⟩;have hn:P1.n=M1.length:=h1.n
    let P2:Pl:={io:=fun j=>if j=P1.n then a else P1.io j,n:=P1.n + 1,bd:=P1.bd}
    have io : ∀ j, j < P1.n -> P2.io j = P1.io j := fun j hj => xad (by omega);have ioN : P2.io P1.n = a := xab rfl;have l2 : Lt P1 H1 P2 H1 := ⟨xbE _, io, fun _ z => .inl z, fun _ _ e _ => e, fun _ z => z⟩;have le : LtE P H P2 H1 := ⟨xdl l1.n,fun j hj=>(io j (xai hj l1.n)).trans (l1.io j hj),l1.bd,l1.bm,l1.keep,l1.sure,fun j h2 h3=>by
      rcases xa4 j P1.n with z |z
      · rw[io j z];exact l1.nw j h2 z
      · have:j=P1.n:=xbc (xa8 h3) z;rw[this,ioN];exact ha⟩
    have hk2:Hk X.K X.mg P2 H1 (M1 ++ [.lst ds]):=by
      refine⟨by rw[xaj, <-hn];rfl,fun j c ej=>?_,fun i j hi hj e=>?_,fun j hj=>?_,h1.here⟩
      · rcases xa4 j P1.n with z |z
        · rw[xaH (by rw[<-hn];exact z)]at ej;rw[io j z];exact(h1.cell j c ej).lt l2 fun _ z=>z
        · have jl:=(xam.mp ej).1;rw[xaj,xaQ, <-hn]at jl;have:j=P1.n:=by omega
          subst this;rw[xaw (by rw[hn];exact xaf _),hn,xcO]at ej;cases ej;rw[ioN];exact⟨vs,ea,aD.lt l2 is⟩
      · rcases xa4 i P1.n with z |z
        · rcases xa4 j P1.n with y |y
          · rw[io i z,io j y]at e;exact h1.inj i j z y e
          · have:j=P1.n:=xbc (xa8 hj) y;rw[io i z,this,ioN]at e;exact absurd e (nc i z)
        · have iN:i=P1.n:=xbc (xa8 hi) z;rcases xa4 j P1.n with y |y
          · rw[iN,ioN,io j y]at e;exact absurd e.symm (nc j y)
          · rw[iN];exact xbc y (xa8 hj)
      · rcases xa4 j P1.n with z |z
        · rw[io j z];exact h1.bd j z
        · have:j=P1.n:=xbc (xa8 hj) z;rw[this,ioN];exact ba
    exact q P2 _ H1 le hk2 (cO.of hk2 (show Is _ _ _ (.ref _) _ from⟨by show _<P1.n + 1;rw[hn];exact xbe _,by rw[<-hn,ioN]⟩))
  · exact⟨P0,H0,P,Os,env,M,_,_,k,e1,q⟩
noncomputable def fW (f g:E):S:=fun env M=>bM (f env M) fun d M1=>match d with
  | .ref j => (match M1[j]? with
    | some (.lst _) => bM (g env M1) fun y M2 => (match M2[j]? with
      |some (.lst ds)=>if ds.length<sizeLine then some (.nx env,M2.set j (.lst (ds ++ [y]))) else none
      |_=>none)
    |_=>none)
  |_=>none
theorem sZ (ho:SE X Wx .val o f)(he:SE X Wx .val e g)(hbase:attributeBase o "append" X.env (eval o X.env)=eval o X.env:=by rfl)
  (hfew:((backTo q (starEach [e] X.env)).all (fun x=> !x.1) && (backToKw q (keywordEach [] X.env)).all (fun x=>x.1.isSome) && decide ([e].length + ([]:List Keyword).length + (if ([]:List Keyword).isEmpty then 0 else 1)<30))=true:=by rfl)
  (hline:(p.endLine==q.line)=true:=by rfl) (hs:starEach [e] X.env=(false,eval e X.env)::starEach [] X.env:=by rfl) (hw:swapsWith (.Call (.Attribute o "append" p) [e] [] q) none pos.line X.env=pure false:=by rfl):
  SS X Wx (.Expr (.Call (.Attribute o "append" p) [e] [] q) pos) (fW f g):=by
 refine kO (Fg (E_ xbY xdw xdx J4 ho (su he vd hs) hbase hfew hline hs rfl) hw) ?_;rintro D st H ⟨P0,H0,P,Os,env,M,out,M',k,e,q⟩;unfold fW at e;rcases gC e with⟨d,M1,e1,e⟩ |⟨c,n,e1,rfl⟩
 ·cases d<;>simp only[reduceCtorEq]at e
  rename_i j;split at e
  rotate_left
  ·cases e
  rename_i ds0 em0;refine⟨P0,H0,P,Os,env,M,_,_,k,e1,fun P1 v1 H1 l1 h1 i1=>?_⟩;have k1:=k.next l1 h1
  obtain⟨jl,rfl⟩:j<P1.n/\v1=.ref (P1.io j):=i1;obtain⟨vs0,ev0,_⟩:=h1.cell j _ em0;refine⟨.inl ⟨rfl,vs0,.inl (.inl ev0)⟩,?_⟩;rcases gC e with⟨y,M2,e2,e⟩ |⟨c,n,e2,rfl⟩
  ·split at e
   ·rename_i ds em;split at e
    ·rename_i hz;cases e;refine aV k1 e2 fun P2 v2 H2 l2 h2 i2=>?_;obtain⟨vs,ev,is⟩:=h2.cell j _ em;rw[l2.io j jl]at ev;have i3:=Is.lt (Lt.refl P2 H2) i2;refine⟨P1.io j,vs,v2,rfl,rfl,ev,by rw[is.len];exact hz,?_⟩;have eio:P2.io j=P1.io j:=l2.io j jl;have jl2:j<P2.n:=xai jl l2.n;obtain⟨o0,eo0,nf0⟩:=h2.cellAt em;have lc:Lt P2 H2 P2 (upd H2 (P2.io j) (.lst (vs ++ [v2]))):=w6 (h2.bd j jl2) eo0 nf0;obtain⟨l3,l3e,h3⟩:=h2.set (c':=.lst (ds ++ [y])) (o':=.lst (vs ++ [v2])) em ⟨vs ++ [v2],bW,aD.append (aD.lt lc is) (aD.one (Is.lt lc i2))⟩;rw[eio]at l3 l3e h3;exact q _ _ _ _ ((l1.lt k.hk).trans ((l2.lt h1).trans l3)) ((k1.next l2 h2).next l3e h3)
    ·cases e
   ·cases e
  ·exact aV k1 e2 q
 ·exact⟨P0,H0,P,Os,env,M,_,_,k,e1,q⟩
end
section
variable {X:Cx}{Wx:XW}{m:Mode}{pos:Pos}
noncomputable def lU:D->Option D
 |.int i=>some (.int (-i))
 |_=>none
theorem Ma {K:Fgx}:Hv K (rU fun i=>.int (-i)) lU:=fun P H d z v Q h i _ q=>by
 unfold lU at h;split at h
 ·cases h;cases i;exact⟨_,rfl,q _ H (Same.refl H) rfl⟩
 ·cases h
theorem Oa (ho:Dg X (unaryOp op) r)(po:Hv X.K r o)(ha:SE X Wx .bor a f):SE X Wx m (.UnaryOp op a pos) (s1 o f):=
 cB (zgb ho ha) fun _ _ _ h=>zga po h
noncomputable def FT (f:E):E:=fun env M=>bnd (f env M) fun d M1=>match vw M1 d with
 |.lst ds=>some (.v (.lst ds),M1)
 |.tup ds=>some (.v (.lst ds),M1)
 |_=>none
theorem zdu (hg:Gl X "list")(hm:X.mg "list"=none)(he:SE X Wx .bor e f)(hs:starEach [e] X.env=(false,eval e X.env)::starEach [] X.env:=by rfl):SN X Wx (.Call (.Name "list" p) [e] [] pos) (FT f):=by
 refine cB (TY XD hg hm boot_list (su he vd hs) (by x_go) (by x_go) hs rfl) ?_;rintro st H Q ⟨P0,H0,P,Os,env,M,r,M',k,e,q⟩;unfold FT at e;rcases cA e with⟨d,M1,e1,e⟩ |⟨c,n,e1,rfl⟩
 ·refine aV k e1 ?_;have key:∀ds,r=.v (.lst ds)->M'=M1->(∀P1 v1 H1,cj X.K P1 H1 (vw M1 d) v1->∃a vs,v1=.ref a/\(bU X.K H1 a vs\/c7 X.K H1 a vs)/\aD X.K P1 H1 ds vs)->∀P1 v1 H1,LtE P H P1 H1->Hk X.K X.mg P1 H1 M1->cO X.K P1 H1 .bor d v1->
    ∃p ys,[v1]=[V.ref p]/\(bU X.K H1 p ys\/c7 X.K H1 p ys)/\∀l,H1 l=none->Q (.ref l) (upd H1 l (.lst ys)):=by
   rintro ds rfl rfl hv P1 v1 H1 l1 h1 i1;obtain⟨ds',e',q⟩:=q;cases e';obtain⟨a,vs,rfl,sq,is⟩:=hv P1 v1 H1 (dz.vw h1 i1);refine⟨a,vs,rfl,sq,fun p hp=>?_⟩;obtain⟨l2,h2,nc⟩:=wM (vs:=vs) h1 hp;exact q (P1.bar p) p vs _ (l1.trans l2) h2 (l1.sure p hp) (.inr rfl) nc bW (aD.lt (l2.lt h1) is)
  split at e
  ·rename_i ds ev;cases e;exact key ds rfl rfl fun P1 v1 H1 i=>by
    rw[ev]at i;obtain⟨a,vs,e,s,is⟩:=i;exact⟨a,vs,e,.inl s,is⟩
  ·rename_i ds ev;cases e;exact key ds rfl rfl fun P1 v1 H1 i=>by
    rw[ev]at i;obtain⟨a,vs,e,s,is⟩:=i;exact⟨a,vs,e,.inr s,is⟩
  ·cases e
 ·exact aV k e1 q
noncomputable def nj (i j:Nat) (body:S):Nat->Nat->Env->Mm->OS
  |0,_,_,_=>none
  |n + 1,t,env,M=>match M[j]? with
    | some (.lst ds) => (match ds[t]? with
      |none=>some (.nx env,M)
      | some d => if i < env.length then (match body (env.set i (.val d)) M with
        |some (.nx e,M1)=>nj i j body n (t + 1) e M1
        |some (.ct e,M1)=>nj i j body n (t + 1) e M1
        |some (.bk e,M1)=>some (.nx e,M1)
        |some (.rt d,M1)=>some (.rt d,M1)
        |some (.ex c k,M1)=>some (.ex c k,M1)
        |none=>none) else none)
    |_=>none
noncomputable def B_ (n i:Nat) (f:E) (body:S):S:=fun env M=>bM (f env M) fun d M1=>match d with
 |.ref j=>nj i j body n 0 env M1
 |_=>none
theorem za5 {K:Fgx}{mg:Mgx}{P0 P1:Pl}{H0 H1:Hp}{Os:List (Option Addr)}{M M':Mm}{st:L2.St}{env:Env}{i j n:Nat}{b:S}{out:Out}{D:Ends}(k:Ok K mg P0 H0 P1 Os H1 M st env)(hj:j<P1.n)
    (h:nj i j b n 0 env M=some (out,M')) (q:Post K mg Wx P0 H0 P1 H1 M' D out):
    ∃W:Nat->Nat->L2.St->Hp->Prop,(∃m,W 0 m st H1)/\∀t m σ H,W t m σ H->
      ((zG K (P1.io j)).stop t H/\D.nx σ H)\/((zG K (P1.io j)).go t H/\∃Nn:L2.St->Hp->Prop,(∀σ' H',Nn σ' H'->∃m',m'<m/\W (t + 1) m' σ' H')/\∀x H',(zG K (P1.io j)).yld t H x H'->Ea i x σ H' fun σ2 H2=>tS K mg Wx b {D with nx:=Nn,ct:=Nn,bk:=D.nx} σ2 H2):=by
  refine⟨fun t m σ H=>∃P Os' M1 env',Lt P1 H1 P H/\Ok K mg P0 H0 P Os' H M1 σ env'/\nj i j b m t env' M1=some (out,M'),⟨n,P1,Os,M,env,Lt.refl _ _,k,h⟩,?_⟩;rintro t m σ H ⟨P,Os',M1,env',lt,k',h'⟩
  cases m with
  |zero=>cases h'
  |succ m=>
    simp only[nj]at h';split at h'
    · rename_i ds em;obtain⟨vs,ev,is⟩:=k'.hk.cell j _ em;rw[lt.io j hj]at ev;have sq:bU K H (P1.io j) vs:=.inl (.inl ev);split at h'
      · rename_i et;cases h';refine .inl ⟨⟨vs,sq,by rw[is.len];exact xbw.mp et⟩,q P Os' H σ lt k'⟩
      · rename_i d et;obtain⟨v,evt,iv⟩:=is.get et;split at h'
        · rename_i hi;refine .inr ⟨⟨vs,v,sq,evt⟩,fun σ' H'=>∃P Os' M1 env',Lt P1 H1 P H'/\Ok K mg P0 H0 P Os' H' M1 σ' env'/\nj i j b m (t + 1) env' M1=some (out,M'),fun σ' H' z=>⟨m,xbe m,z⟩,fun x H' y=>?_⟩;obtain⟨rfl,y⟩:=y;have ex:=y vs sq;rw[evt]at ex;cases ex;have k2:=k'.asg hi iv;split at h'
          · rename_i e M2 eb;exact⟨P0,H0,P,_,_,M1,_,_,k2,eb,fun P' Os2 H2 st2 l2 k3=>⟨P',Os2,_,e,lt.trans l2,k3,h'⟩⟩
          · rename_i e M2 eb;exact⟨P0,H0,P,_,_,M1,_,_,k2,eb,fun P' Os2 H2 st2 l2 k3=>⟨P',Os2,_,e,lt.trans l2,k3,h'⟩⟩
          · rename_i e M2 eb;cases h';exact⟨P0,H0,P,_,_,M1,_,_,k2,eb,fun P' Os2 H2 st2 l2 k3=>q P' Os2 H2 st2 (lt.trans l2) k3⟩
          · rename_i e M2 eb;cases h';exact⟨P0,H0,P,_,_,M1,_,_,k2,eb,q⟩
          · rename_i c n M2 eb;cases h';exact⟨P0,H0,P,_,_,M1,_,_,k2,eb,q⟩
          · cases h'
        · cases h'
    · cases h'
theorem zcq (n:Nat)(hp:PassesOwn (model X.prog X.w) X.A X.env X.xe)(hc:X.calm=true)(hN:X.N.Nodup)(hi:X.N[i]? =some x)(hx:Loc X.env.scope x)(he:SE X Wx .val e f)(hb:SB X Wx body b)
    (hf:X.fn x=true\/X.env.scope.names.lookup x=some .local:=by first |exact .inl rfl |exact .inr rfl) (hs:∀x,foldedSetIterable e X.env x=pure x:=by intro _;rfl):SS X Wx (.For (.Name x p) e body [] pos) (B_ n i f b):=by
  refine kO (T_ hp hc (Fd he) (T6 hN hi hx hf) hb hs) ?_;rintro D st H ⟨P0,H0,P,Os,env,M,out,M',k,e,q⟩;unfold B_ at e;rcases gC e with⟨d,M1,e1,e⟩ |⟨c,n,e1,rfl⟩
  · cases d<;>simp only[reduceCtorEq]at e
    rename_i j;refine⟨P0,H0,P,Os,env,M,_,_,k,e1,fun P1 v1 H1 l1 h1 i1=>?_⟩;obtain⟨jl,rfl⟩:j<P1.n/\v1=.ref (P1.io j):=i1;have k1:=k.next l1 h1
    have hl:∃vs,bU X.K H1 (P1.io j) vs:=by
      cases n with
      |zero=>cases e
      |succ n=>
        simp only[nj]at e;split at e
        · rename_i ds em;obtain⟨vs,ev,is⟩:=h1.cell j _ em;exact⟨vs,.inl (.inl ev)⟩
        · cases e
    exact⟨P1.io j,rfl,hl,za5 k1 jl e (q.lt (l1.lt k.hk))⟩
  · exact⟨P0,H0,P,Os,env,M,_,_,k,e1,q⟩
end
noncomputable def GR (K:Fgx) (g:G):Sp:=fun vs H Q E=>∀mg,nR K mg 1 g vs H Q E
theorem Y6 {P:Program}{w:World}{K:Fgx}{mg:Mgx}{base:Heap}{k:Nat}{f:Addr}{fd:FuncData}{ps:List Str}{g:G}(F:FnOk P w K mg base fO k f fd ps (nR K mg 1 g)):FnOk P w K mg base fO k f fd ps (GR K g):=
 ⟨fun vs H Q E h=>F.len vs H Q E (h mg),fun A outer s H args us vs Q E hr he hb hv hs=>F.run A outer s H args us vs Q E hr he hb hv (hs mg)⟩
theorem Rz {K:Fgx}{P:Pl}{H:Hp}:∀ns:List Int,aD K P H (ns.map D.int) (ns.map V.int)
 | []=>rfl
 |n::ns=>⟨.int n,_,rfl,rfl,Rz ns⟩
section
variable {X:Cx}{Wx:XW}{m:Mode}{e:Expr}
theorem sW (h:PE X e (tC (.int i))):SE X Wx m e (ao (.int i)):=(Gz (d:=.int i) h fun _ _=>rfl).bor
theorem Ck (h:PE X e (tC (.str z))):SE X Wx m e (ao (.str z)):=(Gz (d:=.str z) h fun _ _=>rfl).bor
theorem N6 (h:PE X e (tC (.bl b))):SE X Wx m e (ao (.bl b)):=(Gz (d:=.bl b) h fun _ _=>rfl).bor
theorem xT (hN:X.N[i]? =some x)(hv:X.env.scope.names.lookup x=some .local)(hd:(x==("__debug__":Str))=false:=by x_go)(hcd:(x==("__classdict__":Str))=false:=by x_go):SE X Wx m (.Name x pos) (aj i):=(V1 hN (.inl hv) hd hcd).bor
theorem SN.sem (h:SN X Wx e f)(hf:∀env M r M',f env M=some (.v r,M')->∃ds,r=.lst ds):SE X Wx m e f:=(SN.se h hf).bor
end
noncomputable def putD (f:Str) (d:D):List (Str×D)->List (Str×D)
 | []=>[(f,d)]
 |(g,x)::r=>if g=f then(g,d)::r else(g,x)::putD f d r
section
variable {K:Fgx}{mg:Mgx}{P:Pl}{H:Hp}{M:Mm}
def mL (K:Fgx)(P:Pl)(H:Hp)(fs:List (Str×D))(gs:List (Str×V)):Prop:=gs.map (·.1)=fs.map (·.1)/\aD K P H (fs.map (·.2)) (gs.map (·.2))
theorem Jw:∀{fs:List (Str×D)} {gs:List (Str×V)},mL K P H fs gs->fs.lookup f=some d->∃v,gs.lookup f=some v/\Is K P H d v
  | [],_,_,e=>by cases e
  |(g,x)::fs,[],h,_=>by cases h.1
  |(g,x)::fs,(g',y)::gs,h,e=>by
    obtain⟨h1,v,r,e1,p,q⟩:=h;simp only[xaI,xcq]at h1 e1;obtain⟨rfl,h1⟩:=h1;obtain⟨rfl,rfl⟩:=e1;simp only[List.lookup]at e ⊢
    cases hg:f==g' with
    |true=>rw[hg]at e;cases e;exact⟨y,rfl,p⟩
    |false=>rw[hg]at e;exact Jw ⟨h1,q⟩ e
theorem Jx:∀{fs:List (Str×D)} {gs:List (Str×V)},gs.map (·.1)=fs.map (·.1)->fs.lookup f=none->gs.lookup f=none
  | [],[],_,_=>rfl
  | [],_::_,h,_=>by cases h
  |_::_,[],h,_=>by cases h
  |(g,x)::fs,(g',y)::gs,h,e=>by
    simp only[xaI,xcq]at h;obtain⟨rfl,h⟩:=h;simp only[List.lookup]at e ⊢
    cases hg:f==g' with
    |true=>rw[hg]at e;cases e
    |false=>rw[hg]at e;exact Jx h e
theorem Rg (i:Is K P H d v):∀{fs:List (Str×D)} {gs:List (Str×V)},mL K P H fs gs->mL K P H (putD f d fs) (bK f v gs)
  | [],[],_=>⟨rfl,v,[],rfl,i,rfl⟩
  | [],_::_,h=>by cases h.1
  |_::_,[],h=>by cases h.1
  |(g,x)::fs,(g',y)::gs,h=>by
    obtain⟨h1,v',r,e1,p,q⟩:=h;simp only[xaI,xcq]at h1 e1;obtain⟨rfl,h1⟩:=h1;obtain⟨rfl,rfl⟩:=e1;unfold putD bK
    split
    · exact⟨by simp[h1],v,_,rfl,i,q⟩
    · obtain⟨a,b⟩:=Rg i (fs:=fs) (gs:=gs) ⟨h1,q⟩;exact⟨by simp[a],y,_,rfl,p,b⟩
theorem Y_ (h:mL K P H fs gs):gs.length=fs.length:=by
 have:=congrArg List.length h.1
 simpa using this
end
structure ClsOk (K:Fgx)(mg:Mgx)(c:Str)(C:Addr):Prop where
 mg:mg c=some (.ref C)
 cl:Cls K C
section
variable {X:Cx}{Wx:XW}{m:Mode}{pos:Pos}
noncomputable def xu (M:Mm) (c:Str) (d:D):Option (Nat×List (Str×D)):=match d with
  | .ref k => (match M[k]? with
    |some (.obj c' fs)=>if c'=c then some (k,fs) else none
    |_=>none)
  |_=>none
theorem Bk (h:xu M c d=some (k,fs)):d=.ref k/\M[k]? =some (.obj c fs):=by
 unfold xu at h;split at h
 ·split at h
  ·split at h
   ·rename_i e1 e2;cases h;subst e2;exact⟨rfl,e1⟩
   ·cases h
  ·cases h
 ·cases h
noncomputable def bC (c f:Str) (o:E):E:=fun env M=>bnd (o env M) fun d M1=>match xu M1 c d with
 |some (_,fs)=>(fs.lookup f).map fun z=>(.v z,M1)
 |none=>none
theorem nQ (hc:ClsOk X.K X.mg c C)(hn:gG X.K C f)(he:SE X Wx .val e o)(hb:attributeBase e f X.env (eval e X.env)=eval e X.env:=by rfl):SE X Wx m (.Attribute e f pos) (bC c f o):=by
 refine cB (ze2 he hb) ?_;rintro st H Q ⟨P0,H0,P,Os,env,M,r,M',k,e,q⟩;unfold bC at e;rcases cA e with⟨d,M1,e1,e⟩ |⟨c,n,e1,rfl⟩
 ·split at e
  ·rename_i j fs eo;rw[xac]at e;obtain⟨z,ez,e⟩:=e;cases e;obtain⟨rfl,em⟩:=Bk eo;refine aV k e1 fun P1 v1 H1 l1 h1 i1=>?_;obtain⟨jl,rfl⟩:j<P1.n/\v1=.ref (P1.io j):=i1;obtain⟨C',dx,gs,ec,eh,en,is⟩:=h1.cell j _ em;have eC:C'=C:=by
    have:=ec.symm.trans hc.mg;cases this;rfl
   subst eC;obtain⟨v,ev,iv⟩:=Jw ⟨en,is⟩ ez;exact⟨_,C',dx,gs,v,rfl,eh,hc.cl,hn,ev,q P1 v H1 l1 h1 (cO.of h1 iv)⟩
  ·cases e
 ·exact aV k e1 q
noncomputable def fX (c f:Str) (o v:E):S:=fun env M=>bM (v env M) fun y M1=>bM (o env M1) fun d M2=>match xu M2 c d with
 |some (k,fs)=>if fs.length<1000 then some (.nx env,M2.set k (.obj c (putD f y fs))) else none
 |none=>none
theorem zcM {K:Fgx}{mg:Mgx}{P:Pl}{H:Hp}{M:Mm}{j:Nat}{c f:Str}{fs:List (Str×D)}{y:D}{v:V}{C dx:Addr}{gs:List (Str×V)}(h:Hk K mg P H M)(em:M[j]? =some (.obj c fs))(ec:mg c=some (.ref C))(eh:H (P.io j)=some (.ins C dx gs))(fo:mL K P H fs gs)(iv:Is K P H y v):
  Lt P H P (upd H (P.io j) (.ins C dx (bK f v gs)))/\LtE P H P (upd H (P.io j) (.ins C dx (bK f v gs)))/\Hk K mg P (upd H (P.io j) (.ins C dx (bK f v gs))) (M.set j (.obj c (putD f y fs))):=by
 have jl:j<P.n:=by rw[h.n];exact(xam.mp em).1
 have lc:Lt P H P (upd H (P.io j) (.ins C dx (bK f v gs))):=w6 (h.bd j jl) eh zeT;have fp:=Rg (f:=f) iv fo;exact h.set (c':=.obj c (putD f y fs)) (o':=.ins C dx (bK f v gs)) em ⟨C,dx,bK f v gs,ec,bW,fp.1,aD.lt lc fp.2⟩
theorem zp {c f:Str}{C:Addr}{o e:Expr}{fo fv:E}{pos':Pos}(hc:ClsOk X.K X.mg c C)(hn:gG X.K C f)(ho:SE X Wx .val o fo)(he:SE X Wx .val e fv)(hs:swapsWith e (some (.Attribute o f pos')) pos.line X.env=pure false:=by rfl):SS X Wx (.Assign [.Attribute o f pos'] e pos) (fX c f fo fv):=by
 refine kO (zee ho he hs) ?_;rintro D st H ⟨P0,H0,P,Os,env,M,out,M',k,e,q⟩;unfold fX at e;rcases gC e with⟨y,M1,e1,e⟩ |⟨c,n,e1,rfl⟩
 ·refine aV k e1 fun P1 v1 H1 l1 h1 i1=>?_;have k1:=k.next l1 h1
  rcases gC e with⟨d,M2,e2,e⟩ |⟨c,n,e2,rfl⟩
  ·split at e
   ·rename_i j fs eo;split at e
    ·rename_i hl;cases e;obtain⟨rfl,em⟩:=Bk eo;refine aV k1 e2 fun P2 v2 H2 l2 h2 i2=>?_;obtain⟨jl,rfl⟩:j<P2.n/\v2=.ref (P2.io j):=i2;obtain⟨C',dx,gs,ec,eh,en,is⟩:=h2.cell j _ em;have eC:C'=C:=by
      have:=ec.symm.trans hc.mg;cases this;rfl
     subst eC;obtain⟨l3,l3e,h3⟩:=zcM (f:=f) h2 em ec eh ⟨en,is⟩ (Is.lt (l2.lt h1) i1);exact⟨_,C',dx,gs,rfl,eh,hc.cl,hn,by rw[Y_ ⟨en,is⟩];exact hl,q _ _ _ _ ((l1.lt k.hk).trans ((l2.lt h1).trans l3)) ((k1.next l2 h2).next l3e h3)⟩
    ·cases e
   ·cases e
  ·exact aV k1 e2 q
 ·exact aV k e1 q
def cV (P:Program)(w:World)(K:Fgx)(mg:Mgx)(base:Heap)(k:Nat)(C:Addr)(m:Str)(n:Nat)(g:G):Prop:=
 ∃f fd ps,Meth K C m f/\FnOk P w K mg base fO k f fd ps (nR K mg n g)/\Binds K fd ps []
theorem cV.mono {P:Program}{w:World}{K:Fgx}{mg:Mgx}{base:Heap}{j k:Nat}{C:Addr}{m:Str}{n:Nat}{g:G}(a:cV P w K mg base j C m n g)(h:j<=k):cV P w K mg base k C m n g:=by
 obtain⟨f,fd,ps,h1,h2,h3⟩:=a;exact⟨f,fd,ps,h1,h2.mono h,h3⟩
noncomputable def bH (c m:Str) (g:G) (o:E) (fs:EA):E:=fun env M=>bnd (o env M) fun d M1=>match xu M1 c d with
  | some (_, gs) => if gs.lookup m = none then cP (fs env M1) fun ds M2 => (match g (d::ds) M2 with
    |some (.v z,M3)=>some (.v z,M3)
    |_=>none) else none
  |none=>none
theorem sX (hc:ClsOk X.K X.mg c C)(a:cV X.prog X.w X.K X.mg X.base k C me (n + 1) g)(hr:Room k X.A)(ho:SE X Wx .val o fo)(ha:SA X Wx .val (e::es) fs)(hn:nY n fs)
    (hst:starEach (e::es) X.env=(false,eval e X.env)::starEach es X.env:=by rfl) (hpl:(backTo pos (starEach es X.env)).any (·.1)=false:=by rfl)
    (ht : eval (.Call (.Attribute o me apos) (e :: es) [] pos) X.env = (do
      let ov <-eval o X.env
      standAt apos.atName
      let (f,first) <-holding [ov] (getMethod ov me pl)
      callWith pos f first (backTo pos (starEach (e::es) X.env)) (backToKw pos (keywordEach [] X.env))):=by rfl):
    SE X Wx m (.Call (.Attribute o me apos) (e::es) [] pos) (bH c me g fo fs):=by
  obtain⟨f,fd,ps,hm,F,hb⟩:=a;refine cB (zdk ho hc.cl hm F hr hb .nil Bo ha hst hpl ht) ?_;rintro st H Q ⟨P0,H0,P,Os,env,M,r,M',k,e,q⟩;unfold bH at e;rcases cA e with⟨d,M1,e1,e⟩ |⟨c,n,e1,rfl⟩
  · split at e
    · rename_i j gs eo;split at e
      · rename_i hl;obtain⟨rfl,em⟩:=Bk eo;refine aV k e1 fun P1 v1 H1 l1 h1 i1=>?_;have k1:=k.next l1 h1
        obtain⟨jl,rfl⟩:j<P1.n/\v1=.ref (P1.io j):=i1;obtain⟨C',dx,vs,ec,eh,en,is⟩:=h1.cell j _ em;have eC:C'=C:=by
          have:=ec.symm.trans hc.mg;cases this;rfl
        subst eC;refine⟨_,dx,vs,rfl,eh,Jx en hl,?_⟩;rcases mX e with⟨ds,M2,e2,e⟩ |⟨c,n,e2,rfl⟩
        · split at e
          · rename_i z M3 eg;cases e;refine⟨P0,H0,P1,Os,env,M1,_,_,k1,e2,fun P2 us H2 l2 h2 i2=>?_⟩;dsimp only;rw[xax];exact⟨by rw[xao,i2.len,hn _ _ _ _ e2],P2,M2,.ref j::ds,z,_,h2,⟨_,_,rfl,⟨xai jl l2.n,by rw[l2.io j jl]⟩,i2.iss⟩,eg,fun P3 v H3 l3 h3 i3=>q P3 v H3 (l1.trans (l2.trans l3)) h3 (cO.of h3 i3)⟩
          · cases e
        · exact⟨P0,H0,P1,Os,env,M1,_,_,k1,e2,q⟩
      · cases e
    · cases e
  · exact aV k e1 q
theorem Cj (hc:ClsOk X.K X.mg c C)(a:cV X.prog X.w X.K X.mg X.base k C me 1 g)(hr:Room k X.A)(ho:SE X Wx .val o fo)
    (ht : eval (.Call (.Attribute o me apos) [] [] pos) X.env = (do
      let ov <-eval o X.env
      standAt apos.atName
      let (f,first) <-holding [ov] (getMethod ov me pl)
      callWith pos f first (backTo pos (starEach [] X.env)) (backToKw pos (keywordEach [] X.env))):=by rfl):
    SE X Wx m (.Call (.Attribute o me apos) [] [] pos) (bH c me g fo au):=by
  obtain⟨f,fd,ps,hm,F,hb⟩:=a;refine cB (zbQ ho hc.cl hm F hr hb .nil Bo ht) ?_;rintro st H Q ⟨P0,H0,P,Os,env,M,r,M',k,e,q⟩;unfold bH at e;rcases cA e with⟨d,M1,e1,e⟩ |⟨c,n,e1,rfl⟩
  · split at e
    · rename_i j gs eo;split at e
      · rename_i hl;obtain⟨rfl,em⟩:=Bk eo;refine aV k e1 fun P1 v1 H1 l1 h1 i1=>?_;obtain⟨jl,rfl⟩:j<P1.n/\v1=.ref (P1.io j):=i1;obtain⟨C',dx,vs,ec,eh,en,is⟩:=h1.cell j _ em;have eC:C'=C:=by
          have:=ec.symm.trans hc.mg;cases this;rfl
        subst eC;refine⟨_,dx,vs,rfl,eh,Jx en hl,?_⟩;simp only[cP,au]at e;split at e
        · rename_i z M3 eg;cases e;exact⟨rfl,P1,M1,[.ref j],z,_,h1,⟨_,_,rfl,⟨jl,rfl⟩,rfl⟩,eg,fun P3 v H3 l3 h3 i3=>q P3 v H3 (l1.trans l3) h3 (cO.of h3 i3)⟩
        · cases e
      · cases e
    · cases e
  · exact aV k e1 q
end
section
variable {X:Cx}{Wx:XW}{m:Mode}{pos:Pos}
theorem Qq {K:Fgx}{mg:Mgx}{P:Pl}{H H':Hp}{M:Mm}{a:Addr}{c:Cl}(h:Hk K mg P H M)(s:Same H H')(ha:H a=none)(ea:H' a≠none)(hc:∀P',P'.n=P.n + 1->P'.io P.n=a->LtE P H P' H'->yd K mg P' H' a c):∃P',P'.n=P.n + 1/\P'.io P.n=a/\LtE P H P' H'/\Hk K mg P' H' (M ++ [c]):=by
 let P2:Pl:={io:=fun j=>if j=P.n then a else P.io j,n:=P.n + 1,bd:=fun b=>P.bd b\/b=a}
 have io : ∀ j, j < P.n -> P2.io j = P.io j := fun j hj => xad (by omega);have ioN : P2.io P.n = a := xab rfl;have nc : ∀ j, j < P.n -> P.io j ≠ a := fun j hj z => h.here _ (h.bd j hj) (z ▸ ha);have l : LtE P H P2 H' := ⟨xbE _,io,fun b z=>Or.imp (fun q=>q) (fun(q:b=a)=>by rw[q];exact ha) z,fun _ z=>.inl z,fun b o e _=>s b o e,fun b z=>s.free z,fun j h2 h3=>by
  have:j=P.n:=xbc (xa8 h3) h2;rw[this,ioN];exact ha⟩
 refine⟨P2,rfl,ioN,l,⟨by rw[xaj, <-h.n];rfl,fun j d ej=>?_,fun i j hi hj e=>?_,fun j hj=>?_,fun b z=>?_⟩⟩
 ·rcases xa4 j P.n with z |z
  ·rw[xaH (by rw[<-h.n];exact z)]at ej;rw[io j z];exact(h.cell j d ej).lt (l.lt h) fun o eo=>s _ _ eo
  ·have jl:=(xam.mp ej).1;rw[xaj,xaQ, <-h.n]at jl;have:j=P.n:=by omega
   subst this;rw[xaw (by rw[h.n];exact xaf _),h.n,xcO]at ej;cases ej;rw[ioN];exact hc P2 rfl ioN l
 ·rcases xa4 i P.n with z |z
  ·rcases xa4 j P.n with y |y
   ·rw[io i z,io j y]at e;exact h.inj i j z y e
   ·have:j=P.n:=xbc (xa8 hj) y;rw[io i z,this,ioN]at e;exact absurd e (nc i z)
  ·have iN:i=P.n:=xbc (xa8 hi) z;rcases xa4 j P.n with y |y
   ·rw[iN,ioN,io j y]at e;exact absurd e.symm (nc j y)
   ·rw[iN];exact xbc y (xa8 hj)
 ·rcases xa4 j P.n with z |z
  ·rw[io j z];exact .inl (h.bd j z)
  ·have:j=P.n:=xbc (xa8 hj) z;rw[this,ioN];exact .inr rfl
 ·rcases z with z |z
  ·exact fun q=>h.here b z (s.free q)
  ·rw[z];exact ea
def mz (P:Program)(w:World)(K:Fgx)(mg:Mgx)(base:Heap)(k:Nat)(C:Addr)(n:Nat)(g:G):Prop:=
 ∃f fd ps,Mk K C f/\FnOk P w K mg base fO k f fd ps (nR K mg n g)/\Binds K fd ps []
noncomputable def vm (c:Str) (g:G) (fs:EA):E:=fun env M=>cP (fs env M) fun ds M1=>match g (.ref M1.length::ds) (M1 ++ [.obj c []]) with
 |some (.v .non,M2)=>some (.v (.ref M1.length),M2)
 |_=>none
theorem VR {c:Str}{C:Addr}{k n:Nat}{g:G}{e:Expr}{es:List Expr}{fs:EA}{p:Pos}(hc:ClsOk X.K X.mg c C)(a:mz X.prog X.w X.K X.mg X.base k C (n + 1) g)(hr:Room (k + 1) X.A)(hg:Gl X c)(ha:SA X Wx .val (e::es) fs)(hn:nY n fs)(hdb:(c==("__debug__":Str))=false:=by x_go)
  (he:starEach (e::es) X.env=(false,eval e X.env)::starEach es X.env:=by rfl) (hpl:(backTo pos (starEach es X.env)).any (·.1)=false:=by rfl):SE X Wx m (.Call (.Name c p) (e::es) [] pos) (vm c g fs):=by
 obtain⟨f,fd,ps,mk,F,hb⟩:=a;refine cB (zdi mk F hr hg hc.mg hb .nil Bo ha hdb he hpl) ?_;rintro st H Q ⟨P0,H0,P,Os,env,M,r,M',k,e,q⟩;unfold vm at e;rcases mX e with⟨ds,M1,e1,e⟩ |⟨c,n,e1,rfl⟩
 ·split at e
  ·rename_i M2 eg;cases e;refine⟨P0,H0,P,Os,env,M,_,_,k,e1,fun P1 vs H1 l1 h1 i1=>fun x dx hx hdx ne=>?_⟩;have s2:Same H1 (upd (upd H1 dx (.own x)) x (.ins C dx [])):=fun b o eb=>by
    rw[aU (lR eb hx),aU (lR eb hdx)];exact eb
   obtain⟨P2,n2,io2,l2,h2⟩:=Qq (c:=.obj c []) h1 s2 hx (by rw[bW];exact fun z=>nomatch z) fun P' _ _ _=>⟨C,dx,[],hc.mg,bW,rfl,rfl⟩
   have el:P1.n=M1.length:=h1.n;have iref:Is X.K P2 (upd (upd H1 dx (.own x)) x (.ins C dx [])) (.ref M1.length) (.ref x):=⟨by rw[n2,el];exact xbe _,by rw[<-el,io2]⟩;refine⟨by rw[xax,xao,i1.len,hn _ _ _ _ e1],P2,M1 ++ [.obj c []],.ref M1.length::ds,.non,_,h2,⟨_,_,rfl,iref,by rw[xax];exact aD.lt (l2.lt h1) i1.iss⟩,eg,fun P3 v H3 l3 h3 i3=>⟨i3,?_⟩⟩;refine q P3 _ H3 (l1.trans (l2.trans l3)) h3 (cO.of h3 (Is.lt (l3.lt h2) iref))
  ·cases e
 ·exact⟨P0,H0,P,Os,env,M,_,_,k,e1,q⟩
end
end E3
namespace E3
open PySem PySem.Spec PyProof.Rows L2 PySem.W
noncomputable def bG {α:Type} (lt:Nat->Nat->Option Bool):KasT α->Option α
  |.ret a=>some a
  |.ask i j k=>match lt i j with
    |some b=>bG lt (k b)
    |none=>none
theorem wp_run {α:Type}{cmp:Nat->Nat->(Bool->Shared->Prop)->Shared->Prop}{lt:Nat->Nat->Option Bool}{R:Shared->Prop}(hc:∀i j b s C,lt i j=some b->R s->(∀s',R s'->C b s')->cmp i j C s):∀(t:KasT α) (a:α) (s:Shared) (Q:α->Shared->Prop),bG lt t=some a->R s->(∀s',R s'->Q a s')->t.kasWp cmp Q s
  |.ret a',a,s,Q,e,r,q=>by
    cases e;exact q s r
  |.ask i j k,a,s,Q,e,r,q=>by
    unfold bG at e;split at e
    · rename_i b eb;exact hc i j b s _ eb r fun s' r'=>wp_run hc (k b) a s' Q e r' q
    · cases e
def gH (a:Addr)(h h':Heap):Prop:=∀b o,b≠a->h.get? b=some o->h'.get? b=some o
def Grows (h h':Heap):Prop:=∀b o,h.get? b=some o->h'.get? b=some o
noncomputable def gQ (h:Heap) (a:Addr) (vs:List Value):Heap:=((h.update a (Obj.mapSeq fun _=> #[])).push (seqObj "tuple" vs.toArray 0)).push (seqObj "list" #[] 0)
noncomputable def fG (h:Heap) (vs:List Value):Heap:=((h.push (seqObj "list" #[] 0)).update h.objs.size (Obj.mapSeq (· ++ vs.toArray))).push (seqObj "list" vs.toArray 0)
theorem gH.upd (h:Heap)(a:Addr)(f:Obj->Obj):gH a h (h.update a f):=fun b o nb e=>by rw[(xcl h a f).2 b nb];exact e
theorem gH.push (s:gH a h h')(o:Obj):gH a h (h'.push o):=fun b u nb e=>xaa _ (s b u nb e)
theorem Tc (h:Heap)(a:Addr)(vs:List Value):gH a h (gQ h a vs):=((gH.upd h a _).push _).push _
theorem DQ (h:Heap)(vs:List Value):((h.push (seqObj "list" #[] 0)).update h.objs.size (Obj.mapSeq (· ++ vs.toArray))).objs.size=h.objs.size + 1:=(Heap.size_update ..).trans (size_push' h _)
theorem Qy (h:Heap)(vs:List Value):Grows h (fG h vs):=fun b o e=>by
 have lt:=xaq e;unfold fG;rw[Heap.get?_push_ne _ _ _ (by rw[DQ];exact xay (xcy lt)),Heap.get?_update_ne _ _ _ _ (xay lt),Heap.get?_push_ne _ _ _ (xay lt)];exact e
theorem DP (h:Heap)(vs:List Value):(fG h vs).get? (h.objs.size + 1)=some (seqObj "list" vs.toArray 0):=by
 rw[<-DQ h vs];exact xas _ rfl
noncomputable def tR (vs:List Value) (p:Array Nat):Array Value:=List.toArray (p.toList.map fun i=>vs.getD i Value.none)
section
variable {prog:Program}{w:World}{A:Around}{E:Value->Shared->Prop}{s:Shared}
theorem zbJ (ho:s.heap.get? a=some (seqObj "list" vs.toArray n))(h2:2<=vs.length)(h64:vs.length<64)
  (hk:∀(h':Heap) (Q':SortKind->Shared->Prop),gH a s.heap h'->Q' κ {s with heap:=h'}->wpAny (model prog w) A (keyKind' vs.toArray) Q' (fun _ _=>False) {s with heap:=h'})
  (hc:∀(h':Heap),gH a s.heap h'->∀i j b tk C,lt i j=some b->(∀tk,C b {s with heap:=h',toks:=tk})->kas_ask prog w A κ vs i j C {s with heap:=h',toks:=tk})
  (hr:bG lt (kas_sort vs.length)=some p)
  (q:∀(h':Heap) tk c,p.size=vs.length->gH a s.heap h'->h'.get? a=some (seqObj "list" (tR vs p) c)->P (.done (.ret .none)) {s with heap:=h',toks:=tk}):
  wpAny (model prog w) A (Builtin.«list.sort» ⟨[.ref a],[]⟩) P E s:=by
 have hz:vs.length<=sizeLine:=by rw[xaG];omega
 have st:=Tc s.heap a vs;obtain⟨e1,z1⟩:∃e1,(s.heap.update a (Obj.mapSeq fun _=>(#[]:Array Value))).get? a=some (seqObj "list" #[] e1):=⟨_,xcP ho fun _=> #[]⟩;have z2:(gQ s.heap a vs).get? a=some (seqObj "list" #[] e1):=xaa _ (xaa _ z1);rw[list_sort_plain];refine tG (listItems_at ho rfl (tG (xdc ho rfl (tG (seqEpoch_at z1 rfl (tG (wpAny_newTuple (tG (xdd (xbm ?_) (xbg _))) hz)))) (by simpa using hz) (xbg _))));show wpAny (model prog w) A _ P E {s with heap:=gQ s.heap a vs};dsimp only;have two:¬ vs.toArray.size<2:=by simpa using h2
 rw [xad two, xad two];generalize gQ s.heap a vs = h1 at st z2 ⊢;have kind := hk h1 (fun κ' s' => κ' = κ /\ s' = { s with heap := h1 }) st ⟨rfl, rfl⟩;refine tG (xaO kind (fun κ' s0 z => ?_) fun _ _ x => x.elim);obtain ⟨rfl, rfl⟩ := z;have tree := wp_run (cmp := kas_ask prog w A κ' vs) (R := fun s' => ∃ tk, s' = { s with heap := h1, toks := tk }) (fun i j b s' C el ⟨tk,es⟩ hC=>by
  subst es;exact hc h1 st i j b tk C el fun tk'=>hC _ ⟨tk',rfl⟩) (kas_sort vs.length) p {s with heap:=h1} (fun p' s'=>p'=p/\∃tk,s'={s with heap:=h1,toks:=tk}) hr ⟨s.toks,rfl⟩ fun s' r=>⟨rfl,r⟩
 have runs:=kat_run (E:=E) (Q:=fun st' s'=>p.size=vs.length/\arrOf st'=p.map (kas_item (vs.toArray.zip vs.toArray))/\failedOf st'=none/\∃tk,s'={s with heap:=h1,toks:=tk}) rfl h2 h64
  (fun p' st' s' a1 a2 a3 a4=>by obtain⟨rfl,a4⟩:=a4;exact⟨a1,a2,a3,a4⟩) tree
 refine tG (xaO runs ?_ fun _ _ e=>e);rintro⟨⟨⟩,st'⟩ s' ⟨hp,har,hf,tk,rfl⟩;dsimp only;have hsz:(tR vs p).size=vs.length:=by unfold tR;simp[hp]
 rw[kat_snds rfl har];obtain⟨c2,z3⟩:∃c2,(h1.update a (Obj.mapSeq fun _=>tR vs p)).get? a=some (seqObj "list" (tR vs p) c2):=⟨_,xcP z2 fun _=>tR vs p⟩;refine tG (seqEpoch_at z2 rfl (tG (xdc z2 rfl ?_ (xbg _) (by show(tR vs p).size<=sizeLine + 1;rw[hsz];exact xdl hz))));rw[hf];simp only[xed,xa5,xbP];exact xah (q _ tk c2 hp (fun b o nb e=>gH.upd h1 a _ b o nb (st b o nb e)) z3)
theorem zaV (hl:s.heap.IsList l vs.toArray)(h2:2<=vs.length)(h64:vs.length<64)
  (hk:∀(h':Heap) (Q':SortKind->Shared->Prop),Grows s.heap h'->Q' κ {s with heap:=h'}->wpAny (model prog w) A.in1.in1 (keyKind' vs.toArray) Q' (fun _ _=>False) {s with heap:=h'})
  (hc:∀(h':Heap),Grows s.heap h'->∀i j b tk C,lt i j=some b->(∀tk,C b {s with heap:=h',toks:=tk})->kas_ask prog w A.in1.in1 κ vs i j C {s with heap:=h',toks:=tk})
  (hr:bG lt (kas_sort vs.length)=some p)
  (q:∀(h':Heap) tk c a,p.size=vs.length->Grows s.heap h'->s.heap.objs.size<=a->h'.get? a=some (seqObj "list" (tR vs p) c)->Q (.ref a) {s with heap:=h',toks:=tk}):
  wpAny (model prog w) A (call (.builtin "sorted") [.ref l]) Q E s:=by
 have hz:vs.length<=sizeLine:=by rw[xaG];omega
 have up:∀h',gH (s.heap.objs.size + 1) (fG s.heap vs) h'->Grows s.heap h':=fun h' st b o e=>st b o (xay (xcy (xaq e))) (Qy s.heap vs b o e);refine xdp kind_sorted plain_sorted entry_sorted (args_sorted1 _) ?_;unfold Builtin.«sorted»;refine tG (m:=checkCount "sorted" 1 1 _) (xah (tG (collect_list hl (tG (xdd ?_ hz)) (by simpa using hz))));rw[DQ];show wpAny _ _ _ _ _ {s with heap:=fG s.heap vs};refine tG (xbm (xbR slot_list_sort ⟨_,DP s.heap vs,rfl⟩ entry_list_sort (zbJ (s:={s with heap:=fG s.heap vs}) (DP s.heap vs) h2 h64 (fun h' Q' st=>hk h' Q' (up h' st)) (fun h' st=>hc h' (up h' st)) hr fun h' tk c hp st e=>?_) (args_list_sort _)));exact⟨_,rfl,xah ⟨_,rfl,q h' tk c _ hp (up h' st) (xbE _) e⟩⟩
end
noncomputable def bZ:List D->List D->Option Bool
 | [],[]=>some false
 |.int i::ps,.int j::qs=>if i=j then bZ ps qs else some (decide (i<j))
 |.str a::ps,.str b::qs=>if a=b then bZ ps qs else some (decide (a.cps.toList<b.cps.toList))
 |_,_=>none
noncomputable def yO (ds:List D) (i j:Nat):Option Bool:=match ds.getD i .non with
  | .tup xs => (match ds.getD j .non with
    |.tup ys=>bZ xs ys
    |_=>none)
  |_=>none
section
variable {prog:Program}{w:World}{A:Around}{s:Shared}{K:Fgx}{P:Pl}{H:Hp}
theorem R8 (hq:Q b s):∀(xs ys:List D) (vs ws:List V) (us zs:List Value) (n:Nat),aD K P H xs vs->aD K P H ys ws->Vals vs us->Vals ws zs->bZ xs ys=some b->(us.length=zs.length->fin=false)->KatLex prog w A true fin Q (us.zip zs) n s
  | [],ys,vs,ws,us,zs,n,i1,i2,r1,r2,e,hf=>by
    cases ys with
    |cons y ys=>cases e
    |nil=>
      rw[show vs=[] from i1]at r1;rw[show ws=[] from i2]at r2;cases r1;cases r2;cases e;rw[hf rfl];exact hq
  |x::xs,[],vs,ws,us,zs,n,i1,i2,r1,r2,e,hf=>by cases x<;>cases e
  |x::xs,y::ys,vs,ws,us,zs,n,i1,i2,r1,r2,e,hf=>by
    obtain⟨v,vr,rfl,p,i1⟩:=i1;obtain⟨u,wr,rfl,p',i2⟩:=i2
    cases r1 with
    |cons a1 r1=>
      cases r2 with
      |cons a2 r2=>
        have rest:bZ xs ys=some b->∀n,KatLex prog w A true fin Q (List.zip _ _) n s:=fun e n=>R8 hq xs ys _ _ _ _ n i1 i2 r1 r2 e fun z=>hf (by simp[z]);rw[xc5];cases x<;>cases y<;>simp only[bZ,reduceCtorEq]at e
        · rename_i i j;cases p;cases p';obtain⟨t1,rfl⟩:=a1;obtain⟨t2,rfl⟩:=a2;refine kat_cons (xc3 _ _ _ _ prog w _ _ ?_);split at e
          · rename_i hij;subst hij;rw[show(i==i)=true from xbf i];exact kat_yes (rest e _)
          · rename_i hij;cases e;rw[show(i==j)=false from xaW.mpr hij];refine kat_no ?_
            cases n with
            |zero=>exact oneLt_int hq
            |succ n=>exact kat_one _ _ (lt_int (show PySem.W.BoolBack Q (.bool _) s from hq))
        · rename_i a c;cases p;cases p';obtain⟨t1,rfl⟩:=a1;obtain⟨t2,rfl⟩:=a2;refine kat_cons (xc4 _ _ _ _ prog w _ _ ?_);split at e
          · rename_i hij;subst hij;rw[show(a==a)=true from xbf a];exact kat_yes (rest e _)
          · rename_i hij;cases e;rw[show(a==c)=false from xaW.mpr hij];refine kat_no ?_
            cases n with
            |zero=>exact oneLt_str hq
            |succ n=>exact kat_one _ _ (lt_str (show PySem.W.BoolBack Q (.bool _) s from hq))
end
noncomputable def tupI:D->Bool
 |.tup (.int _::_)=>true
 |_=>false
def M_ (K:Fgx):List V->Hp->VK->Prop:=fun xs H Q=>∃(P:Pl) (a:Addr) (vs:List V) (ds:List D) (p:Array Nat),xs=[.ref a]/\bU K H a vs/\aD K P H ds vs/\2<=ds.length/\ds.length<64/\ds.all tupI=true/\bG (yO ds) (kas_sort ds.length)=some p/\
 ∀l,H l=none->Q (.ref l) (upd H l (.lst (p.toList.map fun i=>vs.getD i .non)))
section
variable {X:Cx}{pins:Pnx}{σ:L2.St}{H:Hp}{s:Shared}
theorem O_ (I:Inv X pins σ H s)(g:Grows s.heap h')(i:Is X.K P H (.tup xs) v)(r:RelV v u):∃a o its n ws,u=.ref a/\h'.get? a=some o/\o.cls=.type "tuple"/\o.data=.seq its n/\aD X.K P H xs ws/\Vals ws its.toList:=by
 obtain⟨a,ws,rfl,t,is⟩:=i;cases r;obtain⟨its,rv,⟨o,e1,e2,n,e3⟩,_⟩:=I.tuple t;exact⟨a,o,its.toArray,n,ws,rfl,g _ _ e1,e2,e3,is,by simpa using rv⟩
theorem W2 (I:Inv X pins σ H s)(g:Grows s.heap h'):∀(ds:List D) (vs:List V) (us:List Value),ds.all tupI=true->aD X.K P H ds vs->Vals vs us->∃fs,KatTups h' us fs/\fs.length=us.length/\∀f∈fs,∃i t,f=Value.int i t
  | [],vs,us,_,i,r=>by
    rw[show vs=[] from i]at r;cases r;exact⟨[],KatTups.nil,rfl,fun f h=>nomatch h⟩
  |d::ds,vs,us,hd,i,r=>by
    obtain⟨v,vr,rfl,p,i⟩:=i;rw[xbz,xap]at hd
    cases r with
    |cons a1 r=>
      obtain⟨fs,k,kl,kf⟩:=W2 I g ds _ _ hd.2 i r
      cases d with
      |tup xs=>
        cases xs with
        |nil=>cases (show false=true from hd.1)
        |cons x xs=>
          cases x with
          |int z=>
            obtain⟨a,o,its,n,ws,rfl,e1,e2,e3,is,rv⟩:=O_ I g p a1;obtain⟨w,wr,rfl,pw,is⟩:=is;cases pw;obtain⟨its⟩:=its
            cases rv with
            |cons b1 rv=>
              obtain⟨t,rfl⟩:=b1;refine⟨.int z t::fs,KatTups.cons e1 e2 e3 rfl k,by simp[kl],fun f hf=>?_⟩;rcases xaJ.mp hf with rfl |hf
              · exact⟨z,t,rfl⟩
              · exact kf f hf
          |_=>cases (show false=true from hd.1)
      |_=>cases (show false=true from hd.1)
theorem Ph (r:Vals vs us)(i:Nat):RelV (vs.getD i .non) (us.getD i Value.none):=by
  induction r generalizing i with
  |nil=>exact rfl
  |cons a r ih=>cases i with
    |zero=>simpa using a
    |succ i=>simpa using ih i
theorem XJ:dH X (.builtin "sorted") (M_ X.K):=by
  intro pins s σ H xs us Q I r h;obtain⟨P,a,vs,ds,p,rfl,hl,is,h2,h64,ht,hr,q⟩:=h;obtain⟨u,rfl,rx⟩:=vals1 r;cases rx;obtain⟨its,rv,pl,hz⟩:=I.list hl;have l1:its.length=ds.length:=by rw[<-rv.length,is.len]
  refine zaV (κ:=tuples' true) (lt:=yO ds) (p:=p) pl.isList (by omega) (by omega) (fun h' Q' g hq=>?_) (fun h' g i j b tk C el hC=>?_) (by rw[l1];exact hr) fun h' tk c D hp g hD eD=>?_
  · obtain ⟨fs, k, kl, kf⟩ := W2 I g ds vs its ht is rv;exact kat_kind (T := .type "int") k (by omega) (fun f hf=>by
      obtain⟨i,t,rfl⟩:=kf f hf;intro A Q E s _ q;exact xah q) (by x_go) hq
  · unfold kas_ask;unfold yO at el;split at el
    · rename_i xs ei;split at el
      · rename_i ys ej;have gi:∀k zs,ds.getD k .non=.tup zs->Is X.K P H (.tup zs) (vs.getD k .non):=fun k zs ek=>by
          rw[xa0]at ek
          cases e:ds[k]? with
          |none=>rw[e]at ek;cases ek
          |some d=>
            rw[e]at ek;obtain⟨v,ev,iv⟩:=is.get e;rw[xa0,ev];simp only[xcd]at ek ⊢;rw[<-ek];exact iv
        obtain⟨a1,o1,t1,n1,w1,e1,f1,f2,f3,f4,f5⟩:=O_ I g (gi i xs ei) (Ph rv i);obtain⟨a2,o2,t2,n2,w2,e2,g1,g2,g3,g4,g5⟩:=O_ I g (gi j ys ej) (Ph rv j);rw[e1,e2];refine kat_lt (s:={s with heap:=h',toks:=tk}) f1 f3 g1 g3 (R8 (hC tk) xs ys w1 w2 _ _ 0 f4 g4 f5 g5 el fun z=>?_);simp only[xaR]at z
        simp[z]
      · cases el
    · cases el
  · have hv:Vals (p.toList.map fun i=>vs.getD i .non) (p.toList.map fun i=>its.getD i Value.none):=by
      induction p.toList with
      |nil=>exact .nil
      |cons i r ih=>exact .cons (Ph rv i) ih
    have hlen:(p.toList.map fun i=>vs.getD i V.non).length<=sizeLine:=by
      rw[xal,xaR,hp, <-rv.length];exact hz
    exact⟨.ref D,_,I.laid (o:=.lst (p.toList.map fun i=>vs.getD i .non)) g hD ⟨hlen,_,c,hv,eD⟩,rfl,q D (I.hok.fresh hD)⟩
end
section
variable {prog:Program}{w:World}{A:Around}{E:Value->Shared->Prop}{s:Shared}
theorem zbU {a:Addr}{n:Nat}{vs:List Value}{P:PySem.Fin->Shared->Prop}(ho:s.heap.get? a=some (seqObj "list" vs.toArray n))(h2:vs.length<2)
  (q:∀(h':Heap) c,gH a s.heap h'->h'.get? a=some (seqObj "list" vs.toArray c)->P (.done (.ret .none)) {s with heap:=h'}):
  wpAny (model prog w) A (Builtin.«list.sort» ⟨[.ref a],[]⟩) P E s:=by
 have hz:vs.length<=sizeLine:=by rw[xaG];omega
 have st:=Tc s.heap a vs;obtain⟨e1,z1⟩:∃e1,(s.heap.update a (Obj.mapSeq fun _=>(#[]:Array Value))).get? a=some (seqObj "list" #[] e1):=⟨_,xcP ho fun _=> #[]⟩;have z2:(gQ s.heap a vs).get? a=some (seqObj "list" #[] e1):=xaa _ (xaa _ z1);rw[list_sort_plain];refine tG (listItems_at ho rfl (tG (xdc ho rfl (tG (seqEpoch_at z1 rfl (tG (wpAny_newTuple (tG (xdd (xbm ?_) (xbg _))) hz)))) (by simpa using hz) (xbg _))));show wpAny (model prog w) A _ P E {s with heap:=gQ s.heap a vs};dsimp only;have two:vs.toArray.size<2:=by simpa using h2
 rw[xab two,xab two];generalize gQ s.heap a vs=h1 at st z2 ⊢;refine tG (xah (tG (m:=(pure ():StateT SortSt Sem Unit).run _) (xah ?_)));dsimp only;have out:(arrOf (SortSt.mk' general' (vs.toArray.zip vs.toArray) #[] 7 none)).map (·.2)=vs.toArray:=by
  show(vs.toArray.zip vs.toArray).map (·.2)=vs.toArray;apply xdz.mp;simp only[Array.toList_map,Array.toList_zip];exact List.map_snd_zip (xaf _)
 rw[out];obtain⟨c2,z3⟩:∃c2,(h1.update a (Obj.mapSeq fun _=>vs.toArray)).get? a=some (seqObj "list" vs.toArray c2):=⟨_,xcP z2 fun _=>vs.toArray⟩;refine tG (seqEpoch_at z2 rfl (tG (xdc z2 rfl ?_ (xbg _) (by rw[xae];exact xdl hz))));simp only[xed,xa5,xbP];exact xah (q _ c2 (fun b o nb e=>gH.upd h1 a _ b o nb (st b o nb e)) z3)
theorem zaQ {l:Addr}{vs:List Value}{Q:Value->Shared->Prop}(hl:s.heap.IsList l vs.toArray)(h2:vs.length<2)
  (q:∀(h':Heap) c a,Grows s.heap h'->s.heap.objs.size<=a->h'.get? a=some (seqObj "list" vs.toArray c)->Q (.ref a) {s with heap:=h'}):
  wpAny (model prog w) A (call (.builtin "sorted") [.ref l]) Q E s:=by
 have hz:vs.length<=sizeLine:=by rw[xaG];omega
 have up:∀h',gH (s.heap.objs.size + 1) (fG s.heap vs) h'->Grows s.heap h':=fun h' st b o e=>st b o (xay (xcy (xaq e))) (Qy s.heap vs b o e);refine xdp kind_sorted plain_sorted entry_sorted (args_sorted1 _) ?_;unfold Builtin.«sorted»;refine tG (m:=checkCount "sorted" 1 1 _) (xah (tG (collect_list hl (tG (xdd ?_ hz)) (by simpa using hz))));rw[DQ];show wpAny _ _ _ _ _ {s with heap:=fG s.heap vs};refine tG (xbm (xbR slot_list_sort ⟨_,DP s.heap vs,rfl⟩ entry_list_sort (zbU (s:={s with heap:=fG s.heap vs}) (DP s.heap vs) h2 fun h' c st e=>?_) (args_list_sort _)));exact⟨_,rfl,xah ⟨_,rfl,q h' c _ (up h' st) (xbE _) e⟩⟩
end
section
variable {X:Cx}{Wx:XW}
def MK (K:Fgx):List V->Hp->VK->Prop:=fun xs H Q=>∃(a:Addr) (vs:List V),xs=[.ref a]/\bU K H a vs/\vs.length<2/\∀l,H l=none->Q (.ref l) (upd H l (.lst vs))
theorem Xw:dH X (.builtin "sorted") (MK X.K):=by
 intro pins s σ H xs us Q I r h;obtain⟨a,vs,rfl,hl,h2,q⟩:=h;obtain⟨u,rfl,rx⟩:=vals1 r;cases rx;obtain⟨its,rv,pl,hz⟩:=I.list hl;refine zaQ pl.isList (by rw[<-rv.length];exact h2) fun h' c D g hD eD=>?_;exact⟨.ref D,_,I.laid (t':=s.toks) (o:=.lst vs) g hD ⟨hz,its,c,rv,eD⟩,rfl,q D (I.hok.fresh hD)⟩
noncomputable def eZ (ds:List D):Option (List D):=if ds.length<2 then some ds else if ds.length<64/\ds.all tupI=true then(bG (yO ds) (kas_sort ds.length)).map fun p=>p.toList.map fun i=>ds.getD i .non else none
theorem Wf {K:Fgx}{P:Pl}{H:Hp}{ds:List D}{vs:List V}(is:aD K P H ds vs):∀l:List Nat,aD K P H (l.map fun i=>ds.getD i .non) (l.map fun i=>vs.getD i .non)
  | []=>rfl
  |i::l=>by
    refine⟨_,_,rfl,?_,Wf is l⟩;dsimp only;rw[xa0,xa0]
    cases e:ds[i]? with
    |none=>
      have:vs[i]? =none:=xbw.mpr (by rw[is.len];exact xbw.mp e);rw[this];rfl
    |some d=>
      obtain⟨v,ev,iv⟩:=is.get e;rw[ev];exact iv
noncomputable def pI (f:E):E:=fun env M=>bnd (f env M) fun d M1=>match vw M1 d with
 |.lst ds=>(eZ ds).map fun es=>(.v (.lst es),M1)
 |_=>none
theorem boot_sorted:bootBuiltins "sorted"=some (.builtin "sorted"):=by kernel_rfl
theorem GK (hg:Gl X "sorted")(hm:X.mg "sorted"=none)(he:SE X Wx .bor e f)(hs:starEach [e] X.env=(false,eval e X.env)::starEach [] X.env:=by rfl):SN X Wx (.Call (.Name "sorted" p) [e] [] pos) (pI f):=by
 refine cB (Ly (Xw.or XJ) hg hm boot_sorted (su he vd hs) (by x_go) (by x_go) hs rfl) ?_;rintro st H Q ⟨P0,H0,P,Os,env,M,r,M',k,e,q⟩;unfold pI at e;rcases cA e with⟨d,M1,e1,e⟩ |⟨c,n,e1,rfl⟩
 ·refine aV k e1 fun P1 v1 H1 l1 h1 i1=>?_;have iw:=dz.vw h1 i1;split at e
  ·rename_i ds ev;rw[xac]at e;obtain⟨es,ez,e⟩:=e;cases e;obtain⟨ds',e',q⟩:=q;cases e';rw[ev]at iw;obtain⟨a,vs,rfl,sq,is⟩:=iw;have fin:∀ws,aD X.K P1 H1 es ws->∀l,H1 l=none->Q (.ref l) (upd H1 l (.lst ws)):=fun ws iws l hl=>by
    obtain⟨l2,h2,nc⟩:=wM (vs:=ws) h1 hl;exact q (P1.bar l) l ws _ (l1.trans l2) h2 (l1.sure l hl) (.inr rfl) nc bW (aD.lt (l2.lt h1) iws)
   unfold eZ at ez;split at ez
   ·rename_i hlt;cases ez;exact .inl ⟨a,vs,rfl,sq,by rw[is.len];exact hlt,fin vs is⟩
   ·split at ez
    ·rename_i h2 h3;rw[xac]at ez;obtain⟨p,ep,rfl⟩:=ez;exact .inr ⟨P1,a,vs,ds,p,rfl,sq,is,by omega,h3.1,h3.2,ep,fin _ (Wf is _)⟩
    ·cases ez
  ·cases e
 ·exact aV k e1 q
theorem Og:∀env M r M',pI f env M=some (.v r,M')->∃ds,r=.lst ds:=fun env M r M' e=>by
 unfold pI at e;rcases cA e with⟨ds,M1,e1,e⟩ |⟨c,n,e1,e⟩
 ·split at e
  ·rw[xac]at e;obtain⟨es,_,e⟩:=e;cases e;exact⟨_,rfl⟩
  ·cases e
 ·cases e
end
def Low (n:Nat)(p:Array Nat):Prop:=p.size=n/\∀x∈p.toList,x<n
theorem Low.get (h:Low n p)(hn:0<n)(i:Nat):p.getD i 0<n:=by
 rw[xaY]
 cases e:p[i]? with
 |none=>exact hn
 |some x=>exact h.2 x (by rw[xdT];exact Array.mem_of_getElem? e)
theorem run_bind:∀t:KasT α,bG lt (t.bind f)=(bG lt t).bind fun a=>bG lt (f a)
  |.ret a=>rfl
  |.ask i j k=>by
    show bG lt (.ask i j fun b=>(k b).bind f)=_;simp only[bG]
    cases lt i j with
    |none=>rfl
    |some b=>exact run_bind (k b)
section
variable {n:Nat}{lt:Nat->Nat->Option Bool}(hn:0<n)(tot:∀i j,i<n->j<n->∃b,lt i j=some b)
include hn tot
end
end E3
namespace E3
open PySem L2
section
variable {env:Env}{M M1:Mm}{f g h c:E}{d e:D}{i j:Int}{n k:Nat}{z:Str}{b:Bool}{ds es:List D}{s t:S}{x:Str}
def g8 (g:S):OS->OS
 |some (.nx e,M1)=>g e M1
 |o=>o
theorem Ft:aq s t env M=g8 t (s env M):=rfl
theorem Nm {e:Env}:g8 t (some (.nx e,M))=t e M:=rfl
theorem Nr:g8 t (some (.rt d,M))=some (.rt d,M):=rfl
theorem Nf {e:Env}:g8 t (some (.bk e,M))=some (.bk e,M):=rfl
theorem Ng {e:Env}:g8 t (some (.ct e,M))=some (.ct e,M):=rfl
theorem Nh {a:Int}:g8 t (some (.ex x a,M))=some (.ex x a,M):=rfl
theorem zgv:aC env M=some (.nx env,M):=rfl
noncomputable def CZ (M:Mm):Option Slot->O
 |some (.val d)=>some (.v d,M)
 |_=>none
theorem sE:aj k env M=CZ M env[k]? :=rfl
theorem sH:CZ M (some (.val d))=some (.v d,M):=rfl
theorem Mf:ao d env M=some (.v d,M):=rfl
def mapR (M:Mm)(o:Option D):O:=o.map fun z=>(.v z,M)
theorem Nj:mapR M (some d)=some (.v d,M):=rfl
def rY (o:D->Option D)(r:O):O:=bnd r fun d M=>mapR M (o (vw M d))
theorem q_1 {o:D->Option D}:s1 o f env M=rY o (f env M):=rfl
theorem r_1 {o:D->Option D}:rY o (some (.v d,M))=mapR M (o (vw M d)):=rfl
noncomputable def yc (o:D->D->Option D) (d:D) (r:O):O:=bnd r fun e M=>mapR M (o (vw M d) (vw M e))
noncomputable def CV (o:D->D->Option D) (k:Mm->O) (r:O):O:=bnd r fun d M=>yc o d (k M)
theorem q_2 {o:D->D->Option D}:s2 o f g env M=CV o (g env) (f env M):=rfl
theorem r_2 {o:D->D->Option D}{q:Mm->O}:CV o q (some (.v d,M))=yc o d (q M):=rfl
theorem Nb {o:D->D->Option D}:yc o d (some (.v e,M))=mapR M (o (vw M d) (vw M e)):=rfl
theorem zhb:vw M (.int i)=.int i:=rfl
theorem zfy:vw M (.str z)=.str z:=rfl
theorem Pn:vw M (.bl b)=.bl b:=rfl
theorem zfu:vw M .non=.non:=rfl
theorem zgr:vw M (.tup ds)=.tup ds:=rfl
theorem zfI:vw M (.lst ds)=.lst ds:=rfl
theorem k_ (h:M[k]? =some (.lst ds)):vw M (.ref k)=.lst ds:=by unfold vw;simp only[h]
theorem zf7:cD f env M=rY (fun d=>(gA d).map .bl) (f env M):=rfl
theorem zdU:Cd f env M=rY (fun d=>(gA d).map fun b=>.bl (!b)) (f env M):=rfl
noncomputable def Bg (r:O):O:=bnd r fun d M=>match d with
 |.bl b=>some (.v (.bl (!b)),M)
 |_=>none
theorem zfR:cU f env M=Bg (f env M):=rfl
theorem zgp:Bg (some (.v (.bl b),M))=some (.v (.bl (!b)),M):=rfl
noncomputable def rP (k1 k2:Mm->O) (r:O):O:=bnd r fun d M=>match d with
 |.bl b=>if b=true then k1 M else k2 M
 |_=>none
theorem zg2:dF f g env M=rP (g env) (fun M=>some (.v (.bl false),M)) (f env M):=rfl
theorem Mv:fM f g env M=rP (fun M=>some (.v (.bl true),M)) (g env) (f env M):=rfl
theorem zhk:nA c f g env M=rP (f env) (g env) (c env M):=rfl
theorem zfw {k1 k2:Mm->O}:rP k1 k2 (some (.v (.bl b),M))=if b=true then k1 M else k2 M:=rfl
noncomputable def p8 (d:D):Option (ResA×Mm)->Option (ResA×Mm)
 |some (.v ds,M2)=>some (.v (d::ds),M2)
 |some (.x c n,M2)=>some (.x c n,M2)
 |none=>none
noncomputable def Jh (k:Mm->Option (ResA×Mm)):O->Option (ResA×Mm)
 |some (.v d,M1)=>p8 d (k M1)
 |some (.x c n,M1)=>some (.x c n,M1)
 |none=>none
theorem zhg:au env M=some (.v [],M):=rfl
theorem zed {fs:EA}:aA f fs env M=Jh (fs env) (f env M):=rfl
theorem zeP {q:Mm->Option (ResA×Mm)}:Jh q (some (.v d,M))=p8 d (q M):=rfl
theorem zdW:p8 d (some (.v ds,M))=some (.v (d::ds),M):=rfl
noncomputable def pQ (o:List D->Option D) (r:Option (ResA×Mm)):O:=cP r fun ds M=>mapR M (o (ds.map (vw M)))
theorem q_n {o:List D->Option D}{fs:EA}:sN o fs env M=pQ o (fs env M):=rfl
theorem r_n {o:List D->Option D}:pQ o (some (.v ds,M))=mapR M (o (ds.map (vw M))):=rfl
noncomputable def mU (k:List D->Mm->O):Option (ResA×Mm)->O
 |some (.v ds,M)=>k ds M
 |some (.x c n,M)=>some (.x c n,M)
 |none=>none
theorem zez {q:List D->Mm->O}:mU q (some (.v ds,M))=q ds M:=rfl
theorem zfx {fs:EA}:aW fs env M=mU (fun ds M1=>if ds.length<=sizeLine then some (.v (.tup ds),M1) else none) (fs env M):=rfl
theorem zgw {fs:EA}:aX fs env M=mU (fun ds M1=>if ds.length<=sizeLine then some (.v (.lst ds),M1) else none) (fs env M):=rfl
def Ql:O->O
 |some (.v d,M)=>some (.v d,M)
 |_=>none
theorem zcZ:Ql (some (.v d,M))=some (.v d,M):=rfl
theorem ze0 {u:G}{fs:EA}:cC u fs env M=mU (fun ds M1=>Ql (u ds M1)) (fs env M):=rfl
noncomputable def cX (k:D->Mm->O):O->O
 |some (.v d,M)=>k d M
 |some (.x c n,M)=>some (.x c n,M)
 |none=>none
theorem BK {q:D->Mm->O}:cX q (some (.v d,M))=q d M:=rfl
noncomputable def Qp (M:Mm):D->O
 |.lst ds=>some (.v (.ref M.length),M ++ [.lst ds])
 |_=>none
theorem zc5:Qp M (.lst ds)=some (.v (.ref M.length),M ++ [.lst ds]):=rfl
theorem zea:gY f env M=cX (fun d M1=>Qp M1 d) (f env M):=rfl
noncomputable def R9 (M:Mm):D->O
 |.lst ds=>some (.v (.lst ds),M)
 |.tup ds=>some (.v (.lst ds),M)
 |_=>none
theorem zcC:R9 M (.lst ds)=some (.v (.lst ds),M):=rfl
theorem zeU:FT f env M=cX (fun d M1=>R9 M1 (vw M1 d)) (f env M):=rfl
noncomputable def xW (M:Mm):D->O
 |.lst ds=>mapR M ((eZ ds).map .lst)
 |_=>none
theorem zgZ:pI f env M=cX (fun d M1=>xW M1 (vw M1 d)) (f env M):=by
  unfold pI cX bnd
  cases f env M with
  |none=>rfl
  |some p=>obtain⟨r,M'⟩:=p;cases r with
    |x c n=>rfl
    |v d=>
      dsimp only;unfold xW;cases vw M' d<;>try rfl
      dsimp only;cases eZ _<;>rfl
theorem Fz (h:eZ ds=some es):xW M (.lst ds)=some (.v (.lst es),M):=by show mapR M ((eZ ds).map D.lst)=_;rw[h];rfl
noncomputable def Ob (d:D) (lo:Option Int):Option (Option Int×Mm)->O
 |some (hi,M3)=>mapR M3 (zj (vw M3 d) lo hi)
 |none=>none
noncomputable def V8 (d:D) (k:Mm->Option (Option Int×Mm)):Option (Option Int×Mm)->O
 |some (lo,M2)=>Ob d lo (k M2)
 |none=>none
theorem MF {l u:Env->Mm->Option (Option Int×Mm)}:xP f l u env M=cX (fun d M1=>V8 d (u env) (l env M1)) (f env M):=rfl
theorem zgm {lo:Option Int}{q:Mm->Option (Option Int×Mm)}:V8 d q (some (lo,M))=Ob d lo (q M):=rfl
theorem zhr {lo hi:Option Int}:Ob d lo (some (hi,M))=mapR M (zj (vw M d) lo hi):=rfl
theorem Mx:gD env M=some (none,M):=rfl
noncomputable def Bp:O->Option (Option Int×Mm)
 |some (.v (.int i),M)=>some (some i,M)
 |_=>none
theorem Mw:fK f env M=Bp (f env M):=rfl
theorem Np:Bp (some (.v (.int i),M))=some (some i,M):=rfl
noncomputable def dj (k:D->Mm->OS):O->OS
 |some (.v d,M)=>k d M
 |some (.x c n,M)=>some (.ex c n,M)
 |none=>none
theorem zfj {q:D->Mm->OS}:dj q (some (.v d,M))=q d M:=rfl
theorem zgU:aQ k f env M=dj (fun d M1=>if k<env.length then some (.nx (env.set k (.val d)),M1) else none) (f env M):=rfl
noncomputable def Td (k:Nat) (env:Env) (M:Mm):D->OS
 |.lst ds=>if k<env.length then some (.nx (env.set k (.own ds)),M) else none
 |_=>none
theorem zfi:Td k env M (.lst ds)=if k<env.length then some (.nx (env.set k (.own ds)),M) else none:=rfl
theorem zfl:yX k f env M=dj (fun d M1=>Td k env M1 d) (f env M):=rfl
theorem zhh:aM f env M=dj (fun d M1=>some (.rt d,M1)) (f env M):=rfl
theorem zer:yW f env M=dj (fun _ M1=>some (.nx env,M1)) (f env M):=rfl
noncomputable def Rr (s t:Mm->OS) (M:Mm):D->OS
 |.bl b=>if b=true then s M else t M
 |_=>none
theorem Ni {q r:Mm->OS}:Rr q r M (.bl b)=if b=true then q M else r M:=rfl
theorem Ml:bO c s t env M=dj (fun d M1=>Rr (s env) (t env) M1 d) (c env M):=rfl
noncomputable def z9 (k:Nat) (env:Env) (M:Mm):Option Slot->OS
 |some (.own ds)=>some (.nx (env.set k (.val (.lst ds))),M)
 |_=>none
theorem zge:lY k env M=z9 k env M env[k]? :=rfl
theorem zhn:z9 k env M (some (.own ds))=some (.nx (env.set k (.val (.lst ds))),M):=rfl
noncomputable def zO (k:Nat) (env:Env) (o:O):Option Slot->OS
 |some (.own ds)=>dj (fun d M1=>if ds.length<sizeLine then some (.nx (env.set k (.own (ds ++ [d]))),M1) else none) o
 |_=>none
theorem zfN:sI k f env M=zO k env (f env M) env[k]? :=rfl
theorem zfU {o:O}:zO k env o (some (.own ds))=dj (fun d M1=>if ds.length<sizeLine then some (.nx (env.set k (.own (ds ++ [d]))),M1) else none) o:=rfl
theorem Xh {ds0:List D}{M2:Mm}(h1:f env M=some (.v (.ref k),M1))(h2:M1[k]? =some (.lst ds0))(h3:g env M1=some (.v d,M2))(h4:M2[k]? =some (.lst ds))(hl:ds.length<sizeLine):fW f g env M=some (.nx env,M2.set k (.lst (ds ++ [d]))):=by
 simp only[fW,bM,h1,h2,h3,h4,hl,xbo]
noncomputable def forR (k:Nat) (t:S) (env:Env):Option (ResA×Mm)->OS
 |some (.v ds,M1)=>loopS k t ds env M1
 |some (.x c n,M1)=>some (.ex c n,M1)
 |none=>none
theorem zf1 {fs:EA}:dW k fs t env M=forR k t env (fs env M):=rfl
theorem zhi:forR k t env (some (.v ds,M))=loopS k t ds env M:=rfl
noncomputable def Bc:O->Option (ResA×Mm)
 |some (.v (.lst ds),M1)=>some (.v ds,M1)
 |some (.x c n,M1)=>some (.x c n,M1)
 |_=>none
theorem zdM:fH f env M=Bc (f env M):=rfl
theorem zes:Bc (some (.v (.lst ds),M))=some (.v ds,M):=rfl
noncomputable def Uq:Option (ResA×Mm)->Option (ResA×Mm)
 |some (.v [.int j],M1)=>if -1000000000<=j/\j<=1000000000 then some (.v ((List.range j.toNat).map fun(k:Nat)=>.int (0 + k)),M1) else none
 |some (.x c n,M1)=>some (.x c n,M1)
 |_=>none
theorem zeN {fs:EA}:wZ fs env M=Uq (fs env M):=rfl
theorem Nq (h: -1000000000<=i/\i<=1000000000):Uq (some (.v [.int i],M))=some (.v ((List.range i.toNat).map fun(k:Nat)=>.int (0 + k)),M):=xab h
theorem Mi {m:Nat}{t:S}:bF m t ds M=cZ (t (ds.map .val ++ List.replicate (m - ds.length) .un) M):=rfl
theorem zeK:cZ (some (.rt d,M))=some (.v d,M):=rfl
theorem zem {e:Env}:cZ (some (.nx e,M))=some (.v .non,M):=rfl
theorem zfm:bR (.int i) (.int j)=some (.int (i + j)):=rfl
theorem ze7:bR (.lst ds) (.lst es)=if ds.length + es.length<=sizeLine then some (.lst (ds ++ es)) else none:=rfl
theorem zho:dU (.int i) (.int j)=some (.int (i - j)):=rfl
theorem zgl:eX (.int i) (.int j)=if i.natAbs<18446744073709551616\/j.natAbs<18446744073709551616\/(i.natAbs.log2<10000/\j.natAbs.log2<10000) then some (.int (i * j)) else none:=rfl
theorem zeR:kI (.int i) (.int j)=if 0<j/\j.natAbs<1073741824 then some (.int (i / j)) else none:=rfl
theorem zf8:oMod (.int i) (.int j)=if 0<j then some (.int (i % j)) else none:=rfl
theorem zg0:dw (.int i) (.int j)=if 0<=j/\j.natAbs<=1000000/\i.natAbs<18446744073709551616 then some (.int (i ^ j.toNat)) else none:=rfl
theorem zgu:lU (.int i)=some (.int (-i)):=rfl
theorem Lq:aH .lt (.int i) (.int j)=some (.bl (decide (i<j))):=rfl
theorem Lp:aH .le (.int i) (.int j)=some (.bl (decide (i<=j))):=rfl
theorem Ln:aH .gt (.int i) (.int j)=some (.bl (decide (j<i))):=rfl
theorem Lk:aH .ge (.int i) (.int j)=some (.bl (decide (j<=i))):=rfl
theorem zf3:aH .eq (.int i) (.int j)=some (.bl (decide (i=j))):=by
 show(yt _ _).map D.bl=_
 simp[yt,dO,D.flat,D.dep,D.eq]
 rw[xaL];simp
theorem zgD:aH .ne (.int i) (.int j)=some (.bl (!decide (i=j))):=by
 show(pZ _ _).map D.bl=_
 simp[pZ,dO,D.flat,D.dep,D.eq]
 rw[xaL];simp
theorem Lr (h:d.dep<=50):aH .ne d d=some (.bl false):=by
 show(pZ d d).map D.bl=_;unfold pZ;rw[xab ⟨by simp[dO,h],h⟩,D.eq_refl];rfl
theorem zfM:aN (.lst ds) (.int i)=cu ds i:=rfl
theorem zgi:aN (.tup ds) (.int i)=cu ds i:=rfl
theorem zd5:fu [.lst ds]=some (.int ds.length):=rfl
theorem zdY:fu [.tup ds]=some (.int ds.length):=rfl
theorem zf6:gJ [.int i,.int j]=some (.int (if j<i then j else i)):=rfl
theorem zgy:fB [.int i,.int j]=some (.int (if j > i then j else i)):=rfl
theorem zei:gA (.lst ds)=some (!ds.isEmpty):=rfl
theorem zej:gA (.bl b)=some b:=rfl
theorem zhc {lo hi:Option Int}:zj (.str z) lo hi=if z.length<=sizeLine then some (.str (Txt.slice z lo hi)) else none:=rfl
theorem zg6 {lo hi:Option Int}:zj (.lst ds) lo hi=some (.lst (cI ds lo hi)):=rfl
end
noncomputable def Step (J:Env->Mm->Prop) (Q:OS->Prop):OS->Prop
 |some (.nx e,M)=>J e M
 |some (.ct e,M)=>J e M
 |some (.bk e,M)=>Q (some (.nx e,M))
 |some (.rt d,M)=>Q (some (.rt d,M))
 |some (.ex c n,M)=>Q (some (.ex c n,M))
 |none=>False
theorem JX {i:Nat}{body:S}{ds:List D}{env:Env}{M:Mm}(Q:OS->Prop)(J:Nat->Env->Mm->Prop)(h0:J 0 env M)
    (hs:∀(k:Nat) d env M,ds[k]? =some d->J k env M->i<env.length/\Step (J (k + 1)) Q (body (env.set i (.val d)) M)) (hd:∀env M,J ds.length env M->Q (some (.nx env,M))):Q (loopS i body ds env M):=by
  have key:∀(m k:Nat) (env:Env) (M:Mm),m + k=ds.length->J k env M->Q (loopS i body (ds.drop k) env M):=by
    intro m
    induction m with
    |zero=>
      intro k env M hk hJ;have e:k=ds.length:=by omega
      subst e;rw[xcD];exact hd env M hJ
    |succ m ih=>
      intro k env M hk hJ;have hlt:k<ds.length:=by omega
      obtain⟨hi,h1⟩:=hs k ds[k] env M (xag hlt) hJ;rw[xa6 hlt];simp only[loopS,hi,xbo]
      cases e:body (env.set i (.val ds[k])) M with
      |none=>rw[e]at h1;exact h1.elim
      |some o=>
        rw[e]at h1;obtain⟨o,M'⟩:=o
        cases o with
        |nx e'=>exact ih (k + 1) e' M' (by omega) h1
        |ct e'=>exact ih (k + 1) e' M' (by omega) h1
        |bk e'=>exact h1
        |rt d=>exact h1
        |ex c n=>exact h1
  have:=key ds.length 0 env M (by omega) h0
  rwa [xcw]at this
end E3
namespace E3
open PySem PySem.Spec PyProof.Rows L2
noncomputable def XN (H:Hp) (n:Int):Option Addr->Prop
 |none=>n=0
 |some d=>∃fs,H d=some (.xd fs)/\fs.lookup ("at":Str)=some (.int (n - 1))/\n≠0
noncomputable def XQ (K:Fgx) (mg:Mgx) (P:Pl) (H:Hp) (M':Mm) (Q:VK) (E:XK):Res->Prop
 |.v d=>∀P' v H',LtE P H P' H'->Hk K mg P' H' M'->Is K P' H' d v->Q v H'
 |.x c n=>∀P' H' C dx,LtE P H P' H'->Hk K mg P' H' M'->mg c=some (.ref C)->XN H' n dx->E (.ref C) dx H'
noncomputable def Cr (K:Fgx) (mg:Mgx) (n:Nat) (g:G):Sp:=fun vs H Q E=>vs.length=n/\∃P M ds r M',Hk K mg P H M/\aD K P H ds vs/\g ds M=some (r,M')/\XQ K mg P H M' Q E r
mutual
theorem Is.away {K:Fgx}{P:Pl}{H H':Hp}(s:∀b o,H b=some o->(∀g,o≠ .ext g)->H' b=some o):∀{d:D} {v:V},Is K P H d v->Is K P H' d v
  |.non,_,h=>h
  |.bl _,_,h=>h
  |.int _,_,h=>h
  |.str _,_,h=>h
  |.tup ds,_,h=>by
    obtain⟨a,vs,e,q,r⟩:=h;refine⟨a,vs,e,?_,aD.away s r⟩;rcases q with(q |⟨o,q⟩) |q
    · exact .inl (.inl (s _ _ q fun _ z=>nomatch z))
    · exact .inl (.inr ⟨o,s _ _ q fun _ z=>nomatch z⟩)
    · exact .inr q
  |.lst ds,_,h=>by
    obtain⟨a,vs,e,q,r⟩:=h;refine⟨a,vs,e,?_,aD.away s r⟩;rcases q with⟨n,q |⟨o,q⟩⟩ |q
    · exact .inl ⟨n,.inl (s _ _ q fun _ z=>nomatch z)⟩
    · exact .inl ⟨n,.inr ⟨o,s _ _ q fun _ z=>nomatch z⟩⟩
    · exact .inr q
  |.ref k,_,h=>h
theorem aD.away {K:Fgx}{P:Pl}{H H':Hp}(s:∀b o,H b=some o->(∀g,o≠ .ext g)->H' b=some o):∀{ds:List D} {vs:List V},aD K P H ds vs->aD K P H' ds vs
  | [],_,h=>h
  |_::_,_,h=>by
    obtain⟨v,r,e,p,q⟩:=h;exact⟨v,r,e,Is.away s p,aD.away s q⟩
end
theorem Hk.away {K:Fgx}{mg:Mgx}{P:Pl}{H H':Hp}{M:Mm}(h:Hk K mg P H M)(s:∀b o,H b=some o->(∀g,o≠ .ext g)->H' b=some o)(t:∀b,H' b=none->H b=none):Hk K mg P H' M:=by
  refine⟨h.n,fun k c e=>?_,h.inj,h.bd,fun a z q=>h.here a z (t a q)⟩;have:=h.cell k c e
  cases c with
  |lst ds=>
    obtain⟨vs,e1,q⟩:=this;exact⟨vs,s _ _ e1 (fun _ z=>nomatch z),aD.away s q⟩
  |obj c fs=>
    obtain⟨C,dx,gs,e1,e2,e3,q⟩:=this;exact⟨C,dx,gs,e1,s _ _ e2 (fun _ z=>nomatch z),e3,aD.away s q⟩
  |dct kvs=>
    obtain⟨vs,e1,e2,q⟩:=this;exact⟨vs,s _ _ e1 (fun _ z=>nomatch z),e2,aD.away s q⟩
  |dcf kvs=>
    obtain⟨vs,ob,es,ep,e1,eD,e2,q⟩:=this;exact⟨vs,ob,es,ep,s _ _ e1 (fun _ z=>nomatch z),eD,e2,aD.away s q⟩
  |fn i caps=>exact iB.up this (fun b o u e=>s b _ e fun _ z=>nomatch z) fun _ _ q=>aD.away s q
  |tbl nm i=>
    obtain⟨c,ps,e1,e2,e3⟩:=this;exact⟨c,ps,e1,s _ _ e2 (fun _ z=>nomatch z),e3.imp id fun⟨c',z,q⟩=>⟨c',z,q.up fun b o u e=>s b _ e fun _ z=>nomatch z⟩⟩
structure XFit (X:Cx)(Wx:XW):Prop where
 xr:∀pins σ H s a C dx c n P0 H0 P M,Inv X pins σ H s->H a=some (xo a C dx true)->¬ P.bd a->H0 a=none->LtE P0 H0 P H->Hk X.K X.mg P H M->X.mg c=some (.ref C)->XN H n dx->Wx P0 H0 M c n->X.xe (.ref a) s
section
variable {X:Cx}{Wx:XW}{pos:Pos}
noncomputable def sO (c:Str) (f:E):S:=fun env M=>bM (f env M) fun _ M1=>some (.ex c 0,M1)
theorem Om (F:XFit X Wx)(hc:X.calm=true)(m:X.mg c=some (.ref C))(q1:d7 X.K C=true)(q2:C_ X.K C=true)(kp:PySem.W.keepIn X.K (.ref C)=true)(hg:Gl X c)(he:SE X Wx .val e f)(hdb:(c==("__debug__":Str))=false:=by x_go)
  (hs:starEach [e] X.env=[(false,eval e X.env)]:=by rfl):SS X Wx (.Raise (some (.Call (.Name c p) [e] [] q)) none pos) (sO c f):=by
 refine kO (zcb (W:=fun a C' dx H=>dx=none/\C'=C/\∃P0 H0 P M,¬ P.bd a/\H0 a=none/\LtE P0 H0 P H/\Hk X.K X.mg P H M/\Wx P0 H0 M c 0) (zbC q1 q2 kp hg m he hdb hs) hc fun pins σ H s a C' dx I ea ⟨e1,e2,P0,H0,P,M,b,n,l,h,w⟩=>?_) ?_
 ·subst e1 e2;exact F.xr pins σ H s a _ none c 0 P0 H0 P M I ea b n l h m rfl w
 ·rintro D st H ⟨P0,H0,P,Os,env,M,out,M',k,e,q⟩;unfold sO at e;rcases gC e with⟨d,M1,e1,e⟩ |⟨c,n,e1,rfl⟩
  ·cases e;refine⟨P0,H0,P,Os,env,M,_,_,k,e1,fun P1 v H1 l1 h1 i1=>⟨rfl,fun a ha=>⟨a,C,none,rfl,bW,q1,rfl,rfl,P0,H0,P1,_,h1.new a ha,?_,?_,?_,q⟩⟩⟩
   ·exact k.base.sure a (l1.sure a ha)
   ·exact k.base.trans (l1.trans (LtE.same (nM ha)))
   ·exact h1.same (nM ha)
  ·exact⟨P0,H0,P,Os,env,M,_,_,k,e1,q⟩
end
section
variable {P:Program}{w:World}{K:Fgx}{mg:Mgx}{base:Heap}{k:Nat}{x qual:Str}{st:Stmt}{f:Addr}{fd:FuncData}{N ps:List Str}{b:S}
abbrev o_ (P:Program)(w:World)(K:Fgx)(mg:Mgx)(base:Heap)(N:List Str)(qual:Str)(st:Stmt)(f:Addr)(cdv:Value)(A:Around)(outer:List PySem.Env)(s:Shared)(H:Hp)(E:XK):Cx:=cY (lu P w) P w K mg base N qual (aJ st) f cdv A outer s H E
end
section
variable {P:Program}{w:World}{K:Fgx}{mg:Mgx}{base:Heap}{k:Nat}{x qual:Str}{st:Stmt}{f:Addr}{fd:FuncData}{N ps:List Str}{b:S}
theorem Y7 (F:FnOk P w K mg base (lu P w) k f fd ps sp):FnOk P w K mg base fO k f fd ps (fun vs H Q _=>sp vs H Q E0):=
 ⟨fun vs H Q E h=>F.len vs H Q E0 h,fun A outer s H args us vs Q E hr he hb hv hs=>xbO (F.run A outer s H args us vs Q E0 hr he hb hv hs) fun r s' z=>by
  cases r with
  |error e=>obtain⟨_,_,_,_,_,_,_,_,_,_,_,_,_,_,z⟩:=z;exact z
  |ok fl=>cases fl<;>exact z⟩
theorem Ju (F:FnOk P w K mg base (lu P w) k f fd ps (Cr K mg n g)):FnOk P w K mg base fO k f fd ps (nR K mg n g):=by
 have F0:=Y7 F;refine⟨fun vs H Q E h=>F0.len vs H Q E ?_,fun A outer s H args us vs Q E hr he hb hv hs=>F0.run A outer s H args us vs Q E hr he hb hv ?_⟩
 ·obtain⟨hl,P,M,ds,d,M',hk,is,e,q⟩:=h;exact⟨hl,P,M,ds,.v d,M',hk,is,e,q⟩
 ·obtain⟨hl,P,M,ds,d,M',hk,is,e,q⟩:=hs;exact⟨hl,P,M,ds,.v d,M',hk,is,e,q⟩
def fZ (P:Program)(w:World)(K:Fgx)(mg:Mgx)(base:Heap)(k:Nat)(C:Addr)(m:Str)(n:Nat)(g:G):Prop:=
 ∃f fd ps,Meth K C m f/\FnOk P w K mg base (lu P w) k f fd ps (Cr K mg n g)/\Binds K fd ps []
def fY (P:Program)(w:World)(K:Fgx)(mg:Mgx)(base:Heap)(k:Nat)(C:Addr)(n:Nat)(g:G):Prop:=
 ∃f fd ps,Mk K C f/\FnOk P w K mg base (lu P w) k f fd ps (Cr K mg n g)/\Binds K fd ps []
def lq (P:Program)(w:World)(K:Fgx)(mg:Mgx)(base:Heap)(k:Nat)(f:Str)(n:Nat)(g:G):Prop:=
 ∃fa fd ps,mg f=some (.ref fa)/\PySem.W.keepIn K (.ref fa)=true/\FnOk P w K mg base (lu P w) k fa fd ps (Cr K mg n g)/\Binds K fd ps []
theorem fZ.quiet (a:fZ P w K mg base k C m n g):cV P w K mg base k C m n g:=by
 obtain⟨f,fd,ps,h1,h2,h3⟩:=a;exact⟨f,fd,ps,h1,Ju h2,h3⟩
theorem fY.quiet (a:fY P w K mg base k C n g):mz P w K mg base k C n g:=by
 obtain⟨f,fd,ps,h1,h2,h3⟩:=a;exact⟨f,fd,ps,h1,Ju h2,h3⟩
theorem lq.quiet (a:lq P w K mg base k x n g):aY P w K mg base k x n g:=by
 obtain⟨fa,fd,ps,h1,h2,h3,h4⟩:=a;exact⟨fa,fd,ps,[],[],_,h1,h2,Ju h3,h4,.nil,fun vs H Q E h=>by rw[xax];exact h⟩
theorem fZ.mono (a:fZ P w K mg base j C m n g)(h:j<=k):fZ P w K mg base k C m n g:=by
 obtain⟨f,fd,ps,h1,h2,h3⟩:=a;exact⟨f,fd,ps,h1,h2.mono h,h3⟩
theorem fY.mono (a:fY P w K mg base j C n g)(h:j<=k):fY P w K mg base k C n g:=by
 obtain⟨f,fd,ps,h1,h2,h3⟩:=a;exact⟨f,fd,ps,h1,h2.mono h,h3⟩
theorem lq.mono (a:lq P w K mg base j x n g)(h:j<=k):lq P w K mg base k x n g:=by
 obtain⟨f,fd,ps,h1,h2,h3,h4⟩:=a;exact⟨f,fd,ps,h1,h2,h3.mono h,h4⟩
end
end E3
namespace L2
open PySem PySem.Spec PyProof.Rows
section
variable {X:Cx}{CX:fP}{k:Nat}{f C:Addr}{fd:FuncData}{ps:List Str}{sp:Sp}{x m:Str}{p pos apos:Pos}{e o:Expr}{es:List Expr}{ta:TE}{t:TA}{Ex:St->XK}
def Xg (CX:fP)(X:Cx)(Ex:St->XK):Prop:=∀pins σ H s e s',Inv X pins σ H s->CX X.stack H s (Ex σ) e s'->X.xe e s'
end
end L2
namespace E3
open PySem PySem.Spec PyProof.Rows L2
section
variable {X:Cx}{Wx:XW}{pos:Pos}
def SX (X:Cx)(e:Expr)(f:E):Prop:=∀Ex:L2.St->XK,Xg (lu X.prog X.w) X Ex->PE X e fun st H Q=>∃P0 H0 P Os env M r M',Ok X.K X.mg P0 H0 P Os H M st env/\f env M=some (r,M')/\XQ X.K X.mg P H M' Q (Ex st) r
theorem XQ.lt {K:Fgx}{mg:Mgx}{P P1:Pl}{H H1:Hp}{M':Mm}{Q:VK}{E:XK}{r:Res}(l:LtE P H P1 H1)(q:XQ K mg P H M' Q E r):XQ K mg P1 H1 M' Q E r:=by
 cases r with
 |v d=>exact fun P' v H' l' h i=>q P' v H' (l.trans l') h i
 |x c n=>exact fun P' H' C dx l' h m xn=>q P' H' C dx (l.trans l') h m xn
noncomputable def FQ (g:G) (fs:EA):E:=fun env M=>match fs env M with
 |some (.v ds,M1)=>g ds M1
 |_=>none
theorem zdm (a:lq X.prog X.w X.K X.mg X.base k f n g)(hr:Room k X.A)(hg:Gl X f)(ha:SA X W0 .val (e::es) fs)(hn:nY n fs)(hdb:(f==("__debug__":Str))=false:=by x_go)
  (he:starEach (e::es) X.env=(false,eval e X.env)::starEach es X.env:=by rfl) (hpl:(backTo pos (starEach es X.env)).any (·.1)=false:=by rfl):SX X (.Call (.Name f p) (e::es) [] pos) (FQ g fs):=by
 obtain⟨fa,fd,ps,hm,hk,F,hb⟩:=a;intro Ex hx;refine cB (zb0 F hr hg hm hk hb .nil hx ha hdb he hpl) ?_;rintro st H Q ⟨P0,H0,P,Os,env,M,r,M',k,e,q⟩;unfold FQ at e;split at e
 ·rename_i ds M1 e1;exact ⟨P0,H0,P,Os,env,M,_,_,k,e1,fun P1 vs H1 l1 h1 i1=>by
   dsimp only;rw[xax];exact⟨by rw[i1.len];exact hn _ _ _ _ e1,P1,M1,ds,r,_,h1,i1.iss,e,q.lt l1⟩⟩
 ·cases e
noncomputable def zhz (K:Fgx) (mg:Mgx) (E:XK) (P0:Pl) (H0:Hp) (P:Pl) (H:Hp) (M':Mm) (D:Ends):Out->Prop
 |.ex c n=>∀P' H' C dx,LtE P H P' H'->Hk K mg P' H' M'->mg c=some (.ref C)->XN H' n dx->E (.ref C) dx H'
 |.nx env=>Post K mg W0 P0 H0 P H M' D (.nx env)
 |.bk env=>Post K mg W0 P0 H0 P H M' D (.bk env)
 |.ct env=>Post K mg W0 P0 H0 P H M' D (.ct env)
 |.rt d=>Post K mg W0 P0 H0 P H M' D (.rt d)
end
end E3
namespace L2
open PySem PySem.Spec PyProof.Rows
end L2
namespace E3
open PySem PySem.Spec PyProof.Rows L2
section
variable {X:Cx}{Wx:XW}
noncomputable def Ec (f:E):EA:=fun env M=>match f env M with
 |some (.v (.tup ds),M1)=>some (.v ds,M1)
 |some (.x c n,M1)=>some (.x c n,M1)
 |_=>none
theorem zgW (h:SE X Wx .val e f):SI X Wx tg e (Ec f):=by
 refine Br (zd0 h) ?_;rintro st H R ⟨P0,H0,P,Os,env,M,r,M',k,e,q⟩;unfold Ec at e;split at e
 ·rename_i ds M1 ef;cases e;refine⟨P0,H0,P,Os,env,M,_,_,k,ef,fun P1 v1 H1 l1 h1 i1=>?_⟩;obtain⟨a,vs,rfl,ra,is⟩:=i1;refine⟨a,rfl,⟨vs,ra⟩,q P1 H1 _ l1 h1 fun P2 H2 l2=>?_⟩;have sq:c7 X.K H2 a vs:=l2.tup ra;have is2:=aD.lt l2 is;refine⟨fun j hj=>?_,fun j h1 h2=>⟨vs,sq,by rw[is2.len];exact h1⟩,fun j x H' y hj=>⟨y.1,?_⟩⟩
  ·obtain⟨v,ev,_⟩:=aD.get is2 (xag hj);exact⟨vs,v,sq,ev⟩
  ·obtain⟨v,ev,iv⟩:=aD.get is2 (xag hj);have:=y.2 vs sq;rw[ev]at this;cases this;exact⟨_,xag hj,iv⟩
 ·rename_i c n M1 ef;cases e;exact⟨P0,H0,P,Os,env,M,_,_,k,ef,q⟩
 ·cases e
end
theorem zff {K:Fgx}{C:Addr}(h1:PySem.W.findIn K (.ref C) "__getattribute__"=some (some (.builtin "BaseException.__getattribute__")))(h2:PySem.W.findIn K (.ref C) "__getattr__"=some none)(h3:PySem.W.mroIn K C (.type "BaseException")=some true):G7 K C=true:=by
 simp only[G7,h1,h2,h3,xbf,xdb]
theorem zeh {K:Fgx}{C:Addr}(h1:G7 K C=true)(h2:PySem.W.hasDictIn K C=true)(h3:PySem.W.findIn K (.ref C) "__class__"=some (some (.builtin "object.__class__")))(h4:PySem.W.specialIn K (.builtin "object.__class__") "__get__"=some (some (.builtin "getset_descriptor.__get__")))
  (h5:PySem.W.takesIn K (.builtin "object.__class__")=some true) (h6:PySem.W.mroIn K C (.type "object")=some true):G8 K C=true:=by
 simp only[G8,h1,h2,h3,h4,h5,h6,xbf,xdb]
end E3
namespace E3
open PySem L2
section
variable {env:Env}{M M1 M2:Mm}{f g o v:E}{d e x:D}{i:Int}{k:Nat}{ds:List D}{s t:S}{c me fl:Str}{fs:List (Str×D)}{gg:G}{fa:EA}
theorem Ls (h:M[k]? =some (.obj c fs)):xu M c (.ref k)=some (k,fs):=by unfold xu;simp only[h,xbo]
theorem zZ (h1:o env M=some (.v (.ref k),M1))(h2:M1[k]? =some (.obj c fs))(h3:fs.lookup fl=some x):bC c fl o env M=some (.v x,M1):=by
 simp only[bC,bnd,h1,Ls h2,h3,xbb]
theorem z6 (h1:v env M=some (.v x,M1))(h2:o env M1=some (.v (.ref k),M2))(h3:M2[k]? =some (.obj c fs))(h4:fs.length<1000):fX c fl o v env M=some (.nx env,M2.set k (.obj c (putD fl x fs))):=by
 simp only[fX,bM,h1,h2,Ls h3,h4,xbo]
theorem kE (h1:o env M=some (.v (.ref k),M1))(h2:M1[k]? =some (.obj c fs))(h3:fs.lookup me=none)(h4:fa env M1=some (.v ds,M2))(h5:gg (.ref k::ds) M2=some (.v x,M3)):bH c me gg o fa env M=some (.v x,M3):=by
 simp only[bH,bnd,h1,Ls h2,h3,xbo,cP,h4,h5]
theorem S_ (h4:fa env M=some (.v ds,M1))(h5:gg (.ref M1.length::ds) (M1 ++ [.obj c []])=some (.v .non,M3)):vm c gg fa env M=some (.v (.ref M1.length),M3):=by
 simp only[vm,cP,h4,h5]
theorem zeC {a:Int}:cZ (some (.ex c a,M))=some (.x c a,M):=rfl
noncomputable def WT:O->Option (ResA×Mm)
 |some (.v (.tup ds),M1)=>some (.v ds,M1)
 |some (.x c n,M1)=>some (.x c n,M1)
 |_=>none
theorem zfA:Ec f env M=WT (f env M):=rfl
theorem zfP:WT (some (.v (.tup ds),M))=some (.v ds,M):=rfl
end
theorem mz.mono (a:mz P w K mg base j C n g)(h:j<=k):mz P w K mg base k C n g:=by
 obtain⟨f,fd,ps,h1,h2,h3⟩:=a;exact⟨f,fd,ps,h1,h2.mono h,h3⟩
end E3
namespace E3
open PySem PySem.Spec PyProof.Rows L2
theorem d9 (hN:X.N[i]? =some x)(hv:yp X.env.scope x)(hd:(x==("__debug__":Str))=false:=by x_go)(hcd:(x==("__classdict__":Str))=false:=by x_go):SE X Wx m (.Name x pos) (aj i):=(V1 hN hv hd hcd).bor
noncomputable def bN (cs:List (Str×Nat)) (env:Env):Env:=cs.map fun p=>(env[p.2]?).getD .un
noncomputable def lF (cs:List (Str×Nat)) (Os:List (Option Addr)):List (Option Addr):=cs.map fun p=>(Os[p.2]?).join
section
variable {K:Fgx}{mg:Mgx}{P0 P:Pl}{H0 H:Hp}{M:Mm}{Os:List (Option Addr)}{st:L2.St}{env:Env}{d:D}{v:V}
theorem Jb {cs:List (Str×Nat)}{i:Nat}{a:Addr}(h:(lF cs Os)[i]? =some (some a)):∃p,cs[i]? =some p/\Os[p.2]? =some (some a):=by
 unfold lF at h;rw[xan,xac]at h;obtain⟨p,e,h⟩:=h;exact⟨p,e,uc h⟩
theorem Ok.cap {cs:List (Str×Nat)}(k:Ok K mg P0 H0 P Os H M st env)(nd:(cs.map (·.2)).Nodup)(h:Is K P H d v):Ok K mg P0 H0 P (none::lF cs Os) H M (some v::fQ cs st) (.val d::bN cs env) where
  hk:=k.hk
  base:=k.base
  b0:=k.b0
  slot:=fun i s e=>by
    cases i with
    |zero=>cases e;exact⟨v,rfl,h⟩
    |succ i=>
      rw[xbA]at e ⊢;rw[xbA];unfold bN at e;rw[xan,xac]at e;obtain⟨p,ep,e⟩:=e;have eo:((lF cs Os)[i]?).join=(Os[p.2]?).join:=by unfold lF;rw[xan,ep];rfl
      have es:((fQ cs st)[i]?).join=(st[p.2]?).join:=by unfold fQ;rw[xan,ep];rfl
      rw[eo,es]
      cases e':env[p.2]? with
      |none=>rw[e']at e;cases e;exact True.intro
      |some s'=>rw[e']at e;cases e;exact k.slot _ _ e'
  own:=fun a h=>by
    rw[xaJ]at h;rcases h with h |h
    · cases h
    · obtain⟨i,hi⟩:=xdN.mp h;obtain⟨p,_,e⟩:=Jb hi;exact k.own a (xaC e)
  inj:=fun i j a e1 e2=>by
    cases i with
    |zero=>cases e1
    |succ i=>
      cases j with
      |zero=>cases e2
      |succ j=>
        rw[xbA]at e1 e2;obtain⟨p,h1,h2⟩:=Jb e1;obtain⟨q,h3,h4⟩:=Jb e2;have e:=k.inj _ _ a h2 h4;congr 1;have hi:(cs.map (·.2))[i]? =some p.2:=by rw[xan,h1];rfl
        have hj:(cs.map (·.2))[j]? =some p.2:=by rw[xan,h3,e];rfl
        have il:=(xam.mp hi).1;exact(List.getElem?_inj il nd).mp (hi.trans hj.symm)
  olen:=by simp[lF,bN]
  slen:=by simp[fQ,bN]
end
section
variable {X:Cx}{Wx:XW}{m:Mode}{pos:Pos}
noncomputable def fD (q e:E) (env:Env):List D->List D->Mm->Option (List D×Mm)
  | [],acc,M=>some (acc,M)
  |d::ds,acc,M=>match q (.val d::env) M with
    | some (.v (.bl true), M1) => (match e (.val d::env) M1 with
      |some (.v y,M2)=>if acc.length + 1<sizeLine then fD q e env ds (acc ++ [y]) M2 else none
      |_=>none)
    |some (.v (.bl false),M1)=>fD q e env ds acc M1
    |_=>none
noncomputable def pH (cs:List (Str×Nat)) (fs:EA) (q e:E):E:=fun env M=>match fs env M with
  | some (.v ds, M1) => (match fD q e (bN cs env) ds [] M1 with
    |some (ys,M2)=>some (.v (.lst ys),M2)
    |none=>none)
  |some (.x c n,M1)=>some (.x c n,M1)
  |none=>none
theorem DN:∀env M r M',pH cs fs q e env M=some (.v r,M')->∃ds,r=.lst ds:=fun env M r M' h=>by
 unfold pH at h;split at h
 ·split at h
  ·cases h;exact⟨_,rfl⟩
  ·cases h
 ·cases h
 ·cases h
theorem JC {K:Fgx}{mg:Mgx}{P1 P:Pl}{H1 H:Hp}{M:Mm}{D:Addr}{vs vs':List V}(l:LtE P1 H1 P H)(h:Hk K mg P H M)(hD:H1 D=none)(bD:P.bd D)(nc:∀k,k<P.n->P.io k≠D)(e:H D=some (.lst vs)):
  Lt P H P (upd H D (.lst vs'))/\LtE P1 H1 P (upd H D (.lst vs'))/\Hk K mg P (upd H D (.lst vs')) M:=by
 have lc:Lt P H P (upd H D (.lst vs')):=w6 bD e Eu;refine⟨lc,⟨l.n,l.io,l.bd,l.bm,fun c o ec n=>?_,fun c z=>l.sure c (lc.sure c z),l.nw⟩,⟨h.n,fun j c ej=>(h.cell j c ej).lt lc fun o eo=>?_,h.inj,h.bd,fun c z q=>h.here c z (lc.sure c q)⟩⟩
 ·rw[aU (fun z=>by subst z;rw[hD]at ec;cases ec)];exact l.keep c o ec n
 ·rw[aU (nc j (by rw[h.n];exact(xam.mp ej).1))];exact eo
noncomputable def NR (K:Fgx) (mg:Mgx) (Wx:XW) (P0:Pl) (H0:Hp) (P:Pl) (H:Hp) (M':Mm) (R:Addr->Hp->Prop):Res->Prop
 |.v d=>∃ds,d=.lst ds/\∀P' a vs H',LtE P H P' H'->Hk K mg P' H' M'->H a=none->P'.bd a->(∀k,k<P'.n->P'.io k≠a)->H' a=some (.lst vs)->aD K P' H' ds vs->R a H'
 |.x c n=>Wx P0 H0 M' c n
theorem Yn {K:Fgx}{mg:Mgx}{cs:List (Str×Nat)}{fs:EA}{q e:E}{P0 P:Pl}{H0 H:Hp}{Os:List (Option Addr)}{M M':Mm}{st:L2.St}{env:Env}{r:Res}{R:Addr->Hp->Prop}(nd:(cs.map (·.2)).Nodup)
    (k:Ok K mg P0 H0 P Os H M st env) (h:pH cs fs q e env M=some (r,M')) (w:NR K mg Wx P0 H0 P H M' R r):Cz (tI K mg Wx fs) (tu K mg W0 q) (tE K mg W0 .val e) cs st H R:=by
  unfold pH at h;split at h
  · rename_i ds M1 ef;split at h
    rotate_left
    · cases h
    rename_i ys M2 ec;cases h;obtain ⟨ds', e', w⟩ := w;cases e';refine ⟨P0, H0, P, Os, env, M, _, _, k, ef, fun P1 H1 J l1 h1 wk D hD => ?_⟩;obtain ⟨l2, h2, nc⟩ := wM (vs := []) h1 hD;refine ⟨fun i m vs H2=>m=ds.length - i/\i<=ds.length/\∃P2 M3 acc,LtE P1 H1 P2 H2/\Hk K mg P2 H2 M3/\P2.bd D/\(∀k,k<P2.n->P2.io k≠D)/\H2 D=some (.lst vs)/\aD K P2 H2 acc vs/\acc.length<sizeLine/\fD q e (bN cs env) (ds.drop i) acc M3=some (ys,M'),
      ⟨ds.length,by simp,xbg _,P1.bar D,M1,[],l2,h2,.inr rfl,nc,bW,rfl,by x_go,by rw[xcw];exact ec⟩,?_⟩
    rintro i m vs H2 ⟨rfl,hi,P2,M3,acc,l3,h3,bD,nD,eD,is,hz,ec⟩;refine⟨eD,?_⟩;obtain⟨w1,w2,w3⟩:=wk P2 H2 (l3.lt h1)
    by_cases hlt:i<ds.length
    · refine .inr ⟨w1 i hlt,by rw[is.len];exact hz,fun vs' H'=>∃P2 M3 acc,LtE P1 H1 P2 H'/\Hk K mg P2 H' M3/\P2.bd D/\(∀k,k<P2.n->P2.io k≠D)/\H' D=some (.lst vs')/\aD K P2 H' acc vs'/\acc.length<sizeLine/\fD q e (bN cs env) (ds.drop (i + 1)) acc M3=some (ys,M'),
        fun vs' H' z=>⟨ds.length - (i + 1),by omega,rfl,hlt,z⟩,fun x H' y=>?_⟩
      obtain⟨e3,d,ed,iv⟩:=w3 i x H' y hlt;subst e3;have ed':ds.drop i=d::ds.drop (i + 1):=by
        rw[xa6 hlt];rw[xag hlt]at ed;rw[xav ed]
      rw[ed']at ec;have kk:=((k.next l1 h1).next l3 h3).cap (cs:=cs) nd iv
      simp only[fD]at ec;split at ec
      · rename_i M4 eq;refine gF kk eq ⟨true,rfl,fun P4 H4 l4 h4=>?_⟩;dsimp only;rw[xab rfl];split at ec
        · rename_i y' M5 ee;split at ec
          · rename_i hz';refine aV (kk.next l4 h4) ee fun P5 v5 H5 l5 h5 i5=>?_
            have l45:=l4.trans l5;have eD5:H5 D=some (.lst vs):=l45.keep D _ eD (.inr nD);have nD5:∀k,k<P5.n->P5.io k≠D:=l45.nc eD nD;obtain⟨g1,g2,g3⟩:=JC (vs':=vs ++ [v5]) (l3.trans l45) h5 hD (l45.bm D bD) nD5 eD5;refine⟨eD5,P5,M5,acc ++ [y'],g2,g3,l45.bm D bD,nD5,bW,aD.append (aD.lt ((l45.lt h3).trans g1) is) (aD.one (Is.lt g1 i5)),by rw[xaj];exact hz',ec⟩
          · cases ec
        · cases ec
      · rename_i M4 eq;refine gF kk eq ⟨false,rfl,fun P4 H4 l4 h4=>?_⟩;dsimp only;rw[xad (by decide)];exact⟨P4,M4,acc,l3.trans l4,h4,l4.bm D bD,l4.nc eD nD,l4.keep D _ eD (.inr nD),aD.lt (l4.lt h3) is,hz,ec⟩
      · cases ec
    · have ei:i=ds.length:=by omega
      subst ei;rw[xcD]at ec;cases ec;exact .inl ⟨w2 _ (xaf _) (xaf _),w P2 D vs H2 (l1.trans l3) h3 (l1.sure D hD) bD nD eD is⟩
  · rename_i c n M1 ef;cases h;exact⟨P0,H0,P,Os,env,M,_,_,k,ef,w⟩
  · cases h
def SQ (X:Cx)(ifs:List Expr)(q:E):Prop:=mO X ifs (tu X.K X.mg W0 q)
theorem GX:SQ X [] (ao (.bl true)):=fun pins s σ H Q I h=>by
 obtain⟨P0,H0,P,Os,env,M,r,M',k,e,q⟩:=h;cases e;obtain⟨b,e2,q⟩:=q;cases e2;exact T7 pins s σ H Q I (q P H (LtE.refl P H) k.hk)
theorem Wg (h:ST X W0 c q):SQ X [c] q:=zca h
section
variable {elt iter:Expr}{ifs:List Expr}{scope:Scope}{fs:EA}{q e:E}
theorem GJ (x:Str)(cs:List (Str×Nat))(hc:X.calm=true)(nd:(cs.map (·.2)).Nodup)(hi:SI X Wx (.Name x px) iter fs)
  (hq:∀(cl:List (Str×Addr)) (C:Addr) (s₀:Shared) (H₀:Hp) (ex:List Addr) (pn:Pnx),SQ (d8 X (x::cs.map (·.1)) scope cl C s₀ H₀ ex pn) ifs q)
  (he:∀(cl:List (Str×Addr)) (C:Addr) (s₀:Shared) (H₀:Hp) (ex:List Addr) (pn:Pnx),SE (d8 X (x::cs.map (·.1)) scope cl C s₀ H₀ ex pn) W0 .val elt e)
  (ok:yx X.N X.env.scope x cs scope=true:=by kernel_rfl) (hs:∀x,foldedSetIterable iter X.env x=pure x:=by intro _;rfl):
  SN X Wx (.ListComp elt [⟨.Name x px,iter,ifs,0⟩] scope pos) (pH cs fs q e):=by
 refine cB (Lz (tq:=tu X.K X.mg W0 q) (te:=tE X.K X.mg W0 .val e) x cs hc hi hq he ok hs) ?_;rintro st H Q ⟨P0,H0,P,Os,env,M,r,M',k,e,w⟩;refine Yn nd k e ?_
 cases r with
 |v d=>exact w
 |x c n=>exact w
end
end
section
variable {X:Cx}{Wx:XW}{m:Mode}{pos:Pos}
noncomputable def gZ (f:E):E:=fun env M=>bnd (f env M) fun d M1=>match d with
  | .ref j => (match M1[j]? with
    | some (.lst ds) => (match ds[ds.length - 1]? with
      |some z=>some (.v z,M1.set j (.lst ds.dropLast))
      |none=>none)
    |_=>none)
  |_=>none
theorem aD.dropLast {K:Fgx}{P:Pl}{H:Hp}{ds:List D}{vs:List V}(h:aD K P H ds vs):aD K P H ds.dropLast vs.dropLast:=by
 rw[xdO,xdO,h.len];exact h.take _
theorem GC (ho:SE X Wx .val o f)(hbase:attributeBase o "pop" X.env (eval o X.env)=eval o X.env:=by rfl)(hline:(p.endLine==pos.line)=true:=by rfl):
  SE X Wx m (.Call (.Attribute o "pop" p) [] [] pos) (gZ f):=by
 refine cB (zeA xbY PySem.F.slot_list_pop PySem.F.type_list_pop zd6 ho hbase hline) ?_;rintro st H Q ⟨P0,H0,P,Os,env,M,r,M',k,e,q⟩;unfold gZ at e;rcases cA e with⟨d,M1,e1,e⟩ |⟨c,n,e1,rfl⟩
 ·cases d<;>simp only[reduceCtorEq]at e
  rename_i j;split at e
  rotate_left
  ·cases e
  rename_i ds em;split at e
  rotate_left
  ·cases e
  rename_i z ez;cases e;refine aV k e1 fun P1 v1 H1 l1 h1 i1=>?_;obtain⟨jl,rfl⟩:j<P1.n/\v1=.ref (P1.io j):=i1;obtain⟨vs,ev,is⟩:=h1.cell j _ em;obtain⟨v,evt,iv⟩:=is.get ez;have lc:Lt P1 H1 P1 (upd H1 (P1.io j) (.lst vs.dropLast)):=w6 (h1.bd j jl) ev Eu;obtain⟨l3,l3e,h3⟩:=h1.set (c':=.lst ds.dropLast) (o':=.lst vs.dropLast) em ⟨_,bW,(aD.lt lc is).dropLast⟩;refine⟨.inl ⟨rfl,vs,.inl (.inl ev)⟩,P1.io j,vs,v,rfl,rfl,ev,by rw[is.len];exact evt,?_⟩;exact q P1 v _ (l1.trans l3e) h3 (cO.of h3 (Is.lt l3 iv))
 ·exact aV k e1 q
end
section
variable {X:Cx}{Wx:XW}{m:Mode}{pos:Pos}
inductive ResP where
 |v (ps:List (D×D)) |x (c:Str) (n:Int)
noncomputable def eF (M:Mm) (d:D):String:=match d with
  | .ref k => (match M[k]? with
    |some (.lst _)=>"list"
    |some (.dct _)=>"dict"
    |_=>"")
  |d=>CW d
noncomputable def fL (tb:String->String->Option Bool) (T:String) (f:E):E:=fun env M=>bnd (f env M) fun d M1=>if eF M1 d="" then none else(tb (eF M1 d) T).map fun b=>(.v (.bl b),M1)
theorem Xy:dH X (.builtin "isinstance") (fun xs H Q=>∃(x:V) (T:String) (d:D) (P:Pl) (M:Mm) (b:Bool),xs=[x,.ty T]/\Hk X.K X.mg P H M/\dz X.K P H d x/\eF M d≠""/\PySem.W.kitOne X.K (.type (eF M d)) (.type T)=some b/\Q (.bl b) H):=by
  intro pins s σ H xs us Q I r h;obtain⟨x,T,d,P,M,b,rfl,hk,i,ne,e,q⟩:=h;have old:eF M d=CW (vw M d)->wpAny (model X.prog X.w) X.A (call (.builtin "isinstance") us) (EP X pins σ Q) X.xe s:=fun et=>by
    rw[et]at ne e;exact Xx pins s σ H _ us Q I r ⟨x,T,vw M d,P,b,rfl,dz.vw hk i,ne,e,q⟩
  cases d with
  |ref k=>
    cases em:M[k]? with
    |none=>simp[eF,em]at ne
    |some c=>
      cases c with
      |lst ds=>exact old (by simp[eF,vw,em,CW])
      |obj c fs=>simp[eF,em]at ne
      |dcf kvs=>simp[eF,em]at ne
      |fn i caps=>simp[eF,em]at ne
      |tbl nm i=>simp[eF,em]at ne
      |dct kvs=>
        obtain⟨u,w',rfl,rx,rT⟩:=vals2 r;cases rT;obtain⟨kl,rfl⟩:k<P.n/\x=.ref (P.io k):=i;cases rx;obtain⟨vs,ev,_⟩:=hk.cell k _ em;obtain⟨_,_,vs',_,o,es,ep,h1,h2,_⟩:=I.hok _ _ ev;simp only[eF,em]at e;exact xaP xdf I.kIn ⟨o,h1,h2.1⟩ e (fun z=>nomatch z) fun tk=>⟨.bl b,H,I.tok _,rfl,q⟩
  |non=>exact old rfl
  |bl _=>exact old rfl
  |int _=>exact old rfl
  |str _=>exact old rfl
  |tup _=>exact old rfl
  |lst _=>exact old rfl
theorem zc (ht:∀t b,tb t T=some b->PySem.W.kitOne X.K (.type t) (.type T)=some b)(he:SE X Wx .bor e f)(hg:Gl X "isinstance")(hm:X.mg "isinstance"=none)(hg':Gl X (Str.ofString T))(hm':X.mg (Str.ofString T)=none)(hT:bootBuiltins (Str.ofString T)=some (.type T))
  (n1:Str.ofString T≠"__name__":=by x_go) (n2:(Str.ofString T==("__debug__":Str))=false:=by x_go) (hs:starEach [e,.Name (Str.ofString T) p'] X.env=(false,eval e X.env)::starEach [.Name (Str.ofString T) p'] X.env:=by rfl):
  SE X Wx m (.Call (.Name "isinstance" p) [e,.Name (Str.ofString T) p'] [] pos) (fL tb T f):=by
 have pT:PE X (.Name (Str.ofString T) p') (tC (.ty T)):=zdq hg' hm' hT rfl n1 n2;refine cB (Ly Xy hg hm boot_isinstance (su he (su pT vd) hs) (by x_go) (by x_go) hs rfl) ?_;rintro st H Q ⟨P0,H0,P,Os,env,M,r,M',k,e,q⟩;unfold fL at e;rcases cA e with⟨d,M1,e1,e⟩ |⟨c,n,e1,rfl⟩
 ·split at e
  ·cases e
  ·rename_i hne;rw[xac]at e;obtain⟨b,eb,e⟩:=e;cases e;exact aV k e1 fun P1 v1 H1 l1 h1 i1=>⟨v1,T,d,P1,_,b,rfl,h1,i1,hne,ht _ _ eb,q P1 _ H1 l1 h1 (cO.of h1 (show Is _ _ _ (.bl b) _ from rfl))⟩
 ·exact aV k e1 q
end
section
variable {X:Cx}{Wx:XW}{m:Mode}{pos:Pos}
noncomputable def zA:D->Option Str
 |.str z=>if z.length<=sizeLine then some z else none
 |.int i=>if i.natAbs.log2<1920 then some (toString i) else none
 |_=>none
abbrev EJ:=Str->Env->Mm->O
noncomputable def gq:EJ:=fun out _ M=>if out.length<=sizeLine then some (.v (.str out),M) else none
noncomputable def gn (z:Str) (ps:EJ):EJ:=fun out env M=>if (out ++ z).length<=sizeLine then ps (out ++ z) env M else none
noncomputable def lN (f:E) (ps:EJ):EJ:=fun out env M=>bnd (f env M) fun d M1=>match zA d with
 |some y=>if (out ++ y).length<=sizeLine then ps (out ++ y) env M1 else none
 |none=>none
noncomputable def tJ (K:Fgx) (mg:Mgx) (Wx:XW) (ps:EJ):TJ:=fun out st H Q=>tE K mg Wx .val (ps out) st H Q
def SJ (X:Cx)(Wx:XW)(vs:List Expr)(ps:EJ):Prop:=PJ X vs (tJ X.K X.mg Wx ps)
theorem Fe (h:PJ X vs t)(w:∀out σ H Q,t' out σ H Q->t out σ H Q):PJ X vs t':=fun pins s σ H out Q I hw=>h pins s σ H out Q I (w out σ H Q hw)
theorem V7:SJ X Wx [] gq:=by
 refine Fe ze4 ?_;rintro out st H Q ⟨P0,H0,P,Os,env,M,r,M',k,e,q⟩;unfold gq at e;split at e
 ·rename_i hl;cases e;exact⟨hl,q P _ H (LtE.refl P H) k.hk rfl⟩
 ·cases e
theorem V6 (h:SJ X Wx vs ps)(hz:z.length<=sizeLine:=by x_go):SJ X Wx (.Constant (.str z) n pos::vs) (gn z ps):=by
 refine Fe (zd4 h hz) ?_;rintro out st H Q ⟨P0,H0,P,Os,env,M,r,M',k,e,q⟩;unfold gn at e;split at e
 ·rename_i hl;exact⟨hl,P0,H0,P,Os,env,M,r,M',k,e,q⟩
 ·cases e
theorem zdg {K:Fgx}{P:Pl}{H:Hp}{d:D}{v:V}{y:Str}(h:zA d=some y)(i:Is K P H d v):textV v=some y:=by
 unfold zA at h;split at h
 ·cases i;exact h
 ·cases i;exact h
 ·cases h
theorem zeM (he:SE X Wx .val e f)(h:SJ X Wx vs ps):SJ X Wx (.FormattedValue e (-1) none pos::vs) (lN f ps):=by
 refine Fe (zeg he h) ?_;rintro out st H Q ⟨P0,H0,P,Os,env,M,r,M',k,e,q⟩;unfold lN at e;rcases cA e with⟨d,M1,e1,e⟩ |⟨c,n,e1,rfl⟩
 ·split at e
  ·rename_i y ey;split at e
   ·rename_i hl;exact aV k e1 fun P1 v1 H1 l1 h1 i1=>⟨y,zdg ey i1,hl,P0,H0,P1,Os,env,M1,r,M',k.next l1 h1,e,RQ.imp l1 q⟩
   ·cases e
  ·cases e
 ·exact aV k e1 q
def gw (ps:EJ):E:=ps Str.empty
theorem VL (h:SJ X Wx (v::w::vs) ps):SE X Wx m (.JoinedStr (v::w::vs) pos) (gw ps):=by
 have h':SE X Wx .val (.JoinedStr (v::w::vs) pos) (gw ps):=cB (zd9 h) fun st H Q z=>z;exact h'.bor
noncomputable def mV:List D->Option D
 | [.int i]=>some (.int (if i<0 then -i else i))
 |_=>none
theorem Ub {K:Fgx}:mF K (fun xs H Q=>∃i,xs=[.int i]/\Q (.int (if i<0 then -i else i)) H) mV:=fun P H ds z vs Q h i _ q=>by
 unfold mV at h;split at h
 ·obtain⟨v,ws,rfl,p,rfl⟩:=i;cases h;cases p;exact⟨_,rfl,q _ H (Same.refl H) rfl⟩
 ·cases h
noncomputable def setAt (M:Mm) (d y x:D):Option Mm:=match d with
  | .ref j => (match y with
    | .int i => (match M[j]? with
      | some (.lst ds) => (match kj ds.length i with
        |some n=>some (M.set j (.lst (ds.set n x)))
        |none=>none)
      |_=>none)
    |_=>none)
  |_=>none
theorem zbi (h:setAt M d y x=some M'):∃j i ds n,d=.ref j/\y=.int i/\M[j]? =some (.lst ds)/\kj ds.length i=some n/\M'=M.set j (.lst (ds.set n x)):=by
 unfold setAt at h;split at h
 ·split at h
  ·split at h
   ·rename_i em;split at h
    ·rename_i en;cases h;exact⟨_,_,_,_,rfl,rfl,em,en,rfl⟩
    ·cases h
   ·cases h
  ·cases h
 ·cases h
noncomputable def nF (f g v:E):S:=fun env M=>bM (v env M) fun x M1=>bM (f env M1) fun d M2=>bM (g env M2) fun y M3=>match setAt M3 d y x with
 |some M4=>some (.nx env,M4)
 |none=>none
theorem Wi (ho:SE X Wx .val o f)(hi:SE X Wx .val i g)(he:SE X Wx .val e v)
  (ha : ∀ v, assign (.Subscript o i pos') X.env v = (do
   let ov <-holding [v] (eval o X.env)
   let iv <-holding [v,ov] (eval i X.env)
   standAt pos'
   holding [v,ov,iv] (setItem ov iv v)
   release [v,ov,iv] []):=by intro _;rfl)
  (hs:swapsWithSole [.Subscript o i pos'] e pos.line X.env=pure false:=by rfl) (hw:swappedStores [.Subscript o i pos'] e X.env=pure none:=by rfl) (h1:(assignEach [.Subscript o i pos'] X.env).map (·.2)=[assign (.Subscript o i pos') X.env]:=by rfl):
  SS X Wx (.Assign [.Subscript o i pos'] e pos) (nF f g v):=by
 refine kO (zeI he (zdP ho hi set_list ha) hs hw h1) ?_;rintro D st H ⟨P0,H0,P,Os,env,M,out,M',k,e,q⟩;unfold nF at e;rcases gC e with⟨x,M1,e1,e⟩ |⟨c,n,e1,rfl⟩
 ·refine aV k e1 fun P1 v1 H1 l1 h1 i1=>?_;have k1:=k.next l1 h1
  rcases gC e with⟨d,M2,e2,e⟩ |⟨c,n,e2,rfl⟩
  ·refine aV k1 e2 fun P2 v2 H2 l2 h2 i2=>?_;have k2:=k1.next l2 h2
   rcases gC e with⟨y,M3,e3,e⟩ |⟨c,n,e3,rfl⟩
   ·refine aV k2 e3 fun P3 v3 H3 l3 h3 i3=>?_;split at e
    ·rename_i M4 ea;cases e;obtain⟨j,i,ds,n,rfl,rfl,em,en,rfl⟩:=zbi ea;cases i3;obtain⟨jl,rfl⟩:j<P2.n/\v2=.ref (P2.io j):=i2;obtain⟨vs,ev,is⟩:=h3.cell j _ em;have jl3:j<P3.n:=xai jl l3.n;have eio:P3.io j=P2.io j:=l3.io j jl;have ix:=Is.lt ((l2.lt h1).trans (l3.lt h2)) i1;have lc:Lt P3 H3 P3 (upd H3 (P3.io j) (.lst (vs.set n v1))):=w6 (h3.bd j jl3) ev Eu;obtain⟨l4,l4e,h4⟩:=h3.set (c':=.lst (ds.set n x)) (o':=.lst (vs.set n v1)) em ⟨_,bW,aD.set n (aD.lt lc is) (Is.lt lc ix)⟩;rw[eio]at l4 l4e h4 ev;refine⟨_,vs,i,n,rfl,rfl,ev,by rw[is.len];exact en,?_⟩;exact q _ _ _ _ ((l1.lt k.hk).trans ((l2.lt h1).trans ((l3.lt h2).trans l4))) ((k2.next l3 h3).next l4e h4)
    ·cases e
   ·exact aV k2 e3 q
  ·exact aV k1 e2 q
 ·exact aV k e1 q
end
end E3
namespace E3
open PySem L2
section
variable {env:Env}{M M1 M2:Mm}{f g o v:E}{d e x:D}{i:Int}{k:Nat}{ds es:List D}{s t:S}{z:Str}{fa:EA}{b:Bool}
noncomputable def Jg:Option (List D×Mm)->O
 |some (ys,M)=>some (.v (.lst ys),M)
 |none=>none
noncomputable def Qu (q e:E) (env:Env):Option (ResA×Mm)->O
 |some (.v ds,M1)=>Jg (fD q e env ds [] M1)
 |some (.x c n,M1)=>some (.x c n,M1)
 |none=>none
theorem zd1 {cs:List (Str×Nat)}{q e:E}:pH cs fa q e env M=Qu q e (bN cs env) (fa env M):=rfl
theorem zfd {q e:E}:Qu q e env (some (.v ds,M))=Jg (fD q e env ds [] M):=rfl
theorem zcS:Jg (some (ds,M))=some (.v (.lst ds),M):=rfl
theorem Qw {q e : E} (F : D -> Option D) : ∀ (ds acc : List D), (∀d∈ds,match F d with
    |some y=>q (.val d::env) M=some (.v (.bl true),M)/\e (.val d::env) M=some (.v y,M)
    |none=>q (.val d::env) M=some (.v (.bl false),M))->acc.length + ds.length<sizeLine->fD q e env ds acc M=some (acc ++ ds.filterMap F,M)
  | [],acc,_,_=>by simp[fD]
  |d::ds,acc,h,hl=>by
    have hd:=h d (by simp);have hr:∀acc',acc'.length + ds.length<sizeLine->fD q e env ds acc' M=some (acc' ++ ds.filterMap F,M):=fun acc' hl'=>Qw F ds acc' (fun d' hd'=>h d' (by simp[hd'])) hl';rw[xao]at hl
    cases hF:F d with
    |none=>
      rw[hF]at hd;simp only[fD,hd,xbU,hF];exact hr acc (by omega)
    |some y=>
      rw[hF]at hd;simp only[fD,hd.1,hd.2,xbU,hF];rw[xab (by omega),hr (acc ++ [y]) (by rw[xaj,xaQ];omega)]
      simp
theorem comp_map {e:E}(F:D->D)(ds:List D)(h:∀d∈ds,e (.val d::env) M=some (.v (F d),M))(hl:ds.length<sizeLine):fD (ao (.bl true)) e env ds [] M=some (ds.map F,M):=by
 rw[Qw (fun d=>some (F d)) ds [] (fun d hd=>⟨rfl,h d hd⟩) (by simpa using hl),List.filterMap_eq_map'];rfl
theorem zdC:bN [] env=[]:=rfl
theorem zeu {x:Str}{n:Nat}{cs:List (Str×Nat)}:bN ((x,n)::cs) env=(env[n]?).getD .un::bN cs env:=rfl
noncomputable def eV (tb:String->String->Option Bool) (T:String) (M:Mm) (ty:String):O:=if ty="" then none else(tb ty T).map fun b=>(.v (.bl b),M)
noncomputable def Av (tb:String->String->Option Bool) (T:String) (r:O):O:=bnd r fun d M=>eV tb T M (eF M d)
theorem zgJ {tb:String->String->Option Bool}{T:String}:fL tb T f env M=Av tb T (f env M):=rfl
theorem zhq {tb:String->String->Option Bool}{T:String}:Av tb T (some (.v d,M))=eV tb T M (eF M d):=rfl
theorem ty_int:eF M (.int i)="int":=rfl
theorem ty_str:eF M (.str z)="str":=rfl
theorem zgX:eF M (.bl b)="bool":=rfl
theorem zfk:eF M .non="NoneType":=rfl
theorem zef:eF M (.tup ds)="tuple":=rfl
theorem zdV:eF M (.lst ds)="list":=rfl
theorem zcY (h:M[k]? =some (.lst ds)):eF M (.ref k)="list":=by unfold eF;simp only[h]
theorem zf0 {tb:String->String->Option Bool}{T ty:String}(h:ty≠"":=by decide):eV tb T M ty=(tb ty T).map fun b=>(.v (.bl b),M):=xad h
theorem zha {tb:String->String->Option Bool}{T:String}:eV tb T M "int"=(tb "int" T).map fun b=>(.v (.bl b),M):=rfl
theorem zg1 {tb:String->String->Option Bool}{T:String}:eV tb T M "str"=(tb "str" T).map fun b=>(.v (.bl b),M):=rfl
theorem Pg {tb:String->String->Option Bool}{T:String}:eV tb T M "bool"=(tb "bool" T).map fun b=>(.v (.bl b),M):=rfl
theorem zhp {tb:String->String->Option Bool}{T:String}:eV tb T M "NoneType"=(tb "NoneType" T).map fun b=>(.v (.bl b),M):=rfl
theorem zgO {tb:String->String->Option Bool}{T:String}:eV tb T M "tuple"=(tb "tuple" T).map fun b=>(.v (.bl b),M):=rfl
theorem zft {tb:String->String->Option Bool}{T:String}:eV tb T M "list"=(tb "list" T).map fun b=>(.v (.bl b),M):=rfl
theorem zgB {tb:String->String->Option Bool}{T:String}:eV tb T M "dict"=(tb "dict" T).map fun b=>(.v (.bl b),M):=rfl
theorem Rq {M3:Mm}{j:Nat}(h0:v env M=some (.v x,M1))(h1:f env M1=some (.v (.ref k),M2))(h2:g env M2=some (.v (.int i),M3))(h3:M3[k]? =some (.lst ds))(h4:kj ds.length i=some j):nF f g v env M=some (.nx env,M3.set k (.lst (ds.set j x))):=by
 simp only[nF,bM,setAt,h0,h1,h2,h3,h4]
theorem zgx:mV [.int i]=some (.int (if i<0 then -i else i)):=rfl
end
end E3
namespace L2
open PySem PySem.Spec PyProof.Rows
end L2
namespace E3
open PySem PySem.Spec PyProof.Rows L2
section
variable {es:List Expr}{env:PySem.Env}{pos:Pos}
theorem bV:starEach (.Constant c k pos::es) env=(false,eval (.Constant c k pos) env)::starEach es env:=by rfl
theorem aO:starEach (.Name x pos::es) env=(false,eval (.Name x pos) env)::starEach es env:=by rfl
theorem mJ:starEach (.BinOp a o b pos::es) env=(false,eval (.BinOp a o b pos) env)::starEach es env:=by rfl
theorem Wn:starEach (.UnaryOp o a pos::es) env=(false,eval (.UnaryOp o a pos) env)::starEach es env:=by rfl
theorem mj:starEach (.Call f as ks pos::es) env=(false,eval (.Call f as ks pos) env)::starEach es env:=by rfl
theorem Wj:starEach (.Attribute a x pos::es) env=(false,eval (.Attribute a x pos) env)::starEach es env:=by rfl
theorem cJ:starEach (.Subscript a b pos::es) env=(false,eval (.Subscript a b pos) env)::starEach es env:=by rfl
theorem zu:starEach (.Tuple as k pos::es) env=(false,eval (.Tuple as k pos) env)::starEach es env:=by rfl
theorem Wl:starEach (.List as pos::es) env=(false,eval (.List as pos) env)::starEach es env:=by rfl
theorem Wm:starEach (.ListComp a gs sc pos::es) env=(false,eval (.ListComp a gs sc pos) env)::starEach es env:=by rfl
end
end E3
namespace L2
open PySem PySem.Spec PyProof.Rows
theorem za4 {P:Program}{w:World}{K:Fgx}{mg:Mgx}{base:Heap}{N:List Str}{qual:Str}{scope:Scope}{f:Addr}{cd:Value}{A:Around}{outer:List PySem.Env}{E:XK}{s:Shared}{H H1:Hp}{s1:Shared}{pins:Pnx}{σ:St}{a C T:Addr}{dx:Option Addr}
  (c:Caught (cY (lu P w) P w K mg base N qual scope f cd A outer s H E) pins σ H1 s1 a C dx T) (hE:E (.ref C) dx H1):(cY (lu P w) P w K mg base N qual scope f cd A outer s H E).xe (.ref a) s1:=by
 show wpAny _ _ (leaving _ _) _ _ _;unfold leaving;refine tG (Caught.note c rfl rfl fun s' T' c'=>?_);have I:=c'.inv;have hL:s.heap.get? (envOfC qual scope s.heap.objs.size f cd).locals=none:=xcI I.ok.above;have u1:Un (s.heap.objs.size::frs outer) [] H H1 s.heap s'.heap:=Un.mono (fs':=s.heap.objs.size::frs outer) (ex':=[]) I.base (fun b hb=>xak _ hb) fun b hb=>hb;exact⟨a,C,dx,H1,T',rfl,I.os,I.bare,u1.less hL,I.hok,c'.obj,c'.hT,c'.t1,c'.fl,hE⟩
end L2
namespace E3
open PySem PySem.Spec PyProof.Rows L2
structure XPass (X:Cx)(Wx:XW):Prop where
 xc:∀pins σ H s a C dx T c n P0 H0 P M,Caught X pins σ H s a C dx T->LtE P0 H0 P H->Hk X.K X.mg P H M->X.mg c=some (.ref C)->XN H n dx->Wx P0 H0 M c n->X.xe (.ref a) s
section
variable {X:Cx}{Wx:XW}{m:Mode}{pos:Pos}
theorem SX.se (F:XPass X Wx)(h:SX X e f):SE X Wx m e f:=by
  have h':SE X Wx .val e f:=by
    let Ex:L2.St->XK:=fun σ Cv dx H'=>∀pins s' a C T,Cv=.ref C->Caught X pins σ H' s' a C dx T->X.xe (.ref a) s'
    refine cB (h Ex fun pins σ H s e s' I z=>?_) ?_
    · obtain⟨a,C,dx,H',T,rfl,K1,hE⟩:=X3 I z;exact hE pins s' a C T rfl K1
    · rintro st H Q ⟨P0,H0,P,Os,env,M,r,M',k,e,q⟩;refine⟨P0,H0,P,Os,env,M,r,M',k,e,?_⟩
      cases r with
      |v d=>exact q
      |x c n=>
        intro P' H' C dx l hk hm xn pins s' a C' T eC ca;cases eC;exact F.xc pins st H' s' a C dx T c n P0 H0 P' M' ca (k.base.trans l) hk hm xn q
  exact h'.bor
end
section
variable {P:Program}{w:World}{K:Fgx}{mg:Mgx}{base:Heap}{k:Nat}{x qual:Str}{st:Stmt}{f:Addr}{fd:FuncData}{N ps:List Str}{b:S}
theorem Y5 (F:FunD K x qual st f fd)(S:FnScope N ps (aJ st))(hp:ps.length<=N.length)
    (hb:∀cdv A outer s H E Wx,Room k (A.deeper (envOfC qual (aJ st) s.heap.objs.size f cdv))->XFit (o_ P w K mg base N qual st f cdv A outer s H E) Wx->XPass (o_ P w K mg base N qual st f cdv A outer s H E) Wx->SB (o_ P w K mg base N qual st f cdv A outer s H E) Wx (bJ st) b):FnOk P w K mg base (lu P w) (k + 1) f fd ps (Cr K mg ps.length (bF N.length b)):=by
  obtain ⟨oc, od, dV, kV, doc, pm, an, cdv, ct, osl, rfl, lk, hcd⟩ := F.ex;refine Q_ lk hcd S (fun vs H Q E h => h.1) fun A outer s H vs Q E hr h => ?_;obtain ⟨hl, Pl, M, ds, r, M', hk, is, e, q⟩ := h;have XF : XFit (o_ P w K mg base N qual st f cdv A outer s H E) (fun P0 H0 M1 c n => P0 = Pl /\ H0 = H /\ M1 = M' /\ r = .x c n) := ⟨fun pins σ H1 s1 a C dx c n P0 H0 P1 M1 I ea nb n0 l h m xn ⟨e1,e2,e3,e4⟩=>by
    subst e1 e2 e3 e4;have sure:∀b,upd H1 a (xo a C dx false) b=none->H1 b=none:=fun b z=>by
      by_cases hb:b=a
      · subst hb;rw[bW]at z;cases z
      · rw[aU hb]at z;exact z
    have l1 : LtE P0 H0 P1 (upd H1 a (xo a C dx false)) := ⟨l.n,l.io,l.bd,l.bm,fun b o eb nb=>by
      rw[aU (fun z=>by rw[z,n0]at eb;cases eb)];exact l.keep b o eb nb,fun b z=>l.sure b (sure b z),l.nw⟩
    have h1 := h.away (H' := upd H1 a (xo a C dx false)) (fun b o eb nx=>by
      rw[aU (fun z=>by rw[z,ea]at eb;cases eb;exact nx _ rfl)];exact eb) sure
    refine zb1 I ea (q P1 _ C dx l1 h1 m ?_)
    cases dx with
    |none=>exact xn
    |some d=>
      obtain⟨fs,ed,el⟩:=xn;exact⟨fs,by rw[aU (fun z=>by rw[z,ea]at ed;cases ed)];exact ed,el⟩⟩
  have XP : XPass (o_ P w K mg base N qual st f cdv A outer s H E) (fun P0 H0 M1 c n => P0 = Pl /\ H0 = H /\ M1 = M' /\ r = .x c n) := ⟨fun pins σ H1 s1 a C dx T c n P0 H0 P1 M1 ca l h m xn ⟨e1,e2,e3,e4⟩=>by
    subst e1 e2 e3 e4;exact za4 ca (q P1 _ C dx l h m xn)⟩
  refine⟨_,hb cdv A outer s H E _ hr XF XP,?_⟩;unfold bF cZ at e;have st0:=Ot (N:=N) hk (by omega) is;split at e
  · rename_i d' M2 eb;cases e;exact⟨Pl,H,Pl,_,_,M,_,_,st0,eb,fun P' v H' l h i=>q P' v H' l h i⟩
  · rename_i env M2 eb;cases e;exact⟨Pl,H,Pl,_,_,M,_,_,st0,eb,fun P' Os' H' st' _ k'=>q P' .non H' k'.base k'.hk rfl⟩
  · rename_i c n M2 eb;cases e;exact⟨Pl,H,Pl,_,_,M,_,_,st0,eb,⟨rfl,rfl,rfl,rfl⟩⟩
  · cases e
end
section
variable {K:Fgx}{P:Pl}{H:Hp}
noncomputable def Aq:List D->Option (List Int)
 | []=>some []
 |.int i::ds=>(Aq ds).map (i:: ·)
 |_::_=>none
theorem Rt:∀{ds:List D} {is:List Int} {vs:List V},Aq ds=some is->aD K P H ds vs->vs=is.map V.int
  | [],_,_,e,h=>by cases e;exact h
  |d::ds,is,vs,e,h=>by
    obtain⟨v,r,rfl,i,h⟩:=h
    cases d with
    |int n=>
      simp only[Aq,xac]at e;obtain⟨is',e',rfl⟩:=e;cases i;rw[Rt e' h];rfl
    |_=>simp[Aq]at e
noncomputable def tQ:List D->Option (List Bool)
 | []=>some []
 |.bl b::ds=>(tQ ds).map (b:: ·)
 |_::_=>none
theorem Qg:∀{ds:List D} {bs:List Bool} {vs:List V},tQ ds=some bs->aD K P H ds vs->vs=bs.map V.bl
  | [],_,_,e,h=>by cases e;exact h
  |d::ds,bs,vs,e,h=>by
    obtain⟨v,r,rfl,i,h⟩:=h
    cases d with
    |bl n=>
      simp only[tQ,xac]at e;obtain⟨bs',e',rfl⟩:=e;cases i;rw[Qg e' h];rfl
    |_=>simp[tQ]at e
theorem Qh:∀(bs:List Bool),tQ (bs.map D.bl)=some bs
 | []=>rfl
 |b::bs=>by simp[tQ,Qh bs]
noncomputable def xY:List D->Option (List Str)
 | []=>some []
 |.str z::ds=>(xY ds).map (z:: ·)
 |_::_=>none
theorem Ws:∀{ds:List D} {zs:List Str} {vs:List V},xY ds=some zs->aD K P H ds vs->vs=zs.map V.str
  | [],_,_,e,h=>by cases e;exact h
  |d::ds,zs,vs,e,h=>by
    obtain⟨v,r,rfl,i,h⟩:=h
    cases d with
    |str n=>
      simp only[xY,xac]at e;obtain⟨zs',e',rfl⟩:=e;cases i;rw[Ws e' h];rfl
    |_=>simp[xY]at e
theorem strs_map:∀(zs:List Str),xY (zs.map D.str)=some zs
 | []=>rfl
 |b::bs=>by simp[xY,strs_map bs]
noncomputable def mW:List D->Option D
 | [.int i]=>if i.natAbs.log2<1920 then some (.str (toString i)) else none
 |_=>none
theorem zdX:mF K (fun xs H Q=>∃i,xs=[.int i]/\i.natAbs.log2<1920/\Q (.str (toString i)) H) mW:=fun P H ds z vs Q h i _ q=>by
 unfold mW at h;split at h
 ·split at h
  ·rename_i hl;obtain⟨v,ws,rfl,p,rfl⟩:=i;cases h;cases p;exact⟨_,rfl,hl,q _ H (Same.refl H) rfl⟩
  ·cases h
 ·cases h
noncomputable def dh:List D->Option D
 | [.str z]=>if z.length<=640 then(intText? z).map .int else none
 |_=>none
theorem L_:mF K (fun xs H Q=>∃z n,xs=[.str z]/\intText? z=some n/\z.length<=640/\Q (.int n) H) dh:=fun P H ds z vs Q h i _ q=>by
 unfold dh at h;split at h
 ·split at h
  ·rename_i hl;rw[xac]at h;obtain⟨n,en,rfl⟩:=h;obtain⟨v,ws,rfl,p,rfl⟩:=i;cases p;exact⟨_,n,rfl,en,hl,q _ H (Same.refl H) rfl⟩
  ·cases h
 ·cases h
noncomputable def pR:List D->Option D
 | [.lst ds]=>(tQ ds).map fun bs=>.bl (bs.any id)
 |_=>none
theorem ze9:mF K (fun xs H Q=>∃(p:Addr) (bs:List Bool),xs=[.ref p]/\bU K H p (bs.map V.bl)/\Q (.bl (bs.any id)) H) pR:=fun P H ds z vs Q h i _ q=>by
 unfold pR at h;split at h
 ·rw[xac]at h;obtain⟨is,ei,rfl⟩:=h;obtain⟨v,ws,rfl,p,rfl⟩:=i;obtain⟨a,us,rfl,r,s⟩:=p;rw[Qg ei s]at r;exact⟨a,is,rfl,r,q _ H (Same.refl H) rfl⟩
 ·cases h
noncomputable def pX:List D->Option D
 | [.lst ds]=>some (.tup ds)
 | [.tup ds]=>some (.tup ds)
 |_=>none
theorem zdN:mF K (fun xs H Q=>∃p ys,xs=[.ref p]/\((bU K H p ys/\∀l,H l=none->Q (.ref l) (upd H l (.tup ys)))\/(c7 K H p ys/\Q (.ref p) H))) pX:=fun P H ds z vs Q h i _ q=>by
 unfold pX at h;split at h
 ·obtain⟨v,ws,rfl,p,rfl⟩:=i;cases h;obtain⟨a,us,rfl,r,s⟩:=p;exact⟨a,us,rfl,.inl ⟨r,Kf s q⟩⟩
 ·obtain⟨v,ws,rfl,p,rfl⟩:=i;cases h;obtain⟨a,us,rfl,r,s⟩:=p;exact⟨a,us,rfl,.inr ⟨r,q _ H (Same.refl H) ⟨a,us,rfl,r,s⟩⟩⟩
 ·cases h
end
section
variable {X:Cx}{Wx:XW}{m:Mode}{pos:Pos}
def Df (K:Fgx)(r:V->List V->Hp->VK->Prop)(o:Str->List D->Option D):Prop:=∀(P:Pl) (H:Hp) (y:Str) (ds:List D) (z:D) (vs:List V) (Q:VK),o y ds=some z->pK K P H ds vs->(∀p,H p=none->¬ P.bd p)->(∀u H',Same H H'->Is K P H' z u->Q u H')->r (.str y) vs H Q
noncomputable def yZ (o:Str->List D->Option D) (f:E) (fs:EA):E:=fun env M=>bnd (f env M) fun d M1=>match d with
 |.str y=>cP (fs env M1) fun ds M2=>(o y (ds.map (vw M2))).map fun z=>(.v z,M2)
 |_=>none
theorem N7 {a e:Expr}{es:List Expr}{name:Str}{id:String}{r:V->List V->Hp->VK->Prop}{o:Str->List D->Option D}{f:E}{fs:EA}{p:Pos}(slot:PySem.Slot "str" name id)(hty:typeOf (.builtin id)=pure (.type "method_descriptor"))(hm:yg X id r)(po:Df X.K r o)(ha:SE X Wx .val a f)(hs:SA X Wx .bor (e::es) fs)
  (hbase:attributeBase a name X.env (eval a X.env)=eval a X.env:=by rfl)
  (hfew:((backTo pos (starEach (e::es) X.env)).all (fun x=> !x.1) && (backToKw pos (keywordEach [] X.env)).all (fun x=>x.1.isSome) && decide ((e::es).length + ([]:List Keyword).length + (if ([]:List Keyword).isEmpty then 0 else 1)<30))=true:=by rfl)
  (hline:(p.endLine==pos.line)=true:=by rfl) (hst:starEach (e::es) X.env=(false,eval e X.env)::starEach es X.env:=by rfl) (hplain:(backTo pos (starEach es X.env)).any (·.1)=false:=by rfl):
  SE X Wx m (.Call (.Attribute a name p) (e::es) [] pos) (yZ o f fs):=by
 refine cB (E_ PySem.F.plainAttrs_str slot hty hm ha hs hbase hfew hline hst hplain) ?_;rintro st H Q ⟨P0,H0,P,Os,env,M,r,M',k,e,q⟩;unfold yZ at e;rcases cA e with⟨d,M1,e1,e⟩ |⟨c,n,e1,rfl⟩
 ·cases d<;>simp only[reduceCtorEq]at e
  rename_i y;refine aV k e1 fun P1 v1 H1 l1 h1 i1=>?_;have k1:=k.next l1 h1
  cases i1;refine⟨rfl,?_⟩;rcases mX e with⟨ds,M2,e2,e⟩ |⟨c,n,e2,rfl⟩
  ·rw[xac]at e;obtain⟨z,ez,e⟩:=e;cases e;exact⟨P0,H0,P1,Os,env,M1,_,_,k1,e2,fun P2 vs H2 l2 h2 i2=>po P2 H2 y _ z vs Q ez (cM.w h2 i2) h2.new fun u H' s i=>q P2 u H' (l1.trans (l2.trans (LtE.same s))) (h2.same s) (cO.of (h2.same s) i)⟩
  ·exact⟨P0,H0,P1,Os,env,M1,_,_,k1,e2,q⟩
 ·exact aV k e1 q
noncomputable def CG (z:Str):List D->Option D
  | [.lst ds]=>match xY ds with
    |some ys=>if z.length<=16/\(ys.map (·.length)).sum + ys.length<=1048576 then some (.str (Txt.join z ys)) else none
    |none=>none
  |_=>none
theorem zdd {K:Fgx}:Df K (rJoin K) CG:=fun P H y ds z vs Q h i _ q=>by
 unfold CG at h;split at h
 ·split at h
  ·rename_i ys ey;split at h
   ·rename_i hl;cases h;obtain⟨v,ws,rfl,p,rfl⟩:=i;obtain⟨a,us,rfl,r,s⟩:=p;rw[Ws ey s]at r;exact⟨y,a,ys,rfl,rfl,r,hl.1,hl.2,q _ H (Same.refl H) rfl⟩
   ·cases h
  ·cases h
 ·cases h
noncomputable def G5 (z:Str):List D->Option D
 | [.str y]=>some (.bl (Txt.startswith z y))
 |_=>none
theorem zbh {K:Fgx}:Df K Uj G5:=fun P H y ds z vs Q h i _ q=>by
 unfold G5 at h;split at h
 ·cases h;obtain⟨v,ws,rfl,p,rfl⟩:=i;cases p;exact⟨_,_,rfl,rfl,q _ H (Same.refl H) rfl⟩
 ·cases h
noncomputable def G4 (z:Str):List D->Option D
 | [.str y]=>if z.length<=sizeLine then some (.str (Txt.lstripChars z y)) else none
 |_=>none
theorem zbg {K:Fgx}:Df K Ui G4:=fun P H y ds z vs Q h i _ q=>by
 unfold G4 at h;split at h
 ·split at h
  ·rename_i hl;cases h;obtain⟨v,ws,rfl,p,rfl⟩:=i;cases p;exact⟨_,_,rfl,rfl,hl,q _ H (Same.refl H) rfl⟩
  ·cases h
 ·cases h
end
def sJ:S:=fun _ _=>none
theorem zcm (h:PS X s fun _ _ _=>False):SS X Wx s sJ:=kO h fun D st H ⟨_,_,_,_,_,_,_,_,_,e,_⟩=>by cases e
theorem zbN:PS X s fun _ _ _=>False:=fun pins s σ H D I h=>h.elim
theorem xX:SS X Wx s sJ:=zcm zbN
noncomputable def dR (tb:List (Str×D)) (z:Str):Option D:=(tb.find? fun p=>decide (p.1=z)).map (·.2)
inductive KRows (K:Fgx)(w:World):List (Str×D)->List DictEntry->List (Key×Value)->Prop
 |nil:KRows K w [] [] []
 |cons {z:Str} {d:D} {t:Tok} {u:Value} {v:V} {hs:Int} {tb:List (Str×D)} {es:List DictEntry} {vs:List (Key×Value)}:hs=hashStr w z->RelV v u->(∀P H,Is K P H d v)->KRows K w tb es vs->KRows K w ((z,d)::tb) (⟨hs,.str z t,u⟩::es) ((.inr z,u)::vs)
def KTab (K:Fgx)(w:World)(a:Addr)(tb:List (Str×D)):Prop:=∃o es ep vs,K.lookup a=some o/\o.ExactDict/\o.data=.dict es ep/\KRows K w tb es.toList vs/\(tb.map (·.1)).Nodup/\(a==sysModules)=false
section
variable {K:Fgx}{w:World}{prog:Program}
theorem R5:∀{tb:List (Str×D)} {es:List DictEntry} {vs:List (Key×Value)},KRows K w tb es vs->(∀e∈es,∃k,(pG prog w).is k e.key=true/\e.hash=(pG prog w).hash k)/\Pairs (pG prog w) es vs/\vs.map (·.1)=tb.map fun p=>(.inr p.1:Key)
  |_,_,_,.nil=>⟨fun e h=>(by cases h),.nil,rfl⟩
  |_,_,_,.cons (z:=z) (t:=t) h1 h2 h3 r=>by
    obtain⟨a,b,c⟩:=R5 r;refine⟨fun e he=>?_,.cons (J3 prog w z t) rfl b,by rw[xaI,xaI,c]⟩;rw[xaJ]at he;rcases he with rfl |he
    · exact⟨.inr z,J3 prog w z t,h1⟩
    · exact a e he
theorem JV:∀{tb:List (Str×D)} {es:List DictEntry} {vs:List (Key×Value)},KRows K w tb es vs->match dR tb z with
    |some d=>∃u v,valueAt vs (.inr z:Key)=some u/\RelV v u/\∀P H,Is K P H d v
    |none=>valueAt vs (.inr z:Key)=none
  |_,_,_,.nil=>rfl
  |_,_,_,.cons (z:=y) (d:=d) (u:=u) (v:=v) (tb:=tb) (vs:=vs) h1 h2 h3 r=>by
    by_cases e:y=z
    · subst e;have a:dR ((y,d)::tb) y=some d:=by simp[dR,xb0]
      have b:valueAt ((.inr y,u)::vs) (.inr y:Key)=some u:=by simp[valueAt,xb0]
      rw[a];exact⟨u,v,b,h2,h3⟩
    · have a:dR ((y,d)::tb) z=dR tb z:=by simp[dR,xb0,e]
      have b:valueAt ((.inr y,u)::vs) (.inr z:Key)=valueAt vs (.inr z):=by simp[valueAt,xb0,e]
      rw[a,b];exact JV r
theorem KTab.dict (t:KTab K w a tb)(X:K.In h):∃es vs,KRows K w tb es vs/\h.DictOf (pG prog w) a vs/\(a==sysModules)=false:=by
 obtain⟨o,es,ep,vs,l,x,d,r,nd,ns⟩:=t;obtain⟨r1,r2,r3⟩:=R5 (prog:=prog) r;refine⟨es.toList,vs,r,⟨o,es,ep,X a o l,x,d,fun e he=>r1 e (by simpa using he),r2,?_⟩,ns⟩;rw[r3];have:(tb.map fun p=>(Sum.inr p.1:Key))=(tb.map (·.1)).map Sum.inr:=by rw[xcs];rfl
 rw[this];exact xcz.mpr (List.Pairwise.imp (fun h q=>h (Sum.inr.inj q)) nd)
end
section
variable {X:Cx}{Wx:XW}{m:Mode}{pos:Pos}
noncomputable def lZ (b:Bool) (tb:List (Str×D)) (f:E):E:=fun env M=>bnd (f env M) fun d M1=>match d with
 |.str z=>some (.v (.bl (if b then(dR tb z).isSome else !(dR tb z).isSome)),M1)
 |_=>none
noncomputable def Ca (tb:List (Str×D)) (f:E):E:=fun env M=>bnd (f env M) fun d M1=>match d with
 |.str z=>(dR tb z).map fun y=>(.v y,M1)
 |_=>none
theorem Z5 {z:Str}{K:Fgx}{w:World}{tb:List (Str×D)}{es:List DictEntry}{vs:List (Key×Value)}(r:KRows K w tb es vs):(valueAt vs (.inr z:Key)).isSome=(dR tb z).isSome:=by
 have g:=JV (z:=z) r
 cases h:dR tb z with
 |none=>rw[h]at g;have g':valueAt vs (.inr z:Key)=none:=g;rw[g'];rfl
 |some d=>rw[h]at g;obtain⟨u,v,e,_⟩:=g;rw[e];rfl
theorem zdO {i:Expr}{ty:TE}{nm:Str}{p:Pos}{a:Addr}{tb:List (Str×D)}(hi:PE X i ty)(hg:Gl X nm)(hm:X.mg nm=some (.ref a))(t:KTab X.K X.w a tb)(hdb:(nm==("__debug__":Str))=false):
  PC X .In i (.Name nm p) (fun σ H Q=>ty σ H fun y H1=>∃z,y=.str z/\Q (.bl (dR tb z).isSome) H1):=by
 intro pins s σ H Q I h;refine aP (hi pins s σ H _ I h) fun iv s1 ⟨y,H1,I1,ry,z,ey,q⟩=>u5 I1 hg hm ?_ hdb;subst ey;obtain⟨es,vs,r,dd,ns⟩:=t.dict (prog:=X.prog) I1.kIn;refine wpAny_in_of (k:=(.inr z:Key)) (RX (k:=.inr z) ry) ns dd.mapOf ?_;rw[Z5 r];exact⟨.bl _,H1,I1.tok _,rfl,q⟩
theorem Z2 {b:Bool}{tb:List (Str×D)}{f:E}{st:L2.St}{H:Hp}{Q:VK}(w:tE X.K X.mg Wx m (lZ b tb f) st H Q):tE X.K X.mg Wx .val f st H fun y H1=>∃z,y=.str z/\Q (.bl (if b then(dR tb z).isSome else !(dR tb z).isSome)) H1:=by
 obtain⟨P0,H0,P,Os,env,M,r,M',k,e,q⟩:=w;unfold lZ at e;rcases cA e with⟨d,N1,e1,e⟩ |⟨c,n,e1,rfl⟩
 ·cases d<;>simp only[reduceCtorEq]at e
  rename_i z;cases e;exact aV k e1 fun P1 v1 H1 l1 h1 i1=>⟨z,i1,q P1 _ H1 l1 h1 (cO.of h1 (show Is _ _ _ (.bl _) _ from rfl))⟩
 ·exact aV k e1 q
theorem Wq (hi:SE X Wx .val i f)(hg:Gl X nm)(hm:X.mg nm=some (.ref a))(t:KTab X.K X.w a tb)(hdb:(nm==("__debug__":Str))=false:=by x_go)(hb:behindInMarks .In (.Name nm p)=false:=by rfl):ST X Wx (.Compare i [.In] [.Name nm p] pos) (lZ true tb f):=
 Fi (zd8 (zdO hi hg hm t hdb) hb) fun _ _ _ w=>Z2 (b:=true) (WY w)
theorem VP (hi:SE X Wx .val i f)(hg:Gl X nm)(hm:X.mg nm=some (.ref a))(t:KTab X.K X.w a tb)(hdb:(nm==("__debug__":Str))=false:=by x_go)(hs:zH i:=by exact fun _ _=>rfl):SE X Wx m (.Subscript (.Name nm p) i pos) (Ca tb f):=by
 have h':PE X (.Subscript (.Name nm p) i pos) (fun σ H Q=>tE X.K X.mg Wx .val f σ H fun y H1=>∃z d,y=.str z/\dR tb z=some d/\∀v,(∀P H,Is X.K P H d v)->Q v H1):=by
  intro pins s σ H Q I h;refine zcT PySem.F.slot_dict_getitem.lookup hs (u5 I hg hm ?_ hdb);refine aP (hi pins s σ H _ I h) fun iv s2 ⟨y,H2,I2,ry,z,d,ey,ed,q2⟩=>?_;subst ey;obtain⟨es,vs,r,dd,ns⟩:=t.dict (prog:=X.prog) I2.kIn;have g:=JV (z:=z) r;rw[ed]at g;obtain⟨u,v,e1,e2,e3⟩:=g;exact⟨dd.typeIs,wpAny_getItem_of (k:=(.inr z:Key)) (RX (k:=.inr z) ry) dd.mapOf e1 ⟨v,H2,I2.tok _,e2,q2 v e3⟩⟩
 refine cB h' ?_;rintro st H Q ⟨P0,H0,P,Os,env,M,r,M',k,e,q⟩;unfold Ca at e;rcases cA e with⟨d,N1,e1,e⟩ |⟨c,n,e1,rfl⟩
 ·cases d<;>simp only[reduceCtorEq]at e
  rename_i z;rw[xac]at e;obtain⟨y,ey,e⟩:=e;cases e;exact aV k e1 fun P1 v1 H1 l1 h1 i1=>⟨z,y,i1,ey,fun v iv=>q P1 v H1 l1 h1 (cO.of h1 (iv P1 H1))⟩
 ·exact aV k e1 q
end
section
variable {X:Cx}{Wx:XW}{pos:Pos}
noncomputable def Ed (f:E):EA:=fun env M=>match f env M with
 |some (.v (.str z),M1)=>some (.v (z.cps.toList.map fun c=>.str ⟨#[c]⟩),M1)
 |some (.x c n,M1)=>some (.x c n,M1)
 |_=>none
theorem zgS (h:SE X Wx .val e f):SI X Wx tg e (Ed f):=by
 refine Br (ze6 h) ?_;rintro st H R ⟨P0,H0,P,Os,env,M,r,M',k,e,q⟩;unfold Ed at e;split at e
 ·rename_i z M1 ef;cases e;refine⟨P0,H0,P,Os,env,M,_,_,k,ef,fun P1 v1 H1 l1 h1 i1=>⟨z,i1,q P1 H1 _ l1 h1 fun P2 H2 l2=>?_⟩⟩;have hl:(z.cps.toList.map fun c=>(D.str ⟨#[c]⟩)).length=z.cps.size:=by simp
  rw[hl];refine⟨fun j hj=>hj,fun j h1 h2=>xbc h2 h1,fun j x H' y hj=>⟨y.1,?_⟩⟩;obtain⟨c,ec,rfl⟩:=y.2;refine⟨.str ⟨#[c]⟩,?_,rfl⟩;rw[xan,xdM,ec];rfl
 ·rename_i c n M1 ef;cases e;exact⟨P0,H0,P,Os,env,M,_,_,k,ef,q⟩
 ·cases e
end
end E3
namespace L2
open PySem PySem.Spec PyProof.Rows
theorem Uv:Manifest.owners.lookup (String.ofList ['d','e','s','r','e','v','e','r'].reverse)=some Manifest.sig_reversed:=by kernel_rfl
theorem zcI:Slot "reversed" "__init__" "object.__init__":=
 .of (owner:="object") (n:="__init__") (by rw[xcQ,xca];kernel_rfl) (by x_go) (by x_go) (by x_go)
  (by first |exact .inl (by x_go) |exact .inr (by x_go)) (by rw[xcW];kernel_rfl)
theorem BW:Slot "reversed" "__next__" "reversed.__next__":=
 .of (owner:="reversed") (n:="__next__") (by rw[xcQ,xca];kernel_rfl) (by x_go) (by x_go) (by x_go)
  (by first |exact .inl (by x_go) |exact .inr (by x_go)) (by rw[xcW];kernel_rfl)
theorem Us:Slot "reversed" "__iter__" "reversed.__iter__":=
 .of (owner:="reversed") (n:="__iter__") (by rw[xcQ,xca];kernel_rfl) (by x_go) (by x_go) (by x_go)
  (by first |exact .inl (by x_go) |exact .inr (by x_go)) (by rw[xcW];kernel_rfl)
theorem Uu:entryFor table "reversed.__next__"=some Builtin.«reversed.__next__» :=entryFor_of_tree (by kernel_rfl)
theorem Ut (a:Value):argsOk "reversed.__next__" ⟨[a],[]⟩:=by
 unfold argsOk;rw[signature?_of (id:="reversed.__next__") (n:=['_','_','t','x','e','n','_','_']) (o:=['d','e','s','r','e','v','e','r']) (by kernel_rfl) Uv];kernel_rfl
theorem zax:entryFor table "reversed.__iter__"=some Builtin.«dict_keyiterator.__iter__» :=
 entryFor_alias (id':="dict_keyiterator.__iter__") (by kernel_rfl) (by first |rfl |decide +kernel |(unfold String.splitOn;simp +decide [String.splitOnAux])) (by x_go) (by kernel_rfl)
theorem zaF (a:Value):argsOk "reversed.__iter__" ⟨[a],[]⟩:=by
 unfold argsOk;rw[signature?_of (id:="reversed.__iter__") (n:=['_','_','r','e','t','i','_','_']) (o:=['d','e','s','r','e','v','e','r']) (by kernel_rfl) Uv];kernel_rfl
theorem zbu:TypeCalled "reversed" "reversed.__new__" "object.__init__":=
 ⟨by x_go,by x_go,⟨_,_,F.mro_reversed⟩,F.made_reversed,F.plain_reversed_new,F.sub_reversed_self,zcI⟩
theorem zcK:typeLookup (.type "tuple") "__reversed__"=pure none:=by rw[xcQ,xca];kernel_rfl
theorem zcJ:isSubtype (.type "tuple") (.type "dict")=pure false:=by rw[xcW];kernel_rfl
noncomputable def Ux (a:Addr) (i:Int):Obj:={cls:=.type "reversed",data:=.fields #[.ref a,rawInt i]}
def lA (h:Heap)(a t:Addr)(i:Int):Prop:=∃o,h.get? a=some o/\o.cls=.type "reversed"/\o.data=.fields #[.ref t,rawInt i]
theorem lA.typeIs {s:Shared}{a l:Addr}{i:Int}(x:lA s.heap a l i):s.TypeIs (.ref a) "reversed":=let ⟨o,ho,hc,_⟩:=x;⟨o,ho,hc⟩
theorem lA.at (x:lA h a l i)(e:∀o,h.get? a=some o->h'.get? a=some o):lA h' a l i:=let ⟨o,ho,r⟩:=x;⟨o,e _ ho,r⟩
theorem zeq (t : Addr) (items : Array Value) : Meets (Builtin.«reversed.__new__» ⟨[.type "reversed", .ref t], []⟩) (fun _ R s=>IsTup s.heap t items/\(items.size:Int)<2 ^ 63/\
    R (.ok (.ret (.ref s.heap.objs.size))) {s with heap:=s.heap.push (Ux t ((items.size:Int) - 1)),toks:=s.toks + 1 + 1}):=
  .of_wp fun prog w A R s ⟨ht,hf,h⟩=>by
    unfold Builtin.«reversed.__new__»;refine tG (xck (newClass_reversed _) ?_)
    try dsimp only
    refine tG (xck (a:=()) (by first |rfl |kernel_rfl) ?_)
    refine tG (xck (a:=()) (by first |rfl |kernel_rfl) ?_)
    try dsimp only
    refine tG (xcM ht.typeIs zcK ?_)
    try dsimp only
    refine tG ?_;show wpAny _ _ (do
      if <-isInstance (.ref t) (.type "dict") then return false
      match <-specialOf (.ref t) "__getitem__" with
      |none=>return false
      |some (.builtin id)=>
        if ["tuple.__getitem__","str.__getitem__","bytes.__getitem__","bytearray.__getitem__","memoryview.__getitem__","numpy.ndarray.__getitem__","sqlite3.Row.__getitem__"].contains id then return true
        if id=="sqlite3.Blob.__getitem__" then return false
        unsupported "reversed.__new__:is-it-a-sequence"
      |some _=>return true:Sem Bool) _ _ s
    refine tG (wpAny_isInstance ht.typeIs zcJ ?_);rw[xad (by decide)];refine tG (xcM ht.typeIs xc2.lookup ?_)
    try dsimp only
    rw[xab (by x_go)];refine xah ?_;rw[xad (by decide)];refine tG (len_tuple ht hf ?_);refine tG (m:=asInt? _) (xck (a:=some (items.size:Int)) (by first |rfl |kernel_rfl) ?_)
    try dsimp only
    unfold Builtin.SmallTypes.newRecord
    try dsimp only
    refine tG (xaN ?_ (by size_fits));exact xah ⟨_,rfl,h⟩
section
variable {prog:Program}{w:World}{A:Around}{E:Value->Shared->Prop}{s:Shared}
theorem XH (ht:IsTup s.heap t items)(hf:(items.size:Int)<2 ^ 63)
  (h:Q (.ref s.heap.objs.size) {s with heap:=s.heap.push (Ux t ((items.size:Int) - 1)),toks:=s.toks + 1 + 1}):wpAny (model prog w) A (call (.type "reversed") [.ref t]) Q E s:=
 callType_new zbu (by decide) (F.typeCall_reversed_1 _) (F.newCall_reversed_1 _) (fun obj=>F.args_object_init_2 obj _) F.entry_reversed_new (zeq t items) ⟨ht,hf,⟨_,xas _ rfl,rfl⟩,h⟩
theorem RG {it l:Addr}{i:Int}{Q:Value->Shared->Prop}(hit:lA s.heap it l i)(h:Q (.ref it) s):wpAny (model prog w) A (pyIter (.ref it)) Q E s:=by
 refine wpAny_pyIter_slot hit.typeIs Us (xbR Us hit.typeIs zax ?_ (zaF _));show wpAny _ _ (ret (.ref it)) _ _ s;exact xah ⟨_,rfl,"reversed",_,hit.typeIs,BW.lookup,h⟩
theorem zbX {it l:Addr}{i:Nat}{items:Array Value}{x:Value}{Q:Option Value->Shared->Prop}(hit:lA s.heap it l (i:Int))(hl:IsTup s.heap l items)(hx:items[i]? =some x)(hf:(items.size:Int)<2 ^ 63)
  (hQ:∀h',lA h' it l ((i:Int) - 1)->Heap.SameBut it s.heap h'->Q (some x) {s with heap:=h',toks:=s.toks + 1}):wpAny (model prog w) A (pyNext (.ref it)) Q E s:=by
 obtain⟨o,ho,hc,hd⟩:=id hit;have hi:i<items.size:=by
  rcases xa4 i items.size with z |z
  ·exact z
  ·rw[Array.getElem?_eq_none z]at hx;cases hx
 unfold pyNext;refine tG (xdX (xcx (name:=Str.ofString "__next__") hit.typeIs BW
  (xbR BW hit.typeIs Uu ?_ (Ut _))))
 unfold Builtin.«reversed.__next__»;refine tG (xck (a:=(Value.ref it,[])) rfl ?_)
 try dsimp only
 refine tG (xbn ho hd (x:=.ref l) rfl ?_);refine tG (xbn ho hd (x:=rawInt (i:Int)) rfl ?_);show wpAny _ _ (if (i:Int)<0 then _ else _) _ _ s
 rw[xad (by omega)];refine tG (xcM hl.typeIs xc2.lookup ?_);rw[xad (by simp)];refine tG (wpAny_mkInt ?_);refine tG (xdX (getItem_tuple (k:=(i:Int)) (j:=i) (s:={s with toks:=s.toks + 1}) hl (by omega) (by omega) ?_ hx ?_))
 ·exact xdK (by omega) (by omega)
 show wpAny _ _ (field (Value.ref it) 1 >>= _) _ _ _;refine tG (xbn (s := { s with toks := s.toks + 1 }) ho hd (x := rawInt (i : Int)) rfl ?_);show wpAny _ _ (setField (Value.ref it) 1 (rawInt ((i : Int) - 1)) >>= _) _ _ _;refine tG (xb8 (s := { s with toks := s.toks + 1 }) ho hd (by simp) ?_);refine xah ⟨x, rfl, xah (hQ _ ?_ (xcl ..))⟩;exact ⟨_,xbI _ ho (xb9 (xa3 hd _)),(Obj.cls_mapFields ..).trans hc,by
  rw[xa3 hd];simp⟩
theorem Yx {it l:Addr}{Q:Option Value->Shared->Prop}(hh:A.handled=none)(hit:lA s.heap it l (-1))
  (hQ:∀h',Heap.ExtBut it s.heap h'->Q none {s with heap:=h'}):wpAny (model prog w) A (pyNext (.ref it)) Q E s:=by
 obtain ⟨o, ho, hc, hd⟩ := id hit;unfold pyNext;refine tG (xdX (xcx (name:=Str.ofString "__next__") hit.typeIs BW
  (xbR BW hit.typeIs Uu ?_ (Ut _))))
 unfold Builtin.«reversed.__next__»;refine tG (xck (a:=(Value.ref it,[])) rfl ?_)
 try dsimp only
 refine tG (xbn ho hd (x:=.ref l) rfl ?_);refine tG (xbn ho hd (x:=rawInt (-1)) rfl ?_);show wpAny _ _ (if (-1:Int)<0 then _ else _) _ _ s
 rw[xab (by decide)];refine tG (wpAny_rule ?_);refine tG ?_;show wpAny _ _ (setField (.ref it) 1 (rawInt (-1)) >>=fun _=>setField (.ref it) 0 .none) _ _ s;refine tG (xb8 ho hd (by simp) ?_);refine xb8 (xbI _ ho (xb9 (xa3 hd _))) (xa3 hd _) (by simp) ?_;refine tG ?_;show wpAny _ _ (newExc (.type "StopIteration") [] >>=_) _ _ _;refine tG ?_;simp only[newExc,newTuple];refine tG (xaN ?_ (by size_fits));refine tG (m:=firstArgMember _ _) (xck (a:=Value.none) (by first |rfl |(simp only[firstArgMember];rfl)) ?_)
 refine xaN ?_ (by size_fits);simp only[raiseNew];refine tG (wpAny_handled ?_)
 first |rw[show A.in1.handled=none from hh] |rw[hh]
 refine tG (xah (wpAny_throw ?_));refine tG (wpAny_isInstance (T:="StopIteration") (b:=true) ⟨_,xas _ rfl,rfl⟩ isSubtype_stop ?_);exact xah (hQ _ ((((xcl _ _ _).extBut).trans ((xcl _ _ _).extBut)).push _ |>.push _))
end
noncomputable def Py (K:Fgx) (a:Addr) (n:Nat):It:=
 ⟨fun i H=>i<n/\∃xs,c7 K H a xs/\xs.length=n,fun i H x H'=>H'=H/\∀xs,c7 K H a xs->xs[n - 1 - i]? =some x,fun i _=>i=n⟩
theorem zcd {P:Program}{w:World}{K:Fgx}{tg:Expr}(a it:Addr)(n:Nat):Turn P w K tg (Py K a n) [it] it (fun i h=>lA h it a ((n:Int) - 1 - (i:Int))) where
 mem:=by simp
 obj:=fun i h st b hb=>by
  have e:b=it:=by simpa using hb
  subst e;obtain⟨o,e,c,d⟩:=st;exact⟨o,e,fun v z=>by rw[d]at z;cases z⟩
 keep:=fun i h h' st k=>st.at fun o e=>k it (by simp) o e
 item:=by
  intro X hP hw hK hc i pins s σ H E I hf st hg;subst hP hw hK;obtain⟨hi,xs,hq,hlen⟩:=hg;obtain⟨its,rv,p,hz⟩:=I.tuple hq;have hx:xs[n - 1 - i]? =some (xs[n - 1 - i]'(by omega)):=xag (by omega);obtain⟨u,hu,ru⟩:=rv.get hx;obtain⟨f0,f1,f2,f3,f4,f5⟩:=hf it (by simp);have e:(n:Int) - 1 - (i:Int)=((n - 1 - i:Nat):Int):=by omega
  have st0:lA s.heap it a ((n - 1 - i:Nat):Int):=by rw[<-e];exact st
  have hn:=rR;have hl:=rv.length;refine zbX st0 p (x:=u) (by simpa using hu) (by simp only[xae];omega) fun h' st' sb=>?_;have e2:((n - 1 - i:Nat):Int) - 1=(n:Int) - 1 - ((i + 1:Nat):Int):=by omega
  rw[e2]at st';have I1:Inv X pins σ H {s with heap:=h',toks:=s.toks + 1}:=I.turned (t':=s.toks + 1) (fun b o hb e=>(sb.2 b hb).trans e) f0 f1 f3 f4 f5;obtain⟨o,eo,c,d⟩:=id st';exact⟨u,rfl,wY (s:={s with heap:=h',toks:=s.toks + 1}) eo c d (by decide) ⟨_,H,I1,ru,⟨rfl,fun ys hy=>by rw[I.tuple_inj hy hq];exact hx⟩,st',fun b hb=>(hf b hb).1⟩⟩
 done:=by
  intro X hP hw hK hc i pins s σ H E I hf st hg;subst hP hw hK;have hg':i=n:=hg;subst hg';obtain⟨f0,f1,f2,f3,f4,f5⟩:=hf it (by simp);have e:(i:Int) - 1 - (i:Int)= -1:=by omega
  have st0:lA s.heap it a (-1):=by rw[<-e];exact st
  exact Yx (I.ok.hd hc) st0 fun h' eb=>⟨rfl,I.turned (t':=s.toks) (fun b o hb e=>eb b o hb e) f0 f1 f3 f4 f5⟩
 self:=fun _ _ _ _ _ st h=>RG st h
section
variable {X:Cx}{tg:Expr}
noncomputable def Zj (K:Fgx) (ta:TA):TI:=fun σ H R=>ta σ H fun vs H1=>∃a xs,vs=[.ref a]/\c7 K H1 a xs/\R (Py K a xs.length) H1
theorem zeo (hg:Gl X "reversed")(hm:X.mg "reversed"=none)(ha:PA X [a] ta)(hs:starEach [a] X.env=[(false,eval a X.env)]:=by rfl):PI X tg (.Call (.Name "reversed" p) [a] [] pos) (Zj X.K ta):=by
 intro pins s σ H R I h;refine Call_ (Ba I hg hm boot_reversed (xcb (aP (ha pos pins s σ H _ I h) fun us s1 ⟨vs,H1,I1,r1,q1⟩=>?_) hs rfl));obtain⟨b,xs,e,hq,q⟩:=q1;subst e;obtain⟨u,e,ru⟩:=vals1 r1;subst e;cases ru;obtain⟨its,rv,pl,hz⟩:=I1.tuple hq;have hlen:its.toArray.size=xs.length:=by rw[xae];exact rv.length.symm
 have hn:=rR;refine XH pl (by rw[hlen];omega) ?_;rw[hlen];refine RG (l:=b) (i:=(xs.length:Int) - 1) ⟨_,xas _ rfl,rfl,rfl⟩ ?_;refine⟨s1.heap.objs.size,[s1.heap.objs.size],_,_,H1,rfl,I1.kept (t':=s1.toks + 1 + 1) fun b o e=>xaa _ e,zcd b _ xs.length,?_,fun c hc=>?_,q⟩
 ·have e:(xs.length:Int) - 1 - ((0:Nat):Int)=(xs.length:Int) - 1:=by omega
  show lA _ _ b ((xs.length:Int) - 1 - ((0:Nat):Int));rw[e];exact⟨_,xas _ rfl,rfl,rfl⟩
 ·have e:c=s1.heap.objs.size:=by simpa using hc
  subst e;exact I1.fpOk (xaf _) (I1.hok.fresh (xaf _))
end
end L2
namespace E3
open PySem PySem.Spec PyProof.Rows L2
section
variable {X:Cx}{Wx:XW}{m:Mode}{pos:Pos}
noncomputable def m9 (f:E) (ps:EJ):EJ:=fun out env M=>bnd (f env M) fun d M1=>match d with
 |.str z=>if (reprText z).length<=sizeLine/\(out ++ reprText z).length<=sizeLine then ps (out ++ reprText z) env M1 else none
 |_=>none
theorem zey (he:PE X e te)(hv:PJ X vs tj):PJ X (.FormattedValue e 114 none pos::vs) (fun out σ H Q=>te σ H fun v H1=>∃z,v=.str z/\(reprText z).length<=sizeLine/\(out ++ reprText z).length<=sizeLine/\tj (out ++ reprText z) σ H1 Q):=fun pins s σ H out Q I h=>by
 refine joinParts_cons (wpAny_FormattedValue_repr (aP (he pins s σ H _ I h) fun u s1 ⟨x,H1,I1,r1,z,ez,hz,hl,q⟩=>?_));subst ez;obtain⟨t,rfl⟩:=r1;refine pyReprObj_str ?_ hz;exact formatField_str (fun t' tk=>⟨hl,hv pins _ σ H1 _ Q (I1.tok _) q⟩) hz
theorem zdD (he:SE X Wx .val e f)(h:SJ X Wx vs ps):SJ X Wx (.FormattedValue e 114 none pos::vs) (m9 f ps):=by
 refine Fe (zey he h) ?_;rintro out st H Q ⟨P0,H0,P,Os,env,M,r,M',k,e,q⟩;unfold m9 at e;rcases cA e with⟨d,M1,e1,e⟩ |⟨c,n,e1,rfl⟩
 ·cases d<;>simp only[reduceCtorEq]at e
  rename_i z;split at e
  ·rename_i hl;exact aV k e1 fun P1 v1 H1 l1 h1 i1=>⟨z,i1,hl.1,hl.2,P0,H0,P1,Os,env,M1,r,M',k.next l1 h1,e,RQ.imp l1 q⟩
  ·cases e
 ·exact aV k e1 q
theorem zfV (hg:Gl X nm)(hm:X.mg nm=some (.ref a))(hd:∀P H,Is X.K P H d (.ref a))(hdb:(nm==("__debug__":Str))=false:=by x_go):SE X Wx m (.Name nm p) (ao d):=
 (Gz (Bq hg hm (v:=.ref a) rfl hdb) hd).bor
theorem Rx {K:Fgx}{a:Addr}{o:Obj}{its:Array Value}{n:Nat}{ds:List D}{vs:List V}(l:K.lookup a=some o)(c:o.cls=.type "tuple")(e:o.data=.seq its n)(z:its.size<=sizeLine)(r:Vals vs its.toList)(i:∀P H,aD K P H ds vs):∀P H,Is K P H (.tup ds) (.ref a):=
 fun P H=>⟨a,vs,rfl,.inr ⟨o,its,n,l,c,e,z,r⟩,i P H⟩
def lg (P:Program)(w:World)(K:Fgx)(mg:Mgx)(base:Heap)(k:Nat)(C:Addr)(m:Str)(n:Nat)(g:G):Prop:=
 ∃f fd ps ds dvs sp,Meth K C m f/\FnOk P w K mg base fO k f fd ps sp/\Binds K fd ps ds/\Vals dvs ds/\∀vs H Q E,nR K mg n g vs H Q E->sp (vs ++ dvs) H Q E
theorem lg.mono {P:Program}{w:World}{K:Fgx}{mg:Mgx}{base:Heap}{j k:Nat}{C:Addr}{m:Str}{n:Nat}{g:G}(a:lg P w K mg base j C m n g)(h:j<=k):lg P w K mg base k C m n g:=by
 obtain⟨f,fd,ps,ds,dvs,sp,h1,h2,h3⟩:=a;exact⟨f,fd,ps,ds,dvs,sp,h1,h2.mono h,h3⟩
structure OwnIs (K:Fgx)(C:Addr):Prop where
 ca:PySem.W.findIn K (.ref C) "__class__"=some (some (.builtin "object.__class__"))
 gt:PySem.W.specialIn K (.builtin "object.__class__") "__get__"=some (some (.builtin "getset_descriptor.__get__"))
 tk:PySem.W.takesIn K (.builtin "object.__class__")=some true
 mr:PySem.W.mroIn K C (.type "object")=some true
 me:PySem.W.kitOne K (.ref C) (.ref C)=some true
noncomputable def m7 (fs:EA):EA:=fun env M=>match fs env M with
 |some (.v [.tup ds],M1)=>some (.v ds.reverse,M1)
 |some (.x c n,M1)=>some (.x c n,M1)
 |_=>none
theorem V5 (hg:Gl X "reversed")(hm:X.mg "reversed"=none)(ha:SA X Wx .val [a] fs)(hs:starEach [a] X.env=[(false,eval a X.env)]:=by rfl):SI X Wx tg (.Call (.Name "reversed" p) [a] [] pos) (m7 fs):=by
 refine Br (zeo hg hm ha hs) ?_;rintro st H R ⟨P0,H0,P,Os,env,M,r,M',k,e,q⟩;unfold m7 at e;split at e
 ·rename_i ds M1 ef;cases e;refine⟨P0,H0,P,Os,env,M,_,_,k,ef,fun P1 vs H1 l1 h1 i1=>?_⟩;obtain⟨v,ws,rfl,i1,rfl⟩:=i1;obtain⟨a,us,rfl,ra,is⟩:=i1;refine⟨a,us,rfl,ra,q P1 H1 _ l1 h1 fun P2 H2 l2=>?_⟩;have ra2:=l2.tup ra;have is2:=aD.lt l2 is;have hn:us.length=ds.length:=is2.len;rw[xaK];refine⟨fun j hj=>⟨by omega,us,ra2,rfl⟩,fun j h1 h2=>by show j=us.length;omega,fun j x H' y hj=>⟨y.1,?_⟩⟩;have hj':ds.length - 1 - j<ds.length:=by omega
  obtain⟨v,ev,iv⟩:=aD.get is2 (xag hj');have:=y.2 us ra2;rw[hn,ev]at this;cases this;exact⟨_,by rw[List.getElem?_reverse hj,xag hj'],iv⟩
 ·rename_i c n M1 ef;cases e;exact⟨P0,H0,P,Os,env,M,_,_,k,ef,q⟩
 ·cases e
end
end E3
namespace E3
open PySem L2
noncomputable def dg (n:Nat):List Nat:=(Nat.toDigits 10 n).map Char.toNat
theorem QM (n:Nat):NumText.AllDigits (dg n):=fun c hc=>by
 obtain⟨d,hd,rfl⟩:=xaD.mp hc;have h:=Nat.isDigit_of_mem_toDigits (by decide) (by decide) hd;simp only[Char.isDigit,xap,xaS]at h;exact⟨h.1,h.2⟩
theorem QT (n:Nat):dg n≠ []:=fun e=>Nat.toDigits_ne_nil (xdZ.mp e)
theorem QS (h1:1<=k)(h:n<10 ^ k):(dg n).length<=k:=by
 rw[dg,xal];exact toDigits_len_pow (by decide) h1 h
noncomputable def cH (i:Int):Str:=Str.ofString (toString i)
theorem GF (h:0<=i):(cH i).cps.toList=dg i.toNat:=by
 have:=W.KIN.signs_num i.toNat;rw[xd0 h]at this;exact this
theorem V3 (h:i<0):(cH i).cps.toList=45::dg i.natAbs:=by
 obtain⟨m,rfl⟩:∃m,i=Int.negSucc m:=by
  cases i with
  |ofNat n=>exact absurd h (by simp)
  |negSucc m=>exact⟨m,rfl⟩
 unfold cH dg;rw[PyProof.Rows.signs_ofString];show List.map Char.toNat ("-" ++ toString (m + 1)).toList=_;rw[String.toList_append,xcm,Nat.toString_eq_ofList_toDigits]
 simp
theorem V2 (h1:1<=k)(h:i.natAbs<10 ^ k):(cH i).length<=k + 1:=by
 show(cH i).cps.size<=k + 1;rw[<-xaR]
 by_cases h0:0<=i
 ·rw[GF h0];have:=QS (n:=i.toNat) h1 (by rw[<-Int.natAbs_of_nonneg h0]at *;simpa using h);omega
 ·rw[V3 (by omega),xao];have:=QS h1 h;omega
theorem Zr (h:i.natAbs<10 ^ 600):intText? (cH i)=some i:=by
 have hl:=V2 (by decide) h
 by_cases h0:0<=i
 ·rw[intText_digits (by rw[GF h0];exact QM _) (by rw[GF h0];exact QT _) (by omega),GF h0];have:=W.KIN.val_back i.toNat;unfold dg;rw[this,xd0 h0]
 ·rw[intText_neg (V3 (by omega)) (QM _) (QT _) (by omega)];have:=W.KIN.val_back i.natAbs;unfold dg;rw[this];congr 1;omega
noncomputable def jn (c:Nat):List (List Nat)->List Nat
 | []=>[]
 | [p]=>p
 |p::q::r=>p ++ c::jn c (q::r)
noncomputable def cd (s:Str):List Nat:=s.cps.toList
theorem X5 (h:cd a=cd b):a=b:=by
 obtain⟨x⟩:=a;obtain⟨y⟩:=b;have:x=y:=xdz.mp h;rw[this]
theorem Jc (a b:Str):cd (a ++ b)=cd a ++ cd b:=by
 unfold cd;rw[Str.cps_append,Array.toList_append]
theorem zbK (h:cd x=c::r):cd (Txt.slice x (some 1) none)=r:=by
 have hl:(cd x).length=r.length + 1:=by rw[h];rfl
 have:=xcR (x:=x) (i:=1) ⟨by decide,by show(1:Int)<=((cd x).length:Int);omega⟩;have e:=eq_of_beq this;rw[e];show List.take (((cd x).length:Int) - 1).toNat (List.drop (1:Int).toNat (cd x))=r;rw[h]
 simp
theorem zbf (h:cd x=c::r):Txt.startswith x (Str.ofString "-")=decide (c=45):=by
 have hl:x.length=r.length + 1:=by
  show x.cps.size=_;rw[<-xaR];show(cd x).length=_;rw[h];rfl
 have e1:(Str.ofString "-").cps= #[45]:=by x_go
 have e2:(Str.ofString "-").length=1:=by x_go
 unfold Txt.startswith Builtin.Str.subAt;rw[e1,e2,hl];have e3:x.cps=(c::r).toArray:=by
  rw[<-h];simp[cd]
 rw[e3,xaF (by omega),Bool.true_and];have e4:((c::r).toArray).extract 0 (0 + 1)= #[c]:=by simp
 rw[e4];rw[xaL]
 simp
theorem lO (x:Str):x.length=(cd x).length:=by
 show x.cps.size=x.cps.toList.length
 simp
theorem Jd:x=y ↔ cd x=cd y:=⟨fun h=>by rw[h],X5⟩
theorem zY:(x=Str.ofString "")=(cd x=[]):=propext (Jd.trans (by rw[show cd (Str.ofString "")=[] by x_go]))
theorem eq_0:(x=Str.ofString "0")=(cd x=[48]):=propext (Jd.trans (by rw[show cd (Str.ofString "0")=[48] by x_go]))
theorem QZ:(x=Str.ofString "-0")=(cd x=[45,48]):=propext (Jd.trans (by rw[show cd (Str.ofString "-0")=[45,48] by x_go]))
theorem X6 (c:Nat):cd ⟨#[c]⟩=[c]:=rfl
noncomputable def lH (c:Nat):Bool:=decide (48<=c) && decide (c<=57)
theorem Zn (c:Nat):t_ ⟨#[c]⟩ (Str.ofString "0123456789")=lH c:=by
 by_cases h:c<58
 ·exact(show ∀c<58,t_ ⟨#[c]⟩ (Str.ofString "0123456789")=lH c by x_go) c h
 ·unfold t_ lH;rw[StrLaws.found_one,xaL];simp only[xaS,xap];exact⟨fun m=>absurd ((show ∀x∈(Str.ofString "0123456789").cps.toList,x<58 by x_go) c m) h,fun m=>absurd (Nat.lt_succ_of_le m.2) h⟩
noncomputable def gM (cs:List Nat):Bool:= !decide (cs=[]) && cs.all lH && (decide (cs=[48]) || !decide (cs.head? =some 48))
theorem Xj (cs:List Nat):((cs.map fun c=> !lH c).any id)= !cs.all lH:=by
 induction cs with
 |nil=>rfl
 |cons c r ih=>simp only[xaI,xbZ,xbz,ih,id,Bool.not_and]
noncomputable def lJ (cs:List Nat):List Nat:=if cs.head? =some 45 then cs.tail else cs
def good (cs:List Nat):Bool:= !decide (cs=[45,48]) && gM (lJ cs)
noncomputable def zB (cs:List Nat):Int:=if cs.head? =some 45 then -((NumText.digitsVal cs.tail:Nat):Int) else((NumText.digitsVal cs:Nat):Int)
theorem zgf (x:Str):Txt.startswith x (Str.ofString "-")=decide ((cd x).head? =some 45):=by
  cases h:cd x with
  |nil=>
    have:x=Str.ofString "":=by rw[zY];exact h
    rw[this]
    decide +kernel
  |cons c r=>
    rw[zbf h]
    simp
theorem Ys (h:cs.all lH=true):NumText.AllDigits cs:=fun c hc=>by
 have:=xaM.mp h c hc;unfold lH at this
 simpa using this
theorem Jq (h:gM cs=true):cs≠ []/\NumText.AllDigits cs/\(cs=[48]\/cs.head? ≠some 48):=by
 unfold gM at h;simp only[xap,xb1,xdj,xaS,decide_eq_false_iff_not]at h;exact⟨h.1.1,Ys h.1.2,h.2⟩
theorem Zq (h:gM (lJ (cd x))=true)(hl:x.length<=600):intText? x=some (zB (cd x)):=by
 obtain⟨h1,h2,h3⟩:=Jq h;unfold lJ at h1 h2;unfold zB
 by_cases hh:(cd x).head? =some 45
 ·rw[xab hh]at h1 h2 ⊢;obtain⟨r,e⟩:∃r,cd x=45::r:=by
   cases hc:cd x with
   |nil=>rw[hc]at hh;cases hh
   |cons c r=>rw[hc]at hh;simp at hh;exact⟨r,by rw[hh]⟩
  rw[e,xdP]at h1 h2 ⊢;exact intText_neg e h2 h1 (by omega)
 ·rw[xad hh]at h1 h2 ⊢;exact intText_digits h2 h1 (by omega)
theorem zdJ (x:Str):(Txt.lstripChars x (Str.ofString "-")).length=x.length - ((cd x).takeWhile fun c=>decide (c=45)).length:=by
 have hg:(fun c=>((Str.ofString "-").cps.contains c:Bool))=fun c=>decide (c=45):=by
  funext c;rw[show(Str.ofString "-").cps= #[45] by x_go]
  simp
 have hlo:stripLo (Str.ofString "-").cps.contains true x=((cd x).takeWhile fun c=>decide (c=45)).length:=by
  unfold stripLo;rw[xab rfl];show((cd x).takeWhile fun c=>((Str.ofString "-").cps.contains c:Bool)).length=_;rw[hg]
 have hle:=PyProof.Rows.takeWhile_len_le (fun c=>decide (c=45)) (cd x);unfold Txt.lstripChars Txt.stripBy
 split
 ·rename_i h;unfold stripSame at h;rw[xap,xbh,hlo]at h;omega
 ·unfold stripped;rw[hlo];show(x.cps.extract _ (stripHi _ false x _)).size=_;unfold stripHi;rw[xad (by decide),Array.size_extract];show min x.cps.size x.cps.size - _=x.cps.size - _;omega
theorem zco (h:good (cd x)=true):(Txt.lstripChars x (Str.ofString "-")).length=(lJ (cd x)).length:=by
  unfold good at h;rw[xap]at h;obtain⟨h1,h2,h3⟩:=Jq h.2;rw[zdJ,lO];have no:∀cs:List Nat,NumText.AllDigits cs->(cs.takeWhile fun c=>decide (c=45))=[]:=fun cs hd=>by
    cases cs with
    |nil=>rfl
    |cons c r=>
      have:=hd c xat;rw[xd1,xad (by simp;omega)]
  unfold lJ at h1 h2 ⊢
  by_cases hh:(cd x).head? =some 45
  · rw[xab hh]at h1 h2 ⊢;obtain⟨r,e⟩:∃r,cd x=45::r:=by
      cases hc:cd x with
      |nil=>rw[hc]at hh;cases hh
      |cons c r=>rw[hc]at hh;simp at hh;exact⟨r,by rw[hh]⟩
    rw[e,xdP]at h1 h2 ⊢;rw[xd1,xab (by simp),no _ h2]
    simp
  · rw[xad hh]at h1 h2 ⊢;rw[no _ h2]
    simp
theorem Ss (h:n<340282366920938463463374607431768211456):n.log2<1920:=by
 by_cases h0:n=0
 ·rw[h0];decide
 ·have:=(Nat.log2_lt h0 (k:=128)).mpr h;omega
section
variable {env:Env}{M M1:Mm}{f g h c:E}{d e:D}{i j:Int}{n k:Nat}{z:Str}{b:Bool}{ds es:List D}{s t:S}{x:Str}{fa:EA}{u:G}
theorem zda {q:D->Mm->OS}:dj q (some (.x x i,M))=some (.ex x i,M):=rfl
theorem zc8 {q:D->Mm->O}:cX q (some (.x x i,M))=some (.x x i,M):=rfl
theorem zcv {q:List D->Mm->O}:mU q (some (.x x i,M))=some (.x x i,M):=rfl
theorem zcr {q:Mm->Option (ResA×Mm)}:Jh q (some (.x x i,M))=some (.x x i,M):=rfl
theorem zcB:p8 d (some (.x x i,M))=some (.x x i,M):=rfl
def JZ (q:List D->O):Option Cl->O
 |some (.lst ds)=>q ds
 |_=>none
theorem zgq {q:List D->O}:JZ q (some (.lst ds))=q ds:=rfl
noncomputable def sy (M:Mm) (k:Nat) (ds:List D):Option D->O
 |some z=>some (.v z,M.set k (.lst ds.dropLast))
 |none=>none
theorem Uk:sy M k ds (some d)=some (.v d,M.set k (.lst ds.dropLast)):=rfl
noncomputable def Bu (M:Mm):D->O
 |.ref k=>JZ (fun ds=>sy M k ds ds[ds.length - 1]?) M[k]?
 |_=>none
theorem ze1:Bu M (.ref k)=JZ (fun ds=>sy M k ds ds[ds.length - 1]?) M[k]? :=rfl
theorem zfT:gZ f env M=cX (fun d M1=>Bu M1 d) (f env M):=rfl
noncomputable def Bb (q:List D->OS):Option Cl->OS
 |some (.lst ds)=>q ds
 |_=>none
theorem zgE {q:List D->OS}:Bb q (some (.lst ds))=q ds:=rfl
noncomputable def zN (env:Env) (g:Mm->O) (M:Mm):D->OS
 |.ref k=>Bb (fun _=>dj (fun y M2=>Bb (fun ds=>if ds.length<sizeLine then some (.nx env,M2.set k (.lst (ds ++ [y]))) else none) M2[k]?) (g M)) M[k]?
 |_=>none
theorem zfr {q:Mm->O}:zN env q M (.ref k)=Bb (fun _=>dj (fun y M2=>Bb (fun ds=>if ds.length<sizeLine then some (.nx env,M2.set k (.lst (ds ++ [y]))) else none) M2[k]?) (q M)) M[k]? :=rfl
theorem zeW:fW f g env M=dj (fun d M1=>zN env (g env) M1 d) (f env M):=rfl
theorem zfo (h:M[k]? =some (.lst ds)):vw M (.ref k)=.lst ds:=by unfold vw;simp only[h]
noncomputable def zP (q:List D->Mm->O):Option (ResA×Mm)->O
 |some (.v ds,M)=>q ds M
 |_=>none
theorem zeL {q:List D->Mm->O}:zP q (some (.v ds,M))=q ds M:=rfl
theorem zcG:FQ u fa env M=zP (fun ds M1=>u ds M1) (fa env M):=rfl
theorem Mz:sO x f env M=dj (fun _ M1=>some (.ex x 0,M1)) (f env M):=rfl
noncomputable def Aw (b:Bool) (tb:List (Str×D)) (M:Mm):D->O
 |.str z=>some (.v (.bl (if b then(dR tb z).isSome else !(dR tb z).isSome)),M)
 |_=>none
theorem zhl {tb:List (Str×D)}:Aw b tb M (.str z)=some (.v (.bl (if b then(dR tb z).isSome else !(dR tb z).isSome)),M):=rfl
theorem zg7 {tb:List (Str×D)}:lZ b tb f env M=cX (fun d M1=>Aw b tb M1 d) (f env M):=rfl
noncomputable def R3 (tb:List (Str×D)) (M:Mm):D->O
 |.str z=>(dR tb z).map fun y=>(.v y,M)
 |_=>none
theorem zdT {tb:List (Str×D)}:R3 tb M (.str z)=(dR tb z).map fun y=>(.v y,M):=rfl
theorem zeG {tb:List (Str×D)}:Ca tb f env M=cX (fun d M1=>R3 tb M1 d) (f env M):=rfl
noncomputable def W4:O->Option (ResA×Mm)
 |some (.v (.str z),M1)=>some (.v (z.cps.toList.map fun c=>.str ⟨#[c]⟩),M1)
 |some (.x c n,M1)=>some (.x c n,M1)
 |_=>none
theorem zfZ:Ed f env M=W4 (f env M):=rfl
theorem zgh:W4 (some (.v (.str z),M))=some (.v (z.cps.toList.map fun c=>.str ⟨#[c]⟩),M):=rfl
noncomputable def BZ:Option (ResA×Mm)->Option (ResA×Mm)
 |some (.v [.tup ds],M1)=>some (.v ds.reverse,M1)
 |some (.x c n,M1)=>some (.x c n,M1)
 |_=>none
theorem zfe:m7 fa env M=BZ (fa env M):=rfl
theorem zdK:BZ (some (.v [.tup ds],M))=some (.v ds.reverse,M):=rfl
noncomputable def Ti (o:Str->List D->Option D) (q:Mm->Option (ResA×Mm)) (M:Mm):D->O
 |.str y=>pQ (o y) (q M)
 |_=>none
theorem Nk {o:Str->List D->Option D}{q:Mm->Option (ResA×Mm)}:Ti o q M (.str z)=pQ (o z) (q M):=rfl
theorem Mu {o:Str->List D->Option D}:yZ o f fa env M=cX (fun d M1=>Ti o (fa env) M1 d) (f env M):=rfl
theorem O8 {y:Str}:G5 z [.str y]=some (.bl (Txt.startswith z y)):=rfl
theorem O7 {y:Str}:G4 z [.str y]=if z.length<=sizeLine then some (.str (Txt.lstripChars z y)) else none:=rfl
theorem Mj {ps:EJ}:gw ps env M=ps Str.empty env M:=rfl
theorem Mq {out:Str}:gq out env M=if out.length<=sizeLine then some (.v (.str out),M) else none:=rfl
theorem Mp {ps:EJ}{out:Str}:gn z ps out env M=if (out ++ z).length<=sizeLine then ps (out ++ z) env M else none:=rfl
noncomputable def RW (ps:EJ) (out:Str) (env:Env) (M:Mm):Option Str->O
 |some y=>if (out ++ y).length<=sizeLine then ps (out ++ y) env M else none
 |none=>none
theorem BP {ps:EJ}{out y:Str}:RW ps out env M (some y)=if (out ++ y).length<=sizeLine then ps (out ++ y) env M else none:=rfl
theorem Ue {ps:EJ}{out:Str}:lN f ps out env M=cX (fun d M1=>RW ps out env M1 (zA d)) (f env M):=rfl
theorem WK:zA (.str z)=if z.length<=sizeLine then some z else none:=rfl
theorem zgt:zA (.int i)=if i.natAbs.log2<1920 then some (Str.ofString (toString i)) else none:=rfl
noncomputable def RV (ps:EJ) (out:Str) (env:Env) (M:Mm):D->O
 |.str z=>if (reprText z).length<=sizeLine/\(out ++ reprText z).length<=sizeLine then ps (out ++ reprText z) env M else none
 |_=>none
theorem BL {ps:EJ}{out:Str}:RV ps out env M (.str z)=if (reprText z).length<=sizeLine/\(out ++ reprText z).length<=sizeLine then ps (out ++ reprText z) env M else none:=rfl
theorem Ud {ps:EJ}{out:Str}:m9 f ps out env M=cX (fun d M1=>RV ps out env M1 d) (f env M):=rfl
theorem zeX {y:Str}:bR (.str z) (.str y)=if z.length + y.length<=sizeLine then some (.str (z ++ y)) else none:=rfl
theorem zf5:aN (.str z) (.int i)=if z.length<=sizeLine then(cu z.cps.toList i).map fun c=>.str ⟨#[c]⟩ else none:=rfl
theorem zdQ:fu [.str z]=if z.length<=sizeLine then some (.int z.length) else none:=rfl
theorem Tz:mW [.int i]=if i.natAbs.log2<1920 then some (.str (toString i)) else none:=rfl
theorem Bj:dh [.str z]=if z.length<=640 then(intText? z).map .int else none:=rfl
theorem zfO:pR [.lst ds]=(tQ ds).map fun bs=>.bl (bs.any id):=rfl
theorem zeH:pX [.lst ds]=some (.tup ds):=rfl
theorem zfW {y:Str}:aH .isin (.str z) (.str y)=some (.bl (t_ z y)):=rfl
theorem zel {y:Str}:aH .notin (.str z) (.str y)=some (.bl (!t_ z y)):=rfl
theorem zgj {y:Str}:aH .eq (.str z) (.str y)=some (.bl (decide (z=y))):=by
 unfold aH cQ yt;rw[xab (by constructor<;>first |rfl |simp[D.dep])]
 have:(z==y)=decide (z=y):=by rw[xaL];simp
 simp[D.eq,this]
theorem zf9 {y:Str}:aH .ne (.str z) (.str y)=some (.bl (!decide (z=y))):=by
 unfold aH cQ pZ;rw[xab (by constructor<;>first |rfl |simp[D.dep])]
 have:(z==y)=decide (z=y):=by rw[xaL];simp
 simp[D.eq,this]
theorem ze5:aH .same .non .non=some (.bl true):=rfl
theorem zew:aH .other (.int i) .non=some (.bl true):=rfl
theorem zeD:aH .other .non .non=some (.bl false):=rfl
theorem Qv {α:Type}{e:E}(A B:α->D):∀(as:List α) (acc:List D),(∀a∈as,e (.val (A a)::env) M=some (.v (B a),M))->acc.length + as.length<sizeLine->fD (ao (.bl true)) e env (as.map A) acc M=some (acc ++ as.map B,M)
  | [],acc,_,_=>by simp[fD]
  |a::as,acc,h,hl=>by
    rw[xao]at hl;have hr:=Qv A B as (acc ++ [B a]) (fun a' ha'=>h a' (by simp[ha'])) (by rw[xaj,xaQ];omega);rw[xaI];unfold fD;rw[show ao (.bl true) (.val (A a)::env) M=some (.v (.bl true),M) from rfl];dsimp only;rw[h a xat];dsimp only;rw[xab (by omega),hr]
    simp
noncomputable def zx (k:Nat) (t:S) (ds:List D):OS->OS
 |some (.nx e,M1)=>loopS k t ds e M1
 |some (.ct e,M1)=>loopS k t ds e M1
 |some (.bk e,M1)=>some (.nx e,M1)
 |some (.rt d,M1)=>some (.rt d,M1)
 |some (.ex c n,M1)=>some (.ex c n,M1)
 |none=>none
theorem Mt:loopS k t [] env M=some (.nx env,M):=rfl
theorem Fq:loopS k t (d::ds) env M=if k<env.length then zx k t ds (t (env.set k (.val d)) M) else none:=rfl
theorem FJ {e':Env}:zx k t ds (some (.nx e',M))=loopS k t ds e' M:=rfl
theorem zgK {e':Env}:zx k t ds (some (.ct e',M))=loopS k t ds e' M:=rfl
theorem zfS {e':Env}:zx k t ds (some (.bk e',M))=some (.nx e',M):=rfl
theorem zfC:zx k t ds (some (.rt d,M))=some (.rt d,M):=rfl
theorem zgH:zx k t ds (some (.ex x i,M))=some (.ex x i,M):=rfl
theorem Xl {α:Type}{xs:List α}{i:Int}(d:α)(h0:0<=i)(h1:i<xs.length):cu xs i=some (xs.getD i.toNat d):=by
 obtain⟨k,rfl⟩:∃k:Nat,i=k:=⟨i.toNat,by omega⟩;have hk:k<xs.length:=by omega
 exact yq (by simp[hk])
theorem at0 {α:Type}{a:α}{xs:List α}:cu (a::xs) 0=some a:=yq (j:=0) rfl
theorem at1 {α:Type}{a b:α}{xs:List α}:cu (a::b::xs) 1=some b:=yq (j:=1) rfl
theorem at2 {α:Type}{a b c:α}{xs:List α}:cu (a::b::c::xs) 2=some c:=yq (j:=2) rfl
theorem Xk {α:Type}{a b c d:α}{xs:List α}:cu (a::b::c::d::xs) 3=some d:=yq (j:=3) rfl
theorem yJ {M:Mm}{cl:Cl}:(M ++ [cl])[M.length]? =some cl:=List.getElem?_concat_length ..
theorem s_end {M:Mm}{cl cl':Cl}:(M ++ [cl]).set M.length cl'=M ++ [cl']:=by simp
theorem w_end {M:Mm}:vw (M ++ [.lst ds]) (.ref M.length)=.lst ds:=zfo yJ
theorem Yr {α β:Type}(f:α->β)(xs:List α)(lo hi:Option Int):cI (xs.map f) lo hi=(cI xs lo hi).map f:=by
 unfold cI;rw[xal, <-List.map_drop, <-List.map_take]
theorem Yq {α:Type}(xs:List α)(lo hi:Option Int):(cI xs lo hi).length<=xs.length:=by
 unfold cI;rw[xbC,xbQ];omega
theorem QB {α:Type}(xs:List α){i:Int}(h:0<=i):cI xs (some i) none=xs.drop i.toNat:=by
 obtain⟨k,rfl⟩:∃k:Nat,i=k:=⟨i.toNat,by omega⟩;unfold cI;rw[HT.zbY,HT.zcR];rw[xdL (by rw[xbQ];omega),xdh]
 by_cases hk:k<=xs.length
 ·rw[Nat.min_eq_left hk]
 ·rw[Nat.min_eq_right (by omega),xcD,List.drop_of_length_le (by omega)]
end
end E3
namespace L2
open PySem PySem.Spec PyProof.Rows
end L2
namespace E3
open PySem PySem.Spec PyProof.Rows L2
end E3
namespace L2
open PySem PySem.Spec PyProof.Rows
end L2
namespace E3
open PySem PySem.Spec PyProof.Rows L2
end E3
namespace L2
open PySem PySem.Spec PyProof.Rows
end L2
namespace E3
open PySem PySem.Spec PyProof.Rows L2
section
variable {X:Cx}{Wx:XW}{m:Mode}{pos:Pos}{K:Fgx}
noncomputable def xq:D->D->Option D
 |.tup xs,.tup ys=>if xs.isEmpty=false/\xs.length + ys.length<=sizeLine then some (.tup (xs ++ ys)) else none
 |_,_=>none
theorem LR:jj K (Uh K) xq:=fun P H d e z v w Q h h1 h2 hn q=>by
 unfold xq at h;split at h
 ·rename_i xs ys;split at h
  ·rename_i hl;cases h;obtain⟨a,vs,rfl,r1,s1⟩:=h1;obtain⟨b,ws,rfl,r2,s2⟩:=h2;have n1:vs≠ []:=fun z=>by
    have:=s1.len;rw[z]at this;have h0:=hl.1
    cases xs with
    |nil=>cases h0
    |cons _ _=>cases this
   refine⟨a,b,vs,ws,rfl,rfl,r1,r2,n1,by rw[s1.len,s2.len];exact hl.2,fun z=>?_,fun _=>Kf (s1.append s2) q⟩;have e2:=s2.len;rw[z]at e2;have:ys=[]:=List.length_eq_zero_iff.mp e2.symm;subst this;rw[xax]at q;exact q _ H (Same.refl H) ⟨a,vs,rfl,r1,s1⟩
  ·cases h
 ·cases h
noncomputable def wG (d:D) (lo hi:Option Int):Option D:=match d with
 |.tup ds=>if HT.bw ds.length 0 lo=0/\HT.bw ds.length ds.length hi=ds.length then none else some (.tup (cI ds lo hi))
 |_=>none
noncomputable def dG (f:E) (l h:Env->Mm->Option (Option Int×Mm)):E:=fun env M=>bnd (f env M) fun d M1=>match l env M1 with
  | some (lo, M2) => (match h env M2 with
    |some (hi,M3)=>(wG d lo hi).map fun z=>(.v z,M3)
    |none=>none)
  |none=>none
theorem N_ {e:Expr}{lo hi:Option Expr}{p2:Pos}{f:E}{l h:Env->Mm->Option (Option Int×Mm)}(he:SE X Wx .val e f)(hl:yj X lo l)(hh:yj X hi h):SE X Wx m (.Subscript e (.Slice lo hi none p2) pos) (dG f l h):=by
 refine cB (T5 zek he hl hh) ?_;rintro st H Q ⟨P0,H0,P,Os,env,M,r,M',k,e,q⟩;unfold dG at e;rcases cA e with⟨d,M1,e1,e⟩ |⟨c,n,e1,rfl⟩
 ·split at e
  ·rename_i lo' M2 el;split at e
   ·rename_i hi' M3 eh;rw[xac]at e;obtain⟨z,ez,e⟩:=e;cases e;refine⟨P0,H0,P,Os,env,M,_,_,k,e1,fun P1 v1 H1 l1 h1 i1=>⟨P0,H0,P1,Os,env,M1,_,_,k.next l1 h1,el,fun P2 H2 l2 h2=>⟨P0,H0,P2,Os,env,M2,_,_,(k.next l1 h1).next l2 h2,eh,fun P3 H3 l3 h3=>?_⟩⟩⟩
    have i3:=Is.lt (l3.lt h2) (Is.lt (l2.lt h1) i1);have fin:∀u H',Same H3 H'->Is X.K P3 H' z u->Q u H':=fun u H' s i=>q P3 u H' (l1.trans (l2.trans (l3.trans (LtE.same s)))) (h3.same s) (cO.of (h3.same s) i);unfold wG at ez;split at ez
    ·split at ez
     ·cases ez
     ·rename_i hw;cases ez;obtain⟨a,vs,rfl,r,s⟩:=i3;exact⟨a,vs,rfl,r,by rw[s.len];exact hw,Kf (QC s) fin⟩
    ·cases ez
   ·cases e
  ·cases e
 ·exact⟨P0,H0,P,Os,env,M,_,_,k,e1,q⟩
theorem aD.rep {P:Pl}{H:Hp}{ds:List D}{vs:List V}(h:aD K P H ds vs):∀n:Nat,aD K P H (List.replicate n ds).flatten (List.replicate n vs).flatten
  |0=>rfl
  |n + 1=>by
    rw[xbs,xbs,xbL,xbL];exact h.append (aD.rep h n)
noncomputable def Nz (f g:E):E:=fun env M=>bnd (f env M) fun d M1=>match d with
  |.lst ds=>bnd (g env M1) fun e M2=>match e with
    |.int i=>if i.natAbs<=100000/\ds.length<=100 then some (.v (.lst (List.replicate i.toNat ds).flatten),M2) else none
    |_=>none
  |_=>none
end
section
variable {env:Env}{M:Mm}{f g:E}{d:D}{i:Int}{ds es:List D}{fa:EA}{x:Str}{k:Nat}
noncomputable def xV (d:D) (lo:Option Int):Option (Option Int×Mm)->O
 |some (hi,M3)=>mapR M3 (wG d lo hi)
 |none=>none
noncomputable def sY (d:D) (k:Mm->Option (Option Int×Mm)):Option (Option Int×Mm)->O
 |some (lo,M2)=>xV d lo (k M2)
 |none=>none
theorem Fv {l u:Env->Mm->Option (Option Int×Mm)}:dG f l u env M=cX (fun d M1=>sY d (u env) (l env M1)) (f env M):=rfl
theorem Ul {lo:Option Int}{q:Mm->Option (Option Int×Mm)}:sY d q (some (lo,M))=xV d lo (q M):=rfl
theorem Fy {lo hi:Option Int}:xV d lo (some (hi,M))=mapR M (wG d lo hi):=rfl
end
end E3
namespace L2
open PySem PySem.Spec PyProof.Rows
theorem YB (l b:Addr)(as bs:Array Value)(n n2:Nat)(dd2:Option Addr)(sl2:Array (Option Value))(h0:¬(!as.isEmpty && Builtin.List.listTooLong (as.size + bs.size))=true)(h1:as.size<=sizeLine)(h2:as.size + bs.size<=sizeLine + 1):
  Meets (Builtin.«list.extend» ⟨[.ref l,.ref b],[]⟩) (fun _ R s=>s.heap.get? l=some {cls:=.type "list",data:=.seq as n}/\s.heap.get? b=some ⟨.type "list",dd2,.seq bs n2,sl2⟩/\R (.ok (.ret Value.none)) {s with heap:=s.heap.update l (Obj.mapSeq fun x=>x ++ bs)}):=
 .of_wp fun prog w A R s h=>by
  obtain⟨hp,g,d,tk,os⟩:=s;obtain⟨hl,hb,h⟩:=h;have f1:=AutoSeq1.idx_int;have f2:=AutoSeq1.sub_tuple_tuple;have f3:=AutoSeq1.sub_list_list;have f4:=AutoSeq1.sub_tuple_list;have f5:=AutoSeq1.sub_list_tuple;have hz:(as ++ bs).size<=sizeLine + 1:=by rw[Array.size_append];omega
  wp_walk using (wpAny_updateSeq hl rfl (hz:=h1) (_hz':=hz)),xdA hl,xdA hb
  exact⟨_,rfl,h⟩
section
variable {X:Cx}
def zfF (K:Fgx):V->List V->Hp->VK->Prop:=fun x vs H Q=>∃l b xs zs,x=.ref l/\vs=[.ref b]/\H l=some (.lst xs)/\bU K H b zs/\xs.length + zs.length<=sizeLine/\Q .non (upd H l (.lst (xs ++ zs)))
theorem zc7:Hr X "list.extend" (zfF X.K):=by
 intro pins s σ H x vs v us Q I rx rv h;obtain⟨l,b,xs,zs,rfl,rfl,hH,hB,hz,q⟩:=h;cases rx;obtain⟨u,rfl,ru⟩:=rv.one;cases ru;obtain⟨z,its,n,r,hl,e⟩:=I.lstM hH;obtain⟨z2,its2,r2,⟨cls2,dd2,data2,sl2⟩,ho2,hc2,n2,hd2⟩:=E3.sql I hB;simp only at hc2 hd2;subst hc2 hd2;have hl2:=r2.length;have hsz:its.toArray.size + its2.toArray.size<=sizeLine:=by rw[xae,xae];omega
 refine xdn F.slot_list_extend ⟨_,e,rfl⟩ F.entry_list_extend (F.args_list_extend_2 _ _) (YB l b its.toArray its2.toArray n n2 dd2 sl2 (extend_door hsz) (by rw[xae];omega) (by omega)) ⟨e,ho2,?_⟩;refine⟨.non,_,I.lset (its':=its ++ its2) hH e (by simp) (r.append r2) ?_,rfl,q⟩;rw[xaj];omega
end
end L2
namespace E3
open PySem PySem.Spec PyProof.Rows L2
section
variable {X:Cx}{Wx:XW}{pos:Pos}
noncomputable def lX (i:Nat) (f:E):S:=fun env M=>match env[i]? with
  |some (.own ds)=>bM (f env M) fun d M1=>match d with
    |.lst es=>if ds.length + es.length<=sizeLine then some (.nx (env.set i (.own (ds ++ es))),M1) else none
    |_=>none
  |_=>none
theorem Wh {i:Nat}{x:Str}{e:Expr}{f:E}{p0 p q:Pos}(hN:X.N[i]? =some x)(hv:yp X.env.scope x)(he:SE X Wx .val e f)(hd:(x==("__debug__":Str))=false:=by x_go)(hcd:(x==("__classdict__":Str))=false:=by x_go)
    (hfew:((backTo q (starEach [e] X.env)).all (fun x=> !x.1) && (backToKw q (keywordEach [] X.env)).all (fun x=>x.1.isSome) && decide ([e].length + ([]:List Keyword).length + (if ([]:List Keyword).isEmpty then 0 else 1)<30))=true:=by rfl)
    (hline:(p.endLine==q.line)=true:=by rfl) (hs:starEach [e] X.env=(false,eval e X.env)::starEach [] X.env:=by rfl) (hw:swapsWith (.Call (.Attribute (.Name x p0) "extend" p) [e] [] q) none pos.line X.env=pure false:=by rfl):
    SS X Wx (.Expr (.Call (.Attribute (.Name x p0) "extend" p) [e] [] q) pos) (lX i f):=by
  refine kO (Fg (E_ xbY PySem.F.slot_list_extend PySem.F.type_list_extend zc7 (Fb hN hv hd hcd) (su he vd hs) rfl hfew hline hs rfl) hw) ?_;rintro D st H ⟨P0,H0,P,Os,env,M,out,M',k,e,q⟩;unfold lX at e;split at e
  · rename_i ds es;obtain⟨a,vs,o1,o2,o3,o4⟩:=k.slot i _ es;refine⟨.ref a,uc o2,.inl ⟨rfl,vs,.inl (.inl o3)⟩,?_⟩;rcases gC e with⟨d,M1,e1,e⟩ |⟨c,n,e1,rfl⟩
    · split at e
      · rename_i zs;split at e
        · rename_i hz;cases e;refine aV k e1 fun P1 v1 H1 l1 h1 i1=>?_;have k1:=k.next l1 h1
          obtain⟨a',vs',o1',o2',o3',o4'⟩:=k1.slot i _ es;have ea:a'=a:=by
            have z:=o2'.symm.trans o2;cases z;rfl
          subst ea;obtain⟨b,ws,rfl,r,is⟩:=i1;refine⟨a',b,vs',ws,rfl,rfl,o3',r.imp (fun z=>z.2) id,by rw[o4'.len,is.len];exact hz,?_⟩;obtain⟨l2,k2⟩:=k1.chg es (uc o1') o3' (aD.append o4' is);exact q _ _ _ _ ((l1.lt k.hk).trans l2) k2
        · cases e
      · cases e
    · exact aV k e1 q
  · cases e
end
end E3
namespace E3
end E3
namespace E3
open PySem PySem.Spec PyProof.Rows L2
mutual
def D.nr:D->Bool
 |.tup xs=>D.nrs xs
 |.lst xs=>D.nrs xs
 |.ref _=>false
 |_=>true
def D.nrs:List D->Bool
 | []=>true
 |a::as=>D.nr a && D.nrs as
end
noncomputable def Pf:Pl:=⟨fun _=>0,0,fun _=>False⟩
section
variable {K:Fgx}{mg:Mgx}{P P':Pl}{H H':Hp}{M:Mm}
mutual
theorem Is.fre:∀{d:D} {v:V},D.nr d=true->Is K P H d v->Is K Pf H d v
 |.non,_,_,h=>h
 |.bl _,_,_,h=>h
 |.int _,_,_,h=>h
 |.str _,_,_,h=>h
 |.tup _,_,n,h=>by obtain⟨a,vs,e,s,q⟩:=h;exact⟨a,vs,e,s,aD.fre n q⟩
 |.lst _,_,n,h=>by obtain⟨a,vs,e,s,q⟩:=h;exact⟨a,vs,e,s.imp (fun z=>⟨fun z=>z,z.2⟩) id,aD.fre n q⟩
 |.ref _,_,n,_=>by cases n
theorem aD.fre:∀{ds:List D} {vs:List V},D.nrs ds=true->aD K P H ds vs->aD K Pf H ds vs
  | [],_,_,h=>h
  |_::_,_,n,h=>by
    obtain⟨v,r,e,p,q⟩:=h;have n:=xcS.mp n;exact⟨v,r,e,Is.fre n.1 p,aD.fre n.2 q⟩
end
mutual
theorem Is.lf_any:∀{d:D} {v:V},D.lf d=true->Is K P H d v->Is K P' H d v
 |.non,_,_,h=>h
 |.bl _,_,_,h=>h
 |.int _,_,_,h=>h
 |.str _,_,_,h=>h
 |.tup _,_,n,h=>by obtain⟨a,vs,e,s,q⟩:=h;exact⟨a,vs,e,s,aD.lf_any n q⟩
 |.lst _,_,n,_=>by cases n
 |.ref _,_,n,_=>by cases n
theorem aD.lf_any:∀{ds:List D} {vs:List V},D.lfs ds=true->aD K P H ds vs->aD K P' H ds vs
  | [],_,_,h=>h
  |_::_,_,n,h=>by
    obtain⟨v,r,e,p,q⟩:=h;have n:=xcS.mp n;exact⟨v,r,e,Is.lf_any n.1 p,aD.lf_any n.2 q⟩
end
end
section
variable {X:Cx}{Wx:XW}{m:Mode}{pos:Pos}
theorem cF (hr:Room k X.A)(h:X.A.units + 60<cLine->SB X Wx ss b):SB X Wx ss b:=h (xea (xd2 (by decide) _) hr.units)
theorem dX {e:Expr}{es:List Expr}{x:Str}{id:String}{r:List V->Hp->VK->Prop}{o:List D->Option D}{fs:EA}{p:Pos}(hc:dH X (.builtin id) r)(hg:Gl X x)(hm:X.mg x=none)(hv:bootBuiltins x=some (.builtin id))(po:mF X.K r o)(ha:SA X Wx .bor (e::es) fs)
  (hn:x≠"__name__":=by x_go) (hdb:(x==("__debug__":Str))=false:=by x_go) (he:starEach (e::es) X.env=(false,eval e X.env)::starEach es X.env:=by rfl) (hpl:(backTo pos (starEach es X.env)).any (·.1)=false:=by rfl):SE X Wx m (.Call (.Name x p) (e::es) [] pos) (sN o fs):=
 VH (fun _ ha=>Ly hc hg hm hv ha hn hdb he hpl) po ha
theorem Ci (hc:dH X (.type T) r)(hg:Gl X x)(hm:X.mg x=none)(hv:bootBuiltins x=some (.type T))(po:mF X.K r o)(ha:SA X Wx .bor (e::es) fs)
  (hn:x≠"__name__":=by x_go) (hdb:(x==("__debug__":Str))=false:=by x_go) (he:starEach (e::es) X.env=(false,eval e X.env)::starEach es X.env:=by rfl) (hpl:(backTo pos (starEach es X.env)).any (·.1)=false:=by rfl):SE X Wx m (.Call (.Name x p) (e::es) [] pos) (sN o fs):=
 VH (fun _ ha=>TY hc hg hm hv ha hn hdb he hpl) po ha
end
section
variable (P:Program)(w:World)(K:Fgx)(mg:Mgx)(base:Heap)(k:Nat)(f:Addr)(N:List Str)(q:Str)(st:Stmt)(b:S)
abbrev RT:Prop:=∀(cdv:Value) (A:Around) (outer:List PySem.Env) (s:Shared) (H:Hp) (E:XK),Room k (A.deeper (envOfC q (aJ st) s.heap.objs.size f cdv))->SB (q_ P w K mg base N q st f cdv A outer s H E) W0 (bJ st) b
abbrev Hx:Prop:=∀(cdv:Value) (A:Around) (outer:List PySem.Env) (s:Shared) (H:Hp) (E:XK) (Wx:XW),Room k (A.deeper (envOfC q (aJ st) s.heap.objs.size f cdv))->XFit (o_ P w K mg base N q st f cdv A outer s H E) Wx->XPass (o_ P w K mg base N q st f cdv A outer s H E) Wx->SB (o_ P w K mg base N q st f cdv A outer s H E) Wx (bJ st) b
end
theorem cG (h1:sc.kind=.function:=by rfl)(h2:sc.isCoroutine=false:=by rfl)(h3:sc.isGenerator=false:=by rfl)(h4:N.Nodup:=by x_go)(h5:N.take P.length=P:=by rfl)
  (h6:∀x∈P,sc.names.lookup x=some .local\/sc.names.lookup x=some .cell:=by x_go) (h7:∀y∈sc.names,y.2≠ .free:=by x_go):FnScope N P sc:=⟨h1,h2,h3,h4,h5,h6,h7⟩
abbrev LV (st:Stmt)(x:Str):Prop:=(aJ st).names.lookup x=some .local
abbrev LC (st:Stmt)(x:Str):Prop:=(aJ st).names.lookup x=some .cell
structure DefAt (K:Fgx)(mg:Mgx)(x:Str)(st:Stmt)(ps:List Str)(f:Addr)(fd:FuncData):Prop where
 mg:mg x=some (.ref f)
 F:FunD K x x st f fd
 b:Binds K fd ps []
theorem DefAt.ok {P:Program}{w:World}{K:Fgx}{mg:Mgx}{base:Heap}{k:Nat}{x:Str}{st:Stmt}{f:Addr}{fd:FuncData}{N ps:List Str}{b:S}(D:DefAt K mg x st ps f fd)(S:FnScope N ps (aJ st))(hr:RT P w K mg base k f N x st b)(hp:ps.length<=N.length:=by decide):aY P w K mg base (k + 1) x ps.length (bF N.length b):=YX D.F S hp D.mg D.b hr
def bx (K:Fgx)(x:Str)(st:Stmt):Prop:=∃(f:Addr) (oc kV dc pm cd ct:Value) (od an:Option Addr) (sl:Array (Option Value)),PySem.W.nsIn K mainGlobals x=some (some (.ref f))/\K.lookup f=some ⟨oc,od,.func (PySem.W.fnOf x x (b_ st) (bJ st) (aJ st) .none kV dc pm an cd ct),sl⟩/\PySem.W.codeIn K cd x=true/\PySem.W.keepIn K (.ref f)=true
theorem bx.mk {K:Fgx}{x:Str}{st:Stmt}{f:Addr}{oc kV dc pm cd ct:Value}{od an:Option Addr}{sl:Array (Option Value)}(a:PySem.W.nsIn K mainGlobals x=some (some (.ref f)))(l:K.lookup f=some ⟨oc,od,.func (PySem.W.fnOf x x (b_ st) (bJ st) (aJ st) .none kV dc pm an cd ct),sl⟩)(c:PySem.W.codeIn K cd x=true)(k:PySem.W.keepIn K (.ref f)=true):bx K x st:=⟨f,oc,kV,dc,pm,cd,ct,od,an,sl,a,l,c,k⟩
theorem bx.at {K:Fgx}{h:Heap}{mg:Mgx}{x:Str}{st:Stmt}{ps:List Str}(F:bx K x st)(X:K.In h)(G:h.Ns mainGlobals mg)
  (hb:∀(kV doc pm:Value) (an:Option Addr) (cdv ct:Value) (us:List Value),us.length=ps.length->bindArgs (PySem.W.fnOf x x (b_ st) (bJ st) (aJ st) .none kV doc pm an cdv ct) ⟨us,[]⟩=pure (ps.zip us)):∃f fd,DefAt K mg x st ps f fd:=by
 obtain⟨f,oc,kV,dc,pm,cd,ct,od,an,sl,a,l,c,k⟩:=F;exact⟨f,_,PySem.W.mg_of X G a,gP l c k,(j4 (st:=st) l c k).binds hb⟩
end E3
namespace L2
open PySem PySem.Spec PyProof.Rows
abbrev TH:=Ends->Addr->Addr->Option Addr->St->Hp->Prop
def HB (X:Cx)(hs:List ExceptHandler)(t:TH):Prop:=∀(pins:Pnx) (s:Shared) (σ:St) (H:Hp) (a C:Addr) (dx:Option Addr) (T:Addr) (D:Ends),
 Caught X pins σ H s a C dx T->d7 X.K C=true->X.A.handled=none->t D C a dx σ H->wpAny (model X.prog X.w) X.A (handleBy (.ref a) X.env hs) (SP X pins D) X.xe s
end L2
namespace E3
open PySem PySem.Spec PyProof.Rows L2
abbrev HE:=Str->Int->Env->Mm->OS
section
variable {X:Cx}{Wx:XW}{m:Mode}{pos:Pos}
noncomputable def tH (X:Cx) (hh:HE):TH:=fun D C a dx st H=>∃P0 H0 P Os env M c n out M',Ok X.K X.mg P0 H0 P Os H M st env/\X.mg c=some (.ref C)/\PB X.K X.mg P H none (some (.ref a)) (.exc c n)/\hh c n env M=some (out,M')/\Post X.K X.mg W0 P0 H0 P H M' D out
def Hs (out:Out):Prop:=(∃e,out=.nx e)\/∃d,out=.rt d
structure SH (X:Cx)(hs:List ExceptHandler)(hh:HE):Prop where
 hb:HB X hs (tH X hh)
 ok:∀c n env M out M',hh c n env M=some (out,M')->(∃C,X.mg c=some (.ref C)/\d7 X.K C=true)/\Hs out
variable {suite:List Stmt}{b0:Stmt}{cn n:Str}{np hp:Pos}{c:Addr}{i:Nat}{h:S}{hs:List ExceptHandler}{r:HE}{cat:Str->Option Bool}
end
end E3
namespace L2
open PySem PySem.Spec PyProof.Rows
section
variable {X:Cx}{e:Expr}{es:List Expr}{te:TE}{t:TA}{pos:Pos}
open Builtin Builtin.Str in
open Builtin Builtin.Str in
open Builtin Builtin.Str in
end
end L2
namespace E3
open PySem PySem.Spec PyProof.Rows L2
section
variable {X:Cx}{Wx:XW}{m:Mode}
theorem Sv {P:Program}{w:World}{K:Fgx}{mg:Mgx}{base:Heap}{N:List Str}{q:Str}{st:Stmt}{f:Addr}{cdv:Value}{A:Around}{outer:List PySem.Env}{s:Shared}{H:Hp}{E:XK}{i:Nat}{x:Str}{pos:Pos}(hN:N[i]? =some x:=by rfl)(hv:LV st x:=by kernel_rfl)(hd:(x==("__debug__":Str))=false:=by x_go)(hcd:(x==("__classdict__":Str))=false:=by x_go):SE (q_ P w K mg base N q st f cdv A outer s H E) Wx m (.Name x pos) (aj i):=xT hN hv hd hcd
theorem Lv {P:Program}{w:World}{K:Fgx}{mg:Mgx}{base:Heap}{N:List Str}{q:Str}{st:Stmt}{f:Addr}{cdv:Value}{A:Around}{outer:List PySem.Env}{s:Shared}{H:Hp}{E:XK}{x:Str}(hv:LV st x:=by kernel_rfl):Loc (q_ P w K mg base N q st f cdv A outer s H E).env.scope x:=.inl hv
theorem Sw {P:Program}{w:World}{K:Fgx}{mg:Mgx}{base:Heap}{N:List Str}{q:Str}{st:Stmt}{f:Addr}{cdv:Value}{A:Around}{outer:List PySem.Env}{s:Shared}{H:Hp}{E:XK}{i:Nat}{x:Str}{pos:Pos}(hN:N[i]? =some x:=by rfl)(hv:LV st x:=by kernel_rfl)(hd:(x==("__debug__":Str))=false:=by x_go)(hcd:(x==("__classdict__":Str))=false:=by x_go):SE (o_ P w K mg base N q st f cdv A outer s H E) Wx m (.Name x pos) (aj i):=xT hN hv hd hcd
theorem Lw {P:Program}{w:World}{K:Fgx}{mg:Mgx}{base:Heap}{N:List Str}{q:Str}{st:Stmt}{f:Addr}{cdv:Value}{A:Around}{outer:List PySem.Env}{s:Shared}{H:Hp}{E:XK}{x:Str}(hv:LV st x:=by kernel_rfl):Loc (o_ P w K mg base N q st f cdv A outer s H E).env.scope x:=.inl hv
theorem Su {i:Nat}{x:Str}{pos:Pos}(hN:X.N[i]? =some x:=by rfl)(hv:X.env.scope.names.lookup x=some .local:=by kernel_rfl)(hd:(x==("__debug__":Str))=false:=by x_go)(hcd:(x==("__classdict__":Str))=false:=by x_go):SE X Wx m (.Name x pos) (aj i):=xT hN hv hd hcd
theorem Lu {a b:Prop}(h:a:=by kernel_rfl):a\/b:=.inl h
theorem Ei {i:Int}{j pos}:SE X Wx m (.Constant (.int i) j pos) (ao (.int i)):=sW zdR
theorem Es {z:Str}{j pos}:SE X Wx m (.Constant (.str z) j pos) (ao (.str z)):=Ck zd2
theorem Eb {b:Bool}{j pos}:SE X Wx m (.Constant (.bool b) j pos) (ao (.bl b)):=N6 zg8
theorem Ek {a b:Expr}{pos:Pos}{f g:E}(ha:SE X Wx .bor a f)(hb:SE X Wx .bor b g)(hs:Hu b:=by exact fun _ _=>rfl):SE X Wx m (.Subscript a b pos) (s2 aN f g):=zfY ZJ zgs ha hb hs
theorem Cm {a b:Expr}{op:CmpOp}{c:Cp}{pos:Pos}{f g:E}(hu:X.A.units + 60<cLine)(ha:SE X Wx .bor a f)(hb:SE X Wx .bor b g)(ho:op=Ji c:=by rfl)(hm:behindInMarks op b=false:=by rfl):SE X Wx m (.Compare a [op] [b] pos) (s2 (aH c) f g):=by subst ho;exact VJ (zW hu c) Bv ha hb hm
theorem Ct {a b:Expr}{op:CmpOp}{c:Cp}{pos:Pos}{f g:E}(hu:X.A.units + 60<cLine)(ha:SE X Wx .bor a f)(hb:SE X Wx .bor b g)(ho:op=Ji c:=by rfl)(hm:behindInMarks op b=false:=by rfl):ST X Wx (.Compare a [op] [b] pos) (s2 (aH c) f g):=by subst ho;exact Oo (zW hu c) Bv ha hb hm
end
section
variable {P:Program}{w:World}{K:Fgx}{h base:Heap}{mg:Mgx}{k:Nat}{x:Str}{st:Stmt}{N ps:List Str}{b:S}
abbrev HB (x:Str)(st:Stmt)(ps:List Str):Prop:=∀(kV doc pm:Value) (an:Option Addr) (cdv ct:Value) (us:List Value),us.length=ps.length->bindArgs (PySem.W.fnOf x x (b_ st) (bJ st) (aJ st) .none kV doc pm an cdv ct) ⟨us,[]⟩=pure (ps.zip us)
theorem G_ {a0:Str}(h:∀{kV doc pm:Value} {an:Option Addr} {cdv ct u0:Value},bindArgs (PySem.W.fnOf x x (b_ st) (bJ st) (aJ st) .none kV doc pm an cdv ct) ⟨[u0],[]⟩=pure [(a0,u0)]):HB x st [a0]:=fun _ _ _ _ _ _ us hl=>match us,hl with | [_],_=>h
theorem Hf {a0 a1:Str}(h:∀{kV doc pm:Value} {an:Option Addr} {cdv ct u0 u1:Value},bindArgs (PySem.W.fnOf x x (b_ st) (bJ st) (aJ st) .none kV doc pm an cdv ct) ⟨[u0,u1],[]⟩=pure [(a0,u0),(a1,u1)]):HB x st [a0,a1]:=fun _ _ _ _ _ _ us hl=>match us,hl with | [_,_],_=>h
theorem Hg {a0 a1 a2:Str}(h:∀{kV doc pm:Value} {an:Option Addr} {cdv ct u0 u1 u2:Value},bindArgs (PySem.W.fnOf x x (b_ st) (bJ st) (aJ st) .none kV doc pm an cdv ct) ⟨[u0,u1,u2],[]⟩=pure [(a0,u0),(a1,u1),(a2,u2)]):HB x st [a0,a1,a2]:=fun _ _ _ _ _ _ us hl=>match us,hl with | [_,_,_],_=>h
theorem Hi {a0 a1 a2 a3:Str}(h:∀{kV doc pm:Value} {an:Option Addr} {cdv ct u0 u1 u2 u3:Value},bindArgs (PySem.W.fnOf x x (b_ st) (bJ st) (aJ st) .none kV doc pm an cdv ct) ⟨[u0,u1,u2,u3],[]⟩=pure [(a0,u0),(a1,u1),(a2,u2),(a3,u3)]):HB x st [a0,a1,a2,a3]:=fun _ _ _ _ _ _ us hl=>match us,hl with | [_,_,_,_],_=>h
theorem Hj {a0 a1 a2 a3 a4:Str}(h:∀{kV doc pm:Value} {an:Option Addr} {cdv ct u0 u1 u2 u3 u4:Value},bindArgs (PySem.W.fnOf x x (b_ st) (bJ st) (aJ st) .none kV doc pm an cdv ct) ⟨[u0,u1,u2,u3,u4],[]⟩=pure [(a0,u0),(a1,u1),(a2,u2),(a3,u3),(a4,u4)]):HB x st [a0,a1,a2,a3,a4]:=fun _ _ _ _ _ _ us hl=>match us,hl with | [_,_,_,_,_],_=>h
theorem bx.ok (F:bx K x st)(X:K.In h)(G:h.Ns mainGlobals mg)(S:FnScope N ps (aJ st))(hr:∀f,RT P w K mg base k f N x st b)
  (hb:HB x st ps:=by first |exact G_ rfl |exact Hf rfl |exact Hg rfl |exact Hi rfl |exact Hj rfl) (hp:ps.length<=N.length:=by decide):aY P w K mg base (k + 1) x ps.length (bF N.length b):=by
 obtain⟨f,d,D⟩:=F.at X G hb;exact D.ok S (hr f) hp
theorem bx.okX (F:bx K x st)(X:K.In h)(G:h.Ns mainGlobals mg)(S:FnScope N ps (aJ st))(hr:∀f,Hx P w K mg base k f N x st b)
  (hb:HB x st ps:=by first |exact G_ rfl |exact Hf rfl |exact Hg rfl |exact Hi rfl |exact Hj rfl) (hp:ps.length<=N.length:=by decide):lq P w K mg base (k + 1) x ps.length (bF N.length b):=by
 obtain⟨f,d,D⟩:=F.at X G hb;exact⟨_,_,_,D.mg,D.F.kp,Y5 D.F S hp (hr f),D.b⟩
theorem aY.up {j n:Nat}{g:G}(a:aY P w K mg base j x n g)(h:j<=k:=by decide):aY P w K mg base k x n g:=a.mono h
theorem lq.up {j n:Nat}{g:G}(a:lq P w K mg base j x n g)(h:j<=k:=by decide):lq P w K mg base k x n g:=a.mono h
theorem mz.up {j n:Nat}{C:Addr}{g:G}(a:mz P w K mg base j C n g)(h:j<=k:=by decide):mz P w K mg base k C n g:=a.mono h
theorem cV.up {j n:Nat}{C:Addr}{m:Str}{g:G}(a:cV P w K mg base j C m n g)(h:j<=k:=by decide):cV P w K mg base k C m n g:=a.mono h
theorem fZ.up {j n:Nat}{C:Addr}{m:Str}{g:G}(a:fZ P w K mg base j C m n g)(h:j<=k:=by decide):fZ P w K mg base k C m n g:=a.mono h
theorem fY.up {j n:Nat}{C:Addr}{g:G}(a:fY P w K mg base j C n g)(h:j<=k:=by decide):fY P w K mg base k C n g:=a.mono h
theorem lg.up {j n:Nat}{C:Addr}{m:Str}{g:G}(a:lg P w K mg base j C m n g)(h:j<=k:=by decide):lg P w K mg base k C m n g:=a.mono h
theorem pF {K:Fgx}{t:Addr}{d m s j0 j1 j2}{a b:Str}{i:Int}(l:K.lookup t=some ⟨.type "tuple",d,.seq #[.str a j0,.str b j1,.int i j2] m,s⟩):∀P H,Is K P H (.tup [.str a,.str b,.int i]) (.ref t):=Rx (vs:=[.str a,.str b,.int i]) l rfl rfl (by show 3<=sizeLine;decide) (.cons ⟨_,rfl⟩ (.cons ⟨_,rfl⟩ (.cons ⟨_,rfl⟩ .nil))) (fun _ _=>⟨_,_,rfl,rfl,⟨_,_,rfl,rfl,⟨_,_,rfl,rfl,rfl⟩⟩⟩)
end
end E3
namespace L2
open PySem PySem.Spec PyProof.Rows
noncomputable def zfs (N:List Str) (psc:Scope) (xs:List Str) (cs:List (Str×Nat)) (scope:Scope):Bool:=
 scope.kind==.function && xs.all (fun x=>scope.names.lookup x==some .local) && decide ((xs ++ cs.map (·.1)).Nodup) &&
 scope.names.all (fun y=>y.2 !=.cell && (y.2 !=.local || scope.names.lookup y.1==some .local) && (y.2 !=.free || (psc.names.lookup y.1==some .cell || psc.names.lookup y.1==some .free))) &&
 cs.all (fun p=>N[p.2]? ==some p.1 && (psc.names.lookup p.1==some .cell || psc.names.lookup p.1==some .free) && ((dD psc scope.names).lookup p.1==some .cell || (dD psc scope.names).lookup p.1==some .free))
structure CompOkT (N:List Str)(psc:Scope)(xs:List Str)(cs:List (Str×Nat))(scope:Scope):Prop where
 kind:scope.kind=.function
 own:∀x∈xs,scope.names.lookup x=some .local
 nd:(xs ++ cs.map (·.1)).Nodup
 cell:∀y∈scope.names,y.2≠ .cell
 names:∀y∈scope.names,y.2=.local->scope.names.lookup y.1=some .local
 has:∀y∈scope.names,y.2=.free->psc.names.lookup y.1=some .cell\/psc.names.lookup y.1=some .free
 cap:∀p∈cs,N[p.2]? =some p.1/\(psc.names.lookup p.1=some .cell\/psc.names.lookup p.1=some .free)/\((dD psc scope.names).lookup p.1=some .cell\/(dD psc scope.names).lookup p.1=some .free)
end L2
namespace E3
open PySem PySem.Spec PyProof.Rows L2
end E3
namespace L2
open PySem PySem.Spec PyProof.Rows
end L2
namespace E3
open PySem PySem.Spec PyProof.Rows L2
end E3
namespace L2
open PySem PySem.Spec PyProof.Rows
end L2
namespace E3
open PySem PySem.Spec PyProof.Rows L2
section
variable {X:Cx}{Wx:XW}{m:Mode}{pos:Pos}
noncomputable def p7 (j:Nat) (e:E) (env:Env):Nat->Nat->List D->Mm->Option (List D×Mm)
  |0,_,_,_=>none
  |n + 1,t,acc,M=>match M[j]? with
    | some (.lst ds) => (match ds[t]? with
      |none=>some (acc,M)
      | some d => (match e (.val d::env) M with
        |some (.v y,M2)=>if acc.length + 1<sizeLine then p7 j e env n (t + 1) (acc ++ [y]) M2 else none
        |_=>none))
    |_=>none
noncomputable def vh (n:Nat) (cs:List (Str×Nat)) (f e:E):E:=fun env M=>bnd (f env M) fun d M1=>match d with
  | .ref j => (match p7 j e (bN cs env) n 0 [] M1 with
    |some (ys,M2)=>some (.v (.lst ys),M2)
    |none=>none)
  |_=>none
theorem Yh {n:Nat}{cs:List (Str×Nat)}{f e:E}:∀env M r M',vh n cs f e env M=some (.v r,M')->∃ds,r=.lst ds:=fun env M r M' h=>by
 unfold vh at h;rcases cA h with⟨d,M1,e1,h⟩ |⟨c,n,e1,h⟩
 ·split at h
  ·split at h
   ·cases h;exact⟨_,rfl⟩
   ·cases h
  ·cases h
 ·cases h
theorem Yi {K:Fgx}{mg:Mgx}{n:Nat}{cs:List (Str×Nat)}{f e:E}{P0 P:Pl}{H0 H:Hp}{Os:List (Option Addr)}{M M':Mm}{st:L2.St}{env:Env}{r:Res}{R:Addr->Hp->Prop}(nd:(cs.map (·.2)).Nodup)
    (k:Ok K mg P0 H0 P Os H M st env) (ee:vh n cs f e env M=some (r,M')) (w:NR K mg Wx P0 H0 P H M' R r):Cz (JD K (tE K mg Wx .val f)) mq (tE K mg W0 .val e) cs st H R:=by
  unfold vh at ee;rcases cA ee with⟨d,M1,e1,ee⟩ |⟨c,n,e1,rfl⟩
  · split at ee
    · rename_i j;split at ee
      · rename_i ys M2 ec;cases ee;obtain⟨ds',e',w⟩:=w;cases e';refine⟨P0,H0,P,Os,env,M,_,_,k,e1,fun P1 v1 H1 l1 h1 i1=>?_⟩;obtain⟨jl,rfl⟩:j<P1.n/\v1=.ref (P1.io j):=i1;have hl:∃vs,bU K H1 (P1.io j) vs:=by
          cases n with
          |zero=>cases ec
          |succ n=>
            simp only[p7]at ec;split at ec
            · rename_i ds em;obtain⟨vs,ev,is⟩:=h1.cell j _ em;exact⟨vs,.inl (.inl ev)⟩
            · cases ec
        refine ⟨P1.io j, rfl, hl, fun D hD => ?_⟩;obtain ⟨l2, h2, nc⟩ := wM (vs := []) h1 hD;refine ⟨fun i m vs H2=>∃P2 M3 acc,LtE P1 H1 P2 H2/\Hk K mg P2 H2 M3/\P2.bd D/\(∀k,k<P2.n->P2.io k≠D)/\H2 D=some (.lst vs)/\aD K P2 H2 acc vs/\acc.length<sizeLine/\p7 j e (bN cs env) m i acc M3=some (ys,M'),
          ⟨n,P1.bar D,M1,[],l2,h2,.inr rfl,nc,bW,rfl,by x_go,ec⟩,?_⟩
        rintro i m vs H2 ⟨P2,M3,acc,l3,h3,bD,nD,eD,is,hz,ec⟩;refine⟨eD,?_⟩
        cases m with
        |zero=>cases ec
        |succ m=>
          simp only[p7]at ec;split at ec
          · rename_i ds em;obtain⟨us,ev,iu⟩:=h3.cell j _ em;rw[l3.io j jl]at ev;have sq:bU K H2 (P1.io j) us:=.inl (.inl ev);split at ec
            · rename_i et;cases ec;exact .inl ⟨⟨us,sq,by rw[iu.len];exact xbw.mp et⟩,w P2 D vs H2 (l1.trans l3) h3 (l1.sure D hD) bD nD eD is⟩
            · rename_i d et;obtain⟨v,evt,iv⟩:=iu.get et;split at ec
              · rename_i y' M5 ey;split at ec
                · rename_i hz';refine .inr ⟨⟨us,v,sq,evt⟩,by rw[is.len];exact hz,fun vs' H'=>∃P2 M3 acc,LtE P1 H1 P2 H'/\Hk K mg P2 H' M3/\P2.bd D/\(∀k,k<P2.n->P2.io k≠D)/\H' D=some (.lst vs')/\aD K P2 H' acc vs'/\acc.length<sizeLine/\p7 j e (bN cs env) m (i + 1) acc M3=some (ys,M'),
                    fun vs' H' z=>⟨m,xbe _,z⟩,fun x' H' y=>?_⟩
                  obtain⟨rfl,hy⟩:=y;have ex':v=x':=xav (evt.symm.trans (hy us sq));subst ex';have kk:=((k.next l1 h1).next l3 h3).cap (cs:=cs) nd iv
                  unfold mq;dsimp only;rw[xab rfl];refine aV kk ey fun P5 v5 H5 l5 h5 i5=>?_;have eD5:H5 D=some (.lst vs):=l5.keep D _ eD (.inr nD);have nD5:∀k,k<P5.n->P5.io k≠D:=l5.nc eD nD;obtain⟨g1,g2,g3⟩:=JC (vs':=vs ++ [v5]) (l3.trans l5) h5 hD (l5.bm D bD) nD5 eD5;exact⟨eD5,P5,M5,acc ++ [y'],g2,g3,l5.bm D bD,nD5,bW,aD.append (aD.lt ((l5.lt h3).trans g1) is) (aD.one (Is.lt g1 i5)),by rw[xaj];exact hz',ec⟩
                · cases ec
              · cases ec
          · cases ec
      · cases ee
    · cases ee
  · exact⟨P0,H0,P,Os,env,M,_,_,k,e1,w⟩
theorem zbS (n:Nat)(x:Str)(cs:List (Str×Nat)){px:Pos}{iter elt:Expr}{scope:Scope}{f e:E}(hc:X.calm=true)(nd:(cs.map (·.2)).Nodup)(hi:SE X Wx .val iter f)
  (he:∀(cl:List (Str×Addr)) (C:Addr) (s₀:Shared) (H₀:Hp) (ex:List Addr) (pn:Pnx),SE (d8 X (x::cs.map (·.1)) scope cl C s₀ H₀ ex pn) W0 .val elt e)
  (ok:yx X.N X.env.scope x cs scope=true:=by kernel_rfl) (hs:∀x,foldedSetIterable iter X.env x=pure x:=by intro _;rfl):
  SN X Wx (.ListComp elt [⟨.Name x px,iter,[],0⟩] scope pos) (vh n cs f e):=by
 refine cB (Lz (tq:=mq) (te:=tE X.K X.mg W0 .val e) x cs hc (Fd hi) (fun _ _ _ _ _ _=>T7) he ok hs) ?_;rintro st H Q ⟨P0,H0,P,Os,env,M,r,M',k,ee,w⟩;refine Yi nd k ee ?_
 cases r with
 |v d=>exact w
 |x c n=>exact w
end
end E3
namespace E3
open PySem L2
end E3
namespace L2
open PySem PySem.Spec PyProof.Rows
end L2
namespace E3
open PySem PySem.Spec PyProof.Rows L2
end E3
namespace E3
open PySem PySem.Spec PyProof.Rows L2 PySem.W
section
variable {n:Nat}{lt:Nat->Nat->Option Bool}{le:Nat->Nat->Prop}
def Pm (n:Nat)(p:Array Nat):Prop:=p.Perm (List.range n).toArray
theorem Pm.size {p:Array Nat}(h:Pm n p):p.size=n:=by
 have:=Array.Perm.size_eq h
 simpa using this
theorem Pm.low {p : Array Nat} (h : Pm n p) : Low n p := ⟨h.size,fun x hx=>by
 have:=(xee h).mem_iff.mp hx
 simpa using this⟩
theorem Pm.rev {p:Array Nat}{i j:Nat}(h:Pm n p):Pm n (kas_rev p i j):=(mirror_perm _ _ _ _).trans h
theorem Pm.bub {p:Array Nat}{i j:Nat}(h:Pm n p):Pm n (bubble p i j):=(bubble_perm _ _ _).trans h
theorem Am {p q:Array Nat}{i j:Nat}(h:p[i]? =q[j]?):p.getD i 0=q.getD j 0:=by
 rw[xaY,xaY,h]
theorem vg {p:Array Nat}{i j:Nat}(hj:j<=p.size)(k:Nat):(kas_rev p i j).getD k 0=if i<=k/\k<j then p.getD (i + j - 1 - k) 0 else p.getD k 0:=by
 have:=getElem?_mirror_all (xs:=p) (i:=i) hj k
 split
 ·rename_i h;rw[xab h]at this;exact Am this
 ·rename_i h;rw[xad h]at this;exact Am this
theorem Qk {p:Array Nat}{s d:Nat}(hs:s<p.size)(hd:d<=s)(k:Nat):(bubble p s d).getD k 0=if k=s - d then p.getD s 0 else if s - d<k/\k<=s then p.getD (k - 1) 0 else p.getD k 0:=by
 have:=getElem?_bubble hs d hd k
 by_cases h:k=s - d
 ·rw[xab h]at this ⊢;exact Am this
 ·rw[xad h]at this ⊢
  by_cases h':s - d<k/\k<=s
  ·rw[xab h']at this ⊢;exact Am this
  ·rw[xad h']at this ⊢;exact Am this
def Up (le:Nat->Nat->Prop)(p:Array Nat)(m:Nat):Prop:=∀i j,i<=j->j<m->le (p.getD i 0) (p.getD j 0)
def Dn (le:Nat->Nat->Prop)(p:Array Nat)(m:Nat):Prop:=∀i j,i<=j->j<m->le (p.getD j 0) (p.getD i 0)
def Al (le:Nat->Nat->Prop)(p:Array Nat)(m q:Nat):Prop:=∀i j,m - (q + 1)<=i->i<m->m - (q + 1)<=j->j<m->le (p.getD i 0) (p.getD j 0)
variable (hn:0<n)(rf:∀i,le i i)(tr:∀i j k,le i j->le j k->le i k)(H:∀i j,i<n->j<n->∃b,lt i j=some b/\(b=true->le i j)/\(b=false->le j i))
include rf tr
theorem Dn.al {p:Array Nat}{m q:Nat}(hm:m<=p.size)(hq:q + 1<=m)(h:Dn le p m)(ha:Al le p m q):Dn le (kas_rev p (m - (q + 1)) m) m:=by
 intro i j hij hj;rw[vg hm,vg hm]
 split
 ·split
  ·exact ha _ _ (by omega) (by omega) (by omega) (by omega)
  ·exact h _ _ (by omega) (by omega)
 ·split
  ·exact(by omega:False).elim
  ·exact h _ _ hij hj
theorem Dn.succ {p:Array Nat}{m:Nat}(hm:0<m)(h:Dn le p m)(hl:le (p.getD m 0) (p.getD (m - 1) 0)):Dn le p (m + 1):=by
 intro i j hij hj
 by_cases hjm:j<m
 ·exact h i j hij hjm
 ·obtain rfl:j=m:=by omega
  by_cases hi:i=j
  ·subst hi;exact rf _
  ·exact tr _ _ _ hl (h i (j - 1) (by omega) (by omega))
theorem Up.succ {p:Array Nat}{m:Nat}(hm:0<m)(h:Up le p m)(hl:le (p.getD (m - 1) 0) (p.getD m 0)):Up le p (m + 1):=by
 intro i j hij hj
 by_cases hjm:j<m
 ·exact h i j hij hjm
 ·obtain rfl:j=m:=by omega
  by_cases hi:i=j
  ·subst hi;exact rf _
  ·exact tr _ _ _ (h i (j - 1) (by omega) (by omega)) hl
include hn H
theorem Od {p:Array Nat}(h:Pm n p):∀f m,1<=m->Up le p m->∃r,bG lt (kas_asc p f m)=some r/\m<=r/\r<=m + f/\Up le p r/\(r=m + f\/le (p.getD r 0) (p.getD (r - 1) 0))
  |0,m,_,hu=>⟨m,rfl,xaf _,xaf _,hu,.inl rfl⟩
  |f + 1,m,h1,hu=>by
    obtain⟨b,eb,b1,b0⟩:=H _ _ (h.low.get hn m) (h.low.get hn (m - 1));simp only[kas_asc,bG,eb];cases b
    · obtain⟨r,er,l1,l2,u,z⟩:=Od h f (m + 1) (by omega) (Up.succ rf tr (by omega) hu (b0 rfl));exact⟨r,er,by omega,by omega,u,z.imp (fun e=>by omega) id⟩
    · exact⟨m,rfl,xaf _,by omega,hu,.inr (b1 rfl)⟩
theorem GP:∀f {p:Array Nat} m q,Pm n p->1<=m->m + f<=n->q + 1<=m->Dn le p m->Al le p m q->
    ∃r,bG lt (kas_desc f p m q)=some r/\Pm n r.1/\m<=r.2.1/\r.2.1<=m + f/\r.2.2 + 1<=r.2.1/\Dn le r.1 r.2.1/\Al le r.1 r.2.1 r.2.2
  |0,p,m,q,h,h1,hf,hq,hd,ha=>⟨_,rfl,h,xaf _,xaf _,hq,hd,ha⟩
  |f + 1,p,m,q,h,h1,hf,hq,hd,ha=>by
    obtain⟨b,eb,b1,b0⟩:=H _ _ (h.low.get hn m) (h.low.get hn (m - 1));obtain⟨c,ec,c1,c0⟩:=H _ _ (h.low.get hn (m - 1)) (h.low.get hn m);have hs:=h.size;have one:∀p':Array Nat,Al le p' (m + 1) 0:=fun p' i j a1 a2 a3 a4=>by
      obtain rfl:i=j:=by omega
      exact rf _
    simp only[kas_desc,bG,eb];cases b
    · simp only[xa5,xbP,bG,ec];cases c
      · have e1 := b0 rfl;have e2 := c0 rfl;obtain ⟨r, er, g1, g2, g3, g4⟩ := GP f (m + 1) (q + 1) h (by omega) (by omega) (by omega) (Dn.succ rf tr (by omega) hd e2) (fun i j a1 a2 a3 a4=>by
          have k1:∀x,m - (q + 1)<=x->x<m->le (p.getD x 0) (p.getD m 0):=fun x y1 y2=>tr _ _ _ (ha x (m - 1) y1 y2 (by omega) (by omega)) e1;have k2:∀x,m - (q + 1)<=x->x<m->le (p.getD m 0) (p.getD x 0):=fun x y1 y2=>tr _ _ _ e2 (ha (m - 1) x (by omega) (by omega) y1 y2)
          by_cases hi:i=m
          · subst hi
            by_cases hj:j=i
            · subst hj;exact rf _
            · exact k2 j (by omega) (by omega)
          · by_cases hj:j=m
            · subst hj;exact k1 i (by omega) (by omega)
            · exact ha i j (by omega) (by omega) (by omega) (by omega))
        exact⟨r,er,g1,by omega,by omega,g4⟩
      · exact⟨_,rfl,h,xaf _,xdB m (f + 1),hq,hd,ha⟩
    · simp only[xbo];have e1:=b1 rfl
      split
      · have hd':=Dn.al rf tr (by omega) hq hd ha;have hl:le ((kas_rev p (m - (q + 1)) m).getD m 0) ((kas_rev p (m - (q + 1)) m).getD (m - 1) 0):=by
          rw[vg (by omega),vg (by omega),xad (by omega),xab (by omega)];exact tr _ _ _ e1 (ha (m - 1) _ (by omega) (by omega) (by omega) (by omega))
        obtain⟨r,er,g1,g2,g3,g4⟩:=GP f (m + 1) 0 h.rev (by omega) (by omega) (by omega) (Dn.succ rf tr (by omega) hd' hl) (one _);exact⟨r,er,g1,by omega,by omega,g4⟩
      · obtain⟨r,er,g1,g2,g3,g4⟩:=GP f (m + 1) 0 h (by omega) (by omega) (by omega) (Dn.succ rf tr (by omega) hd e1) (one _);exact⟨r,er,g1,by omega,by omega,g4⟩
theorem Wd {p:Array Nat}{a:Nat}(h:Pm n p)(h1:1<=a)(ha:a<=n)(hd:Dn le p a):∃r,bG lt (kas_tail3 a n p)=some r/\Pm n r.2/\1<=r.1/\r.1<=n/\Up le r.2 r.1:=by
 unfold kas_tail3;have hs := h.size;obtain ⟨r, er, l1, l2, u, -⟩ := Od hn rf tr H (p := kas_rev p 0 a) h.rev (n - a) a h1 (fun i j hij hj=>by
  rw[vg (by omega),vg (by omega),xab (by omega),xab (by omega)];exact hd _ _ (by omega) (by omega))
 rw[run_bind,er];exact⟨_,rfl,h.rev,by omega,by omega,u⟩
theorem Wc {p:Array Nat}{a:Nat}(h:Pm n p)(ha:a + 1<=n)(hd:Dn le p (a + 1)):∃r,bG lt (kas_descPart a n p)=some r/\Pm n r.2/\1<=r.1/\r.1<=n/\Up le r.2 r.1:=by
 unfold kas_descPart;have hs := h.size;obtain ⟨r, er, g1, g2, g3, g4, g5, g6⟩ := GP hn rf tr H (n - (a + 1)) (a + 1) 0 h (by omega) (by omega) (by omega) hd (fun i j a1 a2 a3 a4=>by
  obtain rfl:i=j:=by omega
  exact rf _)
 rw[run_bind,er,Option.bind_some];have gs:=g1.size
 split
 ·exact Wd hn rf tr H g1.rev (by omega) (by omega) (Dn.al rf tr (by omega) g4 g5 g6)
 ·exact Wd hn rf tr H g1 (by omega) (by omega) g5
theorem zb8 {p:Array Nat}(h:Pm n p):∃r,bG lt (kas_count n p)=some r/\Pm n r.2/\1<=r.1/\r.1<=n/\Up le r.2 r.1:=by
  unfold kas_count;have hs := h.size;obtain ⟨r, er, l1, l2, u, z⟩ := Od hn rf tr H h (n - 1) 1 (xaf _) (fun i j hij hj=>by
    obtain rfl:i=j:=by omega
    exact rf _)
  rw[run_bind,er,Option.bind_some]
  split
  · exact⟨_,rfl,h,l1,by omega,u⟩
  · rename_i hr;have hrn:r≠n:=fun e=>hr (by simp[e]);have hl:=z.resolve_left (by omega)
    split
    · obtain⟨c,ec,c1,c0⟩:=H _ _ (h.low.get hn 0) (h.low.get hn (r - 1));simp only[bG,ec];cases c
      · have e0:=c0 rfl;have all:∀i j,i<r->j<r->le (p.getD i 0) (p.getD j 0):=fun i j hi hj=>tr _ _ _ (u i (r - 1) (by omega) (by omega)) (tr _ _ _ e0 (u 0 j (by omega) hj));refine Wc hn rf tr H h.rev (by omega) ?_;intro i j hij hj;rw[vg (by omega),vg (by omega)]
        split
        · rw[xab (by omega)];exact all _ _ (by omega) (by omega)
        · obtain rfl:j=r:=by omega
          split
          · exact tr _ _ _ hl (all _ _ (by omega) (by omega))
          · obtain rfl:i=j:=by omega
            exact rf _
      · exact⟨_,rfl,h,l1,by omega,u⟩
    · obtain rfl:r=1:=by omega
      refine Wc hn rf tr H h (by omega) ?_;intro i j hij hj
      by_cases hi:i=j
      · subst hi;exact rf _
      · obtain rfl:i=0:=by omega
        obtain rfl:j=1:=by omega
        exact hl
theorem Oe {p:Array Nat}{k:Nat}(h:Pm n p)(hk:k<n)(u:Up le p k):∀f l r,l<=r->r<=k->r - l<=f->(∀i,i<l->le (p.getD i 0) (p.getD k 0))->(∀i,r<=i->i<k->le (p.getD k 0) (p.getD i 0))->
    ∃x,bG lt (kas_place p k f l r)=some x/\x<=k/\(∀i,i<x->le (p.getD i 0) (p.getD k 0))/\(∀i,x<=i->i<k->le (p.getD k 0) (p.getD i 0))
  |0,l,r,h1,h2,h3,lo,hi=>by
    obtain rfl:l=r:=by omega
    exact⟨l,rfl,h2,lo,hi⟩
  |f + 1,l,r,h1,h2,h3,lo,hi=>by
    unfold kas_place
    split
    · obtain rfl:l=r:=by omega
      exact⟨l,rfl,h2,lo,hi⟩
    · obtain⟨c,ec,c1,c0⟩:=H _ _ (h.low.get hn k) (h.low.get hn ((l + r) / 2));simp only[bG,ec];cases c
      · simp only[xa5,xbP];exact Oe h hk u f _ _ (by omega) h2 (by omega) (fun i hi'=>tr _ _ _ (u i ((l + r) / 2) (by omega) (by omega)) (c0 rfl)) hi
      · simp only[xbo];exact Oe h hk u f _ _ (by omega) (by omega) (by omega) lo (fun i h1' h2'=>tr _ _ _ (c1 rfl) (u _ _ h1' h2'))
theorem Wb:∀f {p:Array Nat} k,Pm n p->k + f=n->Up le p k->∃r,bG lt (kas_bin f p k)=some r/\Pm n r/\Up le r n
  |0,p,k,h,e,u=>⟨p,rfl,h,by rw[<-e];exact u⟩
  |f + 1,p,k,h,e,u=>by
    unfold kas_bin;have hs:=h.size;obtain⟨x,ex,xk,lo,hi⟩:=Oe hn rf tr H h (by omega) u k 0 k (by omega) (by omega) (by omega) (fun i hi=>by omega) (fun i h1 h2=>by omega);rw[run_bind,ex,Option.bind_some];refine Wb f (k + 1) h.bub (by omega) ?_;intro i j hij hj;rw[Qk (by omega) (by omega),Qk (by omega) (by omega),show k - (k - x)=x by omega]
    repeat' split
    all_goals first
      |(exfalso;omega)
      |exact rf _
      |exact lo _ (by omega)
      |exact hi _ (by omega) (by omega)
      |exact u _ _ (by omega) (by omega)
theorem zcw:∃p,bG lt (kas_sort n)=some p/\Pm n p/\Up le p n:=by
 unfold kas_sort;obtain⟨r,er,g1,g2,g3,g4⟩:=zb8 hn rf tr H (p:=(List.range n).toArray) (Array.Perm.refl _);rw[run_bind,er,Option.bind_some]
 split
 ·rw[show max r.1 1=r.1 by omega];exact Wb hn rf tr H _ _ g1 (by omega) g4
 ·exact⟨_,rfl,g1,by rw[show n=r.1 by omega];exact g4⟩
end
theorem zbH {ds:List D}{le:D->D->Prop}(h64:ds.length<64)(ht:ds.all tupI=true)(rf:∀d,le d d)(tr:∀a b c,le a b->le b c->le a c)
    (H:∀xs ys,.tup xs∈ds->.tup ys∈ds->∃b,bZ xs ys=some b/\(b=true->le (.tup xs) (.tup ys))/\(b=false->le (.tup ys) (.tup xs))):∃es,eZ ds=some es/\es.Perm ds/\es.Pairwise le:=by
  unfold eZ
  split
  · rename_i h2;refine⟨ds,rfl,List.Perm.refl _,?_⟩
    match ds,h2 with
    | [],_=>exact .nil
    | [d],_=>exact List.pairwise_singleton _ _
  · rename_i h2;rw [xab ⟨h64, ht⟩];obtain ⟨p, ep, hp, hu⟩ := zcw (n := ds.length) (lt := yO ds) (le := fun i j => le (ds.getD i .non) (ds.getD j .non)) (by omega) (fun i => rf _) (fun i j k => tr _ _ _) (fun i j hi hj=>by
      have m1:=xbT hi;have m2:=xbT hj;have t1:=xaM.mp ht _ m1;have t2:=xaM.mp ht _ m2;have g1:ds.getD i .non=ds[i]:=by rw[xa0,xag hi,xcd]
      have g2:ds.getD j .non=ds[j]:=by rw[xa0,xag hj,xcd]
      unfold yO;rw[g1,g2];generalize ds[i]=a at *;generalize ds[j]=b at *;cases a<;>try cases t1
      cases b<;>try cases t2
      exact H _ _ m1 m2)
    have hl:=xee hp;refine⟨_,by rw[ep];rfl,?_,?_⟩
    · have:=List.Perm.map (fun i=>ds.getD i .non) hl;refine this.trans ?_;rw[show(List.range ds.length).toArray.toList=List.range ds.length from rfl];have e:(List.range ds.length).map (fun i=>ds.getD i .non)=ds:=by
        apply List.ext_getElem?;intro k;rw[xan]
        by_cases hk:k<ds.length
        · rw[xdY hk,xag hk,xbb,xa0,xag hk,xcd]
        · rw[xbj (by simpa using hk),xbj (by omega)];rfl
      rw[e]
    · rw[xcz,List.pairwise_iff_getElem];intro i j hi hj hij;have sz:=hp.size;have:=hu i j (by omega) (by rw[xaR]at hj;omega);rw[xaY,xaY]at this;rw[xaR]at hi hj;rw[xdq hi,xdq hj]at this;exact this
end E3
namespace L2
open PySem PySem.Spec PyProof.Rows
section
variable {X:Cx}
theorem yw:X.calm=true->dH X (.builtin "min") (fun xs H Q=>∃(p:Addr) (is:List Int),xs=[.ref p]/\0<is.length/\bU X.K H p (is.map V.int)/\∀m,m∈is->(∀a∈is,m<=a)->Q (.int m) H):=by
 intro hc pins s σ H xs us Q I r h;obtain⟨p,is,rfl,hne,hq,q⟩:=h;obtain⟨u,rfl,rx⟩:=vals1 r;cases rx;obtain⟨its,rv,pl,hz⟩:=I.list hq;have hi:=Zt rv;have hn:=hi.numsOf;have hlen:=rv.length;rw[xal]at hlen;obtain⟨zs,hzs⟩:=hi.allInts.items;have hl:=pl.isList;have e1:numsOf its.toArray.toList=is:=hn;rw[hzs]at hl e1;have hs:0<zs.size:=by
  have:its.toArray.size=zs.size:=by rw[hzs];simp[intItems]
  rw[xae]at this;omega
 rw[nums_intItems]at e1;refine min_intList (I.ok.hd hc) hl hs fun v h' tk hv hk=>?_;obtain⟨t,rfl⟩:=intItems_at hv;obtain⟨h1,h2⟩:=argBest_lt (numAt zs) (zs.size - 1);refine⟨.int _,H,I.kept hk,⟨t,rfl⟩,q _ ?_ fun a ha=>?_⟩
 ·rw[<-e1,numAt_eq];exact getD_mem (by rw[xal,xaR];omega)
 ·rw[<-e1]at ha;obtain⟨j,hj,rfl⟩:=mem_getD ha;rw[xal,xaR]at hj;rw[<-numAt_eq];exact h2 j (by omega)
end
end L2
namespace E3
open PySem PySem.Spec PyProof.Rows L2
noncomputable def lB:List Int->Int
 | []=>0
 | [a]=>a
 |a::b::r=>min a (lB (b::r))
theorem Qi {m:Int}:∀(l:List Int),l≠ []->(∀a∈l,m<=a)->m<=lB l
  | [],z,_=>absurd rfl z
  | [c],_,g=>g c (by simp)
  |c::d::l,_,g=>by
    have h1:=g c (by simp);have h2:=Qi (d::l) (by simp) fun a ha=>g a (xak _ ha);unfold lB;omega
theorem Qj:∀{is:List Int} {m:Int},m∈is->(∀a∈is,m<=a)->lB is=m
  | [],_,h,_=>by cases h
  | [a],m,h,_=>by rw[xbl]at h;exact h.symm
  |a::b::r,m,h,g=>by
    have ha:=g a (xat ..);have hb:=Qi (b::r) (by simp) fun a ha=>g a (xak _ ha);unfold lB;rcases xaJ.mp h with rfl |h
    · omega
    · have:=Qj h fun a ha=>g a (xak _ ha);omega
noncomputable def pW:List D->Option D
  | [.lst ds]=>match Aq ds with
    |some is=>if 0<is.length then some (.int (lB is)) else none
    |none=>none
  |_=>none
theorem yS {K:Fgx}:mF K (fun xs H Q=>∃(p:Addr) (is:List Int),xs=[.ref p]/\0<is.length/\bU K H p (is.map V.int)/\∀m,m∈is->(∀a∈is,m<=a)->Q (.int m) H) pW:=fun P H ds z vs Q h i _ q=>by
 unfold pW at h;split at h
 ·split at h
  ·rename_i is ei;split at h
   ·rename_i hl;cases h;obtain⟨v,ws,rfl,p,rfl⟩:=i;obtain⟨a,us,rfl,r,s⟩:=p;have eu:=Rt ei s;subst eu;exact⟨a,is,rfl,hl,r,fun m h1 h2=>by rw[<-Qj h1 h2];exact q _ H (Same.refl H) rfl⟩
   ·cases h
  ·cases h
 ·cases h
section
variable {X:Cx}{Wx:XW}{m:Mode}{pos:Pos}{K:Fgx}
theorem zdp {a b:Expr}{f g:E}(hl:SN X Wx a f)(hr:SE X Wx .val b g):SN X Wx (.BinOp a .Mult b pos) (Nz f g):=by
  refine cB (T4 zeS hl hr) ?_;rintro st H Q ⟨P0,H0,P,Os,env,M,r,M',k,e,q⟩;unfold Nz at e;rcases cA e with⟨d,M1,e1,e⟩ |⟨c,n,e1,rfl⟩
  · split at e
    · rename_i ds;refine⟨P0,H0,P,Os,env,M,_,_,k,e1,ds,rfl,fun P1 a vs H1 l1 h1 ha ba nc ea is=>?_⟩;rcases cA e with⟨d2,M2,e2,e⟩ |⟨c,n,e2,rfl⟩
      · split at e
        · rename_i i;split at e
          · rename_i hi;cases e;obtain⟨ds',e',q⟩:=q;cases e';refine⟨P0,H0,P1,Os,env,M1,_,_,k.next l1 h1,e2,fun P2 v2 H2 l2 h2 i2=>?_⟩
            have ev:v2=.int i:=i2;subst ev;have e3:=l2.keep a _ ea (.inr nc);have is2:=aD.lt (l2.lt h1) is;have ln:vs.length=ds.length:=is.len;refine⟨a,i,vs,rfl,rfl,e3,by omega,by omega,?_,fun p hp=>?_⟩
            · rw[xaG,ln];have:ds.length * i.toNat<=100 * 100000:=Nat.mul_le_mul hi.2 (by omega);omega
            · obtain⟨l3,h3,nc3⟩:=wM (vs:=(List.replicate i.toNat vs).flatten) h2 hp;exact q (P2.bar p) p _ _ (l1.trans (l2.trans l3)) h3 ((l1.trans l2).sure p hp) (.inr rfl) nc3 bW (aD.lt (l3.lt h2) (is2.rep _))
          · cases e
        · cases e
      · exact⟨P0,H0,P1,Os,env,M1,_,_,k.next l1 h1,e2,q⟩
    · cases e
  · exact⟨P0,H0,P,Os,env,M,_,_,k,e1,q⟩
end
section
variable {X:Cx}{Wx:XW}
def XP (X:Cx)(D:Ends)(f:Flow)(s':Shared):Prop:=match f with
 |.ret u=>∃v H',s'.os=X.s₀.os/\AllBare s'.gens/\Un X.fs [] X.H₀ H' X.s₀.heap s'.heap/\cN X.prog X.w H' s'.heap/\RelV v u/\D.rt v H'
 |.brk=>∃σ' H',D.bk σ' H'
 |.cont=>∃σ' H',D.ct σ' H'
 |.next=>False
def PX (X:Cx)(b:List Stmt)(t:TS):Prop:=∀(s:Shared) (σ:L2.St) (H:Hp) (D:Ends),Inv X [] σ H s->t D σ H->wpAny (model X.prog X.w) X.A (execs b X.env) (XP X D) X.xe s
theorem zc1 {st:Stmt}{rest:List Stmt}{t u:TS}(hx:X.ex=[])(h1:PS X st t)(h2:PX X rest u):PX X (st::rest) (CN t u):=by
  intro s σ H D I h;refine xcC (aP (h1 [] s σ H {D with nx:=u D} I h) fun f s1 q=>?_)
  cases f with
  |next=>
    obtain⟨σ',H',I',q⟩:=q;exact h2 s1 σ' H' D I' q
  |ret v=>
    obtain⟨v,σ',H',J,r,q⟩:=q;exact⟨v,H',J.os,J.bare,hx ▸ J.base,J.hok,r,q⟩
  |brk=>
    obtain⟨σ',H',_,q⟩:=q;exact⟨σ',H',q⟩
  |cont=>
    obtain⟨σ',H',_,q⟩:=q;exact⟨σ',H',q⟩
def tM (X:Cx)(Wx:XW)(b:List Stmt)(f:S):Prop:=PX X b (tS X.K X.mg Wx f)
theorem N5 {s:Stmt}{ss:List Stmt}{f g:S}(hx:X.ex=[])(h1:SS X Wx s f)(h2:tM X Wx ss g):tM X Wx (s::ss) (aq f g):=by
  intro s0 σ0 Hh D I hh;refine zc1 hx h1 h2 s0 σ0 Hh D I ?_;obtain⟨P0,H0,P,Os,env,M,out,M',k,e,q⟩:=hh;unfold aq at e;split at e
  · rename_i e1 M1 ef;refine⟨P0,H0,P,Os,env,M,_,_,k,ef,fun P1 Os1 H1 st1 l1 k1=>?_⟩;exact⟨P0,H0,P1,Os1,e1,M1,_,_,k1,e,q.lt l1⟩
  · rename_i o ho
    cases ef:f env M with
    |none=>rw[ef]at e;cases e
    |some om=>
      obtain⟨o1,M1⟩:=om;rw[ef]at e;cases e;refine⟨P0,H0,P,Os,env,M,_,_,k,ef,?_⟩
      cases out with
      |nx env'=>exact(ho _ _ ef).elim
      |bk env'=>exact q
      |ct env'=>exact q
      |rt d=>exact q
      |ex c n=>exact q
end
section
variable {X:Cx}{σ:L2.St}{H H1:Hp}{s:Shared}{Pt:Addr}{ps:Array Value}
theorem Ru {h2:Heap}{tk:Nat}(I:Inv X [] σ H s)(hP:H Pt=some (.tbl ps))(kp:∀b o,b≠Pt->s.heap.get? b=some o->h2.get? b=some o)(hH:∀b,b<s.heap.objs.size->b≠Pt->H1 b=H b)
    (hPt:∃more,H1 Pt=some (.tbl (ps ++ more))/\h2.get? Pt=some {cls:=.none,data:=.fields (ps ++ more)}) (hnew:∀a o,s.heap.objs.size<=a->H1 a=some o->∃ob,o=.frz ob (.own a)/\h2.get? a=some ob):Inv X [] σ H1 {s with heap:=h2,toks:=tk}:=by
  have lt:∀{b:Addr} {u:HO},H b=some u->b<s.heap.objs.size:=fun e=>(I.hok _ _ e).lt;have nP:∀{b:Addr},H b=none->b≠Pt:=fun e z=>by rw[z,hP]at e;cases e
  have nT:∀{b:Addr} {u:HO},H b=some u->(∀p,u≠ .tbl p)->b≠Pt:=fun e n z=>by rw[z,hP]at e;cases e;exact n _ rfl
  obtain⟨more,e1,e2⟩:=hPt;have hok:cN X.prog X.w H1 h2:=fun a o e=>by
    by_cases hs:s.heap.objs.size<=a
    · obtain⟨ob,rfl,g⟩:=hnew a o hs e;exact⟨g,ob,g⟩
    · have hs:=Nat.lt_of_not_le hs
      by_cases ha:a=Pt
      · subst ha;rw[e1]at e;cases e;exact e2
      · rw[hH a hs ha]at e;refine(I.hok a o e).stay (fun b u hb g=>kp b u ?_ g) (fun b g=>?_) fun b xs g=>?_
        · rcases hb with rfl |hb
          · exact ha
          · exact nT hb fun _ z=>nomatch z
        · rw[hH b (lt g) (nT g fun _ z=>nomatch z)];exact g
        · rw[hH b (lt g) (nT g fun _ z=>nomatch z)];exact g
  refine I.step (g':=s.gens) (d':=s.drawn) (t':=tk) (ch:=[]) (fun _ z=>nomatch z) (fun b o _ _ _ g n=>kp b o (nP n) g) (fun b o _ _ _ g n=>⟨o.slots,kp b o (nP n) g⟩) (fun b o _ g n=>by rw[hH b (xaq g) (nP n)];exact n) (fun b o _ g=>?_)
    (fun b xs g=>by rw[hH b (lt g) (nT g fun _ z=>nomatch z)];exact g) (fun b o u g=>by rw[hH b (lt g) (nT g fun _ z=>nomatch z)];exact g) (fun b p g=>?_) (fun m hm=>?_) hok I.bare
  · by_cases hb:b=Pt
    · subst hb;exact⟨_,e2⟩
    · exact⟨o,kp b o hb g⟩
  · by_cases hb:b=Pt
    · subst hb;rw[hP]at g;cases g;exact⟨more,e1⟩
    · exact⟨#[],by rw[hH b (lt g) hb,g];simp⟩
  · obtain⟨o,es,ep,g,r⟩:=hm;exact⟨o,es,ep,kp _ _ (nP I.free) g,r⟩
noncomputable def tL (H:Hp) (h:Heap) (cs:List Addr):Hp:=fun b=>if b∈cs then(h.get? b).map fun o=>HO.frz o (.own b) else H b
theorem zaO {cs:List Addr}(I:Inv X [] σ H s)(hx:X.ex=[])(hc:∀c∈cs,H c=none/\X.s₀.heap.objs.size<=c/\∃o,s.heap.get? c=some o):
  Un X.fs [] X.H₀ (tL H s.heap cs) X.s₀.heap s.heap/\cN X.prog X.w (tL H s.heap cs) s.heap/\Same H (tL H s.heap cs)/\∀c∈cs,∀o,s.heap.get? c=some o->tL H s.heap cs c=some (.frz o (.own c)):=by
 have out:∀{b:Addr} {u:HO},H b=some u->tL H s.heap cs b=H b:=fun {b u} e=>xad fun z=>by rw[(hc b z).1]at e;cases e
 have old:∀{b:Addr} {o:Obj},X.s₀.heap.get? b=some o->b∉cs:=fun {b o} e z=>absurd (xai (xaq e) (hc b z).2.1) (xa9 _);have B:=I.base;rw[hx]at B;refine⟨⟨B.keep,B.slot,fun b o e n h=>?_,B.there,fun b xs e=>?_,fun b o u e=>?_,fun b p e=>?_⟩,fun a o e=>?_,fun b o e=>?_,fun c z o e=>?_⟩
 ·unfold tL;rw[xad (old e)];exact B.free b o e n h
 ·rw[out (B.tups b xs e)];exact B.tups b xs e
 ·rw[out (B.frzs b o u e)];exact B.frzs b o u e
 ·obtain⟨m,g⟩:=B.tbls b p e;exact⟨m,by rw[out g];exact g⟩
 ·unfold tL at e;split at e
  ·rename_i ha;obtain⟨ob,g⟩:=(hc a ha).2.2;rw[g]at e;cases e;exact⟨g,ob,g⟩
  ·exact(I.hok a o e).stay (fun _ _ _ g=>g) (fun b g=>by rw[out g];exact g) fun b xs g=>by rw[out g];exact g
 ·rw[out e];exact e
 ·unfold tL;rw[xab z,e];rfl
end
def mC (mg:Mgx)(base:Heap):Prop:=∃bm o,mg "__builtins__"=some (.ref bm)/\bm≠builtinsNs/\bm≠mainGlobals/\base.get? bm=some o/\o.cls=.type "module"/\o.dict=some builtinsNs/\o.data=.plain
noncomputable def lD (env:Env):List (Str×Nat)->Option (List (Str×D))
  | []=>some []
  |p::r=>match env[p.2]? with
    |some (.val d)=>(lD env r).map ((p.1,d):: ·)
    |_=>none
open Classical in
noncomputable def eY (kt:Nat) (nm:Str) (i:FnT) (caps:List (Str×Nat)):S:=fun env M=>match M[kt]? with
 |some (.tbl nm' i')=>if nm'=nm/\i'=i then(lD env caps).map fun cs=>(.rt (.ref M.length),M ++ [.fn i cs]) else none
 |_=>none
structure MkOk (X:Cx)(nm:Str)(i:FnT)(caps:List (Str×Nat))(cl:List (Str×Addr))(c Pt:Addr)(j:Nat):Prop where
 ex:X.ex=[]
 fn:∀x,X.fn x=true
 st:∃params body scope,i.st=.FunctionDef i.x params body [] none [] scope none i.x i.pos/\((params.defaults=[]/\i.dd=[])\/∃n a p,params.defaults=[.Constant (.int n) a p]/\i.dd=[n]/\cl≠ [])/\params.kw_defaults=[]/\params.kwonlyargs=[]/\annTrees params none X.env=[]
 q:qualnameIn X.env i.x i.x=i.q
 code:X.env.code=.ref c
 tab:PySem.W.tabIn X.K nm=some (c,Pt)
 hd:PySem.W.codeHdIn X.K c Pt=true
 bm:mC X.mg X.base
 clo:closureFor (aJ i.st) X.env=pure cl
 nam:cl.map (·.1)=caps.map (·.1)
 pC:caps.map (·.1)=i.fr
 cel:∀p∈cl,X.env.cells.lookup p.1=some p.2
 cap:∀p∈caps,X.N[p.2]? =some p.1/\X.env.scope.names.lookup p.1=some .cell/\p.2≠j
 nd:X.N.Nodup
 jx:X.N[j]? =some i.x
 jl:X.env.scope.names.lookup i.x=some .local
 db:(i.x==("__debug__":Str))=false
 cd:(i.x==("__classdict__":Str))=false
theorem Qn {X:Cx}{H Hh:Hp}{s:Shared}{K:Fgx}{mg:Mgx}{P0 P:Pl}{H0:Hp}{Os:List (Option Addr)}{M:Mm}{st:L2.St}{env:Env}{j:Nat}{v0:V}{H2:Hp}
    (I:Inv X [] (st.set j (some v0)) Hh s) (k:Ok K mg P0 H0 P Os H M st env):
    ∀{caps:List (Str×Nat)} {cl:List (Str×Addr)} {cs:List (Str×D)},lD env caps=some cs->cl.map (·.1)=caps.map (·.1)->(∀p∈cl,X.env.cells.lookup p.1=some p.2)->(∀p∈caps,X.N[p.2]? =some p.1/\X.env.scope.names.lookup p.1=some .cell/\p.2≠j)->
    (∀p∈cl,∀o,s.heap.get? p.2=some o->H2 p.2=some (.frz o (.own p.2)))->cs.map (·.1)=caps.map (·.1)/\∃vs,aD K P H (cs.map (·.2)) vs/\mD H2 cl vs
  | [],[],cs,e,_,_,_,_=>by
    cases e;exact⟨rfl,[],rfl,rfl⟩
  | [],_::_,_,_,n,_,_,_=>by cases n
  |_::_,[],_,_,n,_,_,_=>by cases n
  |p::caps,q::cl,cs,e,n,hc,hp,h2=>by
    rw[xaI,xaI,xcq]at n;unfold lD at e;split at e
    · rename_i d ed;rw[xac]at e;obtain⟨cs',e',rfl⟩:=e;obtain⟨n2,vs,i2,c2⟩:=Qn I k e' n.2 (fun z hz=>hc z (xak _ hz)) (fun z hz=>hp z (xak _ hz)) fun z hz=>h2 z (xak _ hz);obtain⟨hN,hk,hj⟩:=hp p (by simp);obtain⟨v,ev,iv⟩:=k.slot p.2 _ ed;have ev':(st.set j (some v0))[p.2]? =some (some v):=by
        rw[xcc (xbu hj)]
        cases q:st[p.2]? with
        |none=>rw[q]at ev;cases ev
        |some w=>rw[q]at ev;exact congrArg some ev
      obtain⟨m,_,hl⟩:=I.loc;obtain⟨u,ru,lk⟩:=hl p.2 p.1 v hN ev' (.inr (.inl hk));refine⟨by simp[n2],v::vs,⟨v,vs,rfl,iv,i2⟩,?_⟩;rcases lk with⟨k0,_⟩ |⟨_,c,hcell,o,ho,hd⟩
      · have k0':X.env.scope.names.lookup p.1=some .local:=k0;rw[hk]at k0';cases k0'
      · have eq:q.2=c:=by
          have:=hc q (by simp);rw[n.1,hcell]at this;cases this;rfl
        exact⟨v,vs,u,o,rfl,ru,h2 q (by simp) o (by rw[eq];exact ho),hd,c2⟩
    · cases e
theorem set_same {α:Type}{l:List α}{k:Nat}{x:α}(h:l[k]? =some x):l.set k x=l:=by
 obtain⟨hl,rfl⟩:=xam.mp h;exact List.set_getElem_self hl
theorem Tf {X:Cx}{Wx:XW}{nm:Str}{i:FnT}{caps:List (Str×Nat)}{cl:List (Str×Addr)}{c Pt:Addr}{j:Nat}{p1 p2:Pos}{s:Shared}{σ:L2.St}{H:Hp}{D:Ends}{P0 P:Pl}{H0:Hp}{Os:List (Option Addr)}{env:Env}{M:Mm}{cs:List (Str×E3.D)}(m:MkOk X nm i caps cl c Pt j)
  (I:Inv X [] σ H s) (k:Ok X.K X.mg P0 H0 P Os H M σ env) (ec:lD env caps=some cs) (q:Post X.K X.mg Wx P0 H0 P H (M ++ [.fn i cs]) D (.rt (.ref M.length)))
  (h2:Heap) (tk:Nat) (f c':Addr) (dV doc ctv:Value) (Hb:Hp) (I1:Inv X [] σ (upd Hb f (.frz (pB X.mg i cl dV doc ctv c') (.own f))) {s with heap:=h2,toks:=tk}) (lb:LtE P H P Hb) (hkb:Hk X.K X.mg P Hb M) (hf:Hb f=none) (hcod:f9 Hb c' i.q) (hdf:fj Hb i.dd dV):
  wpAny (model X.prog X.w) X.A (storeName X.env i.x (.ref f)) (fun _ s''=>wpAny (model X.prog X.w) X.A (execs [.Return (some (.Name i.x p1)) p2] X.env) (XP X D) X.xe s'') X.xe {s with heap:=h2,toks:=tk}:=by
 refine GZ I1 m.nd m.jx (.inl m.jl) (show RelV (.ref f) (.ref f) from rfl) (fun s2 I2=>?_) (.inr m.jl);have jσ:j<σ.length:=by rw[I.len];exact(xam.mp m.jx).1
 refine xcC (wpAny_Return_some (aP (Fb m.jx (.inl m.jl) m.db m.cd [] s2 _ _ (fun v H'=>v=.ref f/\H'=upd Hb f (.frz (pB X.mg i cl dV doc ctv c') (.own f))) I2 ⟨.ref f,xb5 jσ,rfl,rfl⟩) fun u s3 h3=>?_));obtain⟨v,H3,I3,rv,ev,eH⟩:=h3;subst ev eH;obtain rfl:u=Value.ref f:=rv;have hcl:∀a∈cl.map (·.2),upd Hb f (.frz (pB X.mg i cl dV doc ctv c') (.own f)) a=none/\X.s₀.heap.objs.size<=a/\∃o,s3.heap.get? a=some o:=by
  intro a ha;obtain⟨p,hp,rfl⟩:=xaD.mp ha;have e1:=m.cel p hp;obtain⟨v,o,ho,_⟩:=I3.cell p.1 p.2 e1;exact⟨(I3.freeC p.1 p.2 e1).resolve_right fun z=>(by have z1:=z.1;rw[m.fn]at z1;cases z1),I3.ok.cab p.1 p.2 (m.fn _) e1,o,ho⟩
 obtain⟨un,hok,same,atc⟩:=zaO I3 m.ex hcl;obtain⟨n2,vs,iv,cv⟩:=Qn I3 k ec m.nam m.cel m.cap fun p hp o ho=>atc p.2 (xaD.mpr ⟨p,hp,rfl⟩) o ho;have sb:Same Hb (tL (upd Hb f (.frz (pB X.mg i cl dV doc ctv c') (.own f))) s3.heap (cl.map (·.2))):=Same.trans (nM hf) same;obtain⟨P2,pn,pio,l2,hk2⟩:=Qq (c:=.fn i cs) hkb sb hf (by rw[same f _ bW];exact fun z=>nomatch z) fun P' _ _ l=>⟨cl,dV,doc,ctv,c',vs,same f _ bW,⟨hcod.up (fun b o u e=>sb b _ e),hdf.up (fun b o u e=>sb b _ e)⟩,⟨m.nam.trans n2.symm,n2.trans m.pC⟩,aD.lt (l.lt hkb) (aD.lt (lb.lt k.hk) iv),cv,fun x y a e1 e2=>I.ok.inj x y a (m.cel (x,a) (xaX e1)) (m.cel (y,a) (xaX e2))⟩
 exact⟨.ref f,_,I3.os,I3.bare,un,hok,rfl,q P2 (.ref f) _ (k.base.trans (lb.trans l2)) hk2 ⟨by rw[pn,k.hk.n];exact xbe _,by rw[<-k.hk.n,pio]⟩⟩
section
variable {M:Model}{A:Around}{E:Value->Shared->Prop}{s:Shared}{name qual:Str}{params:Arguments}{body:List Stmt}{scope:Scope}{env:PySem.Env}{c Pt:Addr}{ps:Array Value}{pos:Pos}{ln:Nat}{mg:Mgx}{cl:List (Str×Addr)}{dV:Value}{Q:Value->Shared->Prop}
theorem zb4 (hcl:closureFor scope env=pure cl)(hne:cl≠ [])(hge:env.globals=mainGlobals)(hg:s.heap.Ns mainGlobals mg)(hcode:env.code=.ref c)(C:PySem.W.CodeHd s.heap c Pt)(hP:s.heap.get? Pt=some (PySem.W.tabObj ps))(ht:TriplesOk ps.toList)(hnf:codeAmong pos ps.toList=none)(hgP:mainGlobals≠Pt)(hb:s.heap.BuiltinsAt mg Pt)
  (h:∀c' ctv doc h' tk,Heap.ExtBut Pt s.heap h'->s.heap.objs.size<=c'->c'<h'.objs.size->h'.CodeRec (.ref c') qual->h'.get? Pt=some (PySem.W.tabObj (ps ++ #[rawInt pos.line,rawInt pos.col,.ref c']))->
   Q (.ref h'.objs.size) {s with heap:=h'.push {cls:=.type "function",data:=.func (PySem.W.fnX name qual params body scope cl dV .none doc ((mg "__name__").getD .none) none (.ref c') ctv)},toks:=tk}):wpAny M A (makeTail name qual params (.stmts body) scope env dV .none none pos ln) Q E s:=by
 have ie:cl.isEmpty=false:=by cases cl with |nil=>exact absurd rfl hne |cons a r=>rfl
 obtain⟨bm,ob,b1,b2,_,b4,b5,b6,b7,b8⟩:=hb;have kp:∀(o:Obj) (b:Addr) (u:Obj),s.heap.get? b=some u->(s.heap.push o).get? b=some u:=fun o b u e=>xaa o e;unfold makeTail;rw[hcl,hge];refine tG (xah ?_);simp only[ie,xa5,xbP];refine tG (xc6 ?_);refine tG (wpAny_functionCodeX hcode ((C.keeps fun b o e=>xaa _ e).code (xaa _ hP) ht) ((C.keeps fun b o e=>xaa _ e).tab (xaa _ hP)) hnf fun c' h' tk hx hge' hlt _ hrec htb _=>?_);have hx':Heap.ExtBut Pt s.heap h':=fun b o n e=>hx b o n (kp _ b o e);have sz:s.heap.objs.size<=c':=xaB (by rw[xb7];exact xbE _) hge';have hg':=(hg.push _).extBut hx hgP;refine tG (wpAny_builtinsFor hg' b1 b2 (hx' _ _ b4 b5) b6 b7 b8 (tG (wpAny_nsGet hg' ?_)))
 cases hdoc:docOf body with
 |none=>exact tG (xah (xaN (h c' _ .none h' tk hx' sz hlt hrec htb.2) (by size_fits)))
 |some t=>exact tG (wpAny_mkText (xaN (h c' _ _ h' _ hx' sz hlt hrec htb.2) (by size_fits)))
theorem zbM {cv:Value}(hcl:closureFor scope env=pure cl)(hne:cl≠ [])(hge:env.globals=mainGlobals)(hg:s.heap.Ns mainGlobals mg)(hcode:env.code=.ref c)(C:PySem.W.CodeHd s.heap c Pt)(hP:s.heap.get? Pt=some (PySem.W.tabObj ps))(ht:TriplesOk ps.toList)(hf:codeAmong pos ps.toList=some cv)(hb:s.heap.BuiltinsAt mg Pt)
  (h:∀(ctv doc:Value) (h':Heap) (tk:Nat),(∀b o,s.heap.get? b=some o->h'.get? b=some o)->s.heap.objs.size<=h'.objs.size->
   Q (.ref h'.objs.size) {s with heap:=h'.push {cls:=.type "function",data:=.func (PySem.W.fnX name qual params body scope cl dV .none doc ((mg "__name__").getD .none) none cv ctv)},toks:=tk}):wpAny M A (makeTail name qual params (.stmts body) scope env dV .none none pos ln) Q E s:=by
 have ie:cl.isEmpty=false:=by cases cl with |nil=>exact absurd rfl hne |cons a r=>rfl
 obtain⟨bm,ob,b1,b2,_,b4,b5,b6,b7,b8⟩:=hb;have kp:∀(o:Obj) (b:Addr) (u:Obj),s.heap.get? b=some u->(s.heap.push o).get? b=some u:=fun o b u e=>xaa o e;unfold makeTail;rw[hcl,hge];refine tG (xah ?_);simp only[ie,xa5,xbP];refine tG (xc6 ?_);refine tG (wpAny_functionCode_hit hcode ((C.keeps fun b o e=>xaa _ e).code (xaa _ hP) ht) hf ?_);refine tG (wpAny_builtinsFor (hg.push _) b1 b2 (xaa _ b5) b6 b7 b8 (tG (wpAny_nsGet (hg.push _) ?_)));have sz:∀o:Obj,s.heap.objs.size<=(s.heap.push o).objs.size:=fun o=>by rw[xb7];exact xbE _
 cases hdoc:docOf body with
 |none=>exact tG (xah (xaN (h _ .none _ s.toks (fun b o e=>xaa _ e) (sz _)) (by size_fits)))
 |some t=>exact tG (wpAny_mkText (xaN (h _ _ _ _ (fun b o e=>xaa _ e) (sz _)) (by size_fits)))
theorem def_dflt {Q:Flow->Shared->Prop}{n:Int}{a:Nat}{p:Pos}(hd:params.defaults=[.Constant (.int n) a p])(hk:params.kw_defaults=[])(hko:params.kwonlyargs=[])(ha:annTrees params none env=[])
  (h:wpAny M A (makeTail name (qualnameIn env name name) params (.stmts body) scope env (.ref s.heap.objs.size) .none none pos pos.line) (fun v s'=>wpAny M A (storeName env name v) (fun _ s''=>Q .next s'') E s') E {s with heap:=s.heap.push {cls:=.type "tuple",data:=.seq #[.int n s.toks]},toks:=s.toks + 1}):
  wpAny M A (exec (.FunctionDef name params body [] none [] scope none name pos) env) Q E s:=by
 rw[exec_def];refine tG (xch (tG (xbm ?_)));rw[defaultsOf_eq,hd,hk,ha];refine tG (wpAny_evalAll_cons (wpAny_Constant_int (wpAny_evalAll_nil ?_)));refine tG (xbm (xah ?_));refine xbm (tG (xah ?_));rw[makeFunction_eq,hko];refine tG (xc6 ?_);exact xaO h (fun v s' h'=>tG (xch (tG (wpAny_bindName (xaO h' (fun _ _ h''=>xah h'') fun _ _ x=>x))))) fun _ _ x=>x
end
theorem Uz {X:Cx}{Wx:XW}{kt:Nat}{nm:Str}{i:FnT}{caps:List (Str×Nat)}{cl:List (Str×Addr)}{c Pt:Addr}{j:Nat}{p1 p2:Pos}(m:MkOk X nm i caps cl c Pt j):tM X Wx [i.st,.Return (some (.Name i.x p1)) p2] (eY kt nm i caps):=by
  intro s σ H D I hh;obtain⟨P0,H0,P,Os,env,M,out,M',k,e,q⟩:=hh;unfold eY at e;split at e
  · rename_i nm' i' hM;split at e
    · rename_i hni;obtain⟨rfl,rfl⟩:=hni;rw[xac]at e;obtain⟨cs,ec,e⟩:=e;cases e;obtain⟨c0,ps,ht,hPt0,hps⟩:pO X.K H (P.io kt) nm' i':=k.hk.cell kt _ hM;obtain⟨rfl,rfl⟩:c=c0/\Pt=P.io kt:=by
        have z:=m.tab.symm.trans ht;cases z;exact⟨rfl,rfl⟩
      have KX:=I.kIn;have C:=xd3 KX m.hd;have hP:s.heap.get? (P.io kt)=some (PySem.W.tabObj ps):=I.hok _ _ hPt0;have hg:s.heap.Ns mainGlobals X.mg:=I.ok.mod.glob.keeps I.bk;have tr:∀{b:Addr} {o:Obj},X.base.get? b=some o->b≠P.io kt:=fun g z=>by
        have:=(I.bs _ _ g).2;rw[z,hPt0]at this;cases this
      have hgP:mainGlobals≠P.io kt:=by
        obtain⟨o,_,_,g,_⟩:=I.ok.mod.glob;exact tr g
      obtain⟨bm,ob,b1,b2,b3,b4,b5,b6,b7⟩:=m.bm;have hbm:s.heap.BuiltinsAt X.mg (P.io kt):=⟨bm,ob,b1,b2,b3,tr b4,I.bk _ _ b4,b5,b6,b7⟩;obtain⟨params,body,scope,hst,dd,d2,d3,d4⟩:=m.st;have efo:∀dV doc ctv c',({cls:=.type "function",data:=.func (PySem.W.fnX i'.x i'.q params body scope cl dV .none doc ((X.mg "__name__").getD .none) none (.ref c') ctv)}:Obj)=pB X.mg i' cl dV doc ctv c':=fun dV doc ctv c'=>by
        unfold pB;rw[hst];rfl
      have hcl':closureFor scope X.env=pure cl:=by
        have:=m.clo;rw[hst]at this;exact this
      -- a state behind the making:what is new is tracked
      have lay:∀(hn:Hp) (h':Heap) (tk:Nat) (c':Addr) (dV doc ctv:Value) (ps':Array Value) (oc:Obj) (fs:Array Value) (t:Tok) (hd:fj hn i'.dd dV),(∀b,b<s.heap.objs.size->hn b=H b)->(∀b u,s.heap.objs.size<=b->hn b=some u->b<h'.objs.size/\b≠c'/\∃ob,u=.frz ob (.own b)/\h'.get? b=some ob)->
          (∀b o,b≠P.io kt->s.heap.get? b=some o->h'.get? b=some o)->s.heap.objs.size<=c'->c'<h'.objs.size->h'.get? c'=some oc->oc.data=.fields fs->fs[1]? =some (.str i'.q t)->h'.get? (P.io kt)=some (PySem.W.tabObj #[rawInt i'.pos.line,rawInt i'.pos.col,.ref c'])->ps= #[]->
          wpAny (model X.prog X.w) X.A (storeName X.env i'.x (.ref h'.objs.size)) (fun _ s''=>wpAny (model X.prog X.w) X.A (execs [.Return (some (.Name i'.x p1)) p2] X.env) (XP X D) X.xe s'') X.xe {s with heap:=h'.push (pB X.mg i' cl dV doc ctv c'),toks:=tk}:=by
        intro hn h' tk c' dV doc ctv ps' oc fs t hd hold hnew kp hge hlt hoc hdat hv htb hps0;subst hps0;have ltH:∀{b:Addr} {u:HO},H b=some u->b<s.heap.objs.size:=fun e=>(I.hok _ _ e).lt;have sN:Same H hn:=fun b u e=>by rw[hold b (ltH e)];exact e
        have hPn:hn (P.io kt)=some (.tbl #[]):=sN _ _ hPt0;have hc0:hn c'=none:=by
          cases z:hn c' with
          |none=>rfl
          |some u=>exact absurd rfl (hnew c' u hge z).2.1
        have neP:c'≠P.io kt:=fun z=>by rw[z,hPn]at hc0;cases hc0
        have fge:s.heap.objs.size<=h'.objs.size:=xaB hge (xb6 hlt);have hf0:hn h'.objs.size=none:=by
          cases z:hn h'.objs.size with
          |none=>rfl
          |some u=>exact absurd (hnew _ u fge z).1 (xa9 _)
        have nfP:h'.objs.size≠P.io kt:=fun z=>by rw[z,hPn]at hf0;cases hf0
        have nfc:h'.objs.size≠c':=xdr hlt;have sa:Same H (upd hn c' (.frz oc (.own c'))):=Same.trans sN (nM hc0);have hka:=k.hk.same sa;have frz1:∀b o u,hn b=some (.frz o u)->upd (upd hn c' (.frz oc (.own c'))) (P.io kt) (.tbl #[rawInt i'.pos.line,rawInt i'.pos.col,.ref c']) b=some (.frz o u):=fun b o u e=>by
          rw[aU (fun z=>by rw[z,hPn]at e;cases e),aU (fun z=>by rw[z,hc0]at e;cases e)];exact e
        have cod:f9 (upd (upd hn c' (.frz oc (.own c'))) (P.io kt) (.tbl #[rawInt i'.pos.line,rawInt i'.pos.col,.ref c'])) c' i'.q:=⟨oc,fs,t,by rw[aU neP];exact bW,hdat,hv⟩;obtain⟨_,lE,hkb⟩:=hka.set (c':=.tbl nm' i') (o':=.tbl #[rawInt i'.pos.line,rawInt i'.pos.col,.ref c']) hM ⟨c,_,m.tab,bW,.inr ⟨c',rfl,cod⟩⟩;rw[set_same hM]at hkb;refine Tf m I k ec q _ tk h'.objs.size c' dV doc ctv _ (Ru (tk:=tk) I hPt0 (fun b o hb g=>xaa _ (kp b o hb g)) (fun b hb hbp=>?_) ⟨#[rawInt i'.pos.line,rawInt i'.pos.col,.ref c'],?_,?_⟩ fun a o ha ea=>?_) ((LtE.same sa).trans lE) hkb (by rw[aU nfP,aU nfc];exact hf0) cod (hd.up frz1)
        · rw[aU (xay (xai hb fge)),aU hbp,aU (xay (xai hb hge))];exact hold b hb
        · rw[aU nfP.symm,bW]
          simp
        · refine xaa _ ?_;rw[htb]
          simp[PySem.W.tabObj]
        · by_cases h1:a=h'.objs.size
          · subst h1;rw[bW]at ea;cases ea;exact⟨_,rfl,xas _ rfl⟩
          · rw[aU h1]at ea
            by_cases h2:a=P.io kt
            · exact absurd (xai (ltH hPt0) (h2 ▸ ha)) (xa9 _)
            · rw[aU h2]at ea
              by_cases h3:a=c'
              · subst h3;rw[bW]at ea;cases ea;exact⟨_,rfl,xaa _ hoc⟩
              · rw[aU h3]at ea;obtain⟨_,_,ob,e1,e2⟩:=hnew a o ha ea;exact⟨ob,e1,xaa _ e2⟩
      have lay2:∀(hn:Hp) (h':Heap) (tk:Nat) (c':Addr) (dV doc ctv:Value) (hd:fj hn i'.dd dV),f9 H c' i'.q->(∀b,b<s.heap.objs.size->hn b=H b)->(∀b u,s.heap.objs.size<=b->hn b=some u->b<h'.objs.size/\∃ob,u=.frz ob (.own b)/\h'.get? b=some ob)->
          (∀b o,s.heap.get? b=some o->h'.get? b=some o)->s.heap.objs.size<=h'.objs.size->
          wpAny (model X.prog X.w) X.A (storeName X.env i'.x (.ref h'.objs.size)) (fun _ s''=>wpAny (model X.prog X.w) X.A (execs [.Return (some (.Name i'.x p1)) p2] X.env) (XP X D) X.xe s'') X.xe {s with heap:=h'.push (pB X.mg i' cl dV doc ctv c'),toks:=tk}:=by
        intro hn h' tk c' dV doc ctv hd hcod hold hnew kp fge;have ltH:∀{b:Addr} {u:HO},H b=some u->b<s.heap.objs.size:=fun e=>(I.hok _ _ e).lt;have sN:Same H hn:=fun b u e=>by rw[hold b (ltH e)];exact e
        have hf0:hn h'.objs.size=none:=by
          cases z:hn h'.objs.size with
          |none=>rfl
          |some u=>exact absurd (hnew _ u fge z).1 (xa9 _)
        have nfP:h'.objs.size≠P.io kt:=fun z=>by rw[z,sN _ _ hPt0]at hf0;cases hf0
        refine Tf m I k ec q _ tk h'.objs.size c' dV doc ctv hn (Ru (tk:=tk) I hPt0 (fun b o _ g=>xaa _ (kp b o g)) (fun b hb hbp=>?_) ⟨#[],?_,?_⟩ fun a o ha ea=>?_) (LtE.same sN) (k.hk.same sN) hf0 (hcod.up fun b o u e=>sN b _ e) hd
        · rw[aU (xay (xai hb fge))];exact hold b hb
        · rw[aU nfP.symm,sN _ _ hPt0]
          simp
        · refine xaa _ ?_;rw[kp _ _ hP]
          simp[PySem.W.tabObj]
        · by_cases h1:a=h'.objs.size
          · subst h1;rw[bW]at ea;cases ea;exact⟨_,rfl,xas _ rfl⟩
          · rw[aU h1]at ea;obtain⟨_,ob,e1,e2⟩:=hnew a o ha ea;exact⟨ob,e1,xaa _ e2⟩
      have nH:∀{b:Addr} {u:HO},s.heap.objs.size<=b->H b=some u->False:=fun hb e=>absurd (xai (I.hok _ _ e).lt hb) (xa9 _);refine xcC ?_;rw[hst];rcases dd with⟨d1,e1⟩ |⟨n,a,p,d1,e1,ne⟩
      · refine PySem.W.nestDef_K d1 d2 d4 ?_;rw[m.q];rcases hps with rfl |⟨c',rfl,hcod⟩
        · refine PySem.W.makeFunction_K hcl' I.ok.glob hg m.code C hP trivial rfl hgP hbm fun c' ctv doc h' tk hx hge hlt hrec htb=>?_;obtain⟨c2,oc,fs,t,e2,hoc,hdat,hv⟩:=hrec;cases e2;have key:=lay H h' tk c' .none doc ctv #[] oc fs t (.inl ⟨e1,rfl⟩) (fun _ _=>rfl) (fun b u hb e=>(nH hb e).elim) hx hge hlt hoc hdat hv (by rw[htb];simp) rfl;rw[<-efo]at key;exact key
        · refine PySem.W.makeFunction_hit hcl' I.ok.glob hg m.code C hP (by simp[TriplesOk,rawInt]) (show codeAmong i'.pos _=some (.ref c') by simp[codeAmong,rawInt]) hbm fun ctv doc h' tk hkp hsz=>?_;have key:=lay2 H h' tk c' .none doc ctv (.inl ⟨e1,rfl⟩) hcod (fun _ _=>rfl) (fun b u hb e=>(nH hb e).elim) hkp hsz;rw[<-efo]at key;exact key
      · refine def_dflt d1 d2 d3 d4 ?_;rw[m.q];have pk:∀(o:Obj) (b:Addr) (u:Obj),s.heap.get? b=some u->(s.heap.push o).get? b=some u:=fun o b u e=>xaa o e;have psz:(s.heap.push {cls:=.type "tuple",data:=.seq #[.int n s.toks]}).objs.size=s.heap.objs.size + 1:=xb7 ..;have td:(s.heap.push {cls:=.type "tuple",data:=.seq #[.int n s.toks]}).get? s.heap.objs.size=some {cls:=.type "tuple",data:=.seq #[.int n s.toks]}:=xas _ rfl;have tP:s.heap.objs.size≠P.io kt:=fun z=>nH (xcK z) hPt0;have hbm2:(s.heap.push {cls:=.type "tuple",data:=.seq #[.int n s.toks]}).BuiltinsAt X.mg (P.io kt):=⟨bm,ob,b1,b2,b3,tr b4,pk _ _ _ (I.bk _ _ b4),b5,b6,b7⟩;have hdf:fj (upd H s.heap.objs.size (.frz {cls:=.type "tuple",data:=.seq #[.int n s.toks]} (.own s.heap.objs.size))) i'.dd (.ref s.heap.objs.size):=.inr ⟨by rw[e1];exact fun z=>(nomatch z),s.heap.objs.size,_,_,_,rfl,bW,rfl,by rw[e1];exact .cons ⟨_,rfl⟩ .nil⟩
        have hold:∀b,b<s.heap.objs.size->upd H s.heap.objs.size (.frz {cls:=.type "tuple",data:=.seq #[.int n s.toks]} (.own s.heap.objs.size)) b=H b:=fun b hb=>aU (xay hb);have hnw:∀b u,s.heap.objs.size<=b->upd H s.heap.objs.size (.frz {cls:=.type "tuple",data:=.seq #[.int n s.toks]} (.own s.heap.objs.size)) b=some u->b=s.heap.objs.size/\u=.frz {cls:=.type "tuple",data:=.seq #[.int n s.toks]} (.own b):=fun b u hb e=>by
          by_cases z:b=s.heap.objs.size
          · subst z;rw[bW]at e;cases e;exact⟨rfl,rfl⟩
          · rw[aU z]at e;exact(nH hb e).elim
        rcases hps with rfl |⟨c',rfl,hcod⟩
        · refine zb4 (mg:=X.mg) (c:=c) (Pt:=P.io kt) (ps:= #[]) hcl' ne I.ok.glob (hg.push _) m.code (C.keeps (pk _)) (pk _ _ _ hP) trivial rfl hgP hbm2 fun c' ctv doc h' tk hx hge hlt hrec htb=>?_;obtain⟨c2,oc,fs,t,e2,hoc,hdat,hv⟩:=hrec;cases e2;have hge':s.heap.objs.size + 1<=c':=by rw[<-psz];exact hge
          have key := lay _ h' tk c' _ doc ctv #[] oc fs t hdf hold (fun b u hb e=>by
            obtain⟨rfl,rfl⟩:=hnw b u hb e;exact⟨xai (xbe _) (xaB hge' (xb6 hlt)),xay hge',_,rfl,hx _ _ tP td⟩) (fun b o hb g=>hx b o hb (pk _ b o g)) (xaB (xbE _) hge') hlt hoc hdat hv (by rw[htb];simp) rfl
          rw[<-efo]at key;exact key
        · refine zbM (mg:=X.mg) (c:=c) (Pt:=P.io kt) hcl' ne I.ok.glob (hg.push _) m.code (C.keeps (pk _)) (pk _ _ _ hP) (by simp[TriplesOk,rawInt]) (show codeAmong i'.pos _=some (.ref c') by simp[codeAmong,rawInt]) hbm2 fun ctv doc h' tk hkp hsz=>?_;have hsz':s.heap.objs.size + 1<=h'.objs.size:=by rw[<-psz];exact hsz
          have key := lay2 _ h' tk c' _ doc ctv hdf hcod hold (fun b u hb e=>by
            obtain⟨rfl,rfl⟩:=hnw b u hb e;exact⟨hsz',_,rfl,hkp _ _ td⟩) (fun b o g=>hkp b o (pk _ b o g)) (xaB (xbE _) hsz')
          rw[<-efo]at key;exact key
    · cases e
  · cases e
end E3
namespace E3
open PySem PySem.Spec PyProof.Rows L2
section
variable {P:Program}{w:World}{K:Fgx}{mg:Mgx}{base:Heap}{k:Nat}{x qual:Str}{st:Stmt}{f:Addr}{fd:FuncData}{N ps:List Str}{b:S}
theorem zdL {X:Cx}{st:List Stmt}{t:TS}(h:PX X.nox st t):PX X st t:=fun s σ H D I hw=>xaO (h s σ H D (I.wish _) hw) (fun _ _ q=>q) fun _ _ z=>False.elim z
theorem Y4 {c Pt:Addr}(F:FunD K x qual st f fd)(S:FnScope N ps (aJ st))(hp:ps.length<=N.length)(hm:mg x=some (.ref f))(ht:PySem.W.tabIn K x=some (c,Pt))
    (hb:∀A outer s H E,Room k (A.deeper (envOfC qual (aJ st) s.heap.objs.size f (.ref c)))->tM (q_ P w K mg base N qual st f (.ref c) A outer s H E) W0 (bJ st) b):FnOk P w K mg base fO (k + 1) f fd ps (nR K mg ps.length (bF N.length b)):=by
  obtain⟨oc,od,dV,kV,doc,pm,an,cdv,ct,osl,rfl,lk,hcd⟩:=F.ex;refine⟨fun vs H Q E h=>h.1,fun A outer s H args us vs Q E hr e0 hbd r hsp=>?_⟩;have hl:vs.length=ps.length:=hsp.1;have KX:K.In s.heap:=e0.mod.kin.keeps fun b o e=>(e0.bs b o e).1;obtain rfl:cdv=.ref c:=PySem.W.law_code e0.mod.kin e0.mod.glob ht hm (e0.mod.kin _ _ lk) rfl;have lim:s.heap.NoLimit:=e0.mod.nolimit.keeps fun b o e=>(e0.bs b o e).1;have hkind:∀y∈ps.zip us,(aJ st).names.lookup y.1=some .local\/((aJ st).names.lookup y.1=some .cell/\((cellsFrom (s.heap.objs.size + 1) (aJ st).names []).lookup y.1).isSome=true):=fun⟨n,v⟩ hy=>by
    rcases S.par n (xco hy).1 with q |q
    · exact .inl q
    · exact .inr ⟨q,xcA _ _ _ (.inl q)⟩
  refine xcH hr.depth (KX _ _ lk) rfl S.co S.gen rfl (xd8 KX hcd) (hbd _ _ _ _ ?_);refine xda S.kind hkind fun env he s1 x=>?_;subst he;refine⟨lim.keeps x.toInCall.keep,codeAny_func ?_⟩;have I:Inv (cY fO P w K mg base N qual (aJ st) f (.ref c) A outer s H E) [] (start N vs) H s1:=Rv S hr.hd e0 hl r x;obtain⟨_,Pl,M,ds,d,M',hk,is,e,q⟩:=hsp;have st0:=Ot (N:=N) hk (by omega) is;have hq:tS K mg W0 b {nx:=fun _ H'=>Q .non H',rt:=Q} (start N vs) H:=by
    unfold bF cZ at e;split at e
    · rename_i d' M2 eb;cases e;exact⟨Pl,H,Pl,_,_,M,_,_,st0,eb,fun P' v H' l h i=>q P' v H' l h i⟩
    · rename_i env M2 eb;cases e;exact⟨Pl,H,Pl,_,_,M,_,_,st0,eb,fun P' Os' H' st' _ k'=>q P' .non H' k'.base k'.hk rfl⟩
    · rename_i c n M2 eb;cases e
    · cases e
  refine xaO (zdL (hb A outer s H E (hr.deeper _)) s1 (start N vs) H _ I hq) (fun fl s' hs=>?_) fun e s' hs=>hs
  cases fl with
  |ret u=>
    obtain⟨v,H',h1,h2,h3,h4,h5,h6⟩:=hs;exact⟨v,H',h1,h2,h3,h4,h5,h6⟩
  |next=>exact False.elim hs
  |brk=>
    obtain⟨_,_,z⟩:=hs;exact False.elim z
  |cont=>
    obtain⟨_,_,z⟩:=hs;exact False.elim z
theorem YZ {c Pt:Addr}(F:FunD K x qual st f fd)(S:FnScope N ps (aJ st))(hp:ps.length<=N.length)(hm:mg x=some (.ref f))(hd:Binds K fd ps [])(ht:PySem.W.tabIn K x=some (c,Pt))
  (hb:∀A outer s H E,Room k (A.deeper (envOfC qual (aJ st) s.heap.objs.size f (.ref c)))->tM (q_ P w K mg base N qual st f (.ref c) A outer s H E) W0 (bJ st) b):aY P w K mg base (k + 1) x ps.length (bF N.length b):=
 ⟨f,fd,ps,[],[],_,hm,F.kp,Y4 F S hp hm ht hb,hd,.nil,fun vs H Q E h=>by rw[xax];exact h⟩
end
structure FnScopeC (N ps fr:List Str)(sc:Scope):Prop where
 kind:sc.kind=.function
 co:sc.isCoroutine=false
 gen:sc.isGenerator=false
 nd:N.Nodup
 pre:N.take ps.length=ps
 suf:N.drop (N.length - fr.length)=fr
 len:ps.length + fr.length<=N.length
 par:∀x∈ps,sc.names.lookup x=some .local
 fre:∀x∈fr,sc.names.lookup x=some .free
 all:∀y∈sc.names,y.2=.free->y.1∈fr
 noc:∀y∈sc.names,y.2≠ .cell
noncomputable def wJ (N:List Str) (vs cvs:List V):L2.St:=vs.map some ++ (List.replicate (N.length - vs.length - cvs.length) none ++ cvs.map some)
noncomputable def rm (np n:Nat) (ds:List D):Env:=(ds.take np).map .val ++ (List.replicate (n - ds.length) .un ++ (ds.drop np).map .val)
def m6 (np n:Nat)(b:S):G:=fun ds M=>cZ (b (rm np n ds) M)
noncomputable def DR (P:Program) (w:World) (K:Fgx) (mg:Mgx) (base:Heap) (N:List Str) (i:FnT) (f:Addr) (cd:Value) (cl:List (Str×Addr)) (A:Around) (outer:List PySem.Env) (s:Shared) (H:Hp):Cx where
 prog:=P
 w:=w
 K:=K
 mg:=mg
 base:=base
 A:=A.deeper (PySem.W.envX i.q (aJ i.st) s.heap.objs.size f cd cl)
 N:=N
 s₀:=s
 H₀:=H
 env:=PySem.W.envX i.q (aJ i.st) s.heap.objs.size f cd cl
 outer:=outer
 stack:=PySem.W.envX i.q (aJ i.st) s.heap.objs.size f cd cl::outer
 ex:=[]
 calm:=true
 fn:=fun _=>false
 pn:=[]
 xe:=fun _ _=>False
theorem mD.get {H:Hp}:∀{cl:List (Str×Addr)} {vs:List V} {j:Nat} {p:Str×Addr},mD H cl vs->cl[j]? =some p->∃v u o,vs[j]? =some v/\RelV v u/\H p.2=some (.frz o (.own p.2))/\o.data=.cell (some u)
  | [],_,_,_,_,e=>by simp at e
  |q::cl,_,0,p,h,e=>by
    obtain⟨v,ws,u,o,e1,r,g,d,_⟩:=h
    simp at e
    subst e e1;exact⟨v,u,o,rfl,r,g,d⟩
  |q::cl,_,j + 1,p,h,e=>by
    obtain⟨v,ws,u,o,e1,_,_,_,h⟩:=h;subst e1;exact mD.get (j:=j) h (by simpa using e)
theorem mD.len {H:Hp}:∀{cl:List (Str×Addr)} {vs:List V},mD H cl vs->vs.length=cl.length
  | [],_,h=>by rw[show _=[] from h];rfl
  |q::cl,_,h=>by
    obtain⟨v,ws,u,o,e1,_,_,_,h⟩:=h;subst e1
    simp[h.len]
theorem En {β:Type}:∀{l:List (Str×β)} {y:Str} {u:β},(l.map (·.1)).Nodup->(y,u)∈l->l.lookup y=some u
  | [],_,_,_,h=>nomatch h
  |(z,v)::l,y,u,nd,h=>by
    have nd':=xbx.mp nd;rw[xbD];rcases xaJ.mp h with hm |hm
    · obtain⟨rfl,rfl⟩:=Prod.mk.inj hm;rw[xbf]
    · have:(y==z)=false:=by
        rw[xaW];exact fun z'=>nd'.1 (xaD.mpr ⟨_,hm,z'⟩)
      rw[this];exact En nd'.2 hm
theorem Xc {α β:Type}:∀{l:List α} {m:List β},l.length=m.length->(l.zip m).map (·.1)=l
  | [],[],_=>rfl
  | [],_::_,h=>by simp at h
  |_::_,[],h=>by simp at h
  |a::l,b::m,h=>by
    rw[xc5,xaI,Xc (by simpa using h)]
theorem zip_get {α β:Type}:∀{l:List α} {m:List β} {i:Nat} {a:α} {b:β},l[i]? =some a->m[i]? =some b->(a,b)∈l.zip m
  | [],_,_,_,_,h,_=>by simp at h
  |_::_,[],_,_,_,_,h=>by simp at h
  |a::l,b::m,0,_,_,h1,h2=>by
    simp at h1 h2
    subst h1 h2
    simp
  |a::l,b::m,i + 1,_,_,h1,h2=>by
    rw[xc5];exact xak _ (zip_get (i:=i) (by simpa using h1) (by simpa using h2))
section
variable {P:Program}{w:World}{K:Fgx}{mg:Mgx}{base:Heap}{k:Nat}{i:FnT}{N ps:List Str}{b:S}
theorem Zv {fr:List Str}{f:Addr}{cd:Value}{cl:List (Str×Addr)}{A:Around}{outer:List PySem.Env}{s:Shared}{H:Hp}{us:List Value}{vs cvs:List V}{h':Heap}{tk:Nat}(S:FnScopeC N ps fr (aJ i.st))(hd:A.handled=none)(e0:Env0 P w K mg base A outer s H)
    (hl:vs.length=ps.length) (r:Vals vs us) (hfr:cl.map (·.1)=fr) (hc:mD H cl cvs) (hi:∀x y a,cl.lookup x=some a->cl.lookup y=some a->x=y)
    (hns:h'.Ns s.heap.objs.size (fun x=>(ps.zip us).reverse.lookup x)) (hk:∀b o,s.heap.get? b=some o->h'.get? b=some o):
    Inv (DR P w K mg base N i f cd cl A outer s H) [] (wJ N vs cvs) H {s with heap:=h',toks:=tk}:=by
  have noA:∀b:Addr,b∉(DR P w K mg base N i f cd cl A outer s H).ex:=fun b z=>absurd (show b∈([]:List Addr) from z) (by simp);have ndf:(cl.map (·.1)).Nodup:=by rw[hfr, <-S.suf];exact S.nd.sublist (List.drop_sublist _ _)
  have cll:cvs.length=fr.length:=by rw[hc.len, <-hfr,xal]
  have S_len:=S.len;have cellAt:∀y c,cl.lookup y=some c->∃u o,H c=some (.frz o (.own c))/\o.data=.cell (some u)/\h'.get? c=some o:=fun y c e=>by
    obtain⟨j,hj⟩:=List.getElem?_of_mem (xaX e);obtain⟨v,u,o,_,_,g,d⟩:=hc.get hj;exact⟨u,o,g,d,hk _ _ (e0.hok _ _ g).1⟩
  have ulen:us.length=ps.length:=by rw[<-r.length];exact hl
  have ndP:ps.Nodup:=by rw[<-S.pre];exact S.nd.sublist (xec _ _)
  refine ⟨⟨e0.mod,S.kind,rfl,rfl,xaf _,hi,fun y hy=>?_,(fun y c z=>nomatch z),fun _=>hd,Around.frames_deeper e0.frames,.inr ⟨rfl,rfl⟩,fun b z=>absurd z (noA b),e0.bs,e0.bsz,fun b _ _=>noA b,fun b z=>absurd z (noA b),e0.funs,e0.frf⟩,
    rfl,e0.bare,Un.kept hk,⟨_,hns,fun n y v h1 h2 h3=>?_⟩,fun y c h=>?_,e0.hok.fresh (xaf _),fun y c h=>?_,fun p hp=>absurd (show p∈([]:Pnx) from hp) (by simp),e0.hok.kept hk,?_⟩
  · have hy:(aJ i.st).names.lookup y=some .cell\/(aJ i.st).names.lookup y=some .free:=hy;rcases hy with hy |hy
    · exact absurd rfl (S.noc _ (xaX hy))
    · have:y∈cl.map (·.1):=by rw[hfr];exact S.all _ (xaX hy) rfl
      obtain⟨p,hp,rfl⟩:=xaD.mp this;exact⟨p.2,En ndf hp⟩
  · unfold wJ at h2
    by_cases hn:n<vs.length
    · rw[xaH (by simpa using hn),xan]at h2;have ha:vs[n]? =some v:=by
        cases e:vs[n]? with
        |none=>rw[e]at h2;cases h2
        |some a=>rw[e]at h2;cases h2;rfl
      obtain⟨u,hu,rv⟩:=r.get ha;have hp:ps[n]? =some y:=by rw[<-S.pre,xds (by omega)];exact h1
      refine⟨u,rv,.inl ⟨S.par y (xaC hp),?_⟩⟩;refine En ?_ (List.mem_reverse.mpr (zip_get hp hu));rw[xcE,Xc ulen.symm];exact(List.reverse_perm _).nodup_iff.mpr ndP
    · rw[xaw (by simpa using hn),xal]at h2
      by_cases hn2:n - vs.length<N.length - vs.length - cvs.length
      · rw[xaH (by simpa using hn2),xaZ,xab hn2]at h2;cases h2
      · rw[xaw (by simpa using hn2),xbv,xan]at h2;have ha:cvs[n - vs.length - (N.length - vs.length - cvs.length)]? =some v:=by
          cases e:cvs[n - vs.length - (N.length - vs.length - cvs.length)]? with
          |none=>rw[e]at h2;cases h2
          |some a=>rw[e]at h2;cases h2;rfl
        have hf:fr[n - vs.length - (N.length - vs.length - cvs.length)]? =some y:=by
          have:(N.drop (N.length - fr.length))[n - vs.length - (N.length - vs.length - cvs.length)]? =some y:=by
            rw[List.getElem?_drop, <-h1];congr 1;omega
          rw[S.suf]at this;exact this
        rw[<-hfr,xan,xac]at hf;obtain⟨p,hp,rfl⟩:=hf;obtain⟨v',u,o,ev,ru,g,d⟩:=hc.get hp;rw[ha]at ev;cases ev;refine⟨u,ru,.inr ⟨.inr (S.fre _ (by rw[<-hfr];exact xaD.mpr ⟨p,xaC hp,rfl⟩)),p.2,En ndf (xaC hp),o,hk _ _ (e0.hok _ _ g).1,d⟩⟩
  · obtain⟨u,o,_,d,g⟩:=cellAt y c h;exact⟨some u,o,g,d⟩
  · obtain⟨u,o,g,_,_⟩:=cellAt y c h;exact .inr ⟨rfl,o,_,g⟩
  · unfold wJ;show _=N.length;rw[xaj,xaj,xal,xbv,xal];omega
theorem zbo {Pl:Pl}{H:Hp}{M:Mm}{ds cds:List D}{vs cvs:List V}(hk:Hk K mg Pl H M)(hl:vs.length + cvs.length<=N.length)(h:aD K Pl H ds vs)(hc:aD K Pl H cds cvs):
  Ok K mg Pl H Pl (List.replicate N.length none) H M (wJ N vs cvs) (rm ds.length N.length (ds ++ cds)):=by
 have hd:=h.len;have hd2:=hc.len;have ee:rm ds.length N.length (ds ++ cds)=ds.map .val ++ (List.replicate (N.length - vs.length - cvs.length) .un ++ cds.map .val):=by
  unfold rm;rw[List.take_left,List.drop_left,xaj,hd,hd2,Nat.sub_sub]
 rw[ee];refine⟨hk,LtE.refl Pl H,hk.here,fun n s e=>?_,fun a z=>?_,fun n j a e1 _=>?_,by simp;omega,by simp[wJ];omega⟩
 ·have e0:((List.replicate N.length (none:Option Addr))[n]?).join=none:=by
   rw[xaZ]
   split<;>rfl
  rw[e0];unfold wJ
  by_cases hi:n<ds.length
  ·rw[xaH (by simpa using hi),xan,xag hi]at e;simp only[xbb,xdk]at e;subst e;obtain⟨v,ev,p⟩:=h.get (xag hi);refine⟨v,?_,p⟩;rw[xaH (by rw[xal];omega),xan,ev];rfl
  ·rw[xaw (by simpa using hi),xal]at e
   by_cases h2:n - ds.length<N.length - vs.length - cvs.length
   ·rw[xaH (by simpa using h2),xaZ,xab h2]at e;cases e;exact True.intro
   ·rw[xaw (by simpa using h2),xbv,xan,xac]at e;obtain⟨d,ed,rfl⟩:=e;obtain⟨v,ev,p⟩:=hc.get ed;rw[<-hd]at ev;refine⟨v,?_,p⟩;rw[xaw (by rw[xal];omega),xal,xaw (by rw[xbv];omega),xbv,xan,ev];rfl
 ·exact absurd (xdy z) (by simp)
 ·rw[xaZ]at e1;split at e1<;>cases e1
def h_ (P:Program)(w:World)(K:Fgx)(mg:Mgx)(base:Heap)(k:Nat)(i:FnT)(n:Nat)(g:G):Prop:=
 ∀(A:Around) (outer:List PySem.Env) (s:Shared) (H:Hp) (us:List Value) (vs:List V) (Q:VK) (E:XK) (f:Addr) (caps:List (Str×D)) (Pl:Pl) (M:Mm) (ds:List D) (d:D) (M':Mm),Room k A->Env0 P w K mg base A outer s H->Vals vs us->vs.length=n->
  Hk K mg Pl H M->iB K mg Pl H f i caps->aD K Pl H ds vs->g (ds ++ caps.map (·.2)) M=some (.v d,M')->(∀P' v H',LtE Pl H P' H'->Hk K mg P' H' M'->Is K P' H' d v->Q v H')->codeAny (model P w) A (.call (.ref f) ⟨us,[]⟩) (CR fO outer P w H s Q E) s
theorem h_.mono {j:Nat}{n:Nat}{g:G}(a:h_ P w K mg base j i n g)(h:j<=k):h_ P w K mg base k i n g:=fun A outer s H us vs Q E f caps Pl M ds d M' hr=>a A outer s H us vs Q E f caps Pl M ds d M' (hr.mono h)
def pL (i:FnT)(ps:List Str)(n:Nat)(dn:List Int):Prop:=n + dn.length=ps.length/\∀(H:Hp) (s:Shared) (mgv:Value) (cl:List (Str×Addr)) (dV doc ctv cd:Value) (us:List Value),us.length=n->fj H i.dd dV->(∀a o u,H a=some (.frz o u)->s.heap.get? a=some o)->
 ∃us',Vals (dn.map V.int) us'/\BindsTo s (PySem.W.fnX i.x i.q (b_ i.st) (bJ i.st) (aJ i.st) cl dV .none doc mgv none cd ctv) ⟨us,[]⟩ (ps.zip (us ++ us'))
theorem RB {K:Fgx}{P:Pl}{H:Hp}:∀dn:List Int,aD K P H (dn.map D.int) (dn.map V.int)
 | []=>rfl
 |_::r=>⟨_,_,rfl,rfl,RB r⟩
theorem RD {K:Fgx}{P:Pl}{H:Hp}:∀{ds es:List D} {vs ws:List V},aD K P H ds vs->aD K P H es ws->aD K P H (ds ++ es) (vs ++ ws)
  | [],_,_,_,h,g=>by
    obtain rfl:=h;exact g
  |_::_,_,_,_,⟨v,r,e,h,t⟩,g=>by
    subst e;exact⟨v,_,rfl,h,RD t g⟩
theorem Y0 {n:Nat}{dn:List Int}{g:G}(S:FnScopeC N ps i.fr (aJ i.st))(hbn:pL i ps n dn)(hg:∀ds cs M,ds.length=n->g (ds ++ cs) M=m6 ps.length N.length b ((ds ++ dn.map .int) ++ cs) M)
    (hb:∀f cd cl A outer s H,Room k (A.deeper (PySem.W.envX i.q (aJ i.st) s.heap.objs.size f cd cl))->SB (DR P w K mg base N i f cd cl A outer s H) W0 (bJ i.st) b):h_ P w K mg base (k + 1) i n g:=by
  intro A outer s H us0 vs0 Q E f caps Pl M ds0 d M' hr e0 r0 hn0 hk fc is0 e q;obtain⟨cl,dV,doc,ctv,c,cvs,e1,⟨e2,edf⟩,⟨e3,hfr'⟩,e4,e5,e6⟩:=fc;obtain⟨oc,fs,t,c1,c2,c3⟩:=e2;have ho:s.heap.get? f=some (pB mg i cl dV doc ctv c):=(e0.hok f _ e1).1;have hcr:s.heap.CodeRec (.ref c) i.q:=⟨c,oc,fs,t,rfl,(e0.hok c _ c1).1,c2,c3⟩;have lim:s.heap.NoLimit:=e0.mod.nolimit.keeps fun b o e=>(e0.bs b o e).1;obtain⟨us',rd,hbt⟩:=hbn.2 H s ((mg "__name__").getD .none) cl dV doc ctv (.ref c) us0 (by rw[<-r0.length];exact hn0) edf fun a o u z=>(e0.hok a _ z).1;rw[hg _ _ _ (by rw[<-hn0];exact is0.len.symm)]at e;have r:Vals (vs0 ++ dn.map V.int) (us0 ++ us'):=r0.append rd;have hn:(vs0 ++ dn.map V.int).length=ps.length:=by rw[xaj,xal,hn0];exact hbn.1
  have is:aD K Pl H (ds0 ++ dn.map D.int) (vs0 ++ dn.map V.int):=RD is0 (RB dn);clear is0 r0 rd hn0 hg;generalize us0 ++ us'=us at r hbt;generalize vs0 ++ dn.map V.int=vs at r hn is;generalize ds0 ++ dn.map D.int=ds at is e;have ulen:us.length=ps.length:=by rw[<-r.length];exact hn
  have kept:∀h':Heap,Heap.SameBut s.heap.objs.size (s.heap.push {cls:=.type "frame",data:=.dict #[]}) h'->∀b o,s.heap.get? b=some o->h'.get? b=some o:=fun h' hs b o g=>by
    rw[hs.2 b (xay (xaq g))];exact xaa _ g
  refine xcH hr.depth ho rfl S.co S.gen rfl hcr (hbt _ _ _ _ ?_);refine wpAny_newFunctionEnv S.noc (fun y hy=>S.par _ (xco hy).1) (fun h' hns hsame=>⟨lim.keeps (kept h' hsame),codeAny_func ?_⟩) S.kind;have cll:cvs.length=i.fr.length:=by rw[e5.len, <-hfr', <-e3,xal]
  have S_len:=S.len;have dl:=is.len;have I:=Zv (P:=P) (w:=w) (base:=base) (f:=f) (cd:=.ref c) (A:=A) (outer:=outer) (tk:=s.toks + (ps.zip us).length) S hr.hd e0 hn r (e3.trans hfr') e5 e6 hns (kept h' hsame);have st0:=zbo (N:=N) (ds:=ds) (cds:=caps.map (·.2)) hk (by omega) is e4;rw[show ds.length=ps.length by omega]at st0;have hq:tS K mg W0 b {nx:=fun _ H'=>Q .non H',rt:=Q} (wJ N vs cvs) H:=by
    unfold m6 cZ at e;split at e
    · rename_i d' M2 eb;cases e;exact⟨Pl,H,Pl,_,_,M,_,_,st0,eb,fun P' v H' l h i=>q P' v H' l h i⟩
    · rename_i env M2 eb;cases e;exact⟨Pl,H,Pl,_,_,M,_,_,st0,eb,fun P' Os' H' st' _ k'=>q P' .non H' k'.base k'.hk rfl⟩
    · rename_i c n M2 eb;cases e
    · cases e
  refine xaO (hb f (.ref c) cl A outer s H (hr.deeper _) [] _ (wJ N vs cvs) H _ I hq) (fun fl s' hs=>?_) fun e s' hs=>False.elim hs
  cases fl with
  |ret u=>
    obtain⟨v,σ',H',J,rv,z⟩:=hs;exact⟨v,H',J.os,J.bare,J.base,J.hok,rv,z⟩
  |next=>
    obtain⟨σ',H',J,z⟩:=hs;exact⟨.non,H',J.os,J.bare,J.base,J.hok,rfl,z⟩
  |brk=>
    obtain⟨_,_,_,z⟩:=hs;exact False.elim z
  |cont=>
    obtain⟨_,_,_,z⟩:=hs;exact False.elim z
end
open Classical in
noncomputable def gW (i:FnT) (g:G) (f:E) (fs:EA):E:=fun env M=>bnd (f env M) fun d M1=>match d with
  | .ref k => (match M1[k]? with
    | some (.fn i' caps) => if i' = i then cP (fs env M1) fun ds M2 => (match g (ds ++ caps.map (·.2)) M2 with
      |some (.v z,M3)=>some (.v z,M3)
      |_=>none) else none
    |_=>none)
  |_=>none
section
variable {X:Cx}{Wx:XW}{m:Mode}{pos:Pos}
theorem zbI {k n:Nat}{hd:Expr}{i:FnT}{g:G}{e:Expr}{es:List Expr}{f:E}{fs:EA}(a:h_ X.prog X.w X.K X.mg X.base k i n g)(hr:Room k X.A)(hf:SE X Wx .val hd f)(ha:SA X Wx .val (e::es) fs)(hn:nY n fs)
    (he:starEach (e::es) X.env=(false,eval e X.env)::starEach es X.env:=by rfl) (hpl:(backTo pos (starEach es X.env)).any (·.1)=false:=by rfl) (hce:eval (.Call hd (e::es) [] pos) X.env=(eval hd X.env >>=fun v=>callWith pos v [] (backTo pos (starEach (e::es) X.env)) (backToKw pos (keywordEach [] X.env))):=by rfl):SE X Wx m (.Call hd (e::es) [] pos) (gW i g f fs):=by
  intro pins s σ H Q I hh;rw[hce];obtain⟨P0,H0,P,Os,env,M,r,M',k,e,q⟩:=hh;unfold gW at e;rcases cA e with⟨d,M1,e1,e3⟩ |⟨c,n,e1,rfl⟩
  · clear e;split at e3
    · rename_i kk;split at e3
      · rename_i i' caps em;split at e3
        · rename_i hi;subst hi;refine tG (aP (hf pins s σ H (fun v H1=>∃P1,LtE P H P1 H1/\Hk X.K X.mg P1 H1 M1/\Is X.K P1 H1 (.ref kk) v) I ⟨P0,H0,P,Os,env,M,_,_,k,e1,fun P1 v H1 l h i=>⟨P1,l,h,i⟩⟩) fun u s1 h1=>?_);obtain⟨v,H1,I1,rv,P1,l1,h1,kl,rfl⟩:=h1;obtain rfl:u=Value.ref (P1.io kk):=rv;have fc:iB X.K X.mg P1 H1 (P1.io kk) i' caps:=h1.cell kk _ em;have fat:∀{s2:Shared} {H2:Hp},Inv X pins σ H2 s2->(∀b o u,H1 b=some (.frz o u)->H2 b=some (.frz o u))->PySem.W.FnAt (P1.io kk) s2.heap:=fun {s2 H2} J sm=>by
            obtain⟨cl,dV,doc,ctv,c,cvs,g1,_⟩:=fc;exact⟨_,_,_,_,(J.hok _ _ (sm _ _ _ g1)).1⟩
          have k1:=k.next l1 h1
          rcases mX e3 with⟨ds,M2,e2,e4⟩ |⟨c,n',e2,rfl⟩
          · split at e4
            · rename_i z M3 eg;cases e4;refine xct (fat I1 fun _ _ _ z=>z) (aP (ha pos pins s1 σ H1 (fun vs H2=>∃P2,LtE P1 H1 P2 H2/\Hk X.K X.mg P2 H2 M2/\cM X.K P2 H2 .val ds vs) I1 ⟨P0,H0,P1,Os,env,M1,_,_,k1,e2,fun P2 vs H2 l2 h2 i2=>⟨P2,l2,h2,i2⟩⟩) fun us s2 h2=>?_) he hpl;obtain⟨vs,H2,I2,rvs,P2,l2,h2,i2⟩:=h2;have l2t:=l2.lt h1;refine⟨fat I2 l2t.frz,?_⟩;have fc2:iB X.K X.mg P2 H2 (P1.io kk) i' caps:=fc.up l2t.frz fun _ _ q=>aD.lt l2t q;refine xdm (xbO (a X.A X.stack s2 H2 us vs Q E0 (P1.io kk) caps P2 M2 ds z _ hr I2.env0 rvs (by rw[i2.len];exact hn _ _ _ _ e2) h2 fc2 i2.iss eg fun P3 v H3 l3 h3 i3=>q P3 v H3 (l1.trans (l2.trans l3)) h3 (cO.of h3 i3)) fun r s' hq=>?_)
              cases r with
              |error e=>exact False.elim hq
              |ok fl=>
                cases fl with
                |ret u=>exact I2.after hq
                |next=>exact False.elim hq
                |brk=>exact False.elim hq
                |cont=>exact False.elim hq
            · cases e4
          · refine xct (fat I1 fun _ _ _ z=>z) (aP (ha pos pins s1 σ H1 (fun _ _=>False) I1 ⟨P0,H0,P1,Os,env,M1,_,_,k1,e2,q⟩) fun us s2 h2=>?_) he hpl;obtain⟨_,_,_,_,z⟩:=h2;exact z.elim
        · cases e3
      · cases e3
    · cases e3
  · refine tG (aP (hf pins s σ H (fun _ _=>False) I ⟨P0,H0,P,Os,env,M,_,_,k,e1,q⟩) fun u s1 h1=>?_);obtain⟨_,_,_,_,z⟩:=h1;exact z.elim
end
end E3
namespace E3
open PySem PySem.Spec PyProof.Rows L2
noncomputable def bf (K:Fgx) (nm:Str):Addr:=((PySem.W.tabIn K nm).getD (0,0)).2
noncomputable def tabsOk (K : Fgx) (T : List (Str × FnT)) (ts : List Addr) : Bool := (T.all fun p=>match PySem.W.tabIn K p.1 with
 |some (c,P)=>PySem.W.codeHdIn K c P && (K.lookup P).isNone && ts.contains P
 |none=>false) && decide ((T.map fun p=>bf K p.1).Nodup)
theorem WM {K:Fgx}{T:List (Str×FnT)}{ts:List Addr}(h:tabsOk K T ts=true):(∀p∈T,∃c,PySem.W.tabIn K p.1=some (c,bf K p.1)/\PySem.W.codeHdIn K c (bf K p.1)=true/\K.lookup (bf K p.1)=none/\bf K p.1∈ts)/\(T.map fun p=>bf K p.1).Nodup:=by
  unfold tabsOk at h;rw[xap,xaM]at h;refine⟨fun p hp=>?_,xby h.2⟩;have:=h.1 p hp;unfold bf
  cases e:PySem.W.tabIn K p.1 with
  |none=>rw[e]at this;cases this
  |some q=>
    obtain⟨c,P⟩:=q;rw[e]at this;simp only[xap,Option.isNone_iff_eq_none,List.contains_iff_mem]at this;exact⟨c,rfl,this.1.1,this.1.2,this.2⟩
def fJ (T:List (Str×FnT)):Mm:=T.map fun p=>Cl.tbl p.1 p.2
def Ht (K:Fgx)(T:List (Str×FnT))(H:Hp):Prop:=∀p∈T,H (bf K p.1)=some (.tbl #[])
theorem Z8 {P:Program}{w:World}{K:Fgx}{mg mb:Mgx}{CX:fP}{k:Nat}{fa a:Addr}{fd:FuncData}{x:Str}{sp:Sp}{s₁:Shared}{vs:List Value}{ns:List Int}{T:List (Str×FnT)}{ts:List Addr}
    (hT:tabsOk K T ts=true) (hts:∀P∈ts,s₁.heap.get? P=some (PySem.W.tabObj #[])) (hbm:mC mg s₁.heap)
    (KX:K.In s₁.heap) (hns:s₁.heap.Ns mainGlobals mg) (hb:s₁.heap.Ns builtinsNs mb) (hbb:∀x:Str,x≠"__name__"->mb x=bootBuiltins x) (hlim:s₁.heap.NoLimit) (hg:s₁.gens= #[])
    (ha:s₁.heap.get? a=some {cls:=.type "list",data:=.seq vs.toArray}) (hi:IntsAre vs ns) (hl:ns.length<=sizeLine) (hr:Room k callerA)
    (F:∀base:Heap,K.In base->base.Ns mainGlobals mg->mC mg base->FnOk P w K mg base CX k fa fd [x] sp) (hbind:∀(s:Shared) (u:Value),BindsTo s fd ⟨[u],[]⟩ [(x,u)])
    (hsp:∀H:Hp,Ht K T H->bU K H a (ns.map V.int)->sp [.ref a] H (fun v _=>v=.bl true) fun _ _ _=>False)
    (hCX:∀H e s',CX [] H s₁ (fun _ _ _=>False) e s'->False):
    codeAny (model P w) callerA (.call (.ref fa) ⟨[.ref a],[]⟩) (fun r s'=>r=.ok (.ret (.bool true))/\OldK s₁.heap s'.heap/\s'.os=s₁.os/\AllBare s'.gens) s₁:=by
  have rv:=W8 hi;have lenV:=hi.length;obtain⟨tb,tnd⟩:=WM hT;have inT:∀{b:Addr},(b∈T.map fun p=>bf K p.1)->(∃c,PySem.W.codeHdIn K c b=true)/\K.lookup b=none/\s₁.heap.get? b=some (PySem.W.tabObj #[]):=fun {b} h=>by
    obtain⟨p,hp,rfl⟩:=xaD.mp h;obtain⟨c,_,e2,e3,e4⟩:=tb p hp;exact⟨⟨c,e2⟩,e3,hts _ e4⟩
  have naT:(a∈T.map fun p=>bf K p.1)->False:=fun h=>by
    have:=(inT h).2.2;rw[ha]at this;cases this
  have core:∀H:Hp,(∀b,H b=none\/(∃o xs,H b=some (.frz o (.lst xs))/\b=a)\/((b∈T.map fun p=>bf K p.1)/\H b=some (.tbl #[])))->Ht K T H->bU K H a (ns.map V.int)->cN P w H s₁.heap->(H a≠none->K.lookup a=none)->
      codeAny (model P w) callerA (.call (.ref fa) ⟨[.ref a],[]⟩) (fun r s'=>r=.ok (.ret (.bool true))/\OldK s₁.heap s'.heap/\s'.os=s₁.os/\AllBare s'.gens) s₁:=by
    intro H hO hTT hS hok hK;have base_of:∀{b:Addr} {o:Obj},s₁.heap.get? b=some o->H b=none->(eO s₁.heap H).get? b=some o:=fun e n=>Zh e n;have noA:∀{b:Addr} {o:Obj} {es:Array DictEntry} {ep:Nat},s₁.heap.get? b=some o->o.data=.dict es ep->H b=none:=fun {b o es ep} e d=>by
      rcases hO b with z |⟨_,_,_,z⟩ |⟨z,_⟩
      · exact z
      · subst z;rw[ha]at e;cases e;have d':Data.seq vs.toArray _=Data.dict es ep:=d;cases d'
      · rw[(inT z).2.2]at e;cases e;have d':Data.fields _=Data.dict es ep:=d;cases d'
    have nsK : ∀ {b : Addr} {m : Mgx}, s₁.heap.Ns b m -> (eO s₁.heap H).Ns b m := fun {b m} ⟨o, es, ep, e, d, r⟩ => ⟨o, es, ep, base_of e (noA e d), d, r⟩;have hKb : K.In (eO s₁.heap H) := fun b o e => base_of (KX b o e) (by
      rcases hO b with z |⟨o',xs,q,z⟩ |⟨z,_⟩
      · exact z
      · subst z;rw[hK (by rw[q];exact fun z=>nomatch z)]at e
        cases e
      · rw[(inT z).2.1]at e;cases e)
    have hB:mC mg (eO s₁.heap H):=by
      obtain⟨bm,ob,b1,b2,b3,b4,b5,b6,b7⟩:=hbm;refine⟨bm,ob,b1,b2,b3,base_of b4 ?_,b5,b6,b7⟩;rcases hO bm with z |⟨_,_,_,z⟩ |⟨z,_⟩
      · exact z
      · subst z;rw[ha]at b4;cases b4;cases b7
      · rw[(inT z).2.2]at b4;cases b4;cases b7
    have hM:Mod K mg (eO s₁.heap H):=⟨hKb,nsK hns,⟨mb,nsK hb,hbb⟩,let ⟨mc,h1,h2⟩:=hlim;⟨mc,nsK h1,h2⟩⟩
    have e0:Env0 P w K mg (eO s₁.heap H) callerA [] s₁ H:=⟨rfl,hM,fun b o e=>zc2 e,xcK (Zi _ _),trivial,fun b hb=>absurd (show b∈([]:List Addr) from hb) (by simp),hok,.of_eq hg⟩;refine xbO ((F _ hKb (nsK hns) hB).run callerA [] s₁ H ⟨[.ref a],[]⟩ [.ref a] [.ref a] _ _ hr e0 (hbind s₁ (.ref a)) (.cons rfl .nil) (hsp H hTT hS)) fun r s' h=>?_
    cases r with
    |error e=>exact(hCX H e s' h).elim
    |ok fl=>
      cases fl with
      |next=>exact False.elim h
      |brk=>exact False.elim h
      |cont=>exact False.elim h
      |ret u=>
        obtain⟨v,H',os,bare,un,hok',r',q⟩:=h;have q':v=.bl true:=q;subst q';obtain rfl:u=Value.bool true:=r';refine⟨rfl,⟨fun b o e=>?_,fun b o e=>un.there b o e (by simp)⟩,os,bare⟩;rcases hO b with z |⟨ob,xs,z,_⟩ |⟨hm,z⟩
        · exact .inl (un.keep b o e z (by intro y;exact absurd (show b∈([]:List Addr) from y) (by simp)) (by simp))
        · have z2:=un.frzs b ob _ z;obtain⟨e1,_⟩:=hok b _ z;obtain⟨e2,_⟩:=hok' b _ z2;rw[e]at e1;cases e1;exact .inl e2
        · obtain⟨⟨c,hc⟩,_,hg⟩:=inT hm;obtain⟨more,z2⟩:=un.tbls b _ z;have g2:s'.heap.get? b=some {cls:=.none,data:=.fields (#[] ++ more)}:=hok' b _ z2;rw[hg]at e;cases e;exact .inr (.inl ⟨((xd3 KX hc).tab hg).isCodeTable,rfl, #[],more,rfl,g2⟩)
  cases hk:K.lookup a with
  |some o=>
    have e:=KX a o hk;rw[ha]at e;cases e;refine core (fun b=>if (b∈T.map fun p=>bf K p.1) then some (.tbl #[]) else none) (fun b=>?_) (fun p hp=>xab (xaD.mpr ⟨p,hp,rfl⟩)) (.inr ⟨_,vs.toArray,_,hk,rfl,rfl,rfl,by rw[xae,lenV];exact hl,by simpa using rv⟩) (fun b u z=>?_) fun z=>absurd (xad naT) z
    · by_cases hb:(b∈T.map fun p=>bf K p.1)
      · exact .inr (.inr ⟨hb,xab hb⟩)
      · exact .inl (xad hb)
    · by_cases hb:(b∈T.map fun p=>bf K p.1)
      · have z':=(xab hb).symm.trans z;cases z';exact(inT hb).2.2
      · have z':=(xad hb).symm.trans z;cases z'
  |none=>
    refine core (fun b=>if b=a then some (.frz {cls:=.type "list",data:=.seq vs.toArray} (.lst (ns.map V.int))) else if (b∈T.map fun p=>bf K p.1) then some (.tbl #[]) else none) (fun b=>?_) (fun p hp=>?_) (.inl (.inr ⟨{cls:=.type "list",data:=.seq vs.toArray},xab rfl⟩)) (fun b u z=>?_) fun _=>hk
    · by_cases hb:b=a
      · exact .inr (.inl ⟨_,_,xab hb,hb⟩)
      · by_cases ht:(b∈T.map fun p=>bf K p.1)
        · exact .inr (.inr ⟨ht,(xad hb).trans (xab ht)⟩)
        · exact .inl ((xad hb).trans (xad ht))
    · have hm:(bf K p.1∈T.map fun p=>bf K p.1):=xaD.mpr ⟨p,hp,rfl⟩;have hne:bf K p.1≠a:=fun z=>naT (by rw[<-z];exact hm);exact(xad hne).trans (xab hm)
    · by_cases hb:b=a
      · have z':=(xab hb).symm.trans z;cases z';subst hb;exact⟨ha,by rw[xal];exact hl,vs,_,rv,ha⟩
      · have z1:=(xad hb).symm.trans z
        by_cases ht:(b∈T.map fun p=>bf K p.1)
        · have z':=(xab ht).symm.trans z1;cases z';exact(inT ht).2.2
        · have z':=(xad ht).symm.trans z1;cases z'
theorem Tq {α:Type}:∀{l:List α} {i j:Nat} {x:α},l.Nodup->l[i]? =some x->l[j]? =some x->i=j
  | [],_,_,_,_,h,_=>by simp at h
  |a::l,0,0,_,_,_,_=>rfl
  |a::l,0,j + 1,x,nd,h1,h2=>by
    simp at h1
    subst h1;exact absurd (xaC (by simpa using h2)) (xbx.mp nd).1
  |a::l,i + 1,0,x,nd,h1,h2=>by
    simp at h2
    subst h2;exact absurd (xaC (by simpa using h1)) (xbx.mp nd).1
  |a::l,i + 1,j + 1,x,nd,h1,h2=>congrArg (· + 1) (Tq (xbx.mp nd).2 (by simpa using h1) (by simpa using h2))
theorem Z9 {K:Fgx}{g:G}{H:Hp}{a:Addr}{ns:List Int}{T:List (Str×FnT)}{ts:List Addr}(hT:tabsOk K T ts=true)(hg:∃M,g [.lst (ns.map D.int)] (fJ T)=some (.v (.bl true),M))(hO:Ht K T H)(hS:bU K H a (ns.map V.int)):GR K g [.ref a] H (fun v _=>v=.bl true) fun _ _ _=>False:=by
 intro mg;obtain⟨M,e⟩:=hg;obtain⟨tb,tnd⟩:=WM hT;have at_:∀{k:Nat} {p:Str×FnT},T[k]? =some p->(T[k]?.map fun p=>bf K p.1).getD 0=bf K p.1:=fun h=>by rw[h];rfl
 refine⟨rfl,⟨fun k=>(T[k]?.map fun p=>bf K p.1).getD 0,T.length,fun b=>∃p∈T,bf K p.1=b⟩,fJ T,[.lst (ns.map D.int)],.bl true,M,⟨by simp[fJ],fun k c e=>?_,fun j k h1 h2 z=>?_,fun k h=>?_,fun b z=>?_⟩,⟨.ref a,[],rfl,⟨a,ns.map V.int,rfl,?_,Rz ns⟩,rfl⟩,e,fun P' v H' _ _ i=>i⟩
 ·unfold fJ at e;rw[xan,xac]at e;obtain⟨p,hp,rfl⟩:=e;have hm:=xaC hp;obtain⟨c,e1,_⟩:=tb p hm;show pO K H ((T[k]?.map fun p=>bf K p.1).getD 0) p.1 p.2;rw[at_ hp];exact⟨c, #[],e1,hO p hm,.inl rfl⟩
 ·have g1:T[j]? =some T[j]:=xag h1;have g2:T[k]? =some T[k]:=xag h2;have z':(T[j]?.map fun p=>bf K p.1).getD 0=(T[k]?.map fun p=>bf K p.1).getD 0:=z;rw[at_ g1,at_ g2]at z';exact Tq tnd (x:=bf K T[k].1) (by rw[xan,g1];exact congrArg some z') (by rw[xan,g2];rfl)
 ·have g1:T[k]? =some T[k]:=xag h;refine⟨T[k],xbT h,?_⟩;show _=(T[k]?.map fun p=>bf K p.1).getD 0;rw[at_ g1]
 ·obtain⟨p,hp,rfl⟩:=z;rw[hO p hp];exact fun z=>nomatch z
 ·rcases hS with h |h
  ·refine .inl ⟨fun⟨p,hp,z⟩=>?_,h⟩;have:=hO p hp;rw[z]at this;rcases h with h |⟨o,h⟩<;>rw[this]at h<;>cases h
  ·exact .inr h
theorem zbV {l:PySem.W.OpenLaw}{k:Nat}{q:Program}{loose:List Str}{XP:(Mgx)->Heap->Prop}{YP:World->Heap->Prop}{d:DefRec}{K:Params->Fgx}{x:Str}{g:G}{T:List (Str×FnT)}
  (hn:l.most=some 63) (hdf:d.params.defaults=[]) (hr:Room k callerA) (hY:∀(w:World) (h:Heap),YP w h->(K w.params).In h) (hZ:∀(w:World) (h:Heap),YP w h->∃ts,tabsOk (K w.params) T ts=true/\∀P∈ts,h.get? P=some (PySem.W.tabObj #[]))
  (F:∀(w:World) (mg:Mgx) (fa:Addr) (h:Heap),(K w.params).In h->h.Ns mainGlobals mg->mg d.name=some (.ref fa)->
   ∃fd:FuncData,(∀(s:Shared) (u:Value),BindsTo s fd ⟨[u],[]⟩ [(x,u)])/\
    ∀base:Heap,(K w.params).In base->base.Ns mainGlobals mg->mC mg base->FnOk l.prog w (K w.params) mg base fO k fa fd [x] (GR (K w.params) g))
  (hg:∀ns:List Int,ns.length<=63->∃M,g [.lst (ns.map D.int)] (fJ T)=some (.v (.bl true),M)):PySem.W.WalkO q loose XP YP l.row.toRowW d [] (fun f vs=>PySem.call f vs):=by
 refine Att.Xm hn hdf fun w s₀ s₁ mg mb fa o pm cd doc a vs ns G Y ho hd hcd hmg hobj hints hlen hgn=>?_;have KX:=hY w _ Y;obtain⟨ts,hT,hts⟩:=hZ w _ Y;obtain⟨fd,hb,hF⟩:=F w mg fa _ KX G.T.g hmg;have hbm:mC mg s₁.heap:=by
  obtain⟨bm,ob,b1,b2,b3,b4,b5,b6⟩:=G.T.bmain;refine⟨bm,ob,b1,b2,fun z=>?_,b3,b4,b5,b6⟩;obtain⟨o,es,ep,e,d,_⟩:=G.T.g;rw[z,e]at b3;cases b3;rw[d]at b6;cases b6
 exact Z8 hT hts hbm KX G.T.g G.T.b G.T.builtins G.T.nolimit hgn hobj hints (xaB hlen (by decide)) hr hF hb (fun H hO hS=>Z9 hT (hg ns hlen) hO hS) fun H e s' z=>z
def inDef (s:Stmt)(j:Nat):Stmt:=(bJ s).getD j s
noncomputable def QJ (s:Stmt):Pos:=match s with
 |.FunctionDef _ _ _ _ _ _ _ _ _ p=>p
 |_=>⟨0,0,0,0⟩
noncomputable def dJ (caps:List (Str×Nat)) (env:PySem.Env):List (Str×Addr):=caps.map fun p=>(p.1,(env.cells.lookup p.1).getD 0)
abbrev LF (st:Stmt)(x:Str):Prop:=(aJ st).names.lookup x=some .free
section
variable {X:Cx}{Wx:XW}
theorem Uy {k:Nat}{ss:List Stmt}{b:S}(hr:Room k X.A)(h:X.A.units + 60<cLine->tM X Wx ss b):tM X Wx ss b:=h (xea (xd2 (by decide) _) hr.units)
end
section
variable (P:Program)(w:World)(K:Fgx)(mg:Mgx)(base:Heap)(k:Nat)(f:Addr)(N:List Str)(q:Str)(st:Stmt)(b:S)(c:Addr)(i:FnT)
abbrev Hw:Prop:=∀(A:Around) (outer:List PySem.Env) (s:Shared) (H:Hp) (E:XK),Room k (A.deeper (envOfC q (aJ st) s.heap.objs.size f (.ref c)))->tM (q_ P w K mg base N q st f (.ref c) A outer s H E) W0 (bJ st) b
abbrev yh:Prop:=∀(f:Addr) (cd:Value) (cl:List (Str×Addr)) (A:Around) (outer:List PySem.Env) (s:Shared) (H:Hp),Room k (A.deeper (PySem.W.envX i.q (aJ i.st) s.heap.objs.size f cd cl))->SB (DR P w K mg base N i f cd cl A outer s H) W0 (bJ i.st) b
end
section
variable {P:Program}{w:World}{K:Fgx}{mg:Mgx}{h base:Heap}{k:Nat}{f:Addr}{N ps:List Str}{x q:Str}{st:Stmt}{b:S}{c Pt:Addr}{i:FnT}
theorem mkZ {CX:fP}{A:Around}{outer:List PySem.Env}{s:Shared}{H:Hp}{E:XK}{nm:Str}{caps:List (Str×Nat)}{j:Nat}{X:Cx}(hX:X=cY CX P w K mg base N q (aJ st) f (.ref c) A outer s H E\/X=(cY CX P w K mg base N q (aJ st) f (.ref c) A outer s H E).nox)(tab:PySem.W.tabIn K nm=some (c,Pt))(hd:PySem.W.codeHdIn K c Pt=true)(bm:mC mg base)(nd:N.Nodup)
  (hst:∃params body scope,i.st=.FunctionDef i.x params body [] none [] scope none i.x i.pos/\((params.defaults=[]/\i.dd=[])\/∃n a p,params.defaults=[.Constant (.int n) a p]/\i.dd=[n]/\caps≠ [])/\params.kw_defaults=[]/\params.kwonlyargs=[]/\annTrees params none (envOfC q (aJ st) s.heap.objs.size f (.ref c))=[])
  (hq:qualnameIn (envOfC q (aJ st) s.heap.objs.size f (.ref c)) i.x i.x=i.q)
  (clo:closureFor (aJ i.st) (envOfC q (aJ st) s.heap.objs.size f (.ref c))=pure (dJ caps (envOfC q (aJ st) s.heap.objs.size f (.ref c))))
  (pC:caps.map (·.1)=i.fr) (cap:∀p∈caps,N[p.2]? =some p.1/\LC st p.1/\p.2≠j) (jx:N[j]? =some i.x) (jl:LV st i.x)
  (db:(i.x==("__debug__":Str))=false) (cd:(i.x==("__classdict__":Str))=false):
  MkOk X nm i caps (dJ caps (envOfC q (aJ st) s.heap.objs.size f (.ref c))) c Pt j:=by
 have cel:∀p∈dJ caps (envOfC q (aJ st) s.heap.objs.size f (.ref c)),(envOfC q (aJ st) s.heap.objs.size f (.ref c)).cells.lookup p.1=some p.2:=fun p hp=>by
  obtain⟨r,hr,rfl⟩:=xaD.mp hp;obtain⟨a,e⟩:=Je (n:=s.heap.objs.size + 1) (cap r hr).2.1;have e':(envOfC q (aJ st) s.heap.objs.size f (.ref c)).cells.lookup r.1=some a:=e;show _=some ((_:Option Addr).getD 0);rw[e'];rfl
 have hst':∃params body scope,i.st=.FunctionDef i.x params body [] none [] scope none i.x i.pos/\((params.defaults=[]/\i.dd=[])\/∃n a p,params.defaults=[.Constant (.int n) a p]/\i.dd=[n]/\dJ caps (envOfC q (aJ st) s.heap.objs.size f (.ref c))≠ [])/\params.kw_defaults=[]/\params.kwonlyargs=[]/\annTrees params none (envOfC q (aJ st) s.heap.objs.size f (.ref c))=[]:=by
  obtain⟨p,b,sc,e1,e2,r⟩:=hst;refine⟨p,b,sc,e1,e2.imp id fun⟨n,a,p,z1,z2,z3⟩=>⟨n,a,p,z1,z2,fun z=>z3 ?_⟩,r⟩;unfold dJ at z;exact xdZ.mp z
 rcases hX with rfl |rfl
 ·exact⟨rfl,fun _=>rfl,hst',hq,rfl,tab,hd,bm,clo,by simp[dJ],pC,cel,cap,nd,jx,jl,db,cd⟩
 ·exact⟨rfl,fun _=>rfl,hst',hq,rfl,tab,hd,bm,clo,by simp[dJ],pC,cel,cap,nd,jx,jl,db,cd⟩
theorem Te {A:Around}{outer:List PySem.Env}{s:Shared}{H:Hp}{E:XK}{nm:Str}{caps:List (Str×Nat)}{j:Nat}(tab:PySem.W.tabIn K nm=some (c,Pt))(hd:PySem.W.codeHdIn K c Pt=true)(bm:mC mg base)(nd:N.Nodup)
  (hst:∃params body scope,i.st=.FunctionDef i.x params body [] none [] scope none i.x i.pos/\((params.defaults=[]/\i.dd=[])\/∃n a p,params.defaults=[.Constant (.int n) a p]/\i.dd=[n]/\caps≠ [])/\params.kw_defaults=[]/\params.kwonlyargs=[]/\annTrees params none (envOfC q (aJ st) s.heap.objs.size f (.ref c))=[]:=by first |exact⟨_,_,_,rfl,.inl ⟨rfl,rfl⟩,rfl,rfl,rfl⟩ |exact⟨_,_,_,rfl,.inr ⟨_,_,_,rfl,rfl,fun z=>nomatch z⟩,rfl,rfl,rfl⟩)
  (hq:qualnameIn (envOfC q (aJ st) s.heap.objs.size f (.ref c)) i.x i.x=i.q:=by kernel_rfl)
  (clo:closureFor (aJ i.st) (envOfC q (aJ st) s.heap.objs.size f (.ref c))=pure (dJ caps (envOfC q (aJ st) s.heap.objs.size f (.ref c))):=by kernel_rfl)
  (pC:caps.map (·.1)=i.fr:=by rfl) (cap:∀p∈caps,N[p.2]? =some p.1/\LC st p.1/\p.2≠j:=by x_go) (jx:N[j]? =some i.x:=by rfl) (jl:LV st i.x:=by kernel_rfl)
  (db:(i.x==("__debug__":Str))=false:=by x_go) (cd:(i.x==("__classdict__":Str))=false:=by x_go):
  MkOk (q_ P w K mg base N q st f (.ref c) A outer s H E) nm i caps (dJ caps (envOfC q (aJ st) s.heap.objs.size f (.ref c))) c Pt j:=mkZ (.inr rfl) tab hd bm nd hst hq clo pC cap jx jl db cd
theorem bx.okM (F:bx K x st)(X:K.In h)(G:h.Ns mainGlobals mg)(S:FnScope N ps (aJ st))(ht:PySem.W.tabIn K x=some (c,Pt))(hr:∀f,Hw P w K mg base k f N x st b c)
  (hb:HB x st ps:=by first |exact G_ rfl |exact Hf rfl |exact Hg rfl |exact Hi rfl |exact Hj rfl) (hp:ps.length<=N.length:=by decide):aY P w K mg base (k + 1) x ps.length (bF N.length b):=by
 obtain⟨f,d,D⟩:=F.at X G hb;exact YZ D.F S hp D.mg D.b ht (hr f)
theorem VF {N ps fr:List Str}{sc:Scope}(h1:sc.kind=.function:=by rfl)(h2:sc.isCoroutine=false:=by rfl)(h3:sc.isGenerator=false:=by rfl)(h4:N.Nodup:=by x_go)(h5:N.take ps.length=ps:=by rfl)(h6:N.drop (N.length - fr.length)=fr:=by rfl)(h7:ps.length + fr.length<=N.length:=by decide)
  (h8:∀x∈ps,sc.names.lookup x=some .local:=by x_go) (h9:∀x∈fr,sc.names.lookup x=some .free:=by x_go) (h10:∀y∈sc.names,y.2=.free->y.1∈fr:=by x_go) (h11:∀y∈sc.names,y.2≠ .cell:=by x_go):FnScopeC N ps fr sc:=⟨h1,h2,h3,h4,h5,h6,h7,h8,h9,h10,h11⟩
theorem pL.of {n:Nat}{dn:List Int}(hl:n + dn.length=ps.length)(hd:i.dd=[])(h:dn=[]/\∀(s:Shared) (mgv:Value) (cl:List (Str×Addr)) (doc ctv cd:Value) (us:List Value),us.length=ps.length->BindsTo s (PySem.W.fnX i.x i.q (b_ i.st) (bJ i.st) (aJ i.st) cl .none .none doc mgv none cd ctv) ⟨us,[]⟩ (ps.zip us)):pL i ps n dn:=
 ⟨hl,fun H s mgv cl dV doc ctv cd us hu hD hH=>by
  obtain⟨rfl,h⟩:=h;rcases hD with⟨_,rfl⟩ |⟨z,_⟩
  ·exact⟨[],.nil,by rw[xax];exact h s mgv cl doc ctv cd us (by rw[hu, <-hl];rfl)⟩
  ·exact absurd hd z⟩
theorem pL.dfl {n:Nat}{dn:List Int}{z:Int}(hl:n + dn.length=ps.length)(hd:i.dd=[z])
    (h:∀(s:Shared) (mgv:Value) (cl:List (Str×Addr)) (td:Addr) (doc ctv cd:Value) (us:List Value) (o:Obj) (m t:Nat),us.length=n->s.heap.get? td=some o->o.data=.seq #[.int z t] m->∃us',Vals (dn.map V.int) us'/\BindsTo s (PySem.W.fnX i.x i.q (b_ i.st) (bJ i.st) (aJ i.st) cl (.ref td) .none doc mgv none cd ctv) ⟨us,[]⟩ (ps.zip (us ++ us'))):pL i ps n dn:=
  ⟨hl,fun H s mgv cl dV doc ctv cd us hu hD hH=>by
    rcases hD with⟨e,_⟩ |⟨_,td,o,its,m,rfl,g,ed,r⟩
    · rw[hd]at e;cases e
    · rw[hd]at r;obtain⟨t,rfl⟩:∃t,its= #[.int z t]:=by
        rcases its with⟨l⟩;have r:Vals [V.int z] l:=r
        cases r with
        |cons a b=>
          cases b;obtain⟨t,rfl⟩:=a;exact⟨t,rfl⟩
      exact h s mgv cl td doc ctv cd us o m t hu (hH td o _ g) ed⟩
theorem Hl {a0:Str}(hd:i.dd=[])(h:∀{mgv:Value} {cl:List (Str×Addr)} {doc ctv cd u0:Value},bindArgs (PySem.W.fnX i.x i.q (b_ i.st) (bJ i.st) (aJ i.st) cl .none .none doc mgv none cd ctv) ⟨[u0],[]⟩=pure [(a0,u0)]):pL i [a0] 1 []:=
 .of rfl hd ⟨rfl,fun _ _ _ _ _ _ us hl=>match us,hl with | [_],_=>.of_eq h⟩
theorem Ho {a0 a1:Str}(hd:i.dd=[])(h:∀{mgv:Value} {cl:List (Str×Addr)} {doc ctv cd u0 u1:Value},bindArgs (PySem.W.fnX i.x i.q (b_ i.st) (bJ i.st) (aJ i.st) cl .none .none doc mgv none cd ctv) ⟨[u0,u1],[]⟩=pure [(a0,u0),(a1,u1)]):pL i [a0,a1] 2 []:=
 .of rfl hd ⟨rfl,fun _ _ _ _ _ _ us hl=>match us,hl with | [_,_],_=>.of_eq h⟩
theorem Hq {a0 a1 a2:Str}{z:Int}(hd:i.dd=[z])(h:∀{s:Shared} {mgv:Value} {cl:List (Str×Addr)} {td:Addr} {doc ctv cd u0 u1 u2:Value} {o:Obj} {m t:Nat},s.heap.get? td=some o->o.data=.seq #[.int z t] m->BindsTo s (PySem.W.fnX i.x i.q (b_ i.st) (bJ i.st) (aJ i.st) cl (.ref td) .none doc mgv none cd ctv) ⟨[u0,u1,u2],[]⟩ [(a0,u0),(a1,u1),(a2,u2)]):pL i [a0,a1,a2] 3 []:=
 .dfl rfl hd fun _ _ _ _ _ _ _ us _ _ _ hl g e=>match us,hl with | [_,_,_],_=>⟨[],.nil,h g e⟩
theorem yh.ok (S:FnScopeC N ps i.fr (aJ i.st))(hb:yh P w K mg base k N b i)(hp:pL i ps ps.length []:=by first |exact Hl rfl rfl |exact Ho rfl rfl |exact Hq rfl fun h₁ h₂=>BindsTo.of_defaults rfl h₁ h₂ rfl rfl):h_ P w K mg base (k + 1) i ps.length (m6 ps.length N.length b):=Y0 S hp (fun ds cs M _=>by rw[xbS,xax]) hb
theorem h_.up {j n:Nat}{g:G}(a:h_ P w K mg base j i n g)(h:j<=k:=by decide):h_ P w K mg base k i n g:=a.mono h
end
noncomputable def tD (K:Fgx) (x:Str):Bool:=match PySem.W.tabIn K x with
 |some (c,P)=>PySem.W.codeHdIn K c P
 |none=>false
theorem WL {K:Fgx}{x:Str}(h:tD K x=true):∃c P,PySem.W.tabIn K x=some (c,P)/\PySem.W.codeHdIn K c P=true:=by
 unfold tD at h;split at h
 ·exact⟨_,_,by assumption,h⟩
 ·cases h
section
variable {env:Env}{M:Mm}{kt n np:Nat}{nm:Str}{i:FnT}{caps:List (Str×Nat)}{cs:List (Str×D)}{b:S}{ds:List D}
theorem rW (h1:M[kt]? =some (.tbl nm i))(h2:lD env caps=some cs):eY kt nm i caps env M=some (.rt (.ref M.length),M ++ [.fn i cs]):=by
 unfold eY;simp only[h1,and_self,xbo,h2,xbb]
theorem IW {g:G}{f:E}{fs:EA}{M1 M2 M3:Mm}{k:Nat}{fc:List (Str×D)}{z:D}(h1:f env M=some (.v (.ref k),M1))(h2:M1[k]? =some (.fn i fc))(h3:fs env M1=some (.v ds,M2))(h4:g (ds ++ fc.map (·.2)) M2=some (.v z,M3)):gW i g f fs env M=some (.v z,M3):=by
 unfold gW bnd;simp only[h1,h2,xbo,cP,h3,h4]
end
end E3
namespace L2
open PySem PySem.Spec PyProof.Rows
end L2
namespace E3
open PySem PySem.Spec PyProof.Rows L2
end E3
namespace L2
open PySem PySem.Spec PyProof.Rows
end L2
namespace E3
open PySem PySem.Spec PyProof.Rows L2
mutual
def D.plain:D->Bool
 |.ref _=>false
 |.tup ds=>D.plains ds
 |.lst ds=>D.plains ds
 |_=>true
def D.plains:List D->Bool
 | []=>true
 |d::ds=>D.plain d && D.plains ds
end
section
variable {K:Fgx}{P:Pl}{H:Hp}{io:Nat->Addr}
mutual
theorem Zx:∀{d:D} {v:V},D.plain d=true->Is K P H d v->Is K ⟨io,0,fun _=>False⟩ H d v
 |.non,_,_,h |.bl _,_,_,h |.int _,_,_,h |.str _,_,_,h=>h
 |.ref _,_,p,_=>by simp[D.plain]at p
 |.tup ds,_,p,⟨a,vs,e,t,q⟩=>⟨a,vs,e,t,JN (by simpa [D.plain] using p) q⟩
 |.lst ds,_,p,⟨a,vs,e,t,q⟩=>⟨a,vs,e,t.imp (fun z=>⟨fun y=>y,z.2⟩) id,JN (by simpa [D.plain] using p) q⟩
theorem JN:∀{ds:List D} {vs:List V},D.plains ds=true->aD K P H ds vs->aD K ⟨io,0,fun _=>False⟩ H ds vs
  | [],_,_,h=>h
  |d::ds,_,p,⟨v,r,e,h,t⟩=>by
    simp only[D.plains,xap]at p;exact⟨v,r,e,Zx p.1 h,JN p.2 t⟩
end
end
end E3
namespace TS
open PySem PyProof.Rows PySem.W
variable {prog:Program}{w:World}{A:Around}{E:Value->Shared->Prop}{R:Shared->Prop}{α β:Type}
def Ok (prog:Program)(w:World)(A:Around)(E:Value->Shared->Prop)(R:Shared->Prop)(m:StateT SortSt Sem α)(st:SortSt)(P:α->SortSt->Prop):Prop:=
 ∀s,R s->kasC (model prog w) A E m (fun a st' s'=>R s'/\P a st') st s
section
variable {st:SortSt}{P Q:α->SortSt->Prop}
theorem Ok.mono {m:StateT SortSt Sem α}(h:Ok prog w A E R m st P)(q:∀a st',P a st'->Q a st'):Ok prog w A E R m st Q:=
 fun s r=>xaO (h s r) (fun _ _ z=>⟨z.1,q _ _ z.2⟩) fun _ _ e=>e
end
abbrev Rk:=Keyed->Nat
structure Bs (κ:SortKind)(a₀:Array Keyed)(st:SortSt):Prop where
 kd:kindOf st=κ
 nf:failedOf st=none
 pm:(arrOf st).Perm a₀
def Xd (prog:Program)(w:World)(A:Around)(R:Shared->Prop)(κ:SortKind)(a₀:Array Keyed)(rk:Rk):Prop:=
 ∀x y,x∈a₀->y∈a₀->∀s,R s->wpAny (model prog w) A (keyLt' κ x.1 y.1) (fun c s'=>R s'/\c=decide (rk x<rk y)) (fun _ _=>False) s
variable {κ:SortKind}{a₀:Array Keyed}{rk:Rk}
noncomputable def vv (rk:Rk) (a:Array Keyed) (i:Nat):Nat:=rk (a.getD i (Value.none,Value.none))
theorem W9 {a b:Array Keyed}{i j:Nat}(h:a[i]? =b[j]?):vv rk a i=vv rk b j:=by
 unfold vv;rw[xaY,xaY,h]
def Up (v:Nat->Nat)(i j:Nat):Prop:=∀k l,i<=k->k<=l->l<j->v k<=v l
def Dn (v:Nat->Nat)(i j:Nat):Prop:=∀k l,i<=k->k<=l->l<j->v l<=v k
theorem Up.one {v:Nat->Nat}{i:Nat}:Up v i (i + 1):=fun k l h1 h2 h3=>by rw[show k=l by omega];exact xaf _
theorem Dn.one {v:Nat->Nat}{i:Nat}:Dn v i (i + 1):=fun k l h1 h2 h3=>by rw[show k=l by omega];exact xaf _
theorem Up.snoc {v:Nat->Nat}{i j:Nat}(h:Up v i j)(hij:i<j)(e:v (j - 1)<=v j):Up v i (j + 1):=fun k l h1 h2 h3=>by
 by_cases hl:l=j
 ·subst hl
  by_cases hk:k=l
  ·subst hk;exact xaf _
  ·exact xaB (h k (l - 1) h1 (by omega) (by omega)) e
 ·exact h k l h1 h2 (by omega)
theorem Dn.snoc {v:Nat->Nat}{i j:Nat}(h:Dn v i j)(hij:i<j)(e:v j<=v (j - 1)):Dn v i (j + 1):=fun k l h1 h2 h3=>by
 by_cases hl:l=j
 ·subst hl
  by_cases hk:k=l
  ·subst hk;exact xaf _
  ·exact xaB e (h k (l - 1) h1 (by omega) (by omega))
 ·exact h k l h1 h2 (by omega)
theorem Bs.size {st:SortSt}(B:Bs κ a₀ st):(arrOf st).size=a₀.size:=B.pm.size_eq
theorem zdS {a:Array Keyed}{i j:Nat}(hj:j<=a.size)(k:Nat):vv rk (mirror a i j ((j - i) / 2)) k=if i<=k/\k<j then vv rk a (i + j - 1 - k) else vv rk a k:=by
 have h:=getElem?_mirror_all (xs:=a) (i:=i) hj k;split at h
 ·rename_i c;rw[xab c];exact W9 h
 ·rename_i c;rw[xad c];exact W9 h
variable {prog:Program}{w:World}{A:Around}{E:Value->Shared->Prop}{R:Shared->Prop}{α β:Type}{κ:SortKind}{a₀:Array Keyed}{rk:Rk}
structure Fr (rk:Rk)(lo:Nat)(st st':SortSt):Prop where
 v:∀k,k<lo->vv rk (arrOf st') k=vv rk (arrOf st) k
 p:pendingOf st'=pendingOf st
theorem Fr.rfl {lo:Nat}{st:SortSt}:Fr rk lo st st:=⟨fun _ _=>by trivial,by trivial⟩
theorem Fr.trans {lo:Nat}{s1 s2 s3:SortSt}(a:Fr rk lo s1 s2)(b:Fr rk lo s2 s3):Fr rk lo s1 s3:=⟨fun k h=>(b.v k h).trans (a.v k h),b.p.trans a.p⟩
theorem Fr.rev {lo i j:Nat}{st:SortSt}(hi:lo<=i)(hj:j<=(arrOf st).size):Fr rk lo st (setArr st (mirror (arrOf st) i j ((j - i) / 2))):=
 ⟨fun k h=>(zdS hj k).trans (xad (by omega)),by trivial⟩
section
variable {st:SortSt}{lo nrem:Nat}(C:Xd prog w A R κ a₀ rk)
include C
end
variable {prog:Program}{w:World}{A:Around}{E:Value->Shared->Prop}{R:Shared->Prop}{α β:Type}{κ:SortKind}{a₀:Array Keyed}{rk:Rk}
variable {prog:Program}{w:World}{A:Around}{E:Value->Shared->Prop}{R:Shared->Prop}{α β:Type}{κ:SortKind}{a₀:Array Keyed}{rk:Rk}
variable {prog:Program}{w:World}{A:Around}{E:Value->Shared->Prop}{R:Shared->Prop}{α β:Type}{κ:SortKind}{a₀:Array Keyed}{rk:Rk}
abbrev Sd (rk:Rk)(l:List Keyed):Prop:=l.Pairwise fun x y=>rk x<=rk y
structure Mg (rk:Rk)(T O X Y:List Keyed):Prop where
 x:Sd rk (O ++ X)
 y:Sd rk (O ++ Y)
 p:(O ++ (X ++ Y)).Perm T
theorem Mg.go {T O X X' Y:List Keyed}(m:Mg rk T O (X ++ X') Y)(h:∀a∈X,∀b∈Y,rk a<=rk b):Mg rk T (O ++ X) X' Y:=by
 refine⟨by rw[xar];exact m.x,?_,by simpa only[xar] using m.p⟩;have h1:=xaT.mp m.x;have h2:=xaT.mp m.y;have h3:=xaT.mp h1.2.1;rw[xar];refine xaT.mpr ⟨h1.1,xaT.mpr ⟨h3.1,h2.2.1,h⟩,fun a ha b hb=>?_⟩;rcases xbr.mp hb with hb |hb
 ·exact h1.2.2 a ha b (xcJ _ hb)
 ·exact h2.2.2 a ha b hb
theorem Mg.fin {T O X:List Keyed}(m:Mg rk T O X []):Sd rk (O ++ X)/\(O ++ X).Perm T:=⟨m.x,by simpa using m.p⟩
structure Mh (rk:Rk)(T O X Y:List Keyed):Prop where
 x:Sd rk (X ++ O)
 y:Sd rk (Y ++ O)
 p:(X ++ Y ++ O).Perm T
theorem Mh.go {T O X X' Y:List Keyed}(m:Mh rk T O (X' ++ X) Y)(h:∀a∈X,∀b∈Y,rk b<=rk a):Mh rk T (X ++ O) X' Y:=by
 have h1:=xaT.mp m.x;have h2:=xaT.mp m.y;have h3:=xaT.mp h1.1;refine⟨by rw[<-xar];exact m.x,?_,?_⟩
 ·refine xaT.mpr ⟨h2.1,xaT.mpr ⟨h3.2.1,h1.2.1,fun a ha b hb=>h1.2.2 a (xaE _ ha) b hb⟩,fun a ha b hb=>?_⟩;rcases xbr.mp hb with hb |hb
  ·exact h b hb a ha
  ·exact h2.2.2 a ha b hb
 ·refine List.Perm.trans ?_ m.p;simp only[xar];refine List.Perm.append_left X' ?_;rw[<-xar, <-xar];exact List.Perm.append_right O List.perm_append_comm
variable {prog:Program}{w:World}{A:Around}{E:Value->Shared->Prop}{R:Shared->Prop}{α β:Type}{κ:SortKind}{a₀:Array Keyed}{rk:Rk}
def Sg (st st':SortSt):Prop:=∃g,st'=SortSt.mk' (kindOf st) (arrOf st) (pendingOf st) g (failedOf st)
theorem Sg.rfl {st:SortSt}:Sg st st:=⟨gallopOf st,by trivial⟩
theorem Sg.trans {s1 s2 s3:SortSt}(a:Sg s1 s2)(b:Sg s2 s3):Sg s1 s3:=by
 obtain⟨g,rfl⟩:=a;obtain⟨g',rfl⟩:=b;exact⟨g',by trivial⟩
theorem Sg.bs {st st':SortSt}(a:Sg st st')(B:Bs κ a₀ st):Bs κ a₀ st':=by
 obtain⟨g,rfl⟩:=a;exact⟨B.kd,B.nf,B.pm⟩
variable {prog:Program}{w:World}{A:Around}{E:Value->Shared->Prop}{R:Shared->Prop}{α β:Type}{κ:SortKind}{a₀:Array Keyed}{rk:Rk}
variable {prog:Program}{w:World}{A:Around}{E:Value->Shared->Prop}{R:Shared->Prop}{α β:Type}{κ:SortKind}{a₀:Array Keyed}{rk:Rk}
noncomputable def lay (o:Nat) (m a:Array Keyed):Array Keyed:=m.toList.zipIdx.foldl (fun a (p,j)=>a.setIfInBounds (o + j) p) a
theorem Up.join {v:Nat->Nat}{i j k:Nat}(a:Up v i j)(b:Up v j k)(h:∀p q,i<=p->p<j->j<=q->q<k->v p<=v q):Up v i k:=fun p q h1 h2 h3=>by
 by_cases c:q<j
 ·exact a p q h1 h2 c
 ·by_cases d:p<j
  ·exact h p q h1 d (by omega) h3
  ·exact b p q (by omega) h2 h3
variable {prog:Program}{w:World}{A:Around}{E:Value->Shared->Prop}{R:Shared->Prop}{α β:Type}{κ:SortKind}{a₀:Array Keyed}{rk:Rk}
noncomputable def Rs (v:Nat->Nat):List (Nat×Nat×Nat)->Nat->Nat->Prop
 | [],i,j=>i=j
 |(o,n,_)::l,i,j=>o=i/\1<=n/\Up v i (i + n)/\Rs v l (i + n) j
theorem Rs.le {v:Nat->Nat}:∀{l:List (Nat×Nat×Nat)} {i j:Nat},Rs v l i j->i + l.length<=j
  | [],i,j,h=>xcK h
  |(o,n,_)::l,i,j,h=>by
    have:=Rs.le h.2.2.2;have:=h.2.1;rw[xao];omega
theorem Rs.app {v:Nat->Nat}:∀{l:List (Nat×Nat×Nat)} {l':List (Nat×Nat×Nat)} {i j:Nat},Rs v (l ++ l') i j->∃k,Rs v l i k/\Rs v l' k j
  | [],l',i,j,h=>⟨i,rfl,h⟩
  |(o,n,_)::l,l',i,j,h=>by
    obtain⟨k,a,b⟩:=Rs.app (l:=l) h.2.2.2;exact⟨k,⟨h.1,h.2.1,h.2.2.1,a⟩,b⟩
theorem Rs.join {v:Nat->Nat}:∀{l:List (Nat×Nat×Nat)} {l':List (Nat×Nat×Nat)} {i j k:Nat},Rs v l i k->Rs v l' k j->Rs v (l ++ l') i j
 | [],l',i,j,k,a,b=>by cases (show i=k from a);exact b
 |(o,n,_)::l,l',i,j,k,a,b=>⟨a.1,a.2.1,a.2.2.1,Rs.join a.2.2.2 b⟩
theorem Rs.same {v v':Nat->Nat}:∀{l:List (Nat×Nat×Nat)} {i j:Nat},Rs v l i j->(∀k,i<=k->k<j->v' k=v k)->Rs v' l i j
  | [],i,j,h,e=>h
  |(o,n,_)::l,i,j,h,e=>by
    have:=h.2.2.2.le;refine⟨h.1,h.2.1,fun a b h1 h2 h3=>?_,Rs.same h.2.2.2 fun k k1 k2=>e k (by omega) k2⟩;rw[e a h1 (by omega),e b (by omega) (by omega)];exact h.2.2.1 a b h1 h2 h3
theorem Rs.up {v:Nat->Nat}{l:List (Nat×Nat×Nat)}{i j:Nat}(h:Rs v l i j)(h1:l.length<=1):Up v i j:=by
 match l,h,h1 with
 | [],h,_=>cases (show i=j from h);exact fun a b h1 h2 h3=>by omega
 | [(o,n,_)],h,_=>cases (show i + n=j from h.2.2.2);exact h.2.2.1
structure Sr (κ:SortKind)(a₀:Array Keyed)(rk:Rk)(lo:Nat)(st:SortSt):Prop where
 b:Bs κ a₀ st
 r:Rs (vv rk (arrOf st)) (pendingOf st).toList 0 lo
end TS
namespace E3
open PySem PySem.Spec PyProof.Rows L2 PySem.W
theorem Yp {a b:Str}(h:a.cps.toList=b.cps.toList):a=b:=PySem.Str.ext' (xdz.mp h)
noncomputable def lo:D->D->Prop
 |.int i,.int j=>i<j
 |.str a,.str b=>a.cps.toList<b.cps.toList
 |_,_=>False
noncomputable def fl:D->Bool
 |.int _=>true
 |.str _=>true
 |_=>false
theorem Sh {a:D}(h:lo a a):False:=by
 cases a<;>first |exact h |exact absurd h (Int.lt_irrefl _) |exact xcX _ h
theorem Sq {a b c:D}(h:lo a b)(g:lo b c):lo a c:=by
 cases a<;>cases b<;>(try exact h.elim)<;>cases c<;>(try exact g.elim)
 ·exact Int.lt_trans h g
 ·exact List.lt_trans h g
theorem yP {a b:D}{x y:List D}{c:Bool}(h:bZ (a::x) (b::y)=some c):(a=b/\fl a=true/\bZ x y=some c)\/(lo a b/\c=true)\/(lo b a/\c=false):=by
 cases a<;>cases b<;>(try cases h)
 ·rename_i i j;simp only[bZ]at h
  by_cases e:i=j
  ·rw[xab e]at h;exact .inl ⟨by rw[e],rfl,h⟩
  ·rw[xad e]at h
   by_cases g:i<j
   ·rw[xaF g]at h;exact .inr (.inl ⟨g,(xav h).symm⟩)
   ·rw[xaz g]at h;exact .inr (.inr ⟨show j<i by omega,(xav h).symm⟩)
 ·rename_i i j;simp only[bZ]at h
  by_cases e:i=j
  ·rw[xab e]at h;exact .inl ⟨by rw[e],rfl,h⟩
  ·rw[xad e]at h
   by_cases g:i.cps.toList<j.cps.toList
   ·rw[xaF g]at h;exact .inr (.inl ⟨g,(xav h).symm⟩)
   ·rw[xaz g]at h;refine .inr (.inr ⟨?_,(xav h).symm⟩);show j.cps.toList<i.cps.toList
    by_cases k:j.cps.toList<i.cps.toList
    ·exact k
    ·exact absurd (Yp (List.le_antisymm (List.not_lt.mp k) (List.not_lt.mp g))) e
theorem Eo {a b:D}{x y:List D}(h:lo a b):bZ (a::x) (b::y)=some true:=by
 cases a<;>cases b<;>(try exact h.elim)
 ·rename_i i j;have h:i<j:=h;simp only[bZ];rw[xad (by omega),xaF h]
 ·rename_i i j;have h:i.cps.toList<j.cps.toList:=h;simp only[bZ];rw[xad (fun e=>xcX _ (e ▸ h)),xaF h]
theorem J1 {a b:D}{x y:List D}(h:lo b a):bZ (a::x) (b::y)=some false:=by
 cases a<;>cases b<;>(try exact h.elim)
 ·rename_i i j;have h:j<i:=h;simp only[bZ];rw[xad (by omega),xaz (by omega)]
 ·rename_i i j;have h:j.cps.toList<i.cps.toList:=h;simp only[bZ];rw[xad (fun e=>xcX _ (e ▸ h)),xaz fun g=>xcX _ (List.lt_trans h g)]
theorem lt_eq {a:D}{x y:List D}(h:fl a=true):bZ (a::x) (a::y)=bZ x y:=by
 cases a<;>(try cases h)<;>simp only[bZ,xbo]
theorem J2 {x:D}{xs:List D}{c:Bool}:bZ (x::xs) []=some c->False:=by cases x<;>exact fun h=>nomatch h
theorem S7 {x:D}{xs:List D}{c:Bool}:bZ [] (x::xs)=some c->False:=fun h=>nomatch h
theorem S6:∀{x:List D} {b:Bool},bZ x x=some b->b=false
  | [],b,h=>(xav h).symm
  |a::x,b,h=>by
    rcases yP h with⟨_,_,h⟩ |⟨h,_⟩ |⟨h,_⟩
    · exact S6 h
    · exact(Sh h).elim
    · exact(Sh h).elim
theorem J0:∀{x y z:List D} {b:Bool},bZ x y=some b->bZ y z=some b->bZ x z=some b
  | [],[],z,b,_,g=>g
  | [],_::_,_,_,h,_=>(S7 h).elim
  |_::_,[],_,_,h,_=>(J2 h).elim
  |_::_,_::_,[],_,_,g=>(J2 g).elim
  |a::x,c::y,d::z,b,h,g=>by
    rcases yP h with⟨rfl,f,h'⟩ |⟨h',rfl⟩ |⟨h',rfl⟩
    · rcases yP g with⟨rfl,_,g'⟩ |⟨g',rfl⟩ |⟨g',rfl⟩
      · rw[lt_eq f];exact J0 h' g'
      · exact Eo g'
      · exact J1 g'
    · rcases yP g with⟨rfl,_,_⟩ |⟨g',_⟩ |⟨_,e⟩
      · exact Eo h'
      · exact Eo (Sq h' g')
      · cases e
    · rcases yP g with⟨rfl,_,_⟩ |⟨_,e⟩ |⟨g',_⟩
      · exact J1 h'
      · cases e
      · exact J1 (Sq g' h')
theorem S5:∀{x y:List D},bZ x y=some false->bZ y x=some false->x=y
  | [],[],_,_=>rfl
  | [],_::_,h,_=>(S7 h).elim
  |_::_,[],h,_=>(J2 h).elim
  |a::x,c::y,h,g=>by
    rcases yP h with⟨rfl,f,h⟩ |⟨_,e⟩ |⟨h,_⟩
    · rw[lt_eq f]at g;rw[S5 h g]
    · cases e
    · rw[Eo h]at g;cases g
noncomputable def FN (T:List (List D)) (x:List D):Nat:=T.countP fun y=>bZ y x==some true
theorem Qx {α:Type}{p q:α->Bool}:∀{l:List α} {x:α},(∀z∈l,p z=true->q z=true)->x∈l->q x=true->p x=false->l.countP p<l.countP q
  |y::l,x,h,hx,h1,h2=>by
    rw[List.countP_cons,List.countP_cons];have mo:l.countP p<=l.countP q:=xdQ fun z hz=>h z (xak _ hz);rcases xaJ.mp hx with rfl |hx
    · rw[h1,h2];simp only[xbo,xa5,xbP];omega
    · have ih:=Qx (fun z hz=>h z (xak _ hz)) hx h1 h2;have:=h y xat
      by_cases e:p y=true
      · rw[e,this e];omega
      · rw[xad e];omega
theorem Ur {T:List (List D)}(cm:∀x∈T,∀y∈T,∃b,bZ x y=some b){x y:List D}(hx:x∈T)(hy:y∈T){b:Bool}(h:bZ x y=some b):b=decide (FN T x<FN T y):=by
  cases b with
  |true=>
    refine(xaF (Qx (x:=x) (fun z _ hz=>?_) hx (by rw[h];rfl) ?_)).symm
    · rw[J0 (eq_of_beq hz) h];rfl
    · obtain⟨c,e⟩:=cm x hx x hx;rw[e,S6 e];rfl
  |false=>
    refine(xaz (xeg.mpr (xdQ fun z hz h1=>?_))).symm;obtain⟨c,e⟩:=cm z hz x hx
    cases c with
    |true=>rw[e];rfl
    |false=>
      have:=J0 e h;rw[eq_of_beq h1]at this;cases this
noncomputable def tupS:D->Bool
 |.tup (.str _::_)=>true
 |_=>false
noncomputable def ni:D->D->Prop
 |.tup x,.tup y=>bZ y x=some false
 |_,_=>False
def okW (ds:List D):Prop:=(ds.all tupI=true\/ds.all tupS=true)/\∀xs ys,.tup xs∈ds->.tup ys∈ds->∃b,bZ xs ys=some b
theorem R6 {a b:D}(h:ni a b)(g:ni b a):a=b:=by
 cases a<;>(try exact h.elim)<;>cases b<;>(try exact h.elim)
 rw[S5 g h]
end E3
namespace L2
open PySem PySem.Spec PyProof.Rows
end L2
namespace E3
open PySem PySem.Spec PyProof.Rows L2 PySem.W
structure DefAtD (K:Fgx)(mg:Mgx)(x:Str)(st:Stmt)(ps:List Str)(dd:List D)(f:Addr)(fd:FuncData):Prop where
 mg:mg x=some (.ref f)
 F:FunD K x x st f fd
 b:Binds K fd ps []
 bd:∃(dv:List V) (du:List Value),Binds K fd ps du/\Vals dv du/\(∀P H,aD K P H dd dv)/\dv.length=dd.length
section
variable {P:Program}{w:World}{K:Fgx}{mg:Mgx}{base:Heap}{k:Nat}{x:Str}{st:Stmt}{f:Addr}{fd:FuncData}{N ps:List Str}{b:S}{dd:List D}
theorem DefAtD.ok (D:DefAtD K mg x st ps dd f fd)(S:FnScope N ps (aJ st))(hr:RT P w K mg base k f N x st b)(hp:ps.length<=N.length:=by decide):aY P w K mg base (k + 1) x ps.length (bF N.length b):=
 DefAt.ok ⟨D.mg,D.F,D.b⟩ S hr hp
end
end E3
namespace L2
open PySem PySem.Spec PyProof.Rows
noncomputable def lC (K : Fgx) (C f : Addr) (me : Str) : Bool := PySem.W.specialIn K (.ref C) "__getattribute__" == some (some (.builtin "type.__getattribute__")) && (match PySem.W.typeIn K (.ref C) with
  | some mc => PySem.W.readsIn K C mc && (match PySem.W.findCls K (.ref C) mc me with
    |some (.val (.ref g))=>g==f
    |_=>false)
  |none=>false) && PySem.W.handedIn (.ref f) && PySem.W.keepIn K (.ref f)
section
variable {X:Cx}{Wx:XK}{x me:Str}{C f:Addr}{CX:Prop}{k:Nat}{fd:FuncData}{ps:List Str}{ds:List Value}{dvs:List V}{e:Expr}{es:List Expr}{t:TA}{np apos pos:Pos}{pl:Sem Bool}
theorem Xr {A:Around}{E:Value->Shared->Prop}{s:Shared}{K:Fgx}{prog:Program}{w:World}{Q:Value×List Value->Shared->Prop}(hb:lC K C f me=true)(kx:K.In s.heap)(h:Q (.ref f,[]) {s with toks:=s.toks + 1}):wpAny (model prog w) A (getMethod (.ref C) me pl) Q E s:=by
 unfold lC at hb;simp only[xap]at hb;obtain⟨⟨⟨h1,h2⟩,h3⟩,_⟩:=hb;split at h2
 ·rename_i mc _;obtain⟨h4,h5⟩:=xcS.mp h2;split at h5
  ·rename_i g eg;have:=xbh.mp h5;subst this;exact PySem.W.method_cls kx (xbh.mp h1) (PySem.W.cls_value kx h4 eg h3 h)
  ·cases h5
 ·cases h2
end
end L2
namespace E3
open PySem PySem.Spec PyProof.Rows L2
def nW (P:Program)(w:World)(K:Fgx)(mg:Mgx)(base:Heap)(k:Nat)(c me:Str)(n:Nat)(g:G):Prop:=
 ∃C fa fd ps ds dvs sp,mg c=some (.ref C)/\lC K C fa me=true/\FnOk P w K mg base fO k fa fd ps sp/\Binds K fd ps ds/\Vals dvs ds/\∀vs H Q E,nR K mg n g vs H Q E->sp (vs ++ dvs) H Q E
theorem nW.mono {P:Program}{w:World}{K:Fgx}{mg:Mgx}{base:Heap}{c me:Str}{k j n:Nat}{g:G}(a:nW P w K mg base j c me n g)(h:j<=k):nW P w K mg base k c me n g:=by
 obtain⟨C,fa,fd,ps,ds,dvs,sp,h1,h2,h3,h4⟩:=a;exact⟨C,fa,fd,ps,ds,dvs,sp,h1,h2,h3.mono h,h4⟩
theorem nW.up {P:Program}{w:World}{K:Fgx}{mg:Mgx}{base:Heap}{c me:Str}{k j n:Nat}{g:G}(a:nW P w K mg base j c me n g)(h:j<=k:=by decide):nW P w K mg base k c me n g:=a.mono h
section
variable {X:Cx}{Wx:XW}{m:Mode}
theorem zcV {k n:Nat}{c me:Str}{g:G}{e:Expr}{es:List Expr}{fs:EA}{np apos pos:Pos}{pl:Sem Bool}(a:nW X.prog X.w X.K X.mg X.base k c me n g)(hr:Room k X.A)(hg:Gl X c)(ha:SA X Wx .val (e::es) fs)(hn:nY n fs)(hdb:(c==("__debug__":Str))=false:=by x_go)
  (he:starEach (e::es) X.env=(false,eval e X.env)::starEach es X.env:=by rfl) (hpl:(backTo pos (starEach es X.env)).any (·.1)=false:=by rfl)
  (ht : eval (.Call (.Attribute (.Name c np) me apos) (e :: es) [] pos) X.env = (do
   let ov <-eval (.Name c np) X.env
   standAt apos.atName
   let (f,first) <-holding [ov] (getMethod ov me pl)
   callWith pos f first (backTo pos (starEach (e::es) X.env)) (backToKw pos (keywordEach [] X.env))):=by rfl):SE X Wx m (.Call (.Attribute (.Name c np) me apos) (e::es) [] pos) (cC g fs):=by
 obtain⟨C,fa,fd,ps,ds,dvs,sp,hm,hbs,F,hb,hv,himp⟩:=a;have hk:PySem.W.keepIn X.K (.ref fa)=true:=by
  unfold lC at hbs;simp only[xap]at hbs;exact hbs.2
 have pb:PE X (.Call (.Attribute (.Name c np) me apos) (e::es) [] pos) (Ww sp dvs E0 (Wv X.K X.mg Wx .val fs)):=by
  intro pins s σ H Q I h;refine xbH (pl:=pl) (u5 I hg hm (Xr hbs I.kIn ?_) hdb) ht;have I1:=I.tok (s.toks + 1);refine xbG (first:=[]) (h₀:=X.base) I.ok.mod.kin hk (aP (ha pos pins _ σ H _ I1 h) fun us s1 ⟨vs,H1,I1,r,q⟩=>⟨I1.kIn,?_⟩) he hpl
  exact FP F hr hb hv Bo I1 r q
 refine cB pb ?_;rintro st H Q ⟨P0,H0,P,Os,env,M,r,M',k,e,q⟩;unfold cC at e;rcases mX e with⟨ds,M1,e1,e⟩ |⟨c,n,e1,rfl⟩
 ·split at e
  ·rename_i d M2 eg;cases e;exact⟨P0,H0,P,Os,env,M,_,_,k,e1,fun P1 vs H1 l1 h1 i1=>himp _ _ _ _ ⟨by rw[i1.len];exact hn _ _ _ _ e1,P1,M1,ds,d,_,h1,i1.iss,eg,fun P2 v H2 l2 h2 i2=>q P2 v H2 (l1.trans l2) h2 (cO.of h2 i2)⟩⟩
  ·cases e
 ·exact⟨P0,H0,P,Os,env,M,_,_,k,e1,q⟩
theorem Zd {pins:Pnx}{σ:L2.St}{H:Hp}{s:Shared}{a C dx:Addr}{gs:List (Str×V)}{f:Str}{v:V}{A:Around}{E:Value->Shared->Prop}{pl:Sem Bool}{Q:Value×List Value->Shared->Prop}(I:Inv X pins σ H s)(e:H a=some (.ins C dx gs))(c:Cls X.K C)(n:gG X.K C f)(l:gs.lookup f=some v)
  (h:∀u s',Inv X pins σ H s'->RelV v u->Q (u,[]) s'):wpAny (model X.prog X.w) A (getMethod (.ref a) f pl) Q E s:=by
 obtain⟨mA,O,r,_,_,_⟩:=Ao I.hok e;obtain⟨od,J,hl⟩:=O.look;exact PySem.W.method_usual (r:=none) I.kIn J (xbV (c.get f)).1 (xbV (c.get f)).2 n rfl (Rn I e c n l h)
theorem VG {k n:Nat}{c fl:Str}{C:Addr}{o:Expr}{fo:E}{i:FnT}{g:G}{e:Expr}{es:List Expr}{fs:EA}{apos pos:Pos}{pl:Sem Bool}(hc:ClsOk X.K X.mg c C)(hna:gG X.K C fl)(a:h_ X.prog X.w X.K X.mg X.base k i n g)(hr:Room k X.A)(ho:SE X Wx .val o fo)(ha:SA X Wx .val (e::es) fs)(hn:nY n fs)
    (he:starEach (e::es) X.env=(false,eval e X.env)::starEach es X.env:=by rfl) (hpl:(backTo pos (starEach es X.env)).any (·.1)=false:=by rfl)
    (ht : eval (.Call (.Attribute o fl apos) (e :: es) [] pos) X.env = (do
      let ov <-eval o X.env
      standAt apos.atName
      let (f,first) <-holding [ov] (getMethod ov fl pl)
      callWith pos f first (backTo pos (starEach (e::es) X.env)) (backToKw pos (keywordEach [] X.env))):=by rfl):SE X Wx m (.Call (.Attribute o fl apos) (e::es) [] pos) (gW i g (bC c fl fo) fs):=by
  intro pins s σ H Q I hh;obtain⟨P0,H0,P,Os,env,M,r,M',k,e,q⟩:=hh;unfold gW at e;rcases cA e with⟨d,M1,e1,e3⟩ |⟨c',n',e1,rfl⟩
  · clear e;unfold bC at e1;rcases cA e1 with⟨d0,M0,e0,e1⟩ |⟨c',n',e0,e1⟩
    · split at e1
      · rename_i j gs eo;rw[xac]at e1;obtain⟨z,ez,e1⟩:=e1;cases e1;obtain⟨rfl,em0⟩:=Bk eo;split at e3
        · rename_i kk;split at e3
          · rename_i i' caps em;split at e3
            · rename_i hi;subst hi;refine xbH (pl:=pl) (aP (ho pins s σ H (fun v H1=>∃P1,LtE P H P1 H1/\Hk X.K X.mg P1 H1 M1/\Is X.K P1 H1 (.ref j) v) I ⟨P0,H0,P,Os,env,M,_,_,k,e0,fun P1 v H1 l h i=>⟨P1,l,h,i⟩⟩) fun u s1 h1=>?_) ht;obtain⟨v,H1,I1,rv,P1,l1,h1,jl,rfl⟩:=h1;obtain rfl:u=Value.ref (P1.io j):=rv;obtain⟨C',dx,vs0,ec,eh,en,is⟩:=h1.cell j _ em0;have eC:C'=C:=by
                have:=ec.symm.trans hc.mg;cases this;rfl
              subst eC;obtain⟨v,ev,iv⟩:=Jw ⟨en,is⟩ ez;obtain⟨kl,rfl⟩:kk<P1.n/\v=.ref (P1.io kk):=iv;refine Zd I1 eh hc.cl hna ev fun u s1 I1 ru=>?_;obtain rfl:u=Value.ref (P1.io kk):=ru;have fc:iB X.K X.mg P1 H1 (P1.io kk) i' caps:=h1.cell kk _ em;have fat:∀{s2:Shared} {H2:Hp},Inv X pins σ H2 s2->(∀b o u,H1 b=some (.frz o u)->H2 b=some (.frz o u))->PySem.W.FnAt (P1.io kk) s2.heap:=fun {s2 H2} J sm=>by
                obtain⟨cl,dV,doc,ctv,c,cvs,g1,_⟩:=fc;exact⟨_,_,_,_,(J.hok _ _ (sm _ _ _ g1)).1⟩
              have k1:=k.next l1 h1
              rcases mX e3 with⟨ds,M2,e2,e4⟩ |⟨c,n',e2,rfl⟩
              · split at e4
                · rename_i z M3 eg;cases e4;refine xct (fat I1 fun _ _ _ z=>z) (aP (ha pos pins s1 σ H1 (fun vs H2=>∃P2,LtE P1 H1 P2 H2/\Hk X.K X.mg P2 H2 M2/\cM X.K P2 H2 .val ds vs) I1 ⟨P0,H0,P1,Os,env,M1,_,_,k1,e2,fun P2 vs H2 l2 h2 i2=>⟨P2,l2,h2,i2⟩⟩) fun us s2 h2=>?_) he hpl;obtain⟨vs,H2,I2,rvs,P2,l2,h2,i2⟩:=h2;have l2t:=l2.lt h1;refine⟨fat I2 l2t.frz,?_⟩;have fc2:iB X.K X.mg P2 H2 (P1.io kk) i' caps:=fc.up l2t.frz fun _ _ q=>aD.lt l2t q;refine xdm (xbO (a X.A X.stack s2 H2 us vs Q E0 (P1.io kk) caps P2 M2 ds z _ hr I2.env0 rvs (by rw[i2.len];exact hn _ _ _ _ e2) h2 fc2 i2.iss eg fun P3 v H3 l3 h3 i3=>q P3 v H3 (l1.trans (l2.trans l3)) h3 (cO.of h3 i3)) fun r s' hq=>?_)
                  cases r with
                  |error e=>exact False.elim hq
                  |ok fl=>
                    cases fl with
                    |ret u=>exact I2.after hq
                    |next=>exact False.elim hq
                    |brk=>exact False.elim hq
                    |cont=>exact False.elim hq
                · cases e4
              · refine xct (fat I1 fun _ _ _ z=>z) (aP (ha pos pins s1 σ H1 (fun _ _=>False) I1 ⟨P0,H0,P1,Os,env,M1,_,_,k1,e2,q⟩) fun us s2 h2=>?_) he hpl;obtain⟨_,_,_,_,z⟩:=h2;exact z.elim
            · cases e3
          · cases e3
        · cases e3
      · cases e1
    · cases e1
  · unfold bC at e1;rcases cA e1 with⟨d0,M0,e0,e1⟩ |⟨c',n',e0,e1⟩
    · split at e1
      · rw[xac]at e1;obtain⟨z,ez,e1⟩:=e1;cases e1
      · cases e1
    · cases e1;refine xbH (pl:=pl) (aP (ho pins s σ H (fun _ _=>False) I ⟨P0,H0,P,Os,env,M,_,_,k,e0,q⟩) fun u s1 h1=>?_) ht;obtain⟨_,_,_,_,z⟩:=h1;exact z.elim
end
structure BasAt (K:Fgx)(C:Addr)(q:Str)(st:Stmt)(ps:List Str)(f:Addr)(fd:FuncData):Prop where
 bs:lC K C f "__init__"=true
 F:FunD K "__init__" q st f fd
 b:Binds K fd ps []
theorem BasAt.ok {P:Program}{w:World}{K:Fgx}{mg:Mgx}{base:Heap}{k:Nat}{c:Str}{C:Addr}{q:Str}{st:Stmt}{f:Addr}{fd:FuncData}{N ps:List Str}{b:S}(D:BasAt K C q st ps f fd)(hm:mg c=some (.ref C))(S:FnScope N ps (aJ st))(hr:RT P w K mg base k f N q st b)(hp:ps.length<=N.length:=by decide):nW P w K mg base (k + 1) c "__init__" ps.length (bF N.length b):=
 ⟨C,f,fd,ps,[],[],_,hm,D.bs,gO D.F S hp hr,D.b,.nil,fun vs H Q E h=>by rw[xax];exact h⟩
section
variable {X:Cx}{Wx:XW}{m:Mode}{pos:Pos}
noncomputable def lG (j:Nat) (q e:E) (env:Env):Nat->Nat->List D->Mm->Option (List D×Mm)
  |0,_,_,_=>none
  |n + 1,t,acc,M=>match M[j]? with
    | some (.lst ds) => (match ds[t]? with
      |none=>some (acc,M)
      | some d => (match q (.val d::env) M with
        | some (.v (.bl true), M2) => (match e (.val d::env) M2 with
          |some (.v y,M3)=>if acc.length + 1<sizeLine then lG j q e env n (t + 1) (acc ++ [y]) M3 else none
          |_=>none)
        |some (.v (.bl false),M2)=>lG j q e env n (t + 1) acc M2
        |_=>none))
    |_=>none
noncomputable def lW (n:Nat) (cs:List (Str×Nat)) (f q e:E):E:=fun env M=>bnd (f env M) fun d M1=>match d with
  | .ref j => (match lG j q e (bN cs env) n 0 [] M1 with
    |some (ys,M2)=>some (.v (.lst ys),M2)
    |none=>none)
  |_=>none
theorem Yj {n:Nat}{cs:List (Str×Nat)}{f q e:E}:∀env M r M',lW n cs f q e env M=some (.v r,M')->∃ds,r=.lst ds:=fun env M r M' h=>by
 unfold lW at h;rcases cA h with⟨d,M1,e1,h⟩ |⟨c,n,e1,h⟩
 ·split at h
  ·split at h
   ·cases h;exact⟨_,rfl⟩
   ·cases h
  ·cases h
 ·cases h
theorem Yk {K:Fgx}{mg:Mgx}{n:Nat}{cs:List (Str×Nat)}{f q e:E}{P0 P:Pl}{H0 H:Hp}{Os:List (Option Addr)}{M M':Mm}{st:L2.St}{env:Env}{r:Res}{R:Addr->Hp->Prop}(nd:(cs.map (·.2)).Nodup)
    (k:Ok K mg P0 H0 P Os H M st env) (ee:lW n cs f q e env M=some (r,M')) (w:NR K mg Wx P0 H0 P H M' R r):Cz (JD K (tE K mg Wx .val f)) (tu K mg W0 q) (tE K mg W0 .val e) cs st H R:=by
  unfold lW at ee;rcases cA ee with⟨d,M1,e1,ee⟩ |⟨c,n,e1,rfl⟩
  · split at ee
    · rename_i j;split at ee
      · rename_i ys M2 ec;cases ee;obtain⟨ds',e',w⟩:=w;cases e';refine⟨P0,H0,P,Os,env,M,_,_,k,e1,fun P1 v1 H1 l1 h1 i1=>?_⟩;obtain⟨jl,rfl⟩:j<P1.n/\v1=.ref (P1.io j):=i1;have hl:∃vs,bU K H1 (P1.io j) vs:=by
          cases n with
          |zero=>cases ec
          |succ n=>
            simp only[lG]at ec;split at ec
            · rename_i ds em;obtain⟨vs,ev,is⟩:=h1.cell j _ em;exact⟨vs,.inl (.inl ev)⟩
            · cases ec
        refine ⟨P1.io j, rfl, hl, fun D hD => ?_⟩;obtain ⟨l2, h2, nc⟩ := wM (vs := []) h1 hD;refine ⟨fun i m vs H2=>∃P2 M3 acc,LtE P1 H1 P2 H2/\Hk K mg P2 H2 M3/\P2.bd D/\(∀k,k<P2.n->P2.io k≠D)/\H2 D=some (.lst vs)/\aD K P2 H2 acc vs/\acc.length<sizeLine/\lG j q e (bN cs env) m i acc M3=some (ys,M'),
          ⟨n,P1.bar D,M1,[],l2,h2,.inr rfl,nc,bW,rfl,by x_go,ec⟩,?_⟩
        rintro i m vs H2 ⟨P2,M3,acc,l3,h3,bD,nD,eD,is,hz,ec⟩;refine⟨eD,?_⟩
        cases m with
        |zero=>cases ec
        |succ m=>
          simp only[lG]at ec;split at ec
          · rename_i ds em;obtain⟨us,ev,iu⟩:=h3.cell j _ em;rw[l3.io j jl]at ev;have sq:bU K H2 (P1.io j) us:=.inl (.inl ev);split at ec
            · rename_i et;cases ec;exact .inl ⟨⟨us,sq,by rw[iu.len];exact xbw.mp et⟩,w P2 D vs H2 (l1.trans l3) h3 (l1.sure D hD) bD nD eD is⟩
            · rename_i d et;obtain ⟨v, evt, iv⟩ := iu.get et;refine .inr ⟨⟨us,v,sq,evt⟩,by rw[is.len];exact hz,fun vs' H'=>∃P2 M3 acc,LtE P1 H1 P2 H'/\Hk K mg P2 H' M3/\P2.bd D/\(∀k,k<P2.n->P2.io k≠D)/\H' D=some (.lst vs')/\aD K P2 H' acc vs'/\acc.length<sizeLine/\lG j q e (bN cs env) m (i + 1) acc M3=some (ys,M'),
                fun vs' H' z=>⟨m,xbe _,z⟩,fun x' H' y=>?_⟩
              obtain⟨rfl,hy⟩:=y;have ex':v=x':=xav (evt.symm.trans (hy us sq));subst ex';have kk:=((k.next l1 h1).next l3 h3).cap (cs:=cs) nd iv
              split at ec
              · rename_i M4 eq;refine gF kk eq ⟨true,rfl,fun P4 H4 l4 h4=>?_⟩;dsimp only;rw[xab rfl];have k4:=kk.next l4 h4
                have eD4:H4 D=some (.lst vs):=l4.keep D _ eD (.inr nD);have nD4:∀k,k<P4.n->P4.io k≠D:=l4.nc eD nD;have bD4:=l4.bm D bD;have is4:=aD.lt (l4.lt h3) is;split at ec
                · rename_i y' M5 ey;split at ec
                  · rename_i hz';refine aV k4 ey fun P5 v5 H5 l5 h5 i5=>?_;have eD5:H5 D=some (.lst vs):=l5.keep D _ eD4 (.inr nD4);have nD5:∀k,k<P5.n->P5.io k≠D:=l5.nc eD4 nD4;obtain⟨g1,g2,g3⟩:=JC (vs':=vs ++ [v5]) (l3.trans (l4.trans l5)) h5 hD (l5.bm D bD4) nD5 eD5;exact⟨eD5,P5,M5,acc ++ [y'],g2,g3,l5.bm D bD4,nD5,bW,aD.append (aD.lt ((l5.lt h4).trans g1) is4) (aD.one (Is.lt g1 i5)),by rw[xaj];exact hz',ec⟩
                  · cases ec
                · cases ec
              · rename_i M4 eq;refine gF kk eq ⟨false,rfl,fun P4 H4 l4 h4=>?_⟩;dsimp only;rw[xad (by decide)];exact⟨P4,M4,acc,l3.trans l4,h4,l4.bm D bD,l4.nc eD nD,l4.keep D _ eD (.inr nD),aD.lt (l4.lt h3) is,hz,ec⟩
              · cases ec
          · cases ec
      · cases ee
    · cases ee
  · exact⟨P0,H0,P,Os,env,M,_,_,k,e1,w⟩
theorem Wa (n:Nat)(x:Str)(cs:List (Str×Nat)){px:Pos}{iter elt:Expr}{ifs:List Expr}{scope:Scope}{f q e:E}(hc:X.calm=true)(nd:(cs.map (·.2)).Nodup)(hi:SE X Wx .val iter f)
  (hq:∀(cl:List (Str×Addr)) (C:Addr) (s₀:Shared) (H₀:Hp) (ex:List Addr) (pn:Pnx),SQ (d8 X (x::cs.map (·.1)) scope cl C s₀ H₀ ex pn) ifs q)
  (he:∀(cl:List (Str×Addr)) (C:Addr) (s₀:Shared) (H₀:Hp) (ex:List Addr) (pn:Pnx),SE (d8 X (x::cs.map (·.1)) scope cl C s₀ H₀ ex pn) W0 .val elt e)
  (ok:yx X.N X.env.scope x cs scope=true:=by kernel_rfl) (hs:∀x,foldedSetIterable iter X.env x=pure x:=by intro _;rfl):
  SN X Wx (.ListComp elt [⟨.Name x px,iter,ifs,0⟩] scope pos) (lW n cs f q e):=by
 refine cB (Lz (tq:=tu X.K X.mg W0 q) (te:=tE X.K X.mg W0 .val e) x cs hc (Fd hi) hq he ok hs) ?_;rintro st H Q ⟨P0,H0,P,Os,env,M,r,M',k,ee,w⟩;refine Yk nd k ee ?_
 cases r with
 |v d=>exact w
 |x c n=>exact w
end
section
variable {X:Cx}{Wx:XW}{m:Mode}{pos:Pos}
structure OwnTo (K:Fgx)(C B:Addr):Prop where
 ca:PySem.W.findIn K (.ref C) "__class__"=some (some (.builtin "object.__class__"))
 gt:PySem.W.specialIn K (.builtin "object.__class__") "__get__"=some (some (.builtin "getset_descriptor.__get__"))
 tk:PySem.W.takesIn K (.builtin "object.__class__")=some true
 mr:PySem.W.mroIn K C (.type "object")=some true
 me:PySem.W.kitOne K (.ref C) (.ref B)=some true
end
end E3
namespace My
open PySem PySem.Spec PyProof.Rows L2 E3
noncomputable def xZ:List (Str×D):=[("+",(.tup [(.str "number"),(.str "number"),(.int 2)])),("-",(.tup [(.str "number"),(.str "number"),(.int 2)])),("*",(.tup [(.str "number"),(.str "number"),(.int 2)])),("least",(.tup [(.str "number"),(.str "number"),(.int 2)])),("most",(.tup [(.str "number"),(.str "number"),(.int 2)])),("<",(.tup [(.str "truth"),(.str "number"),(.int 2)])),("=",(.tup [(.str "truth"),(.str "number"),(.int 2)])),("not",(.tup [(.str "truth"),(.str "truth"),(.int 1)])),("and",(.tup [(.str "truth"),(.str "truth"),(.int 2)])),("or",(.tup [(.str "truth"),(.str "truth"),(.int 2)]))]
noncomputable def top (i:Nat):Stmt:=PySem.Challenge.pw_rowdam_k45_joins.main.body.getD i (.Pass ⟨0,0,0,0⟩)
noncomputable def zR:List Str:=["any","len","min","max","range","reversed","int","isinstance","bool","abs","sorted","tuple","list","str"]
noncomputable def lM (s:Stmt) (j:Nat):Stmt:=match s with
 |.ClassDef _ _ _ body _ _ _ _ _ _ _=>body.getD j s
 |_=>s
structure Ad where
 Expr:Addr
 JoinStation:Addr
 Station:Addr
 DamError:Addr
 NoExpr:Addr
structure Txt (K:Fgx)(mg:Mgx)(C:Ad)(w:World):Prop where
 blt:∀b∈zR,mg b=none
 cl_Expr:ClsOk K mg "Expr" C.Expr
 cl_JoinStation:ClsOk K mg "JoinStation" C.JoinStation
 cl_Station:ClsOk K mg "Station" C.Station
 na_JoinStation_kept:gG K C.JoinStation "kept"
 na_JoinStation_marks:gG K C.JoinStation "marks"
 na_JoinStation_pair:gG K C.JoinStation "pair"
 na_Expr_parts:gG K C.Expr "parts"
 na_JoinStation_span:gG K C.JoinStation "span"
 xm_DamError:mg "DamError"=some (.ref C.DamError)
 xc_DamError:d7 K C.DamError=true
 xm_NoExpr:mg "NoExpr"=some (.ref C.NoExpr)
 xc_NoExpr:d7 K C.NoExpr=true
 tb_change_of:∃c P,PySem.W.tabIn K "change_of"=some (c,P)/\PySem.W.codeHdIn K c P=true
 tb_pairer_of:∃c P,PySem.W.tabIn K "pairer_of"=some (c,P)/\PySem.W.codeHdIn K c P=true
 xn_NoExpr:C_ K C.NoExpr=true
 xk_NoExpr:PySem.W.keepIn K (.ref C.NoExpr)=true
 xs_NoExpr:G8 K C.NoExpr=true
 k_ALL_LETTERS:∃a,mg "ALL_LETTERS"=some (.ref a)/\∀P H,Is K P H (.tup [(.str "t"),(.str "v"),(.str "w")]) (.ref a)
 k_NEEDS:∃a,mg "NEEDS"=some (.ref a)/\KTab K w a xZ
 k_FIGURES:∃t,mg "FIGURES"=some (.str "0123456789" t)
 k_MOST_FIGURES:∃t,mg "MOST_FIGURES"=some (.int 20 t)
 k_MOST_VALUE:∃t,mg "MOST_VALUE"=some (.int 1000000000000000000000000000000000000000000000000000000000000 t)
 k_LETTERS:∃t,mg "LETTERS"=some (.str "abcdefghijklmnopqrstuvwxyz" t)
 k_COND_LETTERS:∃t,mg "COND_LETTERS"=some (.str "tv" t)
structure MetAt (K:Fgx)(C:Addr)(x q:Str)(st:Stmt)(ps:List Str)(f:Addr)(fd:FuncData):Prop where
 M:Meth K C x f
 F:FunD K x q st f fd
 b:Binds K fd ps []
structure IniAt (K:Fgx)(C:Addr)(q:Str)(st:Stmt)(ps:List Str)(f:Addr)(fd:FuncData):Prop where
 M:Mk K C f
 F:FunD K "__init__" q st f fd
 b:Binds K fd ps []
structure MetAtD (K:Fgx)(C:Addr)(x q:Str)(st:Stmt)(ps:List Str)(dd:List D)(f:Addr)(fd:FuncData):Prop where
 M:Meth K C x f
 F:FunD K x q st f fd
 b:Binds K fd ps []
 bd:∃(dv:List V) (du:List Value),Binds K fd ps du/\Vals dv du/\(∀P H,aD K P H dd dv)/\dv.length=dd.length
noncomputable def JH (t:String):Option Bool:=if t="int" then some false else if t="bool" then some true else if t="str" then some false else if t="list" then some false else if t="tuple" then some false else if t="NoneType" then some false else if t="dict" then some false else none
theorem Zy {K:Fgx}:∀t b,JH t=some b->PySem.W.kitOne K (.type t) (.type "bool")=some b:=by
 intro t b h;unfold JH at h;split at h
 ·rename_i e;subst e;cases h;kernel_rfl
 split at h
 ·rename_i e;subst e;cases h;kernel_rfl
 split at h
 ·rename_i e;subst e;cases h;kernel_rfl
 split at h
 ·rename_i e;subst e;cases h;kernel_rfl
 split at h
 ·rename_i e;subst e;cases h;kernel_rfl
 split at h
 ·rename_i e;subst e;cases h;kernel_rfl
 split at h
 ·rename_i e;subst e;cases h;kernel_rfl
 cases h
noncomputable def JK (t:String):Option Bool:=if t="int" then some true else if t="bool" then some true else if t="str" then some false else if t="list" then some false else if t="tuple" then some false else if t="NoneType" then some false else if t="dict" then some false else none
theorem Zz {K:Fgx}:∀t b,JK t=some b->PySem.W.kitOne K (.type t) (.type "int")=some b:=by
 intro t b h;unfold JK at h;split at h
 ·rename_i e;subst e;cases h;kernel_rfl
 split at h
 ·rename_i e;subst e;cases h;kernel_rfl
 split at h
 ·rename_i e;subst e;cases h;kernel_rfl
 split at h
 ·rename_i e;subst e;cases h;kernel_rfl
 split at h
 ·rename_i e;subst e;cases h;kernel_rfl
 split at h
 ·rename_i e;subst e;cases h;kernel_rfl
 split at h
 ·rename_i e;subst e;cases h;kernel_rfl
 cases h
noncomputable def JL (t:String):Option Bool:=if t="int" then some false else if t="bool" then some false else if t="str" then some false else if t="list" then some true else if t="tuple" then some false else if t="NoneType" then some false else if t="dict" then some false else none
theorem ZC {K:Fgx}:∀t b,JL t=some b->PySem.W.kitOne K (.type t) (.type "list")=some b:=by
 intro t b h;unfold JL at h;split at h
 ·rename_i e;subst e;cases h;kernel_rfl
 split at h
 ·rename_i e;subst e;cases h;kernel_rfl
 split at h
 ·rename_i e;subst e;cases h;kernel_rfl
 split at h
 ·rename_i e;subst e;cases h;kernel_rfl
 split at h
 ·rename_i e;subst e;cases h;kernel_rfl
 split at h
 ·rename_i e;subst e;cases h;kernel_rfl
 split at h
 ·rename_i e;subst e;cases h;kernel_rfl
 cases h
noncomputable def JM (t:String):Option Bool:=if t="int" then some false else if t="bool" then some false else if t="str" then some false else if t="list" then some false else if t="tuple" then some true else if t="NoneType" then some false else if t="dict" then some false else none
theorem ZD {K:Fgx}:∀t b,JM t=some b->PySem.W.kitOne K (.type t) (.type "tuple")=some b:=by
 intro t b h;unfold JM at h;split at h
 ·rename_i e;subst e;cases h;kernel_rfl
 split at h
 ·rename_i e;subst e;cases h;kernel_rfl
 split at h
 ·rename_i e;subst e;cases h;kernel_rfl
 split at h
 ·rename_i e;subst e;cases h;kernel_rfl
 split at h
 ·rename_i e;subst e;cases h;kernel_rfl
 split at h
 ·rename_i e;subst e;cases h;kernel_rfl
 split at h
 ·rename_i e;subst e;cases h;kernel_rfl
 cases h
noncomputable def aR (t T:String):Option Bool:=if T="bool" then JH t else if T="int" then JK t else if T="list" then JL t else if T="tuple" then JM t else none
theorem RK:aR "int" "bool"=some false:=by x_go
theorem RL:aR "int" "int"=some true:=by x_go
theorem zdA:aR "int" "list"=some false:=by x_go
theorem zc6:aR "int" "tuple"=some false:=by x_go
theorem zcx:aR "bool" "bool"=some true:=by x_go
theorem zdw:aR "bool" "int"=some true:=by x_go
theorem zcy:aR "bool" "list"=some false:=by x_go
theorem zcj:aR "bool" "tuple"=some false:=by x_go
theorem zdy:aR "str" "bool"=some false:=by x_go
theorem zfb:aR "str" "int"=some false:=by x_go
theorem zdz:aR "str" "list"=some false:=by x_go
theorem zcF:aR "str" "tuple"=some false:=by x_go
theorem zcL:aR "list" "bool"=some false:=by x_go
theorem zdx:aR "list" "int"=some false:=by x_go
theorem RM:aR "list" "list"=some true:=by x_go
theorem zch:aR "list" "tuple"=some false:=by x_go
theorem zcf:aR "tuple" "bool"=some false:=by x_go
theorem zcl:aR "tuple" "int"=some false:=by x_go
theorem zcg:aR "tuple" "list"=some false:=by x_go
theorem RN:aR "tuple" "tuple"=some true:=by x_go
theorem zbl:aR "NoneType" "bool"=some false:=by x_go
theorem zbz:aR "NoneType" "int"=some false:=by x_go
theorem zbn:aR "NoneType" "list"=some false:=by x_go
theorem za8:aR "NoneType" "tuple"=some false:=by x_go
theorem zdn:aR "dict" "bool"=some false:=by x_go
theorem zdv:aR "dict" "int"=some false:=by x_go
theorem zcE:aR "dict" "list"=some false:=by x_go
theorem zci:aR "dict" "tuple"=some false:=by x_go
theorem yM {K:Fgx}:∀t T b,aR t T=some b->PySem.W.kitOne K (.type t) (.type T)=some b:=by
 intro t T b h;unfold aR at h;split at h
 ·rename_i e;subst e;exact Zy t b h
 split at h
 ·rename_i e;subst e;exact Zz t b h
 split at h
 ·rename_i e;subst e;exact ZC t b h
 split at h
 ·rename_i e;subst e;exact ZD t b h
 cases h
abbrev Gk:Stmt:=top 7
theorem Vo:FnScope ["text"] ["text"] (aJ Gk):=cG
def Jk:E:=(s2 (aH .notin) (aj 0) (ao (.str "0123456789")))
noncomputable def Il:S:=(aq (bO (fM (s2 (aH .eq) (aj 0) (ao (.str ""))) (cD (sN pR (aA (pH [] (Ed (aj 0)) (ao (.bl true)) Jk) au)))) (aq (aM (ao (.bl false))) aC) aC) (aq (aM (fM (s2 (aH .eq) (aj 0) (ao (.str "0"))) (s2 (aH .ne) (s2 aN (aj 0) (ao (.int 0))) (ao (.str "0"))))) aC))
def Af:G:=bF 1 Il
abbrev Gp:Stmt:=top 8
theorem Vr:FnScope ["text","figures"] ["text"] (aJ Gp):=cG
noncomputable def Ip:S:=(aq (aQ 1 (nA (cD (yZ G5 (aj 0) (aA (ao (.str "-")) au))) (xP (aj 0) (fK (ao (.int 1))) gD) (aj 0))) (aq (aM (dF (s2 (aH .ne) (aj 0) (ao (.str "-0"))) (cC Af (aA (aj 1) au)))) aC))
def Ai:G:=bF 2 Ip
abbrev Gn:Stmt:=top 9
theorem Vq:FnScope ["text"] ["text"] (aJ Gn):=cG
noncomputable def Io:S:=(aq (aM (dF (cC Ai (aA (aj 0) au)) (s2 (aH .le) (sN fu (aA (yZ G4 (aj 0) (aA (ao (.str "-")) au)) au)) (ao (.int 20))))) aC)
def Ah:G:=bF 1 Io
abbrev Gj:Stmt:=top 18
theorem Vn:FnScope ["number"] ["number"] (aJ Gj):=cG
noncomputable def Ik:S:=(aq (aM (sN fB (aA (s1 lU (ao (.int 1000000000000000000000000000000000000000000000000000000000000))) (aA (sN gJ (aA (ao (.int 1000000000000000000000000000000000000000000000000000000000000)) (aA (aj 0) au))) au)))) aC)
def Ae:G:=bF 1 Ik
abbrev Gm:Stmt:=top 19
theorem Vp:FnScope ["word","letters"] ["word","letters"] (aJ Gm):=cG
noncomputable def Im:S:=(aq (aM (fM (cC Ah (aA (aj 0) au)) (dF (s2 (aH .isin) (aj 0) (ao (.tup [(.str "t"),(.str "v"),(.str "w")]))) (s2 (aH .isin) (aj 0) (aj 1))))) aC)
def Ag:G:=bF 2 Im
abbrev Gy:Stmt:=top 20
theorem VB:FnScope ["word","kinds","needed","place"] ["word","kinds"] (aJ Gy):=cG
noncomputable def JW:S:=(aq (bO (fM (cU (cD (aj 1))) (s2 (aH .ne) (gZ (aj 1)) (s2 aN (aj 2) (ao (.int 1))))) (aq (sO "NoExpr" (gw (lN (aj 0) (gn " needs other words behind it" gq)))) aC) aC) aC)
noncomputable def IV:S:=(aq (aQ 2 (Ca xZ (aj 0))) (aq (dW 3 (wZ (aA (s2 aN (aj 2) (ao (.int 2))) au)) JW) aC))
def yL:G:=bF 4 IV
abbrev Gh:Stmt:=top 21
theorem Vl:FnScope ["words","letters","wanted","kinds","word"] ["words","letters","wanted"] (aJ Gh):=cG
noncomputable def ur:S:=(aq (bO (lZ true xZ (aj 4)) (aq (yW (FQ yL (aA (aj 4) (aA (aj 3) au)))) (aq (fW (aj 3) (s2 aN (Ca xZ (aj 4)) (ao (.int 0)))) aC)) (aq (bO (cD (cC Ag (aA (aj 4) (aA (aj 1) au)))) (aq (fW (aj 3) (ao (.str "number"))) aC) (aq (sO "NoExpr" (gw (m9 (aj 4) (gn " may not stand here" gq)))) aC)) aC)) aC)
noncomputable def Ii:S:=(aq (aQ 3 (gY (aX au))) (aq (dW 4 (m7 (aA (aj 0) au)) ur) (aq (bO (s2 (aH .ne) (aj 3) (aX (aA (aj 2) au))) (aq (sO "NoExpr" (ao (.str "too many words, or too few"))) aC) aC) aC)))
def yI:G:=bF 5 Ii
abbrev Gi:Stmt:=top 22
theorem Vm:FnScope ["word","left","right"] ["word","left","right"] (aJ Gi):=cG
noncomputable def Ij:S:=(aq (bO (s2 (aH .eq) (aj 0) (ao (.str "+"))) (aq (aM (s2 bR (aj 1) (aj 2))) aC) aC) (aq (bO (s2 (aH .eq) (aj 0) (ao (.str "-"))) (aq (aM (s2 dU (aj 1) (aj 2))) aC) aC) (aq (bO (s2 (aH .eq) (aj 0) (ao (.str "*"))) (aq (aM (s2 eX (aj 1) (aj 2))) aC) aC) (aq (bO (s2 (aH .eq) (aj 0) (ao (.str "least"))) (aq (aM (sN gJ (aA (aj 1) (aA (aj 2) au)))) aC) aC) (aq (bO (s2 (aH .eq) (aj 0) (ao (.str "most"))) (aq (aM (sN fB (aA (aj 1) (aA (aj 2) au)))) aC) aC) (aq (bO (s2 (aH .eq) (aj 0) (ao (.str "<"))) (aq (aM (s2 (aH .lt) (aj 1) (aj 2))) aC) aC) (aq (bO (s2 (aH .eq) (aj 0) (ao (.str "="))) (aq (aM (s2 (aH .eq) (aj 1) (aj 2))) aC) aC) (aq (bO (s2 (aH .eq) (aj 0) (ao (.str "and"))) (aq (aM (dF (aj 1) (aj 2))) aC) aC) (aq (aM (fM (aj 1) (aj 2))) aC)))))))))
def Ac:G:=bF 3 Ij
abbrev Gs:Stmt:=top 23
theorem Vu:FnScope ["word","time","value","other"] ["word","time","value","other"] (aJ Gs):=cG
noncomputable def Iu:S:=(aq (bO (s2 (aH .eq) (aj 0) (ao (.str "t"))) (aq (aM (aj 1)) aC) aC) (aq (bO (s2 (aH .eq) (aj 0) (ao (.str "v"))) (aq (aM (aj 2)) aC) aC) (aq (bO (s2 (aH .eq) (aj 0) (ao (.str "w"))) (aq (aM (aj 3)) aC) aC) (aq (aM (sN dh (aA (aj 0) au))) aC))))
def Aj:G:=bF 4 Iu
abbrev Gw:Stmt:=top 24
theorem Vy:FnScope ["words","time","value","other","results","word","left","right"] ["words","time","value","other"] (aJ Gw):=cG
noncomputable def A_:S:=(aq (bO (s2 (aH .eq) (aj 5) (ao (.str "not"))) (aq (fW (aj 4) (Cd (gZ (aj 4)))) aC) (aq (bO (lZ true xZ (aj 5)) (aq (aQ 6 (gZ (aj 4))) (aq (aQ 7 (gZ (aj 4))) (aq (fW (aj 4) (cC Ac (aA (aj 5) (aA (aj 6) (aA (aj 7) au))))) aC))) (aq (fW (aj 4) (cC Aj (aA (aj 5) (aA (aj 1) (aA (aj 2) (aA (aj 3) au)))))) aC)) aC)) aC)
noncomputable def Iz:S:=(aq (aQ 4 (gY (aX au))) (aq (dW 5 (m7 (aA (aj 0) au)) A_) (aq (aM (s2 aN (aj 4) (ao (.int 0)))) aC)))
def tZ:G:=bF 8 Iz
abbrev vo:Stmt:=lM (top 25) 0
theorem UG:FnScope ["self","words"] ["self","words"] (aJ vo):=cG
noncomputable def Di:S:=(aq (fX "Expr" "parts" (aj 0) (sN pX (aA (aj 1) au))) aC)
def z_:G:=bF 2 Di
abbrev Gv:Stmt:=top 27
theorem Vx:FnScope ["words","letters"] ["words","letters"] (aJ Gv):=cG
noncomputable def Iw:S:=(aq (yW (cC yI (aA (aj 0) (aA (aj 1) (aA (ao (.str "number")) au))))) (aq (aM (vm "Expr" z_ (aA (aj 0) au))) aC))
def Ak:G:=bF 2 Iw
abbrev xR:Stmt:=lM (top 25) 1
theorem UJ:FnScope ["self","time","value","other"] ["self","time","value","other"] (aJ xR):=cG
noncomputable def Dj:S:=(aq (aM (cC tZ (aA (bC "Expr" "parts" (aj 0)) (aA (aj 1) (aA (aj 2) (aA (aj 3) au)))))) aC)
def yC:G:=bF 4 Dj
abbrev NP:Stmt:=inDef (top 30) 1
noncomputable def j_:FnT:=⟨NP,"change","change_of.<locals>.change",QJ NP,["expr"],[0]⟩
theorem Vj:FnScopeC ["time","value","other","expr"] ["time","value","other"] j_.fr (aJ j_.st):=VF
theorem zac:LF NP "expr":=by kernel_rfl
noncomputable def Dv:S:=(aq (aM (cC Ae (aA (bH "Expr" "value" yC (aj 3) (aA (aj 0) (aA (aj 1) (aA (aj 2) au)))) au))) aC)
def yH:G:=m6 3 4 Dv
abbrev Ce:Stmt:=top 30
theorem Vi:FnScope ["words","letters","expr","change"] ["words","letters"] (aJ Ce):=cG
theorem zat:LC Ce "expr":=by kernel_rfl
noncomputable def Du:S:=(aq (aQ 2 (cC Ak (aA (aj 0) (aA (aj 1) au)))) (eY 0 "change_of" j_ [("expr",2)]))
def wW:G:=bF 4 Du
abbrev Gu:Stmt:=inDef (top 37) 2
noncomputable def gk:FnT:=⟨Gu,"pair","pairer_of.<locals>.pair",QJ Gu,["span","change"],[]⟩
theorem Vw:FnScopeC ["one","other","later","span","change"] ["one","other"] gk.fr (aJ gk.st):=VF
theorem zag:LF Gu "span":=by kernel_rfl
theorem zae:LF Gu "change":=by kernel_rfl
noncomputable def Dz:S:=(aq (bO (fM (s2 (aH .ne) (s2 aN (aj 0) (ao (.int 1))) (s2 aN (aj 1) (ao (.int 1)))) (s2 (aH .gt) (sN mV (aA (s2 dU (s2 aN (aj 0) (ao (.int 0))) (s2 aN (aj 1) (ao (.int 0)))) au)) (aj 3))) (aq (aM (aX au)) aC) aC) (aq (aQ 2 (sN fB (aA (s2 aN (aj 0) (ao (.int 0))) (aA (s2 aN (aj 1) (ao (.int 0))) au)))) (aq (aM (aX (aA (aW (aA (aj 2) (aA (s2 aN (aj 0) (ao (.int 1))) (aA (gW j_ yH (aj 4) (aA (aj 2) (aA (s2 aN (aj 0) (ao (.int 2))) (aA (s2 aN (aj 1) (ao (.int 2))) au)))) au)))) au))) aC)))
def rO:G:=m6 2 5 Dz
abbrev za:Stmt:=top 37
theorem Vv:FnScope ["row","span","change","pair"] ["row"] (aJ za):=cG
theorem zau:LC za "span":=by kernel_rfl
theorem zaq:LC za "change":=by kernel_rfl
noncomputable def Dy:S:=(aq (aQ 1 (sN dh (aA (s2 aN (s2 aN (aj 0) (ao (.int 3))) (ao (.int 0))) au))) (aq (aQ 2 (cC wW (aA (dG (s2 aN (aj 0) (ao (.int 3))) (fK (ao (.int 1))) gD) (aA (ao (.str "tvw")) au)))) (eY 1 "pairer_of" gk [("span",1),("change",2)])))
def rN:G:=bF 4 Dy
abbrev Gq:Stmt:=top 39
theorem Vs:FnScope ["thing"] ["thing"] (aJ Gq):=cG
noncomputable def Ir:S:=(aq (aM (aW (aA (ao (.str "thing")) (aA (s2 aN (aj 0) (ao (.int 0))) (aA (s2 aN (aj 0) (ao (.int 1))) (aA (s2 aN (aj 0) (ao (.int 2))) au)))))) aC)
def wX:G:=bF 1 Ir
abbrev vp:Stmt:=lM (top 40) 0
theorem UL:FnScope ["self","row"] ["self","row"] (aJ vp):=cG
noncomputable def HW:S:=(aq (fX "JoinStation" "marks" (aj 0) (gY (Nz (aX (aA (ao (.int 0)) au)) (sN fu (aA (s2 aN (aj 1) (ao (.int 2))) au))))) aC)
def yD:G:=bF 2 HW
abbrev vq:Stmt:=lM (top 46) 0
theorem UW:FnScope ["self","row"] ["self","row"] (aJ vq):=cG
noncomputable def Dk:S:=(aq (yW (cC yD (aA (aj 0) (aA (aj 1) au)))) (aq (fX "JoinStation" "span" (aj 0) (sN dh (aA (s2 aN (s2 aN (aj 1) (ao (.int 3))) (ao (.int 0))) au))) (aq (fX "JoinStation" "pair" (aj 0) (cC rN (aA (aj 1) au))) (aq (fX "JoinStation" "kept" (aj 0) (aW (aA (gY (aX au)) (aA (gY (aX au)) au)))) aC))))
def wQ:G:=bF 2 Dk
abbrev Gx:Stmt:=top 55
theorem Vz:FnScope ["row"] ["row"] (aJ Gx):=cG
noncomputable def IK:S:=(aq (bO (s2 (aH .eq) (s2 aN (aj 0) (ao (.int 0))) (ao (.str "keep"))) (aq sJ aC) aC) (aq (bO (s2 (aH .eq) (s2 aN (aj 0) (ao (.int 0))) (ao (.str "turn"))) (aq sJ aC) aC) (aq (bO (s2 (aH .eq) (s2 aN (aj 0) (ao (.int 0))) (ao (.str "share"))) (aq sJ aC) aC) (aq (bO (s2 (aH .eq) (s2 aN (aj 0) (ao (.int 0))) (ao (.str "pour"))) (aq sJ aC) aC) (aq (bO (s2 (aH .isin) (s2 aN (aj 0) (ao (.int 0))) (aW (aA (ao (.str "fixed")) (aA (ao (.str "slide")) au)))) (aq sJ aC) aC) (aq (bO (s2 (aH .eq) (s2 aN (aj 0) (ao (.int 0))) (ao (.str "gap"))) (aq sJ aC) aC) (aq (bO (s2 (aH .eq) (s2 aN (aj 0) (ao (.int 0))) (ao (.str "join"))) (aq (aM (vm "JoinStation" wQ (aA (aj 0) au))) aC) aC) (aq sJ aC))))))))
def yK:G:=bF 1 IK
abbrev Gf:Stmt:=top 57
theorem Vg:FnScope ["_law_found"] ["_law_found"] (aJ Gf):=cG
noncomputable def Ig:S:=(aq (aM (dF (fL aR "int" (aj 0)) (Cd (fL aR "bool" (aj 0))))) aC)
def mG:G:=bF 1 Ig
abbrev FW:Stmt:=top 58
theorem Va:FnScope ["_law_script","_law_k"] ["_law_script","_law_k"] (aJ FW):=cG
noncomputable def HX:S:=(aq (bO (s2 (aH .lt) (aj 1) (sN fu (aA (aj 0) au))) (aq (aM (s2 aN (aj 0) (aj 1))) aC) aC) (aq (aM (ao (.int 0))) aC))
def tX:G:=bF 2 HX
abbrev Gg:Stmt:=top 59
theorem Vh:FnScope ["_law_form"] ["_law_form"] (aJ Gg):=cG
noncomputable def Ih:S:=(aq (bO (s2 (aH .eq) (aj 0) (ao (.int 0))) (aq (aM (aW (aA (ao (.str "-")) (aA (ao (.str "v")) (aA (ao (.str "w")) au))))) aC) aC) (aq (bO (s2 (aH .eq) (aj 0) (ao (.int 1))) (aq (aM (aW (aA (ao (.str "+")) (aA (ao (.str "v")) (aA (ao (.str "*")) (aA (ao (.str "2")) (aA (ao (.str "w")) au))))))) aC) aC) (aq (bO (s2 (aH .eq) (aj 0) (ao (.int 2))) (aq (aM (aW (aA (ao (.str "most")) (aA (ao (.str "t")) (aA (ao (.str "w")) au))))) aC) aC) (aq (aM (aW (aA (ao (.str "*")) (aA (ao (.str "v")) (aA (ao (.str "w")) au))))) aC))))
def Ab:G:=bF 1 Ih
abbrev Gd:Stmt:=top 60
theorem Ve:FnScope ["_law_form","_law_time","_law_v","_law_w","_law_value"] ["_law_form","_law_time","_law_v","_law_w"] (aJ Gd):=cG
noncomputable def Ib:S:=(aq (aQ 4 (s2 aN (aX (aA (s2 dU (aj 2) (aj 3)) (aA (s2 bR (aj 2) (s2 eX (ao (.int 2)) (aj 3))) (aA (sN fB (aA (aj 1) (aA (aj 3) au))) (aA (s2 eX (aj 2) (aj 3)) au))))) (aj 0))) (aq (aM (sN fB (aA (s1 lU (s2 dw (ao (.int 10)) (ao (.int 60)))) (aA (sN gJ (aA (s2 dw (ao (.int 10)) (ao (.int 60))) (aA (aj 4) au))) au)))) aC))
def yG:G:=bF 5 Ib
abbrev Ga:Stmt:=top 61
theorem Vc:FnScope ["_law_cell","_law_size","_law_word","_law_place"] ["_law_cell"] (aJ Ga):=cG
noncomputable def D_:E:=(s2 aN (ao (.str "kbzqaxmp")) (s2 oMod (s2 bR (s2 kI (aj 1) (ao (.int 8))) (aj 0)) (ao (.int 8))))
noncomputable def H_:S:=(aq (aQ 1 (s2 bR (ao (.int 1)) (s2 oMod (aj 0) (ao (.int 8))))) (aq (aQ 2 (yZ CG (ao (.str "")) (aA (pH [("_law_cell",0)] (wZ (aA (aj 1) au)) (ao (.bl true)) D_) au))) (aq (aQ 3 (s2 oMod (s2 kI (aj 0) (ao (.int 64))) (aj 1))) (aq (aM (aX (aA (aj 2) (aA (s2 bR (s2 bR (xP (aj 2) gD (fK (aj 3))) (ao (.str "c"))) (xP (aj 2) (fK (s2 bR (aj 3) (ao (.int 1)))) gD)) (aA (ao (.str "zebra")) au))))) aC))))
def Aa:G:=bF 4 H_
abbrev Ge:Stmt:=top 62
theorem Vf:FnScope ["_law_things","_law_way","_law_item","_law_span","_law_form","_law_found","_law_other","_law_later","_law_pair"] ["_law_things","_law_way","_law_item","_law_span","_law_form"] (aJ Ge):=cG
noncomputable def Az:S:=(aq (bO (dF (s2 (aH .ne) (s2 aN (aj 6) (ao (.int 0))) (aj 1)) (dF (s2 (aH .eq) (s2 aN (aj 6) (ao (.int 2))) (s2 aN (aj 2) (ao (.int 2)))) (s2 (aH .le) (sN mV (aA (s2 dU (s2 aN (aj 6) (ao (.int 1))) (s2 aN (aj 2) (ao (.int 1)))) au)) (aj 3)))) (aq (aQ 7 (sN fB (aA (s2 aN (aj 6) (ao (.int 1))) (aA (s2 aN (aj 2) (ao (.int 1))) au)))) (aq (aQ 8 (aW (aA (s2 aN (aj 2) (ao (.int 3))) (aA (s2 aN (aj 6) (ao (.int 3))) au)))) (aq (bO (s2 (aH .eq) (aj 1) (ao (.int 1))) (aq (aQ 8 (aW (aA (s2 aN (aj 6) (ao (.int 3))) (aA (s2 aN (aj 2) (ao (.int 3))) au)))) aC) aC) (aq (sI 5 (aW (aA (ao (.str "thing")) (aA (aj 7) (aA (s2 aN (aj 2) (ao (.int 2))) (aA (cC yG (aA (aj 4) (aA (aj 7) (aA (s2 aN (aj 8) (ao (.int 0))) (aA (s2 aN (aj 8) (ao (.int 1))) au))))) au)))))) aC)))) aC) aC)
noncomputable def Ie:S:=(aq (yX 5 (aX au)) (aq (dW 6 (fH (pI (aj 0))) Az) (aq (lY 5) (aq (aM (aj 5)) aC))))
def tY:G:=bF 9 Ie
abbrev Gb:Stmt:=top 63
theorem Vd:FnScope ["_law_found","_law_item"] ["_law_found"] (aJ Gb):=cG
noncomputable def Ay:S:=(aq (bO (fM (cU (cD (fL aR "tuple" (aj 1)))) (fM (cU (cD (cC mG (aA (s2 aN (aj 1) (ao (.int 1))) au)))) (cU (cD (cC mG (aA (s2 aN (aj 1) (s1 lU (ao (.int 1)))) au)))))) (aq (aM (ao (.bl false))) aC) aC) aC)
noncomputable def Ia:S:=(aq (bO (cU (cD (fL aR "list" (aj 0)))) (aq (aM (ao (.bl false))) aC) aC) (aq (dW 1 (fH (aj 0)) Ay) (aq (aM (ao (.bl true))) aC)))
def yF:G:=bF 2 Ia
abbrev sU:Stmt:=lM (top 46) 4
theorem U0:FnScope ["self","kept","way"] ["self"] (aJ sU):=cG
theorem zab:LC sU "way":=by kernel_rfl
noncomputable def zX:E:=(s2 xq (aW (aA (aj 1) au)) (aj 0))
noncomputable def Eh:S:=(aq (lX 1 (vh 1000 [("way",2)] (s2 aN (bC "JoinStation" "kept" (aj 0)) (aj 2)) zX)) aC)
noncomputable def Dl:S:=(aq (yX 1 (aX au)) (aq (dW 2 (Ec (aW (aA (ao (.int 0)) (aA (ao (.int 1)) au)))) Eh) (aq (lY 1) (aq (aM (gY (pI (aj 1)))) aC))))
def tW:G:=bF 3 Dl
abbrev wz:Stmt:=lM (top 40) 9
theorem U6:FnScope ["self"] ["self"] (aJ wz):=cG
noncomputable def Dr:S:=(aq (aM (aW (aA (gY (FT (bC "JoinStation" "marks" (aj 0)))) (aA (bH "JoinStation" "all_kept" tW (aj 0) au) au)))) aC)
def wU:G:=bF 1 Dr
abbrev FZ:Stmt:=top 64
theorem Vb:FnScope ["_law_station","_law_marks","_law_things","_law_span","_law_found","_law_due","_law_one"] ["_law_station","_law_marks","_law_things","_law_span"] (aJ FZ):=cG
noncomputable def Ax:S:=(aq (bO (fM (cU (cD (cC mG (aA (s2 aN (aj 6) (ao (.int 0))) au)))) (fM (cU (cD (cC mG (aA (s2 aN (aj 6) (ao (.int 1))) au)))) (cU (cD (cC mG (aA (s2 aN (aj 6) (ao (.int 3))) au)))))) (aq (aM (ao (.bl false))) aC) aC) aC)
noncomputable def zU:E:=(s2 (aH .ge) (s2 bR (s2 aN (aj 0) (ao (.int 1))) (aj 1)) (sN pW (aA (aj 2) au)))
def DY:E:=(aj 0)
noncomputable def HY:S:=(aq (aQ 4 (bH "JoinStation" "state" wU (aj 0) au)) (aq (bO (fM (cU (cD (fL aR "tuple" (aj 4)))) (fM (s2 (aH .ne) (sN fu (aA (aj 4) au)) (ao (.int 2))) (s2 (aH .ne) (s2 aN (aj 4) (ao (.int 0))) (aj 1)))) (aq (aM (ao (.bl false))) aC) aC) (aq (aQ 5 (pI (lW 1000 [("_law_span",3),("_law_marks",1)] (aj 2) zU DY))) (aq (bO (fM (cU (cD (fL aR "list" (s2 aN (aj 4) (ao (.int 1)))))) (s2 (aH .ne) (s2 aN (aj 4) (ao (.int 1))) (aj 5))) (aq (aM (ao (.bl false))) aC) aC) (aq (B_ 1000 6 (s2 aN (aj 4) (ao (.int 1))) Ax) (aq (fW (s2 aN (aj 4) (ao (.int 0))) (ao (.int 7))) (aq (fW (s2 aN (aj 4) (ao (.int 1))) (ao (.int 7))) (aq (aM (ao (.bl true))) aC))))))))
def yE:G:=bF 7 HY
abbrev wu:Stmt:=lM (top 40) 1
theorem U5:FnScope ["self"] ["self"] (aJ wu):=cG
noncomputable def Dq:S:=(aq (aM (sN pW (aA (bC "JoinStation" "marks" (aj 0)) au))) aC)
def j5:G:=bF 1 Dq
abbrev wC:Stmt:=lM (top 46) 1
theorem U9:FnScope ["self","way","thing","told","other"] ["self","way","thing"] (aJ wC):=cG
def Jj:E:=(cC wX (aA (aj 0) au))
noncomputable def Ej:S:=(aq (lX 3 (nA (s2 (aH .eq) (aj 1) (ao (.int 0))) (gW gk rO (bC "JoinStation" "pair" (aj 0)) (aA (aj 2) (aA (aj 4) au))) (gW gk rO (bC "JoinStation" "pair" (aj 0)) (aA (aj 4) (aA (aj 2) au))))) aC)
noncomputable def Ds:S:=(aq (fW (s2 aN (bC "JoinStation" "kept" (aj 0)) (aj 1)) (aj 2)) (aq (yX 3 (aX au)) (aq (dW 4 (fH (pI (s2 aN (bC "JoinStation" "kept" (aj 0)) (s2 dU (ao (.int 1)) (aj 1))))) Ej) (aq (lY 3) (aq (aM (pH [] (fH (aj 3)) (ao (.bl true)) Jj)) aC)))))
def rD:G:=bF 5 Ds
abbrev wj:Stmt:=lM (top 46) 3
theorem U4:FnScope ["self","low","kept"] ["self","low","kept"] (aJ wj):=cG
noncomputable def zT:E:=(s2 (aH .ge) (s2 bR (s2 aN (aj 0) (ao (.int 0))) (bC "JoinStation" "span" (aj 2))) (aj 1))
def DX:E:=(aj 0)
noncomputable def Dp:S:=(aq (aM (gY (lW 1000 [("low",1),("self",0)] (aj 2) zT DX))) aC)
def lK:G:=bF 3 Dp
abbrev wg:Stmt:=lM (top 46) 2
theorem U3:FnScope ["self","low"] ["self","low"] (aJ wg):=cG
noncomputable def Dm:S:=(aq (fX "JoinStation" "kept" (aj 0) (aW (aA (bH "JoinStation" "left_at" lK (aj 0) (aA (aj 1) (aA (s2 aN (bC "JoinStation" "kept" (aj 0)) (ao (.int 0))) au))) (aA (bH "JoinStation" "left_at" lK (aj 0) (aA (aj 1) (aA (s2 aN (bC "JoinStation" "kept" (aj 0)) (ao (.int 1))) au))) au)))) (aq (aM (aX au)) aC))
def wR:G:=bF 2 Dm
abbrev wD:Stmt:=lM (top 40) 4
theorem U_:FnScope ["self","low"] ["self","low"] (aJ wD):=cG
def QW:E:=(cC wX (aA (aj 0) au))
noncomputable def Dt:S:=(aq (aM (s2 bR (pH [] (fH (bH "JoinStation" "close_at" wR (aj 0) (aA (aj 1) au))) (ao (.bl true)) QW) (aX (aA (aW (aA (ao (.str "mark")) (aA (aj 1) au))) au)))) aC)
def wV:G:=bF 2 Dt
abbrev wB:Stmt:=lM (top 40) 3
theorem U8:FnScope ["self","way","mark","before","low"] ["self","way","mark"] (aJ wB):=cG
noncomputable def yr:S:=(aq (bO (s2 (aH .le) (aj 2) (s2 aN (bC "JoinStation" "marks" (aj 0)) (aj 1))) (aq (aM (aX au)) aC) aC) (aq (aQ 3 (bH "JoinStation" "low" j5 (aj 0) au)) (aq (nF (bC "JoinStation" "marks" (aj 0)) (aj 1) (aj 2)) (aq (aQ 4 (bH "JoinStation" "low" j5 (aj 0) au)) (aq (bO (s2 (aH .eq) (aj 4) (aj 3)) (aq (aM (aX au)) aC) aC) (aq (aM (bH "JoinStation" "tell_low" wV (aj 0) (aA (aj 4) au))) aC))))))
def pD:G:=bF 5 yr
abbrev wA:Stmt:=lM (top 40) 2
theorem U7:FnScope ["self","way","item"] ["self","way","item"] (aJ wA):=cG
noncomputable def zQ:S:=(aq (bO (s2 (aH .eq) (s2 aN (aj 2) (ao (.int 0))) (ao (.str "mark"))) (aq (aM (bH "JoinStation" "take_mark" pD (aj 0) (aA (aj 1) (aA (s2 aN (aj 2) (ao (.int 1))) au)))) aC) aC) (aq (aM (bH "JoinStation" "take_thing" rD (aj 0) (aA (aj 1) (aA (dG (aj 2) (fK (ao (.int 1))) gD) au)))) aC))
def fU:G:=bF 3 zQ
abbrev nJ:Stmt:=top 65
theorem Vt:FnScope ["_law_script","_law_span","_law_form","_law_words_here","_law_station","_law_keys_here","_law_things","_law_marks","_law_cell","_law_way","_law_time","_law_before","_law_due","_law_found","_law_key","_law_item"] ["_law_script"] (aJ nJ):=cG
noncomputable def Er:S:=(aq (aM (s2 (aH .eq) (bH "JoinStation" "low" j5 (aj 4) au) (sN pW (aA (aj 7) au)))) aC)
noncomputable def S9:S:=(aq (bO (cU (cD (cC yE (aA (aj 4) (aA (aj 7) (aA (aj 6) (aA (aj 1) au))))))) (aq (aM (ao (.bl false))) aC) aC) aC)
noncomputable def Bd:S:=(aq (bO (fM (cU (cD (cC yF (aA (aj 13) au)))) (s2 (aH .ne) (aj 13) (aj 12))) (aq (aM (ao (.bl false))) aC) aC) S9)
noncomputable def xg:S:=(aq (bO (s2 (aH .eq) (s2 oMod (s2 kI (aj 8) (ao (.int 2))) (ao (.int 5))) (ao (.int 0))) (aq (aQ 11 (sN pW (aA (aj 7) au))) (aq (nF (aj 7) (aj 9) (aj 10)) (aq (aQ 12 (aX au)) (aq (bO (s2 (aH .gt) (sN pW (aA (aj 7) au)) (aj 11)) (aq (aQ 12 (aX (aA (aW (aA (ao (.str "mark")) (aA (sN pW (aA (aj 7) au)) au))) au))) aC) aC) (aq (aQ 13 (bH "JoinStation" "take_in" fU (aj 4) (aA (aj 9) (aA (aW (aA (ao (.str "mark")) (aA (aj 10) au))) au)))) aC))))) (aq (aQ 14 (s2 aN (aX (aA (s2 aN (aj 5) (ao (.int 0))) (aA (s2 aN (aj 5) (ao (.int 1))) (aA (s2 aN (aj 5) (ao (.int 2))) (aA (s2 aN (aj 5) (ao (.int 0))) au))))) (s2 dU (s2 oMod (s2 kI (aj 8) (ao (.int 2))) (ao (.int 5))) (ao (.int 1))))) (aq (aQ 15 (aW (aA (ao (.str "thing")) (aA (aj 10) (aA (aj 14) (aA (s2 dU (s2 oMod (s2 kI (aj 8) (ao (.int 37))) (s2 bR (s2 eX (ao (.int 2)) (s2 dw (ao (.int 10)) (ao (.int 60)))) (ao (.int 1)))) (s2 dw (ao (.int 10)) (ao (.int 60)))) au)))))) (aq (aQ 12 (cC tY (aA (aj 6) (aA (aj 9) (aA (aj 15) (aA (aj 1) (aA (aj 2) au))))))) (aq (fW (aj 6) (s2 xq (aW (aA (aj 9) au)) (dG (aj 15) (fK (ao (.int 1))) gD))) (aq (aQ 13 (bH "JoinStation" "take_in" fU (aj 4) (aA (aj 9) (aA (aj 15) au)))) aC)))))) Bd)
noncomputable def S8:S:=(aq (aQ 10 (sN gJ (aA (s2 dw (ao (.int 10)) (ao (.int 12))) (aA (s2 bR (s2 aN (aj 7) (aj 9)) (s2 oMod (s2 kI (aj 8) (ao (.int 10))) (s2 bR (s2 eX (ao (.int 2)) (aj 1)) (ao (.int 4))))) au)))) xg)
def El:S:=(aq (aQ 9 (s2 oMod (aj 8) (ao (.int 2)))) S8)
noncomputable def Kd:S:=(aq (dW 8 (fH (xP (aj 0) (fK (ao (.int 2))) (fK (ao (.int 40))))) El) Er)
noncomputable def Kc:S:=(aq (aQ 7 (gY (aX (aA (ao (.int 0)) (aA (ao (.int 0)) au))))) Kd)
def Ka:S:=(aq (aQ 6 (gY (aX au))) Kc)
noncomputable def J_:S:=(aq (aQ 5 (cC Aa (aA (s2 kI (cC tX (aA (aj 0) (aA (ao (.int 1)) au))) (ao (.int 4))) au))) Ka)
noncomputable def J9:S:=(aq (aQ 4 (cC yK (aA (aW (aA (ao (.str "join")) (aA (ao (.str "j")) (aA (aW (aA (ao (.str "a")) (aA (ao (.str "b")) au))) (aA (aj 3) au))))) au))) J_)
noncomputable def J8:S:=(aq (aQ 3 (s2 xq (aW (aA (sN mW (aA (aj 1) au)) au)) (cC Ab (aA (aj 2) au)))) J9)
noncomputable def J7:S:=(aq (aQ 2 (s2 oMod (cC tX (aA (aj 0) (aA (ao (.int 1)) au))) (ao (.int 4)))) J8)
noncomputable def Dw:S:=(aq (aQ 1 (s2 oMod (s2 kI (cC tX (aA (aj 0) (aA (ao (.int 0)) au))) (ao (.int 4))) (s2 aN (aX (aA (ao (.int 9)) (aA (ao (.int 9)) (aA (ao (.int 61)) (aA (s2 bR (s2 dw (ao (.int 10)) (ao (.int 12))) (ao (.int 1))) au))))) (s2 oMod (cC tX (aA (aj 0) (aA (ao (.int 0)) au))) (ao (.int 4)))))) J7)
def Rj:G:=bF 16 Dw
section
variable {P:Program}{w:World}{K:Fgx}{mg:Mgx}{C:Ad}{base:Heap}{k k0:Nat}{f:Addr}
theorem zaI (T:Txt K mg C w):RT P w K mg base k f ["text"] "is_figures" Gk Il:=fun cdv A outer s H E hr=>by
 refine cF hr fun hu=>?_;have nd:=(Vo).nd;have B_any:=T.blt "any" (by x_go);obtain⟨t_FIGURES,m_FIGURES⟩:=T.k_FIGURES;refine aG (bT (SW.st (nU (Ct hu Sv Es) (wK (g_ (dX (Xv rfl) rfl B_any boot_any ze9 (aF (SN.sem (GJ "sign" [] rfl (by x_go) (zgS Sv) (fun _ _ _ _ _ _=>GX) (fun _ _ _ _ _ _=>(VJ (zW (X:=d8 _ _ _ _ _ _ _ _ _) hu .notin) Bv (d9 rfl (.inl (by kernel_rfl))) (Ck (Bq (v:=(.str "0123456789")) rfl m_FIGURES ⟨t_FIGURES,rfl⟩))))) DN) aL Wm)))))) (aG (aZ Eb) aK) aK) ?_;exact aG (aZ (N8 (Cm hu Sv Es) (wF (Cm hu (Ek Sv Ei) Es)))) aK
theorem zan (T:Txt K mg C w)(a_is_figures:aY P w K mg base k "is_figures" 1 Af):RT P w K mg base k f ["text","figures"] "is_signed_figures" Gp Ip:=fun cdv A outer s H E hr=>by
 refine cF hr fun hu=>?_;have nd:=(Vr).nd;refine aG (cg (i:=1) nd rfl Lv (VN (g_ (N7 PySem.F.slot_str_startswith PySem.F.type_str_startswith zbc zbh Sv (aF Es aL bV))) (GD Sv (wH (Wx:=W0) Ei) zm) Sv)) ?_;exact aG (aZ (Cg (Cm hu Sv Es) (wF (cW a_is_figures hr rfl (aF Sv aL aO) (cnt_cons cnt_nil))))) aK
theorem zaL (T:Txt K mg C w)(a_is_signed_figures:aY P w K mg base k "is_signed_figures" 1 Ai):RT P w K mg base k f ["text"] "is_number" Gn Io:=fun cdv A outer s H E hr=>by
 refine cF hr fun hu=>?_;have nd:=(Vq).nd;have B_len:=T.blt "len" (by x_go);obtain⟨t_MOST_FIGURES,m_MOST_FIGURES⟩:=T.k_MOST_FIGURES;exact aG (aZ (Cg (cW a_is_signed_figures hr rfl (aF Sv aL aO) (cnt_cons cnt_nil)) (wF (Cm hu (dX DG rfl B_len xcY Fj (aF (N7 PySem.F.slot_str_lstrip PySem.F.type_str_lstrip zbd zbg Sv (aF Es aL bV)) aL mj)) (sW (Bq (v:=(.int 20)) rfl m_MOST_FIGURES ⟨t_MOST_FIGURES,rfl⟩)))))) aK
theorem zd3 (T:Txt K mg C w):RT P w K mg base k f ["number"] "held" Gj Ik:=fun cdv A outer s H E hr=>by
 refine cF hr fun hu=>?_;have nd:=(Vn).nd;have B_max:=T.blt "max" (by x_go);have B_min:=T.blt "min" (by x_go);obtain⟨t_MOST_VALUE,m_MOST_VALUE⟩:=T.k_MOST_VALUE;exact aG (aZ (dX (yu rfl) rfl B_max boot_max yR (aF (Oa Pb Ma (sW (Bq (v:=(.int 1000000000000000000000000000000000000000000000000000000000000)) rfl m_MOST_VALUE ⟨t_MOST_VALUE,rfl⟩))) (aF (dX (DK rfl) rfl B_min xce Fl (aF (sW (Bq (v:=(.int 1000000000000000000000000000000000000000000000000000000000000)) rfl m_MOST_VALUE ⟨t_MOST_VALUE,rfl⟩)) (aF Sv aL aO) aO)) aL mj) Wn))) aK
theorem zbj (T:Txt K mg C w)(a_is_number:aY P w K mg base k "is_number" 1 Ah):RT P w K mg base k f ["word","letters"] "is_leaf" Gm Im:=fun cdv A outer s H E hr=>by
 refine cF hr fun hu=>?_;have nd:=(Vp).nd;obtain⟨t_ALL_LETTERS,m_ALL_LETTERS⟩:=T.k_ALL_LETTERS;exact aG (aZ (N8 (cW a_is_number hr rfl (aF Sv aL aO) (cnt_cons cnt_nil)) (wF (Cg (Cm hu Sv (zfV rfl m_ALL_LETTERS.1 m_ALL_LETTERS.2)) (wF (Cm hu Sv Sv)))))) aK
theorem zay (T:Txt K mg C w):Hx P w K mg base k f ["word","kinds","needed","place"] "take_needed" Gy IV:=fun cdv A outer s H E Wx hr XF XP=>by
 refine cF hr fun hu=>?_;have nd:=(VB).nd;have B_range:=T.blt "range" (by x_go);obtain⟨t_NEEDS,m_NEEDS⟩:=T.k_NEEDS;refine aG (cg (i:=2) nd rfl Lw (VP Sw rfl m_NEEDS.1 m_NEEDS.2)) ?_;exact aG (wI PassesOwn.leaving rfl nd rfl Lw (V4 rfl B_range (aF (Ek Sw Ei) aL cJ)) (aG (bT (SW.st (nU (mK (g_ Sw)) (wK (Ct hu (GC Sw) (Ek Sw Ei))))) (aG (Om XF rfl T.xm_NoExpr T.xc_NoExpr T.xn_NoExpr T.xk_NoExpr rfl (VL (zeM Sw (V6 V7)))) aK) aK) aK)) aK
theorem zaA (T:Txt K mg C w)(a_is_leaf:aY P w K mg base k "is_leaf" 2 Ag)(x_take_needed:lq P w K mg base k "take_needed" 2 yL):Hx P w K mg base k f ["words","letters","wanted","kinds","word"] "check_words" Gh Ii:=fun cdv A outer s H E Wx hr XF XP=>by
 refine cF hr fun hu=>?_;have nd:=(Vl).nd;have B_reversed:=T.blt "reversed" (by x_go);obtain⟨t_NEEDS,m_NEEDS⟩:=T.k_NEEDS;refine aG (cg (i:=3) nd rfl Lw (pJ (dZ aL))) ?_;refine aG (wI PassesOwn.leaving rfl nd rfl Lw (V5 rfl B_reversed (aF Sw aL aO)) (aG (bT (Wq Sw rfl m_NEEDS.1 m_NEEDS.2) (aG (Oj (SX.se XP (zdm x_take_needed hr rfl (aF Sw (aF Sw aL aO) aO) (cnt_cons (cnt_cons cnt_nil))))) (aG (sZ Sw (Ek (VP Sw rfl m_NEEDS.1 m_NEEDS.2) Ei)) aK)) (aG (bT (g_ (cW a_is_leaf hr rfl (aF Sw (aF Sw aL aO) aO) (cnt_cons (cnt_cons cnt_nil)))) (aG (sZ Sw Es) aK) (aG (Om XF rfl T.xm_NoExpr T.xc_NoExpr T.xn_NoExpr T.xk_NoExpr rfl (VL (zdD Sw (V6 V7)))) aK)) aK)) aK)) ?_;exact aG (bT (Ct hu Sw (SN.sem (dZ (aF Sw aL aO)) lst_is)) (aG (Om XF rfl T.xm_NoExpr T.xc_NoExpr T.xn_NoExpr T.xk_NoExpr rfl Es) aK) aK) aK
theorem zaY (T:Txt K mg C w):RT P w K mg base k f ["word","left","right"] "combined" Gi Ij:=fun cdv A outer s H E hr=>by
 refine cF hr fun hu=>?_;have nd:=(Vm).nd;have B_max:=T.blt "max" (by x_go);have B_min:=T.blt "min" (by x_go);refine aG (bT (Ct hu Sv Es) (aG (aZ (bA kJ kW Sv Sv)) aK) aK) ?_;refine aG (bT (Ct hu Sv Es) (aG (aZ (bA xG xH Sv Sv)) aK) aK) ?_;refine aG (bT (Ct hu Sv Es) (aG (aZ (bA Bm Bw Sv Sv)) aK) aK) ?_;refine aG (bT (Ct hu Sv Es) (aG (aZ (dX (DK rfl) rfl B_min xce Fl (aF Sv (aF Sv aL aO) aO))) aK) aK) ?_;refine aG (bT (Ct hu Sv Es) (aG (aZ (dX (yu rfl) rfl B_max boot_max yR (aF Sv (aF Sv aL aO) aO))) aK) aK) ?_;refine aG (bT (Ct hu Sv Es) (aG (aZ (Cm hu Sv Sv)) aK) aK) ?_;refine aG (bT (Ct hu Sv Es) (aG (aZ (Cm hu Sv Sv)) aK) aK) ?_;refine aG (bT (Ct hu Sv Es) (aG (aZ (Cg Sv (wF Sv))) aK) aK) ?_;exact aG (aZ (N8 Sv (wF Sv))) aK
theorem zaC (T:Txt K mg C w):RT P w K mg base k f ["word","time","value","other"] "leaf_value" Gs Iu:=fun cdv A outer s H E hr=>by
 refine cF hr fun hu=>?_;have nd:=(Vu).nd;have B_int:=T.blt "int" (by x_go);refine aG (bT (Ct hu Sv Es) (aG (aZ Sv) aK) aK) ?_;refine aG (bT (Ct hu Sv Es) (aG (aZ Sv) aK) aK) ?_;refine aG (bT (Ct hu Sv Es) (aG (aZ Sv) aK) aK) ?_;exact aG (aZ (Ci Ja rfl B_int boot_int L_ (aF Sv aL aO))) aK
theorem zaW (T:Txt K mg C w)(a_combined:aY P w K mg base k "combined" 3 Ac)(a_leaf_value:aY P w K mg base k "leaf_value" 4 Aj):RT P w K mg base k f ["words","time","value","other","results","word","left","right"] "reckoned" Gw Iz:=fun cdv A outer s H E hr=>by
 refine cF hr fun hu=>?_;have nd:=(Vy).nd;have B_reversed:=T.blt "reversed" (by x_go);obtain⟨t_NEEDS,m_NEEDS⟩:=T.k_NEEDS;refine aG (cg (i:=4) nd rfl Lv (pJ (dZ aL))) ?_;refine aG (wI xbJ rfl nd rfl Lv (V5 rfl B_reversed (aF Sv aL aO)) (aG (bT (Ct hu Sv Es) (aG (sZ Sv (V0 (GC Sv))) aK) (aG (bT (Wq Sv rfl m_NEEDS.1 m_NEEDS.2) (aG (cg (i:=6) nd rfl Lv (GC Sv)) (aG (cg (i:=7) nd rfl Lv (GC Sv)) (aG (sZ Sv (cW a_combined hr rfl (aF Sv (aF Sv (aF Sv aL aO) aO) aO) (cnt_cons (cnt_cons (cnt_cons cnt_nil))))) aK))) (aG (sZ Sv (cW a_leaf_value hr rfl (aF Sv (aF Sv (aF Sv (aF Sv aL aO) aO) aO) aO) (cnt_cons (cnt_cons (cnt_cons (cnt_cons cnt_nil)))))) aK)) aK)) aK)) ?_;exact aG (aZ (Ek Sv Ei)) aK
theorem zaw (T:Txt K mg C w):RT P w K mg base k f ["self","words"] "Expr.__init__" vo Di:=fun cdv A outer s H E hr=>by
 refine cF hr fun hu=>?_;have nd:=(UG).nd;have B_tuple:=T.blt "tuple" (by x_go);exact aG (zp T.cl_Expr T.na_Expr_parts Sv (Ci XR rfl B_tuple boot_tuple zdN (aF Sv aL aO))) aK
theorem zaK (T:Txt K mg C w)(hk0:k0 + 1=k)(a_check_words:aY P w K mg base k "check_words" 3 yI)(a_Expr___init__:mz P w K mg base k0 C.Expr 2 z_):RT P w K mg base k f ["words","letters"] "read_expr" Gv Iw:=fun cdv A outer s H E hr=>by
 refine cF hr fun hu=>?_;have hr1:=hr;rw[<-hk0]at hr1;have nd:=(Vx).nd;refine aG (Oj (cW a_check_words hr rfl (aF Sv (aF Sv (aF Es aL bV) aO) aO) (cnt_cons (cnt_cons (cnt_cons cnt_nil))))) ?_;exact aG (aZ (VR T.cl_Expr a_Expr___init__ hr1 rfl (aF Sv aL aO) (cnt_cons cnt_nil))) aK
theorem zaH (T:Txt K mg C w)(a_reckoned:aY P w K mg base k "reckoned" 4 tZ):RT P w K mg base k f ["self","time","value","other"] "Expr.value" xR Dj:=fun cdv A outer s H E hr=>by
 refine cF hr fun hu=>?_;have nd:=(UJ).nd;exact aG (aZ (cW a_reckoned hr rfl (aF (nQ T.cl_Expr T.na_Expr_parts Sv) (aF Sv (aF Sv (aF Sv aL aO) aO) aO) Wj) (cnt_cons (cnt_cons (cnt_cons (cnt_cons cnt_nil)))))) aK
theorem zap (T:Txt K mg C w)(a_held:aY P w K mg base k "held" 1 Ae)(a_Expr_value:cV P w K mg base k C.Expr "value" 4 yC):yh P w K mg base k ["time","value","other","expr"] Dv j_:=fun f cd cl A outer s H hr=>by
 refine cF hr fun hu=>?_;have nd:=(Vj).nd;exact aG (aZ (cW a_held hr rfl (aF (sX T.cl_Expr a_Expr_value hr (d9 rfl (.inr (.inr zac))) (aF Su (aF Su (aF Su aL aO) aO) aO) (cnt_cons (cnt_cons (cnt_cons cnt_nil)))) aL mj) (cnt_cons cnt_nil))) aK
theorem zaM (T:Txt K mg C w){c Pt:Addr}(ht:PySem.W.tabIn K "change_of"=some (c,Pt))(hc:PySem.W.codeHdIn K c Pt=true)(hB:mC mg base)(a_read_expr:aY P w K mg base k "read_expr" 2 Ak):Hw P w K mg base k f ["words","letters","expr","change"] "change_of" Ce Du c:=fun A outer s H E hr=>by
 refine Uy hr fun hu=>?_;have nd:=(Vi).nd;refine N5 rfl ?_ ?_
 ·exact(cg (i:=2) nd rfl (.inr zat) (cW a_read_expr hr rfl (aF Sv (aF Sv aL aO) aO) (cnt_cons (cnt_cons cnt_nil))))
 exact Uz (Te (j:=3) ht hc hB nd)
theorem zar (T:Txt K mg C w)(a_change_of__change:h_ P w K mg base k j_ 3 yH):yh P w K mg base k ["one","other","later","span","change"] Dz gk:=fun f cd cl A outer s H hr=>by
 refine cF hr fun hu=>?_;have nd:=(Vw).nd;have B_abs:=T.blt "abs" (by x_go);have B_max:=T.blt "max" (by x_go);refine aG (bT (SW.st (nU (Ct hu (Ek Su Ei) (Ek Su Ei)) (wK (Ct hu (dX Qm rfl B_abs boot_abs Ub (aF (bA xG xH (Ek Su Ei) (Ek Su Ei)) aL mJ)) (d9 rfl (.inr (.inr zag))))))) (aG (aZ (SN.sem (dZ aL) lst_is)) aK) aK) ?_;refine aG (cg (i:=2) nd rfl Lu (dX (yu rfl) rfl B_max boot_max yR (aF (Ek Su Ei) (aF (Ek Su Ei) aL cJ) cJ))) ?_;exact aG (aZ (SN.sem (dZ (aF (dY (aF Su (aF (Ek Su Ei) (aF (zbI a_change_of__change hr (d9 rfl (.inr (.inr zae))) (aF Su (aF (Ek Su Ei) (aF (Ek Su Ei) aL cJ) cJ) aO) (cnt_cons (cnt_cons (cnt_cons cnt_nil)))) aL mj) cJ) aO)) aL zu)) lst_is)) aK
theorem zaN (T:Txt K mg C w){c Pt:Addr}(ht:PySem.W.tabIn K "pairer_of"=some (c,Pt))(hc:PySem.W.codeHdIn K c Pt=true)(hB:mC mg base)(a_change_of:aY P w K mg base k "change_of" 2 wW):Hw P w K mg base k f ["row","span","change","pair"] "pairer_of" za Dy c:=fun A outer s H E hr=>by
 refine Uy hr fun hu=>?_;have nd:=(Vv).nd;have B_int:=T.blt "int" (by x_go);refine N5 rfl ?_ ?_
 ·exact(cg (i:=1) nd rfl (.inr zau) (Ci Ja rfl B_int boot_int L_ (aF (Ek (Ek Sv Ei) Ei) aL cJ)))
 refine N5 rfl ?_ ?_
 ·exact(cg (i:=2) nd rfl (.inr zaq) (cW a_change_of hr rfl (aF (N_ (Ek Sv Ei) (wH (Wx:=W0) Ei) zm) (aF Es aL bV) cJ) (cnt_cons (cnt_cons cnt_nil))))
 exact Uz (Te (j:=3) ht hc hB nd)
theorem zby (T:Txt K mg C w):RT P w K mg base k f ["thing"] "item_of" Gq Ir:=fun cdv A outer s H E hr=>by
 refine cF hr fun hu=>?_;have nd:=(Vs).nd;exact aG (aZ (dY (aF Es (aF (Ek Sv Ei) (aF (Ek Sv Ei) (aF (Ek Sv Ei) aL cJ) cJ) cJ) bV))) aK
theorem zaa (T:Txt K mg C w):RT P w K mg base k f ["self","row"] "Station.__init__" vp HW:=fun cdv A outer s H E hr=>by
 refine cF hr fun hu=>?_;have nd:=(UL).nd;have B_len:=T.blt "len" (by x_go);exact aG (zp T.cl_JoinStation T.na_JoinStation_marks Sv (pJ (zdp (dZ (aF Ei aL bV)) (dX DG rfl B_len xcY Fj (aF (Ek Sv Ei) aL cJ))))) aK
theorem zai (T:Txt K mg C w)(a_pairer_of:aY P w K mg base k "pairer_of" 1 rN)(a_JoinStation_Station___init__:nW P w K mg base k "Station" "__init__" 2 yD):RT P w K mg base k f ["self","row"] "JoinStation.__init__" vq Dk:=fun cdv A outer s H E hr=>by
 refine cF hr fun hu=>?_;have nd:=(UW).nd;have B_int:=T.blt "int" (by x_go);refine aG (Oj (zcV a_JoinStation_Station___init__ hr rfl (aF Sv (aF Sv aL aO) aO) (cnt_cons (cnt_cons cnt_nil)))) ?_;refine aG (zp T.cl_JoinStation T.na_JoinStation_span Sv (Ci Ja rfl B_int boot_int L_ (aF (Ek (Ek Sv Ei) Ei) aL cJ))) ?_;refine aG (zp T.cl_JoinStation T.na_JoinStation_pair Sv (cW a_pairer_of hr rfl (aF Sv aL aO) (cnt_cons cnt_nil))) ?_;exact aG (zp T.cl_JoinStation T.na_JoinStation_kept Sv (dY (aF (pJ (dZ aL)) (aF (pJ (dZ aL)) aL Wl) Wl))) aK
theorem zaE (T:Txt K mg C w)(hk0:k0 + 1=k)(a_JoinStation___init__:mz P w K mg base k0 C.JoinStation 2 wQ):RT P w K mg base k f ["row"] "station_of" Gx IK:=fun cdv A outer s H E hr=>by
 refine cF hr fun hu=>?_;have hr1:=hr;rw[<-hk0]at hr1;have nd:=(Vz).nd;refine aG (bT (Ct hu (Ek Sv Ei) Es) (aG xX aK) aK) ?_;refine aG (bT (Ct hu (Ek Sv Ei) Es) (aG xX aK) aK) ?_;refine aG (bT (Ct hu (Ek Sv Ei) Es) (aG xX aK) aK) ?_;refine aG (bT (Ct hu (Ek Sv Ei) Es) (aG xX aK) aK) ?_;refine aG (bT (Ct hu (Ek Sv Ei) (dY (aF Es (aF Es aL bV) bV))) (aG xX aK) aK) ?_;refine aG (bT (Ct hu (Ek Sv Ei) Es) (aG xX aK) aK) ?_;refine aG (bT (Ct hu (Ek Sv Ei) Es) (aG (aZ (VR T.cl_JoinStation a_JoinStation___init__ hr1 rfl (aF Sv aL aO) (cnt_cons cnt_nil))) aK) aK) ?_;refine aG ?_ ?_
 ·exact xX
 exact aK
theorem zbW (T:Txt K mg C w):RT P w K mg base k f ["_law_found"] "_law_whole" Gf Ig:=fun cdv A outer s H E hr=>by
 refine cF hr fun hu=>?_;have nd:=(Vg).nd;have B_bool:=T.blt "bool" (by x_go);have B_int:=T.blt "int" (by x_go);have B_isinstance:=T.blt "isinstance" (by x_go);exact aG (aZ (Cg (zc (T:="int") (fun t b h=>yM t "int" b h) Sv rfl B_isinstance rfl B_int boot_int) (wF (V0 (zc (T:="bool") (fun t b h=>yM t "bool" b h) Sv rfl B_isinstance rfl B_bool boot_bool))))) aK
theorem za3 (T:Txt K mg C w):RT P w K mg base k f ["_law_script","_law_k"] "_law_cell_at" FW HX:=fun cdv A outer s H E hr=>by
 refine cF hr fun hu=>?_;have nd:=(Va).nd;have B_len:=T.blt "len" (by x_go);refine aG (bT (Ct hu Sv (dX DG rfl B_len xcY Fj (aF Sv aL aO))) (aG (aZ (Ek Sv Sv)) aK) aK) ?_;exact aG (aZ Ei) aK
theorem zbP (T:Txt K mg C w):RT P w K mg base k f ["_law_form"] "_law_words" Gg Ih:=fun cdv A outer s H E hr=>by
 refine cF hr fun hu=>?_;have nd:=(Vh).nd;refine aG (bT (Ct hu Sv Ei) (aG (aZ (dY (aF Es (aF Es (aF Es aL bV) bV) bV))) aK) aK) ?_;refine aG (bT (Ct hu Sv Ei) (aG (aZ (dY (aF Es (aF Es (aF Es (aF Es (aF Es aL bV) bV) bV) bV) bV))) aK) aK) ?_;refine aG (bT (Ct hu Sv Ei) (aG (aZ (dY (aF Es (aF Es (aF Es aL bV) bV) bV))) aK) aK) ?_;exact aG (aZ (dY (aF Es (aF Es (aF Es aL bV) bV) bV))) aK
theorem zdb (T:Txt K mg C w):RT P w K mg base k f ["_law_form","_law_time","_law_v","_law_w","_law_value"] "_law_made" Gd Ib:=fun cdv A outer s H E hr=>by
 refine cF hr fun hu=>?_;have nd:=(Ve).nd;have B_max:=T.blt "max" (by x_go);have B_min:=T.blt "min" (by x_go);refine aG (cg (i:=4) nd rfl Lv (Ek (SN.sem (dZ (aF (bA xG xH Sv Sv) (aF (bA kJ kW Sv (bA Bm Bw Ei Sv)) (aF (dX (yu rfl) rfl B_max boot_max yR (aF Sv (aF Sv aL aO) aO)) (aF (bA Bm Bw Sv Sv) aL mJ) mj) mJ) mJ)) lst_is) Sv)) ?_;exact aG (aZ (dX (yu rfl) rfl B_max boot_max yR (aF (Oa Pb Ma (bA yQ yU Ei Ei)) (aF (dX (DK rfl) rfl B_min xce Fl (aF (bA yQ yU Ei Ei) (aF Sv aL aO) mJ)) aL mj) Wn))) aK
theorem zcz (T:Txt K mg C w):RT P w K mg base k f ["_law_cell","_law_size","_law_word","_law_place"] "_law_keys" Ga H_:=fun cdv A outer s H E hr=>by
 refine cF hr fun hu=>?_;have nd:=(Vc).nd;have B_range:=T.blt "range" (by x_go);refine aG (cg (i:=1) nd rfl Lv (bA kJ kW Ei (bA nq nu (d9 rfl (.inr Lu)) Ei))) ?_;refine aG (cg (i:=2) nd rfl Lv (N7 PySem.F.slot_str_join PySem.F.type_str_join zc0 zdd Es (aF (SN.sem (GJ "_law_k" [("_law_cell",0)] rfl (by x_go) (V4 rfl B_range (aF Sv aL aO)) (fun _ _ _ _ _ _=>GX) (fun _ _ _ _ _ _=>(Ek Es (bA nq nu (bA kJ kW (bA u_ vf (d9 rfl (.inr (.inl (by kernel_rfl)))) Ei) (d9 rfl (.inl (by kernel_rfl)))) Ei)))) DN) aL Wm))) ?_;refine aG (cg (i:=3) nd rfl Lv (bA nq nu (bA u_ vf (d9 rfl (.inr Lu)) Ei) Sv)) ?_;exact aG (aZ (SN.sem (dZ (aF Sv (aF (bA kJ kW (bA kJ kW (GD Sv zm (wH (Wx:=W0) Sv)) Es) (GD Sv (wH (Wx:=W0) (bA kJ kW Sv Ei)) zm)) (aF Es aL bV) mJ) aO)) lst_is)) aK
theorem zb6 (T:Txt K mg C w)(a__made:aY P w K mg base k "_law_made" 4 yG):RT P w K mg base k f ["_law_things","_law_way","_law_item","_law_span","_law_form","_law_found","_law_other","_law_later","_law_pair"] "_law_pairs" Ge Ie:=fun cdv A outer s H E hr=>by
 refine cF hr fun hu=>?_;have nd:=(Vf).nd;have B_abs:=T.blt "abs" (by x_go);have B_max:=T.blt "max" (by x_go);have B_sorted:=T.blt "sorted" (by x_go);refine aG (Ol (i:=5) nd rfl Lv (dZ aL)) ?_;refine aG (wI xbJ rfl nd rfl Lv (zf (SN.sem (GK rfl B_sorted Sv) Og)) (aG (bT (SW.st (Wt (Ct hu (Ek Sv Ei) Sv) (Wt (Ct hu (Ek Sv Ei) (Ek Sv Ei)) (zc3 (Ct hu (dX Qm rfl B_abs boot_abs Ub (aF (bA xG xH (Ek Sv Ei) (Ek Sv Ei)) aL mJ)) Sv))))) (aG (cg (i:=7) nd rfl Lv (dX (yu rfl) rfl B_max boot_max yR (aF (Ek Sv Ei) (aF (Ek Sv Ei) aL cJ) cJ))) (aG (cg (i:=8) nd rfl Lv (dY (aF (Ek Sv Ei) (aF (Ek Sv Ei) aL cJ) cJ))) (aG (bT (Ct hu Sv Ei) (aG (cg (i:=8) nd rfl Lv (dY (aF (Ek Sv Ei) (aF (Ek Sv Ei) aL cJ) cJ))) aK) aK) (aG (zeJ rfl Lu (dY (aF Es (aF Sv (aF (Ek Sv Ei) (aF (cW a__made hr rfl (aF Sv (aF Sv (aF (Ek Sv Ei) (aF (Ek Sv Ei) aL cJ) cJ) aO) aO) (cnt_cons (cnt_cons (cnt_cons (cnt_cons cnt_nil))))) aL mj) cJ) aO) bV))) aK)))) aK) aK)) ?_;refine NZ ?_;exact aG (aZ Sv) aK
theorem zbT (T:Txt K mg C w)(a__whole:aY P w K mg base k "_law_whole" 1 mG):RT P w K mg base k f ["_law_found","_law_item"] "_law_kinds" Gb Ia:=fun cdv A outer s H E hr=>by
 refine cF hr fun hu=>?_;have nd:=(Vd).nd;have B_isinstance:=T.blt "isinstance" (by x_go);have B_list:=T.blt "list" (by x_go);have B_tuple:=T.blt "tuple" (by x_go);refine aG (bT (mK (g_ (zc (T:="list") (fun t b h=>yM t "list" b h) Sv rfl B_isinstance rfl B_list boot_list))) (aG (aZ Eb) aK) aK) ?_;refine aG (wI xbJ rfl nd rfl Lv (zf Sv) (aG (bT (SW.st (nU (mK (g_ (zc (T:="tuple") (fun t b h=>yM t "tuple" b h) Sv rfl B_isinstance rfl B_tuple boot_tuple))) (nU (mK (g_ (cW a__whole hr rfl (aF (Ek Sv Ei) aL cJ) (cnt_cons cnt_nil)))) (wK (mK (g_ (cW a__whole hr rfl (aF (Ek Sv (Oa Pb Ma Ei)) aL cJ) (cnt_cons cnt_nil)))))))) (aG (aZ Eb) aK) aK) aK)) ?_;exact aG (aZ Eb) aK
theorem zaj (T:Txt K mg C w):RT P w K mg base k f ["self","kept","way"] "JoinStation.all_kept" sU Dl:=fun cdv A outer s H E hr=>by
 refine cF hr fun hu=>?_;have nd:=(U0).nd;have B_sorted:=T.blt "sorted" (by x_go);refine aG (Ol (i:=1) nd rfl Lv (dZ aL)) ?_;refine aG (wI xbJ rfl nd rfl (.inr zab) (zgW (dY (aF Ei (aF Ei aL bV) bV))) (aG (Wh rfl Lu (SN.sem (zbS 1000 "thing" [("way",2)] rfl (by x_go) (Ek (nQ T.cl_JoinStation T.na_JoinStation_kept Sv) (d9 rfl (.inr Lu))) (fun _ _ _ _ _ _=>(bA Lx LR (dY (aF (d9 rfl (.inr (.inl (by kernel_rfl)))) aL aO)) (d9 rfl (.inl (by kernel_rfl)))))) Yh)) aK)) ?_;refine NZ ?_;exact aG (aZ (pJ (GK rfl B_sorted Sv))) aK
theorem zao (T:Txt K mg C w)(a_JoinStation_all_kept:cV P w K mg base k C.JoinStation "all_kept" 1 tW):RT P w K mg base k f ["self"] "Station.state" wz Dr:=fun cdv A outer s H E hr=>by
 refine cF hr fun hu=>?_;have nd:=(U6).nd;have B_list:=T.blt "list" (by x_go);exact aG (aZ (dY (aF (pJ (zdu rfl B_list (nQ T.cl_JoinStation T.na_JoinStation_marks Sv))) (aF (Cj T.cl_JoinStation a_JoinStation_all_kept hr Sv) aL mj) mj))) aK
theorem zc4 (T:Txt K mg C w)(a__whole:aY P w K mg base k "_law_whole" 1 mG)(a_JoinStation_state:cV P w K mg base k C.JoinStation "state" 1 wU):RT P w K mg base k f ["_law_station","_law_marks","_law_things","_law_span","_law_found","_law_due","_law_one"] "_law_kept" FZ HY:=fun cdv A outer s H E hr=>by
 refine cF hr fun hu=>?_;have nd:=(Vb).nd;have B_isinstance:=T.blt "isinstance" (by x_go);have B_len:=T.blt "len" (by x_go);have B_list:=T.blt "list" (by x_go);have B_min:=T.blt "min" (by x_go);have B_sorted:=T.blt "sorted" (by x_go);have B_tuple:=T.blt "tuple" (by x_go);refine aG (cg (i:=4) nd rfl Lv (Cj T.cl_JoinStation a_JoinStation_state hr Sv)) ?_;refine aG (bT (SW.st (nU (mK (g_ (zc (T:="tuple") (fun t b h=>yM t "tuple" b h) Sv rfl B_isinstance rfl B_tuple boot_tuple))) (nU (Ct hu (dX DG rfl B_len xcY Fj (aF Sv aL aO)) Ei) (wK (Ct hu (Ek Sv Ei) (d9 rfl (.inr Lu))))))) (aG (aZ Eb) aK) aK) ?_;refine aG (cg (i:=5) nd rfl Lv (SN.sem (GK rfl B_sorted (SN.sem (Wa 1000 "_law_one" [("_law_span",3),("_law_marks",1)] rfl (by x_go) Sv (fun _ _ _ _ _ _=>(Wg (Oo (zW (X:=d8 _ _ _ _ _ _ _ _ _) hu .ge) Bv (bA kJ kW (Ek (d9 rfl (.inl (by kernel_rfl))) Ei) (d9 rfl (.inr (.inl (by kernel_rfl))))) (dX (yw rfl) rfl B_min xce yS (aF (d9 rfl (.inr (.inl (by kernel_rfl)))) aL aO))))) (fun _ _ _ _ _ _=>(d9 rfl (.inl (by kernel_rfl))))) Yj)) Og)) ?_;refine aG (bT (SW.st (nU (mK (g_ (zc (T:="list") (fun t b h=>yM t "list" b h) (Ek Sv Ei) rfl B_isinstance rfl B_list boot_list))) (wK (Ct hu (Ek Sv Ei) Sv)))) (aG (aZ Eb) aK) aK) ?_;refine aG (zcq 1000 xbJ rfl nd rfl Lv (Ek Sv Ei) (aG (bT (SW.st (nU (mK (g_ (cW a__whole hr rfl (aF (Ek Sv Ei) aL cJ) (cnt_cons cnt_nil)))) (nU (mK (g_ (cW a__whole hr rfl (aF (Ek Sv Ei) aL cJ) (cnt_cons cnt_nil)))) (wK (mK (g_ (cW a__whole hr rfl (aF (Ek Sv Ei) aL cJ) (cnt_cons cnt_nil)))))))) (aG (aZ Eb) aK) aK) aK)) ?_;refine aG (sZ (Ek Sv Ei) Ei) ?_;refine aG (sZ (Ek Sv Ei) Ei) ?_;exact aG (aZ Eb) aK
theorem zas (T:Txt K mg C w):RT P w K mg base k f ["self"] "Station.low" wu Dq:=fun cdv A outer s H E hr=>by
 refine cF hr fun hu=>?_;have nd:=(U5).nd;have B_min:=T.blt "min" (by x_go);exact aG (aZ (dX (yw rfl) rfl B_min xce yS (aF (nQ T.cl_JoinStation T.na_JoinStation_marks Sv) aL Wj))) aK
theorem zad (T:Txt K mg C w)(a_item_of:aY P w K mg base k "item_of" 1 wX)(a_pairer_of__pair:h_ P w K mg base k gk 2 rO):RT P w K mg base k f ["self","way","thing","told","other"] "JoinStation.take_thing" wC Ds:=fun cdv A outer s H E hr=>by
 refine cF hr fun hu=>?_;have nd:=(U9).nd;have B_sorted:=T.blt "sorted" (by x_go);refine aG (sZ (Ek (nQ T.cl_JoinStation T.na_JoinStation_kept Sv) Sv) Sv) ?_;refine aG (Ol (i:=3) nd rfl Lv (dZ aL)) ?_;refine aG (wI xbJ rfl nd rfl Lv (zf (SN.sem (GK rfl B_sorted (Ek (nQ T.cl_JoinStation T.na_JoinStation_kept Sv) (bA xG xH Ei Sv))) Og)) (aG (Wh rfl Lu (VN (Ct hu Sv Ei) (VG T.cl_JoinStation T.na_JoinStation_pair a_pairer_of__pair hr Sv (aF Sv (aF Sv aL aO) aO) (cnt_cons (cnt_cons cnt_nil))) (VG T.cl_JoinStation T.na_JoinStation_pair a_pairer_of__pair hr Sv (aF Sv (aF Sv aL aO) aO) (cnt_cons (cnt_cons cnt_nil))))) aK)) ?_;refine NZ ?_;exact aG (aZ (SN.sem (GJ "pair" [] rfl (by x_go) (zf Sv) (fun _ _ _ _ _ _=>GX) (fun _ _ _ _ _ _=>(cW a_item_of hr rfl (aF (d9 rfl (.inl (by kernel_rfl))) aL aO) (cnt_cons cnt_nil)))) DN)) aK
theorem zal (T:Txt K mg C w):RT P w K mg base k f ["self","low","kept"] "JoinStation.left_at" wj Dp:=fun cdv A outer s H E hr=>by
 refine cF hr fun hu=>?_;have nd:=(U4).nd;exact aG (aZ (pJ (Wa 1000 "thing" [("low",1),("self",0)] rfl (by x_go) Sv (fun _ _ _ _ _ _=>(Wg (Oo (zW (X:=d8 _ _ _ _ _ _ _ _ _) hu .ge) Bv (bA kJ kW (Ek (d9 rfl (.inl (by kernel_rfl))) Ei) (nQ T.cl_JoinStation T.na_JoinStation_span (d9 rfl (.inr (.inl (by kernel_rfl)))))) (d9 rfl (.inr (.inl (by kernel_rfl))))))) (fun _ _ _ _ _ _=>(d9 rfl (.inl (by kernel_rfl))))))) aK
theorem zah (T:Txt K mg C w)(a_JoinStation_left_at:cV P w K mg base k C.JoinStation "left_at" 3 lK):RT P w K mg base k f ["self","low"] "JoinStation.close_at" wg Dm:=fun cdv A outer s H E hr=>by
 refine cF hr fun hu=>?_;have nd:=(U3).nd;refine aG (zp T.cl_JoinStation T.na_JoinStation_kept Sv (dY (aF (sX T.cl_JoinStation a_JoinStation_left_at hr Sv (aF Sv (aF (Ek (nQ T.cl_JoinStation T.na_JoinStation_kept Sv) Ei) aL cJ) aO) (cnt_cons (cnt_cons cnt_nil))) (aF (sX T.cl_JoinStation a_JoinStation_left_at hr Sv (aF Sv (aF (Ek (nQ T.cl_JoinStation T.na_JoinStation_kept Sv) Ei) aL cJ) aO) (cnt_cons (cnt_cons cnt_nil))) aL mj) mj))) ?_;exact aG (aZ (SN.sem (dZ aL) lst_is)) aK
theorem zak (T:Txt K mg C w)(a_item_of:aY P w K mg base k "item_of" 1 wX)(a_JoinStation_close_at:cV P w K mg base k C.JoinStation "close_at" 2 wR):RT P w K mg base k f ["self","low"] "Station.tell_low" wD Dt:=fun cdv A outer s H E hr=>by
 refine cF hr fun hu=>?_;have nd:=(U_).nd;exact aG (aZ (bA kJ kW (SN.sem (GJ "thing" [] rfl (by x_go) (zf (sX T.cl_JoinStation a_JoinStation_close_at hr Sv (aF Sv aL aO) (cnt_cons cnt_nil))) (fun _ _ _ _ _ _=>GX) (fun _ _ _ _ _ _=>(cW a_item_of hr rfl (aF (d9 rfl (.inl (by kernel_rfl))) aL aO) (cnt_cons cnt_nil)))) DN) (SN.sem (dZ (aF (dY (aF Es (aF Sv aL aO) bV)) aL zu)) lst_is))) aK
theorem zaf (T:Txt K mg C w)(a_JoinStation_low:cV P w K mg base k C.JoinStation "low" 1 j5)(a_JoinStation_tell_low:cV P w K mg base k C.JoinStation "tell_low" 2 wV):RT P w K mg base k f ["self","way","mark","before","low"] "Station.take_mark" wB yr:=fun cdv A outer s H E hr=>by
 refine cF hr fun hu=>?_;have nd:=(U8).nd;refine aG (bT (Ct hu Sv (Ek (nQ T.cl_JoinStation T.na_JoinStation_marks Sv) Sv)) (aG (aZ (SN.sem (dZ aL) lst_is)) aK) aK) ?_;refine aG (cg (i:=3) nd rfl Lv (Cj T.cl_JoinStation a_JoinStation_low hr Sv)) ?_;refine aG (Wi (nQ T.cl_JoinStation T.na_JoinStation_marks Sv) Sv Sv) ?_;refine aG (cg (i:=4) nd rfl Lv (Cj T.cl_JoinStation a_JoinStation_low hr Sv)) ?_;refine aG (bT (Ct hu Sv Sv) (aG (aZ (SN.sem (dZ aL) lst_is)) aK) aK) ?_;exact aG (aZ (sX T.cl_JoinStation a_JoinStation_tell_low hr Sv (aF Sv aL aO) (cnt_cons cnt_nil))) aK
theorem zam (T:Txt K mg C w)(a_JoinStation_take_thing:cV P w K mg base k C.JoinStation "take_thing" 3 rD)(a_JoinStation_take_mark:cV P w K mg base k C.JoinStation "take_mark" 3 pD):RT P w K mg base k f ["self","way","item"] "Station.take_in" wA zQ:=fun cdv A outer s H E hr=>by
 refine cF hr fun hu=>?_;have nd:=(U7).nd;refine aG (bT (Ct hu (Ek Sv Ei) Es) (aG (aZ (sX T.cl_JoinStation a_JoinStation_take_mark hr Sv (aF Sv (aF (Ek Sv Ei) aL cJ) aO) (cnt_cons (cnt_cons cnt_nil)))) aK) aK) ?_;exact aG (aZ (sX T.cl_JoinStation a_JoinStation_take_thing hr Sv (aF Sv (aF (N_ Sv (wH (Wx:=W0) Ei) zm) aL cJ) aO) (cnt_cons (cnt_cons cnt_nil)))) aK
theorem zhm (T:Txt K mg C w)(a_station_of:aY P w K mg base k "station_of" 1 yK)(a__cell_at:aY P w K mg base k "_law_cell_at" 2 tX)(a__words:aY P w K mg base k "_law_words" 1 Ab)(a__keys:aY P w K mg base k "_law_keys" 1 Aa)(a__pairs:aY P w K mg base k "_law_pairs" 5 tY)(a__kinds:aY P w K mg base k "_law_kinds" 1 yF)(a__kept:aY P w K mg base k "_law_kept" 4 yE)(a_JoinStation_low:cV P w K mg base k C.JoinStation "low" 1 j5)(a_JoinStation_take_in:cV P w K mg base k C.JoinStation "take_in" 3 fU):RT P w K mg base k f ["_law_script","_law_span","_law_form","_law_words_here","_law_station","_law_keys_here","_law_things","_law_marks","_law_cell","_law_way","_law_time","_law_before","_law_due","_law_found","_law_key","_law_item"] "law" nJ Dw:=fun cdv A outer s H E hr=>by
 refine cF hr fun hu=>?_;have nd:=(Vt).nd;have B_min:=T.blt "min" (by x_go);have B_str:=T.blt "str" (by x_go);refine aG (cg (i:=1) nd rfl Lv (bA nq nu (bA u_ vf (cW a__cell_at hr rfl (aF Sv (aF Ei aL bV) aO) (cnt_cons (cnt_cons cnt_nil))) Ei) (Ek (SN.sem (dZ (aF Ei (aF Ei (aF Ei (aF (bA kJ kW (bA yQ yU Ei Ei) Ei) aL mJ) bV) bV) bV)) lst_is) (bA nq nu (cW a__cell_at hr rfl (aF Sv (aF Ei aL bV) aO) (cnt_cons (cnt_cons cnt_nil))) Ei)))) ?_;refine aG (cg (i:=2) nd rfl Lv (bA nq nu (cW a__cell_at hr rfl (aF Sv (aF Ei aL bV) aO) (cnt_cons (cnt_cons cnt_nil))) Ei)) ?_;refine aG (cg (i:=3) nd rfl Lv (bA Lx LR (dY (aF (Ci XM rfl B_str boot_str zdX (aF Sv aL aO)) aL mj)) (cW a__words hr rfl (aF Sv aL aO) (cnt_cons cnt_nil)))) ?_;refine aG (cg (i:=4) nd rfl Lv (cW a_station_of hr rfl (aF (dY (aF Es (aF Es (aF (dY (aF Es (aF Es aL bV) bV)) (aF Sv aL aO) zu) bV) bV)) aL zu) (cnt_cons cnt_nil))) ?_;refine aG (cg (i:=5) nd rfl Lv (cW a__keys hr rfl (aF (bA u_ vf (cW a__cell_at hr rfl (aF Sv (aF Ei aL bV) aO) (cnt_cons (cnt_cons cnt_nil))) Ei) aL mJ) (cnt_cons cnt_nil))) ?_;refine aG (cg (i:=6) nd rfl Lv (pJ (dZ aL))) ?_;refine aG (cg (i:=7) nd rfl Lv (pJ (dZ (aF Ei (aF Ei aL bV) bV)))) ?_;refine aG (wI xbJ rfl nd rfl Lv (zf (GD Sv (wH (Wx:=W0) Ei) (wH (Wx:=W0) Ei))) (aG (cg (i:=9) nd rfl Lv (bA nq nu Sv Ei)) (aG (cg (i:=10) nd rfl Lv (dX (DK rfl) rfl B_min xce Fl (aF (bA yQ yU Ei Ei) (aF (bA kJ kW (Ek Sv Sv) (bA nq nu (bA u_ vf Sv Ei) (bA kJ kW (bA Bm Bw Ei Sv) Ei))) aL mJ) mJ))) (aG (bT (Ct hu (bA nq nu (bA u_ vf Sv Ei) Ei) Ei) (aG (cg (i:=11) nd rfl Lv (dX (yw rfl) rfl B_min xce yS (aF Sv aL aO))) (aG (Wi Sv Sv Sv) (aG (cg (i:=12) nd rfl Lv (SN.sem (dZ aL) lst_is)) (aG (bT (Ct hu (dX (yw rfl) rfl B_min xce yS (aF Sv aL aO)) Sv) (aG (cg (i:=12) nd rfl Lv (SN.sem (dZ (aF (dY (aF Es (aF (dX (yw rfl) rfl B_min xce yS (aF Sv aL aO)) aL mj) bV)) aL zu)) lst_is)) aK) aK) (aG (cg (i:=13) nd rfl Lv (sX T.cl_JoinStation a_JoinStation_take_in hr Sv (aF Sv (aF (dY (aF Es (aF Sv aL aO) bV)) aL zu) aO) (cnt_cons (cnt_cons cnt_nil)))) aK))))) (aG (cg (i:=14) nd rfl Lv (Ek (SN.sem (dZ (aF (Ek Sv Ei) (aF (Ek Sv Ei) (aF (Ek Sv Ei) (aF (Ek Sv Ei) aL cJ) cJ) cJ) cJ)) lst_is) (bA xG xH (bA nq nu (bA u_ vf Sv Ei) Ei) Ei))) (aG (cg (i:=15) nd rfl Lv (dY (aF Es (aF Sv (aF Sv (aF (bA xG xH (bA nq nu (bA u_ vf Sv Ei) (bA kJ kW (bA Bm Bw Ei (bA yQ yU Ei Ei)) Ei)) (bA yQ yU Ei Ei)) aL mJ) aO) aO) bV))) (aG (cg (i:=12) nd rfl Lv (cW a__pairs hr rfl (aF Sv (aF Sv (aF Sv (aF Sv (aF Sv aL aO) aO) aO) aO) aO) (cnt_cons (cnt_cons (cnt_cons (cnt_cons (cnt_cons cnt_nil))))))) (aG (sZ Sv (bA Lx LR (dY (aF Sv aL aO)) (N_ Sv (wH (Wx:=W0) Ei) zm))) (aG (cg (i:=13) nd rfl Lv (sX T.cl_JoinStation a_JoinStation_take_in hr Sv (aF Sv (aF Sv aL aO) aO) (cnt_cons (cnt_cons cnt_nil)))) aK)))))) (aG (bT (SW.st (nU (mK (g_ (cW a__kinds hr rfl (aF Sv aL aO) (cnt_cons cnt_nil)))) (wK (Ct hu Sv Sv)))) (aG (aZ Eb) aK) aK) (aG (bT (mK (g_ (cW a__kept hr rfl (aF Sv (aF Sv (aF Sv (aF Sv aL aO) aO) aO) aO) (cnt_cons (cnt_cons (cnt_cons (cnt_cons cnt_nil))))))) (aG (aZ Eb) aK) aK) aK)))))) ?_;exact aG (aZ (Cm hu (Cj T.cl_JoinStation a_JoinStation_low hr Sv) (dX (yw rfl) rfl B_min xce yS (aF Sv aL aO)))) aK
end
noncomputable def tabs:List (Str×FnT):=[("change_of",j_),("pairer_of",gk)]
noncomputable def w5:Nat:=12
def m_:G:=Rj
abbrev wNs:String:="Ft Nm Nr Nf Ng Nh zgv sE sH Mf Nj q_1 r_1 q_2 r_2 Nb zhb zfy Pn zfu zgr zfI zf7 zdU zfR zgp zg2 Mv zhk zfw zhg zed zeP zdW q_n r_n zez zfx zgw zcZ ze0 BK zc5 zea zcC zeU zgZ MF zgm zhr Mx Mw Np zfj zgU zfi zfl zhh zer Ni Ml zge zhn zfN zfU zf1 zhi zdM zes zeN Mi zeK zem zfm ze7 zho zeR zf8 zg0 zgu Lq Lp Ln Lk zf3 zgD zfM zgi zd5 zdY zf6 zgy zei zej zhc zg6 sizeLine_eq Option.map_some Option.map_none List.getElem?_cons_zero List.getElem?_cons_succ List.set_cons_zero List.set_cons_succ List.map_cons List.map_nil List.length_cons List.length_nil List.length_map List.replicate List.cons_append List.nil_append List.append_nil reduceCtorEq if_true if_false reduceIte Bool.not_true Bool.not_false Nat.reduceSub Nat.reduceAdd Nat.reduceLeDiff Nat.reduceLT Int.reduceLT Int.reduceLE Int.reduceAdd Int.reduceSub Int.reduceMul Int.reduceNeg Int.reduceAbs Int.reduceEq Int.reducePow Int.reduceMod Int.reduceDiv Int.reduceToNat Nat.zero_le and_true true_and and_self or_true true_or Bool.false_eq_true decide_eq_true_eq decide_true decide_false Bool.not_eq_true' decide_eq_false_iff_not not_true_eq_false not_false_eq_true eq_self zd1 zfd zcS zdC zeu Option.getD_some zgJ zhq ty_int ty_str zgX zfk zef zdV zha zg1 Pg zhp zgO zft zgB zfA zfP zeC zgl zgx List.isEmpty_cons List.isEmpty_nil Bool.true_eq_false Bool.and_self Bool.and_true Bool.true_and Bool.and_false Bool.false_and zda zc8 zcv zcr zcB zgq Uk ze1 zfT zgE zfr zeW zeL zcG zhl zg7 zdT zeG zfZ zgh zfe zdK Nk Mu O8 Mj Mq Mp BP Ue BL Ud zeX zf5 zdQ Tz Bj zfO zeH zfW zel zgj zf9 ze5 zew zeD O7 WK zgt Bool.true_or Bool.false_or Bool.or_true Bool.or_false at0 at1 at2 Xk yJ s_end w_end Mt Fq FJ zgK zfS zfC zgH"
local macro_rules | `(tactic| z_go)=>do
 let l <-(wNs.splitOn " ").toArray.mapM fun n=> `(Lean.Parser.Tactic.simpLemma| $(Lean.mkIdent n.toName):term)
 `(tactic| try simp only[$l,*])
variable {M:Mm}
theorem zhf (c:Nat):Jk [.val (.str ⟨#[c]⟩)] M=some (.v (.bl (!lH c)),M):=by
 unfold Jk;z_go;rw[Zn]
theorem Ri (x:Str)(hx:x.length<=100000):Af [.str x] M=some (.v (.bl (gM (cd x))),M):=by
 unfold Af Il;z_go;rw[show x.cps.toList=cd x from rfl];simp only[zY,eq_0];have hl:(cd x).length<=100000:=by rw[<-lO];exact hx
 by_cases h:cd x=[]
 ·simp only[h];z_go;rfl
 ·simp only[h];rw[Qv (fun c=>D.str ⟨#[c]⟩) (fun c=>D.bl (!lH c)) (cd x) [] (fun c _=>zhf c) (by rw[xaG];simp;omega)];z_go;rw[show((cd x).map fun c=>D.bl (!lH c))=((cd x).map fun c=> !lH c).map D.bl by rw[xcs];rfl,Qh];z_go;simp only[Xj];obtain⟨c,r,e⟩:=List.exists_cons_of_ne_nil h;unfold gM;cases hd:(cd x).all lH
  ·z_go
  ·z_go;rw[xab (show x.length<=16777216 by omega),show x.cps.toList=cd x from rfl];simp only[h,eq_0];rw[e,show cu (c::r) 0=some c by simp[cu,kj]]
   by_cases h0:(c::r)=[48]
   ·simp only[h0];z_go
   ·simp only[h0];z_go;simp only[eq_0,X6,List.head?_cons,xdk,xcq];z_go
theorem Za (x:Str)(hx:x.length<=10000):Ai [.str x] M=some (.v (.bl (good (cd x))),M):=by
 unfold Ai Ip;z_go;rw[zgf];have hl:=lO x
 by_cases h:(cd x).head? =some 45
 ·obtain⟨r,e⟩:∃r,cd x=45::r:=by
   cases hc:cd x with
   |nil=>rw[hc]at h;cases h
   |cons c r=>rw[hc]at h;simp at h;exact⟨r,by rw[h]⟩
  have hs:=zbK e;have hr:(Txt.slice x (some 1) none).length<=10000:=by
   rw[lO,hs];rw[e]at hl
   simp at hl
   omega
  simp only[h];z_go;rw[xab (show x.length<=16777216 by omega)];z_go;simp only[QZ,Ri _ (show(Txt.slice x (some 1) none).length<=100000 by omega),hs];unfold good lJ;rw[xab h];simp only[e,xdP]
  by_cases h2:45::r=[45,48]
  ·simp only[h2];z_go
  ·simp only[h2];z_go
 ·simp only[h];z_go;simp only[QZ,Ri _ (show x.length<=100000 by omega)];unfold good lJ;rw[xad h]
  by_cases h2:cd x=[45,48]
  ·simp only[h2];z_go
  ·simp only[h2];z_go
def kh (x:Str):Bool:=good (cd x) && decide ((lJ (cd x)).length<=20)
theorem g_num (x:Str)(hx:x.length<=10000):Ah [.str x] M=some (.v (.bl (kh x)),M):=by
 unfold Ah Io kh;z_go;simp only[Za x hx];z_go;rw[xab (show x.length<=16777216 by omega)];z_go;cases hg:good (cd x)
 ·z_go
 ·have hl:=zco hg;have:=PyProof.Rows.len_lstripChars x (Str.ofString "-");z_go;rw[xab (by omega),hl];z_go;congr 4;rw[xaL];simp only[xaS];omega
noncomputable def tvw (x:Str):Bool:=decide (x="t") || decide (x="v") || decide (x="w")
def lf (x L:Str):Bool:=kh x || (tvw x && t_ x L)
theorem zgI {x:Str}:aH .isin (.str x) (.tup [.str "t",.str "v",.str "w"])=some (.bl (tvw x)):=by
 have q:∀y:Str,D.eq (.str y) (.str x)=decide (x=y):=fun y=>by
  simp only[D.eq];rw[xaL]
  simp
  exact eq_comm
 unfold aH cQ pY tvw;simp only[D.flat,xbz,List.all_nil,xdb,xbo,xbZ,List.any_nil,Bool.or_false,q,xbb];rw[Bool.or_assoc]
theorem Rm (x L:Str)(hx:x.length<=10000):Ag [.str x,.str L] M=some (.v (.bl (lf x L)),M):=by
 unfold Ag Im lf;z_go;simp only[g_num x hx];cases kh x
 ·z_go;rw[zgI];cases tvw x
  ·z_go
  ·z_go
 ·z_go
theorem zfK {x z c:Str}{env:E3.Env}{k:Nat}(he:env[k]? =some (.val (.str x)))(hx:x.length<=100000)(hz:z.length<=1000):sO c (gw (lN (aj k) (gn z gq))) env M=some (.ex c 0,M):=by
 rw[Mz,Mj,Ue,sE,he,sH,BK,WK,xaG,xab (show x.length<=16777216 by omega),BP,xaG];have e:(Str.empty ++ x).length=x.length:=by rw[xcj,show Str.empty.length=0 from rfl];omega
 rw[xab (by omega),Mp,xaG,xab (by rw[xcj];omega),Mq,xaG,xab (by rw[xcj];omega)];rfl
theorem zgn {x z c:Str}{env:E3.Env}{k:Nat}(he:env[k]? =some (.val (.str x)))(hx:(reprText x).length<=100000)(hz:z.length<=1000):sO c (gw (m9 (aj k) (gn z gq))) env M=some (.ex c 0,M):=by
 rw[Mz,Mj,Ud,sE,he,sH,BK];have e:(Str.empty ++ reprText x).length=(reprText x).length:=by rw[xcj,show Str.empty.length=0 from rfl];omega
 rw[BL,xaG,xab ⟨by omega,by omega⟩,Mp,xaG,xab (by rw[xcj];omega),Mq,xaG,xab (by rw[xcj];omega)];rfl
def sm (x:Str):Prop:=x.length<=9000/\∀c∈cd x,c<4294967296
theorem sm.rp {x:Str}(h:sm x):(reprText x).length<=100000:=by
 have:=StrLaws.reprText_len x (fun c hc=>h.2 c hc);have:=h.1;omega
noncomputable def NT:List (Str×(Str×Str×Nat)):=[("+","number","number",2),("-","number","number",2),("*","number","number",2),("least","number","number",2),("most","number","number",2),("<","truth","number",2),("=","truth","number",2),("not","truth","truth",1),("and","truth","truth",2),("or","truth","truth",2)]
noncomputable def cR (x:Str):Option (Str×Str×Nat):=(NT.find? fun p=>decide (p.1=x)).map (·.2)
noncomputable def gR (q:Str×Str×Nat):D:=.tup [.str q.1,.str q.2.1,.int q.2.2]
theorem zdZ:xZ=NT.map fun p=>(p.1,gR p.2):=rfl
theorem u6 {x:Str}:dR xZ x=(cR x).map gR:=by
 rw[zdZ];unfold dR cR;rw[List.find?_map];show Option.map _ (Option.map _ (NT.find? fun p=>decide (p.1=x)))=_;cases NT.find? fun p=>decide (p.1=x)<;>rfl
theorem Ke {x:Str}{q:Str×Str×Nat}(h:cR x=some q):(x,q)∈NT:=by
 unfold cR at h;rw[xac]at h;obtain⟨p,hp,rfl⟩:=h;have h1:=List.find?_some hp;have h2:=List.mem_of_find?_eq_some hp;rw[<-xby h1];exact h2
theorem zex:NT.all (fun p=>(decide (p.2.2.2=1) || decide (p.2.2.2=2)) && (!kh p.1 && (!tvw p.1 && decide (p.1.length<=5))))=true:=by x_go
theorem Lj {x:Str}{q:Str×Str×Nat}(h:cR x=some q):(q.2.2=1\/q.2.2=2)/\kh x=false/\tvw x=false/\x.length<=5:=by
 have:=xaM.mp zex _ (Ke h);simp only[xap,xb1,xaS,xdj]at this;exact this
theorem zcU {x:Str}(h:kh x=true\/tvw x=true):cR x=none:=by
  cases hn:cR x with
  |none=>rfl
  |some d=>
    obtain⟨_,h1,h2,_⟩:=Lj hn;rw[h1,h2]at h;rcases h with h |h<;>cases h
theorem zhx {x L:Str}(h:lf x L=true):cR x=none:=by
 unfold lf at h;rw[xb1,xap]at h;exact zcU (h.imp id (·.1))
noncomputable def kZ (a:Str):Nat->List Str->Option (List Str)
 |0,ks=>some ks
 |_ + 1,[]=>none
 |n + 1,b::ks=>if b=a then kZ a n ks else none
noncomputable def stepK (L x:Str) (ks:List Str):Option (List Str):=match cR x with
 |some q=>(kZ q.2.1 q.2.2 ks).map (q.1:: ·)
 |none=>if lf x L=true then some ("number"::ks) else none
noncomputable def runK (L:Str):List Str->List Str->Option (List Str)
 | [],ks=>some ks
 |x::xs,ks=>(stepK L x ks).bind (runK L xs)
theorem BX {L:Str}:∀{xs ys ks:List Str},runK L (xs ++ ys) ks=(runK L xs ks).bind (runK L ys)
  | [],_,_=>rfl
  |x::xs,ys,ks=>by
    rw[xcf,runK,runK]
    cases stepK L x ks with
    |none=>rfl
    |some k=>exact BX
abbrev kc (ks:List Str):E3.Cl:=.lst (ks.map D.str).reverse
theorem Fp {k:Nat}{d:D}{ds:List D}:sy M k (d::ds).reverse (d::ds).reverse[(d::ds).reverse.length - 1]? =some (.v d,M.set k (.lst ds.reverse)):=by
 have e1:(d::ds).reverse[(d::ds).reverse.length - 1]? =some d:=by simp
 have e2:(d::ds).reverse.dropLast=ds.reverse:=by simp
 rw[e1,Uk,e2]
theorem O9 {x:Str}{q:Str×Str×Nat}{i:Int}{ks:List Str}(hl:x.length<=5):JW [.val (.str x),.val (.ref M.length),.val (gR q),.val (.int i)] (M ++ [kc ks])=match ks with
    | []=>some (.ex "NoExpr" 0,M ++ [kc []])
    |b::ks=>if b=q.2.1 then some (.nx [.val (.str x),.val (.ref M.length),.val (gR q),.val (.int i)],M ++ [kc ks]) else some (.ex "NoExpr" 0,M ++ [kc ks]):=by
  have mg:∀N:Mm,sO "NoExpr" (gw (lN (aj 0) (gn " needs other words behind it" gq))) [.val (.str x),.val (.ref M.length),.val (gR q),.val (.int i)] N=some (.ex "NoExpr" 0,N):=fun N=>zfK (M:=N) (k:=0) rfl (show x.length<=100000 by omega) (by x_go);unfold JW kc gR;unfold gR at mg
  cases ks with
  |nil=>
    z_go;rw[show([]:List D).reverse=[] from rfl];z_go;rw[mg];rfl
  |cons b ks=>
    z_go;rw[List.isEmpty_reverse];z_go;rw[Fp];z_go
    by_cases h:b=q.2.1
    · simp only[h];z_go
    · simp only[h];z_go;rw[mg];rfl
theorem zhj {x:Str}{q:Str×Str×Nat}(h:cR x=some q)(ks:List Str):(∃ks',kZ q.2.1 q.2.2 ks=some ks'/\yL [.str x,.ref M.length] (M ++ [kc ks])=some (.v .non,M ++ [kc ks']))\/(kZ q.2.1 q.2.2 ks=none/\∃ks',yL [.str x,.ref M.length] (M ++ [kc ks])=some (.x "NoExpr" 0,M ++ [kc ks'])):=by
  obtain⟨hn,_,_,hl⟩:=Lj h;unfold yL IV;z_go;rw[u6,h];z_go;have i2:∀N:Mm,mapR N (aN (gR q) (.int 2))=some (.v (.int q.2.2),N):=fun N=>by
    unfold gR;z_go
  have w0:∀N:Mm,vw N (gR q)=gR q:=fun N=>rfl;simp only[w0,i2];z_go;rcases hn with hn |hn
  · rw[hn,Nq (by omega),show((List.range ((1:Nat):Int).toNat).map fun(k:Nat)=>D.int (0 + k))=[.int 0] from rfl];z_go;rw[O9 hl]
    cases ks with
    |nil=>exact .inr ⟨rfl,[],rfl⟩
    |cons b ks=>
      dsimp only;unfold kZ
      by_cases hb:b=q.2.1
      · rw[xab hb,xab hb];exact .inl ⟨ks,rfl,rfl⟩
      · rw[xad hb,xad hb];exact .inr ⟨rfl,ks,rfl⟩
  · rw[hn,Nq (by omega),show((List.range ((2:Nat):Int).toNat).map fun(k:Nat)=>D.int (0 + k))=[.int 0,.int 1] from rfl];z_go;rw[O9 hl]
    cases ks with
    |nil=>exact .inr ⟨rfl,[],rfl⟩
    |cons b ks=>
      dsimp only;unfold kZ
      by_cases hb:b=q.2.1
      · rw[xab hb,xab hb];z_go;rw[O9 hl]
        cases ks with
        |nil=>exact .inr ⟨rfl,[],rfl⟩
        |cons b ks=>
          dsimp only;unfold kZ
          by_cases hb:b=q.2.1
          · rw[xab hb,xab hb];exact .inl ⟨ks,rfl,rfl⟩
          · rw[xad hb,xad hb];exact .inr ⟨rfl,ks,rfl⟩
      · rw[xad hb,xad hb];exact .inr ⟨rfl,ks,rfl⟩
theorem R0 {ks:List Str}{y:Str}:(ks.map D.str).reverse ++ [D.str y]=((y::ks).map D.str).reverse:=by rw[xaI,xbM]
theorem Yc {d0:D}{x L wt:Str}{ks:List Str}(hx:sm x)(hk:ks.length<1000):(∃ks',stepK L x ks=some ks'/\ur [.val d0,.val (.str L),.val (.str wt),.val (.ref M.length),.val (.str x)] (M ++ [kc ks])=some (.nx [.val d0,.val (.str L),.val (.str wt),.val (.ref M.length),.val (.str x)],M ++ [kc ks']))\/(stepK L x ks=none/\∃ks',ur [.val d0,.val (.str L),.val (.str wt),.val (.ref M.length),.val (.str x)] (M ++ [kc ks])=some (.ex "NoExpr" 0,M ++ [kc ks'])):=by
  have mg:=zgn (M:=M ++ [kc ks]) (c:="NoExpr") (z:=" may not stand here") (k:=4) (env:=[.val d0,.val (.str L),.val (.str wt),.val (.ref M.length),.val (.str x)]) rfl hx.rp (by x_go);unfold ur stepK
  cases hn:cR x with
  |some q=>
    have i0:∀N:Mm,mapR N (aN (gR q) (.int 0))=some (.v (.str q.1),N):=fun N=>by
      unfold gR;z_go
    have w0:∀N:Mm,vw N (gR q)=gR q:=fun N=>rfl;dsimp only;rcases zhj (M:=M) hn ks with⟨ks',e1,e2⟩ |⟨e1,ks',e2⟩
    · have hk':ks'.length<=ks.length:=by
        have:∀(n:Nat) (ks ks':List Str),kZ q.2.1 n ks=some ks'->ks'.length<=ks.length:=fun n=>by
          induction n with
          |zero=>intro ks ks' h;cases h;exact xaf _
          |succ n ih=>
            intro ks ks' h
            cases ks with
            |nil=>cases h
            |cons b ks=>
              unfold kZ at h;split at h
              · have:=ih ks ks' h;rw[xao];omega
              · cases h
        exact this _ _ _ e1
      refine .inl ⟨q.1::ks',by rw[e1];rfl,?_⟩;z_go;rw[u6,hn];simp only[xbb,xcr];z_go;rw[e2];z_go;rw[u6,hn];z_go;simp only[w0,i0];unfold kc;z_go;rw[xaK,xal,xab (by omega),R0];z_go
    · refine .inr ⟨by rw[e1];rfl,ks',?_⟩;z_go;rw[u6,hn];simp only[xbb,xcr];z_go;rw[e2];rfl
  |none=>
    dsimp only;cases hf:lf x L
    · refine .inr ⟨rfl,ks,?_⟩;z_go;rw[u6,hn];simp only[xdI,xc7];z_go;rw[Rm x L (by have:=hx.1;omega),hf];z_go;rw[mg];rfl
    · refine .inl ⟨"number"::ks,rfl,?_⟩;z_go;rw[u6,hn];simp only[xdI,xc7];z_go;rw[Rm x L (by have:=hx.1;omega),hf];unfold kc;z_go;rw[xaK,xal,xab (by omega),R0];z_go
theorem zbe {L x:Str}{ks ks':List Str}(h:stepK L x ks=some ks'):ks'.length<=ks.length + 1:=by
  have tk:∀(a:Str) (n:Nat) (ks ks':List Str),kZ a n ks=some ks'->ks'.length<=ks.length:=fun a n=>by
    induction n with
    |zero=>intro ks ks' h;cases h;exact xaf _
    |succ n ih=>
      intro ks ks' h
      cases ks with
      |nil=>cases h
      |cons b ks=>
        unfold kZ at h;split at h
        · have:=ih ks ks' h;rw[xao];omega
        · cases h
  unfold stepK at h;split at h
  · rw[xac]at h;obtain⟨k1,h1,rfl⟩:=h;have:=tk _ _ _ _ h1;rw[xao];omega
  · split at h
    · cases h;rw[xao];omega
    · cases h
theorem Nu {L:Str}:∀{xs ks ks':List Str},runK L xs ks=some ks'->ks'.length<=ks.length + xs.length
  | [],_,_,h=>by cases h;exact xdB _ _
  |x::xs,ks,ks',h=>by
    unfold runK at h;rw[xdF]at h;obtain⟨k1,h1,h2⟩:=h;have:=zbe h1;have:=Nu h2;rw[xao];omega
theorem Oq:∀ys:List Str,D.deps (ys.map D.str)=0
 | []=>by simp[D.deps]
 |y::ys=>by simp[D.deps,D.dep,Oq ys]
theorem Wo:∀(as bs:List Str),D.eqs (as.map D.str) (bs.map D.str)=decide (as=bs)
  | [],[]=>by simp[D.eqs]
  | [],b::bs=>by simp[D.eqs]
  |a::as,[]=>by simp[D.eqs]
  |a::as,b::bs=>by
    simp only[xaI,D.eqs,D.eq,Wo as bs];rw[xaL]
    simp
theorem zdF {as bs:List Str}:aH .ne (.lst (as.map D.str)) (.lst (bs.map D.str))=some (.bl (!decide (as=bs))):=by
 unfold aH cQ pZ;rw[xab ⟨by simp[dO,D.flat,D.dep,Oq],by simp[D.dep,Oq]⟩];simp only[D.eq,Wo,xbb]
theorem zg9 {ks:List Str}{wt:Str}:aH .ne (.lst (ks.map D.str).reverse) (.lst [.str wt])=some (.bl (!decide (ks=[wt]))):=by
 rw[<-xcE,show [D.str wt]=[wt].map D.str from rfl,zdF];have:(ks.reverse=[wt])=(ks=[wt]):=propext ⟨fun h=>by rw[<-List.reverse_reverse ks,h];rfl,fun h=>by rw[h];rfl⟩;simp only[this]
def Pr (M:Mm)(d0:D)(L wt:Str)(ws:List Str)(o:E3.OS):Prop:=(∃ks s4,o=some (.nx [.val d0,.val (.str L),.val (.str wt),.val (.ref M.length),s4],M ++ [kc ks])/\runK L ws.reverse []=some ks)\/(runK L ws.reverse []=none/\∃ks,o=some (.ex "NoExpr" 0,M ++ [kc ks]))
theorem take_snoc {ws:List Str}{k:Nat}{x:Str}(h:ws[k]? =some x):ws.take (k + 1)=ws.take k ++ [x]:=by
 rw[List.take_add_one,h];rfl
theorem Yb {d0:D}{L wt:Str}{ws:List Str}(hs:∀x∈ws,sm x)(hl:ws.length<=900):Pr M d0 L wt ws (loopS 4 ur (ws.map D.str).reverse [.val d0,.val (.str L),.val (.str wt),.val (.ref M.length),.un] (M ++ [kc []])):=by
 refine JX (Pr M _ L wt ws) (fun k env N=>∃ks s4,env=[.val d0,.val (.str L),.val (.str wt),.val (.ref M.length),s4]/\N=M ++ [kc ks]/\runK L (ws.reverse.take k) []=some ks) ⟨[],.un,rfl,rfl,by rw[List.take_zero];rfl⟩ ?_ ?_
 ·rintro k d env N hd ⟨ks,s4,rfl,rfl,hk⟩;rw[<-xcE,xan,xac]at hd;obtain⟨x,hx,rfl⟩:=hd;refine⟨by show 4<5;decide,?_⟩;have hlen:=Nu hk;have hkl:(ws.reverse.take k).length<=ws.length:=by rw[xbC,xaK];exact Nat.min_le_right _ _
  rw[xaV]at hlen;show Step _ _ (ur [.val d0,.val (.str L),.val (.str wt),.val (.ref M.length),.val (.str x)] (M ++ [kc ks]));rcases Yc (M:=M) (d0:=d0) (L:=L) (wt:=wt) (ks:=ks) (hs x (by have:=xaC hx;simpa using this)) (by omega) with⟨ks',e1,e2⟩ |⟨e1,ks',e2⟩
  ·rw[e2];refine⟨ks',_,rfl,rfl,?_⟩;rw[take_snoc hx,BX,hk];show(stepK L x ks).bind _=_;rw[e1];rfl
  ·rw[e2];refine .inr ⟨?_,ks',rfl⟩;have:ws.reverse=ws.reverse.take k ++ x::ws.reverse.drop (k + 1):=by
    have hlt:=(xam.mp hx).1;have hxe:=(xam.mp hx).2;rw[<-hxe, <-xa6 hlt,xdR]
   rw[this,BX,hk];show(stepK L x ks).bind _=_;rw[e1];rfl
 ·rintro env N ⟨ks,s4,rfl,rfl,hk⟩;rw[xaK,xal, <-xaK,List.take_length]at hk;exact .inl ⟨ks,s4,rfl,hk⟩
theorem X_ {L wt:Str}{ws:List Str}(hs:∀x∈ws,sm x)(hl:ws.length<=900):(runK L ws.reverse []=some [wt]/\yI [.tup (ws.map D.str),.str L,.str wt] M=some (.v .non,M ++ [kc [wt]]))\/(runK L ws.reverse []≠some [wt]/\∃ks,yI [.tup (ws.map D.str),.str L,.str wt] M=some (.x "NoExpr" 0,M ++ [kc ks])):=by
 have lp:=Yb (M:=M) (d0:=.tup (ws.map D.str)) (L:=L) (wt:=wt) hs hl;unfold yI Ii;z_go;have e0:loopS 4 ur (ws.map D.str).reverse [.val (.tup (ws.map D.str)),.val (.str L),.val (.str wt),.val (.ref M.length),.un] (M ++ [.lst []])=loopS 4 ur (ws.map D.str).reverse [.val (.tup (ws.map D.str)),.val (.str L),.val (.str wt),.val (.ref M.length),.un] (M ++ [kc []]):=rfl;rw[e0];rcases lp with⟨ks,s4,e,hk⟩ |⟨hk,ks,e⟩
 ·rw[e];unfold kc;z_go;rw[zg9]
  by_cases h:ks=[wt]
  ·subst h;refine .inl ⟨hk,?_⟩;z_go
  ·refine .inr ⟨fun z=>h (by rw[hk]at z;exact xav z),ks,?_⟩;simp only[h];z_go;rw[Mz];z_go
 ·rw[e];refine .inr ⟨by rw[hk];exact nofun,ks,rfl⟩
theorem Zo {ws:List Str}:z_ [.ref M.length,.tup (ws.map D.str)] (M ++ [.obj "Expr" []])=some (.v .non,M ++ [.obj "Expr" [("parts",.tup (ws.map D.str))]]):=by
 unfold z_ Di;z_go;rw[z6 (k:=M.length) (fs:=[]) (M1:=M ++ [.obj "Expr" []]) (M2:=M ++ [.obj "Expr" []]) (x:=.tup (ws.map D.str)) ?_ ?_ yJ (by decide),s_end]
 ·rfl
 ·z_go;rfl
 ·z_go
def Vk (k:Str)(d:D)(m:Nat):Prop:=(k="number"/\∃i:Int,d=.int i/\i.natAbs<2 ^ (210 * m))\/(k="truth"/\∃b,d=.bl b)
inductive TyS:List Str->List D->Nat->Prop
 |nil:TyS [] [] 0
 |cons {k:Str} {d:D} {ks:List Str} {ds:List D} {m n:Nat}:Vk k d m->TyS ks ds n->TyS (k::ks) (d::ds) (m + n)
noncomputable def gU (x:Str) (a b:D):D:=match a,b with
 |.int i,.int j=>if x="+" then .int (i + j) else if x="-" then .int (i - j) else if x="*" then .int (i * j) else if x="least" then .int (if j<i then j else i) else if x="most" then .int (if j > i then j else i) else if x="<" then .bl (decide (i<j)) else .bl (decide (i=j))
 |.bl p,.bl q=>if x="and" then .bl (p && q) else .bl (p || q)
 |_,_=>.non
theorem Em {n m:Nat}(hm:m<=47)(h:n<2 ^ (210 * m)):n.log2<10000:=by
 by_cases h0:n=0
 ·rw[h0];decide
 ·have:=(Nat.log2_lt h0).mpr h;omega
theorem yV {n a b:Nat}(h:n<2 ^ (210 * a))(hab:a<=b):n<2 ^ (210 * b):=xai h (xcg (by decide) (by omega))
theorem zen {i j:Int}{a b:Nat}(hi:i.natAbs<2 ^ (210 * a))(hj:j.natAbs<2 ^ (210 * b)):(i + j).natAbs<2 ^ (210 * (a + b + 1))/\(i - j).natAbs<2 ^ (210 * (a + b + 1))/\(i * j).natAbs<2 ^ (210 * (a + b + 1)):=by
 have h1:=yV hi (xdB a b);have h2:=yV hj (Nat.le_add_left b a);have h3:2 ^ (210 * (a + b)) + 2 ^ (210 * (a + b))<=2 ^ (210 * (a + b + 1)):=by
  rw[<-Nat.two_mul, <-Nat.pow_succ'];exact xcg (by decide) (by omega)
 refine⟨by omega,by omega,?_⟩;rw[Int.natAbs_mul];have h4:i.natAbs * j.natAbs<2 ^ (210 * a) * 2 ^ (210 * b):=Nat.mul_lt_mul_of_lt_of_le hi (xb6 hj) (Nat.pos_of_ne_zero (by intro z;rw[z]at hj;exact absurd hj (xdH _)));rw[<-Nat.pow_add,show 210 * a + 210 * b=210 * (a + b) by omega]at h4;exact xai h4 (xcg (by decide) (by omega))
theorem Tn {x:Str}{q:Str×Str×Nat}(h:cR x=some q)(h2:q.2.2=2):(x="+"\/x="-"\/x="*"\/x="least"\/x="most")/\q.1="number"/\q.2.1="number"\/(x="<"\/x="=")/\q.1="truth"/\q.2.1="number"\/(x="and"\/x="or")/\q.1="truth"/\q.2.1="truth":=by
 have:=Ke h;unfold NT at this;simp only[xaJ,xdC,or_false,xdV]at this;rcases this with⟨rfl,rfl⟩ |⟨rfl,rfl⟩ |⟨rfl,rfl⟩ |⟨rfl,rfl⟩ |⟨rfl,rfl⟩ |⟨rfl,rfl⟩ |⟨rfl,rfl⟩ |⟨rfl,rfl⟩ |⟨rfl,rfl⟩ |⟨rfl,rfl⟩
 ·exact .inl ⟨.inl rfl,rfl,rfl⟩
 ·exact .inl ⟨.inr (.inl rfl),rfl,rfl⟩
 ·exact .inl ⟨.inr (.inr (.inl rfl)),rfl,rfl⟩
 ·exact .inl ⟨.inr (.inr (.inr (.inl rfl))),rfl,rfl⟩
 ·exact .inl ⟨.inr (.inr (.inr (.inr rfl))),rfl,rfl⟩
 ·exact .inr (.inl ⟨.inl rfl,rfl,rfl⟩)
 ·exact .inr (.inl ⟨.inr rfl,rfl,rfl⟩)
 ·cases h2
 ·exact .inr (.inr ⟨.inl rfl,rfl,rfl⟩)
 ·exact .inr (.inr ⟨.inr rfl,rfl,rfl⟩)
theorem zfB {x:Str}{q:Str×Str×Nat}(h:cR x=some q)(h1:q.2.2=1):x="not"/\q.1="truth"/\q.2.1="truth":=by
 have:=Ke h;unfold NT at this;simp only[xaJ,xdC,or_false,xdV]at this;rcases this with⟨rfl,rfl⟩ |⟨rfl,rfl⟩ |⟨rfl,rfl⟩ |⟨rfl,rfl⟩ |⟨rfl,rfl⟩ |⟨rfl,rfl⟩ |⟨rfl,rfl⟩ |⟨rfl,rfl⟩ |⟨rfl,rfl⟩ |⟨rfl,rfl⟩<;>first |(cases h1;done) |exact⟨rfl,rfl,rfl⟩
theorem zhd {x:Str}{q:Str×Str×Nat}{a b:D}{m n:Nat}(h:cR x=some q)(h2:q.2.2=2)(ha:Vk q.2.1 a m)(hb:Vk q.2.1 b n):Vk q.1 (gU x a b) (m + n + 1):=by
 have nt:¬ (("number":Str)="truth"):=by x_go
 have tn:¬ (("truth":Str)="number"):=by x_go
 rcases Tn h h2 with⟨hx,e1,e2⟩ |⟨hx,e1,e2⟩ |⟨hx,e1,e2⟩
 ·rw[e2]at ha hb;rcases ha with⟨_,i,rfl,hi⟩ |⟨z,_⟩
  ·rcases hb with⟨_,j,rfl,hj⟩ |⟨z,_⟩
   ·obtain⟨p1,p2,p3⟩:=zen hi hj;rw[e1];refine .inl ⟨rfl,?_⟩;have dd:∀{a b:Str},decide (a=b)=false->¬ a=b:=fun h=>xb2 h;unfold gU;dsimp only;rcases hx with rfl |rfl |rfl |rfl |rfl
    ·rw[xab rfl];exact⟨_,rfl,p1⟩
    ·rw[xad (dd (by x_go)),xab rfl];exact⟨_,rfl,p2⟩
    ·rw[xad (dd (by x_go)),xad (dd (by x_go)),xab rfl];exact⟨_,rfl,p3⟩
    ·rw[xad (dd (by x_go)),xad (dd (by x_go)),xad (dd (by x_go)),xab rfl];refine⟨_,rfl,?_⟩
     split
     ·exact yV hj (by omega)
     ·exact yV hi (by omega)
    ·rw[xad (dd (by x_go)),xad (dd (by x_go)),xad (dd (by x_go)),xad (dd (by x_go)),xab rfl];refine⟨_,rfl,?_⟩
     split
     ·exact yV hj (by omega)
     ·exact yV hi (by omega)
   ·exact absurd z nt
  ·exact absurd z nt
 ·rw[e2]at ha hb;rcases ha with⟨_,i,rfl,hi⟩ |⟨z,_⟩
  ·rcases hb with⟨_,j,rfl,hj⟩ |⟨z,_⟩
   ·rw[e1];refine .inr ⟨rfl,?_⟩;unfold gU;dsimp only;have d1:¬ (x="+"):=by rcases hx with rfl |rfl<;>decide +kernel
    have d2:¬ (x="-"):=by rcases hx with rfl |rfl<;>decide +kernel
    have d3:¬ (x="*"):=by rcases hx with rfl |rfl<;>decide +kernel
    have d4:¬ (x="least"):=by rcases hx with rfl |rfl<;>decide +kernel
    have d5:¬ (x="most"):=by rcases hx with rfl |rfl<;>decide +kernel
    rw[xad d1,xad d2,xad d3,xad d4,xad d5]
    split<;>exact⟨_,rfl⟩
   ·exact absurd z nt
  ·exact absurd z nt
 ·rw[e2]at ha hb;rcases ha with⟨z,_⟩ |⟨_,p,rfl⟩
  ·exact absurd z tn
  ·rcases hb with⟨z,_⟩ |⟨_,p',rfl⟩
   ·exact absurd z tn
   ·rw[e1];refine .inr ⟨rfl,?_⟩;unfold gU;dsimp only
    split<;>exact⟨_,rfl⟩
theorem bL {a b:Str}(h:decide (a=b)=false):(a=b)=False:=xcu (xb2 h)
theorem nq0:(Str.ofString "-"=Str.ofString "+")=False:=bL (by x_go)
theorem nq1:(Str.ofString "*"=Str.ofString "+")=False:=bL (by x_go)
theorem nq2:(Str.ofString "*"=Str.ofString "-")=False:=bL (by x_go)
theorem nq3:(Str.ofString "least"=Str.ofString "+")=False:=bL (by x_go)
theorem nq4:(Str.ofString "least"=Str.ofString "-")=False:=bL (by x_go)
theorem nq5:(Str.ofString "least"=Str.ofString "*")=False:=bL (by x_go)
theorem nq6:(Str.ofString "most"=Str.ofString "+")=False:=bL (by x_go)
theorem nq7:(Str.ofString "most"=Str.ofString "-")=False:=bL (by x_go)
theorem nq8:(Str.ofString "most"=Str.ofString "*")=False:=bL (by x_go)
theorem nq9:(Str.ofString "most"=Str.ofString "least")=False:=bL (by x_go)
theorem Kg:(Str.ofString "<"=Str.ofString "+")=False:=bL (by x_go)
theorem Kh:(Str.ofString "<"=Str.ofString "-")=False:=bL (by x_go)
theorem Kl:(Str.ofString "<"=Str.ofString "*")=False:=bL (by x_go)
theorem Km:(Str.ofString "<"=Str.ofString "least")=False:=bL (by x_go)
theorem Ko:(Str.ofString "<"=Str.ofString "most")=False:=bL (by x_go)
theorem Kp:(Str.ofString "="=Str.ofString "+")=False:=bL (by x_go)
theorem Kq:(Str.ofString "="=Str.ofString "-")=False:=bL (by x_go)
theorem Kr:(Str.ofString "="=Str.ofString "*")=False:=bL (by x_go)
theorem Ks:(Str.ofString "="=Str.ofString "least")=False:=bL (by x_go)
theorem Ku:(Str.ofString "="=Str.ofString "most")=False:=bL (by x_go)
theorem Kv:(Str.ofString "="=Str.ofString "<")=False:=bL (by x_go)
theorem Kw:(Str.ofString "and"=Str.ofString "+")=False:=bL (by x_go)
theorem Ky:(Str.ofString "and"=Str.ofString "-")=False:=bL (by x_go)
theorem Kz:(Str.ofString "and"=Str.ofString "*")=False:=bL (by x_go)
theorem KC:(Str.ofString "and"=Str.ofString "least")=False:=bL (by x_go)
theorem KD:(Str.ofString "and"=Str.ofString "most")=False:=bL (by x_go)
theorem KH:(Str.ofString "and"=Str.ofString "<")=False:=bL (by x_go)
theorem KJ:(Str.ofString "and"=Str.ofString "=")=False:=bL (by x_go)
theorem KN:(Str.ofString "or"=Str.ofString "+")=False:=bL (by x_go)
theorem KQ:(Str.ofString "or"=Str.ofString "-")=False:=bL (by x_go)
theorem KR:(Str.ofString "or"=Str.ofString "*")=False:=bL (by x_go)
theorem KY:(Str.ofString "or"=Str.ofString "least")=False:=bL (by x_go)
theorem KZ:(Str.ofString "or"=Str.ofString "most")=False:=bL (by x_go)
theorem K3:(Str.ofString "or"=Str.ofString "<")=False:=bL (by x_go)
theorem K4:(Str.ofString "or"=Str.ofString "=")=False:=bL (by x_go)
theorem K5:(Str.ofString "or"=Str.ofString "and")=False:=bL (by x_go)
theorem K6:(Str.ofString "<"=Str.ofString "and")=False:=bL (by x_go)
theorem K7:(Str.ofString "<"=Str.ofString "or")=False:=bL (by x_go)
theorem K8:(Str.ofString "="=Str.ofString "and")=False:=bL (by x_go)
theorem K9:(Str.ofString "="=Str.ofString "or")=False:=bL (by x_go)
theorem K_:(Str.ofString "+"=Str.ofString "not")=False:=bL (by x_go)
theorem La:(Str.ofString "-"=Str.ofString "not")=False:=bL (by x_go)
theorem Lb:(Str.ofString "*"=Str.ofString "not")=False:=bL (by x_go)
theorem Ld:(Str.ofString "least"=Str.ofString "not")=False:=bL (by x_go)
theorem Le:(Str.ofString "most"=Str.ofString "not")=False:=bL (by x_go)
theorem Lf:(Str.ofString "<"=Str.ofString "not")=False:=bL (by x_go)
theorem Lg:(Str.ofString "="=Str.ofString "not")=False:=bL (by x_go)
theorem Lh:(Str.ofString "and"=Str.ofString "not")=False:=bL (by x_go)
theorem Li:(Str.ofString "or"=Str.ofString "not")=False:=bL (by x_go)
local macro_rules | `(tactic| walk_at "ops")=> `(tactic| try simp only[nq0,nq1,nq2,nq3,nq4,nq5,nq6,nq7,nq8,nq9,Kg,Kh,Kl,Km,Ko,Kp,Kq,Kr,Ks,Ku,Kv,Kw,Ky,Kz,KC,KD,KH,KJ,KN,KQ,KR,KY,KZ,K3,K4,K5,K6,K7,K8,K9,K_,La,Lb,Ld,Le,Lf,Lg,Lh,Li])
theorem X4 {x:Str}{q:Str×Str×Nat}{a b:D}{m n:Nat}(h:cR x=some q)(h2:q.2.2=2)(ha:Vk q.2.1 a m)(hb:Vk q.2.1 b n)(hm:m<=47)(hn:n<=47):Ac [.str x,a,b] M=some (.v (gU x a b),M):=by
 have nt:¬ (("number":Str)="truth"):=by x_go
 have tn:¬ (("truth":Str)="number"):=by x_go
 unfold Ac Ij;rcases Tn h h2 with⟨hx,e1,e2⟩ |⟨hx,e1,e2⟩ |⟨hx,e1,e2⟩
 ·rw[e2]at ha hb;rcases ha with⟨_,i,rfl,hi⟩ |⟨z,_⟩
  ·rcases hb with⟨_,j,rfl,hj⟩ |⟨z,_⟩
   ·have li:=Em hm hi;have lj:=Em hn hj;unfold gU;dsimp only;rcases hx with rfl |rfl |rfl |rfl |rfl
    all_goals
     iterate 5 (z_go;walk_at "ops")
     try rw[xab (.inr (.inr ⟨li,lj⟩))]
     try z_go
   ·exact absurd z nt
  ·exact absurd z nt
 ·rw[e2]at ha hb;rcases ha with⟨_,i,rfl,hi⟩ |⟨z,_⟩
  ·rcases hb with⟨_,j,rfl,hj⟩ |⟨z,_⟩
   ·unfold gU;dsimp only;rcases hx with rfl |rfl
    all_goals
     iterate 9 (z_go;walk_at "ops")
     try z_go
   ·exact absurd z nt
  ·exact absurd z nt
 ·rw[e2]at ha hb;rcases ha with⟨z,_⟩ |⟨_,p,rfl⟩
  ·exact absurd z tn
  ·rcases hb with⟨z,_⟩ |⟨_,p',rfl⟩
   ·exact absurd z tn
   ·unfold gU;dsimp only;rcases hx with rfl |rfl
    all_goals
     iterate 9 (z_go;walk_at "ops")
     cases p<;>cases p'
     all_goals (try z_go;try rfl)
theorem QV:∀(cs:List Nat) (acc:Nat),NumText.AllDigits cs->cs.foldl (fun acc c=>acc * 10 + (c - 48)) acc<(acc + 1) * 10 ^ cs.length
  | [],acc,_=>by simp
  |c::cs,acc,h=>by
    have hc:=h c xat;have:=QV cs (acc * 10 + (c - 48)) fun d hd=>h d (xak _ hd);rw[xcp,xao,Nat.pow_succ];refine xai this ?_;rw[Nat.mul_comm (10 ^ cs.length) 10, <-Nat.mul_assoc];exact Nat.mul_le_mul_right _ (by omega)
theorem Yt (cs:List Nat)(h:NumText.AllDigits cs):NumText.digitsVal cs<10 ^ cs.length:=by
 have:=QV cs 0 h;rw[Nat.zero_add,Nat.one_mul]at this;exact this
noncomputable def tK (x:Str) (t v o:D):D:=if x="t" then t else if x="v" then v else if x="w" then o else .int (zB (cd x))
theorem Ry {x:Str}(h:kh x=true):x.length<=600/\gM (lJ (cd x))=true/\(lJ (cd x)).length<=20:=by
 unfold kh good at h;simp only[xap,xaS]at h;refine⟨?_,h.1.2,h.2⟩;have:=h.2;rw[lO];unfold lJ at this;split at this
 ·rw[List.length_tail]at this;omega
 ·omega
theorem Jz {x:Str}{t v o:D}(h:kh x=true\/tvw x=true):Aj [.str x,t,v,o] M=some (.v (tK x t v o),M):=by
 unfold Aj Iu tK;z_go
 by_cases h1:x="t"
 ·simp only[h1];z_go
 ·simp only[h1];z_go
  by_cases h2:x="v"
  ·simp only[h2];z_go
  ·simp only[h2];z_go
   by_cases h3:x="w"
   ·simp only[h3];z_go
   ·simp only[h3];z_go;have hh:kh x=true:=by
     rcases h with h |h
     ·exact h
     ·unfold tvw at h
      simp[h1,h2,h3]at h
    obtain⟨hl,hf,_⟩:=Ry hh;rw[xab (show x.length<=640 by omega),Zq hf hl];z_go
def Sn (d:D):Prop:=∃i:Int,d=.int i/\i.natAbs<2 ^ 210
theorem Sn.vk {d:D}(h:Sn d):Vk "number" d 1:=by
 obtain⟨i,rfl,hi⟩:=h;exact .inl ⟨rfl,i,rfl,hi⟩
theorem zgc {x:Str}{t v o:D}(h:kh x=true\/tvw x=true)(ht:Sn t)(hv:Sn v)(ho:Sn o):Sn (tK x t v o):=by
 unfold tK
 by_cases h1:x="t"
 ·rw[xab h1];exact ht
 ·rw[xad h1]
  by_cases h2:x="v"
  ·rw[xab h2];exact hv
  ·rw[xad h2]
   by_cases h3:x="w"
   ·rw[xab h3];exact ho
   ·rw[xad h3];have hh:kh x=true:=by
     rcases h with h |h
     ·exact h
     ·unfold tvw at h
      simp[h1,h2,h3]at h
    obtain⟨_,hf,hl⟩:=Ry hh;obtain⟨_,hd,_⟩:=Jq hf;have b:=Yt _ hd;have b2:10 ^ (lJ (cd x)).length<=10 ^ 20:=xcg (by decide) hl;have b3:(10:Nat) ^ 20<2 ^ 210:=by x_go
    refine⟨_,rfl,?_⟩;unfold zB;unfold lJ at b b2
    split
    ·rename_i hh;rw[xab hh]at b b2;omega
    ·rename_i hh;rw[xad hh]at b b2;omega
noncomputable def stepV (t v o:D) (x:Str) (rs:List D):List D:=match cR x with
  | some q => if q.2.2 = 2 then (match rs with
    |a::b::r=>gU x a b::r
    | _ => []) else (match rs with
    |.bl p::r=>.bl (!p)::r
    |_=>[])
  |none=>tK x t v o::rs
noncomputable def cT (t v o:D):List Str->List D->List D
 | [],rs=>rs
 |x::xs,rs=>cT t v o xs (stepV t v o x rs)
theorem Uw {t v o:D}:∀{xs ys:List Str} {rs:List D},cT t v o (xs ++ ys) rs=cT t v o ys (cT t v o xs rs)
 | [],_,_=>rfl
 |_::xs,_,_=>Uw (xs:=xs)
theorem Wr {L x:Str}{ks ks':List Str}{rs:List D}{n:Nat}(h:stepK L x ks=some ks')(ty:TyS ks rs n):
    (∃q a b r m m',cR x=some q/\q.2.2=2/\rs=a::b::r/\Vk q.2.1 a m/\Vk q.2.1 b m'/\m<=n/\m'<=n/\∃ks'' n'',ks'=q.1::ks''/\TyS ks'' r n''/\m + m' + n''=n)\/(x="not"/\∃p r,rs=.bl p::r/\∃ks'' n'' m,ks'=("truth":Str)::ks''/\TyS ks'' r n''/\m + n''=n)\/(cR x=none/\lf x L=true/\ks'=("number":Str)::ks):=by
  unfold stepK at h
  cases hn:cR x with
  |none=>
    rw[hn]at h;dsimp only at h;split at h
    · rename_i hf;cases h;exact .inr (.inr ⟨rfl,hf,rfl⟩)
    · cases h
  |some q=>
    rw[hn]at h;dsimp only at h;rw[xac]at h;obtain⟨k1,h1,rfl⟩:=h;rcases(Lj hn).1 with e |e
    · obtain⟨hx,e1,e2⟩:=zfB hn e;rw[e]at h1
      cases ty with
      |nil=>cases h1
      |cons vk ty'=>
        rename_i k d ks0 ds0 m n0;simp only[kZ]at h1;split at h1
        · rename_i hk;cases h1;rw[hk,e2]at vk;rcases vk with⟨z,_⟩ |⟨_,p,rfl⟩
          · exact absurd z (by x_go)
          · exact .inr (.inl ⟨hx,p,_,rfl,_,_,_,by rw[e1],ty',rfl⟩)
        · cases h1
    · rw[e]at h1
      cases ty with
      |nil=>cases h1
      |cons vk ty'=>
        rename_i k d ks0 ds0 m n0;simp only[kZ]at h1;split at h1
        · rename_i hk
          cases ty' with
          |nil=>cases h1
          |cons vk2 ty2=>
            rename_i k' d' ks2 ds2 m' n2;simp only[kZ]at h1;split at h1
            · rename_i hk2;cases h1;exact .inl ⟨q,_,_,_,m,m',rfl,e,rfl,hk ▸ vk,hk2 ▸ vk2,by omega,by omega,_,n2,rfl,ty2,by omega⟩
            · cases h1
        · cases h1
theorem Et:cR "not"=some (Str.ofString "truth",Str.ofString "truth",1):=by x_go
theorem zdo {L x:Str}{ks ks':List Str}{rs:List D}{n:Nat}{t v o:D}(h:stepK L x ks=some ks')(ty:TyS ks rs n)(ht:Sn t)(hv:Sn v)(ho:Sn o):∃n',TyS ks' (stepV t v o x rs) n'/\n'<=n + 1:=by
 unfold stepV;rcases Wr h ty with⟨q,a,b,r,m,m',hn,h2,rfl,va,vb,_,_,ks2,n2,rfl,ty2,hs⟩ |⟨rfl,p,r,rfl,ks2,n2,m,rfl,ty2,hs⟩ |⟨hn,hf,rfl⟩
 ·rw[hn];dsimp only;rw[xab h2];exact⟨_,.cons (zhd hn h2 va vb) ty2,by omega⟩
 ·rw[Et];exact⟨0 + n2,.cons (.inr ⟨rfl,_,rfl⟩) ty2,by omega⟩
 ·rw[hn];refine⟨1 + n,.cons (zgc ?_ ht hv ho).vk ty,by omega⟩;unfold lf at hf;rw[xb1,xap]at hf;exact hf.imp id (·.1)
theorem Nx {rs:List D}{y:D}:rs.reverse ++ [y]=(y::rs).reverse:=by rw[xbM]
theorem zfQ {x L:Str}(hf:lf x L=true):kh x=true\/tvw x=true:=by
 unfold lf at hf;rw[xb1,xap]at hf;exact hf.imp id (·.1)
theorem zct {L x:Str}{ks ks':List Str}{rs:List D}{n:Nat}{w0 t v o:D}{s6 s7:E3.Slot}(h:stepK L x ks=some ks')(ty:TyS ks rs n)(hn:n<=46)(hr:rs.length<=1000):∃t6 t7,A_ [.val w0,.val t,.val v,.val o,.val (.ref M.length),.val (.str x),s6,s7] (M ++ [.lst rs.reverse])=some (.nx [.val w0,.val t,.val v,.val o,.val (.ref M.length),.val (.str x),t6,t7],M ++ [.lst (stepV t v o x rs).reverse]):=by
 unfold A_ stepV;rcases Wr h ty with⟨q,a,b,r,m,m',hq,h2,rfl,va,vb,hm,hm',_⟩ |⟨rfl,p,r,rfl,_⟩ |⟨hq,hf,_⟩
 ·refine⟨.val a,.val b,?_⟩;have nx:(x=Str.ofString "not")=False:=xcu fun z=>by
   rw[z,Et]at hq;cases hq;cases h2
  rw[hq];dsimp only;rw[xab h2];z_go;simp only[nx];z_go;rw[u6,hq];simp only[xbb,xcr];z_go;rw[Fp];z_go;rw[Fp];z_go;rw[X4 hq h2 va vb (by omega) (by omega)];z_go;rw[xaK,xab (by simp only[xao]at hr;omega),Nx];z_go
 ·refine⟨s6,s7,?_⟩;rw[Et];dsimp only;z_go;rw[Fp];z_go;rw[xaK,xab (by simp only[xao]at hr;omega),Nx];z_go;rfl
 ·refine⟨s6,s7,?_⟩;have nx:(x=Str.ofString "not")=False:=xcu fun z=>by
   rw[z,Et]at hq;cases hq
  rw[hq];dsimp only;z_go;simp only[nx];z_go;rw[u6,hq];simp only[xdI,xc7];z_go;rw[Jz (zfQ hf)];z_go;rw[xaK,xab (by omega),Nx];z_go
theorem TyS.len {ks:List Str}{rs:List D}{n:Nat}(h:TyS ks rs n):rs.length=ks.length:=by
 induction h with
 |nil=>rfl
 |cons _ _ ih=>rw[xao,xao,ih]
theorem Nv {L:Str}{t v o:D}(ht:Sn t)(hv:Sn v)(ho:Sn o):∀{xs ks ks':List Str} {rs:List D} {n:Nat},runK L xs ks=some ks'->TyS ks rs n->∃n',TyS ks' (cT t v o xs rs) n'/\n'<=n + xs.length
  | [],_,_,_,n,h,ty=>by cases h;exact⟨n,ty,xaf _⟩
  |x::xs,ks,ks',rs,n,h,ty=>by
    unfold runK at h;rw[xdF]at h;obtain⟨k1,h1,h2⟩:=h;obtain⟨n1,ty1,hn1⟩:=zdo h1 ty ht hv ho;obtain⟨n2,ty2,hn2⟩:=Nv ht hv ho h2 ty1;exact⟨n2,ty2,by rw[xao];omega⟩
theorem zds {L:Str}{xs:List Str}{k:Nat}{ks:List Str}(h:runK L xs []=some ks):∃k1,runK L (xs.take k) []=some k1:=by
 rw[<-xdR k xs,BX]at h
 cases e:runK L (xs.take k) [] with
 |none=>rw[e]at h;cases h
 |some k1=>exact⟨k1,rfl⟩
theorem zfc {L:Str}{xs:List Str}{k:Nat}{x:Str}{k1 ks:List Str}(h:runK L xs []=some ks)(hk:runK L (xs.take k) []=some k1)(hx:xs[k]? =some x):∃k2,stepK L x k1=some k2/\runK L (xs.take (k + 1)) []=some k2:=by
 obtain⟨k2,h2⟩:=zds (k:=k + 1) h;refine⟨k2,?_,h2⟩;rw[take_snoc hx,BX,hk]at h2;have h3:(stepK L x k1).bind (runK L [])=some k2:=h2
 cases e:stepK L x k1 with
 |none=>rw[e]at h3;cases h3
 |some k3=>rw[e]at h3;exact h3
theorem zgz {L wt:Str}{ws:List Str}{t v o:D}(h:runK L ws.reverse []=some [wt])(hl:ws.length<=46)(ht:Sn t)(hv:Sn v)(ho:Sn o):∃d n,cT t v o ws.reverse []=[d]/\Vk wt d n/\n<=46/\∀M:Mm,tZ [.tup (ws.map D.str),t,v,o] M=some (.v d,M ++ [.lst [d]]):=by
  obtain⟨n,ty,hn⟩:=Nv ht hv ho h .nil;rw[xaK]at hn;generalize er:cT t v o ws.reverse []=rs at ty
  cases ty with
  |cons vk ty'=>
    cases ty' with
    |nil=>
      rename_i d m;refine⟨d,m,rfl,vk,by omega,fun M=>?_⟩;have lp:∃s5 s6 s7,loopS 5 A_ (ws.map D.str).reverse [.val (.tup (ws.map D.str)),.val t,.val v,.val o,.val (.ref M.length),.un,.un,.un] (M ++ [.lst ([]:List D).reverse])=some (.nx [.val (.tup (ws.map D.str)),.val t,.val v,.val o,.val (.ref M.length),s5,s6,s7],M ++ [.lst (cT t v o ws.reverse []).reverse]):=by
        refine JX (fun q=>∃s5 s6 s7,q=some (.nx [.val (.tup (ws.map D.str)),.val t,.val v,.val o,.val (.ref M.length),s5,s6,s7],M ++ [.lst (cT t v o ws.reverse []).reverse])) (fun k env N=>∃s5 s6 s7 k1,env=[.val (.tup (ws.map D.str)),.val t,.val v,.val o,.val (.ref M.length),s5,s6,s7]/\N=M ++ [.lst (cT t v o (ws.reverse.take k) []).reverse]/\runK L (ws.reverse.take k) []=some k1) ⟨_,_,_,[],rfl,rfl,by rw[List.take_zero];rfl⟩ ?_ ?_
        · rintro k d env N hd ⟨s5,s6,s7,k1,rfl,rfl,hk⟩;rw[<-xcE,xan,xac]at hd;obtain⟨x,hx,rfl⟩:=hd;refine⟨by show 5<8;decide,?_⟩;obtain⟨k2,st,hk2⟩:=zfc h hk hx;obtain⟨n1,ty1,hn1⟩:=Nv ht hv ho hk .nil;have hkl:k<ws.length:=by have:=(xam.mp hx).1;rwa [xaK]at this
          have hl1:(ws.reverse.take k).length=k:=by rw[xbC,xaK];omega
          rw[hl1]at hn1;have hlr:=ty1.len;have hlk:=Nu hk;rw[xaV,hl1]at hlk;show Step _ _ (A_ [.val (.tup (ws.map D.str)),.val t,.val v,.val o,.val (.ref M.length),.val (.str x),s6,s7] _);obtain⟨t6,t7,e⟩:=zct (M:=M) (w0:=.tup (ws.map D.str)) (t:=t) (v:=v) (o:=o) (s6:=s6) (s7:=s7) st ty1 (by omega) (by omega);rw[e];refine⟨_,_,_,k2,rfl,?_,hk2⟩;rw[take_snoc hx,Uw];rfl
        · rintro env N ⟨s5,s6,s7,k1,rfl,rfl,hk⟩;rw[show(ws.map D.str).reverse.length=ws.reverse.length by simp,List.take_length];exact⟨_,_,_,rfl⟩
      obtain⟨s5,s6,s7,lp⟩:=lp;rw[er]at lp;unfold tZ Iz;z_go;rw[show(Cl.lst ([]:List D))=.lst ([]:List D).reverse from rfl,lp];z_go;rw[show [d].reverse=[d] from rfl];z_go
theorem Oc {i:Int}(h:i.natAbs<2 ^ 210):Sn (.int i):=⟨i,rfl,h⟩
theorem fV {N E:Mm}{k:Nat}{c:E3.Cl}(h:N[k]? =some c):(N ++ E)[k]? =some c:=by rw[xaH (xam.mp h).1];exact h
noncomputable def dM (ws:List Str):E3.Cl:=.obj "Expr" [("parts",.tup (ws.map D.str))]
theorem Um {L:Str}{ws:List Str}(hs:∀x∈ws,sm x)(hl:ws.length<=900)(h:runK L ws.reverse []=some [Str.ofString "number"]):Ak [.tup (ws.map D.str),.str L] M=some (.v (.ref (M ++ [kc ["number"]]).length),M ++ [kc ["number"]] ++ [dM ws]):=by
 rcases X_ (M:=M) (L:=L) (wt:="number") hs hl with⟨_,e⟩ |⟨z,_⟩
 ·unfold Ak Iw;z_go;rw[e];z_go;rw[S_ (ds:=[.tup (ws.map D.str)]) (M1:=M ++ [kc ["number"]]) (by z_go) Zo];rfl
 ·exact absurd h z
theorem JB {ws:List Str}{k:Nat}{t v o d:D}(hM:M[k]? =some (dM ws))(hr:∀M:Mm,tZ [.tup (ws.map D.str),t,v,o] M=some (.v d,M ++ [.lst [d]])):yC [.ref k,t,v,o] M=some (.v d,M ++ [.lst [d]]):=by
 unfold yC Dj;z_go;rw[zZ (k:=k) (M1:=M) (by z_go) hM rfl];z_go;rw[hr];z_go
def gh (k:Nat):E3.Cl:=.fn j_ [("expr",.ref k)]
noncomputable def mY (s:Int) (f:Nat):E3.Cl:=.fn gk [("span",.int s),("change",.ref f)]
def TT (M:Mm):Prop:=M[0]? =some (.tbl "change_of" j_)/\M[1]? =some (.tbl "pairer_of" gk)
theorem TT.app {E:Mm}(h:TT M):TT (M ++ E):=⟨fV h.1,fV h.2⟩
theorem HN {A B C D:Mm}:∃E,A ++ B ++ C ++ D=A ++ E:=⟨B ++ C ++ D,by simp only[xar]⟩
theorem X7 {L:Str}{ws:List Str}(T:TT M)(hs:∀x∈ws,sm x)(hl:ws.length<=900)(h:runK L ws.reverse []=some [Str.ofString "number"]):
  ∃f k E,wW [.tup (ws.map D.str),.str L] M=some (.v (.ref f),M ++ E)/\(M ++ E)[f]? =some (gh k)/\(M ++ E)[k]? =some (dM ws):=by
 have mk:=rW (M:=M ++ [kc ["number"]] ++ [dM ws]) (env:=[.val (.tup (ws.map D.str)),.val (.str L),.val (.ref (M ++ [kc ["number"]]).length),.un]) (caps:=[("expr",2)]) (cs:=[("expr",.ref (M ++ [kc ["number"]]).length)]) (fV (fV T.1)) rfl;obtain⟨E,eE⟩:=HN (A:=M) (B:=[kc ["number"]]) (C:=[dM ws]) (D:=[gh (M ++ [kc ["number"]]).length]);refine⟨(M ++ [kc ["number"]] ++ [dM ws]).length,(M ++ [kc ["number"]]).length,E,?_,by rw[<-eE];exact yJ,by rw[<-eE];exact fV yJ⟩;rw[<-eE];unfold wW Du;generalize eY 0 "change_of" j_ [("expr",2)]=F at mk ⊢;z_go;rw[Um hs hl h];z_go;rw[mk];rfl
theorem zhu {x0 x1 x2:D}{ws:List Str}{s:Int}(T:TT M)(hs:∀x∈ws,sm x)(hl:ws.length<=900)(h:runK "tvw" ws.reverse []=some [Str.ofString "number"])(si:dh [.str (cH s)]=some (.int s)):
  ∃g f k E,rN [.tup [x0,x1,x2,.tup (.str (cH s)::ws.map D.str)]] M=some (.v (.ref g),M ++ E)/\(M ++ E)[g]? =some (mY s f)/\(M ++ E)[f]? =some (gh k)/\(M ++ E)[k]? =some (dM ws):=by
 obtain⟨f,k,E,e1,e2,e3⟩:=X7 (L:="tvw") T hs hl h;have mk:=rW (M:=M ++ E) (env:=[.val (.tup [x0,x1,x2,.tup (.str (cH s)::ws.map D.str)]),.val (.int s),.val (.ref f),.un]) (caps:=[("span",1),("change",2)]) (cs:=[("span",.int s),("change",.ref f)]) T.app.2 rfl;refine⟨(M ++ E).length,f,k,E ++ [mY s f],?_,by rw[<-xar];exact yJ,by rw[<-xar];exact fV e2,by rw[<-xar];exact fV e3⟩;rw[<-xar];have sl:dG (s2 aN (aj 0) (ao (.int 3))) (fK (ao (.int 1))) gD [.val (.tup [x0,x1,x2,.tup (.str (cH s)::ws.map D.str)]),.val (.int s),.un,.un] M=some (.v (.tup (ws.map D.str)),M):=by
  have c:cI (D.str (cH s)::ws.map D.str) (some 1) none=ws.map D.str:=by rw[QB _ (by decide)];rfl
  rw[Fv];z_go;simp only[sY,fK,gD];z_go;rw[Fy,show wG (.tup (D.str (cH s)::ws.map D.str)) (some 1) none=some (.tup (cI (D.str (cH s)::ws.map D.str) (some 1) none)) from rfl,c];rfl
 unfold rN Dy;generalize dG (s2 aN (aj 0) (ao (.int 3))) (fK (ao (.int 1))) gD=SL at sl ⊢;generalize eY 1 "pairer_of" gk [("span",1),("change",2)]=F at mk ⊢;z_go;rw[<-Bj,si];z_go;rw[sl];z_go;rw[e1];z_go;rw[mk];rfl
noncomputable def hold (i:Int):Int:=if (if i<1000000000000000000000000000000000000000000000000000000000000 then i else 1000000000000000000000000000000000000000000000000000000000000) > -1000000000000000000000000000000000000000000000000000000000000 then if i<1000000000000000000000000000000000000000000000000000000000000 then i else 1000000000000000000000000000000000000000000000000000000000000 else -1000000000000000000000000000000000000000000000000000000000000
theorem Zg {i:Int}:Ae [.int i] M=some (.v (.int (hold i)),M):=by
 unfold hold Ae Ik;z_go
theorem I_ {k:Nat}{ws:List Str}{t v o:D}{i:Int}(hM:M[k]? =some (dM ws))(hr:∀M:Mm,tZ [.tup (ws.map D.str),t,v,o] M=some (.v (.int i),M ++ [.lst [.int i]])):yH [t,v,o,.ref k] M=some (.v (.int (hold i)),M ++ [.lst [.int i]]):=by
 have a1:bH "Expr" "value" yC (aj 3) (aA (aj 0) (aA (aj 1) (aA (aj 2) au))) [.val t,.val v,.val o,.val (.ref k)] M=some (.v (.int i),M ++ [.lst [.int i]]):=kE (M1:=M) (M2:=M) (k:=k) (ds:=[t,v,o]) rfl hM (by kernel_rfl) rfl (JB hM hr);show cZ (Dv [.val t,.val v,.val o,.val (.ref k)] M)=_;unfold Dv;z_go;rw[a1];z_go;rw[Zg];z_go
noncomputable def pq (form:Int):List Str:=if form=0 then ["-","v","w"] else if form=1 then ["+","v","*","2","w"] else if form=2 then ["most","t","w"] else ["*","v","w"]
noncomputable def lV (form t v o:Int):Int:=if form=0 then v - o else if form=1 then v + 2 * o else if form=2 then(if o > t then o else t) else v * o
theorem T9 {form:Int}:runK "tvw" (pq form).reverse []=some [Str.ofString "number"]:=by
 unfold pq
 repeat' split
 all_goals decide +kernel
theorem LK {form:Int}:(pq form).length<=7:=by
 unfold pq
 repeat' split
 all_goals simp
theorem zdB {x:Str}(h:(decide (x.length<=9000) && (cd x).all fun c=>decide (c<4294967296))=true):sm x:=by
 rw[xap,xaS,xaM]at h;exact⟨h.1,fun c hc=>xby (h.2 c hc)⟩
theorem zf2 {form:Int}:∀x∈pq form,sm x:=by
 have hs:∀ws:List Str,ws.all (fun x=>decide (x.length<=9000) && (cd x).all fun c=>decide (c<4294967296))=true->∀x∈ws,sm x:=fun ws h x hx=>zdB (xaM.mp h x hx);refine hs _ ?_;unfold pq
 repeat' split
 all_goals decide +kernel
section
variable {t v o:D}{rs:List D}{i j:Int}{p q:Bool}
theorem xQ:stepV t v o "v" rs=v::rs:=by
 unfold stepV;rw[show cR "v"=none by x_go];rfl
theorem NK:stepV t v o "t" rs=t::rs:=by
 unfold stepV;rw[show cR "t"=none by x_go];rfl
theorem sS:stepV t v o "w" rs=o::rs:=by
 unfold stepV;rw[show cR "w"=none by x_go];rfl
theorem sV_3:stepV t v o "3" rs=.int 3::rs:=by
 unfold stepV;rw[show cR "3"=none by x_go];dsimp only;rw[show tK "3" t v o=.int 3 by unfold tK;rw[xad (by x_go),xad (by x_go),xad (by x_go),show zB (cd "3")=3 by x_go]]
theorem nG {x:Str}{a b:D}{k1 k2:Str}(h:cR x=some (k1,k2,2)):stepV t v o x (a::b::rs)=gU x a b::rs:=by
 unfold stepV;rw[h];rfl
end
theorem zgG {i j:Int}:gU "+" (.int i) (.int j)=.int (i + j):=by kernel_rfl
theorem zfv {i j:Int}:gU "-" (.int i) (.int j)=.int (i - j):=by kernel_rfl
theorem TF {i j:Int}:gU "*" (.int i) (.int j)=.int (i * j):=by kernel_rfl
theorem zht {i j:Int}:gU "least" (.int i) (.int j)=.int (if j<i then j else i):=by kernel_rfl
theorem zgV {i j:Int}:gU "most" (.int i) (.int j)=.int (if j > i then j else i):=by kernel_rfl
theorem zgk:cR "+"=some (Str.ofString "number",Str.ofString "number",2):=by x_go
theorem zfD:cR "-"=some (Str.ofString "number",Str.ofString "number",2):=by x_go
theorem Tj:cR "*"=some (Str.ofString "number",Str.ofString "number",2):=by x_go
theorem zhv:cR "least"=some (Str.ofString "number",Str.ofString "number",2):=by x_go
theorem zgR:cR "most"=some (Str.ofString "number",Str.ofString "number",2):=by x_go
theorem zfL {t v o:D}{rs:List D}:stepV t v o "2" rs=.int 2::rs:=by
 unfold stepV;rw[show cR "2"=none by x_go];dsimp only;rw[show tK "2" t v o=.int 2 by unfold tK;rw[xad (by x_go),xad (by x_go),xad (by x_go),show zB (cd "2")=2 by x_go]]
theorem zec {form t v o:Int}:cT (.int t) (.int v) (.int o) (pq form).reverse []=[.int (lV form t v o)]:=by
 unfold pq lV
 split
 ·simp only[xbM,xcF,xbi,xcf,cT,xQ,sS,nG zfD,zfv]
 split
 ·simp only[xbM,xcF,xbi,xcf,cT,xQ,sS,zfL,nG Tj,TF,nG zgk,zgG]
 split
 ·simp only[xbM,xcF,xbi,xcf,cT,NK,sS,nG zgR,zgV]
 ·simp only[xbM,xcF,xbi,xcf,cT,xQ,sS,nG Tj,TF]
noncomputable def tm:D->Int
 |.tup (.int t::_)=>t
 |_=>0
noncomputable def ky:D->Str
 |.tup (_::.str z::_)=>z
 |_=>""
noncomputable def vl:D->Int
 |.tup (_::_::.int v::_)=>v
 |_=>0
def Tg (d:D):Prop:=d=.tup [.int (tm d),.str (ky d),.int (vl d)]
def Asc (ds:List D):Prop:=ds.Pairwise fun a b=>tm a<=tm b
def Tk (d:D):Prop:=∃(t:Int) (z:Str) (v:Int),d=.tup [.int t,.str z,.int v]
theorem zhw {d:D}(h:Tk d):Tg d:=by
 obtain⟨t,z,v,rfl⟩:=h;rfl
variable {M:Mm}
noncomputable def mx (a b:Int):Int:=if b > a then b else a
noncomputable def ab (i:Int):Int:=if i<0 then -i else i
noncomputable def mH (s form:Int) (d e:D):List D:=if ky d=ky e/\ab (tm d - tm e)<=s then [.tup [.int (mx (tm d) (tm e)),.str (ky d),.int (hold (lV form (mx (tm d) (tm e)) (vl d) (vl e)))]] else []
theorem zfX {t v w:Int}(h1:t.natAbs<=1000000000000)(h2:v.natAbs<=1000000000000000000000000000000000000000000000000000000000000)(h3:w.natAbs<=1000000000000000000000000000000000000000000000000000000000000):Sn (.int t)/\Sn (.int v)/\Sn (.int w):=by
 have p210:(1000000000000000000000000000000000000000000000000000000000000:Nat)<2 ^ 210:=by x_go
 exact⟨Oc (by omega),Oc (by omega),Oc (by omega)⟩
theorem Nt {form t v w:Int}(h1:t.natAbs<=1000000000000)(h2:v.natAbs<=1000000000000000000000000000000000000000000000000000000000000)(h3:w.natAbs<=1000000000000000000000000000000000000000000000000000000000000)(N:Mm):tZ [.tup ((pq form).map D.str),.int t,.int v,.int w] N=some (.v (.int (lV form t v w)),N ++ [.lst [.int (lV form t v w)]]):=by
 obtain⟨a,b,c⟩:=zfX h1 h2 h3;have hl:=LK (form:=form);obtain⟨d,m,r,_,_,g⟩:=zgz (T9 (form:=form)) (by omega) a b c;rw[zec]at r;cases r;exact g N
theorem J5 {a b:Int}(h1:a.natAbs<=1000000000000)(h2:b.natAbs<=1000000000000):(mx a b).natAbs<=1000000000000:=by
 unfold mx
 split<;>assumption
theorem zV {form s t t' v v':Int}{z z':Str}{f k:Nat}(hF:M[f]? =some (gh k))(hM:M[k]? =some (dM (pq form)))(h1:t.natAbs<=1000000000000)(h2:v.natAbs<=1000000000000000000000000000000000000000000000000000000000000)(h1':t'.natAbs<=1000000000000)(h2':v'.natAbs<=1000000000000000000000000000000000000000000000000000000000000):
  ∃E,rO [.tup [.int t,.str z,.int v],.tup [.int t',.str z',.int v'],.int s,.ref f] M=some (.v (.lst (mH s form (.tup [.int t,.str z,.int v]) (.tup [.int t',.str z',.int v']))),M ++ E):=by
 have cf:∀s2:Slot,s2=.val (.int (mx t t'))->gW j_ yH (aj 4) (aA (aj 2) (aA (E3.s2 aN (aj 0) (ao (.int 2))) (aA (E3.s2 aN (aj 1) (ao (.int 2))) au))) [.val (.tup [.int t,.str z,.int v]),.val (.tup [.int t',.str z',.int v']),s2,.val (.int s),.val (.ref f)] M=some (.v (.int (hold (lV form (mx t t') v v'))),M ++ [.lst [.int (lV form (mx t t') v v')]]):=fun s2 e=>by
  subst e;exact IW (M1:=M) (M2:=M) (k:=f) (ds:=[.int (mx t t'),.int v,.int v']) rfl hF rfl (I_ hM (Nt (J5 h1 h1') h2 h2'))
 have es:mH s form (.tup [.int t,.str z,.int v]) (.tup [.int t',.str z',.int v'])=if z=z'/\ab (t - t')<=s then [.tup [.int (mx t t'),.str z,.int (hold (lV form (mx t t') v v'))]] else []:=rfl
 rw[es];show ∃E,cZ (Dz [.val (.tup [.int t,.str z,.int v]),.val (.tup [.int t',.str z',.int v']),.un,.val (.int s),.val (.ref f)] M)=_;unfold Dz;generalize gW j_ yH (aj 4) (aA (aj 2) (aA (E3.s2 aN (aj 0) (ao (.int 2))) (aA (E3.s2 aN (aj 1) (ao (.int 2))) au)))=F at cf ⊢
 by_cases hc:z=z'/\ab (t - t')<=s
 ·rw[xab hc];obtain⟨rfl,ha⟩:=hc;have ha':¬ (if t - t'<0 then -(t - t') else t - t') > s:=by unfold ab at ha;omega
  have cf':=cf _ rfl;unfold mx at cf' ⊢;refine⟨[.lst [.int (lV form (if t' > t then t' else t) v v')]],?_⟩
  z_go;rw[xad (show ¬ s<(if t - t'<0 then -(t - t') else t - t') from ha')]
  z_go;rw[cf'];z_go
 ·rw[xad hc];refine⟨[],?_⟩;rw[xax];z_go
  by_cases hz:z=z'
  ·have hs:s<(if t - t'<0 then -(t - t') else t - t'):=by
    have:¬ ab (t - t')<=s:=fun h=>hc ⟨hz,h⟩;unfold ab at this;omega
   rw[xad (fun h=>h hz),xaF hs];z_go
  ·rw[xab hz];z_go
variable {M:Mm}
noncomputable def OB (s:Int) (a b:Nat):E3.Cl:=.obj "JoinStation" [("marks",.ref 3),("span",.int s),("pair",.ref 7),("kept",.tup [.ref a,.ref b])]
structure J (s form m0 m1:Int)(a b:Nat)(K0 K1:List D)(M:Mm):Prop where
 o:M[2]? =some (OB s a b)
 mm:M[3]? =some (.lst [.int m0,.int m1])
 x:M[5]? =some (dM (pq form))
 h:M[6]? =some (gh 5)
 p:M[7]? =some (mY s 6)
 ka:M[a]? =some (.lst K0)
 kb:M[b]? =some (.lst K1)
 ne:a≠b
 ha:a=8\/12<=a
 hb:b=9\/12<=b
structure Lw (T:List D)(l0 l1:Int)(M:Mm):Prop where
 t:M[10]? =some (.lst T)
 m:M[11]? =some (.lst [.int l0,.int l1])
section
variable {s form m0 m1 l0 l1:Int}{a b:Nat}{K0 K1 T:List D}{E:Mm}
theorem J.app (j:J s form m0 m1 a b K0 K1 M):J s form m0 m1 a b K0 K1 (M ++ E):=⟨fV j.o,fV j.mm,fV j.x,fV j.h,fV j.p,fV j.ka,fV j.kb,j.ne,j.ha,j.hb⟩
theorem Lw.app (j:Lw T l0 l1 M):Lw T l0 l1 (M ++ E):=⟨fV j.t,fV j.m⟩
theorem bQ {k j:Nat}{c c':E3.Cl}(h:M[k]? =some c)(n:j≠k):(M.set j c')[k]? =some c:=by rw[xcc n];exact h
theorem xU {j:Nat}{c c':E3.Cl}(h:M[j]? =some c):(M.set j c')[j]? =some c':=xb5 (xam.mp h).1
theorem J.setA {K:List D}(j:J s form m0 m1 a b K0 K1 M):J s form m0 m1 a b K K1 (M.set a (.lst K)):=by
 have:=j.ha;exact⟨bQ j.o (by omega),bQ j.mm (by omega),bQ j.x (by omega),bQ j.h (by omega),bQ j.p (by omega),xU j.ka,bQ j.kb j.ne,j.ne,j.ha,j.hb⟩
theorem J.setB {K:List D}(j:J s form m0 m1 a b K0 K1 M):J s form m0 m1 a b K0 K (M.set b (.lst K)):=by
 have:=j.hb;exact⟨bQ j.o (by omega),bQ j.mm (by omega),bQ j.x (by omega),bQ j.h (by omega),bQ j.p (by omega),bQ j.ka (xbu j.ne),xU j.kb,j.ne,j.ha,j.hb⟩
theorem J.setM {n0 n1:Int}(j:J s form m0 m1 a b K0 K1 M):J s form n0 n1 a b K0 K1 (M.set 3 (.lst [.int n0,.int n1])):=by
 have:=j.ha;have:=j.hb;exact⟨bQ j.o (by omega),xU j.mm,bQ j.x (by omega),bQ j.h (by omega),bQ j.p (by omega),bQ j.ka (by omega),bQ j.kb (by omega),j.ne,j.ha,j.hb⟩
theorem J.kp {K K':List D}(j:J s form m0 m1 a b K0 K1 M)(hl:12<=M.length):J s form m0 m1 M.length (M.length + 1) K K' ((M ++ [E3.Cl.lst K] ++ [E3.Cl.lst K']).set 2 (OB s M.length (M.length + 1))):=by
 have e0:(M ++ [E3.Cl.lst K] ++ [E3.Cl.lst K'])[M.length]? =some (.lst K):=by rw[xar,xaw (xaf _),xcO];rfl
 have e1:(M ++ [E3.Cl.lst K] ++ [E3.Cl.lst K'])[M.length + 1]? =some (.lst K'):=by rw[xar,xaw (by omega),show M.length + 1 - M.length=1 by omega];rfl
 have j':=(j.app (E:=[E3.Cl.lst K])).app (E:=[E3.Cl.lst K']);exact⟨xU j'.o,bQ j'.mm (by omega),bQ j'.x (by omega),bQ j'.h (by omega),bQ j'.p (by omega),bQ e0 (by omega),bQ e1 (by omega),by omega,.inr hl,.inr (by omega)⟩
theorem Lw.setK {k:Nat}{c:E3.Cl}(j:Lw T l0 l1 M)(h1:k≠10)(h2:k≠11):Lw T l0 l1 (M.set k c):=⟨bQ j.t h1,bQ j.m h2⟩
theorem lkm:List.lookup ("marks":Str) [(("marks":Str),D.ref 3),("span",.int s),("pair",.ref 7),("kept",.tup [.ref a,.ref b])]=some (.ref 3):=by kernel_rfl
theorem lks:List.lookup ("span":Str) [(("marks":Str),D.ref 3),("span",.int s),("pair",.ref 7),("kept",.tup [.ref a,.ref b])]=some (.int s):=by kernel_rfl
theorem lkp:List.lookup ("pair":Str) [(("marks":Str),D.ref 3),("span",.int s),("pair",.ref 7),("kept",.tup [.ref a,.ref b])]=some (.ref 7):=by kernel_rfl
theorem lkk:List.lookup ("kept":Str) [(("marks":Str),D.ref 3),("span",.int s),("pair",.ref 7),("kept",.tup [.ref a,.ref b])]=some (.tup [.ref a,.ref b]):=by kernel_rfl
theorem lQ {x:Str}(h:(x=="marks" || x=="span" || x=="pair" || x=="kept")=false):List.lookup x [(("marks":Str),D.ref 3),("span",.int s),("pair",.ref 7),("kept",.tup [.ref a,.ref b])]=none:=by
 simp only[Bool.or_eq_false_iff]at h;simp only[List.lookup,h.1.1.1,h.1.1.2,h.1.2,h.2]
theorem m5 {k:Nat}{env:E3.Env}(j:J s form m0 m1 a b K0 K1 M)(he:env[k]? =some (.val (.ref 2))):bC "JoinStation" "marks" (aj k) env M=some (.v (.ref 3),M):=zZ (k:=2) (by simp only[sE,he,sH]) j.o lkm
theorem Js {k:Nat}{env:E3.Env}(j:J s form m0 m1 a b K0 K1 M)(he:env[k]? =some (.val (.ref 2))):bC "JoinStation" "span" (aj k) env M=some (.v (.int s),M):=zZ (k:=2) (by simp only[sE,he,sH]) j.o lks
theorem Jr {k:Nat}{env:E3.Env}(j:J s form m0 m1 a b K0 K1 M)(he:env[k]? =some (.val (.ref 2))):bC "JoinStation" "pair" (aj k) env M=some (.v (.ref 7),M):=zZ (k:=2) (by simp only[sE,he,sH]) j.o lkp
theorem mZ {k:Nat}{env:E3.Env}(j:J s form m0 m1 a b K0 K1 M)(he:env[k]? =some (.val (.ref 2))):bC "JoinStation" "kept" (aj k) env M=some (.v (.tup [.ref a,.ref b]),M):=zZ (k:=2) (by simp only[sE,he,sH]) j.o lkk
noncomputable def mn (x y:Int):Int:=min x y
theorem bl2 {x y:Int}:pW [.lst [.int x,.int y]]=some (.int (mn x y)):=rfl
theorem Jo (j:J s form m0 m1 a b K0 K1 M):j5 [.ref 2] M=some (.v (.int (mn m0 m1)),M):=by
 have f:=m5 (k:=0) (env:=[.val (.ref 2)]) j rfl;have w:vw M (.ref 3)=.lst [.int m0,.int m1]:=k_ j.mm;unfold j5 Dq;generalize bC "JoinStation" "marks" (aj 0)=F at f ⊢;z_go;rw[f];z_go;rw[w,bl2];z_go
noncomputable def kl (s low:Int) (K:List D):List D:=K.filter fun d=>decide (tm d + s >=low)
theorem Ms {env:E3.Env}{low:Int}(j:J s form m0 m1 a b K0 K1 M)(he:env=[.val (.int low),.val (.ref 2)]){c:Nat}{K:List D}(hc:M[c]? =some (.lst K))(hK:∀d∈K,Tk d):∀(n t:Nat) (acc:List D),t<=K.length->K.length<t + n->acc.length + (K.length - t)<1000->
    lG c zT DX env n t acc M=some (acc ++ kl s low (K.drop t),M)
  |0,t,acc,h0,h,_=>by omega
  |n + 1,t,acc,h0,h,hl=>by
    simp only[lG,hc]
    by_cases ht:t<K.length
    · rw[xag ht,xa6 ht];obtain⟨t',z,v,e⟩:=hK _ (xbT ht);rw[e];have f:=Js (k:=2) (env:=[.val (.tup [.int t',.str z,.int v]),.val (.int low),.val (.ref 2)]) j rfl;have q1:zT (.val (.tup [.int t',.str z,.int v])::env) M=some (.v (.bl (decide (t' + s >=low))),M):=by
        subst he;unfold zT;generalize bC "JoinStation" "span" (aj 2)=F at f ⊢;z_go;rw[f];z_go
      have q2:DX (.val (.tup [.int t',.str z,.int v])::env) M=some (.v (.tup [.int t',.str z,.int v]),M):=rfl;dsimp only;rw[q1]
      by_cases hd:t' + s >=low
      · rw[xaF hd];dsimp only;rw[q2];dsimp only;rw[xab (by rw[xaG];omega),Ms j he hc hK n (t + 1) _ (by omega) (by omega) (by rw[xaj,xaQ];omega),xar];congr 3;show _=List.filter _ _;rw[xcG,xab (show decide (tm (.tup [.int t',.str z,.int v]) + s >=low)=true from xaF hd)];rfl
      · rw[xaz hd];dsimp only;rw[Ms j he hc hK n (t + 1) _ (by omega) (by omega) (by omega)];congr 3;show _=List.filter _ _;rw[xcG,xad (show ¬ decide (tm (.tup [.int t',.str z,.int v]) + s >=low)=true by rw[show decide (tm (.tup [.int t',.str z,.int v]) + s >=low)=false from xaz hd];decide)];rfl
    · rw[xbj (by omega),xcB (by omega)];simp only[kl,List.filter_nil,xax]
theorem Q0 {low:Int}{c:Nat}{K:List D}(j:J s form m0 m1 a b K0 K1 M)(hc:M[c]? =some (.lst K))(hK:∀d∈K,Tk d)(hl:K.length<=100):lK [.ref 2,.int low,.ref c] M=some (.v (.ref M.length),M ++ [E3.Cl.lst (kl s low K)]):=by
 have q:=Ms (env:=[.val (.int low),.val (.ref 2)]) (low:=low) j rfl hc hK 1000 0 [] (by omega) (by omega) (by simp only[xaV];omega);rw[xcw,xbi]at q;have e:lW 1000 [("low",1),("self",0)] (aj 2) zT DX [.val (.ref 2),.val (.int low),.val (.ref c)] M=some (.v (.lst (kl s low K)),M):=by
  unfold lW;rw[show aj 2 [Slot.val (.ref 2),.val (.int low),.val (.ref c)] M=some (.v (.ref c),M) from rfl];show(match lG c _ _ (bN [("low",1),("self",0)] [.val (.ref 2),.val (.int low),.val (.ref c)]) 1000 0 [] M with |some (ys,M2)=>_ |none=>_)=_
  rw[show bN [(("low":Str),1),("self",0)] [Slot.val (.ref 2),.val (.int low),.val (.ref c)]=[.val (.int low),.val (.ref 2)] from rfl,q]
 unfold lK Dp;generalize lW 1000 _ _ _ _=F at e ⊢;z_go;rw[e];z_go
theorem YD {low:Int}(j:J s form m0 m1 a b K0 K1 M)(hl:12<=M.length)(h0:∀d∈K0,Tk d)(h1:∀d∈K1,Tk d)(l0:K0.length<=100)(l1:K1.length<=100):
  wR [.ref 2,.int low] M=some (.v (.lst []),(M ++ [E3.Cl.lst (kl s low K0)] ++ [E3.Cl.lst (kl s low K1)]).set 2 (OB s M.length (M.length + 1))):=by
 have j1:=j.app (E:=[E3.Cl.lst (kl s low K0)]);have j2:=j1.app (E:=[E3.Cl.lst (kl s low K1)]);have e0:bH "JoinStation" "left_at" lK (aj 0) (aA (aj 1) (aA (s2 aN (bC "JoinStation" "kept" (aj 0)) (ao (.int 0))) au)) [.val (.ref 2),.val (.int low)] M=some (.v (.ref M.length),M ++ [E3.Cl.lst (kl s low K0)]):=
  kE (k := 2) (ds := [.int low, .ref a]) rfl j.o (lQ (by x_go)) (by
   have f:=mZ (k:=0) (env:=[.val (.ref 2),.val (.int low)]) j rfl;generalize bC "JoinStation" "kept" (aj 0)=F at f ⊢;z_go;rw[f];z_go) (Q0 j j.ka h0 l0)
 have e1:bH "JoinStation" "left_at" lK (aj 0) (aA (aj 1) (aA (s2 aN (bC "JoinStation" "kept" (aj 0)) (ao (.int 1))) au)) [.val (.ref 2),.val (.int low)] (M ++ [E3.Cl.lst (kl s low K0)])=some (.v (.ref (M.length + 1)),M ++ [E3.Cl.lst (kl s low K0)] ++ [E3.Cl.lst (kl s low K1)]):=by
  have := kE (k := 2) (ds := [.int low, .ref b]) (c := "JoinStation") (me := "left_at") (gg := lK) (o := aj 0) (env := [Slot.val (.ref 2), .val (.int low)]) (fa := aA (aj 1) (aA (s2 aN (bC "JoinStation" "kept" (aj 0)) (ao (.int 1))) au)) rfl j1.o (lQ (by x_go)) (by
   have f:=mZ (k:=0) (env:=[.val (.ref 2),.val (.int low)]) j1 rfl;generalize bC "JoinStation" "kept" (aj 0)=F at f ⊢;z_go;rw[f];z_go) (Q0 (low:=low) j1 j1.kb h1 l1)
  rw[xaj]at this;exact this
 have es:fX "JoinStation" "kept" (aj 0) (aW (aA (bH "JoinStation" "left_at" lK (aj 0) (aA (aj 1) (aA (s2 aN (bC "JoinStation" "kept" (aj 0)) (ao (.int 0))) au))) (aA (bH "JoinStation" "left_at" lK (aj 0) (aA (aj 1) (aA (s2 aN (bC "JoinStation" "kept" (aj 0)) (ao (.int 1))) au))) au))) [.val (.ref 2),.val (.int low)] M=some (.nx [.val (.ref 2),.val (.int low)],(M ++ [E3.Cl.lst (kl s low K0)] ++ [E3.Cl.lst (kl s low K1)]).set 2 (OB s M.length (M.length + 1))):=by
  rw [z6 (k := 2) (x := .tup [.ref M.length, .ref (M.length + 1)]) (M1 := M ++ [E3.Cl.lst (kl s low K0)] ++ [E3.Cl.lst (kl s low K1)]) (M2 := M ++ [E3.Cl.lst (kl s low K0)] ++ [E3.Cl.lst (kl s low K1)]) (by
   generalize bH "JoinStation" "left_at" lK (aj 0) (aA (aj 1) (aA (s2 aN (bC "JoinStation" "kept" (aj 0)) (ao (.int 0))) au))=F0 at e0 ⊢;generalize bH "JoinStation" "left_at" lK (aj 0) (aA (aj 1) (aA (s2 aN (bC "JoinStation" "kept" (aj 0)) (ao (.int 1))) au))=F1 at e1 ⊢;z_go;rw[e0];z_go;rw[e1];z_go) rfl j2.o (by show 4<1000;decide)]
  rfl
 unfold wR Dm;generalize fX "JoinStation" "kept" _ _=F at es ⊢;z_go;rw[es];z_go
theorem YQ {low:Int}(j:J s form m0 m1 a b K0 K1 M)(hl:12<=M.length)(h0:∀d∈K0,Tk d)(h1:∀d∈K1,Tk d)(l0:K0.length<=100)(l1:K1.length<=100):
  wV [.ref 2,.int low] M=some (.v (.lst [.tup [.str "mark",.int low]]),(M ++ [E3.Cl.lst (kl s low K0)] ++ [E3.Cl.lst (kl s low K1)]).set 2 (OB s M.length (M.length + 1))):=by
 have m:bH "JoinStation" "close_at" wR (aj 0) (aA (aj 1) au) [.val (.ref 2),.val (.int low)] M=some (.v (.lst []),(M ++ [E3.Cl.lst (kl s low K0)] ++ [E3.Cl.lst (kl s low K1)]).set 2 (OB s M.length (M.length + 1))):=
  kE (k:=2) (ds:=[.int low]) rfl j.o (lQ (by x_go)) (by z_go) (YD j hl h0 h1 l0 l1)
 unfold wV Dt;generalize bH "JoinStation" "close_at" wR (aj 0) (aA (aj 1) au)=F at m ⊢;generalize List.set (M ++ [E3.Cl.lst (kl s low K0)] ++ [E3.Cl.lst (kl s low K1)]) 2 (OB s M.length (M.length + 1))=M2 at m ⊢;z_go;rw[m];z_go;rw[show fD (ao (.bl true)) QW [] [] [] M2=some ([],M2) from rfl];z_go
noncomputable def mw (w m0 m1:Int):Int:=if w=0 then m0 else m1
theorem YK {w t v n0 n1:Int}{k:Nat}(j:J s form m0 m1 a b K0 K1 M)(ix:cu [D.int m0,.int m1] w=some (.int v))(ixn:kj 2 w=some k)(hs:[D.int m0,.int m1].set k (.int t)=[.int n0,.int n1])(hn:t=v->n0=m0/\n1=m1)(ht:v<=t)(hl:12<=M.length)(h0:∀d∈K0,Tk d)(h1:∀d∈K1,Tk d)(l0:K0.length<=100)(l1:K1.length<=100)(hmn:mn m0 m1<=mn n0 n1):
  ∃a' b' K0' K1' M',pD [.ref 2,.int w,.int t] M=some (.v (.lst (if mn n0 n1 > mn m0 m1 then [.tup [.str "mark",.int (mn n0 n1)]] else [])),M')/\J s form n0 n1 a' b' K0' K1' M'/\M.length<=M'.length/\
   (∀T x y,Lw T x y M->Lw T x y M')/\((K0'=K0/\K1'=K1/\mn n0 n1=mn m0 m1)\/(K0'=kl s (mn n0 n1) K0/\K1'=kl s (mn n0 n1) K1)):=by
 by_cases hv:t=v
 ·obtain⟨rfl,rfl⟩:=hn hv;subst hv;refine⟨a,b,K0,K1,M,?_,j,xaf _,fun _ _ _ z=>z,.inl ⟨rfl,rfl,rfl⟩⟩;have f:=m5 (k:=0) (env:=[.val (.ref 2),.val (.int w),.val (.int t),.un,.un]) j rfl;have wv:vw M (.ref 3)=.lst [.int n0,.int n1]:=k_ j.mm;unfold pD yr;rw[xad (by omega)];generalize bC "JoinStation" "marks" (aj 0)=F at f ⊢;z_go;rw[f];z_go;rw[wv];z_go;rw[ix];z_go;rw[xab (xef _)];z_go
 ·have j1:J s form n0 n1 a b K0 K1 (M.set 3 (.lst [.int n0,.int n1])):=j.setM;have f:=m5 (k:=0) (env:=[.val (.ref 2),.val (.int w),.val (.int t),.un,.un]) j rfl;have wv:vw M (.ref 3)=.lst [.int m0,.int m1]:=k_ j.mm;have b1:bH "JoinStation" "low" j5 (aj 0) au [.val (.ref 2),.val (.int w),.val (.int t),.un,.un] M=some (.v (.int (mn m0 m1)),M):=kE (k:=2) (ds:=[]) rfl j.o (lQ (by x_go)) rfl (Jo j);have b2:bH "JoinStation" "low" j5 (aj 0) au [.val (.ref 2),.val (.int w),.val (.int t),.val (.int (mn m0 m1)),.un] (M.set 3 (.lst [.int n0,.int n1]))=some (.v (.int (mn n0 n1)),M.set 3 (.lst [.int n0,.int n1])):=kE (k:=2) (ds:=[]) rfl j1.o (lQ (by x_go)) rfl (Jo j1);have si:nF (bC "JoinStation" "marks" (aj 0)) (aj 1) (aj 2) [.val (.ref 2),.val (.int w),.val (.int t),.val (.int (mn m0 m1)),.un] M=some (.nx [.val (.ref 2),.val (.int w),.val (.int t),.val (.int (mn m0 m1)),.un],M.set 3 (.lst [.int n0,.int n1])):=by
   rw[Rq (k:=3) (i:=w) (x:=.int t) (M1:=M) (M2:=M) (M3:=M) (ds:=[.int m0,.int m1]) (j:=k) rfl (m5 (k:=0) j rfl) rfl j.mm ixn,hs]
  have ll:(M.set 3 (E3.Cl.lst [.int n0,.int n1])).length=M.length:=xaA;have lw:∀T x y,Lw T x y M->Lw T x y (M.set 3 (.lst [.int n0,.int n1])):=fun _ _ _ z=>z.setK (by decide) (by decide)
  by_cases he:mn n0 n1=mn m0 m1
  ·refine⟨a,b,K0,K1,M.set 3 (.lst [.int n0,.int n1]),?_,j1,by omega,lw,.inl ⟨rfl,rfl,he⟩⟩;rw[xad (by omega)];unfold pD yr;generalize M.set 3 (E3.Cl.lst [.int n0,.int n1])=M1 at b2 si ⊢;generalize nF (bC "JoinStation" "marks" (aj 0)) (aj 1) (aj 2)=F3 at si ⊢;generalize bC "JoinStation" "marks" (aj 0)=F at f ⊢;generalize bH "JoinStation" "low" j5 (aj 0) au=F2 at b1 b2 ⊢;z_go;rw[f];z_go;rw[wv];z_go;rw[ix];z_go;rw[xad (by omega)];z_go;rw[b1];z_go;rw[si];z_go;rw[b2];z_go;rw[xab he];z_go
  ·have b3:bH "JoinStation" "tell_low" wV (aj 0) (aA (aj 4) au) [.val (.ref 2),.val (.int w),.val (.int t),.val (.int (mn m0 m1)),.val (.int (mn n0 n1))] (M.set 3 (.lst [.int n0,.int n1]))=_:=kE (k:=2) (ds:=[.int (mn n0 n1)]) rfl j1.o (lQ (by x_go)) (by z_go) (YQ j1 (by omega) h0 h1 l0 l1);refine⟨_,_,_,_,_,?_,j1.kp (K:=kl s (mn n0 n1) K0) (K':=kl s (mn n0 n1) K1) (by omega),by rw[xaA,xaj,xaj];omega,fun T x y z=>(((lw T x y z).app).app).setK (by decide) (by decide),.inr ⟨rfl,rfl⟩⟩;rw[xab (by omega)];unfold pD yr;generalize List.set (List.set M 3 (E3.Cl.lst [.int n0,.int n1]) ++ [E3.Cl.lst (kl s (mn n0 n1) K0)] ++ [E3.Cl.lst (kl s (mn n0 n1) K1)]) 2 _=M2 at b3 ⊢;generalize M.set 3 (E3.Cl.lst [.int n0,.int n1])=M1 at b2 b3 si ⊢;generalize nF (bC "JoinStation" "marks" (aj 0)) (aj 1) (aj 2)=F3 at si ⊢;generalize bC "JoinStation" "marks" (aj 0)=F at f ⊢;generalize bH "JoinStation" "low" j5 (aj 0) au=F2 at b1 b2 ⊢;generalize bH "JoinStation" "tell_low" wV (aj 0) (aA (aj 4) au)=F4 at b3 ⊢;z_go;rw[f];z_go;rw[wv];z_go;rw[ix];z_go;rw[xad (by omega)];z_go;rw[b1];z_go;rw[si];z_go;rw[b2];z_go;rw[xad he];z_go;rw[b3];z_go
end
variable {M:Mm}
theorem Pq {env:E3.Env}{k:Nat}{f:E3.E}{ds es:List D}{M1:Mm}(h:env[k]? =some (.own ds))(h1:f env M=some (.v (.lst es),M1))(hl:ds.length + es.length<=1000000):lX k f env M=some (.nx (env.set k (.own (ds ++ es))),M1):=by
 simp only[lX,h,bM,h1];rw[xab (by rw[xaG];omega)]
theorem zcQ {s form:Int}{d e:D}:(mH s form d e).length<=1:=by
 unfold mH
 split<;>simp
def Th (d:D):Prop:=∃(t:Int) (z:Str) (v:Int),d=.tup [.int t,.str z,.int v]/\t.natAbs<=1000000000000/\v.natAbs<=1000000000000000000000000000000000000000000000000000000000000
theorem Th.tk {d:D}(h:Th d):Tk d:=by
 obtain⟨t,z,v,rfl,_⟩:=h;exact⟨t,z,v,rfl⟩
noncomputable def dB (w s form:Int) (d e:D):List D:=if w=0 then mH s form d e else mH s form e d
noncomputable def cL (d:D):D:=.tup [.str "thing",.int (tm d),.str (ky d),.int (vl d)]
section
variable {s form m0 m1 l0 l1:Int}{a b:Nat}{K0 K1 T:List D}{E:Mm}
theorem Fo {w:Int}{d e:D}:(dB w s form d e).length<=1:=by unfold dB;split<;>exact zcQ
theorem zgY {w:Int}{d e:D}:∀x∈dB w s form d e,Tk x:=by
 unfold dB mH;intro x hx;split at hx
 ·split at hx
  ·exact⟨_,_,_,xbl.mp hx⟩
  ·cases hx
 ·split at hx
  ·exact⟨_,_,_,xbl.mp hx⟩
  ·cases hx
theorem zeY {w:Int}{d e:D}{acc:List D}(j:J s form m0 m1 a b K0 K1 M)(hw:w=0\/w=1)(hd:Th d)(he:Th e)(hl:acc.length<=1000):∃E,Ej [.val (.ref 2),.val (.int w),.val d,.own acc,.val e] M=some (.nx [.val (.ref 2),.val (.int w),.val d,.own (acc ++ dB w s form d e),.val e],M ++ E):=by
 obtain⟨t,z,v,rfl,t1,v1⟩:=hd;obtain⟨t',z',v',rfl,t2,v2⟩:=he;have f:=Jr (k:=0) (env:=[.val (.ref 2),.val (.int w),.val (.tup [.int t,.str z,.int v]),.own acc,.val (.tup [.int t',.str z',.int v'])]) j rfl;obtain⟨E1,g1⟩:=zV (z:=z) (z':=z') (s:=s) j.h j.x t1 v1 t2 v2;obtain⟨E2,g2⟩:=zV (z:=z') (z':=z) (s:=s) j.h j.x t2 v2 t1 v1;have c1:gW gk rO (bC "JoinStation" "pair" (aj 0)) (aA (aj 2) (aA (aj 4) au)) [.val (.ref 2),.val (.int w),.val (.tup [.int t,.str z,.int v]),.own acc,.val (.tup [.int t',.str z',.int v'])] M=_:=IW (M1:=M) (M2:=M) (k:=7) (ds:=[.tup [.int t,.str z,.int v],.tup [.int t',.str z',.int v']]) f j.p rfl g1;have c2:gW gk rO (bC "JoinStation" "pair" (aj 0)) (aA (aj 4) (aA (aj 2) au)) [.val (.ref 2),.val (.int w),.val (.tup [.int t,.str z,.int v]),.own acc,.val (.tup [.int t',.str z',.int v'])] M=_:=IW (M1:=M) (M2:=M) (k:=7) (ds:=[.tup [.int t',.str z',.int v'],.tup [.int t,.str z,.int v]]) f j.p rfl g2;unfold Ej;generalize gW gk rO (bC "JoinStation" "pair" (aj 0)) (aA (aj 2) (aA (aj 4) au))=F1 at c1 ⊢;generalize gW gk rO (bC "JoinStation" "pair" (aj 0)) (aA (aj 4) (aA (aj 2) au))=F2 at c2 ⊢;have pl:=Fo (s:=s) (form:=form) (w:=w) (d:=.tup [.int t,.str z,.int v]) (e:=.tup [.int t',.str z',.int v']);rcases hw with rfl |rfl
 ·refine ⟨E1, ?_⟩;rw [Ft, Pq (ds := acc) (es := dB 0 s form (.tup [.int t, .str z, .int v]) (.tup [.int t', .str z', .int v'])) (M1 := M ++ E1) rfl (by
   z_go;rw[c1];rfl) (by omega)]
  z_go
 ·refine ⟨E2, ?_⟩;rw [Ft, Pq (ds := acc) (es := dB 1 s form (.tup [.int t, .str z, .int v]) (.tup [.int t', .str z', .int v'])) (M1 := M ++ E2) rfl (by
   z_go;rw[c2];rfl) (by omega)]
  z_go
theorem TV {w:Int}{d:D}(hw:w=0\/w=1)(hd:Th d):∀(es acc:List D) (s4:Slot) (M:Mm),J s form m0 m1 a b K0 K1 M->(∀e∈es,Th e)->acc.length + es.length<=1000->
    ∃E s4',loopS 4 Ej es [.val (.ref 2),.val (.int w),.val d,.own acc,s4] M=some (.nx [.val (.ref 2),.val (.int w),.val d,.own (acc ++ es.flatMap (dB w s form d)),s4'],M ++ E)
  | [],acc,s4,M,_,_,_=>⟨[],s4,by simp only[Mt,List.flatMap_nil,xax]⟩
  |e::es,acc,s4,M,j,he,hl=>by
    rw[xao]at hl;obtain⟨E1,e1⟩:=zeY (acc:=acc) j hw hd (he e xat) (by omega);have pl:=Fo (s:=s) (form:=form) (w:=w) (d:=d) (e:=e);obtain⟨E2,s',e2⟩:=TV hw hd es (acc ++ dB w s form d e) (.val e) (M ++ E1) j.app (fun x hx=>he x (xak _ hx)) (by rw[xaj];omega);refine⟨E1 ++ E2,s',?_⟩;rw[Fq,xab (by simp only[xao,xaV];decide)];simp only[xb3,xb4];rw[e1];simp only[FJ];rw[e2,xbq,xar,xar]
theorem ZF {d:D}(h:Tk d):wX [d] M=some (.v (cL d),M):=by
 obtain⟨t,z,v,rfl⟩:=h;unfold wX Ir;z_go;rfl
theorem YW {w:Int}{d:D}{es:List D}:∀x∈es.flatMap (dB w s form d),Tk x:=fun x hx=>by
 obtain⟨e,_,h⟩:=List.mem_flatMap.mp hx;exact zgY x h
theorem Q9 {w:Int}{d:D}:∀es:List D,(es.flatMap (dB w s form d)).length<=es.length
  | []=>xaf _
  |e::es=>by
    have:=Q9 (w:=w) (d:=d) es;have:=Fo (s:=s) (form:=form) (w:=w) (d:=d) (e:=e);rw[xbq,xaj,xao];omega
theorem Q6 {w:Int}{d:D}{c c':Nat}{K O es:List D}(hw:w=0\/w=1)(hd:Th d)(j:J s form m0 m1 a b K0 K1 M)(j':∃X Y,J s form m0 m1 a b X Y (M.set c (.lst (K ++ [d]))))(hc:cu [D.ref a,.ref b] w=some (.ref c))(hc':cu [D.ref a,.ref b] (1 - w)=some (.ref c'))(mc:M[c]? =some (.lst K))(mo:M[c']? =some (.lst O))(ne:c≠c')
  (hs:eZ O=some es) (he:∀e∈es,Th e) (lk:K.length<=100) (le:es.length<=100):∃E,rD [.ref 2,.int w,d] M=some (.v (.lst ((es.flatMap (dB w s form d)).map cL)),M.set c (.lst (K ++ [d])) ++ E):=by
 obtain ⟨X, Y, j'⟩ := j';have f1 := mZ (k := 0) (env := [.val (.ref 2), .val (.int w), .val d, .un, .un]) j rfl;have f2 := mZ (k := 0) (env := [.val (.ref 2), .val (.int w), .val d, .own [], .un]) j' rfl;have w2 : vw (M.set c (.lst (K ++ [d]))) (.ref c') = .lst O := k_ (bQ mo ne);obtain ⟨E, s4, el⟩ := TV hw hd es [] .un _ j' he (by simp only [xaV]; omega);have fl := Q9 (s := s) (form := form) (w := w) (d := d) es;refine ⟨E, ?_⟩;have cm := comp_map (M := M.set c (.lst (K ++ [d])) ++ E) (env := []) (e := Jj) cL (es.flatMap (dB w s form d)) (fun x hx=>by
  unfold Jj;z_go;rw[ZF (YW x hx)];z_go) (by rw[xaG];omega)
 have ap:fW (s2 aN (bC "JoinStation" "kept" (aj 0)) (aj 1)) (aj 2) [.val (.ref 2),.val (.int w),.val d,.un,.un] M=some (.nx [.val (.ref 2),.val (.int w),.val d,.un,.un],M.set c (.lst (K ++ [d]))):=by
  generalize bC "JoinStation" "kept" (aj 0)=F at f1 ⊢;z_go;rw[f1];z_go;rw[hc];z_go;rw[mc];z_go;rw[xab (by omega)]
 unfold rD Ds;generalize fW (s2 aN (bC "JoinStation" "kept" (aj 0)) (aj 1)) (aj 2)=FA at ap ⊢;generalize bC "JoinStation" "kept" (aj 0)=F at f2 ⊢;generalize M.set c (E3.Cl.lst (K ++ [d]))=M1 at *;z_go;rw[ap];z_go;rw[f2];z_go;rw[hc'];z_go;rw[w2,Fz hs];z_go;rw[el];z_go;rw[cm];z_go
noncomputable def ak (K0 K1:List D):List D:=K0.map (fun d=>.tup [.int 0,.int (tm d),.str (ky d),.int (vl d)]) ++ K1.map (fun d=>.tup [.int 1,.int (tm d),.str (ky d),.int (vl d)])
theorem Bx {w:Int}{c:Nat}{K:List D}(hc:M[c]? =some (.lst K))(hK:∀d∈K,Tk d):∀(n t:Nat) (acc:List D),t<=K.length->K.length<t + n->acc.length + (K.length - t)<1000->
    p7 c zX [.val (.int w)] n t acc M=some (acc ++ (K.drop t).map (fun d=>.tup [.int w,.int (tm d),.str (ky d),.int (vl d)]),M)
  |0,t,acc,h0,h,_=>by omega
  |n + 1,t,acc,h0,h,hl=>by
    simp only[p7,hc]
    by_cases ht:t<K.length
    · rw[xag ht,xa6 ht];obtain⟨t',z,v,e⟩:=hK _ (xbT ht);rw[e];have q1:zX [.val (.tup [.int t',.str z,.int v]),.val (.int w)] M=some (.v (.tup [.int w,.int t',.str z,.int v]),M):=by
        unfold zX;z_go;rfl
      dsimp only;rw[q1];dsimp only;rw[xab (by rw[xaG];omega),Bx hc hK n (t + 1) _ (by omega) (by omega) (by rw[xaj,xaQ];omega),xar];rfl
    · rw[xbj (by omega),xcB (by omega)];simp only[xbS,xax]
theorem CP {w:Int}{c:Nat}{K acc:List D}{s3:Slot}(j:J s form m0 m1 a b K0 K1 M)(hi:cu [D.ref a,.ref b] w=some (.ref c))(hc:M[c]? =some (.lst K))(hK:∀d∈K,Tk d)(lk:K.length<=100)(la:acc.length<=100):
  Eh [.val (.ref 2),.own acc,.val (.int w)] M=some (.nx [.val (.ref 2),.own (acc ++ K.map (fun d=>.tup [.int w,.int (tm d),.str (ky d),.int (vl d)])),.val (.int w)],M):=by
 have f:=mZ (k:=0) (env:=[.val (.ref 2),.own acc,.val (.int w)]) j rfl;have q:=Bx (w:=w) hc hK 1000 0 [] (xbg _) (by omega) (by simp only[xaV];omega);rw[xcw,xbi]at q;have e:vh 1000 [("way",2)] (s2 aN (bC "JoinStation" "kept" (aj 0)) (aj 2)) zX [.val (.ref 2),.own acc,.val (.int w)] M=some (.v (.lst (K.map (fun d=>.tup [.int w,.int (tm d),.str (ky d),.int (vl d)]))),M):=by
  have g:s2 aN (bC "JoinStation" "kept" (aj 0)) (aj 2) [.val (.ref 2),.own acc,.val (.int w)] M=some (.v (.ref c),M):=by
   generalize bC "JoinStation" "kept" (aj 0)=F at f ⊢;z_go;rw[f];z_go;rw[hi];z_go
  unfold vh;rw[g];show(match p7 c _ (bN [("way",2)] [.val (.ref 2),.own acc,.val (.int w)]) 1000 0 [] M with |some (ys,M2)=>_ |none=>_)=_
  rw[show bN [(("way":Str),2)] [Slot.val (.ref 2),.own acc,.val (.int w)]=[.val (.int w)] from rfl,q]
 unfold Eh;rw[Ft,Pq (ds:=acc) (M1:=M) rfl e (by rw[xal];omega)];z_go
theorem YC {es:List D}(j:J s form m0 m1 a b K0 K1 M)(h0:∀d∈K0,Tk d)(h1:∀d∈K1,Tk d)(l0:K0.length<=100)(l1:K1.length<=100)(hs:eZ (ak K0 K1)=some es):tW [.ref 2] M=some (.v (.ref M.length),M ++ [.lst es]):=by
 have e0:=CP (s3:=.un) (acc:=[]) j (w:=0) rfl j.ka h0 l0 (by decide);have e1:=CP (s3:=.un) (acc:=K0.map (fun d=>.tup [.int 0,.int (tm d),.str (ky d),.int (vl d)])) j (w:=1) rfl j.kb h1 l1 (by rw[xal];exact l0);rw[xbi]at e0;unfold ak at hs;unfold tW Dl;generalize Eh=L at e0 e1 ⊢;z_go;rw[e0];z_go;rw[e1];z_go;rw[Fz hs];z_go
theorem YM {es:List D}(j:J s form m0 m1 a b K0 K1 M)(h0:∀d∈K0,Tk d)(h1:∀d∈K1,Tk d)(l0:K0.length<=100)(l1:K1.length<=100)(hs:eZ (ak K0 K1)=some es):
  wU [.ref 2] M=some (.v (.tup [.ref M.length,.ref (M.length + 1)]),M ++ [.lst [.int m0,.int m1]] ++ [.lst es]):=by
 have f:=m5 (k:=0) (env:=[.val (.ref 2)]) j rfl;have wv:vw M (.ref 3)=.lst [.int m0,.int m1]:=k_ j.mm;have j1:=j.app (E:=[.lst [.int m0,.int m1]]);have m:bH "JoinStation" "all_kept" tW (aj 0) au [.val (.ref 2)] (M ++ [.lst [.int m0,.int m1]])=some (.v (.ref (M.length + 1)),M ++ [.lst [.int m0,.int m1]] ++ [.lst es]):=by
  have:=kE (k:=2) (ds:=[]) (c:="JoinStation") (me:="all_kept") (gg:=tW) (o:=aj 0) (fa:=au) (env:=[Slot.val (.ref 2)]) rfl j1.o (lQ (by x_go)) rfl (YC j1 h0 h1 l0 l1 hs);rw[xaj]at this;exact this
 unfold wU Dr;generalize bC "JoinStation" "marks" (aj 0)=F at f ⊢;generalize bH "JoinStation" "all_kept" tW (aj 0) au=F2 at m ⊢;z_go;rw[f];z_go;rw[wv];z_go;rw[m];z_go
theorem V9 {t v:Int}{z:Str}:wG (.tup [.str "thing",.int t,.str z,.int v]) (some 1) none=some (.tup [.int t,.str z,.int v]):=rfl
theorem wdt:((Str.ofString "thing":Str)=Str.ofString "mark")=False:=xcu (by x_go)
theorem zdf {w t:Int}{d:D}{M':Mm}(o:M[2]? =some (OB s a b))(h:pD [.ref 2,.int w,.int t] M=some (.v d,M')):fU [.ref 2,.int w,.tup [.str "mark",.int t]] M=some (.v d,M'):=by
 have m:bH "JoinStation" "take_mark" pD (aj 0) (aA (aj 1) (aA (s2 aN (aj 2) (ao (.int 1))) au)) [.val (.ref 2),.val (.int w),.val (.tup [.str "mark",.int t])] M=some (.v d,M'):=kE (k:=2) (ds:=[.int w,.int t]) rfl o (lQ (by x_go)) (by z_go) h;unfold fU zQ;generalize bH "JoinStation" "take_mark" pD _ _=F at m ⊢;z_go;rw[m];z_go
theorem zbD {w t v:Int}{z:Str}{d:D}{M':Mm}(o:M[2]? =some (OB s a b))(h:rD [.ref 2,.int w,.tup [.int t,.str z,.int v]] M=some (.v d,M')):fU [.ref 2,.int w,.tup [.str "thing",.int t,.str z,.int v]] M=some (.v d,M'):=by
 have m:bH "JoinStation" "take_thing" rD (aj 0) (aA (aj 1) (aA (dG (aj 2) (fK (ao (.int 1))) gD) au)) [.val (.ref 2),.val (.int w),.val (.tup [.str "thing",.int t,.str z,.int v])] M=some (.v d,M'):=kE (k:=2) (ds:=[.int w,.tup [.int t,.str z,.int v]]) rfl o (lQ (by x_go)) (by z_go;simp only[Fv,sE,sH,BK,Mw,Mf,Np,Ul,Mx,Fy,V9,Nj,xdG,xbA];z_go) h;unfold fU zQ;generalize bH "JoinStation" "take_thing" rD _ _=F at m ⊢;z_go;simp only[wdt];z_go;rw[m];z_go
end
variable {M:Mm}
theorem len1 {A:Mm}{c:E3.Cl}:(A ++ [c]).length=A.length + 1:=by rw[xaj];rfl
theorem X8 {L:Str}{ws:List Str}(T:TT M)(hs:∀x∈ws,sm x)(hl:ws.length<=900)(h:runK L ws.reverse []=some [Str.ofString "number"]):
  wW [.tup (ws.map D.str),.str L] M=some (.v (.ref (M.length + 2)),M ++ [kc ["number"]] ++ [dM ws] ++ [gh (M.length + 1)]):=by
 have mk:=rW (M:=M ++ [kc ["number"]] ++ [dM ws]) (env:=[.val (.tup (ws.map D.str)),.val (.str L),.val (.ref (M ++ [kc ["number"]]).length),.un]) (caps:=[("expr",2)]) (cs:=[("expr",.ref (M ++ [kc ["number"]]).length)]) (fV (fV T.1)) rfl;have e1:(M ++ [kc ["number"]]).length=M.length + 1:=len1;have e2:(M ++ [kc ["number"]] ++ [dM ws]).length=M.length + 2:=by rw[len1,len1]
 unfold wW Du;generalize eY 0 "change_of" j_ [("expr",2)]=F at mk ⊢;z_go;rw[Um hs hl h];z_go;rw[mk,e1,e2];rfl
theorem zep {x0 x1 x2:D}{ws:List Str}{s:Int}(T:TT M)(hs:∀x∈ws,sm x)(hl:ws.length<=900)(h:runK "tvw" ws.reverse []=some [Str.ofString "number"])(si:dh [.str (cH s)]=some (.int s)):
  rN [.tup [x0,x1,x2,.tup (.str (cH s)::ws.map D.str)]] M=some (.v (.ref (M.length + 3)),M ++ [kc ["number"]] ++ [dM ws] ++ [gh (M.length + 1)] ++ [mY s (M.length + 2)]):=by
 have e1:=X8 (L:="tvw") T hs hl h;have T3:TT (M ++ [kc ["number"]] ++ [dM ws] ++ [gh (M.length + 1)]):=T.app.app.app;have l3:(M ++ [kc ["number"]] ++ [dM ws] ++ [gh (M.length + 1)]).length=M.length + 3:=by rw[len1,len1,len1]
 generalize M ++ [kc ["number"]] ++ [dM ws] ++ [gh (M.length + 1)]=N at e1 T3 l3 ⊢;have mk:=rW (M:=N) (env:=[.val (.tup [x0,x1,x2,.tup (.str (cH s)::ws.map D.str)]),.val (.int s),.val (.ref (M.length + 2)),.un]) (caps:=[("span",1),("change",2)]) (cs:=[("span",.int s),("change",.ref (M.length + 2))]) T3.2 rfl;have sl:dG (s2 aN (aj 0) (ao (.int 3))) (fK (ao (.int 1))) gD [.val (.tup [x0,x1,x2,.tup (.str (cH s)::ws.map D.str)]),.val (.int s),.un,.un] M=some (.v (.tup (ws.map D.str)),M):=by
  have c:cI (D.str (cH s)::ws.map D.str) (some 1) none=ws.map D.str:=by rw[QB _ (by decide)];rfl
  rw[Fv];z_go;simp only[sY,fK,gD];z_go;rw[Fy,show wG (.tup (D.str (cH s)::ws.map D.str)) (some 1) none=some (.tup (cI (D.str (cH s)::ws.map D.str) (some 1) none)) from rfl,c];rfl
 unfold rN Dy;generalize dG (s2 aN (aj 0) (ao (.int 3))) (fK (ao (.int 1))) gD=SL at sl ⊢;generalize eY 1 "pairer_of" gk [("span",1),("change",2)]=F at mk ⊢;z_go;rw[<-Bj,si];z_go;rw[sl];z_go;rw[e1];z_go;rw[mk,l3];rfl
def Z0:Mm:=fJ tabs
theorem zhs:Z0.length=2:=rfl
theorem HD {E:Mm}:TT (Z0 ++ E):=⟨rfl,rfl⟩
noncomputable def ZM (s form:Int):Mm:=Z0 ++ [OB s 8 9] ++ [.lst [.int 0,.int 0]] ++ [kc ["number"]] ++ [dM (pq form)] ++ [gh 5] ++ [mY s 6] ++ [.lst []] ++ [.lst []]
theorem HF {s form:Int}:J s form 0 0 8 9 [] [] (ZM s form):=⟨rfl,rfl,rfl,rfl,rfl,rfl,rfl,by decide,.inl rfl,.inl rfl⟩
theorem Zm {x0 x1 x3:D}:yD [.ref 2,.tup [x0,x1,.tup [.str "a",.str "b"],x3]] (Z0 ++ [.obj "JoinStation" []])=some (.v .non,Z0 ++ [.obj "JoinStation" [("marks",.ref 3)]] ++ [.lst [.int 0,.int 0]]):=by kernel_rfl
theorem Zk {s form:Int}{x0 x1:D}(si:dh [.str (cH s)]=some (.int s)):wQ [.ref 2,.tup [x0,x1,.tup [.str "a",.str "b"],.tup (.str (cH s)::(pq form).map D.str)]] (Z0 ++ [.obj "JoinStation" []])=some (.v .non,ZM s form):=by
 have pl:=LK (form:=form);obtain⟨row,hrow⟩:∃row,row=D.tup [x0,x1,.tup [.str "a",.str "b"],.tup (.str (cH s)::(pq form).map D.str)]:=⟨_,rfl⟩;have b0:yD [.ref 2,row] (Z0 ++ [.obj "JoinStation" []])=some (.v .non,Z0 ++ [.obj "JoinStation" [("marks",.ref 3)]] ++ [.lst [.int 0,.int 0]]):=by rw[hrow];exact Zm
 have b1:fX "JoinStation" "span" (aj 0) (sN dh (aA (s2 aN (s2 aN (aj 1) (ao (.int 3))) (ao (.int 0))) au)) [.val (.ref 2),.val row] (Z0 ++ [.obj "JoinStation" [("marks",.ref 3)]] ++ [.lst [.int 0,.int 0]])=some (.nx [.val (.ref 2),.val row],Z0 ++ [.obj "JoinStation" [("marks",.ref 3),("span",.int s)]] ++ [.lst [.int 0,.int 0]]):=by
  rw [z6 (k := 2) (x := .int s) (M1 := Z0 ++ [.obj "JoinStation" [("marks", .ref 3)]] ++ [.lst [.int 0, .int 0]]) (M2 := Z0 ++ [.obj "JoinStation" [("marks", .ref 3)]] ++ [.lst [.int 0, .int 0]]) (fs := [("marks", .ref 3)]) (by
   rw[hrow];z_go;rw[<-Bj,si];z_go) rfl rfl (by decide)]
  rfl
 have pk:=zep (M:=Z0 ++ [.obj "JoinStation" [("marks",.ref 3),("span",.int s)]] ++ [.lst [.int 0,.int 0]]) (x0:=x0) (x1:=x1) (x2:=.tup [.str "a",.str "b"]) (ws:=pq form) (s:=s) (by rw[xar];exact HD) zf2 (by omega) T9 si;rw[<-hrow,show(Z0 ++ [E3.Cl.obj "JoinStation" [("marks",.ref 3),("span",.int s)]] ++ [E3.Cl.lst [.int 0,.int 0]]).length=4 from rfl]at pk;have b2:fX "JoinStation" "pair" (aj 0) (cC rN (aA (aj 1) au)) [.val (.ref 2),.val row] (Z0 ++ [.obj "JoinStation" [("marks",.ref 3),("span",.int s)]] ++ [.lst [.int 0,.int 0]])=some (.nx [.val (.ref 2),.val row],Z0 ++ [.obj "JoinStation" [("marks",.ref 3),("span",.int s),("pair",.ref 7)]] ++ [.lst [.int 0,.int 0]] ++ [kc ["number"]] ++ [dM (pq form)] ++ [gh 5] ++ [mY s 6]):=by
  rw [z6 (k := 2) (x := .ref 7) (fs := [("marks", .ref 3), ("span", .int s)]) (M1 := Z0 ++ [.obj "JoinStation" [("marks", .ref 3), ("span", .int s)]] ++ [.lst [.int 0, .int 0]] ++ [kc ["number"]] ++ [dM (pq form)] ++ [gh 5] ++ [mY s 6]) (M2 := Z0 ++ [.obj "JoinStation" [("marks", .ref 3), ("span", .int s)]] ++ [.lst [.int 0, .int 0]] ++ [kc ["number"]] ++ [dM (pq form)] ++ [gh 5] ++ [mY s 6]) (by
   generalize rN=G at pk ⊢;z_go;rw[pk];z_go) rfl rfl (by show 2<1000;decide)]
  rfl
 have b3:fX "JoinStation" "kept" (aj 0) (aW (aA (gY (aX au)) (aA (gY (aX au)) au))) [.val (.ref 2),.val row] (Z0 ++ [.obj "JoinStation" [("marks",.ref 3),("span",.int s),("pair",.ref 7)]] ++ [.lst [.int 0,.int 0]] ++ [kc ["number"]] ++ [dM (pq form)] ++ [gh 5] ++ [mY s 6])=some (.nx [.val (.ref 2),.val row],ZM s form):=by
  rw[z6 (k:=2) (x:=.tup [.ref 8,.ref 9]) (fs:=[("marks",.ref 3),("span",.int s),("pair",.ref 7)]) (M1:=Z0 ++ [.obj "JoinStation" [("marks",.ref 3),("span",.int s),("pair",.ref 7)]] ++ [.lst [.int 0,.int 0]] ++ [kc ["number"]] ++ [dM (pq form)] ++ [gh 5] ++ [mY s 6] ++ [.lst []] ++ [.lst []]) (M2:=Z0 ++ [.obj "JoinStation" [("marks",.ref 3),("span",.int s),("pair",.ref 7)]] ++ [.lst [.int 0,.int 0]] ++ [kc ["number"]] ++ [dM (pq form)] ++ [gh 5] ++ [mY s 6] ++ [.lst []] ++ [.lst []]) rfl rfl rfl (by show 3<1000;decide)];rfl
 rw[<-hrow];unfold wQ Dk;generalize fX "JoinStation" "span" (aj 0) _=F1 at b1 ⊢;generalize fX "JoinStation" "pair" (aj 0) _=F2 at b2 ⊢;generalize fX "JoinStation" "kept" (aj 0) _=F3 at b3 ⊢;generalize yD=G at b0 ⊢;clear hrow;z_go;rw[b0];z_go;rw[b1];z_go;rw[b2];z_go;rw[b3];z_go
theorem YF {s form:Int}(si:dh [.str (cH s)]=some (.int s)):yK [.tup [.str "join",.str "j",.tup [.str "a",.str "b"],.tup (.str (cH s)::(pq form).map D.str)]] Z0=some (.v (.ref 2),ZM s form):=by
 have mk:vm "JoinStation" wQ (aA (aj 0) au) [.val (.tup [.str "join",.str "j",.tup [.str "a",.str "b"],.tup (.str (cH s)::(pq form).map D.str)])] Z0=some (.v (.ref 2),ZM s form):=S_ (M1:=Z0) (ds:=[.tup [.str "join",.str "j",.tup [.str "a",.str "b"],.tup (.str (cH s)::(pq form).map D.str)]]) rfl (Zk si);unfold yK IK;generalize vm "JoinStation" wQ _=F at mk ⊢;generalize ZM s form=M2 at mk ⊢;generalize D.tup (.str (cH s)::(pq form).map D.str)=R at mk ⊢;generalize Z0=Z at mk ⊢;have n1:((Str.ofString "join":Str)=Str.ofString "keep")=False:=xcu (by x_go);have n2:((Str.ofString "join":Str)=Str.ofString "turn")=False:=xcu (by x_go);have n3:((Str.ofString "join":Str)=Str.ofString "share")=False:=xcu (by x_go);have n4:((Str.ofString "join":Str)=Str.ofString "pour")=False:=xcu (by x_go);have n5:((Str.ofString "join":Str)=Str.ofString "gap")=False:=xcu (by x_go);have n6:aH .isin (.str "join") (.tup [.str "fixed",.str "slide"])=some (.bl false):=by kernel_rfl
 z_go;simp only[n1];z_go;simp only[n2];z_go;simp only[n3];z_go;simp only[n4];z_go;rw[n6];z_go;simp only[n5];z_go;rw[mk];z_go
variable {M:Mm}
theorem YS {form:Int}(h0:0<=form)(h1:form<4):Ab [.int form] M=some (.v (.tup ((pq form).map D.str)),M):=by
 unfold Ab Ih pq
 by_cases e0:form=0
 ·subst e0;z_go
 by_cases e1:form=1
 ·subst e1;z_go
 by_cases e2:form=2
 ·subst e2;z_go
 ·z_go;simp only[e0,e1,e2];z_go;simp only[e0,e1,e2];z_go;simp only[e0,e1,e2];z_go
theorem Jp {i:Int}:mG [.int i] M=some (.v (.bl true),M):=by
 unfold mG Ig;z_go;simp only[RL,RK];z_go;simp only[RL,RK];z_go
theorem zeF {L:D}{d:D}(h:∃(w:Str) (t:Int) (r:List D) (x:Int),d=.tup (.str w::.int t::r)/\cu (.str w::.int t::r) (-1)=some (.int x)):Ay [.val L,.val d] M=some (.nx [.val L,.val d],M):=by
 obtain⟨w,t,r,x,rfl,hx⟩:=h;have e1:=Jp (M:=M) (i:=t);have e2:=Jp (M:=M) (i:=x);unfold Ay;generalize mG=G at e1 e2 ⊢;z_go;simp only[RN];z_go;rw[e1];z_go;rw[hx];z_go;rw[e2];z_go
theorem RZ {L:D}:∀(ds:List D) (s1:Slot),(∀d∈ds,∃(w:Str) (t:Int) (r:List D) (x:Int),d=.tup (.str w::.int t::r)/\cu (.str w::.int t::r) (-1)=some (.int x))->∃s1',loopS 1 Ay ds [.val L,s1] M=some (.nx [.val L,s1'],M)
  | [],s1,_=>⟨s1,rfl⟩
  |d::ds,s1,h=>by
    obtain⟨s',e⟩:=RZ ds (.val d) fun x hx=>h x (xak _ hx);refine⟨s',?_⟩;rw[Fq,xab (by simp only[xao,xaV];decide)];simp only[xb3,xb4];rw[zeF (h d xat)];simp only[FJ];exact e
theorem YJ {L:List D}(h:∀d∈L,∃(w:Str) (t:Int) (r:List D) (x:Int),d=.tup (.str w::.int t::r)/\cu (.str w::.int t::r) (-1)=some (.int x)):yF [.lst L] M=some (.v (.bl true),M):=by
 obtain⟨s',e⟩:=RZ (M:=M) (L:=.lst L) L .un h;unfold yF Ia;generalize Ay=B at e ⊢;z_go;simp only[RM];z_go;rw[e];z_go
theorem Q5 {form t v o:Int}(hv:v.natAbs<=1000000000000000000000000000000000000000000000000000000000000)(ho:o.natAbs<=1000000000000000000000000000000000000000000000000000000000000)(h0:0<=form)(h1:form<4):yG [.int form,.int t,.int v,.int o] M=some (.v (.int (hold (lV form t v o))),M):=by
 have cs:form=0\/form=1\/form=2\/form=3:=by omega
 have p210:(1000000000000000000000000000000000000000000000000000000000000:Nat)<2 ^ (210 * 1):=by x_go
 have lv':v.natAbs.log2<10000:=Em (m:=1) (by decide) (by omega);have lo':o.natAbs.log2<10000:=Em (m:=1) (by decide) (by omega);unfold yG Ib lV hold;rcases cs with rfl |rfl |rfl |rfl
 ·z_go;rw[xab (show v.natAbs<18446744073709551616\/o.natAbs<18446744073709551616\/(v.natAbs.log2<10000/\o.natAbs.log2<10000) from .inr (.inr ⟨lv',lo'⟩))];z_go
  try rfl
 ·z_go;rw[xab (show v.natAbs<18446744073709551616\/o.natAbs<18446744073709551616\/(v.natAbs.log2<10000/\o.natAbs.log2<10000) from .inr (.inr ⟨lv',lo'⟩))];z_go
  try rfl
 ·z_go;rw[xab (show v.natAbs<18446744073709551616\/o.natAbs<18446744073709551616\/(v.natAbs.log2<10000/\o.natAbs.log2<10000) from .inr (.inr ⟨lv',lo'⟩))];z_go
  try rfl
 ·z_go;rw[xab (show v.natAbs<18446744073709551616\/o.natAbs<18446744073709551616\/(v.natAbs.log2<10000/\o.natAbs.log2<10000) from .inr (.inr ⟨lv',lo'⟩))];z_go
  try rfl
theorem jL {z:Str}{ws:List Str}(hz:z.length<=16)(h:(ws.map (·.length)).sum + ws.length<=1048576):CG z [.lst (ws.map D.str)]=some (.str (Txt.join z ws)):=by
 unfold CG;simp only[E3.strs_map];rw[xab ⟨hz,h⟩]
theorem Yo {α:Type}[Inhabited α]{e:E3.E}{env:E3.Env}{n:Nat}{f:α->D}{p:α->Prop}(h:∀k,k<n->∃a,p a/\∀M:Mm,e (.val (.int (0 + (k:Int)))::env) M=some (.v (f a),M))(hn:n<=1000):
  ∃as:List α,as.length=n/\(∀a∈as,p a)/\∀M:Mm,fD (ao (.bl true)) e env ((List.range n).map fun(k:Nat)=>D.int (0 + k)) [] M=some (as.map f,M):=by
 let g:Nat->α:=fun k=>if hk:k<n then Classical.choose (h k hk) else default
 have hg:∀k,(hk:k<n)->p (g k)/\∀M:Mm,e (.val (.int (0 + (k:Int)))::env) M=some (.v (f (g k)),M):=fun k hk=>by
  simp only[g,dif_pos hk];exact Classical.choose_spec (h k hk)
 refine⟨(List.range n).map g,by simp,fun a ha=>?_,fun M=>?_⟩
 ·obtain⟨k,hk,rfl⟩:=xaD.mp ha;exact(hg k (xcv.mp hk)).1
 ·rw [comp_map (fun d => match d with | .int i => f (g i.toNat) | d => d) _ (fun d hd=>by
   obtain⟨k,hk,rfl⟩:=xaD.mp hd;have:=(hg k (xcv.mp hk)).2 M;dsimp only;rw[show(0 + (k:Int)).toNat=k by omega];exact this) (by rw[xaG,xal,xdi];omega),xcs,xcs]
  congr 2;refine xcU fun k _=>?_;show f (g (0 + (k:Int)).toNat)=f (g k);rw[show(0 + (k:Int)).toNat=k by omega]
theorem zbZ {x:Str}{j:Int}(h:0<=j/\j<=x.length):cd (Txt.slice x none (some j))=(cd x).take j.toNat:=by
 have:=PyProof.Rows.slice_closes_to (x:=x) (j:=j) ⟨h.1,by show j<=((cd x).length:Int);rw[<-lO];exact h.2⟩;rw[eq_of_beq this];show List.take (j - 0).toNat (List.drop (0:Int).toNat (cd x))=_;rw[Int.sub_zero];rfl
theorem zbR {x:Str}{j:Int}(h:0<=j/\j<=x.length):cd (Txt.slice x (some j) none)=(cd x).drop j.toNat:=by
 have:=xcR (x:=x) (i:=j) ⟨h.1,by show j<=((cd x).length:Int);rw[<-lO];exact h.2⟩;rw[eq_of_beq this];show List.take (((cd x).length:Int) - j).toNat (List.drop j.toNat (cd x))=_;rw[xdL];rw[xbQ];omega
noncomputable def KB:Str:=Str.ofString "kbzqaxmp"
theorem Yu {x:Int}{k:Nat}:∃z:Str,z.length=1/\∀M:Mm,D_ [.val (.int (0 + (k:Int))),.val (.int x)] M=some (.v (.str z),M):=by
 have h0:=xcT (x / 8 + (0 + (k:Int))) (show(8:Int)≠0 by decide);have h1:=xc8 (x / 8 + (0 + (k:Int))) (show(0:Int)<8 by decide);have ec:cu KB.cps.toList ((x / 8 + (0 + (k:Int))) % 8)=some (KB.cps.toList.getD ((x / 8 + (0 + (k:Int))) % 8).toNat 0):=Xl 0 h0 (by rw[show KB.cps.toList.length=8 by x_go];exact h1);refine⟨⟨#[KB.cps.toList.getD ((x / 8 + (0 + (k:Int))) % 8).toNat 0]⟩,rfl,fun M=>?_⟩;unfold D_;rw[show(Str.ofString "kbzqaxmp")=KB from rfl];z_go;rw[xab (by rw[show KB.length=8 by x_go];decide),ec];z_go
theorem RP:∀ws:List Str,(∀z∈ws,z.length=1)->(Str.join (Str.ofString "") ws).length=ws.length
  | [],_=>by x_go
  | [a],h=>by
    show a.length=1;exact h a xat
  |a::b::r,h=>by
    have ih:=RP (b::r) fun z hz=>h z (xak _ hz);have ha:=h a xat;show(a ++ Str.ofString "" ++ Str.join (Str.ofString "") (b::r):Str).length=_;rw[lO]at ih ha ⊢;rw[Jc,Jc,xaj,xaj,ha,ih,show cd (Str.ofString "")=[] by x_go,xao (as:=b::r)];simp only[xaV];omega
theorem zgd {z:Str}{ps:List Str}:Txt.join z ps=Str.join z ps:=by
 show Builtin.Str.glued _ _=_;rw[StrLaws.glued_eq_join]
theorem Cw:∀ws:List Str,(∀z∈ws,z.length=1)->(ws.map (·.length)).sum=ws.length
 | [],_=>rfl
 |a::r,h=>by rw[xaI,List.sum_cons,Cw r fun z hz=>h z (xak _ hz),h a xat,xao];omega
theorem YH {c:Int}:∃k0 k1:Str,∀M:Mm,Aa [.int c] M=some (.v (.lst [.str k0,.str k1,.str "zebra"]),M):=by
 obtain⟨n,hn⟩:∃n:Nat,1 + c % 8=n:=⟨(1 + c % 8).toNat,by omega⟩;have n8:1<=n/\n<=8:=by omega
 obtain⟨ws,l1,l2,ew⟩:=Yo (e:=D_) (env:=[.val (.int c)]) (n:=n) (f:=D.str) (p:=fun z:Str=>z.length=1) (fun k hk=>Yu) (by omega);have jl:=jL (z:=Str.ofString "") (ws:=ws) (by x_go) (by rw[Cw ws l2];omega);have wl:(Txt.join (Str.ofString "") ws).length=n:=by rw[zgd,RP ws l2,l1]
 generalize Txt.join (Str.ofString "") ws=w at jl wl;have p0:=xcT (c / 64) (show(n:Int)≠0 by omega);have p1:=xc8 (c / 64) (show(0:Int)<n by omega);have t1:(Txt.slice w none (some (c / 64 % n))).length<=8:=by rw[lO,zbZ ⟨p0,by omega⟩,xbC, <-lO];omega
 have t2:(Txt.slice w (some (c / 64 % n + 1)) none).length<=8:=by rw[lO,zbR ⟨by omega,by omega⟩,xbQ, <-lO];omega
 refine⟨w,Txt.slice w none (some (c / 64 % n)) ++ Str.ofString "c" ++ Txt.slice w (some (c / 64 % n + 1)) none,fun M=>?_⟩;have t3:(Txt.slice w none (some (c / 64 % n)) ++ Str.ofString "c":Str).length<=9:=by
  rw[lO]at t1 ⊢;rw[Jc,xaj,show(cd (Str.ofString "c")).length=1 by x_go];omega
 unfold Aa H_;z_go;rw[hn,Nq (by omega),xdh];z_go;rw[ew M];z_go;rw[jl];z_go;rw[xab (by omega)];z_go;rw[xab (by omega)];z_go;rw[xab (by rw[show(Str.ofString "c").length=1 by x_go];omega)];z_go;rw[xab (by omega)];z_go;rw[xab (by omega)];z_go
variable {M:Mm}
noncomputable def q4 (w:Int) (d:D):D:=.tup [.int w,.int (tm d),.str (ky d),.int (vl d)]
noncomputable def pr4 (w s form:Int) (d:D) (o:Int) (e:D):List D:=if o≠w then(dB w s form d e).map cL else []
theorem J6 {a b:Int}:mx a b=mx b a:=by unfold mx;split<;>split<;>omega
theorem zL {a b:Int}:ab (a - b)=ab (b - a):=by unfold ab;split<;>split<;>omega
theorem zcH {x y:Slot}{w s form o t v t' v':Int}{z z':Str}{a0:D}{acc:List D}(hw:w=0\/w=1)(hv:v.natAbs<=1000000000000000000000000000000000000000000000000000000000000)(hv':v'.natAbs<=1000000000000000000000000000000000000000000000000000000000000)(f0:0<=form)(f1:form<4)(hl:acc.length<=1000):
    ∃x' y',Az [.val a0,.val (.int w),.val (.tup [.str "thing",.int t,.str z,.int v]),.val (.int s),.val (.int form),.own acc,.val (q4 o (.tup [.int t',.str z',.int v'])),x,y] M=
      some (.nx [.val a0,.val (.int w),.val (.tup [.str "thing",.int t,.str z,.int v]),.val (.int s),.val (.int form),.own (acc ++ pr4 w s form (.tup [.int t,.str z,.int v]) o (.tup [.int t',.str z',.int v'])),.val (q4 o (.tup [.int t',.str z',.int v'])),x',y'],M):=by
  have e1:=fun tt=>Q5 (M:=M) (t:=tt) hv hv' f0 f1;have e2:=fun tt=>Q5 (M:=M) (t:=tt) hv' hv f0 f1;unfold Az q4 pr4;generalize yG=G at e1 e2 ⊢
  by_cases ho:o=w
  · rw[xad (fun h=>h ho),xax];subst ho;refine⟨x,y,?_⟩;simp only[tm,ky,vl];z_go
  · rw[xab ho];simp only[tm,ky,vl]
    by_cases hz:z'=z
    · subst hz
      by_cases ha:ab (t' - t)<=s
      · have ha':(if t' - t<0 then -(t' - t) else t' - t)<=s:=ha
        have ha2:ab (t - t')<=s:=by rw[zL];exact ha
        rcases hw with rfl |rfl
        · have pe:dB 0 s form (.tup [.int t,.str z',.int v]) (.tup [.int t',.str z',.int v'])=[.tup [.int (mx t' t),.str z',.int (hold (lV form (mx t' t) v v'))]]:=by
            unfold dB mH;rw[xab rfl,xab ⟨rfl,ha2⟩,J6];rfl
          rw[pe];have g:=e1 (mx t' t);refine⟨.val (.int (mx t' t)),.val (.tup [.int v,.int v']),?_⟩;unfold mx at g ⊢;z_go;simp only[ho,ha'];z_go;rw[g];z_go;rw[xab (by omega)];z_go;rfl
        · have pe:dB 1 s form (.tup [.int t,.str z',.int v]) (.tup [.int t',.str z',.int v'])=[.tup [.int (mx t' t),.str z',.int (hold (lV form (mx t' t) v' v))]]:=by
            unfold dB mH;rw[xad (by decide),xab ⟨rfl,ha⟩];rfl
          rw[pe];have g:=e2 (mx t' t);refine⟨.val (.int (mx t' t)),.val (.tup [.int v',.int v]),?_⟩;unfold mx at g ⊢;z_go;simp only[ho,ha'];z_go;rw[g];z_go;rw[xab (by omega)];z_go;rfl
      · have ha':¬ (if t' - t<0 then -(t' - t) else t' - t)<=s:=ha
        have ha2:¬ ab (t - t')<=s:=by rw[zL];exact ha
        have pe:dB w s form (.tup [.int t,.str z',.int v]) (.tup [.int t',.str z',.int v'])=[]:=by
          unfold dB mH
          split
          · exact xad (fun h=>ha2 h.2)
          · exact xad (fun h=>ha h.2)
        rw[pe];refine⟨x,y,?_⟩;rw[xbS,xax];z_go;simp only[ho,ha'];z_go
    · have pe:dB w s form (.tup [.int t,.str z,.int v]) (.tup [.int t',.str z',.int v'])=[]:=by
        unfold dB mH
        split
        · exact xad (fun h=>hz h.1.symm)
        · exact xad (fun h=>hz h.1)
      rw[pe];refine⟨x,y,?_⟩;rw[xbS,xax];z_go;simp only[ho,hz];z_go
variable {M:Mm}
theorem GQ {ds:List D}(h64:ds.length<64)(ht:ds.all tupI=true)(tot:∀xs ys,.tup xs∈ds->.tup ys∈ds->∃b,bZ xs ys=some b):∃es,eZ ds=some es/\es.Perm ds/\es.Pairwise ni:=by
 let un:D->List D:=fun d=>match d with |.tup x=>x |_=>[]
 have hun:∀d∈ds,d=.tup (un d):=fun d hd=>by
  have:=xaM.mp ht d hd;cases d<;>first |rfl |cases this
 have cm:∀x∈ds.map un,∀y∈ds.map un,∃b,bZ x y=some b:=fun x hx y hy=>by
  obtain⟨d,hd,rfl⟩:=xaD.mp hx;obtain⟨e,he,rfl⟩:=xaD.mp hy;exact tot _ _ (hun d hd ▸ hd) (hun e he ▸ he)
 obtain ⟨es, e1, p, q⟩ := zbH (le := fun a b => FN (ds.map un) (un a) <= FN (ds.map un) (un b)) h64 ht (fun d => xaf _) (fun a b c => xaB) (fun xs ys hx hy=>by
  obtain⟨b,hb⟩:=tot _ _ hx hy;have e:=Ur cm (xbB (f:=un) hx) (xbB (f:=un) hy) hb;refine⟨b,hb,fun h=>?_,fun h=>?_⟩
  ·rw[h]at e;exact xb6 (xby e.symm)
  ·rw[h]at e;exact xeg.mp (xb2 e.symm))
 refine⟨es,e1,p,q.imp_of_mem fun {a b} ha hb hle=>?_⟩;have m1:=p.mem_iff.mp ha;have m2:=p.mem_iff.mp hb;obtain⟨c,hc⟩:=cm _ (xbB m2) _ (xbB m1);have ec:=Ur cm (xbB m2) (xbB m1) hc;rw[xaz (xeg.mpr hle)]at ec;rw[hun a m1,hun b m2];rw[ec]at hc;exact hc
theorem CQ {t t' v v':Int}{z z':Str}:∃b,bZ [.int t,.str z,.int v] [.int t',.str z',.int v']=some b:=by
 simp only[bZ]
 repeat' split
 all_goals exact⟨_,rfl⟩
theorem CT {w w' t t' v v':Int}{z z':Str}:∃b,bZ [.int w,.int t,.str z,.int v] [.int w',.int t',.str z',.int v']=some b:=by
 rw[bZ]
 split
 ·exact CQ
 ·exact⟨_,rfl⟩
theorem Oh {ds:List D}(hT:∀d∈ds,Tk d)(hl:ds.length<64):∃es,eZ ds=some es/\es.Perm ds/\es.Pairwise ni:=
 GQ hl (xaM.mpr fun d hd=>by obtain⟨t,z,v,rfl⟩:=hT d hd;rfl) fun xs ys hx hy=>by
  obtain⟨t,z,v,e⟩:=hT _ hx;obtain⟨t',z',v',e'⟩:=hT _ hy;rw[D.tup.inj e,D.tup.inj e'];exact CQ
def qp (p:Int×D):D:=q4 p.1 p.2
theorem Oi {T:List (Int×D)}(hl:T.length<64):∃es,eZ (T.map qp)=some es/\es.Perm (T.map qp)/\es.Pairwise ni:=
 GQ (by rw[xal];exact hl) (xaM.mpr fun d hd=>by obtain⟨p,_,rfl⟩:=xaD.mp hd;rfl) fun xs ys hx hy=>by
  obtain⟨p,_,e⟩:=xaD.mp hx;obtain⟨p',_,e'⟩:=xaD.mp hy;rw[<-D.tup.inj e, <-D.tup.inj e'];exact CT
noncomputable def uq:D->Int×D
 |.tup [.int w,a,b,c]=>(w,.tup [a,b,c])
 |_=>(0,.non)
theorem W7 {p:Int×D}(h:Tk p.2):uq (qp p)=p:=by
 obtain⟨w,d⟩:=p;obtain⟨t,z,v,rfl⟩:=h;rfl
theorem Z_ {w:Int}{d e:D}(hd:Tk d)(he:Tk e):ni (q4 w d) (q4 w e) ↔ ni d e:=by
 obtain⟨t,z,v,rfl⟩:=hd;obtain⟨t',z',v',rfl⟩:=he;show bZ (.int w::_) (.int w::_)=some false ↔ _;rw[lt_eq rfl];rfl
noncomputable def bB (w:Int) (T:List (Int×D)):List D:=(T.filter fun p=>decide (p.1=w)).map Prod.snd
theorem Cu {T:List (Int×D)}(hT:∀p∈T,Tk p.2)(hl:T.length<64):∃T':List (Int×D),eZ (T.map qp)=some (T'.map qp)/\T'.Perm T/\∀w,(bB w T').Pairwise ni:=by
 obtain⟨es,e,p,s⟩:=Oi hl;have ee:(es.map uq).map qp=es:=by
  rw[xcs];refine(xcU fun x hx=>?_).trans (List.map_id es);obtain⟨y,hy,rfl⟩:=xaD.mp (p.mem_iff.mp hx);show qp (uq (qp y))=qp y;rw[W7 (hT y hy)]
 have pp:(es.map uq).Perm T:=by
  have:=p.map uq;rw[xcs]at this;have e:T.map (uq ∘ qp)=T:=(xcU fun x hx=>W7 (hT x hx)).trans (List.map_id T)
  rwa [e]at this
 refine⟨es.map uq,by rw[ee];exact e,pp,fun w=>?_⟩;have s2:((es.map uq).map qp).Pairwise ni:=by rw[ee];exact s
 rw[xcz]at s2;unfold bB;rw[xcz];refine(s2.filter _).imp_of_mem fun {a b} ha hb h=>?_;have ma:=xa2.mp ha;have mb:=xa2.mp hb;have wa:=xby ma.2;have wb:=xby mb.2;unfold qp at h;rw[wa,wb]at h;exact(Z_ (hT a (pp.mem_iff.mp ma.1)) (hT b (pp.mem_iff.mp mb.1))).mp h
theorem Jt {α β:Type}{f:α->List β}{P:α->Bool}:∀{l:List α},(∀x∈l,P x=false->f x=[])->(l.filter P).flatMap f=l.flatMap f
  | [],_=>rfl
  |x::l,h=>by
    have ih:=Jt (l:=l) fun y hy=>h y (xak _ hy)
    cases e:P x with
    |true=>rw[xbd e,xbq,xbq,ih]
    |false=>rw[xbp (by rw[e];decide),xbq,h x (xat ..) e,ih,xbi]
theorem Q7 {α β:Type}{f g:α->List β}:∀{l:List α},(∀x∈l,f x=g x)->l.flatMap f=l.flatMap g
 | [],_=>rfl
 |x::l,h=>by rw[xbq,xbq,h x (xat ..),Q7 (l:=l) fun y hy=>h y (xak _ hy)]
theorem zfg {w s form low:Int}{d e:D}(h:low<=tm d)(g:tm e + s<low):dB w s form d e=[]:=by
 unfold dB mH ab
 split
 ·refine xad fun x=>?_;have:=x.2;split at this<;>omega
 ·refine xad fun x=>?_;have:=x.2;split at this<;>omega
theorem Y8 {T T':List (Int×D)}{es:List D}{w s form low:Int}{d:D}(hw:w=0\/w=1)(hT:∀p∈T,p.1=0\/p.1=1)(hd:low<=tm d)(pp:T'.Perm T)(sT:∀w,(bB w T').Pairwise ni)
  (pe:es.Perm ((bB (1 - w) T).filter fun e=>decide (low<=tm e + s))) (se:es.Pairwise ni):
  (T'.flatMap fun p=>pr4 w s form d p.1 p.2)=(es.flatMap (dB w s form d)).map cL:=by
 have e1:es=(bB (1 - w) T').filter fun e=>decide (low<=tm e + s):=
  xdD (fun a b _ _=>R6) se ((sT (1 - w)).filter _) (pe.trans (((pp.filter _).map _).filter _).symm)
 rw[e1,Jt (fun x _ hx=>zfg hd (Int.not_le.mp (xb2 hx))),List.map_flatMap];unfold bB;rw[List.flatMap_map];have e2:(T'.flatMap fun p=>pr4 w s form d p.1 p.2)=(T'.filter fun p=>decide (p.1=1 - w)).flatMap fun p=>pr4 w s form d p.1 p.2:=by
  refine(Jt fun x hx h=>?_).symm;have h:=xb2 h;have:=hT x (pp.mem_iff.mp hx);exact xad (by omega)
 rw[e2];refine Q7 fun x hx=>?_;have:=xby (xa2.mp hx).2;exact xab (by omega)
variable {M:Mm}
theorem zdr {w s form o:Int}{d e:D}:(pr4 w s form d o e).length<=1:=by
 unfold pr4
 split
 ·rw[xal];exact Fo
 ·exact xbg _
theorem Sy {w s form:Int}{d a0:D}(hw:w=0\/w=1)(hd:Th d)(f0:0<=form)(f1:form<4):∀(T:List (Int×D)) (acc:List D) (s6 s7 s8:Slot),(∀p∈T,Th p.2)->acc.length + T.length<=1000->
    ∃s6' s7' s8',loopS 6 Az (T.map qp) [.val a0,.val (.int w),.val (cL d),.val (.int s),.val (.int form),.own acc,s6,s7,s8] M=some (.nx [.val a0,.val (.int w),.val (cL d),.val (.int s),.val (.int form),.own (acc ++ T.flatMap fun p=>pr4 w s form d p.1 p.2),s6',s7',s8'],M)
  | [],acc,s6,s7,s8,_,_=>⟨s6,s7,s8,by simp only[xbS,Mt,List.flatMap_nil,xax]⟩
  |p::T,acc,s6,s7,s8,he,hl=>by
    rw[xao]at hl;obtain⟨o,e⟩:=p;obtain⟨t',z',v',rfl,ht',hv'⟩:=he _ xat;obtain⟨t,z,v,hd',ht,hv⟩:=id hd;obtain⟨x',y',e1⟩:=zcH (M:=M) (x:=s7) (y:=s8) (w:=w) (s:=s) (form:=form) (o:=o) (t:=t) (z:=z) (t':=t') (z':=z') (a0:=a0) (acc:=acc) hw hv hv' f0 f1 (by omega);have pl:=zdr (s:=s) (form:=form) (w:=w) (d:=d) (o:=o) (e:=.tup [.int t',.str z',.int v']);obtain⟨s6',s7',s8',e2⟩:=Sy (s:=s) (a0:=a0) hw hd f0 f1 T (acc ++ pr4 w s form d o (.tup [.int t',.str z',.int v'])) (.val (q4 o (.tup [.int t',.str z',.int v']))) x' y' (fun x hx=>he x (xak _ hx)) (by rw[xaj];omega);refine⟨s6',s7',s8',?_⟩;have hi:cL d=.tup [.str "thing",.int t,.str z,.int v]:=by rw[hd'];rfl
    rw[<-hd', <-hi]at e1;rw[xaI,Fq,xab (by simp only[xao,xaV];decide)];simp only[xb3,xb4];rw[show qp (o,.tup [.int t',.str z',.int v'])=q4 o (.tup [.int t',.str z',.int v']) from rfl,e1];simp only[FJ];rw[e2,xbq,xar]
theorem YL {T T':List (Int×D)}{w s form:Int}{d:D}{k:Nat}(hw:w=0\/w=1)(hd:Th d)(f0:0<=form)(f1:form<4)(hT:∀p∈T,Th p.2)(hl:T.length<64)(pp:T'.Perm T)(hk:M[k]? =some (.lst (T.map qp)))(hs:eZ (T.map qp)=some (T'.map qp)):
  tY [.ref k,.int w,cL d,.int s,.int form] M=some (.v (.lst (T'.flatMap fun p=>pr4 w s form d p.1 p.2)),M):=by
 have wv:vw M (.ref k)=.lst (T.map qp):=k_ hk;obtain⟨s6,s7,s8,e⟩:=Sy (M:=M) (s:=s) (a0:=.ref k) hw hd f0 f1 T' [] .un .un .un (fun p hp=>hT p (pp.mem_iff.mp hp)) (by rw[pp.length_eq];simp only[xaV];omega);unfold tY Ie;generalize Az=L at e ⊢;generalize cL d=dd at e ⊢;z_go;rw[wv,Fz hs];z_go;rw[e];z_go
variable {M:Mm}
noncomputable def kq (s low:Int) (T:List (Int×D)):List (Int×D):=T.filter fun p=>decide (tm p.2 + s >=low)
theorem Mr {T:List (Int×D)}{m0 m1 s:Int}(lw:Lw (T.map qp) m0 m1 M):∀(n t:Nat) (acc:List D),t<=T.length->T.length<t + n->acc.length + (T.length - t)<1000->
    lG 10 zU DY [.val (.int s),.val (.ref 11)] n t acc M=some (acc ++ (kq s (mn m0 m1) (T.drop t)).map qp,M)
  |0,t,acc,h0,h,_=>by omega
  |n + 1,t,acc,h0,h,hl=>by
    simp only[lG,lw.t]
    by_cases ht:t<T.length
    · rw[xan,xag ht,xa6 ht];generalize T[t]=p;have wm:vw M (.ref 11)=.lst [.int m0,.int m1]:=k_ lw.m;have q1:zU [.val (qp p),.val (.int s),.val (.ref 11)] M=some (.v (.bl (decide (tm p.2 + s >=mn m0 m1))),M):=by
        unfold zU qp q4;z_go;rw[wm,bl2];z_go
      have q2:DY [.val (qp p),.val (.int s),.val (.ref 11)] M=some (.v (qp p),M):=rfl;dsimp only[Option.map];rw[q1]
      by_cases hd:tm p.2 + s >=mn m0 m1
      · rw[xaF hd];dsimp only;rw[q2];dsimp only;rw[xab (by rw[xaG];omega),Mr lw n (t + 1) _ (by omega) (by omega) (by rw[xaj,xaQ];omega),xar];congr 3;show _=List.map qp (List.filter _ _);rw[xcG,xab (xaF hd)];rfl
      · rw[xaz hd];dsimp only;rw[Mr lw n (t + 1) _ (by omega) (by omega) (by omega)];congr 3;show _=List.map qp (List.filter _ _);rw[xcG,xad (by rw[xaz hd];decide)];rfl
    · rw[xan,xbj (by omega),xcB (by omega)];simp only[kq,List.filter_nil,xbS,xax,Option.map]
theorem Yv {T:List (Int×D)}{m0 m1 s:Int}{d4:D}(lw:Lw (T.map qp) m0 m1 M)(hl:T.length<64):lW 1000 [("_law_span",3),("_law_marks",1)] (aj 2) zU DY [.val (.ref 2),.val (.ref 11),.val (.ref 10),.val (.int s),.val d4,.un,.un] M=some (.v (.lst ((kq s (mn m0 m1) T).map qp)),M):=by
 have q:=Mr (s:=s) lw 1000 0 [] (by omega) (by omega) (by simp only[xaV];omega);rw[xcw,xbi]at q;unfold lW;rw[show aj 2 [Slot.val (.ref 2),.val (.ref 11),.val (.ref 10),.val (.int s),.val d4,.un,.un] M=some (.v (.ref 10),M) from rfl];show(match lG 10 _ _ (bN [("_law_span",3),("_law_marks",1)] [.val (.ref 2),.val (.ref 11),.val (.ref 10),.val (.int s),.val d4,.un,.un]) 1000 0 [] M with |some (ys,M2)=>_ |none=>_)=_
 rw[show bN [(("_law_span":Str),3),("_law_marks",1)] [Slot.val (.ref 2),.val (.ref 11),.val (.ref 10),.val (.int s),.val d4,.un,.un]=[.val (.int s),.val (.ref 11)] from rfl,q]
theorem zdI {a0 a1 a2 a3 a4 a5:Slot}{p:Int×D}:Ax [a0,a1,a2,a3,a4,a5,.val (qp p)] M=some (.nx [a0,a1,a2,a3,a4,a5,.val (qp p)],M):=by
 have e:=fun i=>Jp (M:=M) (i:=i);unfold Ax qp q4;generalize mG=G at e ⊢;z_go;rw[e];z_go;rw[e];z_go;rw[e];z_go
theorem R_ {a0 a1 a2 a3 a4 a5:Slot}{c:Nat}{U:List (Int×D)}(hc:M[c]? =some (.lst (U.map qp))):∀(n t:Nat) (s6:Slot),t<=U.length->U.length<t + n->∃s6',nj 6 c Ax n t [a0,a1,a2,a3,a4,a5,s6] M=some (.nx [a0,a1,a2,a3,a4,a5,s6'],M)
  |0,t,s6,h0,h=>by omega
  |n + 1,t,s6,h0,h=>by
    simp only[nj,hc]
    by_cases ht:t<U.length
    · rw[xan,xag ht];obtain⟨s6',e⟩:=R_ hc n (t + 1) (.val (qp U[t])) (by omega) (by omega);refine⟨s6',?_⟩;dsimp only[Option.map];simp only[xb3,xb4,xao,xaV];rw[xab (by decide),zdI];exact e
    · rw[xan,xbj (by omega)];exact⟨s6,rfl⟩
theorem za0 {ds es:List D}(p:es.Perm ds)(h64:ds.length<64)(ht:ds.all tupI=true)(tot:∀xs ys,.tup xs∈ds->.tup ys∈ds->∃b,bZ xs ys=some b):eZ es=eZ ds:=by
 obtain⟨a,ea,pa,sa⟩:=GQ h64 ht tot;obtain⟨b,eb,pb,sb⟩:=GQ (ds:=es) (by rw[p.length_eq];exact h64) (xaM.mpr fun d hd=>xaM.mp ht d (p.mem_iff.mp hd)) fun xs ys hx hy=>tot xs ys (p.mem_iff.mp hx) (p.mem_iff.mp hy);rw[ea,eb,xdD (fun a b _ _=>R6) sb sa (pb.trans (p.trans pa.symm))]
theorem zdj {T:List (Int×D)}{es:List D}(hl:T.length<64)(p:es.Perm (T.map qp)):eZ es=eZ (T.map qp):=
 za0 p (by rw[xal];exact hl) (xaM.mpr fun d hd=>by obtain⟨p,_,rfl⟩:=xaD.mp hd;rfl) fun xs ys hx hy=>by
  obtain⟨p,_,e⟩:=xaD.mp hx;obtain⟨p',_,e'⟩:=xaD.mp hy;rw[<-D.tup.inj e, <-D.tup.inj e'];exact CT
theorem Ez {w:Int}{d:D}{T:List (Int×D)}:bB w ((w,d)::T)=d::bB w T:=by
 unfold bB;rw[xbd (by exact xaF rfl),xaI]
theorem Ey {w o:Int}{d:D}{T:List (Int×D)}(h:o≠w):bB w ((o,d)::T)=bB w T:=by
 unfold bB;rw[xbp (by show ¬ decide (o=w)=true;rw[xaz h];decide)]
theorem PN {s low:Int}:∀{T:List (Int×D)},(∀p∈T,p.1=0\/p.1=1)->(ak (kl s low (bB 0 T)) (kl s low (bB 1 T))).Perm ((kq s low T).map qp)
  | [],_=>List.Perm.refl _
  |(o,d)::T,h=>by
    have ih:=PN (s:=s) (low:=low) (T:=T) fun x hx=>h x (xak _ hx)
    by_cases hk:tm d + s >=low
    · have ek:kq s low ((o,d)::T)=(o,d)::kq s low T:=xbd (xaF hk);rw[ek];rcases h _ xat with e |e<;>(have e:o=_:=e;subst e)
      · rw[Ez,Ey (by decide),show kl s low (d::bB 0 T)=d::kl s low (bB 0 T) from xbd (xaF hk)];exact ih.cons _
      · rw[Ez,Ey (by decide),show kl s low (d::bB 1 T)=d::kl s low (bB 1 T) from xbd (xaF hk)];exact List.perm_middle.trans (ih.cons _)
    · have dn:¬ decide (tm d + s >=low)=true:=by rw[xaz hk];decide
      have ek:kq s low ((o,d)::T)=kq s low T:=xbp dn;rw[ek];rcases h _ xat with e |e<;>(have e:o=_:=e;subst e)
      · rw[Ez,Ey (by decide),show kl s low (d::bB 0 T)=kl s low (bB 0 T) from xbp dn];exact ih
      · rw[Ez,Ey (by decide),show kl s low (d::bB 1 T)=kl s low (bB 1 T) from xbp dn];exact ih
variable {M:Mm}
theorem Xu {n i j:Nat}{f:E}{b:S}{env:E3.Env}{M1:Mm}(h:f env M=some (.v (.ref j),M1)):B_ n i f b env M=nj i j b n 0 env M1:=by
 simp only[B_,bM,h]
theorem QK:∀{U:List (Int×D)},D.deps (U.map qp)<=5
  | []=>by simp[D.deps]
  |p::U=>by
    have:=QK (U:=U);rw[xaI];simp only[D.deps,qp,q4,D.dep];omega
theorem YG {s form m0 m1:Int}{a b:Nat}{T:List (Int×D)}(j:J s form m0 m1 a b (kl s (mn m0 m1) (bB 0 T)) (kl s (mn m0 m1) (bB 1 T)) M)(lw:Lw (T.map qp) m0 m1 M)(hT:∀p∈T,Tk p.2)(hW:∀p∈T,p.1=0\/p.1=1)(hl:T.length<64):
  ∃E,yE [.ref 2,.ref 11,.ref 10,.int s] M=some (.v (.bl true),M ++ E):=by
 have lk:(kq s (mn m0 m1) T).length<=T.length:=xbk ..;obtain⟨U,eU,pU, -⟩:=Cu (T:=kq s (mn m0 m1) T) (fun p hp=>hT p (xa2.mp hp).1) (by omega);have kt:∀w,∀d∈kl s (mn m0 m1) (bB w T),Tk d:=fun w d hd=>by
  obtain⟨p,hp,rfl⟩:=xaD.mp (xa2.mp hd).1;exact hT p (xa2.mp hp).1
 have kn:∀w,(kl s (mn m0 m1) (bB w T)).length<=100:=fun w=>by
  have h1:(kl s (mn m0 m1) (bB w T)).length<=(bB w T).length:=xbk ..;have h2:(bB w T).length<=T.length:=by unfold bB;rw[xal];exact xbk ..
  omega
 have st:=YM (es:=U.map qp) j (kt 0) (kt 1) (kn 0) (kn 1) (by rw[zdj (by omega) (PN hW)];exact eU);have m:bH "JoinStation" "state" wU (aj 0) au [.val (.ref 2),.val (.ref 11),.val (.ref 10),.val (.int s),.un,.un,.un] M=some (.v (.tup [.ref M.length,.ref (M.length + 1)]),M ++ [.lst [.int m0,.int m1]] ++ [.lst (U.map qp)]):=kE (k:=2) (ds:=[]) rfl j.o (lQ (by x_go)) (by z_go) st;have lw2:=(lw.app (E:=[.lst [.int m0,.int m1]])).app (E:=[.lst (U.map qp)]);have eC:=Yv (s:=s) (d4:=.tup [.ref M.length,.ref (M.length + 1)]) lw2 hl;have ul:U.length<=64:=by rw[pU.length_eq];omega
 have c0:(M ++ [E3.Cl.lst [.int m0,.int m1]] ++ [E3.Cl.lst (U.map qp)])[M.length]? =some (.lst [.int m0,.int m1]):=by rw[xar,xaw (xaf _),xcO];rfl
 have c1:(M ++ [E3.Cl.lst [.int m0,.int m1]] ++ [E3.Cl.lst (U.map qp)])[M.length + 1]? =some (.lst (U.map qp)):=by rw[xar,xaw (by omega),show M.length + 1 - M.length=1 by omega];rfl
 have se:∀x y:E3.Cl,((M ++ [E3.Cl.lst [.int m0,.int m1]] ++ [E3.Cl.lst (U.map qp)]).set M.length x).set (M.length + 1) y=M ++ [x,y]:=fun x y=>by
  rw[xar,xdS _ _ (xaf _),xdS _ _ (by omega),xcO,show M.length + 1 - M.length=1 by omega];rfl
 obtain⟨s6,lp⟩:=R_ (a0:=.val (.ref 2)) (a1:=.val (.ref 11)) (a2:=.val (.ref 10)) (a3:=.val (.int s)) (a4:=.val (.tup [.ref M.length,.ref (M.length + 1)])) (a5:=.val (.lst (U.map qp))) c1 1000 0 .un (by omega) (by omega);generalize M ++ [E3.Cl.lst [.int m0,.int m1]] ++ [E3.Cl.lst (U.map qp)]=N at *;have w0:vw N (.ref M.length)=.lst [.int m0,.int m1]:=k_ c0;have w1:vw N (.ref (M.length + 1))=.lst (U.map qp):=k_ c1;have w11:vw N (.ref 11)=.lst [.int m0,.int m1]:=k_ lw2.m;refine⟨[.lst [.int m0,.int m1,.int 7],.lst (U.map qp ++ [.int 7])],?_⟩;rw[<-se];unfold yE HY;generalize bH "JoinStation" "state" wU _ _=F1 at m ⊢;generalize lW 1000 _ _ _ _=F2 at eC ⊢;generalize Ax=L at lp ⊢;have d1:aH .ne (.lst [.int m0,.int m1]) (.lst [.int m0,.int m1])=some (.bl false):=Lr (by simp[D.dep,D.deps]);have d2:aH .ne (.lst (U.map qp)) (.lst (U.map qp))=some (.bl false):=Lr (by show D.deps _ + 1<=50;have:=QK (U:=U);omega);have vl:(U.map qp).length<=64:=by rw[xal];exact ul
 generalize U.map qp=V at *;generalize M.length=k at *;z_go;rw[m];z_go;simp only[RN];z_go;rw[xad (by decide),w0,w11,d1];z_go;rw[eC];z_go;rw[Fz eU];z_go;rw[zcY c1,zf0];z_go;simp only[RM];z_go;rw[w1,d2];z_go;rw[Xu (j:=k + 1) (M1:=N) (by z_go),lp];z_go;rw[c0];z_go;rw[bQ c1 (by omega)];z_go;rw[xab (by omega)];z_go
variable {M:Mm}
structure Iv (s form:Int)(T:List (Int×D))(m0 m1:Int)(a b:Nat)(M:Mm):Prop where
 j:J s form m0 m1 a b (kl s (mn m0 m1) (bB 0 T)) (kl s (mn m0 m1) (bB 1 T)) M
 l:Lw (T.map qp) m0 m1 M
 th:∀p∈T,Th p.2
 w:∀p∈T,p.1=0\/p.1=1
 m:12<=M.length
 p0:0<=m0
 q0:m0<=1000000000000
 p1:0<=m1
 q1:m1<=1000000000000
theorem Iv.app {s form m0 m1:Int}{T:List (Int×D)}{a b:Nat}{E:Mm}(i:Iv s form T m0 m1 a b M):Iv s form T m0 m1 a b (M ++ E):=⟨i.j.app,i.l.app,i.th,i.w,by rw[xaj];have:=i.m;omega,i.p0,i.q0,i.p1,i.q1⟩
theorem Wu {s form m0 m1:Int}{T:List (Int×D)}{a b:Nat}{L:List D}{a0 a2 a3 a5 a8 a9 a10 a11 a14 a15:Slot}(i:Iv s form T m0 m1 a b M)(hl:T.length<64)(hL:∀d∈L,∃(w:Str) (t:Int) (r:List D) (x:Int),d=.tup (.str w::.int t::r)/\cu (.str w::.int t::r) (-1)=some (.int x))(hd:D.deps L<=40):
  ∃E,Bd [a0,.val (.int s),a2,a3,.val (.ref 2),a5,.val (.ref 10),.val (.ref 11),a8,a9,a10,a11,.val (.lst L),.val (.lst L),a14,a15] M=some (.nx [a0,.val (.int s),a2,a3,.val (.ref 2),a5,.val (.ref 10),.val (.ref 11),a8,a9,a10,a11,.val (.lst L),.val (.lst L),a14,a15],M ++ E):=by
 obtain⟨E,e⟩:=YG i.j i.l (fun p hp=>(i.th p hp).tk) i.w hl;have k:=YJ (M:=M) hL;have d1:aH .ne (.lst L) (.lst L)=some (.bl false):=Lr (by show D.deps _ + 1<=50;omega);refine⟨E,?_⟩;unfold Bd S9;generalize yE=G at e ⊢;generalize yF=G2 at k ⊢;z_go;rw[k];z_go;rw[d1];z_go;rw[e];z_go
theorem Z4 {s x y:Int}{K:List D}(h:x<=y):kl s y (kl s x K)=kl s y K:=by
 unfold kl;rw[List.filter_filter];refine List.filter_congr fun d _=>?_
 by_cases g:tm d + s >=y
 ·rw[xaF g,xaF (show tm d + s >=x by omega)];rfl
 ·rw[xaz g];rfl
theorem zeb {s form m0 m1 w t:Int}{T:List (Int×D)}{a b:Nat}(i:Iv s form T m0 m1 a b M)(hl:T.length<64)(hw:w=0\/w=1)(ht:(if w=0 then m0 else m1)<=t)(h12:t<=1000000000000):
  ∃n0 n1 a' b' M',[D.int m0,.int m1].set w.toNat (.int t)=[.int n0,.int n1]/\mn m0 m1<=mn n0 n1/\
   fU [.ref 2,.int w,.tup [.str "mark",.int t]] (M.set 11 (.lst [.int n0,.int n1]))=some (.v (.lst (if mn n0 n1 > mn m0 m1 then [.tup [.str "mark",.int (mn n0 n1)]] else [])),M')/\Iv s form T n0 n1 a' b' M':=by
 have hp0:=i.p0;have hq0:=i.q0;have hp1:=i.p1;have hq1:=i.q1;have hm:=i.m;have kt:∀w,∀d∈kl s (mn m0 m1) (bB w T),Tk d:=fun w d hd=>by
  obtain⟨p,hp,rfl⟩:=xaD.mp (xa2.mp hd).1;exact(i.th p (xa2.mp hp).1).tk
 have kn:∀w,(kl s (mn m0 m1) (bB w T)).length<=100:=fun w=>by
  have h1:(kl s (mn m0 m1) (bB w T)).length<=(bB w T).length:=xbk ..;have h2:(bB w T).length<=T.length:=by unfold bB;rw[xal];exact xbk ..
  omega
 have main:∀n0 n1 v:Int,∀k:Nat,cu [D.int m0,.int m1] w=some (.int v)->kj 2 w=some k->[D.int m0,.int m1].set k (.int t)=[.int n0,.int n1]->(t=v->n0=m0/\n1=m1)->v<=t->m0<=n0->m1<=n1->n0<=1000000000000->n1<=1000000000000->
   ∃a' b' M',fU [.ref 2,.int w,.tup [.str "mark",.int t]] (M.set 11 (.lst [.int n0,.int n1]))=some (.v (.lst (if mn n0 n1 > mn m0 m1 then [.tup [.str "mark",.int (mn n0 n1)]] else [])),M')/\Iv s form T n0 n1 a' b' M':=fun n0 n1 v k ix ixn hs hn hv l0 l1 u0 u1=>by
  have lm:mn m0 m1<=mn n0 n1:=by unfold mn;omega
  have ja:=i.j.ha;have jb:=i.j.hb;have j1:J s form m0 m1 a b (kl s (mn m0 m1) (bB 0 T)) (kl s (mn m0 m1) (bB 1 T)) (M.set 11 (.lst [.int n0,.int n1])):=⟨bQ i.j.o (by omega),bQ i.j.mm (by omega),bQ i.j.x (by omega),bQ i.j.h (by omega),bQ i.j.p (by omega),bQ i.j.ka (by omega),bQ i.j.kb (by omega),i.j.ne,i.j.ha,i.j.hb⟩;have lw1:Lw (T.map qp) n0 n1 (M.set 11 (.lst [.int n0,.int n1])):=⟨bQ i.l.t (by omega),xU i.l.m⟩;obtain⟨a',b',K0',K1',M',e,j2,ml,lw,hk⟩:=YK (w:=w) (t:=t) j1 ix ixn hs hn hv (by rw[xaA];exact hm) (kt 0) (kt 1) (kn 0) (kn 1) lm;refine⟨a',b',M',zdf j1.o e,?_,lw _ _ _ lw1,i.th,i.w,by rw[xaA]at ml;omega,by omega,u0,by omega,u1⟩;rcases hk with⟨h0,h1,he⟩ |⟨h0,h1⟩
  ·rw[he, <-h0, <-h1];exact j2
  ·rw[Z4 lm]at h0 h1;rw[<-h0, <-h1];exact j2
 rcases hw with rfl |rfl
 ·obtain⟨a',b',M',e⟩:=main t m1 m0 0 rfl rfl rfl (fun h=>⟨h,rfl⟩) ht ht (xef _) h12 hq1;have ht':m0<=t:=ht;exact⟨t,m1,a',b',M',rfl,by unfold mn;omega,e⟩
 ·have ht':m1<=t:=ht;obtain⟨a',b',M',e⟩:=main m0 t m1 1 rfl rfl rfl (fun h=>⟨rfl,h⟩) ht' (xef _) ht' hq0 h12;exact⟨m0,t,a',b',M',rfl,by unfold mn;omega,e⟩
variable {M:Mm}
theorem Ew {w o:Int}{d:D}{T:List (Int×D)}:bB w (T ++ [(o,d)])=bB w T ++ (if o=w then [d] else []):=by
 unfold bB;rw[xeb,xcm];congr 1
 by_cases h:o=w
 ·subst h;rw[xab rfl,xbd (by exact xaF rfl)];rfl
 ·rw[xad h,xbp (by show ¬ decide (o=w)=true;rw[xaz h];decide)];rfl
theorem R4 {s low:Int}{d:D}{K:List D}(h:tm d + s >=low):kl s low (K ++ [d])=kl s low K ++ [d]:=by
 unfold kl;rw[xeb,xbd (by exact xaF h)];rfl
theorem QL:∀{L:List D},D.deps (L.map cL)<=5
  | []=>by simp[D.deps]
  |p::U=>by
    have:=QL (L:=U);rw[xaI];simp only[D.deps,cL,D.dep];omega
theorem WQ {s w:Int}{a b:Nat}{d r:D}{M':Mm}(hd:Tk d)(o:M[2]? =some (OB s a b))(h:rD [.ref 2,.int w,d] M=some (.v r,M')):fU [.ref 2,.int w,cL d] M=some (.v r,M'):=by
 obtain⟨t,z,v,rfl⟩:=hd;exact zbD o h
theorem zcn {s form m0 m1 w:Int}{d:D}{T:List (Int×D)}{a b:Nat}(i:Iv s form T m0 m1 a b M)(hl:T.length<63)(hw:w=0\/w=1)(hd:Th d)(ht:(if w=0 then m0 else m1)<=tm d)(s0:0<=s)(f0:0<=form)(f1:form<4):
  ∃(L:List D) (M':Mm),tY [.ref 10,.int w,cL d,.int s,.int form] M=some (.v (.lst (L.map cL)),M)/\fU [.ref 2,.int w,cL d] (M.set 10 (.lst (T.map qp ++ [q4 w d])))=some (.v (.lst (L.map cL)),M')/\Iv s form (T ++ [(w,d)]) m0 m1 a b M':=by
 have hm:=i.m;have hlow:mn m0 m1<=tm d:=by
  unfold mn;rcases hw with rfl |rfl
  ·have ht:m0<=tm d:=ht;omega
  ·have ht:m1<=tm d:=ht;omega
 have kt:∀w,∀e∈kl s (mn m0 m1) (bB w T),Th e:=fun w e hd=>by
  obtain⟨p,hp,rfl⟩:=xaD.mp (xa2.mp hd).1;exact i.th p (xa2.mp hp).1
 have kn:∀w,(kl s (mn m0 m1) (bB w T)).length<64:=fun w=>by
  have h1:(kl s (mn m0 m1) (bB w T)).length<=(bB w T).length:=xbk ..;have h2:(bB w T).length<=T.length:=by unfold bB;rw[xal];exact xbk ..
  omega
 obtain⟨T',eT,pT,sT⟩:=Cu (fun p hp=>(i.th p hp).tk) (show T.length<64 by omega);obtain⟨es,ee,pe,se⟩:=Oh (fun e he=>(kt (1 - w) e he).tk) (kn (1 - w));have g1:=YL (w:=w) (s:=s) (form:=form) hw hd f0 f1 i.th (by omega) pT i.l.t eT;rw[Y8 hw i.w hlow pT sT (es:=es) (s:=s) (form:=form) (by exact pe) se]at g1;have ja:=i.j.ha;have jb:=i.j.hb;have j1:J s form m0 m1 a b (kl s (mn m0 m1) (bB 0 T)) (kl s (mn m0 m1) (bB 1 T)) (M.set 10 (.lst (T.map qp ++ [q4 w d]))):=⟨bQ i.j.o (by omega),bQ i.j.mm (by omega),bQ i.j.x (by omega),bQ i.j.h (by omega),bQ i.j.p (by omega),bQ i.j.ka (by omega),bQ i.j.kb (by omega),i.j.ne,i.j.ha,i.j.hb⟩;have lw1:Lw ((T ++ [(w,d)]).map qp) m0 m1 (M.set 10 (.lst (T.map qp ++ [q4 w d]))):=⟨by rw[xcm];exact xU i.l.t,bQ i.l.m (by omega)⟩;have el:es.length<=100:=by rw[pe.length_eq];have:=kn (1 - w);omega
 have eh:∀e∈es,Th e:=fun e he=>kt _ e (pe.mem_iff.mp he);have nth:∀p∈T ++ [(w,d)],Th p.2:=fun p hp=>by
  rcases xbr.mp hp with h |h
  ·exact i.th p h
  ·rw[xbl.mp h];exact hd
 have nw:∀p∈T ++ [(w,d)],p.1=0\/p.1=1:=fun p hp=>by
  rcases xbr.mp hp with h |h
  ·exact i.w p h
  ·rw[xbl.mp h];exact hw
 rcases hw with rfl |rfl
 ·have jn:=j1.setA (K:=kl s (mn m0 m1) (bB 0 T) ++ [d]);obtain⟨E,e⟩:=Q6 (c:=a) (c':=b) (.inl rfl) hd j1 ⟨_,_,jn⟩ rfl rfl j1.ka j1.kb j1.ne ee eh (by have:=kn 0;omega) el;refine⟨_,_,g1,WQ hd.tk j1.o e,?_⟩
  ·refine Iv.app ⟨?_,lw1.setK (by omega) (by omega),nth,nw,by rw[xaA,xaA];exact hm,i.p0,i.q0,i.p1,i.q1⟩;rw[Ew,Ew,xab rfl,xad (by decide),xax,R4 (by omega)];exact jn
 ·have jn:=j1.setB (K:=kl s (mn m0 m1) (bB 1 T) ++ [d]);obtain⟨E,e⟩:=Q6 (c:=b) (c':=a) (.inr rfl) hd j1 ⟨_,_,jn⟩ rfl rfl j1.kb j1.ka (xbu j1.ne) ee eh (by have:=kn 1;omega) el;refine⟨_,_,g1,WQ hd.tk j1.o e,?_⟩
  ·refine Iv.app ⟨?_,lw1.setK (by omega) (by omega),nth,nw,by rw[xaA,xaA];exact hm,i.p0,i.q0,i.p1,i.q1⟩;rw[Ew,Ew,xad (by decide),xab rfl,xax,R4 (by omega)];exact jn
variable {M:Mm}
theorem zcu {s form m0 m1 w t c:Int}{T:List (Int×D)}{a b:Nat}{a0 a2 a3 a5 a11 a12 a13 a14 a15:Slot}(i:Iv s form T m0 m1 a b M)(hl:T.length<64)(hw:w=0\/w=1)(ht:(if w=0 then m0 else m1)<=t)(h12:t<=1000000000000)(hc:c / 2 % 5=0):
  ∃n0 n1 a' b' M' a11' a12' a13',xg [a0,.val (.int s),a2,a3,.val (.ref 2),a5,.val (.ref 10),.val (.ref 11),.val (.int c),.val (.int w),.val (.int t),a11,a12,a13,a14,a15] M=
   some (.nx [a0,.val (.int s),a2,a3,.val (.ref 2),a5,.val (.ref 10),.val (.ref 11),.val (.int c),.val (.int w),.val (.int t),a11',a12',a13',a14,a15],M')/\Iv s form T n0 n1 a' b' M':=by
 obtain⟨n0,n1,a',b',M',hs,lm,e,i'⟩:=zeb i hl hw ht h12;obtain⟨L,hL⟩:∃L:List D,L=if mn n0 n1 > mn m0 m1 then [.tup [.str "mark",.int (mn n0 n1)]] else []:=⟨_,rfl⟩
 rw [<- hL] at e;obtain ⟨E, e3⟩ := Wu (L := L) (a0 := a0) (a2 := a2) (a3 := a3) (a5 := a5) (a8 := .val (.int c)) (a9 := .val (.int w)) (a10 := .val (.int t)) (a11 := .val (.int (mn m0 m1))) (a14 := a14) (a15 := a15) i' hl (fun d hd=>by
  rw[hL]at hd;split at hd
  ·rw[xbl.mp hd];exact⟨_,_,_,_,rfl,rfl⟩
  ·exact nomatch hd) (by
  rw[hL]
  split<;>simp[D.deps,D.dep])
 refine⟨n0,n1,a',b',M' ++ E,.val (.int (mn m0 m1)),.val (.lst L),.val (.lst L),?_,i'.app⟩;have w0:vw M (.ref 11)=.lst [.int m0,.int m1]:=k_ i.l.m;have w1:vw (M.set 11 (.lst [.int n0,.int n1])) (.ref 11)=.lst [.int n0,.int n1]:=k_ (xU i.l.m);have mm:=i.l.m;have o1:(M.set 11 (.lst [.int n0,.int n1]))[2]? =some (OB s a b):=bQ i.j.o (by omega);have mt:bH "JoinStation" "take_in" fU (aj 4) (aA (aj 9) (aA (aW (aA (ao (.str "mark")) (aA (aj 10) au))) au)) [a0,.val (.int s),a2,a3,.val (.ref 2),a5,.val (.ref 10),.val (.ref 11),.val (.int c),.val (.int w),.val (.int t),.val (.int (mn m0 m1)),.val (.lst L),a13,a14,a15] (M.set 11 (.lst [.int n0,.int n1]))=some (.v (.lst L),M'):=kE (k:=2) (ds:=[.int w,.tup [.str "mark",.int t]]) rfl o1 (lQ (by x_go)) (by z_go) e;unfold xg;generalize Bd=F3 at e3 ⊢;generalize bH "JoinStation" "take_in" fU (aj 4) (aA (aj 9) (aA (aW (aA (ao (.str "mark")) (aA (aj 10) au))) au))=F1 at mt ⊢;generalize bH "JoinStation" "take_in" fU _ _=F2;generalize tY=G1;have si:nF (aj 7) (aj 9) (aj 10) [a0,.val (.int s),a2,a3,.val (.ref 2),a5,.val (.ref 10),.val (.ref 11),.val (.int c),.val (.int w),.val (.int t),.val (.int (mn m0 m1)),a12,a13,a14,a15] M=some (.nx [a0,.val (.int s),a2,a3,.val (.ref 2),a5,.val (.ref 10),.val (.ref 11),.val (.int c),.val (.int w),.val (.int t),.val (.int (mn m0 m1)),a12,a13,a14,a15],M.set 11 (.lst [.int n0,.int n1])):=by
  rw[<-hs];exact Rq (M1:=M) (M2:=M) (M3:=M) rfl rfl rfl mm (by rcases hw with rfl |rfl<;>rfl)
 generalize nF (aj 7) (aj 9) (aj 10)=F4 at si ⊢;generalize M.set 11 (Cl.lst [.int n0,.int n1])=M1 at *;z_go;rw[xab hc,w0,bl2];z_go;rw[si];z_go;rw[w1,bl2];z_go
 by_cases g:mn n0 n1 > mn m0 m1
 ·rw[xab g]at hL;subst hL;simp only[g];z_go;rw[w1,bl2];z_go;rw[mt];z_go;rw[e3]
 ·rw[xad g]at hL;subst hL;simp only[g];z_go;rw[mt];z_go;rw[e3]
theorem zhy {w:Int}{d:D}(hd:Tk d):∃x,wG (cL d) (some 1) none=some (.tup x)/\D.int w::x=[.int w,.int (tm d),.str (ky d),.int (vl d)]:=by
 obtain⟨t,z,v,rfl⟩:=hd;exact⟨_,rfl,rfl⟩
theorem Yw {c:Int}{env:E3.Env}(h:env[8]? =some (.val (.int c))):s2 dU (s2 oMod (s2 kI (aj 8) (ao (.int 37))) (s2 bR (s2 eX (ao (.int 2)) (s2 dw (ao (.int 10)) (ao (.int 60)))) (ao (.int 1)))) (s2 dw (ao (.int 10)) (ao (.int 60))) env M=some (.v (.int (c / 37 % 2000000000000000000000000000000000000000000000000000000000001 - 1000000000000000000000000000000000000000000000000000000000000)),M):=by
 have a1:s2 kI (aj 8) (ao (.int 37)) env M=some (.v (.int (c / 37)),M):=by
  z_go;rw[h];z_go
 have a2:s2 dw (ao (.int 10)) (ao (.int 60)) env M=some (.v (.int 1000000000000000000000000000000000000000000000000000000000000),M):=by kernel_rfl
 have a3:s2 bR (s2 eX (ao (.int 2)) (s2 dw (ao (.int 10)) (ao (.int 60)))) (ao (.int 1)) env M=some (.v (.int 2000000000000000000000000000000000000000000000000000000000001),M):=by kernel_rfl
 generalize s2 kI (aj 8) (ao (.int 37))=F1 at a1 ⊢;generalize s2 bR (s2 eX _ _) _=F3 at a3 ⊢;generalize s2 dw _ _=F2 at a2 ⊢;z_go;rw[a1];z_go;rw[a3];z_go;rw[a2];z_go
theorem zb3 {s form m0 m1 w t c:Int}{T:List (Int×D)}{a b:Nat}{a0 a3 a11 a12 a13 a14 a15:Slot}{k0 k1:Str}(i:Iv s form T m0 m1 a b M)(hl:T.length<63)(hw:w=0\/w=1)(ht:(if w=0 then m0 else m1)<=t)(h12:t<=1000000000000)(hc:¬ c / 2 % 5=0)(s0:0<=s)(f0:0<=form)(f1:form<4):
  ∃d M' a12' a13' a14' a15',xg [a0,.val (.int s),.val (.int form),a3,.val (.ref 2),.val (.lst [.str k0,.str k1,.str "zebra"]),.val (.ref 10),.val (.ref 11),.val (.int c),.val (.int w),.val (.int t),a11,a12,a13,a14,a15] M=
   some (.nx [a0,.val (.int s),.val (.int form),a3,.val (.ref 2),.val (.lst [.str k0,.str k1,.str "zebra"]),.val (.ref 10),.val (.ref 11),.val (.int c),.val (.int w),.val (.int t),a11,a12',a13',a14',a15'],M')/\Iv s form (T ++ [(w,d)]) m0 m1 a b M':=by
 obtain⟨v,hv,hb⟩:∃v:Int,v=c / 37 % 2000000000000000000000000000000000000000000000000000000000001 - 1000000000000000000000000000000000000000000000000000000000000/\v.natAbs<=1000000000000000000000000000000000000000000000000000000000000:=⟨_,rfl,by omega⟩;obtain⟨z,hz⟩:∃z:Str,cu [D.str k0,.str k1,.str "zebra",.str k0] (c / 2 % 5 - 1)=some (.str z):=by
  have:c / 2 % 5=1\/c / 2 % 5=2\/c / 2 % 5=3\/c / 2 % 5=4:=by omega
  rcases this with h |h |h |h<;>rw[h]<;>exact⟨_,rfl⟩
 have t0:0<=t:=by
  have:=i.p0;have:=i.p1;split at ht<;>omega
 obtain ⟨L, M', e1, e2, i'⟩ := zcn (w := w) (d := .tup [.int t, .str z, .int v]) i hl hw ⟨t, z, v, rfl, by omega, hb⟩ ht s0 f0 f1;obtain ⟨E, e3⟩ := Wu (L := L.map cL) (a0 := a0) (a2 := .val (.int form)) (a3 := a3) (a5 := .val (.lst [.str k0, .str k1, .str "zebra"])) (a8 := .val (.int c)) (a9 := .val (.int w)) (a10 := .val (.int t)) (a11 := a11) (a14 := .val (.str z)) (a15 := .val (cL (.tup [.int t, .str z, .int v]))) i' (by rw [xaj, xaQ]; omega) (fun d hd=>by
  obtain⟨x,_,rfl⟩:=xaD.mp hd;exact⟨_,_,_,_,rfl,rfl⟩) (by have:=QL (L:=L);omega)
 refine⟨.tup [.int t,.str z,.int v],M' ++ E,.val (.lst (L.map cL)),.val (.lst (L.map cL)),.val (.str z),.val (cL (.tup [.int t,.str z,.int v])),?_,i'.app⟩;have mm:=i.l.t;have o1:(M.set 10 (.lst (T.map qp ++ [q4 w (.tup [.int t,.str z,.int v])])))[2]? =some (OB s a b):=bQ i.j.o (by omega);have mt:bH "JoinStation" "take_in" fU (aj 4) (aA (aj 9) (aA (aj 15) au)) [a0,.val (.int s),.val (.int form),a3,.val (.ref 2),.val (.lst [.str k0,.str k1,.str "zebra"]),.val (.ref 10),.val (.ref 11),.val (.int c),.val (.int w),.val (.int t),a11,.val (.lst (L.map cL)),a13,.val (.str z),.val (cL (.tup [.int t,.str z,.int v]))] (M.set 10 (.lst (T.map qp ++ [q4 w (.tup [.int t,.str z,.int v])])))=some (.v (.lst (L.map cL)),M'):=kE (k:=2) (ds:=[.int w,cL (.tup [.int t,.str z,.int v])]) rfl o1 (lQ (by x_go)) (by z_go) e2;unfold xg;generalize Bd=F3 at e3 ⊢;generalize bH "JoinStation" "take_in" fU (aj 4) (aA (aj 9) (aA (aj 15) au))=F1 at mt ⊢;generalize bH "JoinStation" "take_in" fU _ _=F2;generalize tY=G1 at e1 ⊢;have ev:∀env:E3.Env,env[8]? =some (.val (.int c))->_:=fun env h=>Yw (M:=M) (env:=env) h;rw[<-hv]at ev;generalize s2 dU (s2 oMod (s2 kI (aj 8) (ao (.int 37))) _) _=FV at ev ⊢;have ap:fW (aj 6) (s2 xq (aW (aA (aj 9) au)) (dG (aj 15) (fK (ao (.int 1))) gD)) [a0,.val (.int s),.val (.int form),a3,.val (.ref 2),.val (.lst [.str k0,.str k1,.str "zebra"]),.val (.ref 10),.val (.ref 11),.val (.int c),.val (.int w),.val (.int t),a11,.val (.lst (L.map cL)),a13,.val (.str z),.val (cL (.tup [.int t,.str z,.int v]))] M=some (.nx [a0,.val (.int s),.val (.int form),a3,.val (.ref 2),.val (.lst [.str k0,.str k1,.str "zebra"]),.val (.ref 10),.val (.ref 11),.val (.int c),.val (.int w),.val (.int t),a11,.val (.lst (L.map cL)),a13,.val (.str z),.val (cL (.tup [.int t,.str z,.int v]))],M.set 10 (.lst (T.map qp ++ [q4 w (.tup [.int t,.str z,.int v])]))):=
  Xh (M1 := M) (M2 := M) rfl mm (by
   show _=some (Res.v (D.tup [.int w,.int t,.str z,.int v]),M);simp only[cL,tm,ky,vl];z_go;simp only[Fv,sE,sH,BK,Mw,Mf,Np,Ul,Mx,Fy,V9,Nj,xdG,xbA];z_go;rfl) mm (by rw[xal,xaG];omega)
 generalize fW (aj 6) _=FA at ap ⊢;generalize M.set 10 (Cl.lst (T.map qp ++ [q4 w (.tup [.int t,.str z,.int v])]))=M1 at *;z_go;rw[xad hc];z_go;rw[hz];z_go;rw[ev _ rfl];z_go;rw[show D.tup [D.str (Str.ofString "thing"),.int t,.str z,.int v]=cL (.tup [.int t,.str z,.int v]) from rfl,e1];z_go;rw[ap];z_go;rw[mt];z_go;rw[e3]
variable {M:Mm}
theorem turn {s form m0 m1 c:Int}{T:List (Int×D)}{a b:Nat}{a0 a3 a9 a10 a11 a12 a13 a14 a15:Slot}{k0 k1:Str}(i:Iv s form T m0 m1 a b M)(hl:T.length<63)(s0:0<=s)(s1:s<=1000000000000)(f0:0<=form)(f1:form<4):
  ∃T' n0 n1 a' b' M' b9 b10 b11 b12 b13 b14 b15,El [a0,.val (.int s),.val (.int form),a3,.val (.ref 2),.val (.lst [.str k0,.str k1,.str "zebra"]),.val (.ref 10),.val (.ref 11),.val (.int c),a9,a10,a11,a12,a13,a14,a15] M=
   some (.nx [a0,.val (.int s),.val (.int form),a3,.val (.ref 2),.val (.lst [.str k0,.str k1,.str "zebra"]),.val (.ref 10),.val (.ref 11),.val (.int c),b9,b10,b11,b12,b13,b14,b15],M')/\Iv s form T' n0 n1 a' b' M'/\T'.length<=T.length + 1:=by
 obtain⟨w,hw⟩:∃w:Int,w=c % 2:=⟨_,rfl⟩;have hw2:w=0\/w=1:=by omega
 obtain⟨v,hv,hx⟩:∃v:Int,v=(if w=0 then m0 else m1)/\cu [D.int m0,.int m1] w=some (.int v):=by
  rcases hw2 with e |e<;>(rw[e];exact⟨_,rfl,rfl⟩)
 obtain⟨r,hr,hr0⟩:∃r:Int,r=c / 10 % (2 * s + 4)/\0<=r:=⟨_,rfl,xcT _ (by omega)⟩;obtain⟨t,ht⟩:∃t:Int,t=if v + r<1000000000000 then v + r else 1000000000000:=⟨_,rfl⟩
 have v12:v<=1000000000000:=by
  have:=i.q0;have:=i.q1;rw[hv];split<;>omega
 have t1:(if w=0 then m0 else m1)<=t:=by
  rw[<-hv,ht];split<;>omega
 have t2:t<=1000000000000:=by rw[ht];split<;>omega
 have wm:vw M (.ref 11)=.lst [.int m0,.int m1]:=k_ i.l.m;have main:∀R,xg [a0,.val (.int s),.val (.int form),a3,.val (.ref 2),.val (.lst [.str k0,.str k1,.str "zebra"]),.val (.ref 10),.val (.ref 11),.val (.int c),.val (.int w),.val (.int t),a11,a12,a13,a14,a15] M=R->El [a0,.val (.int s),.val (.int form),a3,.val (.ref 2),.val (.lst [.str k0,.str k1,.str "zebra"]),.val (.ref 10),.val (.ref 11),.val (.int c),a9,a10,a11,a12,a13,a14,a15] M=R:=fun R h=>by
  unfold El S8;generalize xg=F at h ⊢;z_go;rw[<-hw,wm];z_go;rw[hx];z_go;rw[xab (by omega), <-hr];z_go;rw[<-ht];exact h
 by_cases hc:c / 2 % 5=0
 ·obtain⟨n0,n1,a',b',M',b11,b12,b13,e,i'⟩:=zcu (a0:=a0) (a2:=.val (.int form)) (a3:=a3) (a5:=.val (.lst [.str k0,.str k1,.str "zebra"])) (a11:=a11) (a12:=a12) (a13:=a13) (a14:=a14) (a15:=a15) i (by omega) hw2 t1 t2 hc;exact⟨T,n0,n1,a',b',M',_,_,_,_,_,_,_,main _ e,i',by omega⟩
 ·obtain⟨d,M',b12,b13,b14,b15,e,i'⟩:=zb3 (a0:=a0) (a3:=a3) (a11:=a11) (a12:=a12) (a13:=a13) (a14:=a14) (a15:=a15) (k0:=k0) (k1:=k1) i hl hw2 t1 t2 hc s0 f0 f1;exact⟨_,m0,m1,a,b,M',_,_,_,_,_,_,_,main _ e,i',by rw[xaj,xaQ];omega⟩
variable {M:Mm}
theorem Rh {ns:List Int}{k:Int}(hk:0<=k):tX [.lst (ns.map .int),.int k] M=some (.v (.int (ns.getD k.toNat 0)),M):=by
 unfold tX HX;z_go
 by_cases h:k<(ns.length:Int)
 ·simp only[h,decide_true];z_go;have e:cu (ns.map D.int) k=some (.int (ns.getD k.toNat 0)):=by
   obtain⟨j,rfl⟩:∃j:Nat,k=j:=⟨k.toNat,by omega⟩;refine yq ?_;have:j<ns.length:=by omega
   rw[xan,xag this]
   simp[List.getD,this]
  rw[e];z_go
 ·simp only[h,decide_false];z_go
  simp[List.getD,xbj (show ns.length<=k.toNat by omega)]
theorem zg3 {n:Int}(h0:0<=n)(h1:n<=1000000000000):mW [.int n]=some (.str (cH n))/\dh [.str (cH n)]=some (.int n):=by
 have hl:(cH n).length<=14:=V2 (i:=n) (k:=13) (by decide) (by omega);refine⟨?_,?_⟩
 ·rw[Tz,xab (Ss (by omega))];rfl
 ·rw[Bj,xab (by omega),Zr (xai (show n.natAbs<1000000000001 by omega) (by x_go))];rfl
theorem zf4 {x:Int}:∃p:Int,(p=9\/p=61\/p=1000000000001)/\cu [D.int 9,.int 9,.int 61,.int 1000000000001] (x % 4)=some (.int p):=by
 have h:x % 4=0\/x % 4=1\/x % 4=2\/x % 4=3:=by omega
 rcases h with h |h |h |h<;>rw[h]
 ·exact⟨9,.inl rfl,rfl⟩
 ·exact⟨9,.inl rfl,rfl⟩
 ·exact⟨61,.inr (.inl rfl),rfl⟩
 ·exact⟨1000000000001,.inr (.inr rfl),rfl⟩
theorem Q8 {s form m0 m1:Int}{T:List (Int×D)}{a b:Nat}{a0 a1 a2 a3 a5 a6 a8 a9 a10 a11 a12 a13 a14 a15:Slot}(i:Iv s form T m0 m1 a b M):cZ (Er [a0,a1,a2,a3,.val (.ref 2),a5,a6,.val (.ref 11),a8,a9,a10,a11,a12,a13,a14,a15] M)=some (.v (.bl true),M):=by
 have m:bH "JoinStation" "low" j5 (aj 4) au [a0,a1,a2,a3,.val (.ref 2),a5,a6,.val (.ref 11),a8,a9,a10,a11,a12,a13,a14,a15] M=some (.v (.int (mn m0 m1)),M):=kE (k:=2) (ds:=[]) rfl i.j.o (lQ (by x_go)) rfl (Jo i.j);have w:vw M (.ref 11)=.lst [.int m0,.int m1]:=k_ i.l.m;unfold Er;generalize bH "JoinStation" "low" j5 _ _=F at m ⊢;z_go;rw[m];z_go;rw[w,bl2];z_go
theorem ZG {s form:Int}:Iv s form [] 0 0 8 9 (ZM s form ++ [.lst []] ++ [.lst [.int 0,.int 0]]):=⟨HF.app.app,⟨rfl,rfl⟩,(fun p hp=>nomatch hp),(fun p hp=>nomatch hp),xaf _,by decide,by decide,by decide,by decide⟩
theorem Z6:∀ns:List Int,ns.length<=63->∃M,m_ [.lst (ns.map D.int)] (fJ tabs)=some (.v (.bl true),M):=by
 intro ns hl;have fi:∀s form:Int,dh [.str (cH s)]=some (.int s)->yK [.tup [.str "join",.str "j",.tup [.str "a",.str "b"],.tup (.str (cH s)::(pq form).map D.str)]] (fJ tabs)=some (.v (.ref 2),ZM s form):=fun s form si=>YF si;generalize fJ tabs=M0 at fi ⊢;have c0:=Rh (M:=M0) (ns:=ns) (k:=0) (by decide);have c1:=fun N=>Rh (M:=N) (ns:=ns) (k:=1) (by decide);generalize ns.getD (0:Int).toNat 0=v0 at c0;generalize ns.getD (1:Int).toNat 0=v1 at c1;obtain⟨p,hp,ep⟩:=zf4 (x:=v0);obtain⟨s,hs⟩:∃s:Int,s=v0 / 4 % p:=⟨_,rfl⟩;have s0:0<=s:=by rw[hs];exact xcT _ (by omega)
 have s1:s<=1000000000000:=by have:=xc8 (v0 / 4) (show 0<p by omega);omega
 obtain⟨form,hf⟩:∃form:Int,form=v1 % 4:=⟨_,rfl⟩;have f0:0<=form:=by omega
 have f1:form<4:=by omega
 obtain⟨b1,b2⟩:=zg3 s0 s1;obtain⟨k0,k1,ek⟩:=YH (c:=v1 / 4);have fw:=YS (M:=M0) f0 f1;have st:=fi s form b2;have zl:(ZM s form).length=10:=rfl;have ad:xq (.tup [.str (cH s)]) (.tup ((pq form).map D.str))=some (.tup (.str (cH s)::(pq form).map D.str)):=by
  exact xab ⟨rfl,by have:=LK (form:=form);rw[xal,xaG];simp only[xao,xaV];omega⟩
 have i0:=ZG (s:=s) (form:=form);unfold m_ Rj Dw;generalize h1:J7=nx1;z_go;rw[c0];z_go;rw[c0];z_go;rw[ep];z_go;rw[xab (by omega), <-hs];z_go;rw[<-h1];unfold J7;generalize h2:J8=nx2;z_go;rw[c1];z_go;rw[<-hf, <-h2];unfold J8;generalize h3:J9=nx3;z_go;rw[xab (Ss (by omega)),show Str.ofString (toString s)=cH s from rfl];z_go;rw[fw];z_go;rw[ad];z_go;rw[<-h3];unfold J9;generalize h4:J_=nx4;generalize D.tup (.str (cH s)::(pq form).map D.str)=W at st ⊢;z_go;rw[st];z_go;rw[<-h4];unfold J_;generalize h5:Ka=nx5;generalize ZM s form=N at zl i0 ⊢;z_go;rw[c1];z_go;rw[ek];z_go;rw[<-h5];unfold Ka;generalize h6:Kc=nx6;z_go;rw[zl, <-h6];unfold Kc;generalize h7:Kd=nx7;z_go;rw[show List.length (N ++ [E3.Cl.lst []])=11 by rw[xaj,zl];rfl, <-h7];unfold Kd;generalize N ++ [E3.Cl.lst []] ++ [E3.Cl.lst [.int 0,.int 0]]=N0 at i0 ⊢;generalize h8:Er=nx8;z_go;rw[Yr, <-h8];have cl:=Yq ns (some 2) (some 40);generalize cI ns (some 2) (some 40)=es at cl;refine JX (Q:=fun o=>∃M,cZ (g8 _ o)=some (.v (.bl true),M)) (fun k env N=>∃(T:List (Int×D)) (m0 m1:Int) (a b:Nat) (s8 s9 s10 s11 s12 s13 s14 s15:E3.Slot),T.length<=k/\Iv s form T m0 m1 a b N/\env=[.val (.lst (ns.map .int)),.val (.int s),.val (.int form),.val W,.val (.ref 2),.val (.lst [.str k0,.str k1,.str "zebra"]),.val (.ref 10),.val (.ref 11),s8,s9,s10,s11,s12,s13,s14,s15]) ⟨[],0,0,8,9,_,_,_,_,_,_,_,_,xaf _,i0,rfl⟩ ?_ ?_
 ·rintro k d env N hd ⟨T,m0,m1,a,b,s8,s9,s10,s11,s12,s13,s14,s15,hk,i,rfl⟩;rw[xan,xac]at hd;obtain⟨n,hn,rfl⟩:=hd;have kl:=(xam.mp hn).1;refine⟨by simp,?_⟩;simp only[xb3,xb4];obtain⟨T',n0,n1,a',b',M',b9,b10,b11,b12,b13,b14,b15,e,i',hl'⟩:=turn (c:=n) (a0:=.val (.lst (ns.map .int))) (a3:=.val W) (a9:=s9) (a10:=s10) (a11:=s11) (a12:=s12) (a13:=s13) (a14:=s14) (a15:=s15) (k0:=k0) (k1:=k1) i (by omega) s0 s1 f0 f1;rw[e];exact⟨T',n0,n1,a',b',_,_,_,_,_,_,_,_,by omega,i',rfl⟩
 ·rintro env N ⟨T,m0,m1,a,b,s8,s9,s10,s11,s12,s13,s14,s15,hk,i,rfl⟩;exact⟨_,Q8 i⟩
theorem Z7 {l:PySem.W.OpenLaw}{w:World}{K:Fgx}{mg:Mgx}{C:Ad}{h base:Heap}{f23 f24 f25 f26 f27 f28 f29 f30 f31 f32 f33 f34 f35 f36:Addr}{d23 d24 d25 d26 d27 d28 d29 d30 d31 d32 d33 d34 d35 d36:FuncData}(X:K.In h)(G:h.Ns mainGlobals mg)(T:Txt K mg C w)(hB:mC mg base)
  (F0:bx K "is_figures" Gk)
  (F1:bx K "is_signed_figures" Gp)
  (F2:bx K "is_number" Gn)
  (F3:bx K "held" Gj)
  (F4:bx K "is_leaf" Gm)
  (F5:bx K "take_needed" Gy)
  (F6:bx K "check_words" Gh)
  (F7:bx K "combined" Gi)
  (F8:bx K "leaf_value" Gs)
  (F9:bx K "reckoned" Gw)
  (F10:bx K "read_expr" Gv)
  (F11:bx K "change_of" Ce)
  (F12:bx K "pairer_of" za)
  (F13:bx K "item_of" Gq)
  (F14:bx K "station_of" Gx)
  (F15:bx K "_law_whole" Gf)
  (F16:bx K "_law_cell_at" FW)
  (F17:bx K "_law_words" Gg)
  (F18:bx K "_law_made" Gd)
  (F19:bx K "_law_keys" Ga)
  (F20:bx K "_law_pairs" Ge)
  (F21:bx K "_law_kinds" Gb)
  (F22:bx K "_law_kept" FZ)
  (D23:DefAt K mg "law" nJ ["_law_script"] f23 d23)
  (D24:IniAt K C.Expr "Expr.__init__" vo ["self","words"] f24 d24)
  (D25:MetAtD K C.Expr "value" "Expr.value" xR ["self","time","value","other"] [(.int 0)] f25 d25)
  (D26:IniAt K C.JoinStation "JoinStation.__init__" vq ["self","row"] f26 d26)
  (D27:MetAt K C.JoinStation "take_thing" "JoinStation.take_thing" wC ["self","way","thing"] f27 d27)
  (D28:MetAt K C.JoinStation "close_at" "JoinStation.close_at" wg ["self","low"] f28 d28)
  (D29:MetAt K C.JoinStation "left_at" "JoinStation.left_at" wj ["self","low","kept"] f29 d29)
  (D30:MetAt K C.JoinStation "all_kept" "JoinStation.all_kept" sU ["self"] f30 d30)
  (D31:MetAt K C.JoinStation "low" "Station.low" wu ["self"] f31 d31)
  (D32:MetAt K C.JoinStation "take_in" "Station.take_in" wA ["self","way","item"] f32 d32)
  (D33:MetAt K C.JoinStation "take_mark" "Station.take_mark" wB ["self","way","mark"] f33 d33)
  (D34:MetAt K C.JoinStation "tell_low" "Station.tell_low" wD ["self","low"] f34 d34)
  (D35:MetAt K C.JoinStation "state" "Station.state" wz ["self"] f35 d35)
  (D36:BasAt K C.Station "Station.__init__" vp ["self","row"] f36 d36)
  :FnOk l.prog w K mg base fO w5 f23 d23 ["_law_script"] (nR K mg 1 m_):=by
 have A0:aY l.prog w K mg base 1 "is_figures" 1 Af:=(F0.ok X G Vo (fun _=>zaI (k:=0) T) :);have A1:aY l.prog w K mg base 2 "is_signed_figures" 1 Ai:=(F1.ok X G Vr (fun _=>zan (k:=1) T A0.up) :);have A2:aY l.prog w K mg base 3 "is_number" 1 Ah:=(F2.ok X G Vq (fun _=>zaL (k:=2) T A1.up) :);have A3:aY l.prog w K mg base 1 "held" 1 Ae:=(F3.ok X G Vn (fun _=>zd3 (k:=0) T) :);have A4:aY l.prog w K mg base 4 "is_leaf" 2 Ag:=(F4.ok X G Vp (fun _=>zbj (k:=3) T A2.up) :);have B5:lq l.prog w K mg base 1 "take_needed" 2 yL:=(F5.okX X G VB (fun _=>zay (k:=0) T) :);have A5:=B5.quiet;have B6:lq l.prog w K mg base 5 "check_words" 3 yI:=(F6.okX X G Vl (fun _=>zaA (k:=4) T A4.up B5.up) :);have A6:=B6.quiet;have A7:aY l.prog w K mg base 1 "combined" 3 Ac:=(F7.ok X G Vm (fun _=>zaY (k:=0) T) :);have A8:aY l.prog w K mg base 1 "leaf_value" 4 Aj:=(F8.ok X G Vu (fun _=>zaC (k:=0) T) :);have A9:aY l.prog w K mg base 2 "reckoned" 4 tZ:=(F9.ok X G Vy (fun _=>zaW (k:=1) T A7.up A8.up) :);have A24:mz l.prog w K mg base 1 C.Expr 2 z_:=⟨_,_,_,D24.M,gO (b:=Di) D24.F UG (by decide) (zaw (k:=0) T),D24.b⟩;have A10:aY l.prog w K mg base 6 "read_expr" 2 Ak:=(F10.ok X G Vx (fun _=>zaK (k:=5) (k0:=4) T rfl A6.up A24.up) :);have A25:cV l.prog w K mg base 3 C.Expr "value" 4 yC:=⟨_,_,_,D25.M,gO (b:=Dj) D25.F UJ (by decide) (zaH (k:=2) T A9.up),D25.b⟩;have A37:h_ l.prog w K mg base 4 j_ 3 yH:=(yh.ok Vj (zap (k:=3) T A3.up A25.up) :);obtain⟨c11,P11,ht11,hc11⟩:=T.tb_change_of;have A11:aY l.prog w K mg base 7 "change_of" 2 wW:=(F11.okM X G Vi ht11 (fun _=>zaM (k:=6) T ht11 hc11 hB A10.up) :);have A38:h_ l.prog w K mg base 5 gk 2 rO:=(yh.ok Vw (zar (k:=4) T A37.up) :);obtain⟨c12,P12,ht12,hc12⟩:=T.tb_pairer_of;have A12:aY l.prog w K mg base 8 "pairer_of" 1 rN:=(F12.okM X G Vv ht12 (fun _=>zaN (k:=7) T ht12 hc12 hB A11.up) :);have A13:aY l.prog w K mg base 1 "item_of" 1 wX:=(F13.ok X G Vs (fun _=>zby (k:=0) T) :);have A36:nW l.prog w K mg base 1 "Station" "__init__" 2 yD:=(D36.ok (b:=HW) T.cl_Station.mg UL (zaa (k:=0) T) :);have A26:mz l.prog w K mg base 9 C.JoinStation 2 wQ:=⟨_,_,_,D26.M,gO (b:=Dk) D26.F UW (by decide) (zai (k:=8) T A12.up A36.up),D26.b⟩;have A14:aY l.prog w K mg base 11 "station_of" 1 yK:=(F14.ok X G Vz (fun _=>zaE (k:=10) (k0:=9) T rfl A26.up) :);have A15:aY l.prog w K mg base 1 "_law_whole" 1 mG:=(F15.ok X G Vg (fun _=>zbW (k:=0) T) :);have A16:aY l.prog w K mg base 1 "_law_cell_at" 2 tX:=(F16.ok X G Va (fun _=>za3 (k:=0) T) :);have A17:aY l.prog w K mg base 1 "_law_words" 1 Ab:=(F17.ok X G Vh (fun _=>zbP (k:=0) T) :);have A18:aY l.prog w K mg base 1 "_law_made" 4 yG:=(F18.ok X G Ve (fun _=>zdb (k:=0) T) :);have A19:aY l.prog w K mg base 1 "_law_keys" 1 Aa:=(F19.ok X G Vc (fun _=>zcz (k:=0) T) :);have A20:aY l.prog w K mg base 2 "_law_pairs" 5 tY:=(F20.ok X G Vf (fun _=>zb6 (k:=1) T A18.up) :);have A21:aY l.prog w K mg base 2 "_law_kinds" 1 yF:=(F21.ok X G Vd (fun _=>zbT (k:=1) T A15.up) :);have A30:cV l.prog w K mg base 1 C.JoinStation "all_kept" 1 tW:=⟨_,_,_,D30.M,gO (b:=Dl) D30.F U0 (by decide) (zaj (k:=0) T),D30.b⟩;have A35:cV l.prog w K mg base 2 C.JoinStation "state" 1 wU:=⟨_,_,_,D35.M,gO (b:=Dr) D35.F U6 (by decide) (zao (k:=1) T A30.up),D35.b⟩;have A22:aY l.prog w K mg base 3 "_law_kept" 4 yE:=(F22.ok X G Vb (fun _=>zc4 (k:=2) T A15.up A35.up) :);have A31:cV l.prog w K mg base 1 C.JoinStation "low" 1 j5:=⟨_,_,_,D31.M,gO (b:=Dq) D31.F U5 (by decide) (zas (k:=0) T),D31.b⟩;have A27:cV l.prog w K mg base 6 C.JoinStation "take_thing" 3 rD:=⟨_,_,_,D27.M,gO (b:=Ds) D27.F U9 (by decide) (zad (k:=5) T A13.up A38.up),D27.b⟩;have A29:cV l.prog w K mg base 1 C.JoinStation "left_at" 3 lK:=⟨_,_,_,D29.M,gO (b:=Dp) D29.F U4 (by decide) (zal (k:=0) T),D29.b⟩;have A28:cV l.prog w K mg base 2 C.JoinStation "close_at" 2 wR:=⟨_,_,_,D28.M,gO (b:=Dm) D28.F U3 (by decide) (zah (k:=1) T A29.up),D28.b⟩;have A34:cV l.prog w K mg base 3 C.JoinStation "tell_low" 2 wV:=⟨_,_,_,D34.M,gO (b:=Dt) D34.F U_ (by decide) (zak (k:=2) T A13.up A28.up),D34.b⟩;have A33:cV l.prog w K mg base 4 C.JoinStation "take_mark" 3 pD:=⟨_,_,_,D33.M,gO (b:=yr) D33.F U8 (by decide) (zaf (k:=3) T A31.up A34.up),D33.b⟩;have A32:cV l.prog w K mg base 7 C.JoinStation "take_in" 3 fU:=⟨_,_,_,D32.M,gO (b:=zQ) D32.F U7 (by decide) (zam (k:=6) T A27.up A33.up),D32.b⟩;exact gO (b:=Dw) D23.F Vt (by decide) (zhm (k:=11) T A14.up A16.up A17.up A19.up A20.up A21.up A22.up A31.up A32.up)
theorem all_mk {l:W.OpenLaw}{w:World}{K:W.Frag}{h:Heap}{mg:Mgx}{fa:Addr}(X:K.In h)(G:h.Ns mainGlobals mg)(hfa:mg "law"=some (.ref fa))
  (j6:W.nsIn K mainGlobals "Expr"=some (some (.ref j7)))
  (j8:W.nsIn K mainGlobals "JoinStation"=some (some (.ref j9)))
  (jc:W.nsIn K mainGlobals "Station"=some (some (.ref jd)))
  (je:W.nsIn K mainGlobals "DamError"=some (some (.ref jf)))
  (jg:W.nsIn K mainGlobals "NoExpr"=some (some (.ref jh)))
  (ji:W.plainGet K j7 Str.empty=true) (jm:W.hasDictIn K j7=true) (jo:W.plainOver K j7=true) (jq:W.findIn K (.ref j7) "__setattr__"=some (some (.builtin "object.__setattr__")))
  (jr:W.plainGet K j9 Str.empty=true) (jt:W.hasDictIn K j9=true) (ju:W.plainOver K j9=true) (jw:W.findIn K (.ref j9) "__setattr__"=some (some (.builtin "object.__setattr__")))
  (jy:W.plainGet K jd Str.empty=true) (jz:W.hasDictIn K jd=true) (jA:W.plainOver K jd=true) (jB:W.findIn K (.ref jd) "__setattr__"=some (some (.builtin "object.__setattr__")))
  (jC:W.findIn K (.ref j9) "kept"=some none)
  (jD:W.findIn K (.ref j9) "marks"=some none)
  (jE:W.findIn K (.ref j9) "pair"=some none)
  (jF:W.findIn K (.ref j7) "parts"=some none)
  (jG:W.findIn K (.ref j9) "span"=some none)
  (jH:d7 K jf=true)
  (jJ:d7 K jh=true)
  (jK:tD K "change_of"=true)
  (jM:tD K "pairer_of"=true)
  (jN:C_ K jh=true) (jO:W.keepIn K (.ref jh)=true) (jP:G8 K jh=true)
  (F0:bx K "is_figures" Gk)
  (F1:bx K "is_signed_figures" Gp)
  (F2:bx K "is_number" Gn)
  (F3:bx K "held" Gj)
  (F4:bx K "is_leaf" Gm)
  (F5:bx K "take_needed" Gy)
  (F6:bx K "check_words" Gh)
  (F7:bx K "combined" Gi)
  (F8:bx K "leaf_value" Gs)
  (F9:bx K "reckoned" Gw)
  (F10:bx K "read_expr" Gv)
  (F11:bx K "change_of" Ce)
  (F12:bx K "pairer_of" za)
  (F13:bx K "item_of" Gq)
  (F14:bx K "station_of" Gx)
  (F15:bx K "_law_whole" Gf)
  (F16:bx K "_law_cell_at" FW)
  (F17:bx K "_law_words" Gg)
  (F18:bx K "_law_made" Gd)
  (F19:bx K "_law_keys" Ga)
  (F20:bx K "_law_pairs" Ge)
  (F21:bx K "_law_kinds" Gb)
  (F22:bx K "_law_kept" FZ)
  (a23:W.nsIn K mainGlobals "law"=some (some (.ref f23))) (l23:K.lookup f23=some ⟨oc23,od23,.func (W.fnOf "law" "law" (b_ nJ) (bJ nJ) (aJ nJ) .none kV23 dc23 pm23 an23 cd23 ct23),sl23⟩) (c23:W.codeIn K cd23 "law"=true) (k23:W.keepIn K (.ref f23)=true)
  (a24:W.findIn K (.ref j7) "__init__"=some (some (.ref f24))) (l24:K.lookup f24=some ⟨oc24,od24,.func (W.fnOf "__init__" "Expr.__init__" (b_ vo) (bJ vo) (aJ vo) .none kV24 dc24 pm24 an24 cd24 ct24),sl24⟩) (c24:W.codeIn K cd24 "Expr.__init__"=true) (k24:W.keepIn K (.ref f24)=true)
  (n24:W.isFn K (.ref f24)=true)
  (w24:W.makesIn K j7=true) (y24:W.keepIn K (.ref j7)=true)
  (a25:W.findIn K (.ref j7) "value"=some (some (.ref f25))) (l25:K.lookup f25=some ⟨oc25,od25,.func (W.fnOf "value" "Expr.value" (b_ xR) (bJ xR) (aJ xR) (.ref tt25) kV25 dc25 pm25 an25 cd25 ct25),sl25⟩) (c25:W.codeIn K cd25 "Expr.value"=true) (k25:W.keepIn K (.ref f25)=true)
  (q25:K.lookup tt25=some ⟨ot25,td25,.seq #[(Value.int 0 tk25_0)] tn25,ts25⟩)
  (n25:W.isFn K (.ref f25)=true)
  (a26:W.findIn K (.ref j9) "__init__"=some (some (.ref f26))) (l26:K.lookup f26=some ⟨oc26,od26,.func (W.fnOf "__init__" "JoinStation.__init__" (b_ vq) (bJ vq) (aJ vq) .none kV26 dc26 pm26 an26 cd26 ct26),sl26⟩) (c26:W.codeIn K cd26 "JoinStation.__init__"=true) (k26:W.keepIn K (.ref f26)=true)
  (n26:W.isFn K (.ref f26)=true)
  (w26:W.makesIn K j9=true) (y26:W.keepIn K (.ref j9)=true)
  (a27:W.findIn K (.ref j9) "take_thing"=some (some (.ref f27))) (l27:K.lookup f27=some ⟨oc27,od27,.func (W.fnOf "take_thing" "JoinStation.take_thing" (b_ wC) (bJ wC) (aJ wC) .none kV27 dc27 pm27 an27 cd27 ct27),sl27⟩) (c27:W.codeIn K cd27 "JoinStation.take_thing"=true) (k27:W.keepIn K (.ref f27)=true)
  (n27:W.isFn K (.ref f27)=true)
  (a28:W.findIn K (.ref j9) "close_at"=some (some (.ref f28))) (l28:K.lookup f28=some ⟨oc28,od28,.func (W.fnOf "close_at" "JoinStation.close_at" (b_ wg) (bJ wg) (aJ wg) .none kV28 dc28 pm28 an28 cd28 ct28),sl28⟩) (c28:W.codeIn K cd28 "JoinStation.close_at"=true) (k28:W.keepIn K (.ref f28)=true)
  (n28:W.isFn K (.ref f28)=true)
  (a29:W.findIn K (.ref j9) "left_at"=some (some (.ref f29))) (l29:K.lookup f29=some ⟨oc29,od29,.func (W.fnOf "left_at" "JoinStation.left_at" (b_ wj) (bJ wj) (aJ wj) .none kV29 dc29 pm29 an29 cd29 ct29),sl29⟩) (c29:W.codeIn K cd29 "JoinStation.left_at"=true) (k29:W.keepIn K (.ref f29)=true)
  (n29:W.isFn K (.ref f29)=true)
  (a30:W.findIn K (.ref j9) "all_kept"=some (some (.ref f30))) (l30:K.lookup f30=some ⟨oc30,od30,.func (W.fnOf "all_kept" "JoinStation.all_kept" (b_ sU) (bJ sU) (aJ sU) .none kV30 dc30 pm30 an30 cd30 ct30),sl30⟩) (c30:W.codeIn K cd30 "JoinStation.all_kept"=true) (k30:W.keepIn K (.ref f30)=true)
  (n30:W.isFn K (.ref f30)=true)
  (a31:W.findIn K (.ref j9) "low"=some (some (.ref f31))) (l31:K.lookup f31=some ⟨oc31,od31,.func (W.fnOf "low" "Station.low" (b_ wu) (bJ wu) (aJ wu) .none kV31 dc31 pm31 an31 cd31 ct31),sl31⟩) (c31:W.codeIn K cd31 "Station.low"=true) (k31:W.keepIn K (.ref f31)=true)
  (n31:W.isFn K (.ref f31)=true)
  (a32:W.findIn K (.ref j9) "take_in"=some (some (.ref f32))) (l32:K.lookup f32=some ⟨oc32,od32,.func (W.fnOf "take_in" "Station.take_in" (b_ wA) (bJ wA) (aJ wA) .none kV32 dc32 pm32 an32 cd32 ct32),sl32⟩) (c32:W.codeIn K cd32 "Station.take_in"=true) (k32:W.keepIn K (.ref f32)=true)
  (n32:W.isFn K (.ref f32)=true)
  (a33:W.findIn K (.ref j9) "take_mark"=some (some (.ref f33))) (l33:K.lookup f33=some ⟨oc33,od33,.func (W.fnOf "take_mark" "Station.take_mark" (b_ wB) (bJ wB) (aJ wB) .none kV33 dc33 pm33 an33 cd33 ct33),sl33⟩) (c33:W.codeIn K cd33 "Station.take_mark"=true) (k33:W.keepIn K (.ref f33)=true)
  (n33:W.isFn K (.ref f33)=true)
  (a34:W.findIn K (.ref j9) "tell_low"=some (some (.ref f34))) (l34:K.lookup f34=some ⟨oc34,od34,.func (W.fnOf "tell_low" "Station.tell_low" (b_ wD) (bJ wD) (aJ wD) .none kV34 dc34 pm34 an34 cd34 ct34),sl34⟩) (c34:W.codeIn K cd34 "Station.tell_low"=true) (k34:W.keepIn K (.ref f34)=true)
  (n34:W.isFn K (.ref f34)=true)
  (a35:W.findIn K (.ref j9) "state"=some (some (.ref f35))) (l35:K.lookup f35=some ⟨oc35,od35,.func (W.fnOf "state" "Station.state" (b_ wz) (bJ wz) (aJ wz) .none kV35 dc35 pm35 an35 cd35 ct35),sl35⟩) (c35:W.codeIn K cd35 "Station.state"=true) (k35:W.keepIn K (.ref f35)=true)
  (n35:W.isFn K (.ref f35)=true)
  (a36:W.findIn K (.ref jd) "__init__"=some (some (.ref f36))) (l36:K.lookup f36=some ⟨oc36,od36,.func (W.fnOf "__init__" "Station.__init__" (b_ vp) (bJ vp) (aJ vp) .none kV36 dc36 pm36 an36 cd36 ct36),sl36⟩) (c36:W.codeIn K cd36 "Station.__init__"=true) (k36:W.keepIn K (.ref f36)=true)
  (jQ:lC K jd f36 "__init__"=true)
  (jR:W.nsIn K mainGlobals "any"=some none)
  (jT:W.nsIn K mainGlobals "len"=some none)
  (jU:W.nsIn K mainGlobals "min"=some none)
  (jV:W.nsIn K mainGlobals "max"=some none)
  (jW:W.nsIn K mainGlobals "range"=some none)
  (jX:W.nsIn K mainGlobals "reversed"=some none)
  (jY:W.nsIn K mainGlobals "int"=some none)
  (jZ:W.nsIn K mainGlobals "isinstance"=some none)
  (qb:W.nsIn K mainGlobals "bool"=some none)
  (qe:W.nsIn K mainGlobals "abs"=some none)
  (qg:W.nsIn K mainGlobals "sorted"=some none)
  (qj:W.nsIn K mainGlobals "tuple"=some none)
  (ql:W.nsIn K mainGlobals "list"=some none)
  (qm:W.nsIn K mainGlobals "str"=some none)
  (qt:W.nsIn K mainGlobals "ALL_LETTERS"=some (some (.ref qu))) (qw:K.lookup qu=some ⟨.type "tuple",qx,.seq #[.str "t" qy,.str "v" qz,.str "w" qC] qD,qF⟩)
  (qG:W.nsIn K mainGlobals "NEEDS"=some (some (.ref qH)))
  (qI:K.lookup qH=some ⟨.type "dict",none,.dict #[⟨qJ,.str "+" qK,.ref qL⟩,⟨qM,.str "-" qN,.ref qO⟩,⟨qP,.str "*" qQ,.ref qR⟩,⟨qT,.str "least" qU,.ref qW⟩,⟨qX,.str "most" qY,.ref qZ⟩,⟨o7,.str "<" o8,.ref o9⟩,⟨oh,.str "=" ou,.ref oA⟩,⟨oE,.str "not" oF,.ref oG⟩,⟨oH,.str "and" oJ,.ref oK⟩,⟨oM,.str "or" oN,.ref oO⟩] oR, #[]⟩) (oU:(qH==sysModules)=false)
  (oV:qJ=hashStr w "+")
  (oW:K.lookup qL=some ⟨.type "tuple",oX,.seq #[.str "number" oY,.str "number" oZ,.int 2 iy] iz,iC⟩)
  (iD:qM=hashStr w "-")
  (iG:K.lookup qO=some ⟨.type "tuple",iH,.seq #[.str "number" iI,.str "number" iJ,.int 2 iK] iM,iQ⟩)
  (iR:qP=hashStr w "*")
  (iT:K.lookup qR=some ⟨.type "tuple",iU,.seq #[.str "number" iV,.str "number" iW,.int 2 iY] iZ,u9⟩)
  (ud:qT=hashStr w "least")
  (uf:K.lookup qW=some ⟨.type "tuple",ug,.seq #[.str "number" uh,.str "number" uo,.int 2 uw] ux,uy⟩)
  (uz:qX=hashStr w "most")
  (uD:K.lookup qZ=some ⟨.type "tuple",uE,.seq #[.str "number" uF,.str "number" uG,.int 2 uH] uI,uJ⟩)
  (uK:o7=hashStr w "<")
  (uL:K.lookup o9=some ⟨.type "tuple",uM,.seq #[.str "truth" uN,.str "number" uO,.int 2 uP] uQ,uR⟩)
  (uT:oh=hashStr w "=")
  (uU:K.lookup oA=some ⟨.type "tuple",uV,.seq #[.str "truth" uW,.str "number" uX,.int 2 uY] uZ,v7⟩)
  (v8:oE=hashStr w "not")
  (v9:K.lookup oG=some ⟨.type "tuple",vA,.seq #[.str "truth" vB,.str "truth" vC,.int 1 vD] vG,vH⟩)
  (vI:oH=hashStr w "and")
  (vJ:K.lookup oK=some ⟨.type "tuple",vK,.seq #[.str "truth" vL,.str "truth" vM,.int 2 vN] vO,vP⟩)
  (vQ:oM=hashStr w "or")
  (vR:K.lookup oO=some ⟨.type "tuple",vU,.seq #[.str "truth" vV,.str "truth" vW,.int 2 vX] vY,vZ⟩)
  (rA:W.nsIn K mainGlobals "FIGURES"=some (some (.str "0123456789" rB)))
  (rC:W.nsIn K mainGlobals "MOST_FIGURES"=some (some (.int 20 rE)))
  (rF:W.nsIn K mainGlobals "MOST_VALUE"=some (some (.int 1000000000000000000000000000000000000000000000000000000000000 rG)))
  (rH:W.nsIn K mainGlobals "LETTERS"=some (some (.str "abcdefghijklmnopqrstuvwxyz" rJ)))
  (rK:W.nsIn K mainGlobals "COND_LETTERS"=some (some (.str "tv" rM)))
  :∃fd:FuncData,(∀(s:Shared) (v:Value),BindsTo s fd ⟨[v],[]⟩ [("_law_script",v)])/\∀base:Heap,K.In base->base.Ns mainGlobals mg->mC mg base->FnOk l.prog w K mg base fO w5 fa fd ["_law_script"] (GR K m_):=by
 have e:=hfa.symm.trans (xbN X G a23);cases e;have T:Txt (w:=w) K mg ⟨j7,j9,jd,jf,jh⟩:=⟨by simp only[zR,xaJ,xdC,or_false,forall_eq_or_imp,forall_eq];exact⟨xba X G jR,xba X G jT,xba X G jU,xba X G jV,xba X G jW,xba X G jX,xba X G jY,xba X G jZ,xba X G qb,xba X G qe,xba X G qg,xba X G qj,xba X G ql,xba X G qm⟩,⟨xbN X G j6,ji,jm,jo,jq⟩,⟨xbN X G j8,jr,jt,ju,jw⟩,⟨xbN X G jc,jy,jz,jA,jB⟩,jC,jD,jE,jF,jG,xbN X G je,jH,xbN X G jg,jJ,WL jK,WL jM,jN,jO,jP,⟨_,xbN X G qt,Rx (vs:=[(.str "t"),(.str "v"),(.str "w")]) (its:= #[.str "t" _,.str "v" _,.str "w" _]) (o:=⟨.type "tuple",_,.seq #[.str "t" _,.str "v" _,.str "w" _] _,_⟩) qw rfl rfl (by show 3<=sizeLine;decide) (.cons ⟨_,rfl⟩ (.cons ⟨_,rfl⟩ (.cons ⟨_,rfl⟩ (.nil)))) (fun _ _=>⟨_,_,rfl,rfl,⟨_,_,rfl,rfl,⟨_,_,rfl,rfl,rfl⟩⟩⟩)⟩,⟨_,xbN X G qG,_,_,_,_,qI,⟨rfl,rfl,rfl⟩,rfl,.cons (v:=.ref qL) oV rfl (pF oW) (.cons (v:=.ref qO) iD rfl (pF iG) (.cons (v:=.ref qR) iR rfl (pF iT) (.cons (v:=.ref qW) ud rfl (pF uf) (.cons (v:=.ref qZ) uz rfl (pF uD) (.cons (v:=.ref o9) uK rfl (pF uL) (.cons (v:=.ref oA) uT rfl (pF uU) (.cons (v:=.ref oG) v8 rfl (pF v9) (.cons (v:=.ref oK) vI rfl (pF vJ) (.cons (v:=.ref oO) vQ rfl (pF vR) (.nil)))))))))),by x_go,oU⟩,⟨_,xbN X G rA⟩,⟨_,xbN X G rC⟩,⟨_,xbN X G rF⟩,⟨_,xbN X G rH⟩,⟨_,xbN X G rK⟩⟩;have D23:DefAt K mg "law" nJ ["_law_script"] _ _:=⟨xbN X G a23,gP l23 c23 k23,(j4 (st:=nJ) l23 c23 k23).binds (ps:=["_law_script"]) fun _ _ _ _ _ _ us hl=>match us,hl with | [_],_=>rfl⟩
 have D24:IniAt K j7 "Expr.__init__" vo ["self","words"] _ _:=⟨⟨w24,a24,n24,y24⟩,gP l24 c24 k24,(j4 (st:=vo) l24 c24 k24).binds (ps:=["self","words"]) fun _ _ _ _ _ _ us hl=>match us,hl with | [_,_],_=>rfl⟩
 have D25:MetAtD K j7 "value" "Expr.value" xR ["self","time","value","other"] [(.int 0)] _ _:=⟨⟨a25,n25,k25⟩,gP l25 c25 k25,fun s us hK hl=>by(rcases us with _ |⟨_,_ |⟨_,_ |⟨_,_ |⟨_,_ |⟨_,us⟩⟩⟩⟩⟩<;>first |exact W.binds_K hK rfl q25 rfl rfl rfl |(exfalso;simp at hl;done)),[V.int 0],[(Value.int 0 tk25_0)],fun s us hK hl=>by(rcases us with _ |⟨_,_ |⟨_,_ |⟨_,_ |⟨_,us⟩⟩⟩⟩<;>first |exact W.binds_K hK rfl q25 rfl rfl rfl |(exfalso;simp at hl;done)),.cons ⟨_,rfl⟩ (.nil),fun _ _=>⟨_,_,rfl,rfl,rfl⟩,rfl⟩
 have D26:IniAt K j9 "JoinStation.__init__" vq ["self","row"] _ _:=⟨⟨w26,a26,n26,y26⟩,gP l26 c26 k26,(j4 (st:=vq) l26 c26 k26).binds (ps:=["self","row"]) fun _ _ _ _ _ _ us hl=>match us,hl with | [_,_],_=>rfl⟩
 have D27:MetAt K j9 "take_thing" "JoinStation.take_thing" wC ["self","way","thing"] _ _:=⟨⟨a27,n27,k27⟩,gP l27 c27 k27,(j4 (st:=wC) l27 c27 k27).binds (ps:=["self","way","thing"]) fun _ _ _ _ _ _ us hl=>match us,hl with | [_,_,_],_=>rfl⟩
 have D28:MetAt K j9 "close_at" "JoinStation.close_at" wg ["self","low"] _ _:=⟨⟨a28,n28,k28⟩,gP l28 c28 k28,(j4 (st:=wg) l28 c28 k28).binds (ps:=["self","low"]) fun _ _ _ _ _ _ us hl=>match us,hl with | [_,_],_=>rfl⟩
 have D29:MetAt K j9 "left_at" "JoinStation.left_at" wj ["self","low","kept"] _ _:=⟨⟨a29,n29,k29⟩,gP l29 c29 k29,(j4 (st:=wj) l29 c29 k29).binds (ps:=["self","low","kept"]) fun _ _ _ _ _ _ us hl=>match us,hl with | [_,_,_],_=>rfl⟩
 have D30:MetAt K j9 "all_kept" "JoinStation.all_kept" sU ["self"] _ _:=⟨⟨a30,n30,k30⟩,gP l30 c30 k30,(j4 (st:=sU) l30 c30 k30).binds (ps:=["self"]) fun _ _ _ _ _ _ us hl=>match us,hl with | [_],_=>rfl⟩
 have D31:MetAt K j9 "low" "Station.low" wu ["self"] _ _:=⟨⟨a31,n31,k31⟩,gP l31 c31 k31,(j4 (st:=wu) l31 c31 k31).binds (ps:=["self"]) fun _ _ _ _ _ _ us hl=>match us,hl with | [_],_=>rfl⟩
 have D32:MetAt K j9 "take_in" "Station.take_in" wA ["self","way","item"] _ _:=⟨⟨a32,n32,k32⟩,gP l32 c32 k32,(j4 (st:=wA) l32 c32 k32).binds (ps:=["self","way","item"]) fun _ _ _ _ _ _ us hl=>match us,hl with | [_,_,_],_=>rfl⟩
 have D33:MetAt K j9 "take_mark" "Station.take_mark" wB ["self","way","mark"] _ _:=⟨⟨a33,n33,k33⟩,gP l33 c33 k33,(j4 (st:=wB) l33 c33 k33).binds (ps:=["self","way","mark"]) fun _ _ _ _ _ _ us hl=>match us,hl with | [_,_,_],_=>rfl⟩
 have D34:MetAt K j9 "tell_low" "Station.tell_low" wD ["self","low"] _ _:=⟨⟨a34,n34,k34⟩,gP l34 c34 k34,(j4 (st:=wD) l34 c34 k34).binds (ps:=["self","low"]) fun _ _ _ _ _ _ us hl=>match us,hl with | [_,_],_=>rfl⟩
 have D35:MetAt K j9 "state" "Station.state" wz ["self"] _ _:=⟨⟨a35,n35,k35⟩,gP l35 c35 k35,(j4 (st:=wz) l35 c35 k35).binds (ps:=["self"]) fun _ _ _ _ _ _ us hl=>match us,hl with | [_],_=>rfl⟩
 have D36:BasAt K jd "Station.__init__" vp ["self","row"] _ _:=⟨jQ,gP l36 c36 k36,(j4 (st:=vp) l36 c36 k36).binds (ps:=["self","row"]) fun _ _ _ _ _ _ us hl=>match us,hl with | [_,_],_=>rfl⟩
 refine⟨W.fnOf "law" "law" (b_ nJ) (bJ nJ) (aJ nJ) .none kV23 dc23 pm23 an23 cd23 ct23,fun s v=>.of_eq rfl,fun base _ _ hB=>Y6 ?_⟩;exact Z7 X G T hB F0 F1 F2 F3 F4 F5 F6 F7 F8 F9 F10 F11 F12 F13 F14 F15 F16 F17 F18 F19 F20 F21 F22 D23 D24 D25 D26 D27 D28 D29 D30 D31 D32 D33 D34 D35 D36
end My
open PySem PySem.W PyProof.Rows
set_option maxRecDepth 100000 in
set_option maxHeartbeats 0 in
theorem PySem.Challenge.cw_rowdam_k45_joins_holds : PySem.Challenge.rw_rowdam_k45_joins.Holds := by
 w_on;refine HQ.two "special-get-raises" My.he My.hAf My.hBf My.hAt My.hBt ?_
 k_fill
 refine E3.zbV (T:=My.tabs) (l:=PySem.Challenge.rw_rowdam_k45_joins) (k:=My.w5) (g:=My.m_) (x:="_law_script") rfl rfl ⟨rfl,by decide,by decide⟩ (fun w h Y=>by first |exact PySem.W.kIn_of Y |exact PySem.W.km_in_of Y) (fun w h Y=>by refine⟨_,?_,PySem.W.km_tabs_of Y⟩;kernel_rfl) ?F My.Z6
 case F=>
  intro w mg fa h KX G hmg
  refine' My.all_mk KX G hmg ?j6 ?j8 ?jc ?je ?jg ?ji ?jm ?jo ?jq ?jr ?jt ?ju ?jw ?jy ?jz ?jA ?jB ?jC ?jD ?jE ?jF ?jG ?jH ?jJ ?jK ?jM ?jN ?jO ?jP ?F0 ?F1 ?F2 ?F3 ?F4 ?F5 ?F6 ?F7 ?F8 ?F9 ?F10 ?F11 ?F12 ?F13 ?F14 ?F15 ?F16 ?F17 ?F18 ?F19 ?F20 ?F21 ?F22 ?a23 ?l23 ?c23 ?k23 ?a24 ?l24 ?c24 ?k24 ?n24 ?w24 ?y24 ?q25 ?a25 ?l25 ?c25 ?k25 ?n25 ?a26 ?l26 ?c26 ?k26 ?n26 ?w26 ?y26 ?a27 ?l27 ?c27 ?k27 ?n27 ?a28 ?l28 ?c28 ?k28 ?n28 ?a29 ?l29 ?c29 ?k29 ?n29 ?a30 ?l30 ?c30 ?k30 ?n30 ?a31 ?l31 ?c31 ?k31 ?n31 ?a32 ?l32 ?c32 ?k32 ?n32 ?a33 ?l33 ?c33 ?k33 ?n33 ?a34 ?l34 ?c34 ?k34 ?n34 ?a35 ?l35 ?c35 ?k35 ?n35 ?a36 ?l36 ?c36 ?k36 ?jQ ?jR ?jT ?jU ?jV ?jW ?jX ?jY ?jZ ?qb ?qe ?qg ?qj ?ql ?qm ?qt ?qw ?qG ?qI ?oU ?oV ?oW ?iD ?iG ?iR ?iT ?ud ?uf ?uz ?uD ?uK ?uL ?uT ?uU ?v8 ?v9 ?vI ?vJ ?vQ ?vR ?rA ?rC ?rF ?rH ?rK
  (case j6 |j8 |jc |je |jg |ji |jm |jo |jq |jr |jt |ju |jw |jy |jz |jA |jB |jC |jD |jE |jF |jG=>k_is);(case jH |jJ |jK |jM |jN=>kernel_rfl);(case jO=>k_is);(case jP=>refine E3.zeh (E3.zff ?_ ?_ ?_) ?_ ?_ ?_ ?_ ?_<;>k_is);(case a23 |l23 |c23 |k23 |a24 |l24 |c24 |k24=>k_is);(case n24 |w24=>kernel_rfl);(case y24 |q25 |a25 |l25 |c25 |k25=>k_is);(case n25=>kernel_rfl);(case a26 |l26 |c26 |k26=>k_is);(case n26 |w26=>kernel_rfl);(case y26 |a27 |l27 |c27 |k27=>k_is);(case n27=>kernel_rfl);(case a28 |l28 |c28 |k28=>k_is);(case n28=>kernel_rfl);(case a29 |l29 |c29 |k29=>k_is);(case n29=>kernel_rfl);(case a30 |l30 |c30 |k30=>k_is);(case n30=>kernel_rfl);(case a31 |l31 |c31 |k31=>k_is);(case n31=>kernel_rfl);(case a32 |l32 |c32 |k32=>k_is);(case n32=>kernel_rfl);(case a33 |l33 |c33 |k33=>k_is);(case n33=>kernel_rfl);(case a34 |l34 |c34 |k34=>k_is);(case n34=>kernel_rfl);(case a35 |l35 |c35 |k35=>k_is);(case n35=>kernel_rfl);(case a36 |l36 |c36 |k36=>k_is);(case jQ=>kernel_rfl);(case jR |jT |jU |jV |jW |jX |jY |jZ |qb |qe |qg |qj |ql |qm |qt |qw |qG |qI=>k_is);(case oU=>first |decide +kernel |kernel_rfl);(case oV=>rfl);(case oW=>k_is);(case iD=>rfl);(case iG=>k_is);(case iR=>rfl);(case iT=>k_is);(case ud=>rfl);(case uf=>k_is);(case uz=>rfl);(case uD=>k_is);(case uK=>rfl);(case uL=>k_is);(case uT=>rfl);(case uU=>k_is);(case v8=>rfl);(case v9=>k_is);(case vI=>rfl);(case vJ=>k_is);(case vQ=>rfl);(case vR |rA |rC |rF |rH |rK=>k_is);all_goals (refine' E3.bx.mk ?a ?l ?c ?k;(case a=>k_is);(case l=>k_is);(case c=>k_is);(case k=>k_is))
