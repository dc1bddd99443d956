import PyProof.Rows.All
import Wide.All
import OpenK.AllK
import Wide.FinOn
import Lean
import PyProof.EqAt
import PyProof.EqKinds
import PyProof.TupleCall
import KE.KIsAll
import KE.KMinKey
import KE.KTupSum
import KE.KxSplit
import KE.KxAffix
import KE.KIntText
import PyProof.NeKinds
import PyProof.Rows.EqBoolInt
import KE.KSortTup
import KE.KDictLaws
import KE.KNestM
import PyProof.Conv_int_bool
import PySem.Challenge.RW_rowdam_k29_pairs_told
noncomputable section
set_option Elab.async false
set_option linter.all false
set_option compiler.extract_closed false
set_option maxRecDepth 100000
def tG:=@PySem.wpAny_bind
def xaa:=@PySem.Heap.get?_push_of_some
def xab:=@if_pos
def xac:=@PySem.wpAny_pure
def xad:=@Option.map_eq_some_iff
def xae:=@List.size_toArray
def xaf:=@Nat.lt_of_lt_of_le
def xag:=@List.getElem?_eq_getElem
def xah:=@Nat.le_refl
def xai:=@if_neg
def xaj:=@PySem.Heap.lt_size
def xak:=@List.getElem?_eq_some_iff
def xal:=@PySem.Heap.get?_push_size
def xam:=@Bool.and_eq_true
def xan:=@List.getElem?_map
theorem xao:type_of%@List.length_cons:=by intros;rfl
def xap:=@List.length_append
def xaq:=@Nat.ne_of_lt
def xar:=@List.length_map
def xas:=@Bool.false_ne_true
def xat:=@List.mem_cons_of_mem
def xau:=@List.mem_of_getElem?
def xav:=@List.mem_cons
def xaw:=@Nat.le_trans
def xax:=@List.append_nil
def xay:=@Option.some.inj
def xaz:=@List.getElem?_append_left
def xaA:=@List.mem_append_right
def xaB:=@List.getElem?_append_right
def xaC:=@List.getD_eq_getElem?_getD
def xaD:=@PySem.wpAny_field
def xaE:=@List.length_reverse
def xaF:=@Bool.eq_iff_iff
def xaG:=@PySem.wpAny_newObj_type
def xaH:=@PySem.W.kia_one
def xaI:=@List.length_set
def xaJ:=@List.map_cons
def xaK:=@List.append_assoc
def xaL:=@decide_eq_true_eq
def xaM:=@Nat.lt_or_ge
def xaN:=@PySem.wpAny_mono
def xaO:=@List.mem_cons_self
def xaP:=@PySem.sizeLine_eq
def xaQ:=@beq_eq_false_iff_ne
def xaR:=@PySem.mem_of_lookup
def xaS:=@List.getElem?_replicate
theorem xaT:type_of%@Option.map_some:=by intros;rfl
def xaU:=@PySem.Obj.data_mapFields
def xaV:=@PySem.W.mg_none_of
def xaW:=@PySem.Heap.get?_update_other
def xaX:=@List.all_eq_true
theorem xaY:type_of%@Array.length_toList:=by intros;rfl
def xaZ:=@List.getElem?_set
def xa0:=@Nat.le_of_lt_succ
def xa2:=@Nat.lt_irrefl
def xa3:=@Nat.le_antisymm
def xa4:=@Bool.false_eq_true
def xa5:=@beq_self_eq_true
def xa6:=@List.drop_eq_getElem_cons
def xa7:=@List.getElem?_eq_none
def xa8:=@Nat.zero_le
def xa9:=@PySem.Heap.size_push
def xba:=@if_true
def xbb:=@PySem.wpAny_truthy_bool
def xbc:=@List.reverse_cons
def xbd:=@List.mem_append
def xbe:=@PyProof.Rows.callWith_type1
def xbf:=@Array.getD_eq_getD_getElem?
def xbg:=@beq_iff_eq
def xbh:=@Array.getElem?_eq_some_iff
def xbi:=@PySem.wpAny_call_entry
def xbj:=@List.not_mem_nil
def xbk:=@List.length_replicate
def xbl:=@decide_eq_false
def xbm:=@List.nodup_cons
def xbn:=@List.mem_map
def xbo:=@PySem.PassesOwn.never
theorem xbp:type_of%@List.nil_append:=by intros;rfl
def xbq:=@decide_false
theorem xbr:type_of%@List.all_cons:=by intros;rfl
def xbs:=@PySem.wpAny_callSpecial?_slot
def xbt:=@Nat.lt_succ_self
theorem xbu:type_of%@List.lookup_cons:=by intros;rfl
theorem xbv:type_of%@List.cons_append:=by intros;rfl
def xbw:=@Nat.le_succ
def xbx:=@PySem.wpAny_Call_Name_kw
def xby:=@List.mem_singleton
def xbz:=@PySem.wpAny_setField_rec
def xbA:=@Int.emod_lt_of_pos
def xbB:=@Ne.symm
def xbC:=@PySem.wpAny_holding
def xbD:=@of_decide_eq_true
def xbE:=@List.flatMap_cons
def xbF:=@List.getElem?_eq_none_iff
def xbG:=@List.length_take
def xbH:=@List.getElem_mem
def xbI:=@List.drop_length
def xbJ:=@Nat.le_add_right
theorem xbK:type_of%@List.reverse_nil:=by intros;rfl
def xbL:=@PyProof.Rows.slot_tuple_getitem
def xbM:=@PySem.wpAny_getItem_str_slice
def xbN:=@PySem.F.plainAttrs_list
def xbO:=@PySem.W.callWith_K
theorem xbP:type_of%@List.find?_cons:=by intros;rfl
def xbQ:=@Bool.or_eq_true
def xbR:=@of_decide_eq_false
def xbS:=@Int.emod_nonneg
def xbT:=@if_false
def xbU:=@List.length_range
def xbV:=@Nat.ne_of_gt
def xbW:=@PySem.codeAny_mono
theorem xbX:type_of%@List.length_singleton:=by intros;rfl
def xbY:=@decide_eq_true
def xbZ:=@PySem.wpAny_setField
def xb0:=@PySem.Obj.isFreed_of_fields
def xb1:=@PySem.Heap.get?_update_self
def xb2:=@PySem.builtinLookup_eq_fast
def xb3:=@PySem.wpAny_seqItems
def xb4:=@PySem.W.mg_of
def xb5:=@List.length_drop
theorem xb6:type_of%@Option.getD_some:=by intros;rfl
def xb7:=@Nat.pow_le_pow_right
theorem xb8:type_of%@List.any_cons:=by intros;rfl
def xb9:=@PySem.F.excBase_ValueError
def xca:=@PySem.strLen_append
def xcb:=@PySem.wpAny_of_eq
def xcc:=@List.getElem?_range
def xcd:=@PySem.Heap.SameBut.update
def xce:=@PySem.wpAny_passesOwn
def xcf:=@List.of_mem_zip
def xcg:=@List.cons.injEq
def xch:=@Nat.le_of_lt
theorem xci:type_of%@List.zip_cons_cons:=by intros;rfl
theorem xcj:type_of%@List.set_cons_succ:=by intros;rfl
theorem xck:type_of%@List.set_cons_zero:=by intros;rfl
def xcl:=@PySem.boot_len
theorem xcm:type_of%@List.getElem?_cons_succ:=by intros;rfl
def xcn:=@decide_eq_false_iff_not
def xco:=@PySem.wpAny_pyIter_list
def xcp:=@Nat.lt_succ_of_lt
def xcq:=@List.getElem?_set_self
def xcr:=@PySem.W.cellsFrom_some
def xcs:=@PySem.wpAny_nextOf_list_item
def xct:=@decide_true
def xcu:=@PySem.wpAny_standAt
def xcv:=@Bool.and_self
def xcw:=@PySem.wpAny_attempt
def xcx:=@PySem.wpAny_execs_cons
def xcy:=@List.map_reverse
def xcz:=@or_false
def xcA:=@List.flatMap_nil
def xcB:=@PySem.codeAny_call_function
def xcC:=@PySem.Heap.get?_none_of_le
def xcD:=@List.getElem?_set_ne
def xcE:=@PySem.SeqAt.EqAt.same
def xcF:=@PySem.wpAny_specialOf
def xcG:=@PySem.post_val_or_str
theorem xcH:type_of%@List.foldl_cons:=by intros;rfl
def xcI:=@PyProof.Rows.get?_update_seq
def xcJ:=@PySem.typeLookup_type
def xcK:=@PyProof.Rows.slice_closes_from
def xcL:=@PySem.wpAny_updateSeq_pair
def xcM:=@PySem.F.slot_zip_next
theorem xcN:type_of%@List.length_nil:=by intros;rfl
theorem xcO:type_of%@List.filterMap_cons:=by intros;rfl
def xcP:=@PySem.W.plainGet_of
def xcQ:=@List.mem_range
def xcR:=@Bool.and_false
def xcS:=@PySem.isSubtype_type
def xcT:=@eq_false
def xcU:=@List.lt_irrefl
def xcV:=@PySem.SeqAt.EqAt.int_str
def xcW:=@PySem.SeqAt.EqAt.str_int
def xcX:=@PyProof.Rows.slot_tuple_getitem
def xcY:=@PySem.SeqAt.EqAt.int_int
def xcZ:=@PySem.SeqAt.EqAt.str_str
def xc1:=@PySem.wpAny_newTextTuple
theorem xc2:type_of%@Option.isSome_some:=by intros;rfl
theorem xc3:type_of%@Option.isSome_none:=by intros;rfl
def xc4:=@PySem.Calls.Name_function_global
def xc5:=@PySem.wpAny_newFunctionEnv_cells
def xc6:=@PyProof.Rows.listUpdate_at
def xc7:=@PySem.wpAny_newList
def xc8:=@PySem.wpAny_onRaise
def xc9:=@PySem.W.kitx_list
def xda:=@PySem.W.kitx_dict
def xdb:=@Bool.not_eq_true'
def xdc:=@Option.some.injEq
def xdd:=@Nat.le_succ_of_le
def xde:=@List.mem_or_eq_of_mem_set
def xdf:=@PySem.Calls.call_function_entry
def xdh:=@Array.getElem?_eq_getElem
def xdi:=@Nat.le_of_eq
def xdj:=@List.getElem?_take_of_lt
def xdk:=@PySem.F.args_tuple_add_2
def xdl:=@PySem.Txt.slice_le
def xdm:=@PySem.SeqAt.RcAt.lists_lengths
def xdn:=@PySem.F.slot_list_append
def xdo:=@PySem.F.type_list_append
def xdp:=@List.eq_of_mem_replicate
def xdq:=@Array.toList_inj
def xdr:=@PySem.wpAny_isInstance
def xds:=@PySem.AutoSeq1.wpAny_loadPart'
def xdt:=@PySem.F.entry_tuple_add
def xdu:=@Option.bind_eq_some_iff
def xdv:=@List.forIn_cons
def xdw:=@Nat.not_lt_zero
theorem xdx:type_of%@Option.map_none:=by intros;rfl
def xdy:=@PySem.F.slot_tuple_add
def xdz:=@List.take_of_length_le
def xdA:=@Array.getElem?_toList
def xdB:=@List.mem_iff_getElem?
def xdC:=@PySem.wpAny_newTuple
def xdD:=@List.dropLast_eq_take
theorem xdE:type_of%@List.tail_cons:=by intros;rfl
def xdF:=@List.take_append_drop
def xdG:=@List.mem_append_left
def xdH:=@Array.mem_toList_iff
def xdI:=@PySem.wpAny_call
theorem xdJ:type_of%@PySem.typeIs_str:=by intros;rfl
def xdK:=@Nat.not_le
def xdL:=@Bool.and_eq_true_iff
def xdM:=@Prod.mk.injEq
def xdN:=@Bool.and_true
def xdO:=@List.map_eq_nil_iff
def xdP:=@Int.toNat_of_nonneg
def xdQ:=@List.takeWhile_cons
def xdR:=@Nat.add_le_add_left
def xdS:=@PySem.W.codeHd_of_K
def xdT:=@Array.append_assoc
def xdU:=@List.mem_filterMap
def xdV:=@Array.find?_toList
def xdW:=@PySem.W.kitx_tuple
def xdX:=@PySem.W.codeRec_of
def xdY:=@Nat.min_self
def xdZ:=@Nat.lt_of_le_of_lt
def xd0:=@PySem.W.callWith_F
def xd1:=@List.pairwise_cons
def xd2:=@List.take_sublist
theorem xd3:type_of%@Int.toNat_natCast:=by intros;rfl
def xd4:=@bne_self_eq_false
def xd5:=@List.pairwise_map
def xd6:=@Array.Perm.toList
abbrev Fgx:=PySem.W.Frag
abbrev Mgx:=PySem.Str->Option PySem.Value
abbrev Pnx:=List (PySem.Addr×PySem.Obj)
local macro_rules | `(tactic| x_go)=> `(tactic| decide +kernel)
namespace HQ
open PySem PySem.W PySem.Calls PyProof.Rows
noncomputable def MN {α:Type} (t:BT):(BT->α)->α:= @BT.rec (fun _=>(BT->α)->α) (fun k=>k .nil) (fun v _ _ a b k=>a fun l=>b fun r=>k (.node v l r)) t
theorem Fz {α:Type}:∀(t:BT) (k:BT->α),MN t k=k t
 |.nil,_=>rfl
 |.node _ l r,_=>(Fz l _).trans (Fz r _)
noncomputable def mD {α:Type} (n:Nat) (k:Nat->α):α:= @Nat.rec (fun _=>α) (k 0) (fun n _=>k (Nat.succ n)) n
theorem MP {α:Type}(n:Nat)(k:Nat->α):mD n k=k n:=by cases n<;>rfl
def frs {α:Type}(s:SharedT)(k:SharedT->α):α:= @SharedT.rec (fun _=>α) (fun T n l g d i o=>MN T fun T=>mD n fun n=>mD i fun i=>k ⟨T,n,l,g,d,i,o⟩) s
theorem U5 {α:Type}(s:SharedT)(k:SharedT->α):frs s k=k s:=(Fz _ _).trans ((MP _ _).trans (MP _ _))
abbrev qd:Code->Sem Fin:=Fast.tw11892475500146522536 Fast.tw14364793385576792824
noncomputable def J9 (p:Program) (w:World):SharedT->Thread->Option (SharedT×Thread)
  |⟨T,n,l,g,d,i,o⟩,⟨c,cd,q,fs⟩=>match c with
    |.load .. |.update .. |.alloc .. |.loadIfAlive .. =>Fast.tw10156331382660048174 qd p w ⟨T,n,l,g,d,i,o⟩ ⟨c,cd,q,fs⟩
    |c=>match Fast.tw8437177126325714943 qd p w ⟨{},g,d,i,o⟩ ⟨c,cd,q,fs⟩ with
      |.go ⟨_,g,d,i,o⟩ t=>some (⟨T,n,l,g,d,i,o⟩,t)
      |.halt _ _=>none
theorem zcN {p:Program}{w:World}(s:SharedT)(t:Thread):J9 p w s t=stepT (denote treeTable) p w s t:=by
 obtain⟨T,n,l,g,d,i,o⟩:=s;obtain⟨c,cd,q,fs⟩:=t;rw[show denote treeTable=qd by unfold qd;rw[<-Fast.te11892475500146522536, <-Fast.te14364793385576792824]];cases c<;>(unfold J9;dsimp only;first |rw[<-Fast.te10156331382660048174] |(unfold stepT;dsimp only;rw[<-Fast.te8437177126325714943];cases step qd p w _ _<;>rfl))
abbrev OS:=Option SharedT
noncomputable def bd (p:Program) (w:World) (n:Nat) (ih:SharedT->Thread->OS) (s:SharedT) (t:Thread):OS:=
 @Bool.rec (fun _=>OS) (@Bool.rec (fun _=>OS) none (@Option.rec _ (fun _=>OS) none (fun r=> @Prod.rec _ _ (fun _=>OS) (fun s t=> @Bool.rec (fun _=>OS) (ih s t) (frs s fun s=>ih s t) (Nat.beq (n % 64) 0)) r) (J9 p w s t)) (Fast.tw6613529449190102663 11 (some (.ref 6)) t)) (some s) (through t)
noncomputable def go (p:Program) (w:World) (n:Nat):SharedT->Thread->OS:= @Nat.rec (fun _=>SharedT->Thread->OS) (fun _ _=>none) (bd p w) n
theorem u6 {p:Program}{w:World}:∀{n:Nat} {s s':SharedT} {t:Thread},go p w n s t=some s'->topRun treeTable p w 11 (some (.ref 6)) n s.abs t=some s'.abs
  |0,_,_,_,h=>by cases h
  |n + 1,s,s',t,h=>by
    rw[show go p w (n + 1) s t=bd p w n (go p w n) s t from rfl]at h;unfold bd at h;rw[zcN, <-Fast.te6613529449190102663]at h;unfold topRun
    cases ht:through t with
    |true=>rw[ht]at h;cases h;rfl
    |false=>
      rw[ht]at h
      cases hk:stepOk 11 (some (.ref 6)) t with
      |false=>rw[hk]at h;cases h
      |true=>
        rw[hk]at h
        cases hs:stepT (denote treeTable) p w s t with
        |none=>rw[hs]at h;cases h
        |some r=>
          obtain⟨s₂,t₂⟩:=r;rw[hs]at h;dsimp only at h ⊢;rw[stepT_spec hs];rw[U5]at h;exact u6 (by revert h;cases Nat.beq (n % 64) 0<;>exact id)
noncomputable def mkT:List Obj->Nat->BT->BT
 | [],_,t=>t
 |o::l,i,t=>mkT l (i + 1) (t.ins i o)
noncomputable def bS (w:World) (o:OsState):SharedT:=⟨mkT (boot_heap w.params).objs.toList 0 .nil,11,{},⟨[]⟩,boot_drawn,boot_toks,o⟩
theorem Td (w:World)(o:OsState):(bS w o).abs=⟨boot_heap w.params,⟨[]⟩,boot_drawn,boot_toks,o⟩:=by kernel_rfl
theorem Te (P:Params):((boot_heap P).isNs mainGlobals && (Array.mk []:Array GenState).size==0,(boot_heap P).objs.size,(boot_heap P).nsMap mainGlobals "__annotations__")=(true,11,some (.ref 6)):=by kernel_rfl
noncomputable def lst {α:Type} (T:BT) (n:Nat):List Obj->(List Obj->α)->α:=
 @Nat.rec (fun _=>List Obj->(List Obj->α)->α) (fun a k=>k a) (fun i ih a k=> @Option.rec Obj (fun _=>α) (ih (default::a) k) (fun o=> @Obj.rec (fun _=>α) (fun c d t l=>ih (⟨c,d,t,l⟩::a) k) o) (T.get i)) n
theorem Oe {α:Type}(T:BT):∀(n:Nat) (a:List Obj) (k:List Obj->α),lst T n a k=k (T.list n ++ a)
  |0,_,_=>rfl
  |n + 1,a,k=>by
    rw[show T.list (n + 1)=T.list n ++ [(T.get n).getD default] by unfold BT.list;rw[List.range_succ,List.map_append];rfl,xaK];unfold lst;dsimp only;cases T.get n<;>exact Oe T n _ k
noncomputable def K8 {α:Type} (s:SharedT) (k:Shared->α):α:= @SharedT.rec (fun _=>α) (fun T n l g d i o=>lst T n [] fun a=>k ⟨⟨⟨a⟩,l⟩,g,d,i,o⟩) s
theorem K9 {α:Type}(s:SharedT)(k:Shared->α):K8 s k=k s.abs:=(Oe _ _ _ _).trans (by rw[xax];rfl)
section
variable {p q:Program}{lo:List Str}{Xt:Shared->Bool}{α:Type}{Yf:Shared->α}{Ya:World->α}{N:Nat}{g0:Bool}{B C:Prop}
abbrev Pre (_:LeftO p q lo Xt Yf Ya N g0/\B->C):Prop:=(opening p=plainProg p.main.scope.names/\∀s,fenceModules? p s=some s)/\Nat.ble 600 N=true
abbrev See {β:Type}(p:Program)(N:Nat)(v:World->World)(f:World->Shared->β)(y:World->β):Prop:=∀w o,(go p (v w) N (bS (v w) o) (topStub p)).map (fun s=>K8 s (f (v w)))=some (y (v w))
abbrev lF (v:World->World)(_:LeftO p q lo Xt Yf Ya N g0/\B->C):Prop:=
 See p N v (fun w s=>(staticsOk (importedModules p.main.body) (boot_heap w.params) s.heap && namesBound p s.heap && gensDone s && laidKept (boot_heap w.params) s.heap,Yf s)) fun w=>(true,Ya w)
abbrev lG (v:World->World)(_:LeftO p q lo Xt Yf Ya N g0/\B->C):Prop:=See p N v (fun _ s=>Fast.tw4187177175401517315 q lo (importedModules p.main.body) Xt g0 s) fun _=>openGood q lo
theorem left {v:World->World}{H:LeftO p q lo Xt Yf Ya N g0/\B->C}(e:Pre H)(a:lF v H)(b:lG v H)(w:World):
  (openEnds treeTable p (v w) N).map (fun s=>(openSeen q lo (importedModules p.main.body) Xt g0 s,Yf s))=some (openGood q lo,Ya (v w)):=by
 obtain⟨⟨h,gs,d,k,o⟩,e1,e2⟩:=xad.mp (boot_open e.1.1 e.2 e.1.2 (v w));obtain⟨rfl,rfl,rfl,rfl⟩:h=boot_heap (v w).params/\gs=⟨[]⟩/\d=boot_drawn/\k=boot_toks:=by simpa using e2
 obtain⟨s,hs,hv⟩:=xad.mp (a w o);have hb:=b w o;rw[hs,xaT,K9, <-Fast.te4187177175401517315]at hb;rw[K9]at hv;obtain⟨l1,l3⟩:=Prod.mk.inj hv;obtain⟨z1,z2,z3⟩:_/\_/\_:=by simpa only[xdM] using Te (v w).params
 have hr:=u6 hs;rw[Td]at hr;have t:topFrom treeTable p (v w) N ⟨boot_heap (v w).params,⟨[]⟩,boot_drawn,boot_toks,o⟩=some s.abs:=by
  unfold topFrom;dsimp only;rw[z1,z2,z3,hr];dsimp only[Option.bind_some];rw[l1]
 unfold openEnds;rw[e1,Option.bind_some,t];exact congrArg some (Prod.ext (xay hb) l3)
theorem two (row:String){H:LeftO p q lo Xt Yf Ya N g0/\B->C}(e:Pre H)(a:lF (·.withFollow row false) H)(b:lG (·.withFollow row false) H)(c:lF (·.withFollow row true) H)(d:lG (·.withFollow row true) H)(hB:B):C:=
 H ⟨fun w=>by
  have x:=left e a b w;have y:=left e c d w;have z:=World.withFollow_self w row;cases h:w.params.followText row<;>rw[h]at z<;>simp only[z]at x y<;>assumption,hB⟩
end
end HQ
section
local macro_rules
  | `(tactic| refine $f:term $as:term*)=>do
    let mut bs:= #[]
    let mut hit:=false
    for a in as do
      if a.raw.isOfKind ``Lean.Parser.Term.syntheticHole && a.raw[1].getId== `hl then
        hit:=true
        bs:=bs.push (<- `((And.left ?hx)))
      else if a.raw.isOfKind ``Lean.Parser.Term.syntheticHole && a.raw[1].getId== `hc then
        bs:=bs.push (<- `((And.right ?hx)))
      else bs:=bs.push a
    if hit then `(tactic| refine $f $bs*) else Lean.Macro.throwUnsupported
set_option maxHeartbeats 0 in
open_top My.hdAll for PySem.Challenge.rw_rowdam_k29_pairs_told
theorem My.he:HQ.Pre My.hdAll:=⟨⟨by kernel_rfl,fun _=>by kernel_rfl⟩,by kernel_rfl⟩
theorem My.hBf:HQ.lG (·.withFollow "special-get-raises" false) My.hdAll:=fun _ _=>by kernel_rfl
theorem My.hBt:HQ.lG (·.withFollow "special-get-raises" true) My.hdAll:=fun _ _=>by kernel_rfl
theorem My.hAf:HQ.lF (·.withFollow "special-get-raises" false) My.hdAll:=fun _ _=>by kernel_rfl
theorem My.hAt:HQ.lF (·.withFollow "special-get-raises" true) My.hdAll:=fun _ _=>by kernel_rfl
end
namespace L2
open PySem PySem.Spec PyProof.Rows
abbrev Key:=Sum Int Str
noncomputable def u_:Key->Value->Bool
 |.inl k,v=>Value.isInt k v
 |.inr x,v=>Value.isStrOf x v
def Gg (w:World):Key->Int
 |.inl k=>hashInt k
 |.inr x=>hashStr w x
theorem nF:∀{k:Key} {v:Value},u_ k v=true->(∃i t,k=Sum.inl i/\v=Value.int i t)\/(∃x t,k=Sum.inr x/\v=Value.str x t)
  |.inl i,v,h=>by
    obtain⟨t,e⟩:=Value.isInt_shape (k:=i) (v:=v) h;exact .inl ⟨i,t,rfl,e⟩
  |.inr x,v,h=>by
    obtain⟨t,e⟩:=Value.isStrOf_shape (x:=x) (v:=v) h;exact .inr ⟨x,t,rfl,e⟩
theorem VJ (i:Int)(t:Tok):u_ (.inl i) (.int i t)=true:=by simp[u_,Value.isInt]
theorem VL (x:Str)(t:Tok):u_ (.inr x) (.str x t)=true:=by simp[u_,Value.isStrOf]
theorem VN (a b:Int):decide ((Sum.inl a:Key)=Sum.inl b)=(a==b):=by
 by_cases e:a=b
 ·subst e;simp
 ·have h:¬ (Sum.inl a:Key)=Sum.inl b:=fun q=>e (Sum.inl.inj q);rw[xbl h];exact(xaQ.mpr e).symm
theorem V2 (a b:Str):decide ((Sum.inr a:Key)=Sum.inr b)=decide (a=b):=by
 by_cases e:a=b
 ·subst e;simp
 ·have h:¬ (Sum.inr a:Key)=Sum.inr b:=fun q=>e (Sum.inr.inj q);rw[xbl h,xbl e]
theorem VR (a:Int)(b:Str):decide ((Sum.inl a:Key)=Sum.inr b)=false:=xbl (fun q=>nomatch q)
theorem V1 (a:Str)(b:Int):decide ((Sum.inr a:Key)=Sum.inl b)=false:=xbl (fun q=>nomatch q)
noncomputable def mH (prog:Program) (w:World):PySem.KeyKind prog w Key where
 is:=u_
 hash:=Gg w
 inj:=fun v a b ha hb=>by
  rcases nF ha with⟨i,t,rfl,rfl⟩ |⟨x,t,rfl,rfl⟩
  ·rcases nF hb with⟨j,u,rfl,e⟩ |⟨y,u,rfl,e⟩
   ·injection e with e1 _;rw[e1]
   ·exact nomatch e
  ·rcases nF hb with⟨j,u,rfl,e⟩ |⟨y,u,rfl,e⟩
   ·exact nomatch e
   ·injection e with e1 _;rw[e1]
 byValue:=fun k v h=>by
  rcases nF h with⟨i,t,rfl,rfl⟩ |⟨x,t,rfl,rfl⟩<;>rfl
 pyHash:=fun hv h=>by
  rcases nF hv with⟨i,t,rfl,rfl⟩ |⟨x,t,rfl,rfl⟩
  ·exact wpAny_pyHash_int h
  ·exact wpAny_pyHash_str h
 eqBool:=fun hu hv h=>by
  rcases nF hu with⟨i,t,rfl,rfl⟩ |⟨x,t,rfl,rfl⟩
  ·rcases nF hv with⟨j,u,rfl,rfl⟩ |⟨y,u,rfl,rfl⟩
   ·rw[VN]at h;exact wpAny_eqBool_int h
   ·rw[VR]at h;exact xcV i t y u _ _ _ _ h
  ·rcases nF hv with⟨j,u,rfl,rfl⟩ |⟨y,u,rfl,rfl⟩
   ·rw[V1]at h;exact xcW x t j u _ _ _ _ h
   ·rw[V2]at h;exact wpAny_eqBool_str h
 «strs» :=fun k x t v h=>by
  rcases nF h with⟨i,u,rfl,e⟩ |⟨y,u,rfl,e⟩
  ·exact nomatch e
  ·injection e with e1 _
   subst e1;cases v<;>rfl
theorem Wv (prog:Program)(w:World)(i:Int)(t:Tok):(mH prog w).is (.inl i) (.int i t)=true:=VJ i t
theorem Gq (prog:Program)(w:World)(x:Str)(t:Tok):(mH prog w).is (.inr x) (.str x t)=true:=VL x t
inductive V where
 |non |bl (b:Bool) |int (i:Int) |str (x:Str) |byt (b:Array UInt8) |flt (b:UInt64) |ref (a:Addr) |ty (n:String)
 deriving DecidableEq
noncomputable def RelV:V->Value->Prop
 |.non,u=>u=Value.none
 |.bl b,u=>u=Value.bool b
 |.int i,u=>∃t,u=Value.int i t
 |.str x,u=>∃t,u=Value.str x t
 |.byt b,u=>∃t,u=Value.bytes b t
 |.flt b,u=>∃t,u=Value.float b t
 |.ref a,u=>u=Value.ref a
 |.ty n,u=>u=Value.type n
abbrev Vals:List V->List Value->Prop:=Paired RelV
theorem Vals.length (r:Vals xs us):xs.length=us.length:=Paired.length r
theorem Vals.get:∀{xs:List V} {us:List Value} {i:Nat} {x:V},Vals xs us->xs[i]? =some x->∃u,us[i]? =some u/\RelV x u
  |_,_,_,_,.nil,e=>by simp at e
  |_,_,0,_,.cons r _,e=>by simp at e;subst e;exact⟨_,rfl,r⟩
  |_,_,i + 1,x,.cons _ t,e=>by
    obtain⟨u,h1,h2⟩:=Vals.get (i:=i) (x:=x) t (by simpa using e);exact⟨u,by simpa using h1,h2⟩
theorem Vals.append:∀{xs ys:List V} {us ws:List Value},Vals xs us->Vals ys ws->Vals (xs ++ ys) (us ++ ws)
 |_,_,_,_,.nil,s=>s
 |_,_,_,_,.cons r t,s=>.cons r (Vals.append t s)
theorem Vals.take:∀{xs:List V} {us:List Value} (n:Nat),Vals xs us->Vals (xs.take n) (us.take n)
 |_,_,0,_=>.nil
 |_,_,_ + 1,.nil=>.nil
 |_,_,n + 1,.cons r t=>.cons r (Vals.take n t)
theorem Vals.drop:∀{xs:List V} {us:List Value} (n:Nat),Vals xs us->Vals (xs.drop n) (us.drop n)
 |_,_,0,r=>r
 |_,_,_ + 1,.nil=>.nil
 |_,_,n + 1,.cons _ t=>Vals.drop n t
noncomputable def dz:Option V->Option Value->Prop
 |some v,some u=>RelV v u
 |none,none=>True
 |_,_=>False
def KV {κ:Type}:List (κ×V)->List (κ×Value)->Prop:=Paired fun(p:κ×V) (q:κ×Value)=>p.1=q.1/\RelV p.2 q.2
def kV:Key->V
 |.inl i=>.int i
 |.inr x=>.str x
inductive HO where
  |lst (xs:List V)
  |tup (xs:List V)
  |dK (kvs:List (Key×V)) |dT (kvs:List (List Key×V))
  |set (S:Int->Bool) (n:Nat)
  |ins (C dx:Addr) (fs:List (Str×V))
  |own (x:Addr)
  |xd (fs:List (Str×V))
  |met (f x:Addr)
  |rng (lo hi:Int)
  |frz (o:Obj) (u:HO)
  |tbl (ps:Array Value)
  |ext (φ:Heap->Prop)
abbrev Hp:=Addr->Option HO
noncomputable def upd (H:Hp) (a:Addr) (o:HO):Hp:=fun b=>if b=a then some o else H b
theorem bR:upd H a o a=some o:=by unfold upd;rw[xab rfl]
theorem aQ (h:b≠a):upd H a o b=H b:=by unfold upd;rw[xai h]
theorem eG {H:Hp}{a b:Addr}{o:HO}(h:H a=some o)(h':H b=none):a≠b:=by
 intro e;subst e;rw[h]at h';cases h'
section
variable (P:Program)(w:World)
noncomputable def cO (H:Hp) (h:Heap) (a:Addr):HO->Prop
 |.lst xs=>xs.length<=sizeLine/\∃(its:List Value) (n:Nat),Vals xs its/\h.get? a=some {cls:=.type "list",data:=.seq its.toArray n}
 |.tup xs=>xs.length<=sizeLine/\∃its:List Value,Vals xs its/\IsTup h a its.toArray
 |.dK kvs=>kvs.length<=sizeLine/\(a==sysModules)=false/\∃vs,KV kvs vs/\h.DictOf (mH P w) a vs
 |.dT kvs=>kvs.length<=sizeLine/\(a==sysModules)=false/\∃xs:List (List Key×Addr×Value),
   Paired (fun(p:List Key×V) (q:List Key×Addr×Value)=>p.1=q.1/\H q.2.1=some (.tup (p.1.map kV))/\RelV p.2 q.2.2) kvs xs/\
   ∃o es ep,h.get? a=some o/\o.ExactDict/\o.data=.dict es ep/\es.toList=xs.map (entryOfKey (tupleKind (mH P w)))/\(xs.map (·.1)).Nodup
 |.set S n=>h.SetOf (intKind P w) a S n
 |.ins C dx fs=>H dx=some (.own a)/\fs.length<=1000/\dx≠a/\h.get? a=some (PySem.W.instObj C dx)/\
   ∃mA,h.Ns1 dx mA/\(∀f,dz (fs.lookup f) (mA f))/\PySem.Within mA (fs.map (·.1))
 |.own _=>∃o,h.get? a=some o
 |.xd fs=>∃mA,h.Ns1 a mA/\∀f,dz (fs.lookup f) (mA f)
 |.rng lo hi=>∃t u v,h.get? a=some {cls:=.type "range",data:=.fields #[.int lo t,.int hi u,.int 1 v]}
 |.frz o u=>h.get? a=some o/\cO H h a u
 |.tbl ps=>h.get? a=some {cls:=.none,data:=.fields ps}
 |.met f x=>h.get? a=some (PySem.W.methodObj (.ref f) (.ref x))
 |.ext φ=>φ h/\(∃o,h.get? a=some o)/\∀h1 h2:Heap,φ h1->(∀o,h1.get? a=some o->h2.get? a=some o)->φ h2
def cg (H:Hp)(h:Heap):Prop:=∀a o,H a=some o->cO P w H h a o
end
section
variable {P:Program}{w:World}{H H':Hp}{h h':Heap}{a:Addr}{o:HO}
theorem cO.lt (x:cO P w H h a o):a<h.objs.size:=by
 cases o with
 |lst xs=>obtain⟨_,_,_,_,e⟩:=x;exact xaj e
 |tup xs=>obtain⟨_,_,_,p⟩:=x;exact p.lt
 |dK kvs=>obtain⟨_,_,_,_,o,_,_,e,_⟩:=x;exact xaj e
 |dT kvs=>obtain⟨_,_,_,_,o,_,_,e,_⟩:=x;exact xaj e
 |set S n=>obtain⟨o,_,_,_,e,_⟩:=x;exact xaj e
 |ins C dx fs=>obtain⟨_,_,_,e,_⟩:=x;exact xaj e
 |own y=>obtain⟨_,e⟩:=x;exact xaj e
 |xd fs=>obtain⟨_,⟨_,_,_,e,_⟩,_⟩:=x;exact xaj e
 |rng lo hi=>obtain⟨_,_,_,e⟩:=x;exact xaj e
 |frz ob u=>obtain⟨e,_⟩:=x;exact xaj e
 |tbl ps=>exact xaj (show h.get? a=some _ from x)
 |met f y=>exact xaj (show h.get? a=some _ from x)
 |ext φ=>obtain⟨_,⟨_,e⟩,_⟩:=x;exact xaj e
theorem Paired.mapP:∀{l₁:List α} {l₂:List β},Paired F l₁ l₂->(∀a b,F a b->G a b)->Paired G l₁ l₂
 |_,_,.nil,_=>.nil
 |_,_,.cons r t,f=>.cons (f _ _ r) (Paired.mapP t f)
theorem cO.stay (x:cO P w H h a o)(k:∀b u,(b=a\/H b=some (.own a))->h.get? b=some u->h'.get? b=some u)
    (ho:∀b,H b=some (.own a)->H' b=some (.own a)) (ht:∀b xs,H b=some (.tup xs)->H' b=some (.tup xs)):cO P w H' h' a o:=by
  induction o with
  |lst xs=>obtain⟨z,its,n,r,e⟩:=x;exact⟨z,its,n,r,k _ _ (.inl rfl) e⟩
  |tup xs=>obtain⟨z,its,r,ob,e,c⟩:=x;exact⟨z,its,r,ob,k _ _ (.inl rfl) e,c⟩
  |dK kvs=>obtain⟨z,y,vs,r,ob,es,ep,e,c⟩:=x;exact⟨z,y,vs,r,ob,es,ep,k _ _ (.inl rfl) e,c⟩
  |dT kvs=>
    obtain⟨z,y,xs,r,ob,es,ep,e,c⟩:=x;exact⟨z,y,xs,Paired.mapP r fun p q z=>⟨z.1,ht _ _ z.2.1,z.2.2⟩,ob,es,ep,k _ _ (.inl rfl) e,c⟩
  |set S n=>obtain⟨ob,es,ep,t,e,c⟩:=x;exact⟨ob,es,ep,t,k _ _ (.inl rfl) e,c⟩
  |ins C dx fs=>
    obtain⟨d,z,ne,e,mA,⟨od,es,ep,e2,c⟩,r⟩:=x;exact⟨ho _ d,z,ne,k _ _ (.inl rfl) e,mA,⟨od,es,ep,k _ _ (.inr d) e2,c⟩,r⟩
  |own y=>obtain⟨ob,e⟩:=x;exact⟨ob,k _ _ (.inl rfl) e⟩
  |xd fs=>obtain⟨mA,⟨od,es,ep,e,c⟩,r⟩:=x;exact⟨mA,⟨od,es,ep,k _ _ (.inl rfl) e,c⟩,r⟩
  |rng lo hi=>obtain⟨t,u,v,e⟩:=x;exact⟨t,u,v,k _ _ (.inl rfl) e⟩
  |frz ob u ih=>obtain⟨e,q⟩:=x;exact⟨k _ _ (.inl rfl) e,ih q⟩
  |tbl ps=>
    have e:h.get? a=some {cls:=.none,data:=.fields ps}:=x;show h'.get? a=some {cls:=.none,data:=.fields ps};exact k a _ (.inl rfl) e
  |met f y=>
    have e:h.get? a=some (PySem.W.methodObj (.ref f) (.ref y)):=x;show h'.get? a=some (PySem.W.methodObj (.ref f) (.ref y));exact k a _ (.inl rfl) e
  |ext φ=>obtain⟨p,⟨o,e⟩,st⟩:=x;exact⟨st _ _ p fun o q=>k _ _ (.inl rfl) q,⟨o,k _ _ (.inl rfl) e⟩,st⟩
theorem cg.lt (x:cg P w H h)(e:H a=some o):a<h.objs.size:=(x a o e).lt
theorem cg.fresh (x:cg P w H h)(e:h.objs.size<=a):H a=none:=by
 cases q:H a with
 |none=>rfl
 |some u=>exact absurd (xaf (x.lt q) e) (xa2 _)
theorem cg.kept (x:cg P w H h)(k:∀b u,h.get? b=some u->h'.get? b=some u):cg P w H h':=fun a o e=>
 (x a o e).stay (fun b u _ q=>k b u q) (fun _ q=>q) fun _ _ q=>q
theorem cg.laid (x:cg P w H h)(k:∀b u,h.get? b=some u->h'.get? b=some u)(hp:h.objs.size<=a)(new:cO P w (upd H a o) h' a o):cg P w (upd H a o) h':=fun b u e=>by
 have hn:=x.fresh hp
 by_cases hb:b=a
 ·subst hb;rw[bR]at e;cases e;exact new
 ·rw[aQ hb]at e;exact(x b u e).stay (fun c v _ q=>k c v q) (fun c q=>by rw[aQ (eG q hn)];exact q) fun c xs q=>by rw[aQ (eG q hn)];exact q
end
def Rd (H:Hp)(a:Addr)(u:HO):Prop:=H a=some u\/∃o,H a=some (.frz o u)
theorem Rd.ok (r:Rd H a u)(x:cg P w H h):cO P w H h a u:=by
 rcases r with r |⟨o,r⟩
 ·exact x a u r
 ·obtain⟨_,q⟩:=x a _ r;exact q
noncomputable def zK:Option HO->Prop
 |some (.lst _)=>True
 |some (.dK _)=>True
 |some (.dT _)=>True
 |some (.set _ _)=>True
 |some (.ins _ _ _)=>True
 |some (.ext _)=>True
 |_=>False
section
variable {P:Program}{w:World}{H:Hp}{h h':Heap}{x e:Addr}{o':HO}
theorem cg.write (ok:cg P w H h)(mu:zK (H x))(he:e=x\/H e=some (.own x))(k:∀b u,b≠e->h.get? b=some u->h'.get? b=some u)(heo:∃u,h'.get? e=some u)
  (new:cO P w (upd H x o') h' x o'):cg P w (upd H x o') h':=fun b u q=>by
 have nown:∀c y,H c=some (.own y)->c≠x:=fun c y r z=>by subst z;rw[r]at mu;exact mu
 have ntup:∀c xs,H c=some (.tup xs)->c≠x:=fun c xs r z=>by subst z;rw[r]at mu;exact mu
 by_cases hb:b=x
 ·subst hb;rw[bR]at q;cases q;exact new
 ·rw[aQ hb]at q
  by_cases hbe:b=e
  ·have q':H b=some (.own x):=by
    rcases he with z |z
    ·exact absurd (hbe.trans z) hb
    ·rw[hbe];exact z
   rw[q]at q';cases q';obtain⟨v,hv⟩:=heo;exact⟨v,by rw[hbe];exact hv⟩
  ·refine(ok b u q).stay (fun c v hc r=>k c v ?_ r) (fun c r=>by rw[aQ (nown c b r)];exact r) fun c xs r=>by rw[aQ (ntup c xs r)];exact r
   rcases hc with rfl |hc
   ·exact hbe
   ·rintro rfl;rcases he with z |z
    ·exact nown c b hc z
    ·rw[hc]at z;cases z;exact hb rfl
end
structure Un (fs ex:List Addr)(H H':Hp)(h h':Heap):Prop where
 keep:∀b o,h.get? b=some o->H b=none->b∉fs->b∉ex->h'.get? b=some o
 slot:∀b o,h.get? b=some o->H b=none->b∈fs->b∉ex->∃sl,h'.get? b=some {o with slots:=sl}
 free:∀b o,h.get? b=some o->H b=none->b∉ex->H' b=none
 there:∀b o,h.get? b=some o->b∉ex->∃o',h'.get? b=some o'
 tups:∀b xs,H b=some (.tup xs)->H' b=some (.tup xs)
 frzs:∀b o u,H b=some (.frz o u)->H' b=some (.frz o u)
 tbls:∀b ps,H b=some (.tbl ps)->∃more,H' b=some (.tbl (ps ++ more))
section
variable {fs fs' ex ex':List Addr}{H H1 H2:Hp}{h h1 h2 h':Heap}{a x e:Addr}{o:HO}
theorem Un.any (u:Un fs ex H H1 h h1)(q:h.get? b=some ob)(n:H b=none)(hx:b∉ex):∃sl,h1.get? b=some {ob with slots:=sl}:=by
 by_cases hb:b∈fs
 ·exact u.slot b ob q n hb hx
 ·exact⟨ob.slots,u.keep b ob q n hb hx⟩
theorem Un.trans (a:Un fs ex H H1 h h1)(b:Un fs ex H1 H2 h1 h2):Un fs ex H H2 h h2 where
 keep:=fun c ob q n hc hx=>b.keep c ob (a.keep c ob q n hc hx) (a.free c ob q n hx) hc hx
 slot:=fun c ob q n hc hx=>by
  obtain⟨sl,e1⟩:=a.slot c ob q n hc hx;obtain⟨sl',e2⟩:=b.slot c _ e1 (a.free c ob q n hx) hc hx;exact⟨sl',e2⟩
 free:=fun c ob q n hx=>by
  obtain⟨o',e1⟩:=a.there c ob q hx;exact b.free c o' e1 (a.free c ob q n hx) hx
 there:=fun c ob q hx=>by
  obtain⟨o',e1⟩:=a.there c ob q hx;exact b.there c o' e1 hx
 tups:=fun c xs q=>b.tups c xs (a.tups c xs q)
 frzs:=fun c ob xs q=>b.frzs c ob xs (a.frzs c ob xs q)
 tbls:=fun c ps q=>by
  obtain⟨m1,e1⟩:=a.tbls c ps q;obtain⟨m2,e2⟩:=b.tbls c _ e1;exact⟨m1 ++ m2,by rw[e2,xdT]⟩
theorem Un.kept (k:∀b u,h.get? b=some u->h'.get? b=some u):Un fs ex H H h h':=
 ⟨fun b ob q _ _ _=>k b ob q,fun b ob q _ _ _=>⟨ob.slots,k b ob q⟩,fun _ _ _ n _=>n,fun b ob q _=>⟨ob,k b ob q⟩,fun _ _ q=>q,fun _ _ _ q=>q,fun _ ps q=>⟨#[],by rw[q];simp⟩⟩
theorem Un.refl:Un fs ex H H h h:=Un.kept fun _ _ q=>q
theorem Un.laid (k:∀b u,h.get? b=some u->h'.get? b=some u)(hp:h.objs.size<=a)(hn:H a=none):Un fs ex H (upd H a o) h h' where
 keep:=fun b u q _ _ _=>k b u q
 slot:=fun b u q _ _ _=>⟨u.slots,k b u q⟩
 free:=fun b u q n _=>by rw[aQ (xaq (xaf (xaj q) hp))];exact n
 there:=fun b u q _=>⟨u,k b u q⟩
 tups:=fun b xs q=>by rw[aQ (eG q hn)];exact q
 frzs:=fun b u xs q=>by rw[aQ (eG q hn)];exact q
 tbls:=fun b ps q=>⟨#[],by rw[aQ (eG q hn),q];simp⟩
theorem Un.write (mu:zK (H x))(he:e=x\/H e=some (.own x))(k:∀b u,b≠e->h.get? b=some u->h'.get? b=some u)(heo:∃u,h'.get? e=some u):Un fs ex H (upd H x o) h h':=by
 have hx:∀b,H b=none->b≠x:=fun b n z=>by subst z;rw[n]at mu;exact mu
 have hb:∀b,H b=none->b≠e:=fun b n z=>by
  subst z;rcases he with r |r
  ·exact hx b n r
  ·rw[n]at r;cases r
 have hm:∀b u,H b=some u->¬ zK (some u)->b≠x:=fun b u q nm z=>by subst z;rw[q]at mu;exact nm mu
 refine ⟨fun b u q n _ _=>k b u (hb b n) q,fun b u q n _ _=>⟨u.slots,k b u (hb b n) q⟩,fun b u q n _=>by rw[aQ (hx b n)];exact n,fun b u q _=>?_,
  fun b xs q=>by rw[aQ (hm b _ q fun z=>z)];exact q,fun b u xs q=>by rw[aQ (hm b _ q fun z=>z)];exact q,fun b ps q=>⟨#[],by rw[aQ (hm b _ q fun z=>z),q];simp⟩⟩
 by_cases hbe:b=e
 ·subst hbe;exact heo
 ·exact⟨u,k b u hbe q⟩
theorem Un.mono (u:Un fs ex H H1 h h1)(hs:∀b∈fs,b∈fs')(hx:∀b∈ex,b∈ex'):Un fs' ex' H H1 h h1:=
 ⟨fun b ob q n hb he=>u.keep b ob q n (fun z=>hb (hs b z)) fun z=>he (hx b z),fun _ _ q n _ he=>u.any q n fun z=>he (hx _ z),fun b ob q n he=>u.free b ob q n fun z=>he (hx b z),fun b ob q he=>u.there b ob q fun z=>he (hx b z),u.tups,u.frzs,u.tbls⟩
end
noncomputable def C_ (h:Heap) (H:Hp):List Addr:=(List.range h.objs.size).filter fun a=>(H a).isSome
def dD (h:Heap)(H:Hp):Heap:=PySem.W.hideAll h (C_ h H)
theorem Vh (h:Heap)(H:Hp):(dD h H).objs.size=h.objs.size:=PySem.W.hideAll_size _ _
theorem Vg (e:h.get? b=some o)(n:H b=none):(dD h H).get? b=some o:=
 PySem.W.hideAll_get _ e fun hm=>by
  have q:(H b).isSome=true:=(List.mem_filter.mp hm).2;rw[n]at q;simp at q
theorem Yk (e:(dD h H).get? b=some o):h.get? b=some o/\H b=none:=by
  have e':h.get? b=some o:=PySem.W.of_hideAll (C_ h H) e;refine⟨e',?_⟩
  cases q:H b with
  |none=>rfl
  |some x=>
    have hm:b∈C_ h H:=List.mem_filter.mpr ⟨xcQ.mpr (xaj e'),by simp[q]⟩;have z:(dD h H).get? b=none:=PySem.W.hideAll_none (C_ h H) hm;rw[z]at e;cases e
structure Mod (K:Fgx)(mg:Mgx)(base:Heap):Prop where
 kin:K.In base
 glob:base.Ns mainGlobals mg
 blt:∃mb,base.Ns builtinsNs mb/\∀x:Str,x≠"__name__"->mb x=bootBuiltins x
 nolimit:base.NoLimit
structure Cx where
 prog:Program
 w:World
 K:Fgx
 mg:Mgx
 base:Heap
 A:Around
 N:List Str
 s₀:Shared
 H₀:Hp
 env:Env
 outer:List Env
 stack:List Env
 ex:List Addr
 fn:Str->Bool
 calm:Bool
 pn:Pnx
 xe:Value->Shared->Prop
def frs (l:List Env):List Addr:=l.filterMap (·.frame)
abbrev Cx.fs (X:Cx):List Addr:=frs X.outer
def tQ (sc:Scope)(x:Str):Prop:=sc.names.lookup x=some .local\/sc.names.lookup x=some .cell\/sc.names.lookup x=some .free
def Loc (sc:Scope)(x:Str):Prop:=sc.names.lookup x=some .local\/sc.names.lookup x=some .cell
def Look (env:Env)(h:Heap)(m:Mgx)(x:Str)(u:Value):Prop:=
 (env.kindOf x=some .local/\m x=some u)\/((env.kindOf x=some .cell\/env.kindOf x=some .free)/\∃c,env.cells.lookup x=some c/\h.IsCell c (some u))
structure Cx.Ok (X:Cx):Prop where
 mod:Mod X.K X.mg X.base
 kind:X.env.scope.kind=.function
 glob:X.env.globals=mainGlobals
 blt:X.env.builtins=builtinsNs
 above:X.s₀.heap.objs.size<=X.env.locals
 inj:∀x y c,X.env.cells.lookup x=some c->X.env.cells.lookup y=some c->x=y
 has:∀x,(X.env.kindOf x=some .cell\/X.env.kindOf x=some .free)->∃c,X.env.cells.lookup x=some c
 cab:∀x c,X.fn x=true->X.env.cells.lookup x=some c->X.s₀.heap.objs.size<=c
 hd:X.calm=true->X.A.handled=none
 frames:X.A.frames=some X.stack
 stk:X.stack=X.outer\/(X.stack=X.env::X.outer/\X.env.frame=some X.env.locals)
 exf:∀b∈X.ex,b≠X.env.locals/\∀x c,X.env.cells.lookup x=some c->c≠b
 bs:∀b o,X.base.get? b=some o->X.s₀.heap.get? b=some o/\X.H₀ b=none
 bsz:X.base.objs.size<=X.s₀.heap.objs.size
 noex:∀b o,X.base.get? b=some o->b∉X.ex
 exfs:∀b∈X.ex,b∉X.fs
 funs:X.s₀.heap.FunFrames X.base X.outer
 frf:∀b∈X.fs,X.H₀ b=none
structure Inv (X:Cx)(pins:Pnx)(σ:List (Option V))(H:Hp)(s:Shared):Prop where
 ok:X.Ok
 os:s.os=X.s₀.os
 bare:AllBare s.gens
 base:Un X.fs X.ex X.H₀ H X.s₀.heap s.heap
 loc:∃m,s.heap.Ns X.env.locals m/\∀(i:Nat) (x:Str) (v:V),X.N[i]? =some x->σ[i]? =some (some v)->tQ X.env.scope x->∃u,RelV v u/\Look X.env s.heap m x u
 cell:∀x c,X.env.cells.lookup x=some c->∃v,s.heap.IsCell c v
 free:H X.env.locals=none
 freeC:∀x c,X.env.cells.lookup x=some c->H c=none\/(X.fn x=false/\∃o u,H c=some (.frz o u))
 pin:∀p∈X.pn ++ pins,s.heap.get? p.1=some p.2/\H p.1=none/\p.1≠X.env.locals/\p.1∉X.fs/\∀v,p.2.data≠ .cell v
 hok:cg X.prog X.w H s.heap
 len:σ.length=X.N.length
section
variable {X:Cx}{pins:Pnx}{σ:List (Option V)}{H H':Hp}{s:Shared}{h':Heap}
theorem Cx.Ok.nofr (ok:X.Ok)(e:X.base.get? b=some o):b∉X.fs:=fun hb=>by
 have:=(ok.funs.mem hb).1;rw[e]at this;cases this
theorem Inv.bs (I:Inv X pins σ H s):∀b o,X.base.get? b=some o->s.heap.get? b=some o/\H b=none:=fun b o e=>
 ⟨I.base.keep b o (I.ok.bs b o e).1 (I.ok.bs b o e).2 (I.ok.nofr e) (I.ok.noex b o e),I.base.free b o (I.ok.bs b o e).1 (I.ok.bs b o e).2 (I.ok.noex b o e)⟩
theorem Inv.bk (I:Inv X pins σ H s):∀b o,X.base.get? b=some o->s.heap.get? b=some o:=fun b o e=>(I.bs b o e).1
theorem Inv.mod (I:Inv X pins σ H s):Mod X.K X.mg X.base:=I.ok.mod
theorem Inv.kIn (I:Inv X pins σ H s):X.K.In s.heap:=I.ok.mod.kin.keeps I.bk
theorem Inv.lt (I:Inv X pins σ H s):X.env.locals<s.heap.objs.size:=let ⟨_,hn,_⟩:=I.loc;hn.lt
theorem Inv.sz (I:Inv X pins σ H s):X.s₀.heap.objs.size<=s.heap.objs.size:=xaw I.ok.above (xch I.lt)
theorem Inv.nofs (I:Inv X pins σ H s)(h:s.heap.objs.size<=a):a∉X.fs:=fun hb=>by
 obtain⟨_,o,ho,_⟩:=I.ok.funs.mem hb;exact absurd (xaf (xaj ho) (xaw I.sz h)) (xa2 _)
theorem Inv.cne (I:Inv X pins σ H s):∀x c,X.env.cells.lookup x=some c->c≠X.env.locals:=fun x c e z=>by
 obtain⟨v,o,ho,hd⟩:=I.cell x c e;obtain⟨m,⟨o',es,ep,ho',hd',_⟩,_⟩:=I.loc;rw[z,ho']at ho;cases ho;rw[hd']at hd;cases hd
theorem Inv.funs (I:Inv X pins σ H s):s.heap.FunFrames X.base X.outer:=by
  have all:∀(l:List Env),(∀b∈frs l,b∈X.fs)->X.s₀.heap.FunFrames X.base l->s.heap.FunFrames X.base l:=by
    intro l
    induction l with
    |nil=>intro _ _;trivial
    |cons env r ih=>
      intro hs hl;obtain⟨hk,⟨L,o,hf,hn,ho,hd⟩,hr⟩:=hl;have hL:L∈X.fs:=hs L (by unfold frs;rw[xcO,hf];exact xaO);obtain⟨sl,e⟩:=I.base.slot L o ho (I.ok.frf L hL) hL fun z=>I.ok.exfs L z hL;exact⟨hk,⟨L,_,hf,hn,e,hd⟩,ih (fun b hb=>hs b (by unfold frs;rw[xcO,hf];exact xat _ hb)) hr⟩
  exact all X.outer (fun _ hb=>hb) I.ok.funs
theorem Inv.stack (I:Inv X pins σ H s):s.heap.FunFrames X.base X.stack:=by
 rcases I.ok.stk with e |⟨e,hf⟩
 ·rw[e];exact I.funs
 ·rw[e];obtain⟨m,hn,_⟩:=I.loc;refine .cons (by rw[I.ok.kind];decide) hf hn ?_ I.funs;exact xcC (xaw I.ok.bsz I.ok.above)
theorem Inv.stkSub (I:Inv X pins σ H s):∀b∈frs X.stack,b∈X.env.locals::X.fs:=fun b hb=>by
 rcases I.ok.stk with e |⟨e,hf⟩
 ·rw[e]at hb;exact xat _ hb
 ·rw[e]at hb;unfold frs at hb;rw[xcO,hf]at hb;exact hb
theorem Inv.stkFree (I:Inv X pins σ H s):∀b∈frs X.stack,H b=none:=fun b hb=>by
 rcases xav.mp (I.stkSub b hb) with e |hb
 ·rw[e];exact I.free
 ·obtain⟨_,o,ho,_⟩:=I.ok.funs.mem hb;exact I.base.free b o ho (I.ok.frf b hb) fun z=>I.ok.exfs b z hb
theorem Inv.step {g':Array GenState}{t':Nat}{d':Drawn}{ch:List Addr}(I:Inv X pins σ H s)
  (hch:∀b∈ch,(b∈X.ex\/X.s₀.heap.objs.size<=b)/\b≠X.env.locals/\(∀x c,X.env.cells.lookup x=some c->c≠b)/\∀p∈X.pn ++ pins,p.1≠b)
  (keep:∀b o,b≠X.env.locals->b∉X.fs->b∉ch->s.heap.get? b=some o->H b=none->h'.get? b=some o)
  (slot:∀b o,b≠X.env.locals->b∈X.fs->b∉ch->s.heap.get? b=some o->H b=none->∃sl,h'.get? b=some {o with slots:=sl}) (free:∀b o,b∉ch->s.heap.get? b=some o->H b=none->H' b=none)
  (there:∀b o,b∉ch->s.heap.get? b=some o->∃o',h'.get? b=some o')
  (tups:∀b xs,H b=some (.tup xs)->H' b=some (.tup xs)) (frzs:∀b o u,H b=some (.frz o u)->H' b=some (.frz o u)) (tbls:∀b ps,H b=some (.tbl ps)->∃more,H' b=some (.tbl (ps ++ more)))
  (ns:∀m,s.heap.Ns X.env.locals m->h'.Ns X.env.locals m) (hok:cg X.prog X.w H' h') (hg:AllBare g'):
  Inv X pins σ H' {s with heap:=h',gens:=g',drawn:=d',toks:=t'}:=by
 have neL:∀b o,X.s₀.heap.get? b=some o->b≠X.env.locals:=fun b o e=>xaq (xaf (xaj e) I.ok.above);have neC:∀b o,X.s₀.heap.get? b=some o->b∉X.ex->b∉ch:=fun b o e hx hb=>by
  rcases(hch b hb).1 with z |z
  ·exact hx z
  ·exact absurd (xaf (xaj e) z) (xa2 _)
 have cellK:∀x c,X.env.cells.lookup x=some c->∀v,s.heap.IsCell c v->h'.IsCell c v:=fun x c e v ⟨o,ho,hd⟩=>by
  have nch:c∉ch:=fun z=>(hch c z).2.2.1 x c e rfl;rcases I.freeC x c e with fc |⟨_,o',u',fc⟩
  ·by_cases hc:c∈X.fs
   ·obtain⟨sl,q⟩:=slot c o (I.cne x c e) hc nch ho fc;exact⟨_,q,hd⟩
   ·exact⟨o,keep c o (I.cne x c e) hc nch ho fc,hd⟩
  ·obtain⟨e1,_⟩:=I.hok c _ fc;obtain⟨e2,_⟩:=hok c _ (frzs c _ _ fc);rw[ho]at e1;cases e1;exact⟨o,e2,hd⟩
 refine⟨I.ok,I.os,hg,⟨fun b o e n hb hx=>?_,fun b o e n hb hx=>?_,fun b o e n hx=>?_,fun b o e hx=>?_,fun b xs e=>tups b xs (I.base.tups b xs e),fun b o xs e=>frzs b o xs (I.base.frzs b o xs e),fun b ps e=>?_⟩,?_,fun x c e=>?_,?_,fun x c e=>?_,fun p hp=>?_,hok,I.len⟩
 ·exact keep b o (neL b o e) hb (neC b o e hx) (I.base.keep b o e n hb hx) (I.base.free b o e n hx)
 ·obtain⟨sl,e1⟩:=I.base.slot b o e n hb hx;obtain⟨sl',e2⟩:=slot b _ (neL b o e) hb (neC b o e hx) e1 (I.base.free b o e n hx);exact⟨sl',e2⟩
 ·obtain⟨o',e1⟩:=I.base.there b o e hx;exact free b o' (neC b o e hx) e1 (I.base.free b o e n hx)
 ·obtain⟨o',e1⟩:=I.base.there b o e hx;exact there b o' (neC b o e hx) e1
 ·obtain⟨m1,e1⟩:=I.base.tbls b ps e;obtain⟨m2,e2⟩:=tbls b _ e1;exact⟨m1 ++ m2,by rw[e2,xdT]⟩
 ·obtain⟨m,hn,hl⟩:=I.loc;refine⟨m,ns m hn,fun i x v e1 e2 e3=>?_⟩;obtain⟨u,r,l⟩:=hl i x v e1 e2 e3;refine⟨u,r,?_⟩;rcases l with l |⟨k,c,e,z⟩
  ·exact .inl l
  ·exact .inr ⟨k,c,e,cellK x c e _ z⟩
 ·obtain⟨v,z⟩:=I.cell x c e;exact⟨v,cellK x c e v z⟩
 ·obtain⟨m,⟨o,_,_,ho,_⟩,_⟩:=I.loc;exact free _ o (fun z=>(hch _ z).2.1 rfl) ho I.free
 ·obtain⟨v,o,ho,hd⟩:=I.cell x c e;rcases I.freeC x c e with fc |⟨fn,o',u',fc⟩
  ·exact .inl (free c o (fun z=>(hch c z).2.2.1 x c e rfl) ho fc)
  ·exact .inr ⟨fn,o',u',frzs c _ _ fc⟩
 ·obtain⟨e,n,ne,nf,d⟩:=I.pin p hp;have nch:p.1∉ch:=fun z=>(hch p.1 z).2.2.2 p hp rfl;exact⟨keep p.1 p.2 ne nf nch e n,free p.1 p.2 nch e n,ne,nf,d⟩
theorem Inv.un {t':Nat}(I:Inv X pins σ H s)(u:Un X.fs [] H H' s.heap h')(hok:cg X.prog X.w H' h'):Inv X pins σ H' {s with heap:=h',toks:=t'}:=by
 obtain ⟨m, ⟨o, es, ep, ho, r⟩, _⟩ := id I.loc;obtain ⟨sl, hL⟩ := u.any ho I.free (by simp);exact I.step (g' := s.gens) (d' := s.drawn) (ch := []) (fun _ z => nomatch z) (fun b o _ hb _ e n => u.keep b o e n hb (by simp)) (fun b o _ hb _ e n => u.slot b o e n hb (by simp)) (fun b o _ e n => u.free b o e n (by simp)) (fun b o _ e => u.there b o e (by simp)) u.tups u.frzs u.tbls (fun m' hm=>by
  obtain⟨o',es',ep',ho',r'⟩:=hm;rw[ho]at ho';cases ho';exact⟨_,es',ep',hL,r'⟩) hok I.bare
theorem Inv.call {g':Array GenState}{t':Nat}{d':Drawn}{ch:List Addr}(I:Inv X pins σ H s)(u:Un (frs X.stack) ch H H' s.heap h')(hok:cg X.prog X.w H' h')(hg:AllBare g')
  (hch:∀b∈ch,(b∈X.ex\/X.s₀.heap.objs.size<=b)/\b≠X.env.locals/\(∀x c,X.env.cells.lookup x=some c->c≠b)/\∀p∈X.pn ++ pins,p.1≠b):
  Inv X pins σ H' {s with heap:=h',gens:=g',drawn:=d',toks:=t'}:=by
 obtain ⟨m, ⟨o, es, ep, ho, r⟩, _⟩ := id I.loc;obtain ⟨sl, hL⟩ := u.any ho I.free fun z => (hch _ z).2.1 rfl;exact I.step (ch := ch) hch (fun b o hL hb hc e n => u.keep b o e n (fun z => (xav.mp (I.stkSub b z)).elim hL hb) hc) (fun b o _ _ hc e n => u.any e n hc) (fun b o hc e n => u.free b o e n hc) (fun b o hc e => u.there b o e hc) u.tups u.frzs u.tbls (fun m' hm=>by
  obtain⟨o',es',ep',ho',r'⟩:=hm;rw[ho]at ho';cases ho';exact⟨_,es',ep',hL,r'⟩) hok hg
theorem Inv.turned {t':Nat}{it:Addr}(I:Inv X pins σ H s)(k:∀b o,b≠it->s.heap.get? b=some o->h'.get? b=some o)(hn:H it=none)(hL:it≠X.env.locals)
  (h1:it∈X.ex\/X.s₀.heap.objs.size<=it) (h2:∀x c,X.env.cells.lookup x=some c->c≠it) (h3:∀p∈X.pn ++ pins,p.1≠it):Inv X pins σ H {s with heap:=h',toks:=t'}:=by
 have nit:∀b u,H b=some u->b≠it:=fun b u e z=>by rw[z,hn]at e;cases e
 refine I.step (g':=s.gens) (d':=s.drawn) (ch:=[it]) (fun b hb=>?_) (fun b o _ _ hc e _=>k b o (fun z=>hc (by simp[z])) e) (fun b o _ _ hc e _=>⟨o.slots,k b o (fun z=>hc (by simp[z])) e⟩) (fun _ _ _ _ n=>n)
  (fun b o hc e=>⟨o,k b o (fun z=>hc (by simp[z])) e⟩) (fun _ _ e=>e) (fun _ _ _ e=>e) (fun b ps e=>⟨#[],by rw[e];simp⟩) (fun m hm=>?_) (fun b u e=>?_) I.bare
 ·have e:b=it:=by simpa using hb
  subst e;exact⟨h1,hL,h2,h3⟩
 ·obtain⟨o,es,ep,ho,r⟩:=hm;exact⟨o,es,ep,k _ o (xbB hL) ho,r⟩
 ·refine(I.hok b u e).stay (fun c v hc q=>k c v ?_ q) (fun _ q=>q) fun _ _ q=>q;rcases hc with z |z
  ·rw[z];exact nit b u e
  ·exact nit c _ z
theorem Inv.tok (I:Inv X pins σ H s)(t:Nat):Inv X pins σ H {s with toks:=t}:=I.un (h':=s.heap) (t':=t) Un.refl I.hok
theorem Inv.kept (I:Inv X pins σ H s)(k:∀b u,s.heap.get? b=some u->h'.get? b=some u):Inv X pins σ H {s with heap:=h',toks:=t'}:=I.un (Un.kept k) (I.hok.kept k)
theorem Inv.laid (I:Inv X pins σ H s)(k:∀b u,s.heap.get? b=some u->h'.get? b=some u)(hp:s.heap.objs.size<=a)(new:cO X.prog X.w (upd H a o) h' a o):
  Inv X pins σ (upd H a o) {s with heap:=h',toks:=t'}:=I.un (Un.laid k hp (I.hok.fresh hp)) (I.hok.laid k hp new)
theorem Inv.write (I:Inv X pins σ H s)(mu:zK (H x))(he:e=x\/H e=some (.own x))(k:∀b u,b≠e->s.heap.get? b=some u->h'.get? b=some u)(heo:∃u,h'.get? e=some u)
  (new:cO X.prog X.w (upd H x o) h' x o):Inv X pins σ (upd H x o) {s with heap:=h',toks:=t'}:=I.un (Un.write mu he k heo) (I.hok.write mu he k heo new)
theorem Inv.pins_of (I:Inv X pins σ H s)(h:∀p∈pins',s.heap.get? p.1=some p.2/\H p.1=none/\p.1≠X.env.locals/\p.1∉X.fs/\∀v,p.2.data≠ .cell v):Inv X pins' σ H s:=
 ⟨I.ok,I.os,I.bare,I.base,I.loc,I.cell,I.free,I.freeC,fun p hp=>(xbd.mp hp).elim (fun z=>I.pin p (xdG _ z)) (h p),I.hok,I.len⟩
theorem Ov {N:List Str}(hN:N.Nodup){i j:Nat}{x:Str}(a:N[i]? =some x)(b:N[j]? =some x):i=j:=by
 obtain⟨h1,e1⟩:=xak.mp a;obtain⟨h2,e2⟩:=xak.mp b;exact(List.getElem_inj hN).mp (e1.trans e2.symm)
theorem zaR {M:Model}{A:Around}{E:Value->Shared->Prop}{i:Nat}{x:Str}{v:V}{u:Value}{Q:Unit->Shared->Prop}(I:Inv X pins σ H s)(hN:X.N.Nodup)(hi:X.N[i]? =some x)(hx:Loc X.env.scope x)(r:RelV v u)
    (h:∀s',Inv X pins (σ.set i (some v)) H s'->(∃a,Heap.SameBut a s.heap s'.heap/\(a=X.env.locals\/X.env.cells.lookup x=some a))->Q () s') (hf:X.fn x=true\/X.env.scope.names.lookup x=some .local:=by first |exact .inl rfl |exact .inr rfl |assumption):wpAny M A (storeName X.env x u) Q E s:=by
  obtain⟨m,hn,hl⟩:=id I.loc;have hcls:(X.env.scope.kind==.class || (X.env.scope.kind==.module && X.env.locals !=X.env.globals))=false:=by rw[I.ok.kind];rfl
  have hiσ:i<σ.length:=by rw[I.len];exact(xak.mp hi).1
  have cne:=I.cne;have tracked:∀{a:Addr} {h':Heap},(∃o,s.heap.get? a=some o/\H a=none)->Heap.SameBut a s.heap h'->cg X.prog X.w H h':=fun {a h'} ha hs b ob e=>by
    obtain⟨_,_,hfree⟩:=ha;refine(I.hok b ob e).stay (fun c w' hc q=>(hs.2 c ?_).trans q) (fun _ q=>q) fun _ _ q=>q;rintro rfl;rcases hc with rfl |hc
    · rw[hfree]at e;cases e
    · rw[hfree]at hc;cases hc
  rcases hx with hk |hk
  · refine wpAny_storeName_local hk hn (fun h' hn' hs=>?_) hcls;obtain⟨oL,_,_,hoL,_⟩:=id hn;refine h _ ⟨I.ok,I.os,I.bare,⟨fun b o e n hb hx=>?_,fun b o e n hb hx=>?_,I.base.free,fun b o e hx=>?_,I.base.tups,I.base.frzs,I.base.tbls⟩,⟨_,hn',fun j y v' e1 e2 e3=>?_⟩,fun y c e=>?_,I.free,I.freeC,fun p hp=>?_,tracked ⟨oL,hoL,I.free⟩ hs,by simpa using I.len⟩ ⟨_,hs,.inl rfl⟩
    · exact(hs.2 b (xaq (xaf (xaj e) I.ok.above))).trans (I.base.keep b o e n hb hx)
    · obtain⟨sl,e1⟩:=I.base.slot b o e n hb hx;exact⟨sl,(hs.2 b (xaq (xaf (xaj e) I.ok.above))).trans e1⟩
    · obtain⟨o',e1⟩:=I.base.there b o e hx;exact⟨o',(hs.2 b (xaq (xaf (xaj e) I.ok.above))).trans e1⟩
    · by_cases hj:j=i
      · subst hj;rw[hi]at e1;cases e1;rw[xcq hiσ]at e2;cases e2;exact⟨u,r,.inl ⟨hk,by simp⟩⟩
      · rw[xcD (xbB hj)]at e2;obtain⟨u',r',q⟩:=hl j y v' e1 e2 e3;refine⟨u',r',?_⟩;rcases q with⟨k,e⟩ |⟨k,c,e,z⟩
        · refine .inl ⟨k,?_⟩;have:y≠x:=fun e=>hj (Ov hN e1 (e ▸ hi))
          simp[this,e]
        · exact .inr ⟨k,c,e,z.sameBut hs (cne y c e)⟩
    · obtain⟨w',z⟩:=I.cell y c e;exact⟨w',z.sameBut hs (cne y c e)⟩
    · obtain⟨e,n,ne,nf,d⟩:=I.pin p hp;exact⟨(hs.2 p.1 ne).trans e,n,ne,nf,d⟩
  · have hfn:X.fn x=true:=by
      rcases hf with z |z
      · exact z
      · rw[z]at hk;cases hk
    obtain⟨c,hc⟩:=I.ok.has x (.inl hk);obtain⟨w',z⟩:=I.cell x c hc;refine wpAny_storeName_cell I.ok.kind hk hc z (fun h' hc' hs=>?_);obtain⟨oc,hoc,hocd⟩:=id z;refine h {s with heap:=h'} ⟨I.ok,I.os,I.bare,⟨fun b o e n hb hx=>?_,fun b o e n hb hx=>?_,I.base.free,fun b o e hx=>?_,I.base.tups,I.base.frzs,I.base.tbls⟩,⟨m,hn.sameBut hs (xbB (cne x c hc)),fun j y v' e1 e2 e3=>?_⟩,fun y c' e=>?_,I.free,I.freeC,fun p hp=>?_,tracked ⟨oc,hoc,(I.freeC x c hc).resolve_right fun z=>by rw[z.1]at hfn;cases hfn⟩ hs,by simpa using I.len⟩ ⟨c,hs,.inr hc⟩
    · exact(hs.2 b (xaq (xaf (xaj e) (I.ok.cab x c hfn hc)))).trans (I.base.keep b o e n hb hx)
    · obtain⟨sl,e1⟩:=I.base.slot b o e n hb hx;exact⟨sl,(hs.2 b (xaq (xaf (xaj e) (I.ok.cab x c hfn hc)))).trans e1⟩
    · obtain⟨o',e1⟩:=I.base.there b o e hx;exact⟨o',(hs.2 b (xaq (xaf (xaj e) (I.ok.cab x c hfn hc)))).trans e1⟩
    · by_cases hj:j=i
      · subst hj;rw[hi]at e1;cases e1;rw[xcq hiσ]at e2;cases e2;exact⟨u,r,.inr ⟨.inl hk,c,hc,hc'⟩⟩
      · rw[xcD (xbB hj)]at e2;obtain⟨u',r',q⟩:=hl j y v' e1 e2 e3;refine⟨u',r',?_⟩;rcases q with q |⟨k,c',e,z'⟩
        · exact .inl q
        · refine .inr ⟨k,c',e,z'.sameBut hs ?_⟩;rintro rfl;exact hj (Ov hN e1 (I.ok.inj _ _ _ e hc ▸ hi))
    · by_cases hcc:c'=c
      · subst hcc;exact⟨_,hc'⟩
      · obtain⟨w2,z2⟩:=I.cell y c' e;exact⟨w2,z2.sameBut hs hcc⟩
    · obtain⟨e,n,ne,nf,d⟩:=I.pin p hp;refine⟨(hs.2 p.1 ?_).trans e,n,ne,nf,d⟩;intro q;rw[q,hoc]at e;have q':oc=p.2:=xay e;exact d w' (by rw[<-q'];exact hocd)
theorem CT (I:Inv X pins σ H s)(hN:X.N.Nodup)(hi:X.N[i]? =some x)(hx:Loc X.env.scope x)(r:RelV v u)
  (h:∀s',Inv X pins (σ.set i (some v)) H s'->Q () s') (hf:X.fn x=true\/X.env.scope.names.lookup x=some .local:=by first |exact .inl rfl |exact .inr rfl |assumption):wpAny M A (storeName X.env x u) Q E s:=
 zaR I hN hi hx r (fun s' I' _=>h s' I') hf
theorem Inv.call' (I:Inv X pins σ H s)(ho:s'.os=s.os)(u:Un (frs X.stack) ch H H' s.heap s'.heap)(hok:cg X.prog X.w H' s'.heap)(hg:AllBare s'.gens)
  (hch:∀b∈ch,(b∈X.ex\/X.s₀.heap.objs.size<=b)/\b≠X.env.locals/\(∀x c,X.env.cells.lookup x=some c->c≠b)/\∀p∈X.pn ++ pins,p.1≠b):Inv X pins σ H' s':=by
 obtain⟨h',g',d',t',o'⟩:=s';have e:o'=s.os:=ho;subst e;exact I.call (g':=g') (t':=t') (d':=d') u hok hg hch
end
abbrev XK:=Value->Option Addr->Hp->Prop
abbrev St:=List (Option V)
abbrev VK:=V->Hp->Prop
abbrev TE:=St->Hp->VK->Prop
abbrev TT:=St->Hp->(Bool->Hp->Prop)->Prop
abbrev TA:=St->Hp->(List V->Hp->Prop)->Prop
structure Ends where
 nx:St->Hp->Prop
 rt:VK
 bk:St->Hp->Prop:=fun _ _=>False
 ct:St->Hp->Prop:=fun _ _=>False
abbrev TS:=Ends->St->Hp->Prop
def EP (X:Cx)(pins:Pnx)(σ:St)(Q:VK)(u:Value)(s':Shared):Prop:=∃v H',Inv X pins σ H' s'/\RelV v u/\Q v H'
def TP (X:Cx)(pins:Pnx)(σ:St)(Q:Bool->Hp->Prop)(b:Bool)(s':Shared):Prop:=∃H',Inv X pins σ H' s'/\Q b H'
def AP (X:Cx)(pins:Pnx)(σ:St)(Q:List V->Hp->Prop)(us:List Value)(s':Shared):Prop:=∃vs H',Inv X pins σ H' s'/\Vals vs us/\Q vs H'
def SP (X:Cx)(pins:Pnx)(D:Ends)(f:Flow)(s':Shared):Prop:=
 match f with
 |.next=>∃σ' H',Inv X pins σ' H' s'/\D.nx σ' H'
 |.brk=>∃σ' H',Inv X pins σ' H' s'/\D.bk σ' H'
 |.cont=>∃σ' H',Inv X pins σ' H' s'/\D.ct σ' H'
 |.ret u=>∃v σ' H',Inv X pins σ' H' s'/\RelV v u/\D.rt v H'
def PE (X:Cx)(e:Expr)(t:TE):Prop:=
 ∀(pins:Pnx) (s:Shared) (σ:St) (H:Hp) (Q:VK),Inv X pins σ H s->t σ H Q->wpAny (model X.prog X.w) X.A (eval e X.env) (EP X pins σ Q) X.xe s
def PT (X:Cx)(e:Expr)(t:TT):Prop:=
 ∀(pins:Pnx) (s:Shared) (σ:St) (H:Hp) (Q:Bool->Hp->Prop),Inv X pins σ H s->t σ H Q->wpAny (model X.prog X.w) X.A (isTrue e X.env (eval e X.env)) (TP X pins σ Q) X.xe s
def PW (X:Cx)(e:Expr)(t:TT):Prop:=
 ∀(whole:Sem Value) (pins:Pnx) (s:Shared) (σ:St) (H:Hp) (Q:Bool->Hp->Prop),Inv X pins σ H s->t σ H Q->wpAny (model X.prog X.w) X.A (isTrue e X.env whole) (TP X pins σ Q) X.xe s
theorem PW.pt (h:PW X e t):PT X e t:=h _
def PA (X:Cx)(es:List Expr)(t:TA):Prop:=
 ∀(pos:Pos) (pins:Pnx) (s:Shared) (σ:St) (H:Hp) (Q:List V->Hp->Prop),Inv X pins σ H s->t σ H Q->wpAny (model X.prog X.w) X.A (spliced (backTo pos (starEach es X.env))) (AP X pins σ Q) X.xe s
def PS (X:Cx)(st:Stmt)(t:TS):Prop:=
 ∀(pins:Pnx) (s:Shared) (σ:St) (H:Hp) (D:Ends),Inv X pins σ H s->t D σ H->wpAny (model X.prog X.w) X.A (exec st X.env) (SP X pins D) X.xe s
def gw (X:Cx)(st:List Stmt)(t:TS):Prop:=
 ∀(pins:Pnx) (s:Shared) (σ:St) (H:Hp) (D:Ends),Inv X pins σ H s->t D σ H->wpAny (model X.prog X.w) X.A (execs st X.env) (SP X pins D) X.xe s
theorem aN (h:wpAny M A t Q E s)(hQ:∀a s,Q a s->Q' a s):wpAny M A t Q' E s:=xaN h hQ fun _ _ x=>x
section
variable {X:Cx}
def Ku (i:Nat):TE:=fun σ H Q=>∃v,σ[i]? =some (some v)/\Q v H
def tC (v:V):TE:=fun _ H Q=>Q v H
theorem Bg (hN:X.N[i]? =some x)(hv:tQ X.env.scope x)(hd:(x==("__debug__":Str))=false:=by decide)(hcd:(x==("__classdict__":Str))=false:=by decide):PE X (.Name x pos) (Ku i):=by
 intro pins s σ H Q I h;obtain⟨v,e,h⟩:=h;obtain⟨m,hn,hl⟩:=I.loc;obtain⟨u,r,l⟩:=hl i x v hN e hv;have fin:EP X pins σ Q u s:=⟨v,H,I,r,h⟩;rcases l with⟨hk,hm⟩ |⟨hk,c,hc,hcell⟩
 ·exact wpAny_Name (wpAny_loadName_local I.ok.kind hk hn hm fin) hd
 ·rcases hk with hk |hk
  ·exact wpAny_Name (wpAny_loadName_cell I.ok.kind hk hc hcell fin) hd
  ·exact wpAny_Name (wpAny_loadName_free I.ok.kind hk hc hcell fin hcd) hd
theorem Y9 {i j pos}:PE X (.Constant (.int i) j pos) (tC (.int i)):=fun _ _ _ H _ I h=>wpAny_Constant_int ⟨.int i,H,I.tok _,⟨_,rfl⟩,h⟩
theorem YT {b j pos}:PE X (.Constant (.bool b) j pos) (tC (.bl b)):=fun _ _ _ H _ I h=>Constant_bool ⟨.bl b,H,I,rfl,h⟩
theorem Zi {x j pos}:PE X (.Constant (.str x) j pos) (tC (.str x)):=fun _ _ _ H _ I h=>Calls.Constant_str ⟨.str x,H,I.tok _,⟨_,rfl⟩,h⟩
def Gl (X:Cx)(x:Str):Prop:=X.env.kindOf x=some .globalImplicit
theorem rY (I:Inv X pins σ H s)(hg:Gl X x)(hm:X.mg x=some u)(h:Q u s)
  (hd:(x==("__debug__":Str))=false:=by decide):wpAny (model X.prog X.w) X.A (eval (.Name x pos) X.env) Q E s:=
 xc4 I.ok.kind hg (Calls.loadGlobal_global (by rw[I.ok.glob];exact I.mod.glob.keeps I.bk) hm h) hd
theorem rW (I:Inv X pins σ H s)(hg:Gl X x)(hm:X.mg x=none)(hv:bootBuiltins x=some u)(h:Q u s)
  (hn:x≠"__name__":=by decide) (hd:(x==("__debug__":Str))=false:=by decide):wpAny (model X.prog X.w) X.A (eval (.Name x pos) X.env) Q E s:=by
 obtain⟨mb,h1,h2⟩:=I.mod.blt;exact xc4 I.ok.kind hg (Calls.loadGlobal_builtin (by rw[I.ok.glob];exact I.mod.glob.keeps I.bk) hm (by rw[I.ok.blt];exact h1.keeps I.bk) ((h2 x hn).trans hv) h) hd
theorem yr (hg:Gl X x)(hm:X.mg x=some u)(r:RelV v u)(hd:(x==("__debug__":Str))=false:=by decide):PE X (.Name x pos) (tC v):=
 fun _ _ _ H _ I h=>rY I hg hm ⟨v,H,I,r,h⟩ hd
theorem YW (hg:Gl X x)(hm:X.mg x=none)(hv:bootBuiltins x=some u)(r:RelV v u)(hn:x≠"__name__":=by decide)(hd:(x==("__debug__":Str))=false:=by decide):PE X (.Name x pos) (tC v):=
 fun _ _ _ H _ I h=>rW I hg hm hv ⟨v,H,I,r,h⟩ hn hd
variable {a b:Expr}{ta tb:TE}{pos:Pos}
def PC (X:Cx)(op:CmpOp)(a b:Expr)(t:TE):Prop:=
 ∀(pins:Pnx) (s:Shared) (σ:St) (H:Hp) (Q:VK),Inv X pins σ H s->t σ H Q->
  wpAny (model X.prog X.w) X.A (eval a X.env) (fun v s₁=>wpAny (model X.prog X.w) X.A (eval b X.env) (fun u s₂=>wpAny (model X.prog X.w) X.A (compareOp op v u) (EP X pins σ Q) X.xe s₂) X.xe s₁) X.xe s
def tB (t:TE):TT:=fun σ H Q=>t σ H fun x H1=>∃c,x=.bl c/\Q c H1
theorem Z2 (h:PC X op a b t)(h1:behindInMarks op b=false:=by first |exact nobehind _ (by decide) (by decide) |rfl):PT X (.Compare a [op] [b] pos) (tB t):=by
 intro pins s σ H Q I hw;refine wpAny_isTrue_Compare1 (aN (h pins s σ H _ I hw) fun v s1 h1=>aN h1 fun u s2 h2=>aN h2 fun c s3 ⟨x,H1,I1,r1,q1⟩=>?_) h1;obtain⟨d,rfl,q⟩:=q1;cases r1;exact xbb ⟨H1,I1,q⟩
variable {tA tB':TT}{rest:List Expr}
noncomputable def J_ (t u:TT):TT:=fun σ H Q=>t σ H fun c H1=>if c=true then u σ H1 Q else Q false H1
noncomputable def tOr (t u:TT):TT:=fun σ H Q=>t σ H fun c H1=>if c=true then Q true H1 else u σ H1 Q
def Ko (t:TT):TT:=fun σ H Q=>t σ H fun c H1=>Q (!c) H1
theorem zbE (ha:PT X a tA):PW X (.BoolOp .And [a] pos) tA:=by
 intro wh pins s σ H Q I h;refine isTrue_and (aN (ha pins s σ H Q I h) fun c s1 e=>?_)
 cases c with
 |true=>exact isTrue_and_nil e
 |false=>exact e
theorem zcM (ha:PT X a tA):PW X (.BoolOp .Or [a] pos) tA:=by
 intro wh pins s σ H Q I h;refine isTrue_or (aN (ha pins s σ H Q I h) fun c s1 e=>?_)
 cases c with
 |false=>exact isTrue_or_nil e
 |true=>exact e
theorem zcf (ha:PT X a tA)(hb:PW X (.BoolOp .And (b::rest) pos) tB'):PW X (.BoolOp .And (a::b::rest) pos) (J_ tA tB'):=by
 intro wh pins s σ H Q I h;refine isTrue_and (aN (ha pins s σ H _ I h) fun c s1 ⟨H1,I1,q1⟩=>?_)
 cases c with
 |true=>exact hb wh pins s1 σ H1 Q I1 q1
 |false=>exact⟨H1,I1,q1⟩
theorem zd4 (ha:PT X a tA)(hb:PW X (.BoolOp .Or (b::rest) pos) tB'):PW X (.BoolOp .Or (a::b::rest) pos) (tOr tA tB'):=by
 intro wh pins s σ H Q I h;refine isTrue_or (aN (ha pins s σ H _ I h) fun c s1 ⟨H1,I1,q1⟩=>?_)
 cases c with
 |true=>exact⟨H1,I1,q1⟩
 |false=>exact hb wh pins s1 σ H1 Q I1 q1
theorem Z5 (ha:PT X a tA):PT X (.UnaryOp .Not a pos) (Ko tA):=by
 intro pins s σ H Q I h;exact isTrue_not (ha pins s σ H (fun c H1=>Q (!c) H1) I h)
noncomputable def zdY (ta tb:TE):TE:=fun σ H Q=>ta σ H fun x H1=>∃c,x=.bl c/\if c=true then tb σ H1 Q else Q (.bl false) H1
noncomputable def Kp (ta tb:TE):TE:=fun σ H Q=>ta σ H fun x H1=>∃c,x=.bl c/\if c=true then Q (.bl true) H1 else tb σ H1 Q
theorem Ze {op}(h:PE X a t):PE X (.BoolOp op [a] pos) t:=fun pins s σ H Q I hw=>BoolOp_one (h pins s σ H Q I hw)
theorem YS (ha:PE X a ta)(hb:PE X (.BoolOp .And (b::rest) pos) tb):PE X (.BoolOp .And (a::b::rest) pos) (zdY ta tb):=by
 intro pins s σ H Q I h;refine BoolOp_and (aN (ha pins s σ H _ I h) fun v s1 ⟨x,H1,I1,r1,q1⟩=>?_);obtain⟨c,rfl,q1⟩:=q1;cases r1;refine xbb ?_
 cases c with
 |true=>exact hb pins s1 σ H1 Q I1 q1
 |false=>exact⟨.bl false,H1,I1,rfl,q1⟩
theorem Zg (ha:PE X a ta)(hb:PE X (.BoolOp .Or (b::rest) pos) tb):PE X (.BoolOp .Or (a::b::rest) pos) (Kp ta tb):=by
 intro pins s σ H Q I h;refine BoolOp_or (aN (ha pins s σ H _ I h) fun v s1 ⟨x,H1,I1,r1,q1⟩=>?_);obtain⟨c,rfl,q1⟩:=q1;cases r1;refine xbb ?_
 cases c with
 |false=>exact hb pins s1 σ H1 Q I1 q1
 |true=>exact⟨.bl true,H1,I1,rfl,q1⟩
noncomputable def tIf (t:TT) (ta tb:TE):TE:=fun σ H Q=>t σ H fun c H1=>if c=true then ta σ H1 Q else tb σ H1 Q
theorem Y8 (hc:PT X c tA)(ha:PE X a ta)(hb:PE X b tb):PE X (.IfExp c a b pos) (tIf tA ta tb):=by
 intro pins s σ H Q I h;refine wpAny_IfExp (aN (hc pins s σ H _ I h) fun d s1 ⟨H1,I1,q1⟩=>?_)
 cases d with
 |true=>exact ha pins s1 σ H1 Q I1 q1
 |false=>exact hb pins s1 σ H1 Q I1 q1
end
def bF (K:Fgx)(H:Hp)(a:Addr)(xs:List V):Prop:=
 Rd H a (.lst xs)\/
  ∃(o:Obj) (its:Array Value) (n:Nat),K.lookup a=some o/\o.cls=.type "list"/\o.dict=none/\o.data=.seq its n/\its.size<=sizeLine/\Vals xs its.toList
def cU (K:Fgx)(H:Hp)(a:Addr)(xs:List V):Prop:=
 Rd H a (.tup xs)\/
  ∃(o:Obj) (its:Array Value) (n:Nat),K.lookup a=some o/\o.cls=.type "tuple"/\o.data=.seq its n/\its.size<=sizeLine/\Vals xs its.toList
noncomputable def DP:Value->Option V
 |.none=>some .non
 |.bool b=>some (.bl b)
 |.int i _=>some (.int i)
 |.str x _=>some (.str x)
 |.bytes b _=>some (.byt b)
 |.float b _=>some (.flt b)
 |.ref a=>some (.ref a)
 |.type n=>some (.ty n)
 |_=>none
theorem RelV.abs (r:RelV x u):DP u=some x:=by
 cases x with
 |non=>cases r;rfl
 |bl _=>cases r;rfl
 |int _=>obtain⟨t,rfl⟩:=r;rfl
 |str _=>obtain⟨t,rfl⟩:=r;rfl
 |byt _=>obtain⟨t,rfl⟩:=r;rfl
 |flt _=>obtain⟨t,rfl⟩:=r;rfl
 |ref _=>cases r;rfl
 |ty _=>cases r;rfl
theorem RelV.inj (r:RelV x u)(q:RelV y u):x=y:=xay (r.abs.symm.trans q.abs)
theorem Vals.inj:∀{xs ys:List V} {us:List Value},Vals xs us->Vals ys us->xs=ys
 |_,_,_,.nil,.nil=>rfl
 |_,_,_,.cons r t,.cons r' t'=>by rw[r.inj r',Vals.inj t t']
section
variable {X:Cx}{pins:Pnx}{σ:St}{H:Hp}{s:Shared}{a:Addr}{xs ys:List V}
theorem Inv.list (I:Inv X pins σ H s)(h:bF X.K H a xs):∃its:List Value,Vals xs its/\PlainL s.heap a its.toArray/\xs.length<=sizeLine:=by
 rcases h with h |⟨o,its,n,hk,hc,hd,hs,hz,r⟩
 ·obtain⟨z,its,n,r,e⟩:=h.ok I.hok;exact⟨its,r,⟨_,n,e,rfl,rfl,rfl⟩,z⟩
 ·refine⟨its.toList,r,⟨o,n,I.kIn a o hk,hc,hd,by simpa using hs⟩,?_⟩;have e:=r.length;simp only[xaY]at e;omega
theorem Inv.tuple (I:Inv X pins σ H s)(h:cU X.K H a xs):∃its:List Value,Vals xs its/\IsTup s.heap a its.toArray/\xs.length<=sizeLine:=by
 rcases h with h |⟨o,its,n,hk,hc,hs,hz,r⟩
 ·obtain⟨z,its,r,p⟩:=h.ok I.hok;exact⟨its,r,p,z⟩
 ·refine⟨its.toList,r,⟨o,I.kIn a o hk,hc,n,by simpa using hs⟩,?_⟩;have e:=r.length;simp only[xaY]at e;omega
theorem Inv.list_inj (I:Inv X pins σ H s)(h:bF X.K H a xs)(h':bF X.K H a ys):xs=ys:=by
 obtain⟨its,r,⟨o,n,e,_,_,d⟩,_⟩:=I.list h;obtain⟨its',r',⟨o',n',e',_,_,d'⟩,_⟩:=I.list h';rw[e]at e';cases e';rw[d]at d'
 injection d' with d1 _
 have:its=its':=by simpa using congrArg Array.toList d1
 subst this;exact r.inj r'
theorem Inv.tuple_inj (I:Inv X pins σ H s)(h:cU X.K H a xs)(h':cU X.K H a ys):xs=ys:=by
 obtain⟨its,r,⟨o,e,_,n,d⟩,_⟩:=I.tuple h;obtain⟨its',r',⟨o',e',_,n',d'⟩,_⟩:=I.tuple h';rw[e]at e';cases e';rw[d]at d'
 injection d' with d1 _
 have:its=its':=by simpa using congrArg Array.toList d1
 subst this;exact r.inj r'
end
abbrev Cx.wish (X:Cx)(E:Value->Shared->Prop):Cx:={X with xe:=E}
abbrev Cx.nox (X:Cx):Cx:=X.wish fun _ _=>False
theorem Cx.Ok.wish {X:Cx}(ok:X.Ok)(E:Value->Shared->Prop):(X.wish E).Ok:=
 ⟨ok.mod,ok.kind,ok.glob,ok.blt,ok.above,ok.inj,ok.has,ok.cab,ok.hd,ok.frames,ok.stk,ok.exf,ok.bs,ok.bsz,ok.noex,ok.exfs,ok.funs,ok.frf⟩
theorem Cx.Ok.unwish {X:Cx}{E:Value->Shared->Prop}(ok:(X.wish E).Ok):X.Ok:=
 ⟨ok.mod,ok.kind,ok.glob,ok.blt,ok.above,ok.inj,ok.has,ok.cab,ok.hd,ok.frames,ok.stk,ok.exf,ok.bs,ok.bsz,ok.noex,ok.exfs,ok.funs,ok.frf⟩
section
variable {X:Cx}{pins:Pnx}{σ:St}{H:Hp}{s:Shared}{E:Value->Shared->Prop}
theorem Inv.wish (I:Inv X pins σ H s)(E:Value->Shared->Prop):Inv (X.wish E) pins σ H s:=⟨I.ok.wish E,I.os,I.bare,I.base,I.loc,I.cell,I.free,I.freeC,I.pin,I.hok,I.len⟩
theorem Inv.unwish (I:Inv (X.wish E) pins σ H s):Inv X pins σ H s:=⟨I.ok.unwish,I.os,I.bare,I.base,I.loc,I.cell,I.free,I.freeC,I.pin,I.hok,I.len⟩
theorem SP.unwish (h:SP (X.wish E) pins D f s'):SP X pins D f s':=by
 cases f with
 |next=>obtain⟨σ',H',I,q⟩:=h;exact⟨σ',H',I.unwish,q⟩
 |brk=>obtain⟨σ',H',I,q⟩:=h;exact⟨σ',H',I.unwish,q⟩
 |cont=>obtain⟨σ',H',I,q⟩:=h;exact⟨σ',H',I.unwish,q⟩
 |ret u=>obtain⟨v,σ',H',I,r,q⟩:=h;exact⟨v,σ',H',I.unwish,r,q⟩
theorem gw.nox {st:List Stmt}{t:TS}(h:gw X.nox st t):gw X st t:=fun pins s σ H D I hw=>
 xaN (h pins s σ H D (I.wish _) hw) (fun _ _ q=>q.unwish) fun _ _ z=>False.elim z
end
section
variable {X:Cx}{st:Stmt}{rest:List Stmt}{t u:TS}{e:Expr}{te:TE}{pos:Pos}
def zeq:TS:=fun D σ H=>D.nx σ H
def zA (t u:TS):TS:=fun D σ H=>t {D with nx:=u D} σ H
theorem Z0:gw X [] zeq:=fun _ _ σ H _ I h=>wpAny_execs_nil ⟨σ,H,I,h⟩
theorem ZX (h1:PS X st t)(h2:gw X rest u):gw X (st::rest) (zA t u):=by
  intro pins s σ H D I h;refine xcx (aN (h1 pins s σ H {D with nx:=u D} I h) fun f s1 q=>?_)
  cases f with
  |next=>
    obtain⟨σ',H',I',q⟩:=q;exact h2 pins s1 σ' H' D I' q
  |ret v=>exact q
  |brk=>exact q
  |cont=>exact q
theorem Inv.quiet (I:Inv X pins σ H s):interactive X.env=false:=by simp[interactive,I.ok.kind]
def zdG (te:TE):TS:=fun D σ H=>te σ H fun _ H1=>D.nx σ H1
theorem Bj (he:PE X e te)(hs:swapsWith e none pos.line X.env=pure false:=by rfl):PS X (.Expr e pos) (zdG te):=by
 intro pins s σ H D I h;exact wpAny_Expr_any (aN (he pins s σ H _ I h) fun v s1 ⟨x,H1,I1,r1,q1⟩=>⟨σ,H1,I1,q1⟩) I.quiet hs
def Kq (te:TE):TS:=fun D σ H=>te σ H D.rt
theorem ZW (he:PE X e te):PS X (.Return (some e) pos) (Kq te):=by
 intro pins s σ H D I h;exact wpAny_Return_some (aN (he pins s σ H _ I h) fun v s1 ⟨x,H1,I1,r1,q1⟩=>⟨x,σ,H1,I1,r1,q1⟩)
noncomputable def Kh (c:TT) (t u:TS):TS:=fun D σ H=>c σ H fun b H1=>if b=true then t D σ H1 else u D σ H1
theorem ZS (hc:PT X c tc)(ha:gw X a t)(hb:gw X b u):PS X (.If c a b pos) (Kh tc t u):=by
 intro pins s σ H D I h;refine wpAny_If (aN (hc pins s σ H _ I h) fun d s1 ⟨H1,I1,q1⟩=>?_)
 cases d with
 |true=>exact ha pins s1 σ H1 D I1 q1
 |false=>exact hb pins s1 σ H1 D I1 q1
end
abbrev TG:=V->St->Hp->(St->Hp->Prop)->Prop
abbrev wB:=List V->St->Hp->(St->Hp->Prop)->Prop
def PG (X:Cx)(target:Expr)(t:TG):Prop:=
 ∀(pins:Pnx) (s:Shared) (σ:St) (H:Hp) (v:V) (u:Value) (Q:St->Hp->Prop),Inv X pins σ H s->RelV v u->t v σ H Q->
  wpAny (model X.prog X.w) X.A (assign target X.env u) (fun _ s'=>∃σ' H',Inv X pins σ' H' s'/\Q σ' H') X.xe s
def wA (X:Cx)(ts:List Expr)(t:wB):Prop:=
 ∀(pins:Pnx) (s:Shared) (σ:St) (H:Hp) (vs:List V) (us:List Value) (Q:St->Hp->Prop),Inv X pins σ H s->Vals vs us->t vs σ H Q->
  wpAny (model X.prog X.w) X.A (assignInOrder ((assignEach ts X.env).map (·.2)) us) (fun _ s'=>∃σ' H',Inv X pins σ' H' s'/\Q σ' H') X.xe s
section
variable {X:Cx}{pos:Pos}
def FN (i:Nat):TG:=fun v σ H Q=>Q (σ.set i (some v)) H
theorem O4 (hN:X.N.Nodup)(hi:X.N[i]? =some x)(hx:Loc X.env.scope x)(hf:X.fn x=true\/X.env.scope.names.lookup x=some .local:=by first |exact .inl rfl |exact .inr rfl |assumption):PG X (.Name x pos) (FN i):=by
 intro pins s σ H v u Q I r h;exact wpAny_assign_Name (CT I hN hi hx r (fun s' I'=>⟨_,H,I',h⟩) hf)
def FP:wB:=fun vs σ H Q=>vs=[]/\Q σ H
noncomputable def U7 (t:TG) (u:wB):wB:=fun vs σ H Q=>∃v r,vs=v::r/\t v σ H fun σ' H'=>u r σ' H' Q
theorem Zn:wA X [] FP:=by
 intro pins s σ H vs us Q I r h;obtain⟨e,h⟩:=h;subst e;cases r;exact assignInOrder_nil ⟨σ,H,I,h⟩
theorem Zm (h1:PG X e t)(h2:wA X es u)
    (hs:(assignEach (e::es) X.env).map (·.2)=assign e X.env::(assignEach es X.env).map (·.2):=by rfl):wA X (e::es) (U7 t u):=by
  intro pins s σ H vs us Q I r h;obtain⟨v,vr,e1,h⟩:=h;subst e1
  cases r with
  |cons r rr=>
    rw[hs];refine assignInOrder_cons (aN (h1 pins s σ H _ _ _ I r h) fun _ s1 ⟨σ1,H1,I1,q1⟩=>?_);exact h2 pins s1 σ1 H1 _ _ Q I1 rr q1
noncomputable def FQ (K:Fgx) (n:Nat) (t:wB):TG:=fun v σ H Q=>∃a xs,v=.ref a/\cU K H a xs/\xs.length=n/\t xs σ H Q
theorem O5 (hc:X.calm=true)(h:wA X es t)
  (hn:(assignEach es X.env).length=n:=by rfl) (hst:(assignEach es X.env).findIdx? (·.1)=none:=by rfl):PG X (.Tuple es k pos) (FQ X.K n t):=by
 intro pins s σ H v u Q I r hw;obtain⟨a,xs,e1,hq,hl,hw⟩:=hw;subst e1;cases r;obtain⟨its,rv,ht,hz⟩:=I.tuple hq;refine assign_Tuple_tuple (I.ok.hd hc) ht (by simp[hn, <-hl,rv.length]) hst fun h' hx=>?_;have I1:Inv X pins σ H {s with heap:=h'}:=I.kept (t':=s.toks) fun b o e=>hx b o (xaq (xaj e)) e;exact h pins _ σ H xs _ Q I1 (by simpa using rv) hw
noncomputable def Ka (te:TE) (g:TG):TS:=fun D σ H=>te σ H fun x H1=>g x σ H1 D.nx
theorem Pb (hN:X.N.Nodup)(hi:X.N[i]? =some x)(hx:Loc X.env.scope x)(he:PE X e te)(hs:swapsWith e (some (.Name x pos')) pos.line X.env=pure false:=by rfl)(hf:X.fn x=true\/X.env.scope.names.lookup x=some .local:=by first |exact .inl rfl |exact .inr rfl |assumption):
  PS X (.Assign [.Name x pos'] e pos) (Ka te (FN i)):=by
 intro pins s σ H D I h;refine wpAny_Assign_Name (aN (he pins s σ H _ I h) fun v s1 ⟨y,H1,I1,r1,q1⟩=>?_) hs;exact CT I1 hN hi hx r1 (fun s2 I2=>⟨_,H1,I2,q1⟩) hf
end
structure It where
 go:Nat->Hp->Prop
 yld:Nat->Hp->V->Hp->Prop
 stop:Nat->Hp->Prop
def cN (X:Cx)(pins:Pnx)(H:Hp)(b:Addr):Prop:=
 H b=none/\b≠X.env.locals/\b∉X.fs/\(b∈X.ex\/X.s₀.heap.objs.size<=b)/\(∀x c,X.env.cells.lookup x=some c->c≠b)/\∀p∈X.pn ++ pins,p.1≠b
theorem Inv.fpOk (I:Inv X pins σ H s)(hb:s.heap.objs.size<=b)(hn:H' b=none):cN X pins H' b:=by
 refine⟨hn,xbV (xaf I.lt hb),I.nofs hb,.inr (xaw I.sz hb),fun x c e z=>?_,fun p hp z=>?_⟩
 ·obtain⟨v,q⟩:=I.cell x c e;exact absurd (xaf q.lt (by rw[z];exact hb)) (xa2 _)
 ·exact absurd (xaf (xaj (I.pin p hp).1) (by rw[z];exact hb)) (xa2 _)
structure Turn (P:Program)(w:World)(K:Fgx)(tg:Expr)(J:It)(fp:List Addr)(it:Addr)(tn:Nat->Heap->Prop):Prop where
 mem:it∈fp
 obj:∀i h,tn i h->∀b∈fp,∃o,h.get? b=some o/\∀v,o.data≠ .cell v
 keep:∀i h h',tn i h->(∀b∈fp,∀o,h.get? b=some o->h'.get? b=some o)->tn i h'
 item:∀(X:Cx),X.prog=P->X.w=w->X.K=K->X.calm=true->∀(i:Nat) (pins:Pnx) (s:Shared) (σ:St) (H:Hp) (E:Value->Shared->Prop),Inv X pins σ H s->(∀b∈fp,cN X pins H b)->tn i s.heap->J.go i H->
  wpAny (model P w) X.A (pyNext (.ref it)) (fun r s1=>∃u,r=some u/\
   wpAny (model P w) X.A (letOwnedTupleGo tg (.ref it) u) (fun _ s2=>∃x H',Inv X pins σ H' s2/\RelV x u/\J.yld i H x H'/\tn (i + 1) s2.heap/\∀b∈fp,H' b=none) E s1) E s
 done:∀(X:Cx),X.prog=P->X.w=w->X.K=K->X.calm=true->∀(i:Nat) (pins:Pnx) (s:Shared) (σ:St) (H:Hp) (E:Value->Shared->Prop),Inv X pins σ H s->(∀b∈fp,cN X pins H b)->tn i s.heap->J.stop i H->
  wpAny (model P w) X.A (pyNext (.ref it)) (fun r s1=>r=none/\Inv X pins σ H s1) E s
 self:∀(A:Around) (i:Nat) (s:Shared) (Q:Value->Shared->Prop) (E:Value->Shared->Prop),tn i s.heap->Q (.ref it) s->wpAny (model P w) A (pyIter (.ref it)) Q E s
abbrev TI:=St->Hp->(It->Hp->Prop)->Prop
def PIE (X:Cx)(pins:Pnx)(σ:St)(tg:Expr)(R:It->Hp->Prop)(itv:Value)(s2:Shared):Prop:=
 ∃(it:Addr) (fp:List Addr) (tn:Nat->Heap->Prop) (J:It) (H':Hp),itv=.ref it/\Inv X pins σ H' s2/\Turn X.prog X.w X.K tg J fp it tn/\tn 0 s2.heap/\(∀b∈fp,cN X pins H' b)/\R J H'
def PI (X:Cx)(tg iter:Expr)(wi:TI):Prop:=
 ∀(pins:Pnx) (s:Shared) (σ:St) (H:Hp) (R:It->Hp->Prop),Inv X pins σ H s->wi σ H R->
  wpAny (model X.prog X.w) X.A (eval iter X.env) (fun v s1=>wpAny (model X.prog X.w) X.A (pyIter v) (PIE X pins σ tg R) X.xe s1) X.xe s
theorem u6 {M:Model}{A:Around}{E:Value->Shared->Prop}{s:Shared}{tg:Expr}{it:Addr}{u:Value}{o:Obj}{n:String}{vs:Array Value}{Q:Unit->Shared->Prop}(ho:s.heap.get? it=some o)(hc:o.cls=.type n)(hd:o.data=.fields vs)
    (hn:["enumerate","zip","dict_itemiterator","dict_reverseitemiterator","odict_iterator","itertools.zip_longest","itertools.pairwise"].contains n=false) (hQ:Q () s):wpAny M A (letOwnedTupleGo tg (.ref it) u) Q E s:=by
  unfold letOwnedTupleGo;cases tg<;>first
    |exact xac hQ
    | (cases u<;>first
        |exact xac hQ
        | (refine tG (wpAny_load ho ?_)
           rw[hc,hd];show wpAny M A (if (["enumerate","zip","dict_itemiterator","dict_reverseitemiterator","odict_iterator","itertools.zip_longest","itertools.pairwise"].contains n && vs[0]? ==some (rawInt _))=true then _ else _) Q E s
           rw[xai (by intro h;rw[hn,Bool.false_and]at h;cases h)];exact xac hQ))
noncomputable def K3 (K:Fgx) (a:Addr):It:=
 ⟨fun i H=>∃xs x,bF K H a xs/\xs[i]? =some x,fun i H x H'=>H'=H/\∀xs,bF K H a xs->xs[i]? =some x,fun i H=>∃xs,bF K H a xs/\xs.length<=i⟩
noncomputable def wj (lo:Int) (n:Nat):It:=⟨fun i _=>i<n,fun i H x H'=>H'=H/\x=.int (lo + i),fun i _=>n<=i⟩
theorem zaM {P:Program}{w:World}{K:Fgx}{tg:Expr}(a it:Addr):Turn P w K tg (K3 K a) [it] it (fun i h=>h.IsListIter it a i) where
 mem:=by simp
 obj:=fun i h st b hb=>by
  have e:b=it:=by simpa using hb
  subst e;obtain⟨o,e,c,d⟩:=st;exact⟨o,e,fun v z=>by rw[d]at z;cases z⟩
 keep:=fun i h h' st k=>st.at fun o e=>k it (by simp) o e
 item:=by
  intro X hP hw hK hc i pins s σ H E I hf st hg;subst hP hw hK;obtain⟨xs,x,hq,hx⟩:=hg;obtain⟨its,rv,p,hz⟩:=I.list hq;obtain⟨u,hu,ru⟩:=rv.get hx;obtain⟨f0,f1,f2,f3,f4,f5⟩:=hf it (by simp);refine wpAny_pyNext_list_item st p.isList (x:=u) (by simpa using hu) fun h' st' sb=>?_;have I1:Inv X pins σ H {s with heap:=h'}:=I.turned (t':=s.toks) (fun b o hb e=>(sb.2 b hb).trans e) f0 f1 f3 f4 f5;obtain⟨o,e,c,d⟩:=id st';exact⟨u,rfl,u6 (s:={s with heap:=h'}) e c d (by decide) ⟨x,H,I1,ru,⟨rfl,fun ys hy=>by rw[I.list_inj hy hq];exact hx⟩,st',fun b hb=>(hf b hb).1⟩⟩
 done:=by
  intro X hP hw hK hc i pins s σ H E I hf st hg;subst hP hw hK;obtain⟨xs,hq,hx⟩:=hg;obtain⟨its,rv,p,hz⟩:=I.list hq;obtain⟨f0,f1,f2,f3,f4,f5⟩:=hf it (by simp);have hl:=rv.length;exact wpAny_pyNext_list_end (I.ok.hd hc) st p.isList (by simp;omega) fun h' eb=>⟨rfl,I.turned (t':=s.toks) (fun b o hb e=>eb b o hb e) f0 f1 f3 f4 f5⟩
 self:=fun _ _ _ _ _ st h=>wpAny_pyIter_listiter st h
theorem zaC {P:Program}{w:World}{K:Fgx}{tg:Expr}(it:Addr)(lo:Int)(n:Nat):Turn P w K tg (wj lo n) [it] it (fun i h=>IsRangeIter h it (lo + (i:Nat) * 1) ((n:Int) - (i:Nat)) 1) where
 mem:=by simp
 obj:=fun i h st b hb=>by
  have e:b=it:=by simpa using hb
  subst e;exact ⟨_,st,fun v z=>by
   have z':Data.fields _=Data.cell v:=z;cases z'⟩
 keep:=fun i h h' st k=>k it (by simp) _ st
 item:=by
  intro X hP hw hK hc i pins s σ H E I hf st hg;subst hP hw hK;obtain⟨f0,f1,f2,f3,f4,f5⟩:=hf it (by simp);have W:=Walks.range (prog:=X.prog) (w:=X.w) (I.ok.hd hc) it lo 1 n;refine W.item i s _ _ hg st fun v h' tk hv st' kk=>?_;obtain⟨t,rfl⟩:=hv;have I1:Inv X pins σ H {s with heap:=h',toks:=tk}:=I.turned (fun b o hb e=>kk b o (by simpa using hb) e) f0 f1 f3 f4 f5;refine⟨_,rfl,u6 (s:={s with heap:=h',toks:=tk}) (n:="range_iterator") st' rfl rfl (by decide) ⟨.int (lo + i),H,I1,⟨t,?_⟩,⟨rfl,rfl⟩,st',fun b hb=>(hf b hb).1⟩⟩;rw[Int.mul_one]
 done:=by
  intro X hP hw hK hc i pins s σ H E I hf st hg;subst hP hw hK;obtain⟨f0,f1,f2,f3,f4,f5⟩:=hf it (by simp);exact wpAny_pyNext_range_end (I.ok.hd hc) st (by have:n<=i:=hg;omega) fun h' eb=>⟨rfl,I.turned (t':=s.toks) (fun b o hb e=>eb b o hb e) f0 f1 f3 f4 f5⟩
 self:=fun _ _ _ _ _ st h=>wpAny_pyIter_rangeiter st h
section
variable {X:Cx}{tg:Expr}
noncomputable def Vi (K:Fgx) (tl:TE):TI:=fun σ H R=>tl σ H fun x H1=>∃a,x=.ref a/\(∃xs,bF K H1 a xs)/\R (K3 K a) H1
theorem Zo {l:Expr}{tl:TE}(hl:PE X l tl):PI X tg l (Vi X.K tl):=by
 intro pins s σ H R I h;refine aN (hl pins s σ H _ I h) fun v s1 ⟨x,H1,I1,r1,q1⟩=>?_;obtain⟨a,e,⟨xs,hq⟩,q⟩:=q1;subst e;cases r1;obtain⟨its,rv,p,hz⟩:=I1.list hq;refine xco p.isList ?_;refine⟨s1.heap.objs.size,[s1.heap.objs.size],_,_,H1,rfl,I1.kept (t':=s1.toks) fun b o e=>xaa _ e,zaM a _,⟨_,xal _ rfl,rfl,rfl⟩,fun b hb=>?_,q⟩;have e:b=s1.heap.objs.size:=by simpa using hb
 subst e;exact I1.fpOk (xah _) (I1.hok.fresh (xah _))
theorem PN {pins:Pnx}{σ:St}{H:Hp}{s:Shared}{R:It->Hp->Prop}{E:Value->Shared->Prop}{lo hi:Int}{t u v:Tok}{tk:Nat}(I:Inv X pins σ H s)(h1: -(2 ^ 62)<=lo)(h2:lo<2 ^ 62)(h3: -(2 ^ 62)<=hi)(h4:hi<2 ^ 62)
  (q:R (wj lo (hi - lo).toNat) H):wpAny (model X.prog X.w) X.A (pyIter (.ref s.heap.objs.size)) (PIE X pins σ tg R) E {s with heap:=s.heap.push {cls:=.type "range",data:=.fields #[.int lo t,.int hi u,.int 1 v]},toks:=tk}:=by
 refine wpAny_pyIter_range (IsRange.new ..) (small_one h1 h2 h3 h4) ?_;have I1 : Inv X pins σ H { s with heap := s.heap.push { cls := .type "range", data := .fields #[.int lo t, .int hi u, .int 1 v] }, toks := tk } := I.kept fun b o e => xaa _ e;refine ⟨(s.heap.push {cls:=.type "range",data:=.fields #[.int lo t,.int hi u,.int 1 v]}).objs.size,[(s.heap.push {cls:=.type "range",data:=.fields #[.int lo t,.int hi u,.int 1 v]}).objs.size],_,_,H,rfl,
  I1.kept (t':=tk) fun b o e=>xaa _ e,zaC _ lo (hi - lo).toNat,?_,fun b hb=>?_,q⟩
 ·have e1:lo + ((0:Nat):Int) * 1=lo:=by simp
  have e2:(((hi - lo).toNat:Nat):Int) - ((0:Nat):Int)=Builtin.Range.rangeSize lo hi 1:=by rw[rangeSize_one];split<;>omega
  show IsRangeIter _ _ (lo + ((0:Nat):Int) * 1) ((((hi - lo).toNat:Nat):Int) - ((0:Nat):Int)) 1;rw[e1,e2];exact xal _ rfl
 ·have e:b=(s.heap.push {cls:=.type "range",data:=.fields #[.int lo t,.int hi u,.int 1 v]}).objs.size:=by simpa using hb
  subst e;exact I1.fpOk (xah _) (I1.hok.fresh (xah _))
noncomputable def rP (ta:TA):TI:=fun σ H R=>ta σ H fun vs H1=>∃j:Int,vs=[.int j]/\ -(2 ^ 62)<=j/\j<2 ^ 62/\R (wj 0 j.toNat) H1
noncomputable def rQ (ta:TA):TI:=fun σ H R=>ta σ H fun vs H1=>∃i j:Int,vs=[.int i,.int j]/\(-(2 ^ 62)<=i/\i<2 ^ 62/\ -(2 ^ 62)<=j/\j<2 ^ 62)/\R (wj i (j - i).toNat) H1
theorem Zq {a:Expr}{ta:TA}{p pos:Pos}(hg:Gl X "range")(hm:X.mg "range"=none)(ha:PA X [a] ta)(hs:starEach [a] X.env=[(false,eval a X.env)]:=by rfl):PI X tg (.Call (.Name "range" p) [a] [] pos) (rP ta):=by
  intro pins s σ H R I h;refine Call_ (rW I hg hm boot_range (xbe (aN (ha pos pins s σ H _ I h) fun us s1 ⟨vs,H1,I1,r1,q1⟩=>?_) hs rfl));obtain⟨j,e,q1,q2,q⟩:=q1;subst e
  cases r1 with
  |cons r rr=>
    cases rr;obtain⟨t,rfl⟩:=r;exact call_range_1 (PN I1 (by omega) (by omega) q1 q2 (by simpa using q))
theorem Zr (hg:Gl X "range")(hm:X.mg "range"=none)(ha:PA X [a,b] ta)(hs:starEach [a,b] X.env=[(false,eval a X.env),(false,eval b X.env)]:=by rfl)(hs2:starEach [b] X.env=[(false,eval b X.env)]:=by rfl):
    PI X tg (.Call (.Name "range" p) [a,b] [] pos) (rQ ta):=by
  intro pins s σ H R I h;refine Call_ (rW I hg hm boot_range (xbe (aN (ha pos pins s σ H _ I h) fun us s1 ⟨vs,H1,I1,r1,q1⟩=>?_) (by rw[hs,hs2]) (by rw[hs2];rfl)));obtain⟨i,j,e,⟨q1,q2,q3,q4⟩,q⟩:=q1;subst e
  cases r1 with
  |cons r rr=>
    cases rr with
    |cons r' rr=>
      cases rr;obtain⟨t,rfl⟩:=r;obtain⟨t',rfl⟩:=r';exact call_range_2 (PN I1 q1 q2 q3 q4 q)
noncomputable def Kg (wi:TI) (g:TG) (tb:TS):TS:=fun D σ H=>wi σ H fun J H1=>∃W:Nat->Nat->St->Hp->Prop,(∃m,W 0 m σ H1)/\∀i m σ H,W i m σ H->
 (J.stop i H/\D.nx σ H)\/(J.go i H/\∃N:St->Hp->Prop,(∀σ' H',N σ' H'->∃m',m'<m/\W (i + 1) m' σ' H')/\∀x H',J.yld i H x H'->g x σ H' fun σ2 H2=>tb {D with nx:=N,ct:=N,bk:=D.nx} σ2 H2)
noncomputable def yu (fp:List Addr) (h:Heap):Pnx:=fp.filterMap fun b=>(h.get? b).map fun o=>(b,o)
theorem Ba (hb:b∈fp)(e:h.get? b=some o):(b,o)∈yu fp h:=xdU.mpr ⟨b,hb,by rw[e];rfl⟩
theorem Yl (hp:p∈yu fp h):p.1∈fp/\h.get? p.1=some p.2:=by
  obtain⟨b,hb,e⟩:=xdU.mp hp
  cases q:h.get? b with
  |none=>rw[q]at e;cases e
  |some o=>
    rw[q]at e;have e':(b,o)=p:=xay e;subst e';exact⟨hb,q⟩
theorem Inv.pinned (I:Inv X pins σ H s)(hf:∀b∈fp,cN X pins H b)(ho:∀b∈fp,∃o,s.heap.get? b=some o/\∀v,o.data≠ .cell v):Inv X (pins ++ yu fp s.heap) σ H s:=
 I.pins_of fun p hp=>(xbd.mp hp).elim (fun z=>I.pin p (xaA _ z)) fun z=>by
  obtain⟨hb,e⟩:=Yl z;obtain⟨f0,f1,f2,_⟩:=hf p.1 hb;obtain⟨o,e',d⟩:=ho p.1 hb;rw[e]at e';cases e';exact⟨e,f0,f1,f2,d⟩
theorem Inv.unpinned (I:Inv X (pins ++ pl) σ H s):Inv X pins σ H s:=I.pins_of fun p hp=>I.pin p (xaA _ (xdG _ hp))
theorem Iz (hp:PassesOwn (model X.prog X.w) X.A X.env X.xe)(hc:X.calm=true)(hi:PI X tg iter wi)(hg:PG X tg g)(hb:gw X body tb)
  (hs:∀x,foldedSetIterable iter X.env x=pure x:=by intro _;rfl):PS X (.For tg iter body [] pos) (Kg wi g tb):=by
 intro pins s σ H D I h;refine wpAny_For (aN (hi pins s σ H _ I h) fun v s1 h1=>aN h1 fun itv s2 h2=>?_) hs;obtain⟨it,fp,tn,J,H2,e,I2,T,st2,f2,W,⟨m0,w0⟩,turn⟩:=h2;subst e
 -- what stays true of the iterator's objects through the loop
 have stat:∀{H':Hp},(∀b∈fp,H' b=none)->∀b∈fp,cN X pins H' b:=fun hn b hb=>⟨hn b hb,(f2 b hb).2⟩;refine codeAny_forLoop_any (fun n s'=>∃i σ' H',Inv X pins σ' H' s'/\tn i s'.heap/\(∀b∈fp,H' b=none)/\W i n σ' H') ?_ m0 ⟨0,σ,H2,I2,st2,fun b hb=>(f2 b hb).1,w0⟩;rintro n s3 ⟨i,σ3,H3,I3,st3,fr3,w3⟩;rcases turn i n σ3 H3 w3 with⟨stop,qn⟩ |⟨go,N,hN,step⟩
 ·refine xce hp (aN (T.done X rfl rfl rfl hc i pins s3 σ3 H3 X.xe I3 (stat fr3) st3 stop) fun r s4 ⟨hr,I4⟩=>?_);subst hr;exact wpAny_execs_nil ⟨σ3,H3,I4,qn⟩
 ·refine xce hp (aN (T.item X rfl rfl rfl hc i pins s3 σ3 H3 X.xe I3 (stat fr3) st3 go) fun r s4 ⟨u,hr,h4⟩=>?_);subst hr;refine xce hp (aN h4 fun _ s5 ⟨x,H5,I5,r5,y5,st5,fr5⟩=>?_);have I5':=I5.pinned (stat fr5) (T.obj _ _ st5);refine xce hp (aN (hg _ s5 σ3 H5 x u _ I5' r5 (step x H5 y5)) fun _ s6 ⟨σ6,H6,I6,q6⟩=>?_);refine xce hp (aN (hb _ s6 σ6 H6 _ I6 q6) fun f s7 q7=>?_);have again:∀{σ7:St} {H7:Hp},Inv X (pins ++ yu fp s5.heap) σ7 H7 s7->N σ7 H7->∃m,m<n/\∃i σ' H',Inv X pins σ' H' s7/\tn i s7.heap/\(∀b∈fp,H' b=none)/\W i m σ' H':=fun {σ7 H7} I7 n7=>by
   obtain⟨m',hm,w7⟩:=hN σ7 H7 n7;refine⟨m',hm,i + 1,σ7,H7,I7.unpinned,T.keep _ _ _ st5 fun b hb o e=>(I7.pin (b,o) (xaA _ (xaA _ (Ba hb e)))).1,fun b hb=>?_,w7⟩;obtain⟨o,e,d⟩:=T.obj _ _ st5 b hb;exact(I7.pin (b,o) (xaA _ (xaA _ (Ba hb e)))).2.1
  cases f with
  |next=>obtain⟨σ7,H7,I7,n7⟩:=q7;exact again I7 n7
  |cont=>obtain⟨σ7,H7,I7,n7⟩:=q7;exact again I7 n7
  |brk=>obtain⟨σ7,H7,I7,q7⟩:=q7;exact⟨σ7,H7,I7.unpinned,q7⟩
  |ret v=>obtain⟨x7,σ7,H7,I7,r7,q7⟩:=q7;exact⟨x7,σ7,H7,I7.unpinned,r7,q7⟩
end
abbrev R2:=V->V->Hp->VK->Prop
def bG (X:Cx)(f:Value->Value->Sem Value)(r:R2):Prop:=
 ∀(pins:Pnx) (s:Shared) (σ:St) (H:Hp) (x y:V) (v u:Value) (Q:VK),Inv X pins σ H s->RelV x v->RelV y u->r x y H Q->
  wpAny (model X.prog X.w) X.A (f v u) (EP X pins σ Q) X.xe s
def zM (X:Cx)(f:Value->Sem Value)(r:V->Hp->VK->Prop):Prop:=
 ∀(pins:Pnx) (s:Shared) (σ:St) (H:Hp) (x:V) (v:Value) (Q:VK),Inv X pins σ H s->RelV x v->r x H Q->
  wpAny (model X.prog X.w) X.A (f v) (EP X pins σ Q) X.xe s
def cX (X:Cx)(f:Value)(r:List V->Hp->VK->Prop):Prop:=
 ∀(pins:Pnx) (s:Shared) (σ:St) (H:Hp) (xs:List V) (us:List Value) (Q:VK),Inv X pins σ H s->Vals xs us->r xs H Q->
  wpAny (model X.prog X.w) X.A (call f us) (EP X pins σ Q) X.xe s
def DN (X:Cx)(r:V->Hp->(Bool->Hp->Prop)->Prop):Prop:=
 ∀(pins:Pnx) (s:Shared) (σ:St) (H:Hp) (x:V) (v:Value) (Q:Bool->Hp->Prop),Inv X pins σ H s->RelV x v->r x H Q->
  wpAny (model X.prog X.w) X.A (truthy v) (TP X pins σ Q) X.xe s
noncomputable def zx (r:R2) (ta tb:TE):TE:=fun σ H Q=>ta σ H fun x H1=>tb σ H1 fun y H2=>r x y H2 Q
noncomputable def RV (r:V->Hp->VK->Prop) (ta:TE):TE:=fun σ H Q=>ta σ H fun x H1=>r x H1 Q
noncomputable def rI (C:Int->Int->Prop) (g:Int->Int->V):R2:=fun x y H Q=>∃i j,x=.int i/\y=.int j/\C i j/\Q (g i j) H
noncomputable def gF (g:Int->Int->V):R2:=fun x y H Q=>∃i j,x=.int i/\y=.int j/\Q (g i j) H
def rU (g:Int->V):V->Hp->VK->Prop:=fun x H Q=>∃i,x=.int i/\Q (g i) H
section
variable {X:Cx}{a b c:Expr}{ta tb tc:TE}{pos:Pos}
theorem rK (ha:PE X a ta)(hb:PE X b tb){pins:Pnx}{s:Shared}{σ:St}{H:Hp}{R:V->V->Hp->Prop}(I:Inv X pins σ H s)
  (h:ta σ H fun x H1=>tb σ H1 fun y H2=>R x y H2) {Q:Value->Shared->Prop} {f:Value->Value->Sem Value}
  (hf:∀v u s2 x y H2,Inv X pins σ H2 s2->RelV x v->RelV y u->R x y H2->wpAny (model X.prog X.w) X.A (f v u) Q X.xe s2):
  wpAny (model X.prog X.w) X.A (eval a X.env) (fun v s₁=>wpAny (model X.prog X.w) X.A (eval b X.env) (fun u s₂=>wpAny (model X.prog X.w) X.A (f v u) Q X.xe s₂) X.xe s₁) X.xe s:=by
 refine aN (ha pins s σ H _ I h) fun v s1 ⟨x,H1,I1,r1,q1⟩=>?_;refine aN (hb pins s1 σ H1 _ I1 q1) fun u s2 ⟨y,H2,I2,r2,q2⟩=>?_;exact hf v u s2 x y H2 I2 r1 r2 q2
theorem Zf {op:Operator}{r:R2}(ho:bG X (binaryOp op) r)(ha:PE X a ta)(hb:PE X b tb):PE X (.BinOp a op b pos) (zx r ta tb):=by
 intro pins s σ H Q I h;exact wpAny_BinOp (rK ha hb I h fun v u s2 x y H2 I2 rx ry q=>ho pins s2 σ H2 x y v u Q I2 rx ry q)
theorem Zk (ho:zM X (unaryOp op) r)(ha:PE X a ta):PE X (.UnaryOp op a pos) (RV r ta):=by
 intro pins s σ H Q I h;exact UnaryOp_ (aN (ha pins s σ H _ I h) fun v s1 ⟨x,H1,I1,r1,q1⟩=>ho pins s1 σ H1 x v Q I1 r1 q1)
theorem Bd {f:Value->Value->Sem Value}{C:Int->Int->Prop}{g:Int->Int->Int}
  (rule:∀(i j:Int) (t u:Tok) (s:Shared) (Q:Value->Shared->Prop) (E:Value->Shared->Prop),C i j->Q (.int (g i j) s.toks) {s with toks:=s.toks + 1}->wpAny (model X.prog X.w) X.A (f (.int i t) (.int j u)) Q E s):
  bG X f (rI C fun i j=>.int (g i j)):=by
 intro pins s σ H x y v u Q I rx ry h;obtain⟨i,j,rfl,rfl,hc,q⟩:=h;obtain⟨t,rfl⟩:=rx;obtain⟨t',rfl⟩:=ry;exact rule i j t t' s _ _ hc ⟨.int (g i j),H,I.tok _,⟨_,rfl⟩,q⟩
theorem yp {f:Value->Value->Sem Value}{g:Int->Int->Int}
  (rule:∀(i j:Int) (t u:Tok) (s:Shared) (Q:Value->Shared->Prop) (E:Value->Shared->Prop),Q (.int (g i j) s.toks) {s with toks:=s.toks + 1}->wpAny (model X.prog X.w) X.A (f (.int i t) (.int j u)) Q E s):
  bG X f (gF fun i j=>.int (g i j)):=by
 intro pins s σ H x y v u Q I rx ry h;obtain⟨i,j,rfl,rfl,q⟩:=h;obtain⟨t,rfl⟩:=rx;obtain⟨t',rfl⟩:=ry;exact rule i j t t' s _ _ ⟨.int (g i j),H,I.tok _,⟨_,rfl⟩,q⟩
theorem nM {f:Value->Value->Sem Value}{g:Int->Int->Bool}
  (rule:∀(i j:Int) (t u:Tok) (s:Shared) (Q:Value->Shared->Prop) (E:Value->Shared->Prop),Q (.bool (g i j)) s->wpAny (model X.prog X.w) X.A (f (.int i t) (.int j u)) Q E s):
  bG X f (gF fun i j=>.bl (g i j)):=by
 intro pins s σ H x y v u Q I rx ry h;obtain⟨i,j,rfl,rfl,q⟩:=h;obtain⟨t,rfl⟩:=rx;obtain⟨t',rfl⟩:=ry;exact rule i j t t' s _ _ ⟨.bl (g i j),H,I,rfl,q⟩
def vZ (i j:Int):Prop:=0<j/\j<1073741824
def rJ (i j:Int):Prop:=0<=j/\j<=1000000/\i.natAbs<2 ^ 64
def mU (i j:Int):Prop:=(-(2 ^ 64)<i/\i<2 ^ 64)\/(-(2 ^ 64)<j/\j<2 ^ 64)
theorem mU.ok (h:mU i j):IntMulOk i j:=by
 rcases h with⟨h1,h2⟩ |⟨h1,h2⟩
 ·exact .of_left (intBits_le_64 h1 h2)
 ·exact .of_right (intBits_le_64 h1 h2)
theorem Ym:bG X (binaryOp .Add) (gF fun i j=>.int (i + j)):=yp fun _ _ _ _ _ _ _ q=>add_int q
theorem vg:bG X (binaryOp .Sub) (gF fun i j=>.int (i - j)):=yp fun _ _ _ _ _ _ _ q=>sub_int q
theorem kY:bG X (binaryOp .FloorDiv) (rI vZ fun i j=>.int (i / j)):=Bd fun i j _ _ _ _ _ hc q=>by
 have h1:(0:Int)<j:=hc.1;have h2:j<1073741824:=hc.2;exact floordiv_int (by omega) (by rw[Int.fdiv_eq_ediv_of_nonneg i (by omega)];exact q) (.inl (PyProof.noPylong_small (by omega)))
theorem dG:bG X (binaryOp .Mod) (rI (fun _ j=>0<j) fun i j=>.int (i % j)):=Bd fun i j _ _ _ _ _ hc q=>by
 have h1:(0:Int)<j:=hc;exact mod_int' (by omega) (by rw[Int.fmod_eq_emod_of_nonneg i (by omega)];exact q)
theorem p7:bG X (binaryOp .Pow) (rI rJ fun i j=>.int (i ^ j.toNat)):=Bd fun _ _ _ _ _ _ _ hc q=>pow_int_small hc.1 hc.2.1 hc.2.2 q
theorem unI {f:Value->Sem Value}{g:Int->Int}
  (rule:∀(i:Int) (t:Tok) (s:Shared) (Q:Value->Shared->Prop) (E:Value->Shared->Prop),Q (.int (g i) s.toks) {s with toks:=s.toks + 1}->wpAny (model X.prog X.w) X.A (f (.int i t)) Q E s):
  zM X f (rU fun i=>.int (g i)):=by
 intro pins s σ H x v Q I rx h;obtain⟨i,rfl,q⟩:=h;obtain⟨t,rfl⟩:=rx;exact rule i t s _ _ ⟨.int (g i),H,I.tok _,⟨_,rfl⟩,q⟩
theorem R9:zM X (unaryOp .USub) (rU fun i=>.int (-i)):=unI fun _ _ _ _ _ q=>neg_int q
end
noncomputable def pA:V->V->Bool
 |.non,.non=>true |.non,.int _=>true |.int _,.non=>true |.non,.bl _=>true |.bl _,.non=>true |.non,.str _=>true |.str _,.non=>true
 |.int _,.int _=>true |.bl _,.bl _=>true |.str _,.str _=>true |.byt _,.byt _=>true
 |.int _,.str _=>true |.str _,.int _=>true |.bl _,.str _=>true |.str _,.bl _=>true
 |_,_=>false
def rEq:R2:=fun x y H Q=>pA x y=true/\Q (.bl (decide (x=y))) H
def rNe:R2:=fun x y H Q=>pA x y=true/\Q (.bl (!decide (x=y))) H
theorem Mj:decide (V.int i=V.int j)=(i==j):=by
 rw[xaF]
 simp
theorem Ae:decide (V.bl i=V.bl j)=(i==j):=by
 rw[xaF]
 simp
theorem Ml:decide (V.str i=V.str j)=(i==j):=by
 rw[xaF]
 simp
theorem Mi:decide (V.byt i=V.byt j)=(i.toList==j.toList):=by
 rw[xaF];cases i;cases j
 simp
section
variable {X:Cx}{a b c:Expr}{ta tb tc:TE}{pos:Pos}
theorem bw (I:Inv X pins σ H s)(q:Q (.bl k) H)(e:k=k'):EP X pins σ Q (.bool k') s:=by
 subst e;exact⟨.bl k,H,I,rfl,q⟩
theorem Yq:bG X (compareOp .Eq) rEq:=by
  intro pins s σ H x y v u Q I rx ry h;obtain⟨hs,q⟩:=h
  cases x with
  |non=>
    cases rx
    cases y with
    |non=>cases ry;exact PySem.EqNone.eq_none_none (bw I q (by simp))
    |bl j=>cases ry;exact PySem.EqNone.eq_none_bool (bw I q (by simp))
    |int j=>obtain⟨t',rfl⟩:=ry;exact PySem.EqNone.eq_none_int (bw I q (by simp))
    |str j=>obtain⟨t',rfl⟩:=ry;exact PySem.EqNone.eq_none_str (bw I q (by simp))
    |_=>exact absurd (show false=true from hs) xas
  |bl i=>
    cases rx
    cases y with
    |non=>cases ry;exact PySem.EqNone.eq_bool_none (bw I q (by simp))
    |bl j=>cases ry;exact eq_bool (bw I q Ae)
    |str j=>obtain⟨t',rfl⟩:=ry;exact PySem.EqMixed.eq_bool_str (bw I q (by simp))
    |_=>exact absurd (show false=true from hs) xas
  |int i=>
    obtain⟨t,rfl⟩:=rx
    cases y with
    |non=>cases ry;exact PySem.EqNone.eq_int_none (bw I q (by simp))
    |int j=>obtain⟨t',rfl⟩:=ry;exact eq_int (bw I q Mj)
    |str j=>obtain⟨t',rfl⟩:=ry;exact PySem.EqMixed.eq_int_str (bw I q (by simp))
    |_=>exact absurd (show false=true from hs) xas
  |str i=>
    obtain⟨t,rfl⟩:=rx
    cases y with
    |non=>cases ry;exact PySem.EqNone.eq_str_none (bw I q (by simp))
    |bl j=>cases ry;exact PySem.EqMixed.eq_str_bool (bw I q (by simp))
    |int j=>obtain⟨t',rfl⟩:=ry;exact PySem.EqMixed.eq_str_int (bw I q (by simp))
    |str j=>obtain⟨t',rfl⟩:=ry;exact eq_str (bw I q Ml)
    |_=>exact absurd (show false=true from hs) xas
  |byt i=>
    obtain⟨t,rfl⟩:=rx
    cases y with
    |byt j=>obtain⟨t',rfl⟩:=ry;exact PySem.W.eq_bytes (bw I q Mi)
    |_=>exact absurd (show false=true from hs) xas
  |_=>cases y<;>exact absurd (show false=true from hs) xas
theorem YF:bG X (compareOp .NotEq) rNe:=by
  intro pins s σ H x y v u Q I rx ry h;obtain⟨hs,q⟩:=h
  cases x with
  |non=>
    cases rx
    cases y with
    |non=>cases ry;exact PySem.EqNone.ne_none_none (bw I q (by simp))
    |bl j=>cases ry;exact PySem.EqNone.ne_none_bool (bw I q (by simp))
    |int j=>obtain⟨t',rfl⟩:=ry;exact PySem.EqNone.ne_none_int (bw I q (by simp))
    |str j=>obtain⟨t',rfl⟩:=ry;exact PySem.EqNone.ne_none_str (bw I q (by simp))
    |_=>exact absurd (show false=true from hs) xas
  |bl i=>
    cases rx
    cases y with
    |non=>cases ry;exact PySem.EqNone.ne_bool_none (bw I q (by simp))
    |bl j=>cases ry;exact ne_bool (bw I q (congrArg not Ae))
    |str j=>obtain⟨t',rfl⟩:=ry;exact PySem.EqMixed.ne_bool_str (bw I q (by simp))
    |_=>exact absurd (show false=true from hs) xas
  |int i=>
    obtain⟨t,rfl⟩:=rx
    cases y with
    |non=>cases ry;exact PySem.EqNone.ne_int_none (bw I q (by simp))
    |int j=>obtain⟨t',rfl⟩:=ry;exact ne_int (bw I q (congrArg not Mj))
    |str j=>obtain⟨t',rfl⟩:=ry;exact PySem.EqMixed.ne_int_str (bw I q (by simp))
    |_=>exact absurd (show false=true from hs) xas
  |str i=>
    obtain⟨t,rfl⟩:=rx
    cases y with
    |non=>cases ry;exact PySem.EqNone.ne_str_none (bw I q (by simp))
    |bl j=>cases ry;exact PySem.EqMixed.ne_str_bool (bw I q (by simp))
    |int j=>obtain⟨t',rfl⟩:=ry;exact PySem.EqMixed.ne_str_int (bw I q (by simp))
    |str j=>obtain⟨t',rfl⟩:=ry;exact ne_str (bw I q (congrArg not Ml))
    |_=>exact absurd (show false=true from hs) xas
  |byt i=>
    obtain⟨t,rfl⟩:=rx
    cases y with
    |byt j=>obtain⟨t',rfl⟩:=ry;exact PySem.W.ne_bytes (bw I q (congrArg not Mi))
    |_=>exact absurd (show false=true from hs) xas
  |_=>cases y<;>exact absurd (show false=true from hs) xas
theorem YC:bG X (compareOp .Lt) (gF fun i j=>.bl (decide (i<j))):=nM fun _ _ _ _ _ _ _ q=>lt_int q
theorem Yz:bG X (compareOp .LtE) (gF fun i j=>.bl (decide (i<=j))):=nM fun _ _ _ _ _ _ _ q=>le_int q
theorem Yt:bG X (compareOp .Gt) (gF fun i j=>.bl (decide (j<i))):=nM fun _ _ _ _ _ _ _ q=>gt_int q
theorem Ys:bG X (compareOp .GtE) (gF fun i j=>.bl (decide (j<=i))):=nM fun _ _ _ _ _ _ _ q=>ge_int q
theorem Yv:bG X (compareOp .In) (fun x y H Q=>∃i j,x=.str i/\y=.str j/\Q (.bl (!(Builtin.Str.occurrences j i 0 j.length 1).isEmpty)) H):=by
 intro pins s σ H x y v u Q I rx ry h;obtain⟨i,j,rfl,rfl,q⟩:=h;obtain⟨t,rfl⟩:=rx;obtain⟨t',rfl⟩:=ry;exact in_str (bw I q rfl)
theorem Yx:bG X (compareOp .Is) (fun x y H Q=>y=.non/\Q (.bl (decide (x=.non))) H):=by
 intro pins s σ H x y v u Q I rx ry h;obtain⟨rfl,q⟩:=h;cases ry;refine is_none_gen (bw I q ?_);cases x<;>first
  |(cases rx;rfl)
  |(obtain⟨t,rfl⟩:=rx;rfl)
theorem YJ:bG X (compareOp .IsNot) (fun x y H Q=>y=.non/\Q (.bl (!decide (x=.non))) H):=by
 intro pins s σ H x y v u Q I rx ry h;obtain⟨rfl,q⟩:=h;cases ry;refine isnot_none_gen (bw I q ?_);cases x<;>first
  |(cases rx;rfl)
  |(obtain⟨t,rfl⟩:=rx;rfl)
theorem YK:bG X (compareOp .NotIn) (fun x y H Q=>∃i j,x=.str i/\y=.str j/\Q (.bl (!(!(Builtin.Str.occurrences j i 0 j.length 1).isEmpty))) H):=by
 intro pins s σ H x y v u Q I rx ry h;obtain⟨i,j,rfl,rfl,q⟩:=h;obtain⟨t,rfl⟩:=rx;obtain⟨t',rfl⟩:=ry;exact notIn_str (bw I q rfl)
theorem bG.or (h:bG X f r)(h':bG X f r'):bG X f (fun x y H Q=>r x y H Q\/r' x y H Q):=by
 intro pins s σ H x y v u Q I rx ry q;rcases q with q |q
 ·exact h pins s σ H x y v u Q I rx ry q
 ·exact h' pins s σ H x y v u Q I rx ry q
theorem Y4 {op:CmpOp}{r:R2}(ho:bG X (compareOp op) r)(ha:PE X a ta)(hb:PE X b tb)(hm:behindInMarks op b=false):PE X (.Compare a [op] [b] pos) (zx r ta tb):=by
 intro pins s σ H Q I h;exact wpAny_Compare1 (rK ha hb I h fun v u s2 x y H2 I2 rx ry q=>ho pins s2 σ H2 x y v u Q I2 rx ry q) hm
noncomputable def Kr (t:TE):TT:=fun σ H Q=>t σ H fun x H'=>∃k,x=.bl k/\Q k H'
theorem Z4 (ho:bG X (compareOp op) r)(ha:PE X a ta)(hb:PE X b tb)(hm:behindInMarks op b=false):PT X (.Compare a [op] [b] pos) (Kr (zx r ta tb)):=by
 intro pins s σ H Q I h;refine wpAny_isTrue_Compare1 (aN (ha pins s σ H _ I h) fun v s1 ⟨x,H1,I1,r1,q1⟩=>aN (hb pins s1 σ H1 _ I1 q1) fun u s2 ⟨y,H2,I2,r2,q2⟩=>
  aN (ho pins s2 σ H2 x y v u _ I2 r1 r2 q2) fun c s3 ⟨z,H3,I3,r3,k,e,q3⟩=>?_) hm
 subst e;cases r3;exact xbb ⟨H3,I3,q3⟩
noncomputable def RP (r r':R2) (ta tb tc:TE):TE:=fun σ H Q=>ta σ H fun x H1=>tb σ H1 fun y H2=>r x y H2 fun z H3=>∃k,z=.bl k/\
 (if k=true then tc σ H3 fun w' H4=>r' y w' H4 Q else Q (.bl false) H3)
theorem Z1 (ho:bG X (compareOp op) r)(ho':bG X (compareOp op') r')(ha:PE X a ta)(hb:PE X b tb)(hc:PE X c tc)
    (hm:lastMarks [op,op'] [b,c]=false:=by with_unfolding_all rfl):PT X (.Compare a [op,op'] [b,c] pos) (Kr (RP r r' ta tb tc)):=by
  intro pins s σ H Q I h;refine isTrue_chain (aN (ha pins s σ H _ I h) fun v s1 ⟨x, H1, I1, r1, q1⟩ => test_link (aN (hb pins s1 σ H1 _ I1 q1) fun u s2 ⟨y,H2,I2,r2,q2⟩=>
    aN (ho pins s2 σ H2 x y v u _ I2 r1 r2 q2) fun d s3 ⟨z,H3,I3,r3,k,e,q3⟩=>?_)) hm
  subst e;cases r3;refine xbb ?_
  cases k with
  |false=>
    obtain⟨k',e',q'⟩:=q3;cases e';exact ite_ff ⟨H3,I3,q'⟩
  |true=>
    refine ite_tt (test_last (aN (hc pins s3 σ H3 _ I3 q3) fun w' s4 ⟨z',H4,I4,r4,q4⟩=>aN (ho' pins s4 σ H4 y z' u w' _ I4 r2 r4 q4) fun d' s5 ⟨z2,H5,I5,r5,k2,e2,q5⟩=>?_));subst e2;cases r5;exact xbb ⟨H5,I5,q5⟩
def mY (K:Fgx)(x:V)(H:Hp)(k:Bool):Prop:=
 match x with
 |.non=>k=false
 |.bl b=>k=b
 |.int i=>k=(i !=0)
 |.str y=>y.length<=sizeLine/\k=((y.length:Int) !=0)
 |.byt y=>y.size<=sizeLine/\k=((y.size:Int) !=0)
 |.ref p=>(∃xs,bF K H p xs/\k= !xs.isEmpty)\/(∃xs,cU K H p xs/\k= !xs.isEmpty)\/∃kvs,H p=some (.dK kvs)/\k= !kvs.isEmpty
 |_=>False
theorem Vs (r:KV kvs vs):(!vs.isEmpty)= !kvs.isEmpty:=by
 cases r<;>rfl
theorem Nm (r:Vals xs its):(!its.toArray.isEmpty)= !xs.isEmpty:=by
 cases r<;>simp
theorem pY:(sizeLine:Nat)<2 ^ 63:=by rw[xaP];decide
theorem R4:DN X (fun x H Q=>∃k,mY X.K x H k/\Q k H):=by
  intro pins s σ H x v Q I rx h;obtain⟨k,e,q⟩:=h;have hl:=pY;have hs:sizeLine=16777216:=xaP
  cases x with
  |non=>
    cases rx;have e':k=false:=e;subst e';exact truthy_none ⟨H,I,q⟩
  |bl b=>
    cases rx;have e':k=b:=e;subst e';exact xbb ⟨H,I,q⟩
  |int i=>
    obtain⟨t,rfl⟩:=rx;have e':k=(i !=0):=e;subst e';exact PySem.P.truthy_int ⟨H,I,q⟩
  |str y=>
    obtain⟨t,rfl⟩:=rx;obtain⟨hy,e'⟩:y.length<=sizeLine/\k=((y.length:Int) !=0):=e;subst e';exact PySem.P.truthy_str (by omega) ⟨H,I.tok _,q⟩
  |byt y=>
    obtain⟨t,rfl⟩:=rx;obtain⟨hy,e'⟩:y.size<=sizeLine/\k=((y.size:Int) !=0):=e;subst e';exact PySem.W.truthy_bytes (by omega) ⟨H,I.tok _,q⟩
  |ref p=>
    cases rx;have e':(∃xs,bF X.K H p xs/\k= !xs.isEmpty)\/(∃xs,cU X.K H p xs/\k= !xs.isEmpty)\/∃kvs,H p=some (.dK kvs)/\k= !kvs.isEmpty:=e;rcases e' with⟨xs,hx,e'⟩ |⟨xs,hx,e'⟩ |⟨kvs,hx,e'⟩
    · subst e';obtain⟨its,r,pl,hz⟩:=I.list hx;have hlen:=r.length;exact wpAny_truthy_list pl.isList (by simp only[xae];omega) ⟨H,I.tok _,by rw[Nm r];exact q⟩
    · subst e';obtain⟨its,r,pl,hz⟩:=I.tuple hx;have hlen:=r.length;exact truthy_tuple pl (by simp only[xae];omega) ⟨H,I.tok _,by rw[Nm r];exact q⟩
    · subst e';obtain⟨hz,hS,vs,r,m⟩:kvs.length<=sizeLine/\(p==sysModules)=false/\∃vs,KV kvs vs/\s.heap.DictOf (mH X.prog X.w) p vs:=I.hok p _ hx;have hlen:kvs.length=vs.length:=Paired.length r;exact wpAny_truthy_dict hS m (by omega) ⟨H,I.tok _,by rw[Vs r];exact q⟩
  |_=>exact(show False from e).elim
theorem Z6 (ha:PE X a ta)(he:∀whole,isTrue a X.env whole=(do let v <-whole;standAt a.pos;holding [v] (truthy v))):
  PT X a (fun σ H Q=>ta σ H fun x H'=>∃k,mY X.K x H' k/\Q k H'):=by
 intro pins s σ H Q I h;exact isTrue_plain (aN (ha pins s σ H _ I h) fun v s1 ⟨x,H1,I1,r1,q1⟩=>R4 pins s1 σ H1 x v Q I1 r1 q1) (he _)
theorem Yn:bG X (binaryOp .Add) (fun x y H Q=>∃i j,x=.str i/\y=.str j/\i.length + j.length<=sizeLine/\Q (.str (i ++ j)) H):=by
 intro pins s σ H x y v u Q I rx ry h;obtain⟨i,j,rfl,rfl,hz,q⟩:=h;obtain⟨t,rfl⟩:=rx;obtain⟨t',rfl⟩:=ry;exact add_str (fun t' tk=>⟨.str (i ++ j),H,I.tok _,⟨_,rfl⟩,q⟩) hz
theorem vals1 (r:Vals [x] us):∃u,us=[u]/\RelV x u:=by
 cases r with
 |cons r1 r2=>cases r2;exact⟨_,rfl,r1⟩
theorem vals2 (r:Vals [x,y] us):∃u w',us=[u,w']/\RelV x u/\RelV y w':=by
  cases r with
  |cons r1 r2=>
    cases r2 with
    |cons r3 r4=>cases r4;exact⟨_,_,rfl,r1,r3⟩
theorem Ti:cX X (.builtin "abs") (fun xs H Q=>∃i,xs=[.int i]/\Q (.int (if i<0 then -i else i)) H):=by
 intro pins s σ H xs us Q I r h;obtain⟨i,rfl,q⟩:=h;obtain⟨u,rfl,t,rfl⟩:=vals1 r;exact call_abs_int fun u tk=>⟨.int (if i<0 then -i else i),H,I.tok _,⟨_,rfl⟩,q⟩
theorem tU (hc:X.calm=true):cX X (.builtin "max") (fun xs H Q=>∃i j,xs=[.int i,.int j]/\Q (.int (if j > i then j else i)) H):=by
 intro pins s σ H xs us Q I r h;obtain⟨i,j,rfl,q⟩:=h;obtain⟨u,w',rfl,⟨t,rfl⟩,⟨t',rfl⟩⟩:=vals2 r;refine max_two_ints (I.ok.hd hc) fun h' tk k=>⟨_,H,I.kept k,?_,q⟩
 by_cases hj:j > i
 ·rw[xab hj,xab hj];exact⟨_,rfl⟩
 ·rw[xai hj,xai hj];exact⟨_,rfl⟩
theorem zX (hc:X.calm=true):cX X (.builtin "min") (fun xs H Q=>∃i j,xs=[.int i,.int j]/\Q (.int (if j<i then j else i)) H):=by
 intro pins s σ H xs us Q I r h;obtain⟨i,j,rfl,q⟩:=h;obtain⟨u,w',rfl,⟨t,rfl⟩,⟨t',rfl⟩⟩:=vals2 r;refine min_two_ints (I.ok.hd hc) fun h' tk k=>⟨_,H,I.kept k,?_,q⟩
 by_cases hj:j<i
 ·rw[xab hj,xab hj];exact⟨_,rfl⟩
 ·rw[xai hj,xai hj];exact⟨_,rfl⟩
theorem TF:cX X (.type "str") (fun xs H Q=>∃i,xs=[.int i]/\i.natAbs.log2<1920/\Q (.str (toString i)) H):=by
 intro pins s σ H xs us Q I r h;obtain⟨i,rfl,hz,q⟩:=h;obtain⟨u,rfl,t,rfl⟩:=vals1 r;exact PySem.P.str_of_int hz ⟨.str _,H,I.tok _,⟨_,rfl⟩,q⟩
end
structure ObjM (h:Heap)(x dx C:Addr)(mA:Mgx):Prop where
 obj:h.get? x=some (PySem.W.instObj C dx)
 ns:h.Ns1 dx mA
 ne:dx≠x
theorem Wi {h:Heap}{dx:Addr}{mA:Mgx}(n:h.Ns1 dx mA):∃od,h.get? dx=some od/\∀name,PySem.W.lookIn name od=some (mA name):=by
 obtain⟨o,es,ep,ho,hd,hk,_,hm⟩:=n;refine⟨o,ho,fun name=>?_⟩;have e:=hm name;unfold nsFind findBy at e;rw[<-xdV]at e;unfold PySem.W.lookIn;rw[hd];dsimp only
 split
 ·rename_i y q;rw[q]at e;exact congrArg some e
 ·rename_i q;rw[q]at e;have a:es.toList.any (·.refKey)=false:=by
   rw[List.any_eq_false];intro y hy;obtain⟨z,t,hkey⟩:=hk y (xdH.mp hy)
   simp[DictEntry.refKey,hkey]
  have a':¬ es.toList.any (·.refKey)=true:=by rw[a];exact xas
  rw[xai a'];exact congrArg some e
theorem ObjM.look (I:ObjM h x dx C mA):∃od,PySem.W.InstAt h x (PySem.W.instObj C dx) C (some od)/\∀name,PySem.W.lookIn name od=some (mA name):=
 let ⟨od,ho,hl⟩:=Wi I.ns
 ⟨od,⟨I.obj,rfl,rfl,ho⟩,hl⟩
section
variable {prog:Program}{w:World}{A:Around}{E:Value->Shared->Prop}{s:Shared}{K:Fgx}{x dx C f:Addr}{mA:Mgx}{name:Str}{v:Value}
theorem get_map (X:K.In s.heap)(I:ObjM s.heap x dx C mA)(hg:PySem.W.plainGet K C name=true)(hh:PySem.W.hasDictIn K C=true)
  (ha:PySem.W.findIn K (.ref C) name=some none) (hv:mA name=some v) (hv':PySem.W.handedIn v=true) (h:Q v {s with toks:=s.toks + 1}):
  wpAny (model prog w) A (getAttr (.ref x) name expr) Q E s:=by
 obtain⟨od,J,hl⟩:=I.look;exact PySem.W.get_value X J (xcP hg).1 (PySem.W.findObj_own hh ha rfl (by rw[hl,hv])) hv' h
theorem U_ (X:K.In s.heap)(I:ObjM s.heap x dx C mA)(hg:PySem.W.plainGet K C name=true)
  (hf:PySem.W.findIn K (.ref C) name=some (some (.ref f))) (ht:PySem.W.isFn K (.ref f)=true) (hv:mA name=none) (h:Q (.ref f,[.ref x]) s):
  wpAny (model prog w) A (getMethod (.ref x) name pl) Q E s:=by
 obtain⟨od,J,hl⟩:=I.look;exact PySem.W.method_fn X J (xcP hg).1 (xcP hg).2 hf (xbg.mp ht) (by show(PySem.W.lookIn name od).map (·.isSome)=some false;rw[hl,hv];rfl) h
theorem zb0 (X:K.In s.heap)(I:ObjM s.heap x dx C mA)
  (hs:PySem.W.findIn K (.ref C) "__setattr__"=some (some (.builtin "object.__setattr__"))) (hp:PySem.W.plainOver K C=true) (ht:PySem.W.takerIn K C name=some none) (hh:PySem.W.hasDictIn K C=true)
  (hw:PySem.Within mA ns) (hsz:ns.length<=sizeLine)
  (h:∀h',ObjM h' x dx C (fun y=>if y=name then some v else mA y)->Heap.SameBut dx s.heap h'->Q () {s with heap:=h',toks:=s.toks + 2}):
  wpAny (model prog w) A (setAttr (.ref x) name v) Q E s:=by
 obtain⟨od,J,hl⟩:=I.look;refine PySem.W.set_plain X J hs (PySem.W.osa_open (s:={s with toks:=s.toks + 1}) (r:=none) X J hp ht fun b=>?_);obtain⟨cd,hc,hd'⟩:=PySem.W.any_some hh;have hx:s.heap.get? x=some ⟨.ref C,some dx,.plain, #[]⟩:=I.obj;refine tG (xac (tG (tG (wpAny_loadPart hx (tG (PySem.W.Looks.here (s:={s with toks:=s.toks + 1}) (PySem.W.looks_clsIn X hc) ?_))))));rw[hd'];refine xac (a:=some dx) (tG (xac (tG ?_)));refine wpAny_nsSet1 (s:={s with toks:=s.toks + 1}) I.ns fun h' hn2 hs2=>?_;obtain⟨oD,esD,epD,hoD,hdD,hcD⟩:=hn2.count (PySem.Within.cons name v hw);refine tG (wpAny_lookBehind hoD (by rw[hdD];exact pastItsLine_dict (xaw hcD (by rw[xao];omega))) ?_);exact xac (h _ ⟨(hs2.2 _ (xbB I.ne)).trans I.obj,hn2,I.ne⟩ hs2)
theorem Ws (X:K.In s.heap)(hm:PySem.W.makesIn K C=true)
  (hi:PySem.W.findIn K (.ref C) "__init__"=some (some (.ref f))) (hf:PySem.W.typeIn K (.ref f)=some (.type "function"))
  (h:codeAny (model prog w) (A.under (.builtin "type.__call__" ⟨.ref C::vs,kw⟩)) (.call (.ref f) ⟨.ref (s.heap.objs.size + 1)::vs,kw⟩) (PySem.W.InitBack (s.heap.objs.size + 1) R)
   {s with heap:=(s.heap.push PySem.W.emptyDict).push (PySem.W.instObj C s.heap.objs.size)}):
  codeAny (model prog w) A (.call (.ref C) ⟨vs,kw⟩) R s:=by
 obtain⟨hh,g,d,t,os⟩:=s;exact PySem.W.make_core (PySem.W.makes_of X hm) (PySem.W.looks_findIn X hi) (fun self=>PySem.W.bind_fn X self hf) (.inl rfl) h
end
noncomputable def bx (f:Str) (v:V):List (Str×V)->List (Str×V)
 | []=>[(f,v)]
 |(g,x)::r=>if g=f then(g,v)::r else(g,x)::bx f v r
theorem Od (f g:Str)(v:V):∀fs:List (Str×V),(bx f v fs).lookup g=if g=f then some v else fs.lookup g
  | []=>by
    show List.lookup g [(f,v)]=_
    by_cases h:g=f
    · have hb:(g==f)=true:=xbg.mpr h;simp only[List.lookup,hb,xab h]
    · have hb:(g==f)=false:=xaQ.mpr h;simp only[List.lookup,hb,xai h]
  |(k,x)::r=>by
    have ih:=Od f g v r;rw[show bx f v ((k,x)::r)=(if k=f then(k,v)::r else(k,x)::bx f v r) from rfl]
    by_cases hk:k=f
    · rw[xab hk]
      by_cases h:g=k
      · have hb:(g==k)=true:=xbg.mpr h;simp only[List.lookup,hb,xab (h.trans hk)]
      · have hb:(g==k)=false:=xaQ.mpr h;simp only[List.lookup,hb,xai (fun e:g=f=>h (e.trans hk.symm))]
    · rw[xai hk]
      by_cases h:g=k
      · have hb:(g==k)=true:=xbg.mpr h;simp only[List.lookup,hb,xai (fun e:g=f=>hk (h.symm.trans e))]
      · have hb:(g==k)=false:=xaQ.mpr h;simp only[List.lookup,hb];exact ih
theorem Gh (f:Str)(v:V):∀fs:List (Str×V),f∈(bx f v fs).map (·.1)/\∀g,g∈fs.map (·.1)->g∈(bx f v fs).map (·.1)
  | []=>⟨by simp[bx],fun g h=>by simp at h⟩
  |(k,x)::r=>by
    obtain⟨i1,i2⟩:=Gh f v r;rw[show bx f v ((k,x)::r)=(if k=f then(k,v)::r else(k,x)::bx f v r) from rfl]
    by_cases hk:k=f
    · rw[xab hk];subst hk;exact⟨by simp,fun g h=>by simpa using h⟩
    · rw[xai hk];refine⟨?_,fun g h=>?_⟩
      · rw[xaJ];exact xat _ i1
      · rw[xaJ]at h ⊢;rcases xav.mp h with e |e
        · exact xav.mpr (.inl e)
        · exact xat _ (i2 g e)
theorem Oa (f:Str)(v:V):∀fs:List (Str×V),(bx f v fs).length<=fs.length + 1
  | []=>by simp[bx]
  |(k,x)::r=>by
    have ih:=Oa f v r;rw[show bx f v ((k,x)::r)=(if k=f then(k,v)::r else(k,x)::bx f v r) from rfl]
    by_cases hk:k=f
    · rw[xab hk,xao,xao];omega
    · rw[xai hk,xao,xao];omega
theorem dz.some_of (r:dz (some v) o):∃u,o=some u/\RelV v u:=by
 cases o with
 |none=>exact(show False from r).elim
 |some u=>exact⟨u,rfl,r⟩
theorem dz.none_of (r:dz none o):o=none:=by
 cases o with
 |none=>rfl
 |some u=>exact(show False from r).elim
theorem Ve (r:RelV v u):PySem.W.handedIn u=true:=by
 cases v with
 |non=>cases (show u=Value.none from r);rfl
 |bl b=>cases (show u=Value.bool b from r);rfl
 |int i=>obtain⟨t,e⟩:=(show ∃t,u=Value.int i t from r);cases e;rfl
 |str x=>obtain⟨t,e⟩:=(show ∃t,u=Value.str x t from r);cases e;rfl
 |byt b=>obtain⟨t,e⟩:=(show ∃t,u=Value.bytes b t from r);cases e;rfl
 |flt b=>obtain⟨t,e⟩:=(show ∃t,u=Value.float b t from r);cases e;rfl
 |ref a=>cases (show u=Value.ref a from r);rfl
 |ty n=>cases (show u=Value.type n from r);rfl
section
variable {P:Program}{w:World}{H H':Hp}{h h':Heap}{a C dx:Addr}{fs fs':List (Str×V)}
theorem Ak (hok:cg P w H h)(e:H a=some (.ins C dx fs)):∃mA,ObjM h a dx C mA/\(∀f,dz (fs.lookup f) (mA f))/\PySem.Within mA (fs.map (·.1))/\fs.length<=1000/\H dx=some (.own a):=by
 obtain⟨d,z,ne,ob,mA,n,r,q⟩:=(show cO P w H h a (.ins C dx fs) from hok a _ e);exact⟨mA,⟨ob,n,ne⟩,r,q,z,d⟩
end
structure Cls (K:Fgx)(C:Addr):Prop where
 pg:PySem.W.plainGet K C Str.empty=true
 hd:PySem.W.hasDictIn K C=true
 po:PySem.W.plainOver K C=true
 sa:PySem.W.findIn K (.ref C) "__setattr__"=some (some (.builtin "object.__setattr__"))
theorem Cls.get {K:Fgx}{C:Addr}(c:Cls K C)(f:Str):PySem.W.plainGet K C f=true:=c.pg
def mV (K:Fgx)(C:Addr)(f:Str):Prop:=PySem.W.findIn K (.ref C) f=some none
theorem mV.taker {K:Fgx}{C:Addr}{f:Str}(n:mV K C f):PySem.W.takerIn K C f=some none:=by
 unfold PySem.W.takerIn;rw[show PySem.W.findIn K (.ref C) f=some none from n];rfl
structure Con (K:Fgx)(C:Addr)(f:Str)(v:V)(u:Value):Prop where
 at_:PySem.W.findIn K (.ref C) f=some (some u)
 rel:RelV v u
 get:PySem.W.specialIn K u "__get__"=some none
 cp:PySem.W.copiedNames.contains f=false
structure Meth (K:Fgx)(C:Addr)(m:Str)(f:Addr):Prop where
 at_:PySem.W.findIn K (.ref C) m=some (some (.ref f))
 fn:PySem.W.isFn K (.ref f)=true
 kp:PySem.W.keepIn K (.ref f)=true
section
variable {X:Cx}{pins:Pnx}{σ:St}{H:Hp}{s:Shared}{a C dx:Addr}{fs:List (Str×V)}{f:Str}{v:V}{A:Around}{E:Value->Shared->Prop}
theorem Va (I:Inv X pins σ H s)(e:H a=some (.ins C dx fs))(c:Cls X.K C)(n:mV X.K C f)(l:fs.lookup f=some v)
  (h:∀u s',Inv X pins σ H s'->RelV v u->Q u s'):wpAny (model X.prog X.w) A (getAttr (.ref a) f b) Q E s:=by
 obtain⟨mA,O,r,_,_,_⟩:=Ak I.hok e;obtain⟨u,hu,ru⟩:=dz.some_of (v:=v) (o:=mA f) (by rw[<-l];exact r f);exact get_map I.kIn O (c.get f) c.hd n hu (Ve ru) (h u _ (I.tok _) ru)
theorem Vb (I:Inv X pins σ H s)(e:H a=some (.ins C dx fs))(c:Cls X.K C)(k:Meth X.K C m g)(l:fs.lookup m=none)
  (h:Q (.ref g,[.ref a]) s):wpAny (model X.prog X.w) A (getMethod (.ref a) m pl) Q E s:=by
 obtain⟨mA,O,r,_,_,_⟩:=Ak I.hok e;have hn:mA m=none:=dz.none_of (by rw[<-l];exact r m);exact U_ I.kIn O (c.get m) k.at_ k.fn hn h
theorem zaD (I:Inv X pins σ H s)(e:H a=some (.ins C dx fs))(c:Cls X.K C)(n:mV X.K C f)(hl:fs.length<1000)(ry:RelV y u)
  (h:∀s',Inv X pins σ (upd H a (.ins C dx (bx f y fs))) s'->Q () s'):wpAny (model X.prog X.w) A (setAttr (.ref a) f u) Q E s:=by
 obtain⟨mA,O,r,wi,_,ho⟩:=Ak I.hok e;have hz:(fs.map (·.1)).length<=sizeLine:=by rw[xar,xaP];omega
 refine zb0 I.kIn O c.sa c.po n.taker c.hd wi hz fun h' O' sb=>h _ ?_;have hd:∃o,h'.get? dx=some o:=let ⟨o,_,_,e',_⟩:=O'.ns;⟨o,e'⟩
 refine I.write (x:=a) (e:=dx) (by rw[e];exact True.intro) (.inr ho) (fun b q hb z=>(sb.2 b hb).trans z) hd ?_;refine⟨by rw[aQ O.ne];exact ho,?_,O.ne,O'.obj,_,O'.ns,fun g=>?_,fun g hg=>?_⟩
 ·have:=Oa f y fs;omega
 ·show dz ((bx f y fs).lookup g) (if g=f then some u else mA g)
  rw[Od]
  by_cases q:g=f
  ·rw[xab q,xab q];exact ry
  ·rw[xai q,xai q];exact r g
 ·by_cases q:g=f
  ·rw[q];exact(Gh f y fs).1
  ·refine(Gh f y fs).2 g (wi g fun z=>hg ?_);show(if g=f then some u else mA g)=none
   rw[xai q];exact z
theorem Inv.made (I:Inv X pins σ H s):Inv X pins σ (upd (upd H s.heap.objs.size (.own (s.heap.objs.size + 1))) (s.heap.objs.size + 1) (.ins C s.heap.objs.size []))
  {s with heap:=(s.heap.push PySem.W.emptyDict).push (PySem.W.instObj C s.heap.objs.size)}:=by
 have e1:(s.heap.push PySem.W.emptyDict).get? s.heap.objs.size=some PySem.W.emptyDict:=xal s.heap rfl;have e2:((s.heap.push PySem.W.emptyDict).push (PySem.W.instObj C s.heap.objs.size)).get? (s.heap.objs.size + 1)=some (PySem.W.instObj C s.heap.objs.size):=by
  have:=xal (s.heap.push PySem.W.emptyDict) (o:=PySem.W.instObj C s.heap.objs.size) rfl
  rwa [xa9]at this
 have e3:(s.heap.push PySem.W.emptyDict).Ns s.heap.objs.size (fun _=>none):=⟨PySem.W.emptyDict, #[],_,e1,rfl,(fun e he=>absurd he (by simp)),fun _=>rfl⟩;have I1:=I.laid (a:=s.heap.objs.size) (o:=.own (s.heap.objs.size + 1)) (h':=s.heap.push PySem.W.emptyDict) (t':=s.toks) (fun b u q=>xaa _ q) (xah _) ⟨_,e1⟩;refine I1.laid (a:=s.heap.objs.size + 1) (o:=.ins C s.heap.objs.size []) (t':=s.toks) (fun b u q=>xaa _ q) (xdi (xa9 _ _)) ?_;have ne:s.heap.objs.size≠s.heap.objs.size + 1:=xaq (xbt _);refine⟨by rw[aQ ne,bR],xa8 _,ne,e2,fun _=>none,(Heap.Ns1.of_empty e3).at fun o q=>xaa _ q,fun _=>True.intro,fun y hy=>absurd rfl hy⟩
theorem Tc (hb:attributeBase e f env (eval e env)=eval e env)
  (h:wpAny (model prog w) A (eval e env) (fun o s₁=>wpAny (model prog w) A (getAttr o f true) Q E s₁) E s):wpAny (model prog w) A (eval (.Attribute e f pos) env) Q E s:=
 Attribute_any_ h (by rw[arm_eval_Attribute,hb])
end
noncomputable def Kf (K:Fgx) (ta:TE) (f:Str):TE:=fun σ H Q=>ta σ H fun x H1=>∃a C dx fs v,x=.ref a/\H1 a=some (.ins C dx fs)/\Cls K C/\mV K C f/\fs.lookup f=some v/\Q v H1
noncomputable def JL (K:Fgx) (ta tv:TE) (f:Str):TS:=fun D σ H=>tv σ H fun y H1=>ta σ H1 fun x H2=>∃a C dx fs,x=.ref a/\H2 a=some (.ins C dx fs)/\Cls K C/\mV K C f/\fs.length<1000/\
 D.nx σ (upd H2 a (.ins C dx (bx f y fs)))
section
variable {X:Cx}{o e value:Expr}{f:Str}{pos pos' tpos:Pos}{ta tv:TE}
theorem Y6 (he:PE X e ta)(hb:attributeBase e f X.env (eval e X.env)=eval e X.env):PE X (.Attribute e f pos) (Kf X.K ta f):=by
 intro pins s σ H Q I h;refine Tc hb (aN (he pins s σ H _ I h) fun u s1 ⟨x,H1,I1,rx,a,C,dx,fs,v,ex,ea,c,n,l,q⟩=>?_);subst ex;obtain rfl:u=Value.ref a:=rx;exact Va I1 ea c n l fun u' s2 I2 ru=>⟨v,H1,I2,ru,q⟩
theorem ZR (ha:PE X o ta)(hv:PE X value tv)(hs:swapsWith value (some (.Attribute o f pos')) pos.line X.env=pure false):PS X (.Assign [.Attribute o f pos'] value pos) (JL X.K ta tv f):=by
 intro pins s σ H D I h;refine plainObj_wpAny_Assign_Attribute (aN (hv pins s σ H _ I h) fun u s1 ⟨y,H1,I1,ry,q⟩=>aN (ha pins s1 σ H1 _ I1 q) fun ov s2 ⟨x,H2,I2,rx,a,C,dx,fs,ex,ea,c,n,l,q2⟩=>?_) hs;subst ex;obtain rfl:ov=Value.ref a:=rx;exact zaD I2 ea c n l ry fun s3 I3=>⟨σ,_,I3,q2⟩
noncomputable def su:V->V->Hp->VK->Prop:=fun x y H Q=>∃i j,x=.int i/\y=.int j/\Q (.int (i + j)) H
end
section
variable {X:Cx}{pins:Pnx}{σ:St}{H:Hp}{s:Shared}{A:Around}{E:Value->Shared->Prop}{Q:Value->Shared->Prop}{c:Value}{b:Bool}
inductive TyOf (K:Fgx)(H:Hp):V->Value->Prop where
 |non:TyOf K H .non (.type "NoneType")
 |bl (x:Bool):TyOf K H (.bl x) (.type "bool")
 |int (i:Int):TyOf K H (.int i) (.type "int")
 |str (x:Str):TyOf K H (.str x) (.type "str")
 |flt (x:UInt64):TyOf K H (.flt x) (.type "float")
 |lst {a:Addr} {xs:List V} (e:H a=some (.lst xs)):TyOf K H (.ref a) (.type "list")
 |frz {a:Addr} {o:Obj} {xs:List V} (e:H a=some (.frz o (.lst xs))):TyOf K H (.ref a) (.type "list")
 |tup {a:Addr} {xs:List V} (e:H a=some (.tup xs)):TyOf K H (.ref a) (.type "tuple")
 |dK {a:Addr} {kvs:List (Key×V)} (e:H a=some (.dK kvs)):TyOf K H (.ref a) (.type "dict")
 |dT {a:Addr} {kvs:List (List Key×V)} (e:H a=some (.dT kvs)):TyOf K H (.ref a) (.type "dict")
 |ins {a C dx:Addr} {fs:List (Str×V)} (e:H a=some (.ins C dx fs)) (cl:Cls K C) (ha:PySem.W.findIn K (.ref C) "__class__"=some (some (.builtin "object.__class__")))
   (hn:PySem.W.specialIn K (.builtin "object.__class__") "__get__"=some (some (.builtin "getset_descriptor.__get__"))) (htk:PySem.W.takesIn K (.builtin "object.__class__")=some true)
   (hm:PySem.W.mroIn K C (.type "object")=some true):TyOf K H (.ref a) (.ref C)
theorem Ao (I:Inv X pins σ H s)(rx:RelV x u)(ty:TyOf X.K H x t)(e:PySem.W.kitOne X.K t c=some b)(h:∀tk,Q (.bool b) {s with toks:=tk}):
    wpAny (model X.prog X.w) A (call (.builtin "isinstance") [u,c]) Q E s:=by
  cases ty with
  |non=>cases (show u=Value.none from rx);exact xaH PySem.W.kitx_none I.kIn True.intro e (fun z=>nomatch z) h
  |bl y=>cases (show u=Value.bool y from rx);exact xaH PySem.W.kitx_bool I.kIn True.intro e (fun z=>nomatch z) h
  |int i=>obtain⟨t,q⟩:=(show ∃t,u=Value.int i t from rx);cases q;exact xaH PySem.W.kitx_int I.kIn True.intro e (fun z=>nomatch z) h
  |str y=>obtain⟨t,q⟩:=(show ∃t,u=Value.str y t from rx);cases q;exact xaH PySem.W.kitx_str I.kIn True.intro e (fun z=>nomatch z) h
  |flt y=>obtain⟨t,q⟩:=(show ∃t,u=Value.float y t from rx);cases q;exact xaH PySem.W.kitx_float I.kIn True.intro e (fun z=>nomatch z) h
  | @lst a xs ea=>
    cases (show u=Value.ref a from rx);obtain⟨_,_,n,_,h1⟩:=(show cO X.prog X.w H s.heap a (.lst xs) from I.hok a _ ea);exact xaH xc9 I.kIn ⟨_,h1,rfl⟩ e (fun z=>nomatch z) h
  | @frz a ob xs ea=>
    cases (show u=Value.ref a from rx);obtain⟨_,_,_,n,_,h1⟩:=(show cO X.prog X.w H s.heap a (.frz ob (.lst xs)) from I.hok a _ ea);exact xaH xc9 I.kIn ⟨_,h1,rfl⟩ e (fun z=>nomatch z) h
  | @tup a xs ea=>
    cases (show u=Value.ref a from rx);obtain⟨_,_,_,p⟩:=(show cO X.prog X.w H s.heap a (.tup xs) from I.hok a _ ea);obtain⟨o,h1,h2,_⟩:=p;exact xaH xdW I.kIn ⟨o,h1,h2⟩ e (fun z=>nomatch z) h
  | @dK a kvs ea=>
    cases (show u=Value.ref a from rx);obtain⟨_,_,vs,_,p⟩:=(show cO X.prog X.w H s.heap a (.dK kvs) from I.hok a _ ea);obtain⟨o,es,ep,h1,h2,_⟩:=p;exact xaH xda I.kIn ⟨o,h1,h2.1⟩ e (fun z=>nomatch z) h
  | @dT a kvs ea=>
    cases (show u=Value.ref a from rx);obtain⟨_,_,xs,_,o,es,ep,h1,h2,_⟩:=(show cO X.prog X.w H s.heap a (.dT kvs) from I.hok a _ ea);exact xaH xda I.kIn ⟨o,h1,h2.1⟩ e (fun z=>nomatch z) h
  | @ins a C dx fs ea cl ha hn htk hm=>
    cases (show u=Value.ref a from rx);obtain⟨mA,O,_⟩:=Ak I.hok ea;obtain⟨od,J,_⟩:=O.look;exact xaH (PySem.W.kitx_own (cl.get _) cl.hd ha hn htk hm) I.kIn J e (fun z=>nomatch z) h
end
structure Room (k:Nat)(A:Around):Prop where
 hd:A.handled=none
 dp:A.depth + 3 * k + 5<recursionLimit
 un:A.units + 16 * k + 200<cLine
theorem Room.mono (r:Room k A)(h:j<=k):Room j A:=⟨r.hd,by have:=r.dp;omega,by have:=r.un;omega⟩
theorem Room.deeper (r:Room (k + 1) A)(env:Env):Room k (A.deeper env):=
 ⟨r.hd,by have:=r.dp;show A.depth + 1 + 3 * k + 5<_;omega,by have:=r.un;show A.units + 3 + 16 * k + 200<_;omega⟩
theorem Wr {A:Around}{C:Addr}{us:List Value}{kw:List (Str×Value)}:(A.under (.builtin "type.__call__" ⟨.ref C::us,kw⟩)).depth=A.depth + 1:=by
 first |rfl |simp[Around.under,Code.weight,Code.isCreation,Code.isGuard,Code.isCaller,Code.frames,Code.isFrame,guardIds]
theorem Wt {A:Around}{C:Addr}{us:List Value}{kw:List (Str×Value)}:(A.under (.builtin "type.__call__" ⟨.ref C::us,kw⟩)).units=A.units + 1:=by
 first |rfl |simp[Around.under,Code.cUnits,Code.frames,Code.isFrame]
theorem Room.make (r:Room (k + 1) A)(C:Addr)(us:List Value)(kw:List (Str×Value)):Room k (A.under (.builtin "type.__call__" ⟨.ref C::us,kw⟩)):=
 ⟨r.hd,by have:=r.dp;rw[Wr];omega,by have:=r.un;rw[Wt];omega⟩
theorem Room.depth (r:Room k A):A.depth<recursionLimit:=by have:=r.dp;omega
theorem Room.units (r:Room k A):A.units + 64<cLine:=by have:=r.un;omega
def Km:TA:=fun _ H Q=>Q [] H
noncomputable def zdW (ta:TE) (tr:TA):TA:=fun σ H Q=>ta σ H fun x H1=>tr σ H1 fun xs H2=>Q (x::xs) H2
section
variable {X:Cx}{e:Expr}{es:List Expr}{te:TE}{t:TA}{pos:Pos}
theorem p8:PA X [] Km:=fun _ _ _ _ H Q I h=>Calls.spliced_nil ⟨[],H,I,.nil,h⟩
theorem nR (ha:PE X e te)(hr:PA X es t)(hs:starEach (e::es) X.env=(false,eval e X.env)::starEach es X.env:=by rfl):PA X (e::es) (zdW te t):=by
 intro pos pins s σ H Q I h;rw[hs];show wpAny _ _ (spliced ((false,eval e X.env)::backTo pos (starEach es X.env))) _ _ s;refine Calls.spliced_cons (aN (ha pins s σ H _ I h) fun u s1 ⟨x,H1,I1,r1,q1⟩=>?_);exact aN (hr pos pins s1 σ H1 _ I1 q1) fun us s2 ⟨xs,H2,I2,r2,q2⟩=>⟨x::xs,H2,I2,.cons r1 r2,q2⟩
noncomputable def Ks (t:TA):TE:=fun σ H Q=>t σ H fun xs H1=>xs.length<=sizeLine/\∀p,H1 p=none->Q (.ref p) (upd H1 p (.tup xs))
noncomputable def Kl (t:TA):TE:=fun σ H Q=>t σ H fun xs H1=>xs.length<=sizeLine/\∀p,H1 p=none->Q (.ref p) (upd H1 p (.lst xs))
theorem Zj {x1}(h:PA X es t):PE X (.Tuple es x1 pos) (Ks t):=by
 intro pins s σ H Q I hq;refine wpAny_Tuple_spliced (aN (h pos pins s σ H _ I hq) fun us s1 ⟨xs,H1,I1,r,z,q⟩=>⟨by rw[<-r.length];exact z,?_⟩);have hf:H1 s1.heap.objs.size=none:=I1.hok.fresh (xah _);refine⟨.ref s1.heap.objs.size,upd H1 s1.heap.objs.size (.tup xs),I1.laid (t':=s1.toks) (fun b u e=>xaa _ e) (xah _) ?_,rfl,q _ hf⟩;exact⟨z,us,r,⟨_,xal _ rfl,rfl,_,rfl⟩⟩
theorem Za (h:PA X es t):PE X (.List es pos) (Kl t):=by
 intro pins s σ H Q I hq;refine wpAny_List_spliced (aN (h pos pins s σ H _ I hq) fun us s1 ⟨xs,H1,I1,r,z,q⟩=>⟨by rw[<-r.length];exact z,?_⟩);have hf:H1 s1.heap.objs.size=none:=I1.hok.fresh (xah _);refine⟨.ref s1.heap.objs.size,upd H1 s1.heap.objs.size (.lst xs),I1.laid (t':=s1.toks) (fun b u e=>xaa _ e) (xah _) ?_,rfl,q _ hf⟩;exact⟨z,us,0,r,xal _ rfl⟩
end
abbrev Sp:=List V->Hp->VK->XK->Prop
abbrev d8:=List Env->Hp->Shared->XK->Value->Shared->Prop
structure Env0 (P:Program)(w:World)(K:Fgx)(mg:Mgx)(base:Heap)(A:Around)(outer:List Env)(s:Shared)(H:Hp):Prop where
 frames:A.frames=some outer
 mod:Mod K mg base
 bs:∀b o,base.get? b=some o->s.heap.get? b=some o/\H b=none
 bsz:base.objs.size<=s.heap.objs.size
 funs:s.heap.FunFrames base outer
 frf:∀b∈frs outer,H b=none
 hok:cg P w H s.heap
 bare:AllBare s.gens
def CE (outer:List Env)(P:Program)(w:World)(H:Hp)(s:Shared)(Q:VK)(u:Value)(s':Shared):Prop:=
 ∃v H',s'.os=s.os/\AllBare s'.gens/\Un (frs outer) [] H H' s.heap s'.heap/\cg P w H' s'.heap/\RelV v u/\Q v H'
def CR (CX:d8)(outer:List Env)(P:Program)(w:World)(H:Hp)(s:Shared)(Q:VK)(E:XK)(r:Result)(s':Shared):Prop:=
 match r with
 |.ok (.ret u)=>CE outer P w H s Q u s'
 |.ok _=>False
 |.error e=>CX outer H s E e s'
structure FnOk (P:Program)(w:World)(K:Fgx)(mg:Mgx)(base:Heap)(CX:d8)(k:Nat)(f:Addr)(fd:FuncData)(ps:List Str)(sp:Sp):Prop where
 len:∀vs H Q E,sp vs H Q E->vs.length=ps.length
 run:∀(A:Around) (outer:List Env) (s:Shared) (H:Hp) (args:Args) (us:List Value) (vs:List V) (Q:VK) (E:XK),Room k A->Env0 P w K mg base A outer s H->BindsTo s fd args (ps.zip us)->Vals vs us->sp vs H Q E->
  codeAny (model P w) A (.call (.ref f) args) (CR CX outer P w H s Q E) s
theorem FnOk.mono {P:Program}{w:World}{K:Fgx}{mg:Mgx}{base:Heap}{CX:d8}{j k:Nat}{f:Addr}{fd:FuncData}{ps:List Str}{sp:Sp}(F:FnOk P w K mg base CX j f fd ps sp)(h:j<=k):
  FnOk P w K mg base CX k f fd ps sp:=⟨F.len,fun A outer s H args us vs Q E hr=>F.run A outer s H args us vs Q E (hr.mono h)⟩
theorem Env0.make {P:Program}{w:World}{K:Fgx}{mg:Mgx}{base:Heap}{A:Around}{outer:List Env}{s:Shared}{H:Hp}(e:Env0 P w K mg base A outer s H)(C:Addr)(us:List Value)(kw:List (Str×Value)):
  Env0 P w K mg base (A.under (.builtin "type.__call__" ⟨.ref C::us,kw⟩)) outer s H:=⟨by first |exact e.frames |(simpa [Around.under,Code.envs,Code.isFrame,pushEnvs] using e.frames),e.mod,e.bs,e.bsz,e.funs,e.frf,e.hok,e.bare⟩
section
variable {X:Cx}{pins:Pnx}{σ:St}{H:Hp}{s s':Shared}
theorem Inv.env0 (I:Inv X pins σ H s):Env0 X.prog X.w X.K X.mg X.base X.A X.stack s H:=
 ⟨I.ok.frames,I.ok.mod,I.bs,xaw I.ok.bsz I.sz,I.stack,I.stkFree,I.hok,I.bare⟩
theorem Inv.after (I:Inv X pins σ H s)(h:CE X.stack X.prog X.w H s Q u s'):EP X pins σ Q u s':=by
 obtain⟨v,H',os,bare,un,hok,r,q⟩:=h;obtain⟨hh,g,d,t,os'⟩:=s';obtain rfl:os'=s.os:=os;exact⟨v,H',I.call (h':=hh) (g':=g) (d':=d) (t':=t) (ch:=[]) un hok bare (fun b z=>absurd z (by simp)),r,q⟩
end
noncomputable def zdD (sp:Sp) (dvs:List V) (E:XK) (t:TA):TE:=fun σ H Q=>t σ H fun vs H1=>sp (vs ++ dvs) H1 Q E
noncomputable def zey (C:Addr) (m:Str) (sp:Sp) (dvs:List V) (E:XK) (ta:TE) (t:TA):TE:=fun σ H Q=>ta σ H fun x H1=>∃a dx fs,x=.ref a/\H1 a=some (.ins C dx fs)/\fs.lookup m=none/\
 t σ H1 fun vs H2=>sp (x::(vs ++ dvs)) H2 Q E
noncomputable def zd0 (C:Addr) (sp:Sp) (dvs:List V) (E:XK) (t:TA):TE:=fun σ H Q=>t σ H fun vs H1=>∀x dx,H1 x=none->H1 dx=none->dx≠x->
 sp (.ref x::(vs ++ dvs)) (upd (upd H1 dx (.own x)) x (.ins C dx [])) (fun v H2=>v=.non/\Q (.ref x) H2) E
def Binds (K:Fgx)(fd:FuncData)(ps:List Str)(ds:List Value):Prop:=
 ∀(s:Shared) (us:List Value),K.In s.heap->(us ++ ds).length=ps.length->BindsTo s fd ⟨us,[]⟩ (ps.zip (us ++ ds))
theorem Binds.all {K:Fgx}{fd:FuncData}{ps:List Str}(h:∀us:List Value,us.length=ps.length->bindArgs fd ⟨us,[]⟩=pure (ps.zip us)):Binds K fd ps []:=fun s us _ hl=>by
 rw[xax]at hl ⊢;exact .of_eq (h us hl)
def Passes (CX:d8)(X:Cx)(E:XK):Prop:=∀(pins:Pnx) (σ:St) (H:Hp) (s:Shared) (e:Value) (s':Shared),Inv X pins σ H s->CX X.stack H s E e s'->X.xe e s'
section
variable {X:Cx}{CX:d8}{k:Nat}{f C:Addr}{fd:FuncData}{ps:List Str}{sp:Sp}{dvs:List V}{ds:List Value}{E:XK}{x m:Str}{p pos apos:Pos}{e o:Expr}{es:List Expr}{ta:TE}{t:TA}
theorem Qh (F:FnOk X.prog X.w X.K X.mg X.base CX k f fd ps sp)(hr:Room k X.A)(hb:Binds X.K fd ps ds)(hd:Vals dvs ds)(hx:Passes CX X E)
    (I:Inv X pins σ H s) (r:Vals vs us) (h:sp (vs ++ dvs) H Q E):wpAny (model X.prog X.w) X.A (call (.ref f) us) (EP X pins σ Q) X.xe s:=by
  have r2:Vals (vs ++ dvs) (us ++ ds):=r.append hd;have hl:(us ++ ds).length=ps.length:=by rw[<-r2.length];exact F.len _ _ _ _ h
  refine xdI (xbW (F.run X.A X.stack s H ⟨us,[]⟩ (us ++ ds) (vs ++ dvs) Q E hr I.env0 (hb s us I.kIn hl) r2 h) fun r s' hq=>?_)
  cases r with
  |error e=>exact hx pins σ H s e s' I hq
  |ok fl=>
    cases fl with
    |ret u=>exact I.after hq
    |next=>exact False.elim hq
    |brk=>exact False.elim hq
    |cont=>exact False.elim hq
theorem YZ (F:FnOk X.prog X.w X.K X.mg X.base CX k f fd ps sp)(hr:Room k X.A)(hg:Gl X x)(hm:X.mg x=some (.ref f))(hk:PySem.W.keepIn X.K (.ref f)=true)(hb:Binds X.K fd ps ds)(hd:Vals dvs ds)(hx:Passes CX X E)
  (ha:PA X (e::es) t) (hdb:(x==("__debug__":Str))=false:=by decide) (he:starEach (e::es) X.env=(false,eval e X.env)::starEach es X.env:=by rfl) (hpl:(backTo pos (starEach es X.env)).any (·.1)=false:=by rfl):
  PE X (.Call (.Name x p) (e::es) [] pos) (zdD sp dvs E t):=by
 intro pins s σ H Q I h;refine xbx (rY I hg hm ?_ hdb);refine xbO (h₀:=X.base) I.ok.mod.kin hk (aN (ha pos pins s σ H _ I h) fun us s1 ⟨vs,H1,I1,r,q⟩=>⟨I1.kIn,?_⟩) he hpl;exact Qh F hr hb hd hx I1 r q
theorem Zc (he:PE X o ta)(c:Cls X.K C)(hm:Meth X.K C m f)(F:FnOk X.prog X.w X.K X.mg X.base CX k f fd ps sp)(hr:Room k X.A)(hb:Binds X.K fd ps ds)(hd:Vals dvs ds)(hx:Passes CX X E)(ha:PA X (e::es) t)
  (hst:starEach (e::es) X.env=(false,eval e X.env)::starEach es X.env:=by rfl) (hpl:(backTo pos (starEach es X.env)).any (·.1)=false:=by rfl)
  (ht : eval (.Call (.Attribute o m apos) (e :: es) [] pos) X.env = (do
   let ov <-eval o X.env
   standAt apos.atName
   let (f,first) <-holding [ov] (getMethod ov m pl)
   callWith pos f first (backTo pos (starEach (e::es) X.env)) (backToKw pos (keywordEach [] X.env))):=by rfl):
  PE X (.Call (.Attribute o m apos) (e::es) [] pos) (zey C m sp dvs E ta t):=by
 intro pins s σ H Q I h;refine PySem.W.methodCall_KW (pl:=pl) (aN (he pins s σ H _ I h) fun u s1 ⟨x,H1,I1,rx,a,dx,fs,ex,ea,l,q⟩=>?_) ht;subst ex;obtain rfl:u=Value.ref a:=rx;refine Vb I1 ea c hm l ?_;refine xbO (first:=[.ref a]) (h₀:=X.base) I.ok.mod.kin hm.kp (aN (ha pos pins s1 σ H1 _ I1 q) fun us s2 ⟨vs,H2,I2,r,q2⟩=>⟨I2.kIn,?_⟩) hst hpl
 exact Qh (us:=.ref a::us) (vs:=.ref a::vs) F hr hb hd hx I2 (.cons rfl r) q2
structure Mk (K:Fgx)(C f:Addr):Prop where
 makes:PySem.W.makesIn K C=true
 init:PySem.W.findIn K (.ref C) "__init__"=some (some (.ref f))
 fn:PySem.W.isFn K (.ref f)=true
 kp:PySem.W.keepIn K (.ref C)=true
theorem za3 (M:Mk X.K C f)(F:FnOk X.prog X.w X.K X.mg X.base CX k f fd ps sp)(hr:Room (k + 1) X.A)(hb:Binds X.K fd ps ds)(hd:Vals dvs ds)
    (hx:Passes CX X E) (I:Inv X pins σ H s) (r:Vals vs us)
    (h:∀x dx,H x=none->H dx=none->dx≠x->sp (.ref x::(vs ++ dvs)) (upd (upd H dx (.own x)) x (.ins C dx [])) (fun v H2=>v=.non/\Q (.ref x) H2) E):
    wpAny (model X.prog X.w) X.A (call (.ref C) us) (EP X pins σ Q) X.xe s:=by
  have hq:=h (s.heap.objs.size + 1) s.heap.objs.size (I.hok.fresh (xbw _)) (I.hok.fresh (xah _)) (xaq (xbt _));have I2:=Inv.made (C:=C) I;have r2:Vals (V.ref (s.heap.objs.size + 1)::(vs ++ dvs)) (Value.ref (s.heap.objs.size + 1)::(us ++ ds)):=.cons rfl (r.append hd);have hl:(Value.ref (s.heap.objs.size + 1)::us ++ ds).length=ps.length:=by
    have e:=r2.length;rw[F.len _ _ _ _ hq]at e;exact e.symm
  refine xdI (Ws (f := f) I.kIn M.makes M.init (xbg.mp M.fn) (xbW (F.run _ X.stack _ _ ⟨Value.ref (s.heap.objs.size + 1)::us,[]⟩ (Value.ref (s.heap.objs.size + 1)::(us ++ ds)) _ _ E (hr.make C us [])
    (I2.env0.make C us []) (hb _ (Value.ref (s.heap.objs.size + 1)::us) I2.kIn hl) r2 hq) fun r s' hq'=>?_))
  cases r with
  |error e=>exact hx pins σ _ _ e s' I2 hq'
  |ok fl=>
    cases fl with
    |ret u=>
      obtain⟨v,H',I3,rv,ev,q3⟩:=I2.after hq';subst ev;exact⟨rv,⟨V.ref (s.heap.objs.size + 1),H',I3,rfl,q3⟩⟩
    |next=>exact False.elim hq'
    |brk=>exact False.elim hq'
    |cont=>exact False.elim hq'
theorem Zb (M:Mk X.K C f)(F:FnOk X.prog X.w X.K X.mg X.base CX k f fd ps sp)(hr:Room (k + 1) X.A)(hg:Gl X x)(hm:X.mg x=some (.ref C))(hb:Binds X.K fd ps ds)(hd:Vals dvs ds)(hx:Passes CX X E)
  (ha:PA X (e::es) t) (hdb:(x==("__debug__":Str))=false:=by decide) (he:starEach (e::es) X.env=(false,eval e X.env)::starEach es X.env:=by rfl) (hpl:(backTo pos (starEach es X.env)).any (·.1)=false:=by rfl):
  PE X (.Call (.Name x p) (e::es) [] pos) (zd0 C sp dvs E t):=by
 intro pins s σ H Q I h;refine xbx (rY I hg hm ?_ hdb);refine xbO (h₀:=X.base) I.ok.mod.kin M.kp (aN (ha pos pins s σ H _ I h) fun us s1 ⟨vs,H1,I1,r,q⟩=>⟨I1.kIn,?_⟩) he hpl;exact za3 M F hr hb hd hx I1 r q
end
section
variable {X:Cx}{CX:d8}{k:Nat}{f C:Addr}{fd:FuncData}{ps ks:List Str}{sp:Sp}{E:XK}{x m:Str}{p pos apos kpos:Pos}{e o:Expr}{es:List Expr}{kws:List Keyword}{te ta:TE}{t tk:TA}{nm:Option Str}
structure KBinds (K:Fgx)(fd:FuncData)(ps ks:List Str)(g:List Value->List Value->List Value)(gV:List V->List V->List V):Prop where
 to:∀(s:Shared) (us ws:List Value),K.In s.heap->(g us ws).length=ps.length->BindsTo s fd ⟨us,ks.zip ws⟩ (ps.zip (g us ws))
 rel:∀{vs:List V} {us:List Value} {zs:List V} {ws:List Value},Vals vs us->Vals zs ws->Vals (gV vs zs) (g us ws)
variable {g:List Value->List Value->List Value}{gV:List V->List V->List V}
end
structure FnScope (N P:List Str)(sc:Scope):Prop where
 kind:sc.kind=.function
 co:sc.isCoroutine=false
 gen:sc.isGenerator=false
 nd:N.Nodup
 pre:N.take P.length=P
 par:∀x∈P,sc.names.lookup x=some .local\/sc.names.lookup x=some .cell
 nofree:∀y∈sc.names,y.2≠ .free
theorem Li {kindOf:Str->Option NameKind}{x:Str}:∀{binds:List (Str×Value)} {m:Mgx},(∀v,(x,v)∉binds)->bindL kindOf binds m x=m x
  | [],_,_=>rfl
  |(n,v)::r,m,h=>by
    unfold bindL;rw[Li fun w hw=>h w (xat _ hw)]
    split
    · have:x≠n:=by rintro rfl;exact h v xaO
      simp[this]
    · rfl
theorem Lg {kindOf:Str->Option NameKind}{x:Str}:∀{binds:List (Str×Value)} {m:Mgx},(∀v,(x,v)∉binds)->bindC kindOf binds m x=m x
  | [],_,_=>rfl
  |(n,v)::r,m,h=>by
    unfold bindC;rw[Lg fun w hw=>h w (xat _ hw)]
    split
    · rfl
    · have:x≠n:=by rintro rfl;exact h v xaO
      simp[this]
theorem Lh {kindOf:Str->Option NameKind}{x:Str}{v:Value}:∀{P:List Str} {vs:List Value} {i:Nat} {m:Mgx},P.Nodup->P[i]? =some x->vs[i]? =some v->kindOf x=some .local->
    bindL kindOf (P.zip vs) m x=some v
  | [],_,_,_,_,h,_,_=>by simp at h
  |_::_,[],_,_,_,_,h,_=>by simp at h
  |p::P,w::vs,0,m,nd,h1,h2,hk=>by
    simp at h1 h2;subst h1;subst h2
    show bindL kindOf ((p,w)::P.zip vs) m p=_;unfold bindL;rw[Li fun v hv=>(xbm.mp nd).1 (xcf hv).1,xab hk]
    simp
  |p::P,w::vs,i + 1,m,nd,h1,h2,hk=>by
    show bindL kindOf ((p,w)::P.zip vs) m x=_;unfold bindL;exact Lh (i:=i) (xbm.mp nd).2 (by simpa using h1) (by simpa using h2) hk
theorem Lf {kindOf:Str->Option NameKind}{x:Str}{v:Value}:∀{P:List Str} {vs:List Value} {i:Nat} {m:Mgx},P.Nodup->P[i]? =some x->vs[i]? =some v->kindOf x≠some .local->
    bindC kindOf (P.zip vs) m x=some v
  | [],_,_,_,_,h,_,_=>by simp at h
  |_::_,[],_,_,_,_,h,_=>by simp at h
  |p::P,w::vs,0,m,nd,h1,h2,hk=>by
    simp at h1 h2;subst h1;subst h2
    show bindC kindOf ((p,w)::P.zip vs) m p=_;unfold bindC;rw[Lg fun v hv=>(xbm.mp nd).1 (xcf hv).1,xai hk]
    simp
  |p::P,w::vs,i + 1,m,nd,h1,h2,hk=>by
    show bindC kindOf ((p,w)::P.zip vs) m x=_;unfold bindC;exact Lf (i:=i) (xbm.mp nd).2 (by simpa using h1) (by simpa using h2) hk
noncomputable def start (N:List Str) (vs:List V):St:=vs.map some ++ List.replicate (N.length - vs.length) none
noncomputable def cG (CX:d8) (P:Program) (w:World) (K:Fgx) (mg:Mgx) (base:Heap) (N:List Str) (qual:Str) (scope:Scope) (f:Addr) (cd:Value) (A:Around) (outer:List Env) (s:Shared) (H:Hp) (E:XK):Cx where
 prog:=P
 w:=w
 K:=K
 mg:=mg
 base:=base
 A:=A.deeper (envOfC qual scope s.heap.objs.size f cd)
 N:=N
 s₀:=s
 H₀:=H
 env:=envOfC qual scope s.heap.objs.size f cd
 outer:=outer
 stack:=envOfC qual scope s.heap.objs.size f cd::outer
 ex:=[]
 calm:=true
 fn:=fun _=>true
 pn:=[]
 xe:=fun e s'=>wpAny (model P w) (A.deeper (envOfC qual scope s.heap.objs.size f cd)) (leaving (envOfC qual scope s.heap.objs.size f cd) e) (fun _ s''=>CX outer H s E e s'') (fun e' s''=>CX outer H s E e' s'') s'
theorem Fj {sc:Scope}{n:Nat}{x:Str}(h:sc.names.lookup x=some .cell):∃c,(cellsFrom n sc.names []).lookup x=some c:=by
 have q:=xcr sc.names n [] (.inl h);exact Option.isSome_iff_exists.mp q
theorem Nk {CX:d8}{P:Program}{w:World}{K:Fgx}{mg:Mgx}{base:Heap}{N ps:List Str}{qual:Str}{scope:Scope}{f:Addr}{cd:Value}{A:Around}{outer:List Env}{s s1:Shared}{H:Hp}{E:XK}{us:List Value}{vs:List V}
  (S:FnScope N ps scope) (hd:A.handled=none) (e0:Env0 P w K mg base A outer s H) (hl:vs.length=ps.length) (r:Vals vs us)
  (x:InCallC s s.heap.objs.size (bindL (envOfC qual scope s.heap.objs.size f cd).kindOf (ps.zip us) fun _=>none) (cellsFrom (s.heap.objs.size + 1) scope.names []) (bindC (envOfC qual scope s.heap.objs.size f cd).kindOf (ps.zip us) fun _=>none) s1):
  Inv (cG CX P w K mg base N qual scope f cd A outer s H E) [] (start N vs) H s1:=by
 have hpl:ps.length<=N.length:=by have:=congrArg List.length S.pre;rw[xbG]at this;omega
 obtain ⟨h1, tk, rfl, hk⟩ := x.done;have noA : ∀ b : Addr, b ∉ (cG CX P w K mg base N qual scope f cd A outer s H E).ex := fun b z => absurd (show b ∈ ([] : List Addr) from z) (by simp);refine ⟨⟨e0.mod,S.kind,rfl,rfl,xah _,fun y z c h1 h2=>?_,fun y hy=>?_,fun y c _ h=>?_,fun _=>hd,Around.frames_deeper e0.frames,.inr ⟨rfl,rfl⟩,fun b z=>absurd z (noA b),e0.bs,e0.bsz,fun b _ _=>noA b,fun b z=>absurd z (noA b),e0.funs,e0.frf⟩,
  rfl,e0.bare,Un.kept hk,⟨_,x.toInCall.ns,fun i y v h1 h2 h3=>?_⟩,fun y c h=>⟨_,x.cell y c h⟩,e0.hok.fresh (xah _),fun y c h=>?_,fun p hp=>absurd (show p∈([]:Pnx) from hp) (by simp),e0.hok.kept hk,?_⟩
 ·exact name_of_addr x.apart (xaR h1) (xaR h2)
 ·have hy:scope.names.lookup y=some .cell\/scope.names.lookup y=some .free:=hy;rcases hy with hy |hy
  ·exact Fj hy
  ·exact absurd rfl (S.nofree _ (xaR hy))
 ·exact xch (x.above y c (xaR h))
 ·have hi:i<vs.length:=by
   unfold start at h2
   by_cases hi:i<vs.length
   ·exact hi
   ·rw[xaB (by simpa using hi)]at h2;rw[xaS]at h2;split at h2<;>cases h2
  have ha:vs[i]? =some v:=by
   unfold start at h2;rw[xaz (by simpa using hi),xan]at h2
   cases e:vs[i]? with
   |none=>rw[e]at h2;cases h2
   |some a=>rw[e]at h2;cases h2;rfl
  obtain⟨u,hu,rv⟩:=r.get ha;have hp:ps[i]? =some y:=by
   rw[<-S.pre,xdj (by omega)];exact h1
  have ndP:ps.Nodup:=by rw[<-S.pre];exact S.nd.sublist (xd2 _ _)
  refine⟨u,rv,?_⟩;rcases S.par y (xau hp) with k |k
  ·exact .inl ⟨k,Lh ndP hp hu k⟩
  ·obtain⟨c,e⟩:=Fj (n:=s.heap.objs.size + 1) k;refine .inr ⟨.inl k,c,e,?_⟩;have q:=x.cell y c e;rw[Lf ndP hp hu (by show scope.names.lookup y≠_;rw[k];decide)]at q;exact q
 ·exact .inl (e0.hok.fresh (xch (x.above y c (xaR h))))
 ·unfold start;show _=N.length;rw[xap,xar,xbk];omega
theorem MJ {CX:d8}{P:Program}{w:World}{K:Fgx}{mg:Mgx}{base:Heap}{k:Nat}{f:Addr}{name qual:Str}{params:Arguments}{body:List Stmt}{scope:Scope}{dV kV doc pm cdv ct oc:Value}{an od:Option Addr}
    {osl:Array (Option Value)} {N ps:List Str} {sp:Sp} (lk:K.lookup f=some ⟨oc,od,.func (PySem.W.fnOf name qual params body scope dV kV doc pm an cdv ct),osl⟩) (hcd:PySem.W.codeIn K cdv qual=true) (S:FnScope N ps scope)
    (len:∀vs H Q E,sp vs H Q E->vs.length=ps.length)
    (hbody:∀(A:Around) (outer:List Env) (s:Shared) (H:Hp) (vs:List V) (Q:VK) (E:XK),Room k (A.deeper (envOfC qual scope s.heap.objs.size f cdv))->sp vs H Q E->
      ∃t,gw (cG CX P w K mg base N qual scope f cdv A outer s H E) body t/\t {nx:=fun _ H'=>Q .non H',rt:=Q} (start N vs) H):
    FnOk P w K mg base CX (k + 1) f (PySem.W.fnOf name qual params body scope dV kV doc pm an cdv ct) ps sp:=by
  refine⟨len,fun A outer s H args us vs Q E hr e0 hb r hsp=>?_⟩;have hl:=len _ _ _ _ hsp;have KX:K.In s.heap:=e0.mod.kin.keeps fun b o e=>(e0.bs b o e).1;have lim:s.heap.NoLimit:=e0.mod.nolimit.keeps fun b o e=>(e0.bs b o e).1;have hkind:∀y∈ps.zip us,scope.names.lookup y.1=some .local\/(scope.names.lookup y.1=some .cell/\((cellsFrom (s.heap.objs.size + 1) scope.names []).lookup y.1).isSome=true):=fun⟨n,v⟩ hy=>by
    rcases S.par n (xcf hy).1 with q |q
    · exact .inl q
    · exact .inr ⟨q,xcr _ _ _ (.inl q)⟩
  refine xcB hr.depth (KX _ _ lk) rfl S.co S.gen rfl (xdX KX hcd) (hb _ _ _ _ ?_);refine xc5 S.kind hkind fun env he s1 x=>?_;subst he;refine⟨lim.keeps x.toInCall.keep,codeAny_func ?_⟩;obtain⟨t,ht,hq⟩:=hbody A outer s H vs Q E (hr.deeper _) hsp;have I:Inv (cG CX P w K mg base N qual scope f cdv A outer s H E) [] (start N vs) H s1:=Nk S hr.hd e0 hl r x;refine xaN (ht [] s1 (start N vs) H _ I hq) (fun fl s' hs=>?_) fun e s' hs=>hs;have fin:∀{σ':St} {H':Hp} {v:V} {u:Value},Inv (cG CX P w K mg base N qual scope f cdv A outer s H E) [] σ' H' s'->RelV v u->Q v H'->CE outer P w H s Q u s':=
    fun {σ' H' v u} J rv q=>⟨v,H',J.os,J.bare,J.base,J.hok,rv,q⟩
  cases fl with
  |ret u=>
    obtain⟨v,σ',H',J,rv,q⟩:=hs;exact fin J rv q
  |next=>
    obtain⟨σ',H',J,q⟩:=hs;exact fin (v:=V.non) (u:=Value.none) J rfl q
  |brk=>
    obtain⟨_,_,_,q⟩:=hs;exact False.elim q
  |cont=>
    obtain⟨_,_,_,q⟩:=hs;exact False.elim q
section
variable {X:Cx}{x:Str}{p pos:Pos}{e:Expr}{es:List Expr}{t:TA}{id T:String}{r:List V->Hp->VK->Prop}
noncomputable def Kd (r:List V->Hp->VK->Prop) (t:TA):TE:=fun σ H Q=>t σ H fun vs H1=>r vs H1 Q
theorem Iu (hc:cX X (.builtin id) r)(hg:Gl X x)(hm:X.mg x=none)(hv:bootBuiltins x=some (.builtin id))(ha:PA X (e::es) t)(hn:x≠"__name__":=by decide)(hdb:(x==("__debug__":Str))=false:=by decide)
  (he:starEach (e::es) X.env=(false,eval e X.env)::starEach es X.env:=by rfl) (hpl:(backTo pos (starEach es X.env)).any (·.1)=false:=by rfl):PE X (.Call (.Name x p) (e::es) [] pos) (Kd r t):=by
 intro pins s σ H Q I h;refine xbx (rW I hg hm hv ?_ hn hdb);exact PyProof.Rows.callWith_builtin1 (aN (ha pos pins s σ H _ I h) fun us s1 ⟨vs,H1,I1,r1,q1⟩=>hc pins s1 σ H1 vs us Q I1 r1 q1) he hpl
theorem O2 (hc:cX X (.type T) r)(hg:Gl X x)(hm:X.mg x=none)(hv:bootBuiltins x=some (.type T))(ha:PA X (e::es) t)(hn:x≠"__name__":=by decide)(hdb:(x==("__debug__":Str))=false:=by decide)
  (he:starEach (e::es) X.env=(false,eval e X.env)::starEach es X.env:=by rfl) (hpl:(backTo pos (starEach es X.env)).any (·.1)=false:=by rfl):PE X (.Call (.Name x p) (e::es) [] pos) (Kd r t):=by
 intro pins s σ H Q I h;refine xbx (rW I hg hm hv ?_ hn hdb);exact xbe (aN (ha pos pins s σ H _ I h) fun us s1 ⟨vs,H1,I1,r1,q1⟩=>hc pins s1 σ H1 vs us Q I1 r1 q1) he hpl
end
end L2
namespace HT
open PySem PyProof.Rows
section
open PySem.SeqAt
open PySem.AutoSeq1 (wpAny_loadPart')
open PySem.MeetsSeq PySem.MeetsSeq2 PySem.MeetsSeq3
end
section
variable {prog:Program}{w:World}{A:Around}{E:Value->Shared->Prop}{s:Shared}
theorem TY (ht:IsTup s.heap t vs.toArray)(hb:IsTup s.heap b ws.toArray)(hv:vs≠ [])
  (h1:ws=[]->Q (.ref t) s) (h2:ws≠ []->Q (.ref s.heap.objs.size) {s with heap:=s.heap.push {cls:=.type "tuple",data:=.seq (vs ++ ws).toArray}})
  (hsz:vs.length + ws.length<=sizeLine):wpAny (model prog w) A (binaryOp .Add (.ref t) (.ref b)) Q E s:=by
 obtain⟨⟨cls,dd,data,sl⟩,ho,hc,n,hd⟩:=id ht;obtain⟨⟨cls2,dd2,data2,sl2⟩,ho2,hc2,n2,hd2⟩:=id hb;simp only at hc hd hc2 hd2;subst hc hd hc2 hd2;have e:vs.toArray ++ ws.toArray=(vs ++ ws).toArray:=by simp
 by_cases hw:ws=[]
 ·exact concat_meets ⟨_,ho,rfl⟩ ⟨_,ho2,rfl⟩ noFill_tuple_add seq_tuple_add xdy xdt (xdk _ _)
   (tuple_addW1 t b vs.toArray ws.toArray n n2 dd dd2 sl sl2 (by simpa using hv) (by simp[hw])) ⟨ho,ho2,h1 hw⟩
 ·refine concat_meets ⟨_,ho,rfl⟩ ⟨_,ho2,rfl⟩ noFill_tuple_add seq_tuple_add xdy xdt (xdk _ _)
   (tuple_addW2 t b vs.toArray ws.toArray n n2 dd dd2 sl sl2 (by simpa using hv) (by simpa using hw) (by rw[xae,xae];exact hsz)) ⟨ho,ho2,?_⟩
  rw[e];exact h2 hw
noncomputable def aX (n d:Nat):Option Int->Nat
 |none=>d
 |some v=>if v<0 then(v + (n:Int)).toNat else min v.toNat n
theorem zba (n d:Nat):aX n d none=d:=rfl
theorem zbv (n d k:Nat):aX n d (some (k:Int))=min k n:=by
 show(if (k:Int)<0 then((k:Int) + (n:Int)).toNat else min (k:Int).toNat n)=min k n
 rw[xai (by omega),xd3]
theorem zcZ (n d:Nat)(hd:d<=n)(o:Option Int):aX n d o<=n:=by
  cases o with
  |none=>exact hd
  |some v=>
    show(if v<0 then(v + (n:Int)).toNat else min v.toNat n)<=n
    by_cases hv:v<0
    · rw[xab hv];omega
    · rw[xai hv];exact Nat.min_le_right _ _
theorem LQ (v:Int)(n d:Nat):(if v<0 then max (v + (n:Int)) 0 else min v (n:Int))=((aX n d (some v):Nat):Int):=by
 show(if v<0 then max (v + (n:Int)) 0 else min v (n:Int))=(((if v<0 then(v + (n:Int)).toNat else min v.toNat n):Nat):Int)
 by_cases hv:v<0
 ·simp only[xab hv];omega
 ·simp only[xai hv];omega
theorem S7 (lo hi:Option Int)(n:Nat):Builtin.Slice.sliceAdjust lo hi 1 (n:Int)=(((aX n 0 lo:Nat):Int),((aX n n hi:Nat):Int)):=by
 have h1:¬ ((1:Int)<0):=by omega
 unfold Builtin.Slice.sliceAdjust;simp only[h1,xbT];refine Prod.ext ?_ ?_
 ·cases lo with
  |none=>rfl
  |some v=>exact LQ v n 0
 ·cases hi with
  |none=>rfl
  |some v=>exact LQ v n n
theorem ZF (i j:Nat):Builtin.Slice.slicePlaces (i:Int) (j:Int) 1=j - i:=by
 unfold Builtin.Slice.slicePlaces;have h1:(1:Int) > 0:=by omega
 simp only[h1,xba,Int.ediv_one]
 split<;>omega
theorem Rt (p:IsPart v o)(h:Q o s):wpAny (model prog w) A (Builtin.Slice.slicePartIndex v) Q E s:=by
 cases p with
 |none=>exact slicePart_none h
 |int i t=>exact slicePart_int h
theorem zak {sl:Addr}{vl vu:Value}{lo hi:Option Int}{n:Nat}{Q:Int×Int×Nat->Shared->Prop}(hs:s.heap.IsSliceOf sl vl vu .none)(pl:IsPart vl lo)(pu:IsPart vu hi)
  (h:Q (((aX n 0 lo:Nat):Int),1,aX n n hi - aX n 0 lo) s):wpAny (model prog w) A (Builtin.Slice.sliceApplied (.ref sl) (pure (n:Int))) Q E s:=by
 obtain⟨os,hos,hcs,hds⟩:=id hs;unfold Builtin.Slice.sliceApplied Builtin.Slice.sliceFields;refine tG (tG (xaD hos hds (x:=vl) rfl (tG (xaD hos hds (x:=vu) rfl (tG (xaD hos hds (x:=.none) rfl (xac ?_)))))));refine tG (slicePart_none ?_);show wpAny _ _ (if ((1:Int)==0)=true then _ else _) _ _ s
 rw[xai (by decide)];refine tG (Rt pl (tG (Rt pu (tG (xac ?_)))));show wpAny _ _ (match Builtin.Slice.sliceAdjust lo hi 1 (n:Int) with |(lo,hi)=>pure (lo,(1:Int),Builtin.Slice.slicePlaces lo hi 1)) _ _ s
 rw[S7 lo hi n];show wpAny _ _ (pure (((aX n 0 lo:Nat):Int),(1:Int),Builtin.Slice.slicePlaces ((aX n 0 lo:Nat):Int) ((aX n n hi:Nat):Int) 1)) _ _ s;rw[ZF];exact xac h
theorem Zw (xs:Array Value)(i k:Nat):((List.range k).filterMap fun(m:Nat)=>xs[((i:Int) + (m:Int) * 1).toNat]?).toArray=((xs.toList.drop i).take k).toArray:=by
 have e:(fun(m:Nat)=>xs[((i:Int) + (m:Int) * 1).toNat]?)=fun m=>xs[i + m]? :=by
  funext m;have:((i:Int) + (m:Int) * 1).toNat=i + m:=by omega
  rw[this]
 rw[e];have:=pick_run xs i k;rw[List.filterMap_map]at this;have e2:((fun x=>xs[x]?) ∘ fun x=>i + x)=fun m=>xs[i + m]? :=rfl;rw[e2]at this;rw[this]
theorem U9 {t sl:Addr}{items:Array Value}{vl vu:Value}{lo hi:Option Int}{Q:Value->Shared->Prop}(ht:IsTup s.heap t items)(hs:s.heap.IsSliceOf sl vl vu .none)(pl:IsPart vl lo)(pu:IsPart vu hi)
  (hw:¬ (aX items.size 0 lo=0/\aX items.size items.size hi=items.size))
  (h:Q (.ref s.heap.objs.size) {s with heap:=s.heap.push {cls:=.type "tuple",data:=.seq ((items.toList.drop (aX items.size 0 lo)).take (aX items.size items.size hi - aX items.size 0 lo)).toArray}})
  (hsz:items.size<=sizeLine):wpAny (model prog w) A (getItem (.ref t) (.ref sl)) Q E s:=by
 have htake:sizeOk (.seq ((items.toList.drop (aX items.size 0 lo)).take (aX items.size items.size hi - aX items.size 0 lo)).toArray):=by
  show((items.toList.drop (aX items.size 0 lo)).take (aX items.size items.size hi - aX items.size 0 lo)).toArray.size<=sizeLine;rw[xae,xbG,xb5,xaY];omega
 have hj:aX items.size items.size hi<=items.size:=zcZ _ _ (xah _) hi;obtain⟨os,hos,hcs,hds⟩:=id hs;have hTs:s.TypeIs (.ref sl) "slice":=⟨os,hos,hcs⟩;unfold getItem
 try with_reducible refine xbC ?_
 first |refine tG (xac ?_) |skip
 refine tG (wpAny_sequenceKey ht.typeIs (by decide) ?_);refine tG (xbs (name:=Str.ofString "__getitem__") ht.typeIs xbL
  (xbi xbL ht.typeIs entry_tuple_getitem ?_ (args_tuple_getitem _ _)))
 show wpAny _ _ (Builtin.Tuple.tupleItemsOf (.ref t) >>=_) _ _ s;refine tG (tupleItemsOf_ ht ?_);refine tG (wpAny_typeOf hTs ?_);rw[xab (by decide)];refine tG (zak hs pl pu ?_);have hno:¬ ((((aX items.size 0 lo:Nat):Int)==0 && (1:Int)==1 && (aX items.size items.size hi - aX items.size 0 lo)==items.size)=true):=by
  intro q;rw[xam,xam]at q;have q1:((aX items.size 0 lo:Nat):Int)=0:=eq_of_beq q.1.1;have q2:aX items.size items.size hi - aX items.size 0 lo=items.size:=eq_of_beq q.2;exact hw ⟨by omega,by omega⟩
 show wpAny _ _ (if (((aX items.size 0 lo:Nat):Int)==0 && (1:Int)==1 && (aX items.size items.size hi - aX items.size 0 lo)==items.size)=true then _ else _) _ _ s
 rw[xai hno,Zw]
 first
  |exact tG (m:=Builtin.Tuple.tupleExact _) (xaG (xac ⟨_,rfl,xac h⟩) htake)
  |exact tG (m:=Builtin.Tuple.tupleExact _) (xaG (tG (xac (xac ⟨_,rfl,xac h⟩))) htake)
  |exact tG (tG (m:=Builtin.Tuple.tupleExact _) (xaG (xac (xac ⟨_,rfl,xac h⟩)) htake))
  |exact tG (tG (m:=Builtin.Tuple.tupleExact _) (xaG (xac ⟨_,rfl,xac h⟩) htake))
end
end HT
namespace L2
open PySem PySem.Spec PyProof.Rows
abbrev TO:=St->Hp->(Option Int->Hp->Prop)->Prop
def PO (X:Cx)(e:Option Expr)(t:TO):Prop:=
 ∀(pins:Pnx) (s:Shared) (σ:St) (H:Hp) (Q:Option Int->Hp->Prop),Inv X pins σ H s->t σ H Q->
  wpAny (model X.prog X.w) X.A (evalPart e X.env) (fun u s'=>∃o H',Inv X pins σ H' s'/\IsPart u o/\Q o H') X.xe s
def zbO:TO:=fun _ H Q=>Q none H
noncomputable def zeE (t:TE):TO:=fun σ H Q=>t σ H fun x H1=>∃i,x=.int i/\Q (some i) H1
section
variable {X:Cx}{e:Expr}{te:TE}{lo hi:Option Expr}{tl th:TO}{pos p2:Pos}
theorem ZG:PO X none zbO:=by
 intro pins s σ H Q I h;rw[evalPart_none];exact xac ⟨none,H,I,.none,h⟩
theorem ZJ (h:PE X e te):PO X (some e) (zeE te):=by
 intro pins s σ H Q I hw;rw[evalPart_some];refine aN (h pins s σ H _ I hw) fun u s1 ⟨x,H1,I1,r1,q1⟩=>?_;obtain⟨i,rfl,q⟩:=q1;obtain⟨t,rfl⟩:=r1;exact⟨some i,H1,I1,.int i t,q⟩
def pJ (X:Cx)(r:V->Option Int->Option Int->Hp->VK->Prop):Prop:=
 ∀(pins:Pnx) (s:Shared) (σ:St) (H:Hp) (x:V) (v vl vu:Value) (lo hi:Option Int) (sl:Addr) (Q:VK),Inv X pins σ H s->RelV x v->s.heap.IsSliceOf sl vl vu .none->IsPart vl lo->IsPart vu hi->r x lo hi H Q->
  ∃T id,typeLookup (.type T) "__getitem__"=pure (some (.builtin id))/\s.TypeIs v T/\wpAny (model X.prog X.w) X.A (getItem v (.ref sl)) (EP X pins σ Q) X.xe s
theorem pJ.or (h:pJ X r)(h':pJ X r'):pJ X (fun x lo hi H Q=>r x lo hi H Q\/r' x lo hi H Q):=by
 intro pins s σ H x v vl vu lo hi sl Q I rx hs pl pu q;rcases q with q |q
 ·exact h pins s σ H x v vl vu lo hi sl Q I rx hs pl pu q
 ·exact h' pins s σ H x v vl vu lo hi sl Q I rx hs pl pu q
noncomputable def tSl (r:V->Option Int->Option Int->Hp->VK->Prop) (te:TE) (tl th:TO):TE:=fun σ H Q=>te σ H fun x H1=>tl σ H1 fun l H2=>th σ H2 fun u H3=>r x l u H3 Q
theorem O3 (hr:pJ X r)(he:PE X e te)(hl:PO X lo tl)(hu:PO X hi th):PE X (.Subscript e (.Slice lo hi none p2) pos) (tSl r te tl th):=by
 intro pins s σ H Q I h;refine Subscript_ (aN (he pins s σ H _ I h) fun v s1 ⟨x,H1,I1,r1,q1⟩=>?_);refine wpAny_Slice (aN (hl pins s1 σ H1 _ I1 q1) fun vl s2 ⟨l,H2,I2,pl,q2⟩=>aN (hu pins s2 σ H2 _ I2 q2) fun vu s3 ⟨u,H3,I3,pu,q3⟩=>?_);rw[evalPart_none];refine xac ?_;have I4:Inv X pins σ H3 {s3 with heap:=s3.heap.push {cls:=.type "slice",data:=.fields #[vl,vu,.none]}}:=I3.kept (t':=s3.toks) fun b ob q=>xaa _ q;obtain⟨T,id,hT,ht,hg⟩:=hr pins {s3 with heap:=s3.heap.push {cls:=.type "slice",data:=.fields #[vl,vu,.none]}} σ H3 x v vl vu l u s3.heap.objs.size Q I4 r1 (Heap.IsSliceOf.new ..) pl pu q3;show wpAny (model X.prog X.w) X.A (subscriptTail e (.Slice lo hi none p2) v (.ref s3.heap.objs.size)) (EP X pins σ Q) X.xe {s3 with heap:=s3.heap.push {cls:=.type "slice",data:=.fields #[vl,vu,.none]}};exact tail_any (ops:=[.ref s3.heap.objs.size,v]) ht hT hg (by with_unfolding_all rfl)
noncomputable def fj (xs:List V) (lo hi:Option Int):List V:=(xs.drop (HT.aX xs.length 0 lo)).take (HT.aX xs.length xs.length hi - HT.aX xs.length 0 lo)
theorem Mg (xs:List V)(lo hi:Option Int):(fj xs lo hi).length<=xs.length:=by
 unfold fj;rw[xbG,xb5];omega
def Jq (K:Fgx):V->Option Int->Option Int->Hp->VK->Prop:=fun x lo hi H Q=>∃a xs,x=.ref a/\cU K H a xs/\
 ¬ (HT.aX xs.length 0 lo=0/\HT.aX xs.length xs.length hi=xs.length)/\∀p,H p=none->Q (.ref p) (upd H p (.tup (fj xs lo hi)))
theorem zcn:pJ X (Jq X.K):=by
 intro pins s σ H x v vl vu lo hi sl Q I rx hs pl pu h;obtain⟨a,xs,rfl,hx,hw,q⟩:=h;cases rx;obtain⟨its,r,ht,hz⟩:=I.tuple hx;have hlen:its.toArray.size=xs.length:=by rw[xae];exact r.length.symm
 refine⟨"tuple",_,xbL.lookup,ht.typeIs,?_⟩;refine HT.U9 ht hs pl pu (by rw[hlen];exact hw) ?_ (by rw[hlen];exact hz);rw[hlen];refine⟨.ref s.heap.objs.size,_,I.laid (t':=s.toks) (o:=.tup (fj xs lo hi)) (fun b ob q=>xaa _ q) (xah _) ?_,rfl,q _ (I.hok.fresh (xah _))⟩;exact⟨xaw (Mg xs lo hi) hz,_,(r.drop (HT.aX xs.length 0 lo)).take (HT.aX xs.length xs.length hi - HT.aX xs.length 0 lo),IsTup.new _ _⟩
noncomputable def Pu (K:Fgx):R2:=fun x y H Q=>∃a b xs ys,x=.ref a/\y=.ref b/\cU K H a xs/\cU K H b ys/\xs≠ []/\xs.length + ys.length<=sizeLine/\
 (ys=[]->Q (.ref a) H)/\(ys≠ []->∀p,H p=none->Q (.ref p) (upd H p (.tup (xs ++ ys))))
theorem Vals.nil_iff (r:Vals xs us):us=[] ↔ xs=[]:=by
 cases r with
 |nil=>simp
 |cons _ _=>simp
theorem Yp:bG X (binaryOp .Add) (Pu X.K):=by
 intro pins s σ H x y v u Q I rx ry h;obtain⟨a,b,xs,ys,rfl,rfl,ha,hb,hx,hz,q1,q2⟩:=h;cases rx;cases ry;obtain⟨its,r1,p1,_⟩:=I.tuple ha;obtain⟨its2,r2,p2,_⟩:=I.tuple hb;refine HT.TY p1 p2 (fun z=>hx (r1.nil_iff.mp z)) (fun z=>⟨.ref a,H,I,rfl,q1 (r2.nil_iff.mp z)⟩) (fun z=>?_) (by rw[<-r1.length, <-r2.length];exact hz);refine⟨.ref s.heap.objs.size,_,I.laid (t':=s.toks) (o:=.tup (xs ++ ys)) (fun b ob q=>xaa _ q) (xah _) ?_,rfl,q2 (fun w=>z (r2.nil_iff.mpr w)) _ (I.hok.fresh (xah _))⟩;exact⟨by rw[xap];exact hz,_,r1.append r2,IsTup.new _ _⟩
end
noncomputable def pU (n:Nat) (i:Int):Option Nat:=if 0<=i then(if i<n then some i.toNat else none) else if -(n:Int)<=i then some (i + n).toNat else none
noncomputable def cJ {α:Type} (xs:List α) (i:Int):Option α:=(pU xs.length i).bind fun j=>xs[j]?
theorem Vx (h:pU n i=some j):seqIndex? i n=some j/\j<n/\ -(n:Int)<=i/\i<n:=by
 unfold pU at h
 by_cases h0:0<=i
 ·rw[xab h0]at h
  by_cases h1:i<n
  ·rw[xab h1]at h;have e:i.toNat=j:=xay h;exact⟨by rw[seqIndex_of h0 h1,e],by omega,by omega,h1⟩
  ·rw[xai h1]at h;cases h
 ·rw[xai h0]at h
  by_cases h1: -(n:Int)<=i
  ·rw[xab h1]at h;have e:(i + n).toNat=j:=xay h;exact⟨by rw[seqIndex_neg (by omega) h1,e],by omega,h1,by omega⟩
  ·rw[xai h1]at h;cases h
theorem DW (h:cJ xs i=some v):∃j,seqIndex? i xs.length=some j/\xs[j]? =some v/\j<xs.length/\ -(xs.length:Int)<=i/\i<xs.length:=by
  unfold cJ at h
  cases e:pU xs.length i with
  |none=>rw[e]at h;cases h
  |some j=>
    rw[e]at h;obtain⟨h1,h2,h3,h4⟩:=Vx e;exact⟨j,h1,h,h2,h3,h4⟩
theorem tR {α:Type}{xs:List α}{j:Nat}{v:α}(h:xs[j]? =some v):cJ xs (j:Int)=some v:=by
 have hj:j<xs.length:=(xak.mp h).1;have e:pU xs.length (j:Int)=some j:=by
  unfold pU;rw[xab (by omega),xab (by omega)];simp
 unfold cJ;rw[e];exact h
def Dw (b:Expr):Prop:=∀o i,subscripted b false o i=operate [o,i] (getItem o i)
def lZ (X:Cx)(r:R2):Prop:=
 ∀(value slice:Expr) (pins:Pnx) (s:Shared) (σ:St) (H:Hp) (x y:V) (v u:Value) (Q:VK),Inv X pins σ H s->RelV x v->RelV y u->r x y H Q->
  subscripted slice false v u=operate [v,u] (getItem v u)->wpAny (model X.prog X.w) X.A (subscriptTail value slice v u) (EP X pins σ Q) X.xe s
def tL (X:Cx)(id:String)(r:V->List V->Hp->VK->Prop):Prop:=
 ∀(pins:Pnx) (s:Shared) (σ:St) (H:Hp) (x:V) (xs:List V) (v:Value) (us:List Value) (Q:VK),Inv X pins σ H s->RelV x v->Vals xs us->r x xs H Q->
  wpAny (model X.prog X.w) X.A (call (.builtin id) (v::us)) (EP X pins σ Q) X.xe s
section
variable {X:Cx}{a b:Expr}{ta tb:TE}{pos:Pos}
theorem lZ.or (h:lZ X r)(h':lZ X r'):lZ X (fun x y H Q=>r x y H Q\/r' x y H Q):=by
 intro value slice pins s σ H x y v u Q I rx ry q hs;rcases q with q |q
 ·exact h value slice pins s σ H x y v u Q I rx ry q hs
 ·exact h' value slice pins s σ H x y v u Q I rx ry q hs
theorem Y_ (hr:lZ X r)(ha:PE X a ta)(hb:PE X b tb)(hs:Dw b):PE X (.Subscript a b pos) (zx r ta tb):=by
 intro pins s σ H Q I h;exact Subscript_ (rK ha hb I h fun v u s2 x y H2 I2 rx ry q=>hr a b pins s2 σ H2 x y v u Q I2 rx ry q (hs _ _))
noncomputable def sy (K:Fgx):R2:=fun x y H Q=>∃p xs i v,x=.ref p/\y=.int i/\bF K H p xs/\cJ xs i=some v/\Q v H
noncomputable def sG (K:Fgx):R2:=fun x y H Q=>∃p xs i v,x=.ref p/\y=.int i/\cU K H p xs/\cJ xs i=some v/\Q v H
noncomputable def sE:R2:=fun x y H Q=>∃z i c,x=.str z/\y=.int i/\z.length<=sizeLine/\cJ z.cps.toList i=some c/\Q (.str ⟨#[c]⟩) H
theorem Vz:lZ X (sy X.K):=by
 intro value slice pins s σ H x y v u Q I rx ry h hs;obtain⟨p,xs,i,z,rfl,rfl,hq,he,q⟩:=h;cases rx;obtain⟨t,rfl⟩:=ry;obtain⟨its,r,pl,hz⟩:=I.list hq;obtain⟨j,h1,h2,h3,h4,h5⟩:=DW he;obtain⟨w,ew,rw'⟩:=r.get h2;have hl:=r.length;have hn:=pY;have fin:EP X pins σ Q w s:=⟨z,H,I,rw',q⟩
 by_cases h0:0<=i
 ·have hj:i.toNat=j:=by
   rw[seqIndex_of h0 h5]at h1;exact xay h1
  exact item_listR pl.isList h0 (by omega) (by rw[hj];simpa using ew) fin hs
 ·have hj:(i + (its.toArray.size:Int)).toNat=j:=by
   rw[seqIndex_neg (by omega) h4]at h1;rw[xae, <-hl];exact xay h1
  exact subscriptTail_builtinR (x:=w) pl.isList.typeIs slot_list_getitem.lookup
   (wpAny_getItem_list_neg (Q:=fun r s'=>r=w/\EP X pins σ Q r s') pl.isList (by omega) (by rw[xae]<;>omega) (by omega) (by rw[hj];simpa using ew) ⟨rfl,fin⟩) hs
theorem VD:lZ X (sG X.K):=by
 intro value slice pins s σ H x y v u Q I rx ry h hs;obtain⟨p,xs,i,z,rfl,rfl,hq,he,q⟩:=h;cases rx;obtain⟨t,rfl⟩:=ry;obtain⟨its,r,pl,hz⟩:=I.tuple hq;obtain⟨j,h1,h2,h3,h4,h5⟩:=DW he;obtain⟨w,ew,rw'⟩:=r.get h2;have hl:=r.length;have hn:=pY;have fin:EP X pins σ Q w s:=⟨z,H,I,rw',q⟩;exact subscriptTail_builtinR (x:=w) pl.typeIs xcX.lookup
  (getItem_tuple (j:=j) (Q:=fun r s'=>r=w/\EP X pins σ Q r s') pl (by omega) (by omega) (by rw[xae, <-hl];exact h1) (by simpa using ew) ⟨rfl,fin⟩) hs
theorem VB:lZ X sE:=by
 intro value slice pins s σ H x y v u Q I rx ry h hs;obtain⟨z,i,c,rfl,rfl,hz,he,q⟩:=h;obtain⟨t,rfl⟩:=rx;obtain⟨t',rfl⟩:=ry;obtain⟨j,h1,h2,h3,h4,h5⟩:=DW he;have hl:z.cps.toList.length=z.length:=by simp[Str.length]
 rw [hl] at h1 h4 h5;have hn := pY;exact tail_any (xdJ s z t) slot_str_getitem.lookup (getItem_str (c := c) (by
  have e1:decide (i< -(2 ^ 63:Int))=false:=xbl (by omega);have e2:decide (i >=2 ^ 63)=false:=xbl (by omega);rw[e1,e2,Bool.or_false]) (by rw[h1];simpa using h2) ⟨.str ⟨#[c]⟩,H,I.tok _,⟨_,rfl⟩,q⟩) hs
noncomputable def Jl (K:Fgx):R2:=fun x y H Q=>sy K x y H Q\/sG K x y H Q\/sE x y H Q
theorem zaw (lo hi:Option Int)(n:Nat):(sliceBounds lo hi none n).1=((HT.aX n 0 lo:Nat):Int)/\(sliceBounds lo hi none n).2.1=((HT.aX n n hi:Nat):Int)/\(sliceBounds lo hi none n).2.2=1:=by
  refine⟨?_,?_,rfl⟩
  · cases lo with
    |none=>simp[sliceBounds,HT.aX]
    |some i=>
      simp only[sliceBounds,HT.aX,Option.getD_none,show(1:Int) > 0 by decide,xba]
      by_cases h:i<0
      · simp only[h,xba]<;>omega
      · simp only[h,xbT]<;>omega
  · cases hi with
    |none=>simp[sliceBounds,HT.aX]
    |some i=>
      simp only[sliceBounds,HT.aX,Option.getD_none,show(1:Int) > 0 by decide,xba]
      by_cases h:i<0
      · simp only[h,xba]<;>omega
      · simp only[h,xbT]<;>omega
theorem zap (its:List Value)(lo hi:Option Int):slicePick its.toArray lo hi none=((its.drop (HT.aX its.length 0 lo)).take (HT.aX its.length its.length hi - HT.aX its.length 0 lo)).toArray:=by
 obtain⟨h1,h2,h3⟩:=zaw lo hi its.toArray.size;unfold slicePick;rw[h1,h2,h3];simp only[sliceRange_one,pick_run,xae]<;>rfl
def Jo (K:Fgx):V->Option Int->Option Int->Hp->VK->Prop:=fun x lo hi H Q=>∃a xs,x=.ref a/\bF K H a xs/\∀p,H p=none->Q (.ref p) (upd H p (.lst (fj xs lo hi)))
theorem zbs:pJ X (Jo X.K):=by
 intro pins s σ H x v vl vu lo hi sl Q I rx hs pl pu h;obtain⟨a,xs,rfl,hx,q⟩:=h;cases rx;obtain⟨its,r,ht,hz⟩:=I.list hx;have hlen:=r.length;refine⟨"list",_,slot_list_getitem.lookup,ht.isList.typeIs,?_⟩;refine wpAny_getItem_list_slice ht.isList hs pl pu .none (by simp) ?_ (by rw[xae]<;>omega)
 rw[zap, <-hlen];refine⟨.ref s.heap.objs.size,_,I.laid (t':=s.toks) (o:=.lst (fj xs lo hi)) (fun b ob q=>xaa _ q) (xah _) ?_,rfl,q _ (I.hok.fresh (xah _))⟩;exact⟨xaw (Mg xs lo hi) hz,_,0,(r.drop (HT.aX xs.length 0 lo)).take (HT.aX xs.length xs.length hi - HT.aX xs.length 0 lo),xal _ rfl⟩
noncomputable def mz:V->Bool
 |.non=>true
 |.bl _=>true
 |.int _=>true
 |.str _=>true
 |_=>false
noncomputable def nu:V->V->Bool
 |.non,.non=>true
 |.bl a,.bl b=>a==b
 |.bl a,.int b=>(if a then 1 else 0)==b
 |.int a,.bl b=>a==(if b then 1 else 0)
 |.int a,.int b=>a==b
 |.str a,.str b=>a==b
 |_,_=>false
theorem Ul (ry:RelV y u)(rx:RelV x v)(fy:mz y=true)(fx:mz x=true):SeqAt.EqAt A s u v (nu y x):=by
  cases y with
  |non=>
    cases ry
    cases x with
    |non=>cases rx;exact xcE _
    |bl b=>cases rx;exact SeqAt.EqAt.none_bool b
    |int b=>obtain⟨t,rfl⟩:=rx;exact SeqAt.EqAt.none_int b t
    |str b=>obtain⟨t,rfl⟩:=rx;exact SeqAt.EqAt.none_str b t
    |_=>exact absurd (show false=true from fx) xas
  |bl a=>
    cases ry
    cases x with
    |non=>cases rx;exact SeqAt.EqAt.bool_none a
    |bl b=>cases rx;exact SeqAt.EqAt.bool_bool a b
    |int b=>obtain⟨t,rfl⟩:=rx;exact SeqAt.EqAt.bool_int a b t
    |str b=>obtain⟨t,rfl⟩:=rx;exact SeqAt.EqAt.bool_str a b t
    |_=>exact absurd (show false=true from fx) xas
  |int a=>
    obtain⟨t',rfl⟩:=ry
    cases x with
    |non=>cases rx;exact SeqAt.EqAt.int_none a t'
    |bl b=>cases rx;exact SeqAt.EqAt.int_bool a t' b
    |int b=>obtain⟨t,rfl⟩:=rx;exact xcY a t' b t
    |str b=>obtain⟨t,rfl⟩:=rx;exact xcV a t' b t
    |_=>exact absurd (show false=true from fx) xas
  |str a=>
    obtain⟨t',rfl⟩:=ry
    cases x with
    |non=>cases rx;exact SeqAt.EqAt.str_none a t'
    |bl b=>cases rx;exact SeqAt.EqAt.str_bool a t' b
    |int b=>obtain⟨t,rfl⟩:=rx;exact xcW a t' b t
    |str b=>obtain⟨t,rfl⟩:=rx;exact xcZ a t' b t
    |_=>exact absurd (show false=true from fx) xas
  |_=>exact absurd (show false=true from fy) xas
noncomputable def fQ (x:V) (u:Value):Bool:=match u with
 |.none=>nu .non x
 |.bool b=>nu (.bl b) x
 |.int i _=>nu (.int i) x
 |.str z _=>nu (.str z) x
 |_=>false
theorem Mz (r:RelV y u)(f:mz y=true):fQ x u=nu y x:=by
 cases y with
 |non=>cases r;rfl
 |bl b=>cases r;rfl
 |int i=>obtain⟨t,rfl⟩:=r;rfl
 |str z=>obtain⟨t,rfl⟩:=r;rfl
 |_=>exact absurd (show false=true from f) xas
theorem wC:∀{xs:List V} {us:List Value},Vals xs us->xs.all mz=true->us.any (fQ x)=xs.any fun y=>nu y x
  |_,_,.nil,_=>rfl
  |y::xs,u::us,.cons r t,f=>by
    rw[xbr,xam]at f;rw[xb8,xb8,Mz r f.1,wC t f.2]
theorem yc (rx:RelV x v)(fx:mz x=true):∀{xs:List V} {us:List Value},Vals xs us->xs.all mz=true->∀u∈us,SeqAt.EqAt A s u v (fQ x u)
  |_,_,.nil,_=>fun u hu=>by cases hu
  |y::xs,u::us,.cons r t,f=>fun u' hu=>by
    rw[xbr,xam]at f;rcases xav.mp hu with rfl |hu
    · rw[Mz r f.1];exact Ul r rx f.1 fx
    · exact yc rx fx t f.2 u' hu
def inV (x:V)(xs:List V):Bool:=xs.any fun y=>nu y x
noncomputable def Bm (K:Fgx) (neg:Bool):R2:=fun x y H Q=>∃p xs,y=.ref p/\(bF K H p xs\/cU K H p xs)/\mz x=true/\xs.all mz=true/\Q (.bl (if neg then !inV x xs else inV x xs)) H
theorem Yu:bG X (compareOp .In) (Bm X.K false):=by
 intro pins s σ H x y v u Q I rx ry h;obtain⟨p,xs,rfl,hq,fx,fs,q⟩:=h;cases ry;rcases hq with hq |hq
 ·obtain⟨its,r,pl,hz⟩:=I.list hq;refine SeqAt.in_listAt (fQ x) pl.isList (fun w hw=>yc rx fx r fs w (by simpa using hw)) ⟨.bl _,H,I,rfl,?_⟩;rw[show its.toArray.any (fQ x)=its.any (fQ x) by simp,wC r fs];exact q
 ·obtain⟨its,r,pl,hz⟩:=I.tuple hq;refine SeqAt.in_tupleAt (fQ x) pl (fun w hw=>yc rx fx r fs w (by simpa using hw)) ⟨.bl _,H,I,rfl,?_⟩;rw[show its.toArray.any (fQ x)=its.any (fQ x) by simp,wC r fs];exact q
theorem YH:bG X (compareOp .NotIn) (Bm X.K true):=by
 intro pins s σ H x y v u Q I rx ry h;obtain⟨p,xs,rfl,hq,fx,fs,q⟩:=h;cases ry;rcases hq with hq |hq
 ·obtain⟨its,r,pl,hz⟩:=I.list hq;refine SeqAt.notIn_listAt (fQ x) pl.isList (fun w hw=>yc rx fx r fs w (by simpa using hw)) ⟨.bl _,H,I,rfl,?_⟩;rw[show its.toArray.any (fQ x)=its.any (fQ x) by simp,wC r fs];exact q
 ·obtain⟨its,r,pl,hz⟩:=I.tuple hq;refine SeqAt.notIn_tupleAt (fQ x) pl (fun w hw=>yc rx fx r fs w (by simpa using hw)) ⟨.bl _,H,I,rfl,?_⟩;rw[show its.toArray.any (fQ x)=its.any (fQ x) by simp,wC r fs];exact q
theorem Tr:cX X (.builtin "len") (fun xs H Q=>∃p ys,xs=[.ref p]/\(bF X.K H p ys\/cU X.K H p ys)/\Q (.int ys.length) H):=by
 intro pins s σ H xs us Q I r h;obtain⟨p,ys,rfl,hq,q⟩:=h;obtain⟨u,rfl,rx⟩:=vals1 r;cases rx;have hn:=pY;rcases hq with hq |hq
 ·obtain⟨its,r',pl,hz⟩:=I.list hq;have hlen:=r'.length;exact Calls.call_len_list pl.isList (by simp only[xae]<;>omega) ⟨.int ys.length,H,I.tok _,⟨s.toks + 1,by rw[xae,hlen]⟩,q⟩
 ·obtain⟨its,r',pl,hz⟩:=I.tuple hq;have hlen:=r'.length;exact len_tuple pl (by simp only[xae]<;>omega) ⟨.int ys.length,H,I.tok _,⟨s.toks + 1,by rw[xae,hlen]⟩,q⟩
theorem Tt:cX X (.builtin "len") (fun xs H Q=>∃z,xs=[.str z]/\z.length<=sizeLine/\Q (.int z.length) H):=by
 intro pins s σ H xs us Q I r h;obtain⟨z,rfl,hz,q⟩:=h;obtain⟨u,rfl,t,rfl⟩:=vals1 r;have hn:=pY;exact len_str (by omega) ⟨.int z.length,H,I.tok _,⟨_,rfl⟩,q⟩
theorem cX.or (h:cX X f r)(h':cX X f r'):cX X f (fun xs H Q=>r xs H Q\/r' xs H Q):=by
 intro pins s σ H xs us Q I rs q;rcases q with q |q
 ·exact h pins s σ H xs us Q I rs q
 ·exact h' pins s σ H xs us Q I rs q
theorem Tv:cX X (.type "list") (fun xs H Q=>∃p ys,xs=[.ref p]/\(bF X.K H p ys\/cU X.K H p ys)/\∀l,H l=none->Q (.ref l) (upd H l (.lst ys))):=by
 intro pins s σ H xs us Q I r h;obtain⟨p,ys,rfl,hq,q⟩:=h;obtain⟨u,rfl,rx⟩:=vals1 r;cases rx;have fin:∀(its:List Value),Vals ys its->ys.length<=sizeLine->∀(h':Heap) (c':Nat),(∀b o',s.heap.get? b=some o'->h'.get? b=some o')->
   h'.get? s.heap.objs.size=some {cls:=.type "list",dict:=none,data:=.seq its.toArray c',slots:= #[]}->EP X pins σ Q (.ref s.heap.objs.size) {s with heap:=h'}:=fun its r' hz h' c' kp e=>
  ⟨.ref s.heap.objs.size,_,I.laid (t':=s.toks) kp (xah _) (show cO X.prog X.w _ h' _ (.lst ys) from⟨hz,its,c',r',e⟩),rfl,q _ (I.hok.fresh (xah _))⟩
 rcases hq with hq |hq
 ·obtain⟨its,r',pl,hz⟩:=I.list hq;have hlen:=r'.length;obtain⟨o,ho,hc,n,hd⟩:=pl.isList;exact call_list_seq p (.inl rfl) ho hc hd (fun h' c' kp e=>fin its r' hz h' c' kp e) (by simp only[xae]<;>omega)
 ·obtain⟨its,r',pl,hz⟩:=I.tuple hq;have hlen:=r'.length;obtain⟨o,ho,hc,n,hd⟩:=pl;exact call_list_seq p (.inr rfl) ho hc hd (fun h' c' kp e=>fin its r' hz h' c' kp e) (by simp only[xae]<;>omega)
theorem TV:cX X (.type "tuple") (fun xs H Q=>∃p ys,xs=[.ref p]/\((bF X.K H p ys/\∀l,H l=none->Q (.ref l) (upd H l (.tup ys)))\/(cU X.K H p ys/\Q (.ref p) H))):=by
 intro pins s σ H xs us Q I r h;obtain⟨p,ys,rfl,h⟩:=h;obtain⟨u,rfl,rx⟩:=vals1 r;cases rx;rcases h with⟨hq,q⟩ |⟨hq,q⟩
 ·obtain⟨its,r',pl,hz⟩:=I.list hq;have hlen:=r'.length;refine call_tuple_list pl.isList (fun h' kp=>?_) (by simp only[xae]<;>omega)
  have I1:Inv X pins σ H {s with heap:=h'}:=I.kept (t':=s.toks) kp;have I2:Inv X pins σ (upd H h'.objs.size (.tup ys)) {s with heap:=h'.push {cls:=.type "tuple",data:=.seq its.toArray}}:=
   I1.laid (t':=s.toks) (fun b o e=>xaa _ e) (xah _) (show cO X.prog X.w _ _ _ (.tup ys) from⟨hz,its,r',IsTup.new _ _⟩)
  exact⟨.ref h'.objs.size,_,I2,rfl,q _ (I1.hok.fresh (xah _))⟩
 ·obtain⟨its,r',pl,hz⟩:=I.tuple hq;exact call_tuple_same pl ⟨.ref p,H,I,rfl,q⟩
def KH (K:Fgx)(T:String)(x:V)(H:Hp):Prop:=match x with
 |.str _=>T="str"
 |.int _=>T="int"
 |.ref p=>(T="list"/\∃xs,bF K H p xs)\/(T="tuple"/\∃o,K.lookup p=some o/\o.cls=.type "tuple"/\o.dict=none)\/
   (T="dict"/\((∃kvs,H p=some (.dK kvs))\/∃kvs,H p=some (.dT kvs)))\/(T="set"/\∃S n,H p=some (.set S n))
 |_=>False
theorem R8 (I:Inv X pins σ H s)(r:RelV x v)(ty:KH X.K T x H):
    s.TypeIs v T/\∀a,v=.ref a->∃ob,s.heap.get? a=some ob/\ob.dict=none:=by
  cases x with
  |str z=>
    obtain⟨t,rfl⟩:=r;cases (show T="str" from ty);exact⟨xdJ s z t,fun _ e=>nomatch e⟩
  |int i=>
    obtain⟨t,rfl⟩:=r;cases (show T="int" from ty);exact⟨typeIs_int s i t,fun _ e=>nomatch e⟩
  |ref p=>
    cases r;rcases ty with⟨rfl,xs,hq⟩ |⟨rfl,o,hk,hc,hd⟩ |⟨rfl,hk⟩ |⟨rfl,S,n,hk⟩
    · obtain⟨its,_,pl,_⟩:=I.list hq;refine⟨pl.isList.typeIs,fun a e=>?_⟩;cases e;obtain⟨o,n,e,c,hd,_⟩:=pl;exact⟨o,e,hd⟩
    · refine⟨⟨o,I.kIn p o hk,hc⟩,fun a e=>?_⟩;cases e;exact⟨o,I.kIn _ o hk,hd⟩
    · have z:∃o,s.heap.get? p=some o/\o.ExactDict:=by
        rcases hk with⟨kvs,hk⟩ |⟨kvs,hk⟩
        · obtain⟨_,_,_,_,o,_,_,e,ex,_⟩:=I.hok p _ hk;exact⟨o,e,ex⟩
        · obtain⟨_,_,_,_,o,_,_,e,ex,_⟩:=I.hok p _ hk;exact⟨o,e,ex⟩
      obtain⟨o,e,ex⟩:=z;refine⟨⟨o,e,ex.1⟩,fun a e2=>?_⟩;cases e2;exact⟨o,e,ex.2.1⟩
    · obtain⟨o,_,_,_,e,ex,_⟩:=I.hok p _ hk;refine⟨⟨o,e,ex.1⟩,fun a e2=>?_⟩;cases e2;exact⟨o,e,ex.2.1⟩
  |_=>exact False.elim ty
noncomputable def Kc (K:Fgx) (T:String) (r:V->List V->Hp->VK->Prop) (to:TE):TE:=fun σ H Q=>to σ H fun x H1=>KH K T x H1/\r x [] H1 Q
noncomputable def tBM (K:Fgx) (T:String) (r:V->List V->Hp->VK->Prop) (to:TE) (t:TA):TE:=fun σ H Q=>to σ H fun x H1=>KH K T x H1/\t σ H1 fun xs H2=>r x xs H2 Q
variable {o e:Expr}{es:List Expr}{to:TE}{t:TA}{name:Str}{apos cpos:Pos}{T id:String}{r:V->List V->Hp->VK->Prop}
theorem YX (pa:PlainAttrs T)(slot:Slot T name id)(hty:typeOf (.builtin id)=pure (.type "method_descriptor"))(hm:tL X id r)(ho:PE X o to)
  (hbase:attributeBase o name X.env (eval o X.env)=eval o X.env:=by rfl) (hline:(apos.endLine==cpos.line)=true:=by rfl):PE X (.Call (.Attribute o name apos) [] [] cpos) (Kc X.K T r to):=by
 intro pins s σ H Q I h;refine wpAny_Call_method0_late hbase hline (aN (ho pins s σ H _ I h) fun v s1 ⟨x,H1,I1,r1,ty,q1⟩=>?_);obtain⟨h1,h2⟩:=R8 I1 r1 ty;exact⟨T,id,pa,slot,hty,h1,h2,Calls.callWith_builtin rfl (PySem.evalArgs_none (hm pins s1 σ H1 x [] v [] Q I1 r1 .nil q1))⟩
theorem Bf (pa:PlainAttrs T)(slot:Slot T name id)(hty:typeOf (.builtin id)=pure (.type "method_descriptor"))(hm:tL X id r)(ho:PE X o to)(ha:PA X (e::es) t)
  (hbase:attributeBase o name X.env (eval o X.env)=eval o X.env:=by rfl)
  (hfew : ((backTo cpos (starEach (e::es) X.env)).all (fun x=> !x.1) && (backToKw cpos (keywordEach [] X.env)).all (fun x=>x.1.isSome)
   && decide ((e::es).length + ([]:List Keyword).length + (if ([]:List Keyword).isEmpty then 0 else 1)<30))=true:=by rfl)
  (hline:(apos.endLine==cpos.line)=true:=by rfl) (hs:starEach (e::es) X.env=(false,eval e X.env)::starEach es X.env:=by rfl) (hplain:(backTo cpos (starEach es X.env)).any (·.1)=false:=by rfl):
  PE X (.Call (.Attribute o name apos) (e::es) [] cpos) (tBM X.K T r to t):=by
 intro pins s σ H Q I h;refine wpAny_Call_method_late hbase hfew hline rfl (aN (ho pins s σ H _ I h) fun v s1 ⟨x,H1,I1,r1,ty,q1⟩=>?_);obtain⟨h1,h2⟩:=R8 I1 r1 ty;refine⟨T,id,pa,slot,hty,h1,h2,?_⟩;have hA:=ha cpos pins s1 σ H1 _ I1 q1;rw[hs]at hA ⊢;refine Calls.callWith_builtin (by show(false || (backTo cpos (starEach es X.env)).any (·.1))=false;rw[hplain]<;>rfl) (Calls.evalArgs_plain ?_)
 exact aN hA fun us s2 ⟨vs,H2,I2,r2,q2⟩=>hm pins s2 σ H2 x vs v us Q I2 r1 r2 q2
end
def Dt (X:Cx)(id:String)(r:V->List V->Hp->VK->Prop):Prop:=
 ∀(pins:Pnx) (s:Shared) (σ:St) (H:Hp) (x:V) (xs:List V) (v:Value) (us:List Value) (Q:VK),Inv X pins σ H s->RelV x v->Vals xs us->r x xs H Q->
  wpAny (model X.prog X.w) X.A (call (.builtin id) (v::us)) (EP X pins σ Q) X.xe s
theorem Vals.one:∀{x:V} {us:List Value},Vals [x] us->∃u,us=[u]/\RelV x u
 |_,_,.cons r .nil=>⟨_,rfl,r⟩
theorem Vals.zero:∀{us:List Value},Vals [] us->us=[]
 |_,.nil=>rfl
theorem Vals.dropLast (h:Vals xs us):Vals xs.dropLast us.dropLast:=by
  induction h with
  |nil=>exact .nil
  |cons r t ih=>
    cases t with
    |nil=>exact .nil
    |cons q t'=>exact .cons r ih
theorem Um (l:List α):l.eraseIdx (l.length - 1)=l.dropLast:=by
  induction l with
  |nil=>rfl
  |cons a r ih=>
    cases r with
    |nil=>rfl
    |cons b r=>
      have e:(a::b::r).length - 1=((b::r).length - 1) + 1:=by
        have h1:(a::b::r).length=r.length + 2:=rfl;have h2:(b::r).length=r.length + 1:=rfl;omega
      rw[e,List.eraseIdx_cons_succ,ih]
      all_goals rfl
section
variable {X:Cx}{pins:Pnx}{σ:St}{H:Hp}{s:Shared}{l b:Addr}{xs ys zs:List V}
theorem Inv.lset {its its':List Value}{n:Nat}{f:Array Value->Array Value}{t':Nat}(I:Inv X pins σ H s)(hH:H l=some (.lst xs))
  (e:s.heap.get? l=some {cls:=.type "list",data:=.seq its.toArray n}) (hf:f its.toArray=its'.toArray) (hv:Vals ys its') (hz:ys.length<=sizeLine):
  Inv X pins σ (upd H l (.lst ys)) {s with heap:=s.heap.update l (Obj.mapSeq f),toks:=t'}:=by
 have q:=PySem.IsL.update e f;rw[hf]at q;refine I.write (x:=l) (e:=l) (by rw[hH];exact trivial) (.inl rfl) (fun b' u hb hu=>(xaW s.heap (Obj.mapSeq f) (xbB hb)).trans hu) ⟨_,q⟩ ?_;exact⟨hz,its',_,hv,q⟩
theorem Inv.lnew (I:Inv X pins σ H s)(hv:Vals ys its)(hz:ys.length<=sizeLine):
  Inv X pins σ (upd H s.heap.objs.size (.lst ys)) {s with heap:=s.heap.push {cls:=.type "list",data:=.seq its.toArray},toks:=t'}:=
 I.laid (fun _ _ q=>xaa _ q) (xah _) ⟨hz,its,0,hv,xal _ rfl⟩
theorem Inv.fresh (I:Inv X pins σ H s):H s.heap.objs.size=none:=I.hok.fresh (xah _)
theorem Inv.lstM (I:Inv X pins σ H s)(hH:H l=some (.lst xs)):xs.length<=sizeLine/\∃(its:List Value) (n:Nat),Vals xs its/\xs.length=its.length/\s.heap.get? l=some {cls:=.type "list",data:=.seq its.toArray n}:=by
 obtain⟨z,its,n,r,e⟩:=I.hok l _ hH;exact⟨z,its,n,r,r.length,e⟩
end
section
variable {X:Cx}
def zbS:V->List V->Hp->VK->Prop:=fun x vs H Q=>∃l xs y,x=.ref l/\vs=[y]/\H l=some (.lst xs)/\xs.length<sizeLine/\Q .non (upd H l (.lst (xs ++ [y])))
theorem Gs:Dt X "list.append" zbS:=by
 intro pins s σ H x vs v us Q I rx rv h;obtain⟨l,xs,y,rfl,rfl,hH,hz,q⟩:=h;cases rx;obtain⟨u,rfl,ru⟩:=rv.one;obtain⟨z,its,n,r,hl,e⟩:=I.lstM hH;refine call_meets F.slot_list_append ⟨_,e,rfl⟩ F.entry_list_append (F.args_list_append_2 _ _) (PySem.list_append l its.toArray n u (by rw[xae];omega)) ⟨e,?_⟩;refine⟨.non,_,I.lset (its':=its ++ [u]) hH e (by simp) (r.append (.cons ru .nil)) ?_,rfl,q⟩;rw[xap,xbX];omega
def Jm:V->List V->Hp->VK->Prop:=fun x vs H Q=>∃l xs y,x=.ref l/\vs=[]/\H l=some (.lst xs)/\xs[xs.length - 1]? =some y/\Q y (upd H l (.lst xs.dropLast))
theorem WQ:Dt X "list.pop" Jm:=by
 intro pins s σ H x vs v us Q I rx rv h;obtain⟨l,xs,y,rfl,rfl,hH,hy,q⟩:=h;cases rx;have hus:=rv.zero;subst hus;obtain⟨z,its,n,r,hl,e⟩:=I.lstM hH;obtain⟨u,hu,ru⟩:=r.get hy;have hy':its.toArray[its.toArray.size - 1]? =some u:=by
  show its.toArray[its.length - 1]? =some u;rw[<-xdA, <-hl];exact hu
 refine call_meets F.slot_list_pop ⟨_,e,rfl⟩ F.entry_list_pop (F.args_list_pop_1 _) (MeetsSeq.list_pop_last l its.toArray n u hy' (by rw[xae];omega)) ⟨e,?_⟩;refine⟨y,_,I.lset (its':=its.dropLast) hH e ?_ r.dropLast ?_,ru,q⟩
 ·show its.toArray.eraseIdxIfInBounds (its.toArray.size - 1)=its.dropLast.toArray;rw[xae,List.eraseIdxIfInBounds_toArray,Um]
 ·rw[List.length_dropLast];omega
end
end L2
namespace Att
open PySem PySem.W PySem.Calls PyProof.Rows
theorem Vq:∀(ns:List Int) (vs:List Value),WellAll P h vs (ns.map WData.int)->IntsAre vs ns:=by
  intro ns
  induction ns with
  |nil=>
    intro vs w;rw[List.map_nil]at w;cases w;exact .nil
  |cons n ns ih=>
    intro vs w;rw[xaJ]at w
    cases w with
    |cons a b=>
      cases a;exact .cons _ _ (ih _ b)
theorem zaW {l:OpenLaw}{n:Nat}(hn:l.most=some n){P:Params}{h:Heap}{args:List WData}{vals:List Value}
    (hpre:l.row.toRowW.claim.pre args=true) (hwl:WellAll P h vals args):
    ∃a vs ns,vals=[Value.ref a]/\args=[WData.list (ns.map WData.int)]/\h.get? a=some {cls:=.type "list",data:=.seq vs.toArray}/\IntsAre vs ns/\ns.length<=n:=by
  have hsh:WShape.hasAll [] args [.list .int]=true:=(pre_splitW hpre).1;have hc:l.pre.holds [] {args:=args}=true:=(pre_splitW hpre).2;obtain⟨d,r,rfl,h1,h2⟩:=hasAllW_cons hsh;obtain rfl:=hasAllW_nil h2;obtain⟨xs,rfl,h3⟩:=hasW_list h1;obtain⟨ns,rfl⟩:=items_int h3;have hlen:ns.length<=n:=by
    unfold OpenLaw.pre at hc;have h4:(WTm.not (.lt (.lit (.int (n:Int))) (.len (.arg 0)))).holds [] {args:=[.list (ns.map .int)]}=true:=by
      have h4:=(holds_andW hc).1;rw[hn]at h4;exact h4
    have h5:=condW_of h4 (w_not (w_lt w_lit (w_len_list (w_arg rfl))));rw[xar]at h5;refine Nat.le_of_not_lt fun q=>?_;have q':(n:Int)<((ns.length:Nat):Int):=by omega
    first
      |(rw[xbY q']at h5;exact absurd h5 (by decide))
      |(simp at h5;omega)
  cases hwl with
  |cons w1 w2=>
    cases w2
    cases w1 with
    |list ho hall=>exact⟨_,_,ns,rfl,rfl,ho,Vq ns _ hall,hlen⟩
theorem ZK (l:OpenLaw)(args:List WData):l.row.toRowW.claim.post args (.bool true) args=true:=
 postW_of (r:=l.row.toRowW) (X:=(true==true))
  (show WShape.has [] (.bool true) .bool=true by first |rfl |decide |simp[WShape.has,WShape.arms,WShape.armsAll])
  (show(WTm.eq .res (.lit (.bool true))).value [] {args:=args,res:=some (.bool true),after:=args}=some (.bool (true==true)) from w_eq_bool (w_res rfl) w_lit) rfl
theorem S_ {l:OpenLaw}{n:Nat}{q:Program}{loose:List Str}{XP:(Mgx)->Heap->Prop}{YP:World->Heap->Prop}{d:DefRec}
  (hn:l.most=some n) (hdf:d.params.defaults=[])
  (call:∀(w:World) (s₀ s₁:Shared) (mg mb:Mgx) (fa:Addr) (o:Obj) (pm cd doc:Value) (a:Addr) (vs:List Value) (ns:List Int),
   Ground q loose [] XP w s₀ mg mb s₁.heap->YP w s₁.heap->
   s₁.heap.get? fa=some o->o.data=.func (docDef d.name d.params d.body d.scope pm cd doc)->s₁.heap.CodeRec cd d.name->mg d.name=some (.ref fa)->
   s₁.heap.get? a=some {cls:=.type "list",data:=.seq vs.toArray}->IntsAre vs ns->ns.length<=n->s₁.gens= #[]->
   codeAny (model l.prog w) callerA (.call (.ref fa) ⟨[.ref a],[]⟩) (fun r s'=>r=.ok (.ret (.bool true))/\OldK s₁.heap s'.heap/\s'.os=s₁.os/\AllBare s'.gens) s₁):
  WalkO q loose XP YP l.row.toRowW d [] (fun f vs=>PySem.call f vs):=by
 intro w s₀ s₁ mg mb G Y fa o pm cd doc dV kV ho hd hcd hD hmg hg args vals as hpre hlay hrd hwl hlo;obtain rfl:dV=.none:=Dflts.none hD hdf;obtain rfl:kV=.none:=Dflts.noKw hD;obtain⟨a,vs,ns,rfl,rfl,hobj,hints,hlen⟩:=zaW hn hpre hwl;refine enter_call (xbW (call w s₀ s₁ mg mb fa o pm cd doc a vs ns G Y ho (fd_plain hd) hcd hmg hobj hints hlen hg) fun r s' hq=>?_);obtain⟨rfl,h2,h3,h4⟩:=hq;exact⟨.inl ⟨.bool true,.bool true,[],rfl,fun _=>rfl,.bool true,ZK l _,fun _=>⟨List.Pairwise.nil,fun _ hm=>(nomatch hm)⟩⟩,h2,h3,h4⟩
end Att
namespace L2
open PySem PySem.Spec PyProof.Rows
theorem Sd:∀{vs:List Value} {ns:List Int},IntsAre vs ns->Vals (ns.map V.int) vs
 |_,_,.nil=>.nil
 |_,_,.cons n t h=>.cons ⟨t,rfl⟩ (Sd h)
noncomputable def cM (s:Stmt):Arguments:=match s with
 |.FunctionDef _ a _ _ _ _ _ _ _ _=>a
 |_=>{posonlyargs:=[],args:=[],vararg:=none,kwonlyargs:=[],kw_defaults:=[],kwarg:=none,defaults:=[]}
noncomputable def bK (s:Stmt):List Stmt:=match s with
 |.FunctionDef _ _ b _ _ _ _ _ _ _=>b
 |_=>[]
noncomputable def aH (s:Stmt):Scope:=match s with
 |.FunctionDef _ _ _ _ _ _ sc _ _ _=>sc
 |_=>{kind:=.function,names:=[],isGenerator:=false,isCoroutine:=false}
abbrev eV:d8:=fun _ _ _ _ _ _=>False
abbrev E0:XK:=fun _ _ _=>False
theorem Ir:Passes eV X E0:=fun _ _ _ _ _ _ _ h=>h.elim
structure Fun (K:Fgx)(x qual:Str)(st:Stmt)(f:Addr)(fd:FuncData):Prop where
 ex:∃(oc:Value) (od:Option Addr) (kV doc pm:Value) (an:Option Addr) (cdv ct:Value) (osl:Array (Option Value)),
  fd=PySem.W.fnOf x qual (cM st) (bK st) (aH st) .none kV doc pm an cdv ct/\K.lookup f=some ⟨oc,od,.func fd,osl⟩/\PySem.W.codeIn K cdv qual=true
 kp:PySem.W.keepIn K (.ref f)=true
section
variable {P:Program}{w:World}{K:Fgx}{mg:Mgx}{base:Heap}
theorem Fun.binds {x qual:Str}{st:Stmt}{f:Addr}{fd:FuncData}{ps:List Str}(F:Fun K x qual st f fd)
  (h:∀(kV doc pm:Value) (an:Option Addr) (cdv ct:Value) (us:List Value),us.length=ps.length->bindArgs (PySem.W.fnOf x qual (cM st) (bK st) (aH st) .none kV doc pm an cdv ct) ⟨us,[]⟩=pure (ps.zip us)):Binds K fd ps []:=by
 obtain⟨oc,od,kV,doc,pm,an,cdv,ct,osl,rfl,lk,hcd⟩:=F.ex;exact .all (h kV doc pm an cdv ct)
theorem FJ {x qual:Str}{st:Stmt}{f:Addr}{oc:Value}{od an:Option Addr}{osl:Array (Option Value)}{kV doc pm cdv ct:Value}(l:K.lookup f=some ⟨oc,od,.func (PySem.W.fnOf x qual (cM st) (bK st) (aH st) .none kV doc pm an cdv ct),osl⟩)
  (c:PySem.W.codeIn K cdv qual=true) (k:PySem.W.keepIn K (.ref f)=true):Fun K x qual st f (PySem.W.fnOf x qual (cM st) (bK st) (aH st) .none kV doc pm an cdv ct):=⟨⟨oc,od,kV,doc,pm,an,cdv,ct,osl,rfl,l,c⟩,k⟩
end
def Same (H H':Hp):Prop:=∀b o,H b=some o->H' b=some o
theorem Same.refl (H:Hp):Same H H:=fun _ _ h=>h
theorem Same.trans (a:Same H H1)(b:Same H1 H2):Same H H2:=fun c o h=>b c o (a c o h)
theorem Same.free (e:Same H H')(h:H' l=Option.none):H l=Option.none:=by
  cases q:H l with
  |none=>rfl
  |some o=>
    rw[e l o q]at h;cases h
end L2
set_option maxHeartbeats 0
namespace L2
open PySem PySem.Spec PyProof.Rows
section
variable {κ:Type}[DecidableEq κ]
noncomputable def gq (kvs:List (κ×V)) (k:κ):Option V:=(kvs.find? fun kv=>decide (kv.1=k)).map (·.2)
noncomputable def putK (kvs:List (κ×V)) (k:κ) (v:V):List (κ×V):=
 if (kvs.any fun kv=>decide (kv.1=k))=true then kvs.map (fun kv=>if kv.1=k then(kv.1,v) else kv) else kvs ++ [(k,v)]
theorem zdj {p:κ×V}{r:List (κ×V)}{k:κ}(e:p.1=k):gq (p::r) k=some p.2:=by simp[gq,xbP,e]
theorem zdi {p:κ×V}{r:List (κ×V)}{k:κ}(e:¬ p.1=k):gq (p::r) k=gq r k:=by simp[gq,xbP,e]
end
theorem NP (r:RelV (kV k) u):(mH P w).is k u=true:=by
 cases k with
 |inl i=>obtain⟨t,e⟩:=(show ∃t,u=Value.int i t from r);subst e;exact Wv P w i t
 |inr x=>obtain⟨t,e⟩:=(show ∃t,u=Value.str x t from r);subst e;exact Gq P w x t
abbrev KT (H:Hp):List (List Key×V)->List (List Key×Addr×Value)->Prop:=Paired fun p q=>p.1=q.1/\H q.2.1=some (.tup (p.1.map kV))/\RelV p.2 q.2.2
def SM (H:Hp)(a:Addr)(y:V)(r:Option V):Prop:=
 (∃kvs k,Rd H a (.dK kvs)/\y=kV k/\r=gq kvs k)\/∃kvs k b,Rd H a (.dT kvs)/\y=.ref b/\H b=some (.tup (k.map kV))/\r=gq kvs k
def S5 (H:Hp)(a:Addr)(y v:V)(H':Hp):Prop:=
 (∃kvs k,H a=some (.dK kvs)/\y=kV k/\kvs.length<sizeLine/\H'=upd H a (.dK (putK kvs k v)))\/
 ∃kvs k b,H a=some (.dT kvs)/\y=.ref b/\H b=some (.tup (k.map kV))/\kvs.length<sizeLine/\H'=upd H a (.dT (putK kvs k v))
def wz (i:Expr):Prop:=∀ov iv,subscripted i false ov iv=operate [ov,iv] (getItem ov iv)
theorem zbq {prog:Program}{w:World}{A:Around}{E:Value->Shared->Prop}{s:Shared}{env:Env}{value slice:Expr}{pos:Pos}{T id:String}{Q:Value->Shared->Prop}
  (hl:typeLookup (.type T) "__getitem__"=pure (some (.builtin id))) (hs:wz slice)
  (h:wpAny (model prog w) A (eval value env) (fun o s₁=>wpAny (model prog w) A (eval slice env) (fun i s₂=>s₂.TypeIs o T/\wpAny (model prog w) A (getItem o i) Q E s₂) E s₁) E s):
  wpAny (model prog w) A (eval (.Subscript value slice pos) env) Q E s:=by
 refine Subscript_ (xaN h (fun o s₁ h₁=>xaN h₁ (fun i s₂ h₂=>?_) fun _ _ x=>x) fun _ _ x=>x);obtain⟨hT,h₂⟩:=h₂;unfold subscriptTail;refine tG ?_;rw[getitemInPython_of_ne hT.not_modules];refine tG (xcF hT hl ?_);have fin:wpAny (model prog w) A (subscripted slice false o i) (fun r s₃=>wpAny (model prog w) A (letTemporaryGo value o r >>=fun _=>pure r) Q E s₃) E s₂:=by
  rw[hs o i];exact wpAny_operating (xaN h₂ (fun r s₃ h₃=>tG (wpAny_letTemporaryGo (xac h₃))) fun _ _ x=>x)
 first
  |exact xac (tG fin)
  |exact tG (xac (tG fin))
  |exact tG fin
structure M1 (X:Cx)(o:Expr)(m:Str)(apos:Pos)(e:Expr)(cpos:Pos):Prop where
 base:attributeBase o m X.env (eval o X.env)=eval o X.env
 few : ((backTo cpos (starEach [e] X.env)).all (fun x=> !x.1) && (backToKw cpos (keywordEach [] X.env)).all (fun x=>x.1.isSome)
  && decide (([e]:List Expr).length + ([]:List Keyword).length + (if ([]:List Keyword).isEmpty then 0 else 1)<30))=true
 line:(apos.endLine==cpos.line)=true
 trees:backTo cpos (starEach [e] X.env)=[(false,eval e X.env)]
structure M2 (X:Cx)(o:Expr)(m:Str)(apos:Pos)(e f:Expr)(cpos:Pos):Prop where
 base:attributeBase o m X.env (eval o X.env)=eval o X.env
 few : ((backTo cpos (starEach [e,f] X.env)).all (fun x=> !x.1) && (backToKw cpos (keywordEach [] X.env)).all (fun x=>x.1.isSome)
  && decide (([e,f]:List Expr).length + ([]:List Keyword).length + (if ([]:List Keyword).isEmpty then 0 else 1)<30))=true
 line:(apos.endLine==cpos.line)=true
 trees:backTo cpos (starEach [e,f] X.env)=[(false,eval e X.env),(false,eval f X.env)]
end L2
namespace Att
open PySem PySem.W PySem.Calls PyProof.Rows
end Att
namespace L2
open PySem PySem.Spec PyProof.Rows
noncomputable def Its (z:Str):It:=⟨fun i _=>i<z.cps.size,fun i H x H'=>H'=H/\∃c,z.cps[i]? =some c/\x=.str ⟨#[c]⟩,fun i _=>i=z.cps.size⟩
theorem Vc (hQ:Q () s):wpAny M A (letOwnedTupleGo tg (.ref it) (.str x t)) Q E s:=by
 unfold letOwnedTupleGo;cases tg<;>exact xac hQ
theorem R6 {P:Program}{w:World}{K:Fgx}{tg:Expr}{ty:String}{z:Str}{t:Tok}{it:Addr}
  (W:∀A:Around,A.handled=none->Walks P w A it [it] [it] z.cps.size (SignAt z) (fun i h=>h.IsStrIter it ty z t i))
  (hself:∀(A:Around) (i:Nat) (s:Shared) (Q:Value->Shared->Prop) (E:Value->Shared->Prop),s.heap.IsStrIter it ty z t i->Q (.ref it) s->wpAny (model P w) A (pyIter (.ref it)) Q E s):
  Turn P w K tg (Its z) [it] it (fun i h=>h.IsStrIter it ty z t i) where
 mem:=by simp
 obj:=fun i h st b hb=>by
  have e:b=it:=by simpa using hb
  subst e;obtain⟨o,e,c,d⟩:=st;exact⟨o,e,fun v z=>by rw[d]at z;cases z⟩
 keep:=fun i h h' st k=>by
  obtain⟨o,e,c,d⟩:=st;exact⟨o,k it (by simp) o e,c,d⟩
 item:=by
  intro X hP hw hK hc i pins s σ H E I hf st hg;subst hP hw hK;obtain⟨f0,f1,f2,f3,f4,f5⟩:=hf it (by simp);refine(W X.A (I.ok.hd hc)).item i s _ _ hg st fun v h' tk hv st' kk=>?_;obtain⟨c,u,hcc,rfl⟩:=hv;have I1:Inv X pins σ H {s with heap:=h',toks:=tk}:=I.turned (fun b o hb e=>kk b o (by simpa using hb) e) f0 f1 f3 f4 f5;exact⟨_,rfl,Vc ⟨.str ⟨#[c]⟩,H,I1,⟨_,rfl⟩,⟨rfl,c,hcc,rfl⟩,st',fun b hb=>(hf b hb).1⟩⟩
 done:=by
  intro X hP hw hK hc i pins s σ H E I hf st hg;subst hP hw hK;have hg':i=z.cps.size:=hg;subst hg';obtain⟨f0,f1,f2,f3,f4,f5⟩:=hf it (by simp);exact(W X.A (I.ok.hd hc)).done s _ _ st fun h' tk kk=>⟨rfl,I.turned (fun b o hb e=>kk b o (by simpa using hb) e) f0 f1 f3 f4 f5⟩
 self:=fun A i s Q E st q=>hself A i s Q E st q
section
variable {X:Cx}{tg:Expr}
noncomputable def FZ (tl:TE):TI:=fun σ H R=>tl σ H fun x H1=>∃z,x=.str z/\R (Its z) H1
theorem Zu {l:Expr}{tl:TE}(hl:PE X l tl):PI X tg l (FZ tl):=by
 intro pins s σ H R I h;refine aN (hl pins s σ H _ I h) fun v s1 ⟨x,H1,I1,r1,q1⟩=>?_;obtain⟨z,e,q⟩:=q1;subst e;obtain⟨t,e⟩:=r1;subst e;have fp:∀b∈ [s1.heap.objs.size],cN X pins H1 b:=fun b hb=>by
  have e:b=s1.heap.objs.size:=by simpa using hb
  subst e;exact I1.fpOk (xah _) (I1.hok.fresh (xah _))
 cases ha:z.cps.all (· <128)
 ·refine wpAny_pyIter_wide ha ?_;exact ⟨s1.heap.objs.size,[s1.heap.objs.size],_,_,H1,rfl,I1.kept (t':=s1.toks) fun b o e=>xaa _ e,
   R6 (ty:="str_iterator") (z:=z) (t:=t) (fun A hA=>Walks.strWide hA _ z t) (fun _ _ _ _ _ st q=>wpAny_pyIter_striter_wide st q),⟨_,xal _ rfl,rfl,rfl⟩,fp,q⟩
 ·refine wpAny_pyIter_ascii ha ?_;exact ⟨s1.heap.objs.size,[s1.heap.objs.size],_,_,H1,rfl,I1.kept (t':=s1.toks) fun b o e=>xaa _ e,
   R6 (ty:="str_ascii_iterator") (z:=z) (t:=t) (fun A hA=>Walks.strAscii hA _ z t) (fun _ _ _ _ _ st q=>wpAny_pyIter_striter_ascii st q),⟨_,xal _ rfl,rfl,rfl⟩,fp,q⟩
end
section
variable {X:Cx}
def Px:V->List V->Hp->VK->Prop:=fun x vs H Q=>∃z y i rest,x=.str z/\vs=[.str y]/\Builtin.Str.occurrences z y 0 z.length 1=i::rest/\Q (.int (i:Nat)) H
theorem WL:tL X "str.index" Px:=by
 intro pins s σ H x vs v us Q I rx rv h;obtain⟨z,y,i,rest,rfl,rfl,ho,q⟩:=h;obtain⟨t,rfl⟩:=rx;obtain⟨u,rfl,t',rfl⟩:=rv.one;exact call_givesAt (P:=fun _=>True) F.slot_str_index (xdJ _ _ _) F.entry_str_index (F.args_str_index_2 _ _) (fun prog w A R s _ h=>gives_str_index z y t t' i rest ho prog w A R s h) True.intro ⟨.int _,H,I.tok _,⟨_,rfl⟩,q⟩
def Jp:V->Option Int->Option Int->Hp->VK->Prop:=fun x lo hi H Q=>∃z,x=.str z/\z.length<=sizeLine/\Q (.str (Txt.slice z lo hi)) H
theorem zc3:pJ X Jp:=by
 intro pins s σ H x v vl vu lo hi sl Q I rx hs pl pu h;obtain⟨z,rfl,hz,q⟩:=h;obtain⟨t,rfl⟩:=rx;refine⟨"str",_,F.slot_str_getitem.lookup,xdJ _ _ _,?_⟩;obtain⟨o,ho,hc,hd⟩:=hs;cases pl<;>cases pu
 ·exact xbM (l:=none) (u:=none) (st:=none) ⟨o,ho,hc,hd⟩ rfl (xcG ⟨xaw (xdl z none none) hz,fun t' k=>⟨.str _,H,I.tok _,⟨_,rfl⟩,q⟩⟩)
 ·rename_i j uj;exact xbM (l:=none) (u:=some (j,uj)) (st:=none) ⟨o,ho,hc,hd⟩ rfl (xcG ⟨xaw (xdl z none (some j)) hz,fun t' k=>⟨.str _,H,I.tok _,⟨_,rfl⟩,q⟩⟩)
 ·rename_i i ui;exact xbM (l:=some (i,ui)) (u:=none) (st:=none) ⟨o,ho,hc,hd⟩ rfl (xcG ⟨xaw (xdl z (some i) none) hz,fun t' k=>⟨.str _,H,I.tok _,⟨_,rfl⟩,q⟩⟩)
 ·rename_i i ui j uj;exact xbM (l:=some (i,ui)) (u:=some (j,uj)) (st:=none) ⟨o,ho,hc,hd⟩ rfl (xcG ⟨xaw (xdl z (some i) (some j)) hz,fun t' k=>⟨.str _,H,I.tok _,⟨_,rfl⟩,q⟩⟩)
theorem Yw:bG X (compareOp .Is) (fun x y H Q=>∃b,y=.bl b/\Q (.bl (decide (x=.bl b))) H):=by
 intro pins s σ H x y v u Q I rx ry h;obtain⟨b,rfl,q⟩:=h;cases ry
 cases x with
 |bl c=>cases rx;exact xac (bw I q (by cases b<;>cases c<;>rfl))
 |non=>cases rx;exact xac (bw I q (by simp))
 |int _=>obtain⟨t,rfl⟩:=rx;exact xac (bw I q (by simp))
 |str _=>obtain⟨t,rfl⟩:=rx;exact xac (bw I q (by simp))
 |byt _=>obtain⟨t,rfl⟩:=rx;exact xac (bw I q (by simp))
 |flt _=>obtain⟨t,rfl⟩:=rx;exact xac (bw I q (by simp))
 |ref _=>cases rx;exact xac (bw I q (by simp))
 |ty _=>cases rx;exact xac (bw I q (by simp))
theorem Yy:bG X (compareOp .IsNot) (fun x y H Q=>∃b,y=.bl b/\Q (.bl (!decide (x=.bl b))) H):=by
 intro pins s σ H x y v u Q I rx ry h;obtain⟨b,rfl,q⟩:=h;cases ry
 cases x with
 |bl c=>cases rx;exact xac (bw I q (by cases b<;>cases c<;>rfl))
 |non=>cases rx;exact xac (bw I q (by simp))
 |int _=>obtain⟨t,rfl⟩:=rx;exact xac (bw I q (by simp))
 |str _=>obtain⟨t,rfl⟩:=rx;exact xac (bw I q (by simp))
 |byt _=>obtain⟨t,rfl⟩:=rx;exact xac (bw I q (by simp))
 |flt _=>obtain⟨t,rfl⟩:=rx;exact xac (bw I q (by simp))
 |ref _=>cases rx;exact xac (bw I q (by simp))
 |ty _=>cases rx;exact xac (bw I q (by simp))
theorem range_any (bs:List Bool):(List.range bs.length).any (fun i=>(bs[i]?).getD false)=bs.any id:=by
 rw[xaF,List.any_eq_true,List.any_eq_true]
 constructor
 ·rintro⟨i,hi,h⟩;have hi':=xcQ.mp hi;rw[xag hi']at h;exact⟨_,xbH hi',h⟩
 ·rintro⟨b,hb,h⟩;obtain⟨i,hi,e⟩:=List.mem_iff_getElem.mp hb;refine⟨i,xcQ.mpr hi,?_⟩;rw[xag hi,e];exact h
theorem Tf {bs:List Bool}{its:List Value}(r:Vals (bs.map V.bl) its){i:Nat}{v:Value}(h:its.toArray[i]? =some v):v=.bool ((bs[i]?).getD false):=by
 have h':its[i]? =some v:=by simpa using h
 have hl:=r.length;rw[xar]at hl;have hi:i<bs.length:=by
  have:=(xak.mp h').1;omega
 have hx:(bs.map V.bl)[i]? =some (V.bl bs[i]):=by rw[xan,xag hi];rfl
 obtain⟨u,hu,ru⟩:=r.get hx;rw[h']at hu;cases hu;rw[xag hi];exact ru
theorem Tj (hc:X.calm=true):cX X (.builtin "any") (fun xs H Q=>∃(p:Addr) (bs:List Bool),xs=[.ref p]/\bF X.K H p (bs.map V.bl)/\Q (.bl (bs.any id)) H):=by
 intro pins s σ H xs us Q I r h;obtain⟨p,bs,rfl,hq,q⟩:=h;obtain⟨u,rfl,ru⟩:=vals1 r;cases ru;obtain⟨its,rv,pl,hz⟩:=I.list hq;have hp:p<s.heap.objs.size:=by obtain⟨o,ho,_⟩:=pl.isList;exact xaj ho
 have hn:its.toArray.size=bs.length:=by rw[xae, <-rv.length,xar]
 refine call_any_walk (xco pl.isList ⟨s.heap.objs.size,_,_,its.toArray.size,_,_,fun i=>(bs[i]?).getD false,rfl,Walks.list (A:=X.A.in1) (show X.A.in1.handled=none from I.ok.hd hc) _ p (xaq hp) its.toArray,
  ⟨⟨_,xal _ rfl,rfl,rfl⟩,pl.isList.at fun o e=>xaa _ e⟩,fun i v s' Q' E' hv hQ=>?_,fun h' tk kk=>?_⟩)
 ·rw[Tf rv hv];exact xbb hQ
 ·rw[hn,range_any];refine⟨.bl _,H,I.kept fun b o e=>kk b o ?_ (xaa _ e),rfl,q⟩;intro z;have z':b=s.heap.objs.size:=by simpa using z
  exact xa2 _ (z' ▸ xaj e)
end
section
variable {X:Cx}{pins:Pnx}{σ:St}{H:Hp}{s:Shared}
def Pz:V->List V->Hp->VK->Prop:=fun x vs H Q=>∃z y,x=.str z/\vs=[.str y]/\Q (.bl (Txt.startswith z y)) H
theorem WR:tL X "str.startswith" Pz:=by
 intro pins s σ H x vs v us Q I rx rv h;obtain⟨z,y,rfl,rfl,q⟩:=h;obtain⟨t,rfl⟩:=rx;obtain⟨u,rfl,t',rfl⟩:=rv.one;exact SC.startswith ⟨.bl _,H,I,rfl,q⟩
def Py:V->List V->Hp->VK->Prop:=fun x vs H Q=>∃z y,x=.str z/\vs=[.str y]/\z.length<=sizeLine/\Q (.str (Txt.lstripChars z y)) H
theorem WM:tL X "str.lstrip" Py:=by
 intro pins s σ H x vs v us Q I rx rv h;obtain⟨z,y,rfl,rfl,hz,q⟩:=h;obtain⟨t,rfl⟩:=rx;obtain⟨u,rfl,t',rfl⟩:=rv.one;exact SC.lstripChars (fun t' k=>⟨.str _,H,I.tok _,⟨_,rfl⟩,q⟩) hz
theorem Ls:cX X (.type "int") (fun xs H Q=>∃z n,xs=[.str z]/\intText? z=some n/\z.length<=640/\Q (.int n) H):=by
 intro pins s σ H xs us Q I r h;obtain⟨z,n,rfl,h1,h2,q⟩:=h;obtain⟨u,rfl,t,rfl⟩:=vals1 r;exact W.KIN.call_text h1 h2 ⟨.int n,H,I.tok _,⟨_,rfl⟩,q⟩
end
section
variable {X:Cx}{pins:Pnx}{σ:St}{H:Hp}{s:Shared}{h':Heap}
theorem Inv.turnedL {t':Nat}{fp:List Addr}(I:Inv X pins σ H s)(k:∀b o,b∉fp->s.heap.get? b=some o->h'.get? b=some o)(hf:∀b∈fp,cN X pins H b):Inv X pins σ H {s with heap:=h',toks:=t'}:=by
 refine I.step (g':=s.gens) (d':=s.drawn) (ch:=fp) (fun b hb=>⟨(hf b hb).2.2.2.1,(hf b hb).2.1,(hf b hb).2.2.2.2.1,(hf b hb).2.2.2.2.2⟩) (fun b o _ _ hc e _=>k b o hc e) (fun b o _ _ hc e _=>⟨o.slots,k b o hc e⟩) (fun _ _ _ _ n=>n)
  (fun b o hc e=>⟨o,k b o hc e⟩) (fun _ _ e=>e) (fun _ _ _ e=>e) (fun b ps e=>⟨#[],by rw[e];simp⟩) (fun m hm=>?_) (fun b u e=>?_) I.bare
 ·obtain⟨o,es,ep,ho,r⟩:=hm;exact⟨o,es,ep,k _ o (fun z=>(hf _ z).2.1 rfl) ho,r⟩
 ·refine(I.hok b u e).stay (fun c v hc q=>k c v (fun z=>?_) q) (fun _ q=>q) fun _ _ q=>q;have hn:=(hf c z).1;rcases hc with y |y
  ·rw[y,e]at hn;cases hn
  ·rw[y]at hn;cases hn
theorem Inv.turnLaid {t':Nat}{fp:List Addr}{T:Addr}{o:HO}(I:Inv X pins σ H s)(k:∀b u,b∉fp->s.heap.get? b=some u->h'.get? b=some u)(hf:∀b∈fp,cN X pins H b)(hp:s.heap.objs.size<=T)(new:cO X.prog X.w (upd H T o) h' T o):
  Inv X pins σ (upd H T o) {s with heap:=h',toks:=t'}:=by
 have hn:H T=none:=I.hok.fresh hp;have neT:∀b u,s.heap.get? b=some u->b≠T:=fun b u e=>xaq (xaf (xaj e) hp);refine I.step (g':=s.gens) (d':=s.drawn) (ch:=fp) (fun b hb=>⟨(hf b hb).2.2.2.1,(hf b hb).2.1,(hf b hb).2.2.2.2.1,(hf b hb).2.2.2.2.2⟩) (fun b o _ _ hc e _=>k b o hc e) (fun b o _ _ hc e _=>⟨o.slots,k b o hc e⟩) (fun b u _ e n=>by rw[aQ (neT b u e)];exact n)
  (fun b o hc e=>⟨o,k b o hc e⟩) (fun b xs e=>by rw[aQ (eG e hn)];exact e) (fun b u xs e=>by rw[aQ (eG e hn)];exact e) (fun b ps e=>⟨#[],by rw[aQ (eG e hn),e];simp⟩) (fun m hm=>?_) (fun b u e=>?_) I.bare
 ·obtain⟨o,es,ep,ho,r⟩:=hm;exact⟨o,es,ep,k _ o (fun z=>(hf _ z).2.1 rfl) ho,r⟩
 ·by_cases hb:b=T
  ·subst hb;rw[bR]at e;cases e;exact new
  ·rw[aQ hb]at e;refine(I.hok b u e).stay (fun c v hc q=>k c v (fun z=>?_) q) (fun c q=>by rw[aQ (eG q hn)];exact q) fun c xs q=>by rw[aQ (eG q hn)];exact q
   have hn':=(hf c z).1;rcases hc with y |y
   ·rw[y,e]at hn';cases hn'
   ·rw[y]at hn';cases hn'
end
noncomputable def textV:V->Option Str
 |.str z=>if z.length<=sizeLine then some z else none
 |.int i=>if i.natAbs.log2<1920 then some (toString i) else none
 |_=>none
abbrev TJ:=Str->St->Hp->VK->Prop
def PJ (X:Cx)(vs:List Expr)(t:TJ):Prop:=∀(pins:Pnx) (s:Shared) (σ:St) (H:Hp) (out:Str) (Q:VK),Inv X pins σ H s->t out σ H Q->wpAny (model X.prog X.w) X.A (joinParts out (evalEach vs X.env)) (EP X pins σ Q) X.xe s
def Gf:TJ:=fun out _ H Q=>out.length<=sizeLine/\Q (.str out) H
noncomputable def VF (te:TE) (tj:TJ):TJ:=fun out σ H Q=>te σ H fun v H1=>∃y,textV v=some y/\(out ++ y).length<=sizeLine/\tj (out ++ y) σ H1 Q
section
variable {X:Cx}{vs:List Expr}{te:TE}{tj:TJ}
theorem Zz:PJ X [] Gf:=fun pins s σ H out Q I h=>joinParts_nil ⟨.str out,H,I.tok _,⟨_,rfl⟩,h.2⟩ h.1
theorem Zy (hv:PJ X vs tj)(hz:z.length<=sizeLine):PJ X (.Constant (.str z) k pos::vs) (fun out σ H Q=>(out ++ z).length<=sizeLine/\tj (out ++ z) σ H Q):=fun pins s σ H out Q I h=>by
 refine joinParts_cons (Calls.Constant_str ?_);exact⟨h.1,hv pins _ σ H _ Q (I.tok _) h.2⟩
theorem ZD (he:PE X e te)(hv:PJ X vs tj):PJ X (.FormattedValue e (-1) none pos::vs) (VF te tj):=fun pins s σ H out Q I h=>by
 refine joinParts_cons (FormattedValue_plain (aN (he pins s σ H _ I h) fun u s1 ⟨x,H1,I1,r1,y,ey,hl,q⟩=>?_));cases x<;>simp only[textV,reduceCtorEq]at ey
 case int i=>
  split at ey
  ·rename_i hd;cases ey;obtain⟨t,rfl⟩:=r1;exact formatField_int_small hd ⟨hl,hv pins _ σ H1 _ Q (I1.tok _) q⟩
  ·cases ey
 case str z=>
  split at ey
  ·rename_i hz;cases ey;obtain⟨t,rfl⟩:=r1;exact formatField_str (fun t' tk=>⟨hl,hv pins _ σ H1 _ Q (I1.tok _) q⟩) hz
  ·cases ey
theorem Y7 (h:PJ X (v::w::vs) tj):PE X (.JoinedStr (v::w::vs) pos) (fun σ H Q=>tj Str.empty σ H Q):=fun pins s σ H Q I q=>JoinedStr_many (h pins s σ H _ Q I q)
end
theorem MK (g:α->β->β):∀(l:List α) (b:β),(∀x∈l,∀b,f x b=pure (.yield (g x b)))->(forIn l b f:Sem β)=pure (l.foldl (fun b x=>g x b) b)
  | [],b,_=>rfl
  |x::l,b,h=>by
    rw[xdv,h x xaO b];simp only[pure_bind,xcH];exact MK g l (g x b) fun y hy=>h y (xat _ hy)
noncomputable def mj (cells:List (Str×Addr)) (cs:List (Str×Addr)) (x:Str×NameKind):List (Str×Addr):=if x.2=.free then(x.1,(cells.lookup x.1).getD 0)::cs else cs
noncomputable def cV (cells:List (Str×Addr)) (names:List (Str×NameKind)):List (Str×Addr):=names.foldl (mj cells) []
theorem Ub (h:∀y∈scope.names,y.2=.free->∃c,env.cells.lookup y.1=some c):closureFor scope env=pure (cV env.cells scope.names):=by
 simp only [closureFor];rw [MK (fun x cs => mj env.cells cs x) scope.names [] (fun x hx c=>by
  obtain⟨n,kind⟩:=x
  by_cases hk:kind=.free
  ·obtain⟨a,ha⟩:=h _ hx hk;subst hk;have ha':env.cells.lookup n=some a:=ha
   simp[cellOf,ha',mj]
  ·have hk':(kind==NameKind.free)=false:=by simpa using hk
   simp[hk',hk,mj])]
 rfl
theorem LR:∀(names:List (Str×NameKind)) (acc:List (Str×Addr)),(∀y∈names,y.2=.free->∃c,cells.lookup y.1=some c)->
    (∀x c,acc.lookup x=some c->cells.lookup x=some c)->∀x c,(names.foldl (mj cells) acc).lookup x=some c->cells.lookup x=some c
  | [],_,_,h,x,c,e=>h x c e
  |(n,k)::r,acc,hc,h,x,c,e=>by
    rw[xcH]at e;refine LR r _ (fun y hy=>hc y (xat _ hy)) ?_ x c e;intro y d hd;unfold mj at hd
    by_cases hk:k=.free
    · obtain⟨a,ha⟩:=hc (n,k) xaO hk;have ha':cells.lookup n=some a:=ha;simp only[hk,xba,ha',xb6,xbu]at hd
      cases hyn:y==n with
      |true=>
        rw[hyn]at hd;have e2:=eq_of_beq hyn;subst e2;exact ha'.trans hd
      |false=>
        rw[hyn]at hd;exact h y d hd
    · simp only[hk,xbT]at hd;exact h y d hd
theorem Fl:∀(names:List (Str×NameKind)) (acc:List (Str×Addr)) (x:Str),((x,NameKind.free)∈names\/∃c,acc.lookup x=some c)->∃c,(names.foldl (mj cells) acc).lookup x=some c
  | [],acc,x,h=>by
    rcases h with h |h
    · exact absurd h (by simp)
    · exact h
  |(n,k)::r,acc,x,h=>by
    rw[xcH];refine Fl r _ x ?_;have keep:(∃c,acc.lookup x=some c)->∃c,(mj cells acc (n,k)).lookup x=some c:=fun⟨c,hc⟩=>by
      unfold mj
      by_cases hk:k=.free
      · simp only[hk,xba,xbu]
        cases hxn:x==n with
        |true=>exact⟨_,rfl⟩
        |false=>exact⟨c,hc⟩
      · simp only[hk,xbT];exact⟨c,hc⟩
    rcases h with h |h
    · rcases xav.mp h with h |h
      · cases h;refine .inr ?_;unfold mj;simp only[xba,xbu,xa5];exact⟨_,rfl⟩
      · exact .inl h
    · exact .inr (keep h)
noncomputable def cT (psc:Scope) (names:List (Str×NameKind)):List (Str×NameKind):=names.map fun(n,k)=>if (k==.free && psc.kind==.function && psc.names.lookup n==some .cell) then(n,.cell) else(n,k)
theorem yH {psc:Scope}:∀{names:List (Str×NameKind)} {x:Str} {k':NameKind},(cT psc names).lookup x=some k'->(k'=.cell\/k'=.free)->(∀y∈names,y.2≠ .cell)->(x,NameKind.free)∈names
  | [],_,_,h,_,_=>by simp[cT]at h
  |(n,k)::r,x,k',h,hk,hn=>by
    have ih:= @yH psc r x k';have h':List.lookup x ((if (k==NameKind.free && psc.kind==.function && psc.names.lookup n==some .cell)=true then(n,NameKind.cell) else(n,k))::cT psc r)=some k':=h
    cases hx:x==n with
    |true=>
      have e:=eq_of_beq hx;subst e
      by_cases hc:(k==NameKind.free && psc.kind==.function && psc.names.lookup x==some .cell)=true
      · have hkf:k=.free:=by
          cases k<;>first |rfl |(exfalso;simp at hc)
        rw[hkf];exact xaO
      · rw[xai hc]at h';simp only[xbu,xa5]at h';have e2:k=k':=xay h';subst e2;rcases hk with hk |hk
        · exact absurd hk (hn (x,k) xaO)
        · rw[hk];exact xaO
    |false=>
      refine xat _ (ih ?_ hk fun y hy=>hn y (xat _ hy))
      by_cases hc:(k==NameKind.free && psc.kind==.function && psc.names.lookup n==some .cell)=true
      · rw[xab hc]at h';simp only[xbu,hx]at h';exact h'
      · rw[xai hc]at h';simp only[xbu,hx]at h';exact h'
noncomputable def gW (cs:List (Str×Nat)) (σ:St):St:=cs.map fun p=>(σ[p.2]?).join
abbrev eZ (X:Cx)(Nc:List Str)(scope:Scope)(cl:List (Str×Addr))(C:Addr)(s₀:Shared)(H₀:Hp)(ex:List Addr)(pn:Pnx):Cx:=
 {X with N:=Nc,s₀:=s₀,H₀:=H₀,env:=compEnvC scope cl C X.env,outer:=X.stack,ex:=ex,fn:=fun _=>false,pn:=pn,xe:=fun _ _=>False}
noncomputable def z_ (N:List Str) (psc:Scope) (x:Str) (cs:List (Str×Nat)) (scope:Scope):Bool:=
 scope.kind==.function && scope.names.lookup x==some .local && decide ((x::cs.map (·.1)).Nodup) &&
 scope.names.all (fun y=>y.2 !=.cell && (y.2 !=.local || scope.names.lookup y.1==some .local) && (y.2 !=.free || (psc.names.lookup y.1==some .cell || psc.names.lookup y.1==some .free))) &&
 cs.all (fun p=>N[p.2]? ==some p.1 && (psc.names.lookup p.1==some .cell || psc.names.lookup p.1==some .free) && ((cT psc scope.names).lookup p.1==some .cell || (cT psc scope.names).lookup p.1==some .free))
structure CompOk (N:List Str)(psc:Scope)(x:Str)(cs:List (Str×Nat))(scope:Scope):Prop where
 kind:scope.kind=.function
 own:scope.names.lookup x=some .local
 nd:(x::cs.map (·.1)).Nodup
 cell:∀y∈scope.names,y.2≠ .cell
 names:∀y∈scope.names,y.2=.local->scope.names.lookup y.1=some .local
 has:∀y∈scope.names,y.2=.free->psc.names.lookup y.1=some .cell\/psc.names.lookup y.1=some .free
 cap:∀p∈cs,N[p.2]? =some p.1/\(psc.names.lookup p.1=some .cell\/psc.names.lookup p.1=some .free)/\((cT psc scope.names).lookup p.1=some .cell\/(cT psc scope.names).lookup p.1=some .free)
theorem CompOk.of (h:z_ N psc x cs scope=true):CompOk N psc x cs scope:=by
 unfold z_ at h;simp only[xam,xbQ,xaX,xbg,xaL,bne_iff_ne,ne_eq]at h;obtain⟨⟨⟨⟨h1,h2⟩,h3⟩,h4⟩,h5⟩:=h;refine⟨h1,h2,h3,fun y hy=>(h4 y hy).1.1,fun y hy e=>?_,fun y hy e=>?_,fun p hp=>⟨(h5 p hp).1.1,(h5 p hp).1.2,(h5 p hp).2⟩⟩
 ·rcases(h4 y hy).1.2 with z |z
  ·exact absurd e z
  ·exact z
 ·rcases(h4 y hy).2 with z |z
  ·exact absurd e z
  ·exact z
def mW (X:Cx)(ifs:List Expr)(t:TT):Prop:=
 ∀(pins:Pnx) (s:Shared) (σ:St) (H:Hp) (Q:Bool->Hp->Prop),Inv X pins σ H s->t σ H Q->
  wpAny (model X.prog X.w) X.A (forIn ifs true fun c r=>if r=true then do let ok <-isTrue c X.env (eval c X.env);pure (ForInStep.yield ok) else pure (ForInStep.yield r)) (TP X pins σ Q) X.xe s
def Kv:TT:=fun _ H Q=>Q true H
theorem Zx:mW X [] Kv:=fun _ _ _ H _ I h=>wpAny_tests_nil ⟨H,I,h⟩
def Ke (wi:TI)(tq:TT)(te:TE)(cs:List (Str×Nat)):St->Hp->(Addr->Hp->Prop)->Prop:=fun σ H R=>wi σ H fun J H1=>∀D,H1 D=none->
  ∃W:Nat->Nat->List V->Hp->Prop,(∃m,W 0 m [] (upd H1 D (.lst [])))/\∀i m ys H2,W i m ys H2->H2 D=some (.lst ys)/\
    ((J.stop i H2 /\ R D H2) \/ (J.go i H2/\ys.length<sizeLine/\∃N:List V->Hp->Prop,(∀ys' H',N ys' H'->∃m',m'<m/\W (i + 1) m' ys' H')/\∀v H3,J.yld i H2 v H3->tq (some v::gW cs σ) H3 fun b H4=>
      if b=true then te (some v::gW cs σ) H4 fun y H5=>H5 D=some (.lst ys)/\N (ys ++ [y]) (upd H5 D (.lst (ys ++ [y]))) else N ys H4))
section
variable {prog:Program}{w:World}{A:Around}{R:Result->Shared->Prop}{s:Shared}
theorem Uc (I:Nat->Shared->Prop)
    (turn : ∀ n s, I n s -> wpAny (model prog w) A (pyNext it) (fun r s₁=>match r with
      |none=>R (.ok .next) s₁
      | some v => wpAny (model prog w) A (letOwnedTupleGo target it v) (fun _ s₁' => wpAny (model prog w) A (assign target env v) (fun _ s₂=>
          wpAny (model prog w) A (forIn ifs true fun c r => if r = true then do let ok <- isTrue c env (eval c env); pure (ForInStep.yield ok) else pure (ForInStep.yield r)) (fun ok s₃=>
            if ok = true then wpAny (model prog w) A (eval elt env) (fun x s₄=>
              wpAny (model prog w) A (call (.builtin "list.append") [acc,x]) (fun _ s₅=>∃m,m<n/\I m s₅) (fun _ _=>False) s₄) (fun _ _=>False) s₃
            else ∃m,m<n/\I m s₃) (fun _ _=>False) s₂) (fun _ _=>False) s₁') (fun _ _=>False) s₁) (fun _ _=>False) s)
    (n:Nat) (h:I n s):
    codeAny (model prog w) A (.compLoop (.ListComp elt [⟨target,iter,ifs,0⟩] scope pos) 0 it acc env) R s:=by
  refine codeAny_loop rfl I (fun n s hI=>?_) n h;show wpAny _ A ((compTurn (.ListComp elt [⟨target,iter,ifs,0⟩] scope pos) 0 it acc env).onRaise (fun x=>do noteFrame x env;theTreesLotGoes x)) _ _ s
  refine wpAny_noted ?_;rw[compTurn_list];refine tG (xcu (tG (xaN (turn n s hI) (fun r s₁ h₁=>?_) fun _ _ h'=>h'.elim)))
  cases r with
  |none=>exact xac h₁
  |some v=>
    refine tG (xaN h₁ (fun _ s₁' h₁'=>?_) fun _ _ h'=>h'.elim);refine tG (xaN h₁' (fun _ s₂ h₂=>tG (xaN h₂ (fun ok s₃ h₃=>?_) fun _ _ h'=>h'.elim)) fun _ _ h'=>h'.elim)
    cases ok with
    |false=>exact xac ⟨rfl,h₃⟩
    |true=>
      exact tG (tG (xaN h₃ (fun x s₄ h₄=>tG (xaN h₄ (fun _ s₅ h₅=>xac (xac ⟨rfl,h₅⟩)) fun _ _ h'=>h'.elim)) fun _ _ h'=>h'.elim))
end
section
variable {X:Cx}{elt iter:Expr}{ifs:List Expr}{x:Str}{px:Pos}{scope:Scope}{pos:Pos}{wi:TI}{tq:TT}{te:TE}{cs:List (Str×Nat)}
theorem Ud (hc:X.calm=true)(hi:PI X (.Name x px) iter wi)
    (hq:∀(cl:List (Str×Addr)) (C:Addr) (s₀:Shared) (H₀:Hp) (ex:List Addr) (pn:Pnx),mW (eZ X (x::cs.map (·.1)) scope cl C s₀ H₀ ex pn) ifs tq)
    (he:∀(cl:List (Str×Addr)) (C:Addr) (s₀:Shared) (H₀:Hp) (ex:List Addr) (pn:Pnx),PE (eZ X (x::cs.map (·.1)) scope cl C s₀ H₀ ex pn) elt te)
    (ok:CompOk X.N X.env.scope x cs scope) {pins:Pnx} {s:Shared} {σ:St} {H:Hp} {R:Addr->Hp->Prop} (I:Inv X pins σ H s) (h:Ke wi tq te cs σ H R)
    {RR:Value->Addr->Result->Shared->Prop}
    (hRR:∀(D C:Addr) (oC:Obj) (H':Hp) (s':Shared),Inv X (pins ++ [(C,oC)]) σ H' s'->(∀h':Heap,h'.get? C=some oC->∃m,h'.Ns C m)->cN X pins H' C->R D H'->RR (.ref D) C (.ok .next) s'):
    wpAny (model X.prog X.w) X.A (eval iter X.env) (fun xv s₁ => wpAny (model X.prog X.w) X.A (pyIter xv) (fun itv s₂ => wpAny (model X.prog X.w) X.A (newList []) (fun acc s₃=>
      wpAny (model X.prog X.w) X.A (newFunctionEnv scope X.env.globals (cV X.env.cells scope.names) [] X.env.qual none .none (some X.env)) (fun cenv s₄=>
        codeAny (model X.prog X.w) X.A (.compStart (.ListComp elt [⟨.Name x px,iter,ifs,0⟩] scope pos) 0 itv acc {cenv with scope:=relabel scope X.env}) (RR acc cenv.locals) s₄) X.xe s₃) X.xe s₂) X.xe s₁) X.xe s:=by
  refine aN (hi pins s σ H _ I h) fun v s1 h1=>aN h1 fun itv s2 h2=>?_;obtain⟨it,fp,tn,J,H2,e,I2,T,st2,f2,h2⟩:=h2;subst e;have hhas:∀y∈scope.names,y.2=.free->∃c,X.env.cells.lookup y.1=some c:=fun y hy hk=>I2.ok.has y.1 (ok.has y hy hk);refine xaG (wpAny_newFunctionEnv ok.cell (by intro y hy;simp at hy) (fun h₁ hns₁ hsb₁=>?_) ok.kind);dsimp only at hns₁ hsb₁ ⊢;generalize hHH:s2.heap.push {cls:=.type "list",dict:=none,data:=.seq ([]:List Value).toArray}=HH at hns₁ hsb₁ ⊢;have hC:HH.objs.size=s2.heap.objs.size + 1:=by rw[<-hHH,xa9]
  have hDC:s2.heap.objs.size≠HH.objs.size:=by rw[hC];exact xaq (xbt _)
  have hCle:s2.heap.objs.size<=HH.objs.size:=by rw[hC];exact xbw _
  have below:∀b,b<s2.heap.objs.size->b≠HH.objs.size:=fun b hb=>by rw[hC];exact xaq (xcp hb)
  have old:∀b o,s2.heap.get? b=some o->h₁.get? b=some o:=fun b o e=>hsb₁.extBut b o (below b (xaj e)) (xaa _ (hHH ▸ xaa _ e));have hacc:h₁.get? s2.heap.objs.size=some {cls:=.type "list",dict:=none,data:=.seq ([]:List Value).toArray}:=hsb₁.extBut _ _ hDC (xaa _ (hHH ▸ xal _ rfl));have nD:H2 s2.heap.objs.size=none:=I2.hok.fresh (xah _);have nC:H2 HH.objs.size=none:=I2.hok.fresh hCle;obtain⟨W,⟨m0,w0⟩,turn⟩:=h2 s2.heap.objs.size nD
  -- the block's context
  have fpC:∀b∈fp,b≠HH.objs.size:=fun b hb=>by
    obtain⟨o,ho,_⟩:=T.obj 0 _ st2 b hb;exact below b (xaj ho)
  have fpD:∀b∈fp,b≠s2.heap.objs.size:=fun b hb=>by
    obtain⟨o,ho,_⟩:=T.obj 0 _ st2 b hb;exact xaq (xaj ho)
  have pinC:∀p∈X.pn ++ pins,p.1≠HH.objs.size:=fun p hp=>below _ (xaj (I2.pin p hp).1);have clIn:∀y c,(cV X.env.cells scope.names).lookup y=some c->X.env.cells.lookup y=some c:=LR scope.names [] hhas (fun y c e=>by cases e);have kindRel:∀y,(relabel scope X.env).names.lookup y=(cT X.env.scope scope.names).lookup y:=fun _=>rfl;have okC:(eZ X (x::cs.map (·.1)) scope (cV X.env.cells scope.names) HH.objs.size s2 H2 fp (X.pn ++ pins)).Ok:=
    { mod:=I2.ok.mod
      kind:=ok.kind
      glob:=I2.ok.glob
      blt:=I2.ok.blt
      above:=hCle
      inj:=fun y z c e1 e2=>I2.ok.inj y z c (clIn y c e1) (clIn z c e2)
      has:=fun y hk=>by
        have hm:(y,NameKind.free)∈scope.names:=by
          rcases hk with hk |hk
          · exact yH (psc:=X.env.scope) (k':=.cell) hk (.inl rfl) ok.cell
          · exact yH (psc:=X.env.scope) (k':=.free) hk (.inr rfl) ok.cell
        exact Fl scope.names [] y (.inl hm)
      cab:=fun y c hf _=>by cases hf
      hd:=I2.ok.hd
      frames:=I2.ok.frames
      stk:=.inl rfl
      exf:=fun b hb=>⟨fpC b hb,fun y c e z=>(f2 b hb).2.2.2.2.1 y c (clIn y c e) z⟩
      bs:=fun b o e=>I2.bs b o e
      bsz:=xaw I2.ok.bsz I2.sz
      noex:=fun b o e hb=>by
        rcases(f2 b hb).2.2.2.1 with z |z
        · exact I2.ok.noex b o e z
        · exact absurd (xaf (xaj e) (xaw I2.ok.bsz z)) (xa2 _)
      exfs:=fun b hb z=>by
        rcases xav.mp (I2.stkSub b z) with q |q
        · exact(f2 b hb).2.1 q
        · exact(f2 b hb).2.2.1 q
      funs:=I2.stack
      frf:=I2.stkFree}
  have IC:Inv (eZ X (x::cs.map (·.1)) scope (cV X.env.cells scope.names) HH.objs.size s2 H2 fp (X.pn ++ pins)) [] (none::gW cs σ) (upd H2 s2.heap.objs.size (.lst [])) {s2 with heap:=h₁,toks:=s2.toks + ([]:List (Str×Value)).length}:=
    { ok:=okC
      os:=rfl
      bare:=I2.bare
      base:=Un.laid old (xah _) nD
      loc:=by
        refine⟨_,hns₁,fun i y u e1 e2 _=>?_⟩
        cases i with
        |zero=>
          have e2':(none:Option V)=some u:=xay e2;cases e2'
        |succ i=>
          have e1':(cs.map (·.1))[i]? =some y:=e1;have e2':(gW cs σ)[i]? =some (some u):=e2;rw[xan]at e1';unfold gW at e2';rw[xan]at e2'
          cases ep:cs[i]? with
          |none=>rw[ep]at e1';cases e1'
          |some p=>
            rw[ep]at e1' e2';have e1'':p.1=y:=xay e1';have e2'':(σ[p.2]?).join=some u:=xay e2';have e3:σ[p.2]? =some (some u):=by
              cases q:σ[p.2]? with
              |none=>rw[q]at e2'';cases e2''
              |some z=>rw[q]at e2'';exact congrArg some e2''
            subst e1'';obtain⟨hN,hkp,hkc⟩:=ok.cap p (xau ep);obtain⟨mP,_,hl⟩:=I2.loc;obtain⟨u',ru,lk⟩:=hl p.2 p.1 u hN e3 (.inr hkp);refine⟨u',ru,.inr ⟨hkc,?_⟩⟩;rcases lk with⟨k0,_⟩ |⟨_,c,hcell,his⟩
            · exfalso
              have k0':X.env.scope.names.lookup p.1=some .local:=k0;rcases hkp with z |z<;>(rw[k0']at z;cases z)
            · have hm:(p.1,NameKind.free)∈scope.names:=by
                rcases hkc with z |z
                · exact yH z (.inl rfl) ok.cell
                · exact yH z (.inr rfl) ok.cell
              obtain⟨c',hc'⟩:=Fl (cells:=X.env.cells) scope.names [] p.1 (.inl hm);have e5:c'=c:=xay ((clIn p.1 c' hc').symm.trans hcell);exact⟨c',hc',by rw[e5];exact his.keeps old⟩
      cell:=fun y c e=>by
        obtain⟨v',q⟩:=I2.cell y c (clIn y c e);exact⟨v',q.keeps old⟩
      free:=by
        show upd H2 s2.heap.objs.size (.lst []) HH.objs.size=none;rw[aQ hDC.symm];exact nC
      freeC:=fun y c e=>by
        have hcl:c<s2.heap.objs.size:=by
          obtain⟨_,q⟩:=I2.cell y c (clIn y c e);exact q.lt
        rw[aQ (xaq hcl)];exact(I2.freeC y c (clIn y c e)).imp id fun z=>⟨rfl,z.2⟩
      pin:=fun p hp=>by
        have hp':p∈X.pn ++ pins:=by
          rcases xbd.mp hp with z |z
          · exact z
          · cases z
        obtain⟨e1,e2,e3,e4,e5⟩:=I2.pin p hp';refine⟨old _ _ e1,?_,pinC p hp',fun z=>?_,e5⟩
        · rw[aQ (xaq (xaj e1))];exact e2
        · rcases xav.mp (I2.stkSub p.1 z) with q |q
          · exact e3 q
          · exact e4 q
      hok:=I2.hok.laid old (xah _) ⟨xa8 _,[],0,.nil,hacc⟩
      len:=by simp[gW]}
  have stC:tn 0 h₁:=T.keep 0 _ _ st2 fun b _ o e=>old b o e;have frC:∀b∈fp,upd H2 s2.heap.objs.size (HO.lst []) b=none:=fun b hb=>by
    rw[aQ (fpD b hb)];exact(f2 b hb).1
  -- what stays true of the iterator's objects in the block
  have stat:∀{H':Hp},(∀b∈fp,H' b=none)->∀b∈fp,cN (eZ X (x::cs.map (·.1)) scope (cV X.env.cells scope.names) HH.objs.size s2 H2 fp (X.pn ++ pins)) [] H' b:=fun {H'} hn b hb=>
    ⟨hn b hb, fpC b hb, okC.exfs b hb, .inl hb, fun y c e => (okC.exf b hb).2 y c e, fun p hp => (f2 b hb).2.2.2.2.2 p (by
      rcases xbd.mp hp with z |z
      · exact z
      · cases z)⟩
  have loop:∀s₃:Shared,s₃={s2 with heap:=h₁,toks:=s2.toks + ([]:List (Str×Value)).length}->
      codeAny (model X.prog X.w) X.A (.compLoop (.ListComp elt [⟨.Name x px,iter,ifs,0⟩] scope pos) 0 (.ref it) (.ref s2.heap.objs.size) (compEnvC scope (cV X.env.cells scope.names) HH.objs.size X.env)) (RR (.ref s2.heap.objs.size) HH.objs.size) s₃:=by
    rintro s₃ rfl;refine Uc (fun n s'=>∃(i:Nat) (v:Option V) (ys:List V) (H':Hp),Inv (eZ X (x::cs.map (·.1)) scope (cV X.env.cells scope.names) HH.objs.size s2 H2 fp (X.pn ++ pins)) [] (v::gW cs σ) H' s'/\tn i s'.heap/\(∀b∈fp,H' b=none)/\W i n ys H')
      ?_ m0 ⟨0,none,[],_,IC,stC,frC,w0⟩
    rintro n s3 ⟨i,v3,ys,H3,I3,st3,fr3,w3⟩;obtain⟨hD3,tr⟩:=turn i n ys H3 w3;rcases tr with⟨stop,qn⟩ |⟨go,hsz,N,hN,step⟩
    · refine aN (T.done (eZ X (x::cs.map (·.1)) scope (cV X.env.cells scope.names) HH.objs.size s2 H2 fp (X.pn ++ pins)) rfl rfl rfl hc i [] s3 _ H3 _ I3 (stat fr3) st3 stop) fun r s4 ⟨hr,I4⟩=>?_;subst hr;show RR (.ref s2.heap.objs.size) HH.objs.size (.ok .next) s4
      have IP:Inv X pins σ H3 s4:=I2.call' (ch:=fp) I4.os I4.base I4.hok I4.bare fun b hb=>⟨(f2 b hb).2.2.2.1,(f2 b hb).2.1,(f2 b hb).2.2.2.2.1,(f2 b hb).2.2.2.2.2⟩;obtain⟨m4,⟨oC,es,ep,hoC,hdC,hk1,hk2⟩,_⟩:=I4.loc;have nC3:H3 HH.objs.size=none:=I4.free;have fC:cN X pins H3 HH.objs.size:=I2.fpOk hCle nC3;refine hRR _ _ oC H3 s4 (IP.pins_of fun p hp=>?_) (fun h' e=>⟨m4,oC,es,ep,e,hdC,hk1,hk2⟩) fC qn;rcases xbd.mp hp with z |z
      · exact IP.pin p (xaA _ z)
      · have e:p=(HH.objs.size,oC):=by simpa using z
        subst e;exact ⟨hoC,nC3,fC.2.1,fC.2.2.1,fun v z=>by
          have z':oC.data=.cell v:=z;rw[hdC]at z';cases z'⟩
    · refine aN (T.item (eZ X (x::cs.map (·.1)) scope (cV X.env.cells scope.names) HH.objs.size s2 H2 fp (X.pn ++ pins)) rfl rfl rfl hc i [] s3 _ H3 _ I3 (stat fr3) st3 go) fun r s4 ⟨u,hr,h4⟩=>?_;subst hr;refine aN h4 fun _ s5 ⟨y,H5,I5,r5,y5,st5,fr5⟩=>?_;have I5':=I5.pinned (stat fr5) (T.obj _ _ st5);have hloc:Loc (eZ X (x::cs.map (·.1)) scope (cV X.env.cells scope.names) HH.objs.size s2 H2 fp (X.pn ++ pins)).env.scope x:=.inl (lookup_relabel_local ok.own);refine wpAny_assign_Name (CT (i:=0) I5' ok.nd rfl hloc r5 (fun s6 I6=>?_) (.inr (lookup_relabel_local ok.own)));refine aN (hq _ _ _ _ _ _ _ s6 _ H5 _ I6 (step y H5 y5)) fun b s7 ⟨H7,I7,q7⟩=>?_;have again:∀{v':Option V} {H8:Hp} {s8:Shared} {ys':List V} {m':Nat},Inv (eZ X (x::cs.map (·.1)) scope (cV X.env.cells scope.names) HH.objs.size s2 H2 fp (X.pn ++ pins)) ([] ++ yu fp s5.heap) (v'::gW cs σ) H8 s8->W (i + 1) m' ys' H8->
          ∃(i:Nat) (v:Option V) (ys:List V) (H':Hp),Inv (eZ X (x::cs.map (·.1)) scope (cV X.env.cells scope.names) HH.objs.size s2 H2 fp (X.pn ++ pins)) [] (v::gW cs σ) H' s8/\tn i s8.heap/\(∀b∈fp,H' b=none)/\W i m' ys H':=fun {v' H8 s8 ys' m'} I8 w8=>by
        refine⟨i + 1,v',ys',H8,I8.unpinned,T.keep _ _ _ st5 fun b hb o e=>(I8.pin (b,o) (xaA _ (xaA _ (Ba hb e)))).1,fun b hb=>?_,w8⟩;obtain⟨o,e,d⟩:=T.obj _ _ st5 b hb;exact(I8.pin (b,o) (xaA _ (xaA _ (Ba hb e)))).2.1
      cases b with
      |false=>
        rw[xai xas]at q7;rw[xai xas];obtain⟨m',hm,w8⟩:=hN _ _ q7;exact⟨m',hm,again I7 w8⟩
      |true=>
        rw[xab rfl]at q7;rw[xab rfl];refine aN (he _ _ _ _ _ _ _ s7 _ H7 _ I7 q7) fun z s8 ⟨zv,H8,I8,r8,hD8,n8⟩=>?_;obtain⟨m',hm,w8⟩:=hN _ _ n8;refine aN (Gs (X:=eZ X (x::cs.map (·.1)) scope (cV X.env.cells scope.names) HH.objs.size s2 H2 fp (X.pn ++ pins)) _ s8 _ H8 (.ref s2.heap.objs.size) [zv] (.ref s2.heap.objs.size) [z] (fun _ H9=>H9=upd H8 s2.heap.objs.size (.lst (ys ++ [zv]))) I8 rfl (.cons r8 .nil) ⟨_,ys,zv,rfl,rfl,hD8,hsz,rfl⟩) fun _ s9 ⟨_,H9,I9,_,e9⟩=>?_;subst e9;exact⟨m',hm,again I9 w8⟩
  exact codeAny_compStart_list (loop _ rfl) (T.self _ 0 _ _ _ stC (loop _ rfl))
noncomputable def zdS (wi:TI) (tq:TT) (te:TE) (cs:List (Str×Nat)):TE:=fun σ H Q=>Ke wi tq te cs σ H fun D H'=>Q (.ref D) H'
theorem Y5 (x:Str)(cs:List (Str×Nat))(hc:X.calm=true)(hi:PI X (.Name x px) iter wi)
  (hq:∀(cl:List (Str×Addr)) (C:Addr) (s₀:Shared) (H₀:Hp) (ex:List Addr) (pn:Pnx),mW (eZ X (x::cs.map (·.1)) scope cl C s₀ H₀ ex pn) ifs tq)
  (he:∀(cl:List (Str×Addr)) (C:Addr) (s₀:Shared) (H₀:Hp) (ex:List Addr) (pn:Pnx),PE (eZ X (x::cs.map (·.1)) scope cl C s₀ H₀ ex pn) elt te)
  (ok:z_ X.N X.env.scope x cs scope=true:=by kernel_rfl) (hs:∀x,foldedSetIterable iter X.env x=pure x:=by intro _;rfl):
  PE X (.ListComp elt [⟨.Name x px,iter,ifs,0⟩] scope pos) (zdS wi tq te cs):=by
 intro pins s σ H Q I h;have ok':=CompOk.of ok;rw[eval_ListComp];refine wpAny_comprehension_free (use:=none) rfl hs (Ub fun y hy hk=>I.ok.has y.1 (ok'.has y hy hk)) ok'.kind ok'.names ?_;refine Ud (RR:=fun acc C=>compPost (model X.prog X.w) X.A X.xe none (EP X pins σ Q) acc C) hc hi hq he ok' I h ?_;intro D C oC H' s' I' hns fC q;refine⟨_,(hns _ (I'.pin (C,oC) (xaA _ (xaA _ (by simp)))).1).choose_spec,fun h' hs'=>?_⟩;have I1:Inv X pins σ H' s':=I'.unpinned;exact⟨.ref D,H',I1.turned (t':=s'.toks) (fun b o hb e=>(hs'.2 b hb).trans e) fC.1 fC.2.1 fC.2.2.2.1 fC.2.2.2.2.1 fC.2.2.2.2.2,rfl,q⟩
end
theorem o_ (hD:H D=none):Same H (upd H D o):=fun b ob e=>by
 rw[aQ (eG e hD)];exact e
structure Noted (fs:List Addr)(z:Addr)(h h':Heap)(e:Addr)(oe:Obj)(T:Addr)(fl:Value):Prop where
 keep:∀b o,b∉fs->b≠e->b≠z->h.get? b=some o->h'.get? b=some o
 slot:∀b o,b∈fs->b≠e->b≠z->h.get? b=some o->∃sl,h'.get? b=some {o with slots:=sl}
 exc:h'.get? e=some (oe.mapFields (·.setIfInBounds 1 (.ref T)))
 new:h.objs.size<=T
 tb:∃oT ts,h'.get? T=some oT/\oT.data=.fields ts/\ts[3]? =some fl
section
variable {M:Model}{A:Around}{E:Value->Shared->Prop}{s:Shared}{base:Heap}{env:Env}{outer:List Env}{L e z:Addr}{oe:Obj}{vs:Array Value}{Q:Unit->Shared->Prop}
theorem Ow (a1:A.frames=some (env::outer))(a2:s.heap.FunFrames base (env::outer))(a3:env.frame=some L)
  (a4:s.heap.get? e=some oe) (a5:oe.data=.fields vs) (a6:1<vs.size)
  (k:∀h' T,Noted (frs (env::outer)) e s.heap h' e oe T (rawInt L)->Q () {s with heap:=h'}):
  wpAny M A (do
   let a <-frameOf env
   let pl <-entryPlaceOf L hadNext
   let b <-EntryCells.newEntry head a .none (rawInt L) .none pl
   setField (.ref e) 1 b) Q E s:=by
 have ne:e∉frs (env::outer):=fun m=>by
  obtain⟨_,o,e1,e2⟩:=a2.mem m;rw[a4]at e1;cases e1;exact e2 vs a5
 refine tG (wpAny_frameOf_fun a1 a2 a3 fun h1 S=>?_);refine tG (wpAny_entryPlaceOf fun pl hpl=>?_);unfold EntryCells.newEntry newFields;refine tG (xaG ?_ (hpl.sizeOk5 _ _ _ _ _));have b1:h1.get? e=some oe:=(S.2.1 e ne).trans a4;have b2:=xaa (h:=h1) {cls:=.type "traceback",dict:=none,data:=.fields ([head,.ref L,.none,rawInt L,.none] ++ (if pl.isEmpty then List.replicate 6 Value.none else pl)).toArray} b1
 refine xbZ b2 a5 a6 (k _ h1.objs.size ?_);have n1:h1.objs.size≠e:=xbV (xaj b1);have frd:=xb0 (xaU a5 (·.setIfInBounds 1 (Value.ref h1.objs.size)));refine⟨fun b o nb nbe _ hb=>?_,fun b o _ nbe _ hb=>?_,xb1 _ b2 frd,xdi S.1.symm,?_⟩
 ·rw[xaW _ _ (xbB nbe)];exact xaa _ ((S.2.1 b nb).trans hb)
 ·obtain⟨sl,q⟩:=S.2.2 b o hb;refine⟨sl,?_⟩;rw[xaW _ _ (xbB nbe)];exact xaa _ q
 ·refine⟨_,_,(xaW _ _ (xbB n1)).trans (xal h1 rfl),rfl,?_⟩;rcases hpl with rfl |⟨_,_,_,_,_,_,_,rfl⟩<;>simp
theorem Uz (b1:s.heap.get? e=some oe)(b2:oe.data=.fields vs)(b3:vs[1]? =some (.ref T))(b4:s.heap.get? T=some oT)(b5:oT.data=.fields ts)(b6:3<ts.size)
  (k:Q () {s with heap:=s.heap.update T (Obj.mapFields (·.setIfInBounds 3 .none))}):wpAny M A (setFlight (.ref e) none) Q E s:=by
 unfold setFlight;refine tG (xaD b1 b2 b3 ?_);rw[xab (by simp)];exact xbZ b4 b5 b6 k
theorem W6 (N:Noted fs z h h1 e oe T fl)(a4:h.get? e=some oe)(a5:oe.data=.fields vs):Noted fs z h (h1.update T (Obj.mapFields (·.setIfInBounds 3 .none))) e oe T .none:=by
 obtain⟨oT,ts,t1,t2,t3⟩:=N.tb;have ne:∀b o,h.get? b=some o->b≠T:=fun b o q=>xaq (xaf (xaj q) N.new);refine⟨fun b o n1 n2 n3 hb=>?_,fun b o n1 n2 n3 hb=>?_,?_,N.new,?_⟩
 ·rw[xaW _ _ (xbB (ne b o hb))];exact N.keep b o n1 n2 n3 hb
 ·obtain⟨sl,q⟩:=N.slot b o n1 n2 n3 hb;exact⟨sl,by rw[xaW _ _ (xbB (ne b o hb))];exact q⟩
 ·rw[xaW _ _ (xbB (ne e oe a4))];exact N.exc
 ·have z3:3<ts.size:=(xbh.mp t3).1;exact⟨_,_,xb1 _ t1 (xb0 (xaU t2 _)),xaU t2 _,by simp[z3]⟩
theorem Oz (N:Noted fs z h s.heap e oe T fl)(a4:h.get? e=some oe)(a5:oe.data=.fields vs)(a6:1<vs.size)
  (k:∀h',Noted fs z h h' e oe T .none->Q () {s with heap:=h'}):wpAny M A (setFlight (.ref e) none) Q E s:=by
 obtain⟨oT,ts,t1,t2,t3⟩:=N.tb;refine Uz N.exc (xaU a5 _) (by simp[a6]) t1 t2 (xbh.mp t3).1 (k _ (W6 N a4 a5))
theorem Wc (a1:A.frames=some (env::outer))(a2:s.heap.FunFrames base (env::outer))(a3:env.frame=some L)
  (a4:s.heap.get? e=some oe) (a5:oe.data=.fields vs) (a6:vs[1]? =some .none) (k:∀h' T,Noted (frs (env::outer)) e s.heap h' e oe T .none->Q () {s with heap:=h'}):wpAny M A (leaving env (.ref e)) Q E s:=by
 have z1:=(xbh.mp a6).1;unfold leaving noteFrame;simp only[a3];refine tG (tG (xaD a4 a5 a6 ?_));rw[xai (by decide)];exact Ow a1 a2 a3 a4 a5 z1 fun h' T N=>Oz (s:={s with heap:=h'}) N a4 a5 z1 fun h2 N2=>k h2 T N2
theorem W5 (a1:A.frames=some (env::outer))(a2:s.heap.FunFrames base (env::outer))(a3:env.frame=some L)
  (a4:s.heap.get? e=some oe) (a5:oe.data=.fields vs) (a6:vs[1]? =some (.ref T0)) (b1:T0≠e) (b2:s.heap.get? T0=some oT) (b3:oT.data=.fields ts) (b4:ts[3]? =some .none)
  (k:∀h' T,Noted (frs (env::outer)) T0 s.heap h' e oe T (rawInt L)->Q () {s with heap:=h'}):wpAny M A (noteFrame (.ref e) env) Q E s:=by
 have z1:=(xbh.mp a6).1;unfold noteFrame;simp only[a3];refine tG (xaD a4 a5 a6 ?_);rw[xab (by simp)];refine tG (xaD b2 b3 b4 ?_);rw[xai (by simp[rawInt])];refine tG (xbZ b2 b3 (xbh.mp b4).1 ?_);have oth:∀b,b≠T0->(s.heap.update T0 (Obj.mapFields (·.setIfInBounds 3 Value.none))).get? b=s.heap.get? b:=fun b hb=>xaW _ _ (xbB hb);have fr:∀b o,s.heap.get? b=some o->(∀us,o.data≠ .fields us)->b≠T0:=fun b o hb n r=>by
  rw[r,b2]at hb;cases hb;exact n ts b3
 refine Ow (s:={s with heap:=s.heap.update T0 (Obj.mapFields (·.setIfInBounds 3 Value.none))}) a1 (a2.of_keeps fun b o hb n=>⟨o,(oth b (fr b o hb n)).trans hb,rfl⟩) a3 ((oth e (xbB b1)).trans a4) a5 z1 fun h' T N=>k h' T ?_;exact⟨fun b o n1 n2 n3 hb=>N.keep b o n1 n2 n2 ((oth b n3).trans hb),fun b o n1 n2 n3 hb=>N.slot b o n1 n2 n2 ((oth b n3).trans hb),N.exc,by rw[<-Heap.size_after_update s.heap T0 (Obj.mapFields (·.setIfInBounds 3 Value.none))];exact N.new,N.tb⟩
end
section
variable {prog:Program}{w:World}{A:Around}{E:Value->Shared->Prop}{h:Heap}{g:Array GenState}{d:Drawn}{t:Nat}{os:OsState}
variable {nm q:Str}{C N:Addr}{bs bm bmB:List Value}{hdct:Bool}{sn:List Str}{sub:List Value}{ab:Bool}{col:Option Bool}{dd:Option Addr}{k0 k1 k2 k3 k5:Option Value}{B newId initId:String}
theorem zaE (hh:A.handled=none)
  (k : wpAny (model prog w) A x (fun v s₁=>∃e oe vs,v=.ref e/\(∃C nm q N bs bm hdct sn sub ab col dd k0 k1 k2 k3 k5 newId,s₁.heap.get? C=some (excClassObj nm q C N bs bm hdct sn sub ab col dd k0 k1 k2 k3 k5 newId)/\bm.contains (.type "BaseException")=true/\oe.cls=.ref C)/\
   s₁.heap.get? e=some oe/\oe.data=.fields vs/\vs[1]? =some .none/\E (.ref e) s₁) E s):
  wpAny (model prog w) A (raiseStmt env (some x) none) Q E s:=by
 unfold raiseStmt;refine tG (xaN k (fun v s₁ h₁=>?_) fun _ _ x=>x);obtain⟨e,oe,vs,rfl,⟨C,nm,q,N,bs,bm,hdct,sn,sub,ab,col,dd,k0,k1,k2,k3,k5,newId,hC,hb,hc⟩,he,hd,h1,hE⟩:=h₁;have hcB:(Value.ref C::bm).contains (.type "BaseException")=true:=by rw[List.contains_cons,hb,Bool.or_true]
 obtain⟨oc,od,odt,osl⟩:=oe;dsimp only at hc hd;subst hc hd;obtain⟨hp,g,d,tk,os⟩:=s₁
 repeat (first |with_reducible refine wpAny_loadPart_at he ?_ |with_reducible refine wpAny_loadPart_at hC ?_ |(with_reducible refine wpAny_isSubtype_exc hC ?_;rw[hcB]) |with_reducible refine xaD he rfl h1 ?_ |wp_step)
 exact wpAny_raiseNew_none hh hE
end
abbrev KR:List Value:=[.type "ValueError",.type "Exception",.type "BaseException",.type "object"]
def KQ:List Value->Bool
 |.ref _::r=>KQ r
 |l=>l==KR
noncomputable def dw (K:Fgx) (C:Addr):Bool:=match K.lookup C with
  | some ⟨.type "type", _, .cls cd, sl⟩ => (match cd.mro,sl.toList with
    |.ref c::bm,[_,_,_,_,some (.builtin n),_]=>c==C && (n=="ValueError.__new__" && (!cd.hasDel && (PySem.W.tailIn K KR bm && (PySem.W.nsOkIn K cd.ns && (cd.hasDict && KQ bm)))))
    |_,_=>false)
  |_=>false
structure XCls (h:Heap)(C:Addr)(nm qn:Str)(N:Addr)(bs bm:List Value)(sn:List Str)(sub:List Value)(ab:Bool)(col:Option Bool)(dd:Option Addr)(k0 k1 k2 k3 k5:Option Value):Prop where
 obj:h.get? C=some (excClassObj nm qn C N bs bm true sn sub ab col dd k0 k1 k2 k3 k5 "ValueError.__new__")
 tail:OwnTail h KR bm
 ns:h.Ns N (h.nsMap N)
 over:KQ bm=true
theorem Sh {K:Fgx}{h:Heap}{C:Addr}(X:K.In h)(q:dw K C=true):∃nm qn N bs bm sn sub ab col dd k0 k1 k2 k3 k5,
  XCls h C nm qn N bs bm sn sub ab col dd k0 k1 k2 k3 k5/\K.lookup C=some (excClassObj nm qn C N bs bm true sn sub ab col dd k0 k1 k2 k3 k5 "ValueError.__new__"):=by
 unfold dw at q;split at q
 ·rename_i dd cd sl ho;split at q
  ·rename_i c bm k0 k1 k2 k3 n k5 hm hs;simp only[xam,xbg,xdb]at q;obtain⟨q1,q2,q3,q4,q5,q6,q7⟩:=q;obtain⟨nm,bs,mro,ns,qn,hd,sn,sub,ab,col,del⟩:=cd;obtain⟨sl⟩:=sl;dsimp only at hm hs q3 q5 q6;subst q1 q2 hm q3 q6 hs;exact⟨nm,qn,ns,bs,bm,sn,sub,ab,col,dd,k0,k1,k2,k3,k5,⟨X _ _ ho,PySem.W.tail_of_in X q4,.of_isNs (PySem.W.isNs_of_in X q5),q7⟩,ho⟩
  ·cases q
 ·cases q
noncomputable def zH (K:Fgx) (C:Addr):Bool:=match K.lookup C with
 |some ⟨_,_,.cls cd,_⟩=>PySem.W.nsIn K cd.ns "__init__"==some none
 |_=>false
noncomputable def Dc (K:Fgx) (C:Addr):Bool:=PySem.W.findIn K (.ref C) "__getattribute__"==some (some (.builtin "BaseException.__getattribute__")) &&
 (PySem.W.findIn K (.ref C) "__getattr__"==some none && PySem.W.mroIn K C (.type "BaseException")==some true)
noncomputable def xo (a C:Addr) (dx:Option Addr) (b:Bool):HO:=.ext fun h=>∃oe vs t,h.get? a=some oe/\oe.cls=.ref C/\oe.dict=dx/\oe.data=.fields vs/\vs.size=6/\vs[0]? =some (.ref t)/\(b=true->vs[1]? =some .none)
theorem Ss (x:∃oe vs t,h.get? a=some oe/\oe.cls=.ref C/\oe.dict=dx/\oe.data=.fields vs/\vs.size=6/\vs[0]? =some (.ref t)/\(b=true->vs[1]? =some .none)):
  cO P w H h a (xo a C dx b):=by
 obtain⟨oe,vs,t,e,r⟩:=x;exact⟨⟨oe,vs,t,e,r⟩,⟨oe,e⟩,fun h1 h2 ⟨oe,vs,t,e,r⟩ k=>⟨oe,vs,t,k _ e,r⟩⟩
def Dj (h:Heap)(a T:Addr):Prop:=∃oe vs oT ts,h.get? a=some oe/\oe.data=.fields vs/\vs[1]? =some (.ref T)/\T≠a/\h.get? T=some oT/\oT.data=.fields ts/\ts[3]? =some .none
section
variable {P:Program}{w:World}{H:Hp}{h h':Heap}{fs ch:List Addr}{z a C T:Addr}{oe:Obj}{fl:Value}{dx:Option Addr}{b:Bool}{vs:Array Value}
theorem Ox (N:Noted fs z h h' a oe T .none)(e1:h.get? a=some oe)(e2:oe.data=.fields vs)(e3:vs.size=6):Dj h' a T:=by
 obtain⟨oT,ts,t1,t2,t3⟩:=N.tb;refine⟨_,_,oT,ts,N.exc,xaU e2 _,by simp[e3],fun q=>?_,t1,t2,t3⟩;have z:=xaf (xaj e1) N.new;rw[q]at z;exact absurd z (xa2 _)
theorem W7 (N:Noted fs z h h' a oe T fl)(x:∃vs t,oe.cls=.ref C/\oe.dict=dx/\oe.data=.fields vs/\vs.size=6/\vs[0]? =some (.ref t)):∃oe vs t,h'.get? a=some oe/\oe.cls=.ref C/\oe.dict=dx/\oe.data=.fields vs/\vs.size=6/\vs[0]? =some (.ref t)/\(false=true->vs[1]? =some .none):=by
 obtain⟨vs,t,c1,c2,c3,c4,c5⟩:=x;refine⟨_,_,t,N.exc,(Obj.cls_mapFields _ _).trans c1,?_,xaU c3 _,by simp[c4],?_,fun q=>by cases q⟩
 ·obtain⟨_,_,od,_⟩:=oe;dsimp only at c3;subst c3;exact c2
 ·rw[Array.getElem?_setIfInBounds_ne (by decide)];exact c5
theorem R_ (N:Noted fs z h h' a oe T fl)(ha:H a=some (xo a C dx b))(hz:z=a\/z∈ch):Un fs ch H (upd H a (xo a C dx false)) h h':=by
 have n1:∀c,H c=none->c≠a:=fun c n q=>by rw[q,ha]at n;cases n
 have n2:∀c,c≠a->c∉ch->c≠z:=fun c n m q=>by
  rcases hz with r |r
  ·exact n (q.trans r)
  ·exact m (q ▸ r)
 have n3:∀c u,H c=some u->(∀φ,u≠ .ext φ)->c≠a:=fun c u q m r=>by
  rw[r,ha]at q;exact m _ (xay q).symm
 refine ⟨fun c o q n hc hx=>N.keep c o hc (n1 c n) (n2 c (n1 c n) hx) q,fun c o q n hc hx=>N.slot c o hc (n1 c n) (n2 c (n1 c n) hx) q,fun c o q n hx=>by rw[aQ (n1 c n)];exact n,fun c o q hx=>?_,
  fun c xs q=>by rw[aQ (n3 c _ q (by intro _ z;cases z))];exact q,fun c o u q=>by rw[aQ (n3 c _ q (by intro _ z;cases z))];exact q,fun c ps q=>⟨#[],by rw[aQ (n3 c _ q (by intro _ z;cases z)),q];simp⟩⟩
 by_cases ca:c=a
 ·rw[ca];exact⟨_,N.exc⟩
 ·by_cases cf:c∈fs
  ·obtain⟨sl,r⟩:=N.slot c o cf ca (n2 c ca hx) q;exact⟨_,r⟩
  ·exact⟨o,N.keep c o cf ca (n2 c ca hx) q⟩
theorem Ng (ok:cg P w H h)(N:Noted fs z h h' a oe T fl)(ha:H a=some (xo a C dx b))(hz:z=a\/H z=none)(hf:∀c∈fs,H c=none)
  (x:∃vs t,oe.cls=.ref C/\oe.dict=dx/\oe.data=.fields vs/\vs.size=6/\vs[0]? =some (.ref t)):cg P w (upd H a (xo a C dx false)) h':=fun c u q=>by
 have n3:∀c u,H c=some u->(∀φ,u≠ .ext φ)->c≠a:=fun c u q m r=>by
  rw[r,ha]at q;exact m _ (xay q).symm
 by_cases hc:c=a
 ·subst hc;rw[bR]at q;cases q;exact Ss (W7 N x)
 ·rw [aQ hc] at q;have kp : ∀ d u v, H d = some u -> d ≠ a -> h.get? d = some v -> h'.get? d = some v := fun d u v q nd r => N.keep d v (fun m => by rw [hf d m] at q; cases q) nd (fun e=>by
   rcases hz with g |g
   ·exact nd (e.trans g)
   ·rw[e,g]at q;cases q) r
  refine(ok c u q).stay (fun d v hd r=>?_) (fun d r=>by rw[aQ (n3 d _ r (by intro _ z;cases z))];exact r) fun d xs r=>by rw[aQ (n3 d _ r (by intro _ z;cases z))];exact r
  rcases hd with rfl |hd
  ·exact kp d u v q hc r
  ·exact kp d _ v hd (n3 d _ hd (by intro _ z;cases z)) r
theorem Un.less (u:Un (L::fs) ch H H' h h')(n:h.get? L=none):Un fs ch H H' h h':=by
 have m:∀c o,h.get? c=some o->c≠L:=fun c o q e=>by rw[e,n]at q;cases q
 exact⟨fun c o q k hc hx=>u.keep c o q k (fun z=>(xav.mp z).elim (m c o q) hc) hx,fun c o q k hc hx=>u.slot c o q k (xat _ hc) hx,u.free,u.there,u.tups,u.frzs,u.tbls⟩
end
noncomputable def gP (P:Program) (w:World):d8:=fun outer H s E e s'=>∃a C dx H' T,e=.ref a/\s'.os=s.os/\AllBare s'.gens/\Un (frs outer) [] H H' s.heap s'.heap/\cg P w H' s'.heap/\H' a=some (xo a C dx false)/\H' T=none/\s.heap.objs.size<=T/\Dj s'.heap a T/\E (.ref C) dx H'
section
variable {X:Cx}{pins:Pnx}{σ:St}{H:Hp}{s:Shared}
theorem Wb {P:Program}{w:World}{K:Fgx}{mg:Mgx}{base:Heap}{N:List Str}{qual:Str}{scope:Scope}{f:Addr}{cd:Value}{A:Around}{outer:List PySem.Env}{E:XK}{H1:Hp}{s1:Shared}{a C:Addr}{dx:Option Addr}
  (I:Inv (cG (gP P w) P w K mg base N qual scope f cd A outer s H E) pins σ H1 s1) (ha:H1 a=some (xo a C dx true)) (hE:E (.ref C) dx (upd H1 a (xo a C dx false))):(cG (gP P w) P w K mg base N qual scope f cd A outer s H E).xe (.ref a) s1:=by
 obtain⟨oe,vs,t,e1,e2,e3,e4,e5,e6,e7⟩:=(I.hok a _ ha).1;have fr:=I.ok.frames;have st:=I.stack;refine Wc fr st rfl e1 e4 (e7 rfl) fun h' T Nn=>?_;have hL:s.heap.get? (envOfC qual scope s.heap.objs.size f cd).locals=none:=xcC I.ok.above;have u1:Un (s.heap.objs.size::frs outer) [] H H1 s.heap s1.heap:=Un.mono (fs':=s.heap.objs.size::frs outer) (ex':=[]) I.base (fun b hb=>xat _ hb) fun b hb=>hb;have u2:Un (s.heap.objs.size::frs outer) [] H1 (upd H1 a (xo a C dx false)) s1.heap h':=R_ Nn ha (.inl rfl);have hT:H1 T=none:=I.hok.fresh Nn.new;have nT:T≠a:=fun q=>by rw[q,ha]at hT;cases hT
 refine⟨a,C,dx,_,T,rfl,I.os,I.bare,(u1.trans u2).less hL,Ng I.hok Nn ha (.inl rfl) (fun c hc=>I.stkFree c hc) ⟨vs,t,e2,e3,e4,e5,e6⟩,bR,by rw[aQ nT];exact hT,xaw I.sz Nn.new,Ox Nn e1 e4 e5,hE⟩
end
theorem cO.some_of (x:cO P w H h a o):∃u,h.get? a=some u:=by
 cases o with
 |lst xs=>obtain⟨_,_,_,_,e⟩:=x;exact⟨_,e⟩
 |tup xs=>obtain⟨_,_,_,u,e,_⟩:=x;exact⟨u,e⟩
 |dK kvs=>obtain⟨_,_,_,_,u,_,_,e,_⟩:=x;exact⟨u,e⟩
 |dT kvs=>obtain⟨_,_,_,_,u,_,_,e,_⟩:=x;exact⟨u,e⟩
 |set S n=>obtain⟨u,_,_,_,e,_⟩:=x;exact⟨u,e⟩
 |ins C dx fs=>obtain⟨_,_,_,e,_⟩:=x;exact⟨_,e⟩
 |own y=>exact x
 |xd fs=>obtain⟨_,⟨u,_,_,e,_⟩,_⟩:=x;exact⟨u,e⟩
 |rng lo hi=>obtain⟨_,_,_,e⟩:=x;exact⟨_,e⟩
 |frz ob u=>obtain⟨e,_⟩:=x;exact⟨_,e⟩
 |tbl ps=>exact⟨_,x⟩
 |met f y=>exact⟨_,x⟩
 |ext φ=>exact x.2.1
theorem zdh (e:H a=some o):upd H a o=H:=by
 funext b;unfold upd
 split
 ·subst_vars;exact e.symm
 ·rfl
theorem Sq (ok:cg P w H h)(e:H a=some (xo a C dx b)):
  ∃oe vs t,h.get? a=some oe/\oe.cls=.ref C/\oe.dict=dx/\oe.data=.fields vs/\vs.size=6/\vs[0]? =some (.ref t)/\(b=true->vs[1]? =some .none):=(ok a _ e).1
section
variable {X:Cx}{pins:Pnx}{σ:St}{H:Hp}{s:Shared}
theorem Inv.laidN (I:Inv X pins σ H s)(k:∀b u,s.heap.get? b=some u->h'.get? b=some u)(n:s.heap.get? a=none)(new:cO X.prog X.w (upd H a o) h' a o):
    H a=none/\Inv X pins σ (upd H a o) {s with heap:=h',toks:=t'}:=by
  have hn:H a=none:=by
    cases q:H a with
    |none=>rfl
    |some u=>
      obtain⟨v,e⟩:=(I.hok a u q).some_of;rw[n]at e;cases e
  refine ⟨hn, I.un ⟨fun b u q _ _ _=>k b u q,fun b u q _ _ _=>⟨u.slots,k b u q⟩,fun b u q m _=>?_,fun b u q _=>⟨u,k b u q⟩,fun b xs q=>by rw[aQ (eG q hn)];exact q,fun b u xs q=>by rw[aQ (eG q hn)];exact q,
    fun b ps q=>⟨#[],by rw[aQ (eG q hn),q];simp⟩⟩ fun b u q=>?_⟩
  · rw[aQ (fun z=>by rw[z,n]at q;cases q)];exact m
  · by_cases hb:b=a
    · subst hb;rw[bR]at q;cases q;exact new
    · rw[aQ hb]at q;exact(I.hok b u q).stay (fun c v _ r=>k c v r) (fun c r=>by rw[aQ (eG r hn)];exact r) fun c xs r=>by rw[aQ (eG r hn)];exact r
theorem ZV {e:Expr}{te:TE}{pos:Pos}{W:Addr->Addr->Option Addr->Hp->Prop}(he:PE X e te)(hc:X.calm=true)
  (hx:∀pins σ H s a C dx,Inv X pins σ H s->H a=some (xo a C dx true)->W a C dx H->X.xe (.ref a) s):
  PS X (.Raise (some e) none pos) (fun _ σ H=>te σ H fun v H1=>∃a C dx,v=.ref a/\H1 a=some (xo a C dx true)/\dw X.K C=true/\W a C dx H1):=by
 intro pins s σ H D I h;rw[arm_exec_Raise];refine tG (xcu (zaE (I.ok.hd hc) (tG (aN (he pins s σ H _ I h) fun u s1 ⟨v,H1,I1,rv,a,C,dx,ev,ea,q1,w⟩=>tG (xcu (xac ?_))))));subst ev;cases rv;obtain⟨nm,qn,N,bs,bm,sn,sub,ab,col,dd,k0,k1,k2,k3,k5,Y,lk⟩:=Sh I1.kIn q1;obtain⟨oe,vs,t,e1,e2,e3,e4,e5,e6,e7⟩:=Sq I1.hok ea;exact⟨a,oe,vs,rfl,⟨C,nm,qn,N,bs,bm,_,sn,sub,ab,col,dd,k0,k1,k2,k3,k5,_,Y.obj,Y.tail.hasType xb9.hasBase,e2⟩,e1,e4,e7 rfl,hx pins σ H1 s1 a C dx I1 ea w⟩
noncomputable def Dd (K : Fgx) (C : Addr) : Bool := Dc K C && (PySem.W.hasDictIn K C && (PySem.W.findIn K (.ref C) "__class__"==some (some (.builtin "object.__class__")) &&
 (PySem.W.specialIn K (.builtin "object.__class__") "__get__"==some (some (.builtin "getset_descriptor.__get__")) && (PySem.W.takesIn K (.builtin "object.__class__")==some true && PySem.W.mroIn K C (.type "object")==some true))))
end
section
variable {X:Cx}{pins:Pnx}{σ:St}{H:Hp}{s:Shared}
structure Caught (X:Cx)(pins:Pnx)(σ:St)(H:Hp)(s:Shared)(a C:Addr)(dx:Option Addr)(T:Addr):Prop where
 inv:Inv X pins σ H s
 obj:H a=some (xo a C dx false)
 fl:Dj s.heap a T
 hT:H T=none
 t1:X.s₀.heap.objs.size<=T
 t2:T≠X.env.locals
 t3:∀x c,X.env.cells.lookup x=some c->c≠T
 t4:∀p∈X.pn ++ pins,p.1≠T
theorem Ly (I:Inv X pins σ H s)(h:s.heap.objs.size<=T):X.s₀.heap.objs.size<=T/\T≠X.env.locals/\(∀x c,X.env.cells.lookup x=some c->c≠T)/\∀p∈X.pn ++ pins,p.1≠T:=by
 refine⟨xaw I.sz h,xbV (xaf I.lt h),fun x c e=>?_,fun p hp=>?_⟩
 ·obtain⟨v,o,ho,_⟩:=I.cell x c e;exact xaq (xaf (xaj ho) h)
 ·exact xaq (xaf (xaj (I.pin p hp).1) h)
theorem T3 (I:Inv X pins σ H s)(h:gP X.prog X.w X.stack H s E e s'):∃a C dx H' T,e=.ref a/\Caught X pins σ H' s' a C dx T/\E (.ref C) dx H':=by
 obtain⟨a,C,dx,H',T,rfl,os,bare,un,hok,ha,hT,hz,fl,hE⟩:=h;have I2:=I.call' os un hok bare (fun b z=>nomatch z)
 obtain⟨z1,z2,z3,z4⟩:=Ly I hz;exact⟨a,C,dx,H',T,rfl,⟨I2,ha,fl,hT,z1,z2,z3,z4⟩,hE⟩
variable {a C T:Addr}{dx:Option Addr}{Q:Unit->Shared->Prop}{E:Value->Shared->Prop}{M:Model}
theorem Caught.note (c:Caught X pins σ H s a C dx T)(hs:X.stack=X.env::X.outer)(hf:X.env.frame=some X.env.locals)(k:∀s' T',Caught X pins σ H s' a C dx T'->Q () s'):
  wpAny M X.A (noteFrame (.ref a) X.env) (fun _ s2=>wpAny M X.A (setFlight (.ref a) none) Q E s2) E s:=by
 obtain ⟨oe, vs, t, e1, e2, e3, e4, e5, e6, _⟩ := Sq c.inv.hok c.obj;obtain ⟨oe', vs', oT, ts, f1, f2, f3, f4, f5, f6, f7⟩ := c.fl;rw [e1] at f1;cases f1;rw [e4] at f2;cases f2;have fr := c.inv.ok.frames;have st := c.inv.stack;rw [hs] at fr st;refine W5 fr st hf e1 e4 f3 f4 f5 f6 f7 fun h' T' N => Oz (s := { s with heap := h' }) N e1 e4 (by omega) fun h2 N2 => k _ T' ?_;have hx : ∃ vs t, oe.cls = .ref C /\ oe.dict = dx /\ oe.data = .fields vs /\ vs.size = 6 /\ vs[0]? = some (.ref t) := ⟨vs, t, e2, e3, e4, e5, e6⟩;rw [<- hs] at N2;have u := R_ (ch := [T]) N2 c.obj (.inr (xby.mpr rfl));have hk := Ng c.inv.hok N2 c.obj (.inr c.hT) (fun b hb => c.inv.stkFree b hb) hx;rw [zdh c.obj] at u hk;have I2 : Inv X pins σ H { s with heap := h2 } := c.inv.call' (s' := { s with heap := h2 }) rfl u hk c.inv.bare (fun b hb=>by
  rw[xby.mp hb];exact⟨.inr c.t1,c.t2,c.t3,c.t4⟩)
 obtain⟨z1,z2,z3,z4⟩:=Ly c.inv N2.new;exact⟨I2,c.obj,Ox N2 e1 e4 e5,c.inv.hok.fresh N2.new,z1,z2,z3,z4⟩
end
abbrev Cx.pin (X:Cx)(pins:Pnx)(E:Value->Shared->Prop):Cx:={X with pn:=X.pn ++ pins,xe:=E}
abbrev Cx.suite (X:Cx)(e:Value):Cx:={X with A:=X.A.mark (some e),calm:=false,xe:=fun _ _=>False}
theorem Y0 {X:Cx}{CX:d8}{k:Nat}{f:Addr}{fd:FuncData}{ps:List Str}{sp:Sp}{dvs:List V}{ds:List Value}{x:Str}{p pos:Pos}{e:Expr}{es:List Expr}{t:TA}{Ex:St->XK}(F:FnOk X.prog X.w X.K X.mg X.base CX k f fd ps sp)(hr:Room k X.A)(hg:Gl X x)
    (hm:X.mg x=some (.ref f)) (hk:PySem.W.keepIn X.K (.ref f)=true) (hb:Binds X.K fd ps ds) (hd:Vals dvs ds) (hx:∀pins σ H s e s',Inv X pins σ H s->CX X.stack H s (Ex σ) e s'->X.xe e s') (ha:PA X (e::es) t)
    (hdb:(x==("__debug__":Str))=false) (he:starEach (e::es) X.env=(false,eval e X.env)::starEach es X.env) (hpl:(backTo pos (starEach es X.env)).any (·.1)=false):
    PE X (.Call (.Name x p) (e::es) [] pos) (fun σ H Q=>t σ H fun vs H1=>sp (vs ++ dvs) H1 Q (Ex σ)):=by
  intro pins s σ H Q I h;refine xbx (rY I hg hm ?_ hdb);refine xbO (h₀:=X.base) I.ok.mod.kin hk (aN (ha pos pins s σ H _ I h) fun us s1 ⟨vs,H1,I1,r,q⟩=>⟨I1.kIn,?_⟩) he hpl;have r2:Vals (vs ++ dvs) (us ++ ds):=r.append hd;have hl:(us ++ ds).length=ps.length:=by rw[<-r2.length];exact F.len _ _ _ _ q
  refine xdI (xbW (F.run X.A X.stack s1 H1 ⟨us,[]⟩ (us ++ ds) (vs ++ dvs) Q (Ex σ) hr I1.env0 (hb s1 us I1.kIn hl) r2 q) fun rr s' hq=>?_)
  cases rr with
  |error e=>exact hx pins σ H1 s1 e s' I1 hq
  |ok fl=>
    cases fl with
    |ret u=>exact I1.after hq
    |next=>exact False.elim hq
    |brk=>exact False.elim hq
    |cont=>exact False.elim hq
theorem ns_none_of {K:Fgx}{h:Heap}{N:Addr}{mg:Mgx}{n:Str}(X:K.In h)(G:h.Ns N mg)(e:PySem.W.nsIn K N n=some none):mg n=none:=by
 obtain⟨o,es,ep,ho,hd,_,hf⟩:=G;unfold PySem.W.nsIn at e;split at e
 ·rename_i q;have z:=X _ _ q;rw[ho]at z;cases z;cases hd;split at e
  ·cases e
  ·rename_i he;rw[<-hf];unfold nsFind findBy;rw[<-xdV,he];rfl
 ·cases e
section
variable {X:Cx}
def R0 (C:Addr)(Q:VK)(vs:List V)(H:Hp):Prop:=vs.length=1/\∀a,H a=none->Q (.ref a) (upd H a (xo a C none true))
noncomputable def zcH (C:Addr) (te:TE):TE:=fun σ H Q=>te σ H fun v H1=>R0 C Q [v] H1
theorem Zh {C:Addr}{x:Str}{p pos:Pos}{e:Expr}{te:TE}(q1:dw X.K C=true)(q2:zH X.K C=true)(kp:PySem.W.keepIn X.K (.ref C)=true)(hg:Gl X x)(hm:X.mg x=some (.ref C))(he:PE X e te)(hdb:(x==("__debug__":Str))=false)
  (hs:starEach [e] X.env=[(false,eval e X.env)]):PE X (.Call (.Name x p) [e] [] pos) (zcH C te):=by
 intro pins s σ H Q I h;refine xbx (rY I hg hm ?_ hdb);refine xbO (h₀:=X.base) I.ok.mod.kin kp (aN (nR he p8 hs pos pins s σ H (R0 C Q) I h) fun us s1 ⟨vs,H1,I1,r,q⟩=>⟨I1.kIn,?_⟩) hs rfl;obtain⟨nm,qn,N,bs,bm,sn,sub,ab,col,dd,k0,k1,k2,k3,k5,Y,lk⟩:=Sh I1.kIn q1;unfold zH at q2;rw[lk]at q2;simp only[xbg]at q2;have c3:=ns_none_of I1.kIn Y.ns q2;have hl:us.length=1:=by
  rw[<-r.length,q.1]
 obtain⟨hh,g,d,t,os⟩:=s1;refine wpAny_call_exc_subU xb9 (by x_go) xb9 Y.tail Y.obj Y.ns c3 (fun h' a M=>?_) (by show us.length<=sizeLine;rw[hl,xaP];decide);obtain⟨t0,m1,_,_⟩:=M.there;obtain⟨hn,I2⟩:=I1.laidN (a:=a) (o:=xo a C none true) (t':=t) M.keeps M.new (Ss ⟨_,_,t0,m1,rfl,rfl,rfl,rfl,rfl,fun _=>rfl⟩);exact⟨V.ref a,_,I2,rfl,q.2 a hn⟩
end
end L2
namespace E3
open PySem PySem.Spec PyProof.Rows L2
inductive D where
 |non |bl (b:Bool) |int (i:Int) |str (s:Str) |tup (xs:List D) |lst (xs:List D) |ref (n:Nat)
structure FnT where
 st:Stmt
 x:Str
 q:Str
 pos:Pos
 fr:List Str
 dd:List Int:=[]
inductive Cl where
  |lst (ds:List D) |obj (c:Str) (fs:List (Str×D)) |dct (kvs:List (L2.Key×D))
    |dcf (kvs:List (L2.Key×D))
    |fn (i:FnT) (caps:List (Str×D)) |tbl (nm:Str) (i:FnT)
abbrev Mm:=List Cl
inductive Slot where
 |un |val (d:D) |own (ds:List D) |exc (c:Str) (n:Int)
abbrev Env:=List Slot
mutual
def D.lf:D->Bool
 |.tup xs=>D.lfs xs
 |.lst _=>false
 |.ref _=>false
 |_=>true
def D.lfs:List D->Bool
 | []=>true
 |a::as=>D.lf a && D.lfs as
end
def KL (K:Fgx)(a:Addr)(vs:List V):Prop:=∃(o:Obj) (its:Array Value) (n:Nat),K.lookup a=some o/\o.cls=.type "list"/\o.dict=none/\o.data=.seq its n/\its.size<=sizeLine/\Vals vs its.toList
structure Pl where
 io:Nat->Addr
 n:Nat
 bd:Addr->Prop
def DK (K:Fgx)(P:Pl)(H:Hp)(a:Addr)(vs:List V):Prop:=(¬ P.bd a/\Rd H a (.lst vs))\/KL K a vs
def K5 (K:Fgx)(P:Pl)(H:Hp)(a:Addr)(vs:List V):Prop:=((∀k,k<P.n->P.io k≠a)/\Rd H a (.lst vs))\/KL K a vs
mutual
def Is (K:Fgx)(P:Pl)(H:Hp):D->V->Prop
 |.non,v=>v=.non
 |.bl b,v=>v=.bl b
 |.int i,v=>v=.int i
 |.str s,v=>v=.str s
 |.tup ds,v=>∃a vs,v=.ref a/\cU K H a vs/\aC K P H ds vs
 |.lst ds,v=>∃a vs,v=.ref a/\DK K P H a vs/\aC K P H ds vs
 |.ref k,v=>k<P.n/\v=.ref (P.io k)
def aC (K:Fgx)(P:Pl)(H:Hp):List D->List V->Prop
 | [],vs=>vs=[]
 |d::ds,vs=>∃v r,vs=v::r/\Is K P H d v/\aC K P H ds r
end
def Fx (o:HO):Prop:=(∃xs,o=.tup xs)\/(∃u w,o=.frz u w)\/(∃g,o=.ext g)\/∃fs,o=.xd fs
structure Lt (P:Pl)(H:Hp)(P':Pl)(H':Hp):Prop where
 n:P.n<=P'.n
 io:∀k,k<P.n->P'.io k=P.io k
 bd:∀a,P'.bd a->P.bd a\/H a=none
 keep:∀a o,H a=some o->(Fx o\/¬ P.bd a)->H' a=some o
 sure:∀a,H' a=none->H a=none
section
variable {K:Fgx}{P P' P'':Pl}{H H' H'':Hp}
theorem Lt.refl (P:Pl)(H:Hp):Lt P H P H:=⟨xah _,fun _ _=>rfl,fun _ z=>.inl z,fun _ _ e _=>e,fun _ z=>z⟩
theorem Lt.frz (l:Lt P H P' H'):∀b o u,H b=some (.frz o u)->H' b=some (.frz o u):=fun b o u e=>l.keep b _ e (.inl (.inr (.inl ⟨_,_,rfl⟩)))
theorem Lt.not (l:Lt P H P' H')(e:H a=some o)(n:¬ P.bd a):¬ P'.bd a:=fun z=>(l.bd a z).elim n fun z=>by rw[e]at z;cases z
theorem Lt.trans (l:Lt P H P' H')(m:Lt P' H' P'' H''):Lt P H P'' H'' where
 n:=xaw l.n m.n
 io:=fun k h=>(m.io k (xaf h l.n)).trans (l.io k h)
 bd:=fun a z=>(m.bd a z).elim (l.bd a) fun z=>.inr (l.sure a z)
 keep:=fun a o e h=>m.keep a o (l.keep a o e h) (h.imp id fun n=>l.not e n)
 sure:=fun a z=>l.sure a (m.sure a z)
theorem Lt.rd (l:Lt P H P' H')(n:¬ P.bd a)(h:Rd H a (.lst xs)):Rd H' a (.lst xs):=by
 rcases h with h |⟨o,h⟩
 ·exact .inl (l.keep _ _ h (.inr n))
 ·exact .inr ⟨o,l.keep _ _ h (.inr n)⟩
theorem P_ (h:Rd H a o):∃o',H a=some o':=h.elim (fun h=>⟨_,h⟩) fun⟨_,h⟩=>⟨_,h⟩
theorem Lt.rda (l:Lt P H P' H')(h:DK K P H a xs):DK K P' H' a xs:=h.imp (fun⟨n,h⟩=>⟨by obtain⟨o,e⟩:=P_ h;exact l.not e n,l.rd n h⟩) id
theorem Lt.tup (l:Lt P H P' H')(h:cU K H a xs):cU K H' a xs:=by
 rcases h with(h |⟨o,h⟩) |h
 ·exact .inl (.inl (l.keep _ _ h (.inl (.inl ⟨_,rfl⟩))))
 ·exact .inl (.inr ⟨o,l.keep _ _ h (.inl (.inr (.inl ⟨_,_,rfl⟩)))⟩)
 ·exact .inr h
mutual
theorem Is.lt (l:Lt P H P' H'):∀{d:D} {v:V},Is K P H d v->Is K P' H' d v
  |.non,_,h=>h
  |.bl _,_,h=>h
  |.int _,_,h=>h
  |.str _,_,h=>h
  |.tup ds,_,h=>by
    obtain⟨a,vs,e,s,r⟩:=h;exact⟨a,vs,e,l.tup s,aC.lt l r⟩
  |.lst ds,_,h=>by
    obtain⟨a,vs,e,s,r⟩:=h;exact⟨a,vs,e,l.rda s,aC.lt l r⟩
  |.ref k,_,h=>⟨xaf h.1 l.n,by rw[l.io k h.1];exact h.2⟩
theorem aC.lt (l:Lt P H P' H'):∀{ds:List D} {vs:List V},aC K P H ds vs->aC K P' H' ds vs
  | [],_,h=>h
  |_::_,_,h=>by
    obtain⟨v,r,e,p,q⟩:=h;exact⟨v,r,e,Is.lt l p,aC.lt l q⟩
end
noncomputable def Pl.less (P:Pl) (B:Addr->Prop):Pl:={P with bd:=fun a=>P.bd a/\B a}
mutual
theorem Is.less:∀{d:D} {v:V},Is K P H d v->Is K (P.less B) H d v
  |.non,_,h=>h
  |.bl _,_,h=>h
  |.int _,_,h=>h
  |.str _,_,h=>h
  |.tup ds,_,h=>by
    obtain⟨a,vs,e,s,r⟩:=h;exact⟨a,vs,e,s,aC.less r⟩
  |.lst ds,_,h=>by
    obtain⟨a,vs,e,s,r⟩:=h;exact⟨a,vs,e,s.imp (fun⟨n,h⟩=>⟨fun z=>n z.1,h⟩) id,aC.less r⟩
  |.ref k,_,h=>h
theorem aC.less:∀{ds:List D} {vs:List V},aC K P H ds vs->aC K (P.less B) H ds vs
  | [],_,h=>h
  |_::_,_,h=>by
    obtain⟨v,r,e,p,q⟩:=h;exact⟨v,r,e,Is.less p,aC.less q⟩
end
mutual
theorem Is.free (P':Pl):∀{d:D} {v:V},d.lf=true->Is K P H d v->Is K P' H d v
  |.non,_,_,h=>h
  |.bl _,_,_,h=>h
  |.int _,_,_,h=>h
  |.str _,_,_,h=>h
  |.tup ds,_,l,h=>by
    obtain⟨a,vs,e,s,r⟩:=h;exact⟨a,vs,e,s,aC.free P' (by simpa only[D.lf] using l) r⟩
  |.lst _,_,l,_=>by simp[D.lf]at l
  |.ref _,_,l,_=>by simp[D.lf]at l
theorem aC.free (P':Pl):∀{ds:List D} {vs:List V},D.lfs ds=true->aC K P H ds vs->aC K P' H ds vs
  | [],_,_,h=>h
  |_::_,_,l,h=>by
    obtain⟨v,r,e,p,q⟩:=h;simp only[D.lfs,xam]at l;exact⟨v,r,e,Is.free P' l.1 p,aC.free P' l.2 q⟩
end
theorem aC.len:∀{ds:List D} {vs:List V},aC K P H ds vs->vs.length=ds.length
  | [],_,h=>by rw[show _=[] from h];rfl
  |d::ds,_,h=>by
    obtain⟨v,r,e,_,q⟩:=h;subst e
    simp[aC.len q]
theorem aC.get:∀{ds:List D} {vs:List V} {i:Nat} {d:D},aC K P H ds vs->ds[i]? =some d->∃v,vs[i]? =some v/\Is K P H d v
  | [],_,_,_,_,e=>by simp at e
  |d::ds,_,0,_,h,e=>by
    obtain⟨v,r,e',p,_⟩:=h
    simp at e
    subst e e';exact⟨v,rfl,p⟩
  |d::ds,_,i + 1,_,h,e=>by
    obtain⟨v,r,e',_,q⟩:=h;subst e'
    simpa using aC.get (i:=i) q (by simpa using e)
theorem aC.append:∀{ds es:List D} {vs ws:List V},aC K P H ds vs->aC K P H es ws->aC K P H (ds ++ es) (vs ++ ws)
  | [],_,_,_,h,q=>by rw[show _=[] from h];exact q
  |d::ds,_,_,_,h,q=>by
    obtain⟨v,r,e,p,h⟩:=h;subst e;exact⟨v,r ++ _,rfl,p,aC.append h q⟩
theorem aC.take:∀{ds:List D} {vs:List V} (n:Nat),aC K P H ds vs->aC K P H (ds.take n) (vs.take n)
  |_,_,0,_=>rfl
  | [],_,n + 1,h=>by rw[show _=[] from h];rfl
  |d::ds,_,n + 1,h=>by
    obtain⟨v,r,e,p,h⟩:=h;subst e;exact⟨v,_,rfl,p,aC.take n h⟩
theorem aC.drop:∀{ds:List D} {vs:List V} (n:Nat),aC K P H ds vs->aC K P H (ds.drop n) (vs.drop n)
  |_,_,0,h=>h
  | [],_,n + 1,h=>by rw[show _=[] from h];rfl
  |d::ds,_,n + 1,h=>by
    obtain⟨v,r,e,p,h⟩:=h;subst e;exact aC.drop n h
theorem aC.one (h:Is K P H d v):aC K P H [d] [v]:=⟨v,[],rfl,h,rfl⟩
end
noncomputable def kI (H:Hp):List (Str×Addr)->List V->Prop
 | [],vs=>vs=[]
 |p::r,vs=>∃v ws u o,vs=v::ws/\RelV v u/\H p.2=some (.frz o (.own p.2))/\o.data=.cell (some u)/\kI H r ws
theorem kI.up {H H':Hp}(s:∀b o u,H b=some (.frz o u)->H' b=some (.frz o u)):∀{cl:List (Str×Addr)} {vs:List V},kI H cl vs->kI H' cl vs
  | [],_,h=>h
  |_::_,_,h=>by
    obtain⟨v,ws,u,o,e,r,q,d,h⟩:=h;exact⟨v,ws,u,o,e,r,s _ _ _ q,d,h.up s⟩
def eX (H:Hp)(c:Addr)(q:Str):Prop:=∃(o:Obj) (fs:Array Value) (t:Tok),H c=some (.frz o (.own c))/\o.data=.fields fs/\fs[1]? =some (.str q t)
theorem eX.up {H H':Hp}{c:Addr}{q:Str}(s:∀b o u,H b=some (.frz o u)->H' b=some (.frz o u))(h:eX H c q):eX H' c q:=by
 obtain⟨o,fs,t,e,r⟩:=h;exact⟨o,fs,t,s _ _ _ e,r⟩
def dM (H:Hp)(dd:List Int)(dV:Value):Prop:=(dd=[]/\dV=.none)\/(dd≠ []/\∃(td:Addr) (o:Obj) (its:Array Value) (n:Nat),dV=.ref td/\H td=some (.frz o (.own td))/\o.data=.seq its n/\Vals (dd.map V.int) its.toList)
theorem dM.up {H H':Hp}{dd:List Int}{dV:Value}(s:∀b o u,H b=some (.frz o u)->H' b=some (.frz o u))(h:dM H dd dV):dM H' dd dV:=
 h.imp id fun⟨e,td,o,its,n,e1,e2,r⟩=>⟨e,td,o,its,n,e1,s _ _ _ e2,r⟩
noncomputable def mC (mg:Mgx) (i:FnT) (cl:List (Str×Addr)) (dV doc ctv:Value) (c:Addr):Obj:={cls:=.type "function",data:=.func (PySem.W.fnX i.x i.q (cM i.st) (bK i.st) (aH i.st) cl dV .none doc ((mg "__name__").getD .none) none (.ref c) ctv)}
def kJ (K:Fgx)(mg:Mgx)(P:Pl)(H:Hp)(a:Addr)(i:FnT)(caps:List (Str×D)):Prop:=
 ∃(cl:List (Str×Addr)) (dV doc ctv:Value) (c:Addr) (vs:List V),H a=some (.frz (mC mg i cl dV doc ctv c) (.own a))/\(eX H c i.q/\dM H i.dd dV)/\(cl.map (·.1)=caps.map (·.1)/\caps.map (·.1)=i.fr)/\aC K P H (caps.map (·.2)) vs/\kI H cl vs/\∀x y a,cl.lookup x=some a->cl.lookup y=some a->x=y
theorem kJ.up {K:Fgx}{mg:Mgx}{P P':Pl}{H H':Hp}{a:Addr}{i:FnT}{caps:List (Str×D)}(h:kJ K mg P H a i caps)(s:∀b o u,H b=some (.frz o u)->H' b=some (.frz o u))(q:∀ds vs,aC K P H ds vs->aC K P' H' ds vs):kJ K mg P' H' a i caps:=by
 obtain⟨cl,dV,doc,ctv,c,vs,e1,e2,e3,e4,e5,e6⟩:=h;exact⟨cl,dV,doc,ctv,c,vs,s _ _ _ e1,⟨e2.1.up s,e2.2.up s⟩,e3,q _ _ e4,e5.up s,e6⟩
def mX (K:Fgx)(H:Hp)(a:Addr)(nm:Str)(i:FnT):Prop:=
 ∃(c:Addr) (ps:Array Value),PySem.W.tabIn K nm=some (c,a)/\H a=some (.tbl ps)/\(ps= #[]\/∃c',ps= #[rawInt i.pos.line,rawInt i.pos.col,.ref c']/\eX H c' i.q)
theorem mX.up {K:Fgx}{H H':Hp}{a:Addr}{nm:Str}{i:FnT}(h:mX K H a nm i)(e:∀o,H a=some o->H' a=some o)(s:∀b o u,H b=some (.frz o u)->H' b=some (.frz o u)):mX K H' a nm i:=by
 obtain⟨c,ps,e1,e2,e3⟩:=h;exact⟨c,ps,e1,e _ e2,e3.imp id fun⟨c',z,q⟩=>⟨c',z,q.up s⟩⟩
noncomputable def tD (K:Fgx) (mg:Mgx) (P:Pl) (H:Hp) (a:Addr):Cl->Prop
 |.lst ds=>∃vs,H a=some (.lst vs)/\aC K P H ds vs
 |.obj c fs=>∃C dx gs,mg c=some (.ref C)/\H a=some (.ins C dx gs)/\gs.map (·.1)=fs.map (·.1)/\aC K P H (fs.map (·.2)) (gs.map (·.2))
 |.dct kvs=>∃vs:List (L2.Key×V),H a=some (.dK vs)/\vs.map (·.1)=kvs.map (·.1)/\aC K P H (kvs.map (·.2)) (vs.map (·.2))
 |.dcf kvs=>∃(vs:List (L2.Key×V)) (ob:Obj) (es:Array DictEntry) (ep:Nat),H a=some (.frz ob (.dK vs))/\ob.data=.dict es ep/\vs.map (·.1)=kvs.map (·.1)/\aC K P H (kvs.map (·.2)) (vs.map (·.2))
 |.fn i caps=>kJ K mg P H a i caps
 |.tbl nm i=>mX K H a nm i
noncomputable def Cl.fix:Cl->Bool
 |.dcf _=>true
 |.fn _ _=>true
 |_=>false
structure Hk (K:Fgx)(mg:Mgx)(P:Pl)(H:Hp)(M:Mm):Prop where
 n:P.n=M.length
 cell:∀(k:Nat) c,M[k]? =some c->tD K mg P H (P.io k) c
 inj:∀j k,j<P.n->k<P.n->P.io j=P.io k->j=k
 bd:∀k,k<P.n->P.bd (P.io k)
 here:∀a,P.bd a->H a≠none
structure LtE (P:Pl)(H:Hp)(P':Pl)(H':Hp):Prop where
 n:P.n<=P'.n
 io:∀k,k<P.n->P'.io k=P.io k
 bd:∀a,P'.bd a->P.bd a\/H a=none
 bm:∀a,P.bd a->P'.bd a
 keep:∀a o,H a=some o->(Fx o\/∀k,k<P.n->P.io k≠a)->H' a=some o
 sure:∀a,H' a=none->H a=none
 nw:∀k,P.n<=k->k<P'.n->H (P'.io k)=none
section
variable {K:Fgx}{mg:Mgx}{P P' P'':Pl}{H H' H'':Hp}{M M':Mm}
theorem LtE.refl (P:Pl)(H:Hp):LtE P H P H:=⟨xah _,fun _ _=>rfl,fun _ z=>.inl z,fun _ z=>z,fun _ _ e _=>e,fun _ z=>z,fun k h1 h2=>absurd h1 (xdK.mpr h2)⟩
theorem LtE.same (s:Same H H'):LtE P H P H':=⟨xah _,fun _ _=>rfl,fun _ z=>.inl z,fun _ z=>z,fun a o e _=>s a o e,fun a z=>s.free z,fun k h1 h2=>absurd h1 (xdK.mpr h2)⟩
theorem Hk.cellAt (h:Hk K mg P H M)(hc:M[k]? =some c)(nd:c.fix=false:=by rfl):∃o,H (P.io k)=some o/\¬ Fx o:=by
  have:=h.cell k c hc
  cases c with
  |lst ds=>
    obtain⟨vs,e,_⟩:=this;exact⟨_,e,fun z=>by rcases z with⟨_,z⟩ |⟨_,_,z⟩ |⟨_,z⟩ |⟨_,z⟩<;>cases z⟩
  |obj c fs=>
    obtain⟨C,dx,gs,_,e,_⟩:=this;exact⟨_,e,fun z=>by rcases z with⟨_,z⟩ |⟨_,_,z⟩ |⟨_,z⟩ |⟨_,z⟩<;>cases z⟩
  |dct kvs=>
    obtain⟨vs,e,_⟩:=this;exact⟨_,e,fun z=>by rcases z with⟨_,z⟩ |⟨_,_,z⟩ |⟨_,z⟩ |⟨_,z⟩<;>cases z⟩
  |dcf kvs=>cases nd
  |fn i caps=>cases nd
  |tbl nm i=>
    obtain⟨c,ps,_,e,_⟩:=this;exact⟨_,e,fun z=>by rcases z with⟨_,z⟩ |⟨_,_,z⟩ |⟨_,z⟩ |⟨_,z⟩<;>cases z⟩
theorem LtE.lt (l:LtE P H P' H')(h:Hk K mg P H M):Lt P H P' H' where
 n:=l.n
 io:=l.io
 bd:=l.bd
 sure:=l.sure
 keep:=fun a o e z=>l.keep a o e (z.imp id fun z k hk q=>z (q ▸ h.bd k hk))
theorem LtE.trans (l:LtE P H P' H')(m:LtE P' H' P'' H''):LtE P H P'' H'' where
 n:=xaw l.n m.n
 io:=fun k h=>(m.io k (xaf h l.n)).trans (l.io k h)
 bd:=fun a z=>(m.bd a z).elim (l.bd a) fun z=>.inr (l.sure a z)
 bm:=fun a z=>m.bm a (l.bm a z)
 keep:=fun a o e h=>m.keep a o (l.keep a o e h) <| h.imp id fun h k hk q=>by
  rcases xaM k P.n with z |z
  ·rw[l.io k z]at q;exact h k z q
  ·rw[<-q,l.nw k z hk]at e;cases e
 sure:=fun a z=>l.sure a (m.sure a z)
 nw:=fun k h1 h2=>by
  rcases xaM k P'.n with z |z
  ·rw[m.io k z];exact l.nw k h1 z
  ·exact l.sure _ (m.nw k z h2)
end
inductive Cp where
 |eq |ne |lt |le |gt |ge |isin |notin |same |other
mutual
def D.eq:D->D->Bool
 |.non,.non=>true
 |.bl a,.bl b=>a==b
 |.bl a,.int b=>(if a then 1 else 0)==b
 |.int a,.bl b=>a==(if b then 1 else 0)
 |.int a,.int b=>a==b
 |.str a,.str b=>a==b
 |.tup a,.tup b=>D.eqs a b
 |.lst a,.lst b=>D.eqs a b
 |.ref a,.ref b=>a==b
 |_,_=>false
def D.eqs:List D->List D->Bool
 | [],[]=>true
 |a::as,b::bs=>D.eq a b && D.eqs as bs
 |_,_=>false
end
mutual
def D.dep:D->Nat
 |.tup xs=>D.deps xs + 1
 |.lst xs=>D.deps xs + 1
 |.ref _=>101
 |_=>0
def D.deps:List D->Nat
 | []=>0
 |a::as=>max (D.dep a) (D.deps as)
end
noncomputable def D.flat:D->Bool
 |.tup _=>false
 |.lst _=>false
 |.ref _=>false
 |_=>true
noncomputable def pR (i j:Str):Bool:= !(Builtin.Str.occurrences j i 0 j.length 1).isEmpty
def cQ (a b:D):Bool:=a.flat==b.flat && decide (b.dep<=50)
noncomputable def pN (a b:D):Option Bool:=if cQ a b=true/\a.dep<=50 then some (D.eq a b) else none
noncomputable def m_ (a b:D):Option Bool:=if cQ a b=true/\a.dep<=50 then some (!D.eq a b) else none
noncomputable def cP (f:Int->Int->Bool) (a b:D):Option Bool:=match a with
 |.int i=>(match b with |.int j=>some (f i j) |_=>none)
 |_=>none
noncomputable def m9 (a b:D):Option Bool:=match b with
 |.str j=>(match a with |.str i=>some (pR i j) |_=>none)
 |.lst xs=>if (a.flat && xs.all D.flat)=true then some (xs.any fun y=>D.eq y a) else none
 |.tup xs=>if (a.flat && xs.all D.flat)=true then some (xs.any fun y=>D.eq y a) else none
 |_=>none
noncomputable def eY (a b:D):Option Bool:=match b with
 |.str j=>(match a with |.str i=>some (!pR i j) |_=>none)
 |.lst xs=>if (a.flat && xs.all D.flat)=true then some (!xs.any fun y=>D.eq y a) else none
 |.tup xs=>if (a.flat && xs.all D.flat)=true then some (!xs.any fun y=>D.eq y a) else none
 |_=>none
noncomputable def pP (a b:D):Option Bool:=match b with
 |.bl b=>(match a with |.bl a=>some (a==b) |_=>some false)
 |.non=>(match a with |.non=>some true |_=>some false)
 |_=>none
noncomputable def pO (a b:D):Option Bool:=match b with
 |.bl b=>(match a with |.bl a=>some (!(a==b)) |_=>some true)
 |.non=>(match a with |.non=>some false |_=>some true)
 |_=>none
noncomputable def bN (c:Cp) (a b:D):Option Bool:=match c with
 |.eq=>pN a b
 |.ne=>m_ a b
 |.lt=>cP (fun i j=>decide (i<j)) a b
 |.le=>cP (fun i j=>decide (i<=j)) a b
 |.gt=>cP (fun i j=>decide (j<i)) a b
 |.ge=>cP (fun i j=>decide (j<=i)) a b
 |.isin=>m9 a b
 |.notin=>eY a b
 |.same=>pP a b
 |.other=>pO a b
noncomputable def cj (K:Fgx) (P:Pl) (H:Hp):D->V->Prop
 |.lst ds,v=>∃a vs,v=.ref a/\K5 K P H a vs/\aC K P H ds vs
 |d,v=>Is K P H d v
section
variable {X:Cx}{pins:Pnx}{σ:L2.St}{H:Hp}{s:Shared}
theorem zel {K:Fgx}{P:Pl}{a:Addr}{xs:List V}(h:K5 K P H a xs):bF K H a xs:=h.imp (·.2) id
noncomputable def bM (K:Fgx) (P:Pl) (H:Hp):D->V->Prop
 |.lst ds,v=>∃a vs,v=.ref a/\bF K H a vs/\aC K P H ds vs
 |d,v=>Is K P H d v
theorem cj.w {K:Fgx}{P:Pl}{d:D}{v:V}(h:cj K P H d v):bM K P H d v:=by
 cases d<;>first |exact h |(obtain⟨a,vs,e,r,q⟩:=h;exact⟨a,vs,e,zel r,q⟩)
theorem Is.w {K:Fgx}{P:Pl}{d:D}{v:V}(h:Is K P H d v):bM K P H d v:=by
 cases d<;>first |exact h |(obtain⟨a,vs,e,r,q⟩:=h;exact⟨a,vs,e,r.imp (·.2) id,q⟩)
theorem sql (I:Inv X pins σ H s)(h:bF X.K H l xs):xs.length<=sizeLine/\∃its:List Value,Vals xs its/\s.heap.IsList l its.toArray:=by
 obtain⟨its,r,p,z⟩:=I.list h;exact⟨z,its,r,p.isList⟩
mutual
theorem Is.inj (I:Inv X pins σ H s):∀(d e:D) (v:V),bM X.K A H d v->bM X.K B H e v->d.dep<=100->e.dep<=100->d=e
  |.ref _,e,v,h,h',hd,he=>by simp[D.dep]at hd
  |.non,e,v,h,h',hd,he=>by
    have hv:v=.non:=h;subst hv;cases e<;>first |(simp[D.dep]at he;done) |(simp[bM,Is]at h'<;>rfl)
  |.bl b,e,v,h,h',hd,he=>by
    have hv:v=.bl b:=h;subst hv;cases e<;>first |(simp[D.dep]at he;done) |(simp[bM,Is]at h'<;>simp[h'])
  |.int b,e,v,h,h',hd,he=>by
    have hv:v=.int b:=h;subst hv;cases e<;>first |(simp[D.dep]at he;done) |(simp[bM,Is]at h'<;>simp[h'])
  |.str b,e,v,h,h',hd,he=>by
    have hv:v=.str b:=h;subst hv;cases e<;>first |(simp[D.dep]at he;done) |(simp[bM,Is]at h'<;>simp[h'])
  |.tup ds,e,v,h,h',hd,he=>by
    simp only[D.dep]at hd;simp only[bM,Is]at h;obtain⟨a,vs,rfl,t,r⟩:=h
    cases e with
    |tup es=>
      simp only[bM,Is]at h';obtain⟨b,ws,e1,t',r'⟩:=h';cases e1;have e2:=I.tuple_inj t t';subst e2;simp only[D.dep]at he;rw[aC.inj I ds es vs r r' (by omega) (by omega)]
    |lst es=>
      obtain⟨b,ws,e1,t',r'⟩:=h';cases e1;obtain⟨_,its,_,o2,e2,c2,_⟩:=sql I t';obtain⟨its2,_,⟨o,e3,c3,_⟩,_⟩:=I.tuple t;rw[e2]at e3;cases e3;rw[c2]at c3;exact absurd c3 (by simp)
    |ref _=>simp[D.dep]at he
    |_=>simp[bM,Is]at h'
  |.lst ds,e,v,h,h',hd,he=>by
    simp only[D.dep]at hd;obtain⟨a,vs,rfl,t,r⟩:=h
    cases e with
    |lst es=>
      obtain⟨b,ws,e1,t',r'⟩:=h';cases e1;have e2:=I.list_inj (t) (t');subst e2;simp only[D.dep]at he;rw[aC.inj I ds es vs r r' (by omega) (by omega)]
    |tup es=>
      simp only[bM,Is]at h';obtain⟨b,ws,e1,t',r'⟩:=h';cases e1;obtain⟨_,its,_,o2,e2,c2,_⟩:=sql I t;obtain⟨its2,_,⟨o,e3,c3,_⟩,_⟩:=I.tuple t';rw[e2]at e3;cases e3;rw[c2]at c3;exact absurd c3 (by simp)
    |ref _=>simp[D.dep]at he
    |_=>simp[bM,Is]at h'
theorem aC.inj (I:Inv X pins σ H s):∀(ds es:List D) (vs:List V),aC X.K A H ds vs->aC X.K B H es vs->D.deps ds<=100->D.deps es<=100->ds=es
  | [],es,vs,h,h',hd,he=>by
    have hv:vs=[]:=h;subst hv
    cases es with
    |nil=>rfl
    |cons=>simp[aC]at h'
  |d::ds,es,vs,h,h',hd,he=>by
    simp only[D.deps]at hd;obtain⟨v,r,rfl,p,q⟩:=h
    cases es with
    |nil=>simp[aC]at h'
    |cons e es=>
      obtain⟨v',r',e1,p',q'⟩:=h';cases e1;simp only[D.deps]at he;rw[Is.inj I d e v p.w p'.w (by omega) (by omega),aC.inj I ds es r q q' (by omega) (by omega)]
end
mutual
theorem D.eq_refl:∀d:D,D.eq d d=true
 |.non=>rfl
 |.bl b=>by simp[D.eq]
 |.int b=>by simp[D.eq]
 |.str b=>by simp[D.eq]
 |.tup ds=>by simp only[D.eq];exact D.eqs_refl ds
 |.lst ds=>by simp only[D.eq];exact D.eqs_refl ds
 |.ref n=>by simp[D.eq]
theorem D.eqs_refl:∀d:List D,D.eqs d d=true
 | []=>rfl
 |d::ds=>by simp only[D.eqs,D.eq_refl d,D.eqs_refl ds,xcv]
end
theorem D.eqs_len:∀(ds es:List D),ds.length≠es.length->D.eqs ds es=false
  | [],[],h=>absurd rfl h
  | [],_::_,_=>rfl
  |_::_,[],_=>rfl
  |d::ds,e::es,h=>by
    simp only[D.eqs,D.eqs_len ds es (by simpa using h),xcR]
theorem D.eqs_all:∀(ds es:List D),ds.length=es.length->D.eqs ds es=(List.range ds.length).all fun j=>D.eq (ds.getD j .non) (es.getD j .non)
  | [],[],_=>rfl
  |d::ds,e::es,h=>by
    rw[D.eqs,D.eqs_all ds es (by simpa using h),xao,List.range_succ_eq_map,xbr,List.all_map];rfl
mutual
theorem Ft (I:Inv X pins σ H s):∀(d e:D) (v w:V) (u u':Value),bM X.K A H d v->bM X.K B H e w->RelV v u->RelV w u'->Ar.units + d.dep<cLine->d.dep<=100->e.dep<=100->SeqAt.EqAt Ar s u u' (D.eq d e)
  |.ref _,e,v,w,u,u',h1,h2,r1,r2,hu,hd,he=>by simp[D.dep]at hd
  |.non,e,v,w,u,u',h1,h2,r1,r2,hu,hd,he=>by
    have hv:v=.non:=h1;subst hv;cases r1;have hu':Ar.units<cLine:=by omega
    cases e with
    |ref _=>simp[D.dep]at he
    |non=>have hw:w=.non:=h2;subst hw;cases r2;exact xcE _
    |bl b=>have hw:w=.bl b:=h2;subst hw;cases r2;exact SeqAt.EqAt.none_bool _
    |int b=>have hw:w=.int b:=h2;subst hw;obtain⟨t,rfl⟩:=r2;exact SeqAt.EqAt.none_int _ _
    |str b=>have hw:w=.str b:=h2;subst hw;obtain⟨t,rfl⟩:=r2;exact SeqAt.EqAt.none_str _ _
    |tup es=>obtain⟨a,vs,rfl,t,_⟩:=h2;cases r2;obtain⟨its,_,p,_⟩:=I.tuple t;exact SeqAt.EqAt.none_tuple p hu'
    |lst es=>obtain⟨a,vs,rfl,t,_⟩:=h2;cases r2;obtain⟨_,its,_,p⟩:=sql I t;exact SeqAt.EqAt.none_list p hu'
  |.bl x,e,v,w,u,u',h1,h2,r1,r2,hu,hd,he=>by
    have hv:v=.bl x:=h1;subst hv;cases r1;have hu':Ar.units<cLine:=by omega
    cases e with
    |ref _=>simp[D.dep]at he
    |non=>have hw:w=.non:=h2;subst hw;cases r2;exact SeqAt.EqAt.bool_none _
    |bl b=>have hw:w=.bl b:=h2;subst hw;cases r2;exact SeqAt.EqAt.bool_bool _ _
    |int b=>have hw:w=.int b:=h2;subst hw;obtain⟨t,rfl⟩:=r2;exact SeqAt.EqAt.bool_int _ _ _
    |str b=>have hw:w=.str b:=h2;subst hw;obtain⟨t,rfl⟩:=r2;exact SeqAt.EqAt.bool_str _ _ _
    |tup es=>obtain⟨a,vs,rfl,t,_⟩:=h2;cases r2;obtain⟨its,_,p,_⟩:=I.tuple t;exact SeqAt.EqAt.bool_tuple _ p hu'
    |lst es=>obtain⟨a,vs,rfl,t,_⟩:=h2;cases r2;obtain⟨_,its,_,p⟩:=sql I t;exact SeqAt.EqAt.bool_list _ p hu'
  |.int x,e,v,w,u,u',h1,h2,r1,r2,hu,hd,he=>by
    have hv:v=.int x:=h1;subst hv;obtain⟨t0,rfl⟩:=r1;have hu':Ar.units<cLine:=by omega
    cases e with
    |ref _=>simp[D.dep]at he
    |non=>have hw:w=.non:=h2;subst hw;cases r2;exact SeqAt.EqAt.int_none _ _
    |bl b=>have hw:w=.bl b:=h2;subst hw;cases r2;exact SeqAt.EqAt.int_bool _ _ _
    |int b=>have hw:w=.int b:=h2;subst hw;obtain⟨t,rfl⟩:=r2;exact xcY _ _ _ _
    |str b=>have hw:w=.str b:=h2;subst hw;obtain⟨t,rfl⟩:=r2;exact xcV _ _ _ _
    |tup es=>obtain⟨a,vs,rfl,t,_⟩:=h2;cases r2;obtain⟨its,_,p,_⟩:=I.tuple t;exact SeqAt.EqAt.int_tuple _ _ p hu'
    |lst es=>obtain⟨a,vs,rfl,t,_⟩:=h2;cases r2;obtain⟨_,its,_,p⟩:=sql I t;exact SeqAt.EqAt.int_list _ _ p hu'
  |.str x,e,v,w,u,u',h1,h2,r1,r2,hu,hd,he=>by
    have hv:v=.str x:=h1;subst hv;obtain⟨t0,rfl⟩:=r1;have hu':Ar.units<cLine:=by omega
    cases e with
    |ref _=>simp[D.dep]at he
    |non=>have hw:w=.non:=h2;subst hw;cases r2;exact SeqAt.EqAt.str_none _ _
    |bl b=>have hw:w=.bl b:=h2;subst hw;cases r2;exact SeqAt.EqAt.str_bool _ _ _
    |int b=>have hw:w=.int b:=h2;subst hw;obtain⟨t,rfl⟩:=r2;exact xcW _ _ _ _
    |str b=>have hw:w=.str b:=h2;subst hw;obtain⟨t,rfl⟩:=r2;exact xcZ _ _ _ _
    |tup es=>obtain⟨a,vs,rfl,t,_⟩:=h2;cases r2;obtain⟨its,_,p,_⟩:=I.tuple t;exact SeqAt.EqAt.str_tuple _ _ p hu'
    |lst es=>obtain⟨a,vs,rfl,t,_⟩:=h2;cases r2;obtain⟨_,its,_,p⟩:=sql I t;exact SeqAt.EqAt.str_list _ _ p hu'
  |.tup ds,e,v,w,u,u',h1,h2,r1,r2,hu,hd,he=>by
    have h1':=h1;have hd':=hd;simp only[D.dep]at hu hd;have hu':Ar.units<cLine:=by omega
    obtain⟨a,vs,rfl,t,q⟩:=h1;cases r1;obtain⟨its,rv,p,hz⟩:=I.tuple t
    cases e with
    |ref _=>simp[D.dep]at he
    |non=>have hw:w=.non:=h2;subst hw;cases r2;exact SeqAt.EqAt.tuple_none p hu'
    |bl b=>have hw:w=.bl b:=h2;subst hw;cases r2;exact SeqAt.EqAt.tuple_bool _ p hu'
    |int b=>have hw:w=.int b:=h2;subst hw;obtain⟨t,rfl⟩:=r2;exact SeqAt.EqAt.tuple_int _ _ p hu'
    |str b=>have hw:w=.str b:=h2;subst hw;obtain⟨t,rfl⟩:=r2;exact SeqAt.EqAt.tuple_str _ _ p hu'
    |tup es=>
      have h2':=h2;have he':=he;simp only[D.dep]at he;obtain⟨b,ws,rfl,t',q'⟩:=h2;cases r2
      by_cases hab:a=b
      · subst hab;rw[Is.inj I _ _ _ h1' h2' hd' he',D.eq_refl];exact xcE _
      · obtain⟨its',rv',p',hz'⟩:=I.tuple t';refine SeqAt.EqAt.of_refs hab ?_;have l1:its.toArray.size=ds.length:=by rw[xae, <-rv.length,q.len]
        have l2:its'.toArray.size=es.length:=by rw[xae, <-rv'.length,q'.len]
        have key:=SeqAt.RcAt.tuples (A:=Ar) (s:=s) (e:=fun j=>D.eq (ds.getD j .non) (es.getD j .non)) p p' hu' fun j j1 j2=>by
          simpa using rN I ds es vs ws its its' q q' rv rv' (Ar:=Ar.in1) (by show Ar.units + 1 + _<_;omega) (by omega) (by omega) j (by simpa using j1) (by simpa using j2)
        rw[l1,l2]at key
        by_cases hl:ds.length=es.length
        · rw[show D.eq (.tup ds) (.tup es)=D.eqs ds es from rfl,D.eqs_all ds es hl];rw[hl,xdY,xa5,xdN]at key;rw[hl];exact key
        · rw[show D.eq (.tup ds) (.tup es)=D.eqs ds es from rfl,D.eqs_len ds es hl];rw[xaQ.mpr hl,xcR]at key;exact key
    |lst es=>obtain⟨b,ws,rfl,t',_⟩:=h2;cases r2;obtain⟨_,its',_,p'⟩:=sql I t';exact SeqAt.EqAt.tuple_list p p' hu'
  |.lst ds,e,v,w,u,u',h1,h2,r1,r2,hu,hd,he=>by
    have h1':=h1;have hd':=hd;simp only[D.dep]at hu hd;have hu':Ar.units<cLine:=by omega
    obtain⟨a,vs,rfl,t,q⟩:=h1;cases r1;obtain⟨hz,its,rv,p⟩:=sql I t
    cases e with
    |ref _=>simp[D.dep]at he
    |non=>have hw:w=.non:=h2;subst hw;cases r2;exact SeqAt.EqAt.list_none p hu'
    |bl b=>have hw:w=.bl b:=h2;subst hw;cases r2;exact SeqAt.EqAt.list_bool _ p hu'
    |int b=>have hw:w=.int b:=h2;subst hw;obtain⟨t,rfl⟩:=r2;exact SeqAt.EqAt.list_int _ _ p hu'
    |str b=>have hw:w=.str b:=h2;subst hw;obtain⟨t,rfl⟩:=r2;exact SeqAt.EqAt.list_str _ _ p hu'
    |tup es=>obtain⟨b,ws,rfl,t',_⟩:=h2;cases r2;obtain⟨its',_,p',_⟩:=I.tuple t';exact SeqAt.EqAt.list_tuple p p' hu'
    |lst es=>
      have h2':=h2;have he':=he;simp only[D.dep]at he;obtain⟨b,ws,rfl,t',q'⟩:=h2;cases r2
      by_cases hab:a=b
      · subst hab;rw[Is.inj I _ _ _ h1' h2' hd' he',D.eq_refl];exact xcE _
      · obtain⟨hz',its',rv',p'⟩:=sql I t';refine SeqAt.EqAt.of_refs hab ?_;have l1:its.toArray.size=ds.length:=by rw[xae, <-rv.length,q.len]
        have l2:its'.toArray.size=es.length:=by rw[xae, <-rv'.length,q'.len]
        by_cases hl:ds.length=es.length
        · have key:=SeqAt.RcAt.lists (A:=Ar) (s:=s) (e:=fun j=>D.eq (ds.getD j .non) (es.getD j .non)) p p' (by rw[l1,l2,hl]) hu' fun j j1 j2=>by
            simpa using rN I ds es vs ws its its' q q' rv rv' (Ar:=Ar.in1) (by show Ar.units + 1 + _<_;omega) (by omega) (by omega) j (by simpa using j1) (by simpa using j2)
          rw[show D.eq (.lst ds) (.lst es)=D.eqs ds es from rfl,D.eqs_all ds es hl];rw[l1]at key;exact key
        · rw[show D.eq (.lst ds) (.lst es)=D.eqs ds es from rfl,D.eqs_len ds es hl];exact xdm p p' (by rw[l1,l2];simpa using hl) hu'
theorem rN (I:Inv X pins σ H s):∀(ds es:List D) (vs ws:List V) (its its':List Value),aC X.K A H ds vs->aC X.K B H es ws->Vals vs its->Vals ws its'->Ar.units + D.deps ds<cLine->D.deps ds<=100->D.deps es<=100->
    ∀(j:Nat) (h1:j<its.length) (h2:j<its'.length),SeqAt.EqAt Ar s its[j] its'[j] (D.eq (ds.getD j .non) (es.getD j .non))
  | [],es,vs,ws,its,its',h,h',r,r',hu,hd,he,j,j1,j2=>by
    have hv:vs=[]:=h;subst hv;cases r;exact absurd j1 (xdw _)
  |d::ds,[],vs,ws,its,its',h,h',r,r',hu,hd,he,j,j1,j2=>by
    have hv:ws=[]:=h';subst hv;cases r';exact absurd j2 (xdw _)
  |d::ds,e::es,vs,ws,its,its',h,h',r,r',hu,hd,he,j,j1,j2=>by
    obtain⟨v,vr,rfl,p,q⟩:=h;obtain⟨w,wr,rfl,p',q'⟩:=h';simp only[D.deps]at hu hd he
    cases r with
    |cons r1 r2=>
      cases r' with
      |cons r1' r2'=>
        cases j with
        |zero=>exact Ft I d e v w _ _ p.w p'.w r1 r1' (by omega) (by omega) (by omega)
        |succ j=>exact rN I ds es vr wr _ _ q q' r2 r2' (by omega) (by omega) (by omega) j (by simpa using j1) (by simpa using j2)
end
theorem Q6 {d e:D}{A B:Pl}{K:Fgx}{v w:V}(fd:d.flat=true)(fe:e.flat=true)(h1:bM K A H d v)(h2:bM K B H e w):
  (pA v w=true/\D.eq d e=decide (v=w))\/(∃a i,v=.bl a/\w=.int i/\D.eq d e=((if a then 1 else 0)==i))\/∃a i,v=.int i/\w=.bl a/\D.eq d e=(i==(if a then 1 else 0)):=by
 cases d<;>cases e<;>simp only[D.flat,xa4]at fd fe<;>simp only[bM,Is]at h1 h2<;>subst h1 h2<;>simp[pA,D.eq]
 all_goals first |rfl |(rw[xaF];simp)
noncomputable def nW (K:Fgx) (neg:Bool):R2:=fun x y H Q=>∃(A B:Pl) (d e:D),bM K A H d x/\bM K B H e y/\cQ d e=true/\d.dep<=50/\Q (.bl (if neg then !D.eq d e else D.eq d e)) H
theorem Yr (hu:X.A.units + 60<cLine):bG X (compareOp .Eq) (nW X.K false):=by
  intro pins s σ H x y v u Q I rx ry h;obtain⟨A,B,d,e,h1,h2,hk,hd,q⟩:=h;have q:Q (.bl (D.eq d e)) H:=q;have fin:SeqAt.RcAt X.A s v u (D.eq d e)->wpAny (model X.prog X.w) X.A (compareOp .Eq v u) (EP X pins σ Q) X.xe s:=fun r=>EqBoolInt.of_rc r ⟨.bl _,H,I,rfl,q⟩;have hu':X.A.units<cLine:=by omega
  cases fd:d.flat with
  |true=>
    simp only[cQ,xam,xaL,xbg]at hk;have fe:e.flat=true:=hk.1.symm.trans fd;rcases Q6 fd fe h1 h2 with⟨sc,eq⟩ |⟨a,i,rfl,rfl,eq⟩ |⟨a,i,rfl,rfl,eq⟩
    · exact Yq pins s σ H x y v u Q I rx ry ⟨sc,by rw[<-eq];exact q⟩
    · cases rx;obtain⟨t,rfl⟩:=ry;exact EqBoolInt.eq_bool_int ⟨.bl _,H,I,rfl,by rw[<-eq];exact q⟩
    · cases ry;obtain⟨t,rfl⟩:=rx;exact EqBoolInt.eq_int_bool ⟨.bl _,H,I,rfl,by rw[<-eq];exact q⟩
  |false=>
    simp only[cQ,xam,xaL,xbg]at hk;have he:=hk.2;have fe:e.flat=false:=hk.1.symm.trans fd
    cases d with
    |tup ds=>
      obtain⟨a,vs,rfl,t,p⟩:=h1;cases rx;obtain⟨its,rv,pt,hz⟩:=I.tuple t;simp only[D.dep]at hd
      cases e with
      |tup es=>
        obtain⟨b,ws,rfl,t',p'⟩:=h2;cases ry;obtain⟨its',rv',pt',hz'⟩:=I.tuple t';have l1:its.toArray.size=ds.length:=by rw[xae, <-rv.length,p.len]
        have l2:its'.toArray.size=es.length:=by rw[xae, <-rv'.length,p'.len]
        have key:=SeqAt.RcAt.tuples (A:=X.A) (s:=s) (e:=fun j=>D.eq (ds.getD j .non) (es.getD j .non)) pt pt' hu' fun j j1 j2=>by
          simpa using rN I ds es vs ws its its' p p' rv rv' (Ar:=X.A.in1) (by show X.A.units + 1 + _<_;omega) (by omega) (by simp only[D.dep]at he;omega) j (by simpa using j1) (by simpa using j2)
        rw[l1,l2]at key;refine fin ?_
        by_cases hl:ds.length=es.length
        · rw[show D.eq (.tup ds) (.tup es)=D.eqs ds es from rfl,D.eqs_all ds es hl];rw[hl,xdY,xa5,xdN]at key;rw[hl];exact key
        · rw[show D.eq (.tup ds) (.tup es)=D.eqs ds es from rfl,D.eqs_len ds es hl];rw[xaQ.mpr hl,xcR]at key;exact key
      |lst es=>
        obtain⟨b,ws,rfl,t',p'⟩:=h2;cases ry;obtain⟨_,its',rv',e'⟩:=sql I t';exact fin (SeqAt.RcAt.tuple_list pt e' hu')
      |ref _=>simp[D.dep]at he
      |_=>cases fe
    |lst ds=>
      obtain⟨a,vs,rfl,t,p⟩:=h1;cases rx;obtain⟨hz,its,rv,pt⟩:=sql I t;simp only[D.dep]at hd
      cases e with
      |tup es=>
        obtain⟨b,ws,rfl,t',p'⟩:=h2;cases ry;obtain⟨its',rv',pt',hz'⟩:=I.tuple t';exact fin (SeqAt.RcAt.list_tuple pt pt' hu')
      |lst es=>
        obtain⟨b,ws,rfl,t',p'⟩:=h2;cases ry;obtain⟨_,its',rv',pt'⟩:=sql I t';have l1:its.toArray.size=ds.length:=by rw[xae, <-rv.length,p.len]
        have l2:its'.toArray.size=es.length:=by rw[xae, <-rv'.length,p'.len]
        refine fin ?_
        by_cases hl:ds.length=es.length
        · have key:=SeqAt.RcAt.lists (A:=X.A) (s:=s) (e:=fun j=>D.eq (ds.getD j .non) (es.getD j .non)) pt pt' (by rw[l1,l2,hl]) hu' fun j j1 j2=>by
            simpa using rN I ds es vs ws its its' p p' rv rv' (Ar:=X.A.in1) (by show X.A.units + 1 + _<_;omega) (by omega) (by simp only[D.dep]at he;omega) j (by simpa using j1) (by simpa using j2)
          rw[show D.eq (.lst ds) (.lst es)=D.eqs ds es from rfl,D.eqs_all ds es hl];rw[l1]at key;exact key
        · rw[show D.eq (.lst ds) (.lst es)=D.eqs ds es from rfl,D.eqs_len ds es hl];exact xdm pt pt' (by rw[l1,l2];simpa using hl) hu'
      |ref _=>simp[D.dep]at he
      |_=>cases fe
    |ref _=>simp[D.dep]at hd
    |_=>cases fd
theorem YG (hu:X.A.units + 60<cLine):bG X (compareOp .NotEq) (nW X.K true):=by
  intro pins s σ H x y v u Q I rx ry h;obtain⟨A,B,d,e,h1,h2,hk,hd,q⟩:=h;have q:Q (.bl (!D.eq d e)) H:=q;have fin:SeqAt.RcNeAt X.A s v u (!D.eq d e)->wpAny (model X.prog X.w) X.A (compareOp .NotEq v u) (EP X pins σ Q) X.xe s:=fun r=>EqBoolInt.of_rcne r ⟨.bl _,H,I,rfl,q⟩;have hu':X.A.units<cLine:=by omega
  cases fd:d.flat with
  |true=>
    simp only[cQ,xam,xaL,xbg]at hk;have fe:e.flat=true:=hk.1.symm.trans fd;rcases Q6 fd fe h1 h2 with⟨sc,eq⟩ |⟨a,i,rfl,rfl,eq⟩ |⟨a,i,rfl,rfl,eq⟩
    · exact YF pins s σ H x y v u Q I rx ry ⟨sc,by rw[<-eq];exact q⟩
    · cases rx;obtain⟨t,rfl⟩:=ry;exact EqBoolInt.ne_bool_int ⟨.bl _,H,I,rfl,by rw[<-eq];exact q⟩
    · cases ry;obtain⟨t,rfl⟩:=rx;exact EqBoolInt.ne_int_bool ⟨.bl _,H,I,rfl,by rw[<-eq];exact q⟩
  |false=>
    simp only[cQ,xam,xaL,xbg]at hk;have he:=hk.2;have fe:e.flat=false:=hk.1.symm.trans fd
    cases d with
    |tup ds=>
      obtain⟨a,vs,rfl,t,p⟩:=h1;cases rx;obtain⟨its,rv,pt,hz⟩:=I.tuple t;simp only[D.dep]at hd
      cases e with
      |tup es=>
        obtain⟨b,ws,rfl,t',p'⟩:=h2;cases ry;obtain⟨its',rv',pt',hz'⟩:=I.tuple t';have l1:its.toArray.size=ds.length:=by rw[xae, <-rv.length,p.len]
        have l2:its'.toArray.size=es.length:=by rw[xae, <-rv'.length,p'.len]
        have key:=SeqAt.RcNeAt.tuples (A:=X.A) (s:=s) (e:=fun j=>D.eq (ds.getD j .non) (es.getD j .non)) pt pt' hu' fun j j1 j2=>by
          simpa using rN I ds es vs ws its its' p p' rv rv' (Ar:=X.A.in1) (by show X.A.units + 1 + _<_;omega) (by omega) (by simp only[D.dep]at he;omega) j (by simpa using j1) (by simpa using j2)
        rw[l1,l2]at key;refine fin ?_
        by_cases hl:ds.length=es.length
        · rw[show D.eq (.tup ds) (.tup es)=D.eqs ds es from rfl,D.eqs_all ds es hl];rw[hl,xdY,xa5,xdN]at key;rw[hl];exact key
        · rw[show D.eq (.tup ds) (.tup es)=D.eqs ds es from rfl,D.eqs_len ds es hl];rw[xaQ.mpr hl,xcR]at key;exact key
      |lst es=>
        obtain⟨b,ws,rfl,t',p'⟩:=h2;cases ry;obtain⟨_,its',rv',e'⟩:=sql I t';exact fin (SeqAt.RcNeAt.tuple_list pt e' hu')
      |ref _=>simp[D.dep]at he
      |_=>cases fe
    |lst ds=>
      obtain⟨a,vs,rfl,t,p⟩:=h1;cases rx;obtain⟨hz,its,rv,pt⟩:=sql I t;simp only[D.dep]at hd
      cases e with
      |tup es=>
        obtain⟨b,ws,rfl,t',p'⟩:=h2;cases ry;obtain⟨its',rv',pt',hz'⟩:=I.tuple t';exact fin (SeqAt.RcNeAt.list_tuple pt pt' hu')
      |lst es=>
        obtain⟨b,ws,rfl,t',p'⟩:=h2;cases ry;obtain⟨_,its',rv',pt'⟩:=sql I t';have l1:its.toArray.size=ds.length:=by rw[xae, <-rv.length,p.len]
        have l2:its'.toArray.size=es.length:=by rw[xae, <-rv'.length,p'.len]
        refine fin ?_
        by_cases hl:ds.length=es.length
        · have key:=SeqAt.RcNeAt.lists (A:=X.A) (s:=s) (e:=fun j=>D.eq (ds.getD j .non) (es.getD j .non)) pt pt' (by rw[l1,l2,hl]) hu' fun j j1 j2=>by
            simpa using rN I ds es vs ws its its' p p' rv rv' (Ar:=X.A.in1) (by show X.A.units + 1 + _<_;omega) (by omega) (by simp only[D.dep]at he;omega) j (by simpa using j1) (by simpa using j2)
          rw[show D.eq (.lst ds) (.lst es)=D.eqs ds es from rfl,D.eqs_all ds es hl];rw[l1]at key;exact key
        · rw[show D.eq (.lst ds) (.lst es)=D.eqs ds es from rfl,D.eqs_len ds es hl];exact SeqAt.RcNeAt.lists_lengths pt pt' (by rw[l1,l2];simpa using hl) hu'
      |ref _=>simp[D.dep]at he
      |_=>cases fe
    |ref _=>simp[D.dep]at hd
    |_=>cases fd
noncomputable def rM:Cp->CmpOp
 |.eq=>.Eq
 |.ne=>.NotEq
 |.lt=>.Lt
 |.le=>.LtE
 |.gt=>.Gt
 |.ge=>.GtE
 |.isin=>.In
 |.notin=>.NotIn
 |.same=>.Is
 |.other=>.IsNot
noncomputable def yD (K:Fgx):Cp->R2
 |.eq=>nW K false
 |.ne=>nW K true
 |.lt=>gF fun i j=>.bl (decide (i<j))
 |.le=>gF fun i j=>.bl (decide (i<=j))
 |.gt=>gF fun i j=>.bl (decide (j<i))
 |.ge=>gF fun i j=>.bl (decide (j<=i))
 |.isin=>fun x y H Q=>(∃i j,x=.str i/\y=.str j/\Q (.bl (!(Builtin.Str.occurrences j i 0 j.length 1).isEmpty)) H)\/Bm K false x y H Q
 |.notin=>fun x y H Q=>(∃i j,x=.str i/\y=.str j/\Q (.bl (!(!(Builtin.Str.occurrences j i 0 j.length 1).isEmpty))) H)\/Bm K true x y H Q
 |.same=>fun x y H Q=>(y=.non/\Q (.bl (decide (x=.non))) H)\/(∃b,y=.bl b/\Q (.bl (decide (x=.bl b))) H)
 |.other=>fun x y H Q=>(y=.non/\Q (.bl (!decide (x=.non))) H)\/(∃b,y=.bl b/\Q (.bl (!decide (x=.bl b))) H)
theorem wK (hu:X.A.units + 60<cLine):∀c:Cp,bG X (compareOp (rM c)) (yD X.K c)
 |.eq=>Yr hu
 |.ne=>YG hu
 |.lt=>YC
 |.le=>Yz
 |.gt=>Yt
 |.ge=>Ys
 |.isin=>Yv.or Yu
 |.notin=>YK.or YH
 |.same=>Yx.or Yw
 |.other=>YJ.or Yy
theorem wM {K:Fgx}{A:Pl}{d:D}{v:V}(f:d.flat=true)(h:Is K A H d v):mz v=true:=by
 cases d<;>simp only[D.flat,xa4]at f<;>simp only[Is]at h<;>subst h<;>rfl
theorem Fv {K:Fgx}{A B:Pl}{d e:D}{v w:V}(f:d.flat=true)(g:e.flat=true)(h:Is K A H d v)(h':Is K B H e w):nu v w=D.eq d e:=by
 cases d<;>cases e<;>simp only[D.flat,xa4]at f g<;>simp only[Is]at h h'<;>subst h h'<;>rfl
theorem wN {K:Fgx}{A:Pl}:∀{ds:List D} {vs:List V},ds.all D.flat=true->aC K A H ds vs->vs.all mz=true
  | [],_,_,h=>by rw[show _=[] from h];rfl
  |d::ds,_,f,h=>by
    obtain⟨v,r,rfl,p,q⟩:=h;rw[xbr,xam]at f;rw[xbr,wM f.1 p,wN f.2 q];rfl
theorem lO {K:Fgx}{A B:Pl}{e:D}{w:V}(g:e.flat=true)(h':Is K B H e w):∀{ds:List D} {vs:List V},ds.all D.flat=true->aC K A H ds vs->inV w vs=ds.any fun y=>D.eq y e
  | [],_,_,h=>by rw[show _=[] from h];rfl
  |d::ds,_,f,h=>by
    obtain⟨v,r,rfl,p,q⟩:=h;rw[xbr,xam]at f;have:=lO g h' f.2 q;unfold inV at this ⊢;rw[xb8,xb8,this,Fv f.1 g p h']
theorem z9 {K:Fgx}{A B:Pl}{c:Cp}{d e:D}{v w:V}{b:Bool}{Q:VK}(h:bN c d e=some b)(h1:bM K A H d v)(h2:bM K B H e w)(q:Q (.bl b) H):yD K c v w H Q:=by
  cases c
  case eq=>
    simp only[bN,pN,m_]at h;split at h
    · rename_i hc;cases h;exact⟨A,B,d,e,h1,h2,hc.1,hc.2,q⟩
    · cases h
  case ne=>
    simp only[bN,pN,m_]at h;split at h
    · rename_i hc;cases h;exact⟨A,B,d,e,h1,h2,hc.1,hc.2,q⟩
    · cases h
  case isin=>
    cases e with
    |str j=>
      cases d<;>simp only[bN,cP,m9,eY,pP,pO,reduceCtorEq]at h
      simp only[bM,Is]at h1 h2;subst h1 h2;cases h;exact .inl ⟨_,_,rfl,rfl,q⟩
    |lst xs=>
      have h':(if (d.flat && xs.all D.flat)=true then some (xs.any fun y=>D.eq y d) else none)=some b:=by cases d<;>exact h
      split at h'
      · rename_i hc;rw[xam]at hc;cases h';obtain⟨a,vs,rfl,t,p⟩:=h2;have h1':Is K A H d v:=by cases d<;>first |exact h1 |cases hc.1
        refine .inr ⟨a,vs,rfl,.inl (t),wM hc.1 h1',wN hc.2 p,?_⟩;rw[lO hc.1 h1' hc.2 p];exact q
      · cases h'
    |tup xs=>
      have h':(if (d.flat && xs.all D.flat)=true then some (xs.any fun y=>D.eq y d) else none)=some b:=by cases d<;>exact h
      split at h'
      · rename_i hc;rw[xam]at hc;cases h';obtain⟨a,vs,rfl,t,p⟩:=h2;have h1':Is K A H d v:=by cases d<;>first |exact h1 |cases hc.1
        refine .inr ⟨a,vs,rfl,.inr t,wM hc.1 h1',wN hc.2 p,?_⟩;rw[lO hc.1 h1' hc.2 p];exact q
      · cases h'
    |_=>cases d<;>simp only[bN,cP,m9,eY,pP,pO,reduceCtorEq]at h
  case notin=>
    cases e with
    |str j=>
      cases d<;>simp only[bN,cP,m9,eY,pP,pO,reduceCtorEq]at h
      simp only[bM,Is]at h1 h2;subst h1 h2;cases h;exact .inl ⟨_,_,rfl,rfl,q⟩
    |lst xs=>
      have h':(if (d.flat && xs.all D.flat)=true then some (!xs.any fun y=>D.eq y d) else none)=some b:=by cases d<;>exact h
      split at h'
      · rename_i hc;rw[xam]at hc;cases h';obtain⟨a,vs,rfl,t,p⟩:=h2;have h1':Is K A H d v:=by cases d<;>first |exact h1 |cases hc.1
        refine .inr ⟨a,vs,rfl,.inl (t),wM hc.1 h1',wN hc.2 p,?_⟩;rw[lO hc.1 h1' hc.2 p];exact q
      · cases h'
    |tup xs=>
      have h':(if (d.flat && xs.all D.flat)=true then some (!xs.any fun y=>D.eq y d) else none)=some b:=by cases d<;>exact h
      split at h'
      · rename_i hc;rw[xam]at hc;cases h';obtain⟨a,vs,rfl,t,p⟩:=h2;have h1':Is K A H d v:=by cases d<;>first |exact h1 |cases hc.1
        refine .inr ⟨a,vs,rfl,.inr t,wM hc.1 h1',wN hc.2 p,?_⟩;rw[lO hc.1 h1' hc.2 p];exact q
      · cases h'
    |_=>cases d<;>simp only[bN,cP,m9,eY,pP,pO,reduceCtorEq]at h
  case same=>
    cases d<;>cases e<;>simp only[bN,cP,m9,eY,pP,pO,reduceCtorEq]at h<;>cases h<;>simp only[bM,Is]at h1 h2
    all_goals first
      |(subst h1 h2;first |exact .inr ⟨_,rfl,by rw[Ae];exact q⟩ |exact .inl ⟨rfl,by simpa using q⟩ |exact .inr ⟨_,rfl,by simpa using q⟩)
      |(obtain⟨a,vs,rfl,_⟩:=h1;subst h2;first |exact .inl ⟨rfl,by simpa using q⟩ |exact .inr ⟨_,rfl,by simpa using q⟩)
  case other=>
    cases d<;>cases e<;>simp only[bN,cP,m9,eY,pP,pO,reduceCtorEq]at h<;>cases h<;>simp only[bM,Is]at h1 h2
    all_goals first
      |(subst h1 h2;first |exact .inr ⟨_,rfl,by rw[Ae];exact q⟩ |exact .inl ⟨rfl,by simpa using q⟩ |exact .inr ⟨_,rfl,by simpa using q⟩)
      |(obtain⟨a,vs,rfl,_⟩:=h1;subst h2;first |exact .inl ⟨rfl,by simpa using q⟩ |exact .inr ⟨_,rfl,by simpa using q⟩)
  all_goals
    cases d<;>cases e<;>simp only[bN,cP,m9,eY,pP,pO,reduceCtorEq]at h
    simp only[bM,Is]at h1 h2;subst h1 h2;cases h;exact⟨_,_,rfl,rfl,q⟩
end
inductive Mode where
 |val |bor
def zN (mg:Mgx)(H:Hp)(c:Str)(n:Int)(v:V):Prop:=∃a C dx,v=.ref a/\mg c=some (.ref C)/\H a=some (xo a C dx false)/\
 match dx with
 |none=>n=0
 |some d=>∃fs,H d=some (.xd fs)/\fs.lookup ("at":Str)=some (.int (n - 1))/\n≠0
theorem zN.lt (l:Lt P H P' H')(h:zN mg H c n v):zN mg H' c n v:=by
  obtain⟨a,C,dx,e,m,ea,q⟩:=h;refine⟨a,C,dx,e,m,l.keep _ _ ea (.inl (.inr (.inr (.inl ⟨_,rfl⟩)))),?_⟩
  cases dx with
  |none=>exact q
  |some d=>
    obtain⟨fs,ed,el⟩:=q;exact⟨fs,l.keep _ _ ed (.inl (.inr (.inr (.inr ⟨_,rfl⟩)))),el⟩
noncomputable def K6 (K:Fgx) (mg:Mgx) (P:Pl) (H:Hp) (o:Option Addr) (sv:Option V):Slot->Prop
 |.un=>True
 |.val d=>∃v,sv=some v/\Is K P H d v
 |.own ds=>∃a vs,o=some a/\sv=some (.ref a)/\H a=some (.lst vs)/\aC K P H ds vs
 |.exc c n=>∃v,sv=some v/\zN mg H c n v
structure Ok (K:Fgx)(mg:Mgx)(P0:Pl)(H0:Hp)(P:Pl)(O:List (Option Addr))(H:Hp)(M:Mm)(st:L2.St)(env:Env):Prop where
 hk:Hk K mg P H M
 base:LtE P0 H0 P H
 b0:∀a,P0.bd a->H0 a≠none
 slot:∀(i:Nat) s,env[i]? =some s->K6 K mg P H (O[i]?).join (st[i]?).join s
 own:∀a,some a∈O->P.bd a/\(∀k,k<P.n->P.io k≠a)/\H0 a=none
 inj:∀(i j:Nat) a,O[i]? =some (some a)->O[j]? =some (some a)->i=j
 olen:O.length=env.length
 slen:st.length=env.length
def cA (K:Fgx)(P:Pl)(H:Hp)(m:Mode)(d:D)(v:V):Prop:=match m with
 |.val=>Is K P H d v
 |.bor=>cj K P H d v
inductive Res where
 |v (d:D) |x (c:Str) (n:Int)
abbrev O:=Option (Res×Mm)
abbrev E:=Env->Mm->O
noncomputable def bnd (o:O) (k:D->Mm->O):O:=match o with
 |some (.v d,M)=>k d M
 |some (.x c n,M)=>some (.x c n,M)
 |none=>none
theorem cu (h:bnd o k=some (r,M')):(∃d M,o=some (.v d,M)/\k d M=some (r,M'))\/∃c n,o=some (.x c n,M')/\r=.x c n:=by
 unfold bnd at h;split at h
 ·exact .inl ⟨_,_,rfl,h⟩
 ·cases h;exact .inr ⟨_,_,rfl,rfl⟩
 ·cases h
abbrev XW:=Pl->Hp->Mm->Str->Int->Prop
section
variable {K:Fgx}{mg:Mgx}{P0 P P':Pl}{H0 H H':Hp}{M M':Mm}{Os:List (Option Addr)}{st:L2.St}{env:Env}{d:D}{v:V}{m:Mode}
theorem Is.b (h:Hk K mg P H M)(i:Is K P H d v):cj K P H d v:=by
  cases d with
  |lst ds=>
    obtain⟨a,vs,e,r,q⟩:=i;exact⟨a,vs,e,r.imp (fun⟨n,r⟩=>⟨fun k hk z=>n (z ▸ h.bd k hk),r⟩) id,q⟩
  |_=>exact i
theorem cA.of (h:Hk K mg P H M)(i:Is K P H d v):cA K P H m d v:=by
 cases m with
 |val=>exact i
 |bor=>exact i.b h
theorem cA.b (h:Hk K mg P H M)(i:cA K P H m d v):cj K P H d v:=by
 cases m with
 |val=>exact Is.b h i
 |bor=>exact i
theorem LtE.nc (l:LtE P H P' H')(e:H a=some o)(n:∀k,k<P.n->P.io k≠a):∀k,k<P'.n->P'.io k≠a:=fun k hk z=>by
 rcases xaM k P.n with q |q
 ·rw[l.io k q]at z;exact n k q z
 ·rw[<-z,l.nw k q hk]at e;cases e
theorem cj.lt (l:LtE P H P' H')(h:Hk K mg P H M)(i:cj K P H d v):cj K P' H' d v:=by
  cases d with
  |lst ds=>
    obtain⟨a,vs,e,r,q⟩:=i;refine⟨a,vs,e,r.imp (fun⟨n,r⟩=>?_) id,aC.lt (l.lt h) q⟩;obtain⟨o,eo⟩:=P_ r;refine⟨l.nc eo n,?_⟩;rcases r with r |⟨o',r⟩
    · exact .inl (l.keep _ _ r (.inr n))
    · exact .inr ⟨o',l.keep _ _ r (.inr n)⟩
  |_=>exact Is.lt (l.lt h) i
theorem Ok.next (k:Ok K mg P0 H0 P Os H M st env)(l:LtE P H P' H')(h:Hk K mg P' H' M'):Ok K mg P0 H0 P' Os H' M' st env where
  hk:=h
  base:=k.base.trans l
  b0:=k.b0
  slot:=fun i s e=>by
    have q:=k.slot i s e
    cases s with
    |un=>exact True.intro
    |val d=>
      obtain⟨v,e1,q⟩:=q;exact⟨v,e1,Is.lt (l.lt k.hk) q⟩
    |own ds=>
      obtain ⟨a, vs, e1, e2, e3, q⟩ := q;have ho := k.own a (by
        cases hx:Os[i]? with
        |none=>rw[hx]at e1;cases e1
        |some o=>rw[hx]at e1;cases o with
          |none=>cases e1
          |some b=>cases e1;exact xau hx)
      exact⟨a,vs,e1,e2,l.keep _ _ e3 (.inr ho.2.1),aC.lt (l.lt k.hk) q⟩
    |exc c n=>
      obtain⟨v,e1,q⟩:=q;exact⟨v,e1,q.lt (l.lt k.hk)⟩
  own:=fun a z=>by
    have ho:=k.own a z;refine⟨l.bm a ho.1,?_,ho.2.2⟩;obtain⟨o,eo⟩:∃o,H a=some o:=by
      cases e:H a with
      |none=>exact absurd e (k.hk.here a ho.1)
      |some o=>exact⟨o,rfl⟩
    exact l.nc eo ho.2.1
  inj:=k.inj
  olen:=k.olen
  slen:=k.slen
theorem Hk.same (h:Hk K mg P H M)(s:Same H H'):Hk K mg P H' M:=by
  have l:Lt P H P H':=(LtE.same s).lt h;refine⟨h.n,fun k c e=>?_,h.inj,h.bd,fun a z q=>h.here a z (s.free q)⟩;have:=h.cell k c e
  cases c with
  |lst ds=>
    obtain⟨vs,e1,q⟩:=this;exact⟨vs,s _ _ e1,aC.lt l q⟩
  |obj c fs=>
    obtain⟨C,dx,gs,e1,e2,e3,q⟩:=this;exact⟨C,dx,gs,e1,s _ _ e2,e3,aC.lt l q⟩
  |dct kvs=>
    obtain⟨vs,e1,e2,q⟩:=this;exact⟨vs,s _ _ e1,e2,aC.lt l q⟩
  |dcf kvs=>
    obtain⟨vs,ob,es,ep,e1,eD,e2,q⟩:=this;exact⟨vs,ob,es,ep,s _ _ e1,eD,e2,aC.lt l q⟩
  |fn i caps=>exact kJ.up this l.frz fun _ _ q=>aC.lt l q
  |tbl nm i=>exact mX.up this (fun _ e=>s _ _ e) l.frz
end
noncomputable def RQ (K:Fgx) (mg:Mgx) (Wx:XW) (m:Mode) (P0:Pl) (H0:Hp) (P:Pl) (H:Hp) (M':Mm) (Q:VK):Res->Prop
 |.v d=>∀P' v H',LtE P H P' H'->Hk K mg P' H' M'->cA K P' H' m d v->Q v H'
 |.x c n=>Wx P0 H0 M' c n
theorem b_ (h:PE X e t)(i:∀st H Q,t' st H Q->t st H Q):PE X e t':=fun pins s σ H Q I z=>h pins s σ H Q I (i _ _ _ z)
noncomputable def tE (K:Fgx) (mg:Mgx) (Wx:XW) (m:Mode) (f:E):TE:=fun st H Q=>∃P0 H0 P Os env M r M',Ok K mg P0 H0 P Os H M st env/\f env M=some (r,M')/\RQ K mg Wx m P0 H0 P H M' Q r
structure Fit (X:Cx)(Wx:XW):Prop where
 calm:X.calm=true
 room:X.A.units + 60<cLine
section
variable {X:Cx}{Wx:XW}{m:Mode}
def SE (X:Cx)(Wx:XW)(m:Mode)(e:Expr)(f:E):Prop:=PE X e (tE X.K X.mg Wx m f)
theorem SE.bor (h : SE X Wx .val e f) : SE X Wx m e f := b_ h fun st H Q ⟨P0, H0, P, Os, env, M, r, M', k, e, q⟩ => ⟨P0,H0,P,Os,env,M,r,M',k,e,by
 cases r with
 |v d=>exact fun P' v H' l h i=>q P' v H' l h (cA.of h i)
 |x c n=>exact q⟩
theorem aU {f:E}{K:Fgx}{mg:Mgx}{P0 P:Pl}{H0 H:Hp}{Os:List (Option Addr)}{M M':Mm}{st:L2.St}{env:Env}{r:Res}{Q:VK}(k:Ok K mg P0 H0 P Os H M st env)(e:f env M=some (r,M'))
  (q:RQ K mg Wx m P0 H0 P H M' Q r):tE K mg Wx m f st H Q:=⟨P0,H0,P,Os,env,M,r,M',k,e,q⟩
noncomputable def aj (i:Nat):E:=fun env M=>match env[i]? with
 |some (.val d)=>some (.v d,M)
 |_=>none
def ak (d:D):E:=fun _ M=>some (.v d,M)
theorem pW {α:Type}{l:List (Option α)}{i:Nat}{a:α}(h:(l[i]?).join=some a):l[i]? =some (some a):=by
  cases e:l[i]? with
  |none=>rw[e]at h;cases h
  |some o=>rw[e]at h;cases o with
    |none=>cases h
    |some b=>cases h;rfl
theorem Rj {i:Nat}{x:Str}{pos:Pos}(hN:X.N[i]? =some x)(hv:tQ X.env.scope x)(hd:(x==("__debug__":Str))=false:=by x_go)(hcd:(x==("__classdict__":Str))=false:=by x_go):SE X Wx .val (.Name x pos) (aj i):=by
 refine b_ (Bg hN hv hd hcd) ?_;rintro st H Q ⟨P0,H0,P,Os,env,M,r,M',k,e,q⟩;unfold aj at e;split at e
 ·rename_i d hs;cases e;obtain⟨v,e1,i1⟩:=k.slot i _ hs;exact⟨v,pW e1,q P v H (LtE.refl P H) k.hk i1⟩
 ·cases e
theorem Cr (h:PE X e (tC v))(hd:∀P H,Is X.K P H d v):SE X Wx .val e (ak d):=by
 refine b_ h ?_;rintro st H Q ⟨P0,H0,P,Os,env,M,r,M',k,e,q⟩;cases e;exact q P v H (LtE.refl P H) k.hk (hd P H)
noncomputable def vw (M:Mm) (d:D):D:=match d with
  | .ref k => (match M[k]? with
    |some (.lst ds)=>.lst ds
    |_=>.ref k)
  |d=>d
theorem cj.vw {K:Fgx}{mg:Mgx}{P:Pl}{H:Hp}{M:Mm}{d:D}{v:V}(h:Hk K mg P H M)(i:cj K P H d v):bM K P H (vw M d) v:=by
  cases d with
  |ref k=>
    unfold E3.vw;dsimp only
    split
    · rename_i ds e;obtain⟨i1,i2⟩:k<P.n/\v=.ref (P.io k):=i;obtain⟨vs,e1,q⟩:=h.cell k _ e;exact⟨_,vs,i2,.inl (.inl e1),q⟩
    · exact i
  |lst ds=>exact i.w
  |_=>exact i
noncomputable def s1 (o:D->Option D) (f:E):E:=fun env M=>bnd (f env M) fun d M1=>(o (vw M1 d)).map fun z=>(.v z,M1)
noncomputable def s2 (o:D->D->Option D) (f g:E):E:=fun env M=>bnd (f env M) fun d M1=>bnd (g env M1) fun e M2=>(o (vw M2 d) (vw M2 e)).map fun z=>(.v z,M2)
def gA (K:Fgx)(r:R2)(o:D->D->Option D):Prop:=∀(P:Pl) (H:Hp) (d e z:D) (v w:V) (Q:VK),o d e=some z->bM K P H d v->bM K P H e w->(∀p,H p=none->¬ P.bd p)->(∀u H',Same H H'->Is K P H' z u->Q u H')->r v w H Q
def Dy (K:Fgx)(r:V->Hp->VK->Prop)(o:D->Option D):Prop:=∀(P:Pl) (H:Hp) (d z:D) (v:V) (Q:VK),o d=some z->bM K P H d v->(∀p,H p=none->¬ P.bd p)->(∀u H',Same H H'->Is K P H' z u->Q u H')->r v H Q
theorem Hk.new {K:Fgx}{mg:Mgx}{P:Pl}{H:Hp}{M:Mm}(h:Hk K mg P H M):∀p,H p=none->¬ P.bd p:=fun p hp z=>h.here p z hp
theorem CV {f g:E}{o:D->D->Option D}{r:R2}{st:L2.St}{H:Hp}{Q:VK}(po:gA X.K r o)(h:tE X.K X.mg Wx m (s2 o f g) st H Q):zx r (tE X.K X.mg Wx .bor f) (tE X.K X.mg Wx .bor g) st H Q:=by
 obtain⟨P0,H0,P,Os,env,M,rr,M',k,e,q⟩:=h;unfold s2 at e;rcases cu e with⟨d,M1,e1,e⟩ |⟨c,n,e1,rfl⟩
 ·refine aU k e1 fun P1 v1 H1 l1 h1 i1=>?_;have k1:=k.next l1 h1
  rcases cu e with⟨d2,M2,e2,e⟩ |⟨c,n,e2,rfl⟩
  ·refine aU k1 e2 fun P2 v2 H2 l2 h2 i2=>?_;rw[xad]at e;obtain⟨z,ez,e⟩:=e;cases e;exact po P2 H2 _ _ z v1 v2 Q ez (cj.vw h2 (cj.lt l2 h1 i1)) (cj.vw h2 i2) h2.new fun u H' s i=>q P2 u H' (l1.trans (l2.trans (LtE.same s))) (h2.same s) (cA.of (h2.same s) i)
  ·exact aU k1 e2 q
 ·exact aU k e1 q
theorem zd1 {f:E}{o:D->Option D}{r:V->Hp->VK->Prop}{st:L2.St}{H:Hp}{Q:VK}(po:Dy X.K r o)(h:tE X.K X.mg Wx m (s1 o f) st H Q):RV r (tE X.K X.mg Wx .bor f) st H Q:=by
 obtain⟨P0,H0,P,Os,env,M,rr,M',k,e,q⟩:=h;unfold s1 at e;rcases cu e with⟨d,M1,e1,e⟩ |⟨c,n,e1,rfl⟩
 ·refine aU k e1 fun P1 v1 H1 l1 h1 i1=>?_;rw[xad]at e;obtain⟨z,ez,e⟩:=e;cases e;exact po P1 H1 _ z v1 Q ez (cj.vw h1 i1) h1.new fun u H' s i=>q P1 u H' (l1.trans (LtE.same s)) (h1.same s) (cA.of (h1.same s) i)
 ·exact aU k e1 q
theorem aP (ho:bG X (binaryOp op) r)(po:gA X.K r o)(ha:SE X Wx .bor a f)(hb:SE X Wx .bor b g):SE X Wx m (.BinOp a op b pos) (s2 o f g):=
 b_ (Zf ho ha hb) fun _ _ _ h=>CV po h
theorem Rb (ho:bG X (compareOp op) r)(po:gA X.K r o)(ha:SE X Wx .bor a f)(hb:SE X Wx .bor b g)(hm:behindInMarks op b=false:=by rfl):SE X Wx m (.Compare a [op] [b] pos) (s2 o f g):=
 b_ (Y4 ho ha hb hm) fun _ _ _ h=>CV po h
theorem Rg {a b:Expr}{pos:Pos}{f g:E}{o:D->D->Option D}{r:R2}(ho:lZ X r)(po:gA X.K r o)(ha:SE X Wx .bor a f)(hb:SE X Wx .bor b g)(hs:Dw b:=by exact fun _ _=>rfl):SE X Wx m (.Subscript a b pos) (s2 o f g):=
 b_ (Y_ ho ha hb hs) fun _ _ _ h=>CV po h
noncomputable def TQ (K:Fgx) (mg:Mgx) (Wx:XW) (P0:Pl) (H0:Hp) (P:Pl) (H:Hp) (M':Mm) (Q:Bool->Hp->Prop):Res->Prop
 |.v d=>∃b,d=.bl b/\∀P' H',LtE P H P' H'->Hk K mg P' H' M'->Q b H'
 |.x c n=>Wx P0 H0 M' c n
noncomputable def sX (K:Fgx) (mg:Mgx) (Wx:XW) (f:E):TT:=fun st H Q=>∃P0 H0 P Os env M r M',Ok K mg P0 H0 P Os H M st env/\f env M=some (r,M')/\TQ K mg Wx P0 H0 P H M' Q r
def ST (X:Cx)(Wx:XW)(e:Expr)(f:E):Prop:=PT X e (sX X.K X.mg Wx f)
theorem yx (h:PT X e t)(i:∀st H Q,t' st H Q->t st H Q):PT X e t':=fun pins s σ H Q I z=>h pins s σ H Q I (i _ _ _ z)
theorem gH {f:E}{K:Fgx}{mg:Mgx}{P0 P:Pl}{H0 H:Hp}{Os:List (Option Addr)}{M M':Mm}{st:L2.St}{env:Env}{r:Res}{Q:Bool->Hp->Prop}(k:Ok K mg P0 H0 P Os H M st env)(e:f env M=some (r,M'))
  (q:TQ K mg Wx P0 H0 P H M' Q r):sX K mg Wx f st H Q:=⟨P0,H0,P,Os,env,M,r,M',k,e,q⟩
theorem KC {f:E}{st:L2.St}{H:Hp}{Q:Bool->Hp->Prop}(h:sX X.K X.mg Wx f st H Q):Kr (tE X.K X.mg Wx .val f) st H Q:=by
  obtain⟨P0,H0,P,Os,env,M,r,M',k,e,q⟩:=h;refine aU k e ?_
  cases r with
  |v d=>
    obtain⟨b,rfl,q⟩:=q;exact fun P' v H' l h i=>⟨b,i,q P' H' l h⟩
  |x c n=>exact q
theorem zcx (ho:bG X (compareOp op) r)(po:gA X.K r o)(ha:SE X Wx .bor a f)(hb:SE X Wx .bor b g)(hm:behindInMarks op b=false:=by rfl):ST X Wx (.Compare a [op] [b] pos) (s2 o f g):=
 yx (Z4 ho ha hb hm) fun _ _ _ h=>CV po (KC h)
noncomputable def fL:D->Option Bool
 |.non=>some false
 |.bl b=>some b
 |.int i=>some (i !=0)
 |.str s=>if s.length<=sizeLine then some ((s.length:Int) !=0) else none
 |.lst ds=>some (!ds.isEmpty)
 |.tup ds=>some (!ds.isEmpty)
 |.ref _=>none
def dj (f:E):E:=s1 (fun d=>(fL d).map .bl) f
noncomputable def j5 (f:E):E:=fun env M=>bnd (f env M) fun d M1=>match d with
 |.bl b=>some (.v (.bl (!b)),M1)
 |_=>none
noncomputable def dh (f g:E):E:=fun env M=>bnd (f env M) fun d M1=>match d with
 |.bl b=>if b=true then g env M1 else some (.v (.bl false),M1)
 |_=>none
noncomputable def gh (f g:E):E:=fun env M=>bnd (f env M) fun d M1=>match d with
 |.bl b=>if b=true then some (.v (.bl true),M1) else g env M1
 |_=>none
noncomputable def nZ (c f g:E):E:=fun env M=>bnd (c env M) fun d M1=>match d with
 |.bl b=>if b=true then f env M1 else g env M1
 |_=>none
def SW (X:Cx)(Wx:XW)(e:Expr)(f:E):Prop:=PW X e (sX X.K X.mg Wx f)
theorem Pk (h:PW X e t)(i:∀st H Q,t' st H Q->t st H Q):PW X e t':=fun wh pins s σ H Q I z=>h wh pins s σ H Q I (i _ _ _ z)
theorem J7 (ha:ST X Wx a f):ST X Wx (.UnaryOp .Not a pos) (j5 f):=by
 refine yx (Z5 ha) ?_;rintro st H Q ⟨P0,H0,P,Os,env,M,r,M',k,e,q⟩;unfold j5 at e;rcases cu e with⟨d,M1,e1,e⟩ |⟨c,n,e1,rfl⟩
 ·cases d<;>simp only[reduceCtorEq]at e
  cases e;obtain⟨b,e2,q⟩:=q;cases e2;exact gH k e1 ⟨_,rfl,q⟩
 ·exact gH k e1 q
theorem zb2 (ha:ST X Wx a f):SW X Wx (.BoolOp .And [a] pos) f:=zbE ha
theorem zp (ha:ST X Wx a f):SW X Wx (.BoolOp .Or [a] pos) f:=zcM ha
theorem zcY (ha:ST X Wx a f)(hb:SW X Wx (.BoolOp .And (b::rest) pos) g):SW X Wx (.BoolOp .And (a::b::rest) pos) (dh f g):=by
  refine Pk (zcf ha hb) ?_;rintro st H Q ⟨P0,H0,P,Os,env,M,r,M',k,e,q⟩;unfold dh at e;rcases cu e with⟨d,M1,e1,e⟩ |⟨c,n,e1,rfl⟩
  · cases d<;>simp only[reduceCtorEq]at e
    rename_i b;refine gH k e1 ⟨b,rfl,fun P1 H1 l1 h1=>?_⟩
    cases b with
    |true=>
      rw[xab rfl]at e ⊢;refine gH (k.next l1 h1) e ?_
      cases r with
      |v d=>obtain⟨b,e2,q⟩:=q;exact⟨b,e2,fun P' H' l h=>q P' H' (l1.trans l) h⟩
      |x c n=>exact q
    |false=>
      rw[xai (by decide)]at e ⊢;cases e;obtain⟨b,e2,q⟩:=q;cases e2;exact q P1 H1 l1 h1
  · exact gH k e1 q
theorem sW (ha:ST X Wx a f)(hb:SW X Wx (.BoolOp .Or (b::rest) pos) g):SW X Wx (.BoolOp .Or (a::b::rest) pos) (gh f g):=by
  refine Pk (zd4 ha hb) ?_;rintro st H Q ⟨P0,H0,P,Os,env,M,r,M',k,e,q⟩;unfold gh at e;rcases cu e with⟨d,M1,e1,e⟩ |⟨c,n,e1,rfl⟩
  · cases d<;>simp only[reduceCtorEq]at e
    rename_i b;refine gH k e1 ⟨b,rfl,fun P1 H1 l1 h1=>?_⟩
    cases b with
    |false=>
      rw[xai (by decide)]at e ⊢;refine gH (k.next l1 h1) e ?_
      cases r with
      |v d=>obtain⟨b,e2,q⟩:=q;exact⟨b,e2,fun P' H' l h=>q P' H' (l1.trans l) h⟩
      |x c n=>exact q
    |true=>
      rw[xab rfl]at e ⊢;cases e;obtain⟨b,e2,q⟩:=q;cases e2;exact q P1 H1 l1 h1
  · exact gH k e1 q
theorem SW.st (h:SW X Wx e f):ST X Wx e f:=h.pt
end
section
variable {X:Cx}{Wx:XW}{m:Mode}
theorem RQ.imp {K:Fgx}{mg:Mgx}{P0 P P1:Pl}{H0 H H1:Hp}{M':Mm}{Q:VK}{r:Res}(l:LtE P H P1 H1)(q:RQ K mg Wx m P0 H0 P H M' Q r):RQ K mg Wx m P0 H0 P1 H1 M' Q r:=by
 cases r with
 |v d=>exact fun P' v H' l' h i=>q P' v H' (l.trans l') h i
 |x c n=>exact q
theorem rE (ha:SE X Wx m a f):SE X Wx m (.BoolOp op [a] pos) f:=Ze ha
theorem yW (ha:SE X Wx .val a f)(hb:SE X Wx m (.BoolOp .And (b::rest) pos) g):SE X Wx m (.BoolOp .And (a::b::rest) pos) (dh f g):=by
  refine b_ (YS ha hb) ?_;rintro st H Q ⟨P0,H0,P,Os,env,M,r,M',k,e,q⟩;unfold dh at e;rcases cu e with⟨d,M1,e1,e⟩ |⟨c,n,e1,rfl⟩
  · cases d<;>simp only[reduceCtorEq]at e
    rename_i b;refine aU k e1 fun P1 v1 H1 l1 h1 i1=>⟨b,i1,?_⟩
    cases b with
    |true=>
      rw[xab rfl]at e ⊢;exact aU (k.next l1 h1) e (RQ.imp l1 q)
    |false=>
      rw[xai (by decide)]at e ⊢;cases e;exact q P1 _ H1 l1 h1 (cA.of h1 (show Is _ _ _ (.bl false) _ from rfl))
  · exact aU k e1 q
theorem JV (ha:SE X Wx .val a f)(hb:SE X Wx m (.BoolOp .Or (b::rest) pos) g):SE X Wx m (.BoolOp .Or (a::b::rest) pos) (gh f g):=by
  refine b_ (Zg ha hb) ?_;rintro st H Q ⟨P0,H0,P,Os,env,M,r,M',k,e,q⟩;unfold gh at e;rcases cu e with⟨d,M1,e1,e⟩ |⟨c,n,e1,rfl⟩
  · cases d<;>simp only[reduceCtorEq]at e
    rename_i b;refine aU k e1 fun P1 v1 H1 l1 h1 i1=>⟨b,i1,?_⟩
    cases b with
    |false=>
      rw[xai (by decide)]at e ⊢;exact aU (k.next l1 h1) e (RQ.imp l1 q)
    |true=>
      rw[xab rfl]at e ⊢;cases e;exact q P1 _ H1 l1 h1 (cA.of h1 (show Is _ _ _ (.bl true) _ from rfl))
  · exact aU k e1 q
theorem zcB (hc:ST X Wx c t)(ha:SE X Wx m a f)(hb:SE X Wx m b g):SE X Wx m (.IfExp c a b pos) (nZ t f g):=by
  refine b_ (Y8 hc ha hb) ?_;rintro st H Q ⟨P0,H0,P,Os,env,M,r,M',k,e,q⟩;unfold nZ at e;rcases cu e with⟨d,M1,e1,e⟩ |⟨c,n,e1,rfl⟩
  · cases d<;>simp only[reduceCtorEq]at e
    rename_i b;refine gH k e1 ⟨b,rfl,fun P1 H1 l1 h1=>?_⟩
    cases b with
    |true=>
      rw[xab rfl]at e ⊢;exact aU (k.next l1 h1) e (RQ.imp l1 q)
    |false=>
      rw[xai (by decide)]at e ⊢;exact aU (k.next l1 h1) e (RQ.imp l1 q)
  · exact gH k e1 q
theorem R3 {K:Fgx}{P:Pl}{H:Hp}{d:D}{v:V}{b:Bool}(h:fL d=some b)(i:bM K P H d v):mY K v H b:=by
  cases d with
  |non=>have e:v=.non:=i;subst e;cases h;rfl
  |bl c=>have e:v=.bl c:=i;subst e;cases h;rfl
  |int c=>have e:v=.int c:=i;subst e;cases h;rfl
  |str c=>
    have e:v=.str c:=i;subst e;simp only[fL]at h;split at h
    · rename_i hl;cases h;exact⟨hl,rfl⟩
    · cases h
  |lst ds=>
    obtain⟨a,vs,rfl,r,q⟩:=i;cases h;refine .inl ⟨vs,r,?_⟩
    cases ds with
    |nil=>rw[show vs=[] from q];rfl
    |cons d ds=>obtain⟨w,r',rfl,_⟩:=q;rfl
  |tup ds=>
    obtain⟨a,vs,rfl,r,q⟩:=i;cases h;refine .inr (.inl ⟨vs,r,?_⟩)
    cases ds with
    |nil=>rw[show vs=[] from q];rfl
    |cons d ds=>obtain⟨w,r',rfl,_⟩:=q;rfl
  |ref k=>cases h
theorem rG (ha:SE X Wx .bor a f)(he:∀whole,isTrue a X.env whole=(do let v <-whole;standAt a.pos;holding [v] (truthy v)):=by exact fun _=>rfl):ST X Wx a (dj f):=by
 refine yx (Z6 ha he) ?_;rintro st H Q ⟨P0,H0,P,Os,env,M,r,M',k,e,q⟩;unfold dj s1 at e;rcases cu e with⟨d,M1,e1,e⟩ |⟨c,n,e1,rfl⟩
 ·rw[xad]at e;obtain⟨z,ez,e⟩:=e;cases e;rw[xad]at ez;obtain⟨b,eb,rfl⟩:=ez;obtain⟨b',e2,q⟩:=q;cases e2;exact aU k e1 fun P1 v1 H1 l1 h1 i1=>⟨b,R3 eb (cj.vw h1 i1),q P1 H1 l1 h1⟩
 ·exact aU k e1 q
theorem Zd (ha:PE X a ta):PE X (.UnaryOp .Not a pos) (fun σ H Q=>ta σ H fun x H1=>∃k,mY X.K x H1 k/\Q (.bl (!k)) H1):=by
 intro pins s σ H Q I h;refine UnaryOp_ (aN (ha pins s σ H _ I h) fun v s1 ⟨x, H1, I1, r1, k, tv, q⟩ => ?_);exact not_of (aN (R4 pins s1 σ H1 x v (fun b H'=>b=k/\H'=H1) I1 r1 ⟨k,tv,rfl,rfl⟩) fun b s2 ⟨H2,I2,e1,e2⟩=>by
  subst e1 e2;exact⟨.bl (!b),H2,I2,rfl,q⟩)
def Bp (f:E):E:=s1 (fun d=>(fL d).map fun b=>.bl (!b)) f
theorem zcT (ha:SE X Wx .bor a f):SE X Wx m (.UnaryOp .Not a pos) (Bp f):=by
 refine b_ (Zd ha) ?_;rintro st H Q ⟨P0,H0,P,Os,env,M,r,M',k,e,q⟩;unfold Bp s1 at e;rcases cu e with⟨d,M1,e1,e⟩ |⟨c,n,e1,rfl⟩
 ·rw[xad]at e;obtain⟨z,ez,e⟩:=e;cases e;rw[xad]at ez;obtain⟨b,eb,rfl⟩:=ez;exact aU k e1 fun P1 v1 H1 l1 h1 i1=>⟨b,R3 eb (cj.vw h1 i1),q P1 _ H1 l1 h1 (cA.of h1 (show Is _ _ _ (.bl _) _ from rfl))⟩
 ·exact aU k e1 q
inductive ResA where
 |v (ds:List D) |x (c:Str) (n:Int)
abbrev EA:=Env->Mm->Option (ResA×Mm)
def au:EA:=fun _ M=>some (.v [],M)
noncomputable def aA (f:E) (fs:EA):EA:=fun env M=>match f env M with
  | some (.v d, M1) => (match fs env M1 with
    |some (.v ds,M2)=>some (.v (d::ds),M2)
    |some (.x c n,M2)=>some (.x c n,M2)
    |none=>none)
  |some (.x c n,M1)=>some (.x c n,M1)
  |none=>none
noncomputable def cD (o:Option (ResA×Mm)) (k:List D->Mm->O):O:=match o with
 |some (.v ds,M)=>k ds M
 |some (.x c n,M)=>some (.x c n,M)
 |none=>none
theorem m8 (h:cD o k=some (r,M')):(∃ds M,o=some (.v ds,M)/\k ds M=some (r,M'))\/∃c n,o=some (.x c n,M')/\r=.x c n:=by
 unfold cD at h;split at h
 ·exact .inl ⟨_,_,rfl,h⟩
 ·cases h;exact .inr ⟨_,_,rfl,rfl⟩
 ·cases h
noncomputable def cC (K:Fgx) (P:Pl) (H:Hp) (m:Mode):List D->List V->Prop
 | [],vs=>vs=[]
 |d::ds,vs=>∃v ws,vs=v::ws/\cA K P H m d v/\cC K P H m ds ws
theorem cC.iss {K:Fgx}{P:Pl}{H:Hp}:∀{ds:List D} {vs:List V},cC K P H .val ds vs->aC K P H ds vs
  | [],_,h=>h
  |_::_,_,h=>by
    obtain⟨v,ws,e,p,q⟩:=h;exact⟨v,ws,e,p,cC.iss q⟩
noncomputable def AQ (K:Fgx) (mg:Mgx) (Wx:XW) (m:Mode) (P0:Pl) (H0:Hp) (P:Pl) (H:Hp) (M':Mm) (Q:List V->Hp->Prop):ResA->Prop
 |.v ds=>∀P' vs H',LtE P H P' H'->Hk K mg P' H' M'->cC K P' H' m ds vs->Q vs H'
 |.x c n=>Wx P0 H0 M' c n
noncomputable def tAs (K:Fgx) (mg:Mgx) (Wx:XW) (m:Mode) (fs:EA):TA:=fun st H Q=>∃P0 H0 P Os env M r M',Ok K mg P0 H0 P Os H M st env/\fs env M=some (r,M')/\AQ K mg Wx m P0 H0 P H M' Q r
def SA (X:Cx)(Wx:XW)(m:Mode)(es:List Expr)(fs:EA):Prop:=PA X es (tAs X.K X.mg Wx m fs)
theorem O1 (h:PA X es t)(w:∀σ H Q,t' σ H Q->t σ H Q):PA X es t':=fun pos pins s σ H Q I hw=>h pos pins s σ H Q I (w σ H Q hw)
theorem aK:SA X Wx m [] au:=by
 refine O1 p8 ?_;rintro st H Q ⟨P0,H0,P,Os,env,M,r,M',k,e,q⟩;cases e;exact q P [] H (LtE.refl P H) k.hk rfl
theorem aD {e:Expr}{es:List Expr}{f:E}{fs:EA}(ha:SE X Wx m e f)(hr:SA X Wx m es fs)(hs:starEach (e::es) X.env=(false,eval e X.env)::starEach es X.env:=by rfl):SA X Wx m (e::es) (aA f fs):=by
 refine O1 (nR ha hr hs) ?_;rintro st H Q ⟨P0,H0,P,Os,env,M,r,M',k,e,q⟩;unfold aA at e;split at e
 ·rename_i d M1 e1;refine aU k e1 fun P1 v1 H1 l1 h1 i1=>?_;split at e
  ·rename_i ds M2 e2;cases e;refine⟨P0,H0,P1,Os,env,M1,_,_,k.next l1 h1,e2,fun P2 vs H2 l2 h2 i2=>q P2 _ H2 (l1.trans l2) h2 ⟨v1,vs,rfl,?_,i2⟩⟩
   cases m with
   |val=>exact Is.lt (l2.lt h1) i1
   |bor=>exact cj.lt l2 h1 i1
  ·rename_i c n M2 e2;cases e;exact⟨P0,H0,P1,Os,env,M1,_,_,k.next l1 h1,e2,q⟩
  ·cases e
 ·rename_i c n M1 e1;cases e;exact aU k e1 q
 ·cases e
noncomputable def sN (o:List D->Option D) (fs:EA):E:=fun env M=>cD (fs env M) fun ds M1=>(o (ds.map (vw M1))).map fun z=>(.v z,M1)
noncomputable def mQ (K:Fgx) (P:Pl) (H:Hp):List D->List V->Prop
 | [],vs=>vs=[]
 |d::ds,vs=>∃v ws,vs=v::ws/\bM K P H d v/\mQ K P H ds ws
theorem cC.w {K:Fgx}{mg:Mgx}{P:Pl}{H:Hp}{M:Mm}(h:Hk K mg P H M):∀{ds:List D} {vs:List V},cC K P H m ds vs->mQ K P H (ds.map (vw M)) vs
  | [],_,q=>q
  |d::ds,_,q=>by
    obtain⟨v,ws,e,p,q⟩:=q;exact⟨v,ws,e,cj.vw h (p.b h),cC.w h q⟩
def lD (K:Fgx)(r:List V->Hp->VK->Prop)(o:List D->Option D):Prop:=∀(P:Pl) (H:Hp) (ds:List D) (z:D) (vs:List V) (Q:VK),o ds=some z->mQ K P H ds vs->(∀p,H p=none->¬ P.bd p)->(∀u H',Same H H'->Is K P H' z u->Q u H')->r vs H Q
theorem Q_ (h:∀t,PA X (e::es) t->PE X ex (Kd r t))(po:lD X.K r o)(ha:SA X Wx .bor (e::es) fs):SE X Wx m ex (sN o fs):=by
 refine b_ (h _ ha) ?_;rintro st H Q ⟨P0,H0,P,Os,env,M,r,M',k,e,q⟩;unfold sN at e;rcases m8 e with⟨ds,M1,e1,e⟩ |⟨c,n,e1,rfl⟩
 ·rw[xad]at e;obtain⟨z,ez,e⟩:=e;cases e;exact⟨P0,H0,P,Os,env,M,_,_,k,e1,fun P1 vs H1 l1 h1 i1=>po P1 H1 _ z vs Q ez (cC.w h1 i1) h1.new fun u H' s i=>q P1 u H' (l1.trans (LtE.same s)) (h1.same s) (cA.of (h1.same s) i)⟩
 ·exact⟨P0,H0,P,Os,env,M,_,_,k,e1,q⟩
noncomputable def bV (fs:EA):E:=fun env M=>cD (fs env M) fun ds M1=>if ds.length<=sizeLine then some (.v (.tup ds),M1) else none
theorem gG {es:List Expr}{x1:Nat}{pos:Pos}{fs:EA}(ha:SA X Wx .val es fs):SE X Wx m (.Tuple es x1 pos) (bV fs):=by
 refine b_ (Zj ha) ?_;rintro st H Q ⟨P0,H0,P,Os,env,M,r,M',k,e,q⟩;unfold bV at e;rcases m8 e with⟨ds,M1,e1,e⟩ |⟨c,n,e1,rfl⟩
 ·split at e
  ·rename_i hl;cases e;refine⟨P0,H0,P,Os,env,M,_,_,k,e1,fun P1 vs H1 l1 h1 i1=>⟨by rw[i1.iss.len];exact hl,fun p hp=>?_⟩⟩;have s:=o_ (o:=.tup vs) hp;exact q P1 _ _ (l1.trans (LtE.same s)) (h1.same s) (cA.of (h1.same s) ⟨p,vs,rfl,.inl (.inl bR),aC.lt ((LtE.same s).lt h1) i1.iss⟩)
  ·cases e
 ·exact⟨P0,H0,P,Os,env,M,_,_,k,e1,q⟩
noncomputable def NQ (K:Fgx) (mg:Mgx) (Wx:XW) (P0:Pl) (H0:Hp) (P:Pl) (H:Hp) (M':Mm) (Q:VK):Res->Prop
 |.v d=>∃ds,d=.lst ds/\∀P' a vs H',LtE P H P' H'->Hk K mg P' H' M'->H a=none->P'.bd a->(∀k,k<P'.n->P'.io k≠a)->H' a=some (.lst vs)->aC K P' H' ds vs->Q (.ref a) H'
 |.x c n=>Wx P0 H0 M' c n
noncomputable def tN (K:Fgx) (mg:Mgx) (Wx:XW) (f:E):TE:=fun st H Q=>∃P0 H0 P Os env M r M',Ok K mg P0 H0 P Os H M st env/\f env M=some (r,M')/\NQ K mg Wx P0 H0 P H M' Q r
def SN (X:Cx)(Wx:XW)(e:Expr)(f:E):Prop:=PE X e (tN X.K X.mg Wx f)
def Pl.bar (P:Pl)(p:Addr):Pl:={P with bd:=fun a=>P.bd a\/a=p}
theorem zW {K:Fgx}{mg:Mgx}{P:Pl}{H:Hp}{M:Mm}{p:Addr}{vs:List V}(h:Hk K mg P H M)(hp:H p=none):LtE P H (P.bar p) (upd H p (.lst vs))/\Hk K mg (P.bar p) (upd H p (.lst vs)) M/\∀k,k<P.n->P.io k≠p:=by
  have s:=o_ (o:=.lst vs) hp;have nc:∀k,k<P.n->P.io k≠p:=fun k hk z=>h.here _ (h.bd k hk) (z ▸ hp);have l:LtE P H (P.bar p) (upd H p (.lst vs)):=⟨xah _,fun _ _=>rfl,fun a z=>Or.imp (fun q=>q) (fun(q:a=p)=>by rw[q];exact hp) z,fun a z=>.inl z,fun a o e _=>s a o e,fun a z=>s.free z,fun k h1 h2=>absurd h1 (xdK.mpr h2)⟩;have lt:=l.lt h;refine⟨l,⟨h.n,fun k c e=>?_,h.inj,fun k hk=>.inl (h.bd k hk),fun a z q=>?_⟩,nc⟩
  · have:=h.cell k c e
    cases c with
    |lst ds=>
      obtain⟨vs,e1,q⟩:=this;exact⟨vs,s _ _ e1,aC.lt lt q⟩
    |obj c fs=>
      obtain⟨C,dx,gs,e1,e2,e3,q⟩:=this;exact⟨C,dx,gs,e1,s _ _ e2,e3,aC.lt lt q⟩
    |dct kvs=>
      obtain⟨vs,e1,e2,q⟩:=this;exact⟨vs,s _ _ e1,e2,aC.lt lt q⟩
    |dcf kvs=>
      obtain⟨vs,ob,es,ep,e1,eD,e2,q⟩:=this;exact⟨vs,ob,es,ep,s _ _ e1,eD,e2,aC.lt lt q⟩
    |fn i caps=>exact kJ.up this lt.frz fun _ _ q=>aC.lt lt q
    |tbl nm i=>exact mX.up this (fun _ e=>s _ _ e) lt.frz
  · rcases z with z |z
    · exact h.here a z (s.free q)
    · subst z;rw[bR]at q;cases q
theorem SN.se (h:SN X Wx e f)(hf:∀env M r M',f env M=some (.v r,M')->∃ds,r=.lst ds):SE X Wx .val e f:=by
  refine b_ h ?_;rintro st H Q ⟨P0,H0,P,Os,env,M,r,M',k,e,q⟩;refine⟨P0,H0,P,Os,env,M,r,M',k,e,?_⟩
  cases r with
  |x c n=>exact q
  |v d=>
    obtain⟨ds,rfl⟩:=hf _ _ _ _ e;refine⟨ds,rfl,fun P' a vs H' l h ha ba nc ea is=>q (P'.less (· ≠a)) _ H' ?_ ?_ ⟨a,vs,rfl,.inl ⟨fun z=>z.2 rfl,.inl ea⟩,aC.less is⟩⟩
    · exact⟨l.n,l.io,fun b z=>l.bd b z.1,fun b z=>⟨l.bm b z,fun q=>k.hk.here b z (q ▸ ha)⟩,l.keep,l.sure,l.nw⟩
    · refine⟨h.n,fun j c e=>?_,h.inj,fun j hj=>⟨h.bd j hj,nc j hj⟩,fun b z=>h.here b z.1⟩;have:=h.cell j c e
      cases c with
      |lst ds=>
        obtain⟨vs,e1,q⟩:=this;exact⟨vs,e1,aC.less q⟩
      |obj c fs=>
        obtain⟨C,dx,gs,e1,e2,e3,q⟩:=this;exact⟨C,dx,gs,e1,e2,e3,aC.less q⟩
      |dct kvs=>
        obtain⟨vs,e1,e2,q⟩:=this;exact⟨vs,e1,e2,aC.less q⟩
      |dcf kvs=>
        obtain⟨vs,ob,es,ep,e1,eD,e2,q⟩:=this;exact⟨vs,ob,es,ep,e1,eD,e2,aC.less q⟩
      |fn i caps=>exact kJ.up this (fun _ _ _ z=>z) fun _ _ q=>aC.less q
      |tbl nm i=>exact this
noncomputable def bU (fs:EA):E:=fun env M=>cD (fs env M) fun ds M1=>if ds.length<=sizeLine then some (.v (.lst ds),M1) else none
theorem lq {es:List Expr}{pos:Pos}{fs:EA}(ha:SA X Wx .val es fs):SN X Wx (.List es pos) (bU fs):=by
 refine b_ (Za ha) ?_;rintro st H Q ⟨P0,H0,P,Os,env,M,r,M',k,e,q⟩;unfold bU at e;rcases m8 e with⟨ds,M1,e1,e⟩ |⟨c,n,e1,rfl⟩
 ·split at e
  ·rename_i hl;cases e;obtain⟨ds',e',q⟩:=q;cases e';refine⟨P0,H0,P,Os,env,M,_,_,k,e1,fun P1 vs H1 l1 h1 i1=>⟨by rw[i1.iss.len];exact hl,fun p hp=>?_⟩⟩;obtain⟨l2,h2,nc⟩:=zW (vs:=vs) h1 hp;exact q (P1.bar p) p vs _ (l1.trans l2) h2 (l1.sure p hp) (.inr rfl) nc bR (aC.lt (l2.lt h1) i1.iss)
  ·cases e
 ·exact⟨P0,H0,P,Os,env,M,_,_,k,e1,q⟩
theorem lst_is:∀env M r M',bU fs env M=some (.v r,M')->∃ds,r=.lst ds:=fun env M r M' e=>by
 unfold bU at e;rcases m8 e with⟨ds,M1,e1,e⟩ |⟨c,n,e1,e⟩
 ·split at e
  ·cases e;exact⟨_,rfl⟩
  ·cases e
 ·cases e
end
inductive Out where
 |nx (env:Env) |bk (env:Env) |ct (env:Env) |rt (d:D) |ex (c:Str) (n:Int)
abbrev OS:=Option (Out×Mm)
abbrev S:=Env->Mm->OS
noncomputable def Post (K:Fgx) (mg:Mgx) (Wx:XW) (P0:Pl) (H0:Hp) (P:Pl) (H:Hp) (M':Mm) (D:Ends):Out->Prop
 |.nx env=>∀P' Os' H' st',Lt P H P' H'->Ok K mg P0 H0 P' Os' H' M' st' env->D.nx st' H'
 |.bk env=>∀P' Os' H' st',Lt P H P' H'->Ok K mg P0 H0 P' Os' H' M' st' env->D.bk st' H'
 |.ct env=>∀P' Os' H' st',Lt P H P' H'->Ok K mg P0 H0 P' Os' H' M' st' env->D.ct st' H'
 |.rt d=>∀P' v H',LtE P0 H0 P' H'->Hk K mg P' H' M'->Is K P' H' d v->D.rt v H'
 |.ex c n=>Wx P0 H0 M' c n
noncomputable def tS (K:Fgx) (mg:Mgx) (Wx:XW) (f:S):TS:=fun D st H=>∃P0 H0 P Os env M out M',Ok K mg P0 H0 P Os H M st env/\f env M=some (out,M')/\Post K mg Wx P0 H0 P H M' D out
def SS (X:Cx)(Wx:XW)(s:Stmt)(f:S):Prop:=PS X s (tS X.K X.mg Wx f)
def SB (X:Cx)(Wx:XW)(s:List Stmt)(f:S):Prop:=gw X s (tS X.K X.mg Wx f)
noncomputable def bY (o:O) (k:D->Mm->OS):OS:=match o with
 |some (.v d,M)=>k d M
 |some (.x c n,M)=>some (.ex c n,M)
 |none=>none
theorem kO (h:bY o k=some (r,M')):(∃d M,o=some (.v d,M)/\k d M=some (r,M'))\/∃c n,o=some (.x c n,M')/\r=.ex c n:=by
 unfold bY at h;split at h
 ·exact .inl ⟨_,_,rfl,h⟩
 ·cases h;exact .inr ⟨_,_,rfl,rfl⟩
 ·cases h
section
variable {K:Fgx}{mg:Mgx}{Wx:XW}{P0 P P' P1:Pl}{H0 H H' H1:Hp}{M M':Mm}{Os:List (Option Addr)}{st:L2.St}{env:Env}{d:D}{v:V}{i:Nat}
theorem yZ (l:List (Option α))(i j:Nat)(x:Option α)(hi:i<l.length):((l.set i x)[j]?).join=if i=j then x else(l[j]?).join:=by
 rw[xaZ]
 by_cases h:i=j
 ·subst h;rw[xab rfl,xab hi,xab rfl];rfl
 ·rw[xai h,xai h]
theorem Ok.asg (k:Ok K mg P0 H0 P Os H M st env)(hi:i<env.length)(h:Is K P H d v):Ok K mg P0 H0 P (Os.set i none) H M (st.set i (some v)) (env.set i (.val d)) where
 hk:=k.hk
 base:=k.base
 b0:=k.b0
 slot:=fun j s e=>by
  rw[yZ _ _ _ _ (by rw[k.olen];exact hi),yZ _ _ _ _ (by rw[k.slen];exact hi)];rw[xaZ]at e;split at e
  ·rename_i ij;subst ij;cases e;rw[xab rfl,xab rfl];exact⟨v,rfl,h⟩
  ·rename_i ij;rw[xai ij,xai ij];exact k.slot j s e
 own := fun a h => k.own a (by
  rcases xde h with h |h
  ·exact h
  ·cases h)
 inj:=fun j l a e1 e2=>by
  rw[xaZ]at e1 e2;split at e1
  ·split at e1<;>cases e1
  ·split at e2
   ·split at e2<;>cases e2
   ·exact k.inj j l a e1 e2
 olen:=by rw[xaI,xaI,k.olen]
 slen:=by rw[xaI,xaI,k.slen]
theorem Ok.here (k:Ok K mg P0 H0 P Os H M st env)(h:some a∈Os):H a≠none:=k.hk.here a (k.own a h).1
theorem Ok.mine (k0:Ok K mg P0 H0 P Os H M st env)(l:LtE P H P' H')(hk:Hk K mg P' H' M')(hi:i<env.length)(ha:H a=none)(ba:P'.bd a)(nc:∀j,j<P'.n->P'.io j≠a)(e:H' a=some (.lst vs))(h:aC K P' H' ds vs):
  Ok K mg P0 H0 P' (Os.set i (some a)) H' M' (st.set i (some (.ref a))) (env.set i (.own ds)):=by
 have k:=k0.next l hk
 have nO:∀j,Os[j]? ≠some (some a):=fun j z=>k0.here (xau z) ha;exact {
  hk:=k.hk
  base:=k.base
  b0:=k.b0
  slot:=fun j s e'=>by
   rw[yZ _ _ _ _ (by rw[k.olen];exact hi),yZ _ _ _ _ (by rw[k.slen];exact hi)];rw[xaZ]at e';split at e'
   ·rename_i ij;subst ij;cases e';rw[xab rfl,xab rfl];exact⟨a,vs,rfl,rfl,e,h⟩
   ·rename_i ij;rw[xai ij,xai ij];exact k.slot j s e'
  own:=fun b hb=>by
   rcases xde hb with hb |hb
   ·exact k.own b hb
   ·cases hb;exact⟨ba,nc,k0.base.sure a ha⟩
  inj:=fun j l b e1 e2=>by
   rw[xaZ]at e1 e2;split at e1
   ·split at e1
    ·cases e1;split at e2
     ·rename_i z1 _ z2;exact z1.symm.trans z2
     ·exact absurd e2 (nO l)
    ·cases e1
   ·split at e2
    ·split at e2
     ·cases e2;exact absurd e1 (nO j)
     ·cases e2
    ·exact k.inj j l b e1 e2
  olen:=by rw[xaI,xaI,k.olen]
  slen:=by rw[xaI,xaI,k.slen]}
theorem vf (b : P.bd a) (e : H a = some o) (nf : ¬ Fx o) : Lt P H P (upd H a o') := ⟨xah _,fun _ _=>rfl,fun _ z=>.inl z,fun c u ec z=>by
  by_cases h:c=a
  ·subst h;rw[e]at ec;cases ec;exact(z.elim nf fun n=>n b).elim
  ·rw[aQ h];exact ec,fun c z=>by
  by_cases h:c=a
  ·subst h;rw[bR]at z;cases z
  ·rw[aQ h]at z;exact z⟩
theorem GQ:¬ Fx (.lst vs):=fun z=>by rcases z with⟨_,z⟩ |⟨_,_,z⟩ |⟨_,z⟩ |⟨_,z⟩<;>cases z
theorem W4:¬ Fx (.ins C dx gs):=fun z=>by rcases z with⟨_,z⟩ |⟨_,_,z⟩ |⟨_,z⟩ |⟨_,z⟩<;>cases z
theorem tD.lt (l:Lt P H P' H')(e:∀o,H a=some o->H' a=some o)(h:tD K mg P H a c):tD K mg P' H' a c:=by
  cases c with
  |lst ds=>
    obtain⟨vs,e1,q⟩:=h;exact⟨vs,e _ e1,aC.lt l q⟩
  |obj c fs=>
    obtain⟨C,dx,gs,e1,e2,e3,q⟩:=h;exact⟨C,dx,gs,e1,e _ e2,e3,aC.lt l q⟩
  |dct kvs=>
    obtain⟨vs,e1,e2,q⟩:=h;exact⟨vs,e _ e1,e2,aC.lt l q⟩
  |dcf kvs=>
    obtain⟨vs,ob,es,ep,e1,eD,e2,q⟩:=h;exact⟨vs,ob,es,ep,e _ e1,eD,e2,aC.lt l q⟩
  |fn i caps=>exact kJ.up h l.frz fun _ _ q=>aC.lt l q
  |tbl nm i=>exact mX.up h e l.frz
theorem Ok.chg (k:Ok K mg P0 H0 P Os H M st env)(hi:env[i]? =some (.own ds))(ho:Os[i]? =some (some a))(e:H a=some (.lst vs))(h:aC K P H ds' vs'):
    Lt P H P (upd H a (.lst vs'))/\Ok K mg P0 H0 P Os (upd H a (.lst vs')) M st (env.set i (.own ds')):=by
  obtain⟨b1,b2,b3⟩:=k.own a (xau ho);have l:Lt P H P (upd H a (.lst vs')):=vf b1 e GQ;have ilt:i<env.length:=(xak.mp hi).1;refine⟨l,?_⟩;exact {
    hk:=⟨k.hk.n,fun j c ej=>(k.hk.cell j c ej).lt l fun o eo=>by rw[aQ (b2 j (by rw[k.hk.n];exact(xak.mp ej).1))];exact eo,k.hk.inj,k.hk.bd,fun c z q=>k.hk.here c z (l.sure c q)⟩
    base := ⟨k.base.n,k.base.io,k.base.bd,k.base.bm,fun c o ec n=>by
      have:=k.base.keep c o ec n;rw[aQ (fun z=>by subst z;rw[b3]at ec;cases ec)];exact this,fun c z=>k.base.sure c (l.sure c z),k.base.nw⟩
    b0:=k.b0
    slot:=fun j s ej=>by
      rw[xaZ]at ej;split at ej
      · rename_i ij;subst ij;cases ej;obtain⟨a',vs0,e1,e2,e3,q⟩:=k.slot i _ hi;rw[ho]at e1;cases e1;exact⟨a,vs',by rw[ho];rfl,e2,bR,aC.lt l h⟩
      · rename_i ij;have q:=k.slot j s ej
        cases s with
        |un=>exact True.intro
        |val d=>obtain⟨v,e1,q⟩:=q;exact⟨v,e1,Is.lt l q⟩
        |own es=>
          obtain⟨a',ws,e1,e2,e3,q⟩:=q;refine⟨a',ws,e1,e2,?_,aC.lt l q⟩;rw[aQ (fun z=>ij (k.inj i j a ho (by rw[<-z];exact pW e1)))];exact e3
        |exc c n=>obtain⟨v,e1,q⟩:=q;exact⟨v,e1,q.lt l⟩
    own:=k.own
    inj:=k.inj
    olen:=by rw[xaI,k.olen]
    slen:=by rw[xaI,k.slen]}
theorem Hk.set (h:Hk K mg P H M)(e:M[j]? =some c)(w:tD K mg P (upd H (P.io j) o') (P.io j) c')(nd:c.fix=false:=by rfl):Lt P H P (upd H (P.io j) o')/\LtE P H P (upd H (P.io j) o')/\Hk K mg P (upd H (P.io j) o') (M.set j c'):=by
 have jl:j<P.n:=by rw[h.n];exact(xak.mp e).1
 obtain ⟨o, eo, nf⟩ := h.cellAt e nd;have l : Lt P H P (upd H (P.io j) o') := vf (h.bd j jl) eo nf;refine ⟨l, ⟨xah _,fun _ _=>rfl,fun _ z=>.inl z,fun _ z=>z,fun a u ea n=>by
  have ne:a≠P.io j:=by
   rintro rfl;rw[eo]at ea;cases ea;exact n.elim nf fun nc=>nc j jl rfl
  rw[aQ ne];exact ea,l.sure,fun k h1 h2=>absurd h1 (xdK.mpr h2)⟩,⟨by rw[xaI,h.n],fun k b ek=>?_,h.inj,h.bd,fun a z q=>h.here a z (l.sure a q)⟩⟩
 rw[xaZ]at ek;split at ek
 ·rename_i jk;subst jk;rw[xab (by rw[<-h.n];exact jl)]at ek;cases ek;exact w
 ·rename_i jk;have kl:k<P.n:=by rw[h.n];exact(xak.mp ek).1
  exact(h.cell k b ek).lt l fun u eu=>by rw[aQ (fun z=>jk (h.inj j k jl kl z.symm))];exact eu
theorem Ok.frz (k:Ok K mg P0 H0 P Os H M st env)(hi:env[i]? =some (.own ds)):∃P' Os',Lt P H P' H/\Ok K mg P0 H0 P' Os' H M st (env.set i (.val (.lst ds))):=by
 obtain⟨a,vs,e1,e2,e3,q⟩:=k.slot i _ hi;have ho:=pW e1;obtain⟨b1,b2,b3⟩:=k.own a (xau ho);have ilt:i<env.length:=(xak.mp hi).1;have nO:∀b,some b∈Os.set i none->some b∈Os/\b≠a:=fun b z=>by
  obtain⟨j,hj⟩:=xdB.mp z;rw[xaZ]at hj;split at hj
  ·split at hj<;>cases hj
  ·rename_i ij;exact⟨xau hj,fun z=>by subst z;exact ij (k.inj i j b ho hj)⟩
 have l : Lt P H (P.less (· ≠ a)) H := ⟨xah _, fun _ _ => rfl, fun c z => .inl z.1, fun _ _ e _ => e, fun _ z => z⟩;refine ⟨P.less (· ≠a),Os.set i none,l,{
  hk:=⟨k.hk.n,fun j c ej=>(k.hk.cell j c ej).lt l fun _ z=>z,k.hk.inj,fun j hj=>⟨k.hk.bd j hj,b2 j hj⟩,fun c z=>k.hk.here c z.1⟩
  base:=⟨k.base.n,k.base.io,fun c z=>k.base.bd c z.1,fun c z=>⟨k.base.bm c z,fun q=>k.b0 c z (q ▸ b3)⟩,k.base.keep,k.base.sure,k.base.nw⟩
  b0:=k.b0
  slot:=fun j s ej=>?_
  own:=fun c z=>?_
  inj:=fun j l b z1 z2=>?_
  olen:=by rw[xaI,xaI,k.olen]
  slen:=by rw[xaI,k.slen]}⟩
 ·rw[yZ _ _ _ _ (by rw[k.olen];exact ilt)];rw[xaZ]at ej;split at ej
  ·rename_i ij;subst ij;cases ej;exact⟨.ref a,e2,a,vs,rfl,.inl ⟨fun z=>z.2 rfl,.inl e3⟩,aC.less q⟩
  ·rename_i ij;rw[xai ij];have q:=k.slot j s ej
   cases s with
   |un=>exact True.intro
   |val d=>obtain⟨v,e1,q⟩:=q;exact⟨v,e1,Is.less q⟩
   |own es=>obtain⟨a',ws,e1,e2,e3,q⟩:=q;exact⟨a',ws,e1,e2,e3,aC.less q⟩
   |exc c n=>obtain⟨v,e1,q⟩:=q;exact⟨v,e1,q.lt l⟩
 ·obtain⟨z1,z2⟩:=nO c z;obtain⟨c1,c2,c3⟩:=k.own c z1;exact⟨⟨c1,z2⟩,c2,c3⟩
 ·rw[xaZ]at z1 z2;split at z1
  ·split at z1<;>cases z1
  ·split at z2
   ·split at z2<;>cases z2
   ·exact k.inj j l b z1 z2
end
section
variable {X:Cx}{Wx:XW}{pos:Pos}
theorem gD (h:PS X s t)(w:∀D σ H,t' D σ H->t D σ H):PS X s t':=fun pins s σ H D I hw=>h pins s σ H D I (w D σ H hw)
theorem IK (h:gw X s t)(w:∀D σ H,t' D σ H->t D σ H):gw X s t':=fun pins s σ H D I hw=>h pins s σ H D I (w D σ H hw)
def aq:S:=fun env M=>some (.nx env,M)
noncomputable def ao (f g:S):S:=fun env M=>match f env M with
 |some (.nx e,M1)=>g e M1
 |o=>o
theorem aJ:SB X Wx [] aq:=by
 refine IK Z0 ?_;rintro D st H ⟨P0,H0,P,Os,env,M,out,M',k,e,q⟩;cases e;exact q P Os H st (Lt.refl P H) k
theorem Post.lt {K:Fgx}{mg:Mgx}{P0 P P1:Pl}{H0 H H1:Hp}{M':Mm}{D:Ends}{o:Out}(l:Lt P H P1 H1)(q:Post K mg Wx P0 H0 P H M' D o):Post K mg Wx P0 H0 P1 H1 M' D o:=by
 cases o with
 |nx env=>exact fun P' Os' H' st' l' k=>q P' Os' H' st' (l.trans l') k
 |bk env=>exact fun P' Os' H' st' l' k=>q P' Os' H' st' (l.trans l') k
 |ct env=>exact fun P' Os' H' st' l' k=>q P' Os' H' st' (l.trans l') k
 |rt d=>exact q
 |ex c n=>exact q
theorem aG {s:Stmt}{ss:List Stmt}{f g:S}(h1:SS X Wx s f)(h2:SB X Wx ss g):SB X Wx (s::ss) (ao f g):=by
  refine IK (ZX h1 h2) ?_;rintro D st H ⟨P0,H0,P,Os,env,M,out,M',k,e,q⟩;unfold ao at e;split at e
  · rename_i e1 M1 ef;refine⟨P0,H0,P,Os,env,M,_,_,k,ef,fun P1 Os1 H1 st1 l1 k1=>?_⟩;exact⟨P0,H0,P1,Os1,e1,M1,_,_,k1,e,q.lt l1⟩
  · rename_i o ho
    cases ef:f env M with
    |none=>rw[ef]at e;cases e
    |some om=>
      obtain⟨o1,M1⟩:=om;rw[ef]at e;cases e;refine⟨P0,H0,P,Os,env,M,_,_,k,ef,?_⟩
      cases out with
      |nx env'=>exact(ho _ _ ef).elim
      |bk env'=>exact q
      |ct env'=>exact q
      |rt d=>exact q
      |ex c n=>exact q
noncomputable def aO (i:Nat) (f:E):S:=fun env M=>bY (f env M) fun d M1=>if i<env.length then some (.nx (env.set i (.val d)),M1) else none
theorem bL (hN:X.N.Nodup)(hi:X.N[i]? =some x)(hx:Loc X.env.scope x)(he:SE X Wx .val e f)(hs:swapsWith e (some (.Name x pos')) pos.line X.env=pure false:=by rfl)
  (hf:X.fn x=true\/X.env.scope.names.lookup x=some .local:=by first |exact .inl rfl |exact .inr rfl):SS X Wx (.Assign [.Name x pos'] e pos) (aO i f):=by
 refine gD (Pb hN hi hx he hs hf) ?_;rintro D st H ⟨P0,H0,P,Os,env,M,out,M',k,e,q⟩;unfold aO at e;rcases kO e with⟨d,M1,e1,e⟩ |⟨c,n,e1,rfl⟩
 ·split at e
  ·rename_i hl;cases e;exact⟨P0,H0,P,Os,env,M,_,_,k,e1,fun P1 v1 H1 l1 h1 i1=>q _ _ _ _ (l1.lt k.hk) ((k.next l1 h1).asg hl i1)⟩
  ·cases e
 ·exact⟨P0,H0,P,Os,env,M,_,_,k,e1,q⟩
noncomputable def sI (i:Nat) (f:E):S:=fun env M=>bY (f env M) fun d M1=>match d with
 |.lst ds=>if i<env.length then some (.nx (env.set i (.own ds)),M1) else none
 |_=>none
theorem CQ {i:Nat}{x:Str}{e:Expr}{f:E}{pos':Pos}(hN:X.N.Nodup)(hi:X.N[i]? =some x)(hx:Loc X.env.scope x)(he:SN X Wx e f)(hs:swapsWith e (some (.Name x pos')) pos.line X.env=pure false:=by rfl)
  (hf:X.fn x=true\/X.env.scope.names.lookup x=some .local:=by first |exact .inl rfl |exact .inr rfl):SS X Wx (.Assign [.Name x pos'] e pos) (sI i f):=by
 refine gD (Pb hN hi hx he hs hf) ?_;rintro D st H ⟨P0,H0,P,Os,env,M,out,M',k,e,q⟩;unfold sI at e;rcases kO e with⟨d,M1,e1,e⟩ |⟨c,n,e1,rfl⟩
 ·cases d<;>simp only[reduceCtorEq]at e
  rename_i ds;split at e
  ·rename_i hl;cases e;exact⟨P0,H0,P,Os,env,M,_,_,k,e1,ds,rfl,fun P1 a vs H1 l1 h1 ha ba nc ea is=>q _ _ _ _ (l1.lt k.hk) (k.mine l1 h1 hl ha ba nc ea is)⟩
  ·cases e
 ·exact⟨P0,H0,P,Os,env,M,_,_,k,e1,q⟩
def aM (f:E):S:=fun env M=>bY (f env M) fun d M1=>some (.rt d,M1)
theorem bH {e:Expr}{f:E}(he:SE X Wx .val e f):SS X Wx (.Return (some e) pos) (aM f):=by
 refine gD (ZW he) ?_;rintro D st H ⟨P0,H0,P,Os,env,M,out,M',k,e,q⟩;unfold aM at e;rcases kO e with⟨d,M1,e1,e⟩ |⟨c,n,e1,rfl⟩
 ·cases e;exact⟨P0,H0,P,Os,env,M,_,_,k,e1,fun P1 v1 H1 l1 h1 i1=>q P1 v1 H1 (k.base.trans l1) h1 i1⟩
 ·exact⟨P0,H0,P,Os,env,M,_,_,k,e1,q⟩
noncomputable def yM (f:E):S:=fun env M=>bY (f env M) fun _ M1=>some (.nx env,M1)
theorem RG (he:SE X Wx .bor e f)(hs:swapsWith e none pos.line X.env=pure false:=by rfl):SS X Wx (.Expr e pos) (yM f):=by
 refine gD (Bj he hs) ?_;rintro D st H ⟨P0,H0,P,Os,env,M,out,M',k,e,q⟩;unfold yM at e;rcases kO e with⟨d,M1,e1,e⟩ |⟨c,n,e1,rfl⟩
 ·cases e;exact⟨P0,H0,P,Os,env,M,_,_,k,e1,fun P1 v1 H1 l1 h1 i1=>q _ _ _ _ (l1.lt k.hk) (k.next l1 h1)⟩
 ·exact⟨P0,H0,P,Os,env,M,_,_,k,e1,q⟩
noncomputable def bJ (c:E) (f g:S):S:=fun env M=>bY (c env M) fun d M1=>match d with
 |.bl b=>if b=true then f env M1 else g env M1
 |_=>none
theorem bQ (hc:ST X Wx c t)(ha:SB X Wx a f)(hb:SB X Wx b g):SS X Wx (.If c a b pos) (bJ t f g):=by
  refine gD (ZS hc ha hb) ?_;rintro D st H ⟨P0,H0,P,Os,env,M,out,M',k,e,q⟩;unfold bJ at e;rcases kO e with⟨d,M1,e1,e⟩ |⟨c,n,e1,rfl⟩
  · cases d<;>simp only[reduceCtorEq]at e
    rename_i b;refine gH k e1 ⟨b,rfl,fun P1 H1 l1 h1=>?_⟩
    cases b with
    |true=>
      rw[xab rfl]at e ⊢;exact⟨P0,H0,P1,Os,env,M1,_,_,k.next l1 h1,e,q.lt (l1.lt k.hk)⟩
    |false=>
      rw[xai (by decide)]at e ⊢;exact⟨P0,H0,P1,Os,env,M1,_,_,k.next l1 h1,e,q.lt (l1.lt k.hk)⟩
  · exact gH k e1 q
noncomputable def f9 (i:Nat):S:=fun env M=>match env[i]? with
 |some (.own ds)=>some (.nx (env.set i (.val (.lst ds))),M)
 |_=>none
theorem Ck (h:SB X Wx ss g):SB X Wx ss (ao (f9 i) g):=by
 refine IK h ?_;rintro D st H ⟨P0,H0,P,Os,env,M,out,M',k,e,q⟩;unfold ao f9 at e;split at e
 ·rename_i e1 M1 ef;split at ef
  ·rename_i ds es;cases ef;obtain⟨P1,Os1,l1,k1⟩:=k.frz es;exact⟨P0,H0,P1,Os1,_,_,_,_,k1,e,q.lt l1⟩
  ·cases ef
 ·rename_i ho;split at e
  ·rename_i es;exact(ho _ _ (by rw[es])).elim
  ·cases e
noncomputable def i_ (i:Nat) (f:E):S:=fun env M=>match env[i]? with
 |some (.own ds)=>bY (f env M) fun d M1=>if ds.length<sizeLine then some (.nx (env.set i (.own (ds ++ [d]))),M1) else none
 |_=>none
theorem J4 {i:Nat}{x:Str}{e:Expr}{f:E}{p0 p q:Pos}(hN:X.N[i]? =some x)(hv:tQ X.env.scope x)(he:SE X Wx .val e f)(hd:(x==("__debug__":Str))=false:=by x_go)(hcd:(x==("__classdict__":Str))=false:=by x_go)
  (hfew:((backTo q (starEach [e] X.env)).all (fun x=> !x.1) && (backToKw q (keywordEach [] X.env)).all (fun x=>x.1.isSome) && decide ([e].length + ([]:List Keyword).length + (if ([]:List Keyword).isEmpty then 0 else 1)<30))=true:=by rfl)
  (hline:(p.endLine==q.line)=true:=by rfl) (hs:starEach [e] X.env=(false,eval e X.env)::starEach [] X.env:=by rfl) (hw:swapsWith (.Call (.Attribute (.Name x p0) "append" p) [e] [] q) none pos.line X.env=pure false:=by rfl):
  SS X Wx (.Expr (.Call (.Attribute (.Name x p0) "append" p) [e] [] q) pos) (i_ i f):=by
 refine gD (Bj (Bf xbN xdn xdo Gs (Bg hN hv hd hcd) (nR he p8 hs) rfl hfew hline hs rfl) hw) ?_;rintro D st H ⟨P0,H0,P,Os,env,M,out,M',k,e,q⟩;unfold i_ at e;split at e
 ·rename_i ds es;obtain⟨a,vs,o1,o2,o3,o4⟩:=k.slot i _ es;refine⟨.ref a,pW o2,.inl ⟨rfl,vs,.inl (.inl o3)⟩,?_⟩;rcases kO e with⟨d,M1,e1,e⟩ |⟨c,n,e1,rfl⟩
  ·split at e
   ·rename_i hz;cases e;refine aU k e1 fun P1 v1 H1 l1 h1 i1=>?_;have k1:=k.next l1 h1
    obtain⟨a',vs',o1',o2',o3',o4'⟩:=k1.slot i _ es;have ea:a'=a:=by
     have z:=o2'.symm.trans o2;cases z;rfl
    subst ea;refine⟨a',vs',v1,rfl,rfl,o3',by rw[o4'.len];exact hz,?_⟩;obtain⟨l2,k2⟩:=k1.chg es (pW o1') o3' (aC.append o4' (aC.one i1));exact q _ _ _ _ ((l1.lt k.hk).trans l2) k2
   ·cases e
  ·exact aU k e1 q
 ·cases e
def Wk (K:Fgx)(P1:Pl)(H1:Hp)(J:It)(ds:List D):Prop:=∀P H,Lt P1 H1 P H->(∀k,k<ds.length->J.go k H)/\(∀k,ds.length<=k->k<=ds.length->J.stop k H)/\∀k x H',J.yld k H x H'->k<ds.length->H'=H/\∃d,ds[k]? =some d/\Is K P H d x
noncomputable def IQ (K:Fgx) (mg:Mgx) (Wx:XW) (P0:Pl) (H0:Hp) (P:Pl) (H:Hp) (M':Mm) (R:It->Hp->Prop):ResA->Prop
 |.v ds=>∀P' H' J,LtE P H P' H'->Hk K mg P' H' M'->Wk K P' H' J ds->R J H'
 |.x c n=>Wx P0 H0 M' c n
noncomputable def tI (K:Fgx) (mg:Mgx) (Wx:XW) (fs:EA):TI:=fun st H R=>∃P0 H0 P Os env M r M',Ok K mg P0 H0 P Os H M st env/\fs env M=some (r,M')/\IQ K mg Wx P0 H0 P H M' R r
def SI (X:Cx)(Wx:XW)(tg iter:Expr)(fs:EA):Prop:=PI X tg iter (tI X.K X.mg Wx fs)
theorem yt (h:PI X tg iter t)(w:∀σ H R,t' σ H R->t σ H R):PI X tg iter t':=fun pins s σ H R I hw=>h pins s σ H R I (w σ H R hw)
noncomputable def loopS (i:Nat) (body:S):List D->Env->Mm->OS
  | [],env,M=>some (.nx env,M)
  | d :: ds, env, M => if i < env.length then (match body (env.set i (.val d)) M with
    |some (.nx e,M1)=>loopS i body ds e M1
    |some (.ct e,M1)=>loopS i body ds e M1
    |some (.bk e,M1)=>some (.nx e,M1)
    |some (.rt d,M1)=>some (.rt d,M1)
    |some (.ex c n,M1)=>some (.ex c n,M1)
    |none=>none) else none
noncomputable def dI (i:Nat) (fs:EA) (body:S):S:=fun env M=>match fs env M with
 |some (.v ds,M1)=>loopS i body ds env M1
 |some (.x c n,M1)=>some (.ex c n,M1)
 |none=>none
theorem Wj {K:Fgx}{mg:Mgx}{P0 P1:Pl}{H0 H1:Hp}{Os:List (Option Addr)}{M M':Mm}{st:L2.St}{env:Env}{i:Nat}{b:S}{J:It}{ds:List D}{out:Out}{D:Ends}(k:Ok K mg P0 H0 P1 Os H1 M st env)(wk:Wk K P1 H1 J ds)
  (h:loopS i b ds env M=some (out,M')) (q:Post K mg Wx P0 H0 P1 H1 M' D out):
  ∃W:Nat->Nat->L2.St->Hp->Prop,(∃m,W 0 m st H1)/\∀j m σ H,W j m σ H->
   (J.stop j H/\D.nx σ H)\/(J.go j H/\∃Nn:L2.St->Hp->Prop,(∀σ' H',Nn σ' H'->∃m',m'<m/\W (j + 1) m' σ' H')/\∀x H',J.yld j H x H'->FN i x σ H' fun σ2 H2=>tS K mg Wx b {D with nx:=Nn,ct:=Nn,bk:=D.nx} σ2 H2):=by
 refine⟨fun j m σ H=>m=ds.length - j/\j<=ds.length/\∃P Os' M1 env',Lt P1 H1 P H/\Ok K mg P0 H0 P Os' H M1 σ env'/\loopS i b (ds.drop j) env' M1=some (out,M'),⟨ds.length,by simp,xa8 _,P1,Os,M,env,Lt.refl _ _,k,h⟩,?_⟩;rintro j m σ H ⟨rfl,hj,P,Os',M1,env',lt,k',h'⟩;obtain⟨w1,w2,w3⟩:=wk P H lt
 by_cases hlt:j<ds.length
 ·refine .inr ⟨w1 j hlt,fun σ' H'=>∃P Os' M1 env',Lt P1 H1 P H'/\Ok K mg P0 H0 P Os' H' M1 σ' env'/\loopS i b (ds.drop (j + 1)) env' M1=some (out,M'),fun σ' H' z=>⟨ds.length - (j + 1),by omega,rfl,hlt,z⟩,fun x H' y=>?_⟩;obtain⟨e3,d,ed,iv⟩:=w3 j x H' y hlt;subst e3;have ed':ds.drop j=d::ds.drop (j + 1):=by
   rw[xa6 hlt];rw[xag hlt]at ed;rw[xay ed]
  rw[ed']at h';simp only[loopS]at h';split at h'
  ·rename_i hi;have k2:=k'.asg hi iv;split at h'
   ·rename_i e M2 eb;exact⟨P0,H0,P,_,_,M1,_,_,k2,eb,fun P' Os2 H2 st2 l2 k3=>⟨P',Os2,_,e,lt.trans l2,k3,h'⟩⟩
   ·rename_i e M2 eb;exact⟨P0,H0,P,_,_,M1,_,_,k2,eb,fun P' Os2 H2 st2 l2 k3=>⟨P',Os2,_,e,lt.trans l2,k3,h'⟩⟩
   ·rename_i e M2 eb;cases h';exact⟨P0,H0,P,_,_,M1,_,_,k2,eb,fun P' Os2 H2 st2 l2 k3=>q P' Os2 H2 st2 (lt.trans l2) k3⟩
   ·rename_i e M2 eb;cases h';exact⟨P0,H0,P,_,_,M1,_,_,k2,eb,q⟩
   ·rename_i c n M2 eb;cases h';exact⟨P0,H0,P,_,_,M1,_,_,k2,eb,q⟩
   ·cases h'
  ·cases h'
 ·have ej:j=ds.length:=by omega
  subst ej;rw[xbI]at h';cases h';exact .inl ⟨w2 _ (xah _) (xah _),q P Os' H σ lt k'⟩
theorem sU (hp:PassesOwn (model X.prog X.w) X.A X.env X.xe)(hc:X.calm=true)(hN:X.N.Nodup)(hi:X.N[i]? =some x)(hx:Loc X.env.scope x)(hI:SI X Wx (.Name x p) iter fs)(hb:SB X Wx body b)
  (hf:X.fn x=true\/X.env.scope.names.lookup x=some .local:=by first |exact .inl rfl |exact .inr rfl) (hs:∀x,foldedSetIterable iter X.env x=pure x:=by intro _;rfl):SS X Wx (.For (.Name x p) iter body [] pos) (dI i fs b):=by
 refine gD (Iz hp hc hI (O4 hN hi hx hf) hb hs) ?_;rintro D st H ⟨P0,H0,P,Os,env,M,out,M',k,e,q⟩;unfold dI at e;split at e
 ·rename_i ds M1 ef;exact⟨P0,H0,P,Os,env,M,_,_,k,ef,fun P1 H1 J l1 h1 wk=>Wj (k.next l1 h1) wk e (q.lt (l1.lt k.hk))⟩
 ·rename_i c n M1 ef;cases e;exact⟨P0,H0,P,Os,env,M,_,_,k,ef,q⟩
 ·cases e
noncomputable def fW (f:E):EA:=fun env M=>match f env M with
 |some (.v (.lst ds),M1)=>some (.v ds,M1)
 |some (.x c n,M1)=>some (.x c n,M1)
 |_=>none
theorem CG (h:SE X Wx .val e f):SI X Wx tg e (fW f):=by
 refine yt (Zo h) ?_;rintro st H R ⟨P0,H0,P,Os,env,M,r,M',k,e,q⟩;unfold fW at e;split at e
 ·rename_i ds M1 ef;cases e;refine⟨P0,H0,P,Os,env,M,_,_,k,ef,fun P1 v1 H1 l1 h1 i1=>?_⟩;obtain⟨a,vs,rfl,ra,is⟩:=i1;refine⟨a,rfl,⟨vs,ra.imp (·.2) id⟩,q P1 H1 _ l1 h1 fun P2 H2 l2=>?_⟩;have ra2:=l2.rda ra;have is2:=aC.lt l2 is;have sq:bF X.K H2 a vs:=ra2.imp (·.2) id;refine⟨fun j hj=>?_,fun j h1 h2=>⟨vs,sq,by rw[is2.len];exact h1⟩,fun j x H' y hj=>⟨y.1,?_⟩⟩
  ·obtain⟨v,ev,_⟩:=aC.get is2 (xag hj);exact⟨vs,v,sq,ev⟩
  ·obtain⟨v,ev,iv⟩:=aC.get is2 (xag hj);have:=y.2 vs sq;rw[ev]at this;cases this;exact⟨_,xag hj,iv⟩
 ·rename_i c n M1 ef;cases e;exact⟨P0,H0,P,Os,env,M,_,_,k,ef,q⟩
 ·cases e
end
abbrev G:=List D->Mm->O
noncomputable def mO (K:Fgx) (mg:Mgx) (n:Nat) (g:G):Sp:=fun vs H Q _=>vs.length=n/\∃P M ds d M',Hk K mg P H M/\aC K P H ds vs/\g ds M=some (.v d,M')/\∀P' v H',LtE P H P' H'->Hk K mg P' H' M'->Is K P' H' d v->Q v H'
noncomputable def bZ (o:OS):O:=match o with
 |some (.rt d,M)=>some (.v d,M)
 |some (.nx _,M)=>some (.v .non,M)
 |some (.ex c n,M)=>some (.x c n,M)
 |_=>none
noncomputable def bI (n:Nat) (b:S):G:=fun ds M=>bZ (b (ds.map .val ++ List.replicate (n - ds.length) .un) M)
theorem J8 {K:Fgx}{mg:Mgx}{P:Pl}{H:Hp}{M:Mm}{N:List Str}{ds:List D}{vs:List V}(hk:Hk K mg P H M)(hl:vs.length<=N.length)(h:aC K P H ds vs):
  Ok K mg P H P (List.replicate N.length none) H M (L2.start N vs) (ds.map .val ++ List.replicate (N.length - ds.length) .un):=by
 have hd:=h.len;refine⟨hk,LtE.refl P H,hk.here,fun i s e=>?_,fun a z=>?_,fun i j a e1 _=>?_,by simp;omega,by simp[L2.start];omega⟩
 ·have e0:((List.replicate N.length (none:Option Addr))[i]?).join=none:=by
   rw[xaS]
   split<;>rfl
  rw[e0]
  by_cases hi:i<ds.length
  ·rw[xaz (by simpa using hi),xan,xag hi]at e;simp only[xaT,xdc]at e;subst e;obtain⟨v,ev,p⟩:=h.get (xag hi);refine⟨v,?_,p⟩;unfold L2.start;rw[xaz (by rw[xar];omega),xan,ev];rfl
  ·rw[xaB (by simpa using hi),xaS]at e;split at e
   ·cases e;exact True.intro
   ·cases e
 ·exact absurd (xdp z) (by simp)
 ·rw[xaS]at e1;split at e1<;>cases e1
structure FunD (K:Fgx)(x qual:Str)(st:Stmt)(f:Addr)(fd:FuncData):Prop where
 ex:∃(oc:Value) (od:Option Addr) (dV kV doc pm:Value) (an:Option Addr) (cdv ct:Value) (osl:Array (Option Value)),
  fd=PySem.W.fnOf x qual (cM st) (bK st) (aH st) dV kV doc pm an cdv ct/\K.lookup f=some ⟨oc,od,.func fd,osl⟩/\PySem.W.codeIn K cdv qual=true
 kp:PySem.W.keepIn K (.ref f)=true
theorem Ah {K:Fgx}{x qual:Str}{st:Stmt}{f:Addr}{oc:Value}{od an:Option Addr}{osl:Array (Option Value)}{dV kV doc pm cdv ct:Value}(l:K.lookup f=some ⟨oc,od,.func (PySem.W.fnOf x qual (cM st) (bK st) (aH st) dV kV doc pm an cdv ct),osl⟩)
  (c:PySem.W.codeIn K cdv qual=true) (k:PySem.W.keepIn K (.ref f)=true):FunD K x qual st f (PySem.W.fnOf x qual (cM st) (bK st) (aH st) dV kV doc pm an cdv ct):=⟨⟨oc,od,dV,kV,doc,pm,an,cdv,ct,osl,rfl,l,c⟩,k⟩
section
variable {P:Program}{w:World}{K:Fgx}{mg:Mgx}{base:Heap}{k:Nat}{x qual:Str}{st:Stmt}{f:Addr}{fd:FuncData}{N ps:List Str}{b:S}
def W0:XW:=fun _ _ _ _ _=>False
abbrev nj (P:Program)(w:World)(K:Fgx)(mg:Mgx)(base:Heap)(N:List Str)(qual:Str)(st:Stmt)(f:Addr)(cdv:Value)(A:Around)(outer:List PySem.Env)(s:Shared)(H:Hp)(E:XK):Cx:=(cG eV P w K mg base N qual (aH st) f cdv A outer s H E).nox
theorem Ag (F:FunD K x qual st f fd)(S:FnScope N ps (aH st))(hp:ps.length<=N.length)
  (hb:∀cdv A outer s H E,Room k (A.deeper (envOfC qual (aH st) s.heap.objs.size f cdv))->SB (nj P w K mg base N qual st f cdv A outer s H E) W0 (bK st) b):FnOk P w K mg base eV (k + 1) f fd ps (mO K mg ps.length (bI N.length b)):=by
 obtain⟨oc,od,dV,kV,doc,pm,an,cdv,ct,osl,rfl,lk,hcd⟩:=F.ex;refine MJ lk hcd S (fun vs H Q E h=>h.1) fun A outer s H vs Q E hr h=>?_;obtain⟨hl,Pl,M,ds,d,M',hk,is,e,q⟩:=h;refine⟨_,gw.nox (hb cdv A outer s H E hr),?_⟩;unfold bI bZ at e;have st0:=J8 (N:=N) hk (by omega) is;split at e
 ·rename_i d' M2 eb;cases e;exact⟨Pl,H,Pl,_,_,M,_,_,st0,eb,fun P' v H' l h i=>q P' v H' l h i⟩
 ·rename_i env M2 eb;cases e;exact⟨Pl,H,Pl,_,_,M,_,_,st0,eb,fun P' Os' H' st' _ k'=>q P' .non H' k'.base k'.hk rfl⟩
 ·rename_i c n M2 eb;cases e
 ·cases e
def aV (P:Program)(w:World)(K:Fgx)(mg:Mgx)(base:Heap)(k:Nat)(f:Str)(n:Nat)(g:G):Prop:=
 ∃fa fd ps ds dvs sp,mg f=some (.ref fa)/\PySem.W.keepIn K (.ref fa)=true/\FnOk P w K mg base eV k fa fd ps sp/\Binds K fd ps ds/\Vals dvs ds/\∀vs H Q E,mO K mg n g vs H Q E->sp (vs ++ dvs) H Q E
theorem UG (F:FunD K x qual st f fd)(S:FnScope N ps (aH st))(hp:ps.length<=N.length)(hm:mg x=some (.ref f))(hd:Binds K fd ps [])
  (hb:∀cdv A outer s H E,Room k (A.deeper (envOfC qual (aH st) s.heap.objs.size f cdv))->SB (nj P w K mg base N qual st f cdv A outer s H E) W0 (bK st) b):aV P w K mg base (k + 1) x ps.length (bI N.length b):=
 ⟨f,fd,ps,[],[],_,hm,F.kp,Ag F S hp hb,hd,.nil,fun vs H Q E h=>by rw[xax];exact h⟩
theorem aV.mono (a:aV P w K mg base j x n g)(h:j<=k):aV P w K mg base k x n g:=by
 obtain⟨fa,fd,ps,ds,dvs,sp,h1,h2,h3,h4⟩:=a;exact⟨fa,fd,ps,ds,dvs,sp,h1,h2,h3.mono h,h4⟩
end
section
variable {X:Cx}{Wx:XW}{m:Mode}
noncomputable def bO (g:G) (fs:EA):E:=fun env M=>cD (fs env M) fun ds M1=>match g ds M1 with
 |some (.v d,M2)=>some (.v d,M2)
 |_=>none
theorem cC.len {K:Fgx}{P:Pl}{H:Hp}:∀{ds:List D} {vs:List V},cC K P H m ds vs->vs.length=ds.length
  | [],_,h=>by rw[show _=[] from h];rfl
  |d::ds,_,h=>by
    obtain⟨v,r,e,_,q⟩:=h;subst e
    simp[cC.len q]
def pH (n:Nat)(fs:EA):Prop:=∀env M ds M',fs env M=some (.v ds,M')->ds.length=n
theorem cnt_nil:pH 0 au:=fun env M ds M' e=>by cases e;rfl
theorem cnt_cons (h:pH n fs):pH (n + 1) (aA f fs):=fun env M ds M' e=>by
 unfold aA at e;split at e
 ·split at e
  ·rename_i ef;cases e;rw[xao,h _ _ _ _ ef]
  ·cases e
  ·cases e
 ·cases e
 ·cases e
theorem bW {k n:Nat}{f:Str}{g:G}{e:Expr}{es:List Expr}{fs:EA}{p pos:Pos}(a:aV X.prog X.w X.K X.mg X.base k f n g)(hr:Room k X.A)(hg:Gl X f)(ha:SA X Wx .val (e::es) fs)(hn:pH n fs)(hdb:(f==("__debug__":Str))=false:=by x_go)
  (he:starEach (e::es) X.env=(false,eval e X.env)::starEach es X.env:=by rfl) (hpl:(backTo pos (starEach es X.env)).any (·.1)=false:=by rfl):SE X Wx m (.Call (.Name f p) (e::es) [] pos) (bO g fs):=by
 obtain⟨fa,fd,ps,ds,dvs,sp,hm,hk,F,hb,hv,himp⟩:=a;refine b_ (YZ F hr hg hm hk hb hv Ir ha hdb he hpl) ?_;rintro st H Q ⟨P0,H0,P,Os,env,M,r,M',k,e,q⟩;unfold bO at e;rcases m8 e with⟨ds,M1,e1,e⟩ |⟨c,n,e1,rfl⟩
 ·split at e
  ·rename_i d M2 eg;cases e;exact⟨P0,H0,P,Os,env,M,_,_,k,e1,fun P1 vs H1 l1 h1 i1=>himp _ _ _ _ ⟨by rw[i1.len];exact hn _ _ _ _ e1,P1,M1,ds,d,_,h1,i1.iss,eg,fun P2 v H2 l2 h2 i2=>q P2 v H2 (l1.trans l2) h2 (cA.of h2 i2)⟩⟩
  ·cases e
 ·exact⟨P0,H0,P,Os,env,M,_,_,k,e1,q⟩
end
def wg (i j:Int):Prop:=mU i j\/(i.natAbs.log2<10000/\j.natAbs.log2<10000)
theorem Lj (h:i.natAbs.log2<10000):Builtin.Int.intBits i<=10001:=by
 unfold Builtin.Int.intBits
 split<;>omega
theorem wg.ok (h:wg i j):IntMulOk i j:=by
 rcases h with h |⟨h1,h2⟩
 ·exact h.ok
 ·exact mulOk_of_bits (Lj h1) (Lj h2) (by decide)
theorem mJ:bG X (binaryOp .Mult) (rI wg fun i j=>.int (i * j)):=Bd fun _ _ _ _ _ _ _ hc q=>mul_int q hc.ok
section
variable {X:Cx}{pins:Pnx}{σ:L2.St}{H:Hp}{s:Shared}{K:Fgx}
noncomputable def Pr (K:Fgx):R2:=fun x y H Q=>∃l b xs zs,x=.ref l/\y=.ref b/\bF K H l xs/\bF K H b zs/\xs.length + zs.length<=sizeLine/\∀p,H p=none->Q (.ref p) (upd H p (.lst (xs ++ zs)))
theorem Yo:bG X (binaryOp .Add) (Pr X.K):=by
 intro pins s σ H x y v u Q I rx ry h;obtain⟨l,b,xs,zs,rfl,rfl,hH,hB,hz,q⟩:=h;cases rx;cases ry;obtain⟨z,its,r,⟨cls,dd,data,sl⟩,ho,hc,n,hd⟩:=sql I hH;obtain⟨z2,its2,r2,⟨cls2,dd2,data2,sl2⟩,ho2,hc2,n2,hd2⟩:=sql I hB;simp only at hc hd hc2 hd2;subst hc hd hc2 hd2;have hl:=r.length;have hl2:=r2.length;refine concat_meets ⟨_,ho,rfl⟩ ⟨_,ho2,rfl⟩ noFill_list_add seq_list_add F.slot_list_add F.entry_list_add (F.args_list_add_2 _ _) (list_addW l b its.toArray its2.toArray n n2 dd dd2 sl sl2 (by rw[xae,xae];omega)) ⟨ho,ho2,?_⟩;have ea:its.toArray ++ its2.toArray=(its ++ its2).toArray:=by simp
 rw[ea];exact⟨.ref _,_,I.lnew (t':=s.toks) (r.append r2) (by rw[xap];omega),rfl,q _ I.fresh⟩
theorem Ot {P:Pl}{H:Hp}{ds:List D}{vs:List V}{Q:VK}(hn:∀p,H p=none->¬ P.bd p)(h:aC K P H ds vs)(q:∀u H',Same H H'->Is K P H' (.lst ds) u->Q u H'):∀p,H p=none->Q (.ref p) (upd H p (.lst vs)):=fun p hp=>by
 have s:=o_ (o:=.lst vs) hp;exact q _ _ s ⟨p,vs,rfl,.inl ⟨hn p hp,.inl bR⟩,aC.lt ⟨xah _,fun _ _=>rfl,fun _ z=>.inl z,fun a o e _=>s a o e,fun a z=>s.free z⟩ h⟩
theorem GP {P:Pl}{H:Hp}{ds:List D}{vs:List V}{Q:VK}(h:aC K P H ds vs)(q:∀u H',Same H H'->Is K P H' (.tup ds) u->Q u H'):∀p,H p=none->Q (.ref p) (upd H p (.tup vs)):=fun p hp=>by
 have s:=o_ (o:=.tup vs) hp;exact q _ _ s ⟨p,vs,rfl,.inl (.inl bR),aC.lt ⟨xah _,fun _ _=>rfl,fun _ z=>.inl z,fun a o e _=>s a o e,fun a z=>s.free z⟩ h⟩
noncomputable def aZ:D->D->Option D
 |.int i,.int j=>some (.int (i + j))
 |.str i,.str j=>if i.length + j.length<=sizeLine then some (.str (i ++ j)) else none
 |.lst xs,.lst ys=>if xs.length + ys.length<=sizeLine then some (.lst (xs ++ ys)) else none
 |_,_=>none
noncomputable def su (K:Fgx):R2:=fun x y H Q=>gF (fun i j=>.int (i + j)) x y H Q\/(∃i j,x=.str i/\y=.str j/\i.length + j.length<=sizeLine/\Q (.str (i ++ j)) H)\/Pr K x y H Q
theorem dX:bG X (binaryOp .Add) (su X.K):=Ym.or (Yn.or Yo)
theorem dZ:gA K (su K) aZ:=fun P H d e z v w Q h h1 h2 hn q=>by
 unfold aZ at h;split at h
 ·cases h;cases h1;cases h2;exact .inl ⟨_,_,rfl,rfl,q _ H (Same.refl H) rfl⟩
 ·split at h
  ·rename_i hl;cases h;cases h1;cases h2;exact .inr (.inl ⟨_,_,rfl,rfl,hl,q _ H (Same.refl H) rfl⟩)
  ·cases h
 ·split at h
  ·rename_i hl;cases h;obtain⟨a,vs,rfl,r1,s1⟩:=h1;obtain⟨b,ws,rfl,r2,s2⟩:=h2;exact .inr (.inr ⟨a,b,vs,ws,rfl,rfl,r1,r2,by rw[s1.len,s2.len];exact hl,Ot hn (s1.append s2) q⟩)
  ·cases h
 ·cases h
noncomputable def oI (g:Int->Int->Option D):D->D->Option D
 |.int i,.int j=>g i j
 |_,_=>none
theorem yj (h:oI g d e=some z)(h1:bM K P H d v)(h2:bM K P H e w):∃i j,v=.int i/\w=.int j/\g i j=some z:=by
 unfold oI at h;split at h
 ·cases h1;cases h2;exact⟨_,_,rfl,rfl,h⟩
 ·cases h
def c7:=oI fun i j=>some (.int (i - j))
theorem vm:gA K (gF fun i j=>.int (i - j)) c7:=fun P H d e z v w Q h h1 h2 _ q=>by
 obtain⟨i,j,rfl,rfl,h⟩:=yj h h1 h2;cases h;exact⟨i,j,rfl,rfl,q _ H (Same.refl H) rfl⟩
noncomputable def cR:=oI fun i j=>if i.natAbs<18446744073709551616\/j.natAbs<18446744073709551616\/(i.natAbs.log2<10000/\j.natAbs.log2<10000) then some (.int (i * j)) else none
theorem mL:gA K (rI wg fun i j=>.int (i * j)) cR:=fun P H d e z v w Q h h1 h2 _ q=>by
 obtain⟨i,j,rfl,rfl,h⟩:=yj h h1 h2;split at h
 ·rename_i hg;cases h;exact⟨i,j,rfl,rfl,by unfold wg mU;rw[show(2:Int) ^ 64=18446744073709551616 from rfl];exact hg.elim (fun z=>.inl (.inl ⟨by omega,by omega⟩)) (fun z=>z.elim (fun z=>.inl (.inr ⟨by omega,by omega⟩)) .inr),q _ H (Same.refl H) rfl⟩
 ·cases h
noncomputable def gC:=oI fun i j=>if 0<j/\j.natAbs<1073741824 then some (.int (i / j)) else none
theorem k_:gA K (rI vZ fun i j=>.int (i / j)) gC:=fun P H d e z v w Q h h1 h2 _ q=>by
 obtain⟨i,j,rfl,rfl,h⟩:=yj h h1 h2;split at h
 ·rename_i hg;cases h;exact⟨i,j,rfl,rfl,⟨hg.1,by omega⟩,q _ H (Same.refl H) rfl⟩
 ·cases h
def oMod:=oI fun i j=>if 0<j then some (.int (i % j)) else none
theorem dH:gA K (rI (fun _ j=>0<j) fun i j=>.int (i % j)) oMod:=fun P H d e z v w Q h h1 h2 _ q=>by
 obtain⟨i,j,rfl,rfl,h⟩:=yj h h1 h2;split at h
 ·rename_i hg;cases h;exact⟨i,j,rfl,rfl,hg,q _ H (Same.refl H) rfl⟩
 ·cases h
noncomputable def dF:=oI fun i j=>if 0<=j/\j.natAbs<=1000000/\i.natAbs<18446744073709551616 then some (.int (i ^ j.toNat)) else none
theorem q_:gA K (rI rJ fun i j=>.int (i ^ j.toNat)) dF:=fun P H d e z v w Q h h1 h2 _ q=>by
 obtain⟨i,j,rfl,rfl,h⟩:=yj h h1 h2;split at h
 ·rename_i hg;cases h;exact⟨i,j,rfl,rfl,by unfold rJ;rw[show(2:Nat) ^ 64=18446744073709551616 from rfl];exact⟨hg.1,by omega,hg.2.2⟩,q _ H (Same.refl H) rfl⟩
 ·cases h
def aF (c:Cp)(a b:D):Option D:=(bN c a b).map .bl
theorem IV:gA K (yD K c) (aF c):=fun P H d e z v w Q h h1 h2 _ q=>by
 unfold aF at h;rw[xad]at h;obtain⟨b,h,rfl⟩:=h;exact z9 h h1 h2 (q _ H (Same.refl H) rfl)
noncomputable def bB:D->D->Option D
 |.lst ds,.int i=>cJ ds i
 |.tup ds,.int i=>cJ ds i
 |.str z,.int i=>if z.length<=sizeLine then(cJ z.cps.toList i).map fun c=>.str ⟨#[c]⟩ else none
 |_,_=>none
noncomputable def Jl (K:Fgx):R2:=fun x y H Q=>sy K x y H Q\/sG K x y H Q\/sE x y H Q
theorem Nx:lZ X (Jl X.K):=Vz.or (VD.or VB)
theorem Lb (h:cJ ds i=some d)(q:aC K P H ds vs):∃u,cJ vs i=some u/\Is K P H d u:=by
 unfold cJ at h ⊢;rw[q.len]
 cases e:pU ds.length i with
 |none=>rw[e]at h;cases h
 |some j=>rw[e]at h;exact q.get h
theorem Ph:gA K (Jl K) bB:=fun P H d e z v w Q h h1 h2 _ q=>by
 unfold bB at h;split at h
 ·obtain⟨a,vs,rfl,r,s⟩:=h1;cases h2;obtain⟨u,e,p⟩:=Lb h s;exact .inl ⟨a,vs,_,u,rfl,rfl,r,e,q _ H (Same.refl H) p⟩
 ·obtain⟨a,vs,rfl,r,s⟩:=h1;cases h2;obtain⟨u,e,p⟩:=Lb h s;exact .inr (.inl ⟨a,vs,_,u,rfl,rfl,r,e,q _ H (Same.refl H) p⟩)
 ·split at h
  ·rename_i hl;rw[xad]at h;obtain⟨c,h,e⟩:=h;cases e;cases h1;cases h2;exact .inr (.inr ⟨_,_,c,rfl,rfl,hl,h,q _ H (Same.refl H) rfl⟩)
  ·cases h
 ·cases h
noncomputable def dB:List D->Option D
 | [.lst ds]=>some (.int ds.length)
 | [.tup ds]=>some (.int ds.length)
 | [.str z]=>if z.length<=sizeLine then some (.int z.length) else none
 |_=>none
def yE (K:Fgx):List V->Hp->VK->Prop:=fun xs H Q=>(∃p ys,xs=[.ref p]/\(bF K H p ys\/cU K H p ys)/\Q (.int ys.length) H)\/∃z,xs=[.str z]/\z.length<=sizeLine/\Q (.int z.length) H
theorem wI:cX X (.builtin "len") (yE X.K):=Tr.or Tt
theorem yC:lD K (yE K) dB:=fun P H ds z vs Q h i _ q=>by
 unfold dB at h;split at h
 ·obtain⟨v,ws,rfl,p,rfl⟩:=i;cases h;obtain⟨a,us,rfl,r,s⟩:=p;exact .inl ⟨a,us,rfl,.inl r,q _ H (Same.refl H) (by rw[s.len];rfl)⟩
 ·obtain⟨v,ws,rfl,p,rfl⟩:=i;cases h;obtain⟨a,us,rfl,r,s⟩:=p;exact .inl ⟨a,us,rfl,.inr r,q _ H (Same.refl H) (by rw[s.len];rfl)⟩
 ·split at h
  ·rename_i hl;obtain⟨v,ws,rfl,p,rfl⟩:=i;cases h;cases p;exact .inr ⟨_,rfl,hl,q _ H (Same.refl H) rfl⟩
  ·cases h
 ·cases h
noncomputable def fP:List D->Option D
 | [.int i,.int j]=>some (.int (if j<i then j else i))
 |_=>none
noncomputable def dO:List D->Option D
 | [.int i,.int j]=>some (.int (if j > i then j else i))
 |_=>none
theorem Bk:lD K (fun xs H Q=>∃i j,xs=[.int i,.int j]/\Q (.int (if j<i then j else i)) H) fP:=fun P H ds z vs Q h i _ q=>by
 unfold fP at h;split at h
 ·obtain⟨v,ws,rfl,p,v',ws',rfl,p',rfl⟩:=i;cases h;cases p;cases p';exact⟨_,_,rfl,q _ H (Same.refl H) rfl⟩
 ·cases h
theorem vh:lD K (fun xs H Q=>∃i j,xs=[.int i,.int j]/\Q (.int (if j > i then j else i)) H) dO:=fun P H ds z vs Q h i _ q=>by
 unfold dO at h;split at h
 ·obtain⟨v,ws,rfl,p,v',ws',rfl,p',rfl⟩:=i;cases h;cases p;cases p';exact⟨_,_,rfl,q _ H (Same.refl H) rfl⟩
 ·cases h
end
section
variable {X:Cx}{Wx:XW}{m:Mode}
noncomputable def zE:D->String
 |.non=>"NoneType"
 |.bl _=>"bool"
 |.int _=>"int"
 |.str _=>"str"
 |.tup _=>"tuple"
 |.lst _=>"list"
 |.ref _=>""
theorem Tp:cX X (.builtin "isinstance") (fun xs H Q=>∃(x:V) (T:String) (d:D) (P:Pl) (b:Bool),xs=[x,.ty T]/\bM X.K P H d x/\zE d≠""/\PySem.W.kitOne X.K (.type (zE d)) (.type T)=some b/\Q (.bl b) H):=by
  intro pins s σ H xs us Q I r h;obtain⟨x,T,d,A,b,rfl,i,ne,e,q⟩:=h;obtain⟨u,w',rfl,rx,rT⟩:=vals2 r;cases rT;have fin:∀tk,EP X pins σ Q (.bool b) {s with toks:=tk}:=fun tk=>⟨.bl b,H,I.tok _,rfl,q⟩
  cases d with
  |non=>have hv:x=.non:=i;subst hv;exact Ao I rx (TyOf.non) e fin
  |bl y=>have hv:x=.bl y:=i;subst hv;exact Ao I rx (TyOf.bl y) e fin
  |int y=>have hv:x=.int y:=i;subst hv;exact Ao I rx (TyOf.int y) e fin
  |str y=>have hv:x=.str y:=i;subst hv;exact Ao I rx (TyOf.str y) e fin
  |ref n=>exact absurd rfl ne
  |tup ds=>
    obtain⟨a,vs,rfl,t,_⟩:=i;cases rx;obtain⟨its,_,p,_⟩:=I.tuple t;obtain⟨o,h1,h2,_⟩:=p;exact xaH xdW I.kIn ⟨o,h1,h2⟩ e (fun z=>nomatch z) fin
  |lst ds=>
    obtain⟨a,vs,rfl,t,_⟩:=i;cases rx;obtain⟨_,its,_,o,h1,h2,_⟩:=sql I t;exact xaH xc9 I.kIn ⟨o,h1,h2⟩ e (fun z=>nomatch z) fin
theorem Sg {K:Fgx}{P:Pl}{H:Hp}{lo:Int}{n:Nat}:Wk K P H (wj lo n) ((List.range n).map fun(k:Nat)=>.int (lo + k)):=fun P' H' l=>by
 rw[xar,xbU];refine⟨fun k hk=>hk,fun k h1 _=>h1,fun k x H2 y hk=>⟨y.1,.int (lo + k),?_,y.2⟩⟩;rw[xan,xcc hk];rfl
noncomputable def rP (fs:EA):EA:=fun env M=>match fs env M with
 |some (.v [.int j],M1)=>if -1000000000<=j/\j<=1000000000 then some (.v ((List.range j.toNat).map fun(k:Nat)=>.int (0 + k)),M1) else none
 |some (.x c n,M1)=>some (.x c n,M1)
 |_=>none
noncomputable def rQ (fs:EA):EA:=fun env M=>match fs env M with
 |some (.v [.int i,.int j],M1)=>if (-1000000000<=i/\i<=1000000000)/\ -1000000000<=j/\j<=1000000000 then some (.v ((List.range (j - i).toNat).map fun(k:Nat)=>.int (i + k)),M1) else none
 |some (.x c n,M1)=>some (.x c n,M1)
 |_=>none
theorem Rn (hg:Gl X "range")(hm:X.mg "range"=none)(ha:SA X Wx .val [a] fs)(hs:starEach [a] X.env=[(false,eval a X.env)]:=by rfl):SI X Wx tg (.Call (.Name "range" p) [a] [] pos) (rP fs):=by
 refine yt (Zq hg hm ha hs) ?_;rintro st H R ⟨P0,H0,P,Os,env,M,r,M',k,e,q⟩;unfold rP at e;split at e
 ·rename_i j M1 ef;split at e
  ·rename_i hj;cases e;refine⟨P0,H0,P,Os,env,M,_,_,k,ef,fun P1 vs H1 l1 h1 i1=>?_⟩;obtain⟨v,ws,rfl,p,rfl⟩:=i1;exact⟨j,by rw[show v=.int j from p],by omega,by omega,q P1 H1 _ l1 h1 Sg⟩
  ·cases e
 ·rename_i c n M1 ef;cases e;exact⟨P0,H0,P,Os,env,M,_,_,k,ef,q⟩
 ·cases e
theorem zb7 (hg:Gl X "range")(hm:X.mg "range"=none)(ha:SA X Wx .val [a,b] fs)(hs:starEach [a,b] X.env=[(false,eval a X.env),(false,eval b X.env)]:=by rfl)(hs2:starEach [b] X.env=[(false,eval b X.env)]:=by rfl):SI X Wx tg (.Call (.Name "range" p) [a,b] [] pos) (rQ fs):=by
 refine yt (Zr hg hm ha hs hs2) ?_;rintro st H R ⟨P0,H0,P,Os,env,M,r,M',k,e,q⟩;unfold rQ at e;split at e
 ·rename_i i j M1 ef;split at e
  ·rename_i hj;cases e;refine⟨P0,H0,P,Os,env,M,_,_,k,ef,fun P1 vs H1 l1 h1 i1=>?_⟩;obtain⟨v,ws,rfl,p,v',ws',rfl,p',rfl⟩:=i1;exact⟨i,j,by rw[show v=.int i from p,show v'=.int j from p'],⟨by omega,by omega,by omega,by omega⟩,q P1 H1 _ l1 h1 Sg⟩
  ·cases e
 ·rename_i c n M1 ef;cases e;exact⟨P0,H0,P,Os,env,M,_,_,k,ef,q⟩
 ·cases e
def nQ:Env->Mm->Option (Option Int×Mm):=fun _ M=>some (none,M)
noncomputable def mK (f:E):Env->Mm->Option (Option Int×Mm):=fun env M=>match f env M with
 |some (.v (.int i),M1)=>some (some i,M1)
 |_=>none
noncomputable def tP (K:Fgx) (mg:Mgx) (f:Env->Mm->Option (Option Int×Mm)):TO:=fun st H Q=>∃P0 H0 P Os env M i M',Ok K mg P0 H0 P Os H M st env/\f env M=some (i,M')/\∀P' H',LtE P H P' H'->Hk K mg P' H' M'->Q i H'
def tO (X:Cx)(e:Option Expr)(f:Env->Mm->Option (Option Int×Mm)):Prop:=PO X e (tP X.K X.mg f)
theorem O6 (h:PO X e t)(w:∀σ H Q,t' σ H Q->t σ H Q):PO X e t':=fun pins s σ H Q I hw=>h pins s σ H Q I (w σ H Q hw)
theorem CP:tO X none nQ:=by
 refine O6 ZG ?_;rintro st H Q ⟨P0,H0,P,Os,env,M,i,M',k,e,q⟩;cases e;exact q P H (LtE.refl P H) k.hk
theorem CN (h:SE X Wx .val e f):tO X (some e) (mK f):=by
 refine O6 (ZJ h) ?_;rintro st H Q ⟨P0,H0,P,Os,env,M,i,M',k,e,q⟩;unfold mK at e;split at e
 ·rename_i j M1 ef;cases e;exact⟨P0,H0,P,Os,env,M,_,_,k,ef,fun P1 v H1 l1 h1 i1=>⟨j,i1,q P1 H1 l1 h1⟩⟩
 ·cases e
noncomputable def dU {α:Type} (xs:List α) (lo hi:Option Int):List α:=(xs.drop (HT.aX xs.length 0 lo)).take (HT.aX xs.length xs.length hi - HT.aX xs.length 0 lo)
theorem Mh {K:Fgx}{P:Pl}{H:Hp}{ds:List D}{vs:List V}{lo hi:Option Int}(q:aC K P H ds vs):aC K P H (dU ds lo hi) (fj vs lo hi):=by
 unfold dU fj;rw[q.len];exact(q.drop _).take _
noncomputable def vU (d:D) (lo hi:Option Int):Option D:=match d with
 |.lst ds=>some (.lst (dU ds lo hi))
 |.str z=>if z.length<=sizeLine then some (.str (Txt.slice z lo hi)) else none
 |_=>none
noncomputable def vQ (f:E) (l h:Env->Mm->Option (Option Int×Mm)):E:=fun env M=>bnd (f env M) fun d M1=>match l env M1 with
  | some (lo, M2) => (match h env M2 with
    |some (hi,M3)=>(vU (vw M3 d) lo hi).map fun z=>(.v z,M3)
    |none=>none)
  |none=>none
theorem JW {e:Expr}{lo hi:Option Expr}{p2 pos:Pos}{f:E}{l h:Env->Mm->Option (Option Int×Mm)}(he:SE X Wx .bor e f)(hl:tO X lo l)(hh:tO X hi h):SE X Wx m (.Subscript e (.Slice lo hi none p2) pos) (vQ f l h):=by
 refine b_ (O3 (zbs.or zc3) he hl hh) ?_;rintro st H Q ⟨P0,H0,P,Os,env,M,r,M',k,e,q⟩;unfold vQ at e;rcases cu e with⟨d,M1,e1,e⟩ |⟨c,n,e1,rfl⟩
 ·split at e
  ·rename_i lo' M2 el;split at e
   ·rename_i hi' M3 eh;rw[xad]at e;obtain⟨z,ez,e⟩:=e;cases e;refine aU k e1 fun P1 v1 H1 l1 h1 i1=>⟨P0,H0,P1,Os,env,M1,_,_,k.next l1 h1,el,fun P2 H2 l2 h2=>⟨P0,H0,P2,Os,env,M2,_,_,(k.next l1 h1).next l2 h2,eh,fun P3 H3 l3 h3=>?_⟩⟩
    have i3:=cj.vw h3 (cj.lt l3 h2 (cj.lt l2 h1 i1));have fin:∀u H',Same H3 H'->Is X.K P3 H' z u->Q u H':=fun u H' s i=>q P3 u H' (l1.trans (l2.trans (l3.trans (LtE.same s)))) (h3.same s) (cA.of (h3.same s) i);generalize vw M' d=d' at i3 ez;unfold vU at ez;split at ez
    ·cases ez;obtain⟨a,vs,rfl,r,s⟩:=i3;exact .inl ⟨a,vs,rfl,r,Ot h3.new (Mh s) fin⟩
    ·split at ez
     ·rename_i hz;cases ez;cases i3;exact .inr ⟨_,rfl,hz,fin _ _ (Same.refl _) rfl⟩
     ·cases ez
    ·cases ez
   ·cases e
  ·cases e
 ·exact aU k e1 q
noncomputable def yL (f:E):E:=fun env M=>bnd (f env M) fun d M1=>match d with
 |.lst ds=>some (.v (.ref M1.length),M1 ++ [.lst ds])
 |_=>none
theorem Ra (h:SN X Wx e f):SE X Wx m e (yL f):=by
  refine b_ h ?_;rintro st H Q ⟨P0,H0,P,Os,env,M,r,M',k,e,q⟩;unfold yL at e;rcases cu e with⟨d,M1,e1,e⟩ |⟨c,n,e1,rfl⟩
  · cases d<;>simp only[reduceCtorEq]at e
    rename_i ds;cases e;refine⟨P0,H0,P,Os,env,M,_,_,k,e1,ds,rfl,fun P1 a vs H1 l1 h1 ha ba nc ea is=>?_⟩;have hn:P1.n=M1.length:=h1.n
    let P2:Pl:={io:=fun j=>if j=P1.n then a else P1.io j,n:=P1.n + 1,bd:=P1.bd}
    have io : ∀ j, j < P1.n -> P2.io j = P1.io j := fun j hj => xai (by omega);have ioN : P2.io P1.n = a := xab rfl;have l2 : Lt P1 H1 P2 H1 := ⟨xbw _, io, fun _ z => .inl z, fun _ _ e _ => e, fun _ z => z⟩;have le : LtE P H P2 H1 := ⟨xdd l1.n,fun j hj=>(io j (xaf hj l1.n)).trans (l1.io j hj),l1.bd,l1.bm,l1.keep,l1.sure,fun j h2 h3=>by
      rcases xaM j P1.n with z |z
      · rw[io j z];exact l1.nw j h2 z
      · have:j=P1.n:=xa3 (xa0 h3) z;rw[this,ioN];exact ha⟩
    have hk2:Hk X.K X.mg P2 H1 (M1 ++ [.lst ds]):=by
      refine⟨by rw[xap, <-hn];rfl,fun j c ej=>?_,fun i j hi hj e=>?_,fun j hj=>?_,h1.here⟩
      · rcases xaM j P1.n with z |z
        · rw[xaz (by rw[<-hn];exact z)]at ej;rw[io j z];exact(h1.cell j c ej).lt l2 fun _ z=>z
        · have jl:=(xak.mp ej).1;rw[xap,xbX, <-hn]at jl;have:j=P1.n:=by omega
          subst this;rw[xaB (by rw[hn];exact xah _),hn,Nat.sub_self]at ej;cases ej;rw[ioN];exact⟨vs,ea,aC.lt l2 is⟩
      · rcases xaM i P1.n with z |z
        · rcases xaM j P1.n with y |y
          · rw[io i z,io j y]at e;exact h1.inj i j z y e
          · have:j=P1.n:=xa3 (xa0 hj) y;rw[io i z,this,ioN]at e;exact absurd e (nc i z)
        · have iN:i=P1.n:=xa3 (xa0 hi) z;rcases xaM j P1.n with y |y
          · rw[iN,ioN,io j y]at e;exact absurd e.symm (nc j y)
          · rw[iN];exact xa3 y (xa0 hj)
      · rcases xaM j P1.n with z |z
        · rw[io j z];exact h1.bd j z
        · have:j=P1.n:=xa3 (xa0 hj) z;rw[this,ioN];exact ba
    exact q P2 _ H1 le hk2 (cA.of hk2 (show Is _ _ _ (.ref _) _ from⟨by show _<P1.n + 1;rw[hn];exact xbt _,by rw[<-hn,ioN]⟩))
  · exact⟨P0,H0,P,Os,env,M,_,_,k,e1,q⟩
noncomputable def rz (f g:E):S:=fun env M=>bY (f env M) fun d M1=>match d with
  | .ref j => (match M1[j]? with
    | some (.lst _) => bY (g env M1) fun y M2 => (match M2[j]? with
      |some (.lst ds)=>if ds.length<sizeLine then some (.nx env,M2.set j (.lst (ds ++ [y]))) else none
      |_=>none)
    |_=>none)
  |_=>none
theorem zm (ho:SE X Wx .val o f)(he:SE X Wx .val e g)(hbase:attributeBase o "append" X.env (eval o X.env)=eval o X.env:=by rfl)
  (hfew:((backTo q (starEach [e] X.env)).all (fun x=> !x.1) && (backToKw q (keywordEach [] X.env)).all (fun x=>x.1.isSome) && decide ([e].length + ([]:List Keyword).length + (if ([]:List Keyword).isEmpty then 0 else 1)<30))=true:=by rfl)
  (hline:(p.endLine==q.line)=true:=by rfl) (hs:starEach [e] X.env=(false,eval e X.env)::starEach [] X.env:=by rfl) (hw:swapsWith (.Call (.Attribute o "append" p) [e] [] q) none pos.line X.env=pure false:=by rfl):
  SS X Wx (.Expr (.Call (.Attribute o "append" p) [e] [] q) pos) (rz f g):=by
 refine gD (Bj (Bf xbN xdn xdo Gs ho (nR he p8 hs) hbase hfew hline hs rfl) hw) ?_;rintro D st H ⟨P0,H0,P,Os,env,M,out,M',k,e,q⟩;unfold rz at e;rcases kO e with⟨d,M1,e1,e⟩ |⟨c,n,e1,rfl⟩
 ·cases d<;>simp only[reduceCtorEq]at e
  rename_i j;split at e
  rotate_left
  ·cases e
  rename_i ds0 em0;refine⟨P0,H0,P,Os,env,M,_,_,k,e1,fun P1 v1 H1 l1 h1 i1=>?_⟩;have k1:=k.next l1 h1
  obtain⟨jl,rfl⟩:j<P1.n/\v1=.ref (P1.io j):=i1;obtain⟨vs0,ev0,_⟩:=h1.cell j _ em0;refine⟨.inl ⟨rfl,vs0,.inl (.inl ev0)⟩,?_⟩;rcases kO e with⟨y,M2,e2,e⟩ |⟨c,n,e2,rfl⟩
  ·split at e
   ·rename_i ds em;split at e
    ·rename_i hz;cases e;refine aU k1 e2 fun P2 v2 H2 l2 h2 i2=>?_;obtain⟨vs,ev,is⟩:=h2.cell j _ em;rw[l2.io j jl]at ev;have i3:=Is.lt (Lt.refl P2 H2) i2;refine⟨P1.io j,vs,v2,rfl,rfl,ev,by rw[is.len];exact hz,?_⟩;have eio:P2.io j=P1.io j:=l2.io j jl;have jl2:j<P2.n:=xaf jl l2.n;obtain⟨o0,eo0,nf0⟩:=h2.cellAt em;have lc:Lt P2 H2 P2 (upd H2 (P2.io j) (.lst (vs ++ [v2]))):=vf (h2.bd j jl2) eo0 nf0;obtain⟨l3,l3e,h3⟩:=h2.set (c':=.lst (ds ++ [y])) (o':=.lst (vs ++ [v2])) em ⟨vs ++ [v2],bR,aC.append (aC.lt lc is) (aC.one (Is.lt lc i2))⟩;rw[eio]at l3 l3e h3;exact q _ _ _ _ ((l1.lt k.hk).trans ((l2.lt h1).trans l3)) ((k1.next l2 h2).next l3e h3)
    ·cases e
   ·cases e
  ·exact aU k1 e2 q
 ·exact⟨P0,H0,P,Os,env,M,_,_,k,e1,q⟩
end
section
variable {X:Cx}{Wx:XW}{m:Mode}{pos:Pos}
noncomputable def lU:D->Option D
 |.int i=>some (.int (-i))
 |_=>none
theorem Pj {K:Fgx}:Dy K (rU fun i=>.int (-i)) lU:=fun P H d z v Q h i _ q=>by
 unfold lU at h;split at h
 ·cases h;cases i;exact⟨_,rfl,q _ H (Same.refl H) rfl⟩
 ·cases h
theorem Ri (ho:zM X (unaryOp op) r)(po:Dy X.K r o)(ha:SE X Wx .bor a f):SE X Wx m (.UnaryOp op a pos) (s1 o f):=
 b_ (Zk ho ha) fun _ _ _ h=>zd1 po h
noncomputable def d7 (c c':Cp) (f g h:E):E:=fun env M=>bnd (f env M) fun x M1=>bnd (g env M1) fun y M2=>match bN c (vw M2 x) (vw M2 y) with
 |some true=>bnd (h env M2) fun z M3=>(bN c' (vw M3 y) (vw M3 z)).map fun b=>(.v (.bl b),M3)
 |some false=>some (.v (.bl false),M2)
 |none=>none
theorem T8 {c c':Cp}{f g h:E}{st:L2.St}{H:Hp}{Q:VK}(w:tE X.K X.mg Wx m (d7 c c' f g h) st H Q):RP (yD X.K c) (yD X.K c') (tE X.K X.mg Wx .bor f) (tE X.K X.mg Wx .bor g) (tE X.K X.mg Wx .bor h) st H Q:=by
  obtain⟨P0,H0,P,Os,env,M,rr,M',k,e,q⟩:=w;unfold d7 at e;rcases cu e with⟨x,M1,e1,e⟩ |⟨c,n,e1,rfl⟩
  · refine aU k e1 fun P1 v1 H1 l1 h1 i1=>?_;have k1:=k.next l1 h1
    rcases cu e with⟨y,M2,e2,e⟩ |⟨c,n,e2,rfl⟩
    · refine aU k1 e2 fun P2 v2 H2 l2 h2 i2=>?_;have k2:=k1.next l2 h2
      have w1:=cj.vw h2 (cj.lt l2 h1 i1);have w2:=cj.vw h2 i2;split at e
      · rename_i ec;refine z9 ec w1 w2 ⟨true,rfl,?_⟩;rw[xab rfl];rcases cu e with⟨z,M3,e3,e⟩ |⟨c,n,e3,rfl⟩
        · refine aU k2 e3 fun P3 v3 H3 l3 h3 i3=>?_;rw[xad]at e;obtain⟨b,eb,e⟩:=e;cases e;exact z9 eb (cj.vw h3 (cj.lt l3 h2 i2)) (cj.vw h3 i3) (q P3 _ H3 (l1.trans (l2.trans l3)) h3 (cA.of h3 (show Is _ _ _ (.bl b) _ from rfl)))
        · exact aU k2 e3 q
      · rename_i ec;cases e;refine z9 ec w1 w2 ⟨false,rfl,?_⟩;rw[xai (by decide)];exact q P2 _ H2 (l1.trans l2) h2 (cA.of h2 (show Is _ _ _ (.bl false) _ from rfl))
      · cases e
    · exact aU k1 e2 q
  · exact aU k e1 q
theorem zcA (hu:X.A.units + 60<cLine)(ha:SE X Wx .bor a f)(hb:SE X Wx .bor b g)(hc:SE X Wx .bor c h)(hm:lastMarks [rM c1,rM c2] [b,c]=false:=by with_unfolding_all rfl):ST X Wx (.Compare a [rM c1,rM c2] [b,c] pos) (d7 c1 c2 f g h):=
 yx (Z1 (wK hu c1) (wK hu c2) ha hb hc hm) fun _ _ _ w=>T8 (KC w)
noncomputable def rA (f:E):E:=fun env M=>bnd (f env M) fun d M1=>match vw M1 d with
 |.lst ds=>some (.v (.lst ds),M1)
 |.tup ds=>some (.v (.lst ds),M1)
 |_=>none
theorem J0 (hg:Gl X "list")(hm:X.mg "list"=none)(he:SE X Wx .bor e f)(hs:starEach [e] X.env=(false,eval e X.env)::starEach [] X.env:=by rfl):SN X Wx (.Call (.Name "list" p) [e] [] pos) (rA f):=by
 refine b_ (O2 Tv hg hm boot_list (nR he p8 hs) (by x_go) (by x_go) hs rfl) ?_;rintro st H Q ⟨P0,H0,P,Os,env,M,r,M',k,e,q⟩;unfold rA at e;rcases cu e with⟨d,M1,e1,e⟩ |⟨c,n,e1,rfl⟩
 ·refine aU k e1 ?_;have key:∀ds,r=.v (.lst ds)->M'=M1->(∀P1 v1 H1,bM X.K P1 H1 (vw M1 d) v1->∃a vs,v1=.ref a/\(bF X.K H1 a vs\/cU X.K H1 a vs)/\aC X.K P1 H1 ds vs)->∀P1 v1 H1,LtE P H P1 H1->Hk X.K X.mg P1 H1 M1->cA X.K P1 H1 .bor d v1->
    ∃p ys,[v1]=[V.ref p]/\(bF X.K H1 p ys\/cU X.K H1 p ys)/\∀l,H1 l=none->Q (.ref l) (upd H1 l (.lst ys)):=by
   rintro ds rfl rfl hv P1 v1 H1 l1 h1 i1;obtain⟨ds',e',q⟩:=q;cases e';obtain⟨a,vs,rfl,sq,is⟩:=hv P1 v1 H1 (cj.vw h1 i1);refine⟨a,vs,rfl,sq,fun p hp=>?_⟩;obtain⟨l2,h2,nc⟩:=zW (vs:=vs) h1 hp;exact q (P1.bar p) p vs _ (l1.trans l2) h2 (l1.sure p hp) (.inr rfl) nc bR (aC.lt (l2.lt h1) is)
  split at e
  ·rename_i ds ev;cases e;exact key ds rfl rfl fun P1 v1 H1 i=>by
    rw[ev]at i;obtain⟨a,vs,e,s,is⟩:=i;exact⟨a,vs,e,.inl s,is⟩
  ·rename_i ds ev;cases e;exact key ds rfl rfl fun P1 v1 H1 i=>by
    rw[ev]at i;obtain⟨a,vs,e,s,is⟩:=i;exact⟨a,vs,e,.inr s,is⟩
  ·cases e
 ·exact aU k e1 q
theorem Gn:∀env M r M',rA f env M=some (.v r,M')->∃ds,r=.lst ds:=fun env M r M' e=>by
 unfold rA at e;rcases cu e with⟨ds,M1,e1,e⟩ |⟨c,n,e1,e⟩
 ·split at e
  ·cases e;exact⟨_,rfl⟩
  ·cases e;exact⟨_,rfl⟩
  ·cases e
 ·cases e
end
noncomputable def CK (K:Fgx) (g:G):Sp:=fun vs H Q E=>∀mg,mO K mg 1 g vs H Q E
theorem U3 {P:Program}{w:World}{K:Fgx}{mg:Mgx}{base:Heap}{k:Nat}{f:Addr}{fd:FuncData}{ps:List Str}{g:G}(F:FnOk P w K mg base eV k f fd ps (mO K mg 1 g)):FnOk P w K mg base eV k f fd ps (CK K g):=
 ⟨fun vs H Q E h=>F.len vs H Q E (h mg),fun A outer s H args us vs Q E hr he hb hv hs=>F.run A outer s H args us vs Q E hr he hb hv (hs mg)⟩
theorem Nr {K:Fgx}{P:Pl}{H:Hp}:∀ns:List Int,aC K P H (ns.map D.int) (ns.map V.int)
 | []=>rfl
 |n::ns=>⟨.int n,_,rfl,rfl,Nr ns⟩
section
variable {X:Cx}{Wx:XW}{m:Mode}{e:Expr}
theorem pB (h:PE X e (tC (.int i))):SE X Wx m e (ak (.int i)):=(Cr (d:=.int i) h fun _ _=>rfl).bor
theorem yX (h:PE X e (tC (.str z))):SE X Wx m e (ak (.str z)):=(Cr (d:=.str z) h fun _ _=>rfl).bor
theorem JR (h:PE X e (tC (.bl b))):SE X Wx m e (ak (.bl b)):=(Cr (d:=.bl b) h fun _ _=>rfl).bor
theorem sO (hN:X.N[i]? =some x)(hv:X.env.scope.names.lookup x=some .local)(hd:(x==("__debug__":Str))=false:=by x_go)(hcd:(x==("__classdict__":Str))=false:=by x_go):SE X Wx m (.Name x pos) (aj i):=(Rj hN (.inl hv) hd hcd).bor
theorem SN.sem (h:SN X Wx e f)(hf:∀env M r M',f env M=some (.v r,M')->∃ds,r=.lst ds):SE X Wx m e f:=(SN.se h hf).bor
end
noncomputable def putD (f:Str) (d:D):List (Str×D)->List (Str×D)
 | []=>[(f,d)]
 |(g,x)::r=>if g=f then(g,d)::r else(g,x)::putD f d r
section
variable {K:Fgx}{mg:Mgx}{P:Pl}{H:Hp}{M:Mm}
def lC (K:Fgx)(P:Pl)(H:Hp)(fs:List (Str×D))(gs:List (Str×V)):Prop:=gs.map (·.1)=fs.map (·.1)/\aC K P H (fs.map (·.2)) (gs.map (·.2))
theorem M6:∀{fs:List (Str×D)} {gs:List (Str×V)},lC K P H fs gs->fs.lookup f=some d->∃v,gs.lookup f=some v/\Is K P H d v
  | [],_,_,e=>by cases e
  |(g,x)::fs,[],h,_=>by cases h.1
  |(g,x)::fs,(g',y)::gs,h,e=>by
    obtain⟨h1,v,r,e1,p,q⟩:=h;simp only[xaJ,xcg]at h1 e1;obtain⟨rfl,h1⟩:=h1;obtain⟨rfl,rfl⟩:=e1;simp only[List.lookup]at e ⊢
    cases hg:f==g' with
    |true=>rw[hg]at e;cases e;exact⟨y,rfl,p⟩
    |false=>rw[hg]at e;exact M6 ⟨h1,q⟩ e
theorem M7:∀{fs:List (Str×D)} {gs:List (Str×V)},gs.map (·.1)=fs.map (·.1)->fs.lookup f=none->gs.lookup f=none
  | [],[],_,_=>rfl
  | [],_::_,h,_=>by cases h
  |_::_,[],h,_=>by cases h
  |(g,x)::fs,(g',y)::gs,h,e=>by
    simp only[xaJ,xcg]at h;obtain⟨rfl,h⟩:=h;simp only[List.lookup]at e ⊢
    cases hg:f==g' with
    |true=>rw[hg]at e;cases e
    |false=>rw[hg]at e;exact M7 h e
theorem M8 (i:Is K P H d v):∀{fs:List (Str×D)} {gs:List (Str×V)},lC K P H fs gs->lC K P H (putD f d fs) (bx f v gs)
  | [],[],_=>⟨rfl,v,[],rfl,i,rfl⟩
  | [],_::_,h=>by cases h.1
  |_::_,[],h=>by cases h.1
  |(g,x)::fs,(g',y)::gs,h=>by
    obtain⟨h1,v',r,e1,p,q⟩:=h;simp only[xaJ,xcg]at h1 e1;obtain⟨rfl,h1⟩:=h1;obtain⟨rfl,rfl⟩:=e1;unfold putD bx
    split
    · exact⟨by simp[h1],v,_,rfl,i,q⟩
    · obtain⟨a,b⟩:=M8 i (fs:=fs) (gs:=gs) ⟨h1,q⟩;exact⟨by simp[a],y,_,rfl,p,b⟩
theorem U6 (h:lC K P H fs gs):gs.length=fs.length:=by
 have:=congrArg List.length h.1
 simpa using this
end
structure ClsOk (K:Fgx)(mg:Mgx)(c:Str)(C:Addr):Prop where
 mg:mg c=some (.ref C)
 cl:Cls K C
section
variable {X:Cx}{Wx:XW}{m:Mode}{pos:Pos}
noncomputable def rZ (M:Mm) (c:Str) (d:D):Option (Nat×List (Str×D)):=match d with
  | .ref k => (match M[k]? with
    |some (.obj c' fs)=>if c'=c then some (k,fs) else none
    |_=>none)
  |_=>none
theorem Io (h:rZ M c d=some (k,fs)):d=.ref k/\M[k]? =some (.obj c fs):=by
 unfold rZ at h;split at h
 ·split at h
  ·split at h
   ·rename_i e1 e2;cases h;subst e2;exact⟨rfl,e1⟩
   ·cases h
  ·cases h
 ·cases h
noncomputable def yN (c f:Str) (o:E):E:=fun env M=>bnd (o env M) fun d M1=>match rZ M1 c d with
 |some (_,fs)=>(fs.lookup f).map fun z=>(.v z,M1)
 |none=>none
theorem zcz (hc:ClsOk X.K X.mg c C)(hn:mV X.K C f)(he:SE X Wx .val e o)(hb:attributeBase e f X.env (eval e X.env)=eval e X.env:=by rfl):SE X Wx m (.Attribute e f pos) (yN c f o):=by
 refine b_ (Y6 he hb) ?_;rintro st H Q ⟨P0,H0,P,Os,env,M,r,M',k,e,q⟩;unfold yN at e;rcases cu e with⟨d,M1,e1,e⟩ |⟨c,n,e1,rfl⟩
 ·split at e
  ·rename_i j fs eo;rw[xad]at e;obtain⟨z,ez,e⟩:=e;cases e;obtain⟨rfl,em⟩:=Io eo;refine aU k e1 fun P1 v1 H1 l1 h1 i1=>?_;obtain⟨jl,rfl⟩:j<P1.n/\v1=.ref (P1.io j):=i1;obtain⟨C',dx,gs,ec,eh,en,is⟩:=h1.cell j _ em;have eC:C'=C:=by
    have:=ec.symm.trans hc.mg;cases this;rfl
   subst eC;obtain⟨v,ev,iv⟩:=M6 ⟨en,is⟩ ez;exact⟨_,C',dx,gs,v,rfl,eh,hc.cl,hn,ev,q P1 v H1 l1 h1 (cA.of h1 iv)⟩
  ·cases e
 ·exact aU k e1 q
noncomputable def yR (c f:Str) (o v:E):S:=fun env M=>bY (v env M) fun y M1=>bY (o env M1) fun d M2=>match rZ M2 c d with
 |some (k,fs)=>if fs.length<1000 then some (.nx env,M2.set k (.obj c (putD f y fs))) else none
 |none=>none
theorem zb8 {K:Fgx}{mg:Mgx}{P:Pl}{H:Hp}{M:Mm}{j:Nat}{c f:Str}{fs:List (Str×D)}{y:D}{v:V}{C dx:Addr}{gs:List (Str×V)}(h:Hk K mg P H M)(em:M[j]? =some (.obj c fs))(ec:mg c=some (.ref C))(eh:H (P.io j)=some (.ins C dx gs))(fo:lC K P H fs gs)(iv:Is K P H y v):
  Lt P H P (upd H (P.io j) (.ins C dx (bx f v gs)))/\LtE P H P (upd H (P.io j) (.ins C dx (bx f v gs)))/\Hk K mg P (upd H (P.io j) (.ins C dx (bx f v gs))) (M.set j (.obj c (putD f y fs))):=by
 have jl:j<P.n:=by rw[h.n];exact(xak.mp em).1
 have lc:Lt P H P (upd H (P.io j) (.ins C dx (bx f v gs))):=vf (h.bd j jl) eh W4;have fp:=M8 (f:=f) iv fo;exact h.set (c':=.obj c (putD f y fs)) (o':=.ins C dx (bx f v gs)) em ⟨C,dx,bx f v gs,ec,bR,fp.1,aC.lt lc fp.2⟩
theorem zbX {c f:Str}{C:Addr}{o e:Expr}{fo fv:E}{pos':Pos}(hc:ClsOk X.K X.mg c C)(hn:mV X.K C f)(ho:SE X Wx .val o fo)(he:SE X Wx .val e fv)(hs:swapsWith e (some (.Attribute o f pos')) pos.line X.env=pure false:=by rfl):SS X Wx (.Assign [.Attribute o f pos'] e pos) (yR c f fo fv):=by
 refine gD (ZR ho he hs) ?_;rintro D st H ⟨P0,H0,P,Os,env,M,out,M',k,e,q⟩;unfold yR at e;rcases kO e with⟨y,M1,e1,e⟩ |⟨c,n,e1,rfl⟩
 ·refine aU k e1 fun P1 v1 H1 l1 h1 i1=>?_;have k1:=k.next l1 h1
  rcases kO e with⟨d,M2,e2,e⟩ |⟨c,n,e2,rfl⟩
  ·split at e
   ·rename_i j fs eo;split at e
    ·rename_i hl;cases e;obtain⟨rfl,em⟩:=Io eo;refine aU k1 e2 fun P2 v2 H2 l2 h2 i2=>?_;obtain⟨jl,rfl⟩:j<P2.n/\v2=.ref (P2.io j):=i2;obtain⟨C',dx,gs,ec,eh,en,is⟩:=h2.cell j _ em;have eC:C'=C:=by
      have:=ec.symm.trans hc.mg;cases this;rfl
     subst eC;obtain⟨l3,l3e,h3⟩:=zb8 (f:=f) h2 em ec eh ⟨en,is⟩ (Is.lt (l2.lt h1) i1);exact⟨_,C',dx,gs,rfl,eh,hc.cl,hn,by rw[U6 ⟨en,is⟩];exact hl,q _ _ _ _ ((l1.lt k.hk).trans ((l2.lt h1).trans l3)) ((k1.next l2 h2).next l3e h3)⟩
    ·cases e
   ·cases e
  ·exact aU k1 e2 q
 ·exact aU k e1 q
def lY (P:Program)(w:World)(K:Fgx)(mg:Mgx)(base:Heap)(k:Nat)(C:Addr)(m:Str)(n:Nat)(g:G):Prop:=
 ∃f fd ps,Meth K C m f/\FnOk P w K mg base eV k f fd ps (mO K mg n g)/\Binds K fd ps []
theorem lY.mono {P:Program}{w:World}{K:Fgx}{mg:Mgx}{base:Heap}{j k:Nat}{C:Addr}{m:Str}{n:Nat}{g:G}(a:lY P w K mg base j C m n g)(h:j<=k):lY P w K mg base k C m n g:=by
 obtain⟨f,fd,ps,h1,h2,h3⟩:=a;exact⟨f,fd,ps,h1,h2.mono h,h3⟩
noncomputable def vq (c m:Str) (g:G) (o:E) (fs:EA):E:=fun env M=>bnd (o env M) fun d M1=>match rZ M1 c d with
  | some (_, gs) => if gs.lookup m = none then cD (fs env M1) fun ds M2 => (match g (d::ds) M2 with
    |some (.v z,M3)=>some (.v z,M3)
    |_=>none) else none
  |none=>none
theorem zbU (hc:ClsOk X.K X.mg c C)(a:lY X.prog X.w X.K X.mg X.base k C me (n + 1) g)(hr:Room k X.A)(ho:SE X Wx .val o fo)(ha:SA X Wx .val (e::es) fs)(hn:pH n fs)
    (hst:starEach (e::es) X.env=(false,eval e X.env)::starEach es X.env:=by rfl) (hpl:(backTo pos (starEach es X.env)).any (·.1)=false:=by rfl)
    (ht : eval (.Call (.Attribute o me apos) (e :: es) [] pos) X.env = (do
      let ov <-eval o X.env
      standAt apos.atName
      let (f,first) <-holding [ov] (getMethod ov me pl)
      callWith pos f first (backTo pos (starEach (e::es) X.env)) (backToKw pos (keywordEach [] X.env))):=by rfl):
    SE X Wx m (.Call (.Attribute o me apos) (e::es) [] pos) (vq c me g fo fs):=by
  obtain⟨f,fd,ps,hm,F,hb⟩:=a;refine b_ (Zc ho hc.cl hm F hr hb .nil Ir ha hst hpl ht) ?_;rintro st H Q ⟨P0,H0,P,Os,env,M,r,M',k,e,q⟩;unfold vq at e;rcases cu e with⟨d,M1,e1,e⟩ |⟨c,n,e1,rfl⟩
  · split at e
    · rename_i j gs eo;split at e
      · rename_i hl;obtain⟨rfl,em⟩:=Io eo;refine aU k e1 fun P1 v1 H1 l1 h1 i1=>?_;have k1:=k.next l1 h1
        obtain⟨jl,rfl⟩:j<P1.n/\v1=.ref (P1.io j):=i1;obtain⟨C',dx,vs,ec,eh,en,is⟩:=h1.cell j _ em;have eC:C'=C:=by
          have:=ec.symm.trans hc.mg;cases this;rfl
        subst eC;refine⟨_,dx,vs,rfl,eh,M7 en hl,?_⟩;rcases m8 e with⟨ds,M2,e2,e⟩ |⟨c,n,e2,rfl⟩
        · split at e
          · rename_i z M3 eg;cases e;refine⟨P0,H0,P1,Os,env,M1,_,_,k1,e2,fun P2 us H2 l2 h2 i2=>?_⟩;dsimp only;rw[xax];exact⟨by rw[xao,i2.len,hn _ _ _ _ e2],P2,M2,.ref j::ds,z,_,h2,⟨_,_,rfl,⟨xaf jl l2.n,by rw[l2.io j jl]⟩,i2.iss⟩,eg,fun P3 v H3 l3 h3 i3=>q P3 v H3 (l1.trans (l2.trans l3)) h3 (cA.of h3 i3)⟩
          · cases e
        · exact⟨P0,H0,P1,Os,env,M1,_,_,k1,e2,q⟩
      · cases e
    · cases e
  · exact aU k e1 q
end
section
variable {X:Cx}{Wx:XW}{m:Mode}{pos:Pos}
theorem LK {K:Fgx}{mg:Mgx}{P:Pl}{H H':Hp}{M:Mm}{a:Addr}{c:Cl}(h:Hk K mg P H M)(s:Same H H')(ha:H a=none)(ea:H' a≠none)(hc:∀P',P'.n=P.n + 1->P'.io P.n=a->LtE P H P' H'->tD K mg P' H' a c):∃P',P'.n=P.n + 1/\P'.io P.n=a/\LtE P H P' H'/\Hk K mg P' H' (M ++ [c]):=by
 let P2:Pl:={io:=fun j=>if j=P.n then a else P.io j,n:=P.n + 1,bd:=fun b=>P.bd b\/b=a}
 have io : ∀ j, j < P.n -> P2.io j = P.io j := fun j hj => xai (by omega);have ioN : P2.io P.n = a := xab rfl;have nc : ∀ j, j < P.n -> P.io j ≠ a := fun j hj z => h.here _ (h.bd j hj) (z ▸ ha);have l : LtE P H P2 H' := ⟨xbw _,io,fun b z=>Or.imp (fun q=>q) (fun(q:b=a)=>by rw[q];exact ha) z,fun _ z=>.inl z,fun b o e _=>s b o e,fun b z=>s.free z,fun j h2 h3=>by
  have:j=P.n:=xa3 (xa0 h3) h2;rw[this,ioN];exact ha⟩
 refine⟨P2,rfl,ioN,l,⟨by rw[xap, <-h.n];rfl,fun j d ej=>?_,fun i j hi hj e=>?_,fun j hj=>?_,fun b z=>?_⟩⟩
 ·rcases xaM j P.n with z |z
  ·rw[xaz (by rw[<-h.n];exact z)]at ej;rw[io j z];exact(h.cell j d ej).lt (l.lt h) fun o eo=>s _ _ eo
  ·have jl:=(xak.mp ej).1;rw[xap,xbX, <-h.n]at jl;have:j=P.n:=by omega
   subst this;rw[xaB (by rw[h.n];exact xah _),h.n,Nat.sub_self]at ej;cases ej;rw[ioN];exact hc P2 rfl ioN l
 ·rcases xaM i P.n with z |z
  ·rcases xaM j P.n with y |y
   ·rw[io i z,io j y]at e;exact h.inj i j z y e
   ·have:j=P.n:=xa3 (xa0 hj) y;rw[io i z,this,ioN]at e;exact absurd e (nc i z)
  ·have iN:i=P.n:=xa3 (xa0 hi) z;rcases xaM j P.n with y |y
   ·rw[iN,ioN,io j y]at e;exact absurd e.symm (nc j y)
   ·rw[iN];exact xa3 y (xa0 hj)
 ·rcases xaM j P.n with z |z
  ·rw[io j z];exact .inl (h.bd j z)
  ·have:j=P.n:=xa3 (xa0 hj) z;rw[this,ioN];exact .inr rfl
 ·rcases z with z |z
  ·exact fun q=>h.here b z (s.free q)
  ·rw[z];exact ea
def lX (P:Program)(w:World)(K:Fgx)(mg:Mgx)(base:Heap)(k:Nat)(C:Addr)(n:Nat)(g:G):Prop:=
 ∃f fd ps,Mk K C f/\FnOk P w K mg base eV k f fd ps (mO K mg n g)/\Binds K fd ps []
noncomputable def yQ (c:Str) (g:G) (fs:EA):E:=fun env M=>cD (fs env M) fun ds M1=>match g (.ref M1.length::ds) (M1 ++ [.obj c []]) with
 |some (.v .non,M2)=>some (.v (.ref M1.length),M2)
 |_=>none
theorem zbR {c:Str}{C:Addr}{k n:Nat}{g:G}{e:Expr}{es:List Expr}{fs:EA}{p:Pos}(hc:ClsOk X.K X.mg c C)(a:lX X.prog X.w X.K X.mg X.base k C (n + 1) g)(hr:Room (k + 1) X.A)(hg:Gl X c)(ha:SA X Wx .val (e::es) fs)(hn:pH n fs)(hdb:(c==("__debug__":Str))=false:=by x_go)
  (he:starEach (e::es) X.env=(false,eval e X.env)::starEach es X.env:=by rfl) (hpl:(backTo pos (starEach es X.env)).any (·.1)=false:=by rfl):SE X Wx m (.Call (.Name c p) (e::es) [] pos) (yQ c g fs):=by
 obtain⟨f,fd,ps,mk,F,hb⟩:=a;refine b_ (Zb mk F hr hg hc.mg hb .nil Ir ha hdb he hpl) ?_;rintro st H Q ⟨P0,H0,P,Os,env,M,r,M',k,e,q⟩;unfold yQ at e;rcases m8 e with⟨ds,M1,e1,e⟩ |⟨c,n,e1,rfl⟩
 ·split at e
  ·rename_i M2 eg;cases e;refine⟨P0,H0,P,Os,env,M,_,_,k,e1,fun P1 vs H1 l1 h1 i1=>fun x dx hx hdx ne=>?_⟩;have s2:Same H1 (upd (upd H1 dx (.own x)) x (.ins C dx [])):=fun b o eb=>by
    rw[aQ (eG eb hx),aQ (eG eb hdx)];exact eb
   obtain⟨P2,n2,io2,l2,h2⟩:=LK (c:=.obj c []) h1 s2 hx (by rw[bR];exact fun z=>nomatch z) fun P' _ _ _=>⟨C,dx,[],hc.mg,bR,rfl,rfl⟩
   have el:P1.n=M1.length:=h1.n;have iref:Is X.K P2 (upd (upd H1 dx (.own x)) x (.ins C dx [])) (.ref M1.length) (.ref x):=⟨by rw[n2,el];exact xbt _,by rw[<-el,io2]⟩;refine⟨by rw[xax,xao,i1.len,hn _ _ _ _ e1],P2,M1 ++ [.obj c []],.ref M1.length::ds,.non,_,h2,⟨_,_,rfl,iref,by rw[xax];exact aC.lt (l2.lt h1) i1.iss⟩,eg,fun P3 v H3 l3 h3 i3=>⟨i3,?_⟩⟩;refine q P3 _ H3 (l1.trans (l2.trans l3)) h3 (cA.of h3 (Is.lt (l3.lt h2) iref))
  ·cases e
 ·exact⟨P0,H0,P,Os,env,M,_,_,k,e1,q⟩
end
end E3
namespace E3
open PySem PySem.Spec PyProof.Rows L2 PySem.W
noncomputable def bf {α:Type} (lt:Nat->Nat->Option Bool):KasT α->Option α
  |.ret a=>some a
  |.ask i j k=>match lt i j with
    |some b=>bf lt (k b)
    |none=>none
theorem wp_run {α:Type}{cmp:Nat->Nat->(Bool->Shared->Prop)->Shared->Prop}{lt:Nat->Nat->Option Bool}{R:Shared->Prop}(hc:∀i j b s C,lt i j=some b->R s->(∀s',R s'->C b s')->cmp i j C s):∀(t:KasT α) (a:α) (s:Shared) (Q:α->Shared->Prop),bf lt t=some a->R s->(∀s',R s'->Q a s')->t.kasWp cmp Q s
  |.ret a',a,s,Q,e,r,q=>by
    cases e;exact q s r
  |.ask i j k,a,s,Q,e,r,q=>by
    unfold bf at e;split at e
    · rename_i b eb;exact hc i j b s _ eb r fun s' r'=>wp_run hc (k b) a s' Q e r' q
    · cases e
def fO (a:Addr)(h h':Heap):Prop:=∀b o,b≠a->h.get? b=some o->h'.get? b=some o
def Grows (h h':Heap):Prop:=∀b o,h.get? b=some o->h'.get? b=some o
noncomputable def fX (h:Heap) (a:Addr) (vs:List Value):Heap:=((h.update a (Obj.mapSeq fun _=> #[])).push (seqObj "tuple" vs.toArray 0)).push (seqObj "list" #[] 0)
noncomputable def dR (h:Heap) (vs:List Value):Heap:=((h.push (seqObj "list" #[] 0)).update h.objs.size (Obj.mapSeq (· ++ vs.toArray))).push (seqObj "list" vs.toArray 0)
theorem fO.upd (h:Heap)(a:Addr)(f:Obj->Obj):fO a h (h.update a f):=fun b o nb e=>by rw[(xcd h a f).2 b nb];exact e
theorem fO.push (s:fO a h h')(o:Obj):fO a h (h'.push o):=fun b u nb e=>xaa _ (s b u nb e)
theorem Og (h:Heap)(a:Addr)(vs:List Value):fO a h (fX h a vs):=((fO.upd h a _).push _).push _
theorem Ab (h:Heap)(vs:List Value):((h.push (seqObj "list" #[] 0)).update h.objs.size (Obj.mapSeq (· ++ vs.toArray))).objs.size=h.objs.size + 1:=(Heap.size_update ..).trans (size_push' h _)
theorem Mf (h:Heap)(vs:List Value):Grows h (dR h vs):=fun b o e=>by
 have lt:=xaj e;unfold dR;rw[Heap.get?_push_ne _ _ _ (by rw[Ab];exact xaq (xcp lt)),Heap.get?_update_ne _ _ _ _ (xaq lt),Heap.get?_push_ne _ _ _ (xaq lt)];exact e
theorem Aa (h:Heap)(vs:List Value):(dR h vs).get? (h.objs.size + 1)=some (seqObj "list" vs.toArray 0):=by
 rw[<-Ab h vs];exact xal _ rfl
noncomputable def pL (vs:List Value) (p:Array Nat):Array Value:=List.toArray (p.toList.map fun i=>vs.getD i Value.none)
section
variable {prog:Program}{w:World}{A:Around}{E:Value->Shared->Prop}{s:Shared}
theorem zbh (ho:s.heap.get? a=some (seqObj "list" vs.toArray n))(h2:2<=vs.length)(h64:vs.length<64)
  (hk:∀(h':Heap) (Q':SortKind->Shared->Prop),fO a s.heap h'->Q' κ {s with heap:=h'}->wpAny (model prog w) A (keyKind' vs.toArray) Q' (fun _ _=>False) {s with heap:=h'})
  (hc:∀(h':Heap),fO a s.heap h'->∀i j b tk C,lt i j=some b->(∀tk,C b {s with heap:=h',toks:=tk})->kas_ask prog w A κ vs i j C {s with heap:=h',toks:=tk})
  (hr:bf lt (kas_sort vs.length)=some p)
  (q:∀(h':Heap) tk c,p.size=vs.length->fO a s.heap h'->h'.get? a=some (seqObj "list" (pL vs p) c)->P (.done (.ret .none)) {s with heap:=h',toks:=tk}):
  wpAny (model prog w) A (Builtin.«list.sort» ⟨[.ref a],[]⟩) P E s:=by
 have hz:vs.length<=sizeLine:=by rw[xaP];omega
 have st:=Og s.heap a vs;obtain⟨e1,z1⟩:∃e1,(s.heap.update a (Obj.mapSeq fun _=>(#[]:Array Value))).get? a=some (seqObj "list" #[] e1):=⟨_,xcI ho fun _=> #[]⟩;have z2:(fX s.heap a vs).get? a=some (seqObj "list" #[] e1):=xaa _ (xaa _ z1);rw[list_sort_plain];refine tG (listItems_at ho rfl (tG (xc6 ho rfl (tG (seqEpoch_at z1 rfl (tG (xdC (tG (xc7 (xbC ?_) (xa8 _))) hz)))) (by simpa using hz) (xa8 _))));show wpAny (model prog w) A _ P E {s with heap:=fX s.heap a vs};dsimp only;have two:¬ vs.toArray.size<2:=by simpa using h2
 rw [xai two, xai two];generalize fX s.heap a vs = h1 at st z2 ⊢;have kind := hk h1 (fun κ' s' => κ' = κ /\ s' = { s with heap := h1 }) st ⟨rfl, rfl⟩;refine tG (xaN kind (fun κ' s0 z => ?_) fun _ _ x => x.elim);obtain ⟨rfl, rfl⟩ := z;have tree := wp_run (cmp := kas_ask prog w A κ' vs) (R := fun s' => ∃ tk, s' = { s with heap := h1, toks := tk }) (fun i j b s' C el ⟨tk,es⟩ hC=>by
  subst es;exact hc h1 st i j b tk C el fun tk'=>hC _ ⟨tk',rfl⟩) (kas_sort vs.length) p {s with heap:=h1} (fun p' s'=>p'=p/\∃tk,s'={s with heap:=h1,toks:=tk}) hr ⟨s.toks,rfl⟩ fun s' r=>⟨rfl,r⟩
 have runs:=kat_run (E:=E) (Q:=fun st' s'=>p.size=vs.length/\arrOf st'=p.map (kas_item (vs.toArray.zip vs.toArray))/\failedOf st'=none/\∃tk,s'={s with heap:=h1,toks:=tk}) rfl h2 h64
  (fun p' st' s' a1 a2 a3 a4=>by obtain⟨rfl,a4⟩:=a4;exact⟨a1,a2,a3,a4⟩) tree
 refine tG (xaN runs ?_ fun _ _ e=>e);rintro⟨⟨⟩,st'⟩ s' ⟨hp,har,hf,tk,rfl⟩;dsimp only;have hsz:(pL vs p).size=vs.length:=by unfold pL;simp[hp]
 rw[kat_snds rfl har];obtain⟨c2,z3⟩:∃c2,(h1.update a (Obj.mapSeq fun _=>pL vs p)).get? a=some (seqObj "list" (pL vs p) c2):=⟨_,xcI z2 fun _=>pL vs p⟩;refine tG (seqEpoch_at z2 rfl (tG (xc6 z2 rfl ?_ (xa8 _) (by show(pL vs p).size<=sizeLine + 1;rw[hsz];exact xdd hz))));rw[hf];simp only[xd4,xa4,xbT];exact xac (q _ tk c2 hp (fun b o nb e=>fO.upd h1 a _ b o nb (st b o nb e)) z3)
theorem zaH (hl:s.heap.IsList l vs.toArray)(h2:2<=vs.length)(h64:vs.length<64)
  (hk:∀(h':Heap) (Q':SortKind->Shared->Prop),Grows s.heap h'->Q' κ {s with heap:=h'}->wpAny (model prog w) A.in1.in1 (keyKind' vs.toArray) Q' (fun _ _=>False) {s with heap:=h'})
  (hc:∀(h':Heap),Grows s.heap h'->∀i j b tk C,lt i j=some b->(∀tk,C b {s with heap:=h',toks:=tk})->kas_ask prog w A.in1.in1 κ vs i j C {s with heap:=h',toks:=tk})
  (hr:bf lt (kas_sort vs.length)=some p)
  (q:∀(h':Heap) tk c a,p.size=vs.length->Grows s.heap h'->s.heap.objs.size<=a->h'.get? a=some (seqObj "list" (pL vs p) c)->Q (.ref a) {s with heap:=h',toks:=tk}):
  wpAny (model prog w) A (call (.builtin "sorted") [.ref l]) Q E s:=by
 have hz:vs.length<=sizeLine:=by rw[xaP];omega
 have up:∀h',fO (s.heap.objs.size + 1) (dR s.heap vs) h'->Grows s.heap h':=fun h' st b o e=>st b o (xaq (xcp (xaj e))) (Mf s.heap vs b o e);refine xdf kind_sorted plain_sorted entry_sorted (args_sorted1 _) ?_;unfold Builtin.«sorted»;refine tG (m:=checkCount "sorted" 1 1 _) (xac (tG (collect_list hl (tG (xc7 ?_ hz)) (by simpa using hz))));rw[Ab];show wpAny _ _ _ _ _ {s with heap:=dR s.heap vs};refine tG (xbC (xbi slot_list_sort ⟨_,Aa s.heap vs,rfl⟩ entry_list_sort (zbh (s:={s with heap:=dR s.heap vs}) (Aa s.heap vs) h2 h64 (fun h' Q' st=>hk h' Q' (up h' st)) (fun h' st=>hc h' (up h' st)) hr fun h' tk c hp st e=>?_) (args_list_sort _)));exact⟨_,rfl,xac ⟨_,rfl,q h' tk c _ hp (up h' st) (xbw _) e⟩⟩
end
noncomputable def nG:List D->List D->Option Bool
 | [],[]=>some false
 |.int i::ps,.int j::qs=>if i=j then nG ps qs else some (decide (i<j))
 |.str a::ps,.str b::qs=>if a=b then nG ps qs else some (decide (a.cps.toList<b.cps.toList))
 |_,_=>none
noncomputable def vd (ds:List D) (i j:Nat):Option Bool:=match ds.getD i .non with
  | .tup xs => (match ds.getD j .non with
    |.tup ys=>nG xs ys
    |_=>none)
  |_=>none
section
variable {prog:Program}{w:World}{A:Around}{s:Shared}{K:Fgx}{P:Pl}{H:Hp}
theorem Ob (hq:Q b s):∀(xs ys:List D) (vs ws:List V) (us zs:List Value) (n:Nat),aC K P H xs vs->aC K P H ys ws->Vals vs us->Vals ws zs->nG xs ys=some b->(us.length=zs.length->fin=false)->KatLex prog w A true fin Q (us.zip zs) n s
  | [],ys,vs,ws,us,zs,n,i1,i2,r1,r2,e,hf=>by
    cases ys with
    |cons y ys=>cases e
    |nil=>
      rw[show vs=[] from i1]at r1;rw[show ws=[] from i2]at r2;cases r1;cases r2;cases e;rw[hf rfl];exact hq
  |x::xs,[],vs,ws,us,zs,n,i1,i2,r1,r2,e,hf=>by cases x<;>cases e
  |x::xs,y::ys,vs,ws,us,zs,n,i1,i2,r1,r2,e,hf=>by
    obtain⟨v,vr,rfl,p,i1⟩:=i1;obtain⟨u,wr,rfl,p',i2⟩:=i2
    cases r1 with
    |cons a1 r1=>
      cases r2 with
      |cons a2 r2=>
        have rest:nG xs ys=some b->∀n,KatLex prog w A true fin Q (List.zip _ _) n s:=fun e n=>Ob hq xs ys _ _ _ _ n i1 i2 r1 r2 e fun z=>hf (by simp[z]);rw[xci];cases x<;>cases y<;>simp only[nG,reduceCtorEq]at e
        · rename_i i j;cases p;cases p';obtain⟨t1,rfl⟩:=a1;obtain⟨t2,rfl⟩:=a2;refine kat_cons (xcY _ _ _ _ prog w _ _ ?_);split at e
          · rename_i hij;subst hij;rw[show(i==i)=true from xa5 i];exact kat_yes (rest e _)
          · rename_i hij;cases e;rw[show(i==j)=false from xaQ.mpr hij];refine kat_no ?_
            cases n with
            |zero=>exact oneLt_int hq
            |succ n=>exact kat_one _ _ (lt_int (show PySem.W.BoolBack Q (.bool _) s from hq))
        · rename_i a c;cases p;cases p';obtain⟨t1,rfl⟩:=a1;obtain⟨t2,rfl⟩:=a2;refine kat_cons (xcZ _ _ _ _ prog w _ _ ?_);split at e
          · rename_i hij;subst hij;rw[show(a==a)=true from xa5 a];exact kat_yes (rest e _)
          · rename_i hij;cases e;rw[show(a==c)=false from xaQ.mpr hij];refine kat_no ?_
            cases n with
            |zero=>exact oneLt_str hq
            |succ n=>exact kat_one _ _ (lt_str (show PySem.W.BoolBack Q (.bool _) s from hq))
end
noncomputable def tupI:D->Bool
 |.tup (.int _::_)=>true
 |_=>false
def Jr (K:Fgx):List V->Hp->VK->Prop:=fun xs H Q=>∃(P:Pl) (a:Addr) (vs:List V) (ds:List D) (p:Array Nat),xs=[.ref a]/\bF K H a vs/\aC K P H ds vs/\2<=ds.length/\ds.length<64/\ds.all tupI=true/\bf (vd ds) (kas_sort ds.length)=some p/\
 ∀l,H l=none->Q (.ref l) (upd H l (.lst (p.toList.map fun i=>vs.getD i .non)))
section
variable {X:Cx}{pins:Pnx}{σ:L2.St}{H:Hp}{s:Shared}
theorem KD (I:Inv X pins σ H s)(g:Grows s.heap h')(i:Is X.K P H (.tup xs) v)(r:RelV v u):∃a o its n ws,u=.ref a/\h'.get? a=some o/\o.cls=.type "tuple"/\o.data=.seq its n/\aC X.K P H xs ws/\Vals ws its.toList:=by
 obtain⟨a,ws,rfl,t,is⟩:=i;cases r;obtain⟨its,rv,⟨o,e1,e2,n,e3⟩,_⟩:=I.tuple t;exact⟨a,o,its.toArray,n,ws,rfl,g _ _ e1,e2,e3,is,by simpa using rv⟩
theorem R5 (I:Inv X pins σ H s)(g:Grows s.heap h'):∀(ds:List D) (vs:List V) (us:List Value),ds.all tupI=true->aC X.K P H ds vs->Vals vs us->∃fs,KatTups h' us fs/\fs.length=us.length/\∀f∈fs,∃i t,f=Value.int i t
  | [],vs,us,_,i,r=>by
    rw[show vs=[] from i]at r;cases r;exact⟨[],KatTups.nil,rfl,fun f h=>nomatch h⟩
  |d::ds,vs,us,hd,i,r=>by
    obtain⟨v,vr,rfl,p,i⟩:=i;rw[xbr,xam]at hd
    cases r with
    |cons a1 r=>
      obtain⟨fs,k,kl,kf⟩:=R5 I g ds _ _ hd.2 i r
      cases d with
      |tup xs=>
        cases xs with
        |nil=>cases (show false=true from hd.1)
        |cons x xs=>
          cases x with
          |int z=>
            obtain⟨a,o,its,n,ws,rfl,e1,e2,e3,is,rv⟩:=KD I g p a1;obtain⟨w,wr,rfl,pw,is⟩:=is;cases pw;obtain⟨its⟩:=its
            cases rv with
            |cons b1 rv=>
              obtain⟨t,rfl⟩:=b1;refine⟨.int z t::fs,KatTups.cons e1 e2 e3 rfl k,by simp[kl],fun f hf=>?_⟩;rcases xav.mp hf with rfl |hf
              · exact⟨z,t,rfl⟩
              · exact kf f hf
          |_=>cases (show false=true from hd.1)
      |_=>cases (show false=true from hd.1)
theorem KN (r:Vals vs us)(i:Nat):RelV (vs.getD i .non) (us.getD i Value.none):=by
  induction r generalizing i with
  |nil=>exact rfl
  |cons a r ih=>cases i with
    |zero=>simpa using a
    |succ i=>simpa using ih i
theorem Tz:cX X (.builtin "sorted") (Jr X.K):=by
  intro pins s σ H xs us Q I r h;obtain⟨P,a,vs,ds,p,rfl,hl,is,h2,h64,ht,hr,q⟩:=h;obtain⟨u,rfl,rx⟩:=vals1 r;cases rx;obtain⟨its,rv,pl,hz⟩:=I.list hl;have l1:its.length=ds.length:=by rw[<-rv.length,is.len]
  refine zaH (κ:=tuples' true) (lt:=vd ds) (p:=p) pl.isList (by omega) (by omega) (fun h' Q' g hq=>?_) (fun h' g i j b tk C el hC=>?_) (by rw[l1];exact hr) fun h' tk c D hp g hD eD=>?_
  · obtain ⟨fs, k, kl, kf⟩ := R5 I g ds vs its ht is rv;exact kat_kind (T := .type "int") k (by omega) (fun f hf=>by
      obtain⟨i,t,rfl⟩:=kf f hf;intro A Q E s _ q;exact xac q) (by x_go) hq
  · unfold kas_ask;unfold vd at el;split at el
    · rename_i xs ei;split at el
      · rename_i ys ej;have gi:∀k zs,ds.getD k .non=.tup zs->Is X.K P H (.tup zs) (vs.getD k .non):=fun k zs ek=>by
          rw[xaC]at ek
          cases e:ds[k]? with
          |none=>rw[e]at ek;cases ek
          |some d=>
            rw[e]at ek;obtain⟨v,ev,iv⟩:=is.get e;rw[xaC,ev];simp only[xb6]at ek ⊢;rw[<-ek];exact iv
        obtain⟨a1,o1,t1,n1,w1,e1,f1,f2,f3,f4,f5⟩:=KD I g (gi i xs ei) (KN rv i);obtain⟨a2,o2,t2,n2,w2,e2,g1,g2,g3,g4,g5⟩:=KD I g (gi j ys ej) (KN rv j);rw[e1,e2];refine kat_lt (s:={s with heap:=h',toks:=tk}) f1 f3 g1 g3 (Ob (hC tk) xs ys w1 w2 _ _ 0 f4 g4 f5 g5 el fun z=>?_);simp only[xaY]at z
        simp[z]
      · cases el
    · cases el
  · have hv:Vals (p.toList.map fun i=>vs.getD i .non) (p.toList.map fun i=>its.getD i Value.none):=by
      induction p.toList with
      |nil=>exact .nil
      |cons i r ih=>exact .cons (KN rv i) ih
    have hlen:(p.toList.map fun i=>vs.getD i V.non).length<=sizeLine:=by
      rw[xar,xaY,hp, <-rv.length];exact hz
    exact⟨.ref D,_,I.laid (o:=.lst (p.toList.map fun i=>vs.getD i .non)) g hD ⟨hlen,_,c,hv,eD⟩,rfl,q D (I.hok.fresh hD)⟩
end
section
variable {prog:Program}{w:World}{A:Around}{E:Value->Shared->Prop}{s:Shared}
theorem zbj {a:Addr}{n:Nat}{vs:List Value}{P:PySem.Fin->Shared->Prop}(ho:s.heap.get? a=some (seqObj "list" vs.toArray n))(h2:vs.length<2)
  (q:∀(h':Heap) c,fO a s.heap h'->h'.get? a=some (seqObj "list" vs.toArray c)->P (.done (.ret .none)) {s with heap:=h'}):
  wpAny (model prog w) A (Builtin.«list.sort» ⟨[.ref a],[]⟩) P E s:=by
 have hz:vs.length<=sizeLine:=by rw[xaP];omega
 have st:=Og s.heap a vs;obtain⟨e1,z1⟩:∃e1,(s.heap.update a (Obj.mapSeq fun _=>(#[]:Array Value))).get? a=some (seqObj "list" #[] e1):=⟨_,xcI ho fun _=> #[]⟩;have z2:(fX s.heap a vs).get? a=some (seqObj "list" #[] e1):=xaa _ (xaa _ z1);rw[list_sort_plain];refine tG (listItems_at ho rfl (tG (xc6 ho rfl (tG (seqEpoch_at z1 rfl (tG (xdC (tG (xc7 (xbC ?_) (xa8 _))) hz)))) (by simpa using hz) (xa8 _))));show wpAny (model prog w) A _ P E {s with heap:=fX s.heap a vs};dsimp only;have two:vs.toArray.size<2:=by simpa using h2
 rw[xab two,xab two];generalize fX s.heap a vs=h1 at st z2 ⊢;refine tG (xac (tG (m:=(pure ():StateT SortSt Sem Unit).run _) (xac ?_)));dsimp only;have out:(arrOf (SortSt.mk' general' (vs.toArray.zip vs.toArray) #[] 7 none)).map (·.2)=vs.toArray:=by
  show(vs.toArray.zip vs.toArray).map (·.2)=vs.toArray;apply xdq.mp;simp only[Array.toList_map,Array.toList_zip];exact List.map_snd_zip (xah _)
 rw[out];obtain⟨c2,z3⟩:∃c2,(h1.update a (Obj.mapSeq fun _=>vs.toArray)).get? a=some (seqObj "list" vs.toArray c2):=⟨_,xcI z2 fun _=>vs.toArray⟩;refine tG (seqEpoch_at z2 rfl (tG (xc6 z2 rfl ?_ (xa8 _) (by rw[xae];exact xdd hz))));simp only[xd4,xa4,xbT];exact xac (q _ c2 (fun b o nb e=>fO.upd h1 a _ b o nb (st b o nb e)) z3)
theorem zaF {l:Addr}{vs:List Value}{Q:Value->Shared->Prop}(hl:s.heap.IsList l vs.toArray)(h2:vs.length<2)
  (q:∀(h':Heap) c a,Grows s.heap h'->s.heap.objs.size<=a->h'.get? a=some (seqObj "list" vs.toArray c)->Q (.ref a) {s with heap:=h'}):
  wpAny (model prog w) A (call (.builtin "sorted") [.ref l]) Q E s:=by
 have hz:vs.length<=sizeLine:=by rw[xaP];omega
 have up:∀h',fO (s.heap.objs.size + 1) (dR s.heap vs) h'->Grows s.heap h':=fun h' st b o e=>st b o (xaq (xcp (xaj e))) (Mf s.heap vs b o e);refine xdf kind_sorted plain_sorted entry_sorted (args_sorted1 _) ?_;unfold Builtin.«sorted»;refine tG (m:=checkCount "sorted" 1 1 _) (xac (tG (collect_list hl (tG (xc7 ?_ hz)) (by simpa using hz))));rw[Ab];show wpAny _ _ _ _ _ {s with heap:=dR s.heap vs};refine tG (xbC (xbi slot_list_sort ⟨_,Aa s.heap vs,rfl⟩ entry_list_sort (zbj (s:={s with heap:=dR s.heap vs}) (Aa s.heap vs) h2 fun h' c st e=>?_) (args_list_sort _)));exact⟨_,rfl,xac ⟨_,rfl,q h' c _ (up h' st) (xbw _) e⟩⟩
end
section
variable {X:Cx}{Wx:XW}
def Jk (K:Fgx):List V->Hp->VK->Prop:=fun xs H Q=>∃(a:Addr) (vs:List V),xs=[.ref a]/\bF K H a vs/\vs.length<2/\∀l,H l=none->Q (.ref l) (upd H l (.lst vs))
theorem Tn:cX X (.builtin "sorted") (Jk X.K):=by
 intro pins s σ H xs us Q I r h;obtain⟨a,vs,rfl,hl,h2,q⟩:=h;obtain⟨u,rfl,rx⟩:=vals1 r;cases rx;obtain⟨its,rv,pl,hz⟩:=I.list hl;refine zaF pl.isList (by rw[<-rv.length];exact h2) fun h' c D g hD eD=>?_;exact⟨.ref D,_,I.laid (t':=s.toks) (o:=.lst vs) g hD ⟨hz,its,c,rv,eD⟩,rfl,q D (I.hok.fresh hD)⟩
noncomputable def lu (ds:List D):Option (List D):=if ds.length<2 then some ds else if ds.length<64/\ds.all tupI=true then(bf (vd ds) (kas_sort ds.length)).map fun p=>p.toList.map fun i=>ds.getD i .non else none
theorem Ry {K:Fgx}{P:Pl}{H:Hp}{ds:List D}{vs:List V}(is:aC K P H ds vs):∀l:List Nat,aC K P H (l.map fun i=>ds.getD i .non) (l.map fun i=>vs.getD i .non)
  | []=>rfl
  |i::l=>by
    refine⟨_,_,rfl,?_,Ry is l⟩;dsimp only;rw[xaC,xaC]
    cases e:ds[i]? with
    |none=>
      have:vs[i]? =none:=xbF.mpr (by rw[is.len];exact xbF.mp e);rw[this];rfl
    |some d=>
      obtain⟨v,ev,iv⟩:=is.get e;rw[ev];exact iv
noncomputable def rC (f:E):E:=fun env M=>bnd (f env M) fun d M1=>match vw M1 d with
 |.lst ds=>(lu ds).map fun es=>(.v (.lst es),M1)
 |_=>none
theorem boot_sorted:bootBuiltins "sorted"=some (.builtin "sorted"):=by kernel_rfl
theorem Ru (hg:Gl X "sorted")(hm:X.mg "sorted"=none)(he:SE X Wx .bor e f)(hs:starEach [e] X.env=(false,eval e X.env)::starEach [] X.env:=by rfl):SN X Wx (.Call (.Name "sorted" p) [e] [] pos) (rC f):=by
 refine b_ (Iu (Tn.or Tz) hg hm boot_sorted (nR he p8 hs) (by x_go) (by x_go) hs rfl) ?_;rintro st H Q ⟨P0,H0,P,Os,env,M,r,M',k,e,q⟩;unfold rC at e;rcases cu e with⟨d,M1,e1,e⟩ |⟨c,n,e1,rfl⟩
 ·refine aU k e1 fun P1 v1 H1 l1 h1 i1=>?_;have iw:=cj.vw h1 i1;split at e
  ·rename_i ds ev;rw[xad]at e;obtain⟨es,ez,e⟩:=e;cases e;obtain⟨ds',e',q⟩:=q;cases e';rw[ev]at iw;obtain⟨a,vs,rfl,sq,is⟩:=iw;have fin:∀ws,aC X.K P1 H1 es ws->∀l,H1 l=none->Q (.ref l) (upd H1 l (.lst ws)):=fun ws iws l hl=>by
    obtain⟨l2,h2,nc⟩:=zW (vs:=ws) h1 hl;exact q (P1.bar l) l ws _ (l1.trans l2) h2 (l1.sure l hl) (.inr rfl) nc bR (aC.lt (l2.lt h1) iws)
   unfold lu at ez;split at ez
   ·rename_i hlt;cases ez;exact .inl ⟨a,vs,rfl,sq,by rw[is.len];exact hlt,fin vs is⟩
   ·split at ez
    ·rename_i h2 h3;rw[xad]at ez;obtain⟨p,ep,rfl⟩:=ez;exact .inr ⟨P1,a,vs,ds,p,rfl,sq,is,by omega,h3.1,h3.2,ep,fin _ (Ry is _)⟩
    ·cases ez
  ·cases e
 ·exact aU k e1 q
theorem Rz:∀env M r M',rC f env M=some (.v r,M')->∃ds,r=.lst ds:=fun env M r M' e=>by
 unfold rC at e;rcases cu e with⟨ds,M1,e1,e⟩ |⟨c,n,e1,e⟩
 ·split at e
  ·rw[xad]at e;obtain⟨es,_,e⟩:=e;cases e;exact⟨_,rfl⟩
  ·cases e
 ·cases e
end
def Low (n:Nat)(p:Array Nat):Prop:=p.size=n/\∀x∈p.toList,x<n
theorem Low.get (h:Low n p)(hn:0<n)(i:Nat):p.getD i 0<n:=by
 rw[xbf]
 cases e:p[i]? with
 |none=>exact hn
 |some x=>exact h.2 x (by rw[xdH];exact Array.mem_of_getElem? e)
theorem run_bind:∀t:KasT α,bf lt (t.bind f)=(bf lt t).bind fun a=>bf lt (f a)
  |.ret a=>rfl
  |.ask i j k=>by
    show bf lt (.ask i j fun b=>(k b).bind f)=_;simp only[bf]
    cases lt i j with
    |none=>rfl
    |some b=>exact run_bind (k b)
section
variable {n:Nat}{lt:Nat->Nat->Option Bool}(hn:0<n)(tot:∀i j,i<n->j<n->∃b,lt i j=some b)
include hn tot
end
end E3
namespace E3
open PySem L2
section
variable {env:Env}{M M1:Mm}{f g h c:E}{d e:D}{i j:Int}{n k:Nat}{z:Str}{b:Bool}{ds es:List D}{s t:S}{x:Str}
def gn (g:S):OS->OS
 |some (.nx e,M1)=>g e M1
 |o=>o
theorem Jh:ao s t env M=gn t (s env M):=rfl
theorem Jz {e:Env}:gn t (some (.nx e,M))=t e M:=rfl
theorem JC:gn t (some (.rt d,M))=some (.rt d,M):=rfl
theorem Jt {e:Env}:gn t (some (.bk e,M))=some (.bk e,M):=rfl
theorem Jv {e:Env}:gn t (some (.ct e,M))=some (.ct e,M):=rfl
theorem Jw {a:Int}:gn t (some (.ex x a,M))=some (.ex x a,M):=rfl
theorem zeh:aq env M=some (.nx env,M):=rfl
noncomputable def zF (M:Mm):Option Slot->O
 |some (.val d)=>some (.v d,M)
 |_=>none
theorem Jj:aj k env M=zF M env[k]? :=rfl
theorem JD:zF M (some (.val d))=some (.v d,M):=rfl
theorem zdZ:ak d env M=some (.v d,M):=rfl
def mapR (M:Mm)(o:Option D):O:=o.map fun z=>(.v z,M)
theorem zd7:mapR M (some d)=some (.v d,M):=rfl
def nJ (o:D->Option D)(r:O):O:=bnd r fun d M=>mapR M (o (vw M d))
theorem q_1 {o:D->Option D}:s1 o f env M=nJ o (f env M):=rfl
theorem r_1 {o:D->Option D}:nJ o (some (.v d,M))=mapR M (o (vw M d)):=rfl
noncomputable def sZ (o:D->D->Option D) (d:D) (r:O):O:=bnd r fun e M=>mapR M (o (vw M d) (vw M e))
noncomputable def zB (o:D->D->Option D) (k:Mm->O) (r:O):O:=bnd r fun d M=>sZ o d (k M)
theorem q_2 {o:D->D->Option D}:s2 o f g env M=zB o (g env) (f env M):=rfl
theorem r_2 {o:D->D->Option D}{q:Mm->O}:zB o q (some (.v d,M))=sZ o d (q M):=rfl
theorem Js {o:D->D->Option D}:sZ o d (some (.v e,M))=mapR M (o (vw M d) (vw M e)):=rfl
theorem zeF:vw M (.int i)=.int i:=rfl
theorem zdx:vw M (.str z)=.str z:=rfl
theorem KY:vw M (.bl b)=.bl b:=rfl
theorem zeo:vw M .non=.non:=rfl
theorem zer:vw M (.tup ds)=.tup ds:=rfl
theorem zdB:vw M (.lst ds)=.lst ds:=rfl
theorem zdI:dj f env M=nJ (fun d=>(fL d).map .bl) (f env M):=rfl
theorem zc9:Bp f env M=nJ (fun d=>(fL d).map fun b=>.bl (!b)) (f env M):=rfl
noncomputable def yg (r:O):O:=bnd r fun d M=>match d with
 |.bl b=>some (.v (.bl (!b)),M)
 |_=>none
theorem zea:j5 f env M=yg (f env M):=rfl
theorem zep:yg (some (.v (.bl b),M))=some (.v (.bl (!b)),M):=rfl
noncomputable def nA (k1 k2:Mm->O) (r:O):O:=bnd r fun d M=>match d with
 |.bl b=>if b=true then k1 M else k2 M
 |_=>none
theorem zdn:dh f g env M=nA (g env) (fun M=>some (.v (.bl false),M)) (f env M):=rfl
theorem Jf:gh f g env M=nA (fun M=>some (.v (.bl true),M)) (g env) (f env M):=rfl
theorem zd6:nZ c f g env M=nA (f env) (g env) (c env M):=rfl
theorem zew {k1 k2:Mm->O}:nA k1 k2 (some (.v (.bl b),M))=if b=true then k1 M else k2 M:=rfl
noncomputable def ni (d:D):Option (ResA×Mm)->Option (ResA×Mm)
 |some (.v ds,M2)=>some (.v (d::ds),M2)
 |some (.x c n,M2)=>some (.x c n,M2)
 |none=>none
noncomputable def Fp (k:Mm->Option (ResA×Mm)):O->Option (ResA×Mm)
 |some (.v d,M1)=>ni d (k M1)
 |some (.x c n,M1)=>some (.x c n,M1)
 |none=>none
theorem zdE:au env M=some (.v [],M):=rfl
theorem zcv {fs:EA}:aA f fs env M=Fp (fs env) (f env M):=rfl
theorem zcw {q:Mm->Option (ResA×Mm)}:Fp q (some (.v d,M))=ni d (q M):=rfl
theorem zcO:ni d (some (.v ds,M))=some (.v (d::ds),M):=rfl
noncomputable def mZ (o:List D->Option D) (r:Option (ResA×Mm)):O:=cD r fun ds M=>mapR M (o (ds.map (vw M)))
theorem q_n {o:List D->Option D}{fs:EA}:sN o fs env M=mZ o (fs env M):=rfl
theorem r_n {o:List D->Option D}:mZ o (some (.v ds,M))=mapR M (o (ds.map (vw M))):=rfl
noncomputable def lH (k:List D->Mm->O):Option (ResA×Mm)->O
 |some (.v ds,M)=>k ds M
 |some (.x c n,M)=>some (.x c n,M)
 |none=>none
theorem zci {q:List D->Mm->O}:lH q (some (.v ds,M))=q ds M:=rfl
theorem zd3 {fs:EA}:bV fs env M=lH (fun ds M1=>if ds.length<=sizeLine then some (.v (.tup ds),M1) else none) (fs env M):=rfl
theorem zdo {fs:EA}:bU fs env M=lH (fun ds M1=>if ds.length<=sizeLine then some (.v (.lst ds),M1) else none) (fs env M):=rfl
def Lr:O->O
 |some (.v d,M)=>some (.v d,M)
 |_=>none
theorem zbA:Lr (some (.v d,M))=some (.v d,M):=rfl
theorem zcP {u:G}{fs:EA}:bO u fs env M=lH (fun ds M1=>Lr (u ds M1)) (fs env M):=rfl
noncomputable def cF (k:D->Mm->O):O->O
 |some (.v d,M)=>k d M
 |some (.x c n,M)=>some (.x c n,M)
 |none=>none
theorem Ju {q:D->Mm->O}:cF q (some (.v d,M))=q d M:=rfl
noncomputable def Lz (M:Mm):D->O
 |.lst ds=>some (.v (.ref M.length),M ++ [.lst ds])
 |_=>none
theorem zbY:Lz M (.lst ds)=some (.v (.ref M.length),M ++ [.lst ds]):=rfl
theorem zdb:yL f env M=cF (fun d M1=>Lz M1 d) (f env M):=rfl
noncomputable def Oc (M:Mm):D->O
 |.lst ds=>some (.v (.lst ds),M)
 |.tup ds=>some (.v (.lst ds),M)
 |_=>none
theorem zbK:Oc M (.lst ds)=some (.v (.lst ds),M):=rfl
theorem zcj:rA f env M=cF (fun d M1=>Oc M1 (vw M1 d)) (f env M):=rfl
noncomputable def sS (M:Mm):D->O
 |.lst ds=>mapR M ((lu ds).map .lst)
 |_=>none
theorem zdX:rC f env M=cF (fun d M1=>sS M1 (vw M1 d)) (f env M):=by
  unfold rC cF bnd
  cases f env M with
  |none=>rfl
  |some p=>obtain⟨r,M'⟩:=p;cases r with
    |x c n=>rfl
    |v d=>
      dsimp only;unfold sS;cases vw M' d<;>try rfl
      dsimp only;cases lu _<;>rfl
theorem PK (h:lu ds=some es):sS M (.lst ds)=some (.v (.lst es),M):=by show mapR M ((lu ds).map D.lst)=_;rw[h];rfl
noncomputable def JZ (d:D) (lo:Option Int):Option (Option Int×Mm)->O
 |some (hi,M3)=>mapR M3 (vU (vw M3 d) lo hi)
 |none=>none
noncomputable def Rr (d:D) (k:Mm->Option (Option Int×Mm)):Option (Option Int×Mm)->O
 |some (lo,M2)=>JZ d lo (k M2)
 |none=>none
theorem Ji {l u:Env->Mm->Option (Option Int×Mm)}:vQ f l u env M=cF (fun d M1=>Rr d (u env) (l env M1)) (f env M):=rfl
theorem zdM {lo:Option Int}{q:Mm->Option (Option Int×Mm)}:Rr d q (some (lo,M))=JZ d lo (q M):=rfl
theorem zeb {lo hi:Option Int}:JZ d lo (some (hi,M))=mapR M (vU (vw M d) lo hi):=rfl
theorem zdF:nQ env M=some (none,M):=rfl
noncomputable def yq:O->Option (Option Int×Mm)
 |some (.v (.int i),M)=>some (some i,M)
 |_=>none
theorem zeg:mK f env M=yq (f env M):=rfl
theorem zeD:yq (some (.v (.int i),M))=some (some i,M):=rfl
noncomputable def cL (k:D->Mm->OS):O->OS
 |some (.v d,M)=>k d M
 |some (.x c n,M)=>some (.ex c n,M)
 |none=>none
theorem zcI {q:D->Mm->OS}:cL q (some (.v d,M))=q d M:=rfl
theorem zdy:aO k f env M=cL (fun d M1=>if k<env.length then some (.nx (env.set k (.val d)),M1) else none) (f env M):=rfl
noncomputable def Oh (k:Nat) (env:Env) (M:Mm):D->OS
 |.lst ds=>if k<env.length then some (.nx (env.set k (.own ds)),M) else none
 |_=>none
theorem zcg:Oh k env M (.lst ds)=if k<env.length then some (.nx (env.set k (.own ds)),M) else none:=rfl
theorem zdd:sI k f env M=cL (fun d M1=>Oh k env M1 d) (f env M):=rfl
theorem zdV:aM f env M=cL (fun d M1=>some (.rt d,M1)) (f env M):=rfl
theorem zde:yM f env M=cL (fun _ M1=>some (.nx env,M1)) (f env M):=rfl
noncomputable def Nh (s t:Mm->OS) (M:Mm):D->OS
 |.bl b=>if b=true then s M else t M
 |_=>none
theorem Jx {q r:Mm->OS}:Nh q r M (.bl b)=if b=true then q M else r M:=rfl
theorem Ja:bJ c s t env M=cL (fun d M1=>Nh (s env) (t env) M1 d) (c env M):=rfl
noncomputable def wO (k:Nat) (env:Env) (M:Mm):Option Slot->OS
 |some (.own ds)=>some (.nx (env.set k (.val (.lst ds))),M)
 |_=>none
theorem zdT:f9 k env M=wO k env M env[k]? :=rfl
theorem zee:wO k env M (some (.own ds))=some (.nx (env.set k (.val (.lst ds))),M):=rfl
noncomputable def wF (k:Nat) (env:Env) (o:O):Option Slot->OS
 |some (.own ds)=>cL (fun d M1=>if ds.length<sizeLine then some (.nx (env.set k (.own (ds ++ [d]))),M1) else none) o
 |_=>none
theorem zdH:i_ k f env M=wF k env (f env M) env[k]? :=rfl
theorem zen {o:O}:wF k env o (some (.own ds))=cL (fun d M1=>if ds.length<sizeLine then some (.nx (env.set k (.own (ds ++ [d]))),M1) else none) o:=rfl
noncomputable def forR (k:Nat) (t:S) (env:Env):Option (ResA×Mm)->OS
 |some (.v ds,M1)=>loopS k t ds env M1
 |some (.x c n,M1)=>some (.ex c n,M1)
 |none=>none
theorem zes {fs:EA}:dI k fs t env M=forR k t env (fs env M):=rfl
theorem zdr:forR k t env (some (.v ds,M))=loopS k t ds env M:=rfl
noncomputable def xY:O->Option (ResA×Mm)
 |some (.v (.lst ds),M1)=>some (.v ds,M1)
 |some (.x c n,M1)=>some (.x c n,M1)
 |_=>none
theorem zcU:fW f env M=xY (f env M):=rfl
theorem zcS:xY (some (.v (.lst ds),M))=some (.v ds,M):=rfl
noncomputable def Qa:Option (ResA×Mm)->Option (ResA×Mm)
 |some (.v [.int j],M1)=>if -1000000000<=j/\j<=1000000000 then some (.v ((List.range j.toNat).map fun(k:Nat)=>.int (0 + k)),M1) else none
 |some (.x c n,M1)=>some (.x c n,M1)
 |_=>none
theorem zdg {fs:EA}:rP fs env M=Qa (fs env M):=rfl
theorem JB (h: -1000000000<=i/\i<=1000000000):Qa (some (.v [.int i],M))=some (.v ((List.range i.toNat).map fun(k:Nat)=>.int (0 + k)),M):=xab h
theorem IW {m:Nat}{t:S}:bI m t ds M=bZ (t (ds.map .val ++ List.replicate (m - ds.length) .un) M):=rfl
theorem zcp:bZ (some (.rt d,M))=some (.v d,M):=rfl
theorem zch {e:Env}:bZ (some (.nx e,M))=some (.v .non,M):=rfl
theorem Xj:aZ (.int i) (.int j)=some (.int (i + j)):=rfl
theorem Xk:aZ (.lst ds) (.lst es)=if ds.length + es.length<=sizeLine then some (.lst (ds ++ es)) else none:=rfl
theorem Ye:c7 (.int i) (.int j)=some (.int (i - j)):=rfl
theorem XS:cR (.int i) (.int j)=if i.natAbs<18446744073709551616\/j.natAbs<18446744073709551616\/(i.natAbs.log2<10000/\j.natAbs.log2<10000) then some (.int (i * j)) else none:=rfl
theorem Xq:gC (.int i) (.int j)=if 0<j/\j.natAbs<1073741824 then some (.int (i / j)) else none:=rfl
theorem XR:oMod (.int i) (.int j)=if 0<j then some (.int (i % j)) else none:=rfl
theorem Yb:dF (.int i) (.int j)=if 0<=j/\j.natAbs<=1000000/\i.natAbs<18446744073709551616 then some (.int (i ^ j.toNat)) else none:=rfl
theorem X8:lU (.int i)=some (.int (-i)):=rfl
theorem Il:aF .lt (.int i) (.int j)=some (.bl (decide (i<j))):=rfl
theorem Ik:aF .le (.int i) (.int j)=some (.bl (decide (i<=j))):=rfl
theorem Ii:aF .gt (.int i) (.int j)=some (.bl (decide (j<i))):=rfl
theorem Ih:aF .ge (.int i) (.int j)=some (.bl (decide (j<=i))):=rfl
theorem Xn:aF .eq (.int i) (.int j)=some (.bl (decide (i=j))):=by
 show(pN _ _).map D.bl=_
 simp[pN,cQ,D.flat,D.dep,D.eq]
 rw[xaF];simp
theorem X3:aF .ne (.int i) (.int j)=some (.bl (!decide (i=j))):=by
 show(m_ _ _).map D.bl=_
 simp[m_,cQ,D.flat,D.dep,D.eq]
 rw[xaF];simp
theorem Xo (h:d.dep<=50):aF .eq d d=some (.bl true):=by
 show(pN d d).map D.bl=_;unfold pN;rw[xab ⟨by simp[cQ,h],h⟩,D.eq_refl];rfl
theorem X5 (h:d.dep<=50):aF .ne d d=some (.bl false):=by
 show(m_ d d).map D.bl=_;unfold m_;rw[xab ⟨by simp[cQ,h],h⟩,D.eq_refl];rfl
theorem Xx:bB (.lst ds) (.int i)=cJ ds i:=rfl
theorem Xz:bB (.tup ds) (.int i)=cJ ds i:=rfl
theorem XC:dB [.lst ds]=some (.int ds.length):=rfl
theorem XH:dB [.tup ds]=some (.int ds.length):=rfl
theorem XM:fP [.int i,.int j]=some (.int (if j<i then j else i)):=rfl
theorem XJ:dO [.int i,.int j]=some (.int (if j > i then j else i)):=rfl
theorem Yh:fL (.lst ds)=some (!ds.isEmpty):=rfl
theorem Yg:fL (.bl b)=some b:=rfl
theorem Yd {lo hi:Option Int}:vU (.str z) lo hi=if z.length<=sizeLine then some (.str (Txt.slice z lo hi)) else none:=rfl
theorem Yc {lo hi:Option Int}:vU (.lst ds) lo hi=some (.lst (dU ds lo hi)):=rfl
end
noncomputable def Step (J:Env->Mm->Prop) (Q:OS->Prop):OS->Prop
 |some (.nx e,M)=>J e M
 |some (.ct e,M)=>J e M
 |some (.bk e,M)=>Q (some (.nx e,M))
 |some (.rt d,M)=>Q (some (.rt d,M))
 |some (.ex c n,M)=>Q (some (.ex c n,M))
 |none=>False
theorem A_ {i:Nat}{body:S}{ds:List D}{env:Env}{M:Mm}(Q:OS->Prop)(J:Nat->Env->Mm->Prop)(h0:J 0 env M)
    (hs:∀(k:Nat) d env M,ds[k]? =some d->J k env M->i<env.length/\Step (J (k + 1)) Q (body (env.set i (.val d)) M)) (hd:∀env M,J ds.length env M->Q (some (.nx env,M))):Q (loopS i body ds env M):=by
  have key:∀(m k:Nat) (env:Env) (M:Mm),m + k=ds.length->J k env M->Q (loopS i body (ds.drop k) env M):=by
    intro m
    induction m with
    |zero=>
      intro k env M hk hJ;have e:k=ds.length:=by omega
      subst e;rw[xbI];exact hd env M hJ
    |succ m ih=>
      intro k env M hk hJ;have hlt:k<ds.length:=by omega
      obtain⟨hi,h1⟩:=hs k ds[k] env M (xag hlt) hJ;rw[xa6 hlt];simp only[loopS,hi,xba]
      cases e:body (env.set i (.val ds[k])) M with
      |none=>rw[e]at h1;exact h1.elim
      |some o=>
        rw[e]at h1;obtain⟨o,M'⟩:=o
        cases o with
        |nx e'=>exact ih (k + 1) e' M' (by omega) h1
        |ct e'=>exact ih (k + 1) e' M' (by omega) h1
        |bk e'=>exact h1
        |rt d=>exact h1
        |ex c n=>exact h1
  have:=key ds.length 0 env M (by omega) h0
  rwa [List.drop_zero]at this
end E3
namespace E3
open PySem PySem.Spec PyProof.Rows L2
noncomputable def XN (H:Hp) (n:Int):Option Addr->Prop
 |none=>n=0
 |some d=>∃fs,H d=some (.xd fs)/\fs.lookup ("at":Str)=some (.int (n - 1))/\n≠0
noncomputable def XQ (K:Fgx) (mg:Mgx) (P:Pl) (H:Hp) (M':Mm) (Q:VK) (E:XK):Res->Prop
 |.v d=>∀P' v H',LtE P H P' H'->Hk K mg P' H' M'->Is K P' H' d v->Q v H'
 |.x c n=>∀P' H' C dx,LtE P H P' H'->Hk K mg P' H' M'->mg c=some (.ref C)->XN H' n dx->E (.ref C) dx H'
noncomputable def zj (K:Fgx) (mg:Mgx) (n:Nat) (g:G):Sp:=fun vs H Q E=>vs.length=n/\∃P M ds r M',Hk K mg P H M/\aC K P H ds vs/\g ds M=some (r,M')/\XQ K mg P H M' Q E r
mutual
theorem Is.away {K:Fgx}{P:Pl}{H H':Hp}(s:∀b o,H b=some o->(∀g,o≠ .ext g)->H' b=some o):∀{d:D} {v:V},Is K P H d v->Is K P H' d v
  |.non,_,h=>h
  |.bl _,_,h=>h
  |.int _,_,h=>h
  |.str _,_,h=>h
  |.tup ds,_,h=>by
    obtain⟨a,vs,e,q,r⟩:=h;refine⟨a,vs,e,?_,aC.away s r⟩;rcases q with(q |⟨o,q⟩) |q
    · exact .inl (.inl (s _ _ q fun _ z=>nomatch z))
    · exact .inl (.inr ⟨o,s _ _ q fun _ z=>nomatch z⟩)
    · exact .inr q
  |.lst ds,_,h=>by
    obtain⟨a,vs,e,q,r⟩:=h;refine⟨a,vs,e,?_,aC.away s r⟩;rcases q with⟨n,q |⟨o,q⟩⟩ |q
    · exact .inl ⟨n,.inl (s _ _ q fun _ z=>nomatch z)⟩
    · exact .inl ⟨n,.inr ⟨o,s _ _ q fun _ z=>nomatch z⟩⟩
    · exact .inr q
  |.ref k,_,h=>h
theorem aC.away {K:Fgx}{P:Pl}{H H':Hp}(s:∀b o,H b=some o->(∀g,o≠ .ext g)->H' b=some o):∀{ds:List D} {vs:List V},aC K P H ds vs->aC K P H' ds vs
  | [],_,h=>h
  |_::_,_,h=>by
    obtain⟨v,r,e,p,q⟩:=h;exact⟨v,r,e,Is.away s p,aC.away s q⟩
end
theorem Hk.away {K:Fgx}{mg:Mgx}{P:Pl}{H H':Hp}{M:Mm}(h:Hk K mg P H M)(s:∀b o,H b=some o->(∀g,o≠ .ext g)->H' b=some o)(t:∀b,H' b=none->H b=none):Hk K mg P H' M:=by
  refine⟨h.n,fun k c e=>?_,h.inj,h.bd,fun a z q=>h.here a z (t a q)⟩;have:=h.cell k c e
  cases c with
  |lst ds=>
    obtain⟨vs,e1,q⟩:=this;exact⟨vs,s _ _ e1 (fun _ z=>nomatch z),aC.away s q⟩
  |obj c fs=>
    obtain⟨C,dx,gs,e1,e2,e3,q⟩:=this;exact⟨C,dx,gs,e1,s _ _ e2 (fun _ z=>nomatch z),e3,aC.away s q⟩
  |dct kvs=>
    obtain⟨vs,e1,e2,q⟩:=this;exact⟨vs,s _ _ e1 (fun _ z=>nomatch z),e2,aC.away s q⟩
  |dcf kvs=>
    obtain⟨vs,ob,es,ep,e1,eD,e2,q⟩:=this;exact⟨vs,ob,es,ep,s _ _ e1 (fun _ z=>nomatch z),eD,e2,aC.away s q⟩
  |fn i caps=>exact kJ.up this (fun b o u e=>s b _ e fun _ z=>nomatch z) fun _ _ q=>aC.away s q
  |tbl nm i=>
    obtain⟨c,ps,e1,e2,e3⟩:=this;exact⟨c,ps,e1,s _ _ e2 (fun _ z=>nomatch z),e3.imp id fun⟨c',z,q⟩=>⟨c',z,q.up fun b o u e=>s b _ e fun _ z=>nomatch z⟩⟩
structure XFit (X:Cx)(Wx:XW):Prop where
 xr:∀pins σ H s a C dx c n P0 H0 P M,Inv X pins σ H s->H a=some (xo a C dx true)->¬ P.bd a->H0 a=none->LtE P0 H0 P H->Hk X.K X.mg P H M->X.mg c=some (.ref C)->XN H n dx->Wx P0 H0 M c n->X.xe (.ref a) s
section
variable {X:Cx}{Wx:XW}{pos:Pos}
noncomputable def n6 (c:Str) (f:E):S:=fun env M=>bY (f env M) fun _ M1=>some (.ex c 0,M1)
theorem J5 (F:XFit X Wx)(hc:X.calm=true)(m:X.mg c=some (.ref C))(q1:dw X.K C=true)(q2:zH X.K C=true)(kp:PySem.W.keepIn X.K (.ref C)=true)(hg:Gl X c)(he:SE X Wx .val e f)(hdb:(c==("__debug__":Str))=false:=by x_go)
  (hs:starEach [e] X.env=[(false,eval e X.env)]:=by rfl):SS X Wx (.Raise (some (.Call (.Name c p) [e] [] q)) none pos) (n6 c f):=by
 refine gD (ZV (W:=fun a C' dx H=>dx=none/\C'=C/\∃P0 H0 P M,¬ P.bd a/\H0 a=none/\LtE P0 H0 P H/\Hk X.K X.mg P H M/\Wx P0 H0 M c 0) (Zh q1 q2 kp hg m he hdb hs) hc fun pins σ H s a C' dx I ea ⟨e1,e2,P0,H0,P,M,b,n,l,h,w⟩=>?_) ?_
 ·subst e1 e2;exact F.xr pins σ H s a _ none c 0 P0 H0 P M I ea b n l h m rfl w
 ·rintro D st H ⟨P0,H0,P,Os,env,M,out,M',k,e,q⟩;unfold n6 at e;rcases kO e with⟨d,M1,e1,e⟩ |⟨c,n,e1,rfl⟩
  ·cases e;refine⟨P0,H0,P,Os,env,M,_,_,k,e1,fun P1 v H1 l1 h1 i1=>⟨rfl,fun a ha=>⟨a,C,none,rfl,bR,q1,rfl,rfl,P0,H0,P1,_,h1.new a ha,?_,?_,?_,q⟩⟩⟩
   ·exact k.base.sure a (l1.sure a ha)
   ·exact k.base.trans (l1.trans (LtE.same (o_ ha)))
   ·exact h1.same (o_ ha)
  ·exact⟨P0,H0,P,Os,env,M,_,_,k,e1,q⟩
end
section
variable {P:Program}{w:World}{K:Fgx}{mg:Mgx}{base:Heap}{k:Nat}{x qual:Str}{st:Stmt}{f:Addr}{fd:FuncData}{N ps:List Str}{b:S}
abbrev mq (P:Program)(w:World)(K:Fgx)(mg:Mgx)(base:Heap)(N:List Str)(qual:Str)(st:Stmt)(f:Addr)(cdv:Value)(A:Around)(outer:List PySem.Env)(s:Shared)(H:Hp)(E:XK):Cx:=cG (gP P w) P w K mg base N qual (aH st) f cdv A outer s H E
end
section
variable {P:Program}{w:World}{K:Fgx}{mg:Mgx}{base:Heap}{k:Nat}{x qual:Str}{st:Stmt}{f:Addr}{fd:FuncData}{N ps:List Str}{b:S}
theorem U4 (F:FnOk P w K mg base (gP P w) k f fd ps sp):FnOk P w K mg base eV k f fd ps (fun vs H Q _=>sp vs H Q E0):=
 ⟨fun vs H Q E h=>F.len vs H Q E0 h,fun A outer s H args us vs Q E hr he hb hv hs=>xbW (F.run A outer s H args us vs Q E0 hr he hb hv hs) fun r s' z=>by
  cases r with
  |error e=>obtain⟨_,_,_,_,_,_,_,_,_,_,_,_,_,_,z⟩:=z;exact z
  |ok fl=>cases fl<;>exact z⟩
theorem Fy (F:FnOk P w K mg base (gP P w) k f fd ps (zj K mg n g)):FnOk P w K mg base eV k f fd ps (mO K mg n g):=by
 have F0:=U4 F;refine⟨fun vs H Q E h=>F0.len vs H Q E ?_,fun A outer s H args us vs Q E hr he hb hv hs=>F0.run A outer s H args us vs Q E hr he hb hv ?_⟩
 ·obtain⟨hl,P,M,ds,d,M',hk,is,e,q⟩:=h;exact⟨hl,P,M,ds,.v d,M',hk,is,e,q⟩
 ·obtain⟨hl,P,M,ds,d,M',hk,is,e,q⟩:=hs;exact⟨hl,P,M,ds,.v d,M',hk,is,e,q⟩
def eU (P:Program)(w:World)(K:Fgx)(mg:Mgx)(base:Heap)(k:Nat)(C:Addr)(m:Str)(n:Nat)(g:G):Prop:=
 ∃f fd ps,Meth K C m f/\FnOk P w K mg base (gP P w) k f fd ps (zj K mg n g)/\Binds K fd ps []
def eN (P:Program)(w:World)(K:Fgx)(mg:Mgx)(base:Heap)(k:Nat)(C:Addr)(n:Nat)(g:G):Prop:=
 ∃f fd ps,Mk K C f/\FnOk P w K mg base (gP P w) k f fd ps (zj K mg n g)/\Binds K fd ps []
def gO (P:Program)(w:World)(K:Fgx)(mg:Mgx)(base:Heap)(k:Nat)(f:Str)(n:Nat)(g:G):Prop:=
 ∃fa fd ps,mg f=some (.ref fa)/\PySem.W.keepIn K (.ref fa)=true/\FnOk P w K mg base (gP P w) k fa fd ps (zj K mg n g)/\Binds K fd ps []
theorem eU.quiet (a:eU P w K mg base k C m n g):lY P w K mg base k C m n g:=by
 obtain⟨f,fd,ps,h1,h2,h3⟩:=a;exact⟨f,fd,ps,h1,Fy h2,h3⟩
theorem eN.quiet (a:eN P w K mg base k C n g):lX P w K mg base k C n g:=by
 obtain⟨f,fd,ps,h1,h2,h3⟩:=a;exact⟨f,fd,ps,h1,Fy h2,h3⟩
theorem gO.quiet (a:gO P w K mg base k x n g):aV P w K mg base k x n g:=by
 obtain⟨fa,fd,ps,h1,h2,h3,h4⟩:=a;exact⟨fa,fd,ps,[],[],_,h1,h2,Fy h3,h4,.nil,fun vs H Q E h=>by rw[xax];exact h⟩
theorem eU.mono (a:eU P w K mg base j C m n g)(h:j<=k):eU P w K mg base k C m n g:=by
 obtain⟨f,fd,ps,h1,h2,h3⟩:=a;exact⟨f,fd,ps,h1,h2.mono h,h3⟩
theorem eN.mono (a:eN P w K mg base j C n g)(h:j<=k):eN P w K mg base k C n g:=by
 obtain⟨f,fd,ps,h1,h2,h3⟩:=a;exact⟨f,fd,ps,h1,h2.mono h,h3⟩
theorem gO.mono (a:gO P w K mg base j x n g)(h:j<=k):gO P w K mg base k x n g:=by
 obtain⟨f,fd,ps,h1,h2,h3,h4⟩:=a;exact⟨f,fd,ps,h1,h2,h3.mono h,h4⟩
end
end E3
namespace L2
open PySem PySem.Spec PyProof.Rows
section
variable {X:Cx}{CX:d8}{k:Nat}{f C:Addr}{fd:FuncData}{ps:List Str}{sp:Sp}{x m:Str}{p pos apos:Pos}{e o:Expr}{es:List Expr}{ta:TE}{t:TA}{Ex:St->XK}
def S6 (CX:d8)(X:Cx)(Ex:St->XK):Prop:=∀pins σ H s e s',Inv X pins σ H s->CX X.stack H s (Ex σ) e s'->X.xe e s'
end
end L2
namespace E3
open PySem PySem.Spec PyProof.Rows L2
section
variable {X:Cx}{Wx:XW}{pos:Pos}
def SX (X:Cx)(e:Expr)(f:E):Prop:=∀Ex:L2.St->XK,S6 (gP X.prog X.w) X Ex->PE X e fun st H Q=>∃P0 H0 P Os env M r M',Ok X.K X.mg P0 H0 P Os H M st env/\f env M=some (r,M')/\XQ X.K X.mg P H M' Q (Ex st) r
theorem XQ.lt {K:Fgx}{mg:Mgx}{P P1:Pl}{H H1:Hp}{M':Mm}{Q:VK}{E:XK}{r:Res}(l:LtE P H P1 H1)(q:XQ K mg P H M' Q E r):XQ K mg P1 H1 M' Q E r:=by
 cases r with
 |v d=>exact fun P' v H' l' h i=>q P' v H' (l.trans l') h i
 |x c n=>exact fun P' H' C dx l' h m xn=>q P' H' C dx (l.trans l') h m xn
noncomputable def Bo (g:G) (fs:EA):E:=fun env M=>match fs env M with
 |some (.v ds,M1)=>g ds M1
 |_=>none
theorem zbB (a:gO X.prog X.w X.K X.mg X.base k f n g)(hr:Room k X.A)(hg:Gl X f)(ha:SA X W0 .val (e::es) fs)(hn:pH n fs)(hdb:(f==("__debug__":Str))=false:=by x_go)
  (he:starEach (e::es) X.env=(false,eval e X.env)::starEach es X.env:=by rfl) (hpl:(backTo pos (starEach es X.env)).any (·.1)=false:=by rfl):SX X (.Call (.Name f p) (e::es) [] pos) (Bo g fs):=by
 obtain⟨fa,fd,ps,hm,hk,F,hb⟩:=a;intro Ex hx;refine b_ (Y0 F hr hg hm hk hb .nil hx ha hdb he hpl) ?_;rintro st H Q ⟨P0,H0,P,Os,env,M,r,M',k,e,q⟩;unfold Bo at e;split at e
 ·rename_i ds M1 e1;exact ⟨P0,H0,P,Os,env,M,_,_,k,e1,fun P1 vs H1 l1 h1 i1=>by
   dsimp only;rw[xax];exact⟨by rw[i1.len];exact hn _ _ _ _ e1,P1,M1,ds,r,_,h1,i1.iss,e,q.lt l1⟩⟩
 ·cases e
noncomputable def zeL (K:Fgx) (mg:Mgx) (E:XK) (P0:Pl) (H0:Hp) (P:Pl) (H:Hp) (M':Mm) (D:Ends):Out->Prop
 |.ex c n=>∀P' H' C dx,LtE P H P' H'->Hk K mg P' H' M'->mg c=some (.ref C)->XN H' n dx->E (.ref C) dx H'
 |.nx env=>Post K mg W0 P0 H0 P H M' D (.nx env)
 |.bk env=>Post K mg W0 P0 H0 P H M' D (.bk env)
 |.ct env=>Post K mg W0 P0 H0 P H M' D (.ct env)
 |.rt d=>Post K mg W0 P0 H0 P H M' D (.rt d)
end
end E3
namespace L2
open PySem PySem.Spec PyProof.Rows
end L2
namespace E3
open PySem PySem.Spec PyProof.Rows L2
theorem zcs {K:Fgx}{C:Addr}(h1:PySem.W.findIn K (.ref C) "__getattribute__"=some (some (.builtin "BaseException.__getattribute__")))(h2:PySem.W.findIn K (.ref C) "__getattr__"=some none)(h3:PySem.W.mroIn K C (.type "BaseException")=some true):Dc K C=true:=by
 simp only[Dc,h1,h2,h3,xa5,xcv]
theorem zc7 {K:Fgx}{C:Addr}(h1:Dc K C=true)(h2:PySem.W.hasDictIn K C=true)(h3:PySem.W.findIn K (.ref C) "__class__"=some (some (.builtin "object.__class__")))(h4:PySem.W.specialIn K (.builtin "object.__class__") "__get__"=some (some (.builtin "getset_descriptor.__get__")))
  (h5:PySem.W.takesIn K (.builtin "object.__class__")=some true) (h6:PySem.W.mroIn K C (.type "object")=some true):Dd K C=true:=by
 simp only[Dd,h1,h2,h3,h4,h5,h6,xa5,xcv]
end E3
namespace E3
open PySem L2
section
variable {env:Env}{M M1 M2:Mm}{f g o v:E}{d e x:D}{i:Int}{k:Nat}{ds:List D}{s t:S}{c me fl:Str}{fs:List (Str×D)}{gg:G}{fa:EA}
theorem Ip (h:M[k]? =some (.obj c fs)):rZ M c (.ref k)=some (k,fs):=by unfold rZ;simp only[h,xba]
theorem Ut (h1:o env M=some (.v (.ref k),M1))(h2:M1[k]? =some (.obj c fs))(h3:fs.lookup fl=some x):yN c fl o env M=some (.v x,M1):=by
 simp only[yN,bnd,h1,Ip h2,h3,xaT]
theorem Uw (h1:v env M=some (.v x,M1))(h2:o env M1=some (.v (.ref k),M2))(h3:M2[k]? =some (.obj c fs))(h4:fs.length<1000):yR c fl o v env M=some (.nx env,M2.set k (.obj c (putD fl x fs))):=by
 simp only[yR,bY,h1,h2,Ip h3,h4,xba]
theorem Wq (h1:o env M=some (.v (.ref k),M1))(h2:M1[k]? =some (.obj c fs))(h3:fs.lookup me=none)(h4:fa env M1=some (.v ds,M2))(h5:gg (.ref k::ds) M2=some (.v x,M3)):vq c me gg o fa env M=some (.v x,M3):=by
 simp only[vq,bnd,h1,Ip h2,h3,xba,cD,h4,h5]
theorem Wo (h4:fa env M=some (.v ds,M1))(h5:gg (.ref M1.length::ds) (M1 ++ [.obj c []])=some (.v .non,M3)):yQ c gg fa env M=some (.v (.ref M1.length),M3):=by
 simp only[yQ,cD,h4,h5]
theorem zcm {a:Int}:bZ (some (.ex c a,M))=some (.x c a,M):=rfl
theorem zce (h:fa env M=some (.v [.int i,.int j],M1))(hb:(-1000000000<=i/\i<=1000000000)/\ -1000000000<=j/\j<=1000000000):rQ fa env M=some (.v ((List.range (j - i).toNat).map fun(k:Nat)=>.int (i + k)),M1):=by
 simp only[rQ,h,hb,xba,and_self]
end
theorem lX.mono (a:lX P w K mg base j C n g)(h:j<=k):lX P w K mg base k C n g:=by
 obtain⟨f,fd,ps,h1,h2,h3⟩:=a;exact⟨f,fd,ps,h1,h2.mono h,h3⟩
end E3
namespace E3
open PySem PySem.Spec PyProof.Rows L2
theorem Cy (hN:X.N[i]? =some x)(hv:tQ X.env.scope x)(hd:(x==("__debug__":Str))=false:=by x_go)(hcd:(x==("__classdict__":Str))=false:=by x_go):SE X Wx m (.Name x pos) (aj i):=(Rj hN hv hd hcd).bor
noncomputable def cY (cs:List (Str×Nat)) (env:Env):Env:=cs.map fun p=>(env[p.2]?).getD .un
noncomputable def gU (cs:List (Str×Nat)) (Os:List (Option Addr)):List (Option Addr):=cs.map fun p=>(Os[p.2]?).join
section
variable {K:Fgx}{mg:Mgx}{P0 P:Pl}{H0 H:Hp}{M:Mm}{Os:List (Option Addr)}{st:L2.St}{env:Env}{d:D}{v:V}
theorem Fg {cs:List (Str×Nat)}{i:Nat}{a:Addr}(h:(gU cs Os)[i]? =some (some a)):∃p,cs[i]? =some p/\Os[p.2]? =some (some a):=by
 unfold gU at h;rw[xan,xad]at h;obtain⟨p,e,h⟩:=h;exact⟨p,e,pW h⟩
theorem Ok.cap {cs:List (Str×Nat)}(k:Ok K mg P0 H0 P Os H M st env)(nd:(cs.map (·.2)).Nodup)(h:Is K P H d v):Ok K mg P0 H0 P (none::gU cs Os) H M (some v::gW cs st) (.val d::cY cs env) where
  hk:=k.hk
  base:=k.base
  b0:=k.b0
  slot:=fun i s e=>by
    cases i with
    |zero=>cases e;exact⟨v,rfl,h⟩
    |succ i=>
      rw[xcm]at e ⊢;rw[xcm];unfold cY at e;rw[xan,xad]at e;obtain⟨p,ep,e⟩:=e;have eo:((gU cs Os)[i]?).join=(Os[p.2]?).join:=by unfold gU;rw[xan,ep];rfl
      have es:((gW cs st)[i]?).join=(st[p.2]?).join:=by unfold gW;rw[xan,ep];rfl
      rw[eo,es]
      cases e':env[p.2]? with
      |none=>rw[e']at e;cases e;exact True.intro
      |some s'=>rw[e']at e;cases e;exact k.slot _ _ e'
  own:=fun a h=>by
    rw[xav]at h;rcases h with h |h
    · cases h
    · obtain⟨i,hi⟩:=xdB.mp h;obtain⟨p,_,e⟩:=Fg hi;exact k.own a (xau e)
  inj:=fun i j a e1 e2=>by
    cases i with
    |zero=>cases e1
    |succ i=>
      cases j with
      |zero=>cases e2
      |succ j=>
        rw[xcm]at e1 e2;obtain⟨p,h1,h2⟩:=Fg e1;obtain⟨q,h3,h4⟩:=Fg e2;have e:=k.inj _ _ a h2 h4;congr 1;have hi:(cs.map (·.2))[i]? =some p.2:=by rw[xan,h1];rfl
        have hj:(cs.map (·.2))[j]? =some p.2:=by rw[xan,h3,e];rfl
        have il:=(xak.mp hi).1;exact(List.getElem?_inj il nd).mp (hi.trans hj.symm)
  olen:=by simp[gU,cY]
  slen:=by simp[gW,cY]
end
section
variable {X:Cx}{Wx:XW}{m:Mode}{pos:Pos}
noncomputable def lK (q e:E) (env:Env):List D->List D->Mm->Option (List D×Mm)
  | [],acc,M=>some (acc,M)
  |d::ds,acc,M=>match q (.val d::env) M with
    | some (.v (.bl true), M1) => (match e (.val d::env) M1 with
      |some (.v y,M2)=>if acc.length + 1<sizeLine then lK q e env ds (acc ++ [y]) M2 else none
      |_=>none)
    |some (.v (.bl false),M1)=>lK q e env ds acc M1
    |_=>none
noncomputable def sH (cs:List (Str×Nat)) (fs:EA) (q e:E):E:=fun env M=>match fs env M with
  | some (.v ds, M1) => (match lK q e (cY cs env) ds [] M1 with
    |some (ys,M2)=>some (.v (.lst ys),M2)
    |none=>none)
  |some (.x c n,M1)=>some (.x c n,M1)
  |none=>none
theorem Ue:∀env M r M',sH cs fs q e env M=some (.v r,M')->∃ds,r=.lst ds:=fun env M r M' h=>by
 unfold sH at h;split at h
 ·split at h
  ·cases h;exact⟨_,rfl⟩
  ·cases h
 ·cases h
 ·cases h
theorem Vd {K:Fgx}{mg:Mgx}{P1 P:Pl}{H1 H:Hp}{M:Mm}{D:Addr}{vs vs':List V}(l:LtE P1 H1 P H)(h:Hk K mg P H M)(hD:H1 D=none)(bD:P.bd D)(nc:∀k,k<P.n->P.io k≠D)(e:H D=some (.lst vs)):
  Lt P H P (upd H D (.lst vs'))/\LtE P1 H1 P (upd H D (.lst vs'))/\Hk K mg P (upd H D (.lst vs')) M:=by
 have lc:Lt P H P (upd H D (.lst vs')):=vf bD e GQ;refine⟨lc,⟨l.n,l.io,l.bd,l.bm,fun c o ec n=>?_,fun c z=>l.sure c (lc.sure c z),l.nw⟩,⟨h.n,fun j c ej=>(h.cell j c ej).lt lc fun o eo=>?_,h.inj,h.bd,fun c z q=>h.here c z (lc.sure c q)⟩⟩
 ·rw[aQ (fun z=>by subst z;rw[hD]at ec;cases ec)];exact l.keep c o ec n
 ·rw[aQ (nc j (by rw[h.n];exact(xak.mp ej).1))];exact eo
noncomputable def NR (K:Fgx) (mg:Mgx) (Wx:XW) (P0:Pl) (H0:Hp) (P:Pl) (H:Hp) (M':Mm) (R:Addr->Hp->Prop):Res->Prop
 |.v d=>∃ds,d=.lst ds/\∀P' a vs H',LtE P H P' H'->Hk K mg P' H' M'->H a=none->P'.bd a->(∀k,k<P'.n->P'.io k≠a)->H' a=some (.lst vs)->aC K P' H' ds vs->R a H'
 |.x c n=>Wx P0 H0 M' c n
theorem Ug {K:Fgx}{mg:Mgx}{cs:List (Str×Nat)}{fs:EA}{q e:E}{P0 P:Pl}{H0 H:Hp}{Os:List (Option Addr)}{M M':Mm}{st:L2.St}{env:Env}{r:Res}{R:Addr->Hp->Prop}(nd:(cs.map (·.2)).Nodup)
    (k:Ok K mg P0 H0 P Os H M st env) (h:sH cs fs q e env M=some (r,M')) (w:NR K mg Wx P0 H0 P H M' R r):Ke (tI K mg Wx fs) (sX K mg W0 q) (tE K mg W0 .val e) cs st H R:=by
  unfold sH at h;split at h
  · rename_i ds M1 ef;split at h
    rotate_left
    · cases h
    rename_i ys M2 ec;cases h;obtain ⟨ds', e', w⟩ := w;cases e';refine ⟨P0, H0, P, Os, env, M, _, _, k, ef, fun P1 H1 J l1 h1 wk D hD => ?_⟩;obtain ⟨l2, h2, nc⟩ := zW (vs := []) h1 hD;refine ⟨fun i m vs H2=>m=ds.length - i/\i<=ds.length/\∃P2 M3 acc,LtE P1 H1 P2 H2/\Hk K mg P2 H2 M3/\P2.bd D/\(∀k,k<P2.n->P2.io k≠D)/\H2 D=some (.lst vs)/\aC K P2 H2 acc vs/\acc.length<sizeLine/\lK q e (cY cs env) (ds.drop i) acc M3=some (ys,M'),
      ⟨ds.length,by simp,xa8 _,P1.bar D,M1,[],l2,h2,.inr rfl,nc,bR,rfl,by x_go,by rw[List.drop_zero];exact ec⟩,?_⟩
    rintro i m vs H2 ⟨rfl,hi,P2,M3,acc,l3,h3,bD,nD,eD,is,hz,ec⟩;refine⟨eD,?_⟩;obtain⟨w1,w2,w3⟩:=wk P2 H2 (l3.lt h1)
    by_cases hlt:i<ds.length
    · refine .inr ⟨w1 i hlt,by rw[is.len];exact hz,fun vs' H'=>∃P2 M3 acc,LtE P1 H1 P2 H'/\Hk K mg P2 H' M3/\P2.bd D/\(∀k,k<P2.n->P2.io k≠D)/\H' D=some (.lst vs')/\aC K P2 H' acc vs'/\acc.length<sizeLine/\lK q e (cY cs env) (ds.drop (i + 1)) acc M3=some (ys,M'),
        fun vs' H' z=>⟨ds.length - (i + 1),by omega,rfl,hlt,z⟩,fun x H' y=>?_⟩
      obtain⟨e3,d,ed,iv⟩:=w3 i x H' y hlt;subst e3;have ed':ds.drop i=d::ds.drop (i + 1):=by
        rw[xa6 hlt];rw[xag hlt]at ed;rw[xay ed]
      rw[ed']at ec;have kk:=((k.next l1 h1).next l3 h3).cap (cs:=cs) nd iv
      simp only[lK]at ec;split at ec
      · rename_i M4 eq;refine gH kk eq ⟨true,rfl,fun P4 H4 l4 h4=>?_⟩;dsimp only;rw[xab rfl];split at ec
        · rename_i y' M5 ee;split at ec
          · rename_i hz';refine aU (kk.next l4 h4) ee fun P5 v5 H5 l5 h5 i5=>?_
            have l45:=l4.trans l5;have eD5:H5 D=some (.lst vs):=l45.keep D _ eD (.inr nD);have nD5:∀k,k<P5.n->P5.io k≠D:=l45.nc eD nD;obtain⟨g1,g2,g3⟩:=Vd (vs':=vs ++ [v5]) (l3.trans l45) h5 hD (l45.bm D bD) nD5 eD5;refine⟨eD5,P5,M5,acc ++ [y'],g2,g3,l45.bm D bD,nD5,bR,aC.append (aC.lt ((l45.lt h3).trans g1) is) (aC.one (Is.lt g1 i5)),by rw[xap];exact hz',ec⟩
          · cases ec
        · cases ec
      · rename_i M4 eq;refine gH kk eq ⟨false,rfl,fun P4 H4 l4 h4=>?_⟩;dsimp only;rw[xai (by decide)];exact⟨P4,M4,acc,l3.trans l4,h4,l4.bm D bD,l4.nc eD nD,l4.keep D _ eD (.inr nD),aC.lt (l4.lt h3) is,hz,ec⟩
      · cases ec
    · have ei:i=ds.length:=by omega
      subst ei;rw[xbI]at ec;cases ec;exact .inl ⟨w2 _ (xah _) (xah _),w P2 D vs H2 (l1.trans l3) h3 (l1.sure D hD) bD nD eD is⟩
  · rename_i c n M1 ef;cases h;exact⟨P0,H0,P,Os,env,M,_,_,k,ef,w⟩
  · cases h
def SQ (X:Cx)(ifs:List Expr)(q:E):Prop:=mW X ifs (sX X.K X.mg W0 q)
theorem zbu:SQ X [] (ak (.bl true)):=fun pins s σ H Q I h=>by
 obtain⟨P0,H0,P,Os,env,M,r,M',k,e,q⟩:=h;cases e;obtain⟨b,e2,q⟩:=q;cases e2;exact Zx pins s σ H Q I (q P H (LtE.refl P H) k.hk)
section
variable {elt iter:Expr}{ifs:List Expr}{scope:Scope}{fs:EA}{q e:E}
theorem zbr (x:Str)(cs:List (Str×Nat))(hc:X.calm=true)(nd:(cs.map (·.2)).Nodup)(hi:SI X Wx (.Name x px) iter fs)
  (hq:∀(cl:List (Str×Addr)) (C:Addr) (s₀:Shared) (H₀:Hp) (ex:List Addr) (pn:Pnx),SQ (eZ X (x::cs.map (·.1)) scope cl C s₀ H₀ ex pn) ifs q)
  (he:∀(cl:List (Str×Addr)) (C:Addr) (s₀:Shared) (H₀:Hp) (ex:List Addr) (pn:Pnx),SE (eZ X (x::cs.map (·.1)) scope cl C s₀ H₀ ex pn) W0 .val elt e)
  (ok:z_ X.N X.env.scope x cs scope=true:=by kernel_rfl) (hs:∀x,foldedSetIterable iter X.env x=pure x:=by intro _;rfl):
  SN X Wx (.ListComp elt [⟨.Name x px,iter,ifs,0⟩] scope pos) (sH cs fs q e):=by
 refine b_ (Y5 (tq:=sX X.K X.mg W0 q) (te:=tE X.K X.mg W0 .val e) x cs hc hi hq he ok hs) ?_;rintro st H Q ⟨P0,H0,P,Os,env,M,r,M',k,e,w⟩;refine Ug nd k e ?_
 cases r with
 |v d=>exact w
 |x c n=>exact w
end
end
section
variable {X:Cx}{Wx:XW}{m:Mode}{pos:Pos}
noncomputable def gj (f:E):E:=fun env M=>bnd (f env M) fun d M1=>match d with
  | .ref j => (match M1[j]? with
    | some (.lst ds) => (match ds[ds.length - 1]? with
      |some z=>some (.v z,M1.set j (.lst ds.dropLast))
      |none=>none)
    |_=>none)
  |_=>none
theorem aC.dropLast {K:Fgx}{P:Pl}{H:Hp}{ds:List D}{vs:List V}(h:aC K P H ds vs):aC K P H ds.dropLast vs.dropLast:=by
 rw[xdD,xdD,h.len];exact h.take _
theorem Cw (ho:SE X Wx .val o f)(hbase:attributeBase o "pop" X.env (eval o X.env)=eval o X.env:=by rfl)(hline:(p.endLine==pos.line)=true:=by rfl):
  SE X Wx m (.Call (.Attribute o "pop" p) [] [] pos) (gj f):=by
 refine b_ (YX xbN PySem.F.slot_list_pop PySem.F.type_list_pop WQ ho hbase hline) ?_;rintro st H Q ⟨P0,H0,P,Os,env,M,r,M',k,e,q⟩;unfold gj at e;rcases cu e with⟨d,M1,e1,e⟩ |⟨c,n,e1,rfl⟩
 ·cases d<;>simp only[reduceCtorEq]at e
  rename_i j;split at e
  rotate_left
  ·cases e
  rename_i ds em;split at e
  rotate_left
  ·cases e
  rename_i z ez;cases e;refine aU k e1 fun P1 v1 H1 l1 h1 i1=>?_;obtain⟨jl,rfl⟩:j<P1.n/\v1=.ref (P1.io j):=i1;obtain⟨vs,ev,is⟩:=h1.cell j _ em;obtain⟨v,evt,iv⟩:=is.get ez;have lc:Lt P1 H1 P1 (upd H1 (P1.io j) (.lst vs.dropLast)):=vf (h1.bd j jl) ev GQ;obtain⟨l3,l3e,h3⟩:=h1.set (c':=.lst ds.dropLast) (o':=.lst vs.dropLast) em ⟨_,bR,(aC.lt lc is).dropLast⟩;refine⟨.inl ⟨rfl,vs,.inl (.inl ev)⟩,P1.io j,vs,v,rfl,rfl,ev,by rw[is.len];exact evt,?_⟩;exact q P1 v _ (l1.trans l3e) h3 (cA.of h3 (Is.lt l3 iv))
 ·exact aU k e1 q
end
section
variable {X:Cx}{Wx:XW}{m:Mode}{pos:Pos}
inductive ResP where
 |v (ps:List (D×D)) |x (c:Str) (n:Int)
noncomputable def dJ (M:Mm) (d:D):String:=match d with
  | .ref k => (match M[k]? with
    |some (.lst _)=>"list"
    |some (.dct _)=>"dict"
    |_=>"")
  |d=>zE d
noncomputable def gb (tb:String->String->Option Bool) (T:String) (f:E):E:=fun env M=>bnd (f env M) fun d M1=>if dJ M1 d="" then none else(tb (dJ M1 d) T).map fun b=>(.v (.bl b),M1)
theorem Tq:cX X (.builtin "isinstance") (fun xs H Q=>∃(x:V) (T:String) (d:D) (P:Pl) (M:Mm) (b:Bool),xs=[x,.ty T]/\Hk X.K X.mg P H M/\cj X.K P H d x/\dJ M d≠""/\PySem.W.kitOne X.K (.type (dJ M d)) (.type T)=some b/\Q (.bl b) H):=by
  intro pins s σ H xs us Q I r h;obtain⟨x,T,d,P,M,b,rfl,hk,i,ne,e,q⟩:=h;have old:dJ M d=zE (vw M d)->wpAny (model X.prog X.w) X.A (call (.builtin "isinstance") us) (EP X pins σ Q) X.xe s:=fun et=>by
    rw[et]at ne e;exact Tp pins s σ H _ us Q I r ⟨x,T,vw M d,P,b,rfl,cj.vw hk i,ne,e,q⟩
  cases d with
  |ref k=>
    cases em:M[k]? with
    |none=>simp[dJ,em]at ne
    |some c=>
      cases c with
      |lst ds=>exact old (by simp[dJ,vw,em,zE])
      |obj c fs=>simp[dJ,em]at ne
      |dcf kvs=>simp[dJ,em]at ne
      |fn i caps=>simp[dJ,em]at ne
      |tbl nm i=>simp[dJ,em]at ne
      |dct kvs=>
        obtain⟨u,w',rfl,rx,rT⟩:=vals2 r;cases rT;obtain⟨kl,rfl⟩:k<P.n/\x=.ref (P.io k):=i;cases rx;obtain⟨vs,ev,_⟩:=hk.cell k _ em;obtain⟨_,_,vs',_,o,es,ep,h1,h2,_⟩:=I.hok _ _ ev;simp only[dJ,em]at e;exact xaH xda I.kIn ⟨o,h1,h2.1⟩ e (fun z=>nomatch z) fun tk=>⟨.bl b,H,I.tok _,rfl,q⟩
  |non=>exact old rfl
  |bl _=>exact old rfl
  |int _=>exact old rfl
  |str _=>exact old rfl
  |tup _=>exact old rfl
  |lst _=>exact old rfl
theorem Cu (ht:∀t b,tb t T=some b->PySem.W.kitOne X.K (.type t) (.type T)=some b)(he:SE X Wx .bor e f)(hg:Gl X "isinstance")(hm:X.mg "isinstance"=none)(hg':Gl X (Str.ofString T))(hm':X.mg (Str.ofString T)=none)(hT:bootBuiltins (Str.ofString T)=some (.type T))
  (n1:Str.ofString T≠"__name__":=by x_go) (n2:(Str.ofString T==("__debug__":Str))=false:=by x_go) (hs:starEach [e,.Name (Str.ofString T) p'] X.env=(false,eval e X.env)::starEach [.Name (Str.ofString T) p'] X.env:=by rfl):
  SE X Wx m (.Call (.Name "isinstance" p) [e,.Name (Str.ofString T) p'] [] pos) (gb tb T f):=by
 have pT:PE X (.Name (Str.ofString T) p') (tC (.ty T)):=YW hg' hm' hT rfl n1 n2;refine b_ (Iu Tq hg hm boot_isinstance (nR he (nR pT p8) hs) (by x_go) (by x_go) hs rfl) ?_;rintro st H Q ⟨P0,H0,P,Os,env,M,r,M',k,e,q⟩;unfold gb at e;rcases cu e with⟨d,M1,e1,e⟩ |⟨c,n,e1,rfl⟩
 ·split at e
  ·cases e
  ·rename_i hne;rw[xad]at e;obtain⟨b,eb,e⟩:=e;cases e;exact aU k e1 fun P1 v1 H1 l1 h1 i1=>⟨v1,T,d,P1,_,b,rfl,h1,i1,hne,ht _ _ eb,q P1 _ H1 l1 h1 (cA.of h1 (show Is _ _ _ (.bl b) _ from rfl))⟩
 ·exact aU k e1 q
end
section
variable {X:Cx}{Wx:XW}{m:Mode}{pos:Pos}
noncomputable def vX:D->Option Str
 |.str z=>if z.length<=sizeLine then some z else none
 |.int i=>if i.natAbs.log2<1920 then some (toString i) else none
 |_=>none
abbrev EJ:=Str->Env->Mm->O
noncomputable def fD:EJ:=fun out _ M=>if out.length<=sizeLine then some (.v (.str out),M) else none
noncomputable def fB (z:Str) (ps:EJ):EJ:=fun out env M=>if (out ++ z).length<=sizeLine then ps (out ++ z) env M else none
noncomputable def h_ (f:E) (ps:EJ):EJ:=fun out env M=>bnd (f env M) fun d M1=>match vX d with
 |some y=>if (out ++ y).length<=sizeLine then ps (out ++ y) env M1 else none
 |none=>none
noncomputable def tJ (K:Fgx) (mg:Mgx) (Wx:XW) (ps:EJ):TJ:=fun out st H Q=>tE K mg Wx .val (ps out) st H Q
def SJ (X:Cx)(Wx:XW)(vs:List Expr)(ps:EJ):Prop:=PJ X vs (tJ X.K X.mg Wx ps)
theorem Bh (h:PJ X vs t)(w:∀out σ H Q,t' out σ H Q->t out σ H Q):PJ X vs t':=fun pins s σ H out Q I hw=>h pins s σ H out Q I (w out σ H Q hw)
theorem Rq:SJ X Wx [] fD:=by
 refine Bh Zz ?_;rintro out st H Q ⟨P0,H0,P,Os,env,M,r,M',k,e,q⟩;unfold fD at e;split at e
 ·rename_i hl;cases e;exact⟨hl,q P _ H (LtE.refl P H) k.hk rfl⟩
 ·cases e
theorem Rp (h:SJ X Wx vs ps)(hz:z.length<=sizeLine:=by x_go):SJ X Wx (.Constant (.str z) n pos::vs) (fB z ps):=by
 refine Bh (Zy h hz) ?_;rintro out st H Q ⟨P0,H0,P,Os,env,M,r,M',k,e,q⟩;unfold fB at e;split at e
 ·rename_i hl;exact⟨hl,P0,H0,P,Os,env,M,r,M',k,e,q⟩
 ·cases e
theorem zbC {K:Fgx}{P:Pl}{H:Hp}{d:D}{v:V}{y:Str}(h:vX d=some y)(i:Is K P H d v):textV v=some y:=by
 unfold vX at h;split at h
 ·cases i;exact h
 ·cases i;exact h
 ·cases h
theorem zcC (he:SE X Wx .val e f)(h:SJ X Wx vs ps):SJ X Wx (.FormattedValue e (-1) none pos::vs) (h_ f ps):=by
 refine Bh (ZD he h) ?_;rintro out st H Q ⟨P0,H0,P,Os,env,M,r,M',k,e,q⟩;unfold h_ at e;rcases cu e with⟨d,M1,e1,e⟩ |⟨c,n,e1,rfl⟩
 ·split at e
  ·rename_i y ey;split at e
   ·rename_i hl;exact aU k e1 fun P1 v1 H1 l1 h1 i1=>⟨y,zbC ey i1,hl,P0,H0,P1,Os,env,M1,r,M',k.next l1 h1,e,RQ.imp l1 q⟩
   ·cases e
  ·cases e
 ·exact aU k e1 q
def fH (ps:EJ):E:=ps Str.empty
theorem Rf (h:SJ X Wx (v::w::vs) ps):SE X Wx m (.JoinedStr (v::w::vs) pos) (fH ps):=by
 have h':SE X Wx .val (.JoinedStr (v::w::vs) pos) (fH ps):=b_ (Y7 h) fun st H Q z=>z;exact h'.bor
noncomputable def pC:List Nat->List D->Env->Option Env
 | [],[],env=>some env
 |i::is,d::ds,env=>if i<env.length then pC is ds (env.set i (.val d)) else none
 |_,_,_=>none
def SG (X:Cx)(ts:List Expr)(is:List Nat):Prop:=∃t,wA X ts t/\∀P0 H0 P Os st H M env env' ds vs Q,Ok X.K X.mg P0 H0 P Os H M st env->aC X.K P H ds vs->pC is ds env=some env'->(∀Os' st',Ok X.K X.mg P0 H0 P Os' H M st' env'->Q st' H)->t vs st H Q
theorem JX : SG X [] [] := ⟨_,Zn,fun P0 H0 P Os st H M env env' ds vs Q k is e q=>by
 cases ds with
 |nil=>cases e;exact⟨is,q _ _ k⟩
 |cons d ds=>cases e⟩
theorem rF (hN:X.N.Nodup)(hi:X.N[i]? =some x)(hx:Loc X.env.scope x)(hr:SG X ts is)(hf:X.fn x=true\/X.env.scope.names.lookup x=some .local:=by first |exact .inl rfl |exact .inr rfl)
    (hs:(assignEach (.Name x p::ts) X.env).map (·.2)=assign (.Name x p) X.env::(assignEach ts X.env).map (·.2):=by rfl):SG X (.Name x p::ts) (i::is):=by
  obtain⟨t,h1,h2⟩:=hr;refine⟨_,Zm (O4 hN hi hx hf) h1 hs,fun P0 H0 P Os st H M env env' ds vs Q k is e q=>?_⟩
  cases ds with
  |nil=>cases e
  |cons d ds=>
    obtain⟨v,r,rfl,iv,is⟩:=is;simp only[pC]at e;split at e
    · rename_i hl;exact⟨v,r,rfl,h2 _ _ _ _ _ _ _ _ _ _ _ _ (k.asg hl iv) is e q⟩
    · cases e
noncomputable def m5:List D->Option D
 | [.int i]=>some (.int (if i<0 then -i else i))
 |_=>none
theorem Z7 {K:Fgx}:lD K (fun xs H Q=>∃i,xs=[.int i]/\Q (.int (if i<0 then -i else i)) H) m5:=fun P H ds z vs Q h i _ q=>by
 unfold m5 at h;split at h
 ·obtain⟨v,ws,rfl,p,rfl⟩:=i;cases h;cases p;exact⟨_,rfl,q _ H (Same.refl H) rfl⟩
 ·cases h
end
end E3
namespace E3
open PySem L2
section
variable {env:Env}{M M1 M2:Mm}{f g o v:E}{d e x:D}{i:Int}{k:Nat}{ds es:List D}{s t:S}{z:Str}{fa:EA}{b:Bool}
noncomputable def Fo:Option (List D×Mm)->O
 |some (ys,M)=>some (.v (.lst ys),M)
 |none=>none
noncomputable def L_ (q e:E) (env:Env):Option (ResA×Mm)->O
 |some (.v ds,M1)=>Fo (lK q e env ds [] M1)
 |some (.x c n,M1)=>some (.x c n,M1)
 |none=>none
theorem zc8 {cs:List (Str×Nat)}{q e:E}:sH cs fa q e env M=L_ q e (cY cs env) (fa env M):=rfl
theorem zcu {q e:E}:L_ q e env (some (.v ds,M))=Fo (lK q e env ds [] M):=rfl
theorem zbT:Fo (some (ds,M))=some (.v (.lst ds),M):=rfl
theorem zcL:cY [] env=[]:=rfl
theorem zcG {x:Str}{n:Nat}{cs:List (Str×Nat)}:cY ((x,n)::cs) env=(env[n]?).getD .un::cY cs env:=rfl
noncomputable def dW (tb:String->String->Option Bool) (T:String) (M:Mm) (ty:String):O:=if ty="" then none else(tb ty T).map fun b=>(.v (.bl b),M)
noncomputable def xT (tb:String->String->Option Bool) (T:String) (r:O):O:=bnd r fun d M=>dW tb T M (dJ M d)
theorem zeC {tb:String->String->Option Bool}{T:String}:gb tb T f env M=xT tb T (f env M):=rfl
theorem zdC {tb:String->String->Option Bool}{T:String}:xT tb T (some (.v d,M))=dW tb T M (dJ M d):=rfl
theorem ty_int:dJ M (.int i)="int":=rfl
theorem ty_str:dJ M (.str z)="str":=rfl
theorem zd5:dJ M (.bl b)="bool":=rfl
theorem zcX:dJ M .non="NoneType":=rfl
theorem zdc:dJ M (.tup ds)="tuple":=rfl
theorem zcJ:dJ M (.lst ds)="list":=rfl
theorem zeH {tb:String->String->Option Bool}{T:String}:dW tb T M "int"=(tb "int" T).map fun b=>(.v (.bl b),M):=rfl
theorem zdR {tb:String->String->Option Bool}{T:String}:dW tb T M "str"=(tb "str" T).map fun b=>(.v (.bl b),M):=rfl
theorem KJ {tb:String->String->Option Bool}{T:String}:dW tb T M "bool"=(tb "bool" T).map fun b=>(.v (.bl b),M):=rfl
theorem zdN {tb:String->String->Option Bool}{T:String}:dW tb T M "NoneType"=(tb "NoneType" T).map fun b=>(.v (.bl b),M):=rfl
theorem zei {tb:String->String->Option Bool}{T:String}:dW tb T M "tuple"=(tb "tuple" T).map fun b=>(.v (.bl b),M):=rfl
theorem zed {tb:String->String->Option Bool}{T:String}:dW tb T M "list"=(tb "list" T).map fun b=>(.v (.bl b),M):=rfl
theorem zdA {tb:String->String->Option Bool}{T:String}:dW tb T M "dict"=(tb "dict" T).map fun b=>(.v (.bl b),M):=rfl
theorem Xi:m5 [.int i]=some (.int (if i<0 then -i else i)):=rfl
end
end E3
namespace L2
open PySem PySem.Spec PyProof.Rows
end L2
namespace E3
open PySem PySem.Spec PyProof.Rows L2
section
variable {es:List Expr}{env:PySem.Env}{pos:Pos}
theorem bC:starEach (.Constant c k pos::es) env=(false,eval (.Constant c k pos) env)::starEach es env:=by rfl
theorem aL:starEach (.Name x pos::es) env=(false,eval (.Name x pos) env)::starEach es env:=by rfl
theorem lA:starEach (.BinOp a o b pos::es) env=(false,eval (.BinOp a o b pos) env)::starEach es env:=by rfl
theorem RK:starEach (.UnaryOp o a pos::es) env=(false,eval (.UnaryOp o a pos) env)::starEach es env:=by rfl
theorem lB:starEach (.Call f as ks pos::es) env=(false,eval (.Call f as ks pos) env)::starEach es env:=by rfl
theorem zas:starEach (.Attribute a x pos::es) env=(false,eval (.Attribute a x pos) env)::starEach es env:=by rfl
theorem pD:starEach (.Subscript a b pos::es) env=(false,eval (.Subscript a b pos) env)::starEach es env:=by rfl
theorem sV:starEach (.Tuple as k pos::es) env=(false,eval (.Tuple as k pos) env)::starEach es env:=by rfl
theorem zaB:starEach (.ListComp a gs sc pos::es) env=(false,eval (.ListComp a gs sc pos) env)::starEach es env:=by rfl
end
end E3
namespace L2
open PySem PySem.Spec PyProof.Rows
theorem Wd {P:Program}{w:World}{K:Fgx}{mg:Mgx}{base:Heap}{N:List Str}{qual:Str}{scope:Scope}{f:Addr}{cd:Value}{A:Around}{outer:List PySem.Env}{E:XK}{s:Shared}{H H1:Hp}{s1:Shared}{pins:Pnx}{σ:St}{a C T:Addr}{dx:Option Addr}
  (c:Caught (cG (gP P w) P w K mg base N qual scope f cd A outer s H E) pins σ H1 s1 a C dx T) (hE:E (.ref C) dx H1):(cG (gP P w) P w K mg base N qual scope f cd A outer s H E).xe (.ref a) s1:=by
 show wpAny _ _ (leaving _ _) _ _ _;unfold leaving;refine tG (Caught.note c rfl rfl fun s' T' c'=>?_);have I:=c'.inv;have hL:s.heap.get? (envOfC qual scope s.heap.objs.size f cd).locals=none:=xcC I.ok.above;have u1:Un (s.heap.objs.size::frs outer) [] H H1 s.heap s'.heap:=Un.mono (fs':=s.heap.objs.size::frs outer) (ex':=[]) I.base (fun b hb=>xat _ hb) fun b hb=>hb;exact⟨a,C,dx,H1,T',rfl,I.os,I.bare,u1.less hL,I.hok,c'.obj,c'.hT,c'.t1,c'.fl,hE⟩
end L2
namespace E3
open PySem PySem.Spec PyProof.Rows L2
structure XPass (X:Cx)(Wx:XW):Prop where
 xc:∀pins σ H s a C dx T c n P0 H0 P M,Caught X pins σ H s a C dx T->LtE P0 H0 P H->Hk X.K X.mg P H M->X.mg c=some (.ref C)->XN H n dx->Wx P0 H0 M c n->X.xe (.ref a) s
section
variable {X:Cx}{Wx:XW}{m:Mode}{pos:Pos}
theorem SX.se (F:XPass X Wx)(h:SX X e f):SE X Wx m e f:=by
  have h':SE X Wx .val e f:=by
    let Ex:L2.St->XK:=fun σ Cv dx H'=>∀pins s' a C T,Cv=.ref C->Caught X pins σ H' s' a C dx T->X.xe (.ref a) s'
    refine b_ (h Ex fun pins σ H s e s' I z=>?_) ?_
    · obtain⟨a,C,dx,H',T,rfl,K1,hE⟩:=T3 I z;exact hE pins s' a C T rfl K1
    · rintro st H Q ⟨P0,H0,P,Os,env,M,r,M',k,e,q⟩;refine⟨P0,H0,P,Os,env,M,r,M',k,e,?_⟩
      cases r with
      |v d=>exact q
      |x c n=>
        intro P' H' C dx l hk hm xn pins s' a C' T eC ca;cases eC;exact F.xc pins st H' s' a C dx T c n P0 H0 P' M' ca (k.base.trans l) hk hm xn q
  exact h'.bor
end
section
variable {P:Program}{w:World}{K:Fgx}{mg:Mgx}{base:Heap}{k:Nat}{x qual:Str}{st:Stmt}{f:Addr}{fd:FuncData}{N ps:List Str}{b:S}
theorem U0 (F:FunD K x qual st f fd)(S:FnScope N ps (aH st))(hp:ps.length<=N.length)
    (hb:∀cdv A outer s H E Wx,Room k (A.deeper (envOfC qual (aH st) s.heap.objs.size f cdv))->XFit (mq P w K mg base N qual st f cdv A outer s H E) Wx->XPass (mq P w K mg base N qual st f cdv A outer s H E) Wx->SB (mq P w K mg base N qual st f cdv A outer s H E) Wx (bK st) b):FnOk P w K mg base (gP P w) (k + 1) f fd ps (zj K mg ps.length (bI N.length b)):=by
  obtain ⟨oc, od, dV, kV, doc, pm, an, cdv, ct, osl, rfl, lk, hcd⟩ := F.ex;refine MJ lk hcd S (fun vs H Q E h => h.1) fun A outer s H vs Q E hr h => ?_;obtain ⟨hl, Pl, M, ds, r, M', hk, is, e, q⟩ := h;have XF : XFit (mq P w K mg base N qual st f cdv A outer s H E) (fun P0 H0 M1 c n => P0 = Pl /\ H0 = H /\ M1 = M' /\ r = .x c n) := ⟨fun pins σ H1 s1 a C dx c n P0 H0 P1 M1 I ea nb n0 l h m xn ⟨e1,e2,e3,e4⟩=>by
    subst e1 e2 e3 e4;have sure:∀b,upd H1 a (xo a C dx false) b=none->H1 b=none:=fun b z=>by
      by_cases hb:b=a
      · subst hb;rw[bR]at z;cases z
      · rw[aQ hb]at z;exact z
    have l1 : LtE P0 H0 P1 (upd H1 a (xo a C dx false)) := ⟨l.n,l.io,l.bd,l.bm,fun b o eb nb=>by
      rw[aQ (fun z=>by rw[z,n0]at eb;cases eb)];exact l.keep b o eb nb,fun b z=>l.sure b (sure b z),l.nw⟩
    have h1 := h.away (H' := upd H1 a (xo a C dx false)) (fun b o eb nx=>by
      rw[aQ (fun z=>by rw[z,ea]at eb;cases eb;exact nx _ rfl)];exact eb) sure
    refine Wb I ea (q P1 _ C dx l1 h1 m ?_)
    cases dx with
    |none=>exact xn
    |some d=>
      obtain⟨fs,ed,el⟩:=xn;exact⟨fs,by rw[aQ (fun z=>by rw[z,ea]at ed;cases ed)];exact ed,el⟩⟩
  have XP : XPass (mq P w K mg base N qual st f cdv A outer s H E) (fun P0 H0 M1 c n => P0 = Pl /\ H0 = H /\ M1 = M' /\ r = .x c n) := ⟨fun pins σ H1 s1 a C dx T c n P0 H0 P1 M1 ca l h m xn ⟨e1,e2,e3,e4⟩=>by
    subst e1 e2 e3 e4;exact Wd ca (q P1 _ C dx l h m xn)⟩
  refine⟨_,hb cdv A outer s H E _ hr XF XP,?_⟩;unfold bI bZ at e;have st0:=J8 (N:=N) hk (by omega) is;split at e
  · rename_i d' M2 eb;cases e;exact⟨Pl,H,Pl,_,_,M,_,_,st0,eb,fun P' v H' l h i=>q P' v H' l h i⟩
  · rename_i env M2 eb;cases e;exact⟨Pl,H,Pl,_,_,M,_,_,st0,eb,fun P' Os' H' st' _ k'=>q P' .non H' k'.base k'.hk rfl⟩
  · rename_i c n M2 eb;cases e;exact⟨Pl,H,Pl,_,_,M,_,_,st0,eb,⟨rfl,rfl,rfl,rfl⟩⟩
  · cases e
end
section
variable {K:Fgx}{P:Pl}{H:Hp}
noncomputable def pK:List D->Option (List Bool)
 | []=>some []
 |.bl b::ds=>(pK ds).map (b:: ·)
 |_::_=>none
theorem Lk:∀{ds:List D} {bs:List Bool} {vs:List V},pK ds=some bs->aC K P H ds vs->vs=bs.map V.bl
  | [],_,_,e,h=>by cases e;exact h
  |d::ds,bs,vs,e,h=>by
    obtain⟨v,r,rfl,i,h⟩:=h
    cases d with
    |bl n=>
      simp only[pK,xad]at e;obtain⟨bs',e',rfl⟩:=e;cases i;rw[Lk e' h];rfl
    |_=>simp[pK]at e
theorem Ln:∀(bs:List Bool),pK (bs.map D.bl)=some bs
 | []=>rfl
 |b::bs=>by simp[pK,Ln bs]
noncomputable def lJ:List D->Option D
 | [.int i]=>if i.natAbs.log2<1920 then some (.str (toString i)) else none
 |_=>none
theorem zcW:lD K (fun xs H Q=>∃i,xs=[.int i]/\i.natAbs.log2<1920/\Q (.str (toString i)) H) lJ:=fun P H ds z vs Q h i _ q=>by
 unfold lJ at h;split at h
 ·split at h
  ·rename_i hl;obtain⟨v,ws,rfl,p,rfl⟩:=i;cases h;cases p;exact⟨_,rfl,hl,q _ H (Same.refl H) rfl⟩
  ·cases h
 ·cases h
noncomputable def dN:List D->Option D
 | [.str z]=>if z.length<=640 then(intText? z).map .int else none
 |_=>none
theorem Pg:lD K (fun xs H Q=>∃z n,xs=[.str z]/\intText? z=some n/\z.length<=640/\Q (.int n) H) dN:=fun P H ds z vs Q h i _ q=>by
 unfold dN at h;split at h
 ·split at h
  ·rename_i hl;rw[xad]at h;obtain⟨n,en,rfl⟩:=h;obtain⟨v,ws,rfl,p,rfl⟩:=i;cases p;exact⟨_,n,rfl,en,hl,q _ H (Same.refl H) rfl⟩
  ·cases h
 ·cases h
noncomputable def m6:List D->Option D
 | [.lst ds]=>(pK ds).map fun bs=>.bl (bs.any id)
 |_=>none
theorem Z9:lD K (fun xs H Q=>∃(p:Addr) (bs:List Bool),xs=[.ref p]/\bF K H p (bs.map V.bl)/\Q (.bl (bs.any id)) H) m6:=fun P H ds z vs Q h i _ q=>by
 unfold m6 at h;split at h
 ·rw[xad]at h;obtain⟨is,ei,rfl⟩:=h;obtain⟨v,ws,rfl,p,rfl⟩:=i;obtain⟨a,us,rfl,r,s⟩:=p;rw[Lk ei s]at r;exact⟨a,is,rfl,r,q _ H (Same.refl H) rfl⟩
 ·cases h
noncomputable def m7:List D->Option D
 | [.lst ds]=>some (.tup ds)
 | [.tup ds]=>some (.tup ds)
 |_=>none
theorem zck:lD K (fun xs H Q=>∃p ys,xs=[.ref p]/\((bF K H p ys/\∀l,H l=none->Q (.ref l) (upd H l (.tup ys)))\/(cU K H p ys/\Q (.ref p) H))) m7:=fun P H ds z vs Q h i _ q=>by
 unfold m7 at h;split at h
 ·obtain⟨v,ws,rfl,p,rfl⟩:=i;cases h;obtain⟨a,us,rfl,r,s⟩:=p;exact⟨a,us,rfl,.inl ⟨r,GP s q⟩⟩
 ·obtain⟨v,ws,rfl,p,rfl⟩:=i;cases h;obtain⟨a,us,rfl,r,s⟩:=p;exact⟨a,us,rfl,.inr ⟨r,q _ H (Same.refl H) ⟨a,us,rfl,r,s⟩⟩⟩
 ·cases h
end
section
variable {X:Cx}{Wx:XW}{m:Mode}{pos:Pos}
def zL (K:Fgx)(r:V->List V->Hp->VK->Prop)(o:Str->List D->Option D):Prop:=∀(P:Pl) (H:Hp) (y:Str) (ds:List D) (z:D) (vs:List V) (Q:VK),o y ds=some z->mQ K P H ds vs->(∀p,H p=none->¬ P.bd p)->(∀u H',Same H H'->Is K P H' z u->Q u H')->r (.str y) vs H Q
noncomputable def vP (o:Str->List D->Option D) (f:E) (fs:EA):E:=fun env M=>bnd (f env M) fun d M1=>match d with
 |.str y=>cD (fs env M1) fun ds M2=>(o y (ds.map (vw M2))).map fun z=>(.v z,M2)
 |_=>none
theorem JT {a e:Expr}{es:List Expr}{name:Str}{id:String}{r:V->List V->Hp->VK->Prop}{o:Str->List D->Option D}{f:E}{fs:EA}{p:Pos}(slot:PySem.Slot "str" name id)(hty:typeOf (.builtin id)=pure (.type "method_descriptor"))(hm:tL X id r)(po:zL X.K r o)(ha:SE X Wx .val a f)(hs:SA X Wx .bor (e::es) fs)
  (hbase:attributeBase a name X.env (eval a X.env)=eval a X.env:=by rfl)
  (hfew:((backTo pos (starEach (e::es) X.env)).all (fun x=> !x.1) && (backToKw pos (keywordEach [] X.env)).all (fun x=>x.1.isSome) && decide ((e::es).length + ([]:List Keyword).length + (if ([]:List Keyword).isEmpty then 0 else 1)<30))=true:=by rfl)
  (hline:(p.endLine==pos.line)=true:=by rfl) (hst:starEach (e::es) X.env=(false,eval e X.env)::starEach es X.env:=by rfl) (hplain:(backTo pos (starEach es X.env)).any (·.1)=false:=by rfl):
  SE X Wx m (.Call (.Attribute a name p) (e::es) [] pos) (vP o f fs):=by
 refine b_ (Bf PySem.F.plainAttrs_str slot hty hm ha hs hbase hfew hline hst hplain) ?_;rintro st H Q ⟨P0,H0,P,Os,env,M,r,M',k,e,q⟩;unfold vP at e;rcases cu e with⟨d,M1,e1,e⟩ |⟨c,n,e1,rfl⟩
 ·cases d<;>simp only[reduceCtorEq]at e
  rename_i y;refine aU k e1 fun P1 v1 H1 l1 h1 i1=>?_;have k1:=k.next l1 h1
  cases i1;refine⟨rfl,?_⟩;rcases m8 e with⟨ds,M2,e2,e⟩ |⟨c,n,e2,rfl⟩
  ·rw[xad]at e;obtain⟨z,ez,e⟩:=e;cases e;exact⟨P0,H0,P1,Os,env,M1,_,_,k1,e2,fun P2 vs H2 l2 h2 i2=>po P2 H2 y _ z vs Q ez (cC.w h2 i2) h2.new fun u H' s i=>q P2 u H' (l1.trans (l2.trans (LtE.same s))) (h2.same s) (cA.of (h2.same s) i)⟩
  ·exact⟨P0,H0,P1,Os,env,M1,_,_,k1,e2,q⟩
 ·exact aU k e1 q
noncomputable def CZ (z:Str):List D->Option D
 | [.str y]=>some (.bl (Txt.startswith z y))
 |_=>none
theorem zaT {K:Fgx}:zL K Pz CZ:=fun P H y ds z vs Q h i _ q=>by
 unfold CZ at h;split at h
 ·cases h;obtain⟨v,ws,rfl,p,rfl⟩:=i;cases p;exact⟨_,_,rfl,rfl,q _ H (Same.refl H) rfl⟩
 ·cases h
noncomputable def CW (z:Str):List D->Option D
 | [.str y]=>if z.length<=sizeLine then some (.str (Txt.lstripChars z y)) else none
 |_=>none
theorem zaL {K:Fgx}:zL K Py CW:=fun P H y ds z vs Q h i _ q=>by
 unfold CW at h;split at h
 ·split at h
  ·rename_i hl;cases h;obtain⟨v,ws,rfl,p,rfl⟩:=i;cases p;exact⟨_,_,rfl,rfl,hl,q _ H (Same.refl H) rfl⟩
  ·cases h
 ·cases h
noncomputable def zu (z:Str):List D->Option D
  | [.str y]=>match Builtin.Str.occurrences z y 0 z.length 1 with
    |i::_=>some (.int (i:Nat))
    | []=>none
  |_=>none
theorem Z_ {K:Fgx}:zL K Px zu:=fun P H y ds z vs Q h i _ q=>by
 unfold zu at h;split at h
 ·split at h
  ·rename_i eo;cases h;obtain⟨v,ws,rfl,p,rfl⟩:=i;cases p;exact⟨_,_,_,_,rfl,rfl,eo,q _ H (Same.refl H) rfl⟩
  ·cases h
 ·cases h
end
def rB:S:=fun _ _=>none
theorem zbF (h:PS X s fun _ _ _=>False):SS X Wx s rB:=gD h fun D st H ⟨_,_,_,_,_,_,_,_,_,e,_⟩=>by cases e
theorem ZQ:PS X s fun _ _ _=>False:=fun pins s σ H D I h=>h.elim
theorem vV:SS X Wx s rB:=zbF ZQ
noncomputable def cZ (tb:List (Str×D)) (z:Str):Option D:=(tb.find? fun p=>decide (p.1=z)).map (·.2)
inductive KRows (K:Fgx)(w:World):List (Str×D)->List DictEntry->List (Key×Value)->Prop
 |nil:KRows K w [] [] []
 |cons {z:Str} {d:D} {t:Tok} {u:Value} {v:V} {hs:Int} {tb:List (Str×D)} {es:List DictEntry} {vs:List (Key×Value)}:hs=hashStr w z->RelV v u->(∀P H,Is K P H d v)->KRows K w tb es vs->KRows K w ((z,d)::tb) (⟨hs,.str z t,u⟩::es) ((.inr z,u)::vs)
def KTab (K:Fgx)(w:World)(a:Addr)(tb:List (Str×D)):Prop:=∃o es ep vs,K.lookup a=some o/\o.ExactDict/\o.data=.dict es ep/\KRows K w tb es.toList vs/\(tb.map (·.1)).Nodup/\(a==sysModules)=false
section
variable {K:Fgx}{w:World}{prog:Program}
theorem N6:∀{tb:List (Str×D)} {es:List DictEntry} {vs:List (Key×Value)},KRows K w tb es vs->(∀e∈es,∃k,(mH prog w).is k e.key=true/\e.hash=(mH prog w).hash k)/\Pairs (mH prog w) es vs/\vs.map (·.1)=tb.map fun p=>(.inr p.1:Key)
  |_,_,_,.nil=>⟨fun e h=>(by cases h),.nil,rfl⟩
  |_,_,_,.cons (z:=z) (t:=t) h1 h2 h3 r=>by
    obtain⟨a,b,c⟩:=N6 r;refine⟨fun e he=>?_,.cons (Gq prog w z t) rfl b,by rw[xaJ,xaJ,c]⟩;rw[xav]at he;rcases he with rfl |he
    · exact⟨.inr z,Gq prog w z t,h1⟩
    · exact a e he
theorem Gi:∀{tb:List (Str×D)} {es:List DictEntry} {vs:List (Key×Value)},KRows K w tb es vs->match cZ tb z with
    |some d=>∃u v,valueAt vs (.inr z:Key)=some u/\RelV v u/\∀P H,Is K P H d v
    |none=>valueAt vs (.inr z:Key)=none
  |_,_,_,.nil=>rfl
  |_,_,_,.cons (z:=y) (d:=d) (u:=u) (v:=v) (tb:=tb) (vs:=vs) h1 h2 h3 r=>by
    by_cases e:y=z
    · subst e;have a:cZ ((y,d)::tb) y=some d:=by simp[cZ,xbP]
      have b:valueAt ((.inr y,u)::vs) (.inr y:Key)=some u:=by simp[valueAt,xbP]
      rw[a];exact⟨u,v,b,h2,h3⟩
    · have a:cZ ((y,d)::tb) z=cZ tb z:=by simp[cZ,xbP,e]
      have b:valueAt ((.inr y,u)::vs) (.inr z:Key)=valueAt vs (.inr z):=by simp[valueAt,xbP,e]
      rw[a,b];exact Gi r
theorem KTab.dict (t:KTab K w a tb)(X:K.In h):∃es vs,KRows K w tb es vs/\h.DictOf (mH prog w) a vs/\(a==sysModules)=false:=by
 obtain⟨o,es,ep,vs,l,x,d,r,nd,ns⟩:=t;obtain⟨r1,r2,r3⟩:=N6 (prog:=prog) r;refine⟨es.toList,vs,r,⟨o,es,ep,X a o l,x,d,fun e he=>r1 e (by simpa using he),r2,?_⟩,ns⟩;rw[r3];have:(tb.map fun p=>(Sum.inr p.1:Key))=(tb.map (·.1)).map Sum.inr:=by rw[List.map_map];rfl
 rw[this];exact xd5.mpr (List.Pairwise.imp (fun h q=>h (Sum.inr.inj q)) nd)
end
section
variable {X:Cx}{Wx:XW}{m:Mode}{pos:Pos}
noncomputable def jj (b:Bool) (tb:List (Str×D)) (f:E):E:=fun env M=>bnd (f env M) fun d M1=>match d with
 |.str z=>some (.v (.bl (if b then(cZ tb z).isSome else !(cZ tb z).isSome)),M1)
 |_=>none
noncomputable def yP (tb:List (Str×D)) (f:E):E:=fun env M=>bnd (f env M) fun d M1=>match d with
 |.str z=>(cZ tb z).map fun y=>(.v y,M1)
 |_=>none
theorem V4 {z:Str}{K:Fgx}{w:World}{tb:List (Str×D)}{es:List DictEntry}{vs:List (Key×Value)}(r:KRows K w tb es vs):(valueAt vs (.inr z:Key)).isSome=(cZ tb z).isSome:=by
 have g:=Gi (z:=z) r
 cases h:cZ tb z with
 |none=>rw[h]at g;have g':valueAt vs (.inr z:Key)=none:=g;rw[g'];rfl
 |some d=>rw[h]at g;obtain⟨u,v,e,_⟩:=g;rw[e];rfl
theorem YQ {i:Expr}{ty:TE}{nm:Str}{p:Pos}{a:Addr}{tb:List (Str×D)}(hi:PE X i ty)(hg:Gl X nm)(hm:X.mg nm=some (.ref a))(t:KTab X.K X.w a tb)(hdb:(nm==("__debug__":Str))=false):
  PC X .In i (.Name nm p) (fun σ H Q=>ty σ H fun y H1=>∃z,y=.str z/\Q (.bl (cZ tb z).isSome) H1):=by
 intro pins s σ H Q I h;refine aN (hi pins s σ H _ I h) fun iv s1 ⟨y,H1,I1,ry,z,ey,q⟩=>rY I1 hg hm ?_ hdb;subst ey;obtain⟨es,vs,r,dd,ns⟩:=t.dict (prog:=X.prog) I1.kIn;refine wpAny_in_of (k:=(.inr z:Key)) (NP (k:=.inr z) ry) ns dd.mapOf ?_;rw[V4 r];exact⟨.bl _,H1,I1.tok _,rfl,q⟩
theorem V3 {b:Bool}{tb:List (Str×D)}{f:E}{st:L2.St}{H:Hp}{Q:VK}(w:tE X.K X.mg Wx m (jj b tb f) st H Q):tE X.K X.mg Wx .val f st H fun y H1=>∃z,y=.str z/\Q (.bl (if b then(cZ tb z).isSome else !(cZ tb z).isSome)) H1:=by
 obtain⟨P0,H0,P,Os,env,M,r,M',k,e,q⟩:=w;unfold jj at e;rcases cu e with⟨d,N1,e1,e⟩ |⟨c,n,e1,rfl⟩
 ·cases d<;>simp only[reduceCtorEq]at e
  rename_i z;cases e;exact aU k e1 fun P1 v1 H1 l1 h1 i1=>⟨z,i1,q P1 _ H1 l1 h1 (cA.of h1 (show Is _ _ _ (.bl _) _ from rfl))⟩
 ·exact aU k e1 q
theorem RM (hi:SE X Wx .val i f)(hg:Gl X nm)(hm:X.mg nm=some (.ref a))(t:KTab X.K X.w a tb)(hdb:(nm==("__debug__":Str))=false:=by x_go)(hb:behindInMarks .In (.Name nm p)=false:=by rfl):ST X Wx (.Compare i [.In] [.Name nm p] pos) (jj true tb f):=
 yx (Z2 (YQ hi hg hm t hdb) hb) fun _ _ _ w=>V3 (b:=true) (KC w)
theorem Rh (hi:SE X Wx .val i f)(hg:Gl X nm)(hm:X.mg nm=some (.ref a))(t:KTab X.K X.w a tb)(hdb:(nm==("__debug__":Str))=false:=by x_go)(hs:wz i:=by exact fun _ _=>rfl):SE X Wx m (.Subscript (.Name nm p) i pos) (yP tb f):=by
 have h':PE X (.Subscript (.Name nm p) i pos) (fun σ H Q=>tE X.K X.mg Wx .val f σ H fun y H1=>∃z d,y=.str z/\cZ tb z=some d/\∀v,(∀P H,Is X.K P H d v)->Q v H1):=by
  intro pins s σ H Q I h;refine zbq PySem.F.slot_dict_getitem.lookup hs (rY I hg hm ?_ hdb);refine aN (hi pins s σ H _ I h) fun iv s2 ⟨y,H2,I2,ry,z,d,ey,ed,q2⟩=>?_;subst ey;obtain⟨es,vs,r,dd,ns⟩:=t.dict (prog:=X.prog) I2.kIn;have g:=Gi (z:=z) r;rw[ed]at g;obtain⟨u,v,e1,e2,e3⟩:=g;exact⟨dd.typeIs,wpAny_getItem_of (k:=(.inr z:Key)) (NP (k:=.inr z) ry) dd.mapOf e1 ⟨v,H2,I2.tok _,e2,q2 v e3⟩⟩
 refine b_ h' ?_;rintro st H Q ⟨P0,H0,P,Os,env,M,r,M',k,e,q⟩;unfold yP at e;rcases cu e with⟨d,N1,e1,e⟩ |⟨c,n,e1,rfl⟩
 ·cases d<;>simp only[reduceCtorEq]at e
  rename_i z;rw[xad]at e;obtain⟨y,ey,e⟩:=e;cases e;exact aU k e1 fun P1 v1 H1 l1 h1 i1=>⟨z,y,i1,ey,fun v iv=>q P1 v H1 l1 h1 (cA.of h1 (iv P1 H1))⟩
 ·exact aU k e1 q
end
section
variable {X:Cx}{Wx:XW}{pos:Pos}
noncomputable def Aj (f:E):EA:=fun env M=>match f env M with
 |some (.v (.str z),M1)=>some (.v (z.cps.toList.map fun c=>.str ⟨#[c]⟩),M1)
 |some (.x c n,M1)=>some (.x c n,M1)
 |_=>none
theorem zd8 (h:SE X Wx .val e f):SI X Wx tg e (Aj f):=by
 refine yt (Zu h) ?_;rintro st H R ⟨P0,H0,P,Os,env,M,r,M',k,e,q⟩;unfold Aj at e;split at e
 ·rename_i z M1 ef;cases e;refine⟨P0,H0,P,Os,env,M,_,_,k,ef,fun P1 v1 H1 l1 h1 i1=>⟨z,i1,q P1 H1 _ l1 h1 fun P2 H2 l2=>?_⟩⟩;have hl:(z.cps.toList.map fun c=>(D.str ⟨#[c]⟩)).length=z.cps.size:=by simp
  rw[hl];refine⟨fun j hj=>hj,fun j h1 h2=>xa3 h2 h1,fun j x H' y hj=>⟨y.1,?_⟩⟩;obtain⟨c,ec,rfl⟩:=y.2;refine⟨.str ⟨#[c]⟩,?_,rfl⟩;rw[xan,xdA,ec];rfl
 ·rename_i c n M1 ef;cases e;exact⟨P0,H0,P,Os,env,M,_,_,k,ef,q⟩
 ·cases e
end
end E3
namespace L2
open PySem PySem.Spec PyProof.Rows
theorem Qf:Manifest.owners.lookup (String.ofList ['d','e','s','r','e','v','e','r'].reverse)=some Manifest.sig_reversed:=by kernel_rfl
theorem zb1:Slot "reversed" "__init__" "object.__init__":=
 .of (owner:="object") (n:="__init__") (by rw[xcJ,xb2];kernel_rfl) (by x_go) (by x_go) (by x_go)
  (by first |exact .inl (by x_go) |exact .inr (by x_go)) (by rw[xcS];kernel_rfl)
theorem yI:Slot "reversed" "__next__" "reversed.__next__":=
 .of (owner:="reversed") (n:="__next__") (by rw[xcJ,xb2];kernel_rfl) (by x_go) (by x_go) (by x_go)
  (by first |exact .inl (by x_go) |exact .inr (by x_go)) (by rw[xcS];kernel_rfl)
theorem Qc:Slot "reversed" "__iter__" "reversed.__iter__":=
 .of (owner:="reversed") (n:="__iter__") (by rw[xcJ,xb2];kernel_rfl) (by x_go) (by x_go) (by x_go)
  (by first |exact .inl (by x_go) |exact .inr (by x_go)) (by rw[xcS];kernel_rfl)
theorem Qe:entryFor table "reversed.__next__"=some Builtin.«reversed.__next__» :=entryFor_of_tree (by kernel_rfl)
theorem Qd (a:Value):argsOk "reversed.__next__" ⟨[a],[]⟩:=by
 unfold argsOk;rw[signature?_of (id:="reversed.__next__") (n:=['_','_','t','x','e','n','_','_']) (o:=['d','e','s','r','e','v','e','r']) (by kernel_rfl) Qf];kernel_rfl
theorem zao:entryFor table "reversed.__iter__"=some Builtin.«dict_keyiterator.__iter__» :=
 entryFor_alias (id':="dict_keyiterator.__iter__") (by kernel_rfl) (by first |rfl |decide +kernel |(unfold String.splitOn;simp +decide [String.splitOnAux])) (by x_go) (by kernel_rfl)
theorem zat (a:Value):argsOk "reversed.__iter__" ⟨[a],[]⟩:=by
 unfold argsOk;rw[signature?_of (id:="reversed.__iter__") (n:=['_','_','r','e','t','i','_','_']) (o:=['d','e','s','r','e','v','e','r']) (by kernel_rfl) Qf];kernel_rfl
theorem zaS:TypeCalled "reversed" "reversed.__new__" "object.__init__":=
 ⟨by x_go,by x_go,⟨_,_,F.mro_reversed⟩,F.made_reversed,F.plain_reversed_new,F.sub_reversed_self,zb1⟩
theorem zbD:typeLookup (.type "tuple") "__reversed__"=pure none:=by rw[xcJ,xb2];kernel_rfl
theorem zbp:isSubtype (.type "tuple") (.type "dict")=pure false:=by rw[xcS];kernel_rfl
noncomputable def Qi (a:Addr) (i:Int):Obj:={cls:=.type "reversed",data:=.fields #[.ref a,rawInt i]}
def gQ (h:Heap)(a t:Addr)(i:Int):Prop:=∃o,h.get? a=some o/\o.cls=.type "reversed"/\o.data=.fields #[.ref t,rawInt i]
theorem gQ.typeIs {s:Shared}{a l:Addr}{i:Int}(x:gQ s.heap a l i):s.TypeIs (.ref a) "reversed":=let ⟨o,ho,hc,_⟩:=x;⟨o,ho,hc⟩
theorem gQ.at (x:gQ h a l i)(e:∀o,h.get? a=some o->h'.get? a=some o):gQ h' a l i:=let ⟨o,ho,r⟩:=x;⟨o,e _ ho,r⟩
theorem zcR (t : Addr) (items : Array Value) : Meets (Builtin.«reversed.__new__» ⟨[.type "reversed", .ref t], []⟩) (fun _ R s=>IsTup s.heap t items/\(items.size:Int)<2 ^ 63/\
    R (.ok (.ret (.ref s.heap.objs.size))) {s with heap:=s.heap.push (Qi t ((items.size:Int) - 1)),toks:=s.toks + 1 + 1}):=
  .of_wp fun prog w A R s ⟨ht,hf,h⟩=>by
    unfold Builtin.«reversed.__new__»;refine tG (xcb (newClass_reversed _) ?_)
    try dsimp only
    refine tG (xcb (a:=()) (by first |rfl |kernel_rfl) ?_)
    refine tG (xcb (a:=()) (by first |rfl |kernel_rfl) ?_)
    try dsimp only
    refine tG (xcF ht.typeIs zbD ?_)
    try dsimp only
    refine tG ?_;show wpAny _ _ (do
      if <-isInstance (.ref t) (.type "dict") then return false
      match <-specialOf (.ref t) "__getitem__" with
      |none=>return false
      |some (.builtin id)=>
        if ["tuple.__getitem__","str.__getitem__","bytes.__getitem__","bytearray.__getitem__","memoryview.__getitem__","numpy.ndarray.__getitem__","sqlite3.Row.__getitem__"].contains id then return true
        if id=="sqlite3.Blob.__getitem__" then return false
        unsupported "reversed.__new__:is-it-a-sequence"
      |some _=>return true:Sem Bool) _ _ s
    refine tG (xdr ht.typeIs zbp ?_);rw[xai (by decide)];refine tG (xcF ht.typeIs xcX.lookup ?_)
    try dsimp only
    rw[xab (by x_go)];refine xac ?_;rw[xai (by decide)];refine tG (len_tuple ht hf ?_);refine tG (m:=asInt? _) (xcb (a:=some (items.size:Int)) (by first |rfl |kernel_rfl) ?_)
    try dsimp only
    unfold Builtin.SmallTypes.newRecord
    try dsimp only
    refine tG (xaG ?_ (by size_fits));exact xac ⟨_,rfl,h⟩
section
variable {prog:Program}{w:World}{A:Around}{E:Value->Shared->Prop}{s:Shared}
theorem Tw (ht:IsTup s.heap t items)(hf:(items.size:Int)<2 ^ 63)
  (h:Q (.ref s.heap.objs.size) {s with heap:=s.heap.push (Qi t ((items.size:Int) - 1)),toks:=s.toks + 1 + 1}):wpAny (model prog w) A (call (.type "reversed") [.ref t]) Q E s:=
 callType_new zaS (by decide) (F.typeCall_reversed_1 _) (F.newCall_reversed_1 _) (fun obj=>F.args_object_init_2 obj _) F.entry_reversed_new (zcR t items) ⟨ht,hf,⟨_,xal _ rfl,rfl⟩,h⟩
theorem Nv {it l:Addr}{i:Int}{Q:Value->Shared->Prop}(hit:gQ s.heap it l i)(h:Q (.ref it) s):wpAny (model prog w) A (pyIter (.ref it)) Q E s:=by
 refine wpAny_pyIter_slot hit.typeIs Qc (xbi Qc hit.typeIs zao ?_ (zat _));show wpAny _ _ (ret (.ref it)) _ _ s;exact xac ⟨_,rfl,"reversed",_,hit.typeIs,yI.lookup,h⟩
theorem W3 {it l:Addr}{i:Nat}{items:Array Value}{x:Value}{Q:Option Value->Shared->Prop}(hit:gQ s.heap it l (i:Int))(hl:IsTup s.heap l items)(hx:items[i]? =some x)(hf:(items.size:Int)<2 ^ 63)
  (hQ:∀h',gQ h' it l ((i:Int) - 1)->Heap.SameBut it s.heap h'->Q (some x) {s with heap:=h',toks:=s.toks + 1}):wpAny (model prog w) A (pyNext (.ref it)) Q E s:=by
 obtain⟨o,ho,hc,hd⟩:=id hit;have hi:i<items.size:=by
  rcases xaM i items.size with z |z
  ·exact z
  ·rw[Array.getElem?_eq_none z]at hx;cases hx
 unfold pyNext;refine tG (xcw (xbs (name:=Str.ofString "__next__") hit.typeIs yI
  (xbi yI hit.typeIs Qe ?_ (Qd _))))
 unfold Builtin.«reversed.__next__»;refine tG (xcb (a:=(Value.ref it,[])) rfl ?_)
 try dsimp only
 refine tG (xaD ho hd (x:=.ref l) rfl ?_);refine tG (xaD ho hd (x:=rawInt (i:Int)) rfl ?_);show wpAny _ _ (if (i:Int)<0 then _ else _) _ _ s
 rw[xai (by omega)];refine tG (xcF hl.typeIs xcX.lookup ?_);rw[xai (by simp)];refine tG (wpAny_mkInt ?_);refine tG (xcw (getItem_tuple (k:=(i:Int)) (j:=i) (s:={s with toks:=s.toks + 1}) hl (by omega) (by omega) ?_ hx ?_))
 ·exact seqIndex_of (by omega) (by omega)
 show wpAny _ _ (field (Value.ref it) 1 >>= _) _ _ _;refine tG (xaD (s := { s with toks := s.toks + 1 }) ho hd (x := rawInt (i : Int)) rfl ?_);show wpAny _ _ (setField (Value.ref it) 1 (rawInt ((i : Int) - 1)) >>= _) _ _ _;refine tG (xbZ (s := { s with toks := s.toks + 1 }) ho hd (by simp) ?_);refine xac ⟨x, rfl, xac (hQ _ ?_ (xcd ..))⟩;exact ⟨_,xb1 _ ho (xb0 (xaU hd _)),(Obj.cls_mapFields ..).trans hc,by
  rw[xaU hd];simp⟩
theorem Uk {it l:Addr}{Q:Option Value->Shared->Prop}(hh:A.handled=none)(hit:gQ s.heap it l (-1))
  (hQ:∀h',Heap.ExtBut it s.heap h'->Q none {s with heap:=h'}):wpAny (model prog w) A (pyNext (.ref it)) Q E s:=by
 obtain ⟨o, ho, hc, hd⟩ := id hit;unfold pyNext;refine tG (xcw (xbs (name:=Str.ofString "__next__") hit.typeIs yI
  (xbi yI hit.typeIs Qe ?_ (Qd _))))
 unfold Builtin.«reversed.__next__»;refine tG (xcb (a:=(Value.ref it,[])) rfl ?_)
 try dsimp only
 refine tG (xaD ho hd (x:=.ref l) rfl ?_);refine tG (xaD ho hd (x:=rawInt (-1)) rfl ?_);show wpAny _ _ (if (-1:Int)<0 then _ else _) _ _ s
 rw[xab (by decide)];refine tG (wpAny_rule ?_);refine tG ?_;show wpAny _ _ (setField (.ref it) 1 (rawInt (-1)) >>=fun _=>setField (.ref it) 0 .none) _ _ s;refine tG (xbZ ho hd (by simp) ?_);refine xbZ (xb1 _ ho (xb0 (xaU hd _))) (xaU hd _) (by simp) ?_;refine tG ?_;show wpAny _ _ (newExc (.type "StopIteration") [] >>=_) _ _ _;refine tG ?_;simp only[newExc,newTuple];refine tG (xaG ?_ (by size_fits));refine tG (m:=firstArgMember _ _) (xcb (a:=Value.none) (by first |rfl |(simp only[firstArgMember];rfl)) ?_)
 refine xaG ?_ (by size_fits);simp only[raiseNew];refine tG (wpAny_handled ?_)
 first |rw[show A.in1.handled=none from hh] |rw[hh]
 refine tG (xac (wpAny_throw ?_));refine tG (xdr (T:="StopIteration") (b:=true) ⟨_,xal _ rfl,rfl⟩ isSubtype_stop ?_);exact xac (hQ _ ((((xcd _ _ _).extBut).trans ((xcd _ _ _).extBut)).push _ |>.push _))
end
noncomputable def K4 (K:Fgx) (a:Addr) (n:Nat):It:=
 ⟨fun i H=>i<n/\∃xs,cU K H a xs/\xs.length=n,fun i H x H'=>H'=H/\∀xs,cU K H a xs->xs[n - 1 - i]? =some x,fun i _=>i=n⟩
theorem zbf {P:Program}{w:World}{K:Fgx}{tg:Expr}(a it:Addr)(n:Nat):Turn P w K tg (K4 K a n) [it] it (fun i h=>gQ h it a ((n:Int) - 1 - (i:Int))) where
 mem:=by simp
 obj:=fun i h st b hb=>by
  have e:b=it:=by simpa using hb
  subst e;obtain⟨o,e,c,d⟩:=st;exact⟨o,e,fun v z=>by rw[d]at z;cases z⟩
 keep:=fun i h h' st k=>st.at fun o e=>k it (by simp) o e
 item:=by
  intro X hP hw hK hc i pins s σ H E I hf st hg;subst hP hw hK;obtain⟨hi,xs,hq,hlen⟩:=hg;obtain⟨its,rv,p,hz⟩:=I.tuple hq;have hx:xs[n - 1 - i]? =some (xs[n - 1 - i]'(by omega)):=xag (by omega);obtain⟨u,hu,ru⟩:=rv.get hx;obtain⟨f0,f1,f2,f3,f4,f5⟩:=hf it (by simp);have e:(n:Int) - 1 - (i:Int)=((n - 1 - i:Nat):Int):=by omega
  have st0:gQ s.heap it a ((n - 1 - i:Nat):Int):=by rw[<-e];exact st
  have hn:=pY;have hl:=rv.length;refine W3 st0 p (x:=u) (by simpa using hu) (by simp only[xae];omega) fun h' st' sb=>?_;have e2:((n - 1 - i:Nat):Int) - 1=(n:Int) - 1 - ((i + 1:Nat):Int):=by omega
  rw[e2]at st';have I1:Inv X pins σ H {s with heap:=h',toks:=s.toks + 1}:=I.turned (t':=s.toks + 1) (fun b o hb e=>(sb.2 b hb).trans e) f0 f1 f3 f4 f5;obtain⟨o,eo,c,d⟩:=id st';exact⟨u,rfl,u6 (s:={s with heap:=h',toks:=s.toks + 1}) eo c d (by decide) ⟨_,H,I1,ru,⟨rfl,fun ys hy=>by rw[I.tuple_inj hy hq];exact hx⟩,st',fun b hb=>(hf b hb).1⟩⟩
 done:=by
  intro X hP hw hK hc i pins s σ H E I hf st hg;subst hP hw hK;have hg':i=n:=hg;subst hg';obtain⟨f0,f1,f2,f3,f4,f5⟩:=hf it (by simp);have e:(i:Int) - 1 - (i:Int)= -1:=by omega
  have st0:gQ s.heap it a (-1):=by rw[<-e];exact st
  exact Uk (I.ok.hd hc) st0 fun h' eb=>⟨rfl,I.turned (t':=s.toks) (fun b o hb e=>eb b o hb e) f0 f1 f3 f4 f5⟩
 self:=fun _ _ _ _ _ st h=>Nv st h
section
variable {X:Cx}{tg:Expr}
noncomputable def Vj (K:Fgx) (ta:TA):TI:=fun σ H R=>ta σ H fun vs H1=>∃a xs,vs=[.ref a]/\cU K H1 a xs/\R (K4 K a xs.length) H1
theorem Zt (hg:Gl X "reversed")(hm:X.mg "reversed"=none)(ha:PA X [a] ta)(hs:starEach [a] X.env=[(false,eval a X.env)]:=by rfl):PI X tg (.Call (.Name "reversed" p) [a] [] pos) (Vj X.K ta):=by
 intro pins s σ H R I h;refine Call_ (rW I hg hm boot_reversed (xbe (aN (ha pos pins s σ H _ I h) fun us s1 ⟨vs,H1,I1,r1,q1⟩=>?_) hs rfl));obtain⟨b,xs,e,hq,q⟩:=q1;subst e;obtain⟨u,e,ru⟩:=vals1 r1;subst e;cases ru;obtain⟨its,rv,pl,hz⟩:=I1.tuple hq;have hlen:its.toArray.size=xs.length:=by rw[xae];exact rv.length.symm
 have hn:=pY;refine Tw pl (by rw[hlen];omega) ?_;rw[hlen];refine Nv (l:=b) (i:=(xs.length:Int) - 1) ⟨_,xal _ rfl,rfl,rfl⟩ ?_;refine⟨s1.heap.objs.size,[s1.heap.objs.size],_,_,H1,rfl,I1.kept (t':=s1.toks + 1 + 1) fun b o e=>xaa _ e,zbf b _ xs.length,?_,fun c hc=>?_,q⟩
 ·have e:(xs.length:Int) - 1 - ((0:Nat):Int)=(xs.length:Int) - 1:=by omega
  show gQ _ _ b ((xs.length:Int) - 1 - ((0:Nat):Int));rw[e];exact⟨_,xal _ rfl,rfl,rfl⟩
 ·have e:c=s1.heap.objs.size:=by simpa using hc
  subst e;exact I1.fpOk (xah _) (I1.hok.fresh (xah _))
end
end L2
namespace E3
open PySem PySem.Spec PyProof.Rows L2
section
variable {X:Cx}{Wx:XW}{m:Mode}{pos:Pos}
noncomputable def lQ (f:E) (ps:EJ):EJ:=fun out env M=>bnd (f env M) fun d M1=>match d with
 |.str z=>if (reprText z).length<=sizeLine/\(out ++ reprText z).length<=sizeLine then ps (out ++ reprText z) env M1 else none
 |_=>none
theorem ZC (he:PE X e te)(hv:PJ X vs tj):PJ X (.FormattedValue e 114 none pos::vs) (fun out σ H Q=>te σ H fun v H1=>∃z,v=.str z/\(reprText z).length<=sizeLine/\(out ++ reprText z).length<=sizeLine/\tj (out ++ reprText z) σ H1 Q):=fun pins s σ H out Q I h=>by
 refine joinParts_cons (wpAny_FormattedValue_repr (aN (he pins s σ H _ I h) fun u s1 ⟨x,H1,I1,r1,z,ez,hz,hl,q⟩=>?_));subst ez;obtain⟨t,rfl⟩:=r1;refine pyReprObj_str ?_ hz;exact formatField_str (fun t' tk=>⟨hl,hv pins _ σ H1 _ Q (I1.tok _) q⟩) hz
theorem zct (he:SE X Wx .val e f)(h:SJ X Wx vs ps):SJ X Wx (.FormattedValue e 114 none pos::vs) (lQ f ps):=by
 refine Bh (ZC he h) ?_;rintro out st H Q ⟨P0,H0,P,Os,env,M,r,M',k,e,q⟩;unfold lQ at e;rcases cu e with⟨d,M1,e1,e⟩ |⟨c,n,e1,rfl⟩
 ·cases d<;>simp only[reduceCtorEq]at e
  rename_i z;split at e
  ·rename_i hl;exact aU k e1 fun P1 v1 H1 l1 h1 i1=>⟨z,i1,hl.1,hl.2,P0,H0,P1,Os,env,M1,r,M',k.next l1 h1,e,RQ.imp l1 q⟩
  ·cases e
 ·exact aU k e1 q
theorem zeu (hg:Gl X nm)(hm:X.mg nm=some (.ref a))(hd:∀P H,Is X.K P H d (.ref a))(hdb:(nm==("__debug__":Str))=false:=by x_go):SE X Wx m (.Name nm p) (ak d):=
 (Cr (yr hg hm (v:=.ref a) rfl hdb) hd).bor
theorem Np {K:Fgx}{a:Addr}{o:Obj}{its:Array Value}{n:Nat}{ds:List D}{vs:List V}(l:K.lookup a=some o)(c:o.cls=.type "tuple")(e:o.data=.seq its n)(z:its.size<=sizeLine)(r:Vals vs its.toList)(i:∀P H,aC K P H ds vs):∀P H,Is K P H (.tup ds) (.ref a):=
 fun P H=>⟨a,vs,rfl,.inr ⟨o,its,n,l,c,e,z,r⟩,i P H⟩
def gM (P:Program)(w:World)(K:Fgx)(mg:Mgx)(base:Heap)(k:Nat)(C:Addr)(m:Str)(n:Nat)(g:G):Prop:=
 ∃f fd ps ds dvs sp,Meth K C m f/\FnOk P w K mg base eV k f fd ps sp/\Binds K fd ps ds/\Vals dvs ds/\∀vs H Q E,mO K mg n g vs H Q E->sp (vs ++ dvs) H Q E
theorem gM.mono {P:Program}{w:World}{K:Fgx}{mg:Mgx}{base:Heap}{j k:Nat}{C:Addr}{m:Str}{n:Nat}{g:G}(a:gM P w K mg base j C m n g)(h:j<=k):gM P w K mg base k C m n g:=by
 obtain⟨f,fd,ps,ds,dvs,sp,h1,h2,h3⟩:=a;exact⟨f,fd,ps,ds,dvs,sp,h1,h2.mono h,h3⟩
structure OwnIs (K:Fgx)(C:Addr):Prop where
 ca:PySem.W.findIn K (.ref C) "__class__"=some (some (.builtin "object.__class__"))
 gt:PySem.W.specialIn K (.builtin "object.__class__") "__get__"=some (some (.builtin "getset_descriptor.__get__"))
 tk:PySem.W.takesIn K (.builtin "object.__class__")=some true
 mr:PySem.W.mroIn K C (.type "object")=some true
 me:PySem.W.kitOne K (.ref C) (.ref C)=some true
noncomputable def lN (fs:EA):EA:=fun env M=>match fs env M with
 |some (.v [.tup ds],M1)=>some (.v ds.reverse,M1)
 |some (.x c n,M1)=>some (.x c n,M1)
 |_=>none
theorem Ro (hg:Gl X "reversed")(hm:X.mg "reversed"=none)(ha:SA X Wx .val [a] fs)(hs:starEach [a] X.env=[(false,eval a X.env)]:=by rfl):SI X Wx tg (.Call (.Name "reversed" p) [a] [] pos) (lN fs):=by
 refine yt (Zt hg hm ha hs) ?_;rintro st H R ⟨P0,H0,P,Os,env,M,r,M',k,e,q⟩;unfold lN at e;split at e
 ·rename_i ds M1 ef;cases e;refine⟨P0,H0,P,Os,env,M,_,_,k,ef,fun P1 vs H1 l1 h1 i1=>?_⟩;obtain⟨v,ws,rfl,i1,rfl⟩:=i1;obtain⟨a,us,rfl,ra,is⟩:=i1;refine⟨a,us,rfl,ra,q P1 H1 _ l1 h1 fun P2 H2 l2=>?_⟩;have ra2:=l2.tup ra;have is2:=aC.lt l2 is;have hn:us.length=ds.length:=is2.len;rw[xaE];refine⟨fun j hj=>⟨by omega,us,ra2,rfl⟩,fun j h1 h2=>by show j=us.length;omega,fun j x H' y hj=>⟨y.1,?_⟩⟩;have hj':ds.length - 1 - j<ds.length:=by omega
  obtain⟨v,ev,iv⟩:=aC.get is2 (xag hj');have:=y.2 us ra2;rw[hn,ev]at this;cases this;exact⟨_,by rw[List.getElem?_reverse hj,xag hj'],iv⟩
 ·rename_i c n M1 ef;cases e;exact⟨P0,H0,P,Os,env,M,_,_,k,ef,q⟩
 ·cases e
end
end E3
namespace E3
open PySem L2
noncomputable def dg (n:Nat):List Nat:=(Nat.toDigits 10 n).map Char.toNat
theorem Ms (n:Nat):NumText.AllDigits (dg n):=fun c hc=>by
 obtain⟨d,hd,rfl⟩:=xbn.mp hc;have h:=Nat.isDigit_of_mem_toDigits (by decide) (by decide) hd;simp only[Char.isDigit,xam,xaL]at h;exact⟨h.1,h.2⟩
theorem Mu (n:Nat):dg n≠ []:=fun e=>Nat.toDigits_ne_nil (xdO.mp e)
theorem Mt (h1:1<=k)(h:n<10 ^ k):(dg n).length<=k:=by
 rw[dg,xar];exact toDigits_len_pow (by decide) h1 h
noncomputable def cW (i:Int):Str:=Str.ofString (toString i)
theorem Cz (h:0<=i):(cW i).cps.toList=dg i.toNat:=by
 have:=W.KIN.signs_num i.toNat;rw[xdP h]at this;exact this
theorem Rm (h:i<0):(cW i).cps.toList=45::dg i.natAbs:=by
 obtain⟨m,rfl⟩:∃m,i=Int.negSucc m:=by
  cases i with
  |ofNat n=>exact absurd h (by simp)
  |negSucc m=>exact⟨m,rfl⟩
 unfold cW dg;rw[PyProof.Rows.signs_ofString];show List.map Char.toNat ("-" ++ toString (m + 1)).toList=_;rw[String.toList_append,List.map_append,Nat.toString_eq_ofList_toDigits]
 simp
theorem Rk (h1:1<=k)(h:i.natAbs<10 ^ k):(cW i).length<=k + 1:=by
 show(cW i).cps.size<=k + 1;rw[<-xaY]
 by_cases h0:0<=i
 ·rw[Cz h0];have:=Mt (n:=i.toNat) h1 (by rw[<-Int.natAbs_of_nonneg h0]at *;simpa using h);omega
 ·rw[Rm (by omega),xao];have:=Mt h1 h;omega
theorem Vp (h:i.natAbs<10 ^ 600):intText? (cW i)=some i:=by
 have hl:=Rk (by decide) h
 by_cases h0:0<=i
 ·rw[intText_digits (by rw[Cz h0];exact Ms _) (by rw[Cz h0];exact Mu _) (by omega),Cz h0];have:=W.KIN.val_back i.toNat;unfold dg;rw[this,xdP h0]
 ·rw[intText_neg (Rm (by omega)) (Ms _) (Mu _) (by omega)];have:=W.KIN.val_back i.natAbs;unfold dg;rw[this];congr 1;omega
noncomputable def cd (s:Str):List Nat:=s.cps.toList
theorem T5 (h:cd a=cd b):a=b:=by
 obtain⟨x⟩:=a;obtain⟨y⟩:=b;have:x=y:=xdq.mp h;rw[this]
theorem wJ (a b:Str):cd (a ++ b)=cd a ++ cd b:=by
 unfold cd;rw[Str.cps_append,Array.toList_append]
theorem zbg (h:cd x=c::r):cd (Txt.slice x (some 1) none)=r:=by
 have hl:(cd x).length=r.length + 1:=by rw[h];rfl
 have:=xcK (x:=x) (i:=1) ⟨by decide,by show(1:Int)<=((cd x).length:Int);omega⟩;have e:=eq_of_beq this;rw[e];show List.take (((cd x).length:Int) - 1).toNat (List.drop (1:Int).toNat (cd x))=r;rw[h]
 simp
theorem zaU (h:cd x=c::r):Txt.startswith x (Str.ofString "-")=decide (c=45):=by
 have hl:x.length=r.length + 1:=by
  show x.cps.size=_;rw[<-xaY];show(cd x).length=_;rw[h];rfl
 have e1:(Str.ofString "-").cps= #[45]:=by x_go
 have e2:(Str.ofString "-").length=1:=by x_go
 unfold Txt.startswith Builtin.Str.subAt;rw[e1,e2,hl];have e3:x.cps=(c::r).toArray:=by
  rw[<-h];simp[cd]
 rw[e3,xbY (by omega),Bool.true_and];have e4:((c::r).toArray).extract 0 (0 + 1)= #[c]:=by simp
 rw[e4];rw[xaF]
 simp
theorem d9 (x:Str):x.length=(cd x).length:=by
 show x.cps.size=x.cps.toList.length
 simp
theorem Fi:x=y ↔ cd x=cd y:=⟨fun h=>by rw[h],T5⟩
theorem wL:(x=Str.ofString "")=(cd x=[]):=propext (Fi.trans (by rw[show cd (Str.ofString "")=[] by x_go]))
theorem eq_0:(x=Str.ofString "0")=(cd x=[48]):=propext (Fi.trans (by rw[show cd (Str.ofString "0")=[48] by x_go]))
theorem MF:(x=Str.ofString "-0")=(cd x=[45,48]):=propext (Fi.trans (by rw[show cd (Str.ofString "-0")=[45,48] by x_go]))
theorem zY (c:Nat):cd ⟨#[c]⟩=[c]:=rfl
noncomputable def gY (c:Nat):Bool:=decide (48<=c) && decide (c<=57)
theorem Vm (c:Nat):pR ⟨#[c]⟩ (Str.ofString "0123456789")=gY c:=by
 by_cases h:c<58
 ·exact(show ∀c<58,pR ⟨#[c]⟩ (Str.ofString "0123456789")=gY c by x_go) c h
 ·unfold pR gY;rw[StrLaws.found_one,xaF];simp only[xaL,xam];exact⟨fun m=>absurd ((show ∀x∈(Str.ofString "0123456789").cps.toList,x<58 by x_go) c m) h,fun m=>absurd (Nat.lt_succ_of_le m.2) h⟩
noncomputable def fU (cs:List Nat):Bool:= !decide (cs=[]) && cs.all gY && (decide (cs=[48]) || !decide (cs.head? =some 48))
theorem S8 (cs:List Nat):((cs.map fun c=> !gY c).any id)= !cs.all gY:=by
 induction cs with
 |nil=>rfl
 |cons c r ih=>simp only[xaJ,xb8,xbr,ih,id,Bool.not_and]
noncomputable def gZ (cs:List Nat):List Nat:=if cs.head? =some 45 then cs.tail else cs
def good (cs:List Nat):Bool:= !decide (cs=[45,48]) && fU (gZ cs)
noncomputable def zG (cs:List Nat):Int:=if cs.head? =some 45 then -((NumText.digitsVal cs.tail:Nat):Int) else((NumText.digitsVal cs:Nat):Int)
theorem zdz (x:Str):Txt.startswith x (Str.ofString "-")=decide ((cd x).head? =some 45):=by
  cases h:cd x with
  |nil=>
    have:x=Str.ofString "":=by rw[wL];exact h
    rw[this]
    decide +kernel
  |cons c r=>
    rw[zaU h]
    simp
theorem Ui (h:cs.all gY=true):NumText.AllDigits cs:=fun c hc=>by
 have:=xaX.mp h c hc;unfold gY at this
 simpa using this
theorem Fw (h:fU cs=true):cs≠ []/\NumText.AllDigits cs/\(cs=[48]\/cs.head? ≠some 48):=by
 unfold fU at h;simp only[xam,xbQ,xdb,xaL,xcn]at h;exact⟨h.1.1,Ui h.1.2,h.2⟩
theorem Vo (h:fU (gZ (cd x))=true)(hl:x.length<=600):intText? x=some (zG (cd x)):=by
 obtain⟨h1,h2,h3⟩:=Fw h;unfold gZ at h1 h2;unfold zG
 by_cases hh:(cd x).head? =some 45
 ·rw[xab hh]at h1 h2 ⊢;obtain⟨r,e⟩:∃r,cd x=45::r:=by
   cases hc:cd x with
   |nil=>rw[hc]at hh;cases hh
   |cons c r=>rw[hc]at hh;simp at hh;exact⟨r,by rw[hh]⟩
  rw[e,xdE]at h1 h2 ⊢;exact intText_neg e h2 h1 (by omega)
 ·rw[xai hh]at h1 h2 ⊢;exact intText_digits h2 h1 (by omega)
theorem Wf (x:Str):(Txt.lstripChars x (Str.ofString "-")).length=x.length - ((cd x).takeWhile fun c=>decide (c=45)).length:=by
 have hg:(fun c=>((Str.ofString "-").cps.contains c:Bool))=fun c=>decide (c=45):=by
  funext c;rw[show(Str.ofString "-").cps= #[45] by x_go]
  simp
 have hlo:stripLo (Str.ofString "-").cps.contains true x=((cd x).takeWhile fun c=>decide (c=45)).length:=by
  unfold stripLo;rw[xab rfl];show((cd x).takeWhile fun c=>((Str.ofString "-").cps.contains c:Bool)).length=_;rw[hg]
 have hle:=PyProof.Rows.takeWhile_len_le (fun c=>decide (c=45)) (cd x);unfold Txt.lstripChars Txt.stripBy
 split
 ·rename_i h;unfold stripSame at h;rw[xam,xbg,hlo]at h;omega
 ·unfold stripped;rw[hlo];show(x.cps.extract _ (stripHi _ false x _)).size=_;unfold stripHi;rw[xai (by decide),Array.size_extract];show min x.cps.size x.cps.size - _=x.cps.size - _;omega
theorem Wl (h:good (cd x)=true):(Txt.lstripChars x (Str.ofString "-")).length=(gZ (cd x)).length:=by
  unfold good at h;rw[xam]at h;obtain⟨h1,h2,h3⟩:=Fw h.2;rw[Wf,d9];have no:∀cs:List Nat,NumText.AllDigits cs->(cs.takeWhile fun c=>decide (c=45))=[]:=fun cs hd=>by
    cases cs with
    |nil=>rfl
    |cons c r=>
      have:=hd c xaO;rw[xdQ,xai (by simp;omega)]
  unfold gZ at h1 h2 ⊢
  by_cases hh:(cd x).head? =some 45
  · rw[xab hh]at h1 h2 ⊢;obtain⟨r,e⟩:∃r,cd x=45::r:=by
      cases hc:cd x with
      |nil=>rw[hc]at hh;cases hh
      |cons c r=>rw[hc]at hh;simp at hh;exact⟨r,by rw[hh]⟩
    rw[e,xdE]at h1 h2 ⊢;rw[xdQ,xab (by simp),no _ h2]
    simp
  · rw[xai hh]at h1 h2 ⊢;rw[no _ h2]
    simp
theorem Wh (h:n<340282366920938463463374607431768211456):n.log2<1920:=by
 by_cases h0:n=0
 ·rw[h0];decide
 ·have:=(Nat.log2_lt h0 (k:=128)).mpr h;omega
section
variable {env:Env}{M M1:Mm}{f g h c:E}{d e:D}{i j:Int}{n k:Nat}{z:Str}{b:Bool}{ds es:List D}{s t:S}{x:Str}{fa:EA}{u:G}
theorem zb6 {q:D->Mm->OS}:cL q (some (.x x i,M))=some (.ex x i,M):=rfl
theorem zby {q:D->Mm->O}:cF q (some (.x x i,M))=some (.x x i,M):=rfl
theorem zbP {q:List D->Mm->O}:lH q (some (.x x i,M))=some (.x x i,M):=rfl
theorem zb3 {q:Mm->Option (ResA×Mm)}:Fp q (some (.x x i,M))=some (.x x i,M):=rfl
theorem zbZ:ni d (some (.x x i,M))=some (.x x i,M):=rfl
def Gp (q:List D->O):Option Cl->O
 |some (.lst ds)=>q ds
 |_=>none
theorem zdU {q:List D->O}:Gp q (some (.lst ds))=q ds:=rfl
noncomputable def nU (M:Mm) (k:Nat) (ds:List D):Option D->O
 |some z=>some (.v z,M.set k (.lst ds.dropLast))
 |none=>none
theorem PB:nU M k ds (some d)=some (.v d,M.set k (.lst ds.dropLast)):=rfl
noncomputable def yw (M:Mm):D->O
 |.ref k=>Gp (fun ds=>nU M k ds ds[ds.length - 1]?) M[k]?
 |_=>none
theorem zcr:yw M (.ref k)=Gp (fun ds=>nU M k ds ds[ds.length - 1]?) M[k]? :=rfl
theorem zeB:gj f env M=cF (fun d M1=>yw M1 d) (f env M):=rfl
noncomputable def xX (q:List D->OS):Option Cl->OS
 |some (.lst ds)=>q ds
 |_=>none
theorem zez {q:List D->OS}:xX q (some (.lst ds))=q ds:=rfl
noncomputable def wD (env:Env) (g:Mm->O) (M:Mm):D->OS
 |.ref k=>xX (fun _=>cL (fun y M2=>xX (fun ds=>if ds.length<sizeLine then some (.nx env,M2.set k (.lst (ds ++ [y]))) else none) M2[k]?) (g M)) M[k]?
 |_=>none
theorem zcE {q:Mm->O}:wD env q M (.ref k)=xX (fun _=>cL (fun y M2=>xX (fun ds=>if ds.length<sizeLine then some (.nx env,M2.set k (.lst (ds ++ [y]))) else none) M2[k]?) (q M)) M[k]? :=rfl
theorem zc5:rz f g env M=cL (fun d M1=>wD env (g env) M1 d) (f env M):=rfl
theorem zc1 (h:M[k]? =some (.lst ds)):vw M (.ref k)=.lst ds:=by unfold vw;simp only[h]
noncomputable def wG (q:List D->Mm->O):Option (ResA×Mm)->O
 |some (.v ds,M)=>q ds M
 |_=>none
theorem zc0 {q:List D->Mm->O}:wG q (some (.v ds,M))=q ds M:=rfl
theorem zbQ:Bo u fa env M=wG (fun ds M1=>u ds M1) (fa env M):=rfl
theorem Jg:n6 x f env M=cL (fun _ M1=>some (.ex x 0,M1)) (f env M):=rfl
noncomputable def xU (b:Bool) (tb:List (Str×D)) (M:Mm):D->O
 |.str z=>some (.v (.bl (if b then(cZ tb z).isSome else !(cZ tb z).isSome)),M)
 |_=>none
theorem zdu {tb:List (Str×D)}:xU b tb M (.str z)=some (.v (.bl (if b then(cZ tb z).isSome else !(cZ tb z).isSome)),M):=rfl
theorem zdK {tb:List (Str×D)}:jj b tb f env M=cF (fun d M1=>xU b tb M1 d) (f env M):=rfl
noncomputable def N5 (tb:List (Str×D)) (M:Mm):D->O
 |.str z=>(cZ tb z).map fun y=>(.v y,M)
 |_=>none
theorem zc2 {tb:List (Str×D)}:N5 tb M (.str z)=(cZ tb z).map fun y=>(.v y,M):=rfl
theorem zcq {tb:List (Str×D)}:yP tb f env M=cF (fun d M1=>N5 tb M1 d) (f env M):=rfl
noncomputable def R7:O->Option (ResA×Mm)
 |some (.v (.str z),M1)=>some (.v (z.cps.toList.map fun c=>.str ⟨#[c]⟩),M1)
 |some (.x c n,M1)=>some (.x c n,M1)
 |_=>none
theorem zej:Aj f env M=R7 (f env M):=rfl
theorem zet:R7 (some (.v (.str z),M))=some (.v (z.cps.toList.map fun c=>.str ⟨#[c]⟩),M):=rfl
noncomputable def yK:Option (ResA×Mm)->Option (ResA×Mm)
 |some (.v [.tup ds],M1)=>some (.v ds.reverse,M1)
 |some (.x c n,M1)=>some (.x c n,M1)
 |_=>none
theorem zcF:lN fa env M=yK (fa env M):=rfl
theorem zcD:yK (some (.v [.tup ds],M))=some (.v ds.reverse,M):=rfl
noncomputable def Ol (o:Str->List D->Option D) (q:Mm->Option (ResA×Mm)) (M:Mm):D->O
 |.str y=>mZ (o y) (q M)
 |_=>none
theorem Jy {o:Str->List D->Option D}{q:Mm->Option (ResA×Mm)}:Ol o q M (.str z)=mZ (o z) (q M):=rfl
theorem Je {o:Str->List D->Option D}:vP o f fa env M=cF (fun d M1=>Ol o (fa env) M1 d) (f env M):=rfl
theorem Ky {y:Str}:CZ z [.str y]=some (.bl (Txt.startswith z y)):=rfl
theorem Kw {y:Str}:CW z [.str y]=if z.length<=sizeLine then some (.str (Txt.lstripChars z y)) else none:=rfl
theorem I_ {ps:EJ}:fH ps env M=ps Str.empty env M:=rfl
theorem Jc {out:Str}:fD out env M=if out.length<=sizeLine then some (.v (.str out),M) else none:=rfl
theorem Jb {ps:EJ}{out:Str}:fB z ps out env M=if (out ++ z).length<=sizeLine then ps (out ++ z) env M else none:=rfl
noncomputable def NK (ps:EJ) (out:Str) (env:Env) (M:Mm):Option Str->O
 |some y=>if (out ++ y).length<=sizeLine then ps (out ++ y) env M else none
 |none=>none
theorem yG {ps:EJ}{out y:Str}:NK ps out env M (some y)=if (out ++ y).length<=sizeLine then ps (out ++ y) env M else none:=rfl
theorem Pq {ps:EJ}{out:Str}:h_ f ps out env M=cF (fun d M1=>NK ps out env M1 (vX d)) (f env M):=rfl
theorem RW:vX (.str z)=if z.length<=sizeLine then some z else none:=rfl
theorem zeA:vX (.int i)=if i.natAbs.log2<1920 then some (Str.ofString (toString i)) else none:=rfl
noncomputable def Nz (ps:EJ) (out:Str) (env:Env) (M:Mm):D->O
 |.str z=>if (reprText z).length<=sizeLine/\(out ++ reprText z).length<=sizeLine then ps (out ++ reprText z) env M else none
 |_=>none
theorem yF {ps:EJ}{out:Str}:Nz ps out env M (.str z)=if (reprText z).length<=sizeLine/\(out ++ reprText z).length<=sizeLine then ps (out ++ reprText z) env M else none:=rfl
theorem Pn {ps:EJ}{out:Str}:lQ f ps out env M=cF (fun d M1=>Nz ps out env M1 d) (f env M):=rfl
theorem Xl {y:Str}:aZ (.str z) (.str y)=if z.length + y.length<=sizeLine then some (.str (z ++ y)) else none:=rfl
theorem Xy:bB (.str z) (.int i)=if z.length<=sizeLine then(cJ z.cps.toList i).map fun c=>.str ⟨#[c]⟩ else none:=rfl
theorem XD:dB [.str z]=if z.length<=sizeLine then some (.int z.length) else none:=rfl
theorem Im:lJ [.int i]=if i.natAbs.log2<1920 then some (.str (toString i)) else none:=rfl
theorem Ij:dN [.str z]=if z.length<=640 then(intText? z).map .int else none:=rfl
theorem Xm:m6 [.lst ds]=(pK ds).map fun bs=>.bl (bs.any id):=rfl
theorem Yi:m7 [.lst ds]=some (.tup ds):=rfl
theorem Xr {y:Str}:aF .isin (.str z) (.str y)=some (.bl (pR z y)):=rfl
theorem X_ {y:Str}:aF .notin (.str z) (.str y)=some (.bl (!pR z y)):=rfl
theorem Xp {y:Str}:aF .eq (.str z) (.str y)=some (.bl (decide (z=y))):=by
 unfold aF bN pN;rw[xab (by constructor<;>first |rfl |simp[D.dep])]
 have:(z==y)=decide (z=y):=by rw[xaF];simp
 simp[D.eq,this]
theorem X6 {y:Str}:aF .ne (.str z) (.str y)=some (.bl (!decide (z=y))):=by
 unfold aF bN m_;rw[xab (by constructor<;>first |rfl |simp[D.dep])]
 have:(z==y)=decide (z=y):=by rw[xaF];simp
 simp[D.eq,this]
theorem Xu:aF .same .non .non=some (.bl true):=rfl
theorem Xv:aF .other (.int i) .non=some (.bl true):=rfl
theorem Xw:aF .other .non .non=some (.bl false):=rfl
theorem Ma {α:Type}{e:E}(A B:α->D):∀(as:List α) (acc:List D),(∀a∈as,e (.val (A a)::env) M=some (.v (B a),M))->acc.length + as.length<sizeLine->lK (ak (.bl true)) e env (as.map A) acc M=some (acc ++ as.map B,M)
  | [],acc,_,_=>by simp[lK]
  |a::as,acc,h,hl=>by
    rw[xao]at hl;have hr:=Ma A B as (acc ++ [B a]) (fun a' ha'=>h a' (by simp[ha'])) (by rw[xap,xbX];omega);rw[xaJ];unfold lK;rw[show ak (.bl true) (.val (A a)::env) M=some (.v (.bl true),M) from rfl];dsimp only;rw[h a xaO];dsimp only;rw[xab (by omega),hr]
    simp
noncomputable def vW (k:Nat) (t:S) (ds:List D):OS->OS
 |some (.nx e,M1)=>loopS k t ds e M1
 |some (.ct e,M1)=>loopS k t ds e M1
 |some (.bk e,M1)=>some (.nx e,M1)
 |some (.rt d,M1)=>some (.rt d,M1)
 |some (.ex c n,M1)=>some (.ex c n,M1)
 |none=>none
theorem zbH:loopS k t [] env M=some (.nx env,M):=rfl
theorem Jd:loopS k t (d::ds) env M=if k<env.length then vW k t ds (t (env.set k (.val d)) M) else none:=rfl
theorem PL {e':Env}:vW k t ds (some (.nx e',M))=loopS k t ds e' M:=rfl
theorem zdw {e':Env}:vW k t ds (some (.ct e',M))=loopS k t ds e' M:=rfl
theorem zef {e':Env}:vW k t ds (some (.bk e',M))=some (.nx e',M):=rfl
theorem zd2:vW k t ds (some (.rt d,M))=some (.rt d,M):=rfl
theorem zdv:vW k t ds (some (.ex x i,M))=some (.ex x i,M):=rfl
theorem Ld {α:Type}{xs:List α}{i:Int}(d:α)(h0:0<=i)(h1:i<xs.length):cJ xs i=some (xs.getD i.toNat d):=by
 obtain⟨k,rfl⟩:∃k:Nat,i=k:=⟨i.toNat,by omega⟩;have hk:k<xs.length:=by omega
 exact tR (by simp[hk])
theorem at0 {α:Type}{a:α}{xs:List α}:cJ (a::xs) 0=some a:=tR (j:=0) rfl
theorem at1 {α:Type}{a b:α}{xs:List α}:cJ (a::b::xs) 1=some b:=tR (j:=1) rfl
theorem at2 {α:Type}{a b c:α}{xs:List α}:cJ (a::b::c::xs) 2=some c:=tR (j:=2) rfl
theorem S9 {α:Type}{a b c d:α}{xs:List α}:cJ (a::b::c::d::xs) 3=some d:=tR (j:=3) rfl
theorem t_ {M:Mm}{cl:Cl}:(M ++ [cl])[M.length]? =some cl:=List.getElem?_concat_length ..
theorem s_end {M:Mm}{cl cl':Cl}:(M ++ [cl]).set M.length cl'=M ++ [cl']:=by simp
theorem w_end {M:Mm}:vw (M ++ [.lst ds]) (.ref M.length)=.lst ds:=zc1 t_
theorem Uh {α:Type}(xs:List α){i:Int}(h:0<=i):dU xs (some i) none=xs.drop i.toNat:=by
 obtain⟨k,rfl⟩:∃k:Nat,i=k:=⟨i.toNat,by omega⟩;unfold dU;rw[HT.zba,HT.zbv];rw[xdz (by rw[xb5];omega),xd3]
 by_cases hk:k<=xs.length
 ·rw[Nat.min_eq_left hk]
 ·rw[Nat.min_eq_right (by omega),xbI,List.drop_of_length_le (by omega)]
end
end E3
namespace L2
open PySem PySem.Spec PyProof.Rows
end L2
namespace E3
open PySem PySem.Spec PyProof.Rows L2
end E3
namespace L2
open PySem PySem.Spec PyProof.Rows
end L2
namespace E3
open PySem PySem.Spec PyProof.Rows L2
end E3
namespace L2
open PySem PySem.Spec PyProof.Rows
end L2
namespace E3
open PySem PySem.Spec PyProof.Rows L2
section
variable {X:Cx}{Wx:XW}{m:Mode}{pos:Pos}
open Classical in
end
end E3
namespace E3
open PySem PySem.Spec PyProof.Rows L2
section
variable {X:Cx}{Wx:XW}{pos:Pos}
noncomputable def kj (is:List Nat) (d:D) (env:Env):Option Env:=match d with
 |.tup es=>if es.length=is.length then pC is es env else none
 |_=>none
noncomputable def eF (is:List Nat) (body:S):List D->Env->Mm->OS
  | [],env,M=>some (.nx env,M)
  |d::ds,env,M=>match kj is d env with
    | some env1 => (match body env1 M with
      |some (.nx e,M1)=>eF is body ds e M1
      |some (.ct e,M1)=>eF is body ds e M1
      |some (.bk e,M1)=>some (.nx e,M1)
      |some (.rt d,M1)=>some (.rt d,M1)
      |some (.ex c n,M1)=>some (.ex c n,M1)
      |none=>none)
    |none=>none
noncomputable def vp (is:List Nat) (fs:EA) (body:S):S:=fun env M=>match fs env M with
 |some (.v ds,M1)=>eF is body ds env M1
 |some (.x c n,M1)=>some (.ex c n,M1)
 |none=>none
theorem RJ (hp:PassesOwn (model X.prog X.w) X.A X.env X.xe)(hc:X.calm=true)(hG:SG X ts is)(hI:SI X Wx (.Tuple ts n tp) iter fs)(hb:SB X Wx body b)
    (hn:(assignEach ts X.env).length=is.length:=by rfl) (hst:(assignEach ts X.env).findIdx? (·.1)=none:=by rfl)
    (hfs:∀x,foldedSetIterable iter X.env x=pure x:=by intro _;rfl):SS X Wx (.For (.Tuple ts n tp) iter body [] pos) (vp is fs b):=by
  obtain⟨t,hpg,ht⟩:=hG;refine gD (Iz hp hc hI (O5 (n:=is.length) hc hpg hn hst) hb hfs) ?_;rintro D st H ⟨P0,H0,P,Os,env,M,out,M',k,e,q⟩;unfold vp at e;split at e
  · rename_i ds M1 ef;refine⟨P0,H0,P,Os,env,M,_,_,k,ef,fun P1 H1 J l1 h1 wk=>?_⟩;have k1:=k.next l1 h1
    have q1:=q.lt (l1.lt k.hk);refine⟨fun j m σ H=>m=ds.length - j/\j<=ds.length/\∃P Os' M2 env',Lt P1 H1 P H/\Ok X.K X.mg P0 H0 P Os' H M2 σ env'/\eF is b (ds.drop j) env' M2=some (out,M'),⟨ds.length,by simp,xa8 _,P1,Os,M1,env,Lt.refl _ _,k1,e⟩,?_⟩;rintro j m σ H2 ⟨rfl,hj,P2,Os',M2,env',lt,k',h'⟩;obtain⟨w1,w2,w3⟩:=wk P2 H2 lt
    by_cases hlt:j<ds.length
    · refine .inr ⟨w1 j hlt,fun σ' H'=>∃P Os' M2 env',Lt P1 H1 P H'/\Ok X.K X.mg P0 H0 P Os' H' M2 σ' env'/\eF is b (ds.drop (j + 1)) env' M2=some (out,M'),fun σ' H' z=>⟨ds.length - (j + 1),by omega,rfl,hlt,z⟩,fun x H3 y=>?_⟩;obtain⟨e3,d,ed,iv⟩:=w3 j x H3 y hlt;subst e3;have ed':ds.drop j=d::ds.drop (j + 1):=by
        rw[xa6 hlt];rw[xag hlt]at ed;rw[xay ed]
      rw[ed']at h';simp only[eF]at h';split at h'
      · rename_i env1 ee;unfold kj at ee;split at ee
        · rename_i es;split at ee
          · rename_i hl;obtain⟨a,vs,rfl,sq,is'⟩:=iv;refine⟨a,vs,rfl,sq,by rw[is'.len];exact hl,ht _ _ _ _ _ _ _ _ _ _ _ _ k' is' ee fun Os2 st2 k4=>?_⟩;split at h'
            · rename_i e4 M4 eb;exact⟨P0,H0,P2,_,_,M2,_,_,k4,eb,fun P' Os2 H2 st2 l2 k5=>⟨P',Os2,_,e4,lt.trans l2,k5,h'⟩⟩
            · rename_i e4 M4 eb;exact⟨P0,H0,P2,_,_,M2,_,_,k4,eb,fun P' Os2 H2 st2 l2 k5=>⟨P',Os2,_,e4,lt.trans l2,k5,h'⟩⟩
            · rename_i e4 M4 eb;cases h';exact⟨P0,H0,P2,_,_,M2,_,_,k4,eb,fun P' Os2 H2 st2 l2 k5=>q1 P' Os2 H2 st2 (lt.trans l2) k5⟩
            · rename_i d4 M4 eb;cases h';exact⟨P0,H0,P2,_,_,M2,_,_,k4,eb,q1⟩
            · rename_i c4 n4 M4 eb;cases h';exact⟨P0,H0,P2,_,_,M2,_,_,k4,eb,q1⟩
            · cases h'
          · cases ee
        · cases ee
      · cases h'
    · have ej:j=ds.length:=by omega
      subst ej;rw[xbI]at h';cases h';exact .inl ⟨w2 _ (xah _) (xah _),q1 P2 Os' H2 σ lt k'⟩
  · rename_i c n M1 ef;cases e;exact⟨P0,H0,P,Os,env,M,_,_,k,ef,q⟩
  · cases e
end
section
variable {X:Cx}{Wx:XW}{m:Mode}{pos:Pos}{K:Fgx}
noncomputable def yh:D->D->Option D
 |.tup xs,.tup ys=>if xs.isEmpty=false/\xs.length + ys.length<=sizeLine then some (.tup (xs ++ ys)) else none
 |_,_=>none
theorem Z8:gA K (Pu K) yh:=fun P H d e z v w Q h h1 h2 hn q=>by
 unfold yh at h;split at h
 ·rename_i xs ys;split at h
  ·rename_i hl;cases h;obtain⟨a,vs,rfl,r1,s1⟩:=h1;obtain⟨b,ws,rfl,r2,s2⟩:=h2;have n1:vs≠ []:=fun z=>by
    have:=s1.len;rw[z]at this;have h0:=hl.1
    cases xs with
    |nil=>cases h0
    |cons _ _=>cases this
   refine⟨a,b,vs,ws,rfl,rfl,r1,r2,n1,by rw[s1.len,s2.len];exact hl.2,fun z=>?_,fun _=>GP (s1.append s2) q⟩;have e2:=s2.len;rw[z]at e2;have:ys=[]:=List.length_eq_zero_iff.mp e2.symm;subst this;rw[xax]at q;exact q _ H (Same.refl H) ⟨a,vs,rfl,r1,s1⟩
  ·cases h
 ·cases h
noncomputable def za (d:D) (lo hi:Option Int):Option D:=match d with
 |.tup ds=>if HT.aX ds.length 0 lo=0/\HT.aX ds.length ds.length hi=ds.length then none else some (.tup (dU ds lo hi))
 |_=>none
noncomputable def j_ (f:E) (l h:Env->Mm->Option (Option Int×Mm)):E:=fun env M=>bnd (f env M) fun d M1=>match l env M1 with
  | some (lo, M2) => (match h env M2 with
    |some (hi,M3)=>(za d lo hi).map fun z=>(.v z,M3)
    |none=>none)
  |none=>none
theorem zdf {e:Expr}{lo hi:Option Expr}{p2:Pos}{f:E}{l h:Env->Mm->Option (Option Int×Mm)}(he:SE X Wx .val e f)(hl:tO X lo l)(hh:tO X hi h):SE X Wx m (.Subscript e (.Slice lo hi none p2) pos) (j_ f l h):=by
 refine b_ (O3 zcn he hl hh) ?_;rintro st H Q ⟨P0,H0,P,Os,env,M,r,M',k,e,q⟩;unfold j_ at e;rcases cu e with⟨d,M1,e1,e⟩ |⟨c,n,e1,rfl⟩
 ·split at e
  ·rename_i lo' M2 el;split at e
   ·rename_i hi' M3 eh;rw[xad]at e;obtain⟨z,ez,e⟩:=e;cases e;refine⟨P0,H0,P,Os,env,M,_,_,k,e1,fun P1 v1 H1 l1 h1 i1=>⟨P0,H0,P1,Os,env,M1,_,_,k.next l1 h1,el,fun P2 H2 l2 h2=>⟨P0,H0,P2,Os,env,M2,_,_,(k.next l1 h1).next l2 h2,eh,fun P3 H3 l3 h3=>?_⟩⟩⟩
    have i3:=Is.lt (l3.lt h2) (Is.lt (l2.lt h1) i1);have fin:∀u H',Same H3 H'->Is X.K P3 H' z u->Q u H':=fun u H' s i=>q P3 u H' (l1.trans (l2.trans (l3.trans (LtE.same s)))) (h3.same s) (cA.of (h3.same s) i);unfold za at ez;split at ez
    ·split at ez
     ·cases ez
     ·rename_i hw;cases ez;obtain⟨a,vs,rfl,r,s⟩:=i3;exact⟨a,vs,rfl,r,by rw[s.len];exact hw,GP (Mh s) fin⟩
    ·cases ez
   ·cases e
  ·cases e
 ·exact⟨P0,H0,P,Os,env,M,_,_,k,e1,q⟩
end
section
variable {env:Env}{M:Mm}{f g:E}{d:D}{i:Int}{ds es:List D}{fa:EA}{x:Str}{k:Nat}
noncomputable def zc (d:D) (lo:Option Int):Option (Option Int×Mm)->O
 |some (hi,M3)=>mapR M3 (za d lo hi)
 |none=>none
noncomputable def zf (d:D) (k:Mm->Option (Option Int×Mm)):Option (Option Int×Mm)->O
 |some (lo,M2)=>zc d lo (k M2)
 |none=>none
theorem zex {l u:Env->Mm->Option (Option Int×Mm)}:j_ f l u env M=cF (fun d M1=>zf d (u env) (l env M1)) (f env M):=rfl
theorem zcy {lo hi:Option Int}:zc d lo (some (hi,M))=mapR M (za d lo hi):=rfl
end
end E3
namespace L2
open PySem PySem.Spec PyProof.Rows
theorem Uo (l b:Addr)(as bs:Array Value)(n n2:Nat)(dd2:Option Addr)(sl2:Array (Option Value))(h0:¬(!as.isEmpty && Builtin.List.listTooLong (as.size + bs.size))=true)(h1:as.size<=sizeLine)(h2:as.size + bs.size<=sizeLine + 1):
  Meets (Builtin.«list.extend» ⟨[.ref l,.ref b],[]⟩) (fun _ R s=>s.heap.get? l=some {cls:=.type "list",data:=.seq as n}/\s.heap.get? b=some ⟨.type "list",dd2,.seq bs n2,sl2⟩/\R (.ok (.ret Value.none)) {s with heap:=s.heap.update l (Obj.mapSeq fun x=>x ++ bs)}):=
 .of_wp fun prog w A R s h=>by
  obtain⟨hp,g,d,tk,os⟩:=s;obtain⟨hl,hb,h⟩:=h;have f1:=AutoSeq1.idx_int;have f2:=AutoSeq1.sub_tuple_tuple;have f3:=AutoSeq1.sub_list_list;have f4:=AutoSeq1.sub_tuple_list;have f5:=AutoSeq1.sub_list_tuple;have hz:(as ++ bs).size<=sizeLine + 1:=by rw[Array.size_append];omega
  wp_walk using (wpAny_updateSeq hl rfl (hz:=h1) (_hz':=hz)),xds hl,xds hb
  exact⟨_,rfl,h⟩
section
variable {X:Cx}
def zdp (K:Fgx):V->List V->Hp->VK->Prop:=fun x vs H Q=>∃l b xs zs,x=.ref l/\vs=[.ref b]/\H l=some (.lst xs)/\bF K H b zs/\xs.length + zs.length<=sizeLine/\Q .non (upd H l (.lst (xs ++ zs)))
theorem WK:Dt X "list.extend" (zdp X.K):=by
 intro pins s σ H x vs v us Q I rx rv h;obtain⟨l,b,xs,zs,rfl,rfl,hH,hB,hz,q⟩:=h;cases rx;obtain⟨u,rfl,ru⟩:=rv.one;cases ru;obtain⟨z,its,n,r,hl,e⟩:=I.lstM hH;obtain⟨z2,its2,r2,⟨cls2,dd2,data2,sl2⟩,ho2,hc2,n2,hd2⟩:=E3.sql I hB;simp only at hc2 hd2;subst hc2 hd2;have hl2:=r2.length;have hsz:its.toArray.size + its2.toArray.size<=sizeLine:=by rw[xae,xae];omega
 refine call_meets F.slot_list_extend ⟨_,e,rfl⟩ F.entry_list_extend (F.args_list_extend_2 _ _) (Uo l b its.toArray its2.toArray n n2 dd2 sl2 (extend_door hsz) (by rw[xae];omega) (by omega)) ⟨e,ho2,?_⟩;refine⟨.non,_,I.lset (its':=its ++ its2) hH e (by simp) (r.append r2) ?_,rfl,q⟩;rw[xap];omega
end
end L2
namespace E3
open PySem PySem.Spec PyProof.Rows L2
section
variable {X:Cx}{Wx:XW}{pos:Pos}
noncomputable def lV (i:Nat) (f:E):S:=fun env M=>match env[i]? with
  |some (.own ds)=>bY (f env M) fun d M1=>match d with
    |.lst es=>if ds.length + es.length<=sizeLine then some (.nx (env.set i (.own (ds ++ es))),M1) else none
    |_=>none
  |_=>none
theorem zcV {i:Nat}{x:Str}{e:Expr}{f:E}{p0 p q:Pos}(hN:X.N[i]? =some x)(hv:tQ X.env.scope x)(he:SE X Wx .val e f)(hd:(x==("__debug__":Str))=false:=by x_go)(hcd:(x==("__classdict__":Str))=false:=by x_go)
    (hfew:((backTo q (starEach [e] X.env)).all (fun x=> !x.1) && (backToKw q (keywordEach [] X.env)).all (fun x=>x.1.isSome) && decide ([e].length + ([]:List Keyword).length + (if ([]:List Keyword).isEmpty then 0 else 1)<30))=true:=by rfl)
    (hline:(p.endLine==q.line)=true:=by rfl) (hs:starEach [e] X.env=(false,eval e X.env)::starEach [] X.env:=by rfl) (hw:swapsWith (.Call (.Attribute (.Name x p0) "extend" p) [e] [] q) none pos.line X.env=pure false:=by rfl):
    SS X Wx (.Expr (.Call (.Attribute (.Name x p0) "extend" p) [e] [] q) pos) (lV i f):=by
  refine gD (Bj (Bf xbN PySem.F.slot_list_extend PySem.F.type_list_extend WK (Bg hN hv hd hcd) (nR he p8 hs) rfl hfew hline hs rfl) hw) ?_;rintro D st H ⟨P0,H0,P,Os,env,M,out,M',k,e,q⟩;unfold lV at e;split at e
  · rename_i ds es;obtain⟨a,vs,o1,o2,o3,o4⟩:=k.slot i _ es;refine⟨.ref a,pW o2,.inl ⟨rfl,vs,.inl (.inl o3)⟩,?_⟩;rcases kO e with⟨d,M1,e1,e⟩ |⟨c,n,e1,rfl⟩
    · split at e
      · rename_i zs;split at e
        · rename_i hz;cases e;refine aU k e1 fun P1 v1 H1 l1 h1 i1=>?_;have k1:=k.next l1 h1
          obtain⟨a',vs',o1',o2',o3',o4'⟩:=k1.slot i _ es;have ea:a'=a:=by
            have z:=o2'.symm.trans o2;cases z;rfl
          subst ea;obtain⟨b,ws,rfl,r,is⟩:=i1;refine⟨a',b,vs',ws,rfl,rfl,o3',r.imp (fun z=>z.2) id,by rw[o4'.len,is.len];exact hz,?_⟩;obtain⟨l2,k2⟩:=k1.chg es (pW o1') o3' (aC.append o4' is);exact q _ _ _ _ ((l1.lt k.hk).trans l2) k2
        · cases e
      · cases e
    · exact aU k e1 q
  · cases e
end
end E3
namespace E3
end E3
namespace E3
open PySem PySem.Spec PyProof.Rows L2
mutual
def D.nr:D->Bool
 |.tup xs=>D.nrs xs
 |.lst xs=>D.nrs xs
 |.ref _=>false
 |_=>true
def D.nrs:List D->Bool
 | []=>true
 |a::as=>D.nr a && D.nrs as
end
noncomputable def Pf:Pl:=⟨fun _=>0,0,fun _=>False⟩
section
variable {K:Fgx}{mg:Mgx}{P P':Pl}{H H':Hp}{M:Mm}
mutual
theorem Is.fre:∀{d:D} {v:V},D.nr d=true->Is K P H d v->Is K Pf H d v
 |.non,_,_,h=>h
 |.bl _,_,_,h=>h
 |.int _,_,_,h=>h
 |.str _,_,_,h=>h
 |.tup _,_,n,h=>by obtain⟨a,vs,e,s,q⟩:=h;exact⟨a,vs,e,s,aC.fre n q⟩
 |.lst _,_,n,h=>by obtain⟨a,vs,e,s,q⟩:=h;exact⟨a,vs,e,s.imp (fun z=>⟨fun z=>z,z.2⟩) id,aC.fre n q⟩
 |.ref _,_,n,_=>by cases n
theorem aC.fre:∀{ds:List D} {vs:List V},D.nrs ds=true->aC K P H ds vs->aC K Pf H ds vs
  | [],_,_,h=>h
  |_::_,_,n,h=>by
    obtain⟨v,r,e,p,q⟩:=h;have n:=xdL.mp n;exact⟨v,r,e,Is.fre n.1 p,aC.fre n.2 q⟩
end
mutual
theorem Is.lf_any:∀{d:D} {v:V},D.lf d=true->Is K P H d v->Is K P' H d v
 |.non,_,_,h=>h
 |.bl _,_,_,h=>h
 |.int _,_,_,h=>h
 |.str _,_,_,h=>h
 |.tup _,_,n,h=>by obtain⟨a,vs,e,s,q⟩:=h;exact⟨a,vs,e,s,aC.lf_any n q⟩
 |.lst _,_,n,_=>by cases n
 |.ref _,_,n,_=>by cases n
theorem aC.lf_any:∀{ds:List D} {vs:List V},D.lfs ds=true->aC K P H ds vs->aC K P' H ds vs
  | [],_,_,h=>h
  |_::_,_,n,h=>by
    obtain⟨v,r,e,p,q⟩:=h;have n:=xdL.mp n;exact⟨v,r,e,Is.lf_any n.1 p,aC.lf_any n.2 q⟩
end
end
section
variable {X:Cx}{Wx:XW}{m:Mode}{pos:Pos}
theorem cH {k:Nat}{ss:List Stmt}{b:S}(hr:Room k X.A)(h:X.A.units + 60<cLine->SB X Wx ss b):SB X Wx ss b:=h (xdZ (xdR (by decide) _) hr.units)
theorem fK {e:Expr}{es:List Expr}{x:Str}{id:String}{r:List V->Hp->VK->Prop}{o:List D->Option D}{fs:EA}{p:Pos}(hc:cX X (.builtin id) r)(hg:Gl X x)(hm:X.mg x=none)(hv:bootBuiltins x=some (.builtin id))(po:lD X.K r o)(ha:SA X Wx .bor (e::es) fs)
  (hn:x≠"__name__":=by x_go) (hdb:(x==("__debug__":Str))=false:=by x_go) (he:starEach (e::es) X.env=(false,eval e X.env)::starEach es X.env:=by rfl) (hpl:(backTo pos (starEach es X.env)).any (·.1)=false:=by rfl):SE X Wx m (.Call (.Name x p) (e::es) [] pos) (sN o fs):=
 Q_ (fun _ ha=>Iu hc hg hm hv ha hn hdb he hpl) po ha
theorem Cq (hc:cX X (.type T) r)(hg:Gl X x)(hm:X.mg x=none)(hv:bootBuiltins x=some (.type T))(po:lD X.K r o)(ha:SA X Wx .bor (e::es) fs)
  (hn:x≠"__name__":=by x_go) (hdb:(x==("__debug__":Str))=false:=by x_go) (he:starEach (e::es) X.env=(false,eval e X.env)::starEach es X.env:=by rfl) (hpl:(backTo pos (starEach es X.env)).any (·.1)=false:=by rfl):SE X Wx m (.Call (.Name x p) (e::es) [] pos) (sN o fs):=
 Q_ (fun _ ha=>O2 hc hg hm hv ha hn hdb he hpl) po ha
end
section
variable (P:Program)(w:World)(K:Fgx)(mg:Mgx)(base:Heap)(k:Nat)(f:Addr)(N:List Str)(q:Str)(st:Stmt)(b:S)
abbrev RT:Prop:=∀(cdv:Value) (A:Around) (outer:List PySem.Env) (s:Shared) (H:Hp) (E:XK),Room k (A.deeper (envOfC q (aH st) s.heap.objs.size f cdv))->SB (nj P w K mg base N q st f cdv A outer s H E) W0 (bK st) b
abbrev DG:Prop:=∀(cdv:Value) (A:Around) (outer:List PySem.Env) (s:Shared) (H:Hp) (E:XK) (Wx:XW),Room k (A.deeper (envOfC q (aH st) s.heap.objs.size f cdv))->XFit (mq P w K mg base N q st f cdv A outer s H E) Wx->XPass (mq P w K mg base N q st f cdv A outer s H E) Wx->SB (mq P w K mg base N q st f cdv A outer s H E) Wx (bK st) b
end
theorem cI (h1:sc.kind=.function:=by rfl)(h2:sc.isCoroutine=false:=by rfl)(h3:sc.isGenerator=false:=by rfl)(h4:N.Nodup:=by x_go)(h5:N.take P.length=P:=by rfl)
  (h6:∀x∈P,sc.names.lookup x=some .local\/sc.names.lookup x=some .cell:=by x_go) (h7:∀y∈sc.names,y.2≠ .free:=by x_go):FnScope N P sc:=⟨h1,h2,h3,h4,h5,h6,h7⟩
abbrev LV (st:Stmt)(x:Str):Prop:=(aH st).names.lookup x=some .local
abbrev LC (st:Stmt)(x:Str):Prop:=(aH st).names.lookup x=some .cell
structure DefAt (K:Fgx)(mg:Mgx)(x:Str)(st:Stmt)(ps:List Str)(f:Addr)(fd:FuncData):Prop where
 mg:mg x=some (.ref f)
 F:FunD K x x st f fd
 b:Binds K fd ps []
theorem DefAt.ok {P:Program}{w:World}{K:Fgx}{mg:Mgx}{base:Heap}{k:Nat}{x:Str}{st:Stmt}{f:Addr}{fd:FuncData}{N ps:List Str}{b:S}(D:DefAt K mg x st ps f fd)(S:FnScope N ps (aH st))(hr:RT P w K mg base k f N x st b)(hp:ps.length<=N.length:=by decide):aV P w K mg base (k + 1) x ps.length (bI N.length b):=UG D.F S hp D.mg D.b hr
def aR (K:Fgx)(x:Str)(st:Stmt):Prop:=∃(f:Addr) (oc kV dc pm cd ct:Value) (od an:Option Addr) (sl:Array (Option Value)),PySem.W.nsIn K mainGlobals x=some (some (.ref f))/\K.lookup f=some ⟨oc,od,.func (PySem.W.fnOf x x (cM st) (bK st) (aH st) .none kV dc pm an cd ct),sl⟩/\PySem.W.codeIn K cd x=true/\PySem.W.keepIn K (.ref f)=true
theorem aR.mk {K:Fgx}{x:Str}{st:Stmt}{f:Addr}{oc kV dc pm cd ct:Value}{od an:Option Addr}{sl:Array (Option Value)}(a:PySem.W.nsIn K mainGlobals x=some (some (.ref f)))(l:K.lookup f=some ⟨oc,od,.func (PySem.W.fnOf x x (cM st) (bK st) (aH st) .none kV dc pm an cd ct),sl⟩)(c:PySem.W.codeIn K cd x=true)(k:PySem.W.keepIn K (.ref f)=true):aR K x st:=⟨f,oc,kV,dc,pm,cd,ct,od,an,sl,a,l,c,k⟩
theorem aR.at {K:Fgx}{h:Heap}{mg:Mgx}{x:Str}{st:Stmt}{ps:List Str}(F:aR K x st)(X:K.In h)(G:h.Ns mainGlobals mg)
  (hb:∀(kV doc pm:Value) (an:Option Addr) (cdv ct:Value) (us:List Value),us.length=ps.length->bindArgs (PySem.W.fnOf x x (cM st) (bK st) (aH st) .none kV doc pm an cdv ct) ⟨us,[]⟩=pure (ps.zip us)):∃f fd,DefAt K mg x st ps f fd:=by
 obtain⟨f,oc,kV,dc,pm,cd,ct,od,an,sl,a,l,c,k⟩:=F;exact⟨f,_,PySem.W.mg_of X G a,Ah l c k,(FJ (st:=st) l c k).binds hb⟩
end E3
namespace L2
open PySem PySem.Spec PyProof.Rows
abbrev TH:=Ends->Addr->Addr->Option Addr->St->Hp->Prop
def HB (X:Cx)(hs:List ExceptHandler)(t:TH):Prop:=∀(pins:Pnx) (s:Shared) (σ:St) (H:Hp) (a C:Addr) (dx:Option Addr) (T:Addr) (D:Ends),
 Caught X pins σ H s a C dx T->dw X.K C=true->X.A.handled=none->t D C a dx σ H->wpAny (model X.prog X.w) X.A (handleBy (.ref a) X.env hs) (SP X pins D) X.xe s
end L2
namespace E3
open PySem PySem.Spec PyProof.Rows L2
abbrev HE:=Str->Int->Env->Mm->OS
section
variable {X:Cx}{Wx:XW}{m:Mode}{pos:Pos}
noncomputable def tH (X:Cx) (hh:HE):TH:=fun D C a dx st H=>∃P0 H0 P Os env M c n out M',Ok X.K X.mg P0 H0 P Os H M st env/\X.mg c=some (.ref C)/\K6 X.K X.mg P H none (some (.ref a)) (.exc c n)/\hh c n env M=some (out,M')/\Post X.K X.mg W0 P0 H0 P H M' D out
def Du (out:Out):Prop:=(∃e,out=.nx e)\/∃d,out=.rt d
structure SH (X:Cx)(hs:List ExceptHandler)(hh:HE):Prop where
 hb:HB X hs (tH X hh)
 ok:∀c n env M out M',hh c n env M=some (out,M')->(∃C,X.mg c=some (.ref C)/\dw X.K C=true)/\Du out
variable {suite:List Stmt}{b0:Stmt}{cn n:Str}{np hp:Pos}{c:Addr}{i:Nat}{h:S}{hs:List ExceptHandler}{r:HE}{cat:Str->Option Bool}
end
end E3
namespace L2
open PySem PySem.Spec PyProof.Rows
section
variable {X:Cx}{e:Expr}{es:List Expr}{te:TE}{t:TA}{pos:Pos}
open Builtin Builtin.Str in
open Builtin Builtin.Str in
open Builtin Builtin.Str in
end
end L2
namespace E3
open PySem PySem.Spec PyProof.Rows L2
section
variable {X:Cx}{Wx:XW}{m:Mode}
theorem Sv {P:Program}{w:World}{K:Fgx}{mg:Mgx}{base:Heap}{N:List Str}{q:Str}{st:Stmt}{f:Addr}{cdv:Value}{A:Around}{outer:List PySem.Env}{s:Shared}{H:Hp}{E:XK}{i:Nat}{x:Str}{pos:Pos}(hN:N[i]? =some x:=by rfl)(hv:LV st x:=by kernel_rfl)(hd:(x==("__debug__":Str))=false:=by x_go)(hcd:(x==("__classdict__":Str))=false:=by x_go):SE (nj P w K mg base N q st f cdv A outer s H E) Wx m (.Name x pos) (aj i):=sO hN hv hd hcd
theorem Lv {P:Program}{w:World}{K:Fgx}{mg:Mgx}{base:Heap}{N:List Str}{q:Str}{st:Stmt}{f:Addr}{cdv:Value}{A:Around}{outer:List PySem.Env}{s:Shared}{H:Hp}{E:XK}{x:Str}(hv:LV st x:=by kernel_rfl):Loc (nj P w K mg base N q st f cdv A outer s H E).env.scope x:=.inl hv
theorem Sw {P:Program}{w:World}{K:Fgx}{mg:Mgx}{base:Heap}{N:List Str}{q:Str}{st:Stmt}{f:Addr}{cdv:Value}{A:Around}{outer:List PySem.Env}{s:Shared}{H:Hp}{E:XK}{i:Nat}{x:Str}{pos:Pos}(hN:N[i]? =some x:=by rfl)(hv:LV st x:=by kernel_rfl)(hd:(x==("__debug__":Str))=false:=by x_go)(hcd:(x==("__classdict__":Str))=false:=by x_go):SE (mq P w K mg base N q st f cdv A outer s H E) Wx m (.Name x pos) (aj i):=sO hN hv hd hcd
theorem Lw {P:Program}{w:World}{K:Fgx}{mg:Mgx}{base:Heap}{N:List Str}{q:Str}{st:Stmt}{f:Addr}{cdv:Value}{A:Around}{outer:List PySem.Env}{s:Shared}{H:Hp}{E:XK}{x:Str}(hv:LV st x:=by kernel_rfl):Loc (mq P w K mg base N q st f cdv A outer s H E).env.scope x:=.inl hv
theorem Su {i:Nat}{x:Str}{pos:Pos}(hN:X.N[i]? =some x:=by rfl)(hv:X.env.scope.names.lookup x=some .local:=by kernel_rfl)(hd:(x==("__debug__":Str))=false:=by x_go)(hcd:(x==("__classdict__":Str))=false:=by x_go):SE X Wx m (.Name x pos) (aj i):=sO hN hv hd hcd
theorem Lu {a b:Prop}(h:a:=by kernel_rfl):a\/b:=.inl h
theorem Ei {i:Int}{j pos}:SE X Wx m (.Constant (.int i) j pos) (ak (.int i)):=pB Y9
theorem Es {z:Str}{j pos}:SE X Wx m (.Constant (.str z) j pos) (ak (.str z)):=yX Zi
theorem Eb {b:Bool}{j pos}:SE X Wx m (.Constant (.bool b) j pos) (ak (.bl b)):=JR YT
theorem Ek {a b:Expr}{pos:Pos}{f g:E}(ha:SE X Wx .bor a f)(hb:SE X Wx .bor b g)(hs:Dw b:=by exact fun _ _=>rfl):SE X Wx m (.Subscript a b pos) (s2 bB f g):=Rg Nx Ph ha hb hs
theorem Cm {a b:Expr}{op:CmpOp}{c:Cp}{pos:Pos}{f g:E}(hu:X.A.units + 60<cLine)(ha:SE X Wx .bor a f)(hb:SE X Wx .bor b g)(ho:op=rM c:=by rfl)(hm:behindInMarks op b=false:=by rfl):SE X Wx m (.Compare a [op] [b] pos) (s2 (aF c) f g):=by subst ho;exact Rb (wK hu c) IV ha hb hm
theorem Ct {a b:Expr}{op:CmpOp}{c:Cp}{pos:Pos}{f g:E}(hu:X.A.units + 60<cLine)(ha:SE X Wx .bor a f)(hb:SE X Wx .bor b g)(ho:op=rM c:=by rfl)(hm:behindInMarks op b=false:=by rfl):ST X Wx (.Compare a [op] [b] pos) (s2 (aF c) f g):=by subst ho;exact zcx (wK hu c) IV ha hb hm
end
section
variable {P:Program}{w:World}{K:Fgx}{h base:Heap}{mg:Mgx}{k:Nat}{x:Str}{st:Stmt}{N ps:List Str}{b:S}
abbrev HB (x:Str)(st:Stmt)(ps:List Str):Prop:=∀(kV doc pm:Value) (an:Option Addr) (cdv ct:Value) (us:List Value),us.length=ps.length->bindArgs (PySem.W.fnOf x x (cM st) (bK st) (aH st) .none kV doc pm an cdv ct) ⟨us,[]⟩=pure (ps.zip us)
theorem zJ {a0:Str}(h:∀{kV doc pm:Value} {an:Option Addr} {cdv ct u0:Value},bindArgs (PySem.W.fnOf x x (cM st) (bK st) (aH st) .none kV doc pm an cdv ct) ⟨[u0],[]⟩=pure [(a0,u0)]):HB x st [a0]:=fun _ _ _ _ _ _ us hl=>match us,hl with | [_],_=>h
theorem Dk {a0 a1:Str}(h:∀{kV doc pm:Value} {an:Option Addr} {cdv ct u0 u1:Value},bindArgs (PySem.W.fnOf x x (cM st) (bK st) (aH st) .none kV doc pm an cdv ct) ⟨[u0,u1],[]⟩=pure [(a0,u0),(a1,u1)]):HB x st [a0,a1]:=fun _ _ _ _ _ _ us hl=>match us,hl with | [_,_],_=>h
theorem Dl {a0 a1 a2:Str}(h:∀{kV doc pm:Value} {an:Option Addr} {cdv ct u0 u1 u2:Value},bindArgs (PySem.W.fnOf x x (cM st) (bK st) (aH st) .none kV doc pm an cdv ct) ⟨[u0,u1,u2],[]⟩=pure [(a0,u0),(a1,u1),(a2,u2)]):HB x st [a0,a1,a2]:=fun _ _ _ _ _ _ us hl=>match us,hl with | [_,_,_],_=>h
theorem Dm {a0 a1 a2 a3:Str}(h:∀{kV doc pm:Value} {an:Option Addr} {cdv ct u0 u1 u2 u3:Value},bindArgs (PySem.W.fnOf x x (cM st) (bK st) (aH st) .none kV doc pm an cdv ct) ⟨[u0,u1,u2,u3],[]⟩=pure [(a0,u0),(a1,u1),(a2,u2),(a3,u3)]):HB x st [a0,a1,a2,a3]:=fun _ _ _ _ _ _ us hl=>match us,hl with | [_,_,_,_],_=>h
theorem Dp {a0 a1 a2 a3 a4:Str}(h:∀{kV doc pm:Value} {an:Option Addr} {cdv ct u0 u1 u2 u3 u4:Value},bindArgs (PySem.W.fnOf x x (cM st) (bK st) (aH st) .none kV doc pm an cdv ct) ⟨[u0,u1,u2,u3,u4],[]⟩=pure [(a0,u0),(a1,u1),(a2,u2),(a3,u3),(a4,u4)]):HB x st [a0,a1,a2,a3,a4]:=fun _ _ _ _ _ _ us hl=>match us,hl with | [_,_,_,_,_],_=>h
theorem aR.ok (F:aR K x st)(X:K.In h)(G:h.Ns mainGlobals mg)(S:FnScope N ps (aH st))(hr:∀f,RT P w K mg base k f N x st b)
  (hb:HB x st ps:=by first |exact zJ rfl |exact Dk rfl |exact Dl rfl |exact Dm rfl |exact Dp rfl) (hp:ps.length<=N.length:=by decide):aV P w K mg base (k + 1) x ps.length (bI N.length b):=by
 obtain⟨f,d,D⟩:=F.at X G hb;exact D.ok S (hr f) hp
theorem aR.okX (F:aR K x st)(X:K.In h)(G:h.Ns mainGlobals mg)(S:FnScope N ps (aH st))(hr:∀f,DG P w K mg base k f N x st b)
  (hb:HB x st ps:=by first |exact zJ rfl |exact Dk rfl |exact Dl rfl |exact Dm rfl |exact Dp rfl) (hp:ps.length<=N.length:=by decide):gO P w K mg base (k + 1) x ps.length (bI N.length b):=by
 obtain⟨f,d,D⟩:=F.at X G hb;exact⟨_,_,_,D.mg,D.F.kp,U0 D.F S hp (hr f),D.b⟩
theorem aV.up {j n:Nat}{g:G}(a:aV P w K mg base j x n g)(h:j<=k:=by decide):aV P w K mg base k x n g:=a.mono h
theorem gO.up {j n:Nat}{g:G}(a:gO P w K mg base j x n g)(h:j<=k:=by decide):gO P w K mg base k x n g:=a.mono h
theorem lX.up {j n:Nat}{C:Addr}{g:G}(a:lX P w K mg base j C n g)(h:j<=k:=by decide):lX P w K mg base k C n g:=a.mono h
theorem lY.up {j n:Nat}{C:Addr}{m:Str}{g:G}(a:lY P w K mg base j C m n g)(h:j<=k:=by decide):lY P w K mg base k C m n g:=a.mono h
theorem eU.up {j n:Nat}{C:Addr}{m:Str}{g:G}(a:eU P w K mg base j C m n g)(h:j<=k:=by decide):eU P w K mg base k C m n g:=a.mono h
theorem eN.up {j n:Nat}{C:Addr}{g:G}(a:eN P w K mg base j C n g)(h:j<=k:=by decide):eN P w K mg base k C n g:=a.mono h
theorem gM.up {j n:Nat}{C:Addr}{m:Str}{g:G}(a:gM P w K mg base j C m n g)(h:j<=k:=by decide):gM P w K mg base k C m n g:=a.mono h
theorem mG {K:Fgx}{t:Addr}{d m s j0 j1 j2}{a b:Str}{i:Int}(l:K.lookup t=some ⟨.type "tuple",d,.seq #[.str a j0,.str b j1,.int i j2] m,s⟩):∀P H,Is K P H (.tup [.str a,.str b,.int i]) (.ref t):=Np (vs:=[.str a,.str b,.int i]) l rfl rfl (by show 3<=sizeLine;decide) (.cons ⟨_,rfl⟩ (.cons ⟨_,rfl⟩ (.cons ⟨_,rfl⟩ .nil))) (fun _ _=>⟨_,_,rfl,rfl,⟨_,_,rfl,rfl,⟨_,_,rfl,rfl,rfl⟩⟩⟩)
end
end E3
namespace L2
open PySem PySem.Spec PyProof.Rows
noncomputable def zdl (N:List Str) (psc:Scope) (xs:List Str) (cs:List (Str×Nat)) (scope:Scope):Bool:=
 scope.kind==.function && xs.all (fun x=>scope.names.lookup x==some .local) && decide ((xs ++ cs.map (·.1)).Nodup) &&
 scope.names.all (fun y=>y.2 !=.cell && (y.2 !=.local || scope.names.lookup y.1==some .local) && (y.2 !=.free || (psc.names.lookup y.1==some .cell || psc.names.lookup y.1==some .free))) &&
 cs.all (fun p=>N[p.2]? ==some p.1 && (psc.names.lookup p.1==some .cell || psc.names.lookup p.1==some .free) && ((cT psc scope.names).lookup p.1==some .cell || (cT psc scope.names).lookup p.1==some .free))
structure CompOkT (N:List Str)(psc:Scope)(xs:List Str)(cs:List (Str×Nat))(scope:Scope):Prop where
 kind:scope.kind=.function
 own:∀x∈xs,scope.names.lookup x=some .local
 nd:(xs ++ cs.map (·.1)).Nodup
 cell:∀y∈scope.names,y.2≠ .cell
 names:∀y∈scope.names,y.2=.local->scope.names.lookup y.1=some .local
 has:∀y∈scope.names,y.2=.free->psc.names.lookup y.1=some .cell\/psc.names.lookup y.1=some .free
 cap:∀p∈cs,N[p.2]? =some p.1/\(psc.names.lookup p.1=some .cell\/psc.names.lookup p.1=some .free)/\((cT psc scope.names).lookup p.1=some .cell\/(cT psc scope.names).lookup p.1=some .free)
end L2
namespace E3
open PySem PySem.Spec PyProof.Rows L2
section
variable {X:Cx}{Wx:XW}{m:Mode}{pos:Pos}
open Classical in
end
end E3
namespace E3
open PySem PySem.Spec PyProof.Rows L2
end E3
namespace L2
open PySem PySem.Spec PyProof.Rows
end L2
namespace E3
open PySem PySem.Spec PyProof.Rows L2
end E3
namespace L2
open PySem PySem.Spec PyProof.Rows
end L2
namespace E3
open PySem PySem.Spec PyProof.Rows L2
end E3
namespace E3
open PySem L2
end E3
namespace L2
open PySem PySem.Spec PyProof.Rows
end L2
namespace E3
open PySem PySem.Spec PyProof.Rows L2
end E3
namespace E3
open PySem PySem.Spec PyProof.Rows L2 PySem.W
section
variable {n:Nat}{lt:Nat->Nat->Option Bool}{le:Nat->Nat->Prop}
def Pm (n:Nat)(p:Array Nat):Prop:=p.Perm (List.range n).toArray
theorem Pm.size {p:Array Nat}(h:Pm n p):p.size=n:=by
 have:=Array.Perm.size_eq h
 simpa using this
theorem Pm.low {p : Array Nat} (h : Pm n p) : Low n p := ⟨h.size,fun x hx=>by
 have:=(xd6 h).mem_iff.mp hx
 simpa using this⟩
theorem Pm.rev {p:Array Nat}{i j:Nat}(h:Pm n p):Pm n (kas_rev p i j):=(mirror_perm _ _ _ _).trans h
theorem Pm.bub {p:Array Nat}{i j:Nat}(h:Pm n p):Pm n (bubble p i j):=(bubble_perm _ _ _).trans h
theorem xR {p q:Array Nat}{i j:Nat}(h:p[i]? =q[j]?):p.getD i 0=q.getD j 0:=by
 rw[xbf,xbf,h]
theorem rm {p:Array Nat}{i j:Nat}(hj:j<=p.size)(k:Nat):(kas_rev p i j).getD k 0=if i<=k/\k<j then p.getD (i + j - 1 - k) 0 else p.getD k 0:=by
 have:=getElem?_mirror_all (xs:=p) (i:=i) hj k
 split
 ·rename_i h;rw[xab h]at this;exact xR this
 ·rename_i h;rw[xai h]at this;exact xR this
theorem Lp {p:Array Nat}{s d:Nat}(hs:s<p.size)(hd:d<=s)(k:Nat):(bubble p s d).getD k 0=if k=s - d then p.getD s 0 else if s - d<k/\k<=s then p.getD (k - 1) 0 else p.getD k 0:=by
 have:=getElem?_bubble hs d hd k
 by_cases h:k=s - d
 ·rw[xab h]at this ⊢;exact xR this
 ·rw[xai h]at this ⊢
  by_cases h':s - d<k/\k<=s
  ·rw[xab h']at this ⊢;exact xR this
  ·rw[xai h']at this ⊢;exact xR this
def Up (le:Nat->Nat->Prop)(p:Array Nat)(m:Nat):Prop:=∀i j,i<=j->j<m->le (p.getD i 0) (p.getD j 0)
def Dn (le:Nat->Nat->Prop)(p:Array Nat)(m:Nat):Prop:=∀i j,i<=j->j<m->le (p.getD j 0) (p.getD i 0)
def Al (le:Nat->Nat->Prop)(p:Array Nat)(m q:Nat):Prop:=∀i j,m - (q + 1)<=i->i<m->m - (q + 1)<=j->j<m->le (p.getD i 0) (p.getD j 0)
variable (hn:0<n)(rf:∀i,le i i)(tr:∀i j k,le i j->le j k->le i k)(H:∀i j,i<n->j<n->∃b,lt i j=some b/\(b=true->le i j)/\(b=false->le j i))
include rf tr
theorem Dn.al {p:Array Nat}{m q:Nat}(hm:m<=p.size)(hq:q + 1<=m)(h:Dn le p m)(ha:Al le p m q):Dn le (kas_rev p (m - (q + 1)) m) m:=by
 intro i j hij hj;rw[rm hm,rm hm]
 split
 ·split
  ·exact ha _ _ (by omega) (by omega) (by omega) (by omega)
  ·exact h _ _ (by omega) (by omega)
 ·split
  ·exact(by omega:False).elim
  ·exact h _ _ hij hj
theorem Dn.succ {p:Array Nat}{m:Nat}(hm:0<m)(h:Dn le p m)(hl:le (p.getD m 0) (p.getD (m - 1) 0)):Dn le p (m + 1):=by
 intro i j hij hj
 by_cases hjm:j<m
 ·exact h i j hij hjm
 ·obtain rfl:j=m:=by omega
  by_cases hi:i=j
  ·subst hi;exact rf _
  ·exact tr _ _ _ hl (h i (j - 1) (by omega) (by omega))
theorem Up.succ {p:Array Nat}{m:Nat}(hm:0<m)(h:Up le p m)(hl:le (p.getD (m - 1) 0) (p.getD m 0)):Up le p (m + 1):=by
 intro i j hij hj
 by_cases hjm:j<m
 ·exact h i j hij hjm
 ·obtain rfl:j=m:=by omega
  by_cases hi:i=j
  ·subst hi;exact rf _
  ·exact tr _ _ _ (h i (j - 1) (by omega) (by omega)) hl
include hn H
theorem J2 {p:Array Nat}(h:Pm n p):∀f m,1<=m->Up le p m->∃r,bf lt (kas_asc p f m)=some r/\m<=r/\r<=m + f/\Up le p r/\(r=m + f\/le (p.getD r 0) (p.getD (r - 1) 0))
  |0,m,_,hu=>⟨m,rfl,xah _,xah _,hu,.inl rfl⟩
  |f + 1,m,h1,hu=>by
    obtain⟨b,eb,b1,b0⟩:=H _ _ (h.low.get hn m) (h.low.get hn (m - 1));simp only[kas_asc,bf,eb];cases b
    · obtain⟨r,er,l1,l2,u,z⟩:=J2 h f (m + 1) (by omega) (Up.succ rf tr (by omega) hu (b0 rfl));exact⟨r,er,by omega,by omega,u,z.imp (fun e=>by omega) id⟩
    · exact⟨m,rfl,xah _,by omega,hu,.inr (b1 rfl)⟩
theorem CJ:∀f {p:Array Nat} m q,Pm n p->1<=m->m + f<=n->q + 1<=m->Dn le p m->Al le p m q->
    ∃r,bf lt (kas_desc f p m q)=some r/\Pm n r.1/\m<=r.2.1/\r.2.1<=m + f/\r.2.2 + 1<=r.2.1/\Dn le r.1 r.2.1/\Al le r.1 r.2.1 r.2.2
  |0,p,m,q,h,h1,hf,hq,hd,ha=>⟨_,rfl,h,xah _,xah _,hq,hd,ha⟩
  |f + 1,p,m,q,h,h1,hf,hq,hd,ha=>by
    obtain⟨b,eb,b1,b0⟩:=H _ _ (h.low.get hn m) (h.low.get hn (m - 1));obtain⟨c,ec,c1,c0⟩:=H _ _ (h.low.get hn (m - 1)) (h.low.get hn m);have hs:=h.size;have one:∀p':Array Nat,Al le p' (m + 1) 0:=fun p' i j a1 a2 a3 a4=>by
      obtain rfl:i=j:=by omega
      exact rf _
    simp only[kas_desc,bf,eb];cases b
    · simp only[xa4,xbT,bf,ec];cases c
      · have e1 := b0 rfl;have e2 := c0 rfl;obtain ⟨r, er, g1, g2, g3, g4⟩ := CJ f (m + 1) (q + 1) h (by omega) (by omega) (by omega) (Dn.succ rf tr (by omega) hd e2) (fun i j a1 a2 a3 a4=>by
          have k1:∀x,m - (q + 1)<=x->x<m->le (p.getD x 0) (p.getD m 0):=fun x y1 y2=>tr _ _ _ (ha x (m - 1) y1 y2 (by omega) (by omega)) e1;have k2:∀x,m - (q + 1)<=x->x<m->le (p.getD m 0) (p.getD x 0):=fun x y1 y2=>tr _ _ _ e2 (ha (m - 1) x (by omega) (by omega) y1 y2)
          by_cases hi:i=m
          · subst hi
            by_cases hj:j=i
            · subst hj;exact rf _
            · exact k2 j (by omega) (by omega)
          · by_cases hj:j=m
            · subst hj;exact k1 i (by omega) (by omega)
            · exact ha i j (by omega) (by omega) (by omega) (by omega))
        exact⟨r,er,g1,by omega,by omega,g4⟩
      · exact⟨_,rfl,h,xah _,xbJ m (f + 1),hq,hd,ha⟩
    · simp only[xba];have e1:=b1 rfl
      split
      · have hd':=Dn.al rf tr (by omega) hq hd ha;have hl:le ((kas_rev p (m - (q + 1)) m).getD m 0) ((kas_rev p (m - (q + 1)) m).getD (m - 1) 0):=by
          rw[rm (by omega),rm (by omega),xai (by omega),xab (by omega)];exact tr _ _ _ e1 (ha (m - 1) _ (by omega) (by omega) (by omega) (by omega))
        obtain⟨r,er,g1,g2,g3,g4⟩:=CJ f (m + 1) 0 h.rev (by omega) (by omega) (by omega) (Dn.succ rf tr (by omega) hd' hl) (one _);exact⟨r,er,g1,by omega,by omega,g4⟩
      · obtain⟨r,er,g1,g2,g3,g4⟩:=CJ f (m + 1) 0 h (by omega) (by omega) (by omega) (Dn.succ rf tr (by omega) hd e1) (one _);exact⟨r,er,g1,by omega,by omega,g4⟩
theorem Rx {p:Array Nat}{a:Nat}(h:Pm n p)(h1:1<=a)(ha:a<=n)(hd:Dn le p a):∃r,bf lt (kas_tail3 a n p)=some r/\Pm n r.2/\1<=r.1/\r.1<=n/\Up le r.2 r.1:=by
 unfold kas_tail3;have hs := h.size;obtain ⟨r, er, l1, l2, u, -⟩ := J2 hn rf tr H (p := kas_rev p 0 a) h.rev (n - a) a h1 (fun i j hij hj=>by
  rw[rm (by omega),rm (by omega),xab (by omega),xab (by omega)];exact hd _ _ (by omega) (by omega))
 rw[run_bind,er];exact⟨_,rfl,h.rev,by omega,by omega,u⟩
theorem Rw {p:Array Nat}{a:Nat}(h:Pm n p)(ha:a + 1<=n)(hd:Dn le p (a + 1)):∃r,bf lt (kas_descPart a n p)=some r/\Pm n r.2/\1<=r.1/\r.1<=n/\Up le r.2 r.1:=by
 unfold kas_descPart;have hs := h.size;obtain ⟨r, er, g1, g2, g3, g4, g5, g6⟩ := CJ hn rf tr H (n - (a + 1)) (a + 1) 0 h (by omega) (by omega) (by omega) hd (fun i j a1 a2 a3 a4=>by
  obtain rfl:i=j:=by omega
  exact rf _)
 rw[run_bind,er,Option.bind_some];have gs:=g1.size
 split
 ·exact Rx hn rf tr H g1.rev (by omega) (by omega) (Dn.al rf tr (by omega) g4 g5 g6)
 ·exact Rx hn rf tr H g1 (by omega) (by omega) g5
theorem za1 {p:Array Nat}(h:Pm n p):∃r,bf lt (kas_count n p)=some r/\Pm n r.2/\1<=r.1/\r.1<=n/\Up le r.2 r.1:=by
  unfold kas_count;have hs := h.size;obtain ⟨r, er, l1, l2, u, z⟩ := J2 hn rf tr H h (n - 1) 1 (xah _) (fun i j hij hj=>by
    obtain rfl:i=j:=by omega
    exact rf _)
  rw[run_bind,er,Option.bind_some]
  split
  · exact⟨_,rfl,h,l1,by omega,u⟩
  · rename_i hr;have hrn:r≠n:=fun e=>hr (by simp[e]);have hl:=z.resolve_left (by omega)
    split
    · obtain⟨c,ec,c1,c0⟩:=H _ _ (h.low.get hn 0) (h.low.get hn (r - 1));simp only[bf,ec];cases c
      · have e0:=c0 rfl;have all:∀i j,i<r->j<r->le (p.getD i 0) (p.getD j 0):=fun i j hi hj=>tr _ _ _ (u i (r - 1) (by omega) (by omega)) (tr _ _ _ e0 (u 0 j (by omega) hj));refine Rw hn rf tr H h.rev (by omega) ?_;intro i j hij hj;rw[rm (by omega),rm (by omega)]
        split
        · rw[xab (by omega)];exact all _ _ (by omega) (by omega)
        · obtain rfl:j=r:=by omega
          split
          · exact tr _ _ _ hl (all _ _ (by omega) (by omega))
          · obtain rfl:i=j:=by omega
            exact rf _
      · exact⟨_,rfl,h,l1,by omega,u⟩
    · obtain rfl:r=1:=by omega
      refine Rw hn rf tr H h (by omega) ?_;intro i j hij hj
      by_cases hi:i=j
      · subst hi;exact rf _
      · obtain rfl:i=0:=by omega
        obtain rfl:j=1:=by omega
        exact hl
theorem J3 {p:Array Nat}{k:Nat}(h:Pm n p)(hk:k<n)(u:Up le p k):∀f l r,l<=r->r<=k->r - l<=f->(∀i,i<l->le (p.getD i 0) (p.getD k 0))->(∀i,r<=i->i<k->le (p.getD k 0) (p.getD i 0))->
    ∃x,bf lt (kas_place p k f l r)=some x/\x<=k/\(∀i,i<x->le (p.getD i 0) (p.getD k 0))/\(∀i,x<=i->i<k->le (p.getD k 0) (p.getD i 0))
  |0,l,r,h1,h2,h3,lo,hi=>by
    obtain rfl:l=r:=by omega
    exact⟨l,rfl,h2,lo,hi⟩
  |f + 1,l,r,h1,h2,h3,lo,hi=>by
    unfold kas_place
    split
    · obtain rfl:l=r:=by omega
      exact⟨l,rfl,h2,lo,hi⟩
    · obtain⟨c,ec,c1,c0⟩:=H _ _ (h.low.get hn k) (h.low.get hn ((l + r) / 2));simp only[bf,ec];cases c
      · simp only[xa4,xbT];exact J3 h hk u f _ _ (by omega) h2 (by omega) (fun i hi'=>tr _ _ _ (u i ((l + r) / 2) (by omega) (by omega)) (c0 rfl)) hi
      · simp only[xba];exact J3 h hk u f _ _ (by omega) (by omega) (by omega) lo (fun i h1' h2'=>tr _ _ _ (c1 rfl) (u _ _ h1' h2'))
theorem Rv:∀f {p:Array Nat} k,Pm n p->k + f=n->Up le p k->∃r,bf lt (kas_bin f p k)=some r/\Pm n r/\Up le r n
  |0,p,k,h,e,u=>⟨p,rfl,h,by rw[<-e];exact u⟩
  |f + 1,p,k,h,e,u=>by
    unfold kas_bin;have hs:=h.size;obtain⟨x,ex,xk,lo,hi⟩:=J3 hn rf tr H h (by omega) u k 0 k (by omega) (by omega) (by omega) (fun i hi=>by omega) (fun i h1 h2=>by omega);rw[run_bind,ex,Option.bind_some];refine Rv f (k + 1) h.bub (by omega) ?_;intro i j hij hj;rw[Lp (by omega) (by omega),Lp (by omega) (by omega),show k - (k - x)=x by omega]
    repeat' split
    all_goals first
      |(exfalso;omega)
      |exact rf _
      |exact lo _ (by omega)
      |exact hi _ (by omega) (by omega)
      |exact u _ _ (by omega) (by omega)
theorem zbz:∃p,bf lt (kas_sort n)=some p/\Pm n p/\Up le p n:=by
 unfold kas_sort;obtain⟨r,er,g1,g2,g3,g4⟩:=za1 hn rf tr H (p:=(List.range n).toArray) (Array.Perm.refl _);rw[run_bind,er,Option.bind_some]
 split
 ·rw[show max r.1 1=r.1 by omega];exact Rv hn rf tr H _ _ g1 (by omega) g4
 ·exact⟨_,rfl,g1,by rw[show n=r.1 by omega];exact g4⟩
end
theorem za7 {ds:List D}{le:D->D->Prop}(h64:ds.length<64)(ht:ds.all tupI=true)(rf:∀d,le d d)(tr:∀a b c,le a b->le b c->le a c)
    (H:∀xs ys,.tup xs∈ds->.tup ys∈ds->∃b,nG xs ys=some b/\(b=true->le (.tup xs) (.tup ys))/\(b=false->le (.tup ys) (.tup xs))):∃es,lu ds=some es/\es.Perm ds/\es.Pairwise le:=by
  unfold lu
  split
  · rename_i h2;refine⟨ds,rfl,List.Perm.refl _,?_⟩
    match ds,h2 with
    | [],_=>exact .nil
    | [d],_=>exact List.pairwise_singleton _ _
  · rename_i h2;rw [xab ⟨h64, ht⟩];obtain ⟨p, ep, hp, hu⟩ := zbz (n := ds.length) (lt := vd ds) (le := fun i j => le (ds.getD i .non) (ds.getD j .non)) (by omega) (fun i => rf _) (fun i j k => tr _ _ _) (fun i j hi hj=>by
      have m1:=xbH hi;have m2:=xbH hj;have t1:=xaX.mp ht _ m1;have t2:=xaX.mp ht _ m2;have g1:ds.getD i .non=ds[i]:=by rw[xaC,xag hi,xb6]
      have g2:ds.getD j .non=ds[j]:=by rw[xaC,xag hj,xb6]
      unfold vd;rw[g1,g2];generalize ds[i]=a at *;generalize ds[j]=b at *;cases a<;>try cases t1
      cases b<;>try cases t2
      exact H _ _ m1 m2)
    have hl:=xd6 hp;refine⟨_,by rw[ep];rfl,?_,?_⟩
    · have:=List.Perm.map (fun i=>ds.getD i .non) hl;refine this.trans ?_;rw[show(List.range ds.length).toArray.toList=List.range ds.length from rfl];have e:(List.range ds.length).map (fun i=>ds.getD i .non)=ds:=by
        apply List.ext_getElem?;intro k;rw[xan]
        by_cases hk:k<ds.length
        · rw[xcc hk,xag hk,xaT,xaC,xag hk,xb6]
        · rw[xa7 (by simpa using hk),xa7 (by omega)];rfl
      rw[e]
    · rw[xd5,List.pairwise_iff_getElem];intro i j hi hj hij;have sz:=hp.size;have:=hu i j (by omega) (by rw[xaY]at hj;omega);rw[xbf,xbf]at this;rw[xaY]at hi hj;rw[xdh hi,xdh hj]at this;exact this
noncomputable def Ai:List D->List D->Option Bool
 | [],[]=>some true
 |.int i::ps,.int j::qs=>if i=j then Ai ps qs else some (decide (j<=i))
 |.str a::ps,.str b::qs=>if a=b then Ai ps qs else some (!decide (a.cps.toList<b.cps.toList))
 |_,_=>none
end E3
namespace L2
open PySem PySem.Spec PyProof.Rows
end L2
namespace E3
open PySem PySem.Spec PyProof.Rows L2
section
variable {X:Cx}{pins:Pnx}{σ:L2.St}{H:Hp}{s:Shared}
open Classical in
end
end E3
namespace E3
open PySem PySem.Spec PyProof.Rows L2
section
variable {X:Cx}{Wx:XW}
def XP (X:Cx)(D:Ends)(f:Flow)(s':Shared):Prop:=match f with
 |.ret u=>∃v H',s'.os=X.s₀.os/\AllBare s'.gens/\Un X.fs [] X.H₀ H' X.s₀.heap s'.heap/\cg X.prog X.w H' s'.heap/\RelV v u/\D.rt v H'
 |.brk=>∃σ' H',D.bk σ' H'
 |.cont=>∃σ' H',D.ct σ' H'
 |.next=>False
def PX (X:Cx)(b:List Stmt)(t:TS):Prop:=∀(s:Shared) (σ:L2.St) (H:Hp) (D:Ends),Inv X [] σ H s->t D σ H->wpAny (model X.prog X.w) X.A (execs b X.env) (XP X D) X.xe s
theorem zbw {st:Stmt}{rest:List Stmt}{t u:TS}(hx:X.ex=[])(h1:PS X st t)(h2:PX X rest u):PX X (st::rest) (zA t u):=by
  intro s σ H D I h;refine xcx (aN (h1 [] s σ H {D with nx:=u D} I h) fun f s1 q=>?_)
  cases f with
  |next=>
    obtain⟨σ',H',I',q⟩:=q;exact h2 s1 σ' H' D I' q
  |ret v=>
    obtain⟨v,σ',H',J,r,q⟩:=q;exact⟨v,H',J.os,J.bare,hx ▸ J.base,J.hok,r,q⟩
  |brk=>
    obtain⟨σ',H',_,q⟩:=q;exact⟨σ',H',q⟩
  |cont=>
    obtain⟨σ',H',_,q⟩:=q;exact⟨σ',H',q⟩
def pI (X:Cx)(Wx:XW)(b:List Stmt)(f:S):Prop:=PX X b (tS X.K X.mg Wx f)
theorem JQ {s:Stmt}{ss:List Stmt}{f g:S}(hx:X.ex=[])(h1:SS X Wx s f)(h2:pI X Wx ss g):pI X Wx (s::ss) (ao f g):=by
  intro s0 σ0 Hh D I hh;refine zbw hx h1 h2 s0 σ0 Hh D I ?_;obtain⟨P0,H0,P,Os,env,M,out,M',k,e,q⟩:=hh;unfold ao at e;split at e
  · rename_i e1 M1 ef;refine⟨P0,H0,P,Os,env,M,_,_,k,ef,fun P1 Os1 H1 st1 l1 k1=>?_⟩;exact⟨P0,H0,P1,Os1,e1,M1,_,_,k1,e,q.lt l1⟩
  · rename_i o ho
    cases ef:f env M with
    |none=>rw[ef]at e;cases e
    |some om=>
      obtain⟨o1,M1⟩:=om;rw[ef]at e;cases e;refine⟨P0,H0,P,Os,env,M,_,_,k,ef,?_⟩
      cases out with
      |nx env'=>exact(ho _ _ ef).elim
      |bk env'=>exact q
      |ct env'=>exact q
      |rt d=>exact q
      |ex c n=>exact q
end
section
variable {X:Cx}{σ:L2.St}{H H1:Hp}{s:Shared}{Pt:Addr}{ps:Array Value}
theorem Nj {h2:Heap}{tk:Nat}(I:Inv X [] σ H s)(hP:H Pt=some (.tbl ps))(kp:∀b o,b≠Pt->s.heap.get? b=some o->h2.get? b=some o)(hH:∀b,b<s.heap.objs.size->b≠Pt->H1 b=H b)
    (hPt:∃more,H1 Pt=some (.tbl (ps ++ more))/\h2.get? Pt=some {cls:=.none,data:=.fields (ps ++ more)}) (hnew:∀a o,s.heap.objs.size<=a->H1 a=some o->∃ob,o=.frz ob (.own a)/\h2.get? a=some ob):Inv X [] σ H1 {s with heap:=h2,toks:=tk}:=by
  have lt:∀{b:Addr} {u:HO},H b=some u->b<s.heap.objs.size:=fun e=>(I.hok _ _ e).lt;have nP:∀{b:Addr},H b=none->b≠Pt:=fun e z=>by rw[z,hP]at e;cases e
  have nT:∀{b:Addr} {u:HO},H b=some u->(∀p,u≠ .tbl p)->b≠Pt:=fun e n z=>by rw[z,hP]at e;cases e;exact n _ rfl
  obtain⟨more,e1,e2⟩:=hPt;have hok:cg X.prog X.w H1 h2:=fun a o e=>by
    by_cases hs:s.heap.objs.size<=a
    · obtain⟨ob,rfl,g⟩:=hnew a o hs e;exact⟨g,ob,g⟩
    · have hs:=Nat.lt_of_not_le hs
      by_cases ha:a=Pt
      · subst ha;rw[e1]at e;cases e;exact e2
      · rw[hH a hs ha]at e;refine(I.hok a o e).stay (fun b u hb g=>kp b u ?_ g) (fun b g=>?_) fun b xs g=>?_
        · rcases hb with rfl |hb
          · exact ha
          · exact nT hb fun _ z=>nomatch z
        · rw[hH b (lt g) (nT g fun _ z=>nomatch z)];exact g
        · rw[hH b (lt g) (nT g fun _ z=>nomatch z)];exact g
  refine I.step (g':=s.gens) (d':=s.drawn) (t':=tk) (ch:=[]) (fun _ z=>nomatch z) (fun b o _ _ _ g n=>kp b o (nP n) g) (fun b o _ _ _ g n=>⟨o.slots,kp b o (nP n) g⟩) (fun b o _ g n=>by rw[hH b (xaj g) (nP n)];exact n) (fun b o _ g=>?_)
    (fun b xs g=>by rw[hH b (lt g) (nT g fun _ z=>nomatch z)];exact g) (fun b o u g=>by rw[hH b (lt g) (nT g fun _ z=>nomatch z)];exact g) (fun b p g=>?_) (fun m hm=>?_) hok I.bare
  · by_cases hb:b=Pt
    · subst hb;exact⟨_,e2⟩
    · exact⟨o,kp b o hb g⟩
  · by_cases hb:b=Pt
    · subst hb;rw[hP]at g;cases g;exact⟨more,e1⟩
    · exact⟨#[],by rw[hH b (lt g) hb,g];simp⟩
  · obtain⟨o,es,ep,g,r⟩:=hm;exact⟨o,es,ep,kp _ _ (nP I.free) g,r⟩
noncomputable def pG (H:Hp) (h:Heap) (cs:List Addr):Hp:=fun b=>if b∈cs then(h.get? b).map fun o=>HO.frz o (.own b) else H b
theorem Wa {cs:List Addr}(I:Inv X [] σ H s)(hx:X.ex=[])(hc:∀c∈cs,H c=none/\X.s₀.heap.objs.size<=c/\∃o,s.heap.get? c=some o):
  Un X.fs [] X.H₀ (pG H s.heap cs) X.s₀.heap s.heap/\cg X.prog X.w (pG H s.heap cs) s.heap/\Same H (pG H s.heap cs)/\∀c∈cs,∀o,s.heap.get? c=some o->pG H s.heap cs c=some (.frz o (.own c)):=by
 have out:∀{b:Addr} {u:HO},H b=some u->pG H s.heap cs b=H b:=fun {b u} e=>xai fun z=>by rw[(hc b z).1]at e;cases e
 have old:∀{b:Addr} {o:Obj},X.s₀.heap.get? b=some o->b∉cs:=fun {b o} e z=>absurd (xaf (xaj e) (hc b z).2.1) (xa2 _);have B:=I.base;rw[hx]at B;refine⟨⟨B.keep,B.slot,fun b o e n h=>?_,B.there,fun b xs e=>?_,fun b o u e=>?_,fun b p e=>?_⟩,fun a o e=>?_,fun b o e=>?_,fun c z o e=>?_⟩
 ·unfold pG;rw[xai (old e)];exact B.free b o e n h
 ·rw[out (B.tups b xs e)];exact B.tups b xs e
 ·rw[out (B.frzs b o u e)];exact B.frzs b o u e
 ·obtain⟨m,g⟩:=B.tbls b p e;exact⟨m,by rw[out g];exact g⟩
 ·unfold pG at e;split at e
  ·rename_i ha;obtain⟨ob,g⟩:=(hc a ha).2.2;rw[g]at e;cases e;exact⟨g,ob,g⟩
  ·exact(I.hok a o e).stay (fun _ _ _ g=>g) (fun b g=>by rw[out g];exact g) fun b xs g=>by rw[out g];exact g
 ·rw[out e];exact e
 ·unfold pG;rw[xab z,e];rfl
end
def kE (mg:Mgx)(base:Heap):Prop:=∃bm o,mg "__builtins__"=some (.ref bm)/\bm≠builtinsNs/\bm≠mainGlobals/\base.get? bm=some o/\o.cls=.type "module"/\o.dict=some builtinsNs/\o.data=.plain
noncomputable def gR (env:Env):List (Str×Nat)->Option (List (Str×D))
  | []=>some []
  |p::r=>match env[p.2]? with
    |some (.val d)=>(gR env r).map ((p.1,d):: ·)
    |_=>none
open Classical in
noncomputable def fJ (kt:Nat) (nm:Str) (i:FnT) (caps:List (Str×Nat)):S:=fun env M=>match M[kt]? with
 |some (.tbl nm' i')=>if nm'=nm/\i'=i then(gR env caps).map fun cs=>(.rt (.ref M.length),M ++ [.fn i cs]) else none
 |_=>none
structure MkOk (X:Cx)(nm:Str)(i:FnT)(caps:List (Str×Nat))(cl:List (Str×Addr))(c Pt:Addr)(j:Nat):Prop where
 ex:X.ex=[]
 fn:∀x,X.fn x=true
 st:∃params body scope,i.st=.FunctionDef i.x params body [] none [] scope none i.x i.pos/\((params.defaults=[]/\i.dd=[])\/∃n a p,params.defaults=[.Constant (.int n) a p]/\i.dd=[n]/\cl≠ [])/\params.kw_defaults=[]/\params.kwonlyargs=[]/\annTrees params none X.env=[]
 q:qualnameIn X.env i.x i.x=i.q
 code:X.env.code=.ref c
 tab:PySem.W.tabIn X.K nm=some (c,Pt)
 hd:PySem.W.codeHdIn X.K c Pt=true
 bm:kE X.mg X.base
 clo:closureFor (aH i.st) X.env=pure cl
 nam:cl.map (·.1)=caps.map (·.1)
 mD:caps.map (·.1)=i.fr
 cel:∀p∈cl,X.env.cells.lookup p.1=some p.2
 cap:∀p∈caps,X.N[p.2]? =some p.1/\X.env.scope.names.lookup p.1=some .cell/\p.2≠j
 nd:X.N.Nodup
 jx:X.N[j]? =some i.x
 jl:X.env.scope.names.lookup i.x=some .local
 db:(i.x==("__debug__":Str))=false
 cd:(i.x==("__classdict__":Str))=false
theorem Lx {X:Cx}{H Hh:Hp}{s:Shared}{K:Fgx}{mg:Mgx}{P0 P:Pl}{H0:Hp}{Os:List (Option Addr)}{M:Mm}{st:L2.St}{env:Env}{j:Nat}{v0:V}{H2:Hp}
    (I:Inv X [] (st.set j (some v0)) Hh s) (k:Ok K mg P0 H0 P Os H M st env):
    ∀{caps:List (Str×Nat)} {cl:List (Str×Addr)} {cs:List (Str×D)},gR env caps=some cs->cl.map (·.1)=caps.map (·.1)->(∀p∈cl,X.env.cells.lookup p.1=some p.2)->(∀p∈caps,X.N[p.2]? =some p.1/\X.env.scope.names.lookup p.1=some .cell/\p.2≠j)->
    (∀p∈cl,∀o,s.heap.get? p.2=some o->H2 p.2=some (.frz o (.own p.2)))->cs.map (·.1)=caps.map (·.1)/\∃vs,aC K P H (cs.map (·.2)) vs/\kI H2 cl vs
  | [],[],cs,e,_,_,_,_=>by
    cases e;exact⟨rfl,[],rfl,rfl⟩
  | [],_::_,_,_,n,_,_,_=>by cases n
  |_::_,[],_,_,n,_,_,_=>by cases n
  |p::caps,q::cl,cs,e,n,hc,hp,h2=>by
    rw[xaJ,xaJ,xcg]at n;unfold gR at e;split at e
    · rename_i d ed;rw[xad]at e;obtain⟨cs',e',rfl⟩:=e;obtain⟨n2,vs,i2,c2⟩:=Lx I k e' n.2 (fun z hz=>hc z (xat _ hz)) (fun z hz=>hp z (xat _ hz)) fun z hz=>h2 z (xat _ hz);obtain⟨hN,hk,hj⟩:=hp p (by simp);obtain⟨v,ev,iv⟩:=k.slot p.2 _ ed;have ev':(st.set j (some v0))[p.2]? =some (some v):=by
        rw[xcD (xbB hj)]
        cases q:st[p.2]? with
        |none=>rw[q]at ev;cases ev
        |some w=>rw[q]at ev;exact congrArg some ev
      obtain⟨m,_,hl⟩:=I.loc;obtain⟨u,ru,lk⟩:=hl p.2 p.1 v hN ev' (.inr (.inl hk));refine⟨by simp[n2],v::vs,⟨v,vs,rfl,iv,i2⟩,?_⟩;rcases lk with⟨k0,_⟩ |⟨_,c,hcell,o,ho,hd⟩
      · have k0':X.env.scope.names.lookup p.1=some .local:=k0;rw[hk]at k0';cases k0'
      · have eq:q.2=c:=by
          have:=hc q (by simp);rw[n.1,hcell]at this;cases this;rfl
        exact⟨v,vs,u,o,rfl,ru,h2 q (by simp) o (by rw[eq];exact ho),hd,c2⟩
    · cases e
theorem set_same {α:Type}{l:List α}{k:Nat}{x:α}(h:l[k]? =some x):l.set k x=l:=by
 obtain⟨hl,rfl⟩:=xak.mp h;exact List.set_getElem_self hl
theorem Oj {X:Cx}{Wx:XW}{nm:Str}{i:FnT}{caps:List (Str×Nat)}{cl:List (Str×Addr)}{c Pt:Addr}{j:Nat}{p1 p2:Pos}{s:Shared}{σ:L2.St}{H:Hp}{D:Ends}{P0 P:Pl}{H0:Hp}{Os:List (Option Addr)}{env:Env}{M:Mm}{cs:List (Str×E3.D)}(m:MkOk X nm i caps cl c Pt j)
  (I:Inv X [] σ H s) (k:Ok X.K X.mg P0 H0 P Os H M σ env) (ec:gR env caps=some cs) (q:Post X.K X.mg Wx P0 H0 P H (M ++ [.fn i cs]) D (.rt (.ref M.length)))
  (h2:Heap) (tk:Nat) (f c':Addr) (dV doc ctv:Value) (Hb:Hp) (I1:Inv X [] σ (upd Hb f (.frz (mC X.mg i cl dV doc ctv c') (.own f))) {s with heap:=h2,toks:=tk}) (lb:LtE P H P Hb) (hkb:Hk X.K X.mg P Hb M) (hf:Hb f=none) (hcod:eX Hb c' i.q) (hdf:dM Hb i.dd dV):
  wpAny (model X.prog X.w) X.A (storeName X.env i.x (.ref f)) (fun _ s''=>wpAny (model X.prog X.w) X.A (execs [.Return (some (.Name i.x p1)) p2] X.env) (XP X D) X.xe s'') X.xe {s with heap:=h2,toks:=tk}:=by
 refine CT I1 m.nd m.jx (.inl m.jl) (show RelV (.ref f) (.ref f) from rfl) (fun s2 I2=>?_) (.inr m.jl);have jσ:j<σ.length:=by rw[I.len];exact(xak.mp m.jx).1
 refine xcx (wpAny_Return_some (aN (Bg m.jx (.inl m.jl) m.db m.cd [] s2 _ _ (fun v H'=>v=.ref f/\H'=upd Hb f (.frz (mC X.mg i cl dV doc ctv c') (.own f))) I2 ⟨.ref f,xcq jσ,rfl,rfl⟩) fun u s3 h3=>?_));obtain⟨v,H3,I3,rv,ev,eH⟩:=h3;subst ev eH;obtain rfl:u=Value.ref f:=rv;have hcl:∀a∈cl.map (·.2),upd Hb f (.frz (mC X.mg i cl dV doc ctv c') (.own f)) a=none/\X.s₀.heap.objs.size<=a/\∃o,s3.heap.get? a=some o:=by
  intro a ha;obtain⟨p,hp,rfl⟩:=xbn.mp ha;have e1:=m.cel p hp;obtain⟨v,o,ho,_⟩:=I3.cell p.1 p.2 e1;exact⟨(I3.freeC p.1 p.2 e1).resolve_right fun z=>(by have z1:=z.1;rw[m.fn]at z1;cases z1),I3.ok.cab p.1 p.2 (m.fn _) e1,o,ho⟩
 obtain⟨un,hok,same,atc⟩:=Wa I3 m.ex hcl;obtain⟨n2,vs,iv,cv⟩:=Lx I3 k ec m.nam m.cel m.cap fun p hp o ho=>atc p.2 (xbn.mpr ⟨p,hp,rfl⟩) o ho;have sb:Same Hb (pG (upd Hb f (.frz (mC X.mg i cl dV doc ctv c') (.own f))) s3.heap (cl.map (·.2))):=Same.trans (o_ hf) same;obtain⟨P2,pn,pio,l2,hk2⟩:=LK (c:=.fn i cs) hkb sb hf (by rw[same f _ bR];exact fun z=>nomatch z) fun P' _ _ l=>⟨cl,dV,doc,ctv,c',vs,same f _ bR,⟨hcod.up (fun b o u e=>sb b _ e),hdf.up (fun b o u e=>sb b _ e)⟩,⟨m.nam.trans n2.symm,n2.trans m.mD⟩,aC.lt (l.lt hkb) (aC.lt (lb.lt k.hk) iv),cv,fun x y a e1 e2=>I.ok.inj x y a (m.cel (x,a) (xaR e1)) (m.cel (y,a) (xaR e2))⟩
 exact⟨.ref f,_,I3.os,I3.bare,un,hok,rfl,q P2 (.ref f) _ (k.base.trans (lb.trans l2)) hk2 ⟨by rw[pn,k.hk.n];exact xbt _,by rw[<-k.hk.n,pio]⟩⟩
section
variable {M:Model}{A:Around}{E:Value->Shared->Prop}{s:Shared}{name qual:Str}{params:Arguments}{body:List Stmt}{scope:Scope}{env:PySem.Env}{c Pt:Addr}{ps:Array Value}{pos:Pos}{ln:Nat}{mg:Mgx}{cl:List (Str×Addr)}{dV:Value}{Q:Value->Shared->Prop}
theorem za9 (hcl:closureFor scope env=pure cl)(hne:cl≠ [])(hge:env.globals=mainGlobals)(hg:s.heap.Ns mainGlobals mg)(hcode:env.code=.ref c)(C:PySem.W.CodeHd s.heap c Pt)(hP:s.heap.get? Pt=some (PySem.W.tabObj ps))(ht:TriplesOk ps.toList)(hnf:codeAmong pos ps.toList=none)(hgP:mainGlobals≠Pt)(hb:s.heap.BuiltinsAt mg Pt)
  (h:∀c' ctv doc h' tk,Heap.ExtBut Pt s.heap h'->s.heap.objs.size<=c'->c'<h'.objs.size->h'.CodeRec (.ref c') qual->h'.get? Pt=some (PySem.W.tabObj (ps ++ #[rawInt pos.line,rawInt pos.col,.ref c']))->
   Q (.ref h'.objs.size) {s with heap:=h'.push {cls:=.type "function",data:=.func (PySem.W.fnX name qual params body scope cl dV .none doc ((mg "__name__").getD .none) none (.ref c') ctv)},toks:=tk}):wpAny M A (makeTail name qual params (.stmts body) scope env dV .none none pos ln) Q E s:=by
 have ie:cl.isEmpty=false:=by cases cl with |nil=>exact absurd rfl hne |cons a r=>rfl
 obtain⟨bm,ob,b1,b2,_,b4,b5,b6,b7,b8⟩:=hb;have kp:∀(o:Obj) (b:Addr) (u:Obj),s.heap.get? b=some u->(s.heap.push o).get? b=some u:=fun o b u e=>xaa o e;unfold makeTail;rw[hcl,hge];refine tG (xac ?_);simp only[ie,xa4,xbT];refine tG (xc1 ?_);refine tG (wpAny_functionCodeX hcode ((C.keeps fun b o e=>xaa _ e).code (xaa _ hP) ht) ((C.keeps fun b o e=>xaa _ e).tab (xaa _ hP)) hnf fun c' h' tk hx hge' hlt _ hrec htb _=>?_);have hx':Heap.ExtBut Pt s.heap h':=fun b o n e=>hx b o n (kp _ b o e);have sz:s.heap.objs.size<=c':=xaw (by rw[xa9];exact xbw _) hge';have hg':=(hg.push _).extBut hx hgP;refine tG (wpAny_builtinsFor hg' b1 b2 (hx' _ _ b4 b5) b6 b7 b8 (tG (wpAny_nsGet hg' ?_)))
 cases hdoc:docOf body with
 |none=>exact tG (xac (xaG (h c' _ .none h' tk hx' sz hlt hrec htb.2) (by size_fits)))
 |some t=>exact tG (wpAny_mkText (xaG (h c' _ _ h' _ hx' sz hlt hrec htb.2) (by size_fits)))
theorem zbe {cv:Value}(hcl:closureFor scope env=pure cl)(hne:cl≠ [])(hge:env.globals=mainGlobals)(hg:s.heap.Ns mainGlobals mg)(hcode:env.code=.ref c)(C:PySem.W.CodeHd s.heap c Pt)(hP:s.heap.get? Pt=some (PySem.W.tabObj ps))(ht:TriplesOk ps.toList)(hf:codeAmong pos ps.toList=some cv)(hb:s.heap.BuiltinsAt mg Pt)
  (h:∀(ctv doc:Value) (h':Heap) (tk:Nat),(∀b o,s.heap.get? b=some o->h'.get? b=some o)->s.heap.objs.size<=h'.objs.size->
   Q (.ref h'.objs.size) {s with heap:=h'.push {cls:=.type "function",data:=.func (PySem.W.fnX name qual params body scope cl dV .none doc ((mg "__name__").getD .none) none cv ctv)},toks:=tk}):wpAny M A (makeTail name qual params (.stmts body) scope env dV .none none pos ln) Q E s:=by
 have ie:cl.isEmpty=false:=by cases cl with |nil=>exact absurd rfl hne |cons a r=>rfl
 obtain⟨bm,ob,b1,b2,_,b4,b5,b6,b7,b8⟩:=hb;have kp:∀(o:Obj) (b:Addr) (u:Obj),s.heap.get? b=some u->(s.heap.push o).get? b=some u:=fun o b u e=>xaa o e;unfold makeTail;rw[hcl,hge];refine tG (xac ?_);simp only[ie,xa4,xbT];refine tG (xc1 ?_);refine tG (wpAny_functionCode_hit hcode ((C.keeps fun b o e=>xaa _ e).code (xaa _ hP) ht) hf ?_);refine tG (wpAny_builtinsFor (hg.push _) b1 b2 (xaa _ b5) b6 b7 b8 (tG (wpAny_nsGet (hg.push _) ?_)));have sz:∀o:Obj,s.heap.objs.size<=(s.heap.push o).objs.size:=fun o=>by rw[xa9];exact xbw _
 cases hdoc:docOf body with
 |none=>exact tG (xac (xaG (h _ .none _ s.toks (fun b o e=>xaa _ e) (sz _)) (by size_fits)))
 |some t=>exact tG (wpAny_mkText (xaG (h _ _ _ _ (fun b o e=>xaa _ e) (sz _)) (by size_fits)))
theorem def_dflt {Q:Flow->Shared->Prop}{n:Int}{a:Nat}{p:Pos}(hd:params.defaults=[.Constant (.int n) a p])(hk:params.kw_defaults=[])(hko:params.kwonlyargs=[])(ha:annTrees params none env=[])
  (h:wpAny M A (makeTail name (qualnameIn env name name) params (.stmts body) scope env (.ref s.heap.objs.size) .none none pos pos.line) (fun v s'=>wpAny M A (storeName env name v) (fun _ s''=>Q .next s'') E s') E {s with heap:=s.heap.push {cls:=.type "tuple",data:=.seq #[.int n s.toks]},toks:=s.toks + 1}):
  wpAny M A (exec (.FunctionDef name params body [] none [] scope none name pos) env) Q E s:=by
 rw[exec_def];refine tG (xcu (tG (xbC ?_)));rw[defaultsOf_eq,hd,hk,ha];refine tG (wpAny_evalAll_cons (wpAny_Constant_int (wpAny_evalAll_nil ?_)));refine tG (xbC (xac ?_));refine xbC (tG (xac ?_));rw[makeFunction_eq,hko];refine tG (xc1 ?_);exact xaN h (fun v s' h'=>tG (xcu (tG (wpAny_bindName (xaN h' (fun _ _ h''=>xac h'') fun _ _ x=>x))))) fun _ _ x=>x
end
theorem Qk {X:Cx}{Wx:XW}{kt:Nat}{nm:Str}{i:FnT}{caps:List (Str×Nat)}{cl:List (Str×Addr)}{c Pt:Addr}{j:Nat}{p1 p2:Pos}(m:MkOk X nm i caps cl c Pt j):pI X Wx [i.st,.Return (some (.Name i.x p1)) p2] (fJ kt nm i caps):=by
  intro s σ H D I hh;obtain⟨P0,H0,P,Os,env,M,out,M',k,e,q⟩:=hh;unfold fJ at e;split at e
  · rename_i nm' i' hM;split at e
    · rename_i hni;obtain⟨rfl,rfl⟩:=hni;rw[xad]at e;obtain⟨cs,ec,e⟩:=e;cases e;obtain⟨c0,ps,ht,hPt0,hps⟩:mX X.K H (P.io kt) nm' i':=k.hk.cell kt _ hM;obtain⟨rfl,rfl⟩:c=c0/\Pt=P.io kt:=by
        have z:=m.tab.symm.trans ht;cases z;exact⟨rfl,rfl⟩
      have KX:=I.kIn;have C:=xdS KX m.hd;have hP:s.heap.get? (P.io kt)=some (PySem.W.tabObj ps):=I.hok _ _ hPt0;have hg:s.heap.Ns mainGlobals X.mg:=I.ok.mod.glob.keeps I.bk;have tr:∀{b:Addr} {o:Obj},X.base.get? b=some o->b≠P.io kt:=fun g z=>by
        have:=(I.bs _ _ g).2;rw[z,hPt0]at this;cases this
      have hgP:mainGlobals≠P.io kt:=by
        obtain⟨o,_,_,g,_⟩:=I.ok.mod.glob;exact tr g
      obtain⟨bm,ob,b1,b2,b3,b4,b5,b6,b7⟩:=m.bm;have hbm:s.heap.BuiltinsAt X.mg (P.io kt):=⟨bm,ob,b1,b2,b3,tr b4,I.bk _ _ b4,b5,b6,b7⟩;obtain⟨params,body,scope,hst,dd,d2,d3,d4⟩:=m.st;have efo:∀dV doc ctv c',({cls:=.type "function",data:=.func (PySem.W.fnX i'.x i'.q params body scope cl dV .none doc ((X.mg "__name__").getD .none) none (.ref c') ctv)}:Obj)=mC X.mg i' cl dV doc ctv c':=fun dV doc ctv c'=>by
        unfold mC;rw[hst];rfl
      have hcl':closureFor scope X.env=pure cl:=by
        have:=m.clo;rw[hst]at this;exact this
      -- a state behind the making:what is new is tracked
      have lay:∀(hn:Hp) (h':Heap) (tk:Nat) (c':Addr) (dV doc ctv:Value) (ps':Array Value) (oc:Obj) (fs:Array Value) (t:Tok) (hd:dM hn i'.dd dV),(∀b,b<s.heap.objs.size->hn b=H b)->(∀b u,s.heap.objs.size<=b->hn b=some u->b<h'.objs.size/\b≠c'/\∃ob,u=.frz ob (.own b)/\h'.get? b=some ob)->
          (∀b o,b≠P.io kt->s.heap.get? b=some o->h'.get? b=some o)->s.heap.objs.size<=c'->c'<h'.objs.size->h'.get? c'=some oc->oc.data=.fields fs->fs[1]? =some (.str i'.q t)->h'.get? (P.io kt)=some (PySem.W.tabObj #[rawInt i'.pos.line,rawInt i'.pos.col,.ref c'])->ps= #[]->
          wpAny (model X.prog X.w) X.A (storeName X.env i'.x (.ref h'.objs.size)) (fun _ s''=>wpAny (model X.prog X.w) X.A (execs [.Return (some (.Name i'.x p1)) p2] X.env) (XP X D) X.xe s'') X.xe {s with heap:=h'.push (mC X.mg i' cl dV doc ctv c'),toks:=tk}:=by
        intro hn h' tk c' dV doc ctv ps' oc fs t hd hold hnew kp hge hlt hoc hdat hv htb hps0;subst hps0;have ltH:∀{b:Addr} {u:HO},H b=some u->b<s.heap.objs.size:=fun e=>(I.hok _ _ e).lt;have sN:Same H hn:=fun b u e=>by rw[hold b (ltH e)];exact e
        have hPn:hn (P.io kt)=some (.tbl #[]):=sN _ _ hPt0;have hc0:hn c'=none:=by
          cases z:hn c' with
          |none=>rfl
          |some u=>exact absurd rfl (hnew c' u hge z).2.1
        have neP:c'≠P.io kt:=fun z=>by rw[z,hPn]at hc0;cases hc0
        have fge:s.heap.objs.size<=h'.objs.size:=xaw hge (xch hlt);have hf0:hn h'.objs.size=none:=by
          cases z:hn h'.objs.size with
          |none=>rfl
          |some u=>exact absurd (hnew _ u fge z).1 (xa2 _)
        have nfP:h'.objs.size≠P.io kt:=fun z=>by rw[z,hPn]at hf0;cases hf0
        have nfc:h'.objs.size≠c':=xbV hlt;have sa:Same H (upd hn c' (.frz oc (.own c'))):=Same.trans sN (o_ hc0);have hka:=k.hk.same sa;have frz1:∀b o u,hn b=some (.frz o u)->upd (upd hn c' (.frz oc (.own c'))) (P.io kt) (.tbl #[rawInt i'.pos.line,rawInt i'.pos.col,.ref c']) b=some (.frz o u):=fun b o u e=>by
          rw[aQ (fun z=>by rw[z,hPn]at e;cases e),aQ (fun z=>by rw[z,hc0]at e;cases e)];exact e
        have cod:eX (upd (upd hn c' (.frz oc (.own c'))) (P.io kt) (.tbl #[rawInt i'.pos.line,rawInt i'.pos.col,.ref c'])) c' i'.q:=⟨oc,fs,t,by rw[aQ neP];exact bR,hdat,hv⟩;obtain⟨_,lE,hkb⟩:=hka.set (c':=.tbl nm' i') (o':=.tbl #[rawInt i'.pos.line,rawInt i'.pos.col,.ref c']) hM ⟨c,_,m.tab,bR,.inr ⟨c',rfl,cod⟩⟩;rw[set_same hM]at hkb;refine Oj m I k ec q _ tk h'.objs.size c' dV doc ctv _ (Nj (tk:=tk) I hPt0 (fun b o hb g=>xaa _ (kp b o hb g)) (fun b hb hbp=>?_) ⟨#[rawInt i'.pos.line,rawInt i'.pos.col,.ref c'],?_,?_⟩ fun a o ha ea=>?_) ((LtE.same sa).trans lE) hkb (by rw[aQ nfP,aQ nfc];exact hf0) cod (hd.up frz1)
        · rw[aQ (xaq (xaf hb fge)),aQ hbp,aQ (xaq (xaf hb hge))];exact hold b hb
        · rw[aQ nfP.symm,bR]
          simp
        · refine xaa _ ?_;rw[htb]
          simp[PySem.W.tabObj]
        · by_cases h1:a=h'.objs.size
          · subst h1;rw[bR]at ea;cases ea;exact⟨_,rfl,xal _ rfl⟩
          · rw[aQ h1]at ea
            by_cases h2:a=P.io kt
            · exact absurd (xaf (ltH hPt0) (h2 ▸ ha)) (xa2 _)
            · rw[aQ h2]at ea
              by_cases h3:a=c'
              · subst h3;rw[bR]at ea;cases ea;exact⟨_,rfl,xaa _ hoc⟩
              · rw[aQ h3]at ea;obtain⟨_,_,ob,e1,e2⟩:=hnew a o ha ea;exact⟨ob,e1,xaa _ e2⟩
      have lay2:∀(hn:Hp) (h':Heap) (tk:Nat) (c':Addr) (dV doc ctv:Value) (hd:dM hn i'.dd dV),eX H c' i'.q->(∀b,b<s.heap.objs.size->hn b=H b)->(∀b u,s.heap.objs.size<=b->hn b=some u->b<h'.objs.size/\∃ob,u=.frz ob (.own b)/\h'.get? b=some ob)->
          (∀b o,s.heap.get? b=some o->h'.get? b=some o)->s.heap.objs.size<=h'.objs.size->
          wpAny (model X.prog X.w) X.A (storeName X.env i'.x (.ref h'.objs.size)) (fun _ s''=>wpAny (model X.prog X.w) X.A (execs [.Return (some (.Name i'.x p1)) p2] X.env) (XP X D) X.xe s'') X.xe {s with heap:=h'.push (mC X.mg i' cl dV doc ctv c'),toks:=tk}:=by
        intro hn h' tk c' dV doc ctv hd hcod hold hnew kp fge;have ltH:∀{b:Addr} {u:HO},H b=some u->b<s.heap.objs.size:=fun e=>(I.hok _ _ e).lt;have sN:Same H hn:=fun b u e=>by rw[hold b (ltH e)];exact e
        have hf0:hn h'.objs.size=none:=by
          cases z:hn h'.objs.size with
          |none=>rfl
          |some u=>exact absurd (hnew _ u fge z).1 (xa2 _)
        have nfP:h'.objs.size≠P.io kt:=fun z=>by rw[z,sN _ _ hPt0]at hf0;cases hf0
        refine Oj m I k ec q _ tk h'.objs.size c' dV doc ctv hn (Nj (tk:=tk) I hPt0 (fun b o _ g=>xaa _ (kp b o g)) (fun b hb hbp=>?_) ⟨#[],?_,?_⟩ fun a o ha ea=>?_) (LtE.same sN) (k.hk.same sN) hf0 (hcod.up fun b o u e=>sN b _ e) hd
        · rw[aQ (xaq (xaf hb fge))];exact hold b hb
        · rw[aQ nfP.symm,sN _ _ hPt0]
          simp
        · refine xaa _ ?_;rw[kp _ _ hP]
          simp[PySem.W.tabObj]
        · by_cases h1:a=h'.objs.size
          · subst h1;rw[bR]at ea;cases ea;exact⟨_,rfl,xal _ rfl⟩
          · rw[aQ h1]at ea;obtain⟨_,ob,e1,e2⟩:=hnew a o ha ea;exact⟨ob,e1,xaa _ e2⟩
      have nH:∀{b:Addr} {u:HO},s.heap.objs.size<=b->H b=some u->False:=fun hb e=>absurd (xaf (I.hok _ _ e).lt hb) (xa2 _);refine xcx ?_;rw[hst];rcases dd with⟨d1,e1⟩ |⟨n,a,p,d1,e1,ne⟩
      · refine PySem.W.nestDef_K d1 d2 d4 ?_;rw[m.q];rcases hps with rfl |⟨c',rfl,hcod⟩
        · refine PySem.W.makeFunction_K hcl' I.ok.glob hg m.code C hP trivial rfl hgP hbm fun c' ctv doc h' tk hx hge hlt hrec htb=>?_;obtain⟨c2,oc,fs,t,e2,hoc,hdat,hv⟩:=hrec;cases e2;have key:=lay H h' tk c' .none doc ctv #[] oc fs t (.inl ⟨e1,rfl⟩) (fun _ _=>rfl) (fun b u hb e=>(nH hb e).elim) hx hge hlt hoc hdat hv (by rw[htb];simp) rfl;rw[<-efo]at key;exact key
        · refine PySem.W.makeFunction_hit hcl' I.ok.glob hg m.code C hP (by simp[TriplesOk,rawInt]) (show codeAmong i'.pos _=some (.ref c') by simp[codeAmong,rawInt]) hbm fun ctv doc h' tk hkp hsz=>?_;have key:=lay2 H h' tk c' .none doc ctv (.inl ⟨e1,rfl⟩) hcod (fun _ _=>rfl) (fun b u hb e=>(nH hb e).elim) hkp hsz;rw[<-efo]at key;exact key
      · refine def_dflt d1 d2 d3 d4 ?_;rw[m.q];have pk:∀(o:Obj) (b:Addr) (u:Obj),s.heap.get? b=some u->(s.heap.push o).get? b=some u:=fun o b u e=>xaa o e;have psz:(s.heap.push {cls:=.type "tuple",data:=.seq #[.int n s.toks]}).objs.size=s.heap.objs.size + 1:=xa9 ..;have td:(s.heap.push {cls:=.type "tuple",data:=.seq #[.int n s.toks]}).get? s.heap.objs.size=some {cls:=.type "tuple",data:=.seq #[.int n s.toks]}:=xal _ rfl;have tP:s.heap.objs.size≠P.io kt:=fun z=>nH (xdi z) hPt0;have hbm2:(s.heap.push {cls:=.type "tuple",data:=.seq #[.int n s.toks]}).BuiltinsAt X.mg (P.io kt):=⟨bm,ob,b1,b2,b3,tr b4,pk _ _ _ (I.bk _ _ b4),b5,b6,b7⟩;have hdf:dM (upd H s.heap.objs.size (.frz {cls:=.type "tuple",data:=.seq #[.int n s.toks]} (.own s.heap.objs.size))) i'.dd (.ref s.heap.objs.size):=.inr ⟨by rw[e1];exact fun z=>(nomatch z),s.heap.objs.size,_,_,_,rfl,bR,rfl,by rw[e1];exact .cons ⟨_,rfl⟩ .nil⟩
        have hold:∀b,b<s.heap.objs.size->upd H s.heap.objs.size (.frz {cls:=.type "tuple",data:=.seq #[.int n s.toks]} (.own s.heap.objs.size)) b=H b:=fun b hb=>aQ (xaq hb);have hnw:∀b u,s.heap.objs.size<=b->upd H s.heap.objs.size (.frz {cls:=.type "tuple",data:=.seq #[.int n s.toks]} (.own s.heap.objs.size)) b=some u->b=s.heap.objs.size/\u=.frz {cls:=.type "tuple",data:=.seq #[.int n s.toks]} (.own b):=fun b u hb e=>by
          by_cases z:b=s.heap.objs.size
          · subst z;rw[bR]at e;cases e;exact⟨rfl,rfl⟩
          · rw[aQ z]at e;exact(nH hb e).elim
        rcases hps with rfl |⟨c',rfl,hcod⟩
        · refine za9 (mg:=X.mg) (c:=c) (Pt:=P.io kt) (ps:= #[]) hcl' ne I.ok.glob (hg.push _) m.code (C.keeps (pk _)) (pk _ _ _ hP) trivial rfl hgP hbm2 fun c' ctv doc h' tk hx hge hlt hrec htb=>?_;obtain⟨c2,oc,fs,t,e2,hoc,hdat,hv⟩:=hrec;cases e2;have hge':s.heap.objs.size + 1<=c':=by rw[<-psz];exact hge
          have key := lay _ h' tk c' _ doc ctv #[] oc fs t hdf hold (fun b u hb e=>by
            obtain⟨rfl,rfl⟩:=hnw b u hb e;exact⟨xaf (xbt _) (xaw hge' (xch hlt)),xaq hge',_,rfl,hx _ _ tP td⟩) (fun b o hb g=>hx b o hb (pk _ b o g)) (xaw (xbw _) hge') hlt hoc hdat hv (by rw[htb];simp) rfl
          rw[<-efo]at key;exact key
        · refine zbe (mg:=X.mg) (c:=c) (Pt:=P.io kt) hcl' ne I.ok.glob (hg.push _) m.code (C.keeps (pk _)) (pk _ _ _ hP) (by simp[TriplesOk,rawInt]) (show codeAmong i'.pos _=some (.ref c') by simp[codeAmong,rawInt]) hbm2 fun ctv doc h' tk hkp hsz=>?_;have hsz':s.heap.objs.size + 1<=h'.objs.size:=by rw[<-psz];exact hsz
          have key := lay2 _ h' tk c' _ doc ctv hdf hcod hold (fun b u hb e=>by
            obtain⟨rfl,rfl⟩:=hnw b u hb e;exact⟨hsz',_,rfl,hkp _ _ td⟩) (fun b o g=>hkp b o (pk _ b o g)) (xaw (xbw _) hsz')
          rw[<-efo]at key;exact key
    · cases e
  · cases e
end E3
namespace E3
open PySem PySem.Spec PyProof.Rows L2
section
variable {P:Program}{w:World}{K:Fgx}{mg:Mgx}{base:Heap}{k:Nat}{x qual:Str}{st:Stmt}{f:Addr}{fd:FuncData}{N ps:List Str}{b:S}
theorem zc4 {X:Cx}{st:List Stmt}{t:TS}(h:PX X.nox st t):PX X st t:=fun s σ H D I hw=>xaN (h s σ H D (I.wish _) hw) (fun _ _ q=>q) fun _ _ z=>False.elim z
theorem UW {c Pt:Addr}(F:FunD K x qual st f fd)(S:FnScope N ps (aH st))(hp:ps.length<=N.length)(hm:mg x=some (.ref f))(ht:PySem.W.tabIn K x=some (c,Pt))
    (hb:∀A outer s H E,Room k (A.deeper (envOfC qual (aH st) s.heap.objs.size f (.ref c)))->pI (nj P w K mg base N qual st f (.ref c) A outer s H E) W0 (bK st) b):FnOk P w K mg base eV (k + 1) f fd ps (mO K mg ps.length (bI N.length b)):=by
  obtain⟨oc,od,dV,kV,doc,pm,an,cdv,ct,osl,rfl,lk,hcd⟩:=F.ex;refine⟨fun vs H Q E h=>h.1,fun A outer s H args us vs Q E hr e0 hbd r hsp=>?_⟩;have hl:vs.length=ps.length:=hsp.1;have KX:K.In s.heap:=e0.mod.kin.keeps fun b o e=>(e0.bs b o e).1;obtain rfl:cdv=.ref c:=PySem.W.law_code e0.mod.kin e0.mod.glob ht hm (e0.mod.kin _ _ lk) rfl;have lim:s.heap.NoLimit:=e0.mod.nolimit.keeps fun b o e=>(e0.bs b o e).1;have hkind:∀y∈ps.zip us,(aH st).names.lookup y.1=some .local\/((aH st).names.lookup y.1=some .cell/\((cellsFrom (s.heap.objs.size + 1) (aH st).names []).lookup y.1).isSome=true):=fun⟨n,v⟩ hy=>by
    rcases S.par n (xcf hy).1 with q |q
    · exact .inl q
    · exact .inr ⟨q,xcr _ _ _ (.inl q)⟩
  refine xcB hr.depth (KX _ _ lk) rfl S.co S.gen rfl (xdX KX hcd) (hbd _ _ _ _ ?_);refine xc5 S.kind hkind fun env he s1 x=>?_;subst he;refine⟨lim.keeps x.toInCall.keep,codeAny_func ?_⟩;have I:Inv (cG eV P w K mg base N qual (aH st) f (.ref c) A outer s H E) [] (start N vs) H s1:=Nk S hr.hd e0 hl r x;obtain⟨_,Pl,M,ds,d,M',hk,is,e,q⟩:=hsp;have st0:=J8 (N:=N) hk (by omega) is;have hq:tS K mg W0 b {nx:=fun _ H'=>Q .non H',rt:=Q} (start N vs) H:=by
    unfold bI bZ at e;split at e
    · rename_i d' M2 eb;cases e;exact⟨Pl,H,Pl,_,_,M,_,_,st0,eb,fun P' v H' l h i=>q P' v H' l h i⟩
    · rename_i env M2 eb;cases e;exact⟨Pl,H,Pl,_,_,M,_,_,st0,eb,fun P' Os' H' st' _ k'=>q P' .non H' k'.base k'.hk rfl⟩
    · rename_i c n M2 eb;cases e
    · cases e
  refine xaN (zc4 (hb A outer s H E (hr.deeper _)) s1 (start N vs) H _ I hq) (fun fl s' hs=>?_) fun e s' hs=>hs
  cases fl with
  |ret u=>
    obtain⟨v,H',h1,h2,h3,h4,h5,h6⟩:=hs;exact⟨v,H',h1,h2,h3,h4,h5,h6⟩
  |next=>exact False.elim hs
  |brk=>
    obtain⟨_,_,z⟩:=hs;exact False.elim z
  |cont=>
    obtain⟨_,_,z⟩:=hs;exact False.elim z
theorem UJ {c Pt:Addr}(F:FunD K x qual st f fd)(S:FnScope N ps (aH st))(hp:ps.length<=N.length)(hm:mg x=some (.ref f))(hd:Binds K fd ps [])(ht:PySem.W.tabIn K x=some (c,Pt))
  (hb:∀A outer s H E,Room k (A.deeper (envOfC qual (aH st) s.heap.objs.size f (.ref c)))->pI (nj P w K mg base N qual st f (.ref c) A outer s H E) W0 (bK st) b):aV P w K mg base (k + 1) x ps.length (bI N.length b):=
 ⟨f,fd,ps,[],[],_,hm,F.kp,UW F S hp hm ht hb,hd,.nil,fun vs H Q E h=>by rw[xax];exact h⟩
end
structure FnScopeC (N ps fr:List Str)(sc:Scope):Prop where
 kind:sc.kind=.function
 co:sc.isCoroutine=false
 gen:sc.isGenerator=false
 nd:N.Nodup
 pre:N.take ps.length=ps
 suf:N.drop (N.length - fr.length)=fr
 len:ps.length + fr.length<=N.length
 par:∀x∈ps,sc.names.lookup x=some .local
 fre:∀x∈fr,sc.names.lookup x=some .free
 all:∀y∈sc.names,y.2=.free->y.1∈fr
 noc:∀y∈sc.names,y.2≠ .cell
noncomputable def rH (N:List Str) (vs cvs:List V):L2.St:=vs.map some ++ (List.replicate (N.length - vs.length - cvs.length) none ++ cvs.map some)
noncomputable def nq (np n:Nat) (ds:List D):Env:=(ds.take np).map .val ++ (List.replicate (n - ds.length) .un ++ (ds.drop np).map .val)
def lM (np n:Nat)(b:S):G:=fun ds M=>bZ (b (nq np n ds) M)
noncomputable def Ac (P:Program) (w:World) (K:Fgx) (mg:Mgx) (base:Heap) (N:List Str) (i:FnT) (f:Addr) (cd:Value) (cl:List (Str×Addr)) (A:Around) (outer:List PySem.Env) (s:Shared) (H:Hp):Cx where
 prog:=P
 w:=w
 K:=K
 mg:=mg
 base:=base
 A:=A.deeper (PySem.W.envX i.q (aH i.st) s.heap.objs.size f cd cl)
 N:=N
 s₀:=s
 H₀:=H
 env:=PySem.W.envX i.q (aH i.st) s.heap.objs.size f cd cl
 outer:=outer
 stack:=PySem.W.envX i.q (aH i.st) s.heap.objs.size f cd cl::outer
 ex:=[]
 calm:=true
 fn:=fun _=>false
 pn:=[]
 xe:=fun _ _=>False
theorem kI.get {H:Hp}:∀{cl:List (Str×Addr)} {vs:List V} {j:Nat} {p:Str×Addr},kI H cl vs->cl[j]? =some p->∃v u o,vs[j]? =some v/\RelV v u/\H p.2=some (.frz o (.own p.2))/\o.data=.cell (some u)
  | [],_,_,_,_,e=>by simp at e
  |q::cl,_,0,p,h,e=>by
    obtain⟨v,ws,u,o,e1,r,g,d,_⟩:=h
    simp at e
    subst e e1;exact⟨v,u,o,rfl,r,g,d⟩
  |q::cl,_,j + 1,p,h,e=>by
    obtain⟨v,ws,u,o,e1,_,_,_,h⟩:=h;subst e1;exact kI.get (j:=j) h (by simpa using e)
theorem kI.len {H:Hp}:∀{cl:List (Str×Addr)} {vs:List V},kI H cl vs->vs.length=cl.length
  | [],_,h=>by rw[show _=[] from h];rfl
  |q::cl,_,h=>by
    obtain⟨v,ws,u,o,e1,_,_,_,h⟩:=h;subst e1
    simp[h.len]
theorem Az {β:Type}:∀{l:List (Str×β)} {y:Str} {u:β},(l.map (·.1)).Nodup->(y,u)∈l->l.lookup y=some u
  | [],_,_,_,h=>nomatch h
  |(z,v)::l,y,u,nd,h=>by
    have nd':=xbm.mp nd;rw[xbu];rcases xav.mp h with hm |hm
    · obtain⟨rfl,rfl⟩:=Prod.mk.inj hm;rw[xa5]
    · have:(y==z)=false:=by
        rw[xaQ];exact fun z'=>nd'.1 (xbn.mpr ⟨_,hm,z'⟩)
      rw[this];exact Az nd'.2 hm
theorem Sx {α β:Type}:∀{l:List α} {m:List β},l.length=m.length->(l.zip m).map (·.1)=l
  | [],[],_=>rfl
  | [],_::_,h=>by simp at h
  |_::_,[],h=>by simp at h
  |a::l,b::m,h=>by
    rw[xci,xaJ,Sx (by simpa using h)]
theorem zip_get {α β:Type}:∀{l:List α} {m:List β} {i:Nat} {a:α} {b:β},l[i]? =some a->m[i]? =some b->(a,b)∈l.zip m
  | [],_,_,_,_,h,_=>by simp at h
  |_::_,[],_,_,_,_,h=>by simp at h
  |a::l,b::m,0,_,_,h1,h2=>by
    simp at h1 h2
    subst h1 h2
    simp
  |a::l,b::m,i + 1,_,_,h1,h2=>by
    rw[xci];exact xat _ (zip_get (i:=i) (by simpa using h1) (by simpa using h2))
section
variable {P:Program}{w:World}{K:Fgx}{mg:Mgx}{base:Heap}{k:Nat}{i:FnT}{N ps:List Str}{b:S}
theorem Vr {fr:List Str}{f:Addr}{cd:Value}{cl:List (Str×Addr)}{A:Around}{outer:List PySem.Env}{s:Shared}{H:Hp}{us:List Value}{vs cvs:List V}{h':Heap}{tk:Nat}(S:FnScopeC N ps fr (aH i.st))(hd:A.handled=none)(e0:Env0 P w K mg base A outer s H)
    (hl:vs.length=ps.length) (r:Vals vs us) (hfr:cl.map (·.1)=fr) (hc:kI H cl cvs) (hi:∀x y a,cl.lookup x=some a->cl.lookup y=some a->x=y)
    (hns:h'.Ns s.heap.objs.size (fun x=>(ps.zip us).reverse.lookup x)) (hk:∀b o,s.heap.get? b=some o->h'.get? b=some o):
    Inv (Ac P w K mg base N i f cd cl A outer s H) [] (rH N vs cvs) H {s with heap:=h',toks:=tk}:=by
  have noA:∀b:Addr,b∉(Ac P w K mg base N i f cd cl A outer s H).ex:=fun b z=>absurd (show b∈([]:List Addr) from z) (by simp);have ndf:(cl.map (·.1)).Nodup:=by rw[hfr, <-S.suf];exact S.nd.sublist (List.drop_sublist _ _)
  have cll:cvs.length=fr.length:=by rw[hc.len, <-hfr,xar]
  have S_len:=S.len;have cellAt:∀y c,cl.lookup y=some c->∃u o,H c=some (.frz o (.own c))/\o.data=.cell (some u)/\h'.get? c=some o:=fun y c e=>by
    obtain⟨j,hj⟩:=List.getElem?_of_mem (xaR e);obtain⟨v,u,o,_,_,g,d⟩:=hc.get hj;exact⟨u,o,g,d,hk _ _ (e0.hok _ _ g).1⟩
  have ulen:us.length=ps.length:=by rw[<-r.length];exact hl
  have ndP:ps.Nodup:=by rw[<-S.pre];exact S.nd.sublist (xd2 _ _)
  refine ⟨⟨e0.mod,S.kind,rfl,rfl,xah _,hi,fun y hy=>?_,(fun y c z=>nomatch z),fun _=>hd,Around.frames_deeper e0.frames,.inr ⟨rfl,rfl⟩,fun b z=>absurd z (noA b),e0.bs,e0.bsz,fun b _ _=>noA b,fun b z=>absurd z (noA b),e0.funs,e0.frf⟩,
    rfl,e0.bare,Un.kept hk,⟨_,hns,fun n y v h1 h2 h3=>?_⟩,fun y c h=>?_,e0.hok.fresh (xah _),fun y c h=>?_,fun p hp=>absurd (show p∈([]:Pnx) from hp) (by simp),e0.hok.kept hk,?_⟩
  · have hy:(aH i.st).names.lookup y=some .cell\/(aH i.st).names.lookup y=some .free:=hy;rcases hy with hy |hy
    · exact absurd rfl (S.noc _ (xaR hy))
    · have:y∈cl.map (·.1):=by rw[hfr];exact S.all _ (xaR hy) rfl
      obtain⟨p,hp,rfl⟩:=xbn.mp this;exact⟨p.2,Az ndf hp⟩
  · unfold rH at h2
    by_cases hn:n<vs.length
    · rw[xaz (by simpa using hn),xan]at h2;have ha:vs[n]? =some v:=by
        cases e:vs[n]? with
        |none=>rw[e]at h2;cases h2
        |some a=>rw[e]at h2;cases h2;rfl
      obtain⟨u,hu,rv⟩:=r.get ha;have hp:ps[n]? =some y:=by rw[<-S.pre,xdj (by omega)];exact h1
      refine⟨u,rv,.inl ⟨S.par y (xau hp),?_⟩⟩;refine Az ?_ (List.mem_reverse.mpr (zip_get hp hu));rw[xcy,Sx ulen.symm];exact(List.reverse_perm _).nodup_iff.mpr ndP
    · rw[xaB (by simpa using hn),xar]at h2
      by_cases hn2:n - vs.length<N.length - vs.length - cvs.length
      · rw[xaz (by simpa using hn2),xaS,xab hn2]at h2;cases h2
      · rw[xaB (by simpa using hn2),xbk,xan]at h2;have ha:cvs[n - vs.length - (N.length - vs.length - cvs.length)]? =some v:=by
          cases e:cvs[n - vs.length - (N.length - vs.length - cvs.length)]? with
          |none=>rw[e]at h2;cases h2
          |some a=>rw[e]at h2;cases h2;rfl
        have hf:fr[n - vs.length - (N.length - vs.length - cvs.length)]? =some y:=by
          have:(N.drop (N.length - fr.length))[n - vs.length - (N.length - vs.length - cvs.length)]? =some y:=by
            rw[List.getElem?_drop, <-h1];congr 1;omega
          rw[S.suf]at this;exact this
        rw[<-hfr,xan,xad]at hf;obtain⟨p,hp,rfl⟩:=hf;obtain⟨v',u,o,ev,ru,g,d⟩:=hc.get hp;rw[ha]at ev;cases ev;refine⟨u,ru,.inr ⟨.inr (S.fre _ (by rw[<-hfr];exact xbn.mpr ⟨p,xau hp,rfl⟩)),p.2,Az ndf (xau hp),o,hk _ _ (e0.hok _ _ g).1,d⟩⟩
  · obtain⟨u,o,_,d,g⟩:=cellAt y c h;exact⟨some u,o,g,d⟩
  · obtain⟨u,o,g,_,_⟩:=cellAt y c h;exact .inr ⟨rfl,o,_,g⟩
  · unfold rH;show _=N.length;rw[xap,xap,xar,xbk,xar];omega
theorem zaP {Pl:Pl}{H:Hp}{M:Mm}{ds cds:List D}{vs cvs:List V}(hk:Hk K mg Pl H M)(hl:vs.length + cvs.length<=N.length)(h:aC K Pl H ds vs)(hc:aC K Pl H cds cvs):
  Ok K mg Pl H Pl (List.replicate N.length none) H M (rH N vs cvs) (nq ds.length N.length (ds ++ cds)):=by
 have hd:=h.len;have hd2:=hc.len;have ee:nq ds.length N.length (ds ++ cds)=ds.map .val ++ (List.replicate (N.length - vs.length - cvs.length) .un ++ cds.map .val):=by
  unfold nq;rw[List.take_left,List.drop_left,xap,hd,hd2,Nat.sub_sub]
 rw[ee];refine⟨hk,LtE.refl Pl H,hk.here,fun n s e=>?_,fun a z=>?_,fun n j a e1 _=>?_,by simp;omega,by simp[rH];omega⟩
 ·have e0:((List.replicate N.length (none:Option Addr))[n]?).join=none:=by
   rw[xaS]
   split<;>rfl
  rw[e0];unfold rH
  by_cases hi:n<ds.length
  ·rw[xaz (by simpa using hi),xan,xag hi]at e;simp only[xaT,xdc]at e;subst e;obtain⟨v,ev,p⟩:=h.get (xag hi);refine⟨v,?_,p⟩;rw[xaz (by rw[xar];omega),xan,ev];rfl
  ·rw[xaB (by simpa using hi),xar]at e
   by_cases h2:n - ds.length<N.length - vs.length - cvs.length
   ·rw[xaz (by simpa using h2),xaS,xab h2]at e;cases e;exact True.intro
   ·rw[xaB (by simpa using h2),xbk,xan,xad]at e;obtain⟨d,ed,rfl⟩:=e;obtain⟨v,ev,p⟩:=hc.get ed;rw[<-hd]at ev;refine⟨v,?_,p⟩;rw[xaB (by rw[xar];omega),xar,xaB (by rw[xbk];omega),xbk,xan,ev];rfl
 ·exact absurd (xdp z) (by simp)
 ·rw[xaS]at e1;split at e1<;>cases e1
def gK (P:Program)(w:World)(K:Fgx)(mg:Mgx)(base:Heap)(k:Nat)(i:FnT)(n:Nat)(g:G):Prop:=
 ∀(A:Around) (outer:List PySem.Env) (s:Shared) (H:Hp) (us:List Value) (vs:List V) (Q:VK) (E:XK) (f:Addr) (caps:List (Str×D)) (Pl:Pl) (M:Mm) (ds:List D) (d:D) (M':Mm),Room k A->Env0 P w K mg base A outer s H->Vals vs us->vs.length=n->
  Hk K mg Pl H M->kJ K mg Pl H f i caps->aC K Pl H ds vs->g (ds ++ caps.map (·.2)) M=some (.v d,M')->(∀P' v H',LtE Pl H P' H'->Hk K mg P' H' M'->Is K P' H' d v->Q v H')->codeAny (model P w) A (.call (.ref f) ⟨us,[]⟩) (CR eV outer P w H s Q E) s
theorem gK.mono {j:Nat}{n:Nat}{g:G}(a:gK P w K mg base j i n g)(h:j<=k):gK P w K mg base k i n g:=fun A outer s H us vs Q E f caps Pl M ds d M' hr=>a A outer s H us vs Q E f caps Pl M ds d M' (hr.mono h)
def mR (i:FnT)(ps:List Str)(n:Nat)(dn:List Int):Prop:=n + dn.length=ps.length/\∀(H:Hp) (s:Shared) (mgv:Value) (cl:List (Str×Addr)) (dV doc ctv cd:Value) (us:List Value),us.length=n->dM H i.dd dV->(∀a o u,H a=some (.frz o u)->s.heap.get? a=some o)->
 ∃us',Vals (dn.map V.int) us'/\BindsTo s (PySem.W.fnX i.x i.q (cM i.st) (bK i.st) (aH i.st) cl dV .none doc mgv none cd ctv) ⟨us,[]⟩ (ps.zip (us ++ us'))
theorem Nt {K:Fgx}{P:Pl}{H:Hp}:∀dn:List Int,aC K P H (dn.map D.int) (dn.map V.int)
 | []=>rfl
 |_::r=>⟨_,_,rfl,rfl,Nt r⟩
theorem Nu {K:Fgx}{P:Pl}{H:Hp}:∀{ds es:List D} {vs ws:List V},aC K P H ds vs->aC K P H es ws->aC K P H (ds ++ es) (vs ++ ws)
  | [],_,_,_,h,g=>by
    obtain rfl:=h;exact g
  |_::_,_,_,_,⟨v,r,e,h,t⟩,g=>by
    subst e;exact⟨v,_,rfl,h,Nu t g⟩
theorem UL {n:Nat}{dn:List Int}{g:G}(S:FnScopeC N ps i.fr (aH i.st))(hbn:mR i ps n dn)(hg:∀ds cs M,ds.length=n->g (ds ++ cs) M=lM ps.length N.length b ((ds ++ dn.map .int) ++ cs) M)
    (hb:∀f cd cl A outer s H,Room k (A.deeper (PySem.W.envX i.q (aH i.st) s.heap.objs.size f cd cl))->SB (Ac P w K mg base N i f cd cl A outer s H) W0 (bK i.st) b):gK P w K mg base (k + 1) i n g:=by
  intro A outer s H us0 vs0 Q E f caps Pl M ds0 d M' hr e0 r0 hn0 hk fc is0 e q;obtain⟨cl,dV,doc,ctv,c,cvs,e1,⟨e2,edf⟩,⟨e3,hfr'⟩,e4,e5,e6⟩:=fc;obtain⟨oc,fs,t,c1,c2,c3⟩:=e2;have ho:s.heap.get? f=some (mC mg i cl dV doc ctv c):=(e0.hok f _ e1).1;have hcr:s.heap.CodeRec (.ref c) i.q:=⟨c,oc,fs,t,rfl,(e0.hok c _ c1).1,c2,c3⟩;have lim:s.heap.NoLimit:=e0.mod.nolimit.keeps fun b o e=>(e0.bs b o e).1;obtain⟨us',rd,hbt⟩:=hbn.2 H s ((mg "__name__").getD .none) cl dV doc ctv (.ref c) us0 (by rw[<-r0.length];exact hn0) edf fun a o u z=>(e0.hok a _ z).1;rw[hg _ _ _ (by rw[<-hn0];exact is0.len.symm)]at e;have r:Vals (vs0 ++ dn.map V.int) (us0 ++ us'):=r0.append rd;have hn:(vs0 ++ dn.map V.int).length=ps.length:=by rw[xap,xar,hn0];exact hbn.1
  have is:aC K Pl H (ds0 ++ dn.map D.int) (vs0 ++ dn.map V.int):=Nu is0 (Nt dn);clear is0 r0 rd hn0 hg;generalize us0 ++ us'=us at r hbt;generalize vs0 ++ dn.map V.int=vs at r hn is;generalize ds0 ++ dn.map D.int=ds at is e;have ulen:us.length=ps.length:=by rw[<-r.length];exact hn
  have kept:∀h':Heap,Heap.SameBut s.heap.objs.size (s.heap.push {cls:=.type "frame",data:=.dict #[]}) h'->∀b o,s.heap.get? b=some o->h'.get? b=some o:=fun h' hs b o g=>by
    rw[hs.2 b (xaq (xaj g))];exact xaa _ g
  refine xcB hr.depth ho rfl S.co S.gen rfl hcr (hbt _ _ _ _ ?_);refine wpAny_newFunctionEnv S.noc (fun y hy=>S.par _ (xcf hy).1) (fun h' hns hsame=>⟨lim.keeps (kept h' hsame),codeAny_func ?_⟩) S.kind;have cll:cvs.length=i.fr.length:=by rw[e5.len, <-hfr', <-e3,xar]
  have S_len:=S.len;have dl:=is.len;have I:=Vr (P:=P) (w:=w) (base:=base) (f:=f) (cd:=.ref c) (A:=A) (outer:=outer) (tk:=s.toks + (ps.zip us).length) S hr.hd e0 hn r (e3.trans hfr') e5 e6 hns (kept h' hsame);have st0:=zaP (N:=N) (ds:=ds) (cds:=caps.map (·.2)) hk (by omega) is e4;rw[show ds.length=ps.length by omega]at st0;have hq:tS K mg W0 b {nx:=fun _ H'=>Q .non H',rt:=Q} (rH N vs cvs) H:=by
    unfold lM bZ at e;split at e
    · rename_i d' M2 eb;cases e;exact⟨Pl,H,Pl,_,_,M,_,_,st0,eb,fun P' v H' l h i=>q P' v H' l h i⟩
    · rename_i env M2 eb;cases e;exact⟨Pl,H,Pl,_,_,M,_,_,st0,eb,fun P' Os' H' st' _ k'=>q P' .non H' k'.base k'.hk rfl⟩
    · rename_i c n M2 eb;cases e
    · cases e
  refine xaN (hb f (.ref c) cl A outer s H (hr.deeper _) [] _ (rH N vs cvs) H _ I hq) (fun fl s' hs=>?_) fun e s' hs=>False.elim hs
  cases fl with
  |ret u=>
    obtain⟨v,σ',H',J,rv,z⟩:=hs;exact⟨v,H',J.os,J.bare,J.base,J.hok,rv,z⟩
  |next=>
    obtain⟨σ',H',J,z⟩:=hs;exact⟨.non,H',J.os,J.bare,J.base,J.hok,rfl,z⟩
  |brk=>
    obtain⟨_,_,_,z⟩:=hs;exact False.elim z
  |cont=>
    obtain⟨_,_,_,z⟩:=hs;exact False.elim z
end
open Classical in
noncomputable def nY (i:FnT) (g:G) (f:E) (fs:EA):E:=fun env M=>bnd (f env M) fun d M1=>match d with
  | .ref k => (match M1[k]? with
    | some (.fn i' caps) => if i' = i then cD (fs env M1) fun ds M2 => (match g (ds ++ caps.map (·.2)) M2 with
      |some (.v z,M3)=>some (.v z,M3)
      |_=>none) else none
    |_=>none)
  |_=>none
section
variable {X:Cx}{Wx:XW}{m:Mode}{pos:Pos}
theorem Q8 {k n:Nat}{hd:Expr}{i:FnT}{g:G}{e:Expr}{es:List Expr}{f:E}{fs:EA}(a:gK X.prog X.w X.K X.mg X.base k i n g)(hr:Room k X.A)(hf:SE X Wx .val hd f)(ha:SA X Wx .val (e::es) fs)(hn:pH n fs)
    (he:starEach (e::es) X.env=(false,eval e X.env)::starEach es X.env:=by rfl) (hpl:(backTo pos (starEach es X.env)).any (·.1)=false:=by rfl) (hce:eval (.Call hd (e::es) [] pos) X.env=(eval hd X.env >>=fun v=>callWith pos v [] (backTo pos (starEach (e::es) X.env)) (backToKw pos (keywordEach [] X.env))):=by rfl):SE X Wx m (.Call hd (e::es) [] pos) (nY i g f fs):=by
  intro pins s σ H Q I hh;rw[hce];obtain⟨P0,H0,P,Os,env,M,r,M',k,e,q⟩:=hh;unfold nY at e;rcases cu e with⟨d,M1,e1,e3⟩ |⟨c,n,e1,rfl⟩
  · clear e;split at e3
    · rename_i kk;split at e3
      · rename_i i' caps em;split at e3
        · rename_i hi;subst hi;refine tG (aN (hf pins s σ H (fun v H1=>∃P1,LtE P H P1 H1/\Hk X.K X.mg P1 H1 M1/\Is X.K P1 H1 (.ref kk) v) I ⟨P0,H0,P,Os,env,M,_,_,k,e1,fun P1 v H1 l h i=>⟨P1,l,h,i⟩⟩) fun u s1 h1=>?_);obtain⟨v,H1,I1,rv,P1,l1,h1,kl,rfl⟩:=h1;obtain rfl:u=Value.ref (P1.io kk):=rv;have fc:kJ X.K X.mg P1 H1 (P1.io kk) i' caps:=h1.cell kk _ em;have fat:∀{s2:Shared} {H2:Hp},Inv X pins σ H2 s2->(∀b o u,H1 b=some (.frz o u)->H2 b=some (.frz o u))->PySem.W.FnAt (P1.io kk) s2.heap:=fun {s2 H2} J sm=>by
            obtain⟨cl,dV,doc,ctv,c,cvs,g1,_⟩:=fc;exact⟨_,_,_,_,(J.hok _ _ (sm _ _ _ g1)).1⟩
          have k1:=k.next l1 h1
          rcases m8 e3 with⟨ds,M2,e2,e4⟩ |⟨c,n',e2,rfl⟩
          · split at e4
            · rename_i z M3 eg;cases e4;refine xd0 (fat I1 fun _ _ _ z=>z) (aN (ha pos pins s1 σ H1 (fun vs H2=>∃P2,LtE P1 H1 P2 H2/\Hk X.K X.mg P2 H2 M2/\cC X.K P2 H2 .val ds vs) I1 ⟨P0,H0,P1,Os,env,M1,_,_,k1,e2,fun P2 vs H2 l2 h2 i2=>⟨P2,l2,h2,i2⟩⟩) fun us s2 h2=>?_) he hpl;obtain⟨vs,H2,I2,rvs,P2,l2,h2,i2⟩:=h2;have l2t:=l2.lt h1;refine⟨fat I2 l2t.frz,?_⟩;have fc2:kJ X.K X.mg P2 H2 (P1.io kk) i' caps:=fc.up l2t.frz fun _ _ q=>aC.lt l2t q;refine xdI (xbW (a X.A X.stack s2 H2 us vs Q E0 (P1.io kk) caps P2 M2 ds z _ hr I2.env0 rvs (by rw[i2.len];exact hn _ _ _ _ e2) h2 fc2 i2.iss eg fun P3 v H3 l3 h3 i3=>q P3 v H3 (l1.trans (l2.trans l3)) h3 (cA.of h3 i3)) fun r s' hq=>?_)
              cases r with
              |error e=>exact False.elim hq
              |ok fl=>
                cases fl with
                |ret u=>exact I2.after hq
                |next=>exact False.elim hq
                |brk=>exact False.elim hq
                |cont=>exact False.elim hq
            · cases e4
          · refine xd0 (fat I1 fun _ _ _ z=>z) (aN (ha pos pins s1 σ H1 (fun _ _=>False) I1 ⟨P0,H0,P1,Os,env,M1,_,_,k1,e2,q⟩) fun us s2 h2=>?_) he hpl;obtain⟨_,_,_,_,z⟩:=h2;exact z.elim
        · cases e3
      · cases e3
    · cases e3
  · refine tG (aN (hf pins s σ H (fun _ _=>False) I ⟨P0,H0,P,Os,env,M,_,_,k,e1,q⟩) fun u s1 h1=>?_);obtain⟨_,_,_,_,z⟩:=h1;exact z.elim
end
end E3
namespace E3
open PySem PySem.Spec PyProof.Rows L2
noncomputable def aW (K:Fgx) (nm:Str):Addr:=((PySem.W.tabIn K nm).getD (0,0)).2
noncomputable def tabsOk (K : Fgx) (T : List (Str × FnT)) (ts : List Addr) : Bool := (T.all fun p=>match PySem.W.tabIn K p.1 with
 |some (c,P)=>PySem.W.codeHdIn K c P && (K.lookup P).isNone && ts.contains P
 |none=>false) && decide ((T.map fun p=>aW K p.1).Nodup)
theorem RZ {K:Fgx}{T:List (Str×FnT)}{ts:List Addr}(h:tabsOk K T ts=true):(∀p∈T,∃c,PySem.W.tabIn K p.1=some (c,aW K p.1)/\PySem.W.codeHdIn K c (aW K p.1)=true/\K.lookup (aW K p.1)=none/\aW K p.1∈ts)/\(T.map fun p=>aW K p.1).Nodup:=by
  unfold tabsOk at h;rw[xam,xaX]at h;refine⟨fun p hp=>?_,xbD h.2⟩;have:=h.1 p hp;unfold aW
  cases e:PySem.W.tabIn K p.1 with
  |none=>rw[e]at this;cases this
  |some q=>
    obtain⟨c,P⟩:=q;rw[e]at this;simp only[xam,Option.isNone_iff_eq_none,List.contains_iff_mem]at this;exact⟨c,rfl,this.1.1,this.1.2,this.2⟩
def fG (T:List (Str×FnT)):Mm:=T.map fun p=>Cl.tbl p.1 p.2
def Dv (K:Fgx)(T:List (Str×FnT))(H:Hp):Prop:=∀p∈T,H (aW K p.1)=some (.tbl #[])
theorem V7 {P:Program}{w:World}{K:Fgx}{mg mb:Mgx}{CX:d8}{k:Nat}{fa a:Addr}{fd:FuncData}{x:Str}{sp:Sp}{s₁:Shared}{vs:List Value}{ns:List Int}{T:List (Str×FnT)}{ts:List Addr}
    (hT:tabsOk K T ts=true) (hts:∀P∈ts,s₁.heap.get? P=some (PySem.W.tabObj #[])) (hbm:kE mg s₁.heap)
    (KX:K.In s₁.heap) (hns:s₁.heap.Ns mainGlobals mg) (hb:s₁.heap.Ns builtinsNs mb) (hbb:∀x:Str,x≠"__name__"->mb x=bootBuiltins x) (hlim:s₁.heap.NoLimit) (hg:s₁.gens= #[])
    (ha:s₁.heap.get? a=some {cls:=.type "list",data:=.seq vs.toArray}) (hi:IntsAre vs ns) (hl:ns.length<=sizeLine) (hr:Room k callerA)
    (F:∀base:Heap,K.In base->base.Ns mainGlobals mg->kE mg base->FnOk P w K mg base CX k fa fd [x] sp) (hbind:∀(s:Shared) (u:Value),BindsTo s fd ⟨[u],[]⟩ [(x,u)])
    (hsp:∀H:Hp,Dv K T H->bF K H a (ns.map V.int)->sp [.ref a] H (fun v _=>v=.bl true) fun _ _ _=>False)
    (hCX:∀H e s',CX [] H s₁ (fun _ _ _=>False) e s'->False):
    codeAny (model P w) callerA (.call (.ref fa) ⟨[.ref a],[]⟩) (fun r s'=>r=.ok (.ret (.bool true))/\OldK s₁.heap s'.heap/\s'.os=s₁.os/\AllBare s'.gens) s₁:=by
  have rv:=Sd hi;have lenV:=hi.length;obtain⟨tb,tnd⟩:=RZ hT;have inT:∀{b:Addr},(b∈T.map fun p=>aW K p.1)->(∃c,PySem.W.codeHdIn K c b=true)/\K.lookup b=none/\s₁.heap.get? b=some (PySem.W.tabObj #[]):=fun {b} h=>by
    obtain⟨p,hp,rfl⟩:=xbn.mp h;obtain⟨c,_,e2,e3,e4⟩:=tb p hp;exact⟨⟨c,e2⟩,e3,hts _ e4⟩
  have naT:(a∈T.map fun p=>aW K p.1)->False:=fun h=>by
    have:=(inT h).2.2;rw[ha]at this;cases this
  have core:∀H:Hp,(∀b,H b=none\/(∃o xs,H b=some (.frz o (.lst xs))/\b=a)\/((b∈T.map fun p=>aW K p.1)/\H b=some (.tbl #[])))->Dv K T H->bF K H a (ns.map V.int)->cg P w H s₁.heap->(H a≠none->K.lookup a=none)->
      codeAny (model P w) callerA (.call (.ref fa) ⟨[.ref a],[]⟩) (fun r s'=>r=.ok (.ret (.bool true))/\OldK s₁.heap s'.heap/\s'.os=s₁.os/\AllBare s'.gens) s₁:=by
    intro H hO hTT hS hok hK;have base_of:∀{b:Addr} {o:Obj},s₁.heap.get? b=some o->H b=none->(dD s₁.heap H).get? b=some o:=fun e n=>Vg e n;have noA:∀{b:Addr} {o:Obj} {es:Array DictEntry} {ep:Nat},s₁.heap.get? b=some o->o.data=.dict es ep->H b=none:=fun {b o es ep} e d=>by
      rcases hO b with z |⟨_,_,_,z⟩ |⟨z,_⟩
      · exact z
      · subst z;rw[ha]at e;cases e;have d':Data.seq vs.toArray _=Data.dict es ep:=d;cases d'
      · rw[(inT z).2.2]at e;cases e;have d':Data.fields _=Data.dict es ep:=d;cases d'
    have nsK : ∀ {b : Addr} {m : Mgx}, s₁.heap.Ns b m -> (dD s₁.heap H).Ns b m := fun {b m} ⟨o, es, ep, e, d, r⟩ => ⟨o, es, ep, base_of e (noA e d), d, r⟩;have hKb : K.In (dD s₁.heap H) := fun b o e => base_of (KX b o e) (by
      rcases hO b with z |⟨o',xs,q,z⟩ |⟨z,_⟩
      · exact z
      · subst z;rw[hK (by rw[q];exact fun z=>nomatch z)]at e
        cases e
      · rw[(inT z).2.1]at e;cases e)
    have hB:kE mg (dD s₁.heap H):=by
      obtain⟨bm,ob,b1,b2,b3,b4,b5,b6,b7⟩:=hbm;refine⟨bm,ob,b1,b2,b3,base_of b4 ?_,b5,b6,b7⟩;rcases hO bm with z |⟨_,_,_,z⟩ |⟨z,_⟩
      · exact z
      · subst z;rw[ha]at b4;cases b4;cases b7
      · rw[(inT z).2.2]at b4;cases b4;cases b7
    have hM:Mod K mg (dD s₁.heap H):=⟨hKb,nsK hns,⟨mb,nsK hb,hbb⟩,let ⟨mc,h1,h2⟩:=hlim;⟨mc,nsK h1,h2⟩⟩
    have e0:Env0 P w K mg (dD s₁.heap H) callerA [] s₁ H:=⟨rfl,hM,fun b o e=>Yk e,xdi (Vh _ _),trivial,fun b hb=>absurd (show b∈([]:List Addr) from hb) (by simp),hok,.of_eq hg⟩;refine xbW ((F _ hKb (nsK hns) hB).run callerA [] s₁ H ⟨[.ref a],[]⟩ [.ref a] [.ref a] _ _ hr e0 (hbind s₁ (.ref a)) (.cons rfl .nil) (hsp H hTT hS)) fun r s' h=>?_
    cases r with
    |error e=>exact(hCX H e s' h).elim
    |ok fl=>
      cases fl with
      |next=>exact False.elim h
      |brk=>exact False.elim h
      |cont=>exact False.elim h
      |ret u=>
        obtain⟨v,H',os,bare,un,hok',r',q⟩:=h;have q':v=.bl true:=q;subst q';obtain rfl:u=Value.bool true:=r';refine⟨rfl,⟨fun b o e=>?_,fun b o e=>un.there b o e (by simp)⟩,os,bare⟩;rcases hO b with z |⟨ob,xs,z,_⟩ |⟨hm,z⟩
        · exact .inl (un.keep b o e z (by intro y;exact absurd (show b∈([]:List Addr) from y) (by simp)) (by simp))
        · have z2:=un.frzs b ob _ z;obtain⟨e1,_⟩:=hok b _ z;obtain⟨e2,_⟩:=hok' b _ z2;rw[e]at e1;cases e1;exact .inl e2
        · obtain⟨⟨c,hc⟩,_,hg⟩:=inT hm;obtain⟨more,z2⟩:=un.tbls b _ z;have g2:s'.heap.get? b=some {cls:=.none,data:=.fields (#[] ++ more)}:=hok' b _ z2;rw[hg]at e;cases e;exact .inr (.inl ⟨((xdS KX hc).tab hg).isCodeTable,rfl, #[],more,rfl,g2⟩)
  cases hk:K.lookup a with
  |some o=>
    have e:=KX a o hk;rw[ha]at e;cases e;refine core (fun b=>if (b∈T.map fun p=>aW K p.1) then some (.tbl #[]) else none) (fun b=>?_) (fun p hp=>xab (xbn.mpr ⟨p,hp,rfl⟩)) (.inr ⟨_,vs.toArray,_,hk,rfl,rfl,rfl,by rw[xae,lenV];exact hl,by simpa using rv⟩) (fun b u z=>?_) fun z=>absurd (xai naT) z
    · by_cases hb:(b∈T.map fun p=>aW K p.1)
      · exact .inr (.inr ⟨hb,xab hb⟩)
      · exact .inl (xai hb)
    · by_cases hb:(b∈T.map fun p=>aW K p.1)
      · have z':=(xab hb).symm.trans z;cases z';exact(inT hb).2.2
      · have z':=(xai hb).symm.trans z;cases z'
  |none=>
    refine core (fun b=>if b=a then some (.frz {cls:=.type "list",data:=.seq vs.toArray} (.lst (ns.map V.int))) else if (b∈T.map fun p=>aW K p.1) then some (.tbl #[]) else none) (fun b=>?_) (fun p hp=>?_) (.inl (.inr ⟨{cls:=.type "list",data:=.seq vs.toArray},xab rfl⟩)) (fun b u z=>?_) fun _=>hk
    · by_cases hb:b=a
      · exact .inr (.inl ⟨_,_,xab hb,hb⟩)
      · by_cases ht:(b∈T.map fun p=>aW K p.1)
        · exact .inr (.inr ⟨ht,(xai hb).trans (xab ht)⟩)
        · exact .inl ((xai hb).trans (xai ht))
    · have hm:(aW K p.1∈T.map fun p=>aW K p.1):=xbn.mpr ⟨p,hp,rfl⟩;have hne:aW K p.1≠a:=fun z=>naT (by rw[<-z];exact hm);exact(xai hne).trans (xab hm)
    · by_cases hb:b=a
      · have z':=(xab hb).symm.trans z;cases z';subst hb;exact⟨ha,by rw[xar];exact hl,vs,_,rv,ha⟩
      · have z1:=(xai hb).symm.trans z
        by_cases ht:(b∈T.map fun p=>aW K p.1)
        · have z':=(xab ht).symm.trans z1;cases z';exact(inT ht).2.2
        · have z':=(xai ht).symm.trans z1;cases z'
theorem Ou {α:Type}:∀{l:List α} {i j:Nat} {x:α},l.Nodup->l[i]? =some x->l[j]? =some x->i=j
  | [],_,_,_,_,h,_=>by simp at h
  |a::l,0,0,_,_,_,_=>rfl
  |a::l,0,j + 1,x,nd,h1,h2=>by
    simp at h1
    subst h1;exact absurd (xau (by simpa using h2)) (xbm.mp nd).1
  |a::l,i + 1,0,x,nd,h1,h2=>by
    simp at h2
    subst h2;exact absurd (xau (by simpa using h1)) (xbm.mp nd).1
  |a::l,i + 1,j + 1,x,nd,h1,h2=>congrArg (· + 1) (Ou (xbm.mp nd).2 (by simpa using h1) (by simpa using h2))
theorem V8 {K:Fgx}{g:G}{H:Hp}{a:Addr}{ns:List Int}{T:List (Str×FnT)}{ts:List Addr}(hT:tabsOk K T ts=true)(hg:∃M,g [.lst (ns.map D.int)] (fG T)=some (.v (.bl true),M))(hO:Dv K T H)(hS:bF K H a (ns.map V.int)):CK K g [.ref a] H (fun v _=>v=.bl true) fun _ _ _=>False:=by
 intro mg;obtain⟨M,e⟩:=hg;obtain⟨tb,tnd⟩:=RZ hT;have at_:∀{k:Nat} {p:Str×FnT},T[k]? =some p->(T[k]?.map fun p=>aW K p.1).getD 0=aW K p.1:=fun h=>by rw[h];rfl
 refine⟨rfl,⟨fun k=>(T[k]?.map fun p=>aW K p.1).getD 0,T.length,fun b=>∃p∈T,aW K p.1=b⟩,fG T,[.lst (ns.map D.int)],.bl true,M,⟨by simp[fG],fun k c e=>?_,fun j k h1 h2 z=>?_,fun k h=>?_,fun b z=>?_⟩,⟨.ref a,[],rfl,⟨a,ns.map V.int,rfl,?_,Nr ns⟩,rfl⟩,e,fun P' v H' _ _ i=>i⟩
 ·unfold fG at e;rw[xan,xad]at e;obtain⟨p,hp,rfl⟩:=e;have hm:=xau hp;obtain⟨c,e1,_⟩:=tb p hm;show mX K H ((T[k]?.map fun p=>aW K p.1).getD 0) p.1 p.2;rw[at_ hp];exact⟨c, #[],e1,hO p hm,.inl rfl⟩
 ·have g1:T[j]? =some T[j]:=xag h1;have g2:T[k]? =some T[k]:=xag h2;have z':(T[j]?.map fun p=>aW K p.1).getD 0=(T[k]?.map fun p=>aW K p.1).getD 0:=z;rw[at_ g1,at_ g2]at z';exact Ou tnd (x:=aW K T[k].1) (by rw[xan,g1];exact congrArg some z') (by rw[xan,g2];rfl)
 ·have g1:T[k]? =some T[k]:=xag h;refine⟨T[k],xbH h,?_⟩;show _=(T[k]?.map fun p=>aW K p.1).getD 0;rw[at_ g1]
 ·obtain⟨p,hp,rfl⟩:=z;rw[hO p hp];exact fun z=>nomatch z
 ·rcases hS with h |h
  ·refine .inl ⟨fun⟨p,hp,z⟩=>?_,h⟩;have:=hO p hp;rw[z]at this;rcases h with h |⟨o,h⟩<;>rw[this]at h<;>cases h
  ·exact .inr h
theorem zbb {l:PySem.W.OpenLaw}{k:Nat}{q:Program}{loose:List Str}{XP:(Mgx)->Heap->Prop}{YP:World->Heap->Prop}{d:DefRec}{K:Params->Fgx}{x:Str}{g:G}{T:List (Str×FnT)}
  (hn:l.most=some 63) (hdf:d.params.defaults=[]) (hr:Room k callerA) (hY:∀(w:World) (h:Heap),YP w h->(K w.params).In h) (hZ:∀(w:World) (h:Heap),YP w h->∃ts,tabsOk (K w.params) T ts=true/\∀P∈ts,h.get? P=some (PySem.W.tabObj #[]))
  (F:∀(w:World) (mg:Mgx) (fa:Addr) (h:Heap),(K w.params).In h->h.Ns mainGlobals mg->mg d.name=some (.ref fa)->
   ∃fd:FuncData,(∀(s:Shared) (u:Value),BindsTo s fd ⟨[u],[]⟩ [(x,u)])/\
    ∀base:Heap,(K w.params).In base->base.Ns mainGlobals mg->kE mg base->FnOk l.prog w (K w.params) mg base eV k fa fd [x] (CK (K w.params) g))
  (hg:∀ns:List Int,ns.length<=63->∃M,g [.lst (ns.map D.int)] (fG T)=some (.v (.bl true),M)):PySem.W.WalkO q loose XP YP l.row.toRowW d [] (fun f vs=>PySem.call f vs):=by
 refine Att.S_ hn hdf fun w s₀ s₁ mg mb fa o pm cd doc a vs ns G Y ho hd hcd hmg hobj hints hlen hgn=>?_;have KX:=hY w _ Y;obtain⟨ts,hT,hts⟩:=hZ w _ Y;obtain⟨fd,hb,hF⟩:=F w mg fa _ KX G.T.g hmg;have hbm:kE mg s₁.heap:=by
  obtain⟨bm,ob,b1,b2,b3,b4,b5,b6⟩:=G.T.bmain;refine⟨bm,ob,b1,b2,fun z=>?_,b3,b4,b5,b6⟩;obtain⟨o,es,ep,e,d,_⟩:=G.T.g;rw[z,e]at b3;cases b3;rw[d]at b6;cases b6
 exact V7 hT hts hbm KX G.T.g G.T.b G.T.builtins G.T.nolimit hgn hobj hints (xaw hlen (by decide)) hr hF hb (fun H hO hS=>V8 hT (hg ns hlen) hO hS) fun H e s' z=>z
def inDef (s:Stmt)(j:Nat):Stmt:=(bK s).getD j s
noncomputable def Mp (s:Stmt):Pos:=match s with
 |.FunctionDef _ _ _ _ _ _ _ _ _ p=>p
 |_=>⟨0,0,0,0⟩
noncomputable def cV (caps:List (Str×Nat)) (env:PySem.Env):List (Str×Addr):=caps.map fun p=>(p.1,(env.cells.lookup p.1).getD 0)
abbrev LF (st:Stmt)(x:Str):Prop:=(aH st).names.lookup x=some .free
section
variable {X:Cx}{Wx:XW}
theorem Qj {k:Nat}{ss:List Stmt}{b:S}(hr:Room k X.A)(h:X.A.units + 60<cLine->pI X Wx ss b):pI X Wx ss b:=h (xdZ (xdR (by decide) _) hr.units)
end
section
variable (P:Program)(w:World)(K:Fgx)(mg:Mgx)(base:Heap)(k:Nat)(f:Addr)(N:List Str)(q:Str)(st:Stmt)(b:S)(c:Addr)(i:FnT)
abbrev Dz:Prop:=∀(A:Around) (outer:List PySem.Env) (s:Shared) (H:Hp) (E:XK),Room k (A.deeper (envOfC q (aH st) s.heap.objs.size f (.ref c)))->pI (nj P w K mg base N q st f (.ref c) A outer s H E) W0 (bK st) b
abbrev tM:Prop:=∀(f:Addr) (cd:Value) (cl:List (Str×Addr)) (A:Around) (outer:List PySem.Env) (s:Shared) (H:Hp),Room k (A.deeper (PySem.W.envX i.q (aH i.st) s.heap.objs.size f cd cl))->SB (Ac P w K mg base N i f cd cl A outer s H) W0 (bK i.st) b
end
section
variable {P:Program}{w:World}{K:Fgx}{mg:Mgx}{h base:Heap}{k:Nat}{f:Addr}{N ps:List Str}{x q:Str}{st:Stmt}{b:S}{c Pt:Addr}{i:FnT}
theorem Wy {CX:d8}{A:Around}{outer:List PySem.Env}{s:Shared}{H:Hp}{E:XK}{nm:Str}{caps:List (Str×Nat)}{j:Nat}{X:Cx}(hX:X=cG CX P w K mg base N q (aH st) f (.ref c) A outer s H E\/X=(cG CX P w K mg base N q (aH st) f (.ref c) A outer s H E).nox)(tab:PySem.W.tabIn K nm=some (c,Pt))(hd:PySem.W.codeHdIn K c Pt=true)(bm:kE mg base)(nd:N.Nodup)
  (hst:∃params body scope,i.st=.FunctionDef i.x params body [] none [] scope none i.x i.pos/\((params.defaults=[]/\i.dd=[])\/∃n a p,params.defaults=[.Constant (.int n) a p]/\i.dd=[n]/\caps≠ [])/\params.kw_defaults=[]/\params.kwonlyargs=[]/\annTrees params none (envOfC q (aH st) s.heap.objs.size f (.ref c))=[])
  (hq:qualnameIn (envOfC q (aH st) s.heap.objs.size f (.ref c)) i.x i.x=i.q)
  (clo:closureFor (aH i.st) (envOfC q (aH st) s.heap.objs.size f (.ref c))=pure (cV caps (envOfC q (aH st) s.heap.objs.size f (.ref c))))
  (mD:caps.map (·.1)=i.fr) (cap:∀p∈caps,N[p.2]? =some p.1/\LC st p.1/\p.2≠j) (jx:N[j]? =some i.x) (jl:LV st i.x)
  (db:(i.x==("__debug__":Str))=false) (cd:(i.x==("__classdict__":Str))=false):
  MkOk X nm i caps (cV caps (envOfC q (aH st) s.heap.objs.size f (.ref c))) c Pt j:=by
 have cel:∀p∈cV caps (envOfC q (aH st) s.heap.objs.size f (.ref c)),(envOfC q (aH st) s.heap.objs.size f (.ref c)).cells.lookup p.1=some p.2:=fun p hp=>by
  obtain⟨r,hr,rfl⟩:=xbn.mp hp;obtain⟨a,e⟩:=Fj (n:=s.heap.objs.size + 1) (cap r hr).2.1;have e':(envOfC q (aH st) s.heap.objs.size f (.ref c)).cells.lookup r.1=some a:=e;show _=some ((_:Option Addr).getD 0);rw[e'];rfl
 have hst':∃params body scope,i.st=.FunctionDef i.x params body [] none [] scope none i.x i.pos/\((params.defaults=[]/\i.dd=[])\/∃n a p,params.defaults=[.Constant (.int n) a p]/\i.dd=[n]/\cV caps (envOfC q (aH st) s.heap.objs.size f (.ref c))≠ [])/\params.kw_defaults=[]/\params.kwonlyargs=[]/\annTrees params none (envOfC q (aH st) s.heap.objs.size f (.ref c))=[]:=by
  obtain⟨p,b,sc,e1,e2,r⟩:=hst;refine⟨p,b,sc,e1,e2.imp id fun⟨n,a,p,z1,z2,z3⟩=>⟨n,a,p,z1,z2,fun z=>z3 ?_⟩,r⟩;unfold cV at z;exact xdO.mp z
 rcases hX with rfl |rfl
 ·exact⟨rfl,fun _=>rfl,hst',hq,rfl,tab,hd,bm,clo,by simp[cV],mD,cel,cap,nd,jx,jl,db,cd⟩
 ·exact⟨rfl,fun _=>rfl,hst',hq,rfl,tab,hd,bm,clo,by simp[cV],mD,cel,cap,nd,jx,jl,db,cd⟩
theorem Oi {A:Around}{outer:List PySem.Env}{s:Shared}{H:Hp}{E:XK}{nm:Str}{caps:List (Str×Nat)}{j:Nat}(tab:PySem.W.tabIn K nm=some (c,Pt))(hd:PySem.W.codeHdIn K c Pt=true)(bm:kE mg base)(nd:N.Nodup)
  (hst:∃params body scope,i.st=.FunctionDef i.x params body [] none [] scope none i.x i.pos/\((params.defaults=[]/\i.dd=[])\/∃n a p,params.defaults=[.Constant (.int n) a p]/\i.dd=[n]/\caps≠ [])/\params.kw_defaults=[]/\params.kwonlyargs=[]/\annTrees params none (envOfC q (aH st) s.heap.objs.size f (.ref c))=[]:=by first |exact⟨_,_,_,rfl,.inl ⟨rfl,rfl⟩,rfl,rfl,rfl⟩ |exact⟨_,_,_,rfl,.inr ⟨_,_,_,rfl,rfl,fun z=>nomatch z⟩,rfl,rfl,rfl⟩)
  (hq:qualnameIn (envOfC q (aH st) s.heap.objs.size f (.ref c)) i.x i.x=i.q:=by kernel_rfl)
  (clo:closureFor (aH i.st) (envOfC q (aH st) s.heap.objs.size f (.ref c))=pure (cV caps (envOfC q (aH st) s.heap.objs.size f (.ref c))):=by kernel_rfl)
  (mD:caps.map (·.1)=i.fr:=by rfl) (cap:∀p∈caps,N[p.2]? =some p.1/\LC st p.1/\p.2≠j:=by x_go) (jx:N[j]? =some i.x:=by rfl) (jl:LV st i.x:=by kernel_rfl)
  (db:(i.x==("__debug__":Str))=false:=by x_go) (cd:(i.x==("__classdict__":Str))=false:=by x_go):
  MkOk (nj P w K mg base N q st f (.ref c) A outer s H E) nm i caps (cV caps (envOfC q (aH st) s.heap.objs.size f (.ref c))) c Pt j:=Wy (.inr rfl) tab hd bm nd hst hq clo mD cap jx jl db cd
theorem aR.okM (F:aR K x st)(X:K.In h)(G:h.Ns mainGlobals mg)(S:FnScope N ps (aH st))(ht:PySem.W.tabIn K x=some (c,Pt))(hr:∀f,Dz P w K mg base k f N x st b c)
  (hb:HB x st ps:=by first |exact zJ rfl |exact Dk rfl |exact Dl rfl |exact Dm rfl |exact Dp rfl) (hp:ps.length<=N.length:=by decide):aV P w K mg base (k + 1) x ps.length (bI N.length b):=by
 obtain⟨f,d,D⟩:=F.at X G hb;exact UJ D.F S hp D.mg D.b ht (hr f)
theorem Q7 {N ps fr:List Str}{sc:Scope}(h1:sc.kind=.function:=by rfl)(h2:sc.isCoroutine=false:=by rfl)(h3:sc.isGenerator=false:=by rfl)(h4:N.Nodup:=by x_go)(h5:N.take ps.length=ps:=by rfl)(h6:N.drop (N.length - fr.length)=fr:=by rfl)(h7:ps.length + fr.length<=N.length:=by decide)
  (h8:∀x∈ps,sc.names.lookup x=some .local:=by x_go) (h9:∀x∈fr,sc.names.lookup x=some .free:=by x_go) (h10:∀y∈sc.names,y.2=.free->y.1∈fr:=by x_go) (h11:∀y∈sc.names,y.2≠ .cell:=by x_go):FnScopeC N ps fr sc:=⟨h1,h2,h3,h4,h5,h6,h7,h8,h9,h10,h11⟩
theorem mR.of {n:Nat}{dn:List Int}(hl:n + dn.length=ps.length)(hd:i.dd=[])(h:dn=[]/\∀(s:Shared) (mgv:Value) (cl:List (Str×Addr)) (doc ctv cd:Value) (us:List Value),us.length=ps.length->BindsTo s (PySem.W.fnX i.x i.q (cM i.st) (bK i.st) (aH i.st) cl .none .none doc mgv none cd ctv) ⟨us,[]⟩ (ps.zip us)):mR i ps n dn:=
 ⟨hl,fun H s mgv cl dV doc ctv cd us hu hD hH=>by
  obtain⟨rfl,h⟩:=h;rcases hD with⟨_,rfl⟩ |⟨z,_⟩
  ·exact⟨[],.nil,by rw[xax];exact h s mgv cl doc ctv cd us (by rw[hu, <-hl];rfl)⟩
  ·exact absurd hd z⟩
theorem mR.dfl {n:Nat}{dn:List Int}{z:Int}(hl:n + dn.length=ps.length)(hd:i.dd=[z])
    (h:∀(s:Shared) (mgv:Value) (cl:List (Str×Addr)) (td:Addr) (doc ctv cd:Value) (us:List Value) (o:Obj) (m t:Nat),us.length=n->s.heap.get? td=some o->o.data=.seq #[.int z t] m->∃us',Vals (dn.map V.int) us'/\BindsTo s (PySem.W.fnX i.x i.q (cM i.st) (bK i.st) (aH i.st) cl (.ref td) .none doc mgv none cd ctv) ⟨us,[]⟩ (ps.zip (us ++ us'))):mR i ps n dn:=
  ⟨hl,fun H s mgv cl dV doc ctv cd us hu hD hH=>by
    rcases hD with⟨e,_⟩ |⟨_,td,o,its,m,rfl,g,ed,r⟩
    · rw[hd]at e;cases e
    · rw[hd]at r;obtain⟨t,rfl⟩:∃t,its= #[.int z t]:=by
        rcases its with⟨l⟩;have r:Vals [V.int z] l:=r
        cases r with
        |cons a b=>
          cases b;obtain⟨t,rfl⟩:=a;exact⟨t,rfl⟩
      exact h s mgv cl td doc ctv cd us o m t hu (hH td o _ g) ed⟩
theorem Dq {a0:Str}(hd:i.dd=[])(h:∀{mgv:Value} {cl:List (Str×Addr)} {doc ctv cd u0:Value},bindArgs (PySem.W.fnX i.x i.q (cM i.st) (bK i.st) (aH i.st) cl .none .none doc mgv none cd ctv) ⟨[u0],[]⟩=pure [(a0,u0)]):mR i [a0] 1 []:=
 .of rfl hd ⟨rfl,fun _ _ _ _ _ _ us hl=>match us,hl with | [_],_=>.of_eq h⟩
theorem Dr {a0 a1:Str}(hd:i.dd=[])(h:∀{mgv:Value} {cl:List (Str×Addr)} {doc ctv cd u0 u1:Value},bindArgs (PySem.W.fnX i.x i.q (cM i.st) (bK i.st) (aH i.st) cl .none .none doc mgv none cd ctv) ⟨[u0,u1],[]⟩=pure [(a0,u0),(a1,u1)]):mR i [a0,a1] 2 []:=
 .of rfl hd ⟨rfl,fun _ _ _ _ _ _ us hl=>match us,hl with | [_,_],_=>.of_eq h⟩
theorem Ds {a0 a1 a2:Str}{z:Int}(hd:i.dd=[z])(h:∀{s:Shared} {mgv:Value} {cl:List (Str×Addr)} {td:Addr} {doc ctv cd u0 u1 u2:Value} {o:Obj} {m t:Nat},s.heap.get? td=some o->o.data=.seq #[.int z t] m->BindsTo s (PySem.W.fnX i.x i.q (cM i.st) (bK i.st) (aH i.st) cl (.ref td) .none doc mgv none cd ctv) ⟨[u0,u1,u2],[]⟩ [(a0,u0),(a1,u1),(a2,u2)]):mR i [a0,a1,a2] 3 []:=
 .dfl rfl hd fun _ _ _ _ _ _ _ us _ _ _ hl g e=>match us,hl with | [_,_,_],_=>⟨[],.nil,h g e⟩
theorem tM.ok (S:FnScopeC N ps i.fr (aH i.st))(hb:tM P w K mg base k N b i)(hp:mR i ps ps.length []:=by first |exact Dq rfl rfl |exact Dr rfl rfl |exact Ds rfl fun h₁ h₂=>BindsTo.of_defaults rfl h₁ h₂ rfl rfl):gK P w K mg base (k + 1) i ps.length (lM ps.length N.length b):=UL S hp (fun ds cs M _=>by rw[List.map_nil,xax]) hb
theorem gK.up {j n:Nat}{g:G}(a:gK P w K mg base j i n g)(h:j<=k:=by decide):gK P w K mg base k i n g:=a.mono h
end
noncomputable def pF (K:Fgx) (x:Str):Bool:=match PySem.W.tabIn K x with
 |some (c,P)=>PySem.W.codeHdIn K c P
 |none=>false
theorem RX {K:Fgx}{x:Str}(h:pF K x=true):∃c P,PySem.W.tabIn K x=some (c,P)/\PySem.W.codeHdIn K c P=true:=by
 unfold pF at h;split at h
 ·exact⟨_,_,by assumption,h⟩
 ·cases h
section
variable {env:Env}{M:Mm}{kt n np:Nat}{nm:Str}{i:FnT}{caps:List (Str×Nat)}{cs:List (Str×D)}{b:S}{ds:List D}
theorem xZ (h1:M[kt]? =some (.tbl nm i))(h2:gR env caps=some cs):fJ kt nm i caps env M=some (.rt (.ref M.length),M ++ [.fn i cs]):=by
 unfold fJ;simp only[h1,and_self,xba,h2,xaT]
theorem Lq {g:G}{f:E}{fs:EA}{M1 M2 M3:Mm}{k:Nat}{fc:List (Str×D)}{z:D}(h1:f env M=some (.v (.ref k),M1))(h2:M1[k]? =some (.fn i fc))(h3:fs env M1=some (.v ds,M2))(h4:g (ds ++ fc.map (·.2)) M2=some (.v z,M3)):nY i g f fs env M=some (.v z,M3):=by
 unfold nY bnd;simp only[h1,h2,xba,cD,h3,h4]
end
end E3
namespace L2
open PySem PySem.Spec PyProof.Rows
end L2
namespace E3
open PySem PySem.Spec PyProof.Rows L2
end E3
namespace L2
open PySem PySem.Spec PyProof.Rows
section
variable {prog:Program}{w:World}{A:Around}{E:Value->Shared->Prop}{s:Shared}{z P O j1 j2 l t:Addr}
theorem za2 {n m:Nat}{us vs:Array Value}{u v a b:Value}{Q:Value->Shared->Prop}(D:ZipApart z P O j1 j2 l t)
  (e0:IsZip s.heap z P O .none) (eP:IsPair s.heap P (.ref j1) (.ref j2)) (eO:IsPair s.heap O a b) (c1:s.heap.IsListIter j1 l n) (c2:s.heap.IsListIter j2 t m) (d1:s.heap.IsList l us) (d2:s.heap.IsList t vs) (eu:us[n]? =some u) (ev:vs[m]? =some v)
  (q:∀h',IsZip h' z P O (rawInt s.heap.objs.size)->IsPair h' O u v->h'.IsListIter j1 l (n + 1)->h'.IsListIter j2 t (m + 1)->IsPair h' s.heap.objs.size u v->
   (∀c o,c≠z->c≠O->c≠j1->c≠j2->s.heap.get? c=some o->h'.get? c=some o)->Q (.ref s.heap.objs.size) {s with heap:=h'}):
  wpAny (model prog w) A (Builtin.«zip.__next__» ⟨[.ref z],[]⟩) (fun fin s'=>∃r,fin=.done (.ret r)/\Q r s') E s:=by
 show wpAny _ _ (field (.ref z) 2 >>=_) _ _ _;refine tG (xaD e0 rfl (x:=.bool false) rfl ?_);show wpAny _ _ (field (.ref z) 3 >>=_) _ _ _;refine tG (xaD e0 rfl (x:=.ref P) rfl ?_);refine tG (xb3 eP rfl ?_);show wpAny _ _ (Builtin.SmallTypes.ownedTupleIsFree (.ref z) >>=_) _ _ _;refine tG ?_;unfold Builtin.SmallTypes.ownedTupleIsFree;refine tG (xaD e0 rfl (x:=.none) rfl (xac ?_));simp only[xba];refine tG (wpAny_rule ?_);refine tG (xaD e0 rfl (x:=.ref O) rfl ?_);refine tG (xbz e0 (by simp) fun g1 k1 s1=>?_);have k1':IsZip g1 z P O .ellipsis:=k1;refine tG ?_;simp only[List.zipIdx_cons,List.zipIdx_nil,xdv,List.forIn_nil];refine tG (tG (xc8 ?_));show wpAny _ _ (Builtin.SmallTypes.nextOf (.ref j1) >>=_) _ _ _;refine tG (xcs (c1.extBut s1.extBut D.i1z) (d1.extBut s1.extBut D.l1z) eu fun g2 i1 s2=>xac ?_);have o2:IsPair g2 O a b:=s2.extBut _ _ D.TOi1 (s1.extBut _ _ D.TOz eO);refine tG (xb3 o2 rfl ?_);refine tG (xcL o2 fun g3 o3 s3=>?_);have o3':IsPair g3 O u b:=o3;refine tG (wpAny_letGo (xac ?_));refine tG (tG (xc8 ?_));show wpAny _ _ (Builtin.SmallTypes.nextOf (.ref j2) >>=_) _ _ _;refine tG (xcs (((c2.extBut s1.extBut D.i2z).extBut s2.extBut D.i12.symm).extBut s3.extBut D.TOi2.symm) (((d2.extBut s1.extBut D.l2z).extBut s2.extBut D.l2i1).extBut s3.extBut D.l2TO) ev fun g4 i2 s4=>xac ?_);have o4:IsPair g4 O u b:=s4.extBut _ _ D.TOi2 o3';refine tG (xb3 o4 rfl ?_);refine tG (xcL o4 fun g5 o5 s5=>?_);have o5':IsPair g5 O u v:=o5;refine tG (wpAny_letGo (xac (xac ?_)));refine tG (xb3 o5' rfl ?_);refine tG (xdC ?_);have hsz:g5.objs.size=s.heap.objs.size:=by rw[s5.1,s4.1,s3.1,s2.1,s1.1]
 have z5:IsZip g5 z P O .ellipsis:=s5.extBut _ _ D.TOz.symm (s4.extBut _ _ D.i2z.symm (s3.extBut _ _ D.TOz.symm (s2.extBut _ _ D.i1z.symm k1')));have kp:∀c o,c≠z->c≠O->c≠j1->c≠j2->s.heap.get? c=some o->g5.get? c=some o:=fun c o n1 n2 n3 n4 e=>s5.extBut _ _ n2 (s4.extBut _ _ n4 (s3.extBut _ _ n2 (s2.extBut _ _ n3 (s1.extBut _ _ n1 e))));have i1':g5.IsListIter j1 l (n + 1):=((i1.extBut s3.extBut D.TOi1.symm).extBut s4.extBut D.i12).extBut s5.extBut D.TOi1.symm;have i2':g5.IsListIter j2 t (m + 1):=i2.extBut s5.extBut D.TOi2.symm;have zlt:z<g5.objs.size:=xaj z5;show wpAny _ _ (Builtin.SmallTypes.ownedTupleHandOut (.ref z) (.ref g5.objs.size) >>=_) _ _ _;refine tG ?_;unfold Builtin.SmallTypes.ownedTupleHandOut;have z6:IsZip (g5.push {cls:=.type "tuple",data:=.seq #[u,v]}) z P O .ellipsis:=xaa _ z5;refine tG (xbz z6 (by simp) fun g7 z7 s7=>?_);have z7':IsZip g7 z P O (rawInt g5.objs.size):=z7;refine xbz z7' (by simp) fun g8 z8 s8=>?_;have z8':IsZip g8 z P O (rawInt g5.objs.size):=z8;have up:∀c o,c≠z->g5.get? c=some o->g8.get? c=some o:=fun c o n1 e=>s8.extBut _ _ n1 (s7.extBut _ _ n1 (xaa _ e));have t8:IsPair g8 g5.objs.size u v:=s8.extBut _ _ (xbV zlt) (s7.extBut _ _ (xbV zlt) (xal _ rfl));rw[hsz]at z8' t8;refine xac ⟨_,rfl,?_⟩;show Q (.ref g5.objs.size) _;rw[hsz];exact q g8 z8' (up _ _ D.TOz o5') (i1'.at fun o e=>up _ o D.i1z e) (i2'.at fun o e=>up _ o D.i2z e) t8 fun c o n1 n2 n3 n4 e=>up c o n1 (kp c o n1 n2 n3 n4 e)
theorem zbG {n m:Nat}{us vs:Array Value}{a b:Value}{Q:Fin->Shared->Prop}(hh:A.handled=none)(D:ZipApart z P O j1 j2 l t)
    (e0:IsZip s.heap z P O .none) (eP:IsPair s.heap P (.ref j1) (.ref j2)) (eO:IsPair s.heap O a b) (c1:s.heap.IsListIter j1 l n) (c2:s.heap.IsListIter j2 t m) (d1:s.heap.IsList l us) (d2:s.heap.IsList t vs) (hend:us[n]? =none\/vs[m]? =none)
    (q:∀h' x,(∀c o,c≠z->c≠O->c≠j1->c≠j2->s.heap.get? c=some o->h'.get? c=some o)->(∃o,h'.get? x=some o/\o.cls=.type "StopIteration")->E (.ref x) {s with heap:=h'}):
    wpAny (model prog w) A (Builtin.«zip.__next__» ⟨[.ref z],[]⟩) Q E s:=by
  show wpAny _ _ (field (.ref z) 2 >>=_) _ _ _;refine tG (xaD e0 rfl (x:=.bool false) rfl ?_);show wpAny _ _ (field (.ref z) 3 >>=_) _ _ _;refine tG (xaD e0 rfl (x:=.ref P) rfl ?_);refine tG (xb3 eP rfl ?_);show wpAny _ _ (Builtin.SmallTypes.ownedTupleIsFree (.ref z) >>=_) _ _ _;refine tG ?_;unfold Builtin.SmallTypes.ownedTupleIsFree;refine tG (xaD e0 rfl (x:=.none) rfl (xac ?_));simp only[xba];refine tG (wpAny_rule ?_);refine tG (xaD e0 rfl (x:=.ref O) rfl ?_);refine tG (xbz e0 (by simp) fun g1 k1 s1=>?_);have k1':IsZip g1 z P O .ellipsis:=k1;refine tG ?_;simp only[List.zipIdx_cons,List.zipIdx_nil,xdv,List.forIn_nil];refine tG (tG (xc8 ?_));show wpAny _ _ (Builtin.SmallTypes.nextOf (.ref j1) >>=_) _ _ _
  cases eu:us[n]? with
  |none=>
    refine tG (wpAny_nextOf_list_end hh (c1.extBut s1.extBut D.i1z) (d1.extBut s1.extBut D.l1z) eu fun g2 x s2 hx=>?_);obtain⟨ox,h1,h2⟩:=hx;have z2:IsZip g2 z P O .ellipsis:=s2 _ _ D.i1z.symm k1';have hez:x≠z:=fun y=>by subst y;rw[z2]at h1;cases h1;simp at h2
    refine xbz z2 (by simp) fun g3 _ s3=>q g3 x (fun c o n1 _ n3 _ y=>s3.extBut _ _ n1 (s2 _ _ n3 (s1.extBut _ _ n1 y))) ⟨ox,s3.extBut _ _ hez h1,h2⟩
  |some u=>
    have ev:vs[m]? =none:=by rcases hend with h |h;rw[eu]at h;cases h;exact h
    refine tG (xcs (c1.extBut s1.extBut D.i1z) (d1.extBut s1.extBut D.l1z) eu fun g2 i1 s2=>xac ?_);have o2:IsPair g2 O a b:=s2.extBut _ _ D.TOi1 (s1.extBut _ _ D.TOz eO);refine tG (xb3 o2 rfl ?_);refine tG (xcL o2 fun g3 o3 s3=>?_);refine tG (wpAny_letGo (xac ?_));refine tG (tG (xc8 ?_));show wpAny _ _ (Builtin.SmallTypes.nextOf (.ref j2) >>=_) _ _ _;refine tG (wpAny_nextOf_list_end hh (((c2.extBut s1.extBut D.i2z).extBut s2.extBut D.i12.symm).extBut s3.extBut D.TOi2.symm) (((d2.extBut s1.extBut D.l2z).extBut s2.extBut D.l2i1).extBut s3.extBut D.l2TO) ev fun g4 x s4 hx=>?_);obtain⟨ox,h1,h2⟩:=hx;have z4:IsZip g4 z P O .ellipsis:=s4 _ _ D.i2z.symm (s3.extBut _ _ D.TOz.symm (s2.extBut _ _ D.i1z.symm k1'));have hez:x≠z:=fun y=>by subst y;rw[z4]at h1;cases h1;simp at h2
    refine xbz z4 (by simp) fun g5 _ s5=>q g5 x (fun c o n1 n2 n3 n4 y=>s5.extBut _ _ n1 (s4 _ _ n4 (s3.extBut _ _ n2 (s2.extBut _ _ n3 (s1.extBut _ _ n1 y))))) ⟨ox,s5.extBut _ _ hez h1,h2⟩
abbrev Df (h:Heap)(l:Addr):Heap:=h.push {cls:=.type "list_iterator",data:=.fields #[.ref l,.int 0 0]}
abbrev Dg (h:Heap)(l t:Addr):Heap:=(Df h l).push {cls:=.type "list_iterator",data:=.fields #[.ref t,.int 0 0]}
abbrev Dh (h:Heap)(l t:Addr):Heap:=(Dg h l t).push {cls:=.type "tuple",data:=.seq #[.ref h.objs.size,.ref (Df h l).objs.size]}
abbrev Di (h:Heap)(l t:Addr):Heap:=(Dh h l t).push {cls:=.type "tuple",data:=.seq #[.none,.none]}
abbrev vY (h:Heap)(l t:Addr):Heap:=(Di h l t).push {cls:=.type "zip",data:=.fields #[.none,.bool false,.bool false,.ref (Dg h l t).objs.size,.ref (Dh h l t).objs.size]}
end
theorem Wu (l t:Addr)(us vs:Array Value):
  Meets (Builtin.«zip.__new__» ⟨[.type "zip",.ref l,.ref t],[]⟩) (fun _ R s=>s.heap.IsList l us/\s.heap.IsList t vs/\R (.ok (.ret (.ref (Di s.heap l t).objs.size))) {s with heap:=vY s.heap l t}):=
 .of_wp fun prog w A R s h=>by
  obtain⟨hp,g,d,tk,os⟩:=s;obtain⟨a1,a2,h⟩:=h;have hsub:=sub_zip;have b1:Heap.IsList (Shared.heap ⟨hp,g,d,tk,os⟩) l us:=a1;have b2:Heap.IsList (Shared.heap ⟨hp.push {cls:=.type "list_iterator",data:=.fields #[.ref l,.int 0 0]},g,d,tk,os⟩) t vs:=Heap.IsList.push a2 _
  wp_walk using xco b1,xco b2
  exact⟨_,rfl,h⟩
theorem TX {prog:Program}{w:World}{A:Around}{E:Value->Shared->Prop}{s:Shared}{l t:Addr}{us vs:Array Value}{Q:Value->Shared->Prop}(a1:s.heap.IsList l us)(a2:s.heap.IsList t vs)
  (q:∀h',IsZip h' (s.heap.objs.size + 4) (s.heap.objs.size + 2) (s.heap.objs.size + 3) .none->IsPair h' (s.heap.objs.size + 2) (.ref s.heap.objs.size) (.ref (s.heap.objs.size + 1))->IsPair h' (s.heap.objs.size + 3) .none .none->
   h'.IsListIter s.heap.objs.size l 0->h'.IsListIter (s.heap.objs.size + 1) t 0->(∀c o,s.heap.get? c=some o->h'.get? c=some o)->Q (.ref (s.heap.objs.size + 4)) {s with heap:=h'}):
  wpAny (model prog w) A (call (.type "zip") [.ref l,.ref t]) Q E s:=by
 refine callType_new F.called_zip (by decide) (F.typeCall_zip_2 _ _) (F.newCall_zip_2 _ _) (fun ob=>F.args_object_init_3 ob _ _) F.entry_zip_new (Wu l t us vs) ⟨a1,a2,?_⟩;have z1:(Df s.heap l).objs.size=s.heap.objs.size + 1:=xa9 ..;have z2:(Dg s.heap l t).objs.size=s.heap.objs.size + 2:=by rw[xa9,z1]
 have z3:(Dh s.heap l t).objs.size=s.heap.objs.size + 3:=by rw[xa9,z2]
 have z4:(Di s.heap l t).objs.size=s.heap.objs.size + 4:=by rw[xa9,z3]
 have g5:(vY s.heap l t).get? (Di s.heap l t).objs.size=some _:=xal _ rfl;have g4:(vY s.heap l t).get? (Dh s.heap l t).objs.size=some _:=xaa _ (xal _ rfl);have g3:(vY s.heap l t).get? (Dg s.heap l t).objs.size=some _:=xaa _ (xaa _ (xal _ rfl));have g2:(vY s.heap l t).get? (Df s.heap l).objs.size=some _:=xaa _ (xaa _ (xaa _ (xal _ rfl)));have g1:(vY s.heap l t).get? s.heap.objs.size=some _:=xaa _ (xaa _ (xaa _ (xaa _ (xal _ rfl))));show _/\_;rw[z2,z3,z4]at g5;rw[z1,z2]at g3;rw[z3]at g4;rw[z1]at g2;rw[z4];exact⟨⟨_,g5,rfl⟩,q _ g5 g3 g4 ⟨_,g1,rfl,rfl⟩ ⟨_,g2,rfl,rfl⟩ fun c o x=>xaa _ (xaa _ (xaa _ (xaa _ (xaa _ x))))⟩
noncomputable def wu (K:Fgx) (a b:Addr):It:=
 ⟨fun i H=>∃xs ys x y,bF K H a xs/\bF K H b ys/\xs[i]? =some x/\ys[i]? =some y,fun i H x H'=>∃p u v,H p=none/\x=.ref p/\H'=upd H p (.tup [u,v])/\(∀xs,bF K H a xs->xs[i]? =some u)/\∀ys,bF K H b ys->ys[i]? =some v,
  fun i H=>∃xs ys,bF K H a xs/\bF K H b ys/\(xs[i]? =none\/ys[i]? =none)⟩
theorem La {h:Heap}{z P O j1 j2 a b:Addr}{i:Nat}{us vs:Array Value}(n:z=O + 1/\O=P + 1/\P=j2 + 1/\j2=j1 + 1)(e0:IsZip h z P O .none)(eO:∃x y,IsPair h O x y/\a≠O/\b≠O)(c1:h.IsListIter j1 a i)(c2:h.IsListIter j2 b i)(d1:h.IsList a us)(d2:h.IsList b vs):ZipApart z P O j1 j2 a b:=by
 obtain⟨o1,x1,y1,_⟩:=c1;obtain⟨o2,x2,y2,_⟩:=c2;obtain⟨o3,x3,y3,_⟩:=d1;obtain⟨o4,x4,y4,_⟩:=d2;obtain⟨_,_,_,na,nb⟩:=eO;have n1: @Eq Nat z (O + 1):=n.1;have n2: @Eq Nat O (P + 1):=n.2.1;have n3: @Eq Nat P (j2 + 1):=n.2.2.1;have n4: @Eq Nat j2 (j1 + 1):=n.2.2.2;have ne:∀x y:Nat,(x<y\/y<x)->x≠y:=fun x y h=>by omega
 refine⟨ne _ _ (by omega),ne _ _ (by omega),ne _ _ (by omega),ne _ _ (by omega),ne _ _ (by omega),ne _ _ (by omega),ne _ _ (by omega),ne _ _ (by omega),ne _ _ (by omega),ne _ _ (by omega),?_,na,?_,?_,?_,nb,?_,?_⟩
 ·intro y;rw[y,e0]at x3;cases x3;simp at y3
 ·intro y;rw[y,x1]at x3;cases x3;rw[y1]at y3;simp at y3
 ·intro y;rw[y,x2]at x3;cases x3;rw[y2]at y3;simp at y3
 ·intro y;rw[y,e0]at x4;cases x4;simp at y4
 ·intro y;rw[y,x1]at x4;cases x4;rw[y1]at y4;simp at y4
 ·intro y;rw[y,x2]at x4;cases x4;rw[y2]at y4;simp at y4
theorem zaZ {P':Program}{w:World}{K:Fgx}{es:List Expr}{k:Nat}{pos:Pos}(a b z P O j1 j2:Addr)(n:z=O + 1/\O=P + 1/\P=j2 + 1/\j2=j1 + 1)(na:a≠O/\b≠O):
  Turn P' w K (.Tuple es k pos) (wu K a b) [z,P,O,j1,j2] z (fun i h=>IsZip h z P O .none/\IsPair h P (.ref j1) (.ref j2)/\(∃x y,IsPair h O x y)/\h.IsListIter j1 a i/\h.IsListIter j2 b i) where
 mem:=by simp
 obj:=fun i h st c hc=>by
  obtain⟨e0,eP,⟨x,y,eO⟩,⟨o1,x1,y1,w1⟩,o2,x2,y2,w2⟩:=st;simp only[xav,xbj,xcz]at hc;rcases hc with rfl |rfl |rfl |rfl |rfl
  ·exact⟨_,e0,fun v y=>by cases y⟩
  ·exact⟨_,eP,fun v y=>by cases y⟩
  ·exact⟨_,eO,fun v y=>by cases y⟩
  ·exact⟨o1,x1,fun v y=>by rw[w1]at y;cases y⟩
  ·exact⟨o2,x2,fun v y=>by rw[w2]at y;cases y⟩
 keep:=fun i h h' st k=>by
  obtain⟨e0,eP,⟨x,y,eO⟩,c1,c2⟩:=st;exact⟨k _ (by simp) _ e0,k _ (by simp) _ eP,⟨x,y,k _ (by simp) _ eO⟩,c1.at fun o e=>k _ (by simp) o e,c2.at fun o e=>k _ (by simp) o e⟩
 item:=by
  intro X hP hw hK hc i pins s σ H E I hf st hg;subst hP hw hK;obtain⟨xs,ys,x,y,hq,hr,hx,hy⟩:=hg;obtain⟨its,rv,pl,hz⟩:=I.list hq;obtain⟨jts,rw',pt,hz'⟩:=I.list hr;obtain⟨u,hu,ru⟩:=rv.get hx;obtain⟨v,hv,rr⟩:=rw'.get hy;obtain⟨e0,eP,⟨p,q,eO⟩,c1,c2⟩:=st;have D:=La n e0 ⟨p,q,eO,na⟩ c1 c2 pl.isList pt.isList;have hT:s.TypeIs (.ref z) "zip":=⟨_,e0,rfl⟩;unfold pyNext;refine tG (xcw (xbs (name:=Str.ofString "__next__") hT xcM (xbi xcM hT F.entry_zip_next (za2 D e0 eP eO c1 c2 pl.isList pt.isList (u:=u) (v:=v) (by simpa using hu) (by simpa using hv) fun h' z1 o1 i1 i2 t1 kp=>?_) (F.args_zip_next_1 _))));refine xac ⟨_,rfl,wpAny_letOwnedTupleGo_zip z1 fun h2 z2 s2=>?_⟩;have hzs:z<s.heap.objs.size:=xaj e0;have kk:∀c o,c∉ [z,P,O,j1,j2]->s.heap.get? c=some o->h2.get? c=some o:=fun c o hc e=>by
   simp only[xav,xbj,xcz,not_or]at hc;exact s2.extBut _ _ hc.1 (kp c o hc.1 hc.2.2.1 hc.2.2.2.1 hc.2.2.2.2 e)
  have tT:h2.IsTuple s.heap.objs.size #[u,v]:=⟨_,s2.extBut _ _ (xbV hzs) t1,rfl,_,rfl⟩;have I2:Inv X pins σ (upd H s.heap.objs.size (.tup [x,y])) {s with heap:=h2,toks:=s.toks}:=I.turnLaid kk hf (xah _) ⟨by show 2<=sizeLine;decide,[u,v],.cons ru (.cons rr .nil),tT⟩;have nT:H s.heap.objs.size=none:=I.hok.fresh (xah _);have eP2:IsPair h2 P (.ref j1) (.ref j2):=s2.extBut _ _ D.TIz (kp _ _ D.TIz D.TITO D.TIi1 D.TIi2 eP);refine⟨.ref s.heap.objs.size,_,I2,rfl,⟨s.heap.objs.size,x,y,nT,rfl,rfl,fun zs hzs=>by rw[I.list_inj hzs hq];exact hx,fun zs hzs=>by rw[I.list_inj hzs hr];exact hy⟩,⟨z2,eP2,⟨u,v,s2.extBut _ _ D.TOz o1⟩,i1.at fun o e=>s2.extBut _ _ D.i1z e,i2.at fun o e=>s2.extBut _ _ D.i2z e⟩,fun c hc=>?_⟩;rw[aQ (fun y=>?_)]
  ·exact(hf c hc).1
  ·have n1: @Eq Nat z (O + 1):=n.1;have n2: @Eq Nat O (P + 1):=n.2.1;have n3: @Eq Nat P (j2 + 1):=n.2.2.1;have n4: @Eq Nat j2 (j1 + 1):=n.2.2.2;have y': @Eq Nat c s.heap.objs.size:=y;have hzs': @LT.lt Nat _ z s.heap.objs.size:=hzs;simp only[xav,xbj,xcz]at hc;rcases hc with rfl |rfl |rfl |rfl |rfl<;>omega
 done:=by
  intro X hP hw hK hc i pins s σ H E I hf st hg;subst hP hw hK;obtain⟨xs,ys,hq,hr,hend⟩:=hg;obtain⟨its,rv,pl,hz⟩:=I.list hq;obtain⟨jts,rw',pt,hz'⟩:=I.list hr;obtain⟨e0,eP,⟨p,q,eO⟩,c1,c2⟩:=st;have D:=La n e0 ⟨p,q,eO,na⟩ c1 c2 pl.isList pt.isList;have hT:s.TypeIs (.ref z) "zip":=⟨_,e0,rfl⟩;have hend':its.toArray[i]? =none\/jts.toArray[i]? =none:=by
   rcases hend with h |h
   ·left
    have:=xbF.mp h;rw[rv.length]at this
    simpa using this
   ·right
    have:=xbF.mp h;rw[rw'.length]at this
    simpa using this
  unfold pyNext;refine tG (xcw (xbs (name:=Str.ofString "__next__") hT xcM (xbi xcM hT F.entry_zip_next (zbG (show X.A.in1.handled=none from I.ok.hd hc) D e0 eP eO c1 c2 pl.isList pt.isList hend' fun h' x kp hx=>?_) (F.args_zip_next_1 _))));obtain⟨o,h1,h2⟩:=hx;refine tG (xdr (T:="StopIteration") (b:=true) ⟨o,h1,h2⟩ isSubtype_stop (xac ⟨rfl,?_⟩));refine I.turnedL (fp:=[z,P,O,j1,j2]) (t':=s.toks) (fun c o hc e=>?_) hf;simp only[xav,xbj,xcz,not_or]at hc;exact kp c o hc.1 hc.2.2.1 hc.2.2.2.1 hc.2.2.2.2 e
 self:=fun _ i s _ _ st h=>wpAny_pyIter_zip st.1 h
section
variable {X:Cx}{es:List Expr}{k:Nat}{tpos:Pos}
noncomputable def Vl (K:Fgx) (ta:TA):TI:=fun σ H R=>ta σ H fun vs H1=>∃a b xs ys,vs=[.ref a,.ref b]/\bF K H1 a xs/\bF K H1 b ys/\R (wu K a b) H1
theorem Zv {a b:Expr}{ta:TA}{p pos:Pos}(hg:Gl X "zip")(hm:X.mg "zip"=none)(ha:PA X [a,b] ta)(hs:starEach [a,b] X.env=(false,eval a X.env)::starEach [b] X.env)(hp:(backTo pos (starEach [b] X.env)).any (·.1)=false):PI X (.Tuple es k tpos) (.Call (.Name "zip" p) [a,b] [] pos) (Vl X.K ta):=by
 intro pins s σ H R I h;refine Call_ (rW I hg hm boot_zip (xbe (aN (ha pos pins s σ H _ I h) fun us s1 ⟨vs,H1,I1,r1,q1⟩=>?_) hs hp));obtain⟨c,d,xs,ys,e,hq,hr,q⟩:=q1;subst e;obtain⟨u,v,e,ru,rv'⟩:=vals2 r1;subst e;cases ru;cases rv';obtain⟨its,rv,pl,hz⟩:=I1.list hq;obtain⟨jts,rw',pt,hz'⟩:=I1.list hr;refine TX pl.isList pt.isList fun h' e0 eP eO c1 c2 kp=>?_;refine wpAny_pyIter_zip e0 ?_;have lc:c<s1.heap.objs.size:=by obtain⟨o,e,_⟩:=pl.isList;exact xaj e
 have ld:d<s1.heap.objs.size:=by obtain⟨o,e,_⟩:=pt.isList;exact xaj e
 refine ⟨s1.heap.objs.size + 4,[s1.heap.objs.size + 4,s1.heap.objs.size + 2,s1.heap.objs.size + 3,s1.heap.objs.size,s1.heap.objs.size + 1],_,_,H1,rfl,I1.kept (t':=s1.toks) kp,
  zaZ c d _ _ _ _ _ ⟨rfl,rfl,rfl,rfl⟩ ⟨xaq (xaf lc (xbJ _ _)),xaq (xaf ld (xbJ _ _))⟩,⟨e0,eP,⟨_,_,eO⟩,c1,c2⟩,fun x hx=>?_,q⟩
 have hx':s1.heap.objs.size<=x:=by
  simp only[xav,xbj,xcz]at hx;rcases hx with rfl |rfl |rfl |rfl |rfl<;>first |exact xah _ |exact xbJ _ _
 exact I1.fpOk hx' (I1.hok.fresh hx')
end
end L2
namespace E3
open PySem PySem.Spec PyProof.Rows L2
section
variable {X:Cx}{Wx:XW}{pos:Pos}
noncomputable def yO (is:List Nat) (fs:EA) (body:S):S:=fun env M=>match fs env M with
 |some (.v [.lst ds,.lst es],M1)=>eF is body ((ds.zip es).map fun p=>.tup [p.1,p.2]) env M1
 |some (.x c n,M1)=>some (.ex c n,M1)
 |_=>none
theorem zbc {ts:List Expr}{is:List Nat}{a a2:Expr}{body:List Stmt}{fs:EA}{b:S}{n:Nat}{p tp q:Pos}(hp:PassesOwn (model X.prog X.w) X.A X.env X.xe)(hc:X.calm=true)(hG:SG X ts is)(hg:Gl X "zip")(hm:X.mg "zip"=none)(ha:SA X Wx .val [a,a2] fs)(hb:SB X Wx body b)
    (hn:(assignEach ts X.env).length=2:=by rfl) (hst:(assignEach ts X.env).findIdx? (·.1)=none:=by rfl) (hs:starEach [a,a2] X.env=(false,eval a X.env)::starEach [a2] X.env:=by rfl) (hpl:(backTo q (starEach [a2] X.env)).any (·.1)=false:=by rfl)
    (hfs:∀x,foldedSetIterable (.Call (.Name "zip" p) [a,a2] [] q) X.env x=pure x:=by intro _;rfl):
    SS X Wx (.For (.Tuple ts n tp) (.Call (.Name "zip" p) [a,a2] [] q) body [] pos) (yO is fs b):=by
  obtain⟨t,hpg,ht⟩:=hG;refine gD (Iz hp hc (Zv hg hm ha hs hpl) (O5 (n:=2) hc hpg hn hst) hb hfs) ?_;rintro D st H ⟨P0,H0,P,Os,env,M,out,M',k,e,q⟩;unfold yO at e;split at e
  · rename_i ds es M1 ef;refine⟨P0,H0,P,Os,env,M,_,_,k,ef,fun P1 vs H1 l1 h1 i1=>?_⟩;obtain⟨v,ws,rfl,i1,v2,ws2,rfl,i2,rfl⟩:=i1;obtain⟨a,us,rfl,ra,is1⟩:=i1;obtain⟨a2,us2,rfl,rt,is2⟩:=i2;refine⟨a,a2,us,us2,rfl,ra.imp (·.2) id,rt.imp (·.2) id,?_⟩;have k1:=k.next l1 h1
    have q1:=q.lt (l1.lt k.hk);generalize hz:((ds.zip es).map fun p=>E3.D.tup [p.1,p.2])=zs at e;have zl:zs.length=min ds.length es.length:=by rw[<-hz,xar,List.length_zip]
    refine⟨fun j m σ H=>m=zs.length - j/\j<=zs.length/\∃P Os' M2 env',Lt P1 H1 P H/\Ok X.K X.mg P0 H0 P Os' H M2 σ env'/\eF is b (zs.drop j) env' M2=some (out,M'),⟨zs.length,by simp,xa8 _,P1,Os,M1,env,Lt.refl _ _,k1,e⟩,?_⟩;rintro j m σ H2 ⟨rfl,hj,P2,Os',M2,env',lt,k',h'⟩;have ra2:=lt.rda ra;have rt2:bF X.K H2 a2 us2:=(lt.rda rt).imp (·.2) id;have iA:=aC.lt lt is1;have iB:=aC.lt lt is2;have sq:bF X.K H2 a us:=ra2.imp (·.2) id
    by_cases hlt:j<zs.length
    · have h1':j<ds.length:=by omega
      have h2':j<es.length:=by omega
      obtain⟨w,ew,iw⟩:=aC.get iA (xag h1');obtain⟨w2,ew2,iw2⟩:=aC.get iB (xag h2');refine .inr ⟨⟨us,us2,w,w2,sq,rt2,ew,ew2⟩,fun σ' H'=>∃P Os' M2 env',Lt P1 H1 P H'/\Ok X.K X.mg P0 H0 P Os' H' M2 σ' env'/\eF is b (zs.drop (j + 1)) env' M2=some (out,M'),fun σ' H' z=>⟨zs.length - (j + 1),by omega,rfl,hlt,z⟩,fun x H3 y=>?_⟩;obtain⟨pp,v,v2,hpp,rfl,rfl,hv,hv2⟩:=y;have hv':=hv us sq;rw[ew]at hv';cases hv';have hv2':=hv2 us2 rt2;rw[ew2]at hv2';cases hv2';have ez:zs[j]=E3.D.tup [ds[j],es[j]]:=by simp only[<-hz,List.getElem_map,List.getElem_zip]
      rw[xa6 hlt,ez]at h';simp only[eF]at h';have sm:Same H2 (upd H2 pp (.tup [w,w2])):=o_ hpp;have l3:LtE P2 H2 P2 (upd H2 pp (.tup [w,w2])):=LtE.same sm;have h3:=k'.hk.same sm;have k3:=k'.next l3 h3
      have lt3:=lt.trans (l3.lt k'.hk);split at h'
      · rename_i env1 ee;unfold kj at ee;dsimp only at ee;split at ee
        · have isx:aC X.K P2 (upd H2 pp (.tup [w,w2])) [ds[j],es[j]] [w,w2]:=⟨w,[w2],rfl,Is.lt (l3.lt k'.hk) iw,w2,[],rfl,Is.lt (l3.lt k'.hk) iw2,rfl⟩;refine⟨pp,[w,w2],rfl,.inl (.inl bR),rfl,ht _ _ _ _ _ _ _ _ _ _ _ _ k3 isx ee fun Os2 st2 k4=>?_⟩;split at h'
          · rename_i e4 M4 eb;exact⟨P0,H0,P2,_,_,M2,_,_,k4,eb,fun P' Os2 H2 st2 l2 k5=>⟨P',Os2,_,e4,lt3.trans l2,k5,h'⟩⟩
          · rename_i e4 M4 eb;exact⟨P0,H0,P2,_,_,M2,_,_,k4,eb,fun P' Os2 H2 st2 l2 k5=>⟨P',Os2,_,e4,lt3.trans l2,k5,h'⟩⟩
          · rename_i e4 M4 eb;cases h';exact⟨P0,H0,P2,_,_,M2,_,_,k4,eb,fun P' Os2 H2 st2 l2 k5=>q1 P' Os2 H2 st2 (lt3.trans l2) k5⟩
          · rename_i d4 M4 eb;cases h';exact⟨P0,H0,P2,_,_,M2,_,_,k4,eb,q1⟩
          · rename_i c4 n4 M4 eb;cases h';exact⟨P0,H0,P2,_,_,M2,_,_,k4,eb,q1⟩
          · cases h'
        · cases ee
      · cases h'
    · have ej:j=zs.length:=by omega
      subst ej;rw[xbI]at h';cases h';refine .inl ⟨⟨us,us2,sq,rt2,?_⟩,q1 P2 Os' H2 σ lt k'⟩;have la:=iA.len;have lb:=iB.len
      by_cases z:ds.length<=es.length
      · exact .inl (xa7 (by omega))
      · exact .inr (xa7 (by omega))
  · rename_i c n M1 ef;cases e;exact⟨P0,H0,P,Os,env,M,_,_,k,ef,q⟩
  · cases e
end
section
theorem zdm {is:List Nat}{fs:EA}{b:S}{env:Env}{M M1:Mm}{ds es:List D}(h:fs env M=some (.v [.lst ds,.lst es],M1)):yO is fs b env M=eF is b ((ds.zip es).map fun p=>.tup [p.1,p.2]) env M1:=by simp only[yO,h]
end
mutual
def D.plain:D->Bool
 |.ref _=>false
 |.tup ds=>D.plains ds
 |.lst ds=>D.plains ds
 |_=>true
def D.plains:List D->Bool
 | []=>true
 |d::ds=>D.plain d && D.plains ds
end
section
variable {K:Fgx}{P:Pl}{H:Hp}{io:Nat->Addr}
mutual
theorem Vt:∀{d:D} {v:V},D.plain d=true->Is K P H d v->Is K ⟨io,0,fun _=>False⟩ H d v
 |.non,_,_,h |.bl _,_,_,h |.int _,_,_,h |.str _,_,_,h=>h
 |.ref _,_,p,_=>by simp[D.plain]at p
 |.tup ds,_,p,⟨a,vs,e,t,q⟩=>⟨a,vs,e,t,Ge (by simpa [D.plain] using p) q⟩
 |.lst ds,_,p,⟨a,vs,e,t,q⟩=>⟨a,vs,e,t.imp (fun z=>⟨fun y=>y,z.2⟩) id,Ge (by simpa [D.plain] using p) q⟩
theorem Ge:∀{ds:List D} {vs:List V},D.plains ds=true->aC K P H ds vs->aC K ⟨io,0,fun _=>False⟩ H ds vs
  | [],_,_,h=>h
  |d::ds,_,p,⟨v,r,e,h,t⟩=>by
    simp only[D.plains,xam]at p;exact⟨v,r,e,Vt p.1 h,Ge p.2 t⟩
end
end
end E3
namespace My
open PySem PySem.Spec PyProof.Rows L2 E3
noncomputable def sY:List (Str×D):=[("+",(.tup [(.str "number"),(.str "number"),(.int 2)])),("-",(.tup [(.str "number"),(.str "number"),(.int 2)])),("*",(.tup [(.str "number"),(.str "number"),(.int 2)])),("least",(.tup [(.str "number"),(.str "number"),(.int 2)])),("most",(.tup [(.str "number"),(.str "number"),(.int 2)])),("<",(.tup [(.str "truth"),(.str "number"),(.int 2)])),("=",(.tup [(.str "truth"),(.str "number"),(.int 2)])),("not",(.tup [(.str "truth"),(.str "truth"),(.int 1)])),("and",(.tup [(.str "truth"),(.str "truth"),(.int 2)])),("or",(.tup [(.str "truth"),(.str "truth"),(.int 2)]))]
noncomputable def top (i:Nat):Stmt:=PySem.Challenge.pw_rowdam_k29_pairs_told.main.body.getD i (.Pass ⟨0,0,0,0⟩)
noncomputable def wH:List Str:=["any","len","min","max","range","reversed","int","sorted","isinstance","bool","tuple","zip","list","str","abs"]
noncomputable def Ni (s:Stmt) (j:Nat):Stmt:=match s with
 |.ClassDef _ _ _ body _ _ _ _ _ _ _=>body.getD j s
 |_=>s
structure Ad where
 Expr:Addr
 DamError:Addr
 NoExpr:Addr
structure Txt (K:Fgx)(mg:Mgx)(C:Ad)(w:World):Prop where
 blt:∀b∈wH,mg b=none
 cl_Expr:ClsOk K mg "Expr" C.Expr
 na_Expr_parts:mV K C.Expr "parts"
 xm_DamError:mg "DamError"=some (.ref C.DamError)
 xc_DamError:dw K C.DamError=true
 xm_NoExpr:mg "NoExpr"=some (.ref C.NoExpr)
 xc_NoExpr:dw K C.NoExpr=true
 tb_change_of:∃c P,PySem.W.tabIn K "change_of"=some (c,P)/\PySem.W.codeHdIn K c P=true
 tb_pairer_of:∃c P,PySem.W.tabIn K "pairer_of"=some (c,P)/\PySem.W.codeHdIn K c P=true
 xn_NoExpr:zH K C.NoExpr=true
 xk_NoExpr:PySem.W.keepIn K (.ref C.NoExpr)=true
 xs_NoExpr:Dd K C.NoExpr=true
 k_ALL_LETTERS:∃a,mg "ALL_LETTERS"=some (.ref a)/\∀P H,Is K P H (.tup [(.str "t"),(.str "v"),(.str "w")]) (.ref a)
 k_NEEDS:∃a,mg "NEEDS"=some (.ref a)/\KTab K w a sY
 k_FIGURES:∃t,mg "FIGURES"=some (.str "0123456789" t)
 k_MOST_FIGURES:∃t,mg "MOST_FIGURES"=some (.int 20 t)
 k_MOST_VALUE:∃t,mg "MOST_VALUE"=some (.int 1000000000000000000000000000000000000000000000000000000000000 t)
 k_LETTERS:∃t,mg "LETTERS"=some (.str "abcdefghijklmnopqrstuvwxyz" t)
 k_COND_LETTERS:∃t,mg "COND_LETTERS"=some (.str "tv" t)
structure MetAt (K:Fgx)(C:Addr)(x q:Str)(st:Stmt)(ps:List Str)(f:Addr)(fd:FuncData):Prop where
 M:Meth K C x f
 F:FunD K x q st f fd
 b:Binds K fd ps []
structure IniAt (K:Fgx)(C:Addr)(q:Str)(st:Stmt)(ps:List Str)(f:Addr)(fd:FuncData):Prop where
 M:Mk K C f
 F:FunD K "__init__" q st f fd
 b:Binds K fd ps []
structure MetAtD (K:Fgx)(C:Addr)(x q:Str)(st:Stmt)(ps:List Str)(dd:List D)(f:Addr)(fd:FuncData):Prop where
 M:Meth K C x f
 F:FunD K x q st f fd
 b:Binds K fd ps []
 bd:∃(dv:List V) (du:List Value),Binds K fd ps du/\Vals dv du/\(∀P H,aC K P H dd dv)/\dv.length=dd.length
noncomputable def Ga (t:String):Option Bool:=if t="int" then some false else if t="bool" then some true else if t="str" then some false else if t="list" then some false else if t="tuple" then some false else if t="NoneType" then some false else if t="dict" then some false else none
theorem Vu {K:Fgx}:∀t b,Ga t=some b->PySem.W.kitOne K (.type t) (.type "bool")=some b:=by
 intro t b h;unfold Ga at h;split at h
 ·rename_i e;subst e;cases h;kernel_rfl
 split at h
 ·rename_i e;subst e;cases h;kernel_rfl
 split at h
 ·rename_i e;subst e;cases h;kernel_rfl
 split at h
 ·rename_i e;subst e;cases h;kernel_rfl
 split at h
 ·rename_i e;subst e;cases h;kernel_rfl
 split at h
 ·rename_i e;subst e;cases h;kernel_rfl
 split at h
 ·rename_i e;subst e;cases h;kernel_rfl
 cases h
noncomputable def Gb (t:String):Option Bool:=if t="int" then some false else if t="bool" then some false else if t="str" then some false else if t="list" then some true else if t="tuple" then some false else if t="NoneType" then some false else if t="dict" then some false else none
theorem Vv {K:Fgx}:∀t b,Gb t=some b->PySem.W.kitOne K (.type t) (.type "list")=some b:=by
 intro t b h;unfold Gb at h;split at h
 ·rename_i e;subst e;cases h;kernel_rfl
 split at h
 ·rename_i e;subst e;cases h;kernel_rfl
 split at h
 ·rename_i e;subst e;cases h;kernel_rfl
 split at h
 ·rename_i e;subst e;cases h;kernel_rfl
 split at h
 ·rename_i e;subst e;cases h;kernel_rfl
 split at h
 ·rename_i e;subst e;cases h;kernel_rfl
 split at h
 ·rename_i e;subst e;cases h;kernel_rfl
 cases h
noncomputable def Gd (t:String):Option Bool:=if t="int" then some false else if t="bool" then some false else if t="str" then some false else if t="list" then some false else if t="tuple" then some true else if t="NoneType" then some false else if t="dict" then some false else none
theorem Vw {K:Fgx}:∀t b,Gd t=some b->PySem.W.kitOne K (.type t) (.type "tuple")=some b:=by
 intro t b h;unfold Gd at h;split at h
 ·rename_i e;subst e;cases h;kernel_rfl
 split at h
 ·rename_i e;subst e;cases h;kernel_rfl
 split at h
 ·rename_i e;subst e;cases h;kernel_rfl
 split at h
 ·rename_i e;subst e;cases h;kernel_rfl
 split at h
 ·rename_i e;subst e;cases h;kernel_rfl
 split at h
 ·rename_i e;subst e;cases h;kernel_rfl
 split at h
 ·rename_i e;subst e;cases h;kernel_rfl
 cases h
noncomputable def aY (t T:String):Option Bool:=if T="bool" then Ga t else if T="list" then Gb t else if T="tuple" then Gd t else none
theorem Ny:aY "int" "bool"=some false:=by x_go
theorem zcc:aY "int" "list"=some false:=by x_go
theorem zbM:aY "int" "tuple"=some false:=by x_go
theorem zb4:aY "bool" "bool"=some true:=by x_go
theorem zbN:aY "bool" "list"=some false:=by x_go
theorem zbk:aY "bool" "tuple"=some false:=by x_go
theorem zcb:aY "str" "bool"=some false:=by x_go
theorem zca:aY "str" "list"=some false:=by x_go
theorem zbI:aY "str" "tuple"=some false:=by x_go
theorem zbt:aY "list" "bool"=some false:=by x_go
theorem VG:aY "list" "list"=some true:=by x_go
theorem zbo:aY "list" "tuple"=some false:=by x_go
theorem zbm:aY "tuple" "bool"=some false:=by x_go
theorem zbn:aY "tuple" "list"=some false:=by x_go
theorem VH:aY "tuple" "tuple"=some true:=by x_go
theorem zaY:aY "NoneType" "bool"=some false:=by x_go
theorem zaN:aY "NoneType" "list"=some false:=by x_go
theorem zaK:aY "NoneType" "tuple"=some false:=by x_go
theorem zbW:aY "dict" "bool"=some false:=by x_go
theorem zbx:aY "dict" "list"=some false:=by x_go
theorem zbl:aY "dict" "tuple"=some false:=by x_go
theorem Am {K:Fgx}:∀t T b,aY t T=some b->PySem.W.kitOne K (.type t) (.type T)=some b:=by
 intro t T b h;unfold aY at h;split at h
 ·rename_i e;subst e;exact Vu t b h
 split at h
 ·rename_i e;subst e;exact Vv t b h
 split at h
 ·rename_i e;subst e;exact Vw t b h
 cases h
abbrev BP:Stmt:=top 6
theorem QD:FnScope ["text"] ["text"] (aH BP):=cI
def Fq:E:=(s2 (aF .notin) (aj 0) (ak (.str "0123456789")))
noncomputable def En:S:=(ao (bJ (gh (s2 (aF .eq) (aj 0) (ak (.str ""))) (dj (sN m6 (aA (sH [] (Aj (aj 0)) (ak (.bl true)) Fq) au)))) (ao (aM (ak (.bl false))) aq) aq) (ao (aM (gh (s2 (aF .eq) (aj 0) (ak (.str "0"))) (s2 (aF .ne) (s2 bB (aj 0) (ak (.int 0))) (ak (.str "0"))))) aq))
def xq:G:=bI 1 En
abbrev BX:Stmt:=top 7
theorem QJ:FnScope ["text","figures"] ["text"] (aH BX):=cI
noncomputable def Er:S:=(ao (aO 1 (nZ (dj (vP CZ (aj 0) (aA (ak (.str "-")) au))) (vQ (aj 0) (mK (ak (.int 1))) nQ) (aj 0))) (ao (aM (dh (s2 (aF .ne) (aj 0) (ak (.str "-0"))) (bO xq (aA (aj 1) au)))) aq))
def xH:G:=bI 2 Er
abbrev BW:Stmt:=top 8
theorem QG:FnScope ["text"] ["text"] (aH BW):=cI
noncomputable def Ep:S:=(ao (aM (dh (bO xH (aA (aj 0) au)) (s2 (aF .le) (sN dB (aA (vP CW (aj 0) (aA (ak (.str "-")) au)) au)) (ak (.int 20))))) aq)
def xG:G:=bI 1 Ep
abbrev BL:Stmt:=top 17
theorem QC:FnScope ["number"] ["number"] (aH BL):=cI
noncomputable def Em:S:=(ao (aM (sN dO (aA (s1 lU (ak (.int 1000000000000000000000000000000000000000000000000000000000000))) (aA (sN fP (aA (ak (.int 1000000000000000000000000000000000000000000000000000000000000)) (aA (aj 0) au))) au)))) aq)
def xg:G:=bI 1 Em
abbrev BR:Stmt:=top 18
theorem QF:FnScope ["word","letters"] ["word","letters"] (aH BR):=cI
noncomputable def Eo:S:=(ao (aM (gh (bO xG (aA (aj 0) au)) (dh (s2 (aF .isin) (aj 0) (ak (.tup [(.str "t"),(.str "v"),(.str "w")]))) (s2 (aF .isin) (aj 0) (aj 1))))) aq)
def xu:G:=bI 2 Eo
abbrev Cg:Stmt:=top 19
theorem QX:FnScope ["word","kinds","needed","place"] ["word","kinds"] (aH Cg):=cI
noncomputable def Gm:S:=(ao (bJ (gh (j5 (dj (aj 1))) (s2 (aF .ne) (gj (aj 1)) (s2 bB (aj 2) (ak (.int 1))))) (ao (n6 "NoExpr" (fH (h_ (aj 0) (fB " needs other words behind it" fD)))) aq) aq) aq)
noncomputable def EY:S:=(ao (aO 2 (yP sY (aj 0))) (ao (dI 3 (rP (aA (s2 bB (aj 2) (ak (.int 2))) au)) Gm) aq))
def u5:G:=bI 4 EY
abbrev BJ:Stmt:=top 20
theorem Qz:FnScope ["words","letters","wanted","kinds","word"] ["words","letters","wanted"] (aH BJ):=cI
noncomputable def pX:S:=(ao (bJ (jj true sY (aj 4)) (ao (yM (Bo u5 (aA (aj 4) (aA (aj 3) au)))) (ao (rz (aj 3) (s2 bB (yP sY (aj 4)) (ak (.int 0)))) aq)) (ao (bJ (dj (bO xu (aA (aj 4) (aA (aj 1) au)))) (ao (rz (aj 3) (ak (.str "number"))) aq) (ao (n6 "NoExpr" (fH (lQ (aj 4) (fB " may not stand here" fD)))) aq)) aq)) aq)
noncomputable def Ej:S:=(ao (aO 3 (yL (bU au))) (ao (dI 4 (lN (aA (aj 0) au)) pX) (ao (bJ (s2 (aF .ne) (aj 3) (bU (aA (aj 2) au))) (ao (n6 "NoExpr" (ak (.str "too many words, or too few"))) aq) aq) aq)))
def tZ:G:=bI 5 Ej
abbrev BK:Stmt:=top 21
theorem QB:FnScope ["word","left","right"] ["word","left","right"] (aH BK):=cI
noncomputable def El:S:=(ao (bJ (s2 (aF .eq) (aj 0) (ak (.str "+"))) (ao (aM (s2 aZ (aj 1) (aj 2))) aq) aq) (ao (bJ (s2 (aF .eq) (aj 0) (ak (.str "-"))) (ao (aM (s2 c7 (aj 1) (aj 2))) aq) aq) (ao (bJ (s2 (aF .eq) (aj 0) (ak (.str "*"))) (ao (aM (s2 cR (aj 1) (aj 2))) aq) aq) (ao (bJ (s2 (aF .eq) (aj 0) (ak (.str "least"))) (ao (aM (sN fP (aA (aj 1) (aA (aj 2) au)))) aq) aq) (ao (bJ (s2 (aF .eq) (aj 0) (ak (.str "most"))) (ao (aM (sN dO (aA (aj 1) (aA (aj 2) au)))) aq) aq) (ao (bJ (s2 (aF .eq) (aj 0) (ak (.str "<"))) (ao (aM (s2 (aF .lt) (aj 1) (aj 2))) aq) aq) (ao (bJ (s2 (aF .eq) (aj 0) (ak (.str "="))) (ao (aM (s2 (aF .eq) (aj 1) (aj 2))) aq) aq) (ao (bJ (s2 (aF .eq) (aj 0) (ak (.str "and"))) (ao (aM (dh (aj 1) (aj 2))) aq) aq) (ao (aM (gh (aj 1) (aj 2))) aq)))))))))
def w6:G:=bI 3 El
abbrev BZ:Stmt:=top 22
theorem QL:FnScope ["word","time","value","other"] ["word","time","value","other"] (aH BZ):=cI
noncomputable def Et:S:=(ao (bJ (s2 (aF .eq) (aj 0) (ak (.str "t"))) (ao (aM (aj 1)) aq) aq) (ao (bJ (s2 (aF .eq) (aj 0) (ak (.str "v"))) (ao (aM (aj 2)) aq) aq) (ao (bJ (s2 (aF .eq) (aj 0) (ak (.str "w"))) (ao (aM (aj 3)) aq) aq) (ao (aM (sN dN (aA (aj 0) au))) aq))))
def xJ:G:=bI 4 Et
abbrev Ce:Stmt:=top 23
theorem QW:FnScope ["words","time","value","other","results","word","left","right"] ["words","time","value","other"] (aH Ce):=cI
noncomputable def xW:S:=(ao (bJ (s2 (aF .eq) (aj 5) (ak (.str "not"))) (ao (rz (aj 4) (Bp (gj (aj 4)))) aq) (ao (bJ (jj true sY (aj 5)) (ao (aO 6 (gj (aj 4))) (ao (aO 7 (gj (aj 4))) (ao (rz (aj 4) (bO w6 (aA (aj 5) (aA (aj 6) (aA (aj 7) au))))) aq))) (ao (rz (aj 4) (bO xJ (aA (aj 5) (aA (aj 1) (aA (aj 2) (aA (aj 3) au)))))) aq)) aq)) aq)
noncomputable def Ez:S:=(ao (aO 4 (yL (bU au))) (ao (dI 5 (lN (aA (aj 0) au)) xW) (ao (aM (s2 bB (aj 4) (ak (.int 0)))) aq)))
def pQ:G:=bI 8 Ez
abbrev rD:Stmt:=Ni (top 24) 0
theorem Ql:FnScope ["self","words"] ["self","words"] (aH rD):=cI
noncomputable def zO:S:=(ao (yR "Expr" "parts" (aj 0) (sN m7 (aA (aj 1) au))) aq)
def wQ:G:=bI 2 zO
abbrev Cd:Stmt:=top 26
theorem QV:FnScope ["words","letters"] ["words","letters"] (aH Cd):=cI
noncomputable def Ey:S:=(ao (yM (bO tZ (aA (aj 0) (aA (aj 1) (aA (ak (.str "number")) au))))) (ao (aM (yQ "Expr" wQ (aA (aj 0) au))) aq))
def xO:G:=bI 2 Ey
abbrev sJ:Stmt:=Ni (top 24) 1
theorem Qm:FnScope ["self","time","value","other"] ["self","time","value","other"] (aH sJ):=cI
noncomputable def zP:S:=(ao (aM (bO pQ (aA (yN "Expr" "parts" (aj 0)) (aA (aj 1) (aA (aj 2) (aA (aj 3) au)))))) aq)
def tW:G:=bI 4 zP
abbrev JN:Stmt:=inDef (top 29) 1
noncomputable def g_:FnT:=⟨JN,"change","change_of.<locals>.change",Mp JN,["expr"],[0]⟩
theorem Qy:FnScopeC ["time","value","other","expr"] ["time","value","other"] g_.fr (aH g_.st):=Q7
theorem zab:LF JN "expr":=by kernel_rfl
noncomputable def zT:S:=(ao (aM (bO xg (aA (vq "Expr" "value" tW (aj 3) (aA (aj 0) (aA (aj 1) (aA (aj 2) au)))) au))) aq)
def tY:G:=lM 3 4 zT
abbrev yV:Stmt:=top 29
theorem Qx:FnScope ["words","letters","expr","change"] ["words","letters"] (aH yV):=cI
theorem zaj:LC yV "expr":=by kernel_rfl
noncomputable def Eh:S:=(ao (aO 2 (bO xO (aA (aj 0) (aA (aj 1) au)))) (fJ 0 "change_of" g_ [("expr",2)]))
def w5:G:=bI 4 Eh
abbrev Ca:Stmt:=inDef (top 42) 2
noncomputable def kW:FnT:=⟨Ca,"pair","pairer_of.<locals>.pair",Mp Ca,["span","change"],[]⟩
theorem QT:FnScopeC ["one","other","later","span","change"] ["one","other"] kW.fr (aH kW.st):=Q7
theorem zac:LF Ca "span":=by kernel_rfl
theorem zaa:LF Ca "change":=by kernel_rfl
noncomputable def zV:S:=(ao (bJ (gh (s2 (aF .ne) (s2 bB (aj 0) (ak (.int 1))) (s2 bB (aj 1) (ak (.int 1)))) (s2 (aF .gt) (sN m5 (aA (s2 c7 (s2 bB (aj 0) (ak (.int 0))) (s2 bB (aj 1) (ak (.int 0)))) au)) (aj 3))) (ao (aM (bU au)) aq) aq) (ao (aO 2 (sN dO (aA (s2 bB (aj 0) (ak (.int 0))) (aA (s2 bB (aj 1) (ak (.int 0))) au)))) (ao (aM (bU (aA (bV (aA (aj 2) (aA (s2 bB (aj 0) (ak (.int 1))) (aA (nY g_ tY (aj 4) (aA (aj 2) (aA (s2 bB (aj 0) (ak (.int 2))) (aA (s2 bB (aj 1) (ak (.int 2))) au)))) au)))) au))) aq)))
def uc:G:=lM 2 5 zV
abbrev vR:Stmt:=top 42
theorem QS:FnScope ["row","span","change","pair"] ["row"] (aH vR):=cI
theorem zai:LC vR "span":=by kernel_rfl
theorem zag:LC vR "change":=by kernel_rfl
noncomputable def Ew:S:=(ao (aO 1 (sN dN (aA (s2 bB (s2 bB (aj 0) (ak (.int 3))) (ak (.int 0))) au))) (ao (aO 2 (bO w5 (aA (j_ (s2 bB (aj 0) (ak (.int 3))) (mK (ak (.int 1))) nQ) (aA (ak (.str "tvw")) au)))) (fJ 1 "pairer_of" kW [("span",1),("change",2)])))
def xM:G:=bI 4 Ew
abbrev B_:Stmt:=top 50
theorem QM:FnScope ["row","feeds","pair","told","one","other"] ["row","feeds"] (aH B_):=cI
noncomputable def Gk:S:=(ao (lV 3 (nY kW uc (aj 2) (aA (aj 4) (aA (aj 5) au)))) aq)
noncomputable def Ax:S:=(ao (dI 5 (fW (s2 bB (aj 1) (ak (.int 1)))) Gk) aq)
noncomputable def Eu:S:=(ao (aO 2 (bO xM (aA (aj 0) au))) (ao (sI 3 (bU au)) (ao (dI 4 (fW (s2 bB (aj 1) (ak (.int 0)))) Ax) (ao (f9 3) (ao (aM (aj 3)) aq)))))
def xK:G:=bI 6 Eu
abbrev Ci:Stmt:=top 51
theorem QZ:FnScope ["row","feeds","mark"] ["row","feeds","mark"] (aH Ci):=cI
noncomputable def E_:S:=(ao (bJ (s2 (aF .eq) (s2 bB (aj 0) (ak (.int 0))) (ak (.str "keep"))) (ao rB aq) aq) (ao (bJ (s2 (aF .eq) (s2 bB (aj 0) (ak (.int 0))) (ak (.str "turn"))) (ao rB aq) aq) (ao (bJ (s2 (aF .eq) (s2 bB (aj 0) (ak (.int 0))) (ak (.str "share"))) (ao rB aq) aq) (ao (bJ (s2 (aF .isin) (s2 bB (aj 0) (ak (.int 0))) (bV (aA (ak (.str "fixed")) (aA (ak (.str "slide")) au)))) (ao rB aq) aq) (ao (bJ (s2 (aF .eq) (s2 bB (aj 0) (ak (.int 0))) (ak (.str "gap"))) (ao rB aq) aq) (ao (bJ (s2 (aF .eq) (s2 bB (aj 0) (ak (.int 0))) (ak (.str "join"))) (ao (aM (bO xK (aA (aj 0) (aA (aj 1) au)))) aq) aq) (ao rB aq)))))))
def xP:G:=bI 3 E_
abbrev Cj:Stmt:=top 52
theorem Q0:FnScope ["row","feeds","mark"] ["row","feeds","mark"] (aH Cj):=cI
noncomputable def Fb:S:=(ao (aM (rC (bO xP (aA (aj 0) (aA (aj 1) (aA (aj 2) au)))))) aq)
def xQ:G:=bI 3 Fb
abbrev Br:Stmt:=top 54
theorem Qo:FnScope ["_law_script","_law_k"] ["_law_script","_law_k"] (aH Br):=cI
noncomputable def DY:S:=(ao (bJ (s2 (aF .lt) (aj 1) (sN dB (aA (aj 0) au))) (ao (aM (s2 bB (aj 0) (aj 1))) aq) aq) (ao (aM (ak (.int 0))) aq))
def fV:G:=bI 2 DY
abbrev Bv:Stmt:=top 55
theorem Qu:FnScope ["_law_cell","_law_k","_law_number"] ["_law_cell","_law_k"] (aH Bv):=cI
noncomputable def Ed:S:=(ao (aO 2 (s2 oMod (s2 cR (s2 aZ (s2 aZ (aj 0) (s2 cR (ak (.int 7919)) (aj 1))) (ak (.int 1))) (ak (.int 48271))) (ak (.int 2147483647)))) (ao (aM (s2 oMod (s2 cR (aj 2) (s2 aZ (s2 gC (aj 2) (ak (.int 1009))) (ak (.int 69621)))) (ak (.int 2147483647)))) aq))
def wY:G:=bI 3 Ed
abbrev Bt:Stmt:=top 56
theorem Qs:FnScope ["_law_number","_law_which","_law_some","_law_word","_law_k","_law_at","_law_sign"] ["_law_number","_law_which"] (aH Bt):=cI
noncomputable def Aw:S:=(ao (aO 3 (s2 aZ (aj 3) (s2 bB (aj 2) (s2 oMod (s2 gC (aj 0) (s2 aZ (ak (.int 8)) (s2 cR (ak (.int 25)) (aj 4)))) (ak (.int 26)))))) aq)
noncomputable def Ea:S:=(ao (aO 2 (ak (.str "abcdefghijklmnopqrstuvwxyz"))) (ao (aO 3 (ak (.str ""))) (ao (dI 4 (rP (aA (s2 aZ (ak (.int 1)) (s2 oMod (aj 0) (ak (.int 8)))) au)) Aw) (ao (aO 5 (s2 oMod (s2 gC (aj 0) (ak (.int 8))) (sN dB (aA (aj 3) au)))) (ao (aO 6 (s2 bB (aj 2) (s2 oMod (s2 aZ (vP zu (aj 2) (aA (s2 bB (aj 3) (aj 5)) au)) (aj 1)) (ak (.int 26))))) (ao (aM (s2 aZ (s2 aZ (vQ (aj 3) nQ (mK (aj 5))) (aj 6)) (vQ (aj 3) (mK (s2 aZ (aj 5) (ak (.int 1)))) nQ))) aq))))))
def wW:G:=bI 7 Ea
abbrev Bx:Stmt:=top 57
theorem Qw:FnScope ["_law_number"] ["_law_number"] (aH Bx):=cI
noncomputable def zR:S:=(ao (bJ (s2 (aF .eq) (s2 oMod (aj 0) (ak (.int 4))) (ak (.int 3))) (ao (aM (s2 c7 (s2 oMod (s2 dF (aj 0) (ak (.int 10))) (s2 aZ (s2 cR (ak (.int 2)) (s2 dF (ak (.int 10)) (ak (.int 60)))) (ak (.int 1)))) (s2 dF (ak (.int 10)) (ak (.int 60))))) aq) aq) (ao (aM (s2 c7 (s2 oMod (s2 gC (aj 0) (ak (.int 4))) (ak (.int 41))) (ak (.int 20)))) aq))
def rO:G:=bI 1 zR
abbrev Bw:Stmt:=top 58
theorem Qv:FnScope ["_law_script","_law_start","_law_many","_law_far","_law_found","_law_k","_law_number","_law_key_here"] ["_law_script","_law_start","_law_many","_law_far"] (aH Bw):=cI
noncomputable def Gj:S:=(ao (aO 6 (bO wY (aA (bO fV (aA (aj 0) (aA (aj 5) au))) (aA (aj 5) au)))) (ao (aO 7 (bO wW (aA (s2 oMod (bO fV (aA (aj 0) (aA (ak (.int 1)) au))) (ak (.int 1000003))) (aA (s2 oMod (s2 gC (aj 6) (ak (.int 120))) (ak (.int 3))) au)))) (ao (i_ 4 (bV (aA (s2 aZ (s2 cR (s2 oMod (aj 6) (ak (.int 40))) (aj 3)) (s2 oMod (s2 gC (aj 6) (ak (.int 40))) (ak (.int 3)))) (aA (aj 7) (aA (bO rO (aA (s2 gC (aj 6) (ak (.int 360))) au)) au))))) aq)))
noncomputable def Ef:S:=(ao (sI 4 (bU au)) (ao (dI 5 (rQ (aA (aj 1) (aA (s2 aZ (aj 1) (aj 2)) au))) Gj) (ao (f9 4) (ao (aM (aj 4)) aq))))
def tX:G:=bI 8 Ef
abbrev yU:Stmt:=top 59
theorem Qq:FnScope ["_law_form","_law_some"] ["_law_form"] (aH yU):=cI
noncomputable def zQ:S:=(ao (sI 1 (bU (aA (bV (aA (ak (.str "-")) (aA (ak (.str "v")) (aA (ak (.str "w")) au)))) (aA (bV (aA (ak (.str "*")) (aA (ak (.str "v")) (aA (ak (.str "w")) au)))) (aA (bV (aA (ak (.str "+")) (aA (ak (.str "t")) (aA (ak (.str "w")) au)))) (aA (bV (aA (ak (.str "most")) (aA (ak (.str "v")) (aA (ak (.str "w")) au)))) (aA (bV (aA (ak (.str "w")) au)) au))))))) (ao (i_ 1 (bV (aA (ak (.str "+")) (aA (ak (.str "*")) (aA (ak (.str "v")) (aA (ak (.str "3")) (aA (ak (.str "least")) (aA (ak (.str "w")) (aA (ak (.str "t")) au))))))))) (ao (f9 1) (ao (aM (s2 bB (aj 1) (aj 0))) aq))))
def wV:G:=bI 2 zQ
abbrev Bu:Stmt:=top 60
theorem Qt:FnScope ["_law_form","_law_time","_law_value_here","_law_other","_law_made_here"] ["_law_form","_law_time","_law_value_here","_law_other"] (aH Bu):=cI
noncomputable def Ec:S:=(ao (aO 4 (s2 c7 (aj 2) (aj 3))) (ao (bJ (s2 (aF .eq) (aj 0) (ak (.int 1))) (ao (aO 4 (s2 cR (aj 2) (aj 3))) aq) aq) (ao (bJ (s2 (aF .eq) (aj 0) (ak (.int 2))) (ao (aO 4 (s2 aZ (aj 1) (aj 3))) aq) aq) (ao (bJ (s2 (aF .eq) (aj 0) (ak (.int 3))) (ao (aO 4 (sN dO (aA (aj 2) (aA (aj 3) au)))) aq) aq) (ao (bJ (s2 (aF .eq) (aj 0) (ak (.int 4))) (ao (aO 4 (aj 3)) aq) aq) (ao (bJ (s2 (aF .eq) (aj 0) (ak (.int 5))) (ao (aO 4 (s2 aZ (s2 cR (aj 2) (ak (.int 3))) (sN fP (aA (aj 3) (aA (aj 1) au))))) aq) aq) (ao (aM (sN dO (aA (s1 lU (s2 dF (ak (.int 10)) (ak (.int 60)))) (aA (sN fP (aA (s2 dF (ak (.int 10)) (ak (.int 60))) (aA (aj 4) au))) au)))) aq)))))))
def wX:G:=bI 5 Ec
abbrev Bs:Stmt:=top 61
theorem Qp:FnScope ["_law_ones","_law_others","_law_span","_law_form","_law_found","_law_time","_law_key_here","_law_value_here","_law_when","_law_name","_law_number","_law_later"] ["_law_ones","_law_others","_law_span","_law_form"] (aH Bs):=cI
noncomputable def xV:S:=(ao (bJ (dh (s2 (aF .eq) (aj 9) (aj 6)) (d7 .le .le (s2 c7 (aj 5) (aj 2)) (aj 8) (s2 aZ (aj 5) (aj 2)))) (ao (aO 11 (sN dO (aA (aj 5) (aA (aj 8) au)))) (ao (i_ 4 (bV (aA (aj 11) (aA (aj 6) (aA (bO wX (aA (aj 3) (aA (aj 11) (aA (aj 7) (aA (aj 10) au))))) au))))) aq)) aq) aq)
def Av:S:=(ao (vp [8,9,10] (fW (aj 1)) xV) aq)
noncomputable def D_:S:=(ao (sI 4 (bU au)) (ao (vp [5,6,7] (fW (aj 0)) Av) (ao (f9 4) (ao (aM (rC (aj 4))) aq))))
def wU:G:=bI 12 D_
abbrev Bq:Stmt:=top 62
theorem Qn:FnScope ["_law_found","_law_due_here","_law_one","_law_other"] ["_law_found","_law_due_here"] (aH Bq):=cI
noncomputable def Aq:S:=(ao (bJ (gh (j5 (dj (gb aY "tuple" (aj 2)))) (gh (s2 (aF .ne) (aj 2) (aj 3)) (gh (dj (gb aY "bool" (s2 bB (aj 2) (ak (.int 0))))) (dj (gb aY "bool" (s2 bB (aj 2) (ak (.int 2)))))))) (ao (aM (ak (.bl false))) aq) aq) aq)
noncomputable def DX:S:=(ao (bJ (gh (j5 (dj (gb aY "list" (aj 0)))) (s2 (aF .ne) (sN dB (aA (aj 0) au)) (sN dB (aA (aj 1) au)))) (ao (aM (ak (.bl false))) aq) aq) (ao (yO [2,3] (aA (aj 0) (aA (aj 1) au)) Aq) (ao (aM (ak (.bl true))) aq)))
def wR:G:=bI 4 DX
abbrev lg:Stmt:=top 63
theorem QK:FnScope ["_law_script","_law_far","_law_ones","_law_others","_law_froms","_law_form","_law_span","_law_mark","_law_handed","_law_found"] ["_law_script"] (aH lg):=cI
noncomputable def Gx:S:=(ao (aM (dh (s2 (aF .eq) (aj 8) (bU (aA (aj 2) (aA (aj 3) au)))) (bO wR (aA (aj 9) (aA (bO wU (aA (aj 2) (aA (aj 3) (aA (aj 6) (aA (aj 5) au))))) au))))) aq)
noncomputable def Gw:S:=(ao (aO 9 (bO xQ (aA (bV (aA (ak (.str "join")) (aA (ak (.str "j")) (aA (aj 4) (aA (s2 yh (bV (aA (sN lJ (aA (aj 6) au)) au)) (bO wV (aA (aj 5) au))) au))))) (aA (aj 8) (aA (aj 7) au))))) Gx)
noncomputable def yd:S:=(ao (aO 8 (bU (aA (rA (aj 2)) (aA (rA (aj 3)) au)))) Gw)
noncomputable def GJ:S:=(ao (bJ (s2 (aF .eq) (s2 oMod (s2 gC (bO fV (aA (aj 0) (aA (ak (.int 2)) au))) (ak (.int 90))) (ak (.int 4))) (ak (.int 3))) (ao (aO 7 (s2 dF (ak (.int 10)) (ak (.int 15)))) aq) aq) yd)
noncomputable def GF:S:=(ao (aO 7 (s2 oMod (s2 gC (bO fV (aA (aj 0) (aA (ak (.int 2)) au))) (ak (.int 360))) (s2 aZ (s2 dF (ak (.int 10)) (ak (.int 12))) (ak (.int 1))))) GJ)
noncomputable def GD:S:=(ao (aO 6 (s2 cR (s2 oMod (s2 gC (bO fV (aA (aj 0) (aA (ak (.int 2)) au))) (ak (.int 6))) (ak (.int 15))) (aj 1))) GF)
noncomputable def Bb:S:=(ao (aO 5 (s2 oMod (bO fV (aA (aj 0) (aA (ak (.int 2)) au))) (ak (.int 6)))) GD)
noncomputable def GC:S:=(ao (bJ (s2 (aF .eq) (s2 oMod (bO fV (aA (aj 0) (aA (ak (.int 1)) au))) (ak (.int 4))) (ak (.int 3))) (ao (aO 3 (rA (aj 2))) (ao (aO 4 (bV (aA (ak (.str "a")) (aA (ak (.str "a")) au)))) aq)) aq) Bb)
noncomputable def Gz:S:=(ao (aO 4 (bV (aA (ak (.str "a")) (aA (ak (.str "b")) au)))) GC)
noncomputable def Gy:S:=(ao (aO 3 (bO tX (aA (aj 0) (aA (ak (.int 9)) (aA (s2 oMod (s2 gC (bO fV (aA (aj 0) (aA (ak (.int 0)) au))) (ak (.int 18))) (ak (.int 6))) (aA (aj 1) au)))))) Gz)
noncomputable def Gv:S:=(ao (aO 2 (bO tX (aA (aj 0) (aA (ak (.int 3)) (aA (s2 oMod (s2 gC (bO fV (aA (aj 0) (aA (ak (.int 0)) au))) (ak (.int 3))) (ak (.int 6))) (aA (aj 1) au)))))) Gy)
noncomputable def zU:S:=(ao (aO 1 (s2 bB (bU (aA (ak (.int 1)) (aA (ak (.int 1)) (aA (s2 aZ (s2 dF (ak (.int 10)) (ak (.int 9))) (ak (.int 7))) au)))) (s2 oMod (bO fV (aA (aj 0) (aA (ak (.int 0)) au))) (ak (.int 3))))) Gv)
def M_:G:=bI 10 zU
section
variable {P:Program}{w:World}{K:Fgx}{mg:Mgx}{C:Ad}{base:Heap}{k k0:Nat}{f:Addr}
theorem zav (T:Txt K mg C w):RT P w K mg base k f ["text"] "is_figures" BP En:=fun cdv A outer s H E hr=>by
 refine cH hr fun hu=>?_;have nd:=(QD).nd;have B_any:=T.blt "any" (by x_go);obtain⟨t_FIGURES,m_FIGURES⟩:=T.k_FIGURES;refine aG (bQ (SW.st (sW (Ct hu Sv Es) (zp (rG (fK (Tj rfl) rfl B_any boot_any Z9 (aD (SN.sem (zbr "sign" [] rfl (by x_go) (zd8 Sv) (fun _ _ _ _ _ _=>zbu) (fun _ _ _ _ _ _=>(Rb (wK (X:=eZ _ _ _ _ _ _ _ _ _) hu .notin) IV (Cy rfl (.inl (by kernel_rfl))) (yX (yr (v:=(.str "0123456789")) rfl m_FIGURES ⟨t_FIGURES,rfl⟩))))) Ue) aK zaB)))))) (aG (bH Eb) aJ) aJ) ?_;exact aG (bH (JV (Cm hu Sv Es) (rE (Cm hu (Ek Sv Ei) Es)))) aJ
theorem zaf (T:Txt K mg C w)(a_is_figures:aV P w K mg base k "is_figures" 1 xq):RT P w K mg base k f ["text","figures"] "is_signed_figures" BX Er:=fun cdv A outer s H E hr=>by
 refine cH hr fun hu=>?_;have nd:=(QJ).nd;refine aG (bL (i:=1) nd rfl Lv (zcB (rG (JT PySem.F.slot_str_startswith PySem.F.type_str_startswith WR zaT Sv (aD Es aK bC))) (JW Sv (CN (Wx:=W0) Ei) CP) Sv)) ?_;exact aG (bH (yW (Cm hu Sv Es) (rE (bW a_is_figures hr rfl (aD Sv aK aL) (cnt_cons cnt_nil))))) aJ
theorem zay (T:Txt K mg C w)(a_is_signed_figures:aV P w K mg base k "is_signed_figures" 1 xH):RT P w K mg base k f ["text"] "is_number" BW Ep:=fun cdv A outer s H E hr=>by
 refine cH hr fun hu=>?_;have nd:=(QG).nd;have B_len:=T.blt "len" (by x_go);obtain⟨t_MOST_FIGURES,m_MOST_FIGURES⟩:=T.k_MOST_FIGURES;exact aG (bH (yW (bW a_is_signed_figures hr rfl (aD Sv aK aL) (cnt_cons cnt_nil)) (rE (Cm hu (fK wI rfl B_len xcl yC (aD (JT PySem.F.slot_str_lstrip PySem.F.type_str_lstrip WM zaL Sv (aD Es aK bC)) aK lB)) (pB (yr (v:=(.int 20)) rfl m_MOST_FIGURES ⟨t_MOST_FIGURES,rfl⟩)))))) aJ
theorem zcQ (T:Txt K mg C w):RT P w K mg base k f ["number"] "held" BL Em:=fun cdv A outer s H E hr=>by
 refine cH hr fun hu=>?_;have nd:=(QC).nd;have B_max:=T.blt "max" (by x_go);have B_min:=T.blt "min" (by x_go);obtain⟨t_MOST_VALUE,m_MOST_VALUE⟩:=T.k_MOST_VALUE;exact aG (bH (fK (tU rfl) rfl B_max boot_max vh (aD (Ri R9 Pj (pB (yr (v:=(.int 1000000000000000000000000000000000000000000000000000000000000)) rfl m_MOST_VALUE ⟨t_MOST_VALUE,rfl⟩))) (aD (fK (zX rfl) rfl B_min boot_min Bk (aD (pB (yr (v:=(.int 1000000000000000000000000000000000000000000000000000000000000)) rfl m_MOST_VALUE ⟨t_MOST_VALUE,rfl⟩)) (aD Sv aK aL) aL)) aK lB) RK))) aJ
theorem zaV (T:Txt K mg C w)(a_is_number:aV P w K mg base k "is_number" 1 xG):RT P w K mg base k f ["word","letters"] "is_leaf" BR Eo:=fun cdv A outer s H E hr=>by
 refine cH hr fun hu=>?_;have nd:=(QF).nd;obtain⟨t_ALL_LETTERS,m_ALL_LETTERS⟩:=T.k_ALL_LETTERS;exact aG (bH (JV (bW a_is_number hr rfl (aD Sv aK aL) (cnt_cons cnt_nil)) (rE (yW (Cm hu Sv (zeu rfl m_ALL_LETTERS.1 m_ALL_LETTERS.2)) (rE (Cm hu Sv Sv)))))) aJ
theorem zam (T:Txt K mg C w):DG P w K mg base k f ["word","kinds","needed","place"] "take_needed" Cg EY:=fun cdv A outer s H E Wx hr XF XP=>by
 refine cH hr fun hu=>?_;have nd:=(QX).nd;have B_range:=T.blt "range" (by x_go);obtain⟨t_NEEDS,m_NEEDS⟩:=T.k_NEEDS;refine aG (bL (i:=2) nd rfl Lw (Rh Sw rfl m_NEEDS.1 m_NEEDS.2)) ?_;exact aG (sU PassesOwn.leaving rfl nd rfl Lw (Rn rfl B_range (aD (Ek Sw Ei) aK pD)) (aG (bQ (SW.st (sW (J7 (rG Sw)) (zp (Ct hu (Cw Sw) (Ek Sw Ei))))) (aG (J5 XF rfl T.xm_NoExpr T.xc_NoExpr T.xn_NoExpr T.xk_NoExpr rfl (Rf (zcC Sw (Rp Rq)))) aJ) aJ) aJ)) aJ
theorem zaq (T:Txt K mg C w)(a_is_leaf:aV P w K mg base k "is_leaf" 2 xu)(x_take_needed:gO P w K mg base k "take_needed" 2 u5):DG P w K mg base k f ["words","letters","wanted","kinds","word"] "check_words" BJ Ej:=fun cdv A outer s H E Wx hr XF XP=>by
 refine cH hr fun hu=>?_;have nd:=(Qz).nd;have B_reversed:=T.blt "reversed" (by x_go);obtain⟨t_NEEDS,m_NEEDS⟩:=T.k_NEEDS;refine aG (bL (i:=3) nd rfl Lw (Ra (lq aK))) ?_;refine aG (sU PassesOwn.leaving rfl nd rfl Lw (Ro rfl B_reversed (aD Sw aK aL)) (aG (bQ (RM Sw rfl m_NEEDS.1 m_NEEDS.2) (aG (RG (SX.se XP (zbB x_take_needed hr rfl (aD Sw (aD Sw aK aL) aL) (cnt_cons (cnt_cons cnt_nil))))) (aG (zm Sw (Ek (Rh Sw rfl m_NEEDS.1 m_NEEDS.2) Ei)) aJ)) (aG (bQ (rG (bW a_is_leaf hr rfl (aD Sw (aD Sw aK aL) aL) (cnt_cons (cnt_cons cnt_nil)))) (aG (zm Sw Es) aJ) (aG (J5 XF rfl T.xm_NoExpr T.xc_NoExpr T.xn_NoExpr T.xk_NoExpr rfl (Rf (zct Sw (Rp Rq)))) aJ)) aJ)) aJ)) ?_;exact aG (bQ (Ct hu Sw (SN.sem (lq (aD Sw aK aL)) lst_is)) (aG (J5 XF rfl T.xm_NoExpr T.xc_NoExpr T.xn_NoExpr T.xk_NoExpr rfl Es) aJ) aJ) aJ
theorem zaJ (T:Txt K mg C w):RT P w K mg base k f ["word","left","right"] "combined" BK El:=fun cdv A outer s H E hr=>by
 refine cH hr fun hu=>?_;have nd:=(QB).nd;have B_max:=T.blt "max" (by x_go);have B_min:=T.blt "min" (by x_go);refine aG (bQ (Ct hu Sv Es) (aG (bH (aP dX dZ Sv Sv)) aJ) aJ) ?_;refine aG (bQ (Ct hu Sv Es) (aG (bH (aP vg vm Sv Sv)) aJ) aJ) ?_;refine aG (bQ (Ct hu Sv Es) (aG (bH (aP mJ mL Sv Sv)) aJ) aJ) ?_;refine aG (bQ (Ct hu Sv Es) (aG (bH (fK (zX rfl) rfl B_min boot_min Bk (aD Sv (aD Sv aK aL) aL))) aJ) aJ) ?_;refine aG (bQ (Ct hu Sv Es) (aG (bH (fK (tU rfl) rfl B_max boot_max vh (aD Sv (aD Sv aK aL) aL))) aJ) aJ) ?_;refine aG (bQ (Ct hu Sv Es) (aG (bH (Cm hu Sv Sv)) aJ) aJ) ?_;refine aG (bQ (Ct hu Sv Es) (aG (bH (Cm hu Sv Sv)) aJ) aJ) ?_;refine aG (bQ (Ct hu Sv Es) (aG (bH (yW Sv (rE Sv))) aJ) aJ) ?_;exact aG (bH (JV Sv (rE Sv))) aJ
theorem zar (T:Txt K mg C w):RT P w K mg base k f ["word","time","value","other"] "leaf_value" BZ Et:=fun cdv A outer s H E hr=>by
 refine cH hr fun hu=>?_;have nd:=(QL).nd;have B_int:=T.blt "int" (by x_go);refine aG (bQ (Ct hu Sv Es) (aG (bH Sv) aJ) aJ) ?_;refine aG (bQ (Ct hu Sv Es) (aG (bH Sv) aJ) aJ) ?_;refine aG (bQ (Ct hu Sv Es) (aG (bH Sv) aJ) aJ) ?_;exact aG (bH (Cq Ls rfl B_int boot_int Pg (aD Sv aK aL))) aJ
theorem zaI (T:Txt K mg C w)(a_combined:aV P w K mg base k "combined" 3 w6)(a_leaf_value:aV P w K mg base k "leaf_value" 4 xJ):RT P w K mg base k f ["words","time","value","other","results","word","left","right"] "reckoned" Ce Ez:=fun cdv A outer s H E hr=>by
 refine cH hr fun hu=>?_;have nd:=(QW).nd;have B_reversed:=T.blt "reversed" (by x_go);obtain⟨t_NEEDS,m_NEEDS⟩:=T.k_NEEDS;refine aG (bL (i:=4) nd rfl Lv (Ra (lq aK))) ?_;refine aG (sU xbo rfl nd rfl Lv (Ro rfl B_reversed (aD Sv aK aL)) (aG (bQ (Ct hu Sv Es) (aG (zm Sv (zcT (Cw Sv))) aJ) (aG (bQ (RM Sv rfl m_NEEDS.1 m_NEEDS.2) (aG (bL (i:=6) nd rfl Lv (Cw Sv)) (aG (bL (i:=7) nd rfl Lv (Cw Sv)) (aG (zm Sv (bW a_combined hr rfl (aD Sv (aD Sv (aD Sv aK aL) aL) aL) (cnt_cons (cnt_cons (cnt_cons cnt_nil))))) aJ))) (aG (zm Sv (bW a_leaf_value hr rfl (aD Sv (aD Sv (aD Sv (aD Sv aK aL) aL) aL) aL) (cnt_cons (cnt_cons (cnt_cons (cnt_cons cnt_nil)))))) aJ)) aJ)) aJ)) ?_;exact aG (bH (Ek Sv Ei)) aJ
theorem zal (T:Txt K mg C w):RT P w K mg base k f ["self","words"] "Expr.__init__" rD zO:=fun cdv A outer s H E hr=>by
 refine cH hr fun hu=>?_;have nd:=(Ql).nd;have B_tuple:=T.blt "tuple" (by x_go);exact aG (zbX T.cl_Expr T.na_Expr_parts Sv (Cq TV rfl B_tuple boot_tuple zck (aD Sv aK aL))) aJ
theorem zaz (T:Txt K mg C w)(hk0:k0 + 1=k)(a_check_words:aV P w K mg base k "check_words" 3 tZ)(a_Expr___init__:lX P w K mg base k0 C.Expr 2 wQ):RT P w K mg base k f ["words","letters"] "read_expr" Cd Ey:=fun cdv A outer s H E hr=>by
 refine cH hr fun hu=>?_;have hr1:=hr;rw[<-hk0]at hr1;have nd:=(QV).nd;refine aG (RG (bW a_check_words hr rfl (aD Sv (aD Sv (aD Es aK bC) aL) aL) (cnt_cons (cnt_cons (cnt_cons cnt_nil))))) ?_;exact aG (bH (zbR T.cl_Expr a_Expr___init__ hr1 rfl (aD Sv aK aL) (cnt_cons cnt_nil))) aJ
theorem zau (T:Txt K mg C w)(a_reckoned:aV P w K mg base k "reckoned" 4 pQ):RT P w K mg base k f ["self","time","value","other"] "Expr.value" sJ zP:=fun cdv A outer s H E hr=>by
 refine cH hr fun hu=>?_;have nd:=(Qm).nd;exact aG (bH (bW a_reckoned hr rfl (aD (zcz T.cl_Expr T.na_Expr_parts Sv) (aD Sv (aD Sv (aD Sv aK aL) aL) aL) zas) (cnt_cons (cnt_cons (cnt_cons (cnt_cons cnt_nil)))))) aJ
theorem zad (T:Txt K mg C w)(a_held:aV P w K mg base k "held" 1 xg)(a_Expr_value:lY P w K mg base k C.Expr "value" 4 tW):tM P w K mg base k ["time","value","other","expr"] zT g_:=fun f cd cl A outer s H hr=>by
 refine cH hr fun hu=>?_;have nd:=(Qy).nd;exact aG (bH (bW a_held hr rfl (aD (zbU T.cl_Expr a_Expr_value hr (Cy rfl (.inr (.inr zab))) (aD Su (aD Su (aD Su aK aL) aL) aL) (cnt_cons (cnt_cons (cnt_cons cnt_nil)))) aK lB) (cnt_cons cnt_nil))) aJ
theorem zax (T:Txt K mg C w){c Pt:Addr}(ht:PySem.W.tabIn K "change_of"=some (c,Pt))(hc:PySem.W.codeHdIn K c Pt=true)(hB:kE mg base)(a_read_expr:aV P w K mg base k "read_expr" 2 xO):Dz P w K mg base k f ["words","letters","expr","change"] "change_of" yV Eh c:=fun A outer s H E hr=>by
 refine Qj hr fun hu=>?_;have nd:=(Qx).nd;refine JQ rfl ?_ ?_
 ·exact(bL (i:=2) nd rfl (.inr zaj) (bW a_read_expr hr rfl (aD Sv (aD Sv aK aL) aL) (cnt_cons (cnt_cons cnt_nil))))
 exact Qk (Oi (j:=3) ht hc hB nd)
theorem zah (T:Txt K mg C w)(a_change_of__change:gK P w K mg base k g_ 3 tY):tM P w K mg base k ["one","other","later","span","change"] zV kW:=fun f cd cl A outer s H hr=>by
 refine cH hr fun hu=>?_;have nd:=(QT).nd;have B_abs:=T.blt "abs" (by x_go);have B_max:=T.blt "max" (by x_go);refine aG (bQ (SW.st (sW (Ct hu (Ek Su Ei) (Ek Su Ei)) (zp (Ct hu (fK Ti rfl B_abs boot_abs Z7 (aD (aP vg vm (Ek Su Ei) (Ek Su Ei)) aK lA)) (Cy rfl (.inr (.inr zac))))))) (aG (bH (SN.sem (lq aK) lst_is)) aJ) aJ) ?_;refine aG (bL (i:=2) nd rfl Lu (fK (tU rfl) rfl B_max boot_max vh (aD (Ek Su Ei) (aD (Ek Su Ei) aK pD) pD))) ?_;exact aG (bH (SN.sem (lq (aD (gG (aD Su (aD (Ek Su Ei) (aD (Q8 a_change_of__change hr (Cy rfl (.inr (.inr zaa))) (aD Su (aD (Ek Su Ei) (aD (Ek Su Ei) aK pD) pD) aL) (cnt_cons (cnt_cons (cnt_cons cnt_nil)))) aK lB) pD) aL)) aK sV)) lst_is)) aJ
theorem zaA (T:Txt K mg C w){c Pt:Addr}(ht:PySem.W.tabIn K "pairer_of"=some (c,Pt))(hc:PySem.W.codeHdIn K c Pt=true)(hB:kE mg base)(a_change_of:aV P w K mg base k "change_of" 2 w5):Dz P w K mg base k f ["row","span","change","pair"] "pairer_of" vR Ew c:=fun A outer s H E hr=>by
 refine Qj hr fun hu=>?_;have nd:=(QS).nd;have B_int:=T.blt "int" (by x_go);refine JQ rfl ?_ ?_
 ·exact(bL (i:=1) nd rfl (.inr zai) (Cq Ls rfl B_int boot_int Pg (aD (Ek (Ek Sv Ei) Ei) aK pD)))
 refine JQ rfl ?_ ?_
 ·exact(bL (i:=2) nd rfl (.inr zag) (bW a_change_of hr rfl (aD (zdf (Ek Sv Ei) (CN (Wx:=W0) Ei) CP) (aD Es aK bC) pD) (cnt_cons (cnt_cons cnt_nil))))
 exact Qk (Oi (j:=3) ht hc hB nd)
theorem za0 (T:Txt K mg C w)(a_pairer_of:aV P w K mg base k "pairer_of" 1 xM)(a_pairer_of__pair:gK P w K mg base k kW 2 uc):RT P w K mg base k f ["row","feeds","pair","told","one","other"] "paired" B_ Eu:=fun cdv A outer s H E hr=>by
 refine cH hr fun hu=>?_;have nd:=(QM).nd;refine aG (bL (i:=2) nd rfl Lv (bW a_pairer_of hr rfl (aD Sv aK aL) (cnt_cons cnt_nil))) ?_;refine aG (CQ (i:=3) nd rfl Lv (lq aK)) ?_;refine aG (sU xbo rfl nd rfl Lv (CG (Ek Sv Ei)) (aG (sU xbo rfl nd rfl Lv (CG (Ek Sv Ei)) (aG (zcV rfl Lu (Q8 a_pairer_of__pair hr Sv (aD Sv (aD Sv aK aL) aL) (cnt_cons (cnt_cons cnt_nil)))) aJ)) aJ)) ?_;refine Ck ?_;exact aG (bH Sv) aJ
theorem zae (T:Txt K mg C w)(a_paired:aV P w K mg base k "paired" 2 xK):RT P w K mg base k f ["row","feeds","mark"] "told_in_any_order" Ci E_:=fun cdv A outer s H E hr=>by
 refine cH hr fun hu=>?_;have nd:=(QZ).nd;refine aG (bQ (Ct hu (Ek Sv Ei) Es) (aG vV aJ) aJ) ?_;refine aG (bQ (Ct hu (Ek Sv Ei) Es) (aG vV aJ) aJ) ?_;refine aG (bQ (Ct hu (Ek Sv Ei) Es) (aG vV aJ) aJ) ?_;refine aG (bQ (Ct hu (Ek Sv Ei) (gG (aD Es (aD Es aK bC) bC))) (aG vV aJ) aJ) ?_;refine aG (bQ (Ct hu (Ek Sv Ei) Es) (aG vV aJ) aJ) ?_;refine aG (bQ (Ct hu (Ek Sv Ei) Es) (aG (bH (bW a_paired hr rfl (aD Sv (aD Sv aK aL) aL) (cnt_cons (cnt_cons cnt_nil)))) aJ) aJ) ?_;refine aG ?_ ?_
 ·exact vV
 exact aJ
theorem zaO (T:Txt K mg C w)(a_told_in_any_order:aV P w K mg base k "told_in_any_order" 3 xP):RT P w K mg base k f ["row","feeds","mark"] "told_of" Cj Fb:=fun cdv A outer s H E hr=>by
 refine cH hr fun hu=>?_;have nd:=(Q0).nd;have B_sorted:=T.blt "sorted" (by x_go);exact aG (bH (SN.sem (Ru rfl B_sorted (bW a_told_in_any_order hr rfl (aD Sv (aD Sv (aD Sv aK aL) aL) aL) (cnt_cons (cnt_cons (cnt_cons cnt_nil))))) Rz)) aJ
theorem zaG (T:Txt K mg C w):RT P w K mg base k f ["_law_script","_law_k"] "_law_cell_at" Br DY:=fun cdv A outer s H E hr=>by
 refine cH hr fun hu=>?_;have nd:=(Qo).nd;have B_len:=T.blt "len" (by x_go);refine aG (bQ (Ct hu Sv (fK wI rfl B_len xcl yC (aD Sv aK aL))) (aG (bH (Ek Sv Sv)) aJ) aJ) ?_;exact aG (bH Ei) aJ
theorem za4 (T:Txt K mg C w):RT P w K mg base k f ["_law_cell","_law_k","_law_number"] "_law_mixed" Bv Ed:=fun cdv A outer s H E hr=>by
 refine cH hr fun hu=>?_;have nd:=(Qu).nd;refine aG (bL (i:=2) nd rfl Lv (aP dG dH (aP mJ mL (aP dX dZ (aP dX dZ Sv (aP mJ mL Ei Sv)) Ei) Ei) Ei)) ?_;exact aG (bH (aP dG dH (aP mJ mL Sv (aP dX dZ (aP kY k_ Sv Ei) Ei)) Ei)) aJ
theorem zco (T:Txt K mg C w):RT P w K mg base k f ["_law_number","_law_which","_law_some","_law_word","_law_k","_law_at","_law_sign"] "_law_key" Bt Ea:=fun cdv A outer s H E hr=>by
 refine cH hr fun hu=>?_;have nd:=(Qs).nd;have B_len:=T.blt "len" (by x_go);have B_range:=T.blt "range" (by x_go);refine aG (bL (i:=2) nd rfl Lv Es) ?_;refine aG (bL (i:=3) nd rfl Lv Es) ?_;refine aG (sU xbo rfl nd rfl Lv (Rn rfl B_range (aD (aP dX dZ Ei (aP dG dH Sv Ei)) aK lA)) (aG (bL (i:=3) nd rfl Lv (aP dX dZ Sv (Ek Sv (aP dG dH (aP kY k_ Sv (aP dX dZ Ei (aP mJ mL Ei Sv))) Ei)))) aJ)) ?_;refine aG (bL (i:=5) nd rfl Lv (aP dG dH (aP kY k_ Sv Ei) (fK wI rfl B_len xcl yC (aD Sv aK aL)))) ?_;refine aG (bL (i:=6) nd rfl Lv (Ek Sv (aP dG dH (aP dX dZ (JT PySem.F.slot_str_index PySem.F.type_str_index WL Z_ Sv (aD (Ek Sv Sv) aK pD)) Sv) Ei))) ?_;exact aG (bH (aP dX dZ (aP dX dZ (JW Sv CP (CN (Wx:=W0) Sv)) Sv) (JW Sv (CN (Wx:=W0) (aP dX dZ Sv Ei)) CP))) aJ
theorem za6 (T:Txt K mg C w):RT P w K mg base k f ["_law_number"] "_law_value" Bx zR:=fun cdv A outer s H E hr=>by
 refine cH hr fun hu=>?_;have nd:=(Qw).nd;refine aG (bQ (Ct hu (aP dG dH Sv Ei) Ei) (aG (bH (aP vg vm (aP dG dH (aP p7 q_ Sv Ei) (aP dX dZ (aP mJ mL Ei (aP p7 q_ Ei Ei)) Ei)) (aP p7 q_ Ei Ei))) aJ) aJ) ?_;exact aG (bH (aP vg vm (aP dG dH (aP kY k_ Sv Ei) Ei) Ei)) aJ
theorem zaX (T:Txt K mg C w)(a__cell_at:aV P w K mg base k "_law_cell_at" 2 fV)(a__mixed:aV P w K mg base k "_law_mixed" 2 wY)(a__key:aV P w K mg base k "_law_key" 2 wW)(a__value:aV P w K mg base k "_law_value" 1 rO):RT P w K mg base k f ["_law_script","_law_start","_law_many","_law_far","_law_found","_law_k","_law_number","_law_key_here"] "_law_things" Bw Ef:=fun cdv A outer s H E hr=>by
 refine cH hr fun hu=>?_;have nd:=(Qv).nd;have B_range:=T.blt "range" (by x_go);refine aG (CQ (i:=4) nd rfl Lv (lq aK)) ?_;refine aG (sU xbo rfl nd rfl Lv (zb7 rfl B_range (aD Sv (aD (aP dX dZ Sv Sv) aK lA) aL)) (aG (bL (i:=6) nd rfl Lv (bW a__mixed hr rfl (aD (bW a__cell_at hr rfl (aD Sv (aD Sv aK aL) aL) (cnt_cons (cnt_cons cnt_nil))) (aD Sv aK aL) lB) (cnt_cons (cnt_cons cnt_nil)))) (aG (bL (i:=7) nd rfl Lv (bW a__key hr rfl (aD (aP dG dH (bW a__cell_at hr rfl (aD Sv (aD Ei aK bC) aL) (cnt_cons (cnt_cons cnt_nil))) Ei) (aD (aP dG dH (aP kY k_ Sv Ei) Ei) aK lA) lA) (cnt_cons (cnt_cons cnt_nil)))) (aG (J4 rfl Lu (gG (aD (aP dX dZ (aP mJ mL (aP dG dH Sv Ei) Sv) (aP dG dH (aP kY k_ Sv Ei) Ei)) (aD Sv (aD (bW a__value hr rfl (aD (aP kY k_ Sv Ei) aK lA) (cnt_cons cnt_nil)) aK lB) aL) lA))) aJ)))) ?_;refine Ck ?_;exact aG (bH Sv) aJ
theorem zan (T:Txt K mg C w):RT P w K mg base k f ["_law_form","_law_some"] "_law_expression" yU zQ:=fun cdv A outer s H E hr=>by
  refine @cH _ _ _ _ _ hr fun hu=>?_;have nd:=(Qq).nd;refine @aG _ _ _ _ _ _ ?_ ?_
  · refine @CQ _ _ _ 1 _ _ _ _ nd rfl Lv ?_ (by first |rfl |exact .inl rfl |exact .inr rfl |exact fun _ _=>rfl |exact fun _=>rfl |exact⟨rfl,rfl,rfl,rfl⟩ |decide +kernel |kernel_rfl) (by first |rfl |exact .inl rfl |exact .inr rfl |exact fun _ _=>rfl |exact fun _=>rfl |exact⟨rfl,rfl,rfl,rfl⟩ |decide +kernel |kernel_rfl)
    · refine @lq _ _ _ _ _ ?_
      · refine @aD _ _ _ _ _ _ _ ?_ ?_ sV
        · refine @gG _ _ _ _ _ _ _ ?_
          · refine @aD _ _ _ _ _ _ _ Es ?_ bC
            · refine @aD _ _ _ _ _ _ _ Es ?_ bC
              · refine @aD _ _ _ _ _ _ _ Es aK bC
        · refine @aD _ _ _ _ _ _ _ ?_ ?_ sV
          · refine @gG _ _ _ _ _ _ _ ?_
            · refine @aD _ _ _ _ _ _ _ Es ?_ bC
              · refine @aD _ _ _ _ _ _ _ Es ?_ bC
                · refine @aD _ _ _ _ _ _ _ Es aK bC
          · refine @aD _ _ _ _ _ _ _ ?_ ?_ sV
            · refine @gG _ _ _ _ _ _ _ ?_
              · refine @aD _ _ _ _ _ _ _ Es ?_ bC
                · refine @aD _ _ _ _ _ _ _ Es ?_ bC
                  · refine @aD _ _ _ _ _ _ _ Es aK bC
            · refine @aD _ _ _ _ _ _ _ ?_ ?_ sV
              · refine @gG _ _ _ _ _ _ _ ?_
                · refine @aD _ _ _ _ _ _ _ Es ?_ bC
                  · refine @aD _ _ _ _ _ _ _ Es ?_ bC
                    · refine @aD _ _ _ _ _ _ _ Es aK bC
              · refine @aD _ _ _ _ _ _ _ ?_ aK sV
                · refine @gG _ _ _ _ _ _ _ ?_
                  · refine @aD _ _ _ _ _ _ _ Es aK bC
  refine @aG _ _ _ _ _ _ ?_ ?_
  · refine @J4 _ _ _ _ _ _ _ _ _ _ rfl Lu ?_ (by first |rfl |exact .inl rfl |exact .inr rfl |exact fun _ _=>rfl |exact fun _=>rfl |exact⟨rfl,rfl,rfl,rfl⟩ |decide +kernel |kernel_rfl) (by first |rfl |exact .inl rfl |exact .inr rfl |exact fun _ _=>rfl |exact fun _=>rfl |exact⟨rfl,rfl,rfl,rfl⟩ |decide +kernel |kernel_rfl) (by first |rfl |exact .inl rfl |exact .inr rfl |exact fun _ _=>rfl |exact fun _=>rfl |exact⟨rfl,rfl,rfl,rfl⟩ |decide +kernel |kernel_rfl) (by first |rfl |exact .inl rfl |exact .inr rfl |exact fun _ _=>rfl |exact fun _=>rfl |exact⟨rfl,rfl,rfl,rfl⟩ |decide +kernel |kernel_rfl) (by first |rfl |exact .inl rfl |exact .inr rfl |exact fun _ _=>rfl |exact fun _=>rfl |exact⟨rfl,rfl,rfl,rfl⟩ |decide +kernel |kernel_rfl) (by first |rfl |exact .inl rfl |exact .inr rfl |exact fun _ _=>rfl |exact fun _=>rfl |exact⟨rfl,rfl,rfl,rfl⟩ |decide +kernel |kernel_rfl)
    · refine @gG _ _ _ _ _ _ _ ?_
      · refine @aD _ _ _ _ _ _ _ Es ?_ bC
        · refine @aD _ _ _ _ _ _ _ Es ?_ bC
          · refine @aD _ _ _ _ _ _ _ Es ?_ bC
            · refine @aD _ _ _ _ _ _ _ Es ?_ bC
              · refine @aD _ _ _ _ _ _ _ Es ?_ bC
                · refine @aD _ _ _ _ _ _ _ Es ?_ bC
                  · refine @aD _ _ _ _ _ _ _ Es aK bC
  refine Ck ?_;refine @aG _ _ _ _ _ _ ?_ ?_
  · refine @bH _ _ _ _ _ ?_
    · refine @Rg _ _ _ _ _ _ _ _ _ _ Nx Ph Sv Sv (by first |rfl |exact .inl rfl |exact .inr rfl |exact fun _ _=>rfl |exact fun _=>rfl |exact⟨rfl,rfl,rfl,rfl⟩ |decide +kernel |kernel_rfl)
  exact aJ
theorem zb5 (T:Txt K mg C w):RT P w K mg base k f ["_law_form","_law_time","_law_value_here","_law_other","_law_made_here"] "_law_made" Bu Ec:=fun cdv A outer s H E hr=>by
 refine cH hr fun hu=>?_;have nd:=(Qt).nd;have B_max:=T.blt "max" (by x_go);have B_min:=T.blt "min" (by x_go);refine aG (bL (i:=4) nd rfl Lv (aP vg vm Sv Sv)) ?_;refine aG (bQ (Ct hu Sv Ei) (aG (bL (i:=4) nd rfl Lv (aP mJ mL Sv Sv)) aJ) aJ) ?_;refine aG (bQ (Ct hu Sv Ei) (aG (bL (i:=4) nd rfl Lv (aP dX dZ Sv Sv)) aJ) aJ) ?_;refine aG (bQ (Ct hu Sv Ei) (aG (bL (i:=4) nd rfl Lv (fK (tU rfl) rfl B_max boot_max vh (aD Sv (aD Sv aK aL) aL))) aJ) aJ) ?_;refine aG (bQ (Ct hu Sv Ei) (aG (bL (i:=4) nd rfl Lv Sv) aJ) aJ) ?_;refine aG (bQ (Ct hu Sv Ei) (aG (bL (i:=4) nd rfl Lv (aP dX dZ (aP mJ mL Sv Ei) (fK (zX rfl) rfl B_min boot_min Bk (aD Sv (aD Sv aK aL) aL)))) aJ) aJ) ?_;exact aG (bH (fK (tU rfl) rfl B_max boot_max vh (aD (Ri R9 Pj (aP p7 q_ Ei Ei)) (aD (fK (zX rfl) rfl B_min boot_min Bk (aD (aP p7 q_ Ei Ei) (aD Sv aK aL) lA)) aK lB) RK))) aJ
theorem zda (T:Txt K mg C w)(a__made:aV P w K mg base k "_law_made" 4 wX):RT P w K mg base k f ["_law_ones","_law_others","_law_span","_law_form","_law_found","_law_time","_law_key_here","_law_value_here","_law_when","_law_name","_law_number","_law_later"] "_law_due" Bs D_:=fun cdv A outer s H E hr=>by
 refine cH hr fun hu=>?_;have nd:=(Qp).nd;have B_max:=T.blt "max" (by x_go);have B_sorted:=T.blt "sorted" (by x_go);refine aG (CQ (i:=4) nd rfl Lv (lq aK)) ?_;refine aG (RJ xbo rfl (rF (i:=5) nd rfl Lv (rF (i:=6) nd rfl Lv (rF (i:=7) nd rfl Lv JX))) (CG Sv) (aG (RJ xbo rfl (rF (i:=8) nd rfl Lv (rF (i:=9) nd rfl Lv (rF (i:=10) nd rfl Lv JX))) (CG Sv) (aG (bQ (SW.st (zcY (Ct hu Sv Sv) (zb2 (zcA (c1:=.le) (c2:=.le) hu (aP vg vm Sv Sv) Sv (aP dX dZ Sv Sv))))) (aG (bL (i:=11) nd rfl Lv (fK (tU rfl) rfl B_max boot_max vh (aD Sv (aD Sv aK aL) aL))) (aG (J4 rfl Lu (gG (aD Sv (aD Sv (aD (bW a__made hr rfl (aD Sv (aD Sv (aD Sv (aD Sv aK aL) aL) aL) aL) (cnt_cons (cnt_cons (cnt_cons (cnt_cons cnt_nil))))) aK lB) aL) aL))) aJ)) aJ) aJ)) aJ)) ?_;refine Ck ?_;exact aG (bH (SN.sem (Ru rfl B_sorted Sv) Rz)) aJ
theorem zbd (T:Txt K mg C w):RT P w K mg base k f ["_law_found","_law_due_here","_law_one","_law_other"] "_law_alike" Bq DX:=fun cdv A outer s H E hr=>by
 refine cH hr fun hu=>?_;have nd:=(Qn).nd;have B_bool:=T.blt "bool" (by x_go);have B_isinstance:=T.blt "isinstance" (by x_go);have B_len:=T.blt "len" (by x_go);have B_list:=T.blt "list" (by x_go);have B_tuple:=T.blt "tuple" (by x_go);have B_zip:=T.blt "zip" (by x_go);refine aG (bQ (SW.st (sW (J7 (rG (Cu (T:="list") (fun t b h=>Am t "list" b h) Sv rfl B_isinstance rfl B_list boot_list))) (zp (Ct hu (fK wI rfl B_len xcl yC (aD Sv aK aL)) (fK wI rfl B_len xcl yC (aD Sv aK aL)))))) (aG (bH Eb) aJ) aJ) ?_;refine aG (zbc xbo rfl (rF (i:=2) nd rfl Lv (rF (i:=3) nd rfl Lv JX)) rfl B_zip (aD Sv (aD Sv aK aL) aL) (aG (bQ (SW.st (sW (J7 (rG (Cu (T:="tuple") (fun t b h=>Am t "tuple" b h) Sv rfl B_isinstance rfl B_tuple boot_tuple))) (sW (Ct hu Sv Sv) (sW (rG (Cu (T:="bool") (fun t b h=>Am t "bool" b h) (Ek Sv Ei) rfl B_isinstance rfl B_bool boot_bool)) (zp (rG (Cu (T:="bool") (fun t b h=>Am t "bool" b h) (Ek Sv Ei) rfl B_isinstance rfl B_bool boot_bool))))))) (aG (bH Eb) aJ) aJ) aJ)) ?_;exact aG (bH Eb) aJ
theorem zdQ (T:Txt K mg C w)(a_told_of:aV P w K mg base k "told_of" 3 xQ)(a__cell_at:aV P w K mg base k "_law_cell_at" 2 fV)(a__things:aV P w K mg base k "_law_things" 4 tX)(a__expression:aV P w K mg base k "_law_expression" 1 wV)(a__due:aV P w K mg base k "_law_due" 4 wU)(a__alike:aV P w K mg base k "_law_alike" 2 wR):RT P w K mg base k f ["_law_script","_law_far","_law_ones","_law_others","_law_froms","_law_form","_law_span","_law_mark","_law_handed","_law_found"] "law" lg zU:=fun cdv A outer s H E hr=>by
 refine cH hr fun hu=>?_;have nd:=(QK).nd;have B_list:=T.blt "list" (by x_go);have B_str:=T.blt "str" (by x_go);refine aG (bL (i:=1) nd rfl Lv (Ek (SN.sem (lq (aD Ei (aD Ei (aD (aP dX dZ (aP p7 q_ Ei Ei) Ei) aK lA) bC) bC)) lst_is) (aP dG dH (bW a__cell_at hr rfl (aD Sv (aD Ei aK bC) aL) (cnt_cons (cnt_cons cnt_nil))) Ei))) ?_;refine aG (bL (i:=2) nd rfl Lv (bW a__things hr rfl (aD Sv (aD Ei (aD (aP dG dH (aP kY k_ (bW a__cell_at hr rfl (aD Sv (aD Ei aK bC) aL) (cnt_cons (cnt_cons cnt_nil))) Ei) Ei) (aD Sv aK aL) lA) bC) aL) (cnt_cons (cnt_cons (cnt_cons (cnt_cons cnt_nil)))))) ?_;refine aG (bL (i:=3) nd rfl Lv (bW a__things hr rfl (aD Sv (aD Ei (aD (aP dG dH (aP kY k_ (bW a__cell_at hr rfl (aD Sv (aD Ei aK bC) aL) (cnt_cons (cnt_cons cnt_nil))) Ei) Ei) (aD Sv aK aL) lA) bC) aL) (cnt_cons (cnt_cons (cnt_cons (cnt_cons cnt_nil)))))) ?_;refine aG (bL (i:=4) nd rfl Lv (gG (aD Es (aD Es aK bC) bC))) ?_;refine aG (bQ (Ct hu (aP dG dH (bW a__cell_at hr rfl (aD Sv (aD Ei aK bC) aL) (cnt_cons (cnt_cons cnt_nil))) Ei) Ei) (aG (bL (i:=3) nd rfl Lv (SN.sem (J0 rfl B_list Sv) Gn)) (aG (bL (i:=4) nd rfl Lv (gG (aD Es (aD Es aK bC) bC))) aJ)) aJ) ?_;refine aG (bL (i:=5) nd rfl Lv (aP dG dH (bW a__cell_at hr rfl (aD Sv (aD Ei aK bC) aL) (cnt_cons (cnt_cons cnt_nil))) Ei)) ?_;refine aG (bL (i:=6) nd rfl Lv (aP mJ mL (aP dG dH (aP kY k_ (bW a__cell_at hr rfl (aD Sv (aD Ei aK bC) aL) (cnt_cons (cnt_cons cnt_nil))) Ei) Ei) Sv)) ?_;refine aG (bL (i:=7) nd rfl Lv (aP dG dH (aP kY k_ (bW a__cell_at hr rfl (aD Sv (aD Ei aK bC) aL) (cnt_cons (cnt_cons cnt_nil))) Ei) (aP dX dZ (aP p7 q_ Ei Ei) Ei))) ?_;refine aG (bQ (Ct hu (aP dG dH (aP kY k_ (bW a__cell_at hr rfl (aD Sv (aD Ei aK bC) aL) (cnt_cons (cnt_cons cnt_nil))) Ei) Ei) Ei) (aG (bL (i:=7) nd rfl Lv (aP p7 q_ Ei Ei)) aJ) aJ) ?_;refine aG (bL (i:=8) nd rfl Lv (SN.sem (lq (aD (SN.sem (J0 rfl B_list Sv) Gn) (aD (SN.sem (J0 rfl B_list Sv) Gn) aK lB) lB)) lst_is)) ?_;refine aG (bL (i:=9) nd rfl Lv (bW a_told_of hr rfl (aD (gG (aD Es (aD Es (aD Sv (aD (aP Yp Z8 (gG (aD (Cq TF rfl B_str boot_str zcW (aD Sv aK aL)) aK lB)) (bW a__expression hr rfl (aD Sv aK aL) (cnt_cons cnt_nil))) aK lA) aL) bC) bC)) (aD Sv (aD Sv aK aL) aL) sV) (cnt_cons (cnt_cons (cnt_cons cnt_nil))))) ?_;exact aG (bH (yW (Cm hu Sv (SN.sem (lq (aD Sv (aD Sv aK aL) aL)) lst_is)) (rE (bW a__alike hr rfl (aD Sv (aD (bW a__due hr rfl (aD Sv (aD Sv (aD Sv (aD Sv aK aL) aL) aL) aL) (cnt_cons (cnt_cons (cnt_cons (cnt_cons cnt_nil))))) aK lB) aL) (cnt_cons (cnt_cons cnt_nil)))))) aJ
end
noncomputable def tabs:List (Str×FnT):=[("change_of",g_),("pairer_of",kW)]
noncomputable def rR:Nat:=12
def lR:G:=M_
abbrev wNs:String:="Jh Jz JC Jt Jv Jw zeh Jj JD zdZ zd7 q_1 r_1 q_2 r_2 Js zeF zdx KY zeo zer zdB zdI zc9 zea zep zdn Jf zd6 zew zdE zcv zcw zcO q_n r_n zci zd3 zdo zbA zcP Ju zbY zdb zbK zcj zdX Ji zdM zeb zdF zeg zeD zcI zdy zcg zdd zdV zde Jx Ja zdT zee zdH zen zes zdr zcU zcS zdg IW zcp zch Xj Xk Ye Xq XR Yb X8 Il Ik Ii Ih Xn X3 Xx Xz XC XH XM XJ Yh Yg Yd Yc sizeLine_eq Option.map_some Option.map_none List.getElem?_cons_zero List.getElem?_cons_succ List.set_cons_zero List.set_cons_succ List.map_cons List.map_nil List.length_cons List.length_nil List.length_map List.replicate List.cons_append List.nil_append List.append_nil reduceCtorEq if_true if_false reduceIte Bool.not_true Bool.not_false Nat.reduceSub Nat.reduceAdd Nat.reduceLeDiff Nat.reduceLT Int.reduceLT Int.reduceLE Int.reduceAdd Int.reduceSub Int.reduceMul Int.reduceNeg Int.reduceAbs Int.reduceEq Int.reducePow Int.reduceMod Int.reduceDiv Int.reduceToNat Nat.zero_le and_true true_and and_self or_true true_or Bool.false_eq_true decide_eq_true_eq decide_true decide_false Bool.not_eq_true' decide_eq_false_iff_not not_true_eq_false not_false_eq_true eq_self zc8 zcu zbT zcL zcG Option.getD_some zeC zdC ty_int ty_str zd5 zcX zdc zcJ zeH zdR KJ zdN zei zed zdA zcm XS Xi List.isEmpty_cons List.isEmpty_nil Bool.true_eq_false Bool.and_self Bool.and_true Bool.true_and Bool.and_false Bool.false_and zb6 zby zbP zb3 zbZ zdU PB zcr zeB zez zcE zc5 zc0 zbQ zdu zdK zc2 zcq zej zet zcF zcD Jy Je Ky I_ Jc Jb yG Pq yF Pn Xl Xy XD Im Ij Xm Yi Xr X_ Xp X6 Xu Xv Xw Kw RW zeA Bool.true_or Bool.false_or Bool.or_true Bool.or_false at0 at1 at2 S9 t_ s_end w_end zbH Jd PL zdw zef zd2 zdv"
local macro_rules | `(tactic| z_go)=>do
 let l <-(wNs.splitOn " ").toArray.mapM fun n=> `(Lean.Parser.Tactic.simpLemma| $(Lean.mkIdent n.toName):term)
 `(tactic| try simp only[$l,*])
variable {M:Mm}
theorem zd9 (c:Nat):Fq [.val (.str ⟨#[c]⟩)] M=some (.v (.bl (!gY c)),M):=by
 unfold Fq;z_go;rw[Vm]
theorem M9 (x:Str)(hx:x.length<=100000):xq [.str x] M=some (.v (.bl (fU (cd x))),M):=by
 unfold xq En;z_go;rw[show x.cps.toList=cd x from rfl];simp only[wL,eq_0];have hl:(cd x).length<=100000:=by rw[<-d9];exact hx
 by_cases h:cd x=[]
 ·simp only[h];z_go;rfl
 ·simp only[h];rw[Ma (fun c=>D.str ⟨#[c]⟩) (fun c=>D.bl (!gY c)) (cd x) [] (fun c _=>zd9 c) (by rw[xaP];simp;omega)];z_go;rw[show((cd x).map fun c=>D.bl (!gY c))=((cd x).map fun c=> !gY c).map D.bl by rw[List.map_map];rfl,Ln];z_go;simp only[S8];obtain⟨c,r,e⟩:=List.exists_cons_of_ne_nil h;unfold fU;cases hd:(cd x).all gY
  ·z_go
  ·z_go;rw[xab (show x.length<=16777216 by omega),show x.cps.toList=cd x from rfl];simp only[h,eq_0];rw[e,show cJ (c::r) 0=some c by simp[cJ,pU]]
   by_cases h0:(c::r)=[48]
   ·simp only[h0];z_go
   ·simp only[h0];z_go;simp only[eq_0,zY,List.head?_cons,xdc,xcg];z_go
theorem U8 (x:Str)(hx:x.length<=10000):xH [.str x] M=some (.v (.bl (good (cd x))),M):=by
 unfold xH Er;z_go;rw[zdz];have hl:=d9 x
 by_cases h:(cd x).head? =some 45
 ·obtain⟨r,e⟩:∃r,cd x=45::r:=by
   cases hc:cd x with
   |nil=>rw[hc]at h;cases h
   |cons c r=>rw[hc]at h;simp at h;exact⟨r,by rw[h]⟩
  have hs:=zbg e;have hr:(Txt.slice x (some 1) none).length<=10000:=by
   rw[d9,hs];rw[e]at hl
   simp at hl
   omega
  simp only[h];z_go;rw[xab (show x.length<=16777216 by omega)];z_go;simp only[MF,M9 _ (show(Txt.slice x (some 1) none).length<=100000 by omega),hs];unfold good gZ;rw[xab h];simp only[e,xdE]
  by_cases h2:45::r=[45,48]
  ·simp only[h2];z_go
  ·simp only[h2];z_go
 ·simp only[h];z_go;simp only[MF,M9 _ (show x.length<=100000 by omega)];unfold good gZ;rw[xai h]
  by_cases h2:cd x=[45,48]
  ·simp only[h2];z_go
  ·simp only[h2];z_go
def gB (x:Str):Bool:=good (cd x) && decide ((gZ (cd x)).length<=20)
theorem g_num (x:Str)(hx:x.length<=10000):xG [.str x] M=some (.v (.bl (gB x)),M):=by
 unfold xG Ep gB;z_go;simp only[U8 x hx];z_go;rw[xab (show x.length<=16777216 by omega)];z_go;cases hg:good (cd x)
 ·z_go
 ·have hl:=Wl hg;have:=PyProof.Rows.len_lstripChars x (Str.ofString "-");z_go;rw[xab (by omega),hl];z_go;congr 4;rw[xaF];simp only[xaL];omega
noncomputable def tvw (x:Str):Bool:=decide (x="t") || decide (x="v") || decide (x="w")
def lf (x L:Str):Bool:=gB x || (tvw x && pR x L)
theorem Yj {x:Str}:aF .isin (.str x) (.tup [.str "t",.str "v",.str "w"])=some (.bl (tvw x)):=by
 have q:∀y:Str,D.eq (.str y) (.str x)=decide (x=y):=fun y=>by
  simp only[D.eq];rw[xaF]
  simp
  exact eq_comm
 unfold aF bN m9 tvw;simp only[D.flat,xbr,List.all_nil,xcv,xba,xb8,List.any_nil,Bool.or_false,q,xaT];rw[Bool.or_assoc]
theorem Nb (x L:Str)(hx:x.length<=10000):xu [.str x,.str L] M=some (.v (.bl (lf x L)),M):=by
 unfold xu Eo lf;z_go;simp only[g_num x hx];cases gB x
 ·z_go;rw[Yj];cases tvw x
  ·z_go
  ·z_go
 ·z_go
theorem WD {x z c:Str}{env:E3.Env}{k:Nat}(he:env[k]? =some (.val (.str x)))(hx:x.length<=100000)(hz:z.length<=1000):n6 c (fH (h_ (aj k) (fB z fD))) env M=some (.ex c 0,M):=by
 rw[Jg,I_,Pq,Jj,he,JD,Ju,RW,xaP,xab (show x.length<=16777216 by omega),yG,xaP];have e:(Str.empty ++ x).length=x.length:=by rw[xca,show Str.empty.length=0 from rfl];omega
 rw[xab (by omega),Jb,xaP,xab (by rw[xca];omega),Jc,xaP,xab (by rw[xca];omega)];rfl
theorem Wz {x z c:Str}{env:E3.Env}{k:Nat}(he:env[k]? =some (.val (.str x)))(hx:(reprText x).length<=100000)(hz:z.length<=1000):n6 c (fH (lQ (aj k) (fB z fD))) env M=some (.ex c 0,M):=by
 rw[Jg,I_,Pn,Jj,he,JD,Ju];have e:(Str.empty ++ reprText x).length=(reprText x).length:=by rw[xca,show Str.empty.length=0 from rfl];omega
 rw[yF,xaP,xab ⟨by omega,by omega⟩,Jb,xaP,xab (by rw[xca];omega),Jc,xaP,xab (by rw[xca];omega)];rfl
def sm (x:Str):Prop:=x.length<=9000/\∀c∈cd x,c<4294967296
theorem sm.rp {x:Str}(h:sm x):(reprText x).length<=100000:=by
 have:=StrLaws.reprText_len x (fun c hc=>h.2 c hc);have:=h.1;omega
noncomputable def NT:List (Str×(Str×Str×Nat)):=[("+","number","number",2),("-","number","number",2),("*","number","number",2),("least","number","number",2),("most","number","number",2),("<","truth","number",2),("=","truth","number",2),("not","truth","truth",1),("and","truth","truth",2),("or","truth","truth",2)]
noncomputable def cB (x:Str):Option (Str×Str×Nat):=(NT.find? fun p=>decide (p.1=x)).map (·.2)
noncomputable def fY (q:Str×Str×Nat):D:=.tup [.str q.1,.str q.2.1,.int q.2.2]
theorem zcK:sY=NT.map fun p=>(p.1,fY p.2):=rfl
theorem pZ {x:Str}:cZ sY x=(cB x).map fY:=by
 rw[zcK];unfold cZ cB;rw[List.find?_map];show Option.map _ (Option.map _ (NT.find? fun p=>decide (p.1=x)))=_;cases NT.find? fun p=>decide (p.1=x)<;>rfl
theorem GK {x:Str}{q:Str×Str×Nat}(h:cB x=some q):(x,q)∈NT:=by
 unfold cB at h;rw[xad]at h;obtain⟨p,hp,rfl⟩:=h;have h1:=List.find?_some hp;have h2:=List.mem_of_find?_eq_some hp;rw[<-xbD h1];exact h2
theorem Xh:NT.all (fun p=>(decide (p.2.2.2=1) || decide (p.2.2.2=2)) && (!gB p.1 && (!tvw p.1 && decide (p.1.length<=5))))=true:=by x_go
theorem Ig {x:Str}{q:Str×Str×Nat}(h:cB x=some q):(q.2.2=1\/q.2.2=2)/\gB x=false/\tvw x=false/\x.length<=5:=by
 have:=xaX.mp Xh _ (GK h);simp only[xam,xbQ,xaL,xdb]at this;exact this
theorem WX {x:Str}(h:gB x=true\/tvw x=true):cB x=none:=by
  cases hn:cB x with
  |none=>rfl
  |some d=>
    obtain⟨_,h1,h2,_⟩:=Ig hn;rw[h1,h2]at h;rcases h with h |h<;>cases h
theorem zeK {x L:Str}(h:lf x L=true):cB x=none:=by
 unfold lf at h;rw[xbQ,xam]at h;exact WX (h.imp id (·.1))
noncomputable def gJ (a:Str):Nat->List Str->Option (List Str)
 |0,ks=>some ks
 |_ + 1,[]=>none
 |n + 1,b::ks=>if b=a then gJ a n ks else none
noncomputable def stepK (L x:Str) (ks:List Str):Option (List Str):=match cB x with
 |some q=>(gJ q.2.1 q.2.2 ks).map (q.1:: ·)
 |none=>if lf x L=true then some ("number"::ks) else none
noncomputable def runK (L:Str):List Str->List Str->Option (List Str)
 | [],ks=>some ks
 |x::xs,ks=>(stepK L x ks).bind (runK L xs)
theorem yJ {L:Str}:∀{xs ys ks:List Str},runK L (xs ++ ys) ks=(runK L xs ks).bind (runK L ys)
  | [],_,_=>rfl
  |x::xs,ys,ks=>by
    rw[xbv,runK,runK]
    cases stepK L x ks with
    |none=>rfl
    |some k=>exact yJ
abbrev kc (ks:List Str):E3.Cl:=.lst (ks.map D.str).reverse
theorem Bl {k:Nat}{d:D}{ds:List D}:nU M k (d::ds).reverse (d::ds).reverse[(d::ds).reverse.length - 1]? =some (.v d,M.set k (.lst ds.reverse)):=by
 have e1:(d::ds).reverse[(d::ds).reverse.length - 1]? =some d:=by simp
 have e2:(d::ds).reverse.dropLast=ds.reverse:=by simp
 rw[e1,PB,e2]
theorem Kz {x:Str}{q:Str×Str×Nat}{i:Int}{ks:List Str}(hl:x.length<=5):Gm [.val (.str x),.val (.ref M.length),.val (fY q),.val (.int i)] (M ++ [kc ks])=match ks with
    | []=>some (.ex "NoExpr" 0,M ++ [kc []])
    |b::ks=>if b=q.2.1 then some (.nx [.val (.str x),.val (.ref M.length),.val (fY q),.val (.int i)],M ++ [kc ks]) else some (.ex "NoExpr" 0,M ++ [kc ks]):=by
  have mg:∀N:Mm,n6 "NoExpr" (fH (h_ (aj 0) (fB " needs other words behind it" fD))) [.val (.str x),.val (.ref M.length),.val (fY q),.val (.int i)] N=some (.ex "NoExpr" 0,N):=fun N=>WD (M:=N) (k:=0) rfl (show x.length<=100000 by omega) (by x_go);unfold Gm kc fY;unfold fY at mg
  cases ks with
  |nil=>
    z_go;rw[show([]:List D).reverse=[] from rfl];z_go;rw[mg];rfl
  |cons b ks=>
    z_go;rw[List.isEmpty_reverse];z_go;rw[Bl];z_go
    by_cases h:b=q.2.1
    · simp only[h];z_go
    · simp only[h];z_go;rw[mg];rfl
theorem zdq {x:Str}{q:Str×Str×Nat}(h:cB x=some q)(ks:List Str):(∃ks',gJ q.2.1 q.2.2 ks=some ks'/\u5 [.str x,.ref M.length] (M ++ [kc ks])=some (.v .non,M ++ [kc ks']))\/(gJ q.2.1 q.2.2 ks=none/\∃ks',u5 [.str x,.ref M.length] (M ++ [kc ks])=some (.x "NoExpr" 0,M ++ [kc ks'])):=by
  obtain⟨hn,_,_,hl⟩:=Ig h;unfold u5 EY;z_go;rw[pZ,h];z_go;have i2:∀N:Mm,mapR N (bB (fY q) (.int 2))=some (.v (.int q.2.2),N):=fun N=>by
    unfold fY;z_go
  have w0:∀N:Mm,vw N (fY q)=fY q:=fun N=>rfl;simp only[w0,i2];z_go;rcases hn with hn |hn
  · rw[hn,JB (by omega),show((List.range ((1:Nat):Int).toNat).map fun(k:Nat)=>D.int (0 + k))=[.int 0] from rfl];z_go;rw[Kz hl]
    cases ks with
    |nil=>exact .inr ⟨rfl,[],rfl⟩
    |cons b ks=>
      dsimp only;unfold gJ
      by_cases hb:b=q.2.1
      · rw[xab hb,xab hb];exact .inl ⟨ks,rfl,rfl⟩
      · rw[xai hb,xai hb];exact .inr ⟨rfl,ks,rfl⟩
  · rw[hn,JB (by omega),show((List.range ((2:Nat):Int).toNat).map fun(k:Nat)=>D.int (0 + k))=[.int 0,.int 1] from rfl];z_go;rw[Kz hl]
    cases ks with
    |nil=>exact .inr ⟨rfl,[],rfl⟩
    |cons b ks=>
      dsimp only;unfold gJ
      by_cases hb:b=q.2.1
      · rw[xab hb,xab hb];z_go;rw[Kz hl]
        cases ks with
        |nil=>exact .inr ⟨rfl,[],rfl⟩
        |cons b ks=>
          dsimp only;unfold gJ
          by_cases hb:b=q.2.1
          · rw[xab hb,xab hb];exact .inl ⟨ks,rfl,rfl⟩
          · rw[xai hb,xai hb];exact .inr ⟨rfl,ks,rfl⟩
      · rw[xai hb,xai hb];exact .inr ⟨rfl,ks,rfl⟩
theorem NZ {ks:List Str}{y:Str}:(ks.map D.str).reverse ++ [D.str y]=((y::ks).map D.str).reverse:=by rw[xaJ,xbc]
theorem Ua {d0:D}{x L wt:Str}{ks:List Str}(hx:sm x)(hk:ks.length<1000):(∃ks',stepK L x ks=some ks'/\pX [.val d0,.val (.str L),.val (.str wt),.val (.ref M.length),.val (.str x)] (M ++ [kc ks])=some (.nx [.val d0,.val (.str L),.val (.str wt),.val (.ref M.length),.val (.str x)],M ++ [kc ks']))\/(stepK L x ks=none/\∃ks',pX [.val d0,.val (.str L),.val (.str wt),.val (.ref M.length),.val (.str x)] (M ++ [kc ks])=some (.ex "NoExpr" 0,M ++ [kc ks'])):=by
  have mg:=Wz (M:=M ++ [kc ks]) (c:="NoExpr") (z:=" may not stand here") (k:=4) (env:=[.val d0,.val (.str L),.val (.str wt),.val (.ref M.length),.val (.str x)]) rfl hx.rp (by x_go);unfold pX stepK
  cases hn:cB x with
  |some q=>
    have i0:∀N:Mm,mapR N (bB (fY q) (.int 0))=some (.v (.str q.1),N):=fun N=>by
      unfold fY;z_go
    have w0:∀N:Mm,vw N (fY q)=fY q:=fun N=>rfl;dsimp only;rcases zdq (M:=M) hn ks with⟨ks',e1,e2⟩ |⟨e1,ks',e2⟩
    · have hk':ks'.length<=ks.length:=by
        have:∀(n:Nat) (ks ks':List Str),gJ q.2.1 n ks=some ks'->ks'.length<=ks.length:=fun n=>by
          induction n with
          |zero=>intro ks ks' h;cases h;exact xah _
          |succ n ih=>
            intro ks ks' h
            cases ks with
            |nil=>cases h
            |cons b ks=>
              unfold gJ at h;split at h
              · have:=ih ks ks' h;rw[xao];omega
              · cases h
        exact this _ _ _ e1
      refine .inl ⟨q.1::ks',by rw[e1];rfl,?_⟩;z_go;rw[pZ,hn];simp only[xaT,xc2];z_go;rw[e2];z_go;rw[pZ,hn];z_go;simp only[w0,i0];unfold kc;z_go;rw[xaE,xar,xab (by omega),NZ];z_go
    · refine .inr ⟨by rw[e1];rfl,ks',?_⟩;z_go;rw[pZ,hn];simp only[xaT,xc2];z_go;rw[e2];rfl
  |none=>
    dsimp only;cases hf:lf x L
    · refine .inr ⟨rfl,ks,?_⟩;z_go;rw[pZ,hn];simp only[xdx,xc3];z_go;rw[Nb x L (by have:=hx.1;omega),hf];z_go;rw[mg];rfl
    · refine .inl ⟨"number"::ks,rfl,?_⟩;z_go;rw[pZ,hn];simp only[xdx,xc3];z_go;rw[Nb x L (by have:=hx.1;omega),hf];unfold kc;z_go;rw[xaE,xar,xab (by omega),NZ];z_go
theorem zaQ {L x:Str}{ks ks':List Str}(h:stepK L x ks=some ks'):ks'.length<=ks.length + 1:=by
  have tk:∀(a:Str) (n:Nat) (ks ks':List Str),gJ a n ks=some ks'->ks'.length<=ks.length:=fun a n=>by
    induction n with
    |zero=>intro ks ks' h;cases h;exact xah _
    |succ n ih=>
      intro ks ks' h
      cases ks with
      |nil=>cases h
      |cons b ks=>
        unfold gJ at h;split at h
        · have:=ih ks ks' h;rw[xao];omega
        · cases h
  unfold stepK at h;split at h
  · rw[xad]at h;obtain⟨k1,h1,rfl⟩:=h;have:=tk _ _ _ _ h1;rw[xao];omega
  · split at h
    · cases h;rw[xao];omega
    · cases h
theorem JG {L:Str}:∀{xs ks ks':List Str},runK L xs ks=some ks'->ks'.length<=ks.length + xs.length
  | [],_,_,h=>by cases h;exact xbJ _ _
  |x::xs,ks,ks',h=>by
    unfold runK at h;rw[xdu]at h;obtain⟨k1,h1,h2⟩:=h;have:=zaQ h1;have:=JG h2;rw[xao];omega
theorem J6:∀ys:List Str,D.deps (ys.map D.str)=0
 | []=>by simp[D.deps]
 |y::ys=>by simp[D.deps,D.dep,J6 ys]
theorem RL:∀(as bs:List Str),D.eqs (as.map D.str) (bs.map D.str)=decide (as=bs)
  | [],[]=>by simp[D.eqs]
  | [],b::bs=>by simp[D.eqs]
  |a::as,[]=>by simp[D.eqs]
  |a::as,b::bs=>by
    simp only[xaJ,D.eqs,D.eq,RL as bs];rw[xaF]
    simp
theorem X7 {as bs:List Str}:aF .ne (.lst (as.map D.str)) (.lst (bs.map D.str))=some (.bl (!decide (as=bs))):=by
 unfold aF bN m_;rw[xab ⟨by simp[cQ,D.flat,D.dep,J6],by simp[D.dep,J6]⟩];simp only[D.eq,RL,xaT]
theorem X4 {ks:List Str}{wt:Str}:aF .ne (.lst (ks.map D.str).reverse) (.lst [.str wt])=some (.bl (!decide (ks=[wt]))):=by
 rw[<-xcy,show [D.str wt]=[wt].map D.str from rfl,X7];have:(ks.reverse=[wt])=(ks=[wt]):=propext ⟨fun h=>by rw[<-List.reverse_reverse ks,h];rfl,fun h=>by rw[h];rfl⟩;simp only[this]
def KZ (M:Mm)(d0:D)(L wt:Str)(ws:List Str)(o:E3.OS):Prop:=(∃ks s4,o=some (.nx [.val d0,.val (.str L),.val (.str wt),.val (.ref M.length),s4],M ++ [kc ks])/\runK L ws.reverse []=some ks)\/(runK L ws.reverse []=none/\∃ks,o=some (.ex "NoExpr" 0,M ++ [kc ks]))
theorem take_snoc {ws:List Str}{k:Nat}{x:Str}(h:ws[k]? =some x):ws.take (k + 1)=ws.take k ++ [x]:=by
 rw[List.take_add_one,h];rfl
theorem T_ {d0:D}{L wt:Str}{ws:List Str}(hs:∀x∈ws,sm x)(hl:ws.length<=900):KZ M d0 L wt ws (loopS 4 pX (ws.map D.str).reverse [.val d0,.val (.str L),.val (.str wt),.val (.ref M.length),.un] (M ++ [kc []])):=by
 refine A_ (KZ M _ L wt ws) (fun k env N=>∃ks s4,env=[.val d0,.val (.str L),.val (.str wt),.val (.ref M.length),s4]/\N=M ++ [kc ks]/\runK L (ws.reverse.take k) []=some ks) ⟨[],.un,rfl,rfl,by rw[List.take_zero];rfl⟩ ?_ ?_
 ·rintro k d env N hd ⟨ks,s4,rfl,rfl,hk⟩;rw[<-xcy,xan,xad]at hd;obtain⟨x,hx,rfl⟩:=hd;refine⟨by show 4<5;decide,?_⟩;have hlen:=JG hk;have hkl:(ws.reverse.take k).length<=ws.length:=by rw[xbG,xaE];exact Nat.min_le_right _ _
  rw[xcN]at hlen;show Step _ _ (pX [.val d0,.val (.str L),.val (.str wt),.val (.ref M.length),.val (.str x)] (M ++ [kc ks]));rcases Ua (M:=M) (d0:=d0) (L:=L) (wt:=wt) (ks:=ks) (hs x (by have:=xau hx;simpa using this)) (by omega) with⟨ks',e1,e2⟩ |⟨e1,ks',e2⟩
  ·rw[e2];refine⟨ks',_,rfl,rfl,?_⟩;rw[take_snoc hx,yJ,hk];show(stepK L x ks).bind _=_;rw[e1];rfl
  ·rw[e2];refine .inr ⟨?_,ks',rfl⟩;have:ws.reverse=ws.reverse.take k ++ x::ws.reverse.drop (k + 1):=by
    have hlt:=(xak.mp hx).1;have hxe:=(xak.mp hx).2;rw[<-hxe, <-xa6 hlt,xdF]
   rw[this,yJ,hk];show(stepK L x ks).bind _=_;rw[e1];rfl
 ·rintro env N ⟨ks,s4,rfl,rfl,hk⟩;rw[xaE,xar, <-xaE,List.take_length]at hk;exact .inl ⟨ks,s4,rfl,hk⟩
theorem T9 {L wt:Str}{ws:List Str}(hs:∀x∈ws,sm x)(hl:ws.length<=900):(runK L ws.reverse []=some [wt]/\tZ [.tup (ws.map D.str),.str L,.str wt] M=some (.v .non,M ++ [kc [wt]]))\/(runK L ws.reverse []≠some [wt]/\∃ks,tZ [.tup (ws.map D.str),.str L,.str wt] M=some (.x "NoExpr" 0,M ++ [kc ks])):=by
 have lp:=T_ (M:=M) (d0:=.tup (ws.map D.str)) (L:=L) (wt:=wt) hs hl;unfold tZ Ej;z_go;have e0:loopS 4 pX (ws.map D.str).reverse [.val (.tup (ws.map D.str)),.val (.str L),.val (.str wt),.val (.ref M.length),.un] (M ++ [.lst []])=loopS 4 pX (ws.map D.str).reverse [.val (.tup (ws.map D.str)),.val (.str L),.val (.str wt),.val (.ref M.length),.un] (M ++ [kc []]):=rfl;rw[e0];rcases lp with⟨ks,s4,e,hk⟩ |⟨hk,ks,e⟩
 ·rw[e];unfold kc;z_go;rw[X4]
  by_cases h:ks=[wt]
  ·subst h;refine .inl ⟨hk,?_⟩;z_go
  ·refine .inr ⟨fun z=>h (by rw[hk]at z;exact xay z),ks,?_⟩;simp only[h];z_go;rw[Jg];z_go
 ·rw[e];refine .inr ⟨by rw[hk];exact nofun,ks,rfl⟩
theorem Vn {ws:List Str}:wQ [.ref M.length,.tup (ws.map D.str)] (M ++ [.obj "Expr" []])=some (.v .non,M ++ [.obj "Expr" [("parts",.tup (ws.map D.str))]]):=by
 unfold wQ zO;z_go;rw[Uw (k:=M.length) (fs:=[]) (M1:=M ++ [.obj "Expr" []]) (M2:=M ++ [.obj "Expr" []]) (x:=.tup (ws.map D.str)) ?_ ?_ t_ (by decide),s_end]
 ·rfl
 ·z_go;rfl
 ·z_go
def Vk (k:Str)(d:D)(m:Nat):Prop:=(k="number"/\∃i:Int,d=.int i/\i.natAbs<2 ^ (210 * m))\/(k="truth"/\∃b,d=.bl b)
inductive TyS:List Str->List D->Nat->Prop
 |nil:TyS [] [] 0
 |cons {k:Str} {d:D} {ks:List Str} {ds:List D} {m n:Nat}:Vk k d m->TyS ks ds n->TyS (k::ks) (d::ds) (m + n)
noncomputable def fZ (x:Str) (a b:D):D:=match a,b with
 |.int i,.int j=>if x="+" then .int (i + j) else if x="-" then .int (i - j) else if x="*" then .int (i * j) else if x="least" then .int (if j<i then j else i) else if x="most" then .int (if j > i then j else i) else if x="<" then .bl (decide (i<j)) else .bl (decide (i=j))
 |.bl p,.bl q=>if x="and" then .bl (p && q) else .bl (p || q)
 |_,_=>.non
theorem Ay {n m:Nat}(hm:m<=47)(h:n<2 ^ (210 * m)):n.log2<10000:=by
 by_cases h0:n=0
 ·rw[h0];decide
 ·have:=(Nat.log2_lt h0).mpr h;omega
theorem vo {n a b:Nat}(h:n<2 ^ (210 * a))(hab:a<=b):n<2 ^ (210 * b):=xaf h (xb7 (by decide) (by omega))
theorem zcd {i j:Int}{a b:Nat}(hi:i.natAbs<2 ^ (210 * a))(hj:j.natAbs<2 ^ (210 * b)):(i + j).natAbs<2 ^ (210 * (a + b + 1))/\(i - j).natAbs<2 ^ (210 * (a + b + 1))/\(i * j).natAbs<2 ^ (210 * (a + b + 1)):=by
 have h1:=vo hi (xbJ a b);have h2:=vo hj (Nat.le_add_left b a);have h3:2 ^ (210 * (a + b)) + 2 ^ (210 * (a + b))<=2 ^ (210 * (a + b + 1)):=by
  rw[<-Nat.two_mul, <-Nat.pow_succ'];exact xb7 (by decide) (by omega)
 refine⟨by omega,by omega,?_⟩;rw[Int.natAbs_mul];have h4:i.natAbs * j.natAbs<2 ^ (210 * a) * 2 ^ (210 * b):=Nat.mul_lt_mul_of_lt_of_le hi (xch hj) (Nat.pos_of_ne_zero (by intro z;rw[z]at hj;exact absurd hj (xdw _)));rw[<-Nat.pow_add,show 210 * a + 210 * b=210 * (a + b) by omega]at h4;exact xaf h4 (xb7 (by decide) (by omega))
theorem Oq {x:Str}{q:Str×Str×Nat}(h:cB x=some q)(h2:q.2.2=2):(x="+"\/x="-"\/x="*"\/x="least"\/x="most")/\q.1="number"/\q.2.1="number"\/(x="<"\/x="=")/\q.1="truth"/\q.2.1="number"\/(x="and"\/x="or")/\q.1="truth"/\q.2.1="truth":=by
 have:=GK h;unfold NT at this;simp only[xav,xbj,xcz,xdM]at this;rcases this with⟨rfl,rfl⟩ |⟨rfl,rfl⟩ |⟨rfl,rfl⟩ |⟨rfl,rfl⟩ |⟨rfl,rfl⟩ |⟨rfl,rfl⟩ |⟨rfl,rfl⟩ |⟨rfl,rfl⟩ |⟨rfl,rfl⟩ |⟨rfl,rfl⟩
 ·exact .inl ⟨.inl rfl,rfl,rfl⟩
 ·exact .inl ⟨.inr (.inl rfl),rfl,rfl⟩
 ·exact .inl ⟨.inr (.inr (.inl rfl)),rfl,rfl⟩
 ·exact .inl ⟨.inr (.inr (.inr (.inl rfl))),rfl,rfl⟩
 ·exact .inl ⟨.inr (.inr (.inr (.inr rfl))),rfl,rfl⟩
 ·exact .inr (.inl ⟨.inl rfl,rfl,rfl⟩)
 ·exact .inr (.inl ⟨.inr rfl,rfl,rfl⟩)
 ·cases h2
 ·exact .inr (.inr ⟨.inl rfl,rfl,rfl⟩)
 ·exact .inr (.inr ⟨.inr rfl,rfl,rfl⟩)
theorem W2 {x:Str}{q:Str×Str×Nat}(h:cB x=some q)(h1:q.2.2=1):x="not"/\q.1="truth"/\q.2.1="truth":=by
 have:=GK h;unfold NT at this;simp only[xav,xbj,xcz,xdM]at this;rcases this with⟨rfl,rfl⟩ |⟨rfl,rfl⟩ |⟨rfl,rfl⟩ |⟨rfl,rfl⟩ |⟨rfl,rfl⟩ |⟨rfl,rfl⟩ |⟨rfl,rfl⟩ |⟨rfl,rfl⟩ |⟨rfl,rfl⟩ |⟨rfl,rfl⟩<;>first |(cases h1;done) |exact⟨rfl,rfl,rfl⟩
theorem YM {x:Str}{q:Str×Str×Nat}{a b:D}{m n:Nat}(h:cB x=some q)(h2:q.2.2=2)(ha:Vk q.2.1 a m)(hb:Vk q.2.1 b n):Vk q.1 (fZ x a b) (m + n + 1):=by
 have nt:¬ (("number":Str)="truth"):=by x_go
 have tn:¬ (("truth":Str)="number"):=by x_go
 rcases Oq h h2 with⟨hx,e1,e2⟩ |⟨hx,e1,e2⟩ |⟨hx,e1,e2⟩
 ·rw[e2]at ha hb;rcases ha with⟨_,i,rfl,hi⟩ |⟨z,_⟩
  ·rcases hb with⟨_,j,rfl,hj⟩ |⟨z,_⟩
   ·obtain⟨p1,p2,p3⟩:=zcd hi hj;rw[e1];refine .inl ⟨rfl,?_⟩;have dd:∀{a b:Str},decide (a=b)=false->¬ a=b:=fun h=>xbR h;unfold fZ;dsimp only;rcases hx with rfl |rfl |rfl |rfl |rfl
    ·rw[xab rfl];exact⟨_,rfl,p1⟩
    ·rw[xai (dd (by x_go)),xab rfl];exact⟨_,rfl,p2⟩
    ·rw[xai (dd (by x_go)),xai (dd (by x_go)),xab rfl];exact⟨_,rfl,p3⟩
    ·rw[xai (dd (by x_go)),xai (dd (by x_go)),xai (dd (by x_go)),xab rfl];refine⟨_,rfl,?_⟩
     split
     ·exact vo hj (by omega)
     ·exact vo hi (by omega)
    ·rw[xai (dd (by x_go)),xai (dd (by x_go)),xai (dd (by x_go)),xai (dd (by x_go)),xab rfl];refine⟨_,rfl,?_⟩
     split
     ·exact vo hj (by omega)
     ·exact vo hi (by omega)
   ·exact absurd z nt
  ·exact absurd z nt
 ·rw[e2]at ha hb;rcases ha with⟨_,i,rfl,hi⟩ |⟨z,_⟩
  ·rcases hb with⟨_,j,rfl,hj⟩ |⟨z,_⟩
   ·rw[e1];refine .inr ⟨rfl,?_⟩;unfold fZ;dsimp only;have d1:¬ (x="+"):=by rcases hx with rfl |rfl<;>decide +kernel
    have d2:¬ (x="-"):=by rcases hx with rfl |rfl<;>decide +kernel
    have d3:¬ (x="*"):=by rcases hx with rfl |rfl<;>decide +kernel
    have d4:¬ (x="least"):=by rcases hx with rfl |rfl<;>decide +kernel
    have d5:¬ (x="most"):=by rcases hx with rfl |rfl<;>decide +kernel
    rw[xai d1,xai d2,xai d3,xai d4,xai d5]
    split<;>exact⟨_,rfl⟩
   ·exact absurd z nt
  ·exact absurd z nt
 ·rw[e2]at ha hb;rcases ha with⟨z,_⟩ |⟨_,p,rfl⟩
  ·exact absurd z tn
  ·rcases hb with⟨z,_⟩ |⟨_,p',rfl⟩
   ·exact absurd z tn
   ·rw[e1];refine .inr ⟨rfl,?_⟩;unfold fZ;dsimp only
    split<;>exact⟨_,rfl⟩
theorem bA {a b:Str}(h:decide (a=b)=false):(a=b)=False:=xcT (xbR h)
theorem W8:(Str.ofString "-"=Str.ofString "+")=False:=bA (by x_go)
theorem W9:(Str.ofString "*"=Str.ofString "+")=False:=bA (by x_go)
theorem W_:(Str.ofString "*"=Str.ofString "-")=False:=bA (by x_go)
theorem Xa:(Str.ofString "least"=Str.ofString "+")=False:=bA (by x_go)
theorem Xb:(Str.ofString "least"=Str.ofString "-")=False:=bA (by x_go)
theorem Xc:(Str.ofString "least"=Str.ofString "*")=False:=bA (by x_go)
theorem Xd:(Str.ofString "most"=Str.ofString "+")=False:=bA (by x_go)
theorem Xe:(Str.ofString "most"=Str.ofString "-")=False:=bA (by x_go)
theorem Xf:(Str.ofString "most"=Str.ofString "*")=False:=bA (by x_go)
theorem Xg:(Str.ofString "most"=Str.ofString "least")=False:=bA (by x_go)
theorem GR:(Str.ofString "<"=Str.ofString "+")=False:=bA (by x_go)
theorem GX:(Str.ofString "<"=Str.ofString "-")=False:=bA (by x_go)
theorem GZ:(Str.ofString "<"=Str.ofString "*")=False:=bA (by x_go)
theorem G3:(Str.ofString "<"=Str.ofString "least")=False:=bA (by x_go)
theorem G4:(Str.ofString "<"=Str.ofString "most")=False:=bA (by x_go)
theorem G5:(Str.ofString "="=Str.ofString "+")=False:=bA (by x_go)
theorem G6:(Str.ofString "="=Str.ofString "-")=False:=bA (by x_go)
theorem G7:(Str.ofString "="=Str.ofString "*")=False:=bA (by x_go)
theorem G8:(Str.ofString "="=Str.ofString "least")=False:=bA (by x_go)
theorem G9:(Str.ofString "="=Str.ofString "most")=False:=bA (by x_go)
theorem G_:(Str.ofString "="=Str.ofString "<")=False:=bA (by x_go)
theorem Hf:(Str.ofString "and"=Str.ofString "+")=False:=bA (by x_go)
theorem Hg:(Str.ofString "and"=Str.ofString "-")=False:=bA (by x_go)
theorem Hi:(Str.ofString "and"=Str.ofString "*")=False:=bA (by x_go)
theorem Hj:(Str.ofString "and"=Str.ofString "least")=False:=bA (by x_go)
theorem Hl:(Str.ofString "and"=Str.ofString "most")=False:=bA (by x_go)
theorem Ho:(Str.ofString "and"=Str.ofString "<")=False:=bA (by x_go)
theorem Hq:(Str.ofString "and"=Str.ofString "=")=False:=bA (by x_go)
theorem Hr:(Str.ofString "or"=Str.ofString "+")=False:=bA (by x_go)
theorem Hs:(Str.ofString "or"=Str.ofString "-")=False:=bA (by x_go)
theorem Ht:(Str.ofString "or"=Str.ofString "*")=False:=bA (by x_go)
theorem Hu:(Str.ofString "or"=Str.ofString "least")=False:=bA (by x_go)
theorem Hv:(Str.ofString "or"=Str.ofString "most")=False:=bA (by x_go)
theorem Hw:(Str.ofString "or"=Str.ofString "<")=False:=bA (by x_go)
theorem Hx:(Str.ofString "or"=Str.ofString "=")=False:=bA (by x_go)
theorem Hy:(Str.ofString "or"=Str.ofString "and")=False:=bA (by x_go)
theorem Hz:(Str.ofString "<"=Str.ofString "and")=False:=bA (by x_go)
theorem HD:(Str.ofString "<"=Str.ofString "or")=False:=bA (by x_go)
theorem HF:(Str.ofString "="=Str.ofString "and")=False:=bA (by x_go)
theorem HJ:(Str.ofString "="=Str.ofString "or")=False:=bA (by x_go)
theorem HN:(Str.ofString "+"=Str.ofString "not")=False:=bA (by x_go)
theorem HS:(Str.ofString "-"=Str.ofString "not")=False:=bA (by x_go)
theorem HW:(Str.ofString "*"=Str.ofString "not")=False:=bA (by x_go)
theorem HX:(Str.ofString "least"=Str.ofString "not")=False:=bA (by x_go)
theorem HY:(Str.ofString "most"=Str.ofString "not")=False:=bA (by x_go)
theorem H_:(Str.ofString "<"=Str.ofString "not")=False:=bA (by x_go)
theorem Ia:(Str.ofString "="=Str.ofString "not")=False:=bA (by x_go)
theorem Ib:(Str.ofString "and"=Str.ofString "not")=False:=bA (by x_go)
theorem Ie:(Str.ofString "or"=Str.ofString "not")=False:=bA (by x_go)
local macro_rules | `(tactic| walk_at "ops")=> `(tactic| try simp only[W8,W9,W_,Xa,Xb,Xc,Xd,Xe,Xf,Xg,GR,GX,GZ,G3,G4,G5,G6,G7,G8,G9,G_,Hf,Hg,Hi,Hj,Hl,Ho,Hq,Hr,Hs,Ht,Hu,Hv,Hw,Hx,Hy,Hz,HD,HF,HJ,HN,HS,HW,HX,HY,H_,Ia,Ib,Ie])
theorem T4 {x:Str}{q:Str×Str×Nat}{a b:D}{m n:Nat}(h:cB x=some q)(h2:q.2.2=2)(ha:Vk q.2.1 a m)(hb:Vk q.2.1 b n)(hm:m<=47)(hn:n<=47):w6 [.str x,a,b] M=some (.v (fZ x a b),M):=by
 have nt:¬ (("number":Str)="truth"):=by x_go
 have tn:¬ (("truth":Str)="number"):=by x_go
 unfold w6 El;rcases Oq h h2 with⟨hx,e1,e2⟩ |⟨hx,e1,e2⟩ |⟨hx,e1,e2⟩
 ·rw[e2]at ha hb;rcases ha with⟨_,i,rfl,hi⟩ |⟨z,_⟩
  ·rcases hb with⟨_,j,rfl,hj⟩ |⟨z,_⟩
   ·have li:=Ay hm hi;have lj:=Ay hn hj;unfold fZ;dsimp only;rcases hx with rfl |rfl |rfl |rfl |rfl
    all_goals
     iterate 5 (z_go;walk_at "ops")
     try rw[xab (.inr (.inr ⟨li,lj⟩))]
     try z_go
   ·exact absurd z nt
  ·exact absurd z nt
 ·rw[e2]at ha hb;rcases ha with⟨_,i,rfl,hi⟩ |⟨z,_⟩
  ·rcases hb with⟨_,j,rfl,hj⟩ |⟨z,_⟩
   ·unfold fZ;dsimp only;rcases hx with rfl |rfl
    all_goals
     iterate 9 (z_go;walk_at "ops")
     try z_go
   ·exact absurd z nt
  ·exact absurd z nt
 ·rw[e2]at ha hb;rcases ha with⟨z,_⟩ |⟨_,p,rfl⟩
  ·exact absurd z tn
  ·rcases hb with⟨z,_⟩ |⟨_,p',rfl⟩
   ·exact absurd z tn
   ·unfold fZ;dsimp only;rcases hx with rfl |rfl
    all_goals
     iterate 9 (z_go;walk_at "ops")
     cases p<;>cases p'
     all_goals (try z_go;try rfl)
theorem Mx:∀(cs:List Nat) (acc:Nat),NumText.AllDigits cs->cs.foldl (fun acc c=>acc * 10 + (c - 48)) acc<(acc + 1) * 10 ^ cs.length
  | [],acc,_=>by simp
  |c::cs,acc,h=>by
    have hc:=h c xaO;have:=Mx cs (acc * 10 + (c - 48)) fun d hd=>h d (xat _ hd);rw[xcH,xao,Nat.pow_succ];refine xaf this ?_;rw[Nat.mul_comm (10 ^ cs.length) 10, <-Nat.mul_assoc];exact Nat.mul_le_mul_right _ (by omega)
theorem Uj (cs:List Nat)(h:NumText.AllDigits cs):NumText.digitsVal cs<10 ^ cs.length:=by
 have:=Mx cs 0 h;rw[Nat.zero_add,Nat.one_mul]at this;exact this
noncomputable def tu (x:Str) (t v o:D):D:=if x="t" then t else if x="v" then v else if x="w" then o else .int (zG (cd x))
theorem Nq {x:Str}(h:gB x=true):x.length<=600/\fU (gZ (cd x))=true/\(gZ (cd x)).length<=20:=by
 unfold gB good at h;simp only[xam,xaL]at h;refine⟨?_,h.1.2,h.2⟩;have:=h.2;rw[d9];unfold gZ at this;split at this
 ·rw[List.length_tail]at this;omega
 ·omega
theorem FT {x:Str}{t v o:D}(h:gB x=true\/tvw x=true):xJ [.str x,t,v,o] M=some (.v (tu x t v o),M):=by
 unfold xJ Et tu;z_go
 by_cases h1:x="t"
 ·simp only[h1];z_go
 ·simp only[h1];z_go
  by_cases h2:x="v"
  ·simp only[h2];z_go
  ·simp only[h2];z_go
   by_cases h3:x="w"
   ·simp only[h3];z_go
   ·simp only[h3];z_go;have hh:gB x=true:=by
     rcases h with h |h
     ·exact h
     ·unfold tvw at h
      simp[h1,h2,h3]at h
    obtain⟨hl,hf,_⟩:=Nq hh;rw[xab (show x.length<=640 by omega),Vo hf hl];z_go
def Sn (d:D):Prop:=∃i:Int,d=.int i/\i.natAbs<2 ^ 210
theorem Sn.vk {d:D}(h:Sn d):Vk "number" d 1:=by
 obtain⟨i,rfl,hi⟩:=h;exact .inl ⟨rfl,i,rfl,hi⟩
theorem zeG {x:Str}{t v o:D}(h:gB x=true\/tvw x=true)(ht:Sn t)(hv:Sn v)(ho:Sn o):Sn (tu x t v o):=by
 unfold tu
 by_cases h1:x="t"
 ·rw[xab h1];exact ht
 ·rw[xai h1]
  by_cases h2:x="v"
  ·rw[xab h2];exact hv
  ·rw[xai h2]
   by_cases h3:x="w"
   ·rw[xab h3];exact ho
   ·rw[xai h3];have hh:gB x=true:=by
     rcases h with h |h
     ·exact h
     ·unfold tvw at h
      simp[h1,h2,h3]at h
    obtain⟨_,hf,hl⟩:=Nq hh;obtain⟨_,hd,_⟩:=Fw hf;have b:=Uj _ hd;have b2:10 ^ (gZ (cd x)).length<=10 ^ 20:=xb7 (by decide) hl;have b3:(10:Nat) ^ 20<2 ^ 210:=by x_go
    refine⟨_,rfl,?_⟩;unfold zG;unfold gZ at b b2
    split
    ·rename_i hh;rw[xab hh]at b b2;omega
    ·rename_i hh;rw[xai hh]at b b2;omega
noncomputable def stepV (t v o:D) (x:Str) (rs:List D):List D:=match cB x with
  | some q => if q.2.2 = 2 then (match rs with
    |a::b::r=>fZ x a b::r
    | _ => []) else (match rs with
    |.bl p::r=>.bl (!p)::r
    |_=>[])
  |none=>tu x t v o::rs
noncomputable def bT (t v o:D):List Str->List D->List D
 | [],rs=>rs
 |x::xs,rs=>bT t v o xs (stepV t v o x rs)
theorem Qg {t v o:D}:∀{xs ys:List Str} {rs:List D},bT t v o (xs ++ ys) rs=bT t v o ys (bT t v o xs rs)
 | [],_,_=>rfl
 |_::xs,_,_=>Qg (xs:=xs)
theorem RN {L x:Str}{ks ks':List Str}{rs:List D}{n:Nat}(h:stepK L x ks=some ks')(ty:TyS ks rs n):
    (∃q a b r m m',cB x=some q/\q.2.2=2/\rs=a::b::r/\Vk q.2.1 a m/\Vk q.2.1 b m'/\m<=n/\m'<=n/\∃ks'' n'',ks'=q.1::ks''/\TyS ks'' r n''/\m + m' + n''=n)\/(x="not"/\∃p r,rs=.bl p::r/\∃ks'' n'' m,ks'=("truth":Str)::ks''/\TyS ks'' r n''/\m + n''=n)\/(cB x=none/\lf x L=true/\ks'=("number":Str)::ks):=by
  unfold stepK at h
  cases hn:cB x with
  |none=>
    rw[hn]at h;dsimp only at h;split at h
    · rename_i hf;cases h;exact .inr (.inr ⟨rfl,hf,rfl⟩)
    · cases h
  |some q=>
    rw[hn]at h;dsimp only at h;rw[xad]at h;obtain⟨k1,h1,rfl⟩:=h;rcases(Ig hn).1 with e |e
    · obtain⟨hx,e1,e2⟩:=W2 hn e;rw[e]at h1
      cases ty with
      |nil=>cases h1
      |cons vk ty'=>
        rename_i k d ks0 ds0 m n0;simp only[gJ]at h1;split at h1
        · rename_i hk;cases h1;rw[hk,e2]at vk;rcases vk with⟨z,_⟩ |⟨_,p,rfl⟩
          · exact absurd z (by x_go)
          · exact .inr (.inl ⟨hx,p,_,rfl,_,_,_,by rw[e1],ty',rfl⟩)
        · cases h1
    · rw[e]at h1
      cases ty with
      |nil=>cases h1
      |cons vk ty'=>
        rename_i k d ks0 ds0 m n0;simp only[gJ]at h1;split at h1
        · rename_i hk
          cases ty' with
          |nil=>cases h1
          |cons vk2 ty2=>
            rename_i k' d' ks2 ds2 m' n2;simp only[gJ]at h1;split at h1
            · rename_i hk2;cases h1;exact .inl ⟨q,_,_,_,m,m',rfl,e,rfl,hk ▸ vk,hk2 ▸ vk2,by omega,by omega,_,n2,rfl,ty2,by omega⟩
            · cases h1
        · cases h1
theorem Bc:cB "not"=some (Str.ofString "truth",Str.ofString "truth",1):=by x_go
theorem zbL {L x:Str}{ks ks':List Str}{rs:List D}{n:Nat}{t v o:D}(h:stepK L x ks=some ks')(ty:TyS ks rs n)(ht:Sn t)(hv:Sn v)(ho:Sn o):∃n',TyS ks' (stepV t v o x rs) n'/\n'<=n + 1:=by
 unfold stepV;rcases RN h ty with⟨q,a,b,r,m,m',hn,h2,rfl,va,vb,_,_,ks2,n2,rfl,ty2,hs⟩ |⟨rfl,p,r,rfl,ks2,n2,m,rfl,ty2,hs⟩ |⟨hn,hf,rfl⟩
 ·rw[hn];dsimp only;rw[xab h2];exact⟨_,.cons (YM hn h2 va vb) ty2,by omega⟩
 ·rw[Bc];exact⟨0 + n2,.cons (.inr ⟨rfl,_,rfl⟩) ty2,by omega⟩
 ·rw[hn];refine⟨1 + n,.cons (zeG ?_ ht hv ho).vk ty,by omega⟩;unfold lf at hf;rw[xbQ,xam]at hf;exact hf.imp id (·.1)
theorem JK {rs:List D}{y:D}:rs.reverse ++ [y]=(y::rs).reverse:=by rw[xbc]
theorem Wg {x L:Str}(hf:lf x L=true):gB x=true\/tvw x=true:=by
 unfold lf at hf;rw[xbQ,xam]at hf;exact hf.imp id (·.1)
theorem zbV {L x:Str}{ks ks':List Str}{rs:List D}{n:Nat}{w0 t v o:D}{s6 s7:E3.Slot}(h:stepK L x ks=some ks')(ty:TyS ks rs n)(hn:n<=46)(hr:rs.length<=1000):∃t6 t7,xW [.val w0,.val t,.val v,.val o,.val (.ref M.length),.val (.str x),s6,s7] (M ++ [.lst rs.reverse])=some (.nx [.val w0,.val t,.val v,.val o,.val (.ref M.length),.val (.str x),t6,t7],M ++ [.lst (stepV t v o x rs).reverse]):=by
 unfold xW stepV;rcases RN h ty with⟨q,a,b,r,m,m',hq,h2,rfl,va,vb,hm,hm',_⟩ |⟨rfl,p,r,rfl,_⟩ |⟨hq,hf,_⟩
 ·refine⟨.val a,.val b,?_⟩;have nx:(x=Str.ofString "not")=False:=xcT fun z=>by
   rw[z,Bc]at hq;cases hq;cases h2
  rw[hq];dsimp only;rw[xab h2];z_go;simp only[nx];z_go;rw[pZ,hq];simp only[xaT,xc2];z_go;rw[Bl];z_go;rw[Bl];z_go;rw[T4 hq h2 va vb (by omega) (by omega)];z_go;rw[xaE,xab (by simp only[xao]at hr;omega),JK];z_go
 ·refine⟨s6,s7,?_⟩;rw[Bc];dsimp only;z_go;rw[Bl];z_go;rw[xaE,xab (by simp only[xao]at hr;omega),JK];z_go;rfl
 ·refine⟨s6,s7,?_⟩;have nx:(x=Str.ofString "not")=False:=xcT fun z=>by
   rw[z,Bc]at hq;cases hq
  rw[hq];dsimp only;z_go;simp only[nx];z_go;rw[pZ,hq];simp only[xdx,xc3];z_go;rw[FT (Wg hf)];z_go;rw[xaE,xab (by omega),JK];z_go
theorem TyS.len {ks:List Str}{rs:List D}{n:Nat}(h:TyS ks rs n):rs.length=ks.length:=by
 induction h with
 |nil=>rfl
 |cons _ _ ih=>rw[xao,xao,ih]
theorem JH {L:Str}{t v o:D}(ht:Sn t)(hv:Sn v)(ho:Sn o):∀{xs ks ks':List Str} {rs:List D} {n:Nat},runK L xs ks=some ks'->TyS ks rs n->∃n',TyS ks' (bT t v o xs rs) n'/\n'<=n + xs.length
  | [],_,_,_,n,h,ty=>by cases h;exact⟨n,ty,xah _⟩
  |x::xs,ks,ks',rs,n,h,ty=>by
    unfold runK at h;rw[xdu]at h;obtain⟨k1,h1,h2⟩:=h;obtain⟨n1,ty1,hn1⟩:=zbL h1 ty ht hv ho;obtain⟨n2,ty2,hn2⟩:=JH ht hv ho h2 ty1;exact⟨n2,ty2,by rw[xao];omega⟩
theorem zb9 {L:Str}{xs:List Str}{k:Nat}{ks:List Str}(h:runK L xs []=some ks):∃k1,runK L (xs.take k) []=some k1:=by
 rw[<-xdF k xs,yJ]at h
 cases e:runK L (xs.take k) [] with
 |none=>rw[e]at h;cases h
 |some k1=>exact⟨k1,rfl⟩
theorem zc6 {L:Str}{xs:List Str}{k:Nat}{x:Str}{k1 ks:List Str}(h:runK L xs []=some ks)(hk:runK L (xs.take k) []=some k1)(hx:xs[k]? =some x):∃k2,stepK L x k1=some k2/\runK L (xs.take (k + 1)) []=some k2:=by
 obtain⟨k2,h2⟩:=zb9 (k:=k + 1) h;refine⟨k2,?_,h2⟩;rw[take_snoc hx,yJ,hk]at h2;have h3:(stepK L x k1).bind (runK L [])=some k2:=h2
 cases e:stepK L x k1 with
 |none=>rw[e]at h3;cases h3
 |some k3=>rw[e]at h3;exact h3
theorem zek {L wt:Str}{ws:List Str}{t v o:D}(h:runK L ws.reverse []=some [wt])(hl:ws.length<=46)(ht:Sn t)(hv:Sn v)(ho:Sn o):∃d n,bT t v o ws.reverse []=[d]/\Vk wt d n/\n<=46/\∀M:Mm,pQ [.tup (ws.map D.str),t,v,o] M=some (.v d,M ++ [.lst [d]]):=by
  obtain⟨n,ty,hn⟩:=JH ht hv ho h .nil;rw[xaE]at hn;generalize er:bT t v o ws.reverse []=rs at ty
  cases ty with
  |cons vk ty'=>
    cases ty' with
    |nil=>
      rename_i d m;refine⟨d,m,rfl,vk,by omega,fun M=>?_⟩;have lp:∃s5 s6 s7,loopS 5 xW (ws.map D.str).reverse [.val (.tup (ws.map D.str)),.val t,.val v,.val o,.val (.ref M.length),.un,.un,.un] (M ++ [.lst ([]:List D).reverse])=some (.nx [.val (.tup (ws.map D.str)),.val t,.val v,.val o,.val (.ref M.length),s5,s6,s7],M ++ [.lst (bT t v o ws.reverse []).reverse]):=by
        refine A_ (fun q=>∃s5 s6 s7,q=some (.nx [.val (.tup (ws.map D.str)),.val t,.val v,.val o,.val (.ref M.length),s5,s6,s7],M ++ [.lst (bT t v o ws.reverse []).reverse])) (fun k env N=>∃s5 s6 s7 k1,env=[.val (.tup (ws.map D.str)),.val t,.val v,.val o,.val (.ref M.length),s5,s6,s7]/\N=M ++ [.lst (bT t v o (ws.reverse.take k) []).reverse]/\runK L (ws.reverse.take k) []=some k1) ⟨_,_,_,[],rfl,rfl,by rw[List.take_zero];rfl⟩ ?_ ?_
        · rintro k d env N hd ⟨s5,s6,s7,k1,rfl,rfl,hk⟩;rw[<-xcy,xan,xad]at hd;obtain⟨x,hx,rfl⟩:=hd;refine⟨by show 5<8;decide,?_⟩;obtain⟨k2,st,hk2⟩:=zc6 h hk hx;obtain⟨n1,ty1,hn1⟩:=JH ht hv ho hk .nil;have hkl:k<ws.length:=by have:=(xak.mp hx).1;rwa [xaE]at this
          have hl1:(ws.reverse.take k).length=k:=by rw[xbG,xaE];omega
          rw[hl1]at hn1;have hlr:=ty1.len;have hlk:=JG hk;rw[xcN,hl1]at hlk;show Step _ _ (xW [.val (.tup (ws.map D.str)),.val t,.val v,.val o,.val (.ref M.length),.val (.str x),s6,s7] _);obtain⟨t6,t7,e⟩:=zbV (M:=M) (w0:=.tup (ws.map D.str)) (t:=t) (v:=v) (o:=o) (s6:=s6) (s7:=s7) st ty1 (by omega) (by omega);rw[e];refine⟨_,_,_,k2,rfl,?_,hk2⟩;rw[take_snoc hx,Qg];rfl
        · rintro env N ⟨s5,s6,s7,k1,rfl,rfl,hk⟩;rw[show(ws.map D.str).reverse.length=ws.reverse.length by simp,List.take_length];exact⟨_,_,_,rfl⟩
      obtain⟨s5,s6,s7,lp⟩:=lp;rw[er]at lp;unfold pQ Ez;z_go;rw[show(Cl.lst ([]:List D))=.lst ([]:List D).reverse from rfl,lp];z_go;rw[show [d].reverse=[d] from rfl];z_go
theorem J1 {i:Int}(h:i.natAbs<2 ^ 210):Sn (.int i):=⟨i,rfl,h⟩
theorem mF {N E:Mm}{k:Nat}{c:E3.Cl}(h:N[k]? =some c):(N ++ E)[k]? =some c:=by rw[xaz (xak.mp h).1];exact h
noncomputable def lW (ws:List Str):E3.Cl:=.obj "Expr" [("parts",.tup (ws.map D.str))]
theorem rdE {L:Str}{ws:List Str}(hs:∀x∈ws,sm x)(hl:ws.length<=900)(h:runK L ws.reverse []=some [Str.ofString "number"]):xO [.tup (ws.map D.str),.str L] M=some (.v (.ref (M ++ [kc ["number"]]).length),M ++ [kc ["number"]] ++ [lW ws]):=by
 rcases T9 (M:=M) (L:=L) (wt:="number") hs hl with⟨_,e⟩ |⟨z,_⟩
 ·unfold xO Ey;z_go;rw[e];z_go;rw[Wo (ds:=[.tup (ws.map D.str)]) (M1:=M ++ [kc ["number"]]) (by z_go) Vn];rfl
 ·exact absurd h z
theorem FW {ws:List Str}{k:Nat}{t v o d:D}(hM:M[k]? =some (lW ws))(hr:∀M:Mm,pQ [.tup (ws.map D.str),t,v,o] M=some (.v d,M ++ [.lst [d]])):tW [.ref k,t,v,o] M=some (.v d,M ++ [.lst [d]]):=by
 unfold tW zP;z_go;rw[Ut (k:=k) (M1:=M) (by z_go) hM rfl];z_go;rw[hr];z_go
def tV (k:Nat):E3.Cl:=.fn g_ [("expr",.ref k)]
noncomputable def zZ (s:Int) (f:Nat):E3.Cl:=.fn kW [("span",.int s),("change",.ref f)]
def TT (M:Mm):Prop:=M[0]? =some (.tbl "change_of" g_)/\M[1]? =some (.tbl "pairer_of" kW)
theorem TT.app {E:Mm}(h:TT M):TT (M ++ E):=⟨mF h.1,mF h.2⟩
theorem DR {A B C D:Mm}:∃E,A ++ B ++ C ++ D=A ++ E:=⟨B ++ C ++ D,by simp only[xaK]⟩
theorem T6 {L:Str}{ws:List Str}(T:TT M)(hs:∀x∈ws,sm x)(hl:ws.length<=900)(h:runK L ws.reverse []=some [Str.ofString "number"]):
  ∃f k E,w5 [.tup (ws.map D.str),.str L] M=some (.v (.ref f),M ++ E)/\(M ++ E)[f]? =some (tV k)/\(M ++ E)[k]? =some (lW ws):=by
 have mk:=xZ (M:=M ++ [kc ["number"]] ++ [lW ws]) (env:=[.val (.tup (ws.map D.str)),.val (.str L),.val (.ref (M ++ [kc ["number"]]).length),.un]) (caps:=[("expr",2)]) (cs:=[("expr",.ref (M ++ [kc ["number"]]).length)]) (mF (mF T.1)) rfl;obtain⟨E,eE⟩:=DR (A:=M) (B:=[kc ["number"]]) (C:=[lW ws]) (D:=[tV (M ++ [kc ["number"]]).length]);refine⟨(M ++ [kc ["number"]] ++ [lW ws]).length,(M ++ [kc ["number"]]).length,E,?_,by rw[<-eE];exact t_,by rw[<-eE];exact mF t_⟩;rw[<-eE];unfold w5 Eh;generalize fJ 0 "change_of" g_ [("expr",2)]=F at mk ⊢;z_go;rw[rdE hs hl h];z_go;rw[mk];rfl
theorem ZP {x0 x1 x2:D}{ws:List Str}{s:Int}(T:TT M)(hs:∀x∈ws,sm x)(hl:ws.length<=900)(h:runK "tvw" ws.reverse []=some [Str.ofString "number"])(si:dN [.str (cW s)]=some (.int s)):
  ∃g f k E,xM [.tup [x0,x1,x2,.tup (.str (cW s)::ws.map D.str)]] M=some (.v (.ref g),M ++ E)/\(M ++ E)[g]? =some (zZ s f)/\(M ++ E)[f]? =some (tV k)/\(M ++ E)[k]? =some (lW ws):=by
 obtain⟨f,k,E,e1,e2,e3⟩:=T6 (L:="tvw") T hs hl h;have mk:=xZ (M:=M ++ E) (env:=[.val (.tup [x0,x1,x2,.tup (.str (cW s)::ws.map D.str)]),.val (.int s),.val (.ref f),.un]) (caps:=[("span",1),("change",2)]) (cs:=[("span",.int s),("change",.ref f)]) T.app.2 rfl;refine⟨(M ++ E).length,f,k,E ++ [zZ s f],?_,by rw[<-xaK];exact t_,by rw[<-xaK];exact mF e2,by rw[<-xaK];exact mF e3⟩;rw[<-xaK];have sl:j_ (s2 bB (aj 0) (ak (.int 3))) (mK (ak (.int 1))) nQ [.val (.tup [x0,x1,x2,.tup (.str (cW s)::ws.map D.str)]),.val (.int s),.un,.un] M=some (.v (.tup (ws.map D.str)),M):=by
  have c:dU (D.str (cW s)::ws.map D.str) (some 1) none=ws.map D.str:=by rw[Uh _ (by decide)];rfl
  rw[zex];z_go;simp only[zf,mK,nQ];z_go;rw[zcy,show za (.tup (D.str (cW s)::ws.map D.str)) (some 1) none=some (.tup (dU (D.str (cW s)::ws.map D.str) (some 1) none)) from rfl,c];rfl
 unfold xM Ew;generalize j_ (s2 bB (aj 0) (ak (.int 3))) (mK (ak (.int 1))) nQ=SL at sl ⊢;generalize fJ 1 "pairer_of" kW [("span",1),("change",2)]=F at mk ⊢;z_go;rw[<-Ij,si];z_go;rw[sl];z_go;rw[e1];z_go;rw[mk];rfl
noncomputable def hold (i:Int):Int:=if (if i<1000000000000000000000000000000000000000000000000000000000000 then i else 1000000000000000000000000000000000000000000000000000000000000) > -1000000000000000000000000000000000000000000000000000000000000 then if i<1000000000000000000000000000000000000000000000000000000000000 then i else 1000000000000000000000000000000000000000000000000000000000000 else -1000000000000000000000000000000000000000000000000000000000000
theorem Vf {i:Int}:xg [.int i] M=some (.v (.int (hold i)),M):=by
 unfold hold xg Em;z_go
theorem Fd {k:Nat}{ws:List Str}{t v o:D}{i:Int}(hM:M[k]? =some (lW ws))(hr:∀M:Mm,pQ [.tup (ws.map D.str),t,v,o] M=some (.v (.int i),M ++ [.lst [.int i]])):tY [t,v,o,.ref k] M=some (.v (.int (hold i)),M ++ [.lst [.int i]]):=by
 have a1:vq "Expr" "value" tW (aj 3) (aA (aj 0) (aA (aj 1) (aA (aj 2) au))) [.val t,.val v,.val o,.val (.ref k)] M=some (.v (.int i),M ++ [.lst [.int i]]):=Wq (M1:=M) (M2:=M) (k:=k) (ds:=[t,v,o]) rfl hM (by kernel_rfl) rfl (FW hM hr);show bZ (zT [.val t,.val v,.val o,.val (.ref k)] M)=_;unfold zT;z_go;rw[a1];z_go;rw[Vf];z_go
noncomputable def pq (form:Int):List Str:=if form=0 then ["-","v","w"] else if form=1 then ["*","v","w"] else if form=2 then ["+","t","w"] else if form=3 then ["most","v","w"] else if form=4 then ["w"] else ["+","*","v","3","least","w","t"]
noncomputable def kZ (form t v o:Int):Int:=if form=0 then v - o else if form=1 then v * o else if form=2 then t + o else if form=3 then(if o > v then o else v) else if form=4 then o else v * 3 + (if t<o then t else o)
theorem O7 {form:Int}:runK "tvw" (pq form).reverse []=some [Str.ofString "number"]:=by
 unfold pq
 repeat' split
 all_goals decide +kernel
theorem Iv {form:Int}:(pq form).length<=7:=by
 unfold pq
 repeat' split
 all_goals simp
theorem zcl {x:Str}(h:(decide (x.length<=9000) && (cd x).all fun c=>decide (c<4294967296))=true):sm x:=by
 rw[xam,xaL,xaX]at h;exact⟨h.1,fun c hc=>xbD (h.2 c hc)⟩
theorem ZL {form:Int}:∀x∈pq form,sm x:=by
 have hs:∀ws:List Str,ws.all (fun x=>decide (x.length<=9000) && (cd x).all fun c=>decide (c<4294967296))=true->∀x∈ws,sm x:=fun ws h x hx=>zcl (xaX.mp h x hx);refine hs _ ?_;unfold pq
 repeat' split
 all_goals decide +kernel
section
variable {t v o:D}{rs:List D}{i j:Int}{p q:Bool}
theorem n_:stepV t v o "v" rs=v::rs:=by
 unfold stepV;rw[show cB "v"=none by x_go];rfl
theorem yS:stepV t v o "t" rs=t::rs:=by
 unfold stepV;rw[show cB "t"=none by x_go];rfl
theorem kh:stepV t v o "w" rs=o::rs:=by
 unfold stepV;rw[show cB "w"=none by x_go];rfl
theorem JM:stepV t v o "3" rs=.int 3::rs:=by
 unfold stepV;rw[show cB "3"=none by x_go];dsimp only;rw[show tu "3" t v o=.int 3 by unfold tu;rw[xai (by x_go),xai (by x_go),xai (by x_go),show zG (cd "3")=3 by x_go]]
theorem gk {x:Str}{a b:D}{k1 k2:Str}(h:cB x=some (k1,k2,2)):stepV t v o x (a::b::rs)=fZ x a b::rs:=by
 unfold stepV;rw[h];rfl
end
theorem OD {i j:Int}:fZ "+" (.int i) (.int j)=.int (i + j):=by kernel_rfl
theorem YL {i j:Int}:fZ "-" (.int i) (.int j)=.int (i - j):=by kernel_rfl
theorem OJ {i j:Int}:fZ "*" (.int i) (.int j)=.int (i * j):=by kernel_rfl
theorem YB {i j:Int}:fZ "least" (.int i) (.int j)=.int (if j<i then j else i):=by kernel_rfl
theorem YD {i j:Int}:fZ "most" (.int i) (.int j)=.int (if j > i then j else i):=by kernel_rfl
theorem Om:cB "+"=some (Str.ofString "number",Str.ofString "number",2):=by x_go
theorem WY:cB "-"=some (Str.ofString "number",Str.ofString "number",2):=by x_go
theorem Oo:cB "*"=some (Str.ofString "number",Str.ofString "number",2):=by x_go
theorem WT:cB "least"=some (Str.ofString "number",Str.ofString "number",2):=by x_go
theorem WW:cB "most"=some (Str.ofString "number",Str.ofString "number",2):=by x_go
theorem ZM {form t v o:Int}:bT (.int t) (.int v) (.int o) (pq form).reverse []=[.int (kZ form t v o)]:=by
 unfold pq kZ
 split
 ·simp only[xbc,xbK,xbp,xbv,bT,n_,kh,gk WY,YL]
 split
 ·simp only[xbc,xbK,xbp,xbv,bT,n_,kh,gk Oo,OJ]
 split
 ·simp only[xbc,xbK,xbp,xbv,bT,yS,kh,gk Om,OD]
 split
 ·simp only[xbc,xbK,xbp,xbv,bT,n_,kh,gk WW,YD]
 split
 ·simp only[xbc,xbK,xbp,xbv,bT,kh]
 ·simp only[xbc,xbK,xbp,xbv,bT,n_,kh,yS,JM,gk WT,YB,gk Oo,OJ,gk Om,OD]
noncomputable def tm:D->Int
 |.tup (.int t::_)=>t
 |_=>0
noncomputable def ky:D->Str
 |.tup (_::.str z::_)=>z
 |_=>""
noncomputable def vl:D->Int
 |.tup (_::_::.int v::_)=>v
 |_=>0
def Tg (d:D):Prop:=d=.tup [.int (tm d),.str (ky d),.int (vl d)]
def Sy (ds:List D):Prop:=ds.Pairwise fun a b=>tm a<=tm b
def Tk (d:D):Prop:=∃(t:Int) (z:Str) (v:Int),d=.tup [.int t,.str z,.int v]
theorem zdJ {d:D}(h:Tk d):Tg d:=by
 obtain⟨t,z,v,rfl⟩:=h;rfl
def ks (d:D):List Nat:=(ky d).cps.toList
def iu (d e:D):Prop:=tm d<tm e\/tm d=tm e/\(ks d<ks e\/ks d=ks e/\vl d<=vl e)
theorem N8 (d:D):iu d d:=.inr ⟨rfl,.inr ⟨rfl,Int.le_refl _⟩⟩
theorem V_ (a b c:D)(h1:iu a b)(h2:iu b c):iu a c:=by
 rcases h1 with h1 |⟨e1,h1⟩
 ·rcases h2 with h2 |⟨e2,h2⟩
  ·exact .inl (by omega)
  ·exact .inl (by omega)
 ·rcases h2 with h2 |⟨e2,h2⟩
  ·exact .inl (by omega)
  ·refine .inr ⟨by omega,?_⟩;rcases h1 with h1 |⟨k1,h1⟩
   ·rcases h2 with h2 |⟨k2,h2⟩
    ·exact .inl (List.lt_trans h1 h2)
    ·exact .inl (by rw[<-k2];exact h1)
   ·rcases h2 with h2 |⟨k2,h2⟩
    ·exact .inl (by rw[k1];exact h2)
    ·exact .inr ⟨k1.trans k2,by omega⟩
theorem N7 {a b:Str}(h:a.cps.toList=b.cps.toList):a=b:=PySem.Str.ext' (xdq.mp h)
theorem Wm {t t' v v':Int}{z z':Str}:∃b,nG [.int t,.str z,.int v] [.int t',.str z',.int v']=some b/\(b=true->iu (.tup [.int t,.str z,.int v]) (.tup [.int t',.str z',.int v']))/\(b=false->iu (.tup [.int t',.str z',.int v']) (.tup [.int t,.str z,.int v])):=by
 simp only[nG]
 by_cases e:t=t'
 ·subst e;rw[xab rfl]
  by_cases e:z=z'
  ·subst e;rw[xab rfl]
   by_cases e:v=v'
   ·subst e;rw[xab rfl];exact⟨false,rfl,(fun h=>Bool.noConfusion h),fun _=>N8 _⟩
   ·rw[xai e];refine⟨_,rfl,fun h=>.inr ⟨rfl,.inr ⟨rfl,?_⟩⟩,fun h=>.inr ⟨rfl,.inr ⟨rfl,?_⟩⟩⟩
    ·have:=xbD h;show v<=v';omega
    ·have:=xbR h;show v'<=v;omega
  ·rw[xai e];refine⟨_,rfl,fun h=>.inr ⟨rfl,.inl (xbD h)⟩,fun h=>.inr ⟨rfl,.inl ?_⟩⟩;have h:=xbR h;show z'.cps.toList<z.cps.toList
   by_cases g:z'.cps.toList<z.cps.toList
   ·exact g
   ·exact absurd (N7 (List.le_antisymm (List.not_lt.mp g) (List.not_lt.mp h))) e
 ·rw[xai e];refine⟨_,rfl,fun h=>.inl (xbD h),fun h=>.inl ?_⟩;have:=xbR h;show t'<t;omega
theorem RB {ds:List D}(hT:∀d∈ds,Tg d)(hl:ds.length<64):∃es,lu ds=some es/\es.Perm ds/\es.Pairwise iu:=
 za7 hl (xaX.mpr fun d hd=>by rw[hT d hd];rfl) N8 V_ fun xs ys hx hy=>by
  have e1:=hT _ hx;have e2:=hT _ hy;unfold Tg at e1 e2;have f1:=D.tup.inj e1;have f2:=D.tup.inj e2;generalize tm (D.tup xs)=t at f1;generalize ky (D.tup xs)=z at f1;generalize vl (D.tup xs)=v at f1;generalize tm (D.tup ys)=t' at f2;generalize ky (D.tup ys)=z' at f2;generalize vl (D.tup ys)=v' at f2;rw[f1,f2];exact Wm
theorem zdL {es:List D}(h:es.Pairwise iu):Sy es:=h.imp fun {a b} h=>by
 rcases h with h |⟨h, -⟩<;>omega
theorem zeJ {t t':Int}{z z':Str}(h:t<t'\/t=t'/\z.cps.toList<z'.cps.toList):Ai [.int t,.str z] [.int t',.str z']=some false:=by
 simp only[Ai];rcases h with h |⟨rfl,h⟩
 ·rw[xai (by omega),xbl (by omega)]
 ·rw[xab rfl,xai (fun e=>by subst e;exact xcU _ h),xbY h];rfl
theorem V9 {a b:D}(ha:Tg a)(hb:Tg b)(h1:iu a b)(h2:iu b a):a=b:=by
 have e:tm a=tm b/\ks a=ks b/\vl a=vl b:=by
  rcases h1 with h1 |⟨e1,h1⟩
  ·rcases h2 with h2 |⟨e2,_⟩<;>omega
  ·rcases h2 with h2 |⟨e2,h2⟩
   ·omega
   ·rcases h1 with h1 |⟨k1,h1⟩
    ·rcases h2 with h2 |⟨k2,_⟩
     ·exact absurd (List.lt_trans h1 h2) (xcU _)
     ·rw[k2]at h1;exact absurd h1 (xcU _)
    ·rcases h2 with h2 |⟨k2,h2⟩
     ·rw[k1]at h2;exact absurd h2 (xcU _)
     ·exact⟨e1,k1,by omega⟩
 rw[ha,hb,e.1,N7 e.2.1,e.2.2]
theorem RD:∀{es fs:List D},es.Perm fs->es.Pairwise iu->fs.Pairwise iu->(∀d∈es,Tg d)->es=fs
  | [],fs,p,_,_,_=>(List.Perm.nil_eq p)
  |a::es,[],p,_,_,_=>by cases List.Perm.eq_nil p
  |a::es,b::fs,p,h1,h2,t=>by
    have p1:=xd1.mp h1;have p2:=xd1.mp h2;have eb:b∈a::es:=p.mem_iff.mpr (by simp);have ea:a∈b::fs:=p.mem_iff.mp (by simp);have e:a=b:=by
      rcases xav.mp eb with e |eb
      · exact e.symm
      · rcases xav.mp ea with e |ea
        · exact e
        · exact V9 (t a (by simp)) (t b (by simp[eb])) (p1.1 b eb) (p2.1 a ea)
    subst e;rw[RD p.cons_inv p1.2 p2.2 fun d hd=>t d (by simp[hd])]
theorem zeI {ds es:List D}(hT:∀d∈ds,Tg d)(hl:ds.length<64)(p:es.Perm ds)(h:es.Pairwise iu):lu ds=some es:=by
 obtain⟨fs,e1,e2,e3⟩:=RB hT hl;rw[e1,RD (p.trans e2.symm) h e3 fun d hd=>hT d (p.mem_iff.mp hd)]
variable {M:Mm}
noncomputable def ABC:Str:=Str.ofString "abcdefghijklmnopqrstuvwxyz"
theorem K7:ABC.length=26:=by x_go
def tK (z:Str):Prop:=∀c∈cd z,97<=c/\c<=122
theorem Le {i:Int}(h0:0<=i)(h1:i<26):∃c,(97<=c/\c<=122)/\cJ ABC.cps.toList i=some c:=by
 have hl:ABC.cps.toList.length=26:=by x_go
 refine⟨_,?_,Ld 0 h0 (by rw[hl];exact h1)⟩;have all:ABC.cps.toList.all (fun c=>decide (97<=c/\c<=122))=true:=by x_go
 have m:ABC.cps.toList.getD i.toNat 0∈ABC.cps.toList:=by
  rw[xaC,xag (by rw[hl];omega)];exact xbH _
 simpa using xaX.mp all _ m
theorem Vy {c:Nat}(h:97<=c/\c<=122):∃i:Int,zu ABC [.str ⟨#[c]⟩]=some (.int i):=by
 have all:(List.range 26).all (fun j=>match zu ABC [.str ⟨#[97 + j]⟩] with |some (.int _)=>true |_=>false)=true:=by x_go
 have:=xaX.mp all (c - 97) (xcQ.mpr (by omega));rw[show 97 + (c - 97)=c by omega]at this;split at this
 ·rename_i i e;exact⟨i,e⟩
 ·cases this
theorem zbi {x:Str}{j:Int}(h:0<=j/\j<=x.length):cd (Txt.slice x none (some j))=(cd x).take j.toNat:=by
 have:=PyProof.Rows.slice_closes_to (x:=x) (j:=j) ⟨h.1,by show j<=((cd x).length:Int);rw[<-d9];exact h.2⟩;rw[eq_of_beq this];show List.take (j - 0).toNat (List.drop (0:Int).toNat (cd x))=_;rw[Int.sub_zero];rfl
theorem za8 {x:Str}{j:Int}(h:0<=j/\j<=x.length):cd (Txt.slice x (some j) none)=(cd x).drop j.toNat:=by
 have:=xcK (x:=x) (i:=j) ⟨h.1,by show j<=((cd x).length:Int);rw[<-d9];exact h.2⟩;rw[eq_of_beq this];show List.take (((cd x).length:Int) - j).toNat (List.drop j.toNat (cd x))=_;rw[xdz];rw[xb5];omega
theorem Wn {w:Str}{c:Nat}(h:tK w)(hc:97<=c/\c<=122):tK (w ++ ⟨#[c]⟩):=fun x hx=>by
 rw[wJ,xbd]at hx;rcases hx with hx |hx
 ·exact h x hx
 ·rw[zY,xby]at hx;rw[hx];exact hc
theorem N_ {w:Str}{c:Nat}:(w ++ ⟨#[c]⟩:Str).length=w.length + 1:=by
 rw[d9,wJ,zY,xap, <-d9];rfl
theorem zem {n:Int}{s1:Slot}{w:Str}{p:Nat}(hp:p<=8)(hw:w.length<=100):∃c:Nat,(97<=c/\c<=122)/\Aw [.val (.int n),s1,.val (.str ABC),.val (.str w),.val (.int (0 + (p:Int))),.un,.un] M=some (.nx [.val (.int n),s1,.val (.str ABC),.val (.str (w ++ ⟨#[c]⟩)),.val (.int (0 + (p:Int))),.un,.un],M):=by
 have p0:=xbS (n / (8 + 25 * (p:Int))) (show(26:Int)≠0 by decide);have p1:=xbA (n / (8 + 25 * (p:Int))) (show(0:Int)<26 by decide);obtain⟨c,hc,ec⟩:=Le p0 p1;refine⟨c,hc,?_⟩;have e:(0:Int) + (p:Int)=(p:Int):=Int.zero_add _;rw[e];unfold Aw;z_go;rw[xab ⟨by omega,by omega⟩];z_go;rw[xab (by rw[K7];decide),ec];z_go;rw[xab (by rw[show(⟨#[c]⟩:Str).length=1 from rfl];omega)];z_go
theorem VP {n:Int}{s1:Slot}{m:Nat}(hm:m<=8):∃(w:Str) (s4:Slot),tK w/\w.length=m/\loopS 4 Aw ((List.range m).map fun(k:Nat)=>D.int (0 + (k:Int))) [.val (.int n),s1,.val (.str ABC),.val (.str (Str.ofString "")),.un,.un,.un] M=some (.nx [.val (.int n),s1,.val (.str ABC),.val (.str w),s4,.un,.un],M):=by
 refine A_ (fun o=>∃(w:Str) (s4:Slot),tK w/\w.length=m/\o=some (.nx [.val (.int n),s1,.val (.str ABC),.val (.str w),s4,.un,.un],M)) (fun j env N=>N=M/\∃(w:Str) (s4:Slot),tK w/\w.length=j/\env=[.val (.int n),s1,.val (.str ABC),.val (.str w),s4,.un,.un]) ⟨rfl,_,_,(fun c h=>by rw[show cd (Str.ofString "")=[] by x_go]at h;cases h),by x_go,rfl⟩ ?_ ?_
 ·rintro j d env N hd ⟨rfl,w,s4,hw,hl,rfl⟩;rw[xan]at hd;have hn:j<m:=by
   rcases xaM j m with h |h
   ·exact h
   ·rw[xa7 (by rw[xbU];exact h)]at hd;cases hd
  rw[xcc hn]at hd;cases hd;refine⟨by simp,?_⟩;simp only[xcj,xck];obtain⟨c,hc,e⟩:=zem (M:=N) (n:=n) (s1:=s1) (w:=w) (p:=j) (by omega) (by omega);rw[e];exact⟨rfl,_,_,Wn hw hc,by rw[N_,hl],rfl⟩
 ·rintro env N ⟨rfl,w,s4,hw,hl,rfl⟩;rw[xar,xbU]at hl;exact⟨w,s4,hw,hl,rfl⟩
theorem V0 {n q:Int}:∃z:Str,tK z/\1<=z.length/\z.length<=8/\wW [.int n,.int q] M=some (.v (.str z),M):=by
 have m0:=xbS n (show(8:Int)≠0 by decide);have m1:=xbA n (show(0:Int)<8 by decide);obtain⟨w,s4,hw,hl,lp⟩:=VP (M:=M) (n:=n) (s1:=.val (.int q)) (m:=(1 + n % 8).toNat) (by omega);have wl:(w.length:Int)=1 + n % 8:=by rw[hl];omega
 have a0:=xbS (n / 8) (show((w.length:Nat):Int)≠0 by omega);have a1:=xbA (n / 8) (show(0:Int)<((w.length:Nat):Int) by omega);generalize ea:n / 8 % ((w.length:Nat):Int)=at_ at a0 a1;have hc:∃c,(97<=c/\c<=122)/\cJ w.cps.toList at_=some c:=by
  refine⟨_,?_,Ld 0 a0 (by show at_<((cd w).length:Int);rw[<-d9];exact a1)⟩;refine hw _ ?_;show(cd w).getD at_.toNat 0∈cd w;rw[xaC,xag (by rw[<-d9];omega)];exact xbH _
 obtain⟨c,hc,ec⟩:=hc;obtain⟨i,ei⟩:=Vy hc;have p0:=xbS (i + q) (show(26:Int)≠0 by decide);have p1:=xbA (i + q) (show(0:Int)<26 by decide);obtain⟨c',hc',ec'⟩:=Le p0 p1;have t1:=zbi (x:=w) (j:=at_) ⟨a0,by omega⟩;have t2:=za8 (x:=w) (j:=at_ + 1) ⟨by omega,by omega⟩;have l1:(Txt.slice w none (some at_)).length=at_.toNat:=by rw[d9,t1,xbG, <-d9];omega
 have l2:(Txt.slice w (some (at_ + 1)) none).length=w.length - (at_ + 1).toNat:=by rw[d9,t2,xb5, <-d9]
 have l3:(Txt.slice w none (some at_) ++ ⟨#[c']⟩:Str).length=at_.toNat + 1:=by rw[N_,l1]
 have l4:(Txt.slice w none (some at_) ++ ⟨#[c']⟩ ++ Txt.slice w (some (at_ + 1)) none:Str).length=w.length:=by
  rw[d9,wJ,xap, <-d9, <-d9,l2,l3];omega
 refine⟨Txt.slice w none (some at_) ++ ⟨#[c']⟩ ++ Txt.slice w (some (at_ + 1)) none,fun x hx=>?_,by omega,by omega,?_⟩
 ·rw[wJ,xbd,wJ,xbd,t1,t2,zY,xby]at hx;rcases hx with(hx |hx) |hx
  ·exact hw x (List.mem_of_mem_take hx)
  ·rw[hx];exact hc'
  ·exact hw x (List.mem_of_mem_drop hx)
 ·unfold wW Ea;z_go;rw[JB (by omega)];z_go;rw[show Str.ofString "abcdefghijklmnopqrstuvwxyz"=ABC from rfl,lp];z_go;rw[xab (show w.length<=16777216 by omega)];z_go;rw[xab (show(0:Int)<((w.length:Nat):Int) by omega)];z_go;rw[ea]
  try rw[xab (show w.length<=16777216 by omega)]
  z_go;rw[ec];z_go;rw[ei];z_go;rw[xab (by rw[K7];decide),ec'];z_go
  try rw[xab (show w.length<=16777216 by omega)]
  z_go;rw[xab (by rw[l1,show(⟨#[c']⟩:Str).length=1 from rfl];omega)];z_go
  try rw[xab (show w.length<=16777216 by omega)]
  z_go;rw[xab (by rw[l2,l3];omega)];z_go
theorem Ww {c k:Int}(hk:k.natAbs<18446744073709551616):∃x:Int,0<=x/\x<2147483647/\wY [.int c,.int k] M=some (.v (.int x),M):=by
 have a0:=xbS ((c + 7919 * k + 1) * 48271) (show(2147483647:Int)≠0 by decide);have a1:=xbA ((c + 7919 * k + 1) * 48271) (show(0:Int)<2147483647 by decide);unfold wY Ed;z_go;rw[xab (.inl (by omega))];z_go;exact⟨_,xbS _ (by decide),xbA _ (by decide),rfl⟩
theorem zdk {n:Int}(h0:0<=n)(h1:n<2147483647):∃v:Int,rO [.int n] M=some (.v (.int v),M):=by
 unfold rO zR;z_go
 by_cases h:n % 4=3
 ·simp only[h,xct];z_go;rw[xab (by omega)];z_go;exact⟨_,rfl⟩
 ·simp only[h,xbq];z_go;exact⟨_,rfl⟩
theorem DQ {a0 a1:Slot}{d:D}(h:Tk d):Aq [a0,a1,.val d,.val d] M=some (.nx [a0,a1,.val d,.val d],M):=by
 obtain⟨t,z,v,rfl⟩:=h;have o:aF .ne (.tup [.int t,.str z,.int v]) (.tup [.int t,.str z,.int v])=some (.bl false):=X5 (show 1<=50 by decide);unfold Aq;z_go;rw[VH];z_go;rw[o];z_go;rw[Ny];z_go
 try rw[Ny]
 z_go
theorem K_ {a0 a1:Slot}:∀(R:List D) (s2 s3:Slot),(∀d∈R,Tk d)->∃s2' s3',eF [2,3] Aq ((R.zip R).map fun p=>.tup [p.1,p.2]) [a0,a1,s2,s3] M=some (.nx [a0,a1,s2',s3'],M)
  | [],s2,s3,_=>⟨s2,s3,rfl⟩
  |d::R,s2,s3,h=>by
    obtain⟨s2',s3',ih⟩:=K_ R (.val d) (.val d) fun x hx=>h x (by simp[hx]);refine⟨s2',s3',?_⟩;have e:=DQ (M:=M) (a0:=a0) (a1:=a1) (h d (by simp));have ht:kj [2,3] (.tup [d,d]) [a0,a1,s2,s3]=some [a0,a1,.val d,.val d]:=rfl;rw[xci,xaJ];simp only[eF,ht,e];exact ih
theorem Uq {es:List D}(h:∀d∈es,Tk d):wR [.lst es,.lst es] M=some (.v (.bl true),M):=by
 obtain⟨s2,s3,e⟩:=K_ (M:=M) (a0:=.val (.lst es)) (a1:=.val (.lst es)) es .un .un h;unfold wR DX;z_go;rw[VG];z_go;rw[zdm (ds:=es) (es:=es) (M1:=M) (by z_go),e];z_go
variable {M:Mm}
theorem wZ {ns:List Int}{k:Int}(hk:0<=k):fV [.lst (ns.map .int),.int k] M=some (.v (.int (ns.getD k.toNat 0)),M):=by
 unfold fV DY;z_go
 by_cases h:k<(ns.length:Int)
 ·simp only[h,xct];z_go;have e:cJ (ns.map D.int) k=some (.int (ns.getD k.toNat 0)):=by
   obtain⟨j,rfl⟩:∃j:Nat,k=j:=⟨k.toNat,by omega⟩;refine tR ?_;have:j<ns.length:=by omega
   rw[xan,xag this]
   simp[List.getD,this]
  rw[e];z_go
 ·simp only[h,xbq];z_go
  simp[List.getD,xa7 (show ns.length<=k.toNat by omega)]
def Th (d:D):Prop:=∃(t:Int) (z:Str) (v:Int),d=.tup [.int t,.str z,.int v]/\t.natAbs<1000000000000/\v.natAbs<=1000000000000000000000000000000000000000000000000000000000000
theorem Th.tk {d:D}(h:Th d):Tk d:=by
 obtain⟨t,z,v,e,_⟩:=h;exact⟨t,z,v,e⟩
theorem zbJ {n:Int}(h0:0<=n)(h1:n<2147483647):∃v:Int,v.natAbs<=1000000000000000000000000000000000000000000000000000000000000/\rO [.int n] M=some (.v (.int v),M):=by
 unfold rO zR;z_go
 by_cases h:n % 4=3
 ·simp only[h,xct];z_go;rw[xab (by omega)];z_go;generalize n ^ _=y;exact⟨_,by omega,rfl⟩
 ·simp only[h,xbq];z_go;exact⟨_,by omega,rfl⟩
theorem Uy {x:Int}:∃far:Int,(far=1\/far=1000000007)/\cJ [D.int 1,.int 1,.int 1000000007] (x % 3)=some (.int far):=by
 have h:x % 3=0\/x % 3=1\/x % 3=2:=by omega
 rcases h with h |h |h<;>rw[h]
 ·exact⟨1,.inl rfl,rfl⟩
 ·exact⟨1,.inl rfl,rfl⟩
 ·exact⟨1000000007,.inr rfl,rfl⟩
theorem za5 {ns:List Int}{far a1 a2:Int}{ds:List D}{k:Int}{s6 s7:Slot}(hf:far=1\/far=1000000007)(h0:0<=k)(hk:k<=30)(hl:ds.length<=100):∃d s6' s7',Th d/\Gj [.val (.lst (ns.map .int)),.val (.int a1),.val (.int a2),.val (.int far),.own ds,.val (.int k),s6,s7] M=some (.nx [.val (.lst (ns.map .int)),.val (.int a1),.val (.int a2),.val (.int far),.own (ds ++ [d]),.val (.int k),s6',s7'],M):=by
 have c1:=wZ (M:=M) (ns:=ns) (k:=k) (by omega);have c2:=wZ (M:=M) (ns:=ns) (k:=1) (by omega);generalize ns.getD k.toNat 0=v5 at c1;generalize ns.getD (1:Int).toNat 0=v1 at c2;obtain⟨x,x0,x1,ex⟩:=Ww (M:=M) (c:=v5) (k:=k) (by omega);obtain⟨v,vb,ev⟩:=zbJ (M:=M) (n:=x / 360) (by omega) (by omega);obtain⟨z,hz, -, -,ez⟩:=V0 (M:=M) (n:=v1 % 1000003) (q:=x / 120 % 3);refine⟨.tup [.int (x % 40 * far + x / 40 % 3),.str z,.int v],.val (.int x),.val (.str z),⟨_,z,v,rfl,by rcases hf with rfl |rfl<;>omega,vb⟩,?_⟩
 unfold Gj;z_go;rw[c1];z_go;rw[ex];z_go;rw[c2];z_go;rw[ez];z_go;rw[xab (.inl (by omega))];z_go;rw[ev];z_go;rw[xab (by omega)];z_go
theorem Nf {ns:List Int}{a b far:Int}(hf:far=1\/far=1000000007)(a0:0<=a)(a1:a<=10)(b0:0<=b)(b1:b<6):∃T:List D,T.length<=5/\(∀d∈T,Th d)/\tX [.lst (ns.map .int),.int a,.int b,.int far] M=some (.v (.lst T),M):=by
 unfold tX Ef;z_go;rw[zce (i:=a) (j:=a + b) (M1:=M) (by z_go) (by omega)];z_go;refine A_ (Q:=fun o=>∃T:List D,T.length<=5/\(∀d∈T,Th d)/\bZ (gn _ o)=some (.v (.lst T),M)) (fun j env N=>N=M/\∃(ds:List D) (s5 s6 s7:Slot),ds.length=j/\(∀d∈ds,Th d)/\env=[.val (.lst (ns.map .int)),.val (.int a),.val (.int b),.val (.int far),.own ds,s5,s6,s7]) ⟨rfl,[],_,_,_,rfl,(fun d h=>nomatch h),rfl⟩ ?_ ?_
 ·rintro j d env N hd ⟨rfl,ds,s5,s6,s7,hl,hT,rfl⟩;rw[xan]at hd;have hn:j<(a + b - a).toNat:=by
   rcases xaM j (a + b - a).toNat with h |h
   ·exact h
   ·rw[xa7 (by rw[xbU];exact h)]at hd;cases hd
  rw[xcc hn]at hd;cases hd;refine⟨by simp,?_⟩;simp only[xcj,xck];obtain⟨d,s6',s7',hd,e⟩:=za5 (M:=N) (ns:=ns) (far:=far) (a1:=a) (a2:=b) (ds:=ds) (k:=a + (j:Int)) (s6:=s6) (s7:=s7) hf (by omega) (by omega) (by omega);rw[e];refine⟨rfl,_,_,_,_,by rw[xap,hl];rfl,fun y hy=>?_,rfl⟩;rcases xbd.mp hy with h |h
  ·exact hT y h
  ·rw[xby.mp h];exact hd
 ·rintro env N ⟨rfl,ds,s5,s6,s7,hl,hT,rfl⟩;rw[xar,xbU]at hl;z_go;exact⟨ds,by omega,hT,rfl⟩
variable {M:Mm}
noncomputable def mx (a b:Int):Int:=if b > a then b else a
noncomputable def ab (i:Int):Int:=if i<0 then -i else i
noncomputable def dY (s form:Int) (d e:D):List D:=if ky d=ky e/\ab (tm d - tm e)<=s then [.tup [.int (mx (tm d) (tm e)),.str (ky d),.int (hold (kZ form (mx (tm d) (tm e)) (vl d) (vl e)))]] else []
theorem zec {t v w:Int}(h1:t.natAbs<1000000000000)(h2:v.natAbs<=1000000000000000000000000000000000000000000000000000000000000)(h3:w.natAbs<=1000000000000000000000000000000000000000000000000000000000000):Sn (.int t)/\Sn (.int v)/\Sn (.int w):=by
 have p210:(1000000000000000000000000000000000000000000000000000000000000:Nat)<2 ^ 210:=by x_go
 exact⟨J1 (by omega),J1 (by omega),J1 (by omega)⟩
theorem JF {form t v w:Int}(h1:t.natAbs<1000000000000)(h2:v.natAbs<=1000000000000000000000000000000000000000000000000000000000000)(h3:w.natAbs<=1000000000000000000000000000000000000000000000000000000000000)(N:Mm):pQ [.tup ((pq form).map D.str),.int t,.int v,.int w] N=some (.v (.int (kZ form t v w)),N ++ [.lst [.int (kZ form t v w)]]):=by
 obtain⟨a,b,c⟩:=zec h1 h2 h3;have hl:=Iv (form:=form);obtain⟨d,m,r,_,_,g⟩:=zek (O7 (form:=form)) (by omega) a b c;rw[ZM]at r;cases r;exact g N
theorem Gu {a b:Int}(h1:a.natAbs<1000000000000)(h2:b.natAbs<1000000000000):(mx a b).natAbs<1000000000000:=by
 unfold mx
 split<;>assumption
theorem Fe {form s t t' v v':Int}{z z':Str}{f k:Nat}(hF:M[f]? =some (tV k))(hM:M[k]? =some (lW (pq form)))(h1:t.natAbs<1000000000000)(h2:v.natAbs<=1000000000000000000000000000000000000000000000000000000000000)(h1':t'.natAbs<1000000000000)(h2':v'.natAbs<=1000000000000000000000000000000000000000000000000000000000000):
  ∃E,uc [.tup [.int t,.str z,.int v],.tup [.int t',.str z',.int v'],.int s,.ref f] M=some (.v (.lst (dY s form (.tup [.int t,.str z,.int v]) (.tup [.int t',.str z',.int v']))),M ++ E):=by
 have cf:∀s2:Slot,s2=.val (.int (mx t t'))->nY g_ tY (aj 4) (aA (aj 2) (aA (E3.s2 bB (aj 0) (ak (.int 2))) (aA (E3.s2 bB (aj 1) (ak (.int 2))) au))) [.val (.tup [.int t,.str z,.int v]),.val (.tup [.int t',.str z',.int v']),s2,.val (.int s),.val (.ref f)] M=some (.v (.int (hold (kZ form (mx t t') v v'))),M ++ [.lst [.int (kZ form (mx t t') v v')]]):=fun s2 e=>by
  subst e;exact Lq (M1:=M) (M2:=M) (k:=f) (ds:=[.int (mx t t'),.int v,.int v']) rfl hF rfl (Fd hM (JF (Gu h1 h1') h2 h2'))
 have es:dY s form (.tup [.int t,.str z,.int v]) (.tup [.int t',.str z',.int v'])=if z=z'/\ab (t - t')<=s then [.tup [.int (mx t t'),.str z,.int (hold (kZ form (mx t t') v v'))]] else []:=rfl
 rw[es];show ∃E,bZ (zV [.val (.tup [.int t,.str z,.int v]),.val (.tup [.int t',.str z',.int v']),.un,.val (.int s),.val (.ref f)] M)=_;unfold zV;generalize nY g_ tY (aj 4) (aA (aj 2) (aA (E3.s2 bB (aj 0) (ak (.int 2))) (aA (E3.s2 bB (aj 1) (ak (.int 2))) au)))=F at cf ⊢
 by_cases hc:z=z'/\ab (t - t')<=s
 ·rw[xab hc];obtain⟨rfl,ha⟩:=hc;have ha':¬ (if t - t'<0 then -(t - t') else t - t') > s:=by unfold ab at ha;omega
  have cf':=cf _ rfl;unfold mx at cf' ⊢;refine⟨[.lst [.int (kZ form (if t' > t then t' else t) v v')]],?_⟩
  z_go;rw[xai (show ¬ s<(if t - t'<0 then -(t - t') else t - t') from ha')]
  z_go;rw[cf'];z_go
 ·rw[xai hc];refine⟨[],?_⟩;rw[xax];z_go
  by_cases hz:z=z'
  ·have hs:s<(if t - t'<0 then -(t - t') else t - t'):=by
    have:¬ ab (t - t')<=s:=fun h=>hc ⟨hz,h⟩;unfold ab at this;omega
   rw[xai (fun h=>h hz),xbY hs];z_go
  ·rw[xab hz];z_go
theorem zdO {env:E3.Env}{k:Nat}{f:E3.E}{ds es:List D}{M1:Mm}(h:env[k]? =some (.own ds))(h1:f env M=some (.v (.lst es),M1))(hl:ds.length + es.length<=1000000):lV k f env M=some (.nx (env.set k (.own (ds ++ es))),M1):=by
 simp only[lV,h,bY,h1];rw[xab (by rw[xaP];omega)]
theorem Iw {s form:Int}{d e:D}:(dY s form d e).length<=1:=by
 unfold dY
 split<;>simp
theorem O_ {s form:Int}{g f k:Nat}{r fe:Slot}{d:D}(hG:M[g]? =some (zZ s f))(hF:M[f]? =some (tV k))(hM:M[k]? =some (lW (pq form)))(hd:Th d):∀(L acc:List D) (E0:Mm) (s5:Slot),(∀e∈L,Th e)->acc.length + L.length<=1000->∃s5' E,loopS 5 Gk L [r,fe,.val (.ref g),.own acc,.val d,s5] (M ++ E0)=some (.nx [r,fe,.val (.ref g),.own (acc ++ L.flatMap (dY s form d)),.val d,s5'],M ++ E)
  | [],acc,E0,s5,_,_=>⟨s5,E0,by simp only[xcA,xax];rfl⟩
  |e::L,acc,E0,s5,hL,hl=>by
    have pl:=Iw (s:=s) (form:=form) (d:=d) (e:=e);rw[xao]at hl;have he:=hL e (by simp);obtain⟨E1,ce⟩:∃E1,uc [d,e,.int s,.ref f] (M ++ E0)=some (.v (.lst (dY s form d e)),M ++ E0 ++ E1):=by
      obtain⟨t,z,v,rfl,b1,b2⟩:=hd;obtain⟨t',z',v',rfl,b1',b2'⟩:=he;exact Fe (mF hF) (mF hM) b1 b2 b1' b2'
    obtain⟨s5',E,ih⟩:=O_ (s:=s) (form:=form) (r:=r) (fe:=fe) hG hF hM hd L (acc ++ dY s form d e) (E0 ++ E1) (.val e) (fun x hx=>hL x (by simp[hx])) (by rw[xap];omega);refine⟨s5',E,?_⟩;rw[Jd,xab (by simp)];simp only[xck,xcj];have cf:nY kW uc (aj 2) (aA (aj 4) (aA (aj 5) au)) [r,fe,.val (.ref g),.own acc,.val d,.val e] (M ++ E0)=some (.v (.lst (dY s form d e)),M ++ E0 ++ E1):=
      Lq (M1:=M ++ E0) (M2:=M ++ E0) (k:=g) (fc:=[("span",.int s),("change",.ref f)]) (ds:=[d,e]) (by z_go) (mF hG) (by z_go) ce
    unfold Gk;rw[Jh,zdO (ds:=acc) rfl cf (by omega)];z_go;rw[xbE, <-xaK acc,xaK M E0 E1];exact ih
theorem Af {s form:Int}{d:D}:∀L:List D,(L.flatMap (dY s form d)).length<=L.length
  | []=>by simp
  |e::L=>by
    have:=Af (s:=s) (form:=form) (d:=d) L;have pl:=Iw (s:=s) (form:=form) (d:=d) (e:=e);rw[xbE,xap,xao];omega
noncomputable def fM (s form:Int) (L1 L2:List D):List D:=L1.flatMap fun d=>L2.flatMap (dY s form d)
theorem Pa {s form:Int}{g f k:Nat}{r:Slot}{L1 L2:List D}(hG:M[g]? =some (zZ s f))(hF:M[f]? =some (tV k))(hM:M[k]? =some (lW (pq form)))(h2:∀e∈L2,Th e)(l2:L2.length<=5):∀(L acc:List D) (E0:Mm) (s4 s5:Slot),(∀e∈L,Th e)->acc.length + 5 * L.length<=500->∃s4' s5' E,loopS 4 Ax L [r,.val (.lst [.lst L1,.lst L2]),.val (.ref g),.own acc,s4,s5] (M ++ E0)=some (.nx [r,.val (.lst [.lst L1,.lst L2]),.val (.ref g),.own (acc ++ fM s form L L2),s4',s5'],M ++ E)
  | [],acc,E0,s4,s5,_,_=>⟨s4,s5,E0,by simp only[fM,xcA,xax];rfl⟩
  |d::L,acc,E0,s4,s5,hL,hl=>by
    rw[xao]at hl;have fl:=Af (s:=s) (form:=form) (d:=d) L2;obtain⟨s5',E1,e1⟩:=O_ (M:=M) (s:=s) (form:=form) (r:=r) (fe:=.val (.lst [.lst L1,.lst L2])) hG hF hM (hL d (by simp)) L2 acc E0 s5 h2 (by omega);obtain⟨s4',s5'',E,ih⟩:=Pa (s:=s) (form:=form) (r:=r) (L1:=L1) hG hF hM h2 l2 L (acc ++ L2.flatMap (dY s form d)) E1 (.val d) s5' (fun x hx=>hL x (by simp[hx])) (by rw[xap];omega);refine⟨s4',s5'',E,?_⟩;rw[Jd,xab (by simp)];simp only[xck,xcj];have bd:Ax [r,.val (.lst [.lst L1,.lst L2]),.val (.ref g),.own acc,.val d,s5] (M ++ E0)=some (.nx [r,.val (.lst [.lst L1,.lst L2]),.val (.ref g),.own (acc ++ L2.flatMap (dY s form d)),.val d,s5'],M ++ E1):=by
      unfold Ax;z_go;rw[e1];z_go
    rw[bd,PL,ih];unfold fM;rw[xbE, <-xaK acc]
theorem Uv {s form:Int}{x0 x1 x2:D}{L1 L2:List D}(T:TT M)(si:dN [.str (cW s)]=some (.int s))(h1:∀e∈L1,Th e)(l1:L1.length<=5)(h2:∀e∈L2,Th e)(l2:L2.length<=5):
  ∃E,xK [.tup [x0,x1,x2,.tup (.str (cW s)::(pq form).map D.str)],.lst [.lst L1,.lst L2]] M=some (.v (.lst (fM s form L1 L2)),M ++ E):=by
 have hl:=Iv (form:=form);obtain⟨g,f,k,E,e0,e1,e2,e3⟩:=ZP (M:=M) (x0:=x0) (x1:=x1) (x2:=x2) T (ZL (form:=form)) (by omega) O7 si;obtain⟨s4,s5,E2,lp⟩:=Pa (M:=M ++ E) (s:=s) (form:=form) (r:=.val (.tup [x0,x1,x2,.tup (.str (cW s)::(pq form).map D.str)])) (L1:=L1) e1 e2 e3 h2 l2 L1 [] [] .un .un h1 (by rw[xcN];omega);rw[xax,xbp]at lp;refine⟨E ++ E2,?_⟩;unfold xK Eu;z_go;rw[e0];z_go;rw[lp];z_go;rw[xaK]
theorem Ux {s form:Int}{x1 x2 mark:D}{L1 L2 es:List D}(T:TT M)(si:dN [.str (cW s)]=some (.int s))(h1:∀e∈L1,Th e)(l1:L1.length<=5)(h2:∀e∈L2,Th e)(l2:L2.length<=5)(hs:lu (fM s form L1 L2)=some es):
  ∃E,xQ [.tup [.str "join",x1,x2,.tup (.str (cW s)::(pq form).map D.str)],.lst [.lst L1,.lst L2],mark] M=some (.v (.lst es),M ++ E):=by
 obtain⟨E,e⟩:=Uv (M:=M) (x0:=.str "join") (x1:=x1) (x2:=x2) (form:=form) T si h1 l1 h2 l2;have k1:(Str.ofString "join"=Str.ofString "keep")=False:=xcT (by x_go);have k2:(Str.ofString "join"=Str.ofString "turn")=False:=xcT (by x_go);have k3:(Str.ofString "join"=Str.ofString "share")=False:=xcT (by x_go);have k4:aF .isin (.str (Str.ofString "join")) (.tup [.str (Str.ofString "fixed"),.str (Str.ofString "slide")])=some (.bl false):=by kernel_rfl
 have k5:(Str.ofString "join"=Str.ofString "gap")=False:=xcT (by x_go);have fa:xP [.tup [.str "join",x1,x2,.tup (.str (cW s)::(pq form).map D.str)],.lst [.lst L1,.lst L2],mark] M=some (.v (.lst (fM s form L1 L2)),M ++ E):=by
  unfold xP E_;z_go;simp only[k1,xbq];z_go;simp only[k2,xbq];z_go;simp only[k3,xbq];z_go;rw[k4];z_go;simp only[k5,xbq];z_go;rw[e];z_go
 refine⟨E,?_⟩;unfold xQ Fb;z_go;rw[fa];z_go;rw[PK hs];z_go
variable {M:Mm}
theorem Uu {form t v o:Int}(hv:v.natAbs<=1000000000000000000000000000000000000000000000000000000000000)(ho:o.natAbs<=1000000000000000000000000000000000000000000000000000000000000)(h0:0<=form)(h1:form<6):wX [.int form,.int t,.int v,.int o] M=some (.v (.int (hold (kZ form t v o))),M):=by
 have cs:form=0\/form=1\/form=2\/form=3\/form=4\/form=5:=by omega
 have p210:(1000000000000000000000000000000000000000000000000000000000000:Nat)<2 ^ (210 * 1):=by x_go
 have lv':v.natAbs.log2<10000:=Ay (m:=1) (by decide) (by omega);have lo':o.natAbs.log2<10000:=Ay (m:=1) (by decide) (by omega);unfold wX Ec kZ hold;rcases cs with rfl |rfl |rfl |rfl |rfl |rfl
 ·z_go
  try rfl
 ·z_go;rw[xab (.inr (.inr ⟨lv',lo'⟩))];z_go
  try rfl
 ·z_go
  try rfl
 ·z_go
  try rfl
 ·z_go
  try rfl
 ·z_go
  try rfl
theorem T7 {i j k:Int}{f g h:E}{env:E3.Env}(hf:f env M=some (.v (.int i),M))(hg:g env M=some (.v (.int j),M))(hh:h env M=some (.v (.int k),M)):d7 .le .le f g h env M=some (.v (.bl (decide (i<=j) && decide (j<=k))),M):=by
 unfold d7;simp only[bnd,hf,hg,hh,vw,bN,cP]
 by_cases h1:i<=j
 ·simp only[h1,xct,Bool.true_and,xaT]
 ·simp only[h1,xbq,Bool.false_and]
theorem zds {a0 a1 s11:Slot}{s form t v t' v':Int}{z z':Str}{acc:List D}(hv:v.natAbs<=1000000000000000000000000000000000000000000000000000000000000)(ho:v'.natAbs<=1000000000000000000000000000000000000000000000000000000000000)(h0:0<=form)(h1:form<6)(ha:acc.length<=1000):
  ∃s11',xV [a0,a1,.val (.int s),.val (.int form),.own acc,.val (.int t),.val (.str z),.val (.int v),.val (.int t'),.val (.str z'),.val (.int v'),s11] M=some (.nx [a0,a1,.val (.int s),.val (.int form),.own (acc ++ dY s form (.tup [.int t,.str z,.int v]) (.tup [.int t',.str z',.int v'])),.val (.int t),.val (.str z),.val (.int v),.val (.int t'),.val (.str z'),.val (.int v'),s11'],M):=by
 have es:dY s form (.tup [.int t,.str z,.int v]) (.tup [.int t',.str z',.int v'])=if z=z'/\ab (t - t')<=s then [.tup [.int (mx t t'),.str z,.int (hold (kZ form (mx t t') v v'))]] else []:=rfl
 have fm:=Uu (M:=M) (t:=mx t t') hv ho h0 h1;have ch:∀env:E3.Env,env=[a0,a1,.val (.int s),.val (.int form),.own acc,.val (.int t),.val (.str z),.val (.int v),.val (.int t'),.val (.str z'),.val (.int v'),s11]->d7 .le .le (s2 c7 (aj 5) (aj 2)) (aj 8) (s2 aZ (aj 5) (aj 2)) env M=some (.v (.bl (decide (t - s<=t') && decide (t'<=t + s))),M):=fun env e=>by
  subst e;exact T7 (by z_go) (by z_go) (by z_go)
 rw[es]
 by_cases hc:z=z'/\ab (t - t')<=s
 ·rw[xab hc];obtain⟨rfl,hb⟩:=hc;have c1:t - s<=t':=by unfold ab at hb;split at hb<;>omega
  have c2:t'<=t + s:=by unfold ab at hb;split at hb<;>omega
  have ch':=ch _ rfl;rw[xbY c1,xbY c2,xcv]at ch';unfold mx at fm ⊢;refine⟨.val (.int (if t' > t then t' else t)),?_⟩
  unfold xV;generalize d7 .le .le (s2 c7 (aj 5) (aj 2)) (aj 8) (s2 aZ (aj 5) (aj 2))=CH at ch' ⊢;z_go;rw[ch'];z_go;rw[fm];z_go;rw[xab (by omega)];z_go
 ·rw[xai hc,xax];refine⟨s11,?_⟩;have ch':=ch _ rfl;unfold xV;generalize d7 .le .le (s2 c7 (aj 5) (aj 2)) (aj 8) (s2 aZ (aj 5) (aj 2))=CH at ch' ⊢;z_go
  by_cases hz:z'=z
  ·have hf:(decide (t - s<=t') && decide (t'<=t + s))=false:=by
    rw[Bool.and_eq_false_iff,xcn,xcn];have:¬ ab (t - t')<=s:=fun h=>hc ⟨hz.symm,h⟩;unfold ab at this;split at this<;>omega
   rw[hf]at ch';simp only[hz]at ch' ⊢;z_go;rw[ch'];z_go
  ·simp only[hz];z_go
theorem Mv {a0 a1:Slot}{s form t v:Int}{z:Str}(hv:v.natAbs<=1000000000000000000000000000000000000000000000000000000000000)(h0:0<=form)(h1:form<6):∀(L acc:List D) (s8 s9 s10 s11:Slot),(∀e∈L,Th e)->acc.length + L.length<=1000->∃s8' s9' s10' s11',eF [8,9,10] xV L [a0,a1,.val (.int s),.val (.int form),.own acc,.val (.int t),.val (.str z),.val (.int v),s8,s9,s10,s11] M=some (.nx [a0,a1,.val (.int s),.val (.int form),.own (acc ++ L.flatMap (dY s form (.tup [.int t,.str z,.int v]))),.val (.int t),.val (.str z),.val (.int v),s8',s9',s10',s11'],M)
  | [],acc,s8,s9,s10,s11,_,_=>⟨s8,s9,s10,s11,by simp only[xcA,xax];rfl⟩
  |e::L,acc,s8,s9,s10,s11,hL,hl=>by
    rw[xao]at hl;obtain⟨t',z',v',rfl,b1,b2⟩:=hL e (by simp);have pl:=Iw (s:=s) (form:=form) (d:=.tup [.int t,.str z,.int v]) (e:=.tup [.int t',.str z',.int v']);obtain⟨s11',ee⟩:=zds (M:=M) (a0:=a0) (a1:=a1) (s11:=s11) (s:=s) (t:=t) (z:=z) (t':=t') (z':=z') (acc:=acc) hv b2 h0 h1 (by omega);obtain⟨r8,r9,r10,r11,ih⟩:=Mv (a0:=a0) (a1:=a1) (s:=s) (form:=form) (t:=t) (v:=v) (z:=z) hv h0 h1 L (acc ++ dY s form (.tup [.int t,.str z,.int v]) (.tup [.int t',.str z',.int v'])) (.val (.int t')) (.val (.str z')) (.val (.int v')) s11' (fun x hx=>hL x (by simp[hx])) (by rw[xap];omega);refine⟨r8,r9,r10,r11,?_⟩;have ht:kj [8,9,10] (.tup [.int t',.str z',.int v']) [a0,a1,.val (.int s),.val (.int form),.own acc,.val (.int t),.val (.str z),.val (.int v),s8,s9,s10,s11]=some [a0,a1,.val (.int s),.val (.int form),.own acc,.val (.int t),.val (.str z),.val (.int v),.val (.int t'),.val (.str z'),.val (.int v'),s11]:=rfl;simp only[eF,ht,ee];rw[ih,xbE, <-xaK]
theorem fu {is:List Nat}{fs:E3.EA}{body:E3.S}{env:E3.Env}{ds:List D}{M1:Mm}(h:fs env M=some (.v ds,M1)):vp is fs body env M=eF is body ds env M1:=by simp only[vp,h]
theorem Mw {s form:Int}{L1 L2:List D}(h0:0<=form)(h1:form<6)(h2:∀e∈L2,Th e)(l2:L2.length<=5):∀(L acc:List D) (s5 s6 s7 s8 s9 s10 s11:Slot),(∀e∈L,Th e)->acc.length + 5 * L.length<=500->∃s5' s6' s7' s8' s9' s10' s11',eF [5,6,7] Av L [.val (.lst L1),.val (.lst L2),.val (.int s),.val (.int form),.own acc,s5,s6,s7,s8,s9,s10,s11] M=some (.nx [.val (.lst L1),.val (.lst L2),.val (.int s),.val (.int form),.own (acc ++ fM s form L L2),s5',s6',s7',s8',s9',s10',s11'],M)
  | [],acc,s5,s6,s7,s8,s9,s10,s11,_,_=>⟨s5,s6,s7,s8,s9,s10,s11,by simp only[fM,xcA,xax];rfl⟩
  |d::L,acc,s5,s6,s7,s8,s9,s10,s11,hL,hl=>by
    rw[xao]at hl;have fl:=Af (s:=s) (form:=form) (d:=d) L2;obtain⟨t,z,v,rfl,b1,b2⟩:=hL d (by simp);obtain⟨r8,r9,r10,r11,ei⟩:=Mv (M:=M) (a0:=.val (.lst L1)) (a1:=.val (.lst L2)) (s:=s) (form:=form) (t:=t) (v:=v) (z:=z) b2 h0 h1 L2 acc s8 s9 s10 s11 h2 (by omega);obtain⟨q5,q6,q7,q8,q9,q10,q11,ih⟩:=Mw (s:=s) (form:=form) (L1:=L1) h0 h1 h2 l2 L (acc ++ L2.flatMap (dY s form (.tup [.int t,.str z,.int v]))) (.val (.int t)) (.val (.str z)) (.val (.int v)) r8 r9 r10 r11 (fun x hx=>hL x (by simp[hx])) (by rw[xap];omega);refine⟨q5,q6,q7,q8,q9,q10,q11,?_⟩;have ht:kj [5,6,7] (.tup [.int t,.str z,.int v]) [.val (.lst L1),.val (.lst L2),.val (.int s),.val (.int form),.own acc,s5,s6,s7,s8,s9,s10,s11]=some [.val (.lst L1),.val (.lst L2),.val (.int s),.val (.int form),.own acc,.val (.int t),.val (.str z),.val (.int v),s8,s9,s10,s11]:=rfl;have bd:Av [.val (.lst L1),.val (.lst L2),.val (.int s),.val (.int form),.own acc,.val (.int t),.val (.str z),.val (.int v),s8,s9,s10,s11] M=some (.nx [.val (.lst L1),.val (.lst L2),.val (.int s),.val (.int form),.own (acc ++ L2.flatMap (dY s form (.tup [.int t,.str z,.int v]))),.val (.int t),.val (.str z),.val (.int v),r8,r9,r10,r11],M):=by
      unfold Av;rw[Jh,fu (ds:=L2) (M1:=M) (by z_go),ei];z_go
    simp only[eF,ht,bd];rw[ih];unfold fM;rw[xbE, <-xaK acc]
theorem Ur {s form:Int}{L1 L2 es:List D}(h0:0<=form)(h1:form<6)(g1:∀e∈L1,Th e)(l1:L1.length<=5)(g2:∀e∈L2,Th e)(l2:L2.length<=5)(hs:lu (fM s form L1 L2)=some es):wU [.lst L1,.lst L2,.int s,.int form] M=some (.v (.lst es),M):=by
 obtain⟨q5,q6,q7,q8,q9,q10,q11,e⟩:=Mw (M:=M) (s:=s) (form:=form) (L1:=L1) h0 h1 g2 l2 L1 [] .un .un .un .un .un .un .un g1 (by rw[xcN];omega);rw[xbp]at e;unfold wU D_;z_go;rw[fu (ds:=L1) (M1:=M) (by z_go),e];z_go;rw[PK hs];z_go
variable {M:Mm}
theorem Us {form:Int}(h0:0<=form)(h1:form<6):wV [.int form] M=some (.v (.tup ((pq form).map D.str)),M):=by
 have cs:form=0\/form=1\/form=2\/form=3\/form=4\/form=5:=by omega
 unfold wV zQ pq;rcases cs with rfl |rfl |rfl |rfl |rfl |rfl
 all_goals
  z_go
  try rfl
theorem zdP {n:Int}(h0:0<=n)(h1:n<=100000000000):lJ [.int n]=some (.str (cW n))/\dN [.str (cW n)]=some (.int n):=by
 have hl:(cW n).length<=13:=Rk (i:=n) (k:=12) (by decide) (by omega);refine⟨?_,?_⟩
 ·rw[Im,xab (Wh (by omega))];rfl
 ·rw[Ij,xab (by omega),Vp (xaf (show n.natAbs<100000000001 by omega) (by x_go))];rfl
theorem O9 {s form:Int}{L1 L2:List D}:∀d∈fM s form L1 L2,Tk d:=fun d hd=>by
 unfold fM at hd;obtain⟨a,_,hd⟩:=List.mem_flatMap.mp hd;obtain⟨b,_,hd⟩:=List.mem_flatMap.mp hd;unfold dY at hd;split at hd
 ·rw[xby.mp hd];exact⟨_,_,_,rfl⟩
 ·cases hd
theorem O8 {s form:Int}{L2:List D}(l2:L2.length<=5):∀L1:List D,(fM s form L1 L2).length<=5 * L1.length
  | []=>by simp[fM]
  |d::L=>by
    have ih:=O8 (s:=s) (form:=form) l2 L;have fl:=Af (s:=s) (form:=form) (d:=d) L2;unfold fM at ih ⊢;rw[xbE,xap,xao];omega
theorem Mq {n:Nat}:∀l:List D,(∀d∈l,d.dep<=n)->D.deps l<=n
  | [],_=>xa8 _
  |d::l,h=>by
    have a:=h d (by simp);have b:=Mq l fun e he=>h e (by simp[he]);show max d.dep (D.deps l)<=n;omega
theorem Mr {L:List D}(h:∀d∈L,Tk d):D.deps L<=1:=Mq _ fun d hd=>by
 obtain⟨t,z,v,rfl⟩:=h d hd;show 1<=1
 decide
theorem Q9 {s0 s1 s8 s9:Slot}{fr:D}{s form mark:Int}{L1 L2:List D}(T:TT M)(s0':0<=s)(s1':s<=100000000000)(f0:0<=form)(f1:form<6)(h1:∀d∈L1,Th d)(l1:L1.length<=5)(h2:∀d∈L2,Th d)(l2:L2.length<=5):
  ∃M',bZ (yd [s0,s1,.val (.lst L1),.val (.lst L2),.val fr,.val (.int form),.val (.int s),.val (.int mark),s8,s9] M)=some (.v (.bl true),M'):=by
 obtain⟨b1,b2⟩:=zdP s0' s1';have pl:=O8 (s:=s) (form:=form) l2 L1;obtain⟨es,hs,pe,_⟩:=RB (ds:=fM s form L1 L2) (fun d hd=>zdJ (O9 d hd)) (by omega);obtain⟨E,et⟩:=Ux (M:=M) (x1:=.str "j") (x2:=fr) (mark:=.int mark) T b2 h1 l1 h2 l2 hs;have fd:=Ur (M:=M ++ E) f0 f1 h1 l1 h2 l2 hs;have fa:=Uq (M:=M ++ E) (es:=es) fun d hd=>O9 d (pe.mem_iff.mp hd);have fe:=Us (M:=M) f0 f1;have d1:=Mr fun d hd=>(h1 d hd).tk;have d2:=Mr fun d hd=>(h2 d hd).tk;have ql:=Iv (form:=form);refine⟨M ++ E,?_⟩;unfold yd;generalize h10:Gw=x10;z_go;rw[<-h10];unfold Gw;generalize h11:Gx=x11;z_go;rw[<-Im,b1];z_go;rw[fe];z_go;have oa:yh (.tup [.str (cW s)]) (.tup ((pq form).map D.str))=some (.tup (.str (cW s)::(pq form).map D.str)):=by
  simp only[yh];rw[xab (by rw[xaP,xar];simp;omega)];rfl
 rw[oa];z_go;rw[et];z_go;rw[<-h11];unfold Gx;generalize M ++ E=N at fd fa ⊢;z_go;rw[show aF .eq (.lst [.lst L1,.lst L2]) (.lst [.lst L1,.lst L2])=some (.bl true) from Xo (by show max (D.deps L1 + 1) (max (D.deps L2 + 1) 0) + 1<=50;omega)];z_go;rw[fd];z_go;rw[fa];z_go
theorem Q5 {ns:List Int}{far:Int}{fr:D}{L1 L2:List D}(T:TT M)(hf:far=1\/far=1000000007)(h1:∀d∈L1,Th d)(l1:L1.length<=5)(h2:∀d∈L2,Th d)(l2:L2.length<=5):
  ∃M',bZ (Bb [.val (.lst (ns.map .int)),.val (.int far),.val (.lst L1),.val (.lst L2),.val fr,.un,.un,.un,.un,.un] M)=some (.v (.bl true),M'):=by
 have c2:=wZ (M:=M) (ns:=ns) (k:=2) (by decide);generalize ns.getD (2:Int).toNat 0=v2 at c2;have sb:0<=v2 / 6 % 15 * far/\v2 / 6 % 15 * far<=100000000000:=by rcases hf with rfl |rfl<;>omega
 have go:∀mark:Int,∃M',bZ (yd [.val (.lst (ns.map .int)),.val (.int far),.val (.lst L1),.val (.lst L2),.val fr,.val (.int (v2 % 6)),.val (.int (v2 / 6 % 15 * far)),.val (.int mark),.un,.un] M)=some (.v (.bl true),M'):=fun mark=>Q9 T sb.1 sb.2 (by omega) (by omega) h1 l1 h2 l2;unfold Bb;generalize h6:GD=x6;z_go;rw[c2];z_go;rw[<-h6];unfold GD;generalize h7:GF=x7;z_go;rw[c2];z_go;rw[xab (.inl (by omega))];z_go;rw[<-h7];unfold GF;generalize h8:GJ=x8;z_go;rw[c2];z_go;rw[<-h8];unfold GJ;generalize yd=x9 at go ⊢;z_go;rw[c2];z_go
 by_cases h:v2 / 90 % 4=3
 ·simp only[h,xct];z_go;exact go _
 ·simp only[h,xbq];z_go;exact go _
theorem V5:∀ns:List Int,ns.length<=63->∃M,lR [.lst (ns.map D.int)] (fG tabs)=some (.v (.bl true),M):=by
 intro ns hl;have T0:TT (fG tabs):=⟨rfl,rfl⟩;generalize fG tabs=M0 at T0;have c0:=wZ (M:=M0) (ns:=ns) (k:=0) (by decide);have c1:=wZ (M:=M0) (ns:=ns) (k:=1) (by decide);generalize ns.getD (0:Int).toNat 0=v0 at c0;generalize ns.getD (1:Int).toNat 0=v1 at c1;obtain⟨far,hf,ef⟩:=Uy (x:=v0);obtain⟨L1,l1,h1,e1⟩:=Nf (M:=M0) (ns:=ns) (a:=3) (b:=v0 / 3 % 6) hf (by decide) (by decide) (by omega) (by omega);obtain⟨L2,l2,h2,e2⟩:=Nf (M:=M0) (ns:=ns) (a:=9) (b:=v0 / 18 % 6) hf (by decide) (by decide) (by omega) (by omega);have qa:=fun fr=>Q5 (M:=M0) (ns:=ns) (far:=far) (fr:=fr) (L1:=L1) (L2:=L1) T0 hf h1 l1 h1 l1;have qb:=fun fr=>Q5 (M:=M0) (ns:=ns) (far:=far) (fr:=fr) (L1:=L1) (L2:=L2) T0 hf h1 l1 h2 l2;unfold lR M_ zU;generalize hn1:Gv=x1;z_go;rw[c0];z_go;rw[ef];z_go;rw[<-hn1];unfold Gv;generalize hn2:Gy=x2;z_go;rw[c0];z_go;rw[e1];z_go;rw[<-hn2];unfold Gy;generalize hn3:Gz=x3;z_go;rw[c0];z_go;rw[e2];z_go;rw[<-hn3];unfold Gz;generalize hn4:GC=x4;z_go;rw[<-hn4];unfold GC;generalize Bb=x5 at qa qb ⊢;z_go;rw[c1];z_go
 by_cases h:v1 % 4=3
 ·simp only[h,xct];z_go;exact qa _
 ·simp only[h,xbq];z_go;exact qb _
theorem V6 {l:PySem.W.OpenLaw}{w:World}{K:Fgx}{mg:Mgx}{C:Ad}{h base:Heap}{f25 f26 f27:Addr}{d25 d26 d27:FuncData}(X:K.In h)(G:h.Ns mainGlobals mg)(T:Txt K mg C w)(hB:kE mg base)
  (F0:aR K "is_figures" BP)
  (F1:aR K "is_signed_figures" BX)
  (F2:aR K "is_number" BW)
  (F3:aR K "held" BL)
  (F4:aR K "is_leaf" BR)
  (F5:aR K "take_needed" Cg)
  (F6:aR K "check_words" BJ)
  (F7:aR K "combined" BK)
  (F8:aR K "leaf_value" BZ)
  (F9:aR K "reckoned" Ce)
  (F10:aR K "read_expr" Cd)
  (F11:aR K "change_of" yV)
  (F12:aR K "pairer_of" vR)
  (F13:aR K "paired" B_)
  (F14:aR K "told_in_any_order" Ci)
  (F15:aR K "told_of" Cj)
  (F16:aR K "_law_cell_at" Br)
  (F17:aR K "_law_mixed" Bv)
  (F18:aR K "_law_key" Bt)
  (F19:aR K "_law_value" Bx)
  (F20:aR K "_law_things" Bw)
  (F21:aR K "_law_expression" yU)
  (F22:aR K "_law_made" Bu)
  (F23:aR K "_law_due" Bs)
  (F24:aR K "_law_alike" Bq)
  (D25:DefAt K mg "law" lg ["_law_script"] f25 d25)
  (D26:IniAt K C.Expr "Expr.__init__" rD ["self","words"] f26 d26)
  (D27:MetAtD K C.Expr "value" "Expr.value" sJ ["self","time","value","other"] [(.int 0)] f27 d27)
  :FnOk l.prog w K mg base eV rR f25 d25 ["_law_script"] (mO K mg 1 lR):=by
 have A0:aV l.prog w K mg base 1 "is_figures" 1 xq:=(F0.ok X G QD (fun _=>zav (k:=0) T) :);have A1:aV l.prog w K mg base 2 "is_signed_figures" 1 xH:=(F1.ok X G QJ (fun _=>zaf (k:=1) T A0.up) :);have A2:aV l.prog w K mg base 3 "is_number" 1 xG:=(F2.ok X G QG (fun _=>zay (k:=2) T A1.up) :);have A3:aV l.prog w K mg base 1 "held" 1 xg:=(F3.ok X G QC (fun _=>zcQ (k:=0) T) :);have A4:aV l.prog w K mg base 4 "is_leaf" 2 xu:=(F4.ok X G QF (fun _=>zaV (k:=3) T A2.up) :);have B5:gO l.prog w K mg base 1 "take_needed" 2 u5:=(F5.okX X G QX (fun _=>zam (k:=0) T) :);have A5:=B5.quiet;have B6:gO l.prog w K mg base 5 "check_words" 3 tZ:=(F6.okX X G Qz (fun _=>zaq (k:=4) T A4.up B5.up) :);have A6:=B6.quiet;have A7:aV l.prog w K mg base 1 "combined" 3 w6:=(F7.ok X G QB (fun _=>zaJ (k:=0) T) :);have A8:aV l.prog w K mg base 1 "leaf_value" 4 xJ:=(F8.ok X G QL (fun _=>zar (k:=0) T) :);have A9:aV l.prog w K mg base 2 "reckoned" 4 pQ:=(F9.ok X G QW (fun _=>zaI (k:=1) T A7.up A8.up) :);have A26:lX l.prog w K mg base 1 C.Expr 2 wQ:=⟨_,_,_,D26.M,Ag (b:=zO) D26.F Ql (by decide) (zal (k:=0) T),D26.b⟩;have A10:aV l.prog w K mg base 6 "read_expr" 2 xO:=(F10.ok X G QV (fun _=>zaz (k:=5) (k0:=4) T rfl A6.up A26.up) :);have A27:lY l.prog w K mg base 3 C.Expr "value" 4 tW:=⟨_,_,_,D27.M,Ag (b:=zP) D27.F Qm (by decide) (zau (k:=2) T A9.up),D27.b⟩;have A28:gK l.prog w K mg base 4 g_ 3 tY:=(tM.ok Qy (zad (k:=3) T A3.up A27.up) :);obtain⟨c11,P11,ht11,hc11⟩:=T.tb_change_of;have A11:aV l.prog w K mg base 7 "change_of" 2 w5:=(F11.okM X G Qx ht11 (fun _=>zax (k:=6) T ht11 hc11 hB A10.up) :);have A29:gK l.prog w K mg base 5 kW 2 uc:=(tM.ok QT (zah (k:=4) T A28.up) :);obtain⟨c12,P12,ht12,hc12⟩:=T.tb_pairer_of;have A12:aV l.prog w K mg base 8 "pairer_of" 1 xM:=(F12.okM X G QS ht12 (fun _=>zaA (k:=7) T ht12 hc12 hB A11.up) :);have A13:aV l.prog w K mg base 9 "paired" 2 xK:=(F13.ok X G QM (fun _=>za0 (k:=8) T A12.up A29.up) :);have A14:aV l.prog w K mg base 10 "told_in_any_order" 3 xP:=(F14.ok X G QZ (fun _=>zae (k:=9) T A13.up) :);have A15:aV l.prog w K mg base 11 "told_of" 3 xQ:=(F15.ok X G Q0 (fun _=>zaO (k:=10) T A14.up) :);have A16:aV l.prog w K mg base 1 "_law_cell_at" 2 fV:=(F16.ok X G Qo (fun _=>zaG (k:=0) T) :);have A17:aV l.prog w K mg base 1 "_law_mixed" 2 wY:=(F17.ok X G Qu (fun _=>za4 (k:=0) T) :);have A18:aV l.prog w K mg base 1 "_law_key" 2 wW:=(F18.ok X G Qs (fun _=>zco (k:=0) T) :);have A19:aV l.prog w K mg base 1 "_law_value" 1 rO:=(F19.ok X G Qw (fun _=>za6 (k:=0) T) :);have A20:aV l.prog w K mg base 2 "_law_things" 4 tX:=(F20.ok X G Qv (fun _=>zaX (k:=1) T A16.up A17.up A18.up A19.up) :);have A21:aV l.prog w K mg base 1 "_law_expression" 1 wV:=by
  refine @aR.ok l.prog w K h base mg 0 "_law_expression" yU ["_law_form","_law_some"] ["_law_form"] zQ F21 X G Qq ?_ ?_ ?_
  ·intro f;refine @zan l.prog w K mg C base 0 f T
  ·exact zJ rfl
  ·decide
 have A22:aV l.prog w K mg base 1 "_law_made" 4 wX:=(F22.ok X G Qt (fun _=>zb5 (k:=0) T) :);have A23:aV l.prog w K mg base 2 "_law_due" 4 wU:=(F23.ok X G Qp (fun _=>zda (k:=1) T A22.up) :);have A24:aV l.prog w K mg base 1 "_law_alike" 2 wR:=(F24.ok X G Qn (fun _=>zbd (k:=0) T) :);refine @Ag l.prog w K mg base 11 "law" "law" lg f25 d25 ["_law_script","_law_far","_law_ones","_law_others","_law_froms","_law_form","_law_span","_law_mark","_law_handed","_law_found"] ["_law_script"] zU ?_ ?_ ?_ ?_
 ·exact D25.F
 ·exact QK
 ·decide
 ·exact @zdQ l.prog w K mg C base 11 f25 T A15.up A16.up A20.up A21.up A23.up A24.up
theorem all_mk {l:W.OpenLaw}{w:World}{K:W.Frag}{h:Heap}{mg:Mgx}{fa:Addr}(X:K.In h)(G:h.Ns mainGlobals mg)(hfa:mg "law"=some (.ref fa))
  (j4:W.nsIn K mainGlobals "Expr"=some (some (.ref j6)))
  (j7:W.nsIn K mainGlobals "DamError"=some (some (.ref j8)))
  (j9:W.nsIn K mainGlobals "NoExpr"=some (some (.ref jc)))
  (jd:W.plainGet K j6 Str.empty=true) (je:W.hasDictIn K j6=true) (jf:W.plainOver K j6=true) (jg:W.findIn K (.ref j6) "__setattr__"=some (some (.builtin "object.__setattr__")))
  (jh:W.findIn K (.ref j6) "parts"=some none)
  (ji:dw K j8=true)
  (jm:dw K jc=true)
  (jo:pF K "change_of"=true)
  (jq:pF K "pairer_of"=true)
  (jr:zH K jc=true) (jt:W.keepIn K (.ref jc)=true) (ju:Dd K jc=true)
  (F0:aR K "is_figures" BP)
  (F1:aR K "is_signed_figures" BX)
  (F2:aR K "is_number" BW)
  (F3:aR K "held" BL)
  (F4:aR K "is_leaf" BR)
  (F5:aR K "take_needed" Cg)
  (F6:aR K "check_words" BJ)
  (F7:aR K "combined" BK)
  (F8:aR K "leaf_value" BZ)
  (F9:aR K "reckoned" Ce)
  (F10:aR K "read_expr" Cd)
  (F11:aR K "change_of" yV)
  (F12:aR K "pairer_of" vR)
  (F13:aR K "paired" B_)
  (F14:aR K "told_in_any_order" Ci)
  (F15:aR K "told_of" Cj)
  (F16:aR K "_law_cell_at" Br)
  (F17:aR K "_law_mixed" Bv)
  (F18:aR K "_law_key" Bt)
  (F19:aR K "_law_value" Bx)
  (F20:aR K "_law_things" Bw)
  (F21:aR K "_law_expression" yU)
  (F22:aR K "_law_made" Bu)
  (F23:aR K "_law_due" Bs)
  (F24:aR K "_law_alike" Bq)
  (a25:W.nsIn K mainGlobals "law"=some (some (.ref f25))) (l25:K.lookup f25=some ⟨oc25,od25,.func (W.fnOf "law" "law" (cM lg) (bK lg) (aH lg) .none kV25 dc25 pm25 an25 cd25 ct25),sl25⟩) (c25:W.codeIn K cd25 "law"=true) (k25:W.keepIn K (.ref f25)=true)
  (a26:W.findIn K (.ref j6) "__init__"=some (some (.ref f26))) (l26:K.lookup f26=some ⟨oc26,od26,.func (W.fnOf "__init__" "Expr.__init__" (cM rD) (bK rD) (aH rD) .none kV26 dc26 pm26 an26 cd26 ct26),sl26⟩) (c26:W.codeIn K cd26 "Expr.__init__"=true) (k26:W.keepIn K (.ref f26)=true)
  (n26:W.isFn K (.ref f26)=true)
  (w26:W.makesIn K j6=true) (y26:W.keepIn K (.ref j6)=true)
  (a27:W.findIn K (.ref j6) "value"=some (some (.ref f27))) (l27:K.lookup f27=some ⟨oc27,od27,.func (W.fnOf "value" "Expr.value" (cM sJ) (bK sJ) (aH sJ) (.ref tt27) kV27 dc27 pm27 an27 cd27 ct27),sl27⟩) (c27:W.codeIn K cd27 "Expr.value"=true) (k27:W.keepIn K (.ref f27)=true)
  (q27:K.lookup tt27=some ⟨ot27,td27,.seq #[(Value.int 0 tk27_0)] tn27,ts27⟩)
  (n27:W.isFn K (.ref f27)=true)
  (jw:W.nsIn K mainGlobals "any"=some none)
  (jy:W.nsIn K mainGlobals "len"=some none)
  (jz:W.nsIn K mainGlobals "min"=some none)
  (jA:W.nsIn K mainGlobals "max"=some none)
  (jB:W.nsIn K mainGlobals "range"=some none)
  (jC:W.nsIn K mainGlobals "reversed"=some none)
  (jD:W.nsIn K mainGlobals "int"=some none)
  (jE:W.nsIn K mainGlobals "sorted"=some none)
  (jF:W.nsIn K mainGlobals "isinstance"=some none)
  (jG:W.nsIn K mainGlobals "bool"=some none)
  (jH:W.nsIn K mainGlobals "tuple"=some none)
  (jJ:W.nsIn K mainGlobals "zip"=some none)
  (jK:W.nsIn K mainGlobals "list"=some none)
  (jL:W.nsIn K mainGlobals "str"=some none)
  (jM:W.nsIn K mainGlobals "abs"=some none)
  (jN:W.nsIn K mainGlobals "ALL_LETTERS"=some (some (.ref jO))) (jP:K.lookup jO=some ⟨.type "tuple",jQ,.seq #[.str "t" jR,.str "v" jT,.str "w" jU] jV,jW⟩)
  (jX:W.nsIn K mainGlobals "NEEDS"=some (some (.ref jY)))
  (jZ:K.lookup jY=some ⟨.type "dict",none,.dict #[⟨qe,.str "+" qg,.ref qj⟩,⟨qm,.str "-" qp,.ref qt⟩,⟨qu,.str "*" qw,.ref qx⟩,⟨qy,.str "least" qz,.ref qC⟩,⟨qD,.str "most" qF,.ref qG⟩,⟨qH,.str "<" qI,.ref qJ⟩,⟨qK,.str "=" qL,.ref qM⟩,⟨qN,.str "not" qO,.ref qP⟩,⟨qQ,.str "and" qR,.ref qT⟩,⟨qU,.str "or" qW,.ref qX⟩] qY, #[]⟩) (qZ:(jY==sysModules)=false)
  (o7:qe=hashStr w "+")
  (o8:K.lookup qj=some ⟨.type "tuple",o9,.seq #[.str "number" oh,.str "number" ou,.int 2 oA] oE,oF⟩)
  (oG:qm=hashStr w "-")
  (oH:K.lookup qt=some ⟨.type "tuple",oJ,.seq #[.str "number" oK,.str "number" oM,.int 2 oN] oO,oR⟩)
  (oU:qu=hashStr w "*")
  (oV:K.lookup qx=some ⟨.type "tuple",oW,.seq #[.str "number" oX,.str "number" oY,.int 2 oZ] iy,iz⟩)
  (iC:qy=hashStr w "least")
  (iD:K.lookup qC=some ⟨.type "tuple",iG,.seq #[.str "number" iH,.str "number" iI,.int 2 iJ] iK,iM⟩)
  (iQ:qD=hashStr w "most")
  (iR:K.lookup qG=some ⟨.type "tuple",iT,.seq #[.str "number" iU,.str "number" iV,.int 2 iW] iY,iZ⟩)
  (u9:qH=hashStr w "<")
  (ud:K.lookup qJ=some ⟨.type "tuple",uf,.seq #[.str "truth" ug,.str "number" uh,.int 2 uo] uq,ur⟩)
  (uw:qK=hashStr w "=")
  (ux:K.lookup qM=some ⟨.type "tuple",uy,.seq #[.str "truth" uz,.str "number" uD,.int 2 uE] uF,uG⟩)
  (uH:qN=hashStr w "not")
  (uI:K.lookup qP=some ⟨.type "tuple",uJ,.seq #[.str "truth" uK,.str "truth" uL,.int 1 uM] uN,uO⟩)
  (uP:qQ=hashStr w "and")
  (uQ:K.lookup qT=some ⟨.type "tuple",uR,.seq #[.str "truth" uT,.str "truth" uU,.int 2 uV] uW,uX⟩)
  (uY:qU=hashStr w "or")
  (uZ:K.lookup qX=some ⟨.type "tuple",v7,.seq #[.str "truth" v8,.str "truth" v9,.int 2 vA] vB,vC⟩)
  (vD:W.nsIn K mainGlobals "FIGURES"=some (some (.str "0123456789" vG)))
  (vH:W.nsIn K mainGlobals "MOST_FIGURES"=some (some (.int 20 vI)))
  (vJ:W.nsIn K mainGlobals "MOST_VALUE"=some (some (.int 1000000000000000000000000000000000000000000000000000000000000 vK)))
  (vL:W.nsIn K mainGlobals "LETTERS"=some (some (.str "abcdefghijklmnopqrstuvwxyz" vM)))
  (vN:W.nsIn K mainGlobals "COND_LETTERS"=some (some (.str "tv" vO)))
  :∃fd:FuncData,(∀(s:Shared) (v:Value),BindsTo s fd ⟨[v],[]⟩ [("_law_script",v)])/\∀base:Heap,K.In base->base.Ns mainGlobals mg->kE mg base->FnOk l.prog w K mg base eV rR fa fd ["_law_script"] (CK K lR):=by
 have e:=hfa.symm.trans (xb4 X G a25);cases e;have T:Txt (w:=w) K mg ⟨j6,j8,jc⟩:=⟨by simp only[wH,xav,xbj,xcz,forall_eq_or_imp,forall_eq];exact⟨xaV X G jw,xaV X G jy,xaV X G jz,xaV X G jA,xaV X G jB,xaV X G jC,xaV X G jD,xaV X G jE,xaV X G jF,xaV X G jG,xaV X G jH,xaV X G jJ,xaV X G jK,xaV X G jL,xaV X G jM⟩,⟨xb4 X G j4,jd,je,jf,jg⟩,jh,xb4 X G j7,ji,xb4 X G j9,jm,RX jo,RX jq,jr,jt,ju,⟨_,xb4 X G jN,Np (vs:=[(.str "t"),(.str "v"),(.str "w")]) (its:= #[.str "t" _,.str "v" _,.str "w" _]) (o:=⟨.type "tuple",_,.seq #[.str "t" _,.str "v" _,.str "w" _] _,_⟩) jP rfl rfl (by show 3<=sizeLine;decide) (.cons ⟨_,rfl⟩ (.cons ⟨_,rfl⟩ (.cons ⟨_,rfl⟩ (.nil)))) (fun _ _=>⟨_,_,rfl,rfl,⟨_,_,rfl,rfl,⟨_,_,rfl,rfl,rfl⟩⟩⟩)⟩,⟨_,xb4 X G jX,_,_,_,_,jZ,⟨rfl,rfl,rfl⟩,rfl,.cons (v:=.ref qj) o7 rfl (mG o8) (.cons (v:=.ref qt) oG rfl (mG oH) (.cons (v:=.ref qx) oU rfl (mG oV) (.cons (v:=.ref qC) iC rfl (mG iD) (.cons (v:=.ref qG) iQ rfl (mG iR) (.cons (v:=.ref qJ) u9 rfl (mG ud) (.cons (v:=.ref qM) uw rfl (mG ux) (.cons (v:=.ref qP) uH rfl (mG uI) (.cons (v:=.ref qT) uP rfl (mG uQ) (.cons (v:=.ref qX) uY rfl (mG uZ) (.nil)))))))))),by x_go,qZ⟩,⟨_,xb4 X G vD⟩,⟨_,xb4 X G vH⟩,⟨_,xb4 X G vJ⟩,⟨_,xb4 X G vL⟩,⟨_,xb4 X G vN⟩⟩;have D25:DefAt K mg "law" lg ["_law_script"] _ _:=⟨xb4 X G a25,Ah l25 c25 k25,(FJ (st:=lg) l25 c25 k25).binds (ps:=["_law_script"]) fun _ _ _ _ _ _ us hl=>match us,hl with | [_],_=>rfl⟩
 have D26:IniAt K j6 "Expr.__init__" rD ["self","words"] _ _:=⟨⟨w26,a26,n26,y26⟩,Ah l26 c26 k26,(FJ (st:=rD) l26 c26 k26).binds (ps:=["self","words"]) fun _ _ _ _ _ _ us hl=>match us,hl with | [_,_],_=>rfl⟩
 have D27:MetAtD K j6 "value" "Expr.value" sJ ["self","time","value","other"] [(.int 0)] _ _:=⟨⟨a27,n27,k27⟩,Ah l27 c27 k27,fun s us hK hl=>by(rcases us with _ |⟨_,_ |⟨_,_ |⟨_,_ |⟨_,_ |⟨_,us⟩⟩⟩⟩⟩<;>first |exact W.binds_K hK rfl q27 rfl rfl rfl |(exfalso;simp at hl;done)),[V.int 0],[(Value.int 0 tk27_0)],fun s us hK hl=>by(rcases us with _ |⟨_,_ |⟨_,_ |⟨_,_ |⟨_,us⟩⟩⟩⟩<;>first |exact W.binds_K hK rfl q27 rfl rfl rfl |(exfalso;simp at hl;done)),.cons ⟨_,rfl⟩ (.nil),fun _ _=>⟨_,_,rfl,rfl,rfl⟩,rfl⟩
 refine⟨W.fnOf "law" "law" (cM lg) (bK lg) (aH lg) .none kV25 dc25 pm25 an25 cd25 ct25,fun s v=>.of_eq rfl,fun base _ _ hB=>U3 ?_⟩;exact V6 X G T hB F0 F1 F2 F3 F4 F5 F6 F7 F8 F9 F10 F11 F12 F13 F14 F15 F16 F17 F18 F19 F20 F21 F22 F23 F24 D25 D26 D27
end My
open PySem PySem.W PyProof.Rows
set_option maxRecDepth 100000 in
set_option maxHeartbeats 0 in
theorem PySem.Challenge.cw_rowdam_k29_pairs_told_holds : PySem.Challenge.rw_rowdam_k29_pairs_told.Holds := by
 w_on;refine HQ.two "special-get-raises" My.he My.hAf My.hBf My.hAt My.hBt ?_
 k_fill
 refine E3.zbb (T:=My.tabs) (l:=PySem.Challenge.rw_rowdam_k29_pairs_told) (k:=My.rR) (g:=My.lR) (x:="_law_script") rfl rfl ⟨rfl,by decide,by decide⟩ (fun w h Y=>by first |exact PySem.W.kIn_of Y |exact PySem.W.km_in_of Y) (fun w h Y=>by refine⟨_,?_,PySem.W.km_tabs_of Y⟩;kernel_rfl) ?F My.V5
 case F=>
  intro w mg fa h KX G hmg
  refine' My.all_mk KX G hmg ?j4 ?j7 ?j9 ?jd ?je ?jf ?jg ?jh ?ji ?jm ?jo ?jq ?jr ?jt ?ju ?F0 ?F1 ?F2 ?F3 ?F4 ?F5 ?F6 ?F7 ?F8 ?F9 ?F10 ?F11 ?F12 ?F13 ?F14 ?F15 ?F16 ?F17 ?F18 ?F19 ?F20 ?F21 ?F22 ?F23 ?F24 ?a25 ?l25 ?c25 ?k25 ?a26 ?l26 ?c26 ?k26 ?n26 ?w26 ?y26 ?q27 ?a27 ?l27 ?c27 ?k27 ?n27 ?jw ?jy ?jz ?jA ?jB ?jC ?jD ?jE ?jF ?jG ?jH ?jJ ?jK ?jL ?jM ?jN ?jP ?jX ?jZ ?qZ ?o7 ?o8 ?oG ?oH ?oU ?oV ?iC ?iD ?iQ ?iR ?u9 ?ud ?uw ?ux ?uH ?uI ?uP ?uQ ?uY ?uZ ?vD ?vH ?vJ ?vL ?vN
  (case j4 |j7 |j9 |jd |je |jf |jg |jh=>k_is);(case ji |jm |jo |jq |jr=>kernel_rfl);(case jt=>k_is);(case ju=>refine E3.zc7 (E3.zcs ?_ ?_ ?_) ?_ ?_ ?_ ?_ ?_<;>k_is);(case a25 |l25 |c25 |k25 |a26 |l26 |c26 |k26=>k_is);(case n26 |w26=>kernel_rfl);(case y26 |q27 |a27 |l27 |c27 |k27=>k_is);(case n27=>kernel_rfl);(case jw |jy |jz |jA |jB |jC |jD |jE |jF |jG |jH |jJ |jK |jL |jM |jN |jP |jX |jZ=>k_is);(case qZ=>first |decide +kernel |kernel_rfl);(case o7=>rfl);(case o8=>k_is);(case oG=>rfl);(case oH=>k_is);(case oU=>rfl);(case oV=>k_is);(case iC=>rfl);(case iD=>k_is);(case iQ=>rfl);(case iR=>k_is);(case u9=>rfl);(case ud=>k_is);(case uw=>rfl);(case ux=>k_is);(case uH=>rfl);(case uI=>k_is);(case uP=>rfl);(case uQ=>k_is);(case uY=>rfl);(case uZ |vD |vH |vJ |vL |vN=>k_is);all_goals (refine' E3.aR.mk ?a ?l ?c ?k;(case a=>k_is);(case l=>k_is);(case c=>k_is);(case k=>k_is))
