import PyProof.Rows.All
import Wide.All
import OpenK.AllK
import Wide.FinOn
import Lean
import PyProof.EqAt
import PyProof.EqKinds
import PyProof.TupleCall
import KE.KIsAll
import KE.KMinKey
import KE.KTupSum
import KE.KxSplit
import KE.KxAffix
import KE.KIntText
import PyProof.NeKinds
import PyProof.Rows.EqBoolInt
import KE.KSortTup
import PyProof.Conv_int_bool
import PySem.Challenge.RW_rowdam_k30_rows_refused
noncomputable section
set_option Elab.async false
set_option linter.all false
set_option compiler.extract_closed false
set_option maxRecDepth 100000
def xaa:=@PySem.wpAny_bind
def xab:=@PySem.Heap.get?_push_of_some
def xac:=@if_pos
def xad:=@PySem.Heap.lt_size
def xae:=@Option.map_eq_some_iff
def xaf:=@Nat.le_refl
def xag:=@if_neg
def xah:=@Nat.lt_of_lt_of_le
def xai:=@List.getElem?_eq_getElem
def xaj:=@PySem.wpAny_pure
def xak:=@List.size_toArray
def xal:=@List.getElem?_eq_some_iff
def xam:=@List.map_cons
def xan:=@List.getElem?_map
def xao:=@List.mem_append_right
def xap:=@Nat.ne_of_lt
def xaq:=@Bool.false_ne_true
def xar:=@Option.some.inj
def xas:=@List.mem_cons
def xat:=@Bool.and_eq_true
def xau:=@PySem.Heap.get?_push_size
def xav:=@List.mem_cons_of_mem
def xaw:=@PySem.sizeLine_eq
def xax:=@List.length_append
def xay:=@List.length_set
theorem xaz:type_of%@List.length_cons:=by intros;rfl
def xaA:=@List.mem_cons_self
def xaB:=@PySem.Heap.get?_update_other
def xaC:=@List.length_map
def xaD:=@Nat.le_trans
def xaE:=@decide_eq_false
def xaF:=@PySem.W.kia_one
def xaG:=@List.getElem?_set
def xaH:=@PySem.wpAny_mono
def xaI:=@List.mem_singleton
def xaJ:=@Nat.lt_or_ge
theorem xaK:type_of%@List.find?_cons:=by intros;rfl
def xaL:=@List.mem_of_getElem?
def xaM:=@PySem.Obj.data_mapFields
def xaN:=@Int.emod_lt_of_pos
def xaO:=@List.mem_append
def xaP:=@Ne.symm
theorem xaQ:type_of%@List.getElem?_cons_succ:=by intros;rfl
def xaR:=@PySem.wpAny_holding
def xaS:=@Array.getElem?_eq_some_iff
def xaT:=@PySem.F.excBase_ValueError
def xaU:=@beq_iff_eq
def xaV:=@Nat.le_antisymm
def xaW:=@List.getElem?_set_self
def xaX:=@List.getElem?_append_left
def xaY:=@List.drop_eq_getElem_cons
def xaZ:=@Nat.le_of_lt_succ
def xa0:=@Nat.lt_irrefl
theorem xa2:type_of%@List.length_singleton:=by intros;rfl
def xa3:=@PySem.W.mg_none_of
def xa4:=@List.append_nil
def xa5:=@Bool.eq_iff_iff
def xa6:=@Int.emod_nonneg
def xa7:=@beq_self_eq_true
def xa8:=@List.not_mem_nil
def xa9:=@List.getElem?_append_right
def xba:=@beq_eq_false_iff_ne
def xbb:=@PySem.Heap.get?_update_self
def xbc:=@Nat.zero_le
def xbd:=@decide_eq_true_eq
theorem xbe:type_of%@List.filterMap_cons:=by intros;rfl
def xbf:=@decide_eq_true
def xbg:=@List.getElem?_eq_none
def xbh:=@List.map_append
def xbi:=@List.append_assoc
def xbj:=@PySem.wpAny_truthy_bool
def xbk:=@PySem.wpAny_loadPart_at
theorem xbl:type_of%@List.any_cons:=by intros;rfl
def xbm:=@List.getElem?_replicate
def xbn:=@PySem.wpAny_Call_Name_kw
def xbo:=@PySem.W.Looks.here
def xbp:=@Bool.false_eq_true
def xbq:=@List.mem_map
def xbr:=@List.map_map
def xbs:=@List.length_replicate
def xbt:=@PySem.Obj.isFreed_of_fields
def xbu:=@PySem.strLen_append
def xbv:=@PySem.wpAny_newObj_type
def xbw:=@PySem.Heap.get?_none_of_le
def xbx:=@List.map_nil
theorem xby:type_of%@List.lookup_cons:=by intros;rfl
def xbz:=@List.drop_length
def xbA:=@PySem.F.slot_list_getattribute
def xbB:=@PySem.mem_of_lookup
def xbC:=@Nat.add_le_add_left
def xbD:=@PySem.wpAny_getItem_str_slice
theorem xbE:type_of%@Option.map_some:=by intros;rfl
def xbF:=@List.nodup_cons
def xbG:=@Nat.lt_of_le_of_lt
theorem xbH:type_of%@List.nil_append:=by intros;rfl
def xbI:=@Int.mul_le_mul_of_nonneg_left
def xbJ:=@List.length_range
def xbK:=@List.drop_zero
def xbL:=@PySem.boot_len
def xbM:=@PyProof.Rows.callWith_type1
def xbN:=@List.getElem?_set_ne
def xbO:=@Nat.lt_succ_self
def xbP:=@PySem.lookup_relabel_local
def xbQ:=@PySem.codeAny_call_builtin
def xbR:=@or_false
def xbS:=@PySem.wpAny_standAt
theorem xbT:type_of%@List.all_cons:=by intros;rfl
def xbU:=@if_true
def xbV:=@PySem.W.mg_of
def xbW:=@PySem.wpAny_isSubtype_exc
def xbX:=@PySem.wpAny_execs_nil
def xbY:=@PySem.wpAny_passesOwn
def xbZ:=@Nat.not_lt_zero
def xb0:=@List.mem_or_eq_of_mem_set
def xb1:=@Nat.ne_of_gt
def xb2:=@List.mem_filterMap
def xb3:=@PySem.codeAny_mono
def xb4:=@PySem.W.callWith_K
def xb5:=@if_false
def xb6:=@PySem.wpAny_comprehension_free
def xb7:=@List.mem_range
def xb8:=@PySem.wpAny_call
def xb9:=@Bool.and_false
def xca:=@PySem.F.slot_dict_itemiterator_iter
def xcb:=@PySem.wpAny_pyIter_list
theorem xcc:type_of%@Int.toNat_natCast:=by intros;rfl
def xcd:=@PySem.PassesOwn.leaving
def xce:=@PySem.wpAny_pyNext_list_item
def xcf:=@PySem.Calls.callWith_builtin
def xcg:=@PySem.wpAny_field
def xch:=@List.take_of_length_le
def xci:=@Bool.and_self
def xcj:=@List.length_take
def xck:=@List.length_drop
def xcl:=@List.all_eq_true
def xcm:=@List.getElem_mem
def xcn:=@PySem.wpAny_pyNext_list_end
def xco:=@PySem.F.slot_dict_get
def xcp:=@Array.getElem?_setIfInBounds_ne
def xcq:=@List.mem_append_left
def xcr:=@PyProof.Rows.callWith_builtin1
def xcs:=@PySem.SeqAt.EqAt.same
theorem xct:type_of%@List.length_nil:=by intros;rfl
def xcu:=@PySem.post_val_or_str
def xcv:=@PySem.W.looks_findIn
theorem xcw:type_of%@Array.length_toList:=by intros;rfl
def xcx:=@List.getElem?_range
def xcy:=@PySem.wpAny_setField
def xcz:=@Nat.le_succ
def xcA:=@PySem.SeqAt.EqAt.int_str
def xcB:=@PySem.SeqAt.EqAt.str_int
def xcC:=@Array.find?_toList
def xcD:=@PySem.Calls.spliced_cons
def xcE:=@PySem.tupleKind_room_in1
def xcF:=@List.contains_cons
def xcG:=@PySem.Paired.length
def xcH:=@PySem.Calls.Name_function_global
def xcI:=@Int.fdiv_eq_ediv_of_nonneg
def xcJ:=@PySem.wpAny_assign_Name
def xcK:=@PySem.W.kitx_list
def xcL:=@PySem.W.kitx_dict
def xcM:=@PySem.Obj.cls_mapFields
def xcN:=@PySem.codeAny_handlers_suite_as
def xcO:=@Nat.not_le
def xcP:=@Classical.byContradiction
def xcQ:=@Option.isSome_iff_exists
def xcR:=@Nat.le_of_not_lt
def xcS:=@PySem.Txt.slice_le
def xcT:=@PySem.wpAny_typeOf
theorem xcU:type_of%@List.cons_append:=by intros;rfl
def xcV:=@PySem.W.any_some
def xcW:=@PySem.SeqAt.RcAt.lists_lengths
def xcX:=@PySem.wpAny_isInstance
def xcY:=@List.any_eq_true
def xcZ:=@PySem.F.args_dict_get_3
def xc1:=@PySem.F.plainAttrs_dict
def xc2:=@PySem.F.plainAttrs_list
theorem xc3:type_of%@List.getElem?_cons_zero:=by intros;rfl
def xc4:=@PySem.F.slot_dict_items
def xc5:=@PySem.F.slot_list_count
def xc6:=@List.of_mem_zip
theorem xc7:type_of%@List.foldl_cons:=by intros;rfl
def xc8:=@PySem.PassesOwn.never
def xc9:=@PySem.W.cellsFrom_some
def xda:=@PySem.F.entry_dict_get
def xdb:=@List.drop_of_length_le
def xdc:=@Int.ediv_lt_iff_lt_mul
def xdd:=@Int.le_ediv_iff_mul_le
def xde:=@PySem.wpAny_bindName
def xdf:=@List.mem_iff_getElem?
def xdh:=@Bool.and_eq_true_iff
def xdi:=@PySem.wpAny_onRaise
def xdj:=@Bool.and_true
theorem xdk:type_of%@List.sum_cons:=by intros;rfl
def xdl:=@PySem.W.looks_mroIn
def xdm:=@PySem.W.looks_clsIn
def xdn:=@Int.toNat_of_nonneg
def xdo:=@List.map_congr_left
def xdp:=@List.mem_map_of_mem
def xdq:=@Array.append_assoc
def xdr:=@Nat.le_of_lt
def xds:=@PySem.W.kitx_tuple
def xdt:=@Nat.lt_trans
def xdu:=@Bool.or_true
def xdv:=@PySem.W.looks_find
def xdw:=@List.set_set
def xdx:=@Nat.min_self
def xdy:=@Int.add_sub_cancel
def xdz:=@of_decide_eq_false
theorem xdA:type_of%@List.set_cons_succ:=by intros;rfl
theorem xdB:type_of%@List.set_cons_zero:=by intros;rfl
def xdC:=@Int.lt_add_one_iff
def xdD:=@Nat.lt_succ_of_lt
def xdE:=@Bool.not_eq_true'
def xdF:=@PySem.W.handed_on
def xdG:=@Option.some.injEq
def xdH:=@Nat.le_succ_of_le
def xdI:=@Sum.inr.inj
def xdJ:=@Nat.log2_lt
abbrev Fgx:=PySem.W.Frag
abbrev Mgx:=PySem.Str->Option PySem.Value
abbrev Pnx:=List (PySem.Addr×PySem.Obj)
local macro_rules | `(tactic| x_go)=> `(tactic| decide +kernel)
namespace HQ
open PySem PySem.W PySem.Calls PyProof.Rows
noncomputable def Kc {α:Type} (t:BT):(BT->α)->α:= @BT.rec (fun _=>(BT->α)->α) (fun k=>k .nil) (fun v _ _ a b k=>a fun l=>b fun r=>k (.node v l r)) t
theorem DY {α:Type}:∀(t:BT) (k:BT->α),Kc t k=k t
 |.nil,_=>rfl
 |.node _ l r,_=>(DY l _).trans (DY r _)
noncomputable def D_ {α:Type} (n:Nat) (k:Nat->α):α:= @Nat.rec (fun _=>α) (k 0) (fun n _=>k (Nat.succ n)) n
theorem Kd {α:Type}(n:Nat)(k:Nat->α):D_ n k=k n:=by cases n<;>rfl
def frs {α:Type}(s:SharedT)(k:SharedT->α):α:= @SharedT.rec (fun _=>α) (fun T n l g d i o=>Kc T fun T=>D_ n fun n=>D_ i fun i=>k ⟨T,n,l,g,d,i,o⟩) s
theorem S7 {α:Type}(s:SharedT)(k:SharedT->α):frs s k=k s:=(DY _ _).trans ((Kd _ _).trans (Kd _ _))
abbrev qd:Code->Sem Fin:=Fast.tw11892475500146522536 Fast.tw14364793385576792824
noncomputable def Ht (p:Program) (w:World):SharedT->Thread->Option (SharedT×Thread)
  |⟨T,n,l,g,d,i,o⟩,⟨c,cd,q,fs⟩=>match c with
    |.load .. |.update .. |.alloc .. |.loadIfAlive .. =>Fast.tw10156331382660048174 qd p w ⟨T,n,l,g,d,i,o⟩ ⟨c,cd,q,fs⟩
    |c=>match Fast.tw8437177126325714943 qd p w ⟨{},g,d,i,o⟩ ⟨c,cd,q,fs⟩ with
      |.go ⟨_,g,d,i,o⟩ t=>some (⟨T,n,l,g,d,i,o⟩,t)
      |.halt _ _=>none
theorem zb9 {p:Program}{w:World}(s:SharedT)(t:Thread):Ht p w s t=stepT (denote treeTable) p w s t:=by
 obtain⟨T,n,l,g,d,i,o⟩:=s;obtain⟨c,cd,q,fs⟩:=t;rw[show denote treeTable=qd by unfold qd;rw[<-Fast.te11892475500146522536, <-Fast.te14364793385576792824]];cases c<;>(unfold Ht;dsimp only;first |rw[<-Fast.te10156331382660048174] |(unfold stepT;dsimp only;rw[<-Fast.te8437177126325714943];cases step qd p w _ _<;>rfl))
abbrev OS:=Option SharedT
noncomputable def bd (p:Program) (w:World) (n:Nat) (ih:SharedT->Thread->OS) (s:SharedT) (t:Thread):OS:=
 @Bool.rec (fun _=>OS) (@Bool.rec (fun _=>OS) none (@Option.rec _ (fun _=>OS) none (fun r=> @Prod.rec _ _ (fun _=>OS) (fun s t=> @Bool.rec (fun _=>OS) (ih s t) (frs s fun s=>ih s t) (Nat.beq (n % 64) 0)) r) (Ht p w s t)) (Fast.tw6613529449190102663 11 (some (.ref 6)) t)) (some s) (through t)
noncomputable def go (p:Program) (w:World) (n:Nat):SharedT->Thread->OS:= @Nat.rec (fun _=>SharedT->Thread->OS) (fun _ _=>none) (bd p w) n
theorem pL {p:Program}{w:World}:∀{n:Nat} {s s':SharedT} {t:Thread},go p w n s t=some s'->topRun treeTable p w 11 (some (.ref 6)) n s.abs t=some s'.abs
  |0,_,_,_,h=>by cases h
  |n + 1,s,s',t,h=>by
    rw[show go p w (n + 1) s t=bd p w n (go p w n) s t from rfl]at h;unfold bd at h;rw[zb9, <-Fast.te6613529449190102663]at h;unfold topRun
    cases ht:through t with
    |true=>rw[ht]at h;cases h;rfl
    |false=>
      rw[ht]at h
      cases hk:stepOk 11 (some (.ref 6)) t with
      |false=>rw[hk]at h;cases h
      |true=>
        rw[hk]at h
        cases hs:stepT (denote treeTable) p w s t with
        |none=>rw[hs]at h;cases h
        |some r=>
          obtain⟨s₂,t₂⟩:=r;rw[hs]at h;dsimp only at h ⊢;rw[stepT_spec hs];rw[S7]at h;exact pL (by revert h;cases Nat.beq (n % 64) 0<;>exact id)
noncomputable def mkT:List Obj->Nat->BT->BT
 | [],_,t=>t
 |o::l,i,t=>mkT l (i + 1) (t.ins i o)
noncomputable def bS (w:World) (o:OsState):SharedT:=⟨mkT (boot_heap w.params).objs.toList 0 .nil,11,{},⟨[]⟩,boot_drawn,boot_toks,o⟩
theorem Qq (w:World)(o:OsState):(bS w o).abs=⟨boot_heap w.params,⟨[]⟩,boot_drawn,boot_toks,o⟩:=by kernel_rfl
theorem Qs (P:Params):((boot_heap P).isNs mainGlobals && (Array.mk []:Array GenState).size==0,(boot_heap P).objs.size,(boot_heap P).nsMap mainGlobals "__annotations__")=(true,11,some (.ref 6)):=by kernel_rfl
noncomputable def lst {α:Type} (T:BT) (n:Nat):List Obj->(List Obj->α)->α:=
 @Nat.rec (fun _=>List Obj->(List Obj->α)->α) (fun a k=>k a) (fun i ih a k=> @Option.rec Obj (fun _=>α) (ih (default::a) k) (fun o=> @Obj.rec (fun _=>α) (fun c d t l=>ih (⟨c,d,t,l⟩::a) k) o) (T.get i)) n
theorem K_ {α:Type}(T:BT):∀(n:Nat) (a:List Obj) (k:List Obj->α),lst T n a k=k (T.list n ++ a)
  |0,_,_=>rfl
  |n + 1,a,k=>by
    rw[show T.list (n + 1)=T.list n ++ [(T.get n).getD default] by unfold BT.list;rw[List.range_succ,xbh];rfl,xbi];unfold lst;dsimp only;cases T.get n<;>exact K_ T n _ k
noncomputable def Jc {α:Type} (s:SharedT) (k:Shared->α):α:= @SharedT.rec (fun _=>α) (fun T n l g d i o=>lst T n [] fun a=>k ⟨⟨⟨a⟩,l⟩,g,d,i,o⟩) s
theorem Jd {α:Type}(s:SharedT)(k:Shared->α):Jc s k=k s.abs:=(K_ _ _ _ _).trans (by rw[xa4];rfl)
section
variable {p q:Program}{lo:List Str}{Xt:Shared->Bool}{α:Type}{Yf:Shared->α}{Ya:World->α}{N:Nat}{g0:Bool}{B C:Prop}
abbrev Pre (_:LeftO p q lo Xt Yf Ya N g0/\B->C):Prop:=(opening p=plainProg p.main.scope.names/\∀s,fenceModules? p s=some s)/\Nat.ble 600 N=true
abbrev See {β:Type}(p:Program)(N:Nat)(v:World->World)(f:World->Shared->β)(y:World->β):Prop:=∀w o,(go p (v w) N (bS (v w) o) (topStub p)).map (fun s=>Jc s (f (v w)))=some (y (v w))
abbrev oK (v:World->World)(_:LeftO p q lo Xt Yf Ya N g0/\B->C):Prop:=
 See p N v (fun w s=>(staticsOk (importedModules p.main.body) (boot_heap w.params) s.heap && namesBound p s.heap && gensDone s && laidKept (boot_heap w.params) s.heap,Yf s)) fun w=>(true,Ya w)
abbrev oM (v:World->World)(_:LeftO p q lo Xt Yf Ya N g0/\B->C):Prop:=See p N v (fun _ s=>Fast.tw4187177175401517315 q lo (importedModules p.main.body) Xt g0 s) fun _=>openGood q lo
theorem left {v:World->World}{H:LeftO p q lo Xt Yf Ya N g0/\B->C}(e:Pre H)(a:oK v H)(b:oM v H)(w:World):
  (openEnds treeTable p (v w) N).map (fun s=>(openSeen q lo (importedModules p.main.body) Xt g0 s,Yf s))=some (openGood q lo,Ya (v w)):=by
 obtain⟨⟨h,gs,d,k,o⟩,e1,e2⟩:=xae.mp (boot_open e.1.1 e.2 e.1.2 (v w));obtain⟨rfl,rfl,rfl,rfl⟩:h=boot_heap (v w).params/\gs=⟨[]⟩/\d=boot_drawn/\k=boot_toks:=by simpa using e2
 obtain⟨s,hs,hv⟩:=xae.mp (a w o);have hb:=b w o;rw[hs,xbE,Jd, <-Fast.te4187177175401517315]at hb;rw[Jd]at hv;obtain⟨l1,l3⟩:=Prod.mk.inj hv;obtain⟨z1,z2,z3⟩:_/\_/\_:=by simpa only[Prod.mk.injEq] using Qs (v w).params
 have hr:=pL hs;rw[Qq]at hr;have t:topFrom treeTable p (v w) N ⟨boot_heap (v w).params,⟨[]⟩,boot_drawn,boot_toks,o⟩=some s.abs:=by
  unfold topFrom;dsimp only;rw[z1,z2,z3,hr];dsimp only[Option.bind_some];rw[l1]
 unfold openEnds;rw[e1,Option.bind_some,t];exact congrArg some (Prod.ext (xar hb) l3)
theorem one {H:LeftO p q lo Xt Yf Ya N g0/\B->C}(e:Pre H)(a:oK id H)(b:oM id H)(hB:B):C:=H ⟨left e a b,hB⟩
end
end HQ
section
local macro_rules
  | `(tactic| refine $f:term $as:term*)=>do
    let mut bs:= #[]
    let mut hit:=false
    for a in as do
      if a.raw.isOfKind ``Lean.Parser.Term.syntheticHole && a.raw[1].getId== `hl then
        hit:=true
        bs:=bs.push (<- `((And.left ?hx)))
      else if a.raw.isOfKind ``Lean.Parser.Term.syntheticHole && a.raw[1].getId== `hc then
        bs:=bs.push (<- `((And.right ?hx)))
      else bs:=bs.push a
    if hit then `(tactic| refine $f $bs*) else Lean.Macro.throwUnsupported
set_option maxHeartbeats 0 in
open_top My.hdAll for PySem.Challenge.rw_rowdam_k30_rows_refused
theorem My.he:HQ.Pre My.hdAll:=⟨⟨by kernel_rfl,fun _=>by kernel_rfl⟩,by kernel_rfl⟩
theorem My.hB:HQ.oM id My.hdAll:=fun _ _=>by kernel_rfl
theorem My.hA:HQ.oK id My.hdAll:=fun _ _=>by kernel_rfl
end
namespace L2
open PySem PySem.Spec PyProof.Rows
abbrev Key:=Sum Int Str
noncomputable def pP:Key->Value->Bool
 |.inl k,v=>Value.isInt k v
 |.inr x,v=>Value.isStrOf x v
def Fb (w:World):Key->Int
 |.inl k=>hashInt k
 |.inr x=>hashStr w x
theorem lA:∀{k:Key} {v:Value},pP k v=true->(∃i t,k=Sum.inl i/\v=Value.int i t)\/(∃x t,k=Sum.inr x/\v=Value.str x t)
  |.inl i,v,h=>by
    obtain⟨t,e⟩:=Value.isInt_shape (k:=i) (v:=v) h;exact .inl ⟨i,t,rfl,e⟩
  |.inr x,v,h=>by
    obtain⟨t,e⟩:=Value.isStrOf_shape (x:=x) (v:=v) h;exact .inr ⟨x,t,rfl,e⟩
theorem Uo (i:Int)(t:Tok):pP (.inl i) (.int i t)=true:=by simp[pP,Value.isInt]
theorem Uq (x:Str)(t:Tok):pP (.inr x) (.str x t)=true:=by simp[pP,Value.isStrOf]
theorem Ur (a b:Int):decide ((Sum.inl a:Key)=Sum.inl b)=(a==b):=by
 by_cases e:a=b
 ·subst e;simp
 ·have h:¬ (Sum.inl a:Key)=Sum.inl b:=fun q=>e (Sum.inl.inj q);rw[xaE h];exact(xba.mpr e).symm
theorem Uu (a b:Str):decide ((Sum.inr a:Key)=Sum.inr b)=decide (a=b):=by
 by_cases e:a=b
 ·subst e;simp
 ·have h:¬ (Sum.inr a:Key)=Sum.inr b:=fun q=>e (xdI q);rw[xaE h,xaE e]
theorem Us (a:Int)(b:Str):decide ((Sum.inl a:Key)=Sum.inr b)=false:=xaE (fun q=>nomatch q)
theorem Ut (a:Str)(b:Int):decide ((Sum.inr a:Key)=Sum.inl b)=false:=xaE (fun q=>nomatch q)
noncomputable def dZ (prog:Program) (w:World):PySem.KeyKind prog w Key where
 is:=pP
 hash:=Fb w
 inj:=fun v a b ha hb=>by
  rcases lA ha with⟨i,t,rfl,rfl⟩ |⟨x,t,rfl,rfl⟩
  ·rcases lA hb with⟨j,u,rfl,e⟩ |⟨y,u,rfl,e⟩
   ·injection e with e1 _;rw[e1]
   ·exact nomatch e
  ·rcases lA hb with⟨j,u,rfl,e⟩ |⟨y,u,rfl,e⟩
   ·exact nomatch e
   ·injection e with e1 _;rw[e1]
 byValue:=fun k v h=>by
  rcases lA h with⟨i,t,rfl,rfl⟩ |⟨x,t,rfl,rfl⟩<;>rfl
 pyHash:=fun hv h=>by
  rcases lA hv with⟨i,t,rfl,rfl⟩ |⟨x,t,rfl,rfl⟩
  ·exact wpAny_pyHash_int h
  ·exact wpAny_pyHash_str h
 eqBool:=fun hu hv h=>by
  rcases lA hu with⟨i,t,rfl,rfl⟩ |⟨x,t,rfl,rfl⟩
  ·rcases lA hv with⟨j,u,rfl,rfl⟩ |⟨y,u,rfl,rfl⟩
   ·rw[Ur]at h;exact wpAny_eqBool_int h
   ·rw[Us]at h;exact xcA i t y u _ _ _ _ h
  ·rcases lA hv with⟨j,u,rfl,rfl⟩ |⟨y,u,rfl,rfl⟩
   ·rw[Ut]at h;exact xcB x t j u _ _ _ _ h
   ·rw[Uu]at h;exact wpAny_eqBool_str h
 «strs» :=fun k x t v h=>by
  rcases lA h with⟨i,u,rfl,e⟩ |⟨y,u,rfl,e⟩
  ·exact nomatch e
  ·injection e with e1 _
   subst e1;cases v<;>rfl
theorem Vd (prog:Program)(w:World)(i:Int)(t:Tok):(dZ prog w).is (.inl i) (.int i t)=true:=Uo i t
theorem Ve (prog:Program)(w:World)(x:Str)(t:Tok):(dZ prog w).is (.inr x) (.str x t)=true:=Uq x t
inductive V where
 |non |bl (b:Bool) |int (i:Int) |str (x:Str) |byt (b:Array UInt8) |flt (b:UInt64) |ref (a:Addr) |ty (n:String)
 deriving DecidableEq
noncomputable def RelV:V->Value->Prop
 |.non,u=>u=Value.none
 |.bl b,u=>u=Value.bool b
 |.int i,u=>∃t,u=Value.int i t
 |.str x,u=>∃t,u=Value.str x t
 |.byt b,u=>∃t,u=Value.bytes b t
 |.flt b,u=>∃t,u=Value.float b t
 |.ref a,u=>u=Value.ref a
 |.ty n,u=>u=Value.type n
abbrev Vals:List V->List Value->Prop:=Paired RelV
theorem Vals.length (r:Vals xs us):xs.length=us.length:=xcG r
theorem Vals.get:∀{xs:List V} {us:List Value} {i:Nat} {x:V},Vals xs us->xs[i]? =some x->∃u,us[i]? =some u/\RelV x u
  |_,_,_,_,.nil,e=>by simp at e
  |_,_,0,_,.cons r _,e=>by simp at e;subst e;exact⟨_,rfl,r⟩
  |_,_,i + 1,x,.cons _ t,e=>by
    obtain⟨u,h1,h2⟩:=Vals.get (i:=i) (x:=x) t (by simpa using e);exact⟨u,by simpa using h1,h2⟩
theorem Vals.set (r:RelV x u):∀{xs:List V} {us:List Value} (i:Nat),Vals xs us->Vals (xs.set i x) (us.set i u)
 |_,_,_,.nil=>.nil
 |_,_,0,.cons _ t=>.cons r t
 |_,_,i + 1,.cons q t=>.cons q (Vals.set r i t)
theorem Vals.append:∀{xs ys:List V} {us ws:List Value},Vals xs us->Vals ys ws->Vals (xs ++ ys) (us ++ ws)
 |_,_,_,_,.nil,s=>s
 |_,_,_,_,.cons r t,s=>.cons r (Vals.append t s)
theorem Vals.take:∀{xs:List V} {us:List Value} (n:Nat),Vals xs us->Vals (xs.take n) (us.take n)
 |_,_,0,_=>.nil
 |_,_,_ + 1,.nil=>.nil
 |_,_,n + 1,.cons r t=>.cons r (Vals.take n t)
theorem Vals.drop:∀{xs:List V} {us:List Value} (n:Nat),Vals xs us->Vals (xs.drop n) (us.drop n)
 |_,_,0,r=>r
 |_,_,_ + 1,.nil=>.nil
 |_,_,n + 1,.cons _ t=>Vals.drop n t
noncomputable def cN:Option V->Option Value->Prop
 |some v,some u=>RelV v u
 |none,none=>True
 |_,_=>False
def KV {κ:Type}:List (κ×V)->List (κ×Value)->Prop:=Paired fun(p:κ×V) (q:κ×Value)=>p.1=q.1/\RelV p.2 q.2
def kV:Key->V
 |.inl i=>.int i
 |.inr x=>.str x
inductive HO where
  |lst (xs:List V)
  |tup (xs:List V)
  |dK (kvs:List (Key×V)) |dT (kvs:List (List Key×V))
  |set (S:Int->Bool) (n:Nat)
  |ins (C dx:Addr) (fs:List (Str×V))
  |own (x:Addr)
  |xd (fs:List (Str×V))
  |met (f x:Addr)
  |rng (lo hi:Int)
  |frz (o:Obj) (u:HO)
  |tbl (ps:Array Value)
  |ext (φ:Heap->Prop)
abbrev Hp:=Addr->Option HO
noncomputable def upd (H:Hp) (a:Addr) (o:HO):Hp:=fun b=>if b=a then some o else H b
theorem bO:upd H a o a=some o:=by unfold upd;rw[xac rfl]
theorem aP (h:b≠a):upd H a o b=H b:=by unfold upd;rw[xag h]
theorem Ie:upd (upd H a o) a u=upd H a u:=by
 funext b;unfold upd;split<;>rfl
theorem Vj {H:Hp}{a b:Addr}{o u:HO}(h:H a=some o)(h':H b=some u)(d:o≠u):a≠b:=by
 intro e;subst e;rw[h]at h';exact d (xar h')
theorem d8 {H:Hp}{a b:Addr}{o:HO}(h:H a=some o)(h':H b=none):a≠b:=by
 intro e;subst e;rw[h]at h';cases h'
section
variable (P:Program)(w:World)
noncomputable def cG (H:Hp) (h:Heap) (a:Addr):HO->Prop
 |.lst xs=>xs.length<=sizeLine/\∃(its:List Value) (n:Nat),Vals xs its/\h.get? a=some {cls:=.type "list",data:=.seq its.toArray n}
 |.tup xs=>xs.length<=sizeLine/\∃its:List Value,Vals xs its/\IsTup h a its.toArray
 |.dK kvs=>kvs.length<=sizeLine/\(a==sysModules)=false/\∃vs,KV kvs vs/\h.DictOf (dZ P w) a vs
 |.dT kvs=>kvs.length<=sizeLine/\(a==sysModules)=false/\∃xs:List (List Key×Addr×Value),
   Paired (fun(p:List Key×V) (q:List Key×Addr×Value)=>p.1=q.1/\H q.2.1=some (.tup (p.1.map kV))/\RelV p.2 q.2.2) kvs xs/\
   ∃o es ep,h.get? a=some o/\o.ExactDict/\o.data=.dict es ep/\es.toList=xs.map (entryOfKey (tupleKind (dZ P w)))/\(xs.map (·.1)).Nodup
 |.set S n=>h.SetOf (intKind P w) a S n
 |.ins C dx fs=>H dx=some (.own a)/\fs.length<=1000/\dx≠a/\h.get? a=some (PySem.W.instObj C dx)/\
   ∃mA,h.Ns1 dx mA/\(∀f,cN (fs.lookup f) (mA f))/\PySem.Within mA (fs.map (·.1))
 |.own _=>∃o,h.get? a=some o
 |.xd fs=>∃mA,h.Ns1 a mA/\∀f,cN (fs.lookup f) (mA f)
 |.rng lo hi=>∃t u v,h.get? a=some {cls:=.type "range",data:=.fields #[.int lo t,.int hi u,.int 1 v]}
 |.frz o u=>h.get? a=some o/\cG H h a u
 |.tbl ps=>h.get? a=some {cls:=.none,data:=.fields ps}
 |.met f x=>h.get? a=some (PySem.W.methodObj (.ref f) (.ref x))
 |.ext φ=>φ h/\(∃o,h.get? a=some o)/\∀h1 h2:Heap,φ h1->(∀o,h1.get? a=some o->h2.get? a=some o)->φ h2
def cC (H:Hp)(h:Heap):Prop:=∀a o,H a=some o->cG P w H h a o
end
section
variable {P:Program}{w:World}{H H':Hp}{h h':Heap}{a:Addr}{o:HO}
theorem cG.lt (x:cG P w H h a o):a<h.objs.size:=by
 cases o with
 |lst xs=>obtain⟨_,_,_,_,e⟩:=x;exact xad e
 |tup xs=>obtain⟨_,_,_,p⟩:=x;exact p.lt
 |dK kvs=>obtain⟨_,_,_,_,o,_,_,e,_⟩:=x;exact xad e
 |dT kvs=>obtain⟨_,_,_,_,o,_,_,e,_⟩:=x;exact xad e
 |set S n=>obtain⟨o,_,_,_,e,_⟩:=x;exact xad e
 |ins C dx fs=>obtain⟨_,_,_,e,_⟩:=x;exact xad e
 |own y=>obtain⟨_,e⟩:=x;exact xad e
 |xd fs=>obtain⟨_,⟨_,_,_,e,_⟩,_⟩:=x;exact xad e
 |rng lo hi=>obtain⟨_,_,_,e⟩:=x;exact xad e
 |frz ob u=>obtain⟨e,_⟩:=x;exact xad e
 |tbl ps=>exact xad (show h.get? a=some _ from x)
 |met f y=>exact xad (show h.get? a=some _ from x)
 |ext φ=>obtain⟨_,⟨_,e⟩,_⟩:=x;exact xad e
theorem Paired.mapP:∀{l₁:List α} {l₂:List β},Paired F l₁ l₂->(∀a b,F a b->G a b)->Paired G l₁ l₂
 |_,_,.nil,_=>.nil
 |_,_,.cons r t,f=>.cons (f _ _ r) (Paired.mapP t f)
theorem cG.stay (x:cG P w H h a o)(k:∀b u,(b=a\/H b=some (.own a))->h.get? b=some u->h'.get? b=some u)
    (ho:∀b,H b=some (.own a)->H' b=some (.own a)) (ht:∀b xs,H b=some (.tup xs)->H' b=some (.tup xs)):cG P w H' h' a o:=by
  induction o with
  |lst xs=>obtain⟨z,its,n,r,e⟩:=x;exact⟨z,its,n,r,k _ _ (.inl rfl) e⟩
  |tup xs=>obtain⟨z,its,r,ob,e,c⟩:=x;exact⟨z,its,r,ob,k _ _ (.inl rfl) e,c⟩
  |dK kvs=>obtain⟨z,y,vs,r,ob,es,ep,e,c⟩:=x;exact⟨z,y,vs,r,ob,es,ep,k _ _ (.inl rfl) e,c⟩
  |dT kvs=>
    obtain⟨z,y,xs,r,ob,es,ep,e,c⟩:=x;exact⟨z,y,xs,Paired.mapP r fun p q z=>⟨z.1,ht _ _ z.2.1,z.2.2⟩,ob,es,ep,k _ _ (.inl rfl) e,c⟩
  |set S n=>obtain⟨ob,es,ep,t,e,c⟩:=x;exact⟨ob,es,ep,t,k _ _ (.inl rfl) e,c⟩
  |ins C dx fs=>
    obtain⟨d,z,ne,e,mA,⟨od,es,ep,e2,c⟩,r⟩:=x;exact⟨ho _ d,z,ne,k _ _ (.inl rfl) e,mA,⟨od,es,ep,k _ _ (.inr d) e2,c⟩,r⟩
  |own y=>obtain⟨ob,e⟩:=x;exact⟨ob,k _ _ (.inl rfl) e⟩
  |xd fs=>obtain⟨mA,⟨od,es,ep,e,c⟩,r⟩:=x;exact⟨mA,⟨od,es,ep,k _ _ (.inl rfl) e,c⟩,r⟩
  |rng lo hi=>obtain⟨t,u,v,e⟩:=x;exact⟨t,u,v,k _ _ (.inl rfl) e⟩
  |frz ob u ih=>obtain⟨e,q⟩:=x;exact⟨k _ _ (.inl rfl) e,ih q⟩
  |tbl ps=>
    have e:h.get? a=some {cls:=.none,data:=.fields ps}:=x;show h'.get? a=some {cls:=.none,data:=.fields ps};exact k a _ (.inl rfl) e
  |met f y=>
    have e:h.get? a=some (PySem.W.methodObj (.ref f) (.ref y)):=x;show h'.get? a=some (PySem.W.methodObj (.ref f) (.ref y));exact k a _ (.inl rfl) e
  |ext φ=>obtain⟨p,⟨o,e⟩,st⟩:=x;exact⟨st _ _ p fun o q=>k _ _ (.inl rfl) q,⟨o,k _ _ (.inl rfl) e⟩,st⟩
theorem cC.lt (x:cC P w H h)(e:H a=some o):a<h.objs.size:=(x a o e).lt
theorem cC.fresh (x:cC P w H h)(e:h.objs.size<=a):H a=none:=by
 cases q:H a with
 |none=>rfl
 |some u=>exact absurd (xah (x.lt q) e) (xa0 _)
theorem cC.kept (x:cC P w H h)(k:∀b u,h.get? b=some u->h'.get? b=some u):cC P w H h':=fun a o e=>
 (x a o e).stay (fun b u _ q=>k b u q) (fun _ q=>q) fun _ _ q=>q
theorem cC.laid (x:cC P w H h)(k:∀b u,h.get? b=some u->h'.get? b=some u)(hp:h.objs.size<=a)(new:cG P w (upd H a o) h' a o):cC P w (upd H a o) h':=fun b u e=>by
 have hn:=x.fresh hp
 by_cases hb:b=a
 ·subst hb;rw[bO]at e;cases e;exact new
 ·rw[aP hb]at e;exact(x b u e).stay (fun c v _ q=>k c v q) (fun c q=>by rw[aP (d8 q hn)];exact q) fun c xs q=>by rw[aP (d8 q hn)];exact q
end
def Rd (H:Hp)(a:Addr)(u:HO):Prop:=H a=some u\/∃o,H a=some (.frz o u)
theorem Rd.ok (r:Rd H a u)(x:cC P w H h):cG P w H h a u:=by
 rcases r with r |⟨o,r⟩
 ·exact x a u r
 ·obtain⟨_,q⟩:=x a _ r;exact q
noncomputable def uL:Option HO->Prop
 |some (.lst _)=>True
 |some (.dK _)=>True
 |some (.dT _)=>True
 |some (.set _ _)=>True
 |some (.ins _ _ _)=>True
 |some (.ext _)=>True
 |_=>False
section
variable {P:Program}{w:World}{H:Hp}{h h':Heap}{x e:Addr}{o':HO}
theorem cC.write (ok:cC P w H h)(mu:uL (H x))(he:e=x\/H e=some (.own x))(k:∀b u,b≠e->h.get? b=some u->h'.get? b=some u)(heo:∃u,h'.get? e=some u)
  (new:cG P w (upd H x o') h' x o'):cC P w (upd H x o') h':=fun b u q=>by
 have nown:∀c y,H c=some (.own y)->c≠x:=fun c y r z=>by subst z;rw[r]at mu;exact mu
 have ntup:∀c xs,H c=some (.tup xs)->c≠x:=fun c xs r z=>by subst z;rw[r]at mu;exact mu
 by_cases hb:b=x
 ·subst hb;rw[bO]at q;cases q;exact new
 ·rw[aP hb]at q
  by_cases hbe:b=e
  ·have q':H b=some (.own x):=by
    rcases he with z |z
    ·exact absurd (hbe.trans z) hb
    ·rw[hbe];exact z
   rw[q]at q';cases q';obtain⟨v,hv⟩:=heo;exact⟨v,by rw[hbe];exact hv⟩
  ·refine(ok b u q).stay (fun c v hc r=>k c v ?_ r) (fun c r=>by rw[aP (nown c b r)];exact r) fun c xs r=>by rw[aP (ntup c xs r)];exact r
   rcases hc with rfl |hc
   ·exact hbe
   ·rintro rfl;rcases he with z |z
    ·exact nown c b hc z
    ·rw[hc]at z;cases z;exact hb rfl
end
structure Un (fs ex:List Addr)(H H':Hp)(h h':Heap):Prop where
 keep:∀b o,h.get? b=some o->H b=none->b∉fs->b∉ex->h'.get? b=some o
 slot:∀b o,h.get? b=some o->H b=none->b∈fs->b∉ex->∃sl,h'.get? b=some {o with slots:=sl}
 free:∀b o,h.get? b=some o->H b=none->b∉ex->H' b=none
 there:∀b o,h.get? b=some o->b∉ex->∃o',h'.get? b=some o'
 tups:∀b xs,H b=some (.tup xs)->H' b=some (.tup xs)
 frzs:∀b o u,H b=some (.frz o u)->H' b=some (.frz o u)
 tbls:∀b ps,H b=some (.tbl ps)->∃more,H' b=some (.tbl (ps ++ more))
section
variable {fs fs' ex ex':List Addr}{H H1 H2:Hp}{h h1 h2 h':Heap}{a x e:Addr}{o:HO}
theorem Un.any (u:Un fs ex H H1 h h1)(q:h.get? b=some ob)(n:H b=none)(hx:b∉ex):∃sl,h1.get? b=some {ob with slots:=sl}:=by
 by_cases hb:b∈fs
 ·exact u.slot b ob q n hb hx
 ·exact⟨ob.slots,u.keep b ob q n hb hx⟩
theorem Un.trans (a:Un fs ex H H1 h h1)(b:Un fs ex H1 H2 h1 h2):Un fs ex H H2 h h2 where
 keep:=fun c ob q n hc hx=>b.keep c ob (a.keep c ob q n hc hx) (a.free c ob q n hx) hc hx
 slot:=fun c ob q n hc hx=>by
  obtain⟨sl,e1⟩:=a.slot c ob q n hc hx;obtain⟨sl',e2⟩:=b.slot c _ e1 (a.free c ob q n hx) hc hx;exact⟨sl',e2⟩
 free:=fun c ob q n hx=>by
  obtain⟨o',e1⟩:=a.there c ob q hx;exact b.free c o' e1 (a.free c ob q n hx) hx
 there:=fun c ob q hx=>by
  obtain⟨o',e1⟩:=a.there c ob q hx;exact b.there c o' e1 hx
 tups:=fun c xs q=>b.tups c xs (a.tups c xs q)
 frzs:=fun c ob xs q=>b.frzs c ob xs (a.frzs c ob xs q)
 tbls:=fun c ps q=>by
  obtain⟨m1,e1⟩:=a.tbls c ps q;obtain⟨m2,e2⟩:=b.tbls c _ e1;exact⟨m1 ++ m2,by rw[e2,xdq]⟩
theorem Un.kept (k:∀b u,h.get? b=some u->h'.get? b=some u):Un fs ex H H h h':=
 ⟨fun b ob q _ _ _=>k b ob q,fun b ob q _ _ _=>⟨ob.slots,k b ob q⟩,fun _ _ _ n _=>n,fun b ob q _=>⟨ob,k b ob q⟩,fun _ _ q=>q,fun _ _ _ q=>q,fun _ ps q=>⟨#[],by rw[q];simp⟩⟩
theorem Un.refl:Un fs ex H H h h:=Un.kept fun _ _ q=>q
theorem Un.laid (k:∀b u,h.get? b=some u->h'.get? b=some u)(hp:h.objs.size<=a)(hn:H a=none):Un fs ex H (upd H a o) h h' where
 keep:=fun b u q _ _ _=>k b u q
 slot:=fun b u q _ _ _=>⟨u.slots,k b u q⟩
 free:=fun b u q n _=>by rw[aP (xap (xah (xad q) hp))];exact n
 there:=fun b u q _=>⟨u,k b u q⟩
 tups:=fun b xs q=>by rw[aP (d8 q hn)];exact q
 frzs:=fun b u xs q=>by rw[aP (d8 q hn)];exact q
 tbls:=fun b ps q=>⟨#[],by rw[aP (d8 q hn),q];simp⟩
theorem Un.write (mu:uL (H x))(he:e=x\/H e=some (.own x))(k:∀b u,b≠e->h.get? b=some u->h'.get? b=some u)(heo:∃u,h'.get? e=some u):Un fs ex H (upd H x o) h h':=by
 have hx:∀b,H b=none->b≠x:=fun b n z=>by subst z;rw[n]at mu;exact mu
 have hb:∀b,H b=none->b≠e:=fun b n z=>by
  subst z;rcases he with r |r
  ·exact hx b n r
  ·rw[n]at r;cases r
 have hm:∀b u,H b=some u->¬ uL (some u)->b≠x:=fun b u q nm z=>by subst z;rw[q]at mu;exact nm mu
 refine ⟨fun b u q n _ _=>k b u (hb b n) q,fun b u q n _ _=>⟨u.slots,k b u (hb b n) q⟩,fun b u q n _=>by rw[aP (hx b n)];exact n,fun b u q _=>?_,
  fun b xs q=>by rw[aP (hm b _ q fun z=>z)];exact q,fun b u xs q=>by rw[aP (hm b _ q fun z=>z)];exact q,fun b ps q=>⟨#[],by rw[aP (hm b _ q fun z=>z),q];simp⟩⟩
 by_cases hbe:b=e
 ·subst hbe;exact heo
 ·exact⟨u,k b u hbe q⟩
theorem Un.mono (u:Un fs ex H H1 h h1)(hs:∀b∈fs,b∈fs')(hx:∀b∈ex,b∈ex'):Un fs' ex' H H1 h h1:=
 ⟨fun b ob q n hb he=>u.keep b ob q n (fun z=>hb (hs b z)) fun z=>he (hx b z),fun _ _ q n _ he=>u.any q n fun z=>he (hx _ z),fun b ob q n he=>u.free b ob q n fun z=>he (hx b z),fun b ob q he=>u.there b ob q fun z=>he (hx b z),u.tups,u.frzs,u.tbls⟩
end
noncomputable def Br (h:Heap) (H:Hp):List Addr:=(List.range h.objs.size).filter fun a=>(H a).isSome
def fj (h:Heap)(H:Hp):Heap:=PySem.W.hideAll h (Br h H)
theorem Tg (h:Heap)(H:Hp):(fj h H).objs.size=h.objs.size:=PySem.W.hideAll_size _ _
theorem Tf (e:h.get? b=some o)(n:H b=none):(fj h H).get? b=some o:=
 PySem.W.hideAll_get _ e fun hm=>by
  have q:(H b).isSome=true:=(List.mem_filter.mp hm).2;rw[n]at q;simp at q
theorem Wj (e:(fj h H).get? b=some o):h.get? b=some o/\H b=none:=by
  have e':h.get? b=some o:=PySem.W.of_hideAll (Br h H) e;refine⟨e',?_⟩
  cases q:H b with
  |none=>rfl
  |some x=>
    have hm:b∈Br h H:=List.mem_filter.mpr ⟨xb7.mpr (xad e'),by simp[q]⟩;have z:(fj h H).get? b=none:=PySem.W.hideAll_none (Br h H) hm;rw[z]at e;cases e
structure Mod (K:Fgx)(mg:Mgx)(base:Heap):Prop where
 kin:K.In base
 glob:base.Ns mainGlobals mg
 blt:∃mb,base.Ns builtinsNs mb/\∀x:Str,x≠"__name__"->mb x=bootBuiltins x
 nolimit:base.NoLimit
structure Cx where
 prog:Program
 w:World
 K:Fgx
 mg:Mgx
 base:Heap
 A:Around
 N:List Str
 s₀:Shared
 H₀:Hp
 env:Env
 outer:List Env
 stack:List Env
 ex:List Addr
 fn:Str->Bool
 calm:Bool
 pn:Pnx
 xe:Value->Shared->Prop
def frs (l:List Env):List Addr:=l.filterMap (·.frame)
abbrev Cx.fs (X:Cx):List Addr:=frs X.outer
def sS (sc:Scope)(x:Str):Prop:=sc.names.lookup x=some .local\/sc.names.lookup x=some .cell\/sc.names.lookup x=some .free
def Loc (sc:Scope)(x:Str):Prop:=sc.names.lookup x=some .local\/sc.names.lookup x=some .cell
def Look (env:Env)(h:Heap)(m:Mgx)(x:Str)(u:Value):Prop:=
 (env.kindOf x=some .local/\m x=some u)\/((env.kindOf x=some .cell\/env.kindOf x=some .free)/\∃c,env.cells.lookup x=some c/\h.IsCell c (some u))
structure Cx.Ok (X:Cx):Prop where
 mod:Mod X.K X.mg X.base
 kind:X.env.scope.kind=.function
 glob:X.env.globals=mainGlobals
 blt:X.env.builtins=builtinsNs
 above:X.s₀.heap.objs.size<=X.env.locals
 inj:∀x y c,X.env.cells.lookup x=some c->X.env.cells.lookup y=some c->x=y
 has:∀x,(X.env.kindOf x=some .cell\/X.env.kindOf x=some .free)->∃c,X.env.cells.lookup x=some c
 cab:∀x c,X.fn x=true->X.env.cells.lookup x=some c->X.s₀.heap.objs.size<=c
 hd:X.calm=true->X.A.handled=none
 frames:X.A.frames=some X.stack
 stk:X.stack=X.outer\/(X.stack=X.env::X.outer/\X.env.frame=some X.env.locals)
 exf:∀b∈X.ex,b≠X.env.locals/\∀x c,X.env.cells.lookup x=some c->c≠b
 bs:∀b o,X.base.get? b=some o->X.s₀.heap.get? b=some o/\X.H₀ b=none
 bsz:X.base.objs.size<=X.s₀.heap.objs.size
 noex:∀b o,X.base.get? b=some o->b∉X.ex
 exfs:∀b∈X.ex,b∉X.fs
 funs:X.s₀.heap.FunFrames X.base X.outer
 frf:∀b∈X.fs,X.H₀ b=none
structure Inv (X:Cx)(pins:Pnx)(σ:List (Option V))(H:Hp)(s:Shared):Prop where
 ok:X.Ok
 os:s.os=X.s₀.os
 bare:AllBare s.gens
 base:Un X.fs X.ex X.H₀ H X.s₀.heap s.heap
 loc:∃m,s.heap.Ns X.env.locals m/\∀(i:Nat) (x:Str) (v:V),X.N[i]? =some x->σ[i]? =some (some v)->sS X.env.scope x->∃u,RelV v u/\Look X.env s.heap m x u
 cell:∀x c,X.env.cells.lookup x=some c->∃v,s.heap.IsCell c v
 free:H X.env.locals=none
 freeC:∀x c,X.env.cells.lookup x=some c->H c=none
 pin:∀p∈X.pn ++ pins,s.heap.get? p.1=some p.2/\H p.1=none/\p.1≠X.env.locals/\p.1∉X.fs/\∀v,p.2.data≠ .cell v
 hok:cC X.prog X.w H s.heap
 len:σ.length=X.N.length
section
variable {X:Cx}{pins:Pnx}{σ:List (Option V)}{H H':Hp}{s:Shared}{h':Heap}
theorem Cx.Ok.nofr (ok:X.Ok)(e:X.base.get? b=some o):b∉X.fs:=fun hb=>by
 have:=(ok.funs.mem hb).1;rw[e]at this;cases this
theorem Inv.bs (I:Inv X pins σ H s):∀b o,X.base.get? b=some o->s.heap.get? b=some o/\H b=none:=fun b o e=>
 ⟨I.base.keep b o (I.ok.bs b o e).1 (I.ok.bs b o e).2 (I.ok.nofr e) (I.ok.noex b o e),I.base.free b o (I.ok.bs b o e).1 (I.ok.bs b o e).2 (I.ok.noex b o e)⟩
theorem Inv.bk (I:Inv X pins σ H s):∀b o,X.base.get? b=some o->s.heap.get? b=some o:=fun b o e=>(I.bs b o e).1
theorem Inv.mod (I:Inv X pins σ H s):Mod X.K X.mg X.base:=I.ok.mod
theorem Inv.kIn (I:Inv X pins σ H s):X.K.In s.heap:=I.ok.mod.kin.keeps I.bk
theorem Inv.fr (I:Inv X pins σ H s):∃m,Fr X.base X.env.locals s.heap m:=
 let ⟨m,hn,_⟩:=I.loc
 ⟨m,hn,I.bk,xaD I.ok.bsz I.ok.above⟩
theorem Inv.lt (I:Inv X pins σ H s):X.env.locals<s.heap.objs.size:=let ⟨_,hn,_⟩:=I.loc;hn.lt
theorem Inv.sz (I:Inv X pins σ H s):X.s₀.heap.objs.size<=s.heap.objs.size:=xaD I.ok.above (xdr I.lt)
theorem Inv.nofs (I:Inv X pins σ H s)(h:s.heap.objs.size<=a):a∉X.fs:=fun hb=>by
 obtain⟨_,o,ho,_⟩:=I.ok.funs.mem hb;exact absurd (xah (xad ho) (xaD I.sz h)) (xa0 _)
theorem Inv.cne (I:Inv X pins σ H s):∀x c,X.env.cells.lookup x=some c->c≠X.env.locals:=fun x c e z=>by
 obtain⟨v,o,ho,hd⟩:=I.cell x c e;obtain⟨m,⟨o',es,ep,ho',hd',_⟩,_⟩:=I.loc;rw[z,ho']at ho;cases ho;rw[hd']at hd;cases hd
theorem Inv.funs (I:Inv X pins σ H s):s.heap.FunFrames X.base X.outer:=by
  have all:∀(l:List Env),(∀b∈frs l,b∈X.fs)->X.s₀.heap.FunFrames X.base l->s.heap.FunFrames X.base l:=by
    intro l
    induction l with
    |nil=>intro _ _;trivial
    |cons env r ih=>
      intro hs hl;obtain⟨hk,⟨L,o,hf,hn,ho,hd⟩,hr⟩:=hl;have hL:L∈X.fs:=hs L (by unfold frs;rw[xbe,hf];exact xaA);obtain⟨sl,e⟩:=I.base.slot L o ho (I.ok.frf L hL) hL fun z=>I.ok.exfs L z hL;exact⟨hk,⟨L,_,hf,hn,e,hd⟩,ih (fun b hb=>hs b (by unfold frs;rw[xbe,hf];exact xav _ hb)) hr⟩
  exact all X.outer (fun _ hb=>hb) I.ok.funs
theorem Inv.stack (I:Inv X pins σ H s):s.heap.FunFrames X.base X.stack:=by
 rcases I.ok.stk with e |⟨e,hf⟩
 ·rw[e];exact I.funs
 ·rw[e];obtain⟨m,hn,_⟩:=I.loc;refine .cons (by rw[I.ok.kind];decide) hf hn ?_ I.funs;exact xbw (xaD I.ok.bsz I.ok.above)
theorem Inv.stkSub (I:Inv X pins σ H s):∀b∈frs X.stack,b∈X.env.locals::X.fs:=fun b hb=>by
 rcases I.ok.stk with e |⟨e,hf⟩
 ·rw[e]at hb;exact xav _ hb
 ·rw[e]at hb;unfold frs at hb;rw[xbe,hf]at hb;exact hb
theorem Inv.stkFree (I:Inv X pins σ H s):∀b∈frs X.stack,H b=none:=fun b hb=>by
 rcases xas.mp (I.stkSub b hb) with e |hb
 ·rw[e];exact I.free
 ·obtain⟨_,o,ho,_⟩:=I.ok.funs.mem hb;exact I.base.free b o ho (I.ok.frf b hb) fun z=>I.ok.exfs b z hb
theorem Inv.step {g':Array GenState}{t':Nat}{d':Drawn}{ch:List Addr}(I:Inv X pins σ H s)
  (hch:∀b∈ch,(b∈X.ex\/X.s₀.heap.objs.size<=b)/\b≠X.env.locals/\(∀x c,X.env.cells.lookup x=some c->c≠b)/\∀p∈X.pn ++ pins,p.1≠b)
  (keep:∀b o,b≠X.env.locals->b∉X.fs->b∉ch->s.heap.get? b=some o->H b=none->h'.get? b=some o)
  (slot:∀b o,b≠X.env.locals->b∈X.fs->b∉ch->s.heap.get? b=some o->H b=none->∃sl,h'.get? b=some {o with slots:=sl}) (free:∀b o,b∉ch->s.heap.get? b=some o->H b=none->H' b=none)
  (there:∀b o,b∉ch->s.heap.get? b=some o->∃o',h'.get? b=some o')
  (tups:∀b xs,H b=some (.tup xs)->H' b=some (.tup xs)) (frzs:∀b o u,H b=some (.frz o u)->H' b=some (.frz o u)) (tbls:∀b ps,H b=some (.tbl ps)->∃more,H' b=some (.tbl (ps ++ more)))
  (ns:∀m,s.heap.Ns X.env.locals m->h'.Ns X.env.locals m) (hok:cC X.prog X.w H' h') (hg:AllBare g'):
  Inv X pins σ H' {s with heap:=h',gens:=g',drawn:=d',toks:=t'}:=by
 have neL:∀b o,X.s₀.heap.get? b=some o->b≠X.env.locals:=fun b o e=>xap (xah (xad e) I.ok.above);have neC:∀b o,X.s₀.heap.get? b=some o->b∉X.ex->b∉ch:=fun b o e hx hb=>by
  rcases(hch b hb).1 with z |z
  ·exact hx z
  ·exact absurd (xah (xad e) z) (xa0 _)
 have cellK:∀x c,X.env.cells.lookup x=some c->∀v,s.heap.IsCell c v->h'.IsCell c v:=fun x c e v ⟨o,ho,hd⟩=>by
  have nch:c∉ch:=fun z=>(hch c z).2.2.1 x c e rfl
  by_cases hc:c∈X.fs
  ·obtain⟨sl,q⟩:=slot c o (I.cne x c e) hc nch ho (I.freeC x c e);exact⟨_,q,hd⟩
  ·exact⟨o,keep c o (I.cne x c e) hc nch ho (I.freeC x c e),hd⟩
 refine⟨I.ok,I.os,hg,⟨fun b o e n hb hx=>?_,fun b o e n hb hx=>?_,fun b o e n hx=>?_,fun b o e hx=>?_,fun b xs e=>tups b xs (I.base.tups b xs e),fun b o xs e=>frzs b o xs (I.base.frzs b o xs e),fun b ps e=>?_⟩,?_,fun x c e=>?_,?_,fun x c e=>?_,fun p hp=>?_,hok,I.len⟩
 ·exact keep b o (neL b o e) hb (neC b o e hx) (I.base.keep b o e n hb hx) (I.base.free b o e n hx)
 ·obtain⟨sl,e1⟩:=I.base.slot b o e n hb hx;obtain⟨sl',e2⟩:=slot b _ (neL b o e) hb (neC b o e hx) e1 (I.base.free b o e n hx);exact⟨sl',e2⟩
 ·obtain⟨o',e1⟩:=I.base.there b o e hx;exact free b o' (neC b o e hx) e1 (I.base.free b o e n hx)
 ·obtain⟨o',e1⟩:=I.base.there b o e hx;exact there b o' (neC b o e hx) e1
 ·obtain⟨m1,e1⟩:=I.base.tbls b ps e;obtain⟨m2,e2⟩:=tbls b _ e1;exact⟨m1 ++ m2,by rw[e2,xdq]⟩
 ·obtain⟨m,hn,hl⟩:=I.loc;refine⟨m,ns m hn,fun i x v e1 e2 e3=>?_⟩;obtain⟨u,r,l⟩:=hl i x v e1 e2 e3;refine⟨u,r,?_⟩;rcases l with l |⟨k,c,e,z⟩
  ·exact .inl l
  ·exact .inr ⟨k,c,e,cellK x c e _ z⟩
 ·obtain⟨v,z⟩:=I.cell x c e;exact⟨v,cellK x c e v z⟩
 ·obtain⟨m,⟨o,_,_,ho,_⟩,_⟩:=I.loc;exact free _ o (fun z=>(hch _ z).2.1 rfl) ho I.free
 ·obtain⟨v,o,ho,hd⟩:=I.cell x c e;exact free c o (fun z=>(hch c z).2.2.1 x c e rfl) ho (I.freeC x c e)
 ·obtain⟨e,n,ne,nf,d⟩:=I.pin p hp;have nch:p.1∉ch:=fun z=>(hch p.1 z).2.2.2 p hp rfl;exact⟨keep p.1 p.2 ne nf nch e n,free p.1 p.2 nch e n,ne,nf,d⟩
theorem Inv.un {t':Nat}(I:Inv X pins σ H s)(u:Un X.fs [] H H' s.heap h')(hok:cC X.prog X.w H' h'):Inv X pins σ H' {s with heap:=h',toks:=t'}:=by
 obtain ⟨m, ⟨o, es, ep, ho, r⟩, _⟩ := id I.loc;obtain ⟨sl, hL⟩ := u.any ho I.free (by simp);exact I.step (g' := s.gens) (d' := s.drawn) (ch := []) (fun _ z => nomatch z) (fun b o _ hb _ e n => u.keep b o e n hb (by simp)) (fun b o _ hb _ e n => u.slot b o e n hb (by simp)) (fun b o _ e n => u.free b o e n (by simp)) (fun b o _ e => u.there b o e (by simp)) u.tups u.frzs u.tbls (fun m' hm=>by
  obtain⟨o',es',ep',ho',r'⟩:=hm;rw[ho]at ho';cases ho';exact⟨_,es',ep',hL,r'⟩) hok I.bare
theorem Inv.call {g':Array GenState}{t':Nat}{d':Drawn}{ch:List Addr}(I:Inv X pins σ H s)(u:Un (frs X.stack) ch H H' s.heap h')(hok:cC X.prog X.w H' h')(hg:AllBare g')
  (hch:∀b∈ch,(b∈X.ex\/X.s₀.heap.objs.size<=b)/\b≠X.env.locals/\(∀x c,X.env.cells.lookup x=some c->c≠b)/\∀p∈X.pn ++ pins,p.1≠b):
  Inv X pins σ H' {s with heap:=h',gens:=g',drawn:=d',toks:=t'}:=by
 obtain ⟨m, ⟨o, es, ep, ho, r⟩, _⟩ := id I.loc;obtain ⟨sl, hL⟩ := u.any ho I.free fun z => (hch _ z).2.1 rfl;exact I.step (ch := ch) hch (fun b o hL hb hc e n => u.keep b o e n (fun z => (xas.mp (I.stkSub b z)).elim hL hb) hc) (fun b o _ _ hc e n => u.any e n hc) (fun b o hc e n => u.free b o e n hc) (fun b o hc e => u.there b o e hc) u.tups u.frzs u.tbls (fun m' hm=>by
  obtain⟨o',es',ep',ho',r'⟩:=hm;rw[ho]at ho';cases ho';exact⟨_,es',ep',hL,r'⟩) hok hg
theorem Inv.turned {t':Nat}{it:Addr}(I:Inv X pins σ H s)(k:∀b o,b≠it->s.heap.get? b=some o->h'.get? b=some o)(hn:H it=none)(hL:it≠X.env.locals)
  (h1:it∈X.ex\/X.s₀.heap.objs.size<=it) (h2:∀x c,X.env.cells.lookup x=some c->c≠it) (h3:∀p∈X.pn ++ pins,p.1≠it):Inv X pins σ H {s with heap:=h',toks:=t'}:=by
 have nit:∀b u,H b=some u->b≠it:=fun b u e z=>by rw[z,hn]at e;cases e
 refine I.step (g':=s.gens) (d':=s.drawn) (ch:=[it]) (fun b hb=>?_) (fun b o _ _ hc e _=>k b o (fun z=>hc (by simp[z])) e) (fun b o _ _ hc e _=>⟨o.slots,k b o (fun z=>hc (by simp[z])) e⟩) (fun _ _ _ _ n=>n)
  (fun b o hc e=>⟨o,k b o (fun z=>hc (by simp[z])) e⟩) (fun _ _ e=>e) (fun _ _ _ e=>e) (fun b ps e=>⟨#[],by rw[e];simp⟩) (fun m hm=>?_) (fun b u e=>?_) I.bare
 ·have e:b=it:=by simpa using hb
  subst e;exact⟨h1,hL,h2,h3⟩
 ·obtain⟨o,es,ep,ho,r⟩:=hm;exact⟨o,es,ep,k _ o (xaP hL) ho,r⟩
 ·refine(I.hok b u e).stay (fun c v hc q=>k c v ?_ q) (fun _ q=>q) fun _ _ q=>q;rcases hc with z |z
  ·rw[z];exact nit b u e
  ·exact nit c _ z
theorem Inv.tok (I:Inv X pins σ H s)(t:Nat):Inv X pins σ H {s with toks:=t}:=I.un (h':=s.heap) (t':=t) Un.refl I.hok
theorem Inv.kept (I:Inv X pins σ H s)(k:∀b u,s.heap.get? b=some u->h'.get? b=some u):Inv X pins σ H {s with heap:=h',toks:=t'}:=I.un (Un.kept k) (I.hok.kept k)
theorem Inv.laid (I:Inv X pins σ H s)(k:∀b u,s.heap.get? b=some u->h'.get? b=some u)(hp:s.heap.objs.size<=a)(new:cG X.prog X.w (upd H a o) h' a o):
  Inv X pins σ (upd H a o) {s with heap:=h',toks:=t'}:=I.un (Un.laid k hp (I.hok.fresh hp)) (I.hok.laid k hp new)
theorem Inv.write (I:Inv X pins σ H s)(mu:uL (H x))(he:e=x\/H e=some (.own x))(k:∀b u,b≠e->s.heap.get? b=some u->h'.get? b=some u)(heo:∃u,h'.get? e=some u)
  (new:cG X.prog X.w (upd H x o) h' x o):Inv X pins σ (upd H x o) {s with heap:=h',toks:=t'}:=I.un (Un.write mu he k heo) (I.hok.write mu he k heo new)
theorem Inv.pins_of (I:Inv X pins σ H s)(h:∀p∈pins',s.heap.get? p.1=some p.2/\H p.1=none/\p.1≠X.env.locals/\p.1∉X.fs/\∀v,p.2.data≠ .cell v):Inv X pins' σ H s:=
 ⟨I.ok,I.os,I.bare,I.base,I.loc,I.cell,I.free,I.freeC,fun p hp=>(xaO.mp hp).elim (fun z=>I.pin p (xcq _ z)) (h p),I.hok,I.len⟩
theorem Fy {N:List Str}(hN:N.Nodup){i j:Nat}{x:Str}(a:N[i]? =some x)(b:N[j]? =some x):i=j:=by
 obtain⟨h1,e1⟩:=xal.mp a;obtain⟨h2,e2⟩:=xal.mp b;exact(List.getElem_inj hN).mp (e1.trans e2.symm)
theorem zaz {M:Model}{A:Around}{E:Value->Shared->Prop}{i:Nat}{x:Str}{v:V}{u:Value}{Q:Unit->Shared->Prop}(I:Inv X pins σ H s)(hN:X.N.Nodup)(hi:X.N[i]? =some x)(hx:Loc X.env.scope x)(r:RelV v u)
    (h:∀s',Inv X pins (σ.set i (some v)) H s'->(∃a,Heap.SameBut a s.heap s'.heap/\(a=X.env.locals\/X.env.cells.lookup x=some a))->Q () s') (hf:X.fn x=true\/X.env.scope.names.lookup x=some .local:=by first |exact .inl rfl |exact .inr rfl |assumption):wpAny M A (storeName X.env x u) Q E s:=by
  obtain⟨m,hn,hl⟩:=id I.loc;have hcls:(X.env.scope.kind==.class || (X.env.scope.kind==.module && X.env.locals !=X.env.globals))=false:=by rw[I.ok.kind];rfl
  have hiσ:i<σ.length:=by rw[I.len];exact(xal.mp hi).1
  have cne:=I.cne;have tracked:∀{a:Addr} {h':Heap},(∃o,s.heap.get? a=some o/\H a=none)->Heap.SameBut a s.heap h'->cC X.prog X.w H h':=fun {a h'} ha hs b ob e=>by
    obtain⟨_,_,hfree⟩:=ha;refine(I.hok b ob e).stay (fun c w' hc q=>(hs.2 c ?_).trans q) (fun _ q=>q) fun _ _ q=>q;rintro rfl;rcases hc with rfl |hc
    · rw[hfree]at e;cases e
    · rw[hfree]at hc;cases hc
  rcases hx with hk |hk
  · refine wpAny_storeName_local hk hn (fun h' hn' hs=>?_) hcls;obtain⟨oL,_,_,hoL,_⟩:=id hn;refine h _ ⟨I.ok,I.os,I.bare,⟨fun b o e n hb hx=>?_,fun b o e n hb hx=>?_,I.base.free,fun b o e hx=>?_,I.base.tups,I.base.frzs,I.base.tbls⟩,⟨_,hn',fun j y v' e1 e2 e3=>?_⟩,fun y c e=>?_,I.free,I.freeC,fun p hp=>?_,tracked ⟨oL,hoL,I.free⟩ hs,by simpa using I.len⟩ ⟨_,hs,.inl rfl⟩
    · exact(hs.2 b (xap (xah (xad e) I.ok.above))).trans (I.base.keep b o e n hb hx)
    · obtain⟨sl,e1⟩:=I.base.slot b o e n hb hx;exact⟨sl,(hs.2 b (xap (xah (xad e) I.ok.above))).trans e1⟩
    · obtain⟨o',e1⟩:=I.base.there b o e hx;exact⟨o',(hs.2 b (xap (xah (xad e) I.ok.above))).trans e1⟩
    · by_cases hj:j=i
      · subst hj;rw[hi]at e1;cases e1;rw[xaW hiσ]at e2;cases e2;exact⟨u,r,.inl ⟨hk,by simp⟩⟩
      · rw[xbN (xaP hj)]at e2;obtain⟨u',r',q⟩:=hl j y v' e1 e2 e3;refine⟨u',r',?_⟩;rcases q with⟨k,e⟩ |⟨k,c,e,z⟩
        · refine .inl ⟨k,?_⟩;have:y≠x:=fun e=>hj (Fy hN e1 (e ▸ hi))
          simp[this,e]
        · exact .inr ⟨k,c,e,z.sameBut hs (cne y c e)⟩
    · obtain⟨w',z⟩:=I.cell y c e;exact⟨w',z.sameBut hs (cne y c e)⟩
    · obtain⟨e,n,ne,nf,d⟩:=I.pin p hp;exact⟨(hs.2 p.1 ne).trans e,n,ne,nf,d⟩
  · have hfn:X.fn x=true:=by
      rcases hf with z |z
      · exact z
      · rw[z]at hk;cases hk
    obtain⟨c,hc⟩:=I.ok.has x (.inl hk);obtain⟨w',z⟩:=I.cell x c hc;refine wpAny_storeName_cell I.ok.kind hk hc z (fun h' hc' hs=>?_);obtain⟨oc,hoc,hocd⟩:=id z;refine h {s with heap:=h'} ⟨I.ok,I.os,I.bare,⟨fun b o e n hb hx=>?_,fun b o e n hb hx=>?_,I.base.free,fun b o e hx=>?_,I.base.tups,I.base.frzs,I.base.tbls⟩,⟨m,hn.sameBut hs (xaP (cne x c hc)),fun j y v' e1 e2 e3=>?_⟩,fun y c' e=>?_,I.free,I.freeC,fun p hp=>?_,tracked ⟨oc,hoc,I.freeC x c hc⟩ hs,by simpa using I.len⟩ ⟨c,hs,.inr hc⟩
    · exact(hs.2 b (xap (xah (xad e) (I.ok.cab x c hfn hc)))).trans (I.base.keep b o e n hb hx)
    · obtain⟨sl,e1⟩:=I.base.slot b o e n hb hx;exact⟨sl,(hs.2 b (xap (xah (xad e) (I.ok.cab x c hfn hc)))).trans e1⟩
    · obtain⟨o',e1⟩:=I.base.there b o e hx;exact⟨o',(hs.2 b (xap (xah (xad e) (I.ok.cab x c hfn hc)))).trans e1⟩
    · by_cases hj:j=i
      · subst hj;rw[hi]at e1;cases e1;rw[xaW hiσ]at e2;cases e2;exact⟨u,r,.inr ⟨.inl hk,c,hc,hc'⟩⟩
      · rw[xbN (xaP hj)]at e2;obtain⟨u',r',q⟩:=hl j y v' e1 e2 e3;refine⟨u',r',?_⟩;rcases q with q |⟨k,c',e,z'⟩
        · exact .inl q
        · refine .inr ⟨k,c',e,z'.sameBut hs ?_⟩;rintro rfl;exact hj (Fy hN e1 (I.ok.inj _ _ _ e hc ▸ hi))
    · by_cases hcc:c'=c
      · subst hcc;exact⟨_,hc'⟩
      · obtain⟨w2,z2⟩:=I.cell y c' e;exact⟨w2,z2.sameBut hs hcc⟩
    · obtain⟨e,n,ne,nf,d⟩:=I.pin p hp;refine⟨(hs.2 p.1 ?_).trans e,n,ne,nf,d⟩;intro q;rw[q,hoc]at e;have q':oc=p.2:=xar e;exact d w' (by rw[<-q'];exact hocd)
theorem mX (I:Inv X pins σ H s)(hN:X.N.Nodup)(hi:X.N[i]? =some x)(hx:Loc X.env.scope x)(r:RelV v u)
  (h:∀s',Inv X pins (σ.set i (some v)) H s'->Q () s') (hf:X.fn x=true\/X.env.scope.names.lookup x=some .local:=by first |exact .inl rfl |exact .inr rfl |assumption):wpAny M A (storeName X.env x u) Q E s:=
 zaz I hN hi hx r (fun s' I' _=>h s' I') hf
theorem Inv.call' (I:Inv X pins σ H s)(ho:s'.os=s.os)(u:Un (frs X.stack) ch H H' s.heap s'.heap)(hok:cC X.prog X.w H' s'.heap)(hg:AllBare s'.gens)
  (hch:∀b∈ch,(b∈X.ex\/X.s₀.heap.objs.size<=b)/\b≠X.env.locals/\(∀x c,X.env.cells.lookup x=some c->c≠b)/\∀p∈X.pn ++ pins,p.1≠b):Inv X pins σ H' s':=by
 obtain⟨h',g',d',t',o'⟩:=s';have e:o'=s.os:=ho;subst e;exact I.call (g':=g') (t':=t') (d':=d') u hok hg hch
end
abbrev XK:=Value->Option Addr->Hp->Prop
abbrev St:=List (Option V)
abbrev VK:=V->Hp->Prop
abbrev TE:=St->Hp->VK->Prop
abbrev TT:=St->Hp->(Bool->Hp->Prop)->Prop
abbrev TA:=St->Hp->(List V->Hp->Prop)->Prop
structure Ends where
 nx:St->Hp->Prop
 rt:VK
 bk:St->Hp->Prop:=fun _ _=>False
 ct:St->Hp->Prop:=fun _ _=>False
abbrev TS:=Ends->St->Hp->Prop
def EP (X:Cx)(pins:Pnx)(σ:St)(Q:VK)(u:Value)(s':Shared):Prop:=∃v H',Inv X pins σ H' s'/\RelV v u/\Q v H'
def TP (X:Cx)(pins:Pnx)(σ:St)(Q:Bool->Hp->Prop)(b:Bool)(s':Shared):Prop:=∃H',Inv X pins σ H' s'/\Q b H'
def AP (X:Cx)(pins:Pnx)(σ:St)(Q:List V->Hp->Prop)(us:List Value)(s':Shared):Prop:=∃vs H',Inv X pins σ H' s'/\Vals vs us/\Q vs H'
def SP (X:Cx)(pins:Pnx)(D:Ends)(f:Flow)(s':Shared):Prop:=
 match f with
 |.next=>∃σ' H',Inv X pins σ' H' s'/\D.nx σ' H'
 |.brk=>∃σ' H',Inv X pins σ' H' s'/\D.bk σ' H'
 |.cont=>∃σ' H',Inv X pins σ' H' s'/\D.ct σ' H'
 |.ret u=>∃v σ' H',Inv X pins σ' H' s'/\RelV v u/\D.rt v H'
def PE (X:Cx)(e:Expr)(t:TE):Prop:=
 ∀(pins:Pnx) (s:Shared) (σ:St) (H:Hp) (Q:VK),Inv X pins σ H s->t σ H Q->wpAny (model X.prog X.w) X.A (eval e X.env) (EP X pins σ Q) X.xe s
def PT (X:Cx)(e:Expr)(t:TT):Prop:=
 ∀(pins:Pnx) (s:Shared) (σ:St) (H:Hp) (Q:Bool->Hp->Prop),Inv X pins σ H s->t σ H Q->wpAny (model X.prog X.w) X.A (isTrue e X.env (eval e X.env)) (TP X pins σ Q) X.xe s
def PW (X:Cx)(e:Expr)(t:TT):Prop:=
 ∀(whole:Sem Value) (pins:Pnx) (s:Shared) (σ:St) (H:Hp) (Q:Bool->Hp->Prop),Inv X pins σ H s->t σ H Q->wpAny (model X.prog X.w) X.A (isTrue e X.env whole) (TP X pins σ Q) X.xe s
theorem PW.pt (h:PW X e t):PT X e t:=h _
def PA (X:Cx)(es:List Expr)(t:TA):Prop:=
 ∀(pos:Pos) (pins:Pnx) (s:Shared) (σ:St) (H:Hp) (Q:List V->Hp->Prop),Inv X pins σ H s->t σ H Q->wpAny (model X.prog X.w) X.A (spliced (backTo pos (starEach es X.env))) (AP X pins σ Q) X.xe s
def PS (X:Cx)(st:Stmt)(t:TS):Prop:=
 ∀(pins:Pnx) (s:Shared) (σ:St) (H:Hp) (D:Ends),Inv X pins σ H s->t D σ H->wpAny (model X.prog X.w) X.A (exec st X.env) (SP X pins D) X.xe s
def dX (X:Cx)(st:List Stmt)(t:TS):Prop:=
 ∀(pins:Pnx) (s:Shared) (σ:St) (H:Hp) (D:Ends),Inv X pins σ H s->t D σ H->wpAny (model X.prog X.w) X.A (execs st X.env) (SP X pins D) X.xe s
theorem aL (h:wpAny M A t Q E s)(hQ:∀a s,Q a s->Q' a s):wpAny M A t Q' E s:=xaH h hQ fun _ _ x=>x
section
variable {X:Cx}
def rZ (i:Nat):TE:=fun σ H Q=>∃v,σ[i]? =some (some v)/\Q v H
def tC (v:V):TE:=fun _ H Q=>Q v H
theorem rB (hN:X.N[i]? =some x)(hv:sS X.env.scope x)(hd:(x==("__debug__":Str))=false:=by decide)(hcd:(x==("__classdict__":Str))=false:=by decide):PE X (.Name x pos) (rZ i):=by
 intro pins s σ H Q I h;obtain⟨v,e,h⟩:=h;obtain⟨m,hn,hl⟩:=I.loc;obtain⟨u,r,l⟩:=hl i x v hN e hv;have fin:EP X pins σ Q u s:=⟨v,H,I,r,h⟩;rcases l with⟨hk,hm⟩ |⟨hk,c,hc,hcell⟩
 ·exact wpAny_Name (wpAny_loadName_local I.ok.kind hk hn hm fin) hd
 ·rcases hk with hk |hk
  ·exact wpAny_Name (wpAny_loadName_cell I.ok.kind hk hc hcell fin) hd
  ·exact wpAny_Name (wpAny_loadName_free I.ok.kind hk hc hcell fin hcd) hd
theorem Xg {i j pos}:PE X (.Constant (.int i) j pos) (tC (.int i)):=fun _ _ _ H _ I h=>wpAny_Constant_int ⟨.int i,H,I.tok _,⟨_,rfl⟩,h⟩
theorem W6 {b j pos}:PE X (.Constant (.bool b) j pos) (tC (.bl b)):=fun _ _ _ H _ I h=>Constant_bool ⟨.bl b,H,I,rfl,h⟩
theorem Ga {j pos}:PE X (.Constant .none j pos) (tC .non):=fun _ _ _ H _ I h=>Constant_none ⟨.non,H,I,rfl,h⟩
theorem Xr {x j pos}:PE X (.Constant (.str x) j pos) (tC (.str x)):=fun _ _ _ H _ I h=>Calls.Constant_str ⟨.str x,H,I.tok _,⟨_,rfl⟩,h⟩
def Gl (X:Cx)(x:Str):Prop:=X.env.kindOf x=some .globalImplicit
theorem nP (I:Inv X pins σ H s)(hg:Gl X x)(hm:X.mg x=some u)(h:Q u s)
  (hd:(x==("__debug__":Str))=false:=by decide):wpAny (model X.prog X.w) X.A (eval (.Name x pos) X.env) Q E s:=
 xcH I.ok.kind hg (Calls.loadGlobal_global (by rw[I.ok.glob];exact I.mod.glob.keeps I.bk) hm h) hd
theorem vV (I:Inv X pins σ H s)(hg:Gl X x)(hm:X.mg x=none)(hv:bootBuiltins x=some u)(h:Q u s)
  (hn:x≠"__name__":=by decide) (hd:(x==("__debug__":Str))=false:=by decide):wpAny (model X.prog X.w) X.A (eval (.Name x pos) X.env) Q E s:=by
 obtain⟨mb,h1,h2⟩:=I.mod.blt;exact xcH I.ok.kind hg (Calls.loadGlobal_builtin (by rw[I.ok.glob];exact I.mod.glob.keeps I.bk) hm (by rw[I.ok.blt];exact h1.keeps I.bk) ((h2 x hn).trans hv) h) hd
theorem nR (hg:Gl X x)(hm:X.mg x=some u)(r:RelV v u)(hd:(x==("__debug__":Str))=false:=by decide):PE X (.Name x pos) (tC v):=
 fun _ _ _ H _ I h=>nP I hg hm ⟨v,H,I,r,h⟩ hd
theorem Ma (hg:Gl X x)(hm:X.mg x=none)(hv:bootBuiltins x=some u)(r:RelV v u)(hn:x≠"__name__":=by decide)(hd:(x==("__debug__":Str))=false:=by decide):PE X (.Name x pos) (tC v):=
 fun _ _ _ H _ I h=>vV I hg hm hv ⟨v,H,I,r,h⟩ hn hd
variable {a b:Expr}{ta tb:TE}{pos:Pos}
def PC (X:Cx)(op:CmpOp)(a b:Expr)(t:TE):Prop:=
 ∀(pins:Pnx) (s:Shared) (σ:St) (H:Hp) (Q:VK),Inv X pins σ H s->t σ H Q->
  wpAny (model X.prog X.w) X.A (eval a X.env) (fun v s₁=>wpAny (model X.prog X.w) X.A (eval b X.env) (fun u s₂=>wpAny (model X.prog X.w) X.A (compareOp op v u) (EP X pins σ Q) X.xe s₂) X.xe s₁) X.xe s
def tB (t:TE):TT:=fun σ H Q=>t σ H fun x H1=>∃c,x=.bl c/\Q c H1
theorem Yg (h:PC X op a b t)(h1:behindInMarks op b=false:=by first |exact nobehind _ (by decide) (by decide) |rfl):PT X (.Compare a [op] [b] pos) (tB t):=by
 intro pins s σ H Q I hw;refine wpAny_isTrue_Compare1 (aL (h pins s σ H _ I hw) fun v s1 h1=>aL h1 fun u s2 h2=>aL h2 fun c s3 ⟨x,H1,I1,r1,q1⟩=>?_) h1;obtain⟨d,rfl,q⟩:=q1;cases r1;exact xbj ⟨H1,I1,q⟩
variable {tA tB':TT}{rest:List Expr}
noncomputable def Hw (t u:TT):TT:=fun σ H Q=>t σ H fun c H1=>if c=true then u σ H1 Q else Q false H1
noncomputable def tOr (t u:TT):TT:=fun σ H Q=>t σ H fun c H1=>if c=true then Q true H1 else u σ H1 Q
def HJ (t:TT):TT:=fun σ H Q=>t σ H fun c H1=>Q (!c) H1
theorem Yr (ha:PT X a tA):PW X (.BoolOp .And [a] pos) tA:=by
 intro wh pins s σ H Q I h;refine isTrue_and (aL (ha pins s σ H Q I h) fun c s1 e=>?_)
 cases c with
 |true=>exact isTrue_and_nil e
 |false=>exact e
theorem Yt (ha:PT X a tA):PW X (.BoolOp .Or [a] pos) tA:=by
 intro wh pins s σ H Q I h;refine isTrue_or (aL (ha pins s σ H Q I h) fun c s1 e=>?_)
 cases c with
 |false=>exact isTrue_or_nil e
 |true=>exact e
theorem Yq (ha:PT X a tA)(hb:PW X (.BoolOp .And (b::rest) pos) tB'):PW X (.BoolOp .And (a::b::rest) pos) (Hw tA tB'):=by
 intro wh pins s σ H Q I h;refine isTrue_and (aL (ha pins s σ H _ I h) fun c s1 ⟨H1,I1,q1⟩=>?_)
 cases c with
 |true=>exact hb wh pins s1 σ H1 Q I1 q1
 |false=>exact⟨H1,I1,q1⟩
theorem Ys (ha:PT X a tA)(hb:PW X (.BoolOp .Or (b::rest) pos) tB'):PW X (.BoolOp .Or (a::b::rest) pos) (tOr tA tB'):=by
 intro wh pins s σ H Q I h;refine isTrue_or (aL (ha pins s σ H _ I h) fun c s1 ⟨H1,I1,q1⟩=>?_)
 cases c with
 |true=>exact⟨H1,I1,q1⟩
 |false=>exact hb wh pins s1 σ H1 Q I1 q1
theorem Yj (ha:PT X a tA):PT X (.UnaryOp .Not a pos) (HJ tA):=by
 intro pins s σ H Q I h;exact isTrue_not (ha pins s σ H (fun c H1=>Q (!c) H1) I h)
noncomputable def zcx (ta tb:TE):TE:=fun σ H Q=>ta σ H fun x H1=>∃c,x=.bl c/\if c=true then tb σ H1 Q else Q (.bl false) H1
noncomputable def HN (ta tb:TE):TE:=fun σ H Q=>ta σ H fun x H1=>∃c,x=.bl c/\if c=true then Q (.bl true) H1 else tb σ H1 Q
theorem Xl {op}(h:PE X a t):PE X (.BoolOp op [a] pos) t:=fun pins s σ H Q I hw=>BoolOp_one (h pins s σ H Q I hw)
theorem W5 (ha:PE X a ta)(hb:PE X (.BoolOp .And (b::rest) pos) tb):PE X (.BoolOp .And (a::b::rest) pos) (zcx ta tb):=by
 intro pins s σ H Q I h;refine BoolOp_and (aL (ha pins s σ H _ I h) fun v s1 ⟨x,H1,I1,r1,q1⟩=>?_);obtain⟨c,rfl,q1⟩:=q1;cases r1;refine xbj ?_
 cases c with
 |true=>exact hb pins s1 σ H1 Q I1 q1
 |false=>exact⟨.bl false,H1,I1,rfl,q1⟩
theorem Xn (ha:PE X a ta)(hb:PE X (.BoolOp .Or (b::rest) pos) tb):PE X (.BoolOp .Or (a::b::rest) pos) (HN ta tb):=by
 intro pins s σ H Q I h;refine BoolOp_or (aL (ha pins s σ H _ I h) fun v s1 ⟨x,H1,I1,r1,q1⟩=>?_);obtain⟨c,rfl,q1⟩:=q1;cases r1;refine xbj ?_
 cases c with
 |false=>exact hb pins s1 σ H1 Q I1 q1
 |true=>exact⟨.bl true,H1,I1,rfl,q1⟩
noncomputable def tIf (t:TT) (ta tb:TE):TE:=fun σ H Q=>t σ H fun c H1=>if c=true then ta σ H1 Q else tb σ H1 Q
theorem Xf (hc:PT X c tA)(ha:PE X a ta)(hb:PE X b tb):PE X (.IfExp c a b pos) (tIf tA ta tb):=by
 intro pins s σ H Q I h;refine wpAny_IfExp (aL (hc pins s σ H _ I h) fun d s1 ⟨H1,I1,q1⟩=>?_)
 cases d with
 |true=>exact ha pins s1 σ H1 Q I1 q1
 |false=>exact hb pins s1 σ H1 Q I1 q1
end
def bI (K:Fgx)(H:Hp)(a:Addr)(xs:List V):Prop:=
 Rd H a (.lst xs)\/
  ∃(o:Obj) (its:Array Value) (n:Nat),K.lookup a=some o/\o.cls=.type "list"/\o.dict=none/\o.data=.seq its n/\its.size<=sizeLine/\Vals xs its.toList
def dJ (K:Fgx)(H:Hp)(a:Addr)(xs:List V):Prop:=
 Rd H a (.tup xs)\/
  ∃(o:Obj) (its:Array Value) (n:Nat),K.lookup a=some o/\o.cls=.type "tuple"/\o.data=.seq its n/\its.size<=sizeLine/\Vals xs its.toList
noncomputable def Cd:Value->Option V
 |.none=>some .non
 |.bool b=>some (.bl b)
 |.int i _=>some (.int i)
 |.str x _=>some (.str x)
 |.bytes b _=>some (.byt b)
 |.float b _=>some (.flt b)
 |.ref a=>some (.ref a)
 |.type n=>some (.ty n)
 |_=>none
theorem RelV.abs (r:RelV x u):Cd u=some x:=by
 cases x with
 |non=>cases r;rfl
 |bl _=>cases r;rfl
 |int _=>obtain⟨t,rfl⟩:=r;rfl
 |str _=>obtain⟨t,rfl⟩:=r;rfl
 |byt _=>obtain⟨t,rfl⟩:=r;rfl
 |flt _=>obtain⟨t,rfl⟩:=r;rfl
 |ref _=>cases r;rfl
 |ty _=>cases r;rfl
theorem RelV.inj (r:RelV x u)(q:RelV y u):x=y:=xar (r.abs.symm.trans q.abs)
theorem Vals.inj:∀{xs ys:List V} {us:List Value},Vals xs us->Vals ys us->xs=ys
 |_,_,_,.nil,.nil=>rfl
 |_,_,_,.cons r t,.cons r' t'=>by rw[r.inj r',Vals.inj t t']
section
variable {X:Cx}{pins:Pnx}{σ:St}{H:Hp}{s:Shared}{a:Addr}{xs ys:List V}
theorem Inv.list (I:Inv X pins σ H s)(h:bI X.K H a xs):∃its:List Value,Vals xs its/\PlainL s.heap a its.toArray/\xs.length<=sizeLine:=by
 rcases h with h |⟨o,its,n,hk,hc,hd,hs,hz,r⟩
 ·obtain⟨z,its,n,r,e⟩:=h.ok I.hok;exact⟨its,r,⟨_,n,e,rfl,rfl,rfl⟩,z⟩
 ·refine⟨its.toList,r,⟨o,n,I.kIn a o hk,hc,hd,by simpa using hs⟩,?_⟩;have e:=r.length;simp only[xcw]at e;omega
theorem Inv.tuple (I:Inv X pins σ H s)(h:dJ X.K H a xs):∃its:List Value,Vals xs its/\IsTup s.heap a its.toArray/\xs.length<=sizeLine:=by
 rcases h with h |⟨o,its,n,hk,hc,hs,hz,r⟩
 ·obtain⟨z,its,r,p⟩:=h.ok I.hok;exact⟨its,r,p,z⟩
 ·refine⟨its.toList,r,⟨o,I.kIn a o hk,hc,n,by simpa using hs⟩,?_⟩;have e:=r.length;simp only[xcw]at e;omega
theorem Inv.list_inj (I:Inv X pins σ H s)(h:bI X.K H a xs)(h':bI X.K H a ys):xs=ys:=by
 obtain⟨its,r,⟨o,n,e,_,_,d⟩,_⟩:=I.list h;obtain⟨its',r',⟨o',n',e',_,_,d'⟩,_⟩:=I.list h';rw[e]at e';cases e';rw[d]at d'
 injection d' with d1 _
 have:its=its':=by simpa using congrArg Array.toList d1
 subst this;exact r.inj r'
theorem Inv.tuple_inj (I:Inv X pins σ H s)(h:dJ X.K H a xs)(h':dJ X.K H a ys):xs=ys:=by
 obtain⟨its,r,⟨o,e,_,n,d⟩,_⟩:=I.tuple h;obtain⟨its',r',⟨o',e',_,n',d'⟩,_⟩:=I.tuple h';rw[e]at e';cases e';rw[d]at d'
 injection d' with d1 _
 have:its=its':=by simpa using congrArg Array.toList d1
 subst this;exact r.inj r'
end
abbrev Cx.wish (X:Cx)(E:Value->Shared->Prop):Cx:={X with xe:=E}
abbrev Cx.nox (X:Cx):Cx:=X.wish fun _ _=>False
theorem Cx.Ok.wish {X:Cx}(ok:X.Ok)(E:Value->Shared->Prop):(X.wish E).Ok:=
 ⟨ok.mod,ok.kind,ok.glob,ok.blt,ok.above,ok.inj,ok.has,ok.cab,ok.hd,ok.frames,ok.stk,ok.exf,ok.bs,ok.bsz,ok.noex,ok.exfs,ok.funs,ok.frf⟩
theorem Cx.Ok.unwish {X:Cx}{E:Value->Shared->Prop}(ok:(X.wish E).Ok):X.Ok:=
 ⟨ok.mod,ok.kind,ok.glob,ok.blt,ok.above,ok.inj,ok.has,ok.cab,ok.hd,ok.frames,ok.stk,ok.exf,ok.bs,ok.bsz,ok.noex,ok.exfs,ok.funs,ok.frf⟩
section
variable {X:Cx}{pins:Pnx}{σ:St}{H:Hp}{s:Shared}{E:Value->Shared->Prop}
theorem Inv.wish (I:Inv X pins σ H s)(E:Value->Shared->Prop):Inv (X.wish E) pins σ H s:=⟨I.ok.wish E,I.os,I.bare,I.base,I.loc,I.cell,I.free,I.freeC,I.pin,I.hok,I.len⟩
theorem Inv.unwish (I:Inv (X.wish E) pins σ H s):Inv X pins σ H s:=⟨I.ok.unwish,I.os,I.bare,I.base,I.loc,I.cell,I.free,I.freeC,I.pin,I.hok,I.len⟩
theorem SP.unwish (h:SP (X.wish E) pins D f s'):SP X pins D f s':=by
 cases f with
 |next=>obtain⟨σ',H',I,q⟩:=h;exact⟨σ',H',I.unwish,q⟩
 |brk=>obtain⟨σ',H',I,q⟩:=h;exact⟨σ',H',I.unwish,q⟩
 |cont=>obtain⟨σ',H',I,q⟩:=h;exact⟨σ',H',I.unwish,q⟩
 |ret u=>obtain⟨v,σ',H',I,r,q⟩:=h;exact⟨v,σ',H',I.unwish,r,q⟩
theorem dX.nox {st:List Stmt}{t:TS}(h:dX X.nox st t):dX X st t:=fun pins s σ H D I hw=>
 xaH (h pins s σ H D (I.wish _) hw) (fun _ _ q=>q.unwish) fun _ _ z=>False.elim z
end
section
variable {X:Cx}{st:Stmt}{rest:List Stmt}{t u:TS}{e:Expr}{te:TE}{pos:Pos}
def zcK:TS:=fun D σ H=>D.nx σ H
def HX (t u:TS):TS:=fun D σ H=>t {D with nx:=u D} σ H
theorem Gj:dX X [] zcK:=fun _ _ σ H _ I h=>xbX ⟨σ,H,I,h⟩
theorem wK (h1:PS X st t)(h2:dX X rest u):dX X (st::rest) (HX t u):=by
  intro pins s σ H D I h;refine wpAny_execs_cons (aL (h1 pins s σ H {D with nx:=u D} I h) fun f s1 q=>?_)
  cases f with
  |next=>
    obtain⟨σ',H',I',q⟩:=q;exact h2 pins s1 σ' H' D I' q
  |ret v=>exact q
  |brk=>exact q
  |cont=>exact q
theorem Ye (h1:PS X st t):dX X [st] t:=by
 intro pins s σ H D I h;refine wpAny_execs_cons (aL (h1 pins s σ H D I h) fun f s1 q=>?_)
 cases f with
 |next=>exact xbX q
 |ret v=>exact q
 |brk=>exact q
 |cont=>exact q
theorem Inv.quiet (I:Inv X pins σ H s):interactive X.env=false:=by simp[interactive,I.ok.kind]
def zc8 (te:TE):TS:=fun D σ H=>te σ H fun _ H1=>D.nx σ H1
theorem wJ (he:PE X e te)(hs:swapsWith e none pos.line X.env=pure false:=by rfl):PS X (.Expr e pos) (zc8 te):=by
 intro pins s σ H D I h;exact wpAny_Expr_any (aL (he pins s σ H _ I h) fun v s1 ⟨x,H1,I1,r1,q1⟩=>⟨σ,H1,I1,q1⟩) I.quiet hs
def HW (te:TE):TS:=fun D σ H=>te σ H D.rt
theorem Yb (he:PE X e te):PS X (.Return (some e) pos) (HW te):=by
 intro pins s σ H D I h;exact wpAny_Return_some (aL (he pins s σ H _ I h) fun v s1 ⟨x,H1,I1,r1,q1⟩=>⟨x,σ,H1,I1,r1,q1⟩)
noncomputable def Hz (c:TT) (t u:TS):TS:=fun D σ H=>c σ H fun b H1=>if b=true then t D σ H1 else u D σ H1
theorem X_ (hc:PT X c tc)(ha:dX X a t)(hb:dX X b u):PS X (.If c a b pos) (Hz tc t u):=by
 intro pins s σ H D I h;refine wpAny_If (aL (hc pins s σ H _ I h) fun d s1 ⟨H1,I1,q1⟩=>?_)
 cases d with
 |true=>exact ha pins s1 σ H1 D I1 q1
 |false=>exact hb pins s1 σ H1 D I1 q1
end
abbrev TG:=V->St->Hp->(St->Hp->Prop)->Prop
abbrev oU:=List V->St->Hp->(St->Hp->Prop)->Prop
def PG (X:Cx)(target:Expr)(t:TG):Prop:=
 ∀(pins:Pnx) (s:Shared) (σ:St) (H:Hp) (v:V) (u:Value) (Q:St->Hp->Prop),Inv X pins σ H s->RelV v u->t v σ H Q->
  wpAny (model X.prog X.w) X.A (assign target X.env u) (fun _ s'=>∃σ' H',Inv X pins σ' H' s'/\Q σ' H') X.xe s
def sO (X:Cx)(ts:List Expr)(t:oU):Prop:=
 ∀(pins:Pnx) (s:Shared) (σ:St) (H:Hp) (vs:List V) (us:List Value) (Q:St->Hp->Prop),Inv X pins σ H s->Vals vs us->t vs σ H Q->
  wpAny (model X.prog X.w) X.A (assignInOrder ((assignEach ts X.env).map (·.2)) us) (fun _ s'=>∃σ' H',Inv X pins σ' H' s'/\Q σ' H') X.xe s
abbrev uP:=V->V->V->Hp->(Hp->Prop)->Prop
def uO (X:Cx)(t:uP):Prop:=
 ∀(pins:Pnx) (s:Shared) (σ:St) (H:Hp) (o i v:V) (ov iv u:Value) (Q:Hp->Prop),Inv X pins σ H s->RelV o ov->RelV i iv->RelV v u->t o i v H Q->
  wpAny (model X.prog X.w) X.A (setItem ov iv u) (fun _ s'=>∃H',Inv X pins σ H' s'/\Q H') X.xe s
section
variable {X:Cx}{pos:Pos}
def vp (i:Nat):TG:=fun v σ H Q=>Q (σ.set i (some v)) H
theorem wG (hN:X.N.Nodup)(hi:X.N[i]? =some x)(hx:Loc X.env.scope x)(hf:X.fn x=true\/X.env.scope.names.lookup x=some .local:=by first |exact .inl rfl |exact .inr rfl |assumption):PG X (.Name x pos) (vp i):=by
 intro pins s σ H v u Q I r h;exact xcJ (mX I hN hi hx r (fun s' I'=>⟨_,H,I',h⟩) hf)
def vq:oU:=fun vs σ H Q=>vs=[]/\Q σ H
noncomputable def Ed (t:TG) (u:oU):oU:=fun vs σ H Q=>∃v r,vs=v::r/\t v σ H fun σ' H'=>u r σ' H' Q
theorem Gb:sO X [] vq:=by
 intro pins s σ H vs us Q I r h;obtain⟨e,h⟩:=h;subst e;cases r;exact assignInOrder_nil ⟨σ,H,I,h⟩
theorem wH (h1:PG X e t)(h2:sO X es u)
    (hs:(assignEach (e::es) X.env).map (·.2)=assign e X.env::(assignEach es X.env).map (·.2):=by rfl):sO X (e::es) (Ed t u):=by
  intro pins s σ H vs us Q I r h;obtain⟨v,vr,e1,h⟩:=h;subst e1
  cases r with
  |cons r rr=>
    rw[hs];refine assignInOrder_cons (aL (h1 pins s σ H _ _ _ I r h) fun _ s1 ⟨σ1,H1,I1,q1⟩=>?_);exact h2 pins s1 σ1 H1 _ _ Q I1 rr q1
noncomputable def vA (K:Fgx) (n:Nat) (t:oU):TG:=fun v σ H Q=>∃a xs,v=.ref a/\dJ K H a xs/\xs.length=n/\t xs σ H Q
theorem zU (hc:X.calm=true)(h:sO X es t)
  (hn:(assignEach es X.env).length=n:=by rfl) (hst:(assignEach es X.env).findIdx? (·.1)=none:=by rfl):PG X (.Tuple es k pos) (vA X.K n t):=by
 intro pins s σ H v u Q I r hw;obtain⟨a,xs,e1,hq,hl,hw⟩:=hw;subst e1;cases r;obtain⟨its,rv,ht,hz⟩:=I.tuple hq;refine assign_Tuple_tuple (I.ok.hd hc) ht (by simp[hn, <-hl,rv.length]) hst fun h' hx=>?_;have I1:Inv X pins σ H {s with heap:=h'}:=I.kept (t':=s.toks) fun b o e=>hx b o (xap (xad e)) e;exact h pins _ σ H xs _ Q I1 (by simpa using rv) hw
noncomputable def Eh (to ti:TE) (t:uP):TG:=fun v σ H Q=>to σ H fun o H1=>ti σ H1 fun i H2=>t o i v H2 fun H3=>Q σ H3
theorem Xy (ho:PE X o to)(hi:PE X i ti)(hs:uO X t)
  (ha : ∀ v, assign (.Subscript o i pos) X.env v = (do
   let ov <-holding [v] (eval o X.env)
   let iv <-holding [v,ov] (eval i X.env)
   standAt pos
   holding [v,ov,iv] (setItem ov iv v)
   release [v,ov,iv] []):=by intro _;rfl):PG X (.Subscript o i pos) (Eh to ti t):=by
 intro pins s σ H v u Q I r h;rw[ha];refine xaa (xaR (aL (ho pins s σ H _ I h) fun ov s1 ⟨x,H1,I1,r1,q1⟩=>?_));refine xaa (xaR (aL (hi pins s1 σ H1 _ I1 q1) fun iv s2 ⟨y,H2,I2,r2,q2⟩=>?_));refine xaa (xbS (xaa (xaR (aL (hs pins s2 σ H2 x y v ov iv u _ I2 r1 r2 r q2) fun _ s3 ⟨H3,I3,q3⟩=>?_))));exact wpAny_release ⟨σ,H3,I3,q3⟩
noncomputable def xO (te:TE) (g:TG):TS:=fun D σ H=>te σ H fun x H1=>g x σ H1 D.nx
theorem Gg (he:PE X e te)(hg:PG X tg g)(hs:swapsWithSole [tg] e pos.line X.env=pure false:=by rfl)(hw:swappedStores [tg] e X.env=pure none:=by rfl)
  (h1:(assignEach [tg] X.env).map (·.2)=[assign tg X.env]:=by rfl):PS X (.Assign [tg] e pos) (xO te g):=by
 intro pins s σ H D I h;refine wpAny_Assign_stores (aL (he pins s σ H _ I h) fun v s1 ⟨x,H1,I1,r1,q1⟩=>?_) hs hw;rw[h1];exact aL (hg pins s1 σ H1 x v _ I1 r1 q1) fun _ s2 q=>q
theorem Gh (hN:X.N.Nodup)(hi:X.N[i]? =some x)(hx:Loc X.env.scope x)(he:PE X e te)(hs:swapsWith e (some (.Name x pos')) pos.line X.env=pure false:=by rfl)(hf:X.fn x=true\/X.env.scope.names.lookup x=some .local:=by first |exact .inl rfl |exact .inr rfl |assumption):
  PS X (.Assign [.Name x pos'] e pos) (xO te (vp i)):=by
 intro pins s σ H D I h;refine wpAny_Assign_Name (aL (he pins s σ H _ I h) fun v s1 ⟨y,H1,I1,r1,q1⟩=>?_) hs;exact mX I1 hN hi hx r1 (fun s2 I2=>⟨_,H1,I2,q1⟩) hf
end
structure It where
 go:Nat->Hp->Prop
 yld:Nat->Hp->V->Hp->Prop
 stop:Nat->Hp->Prop
def cJ (X:Cx)(pins:Pnx)(H:Hp)(b:Addr):Prop:=
 H b=none/\b≠X.env.locals/\b∉X.fs/\(b∈X.ex\/X.s₀.heap.objs.size<=b)/\(∀x c,X.env.cells.lookup x=some c->c≠b)/\∀p∈X.pn ++ pins,p.1≠b
theorem Inv.fpOk (I:Inv X pins σ H s)(hb:s.heap.objs.size<=b)(hn:H' b=none):cJ X pins H' b:=by
 refine⟨hn,xb1 (xah I.lt hb),I.nofs hb,.inr (xaD I.sz hb),fun x c e z=>?_,fun p hp z=>?_⟩
 ·obtain⟨v,q⟩:=I.cell x c e;exact absurd (xah q.lt (by rw[z];exact hb)) (xa0 _)
 ·exact absurd (xah (xad (I.pin p hp).1) (by rw[z];exact hb)) (xa0 _)
structure Turn (P:Program)(w:World)(K:Fgx)(tg:Expr)(J:It)(fp:List Addr)(it:Addr)(tn:Nat->Heap->Prop):Prop where
 mem:it∈fp
 obj:∀i h,tn i h->∀b∈fp,∃o,h.get? b=some o/\∀v,o.data≠ .cell v
 keep:∀i h h',tn i h->(∀b∈fp,∀o,h.get? b=some o->h'.get? b=some o)->tn i h'
 item:∀(X:Cx),X.prog=P->X.w=w->X.K=K->X.calm=true->∀(i:Nat) (pins:Pnx) (s:Shared) (σ:St) (H:Hp) (E:Value->Shared->Prop),Inv X pins σ H s->(∀b∈fp,cJ X pins H b)->tn i s.heap->J.go i H->
  wpAny (model P w) X.A (pyNext (.ref it)) (fun r s1=>∃u,r=some u/\
   wpAny (model P w) X.A (letOwnedTupleGo tg (.ref it) u) (fun _ s2=>∃x H',Inv X pins σ H' s2/\RelV x u/\J.yld i H x H'/\tn (i + 1) s2.heap/\∀b∈fp,H' b=none) E s1) E s
 done:∀(X:Cx),X.prog=P->X.w=w->X.K=K->X.calm=true->∀(i:Nat) (pins:Pnx) (s:Shared) (σ:St) (H:Hp) (E:Value->Shared->Prop),Inv X pins σ H s->(∀b∈fp,cJ X pins H b)->tn i s.heap->J.stop i H->
  wpAny (model P w) X.A (pyNext (.ref it)) (fun r s1=>r=none/\Inv X pins σ H s1) E s
 self:∀(A:Around) (i:Nat) (s:Shared) (Q:Value->Shared->Prop) (E:Value->Shared->Prop),tn i s.heap->Q (.ref it) s->wpAny (model P w) A (pyIter (.ref it)) Q E s
abbrev TI:=St->Hp->(It->Hp->Prop)->Prop
def PIE (X:Cx)(pins:Pnx)(σ:St)(tg:Expr)(R:It->Hp->Prop)(itv:Value)(s2:Shared):Prop:=
 ∃(it:Addr) (fp:List Addr) (tn:Nat->Heap->Prop) (J:It) (H':Hp),itv=.ref it/\Inv X pins σ H' s2/\Turn X.prog X.w X.K tg J fp it tn/\tn 0 s2.heap/\(∀b∈fp,cJ X pins H' b)/\R J H'
def PI (X:Cx)(tg iter:Expr)(wi:TI):Prop:=
 ∀(pins:Pnx) (s:Shared) (σ:St) (H:Hp) (R:It->Hp->Prop),Inv X pins σ H s->wi σ H R->
  wpAny (model X.prog X.w) X.A (eval iter X.env) (fun v s1=>wpAny (model X.prog X.w) X.A (pyIter v) (PIE X pins σ tg R) X.xe s1) X.xe s
theorem pL {M:Model}{A:Around}{E:Value->Shared->Prop}{s:Shared}{tg:Expr}{it:Addr}{u:Value}{o:Obj}{n:String}{vs:Array Value}{Q:Unit->Shared->Prop}(ho:s.heap.get? it=some o)(hc:o.cls=.type n)(hd:o.data=.fields vs)
    (hn:["enumerate","zip","dict_itemiterator","dict_reverseitemiterator","odict_iterator","itertools.zip_longest","itertools.pairwise"].contains n=false) (hQ:Q () s):wpAny M A (letOwnedTupleGo tg (.ref it) u) Q E s:=by
  unfold letOwnedTupleGo;cases tg<;>first
    |exact xaj hQ
    | (cases u<;>first
        |exact xaj hQ
        | (refine xaa (wpAny_load ho ?_)
           rw[hc,hd];show wpAny M A (if (["enumerate","zip","dict_itemiterator","dict_reverseitemiterator","odict_iterator","itertools.zip_longest","itertools.pairwise"].contains n && vs[0]? ==some (rawInt _))=true then _ else _) Q E s
           rw[xag (by intro h;rw[hn,Bool.false_and]at h;cases h)];exact xaj hQ))
noncomputable def Iz (K:Fgx) (a:Addr):It:=
 ⟨fun i H=>∃xs x,bI K H a xs/\xs[i]? =some x,fun i H x H'=>H'=H/\∀xs,bI K H a xs->xs[i]? =some x,fun i H=>∃xs,bI K H a xs/\xs.length<=i⟩
noncomputable def IK (K:Fgx) (a:Addr):It:=
 ⟨fun i H=>∃xs x,dJ K H a xs/\xs[i]? =some x,fun i H x H'=>H'=H/\∀xs,dJ K H a xs->xs[i]? =some x,fun i H=>∃xs,dJ K H a xs/\xs.length<=i⟩
noncomputable def yw (lo:Int) (n:Nat):It:=⟨fun i _=>i<n,fun i H x H'=>H'=H/\x=.int (lo + i),fun i _=>n<=i⟩
theorem zaA {P:Program}{w:World}{K:Fgx}{tg:Expr}(a it:Addr):Turn P w K tg (Iz K a) [it] it (fun i h=>h.IsListIter it a i) where
 mem:=by simp
 obj:=fun i h st b hb=>by
  have e:b=it:=by simpa using hb
  subst e;obtain⟨o,e,c,d⟩:=st;exact⟨o,e,fun v z=>by rw[d]at z;cases z⟩
 keep:=fun i h h' st k=>st.at fun o e=>k it (by simp) o e
 item:=by
  intro X hP hw hK hc i pins s σ H E I hf st hg;subst hP hw hK;obtain⟨xs,x,hq,hx⟩:=hg;obtain⟨its,rv,p,hz⟩:=I.list hq;obtain⟨u,hu,ru⟩:=rv.get hx;obtain⟨f0,f1,f2,f3,f4,f5⟩:=hf it (by simp);refine xce st p.isList (x:=u) (by simpa using hu) fun h' st' sb=>?_;have I1:Inv X pins σ H {s with heap:=h'}:=I.turned (t':=s.toks) (fun b o hb e=>(sb.2 b hb).trans e) f0 f1 f3 f4 f5;obtain⟨o,e,c,d⟩:=id st';exact⟨u,rfl,pL (s:={s with heap:=h'}) e c d (by decide) ⟨x,H,I1,ru,⟨rfl,fun ys hy=>by rw[I.list_inj hy hq];exact hx⟩,st',fun b hb=>(hf b hb).1⟩⟩
 done:=by
  intro X hP hw hK hc i pins s σ H E I hf st hg;subst hP hw hK;obtain⟨xs,hq,hx⟩:=hg;obtain⟨its,rv,p,hz⟩:=I.list hq;obtain⟨f0,f1,f2,f3,f4,f5⟩:=hf it (by simp);have hl:=rv.length;exact xcn (I.ok.hd hc) st p.isList (by simp;omega) fun h' eb=>⟨rfl,I.turned (t':=s.toks) (fun b o hb e=>eb b o hb e) f0 f1 f3 f4 f5⟩
 self:=fun _ _ _ _ _ st h=>wpAny_pyIter_listiter st h
theorem zan {P:Program}{w:World}{K:Fgx}{tg:Expr}(a it:Addr):Turn P w K tg (IK K a) [it] it (fun i h=>h.IsTupleIter it a i) where
 mem:=by simp
 obj:=fun i h st b hb=>by
  have e:b=it:=by simpa using hb
  subst e;obtain⟨o,e,c,d⟩:=st;exact⟨o,e,fun v z=>by rw[d]at z;cases z⟩
 keep:=fun i h h' st k=>st.at fun o e=>k it (by simp) o e
 item:=by
  intro X hP hw hK hc i pins s σ H E I hf st hg;subst hP hw hK;obtain⟨xs,x,hq,hx⟩:=hg;obtain⟨its,rv,p,hz⟩:=I.tuple hq;obtain⟨u,hu,ru⟩:=rv.get hx;obtain⟨f0,f1,f2,f3,f4,f5⟩:=hf it (by simp);refine wpAny_pyNext_tuple_item st (show s.heap.IsTuple a its.toArray from p) (x:=u) (by simpa using hu) fun h' st' sb=>?_;have I1:Inv X pins σ H {s with heap:=h'}:=I.turned (t':=s.toks) (fun b o hb e=>(sb.2 b hb).trans e) f0 f1 f3 f4 f5;obtain⟨o,e,c,d⟩:=id st';exact⟨u,rfl,pL (s:={s with heap:=h'}) e c d (by decide) ⟨x,H,I1,ru,⟨rfl,fun ys hy=>by rw[I.tuple_inj hy hq];exact hx⟩,st',fun b hb=>(hf b hb).1⟩⟩
 done:=by
  intro X hP hw hK hc i pins s σ H E I hf st hg;subst hP hw hK;obtain⟨xs,hq,hx⟩:=hg;obtain⟨its,rv,p,hz⟩:=I.tuple hq;obtain⟨f0,f1,f2,f3,f4,f5⟩:=hf it (by simp);have hl:=rv.length;exact wpAny_pyNext_tuple_end (I.ok.hd hc) st (show s.heap.IsTuple a its.toArray from p) (by simp;omega) fun h' eb=>⟨rfl,I.turned (t':=s.toks) (fun b o hb e=>eb b o hb e) f0 f1 f3 f4 f5⟩
 self:=fun _ _ _ _ _ st h=>wpAny_pyIter_tupleiter st h
theorem zas {P:Program}{w:World}{K:Fgx}{tg:Expr}(it:Addr)(lo:Int)(n:Nat):Turn P w K tg (yw lo n) [it] it (fun i h=>IsRangeIter h it (lo + (i:Nat) * 1) ((n:Int) - (i:Nat)) 1) where
 mem:=by simp
 obj:=fun i h st b hb=>by
  have e:b=it:=by simpa using hb
  subst e;exact ⟨_,st,fun v z=>by
   have z':Data.fields _=Data.cell v:=z;cases z'⟩
 keep:=fun i h h' st k=>k it (by simp) _ st
 item:=by
  intro X hP hw hK hc i pins s σ H E I hf st hg;subst hP hw hK;obtain⟨f0,f1,f2,f3,f4,f5⟩:=hf it (by simp);have W:=Walks.range (prog:=X.prog) (w:=X.w) (I.ok.hd hc) it lo 1 n;refine W.item i s _ _ hg st fun v h' tk hv st' kk=>?_;obtain⟨t,rfl⟩:=hv;have I1:Inv X pins σ H {s with heap:=h',toks:=tk}:=I.turned (fun b o hb e=>kk b o (by simpa using hb) e) f0 f1 f3 f4 f5;refine⟨_,rfl,pL (s:={s with heap:=h',toks:=tk}) (n:="range_iterator") st' rfl rfl (by decide) ⟨.int (lo + i),H,I1,⟨t,?_⟩,⟨rfl,rfl⟩,st',fun b hb=>(hf b hb).1⟩⟩;rw[Int.mul_one]
 done:=by
  intro X hP hw hK hc i pins s σ H E I hf st hg;subst hP hw hK;obtain⟨f0,f1,f2,f3,f4,f5⟩:=hf it (by simp);exact wpAny_pyNext_range_end (I.ok.hd hc) st (by have:n<=i:=hg;omega) fun h' eb=>⟨rfl,I.turned (t':=s.toks) (fun b o hb e=>eb b o hb e) f0 f1 f3 f4 f5⟩
 self:=fun _ _ _ _ _ st h=>wpAny_pyIter_rangeiter st h
section
variable {X:Cx}{tg:Expr}
noncomputable def Kr (K:Fgx) (tl:TE):TI:=fun σ H R=>tl σ H fun x H1=>∃a,x=.ref a/\(∃xs,bI K H1 a xs)/\R (Iz K a) H1
noncomputable def Ep (K:Fgx) (tl:TE):TI:=fun σ H R=>tl σ H fun x H1=>∃a,x=.ref a/\(∃xs,dJ K H1 a xs)/\R (IK K a) H1
theorem Mh {l:Expr}{tl:TE}(hl:PE X l tl):PI X tg l (Kr X.K tl):=by
 intro pins s σ H R I h;refine aL (hl pins s σ H _ I h) fun v s1 ⟨x,H1,I1,r1,q1⟩=>?_;obtain⟨a,e,⟨xs,hq⟩,q⟩:=q1;subst e;cases r1;obtain⟨its,rv,p,hz⟩:=I1.list hq;refine xcb p.isList ?_;refine⟨s1.heap.objs.size,[s1.heap.objs.size],_,_,H1,rfl,I1.kept (t':=s1.toks) fun b o e=>xab _ e,zaA a _,⟨_,xau _ rfl,rfl,rfl⟩,fun b hb=>?_,q⟩;have e:b=s1.heap.objs.size:=by simpa using hb
 subst e;exact I1.fpOk (xaf _) (I1.hok.fresh (xaf _))
theorem XM {l:Expr}{tl:TE}(hl:PE X l tl):PI X tg l (Ep X.K tl):=by
 intro pins s σ H R I h;refine aL (hl pins s σ H _ I h) fun v s1 ⟨x,H1,I1,r1,q1⟩=>?_;obtain⟨a,e,⟨xs,hq⟩,q⟩:=q1;subst e;cases r1;obtain⟨its,rv,p,hz⟩:=I1.tuple hq;refine wpAny_pyIter_tuple (show s1.heap.IsTuple a its.toArray from p) ?_;refine⟨s1.heap.objs.size,[s1.heap.objs.size],_,_,H1,rfl,I1.kept (t':=s1.toks) fun b o e=>xab _ e,zan a _,⟨_,xau _ rfl,rfl,rfl⟩,fun b hb=>?_,q⟩;have e:b=s1.heap.objs.size:=by simpa using hb
 subst e;exact I1.fpOk (xaf _) (I1.hok.fresh (xaf _))
theorem zaR {pins:Pnx}{σ:St}{H:Hp}{s:Shared}{R:It->Hp->Prop}{E:Value->Shared->Prop}{lo hi:Int}{t u v:Tok}{tk:Nat}(I:Inv X pins σ H s)(h1: -(2 ^ 62)<=lo)(h2:lo<2 ^ 62)(h3: -(2 ^ 62)<=hi)(h4:hi<2 ^ 62)
  (q:R (yw lo (hi - lo).toNat) H):wpAny (model X.prog X.w) X.A (pyIter (.ref s.heap.objs.size)) (PIE X pins σ tg R) E {s with heap:=s.heap.push {cls:=.type "range",data:=.fields #[.int lo t,.int hi u,.int 1 v]},toks:=tk}:=by
 refine wpAny_pyIter_range (IsRange.new ..) (small_one h1 h2 h3 h4) ?_;have I1 : Inv X pins σ H { s with heap := s.heap.push { cls := .type "range", data := .fields #[.int lo t, .int hi u, .int 1 v] }, toks := tk } := I.kept fun b o e => xab _ e;refine ⟨(s.heap.push {cls:=.type "range",data:=.fields #[.int lo t,.int hi u,.int 1 v]}).objs.size,[(s.heap.push {cls:=.type "range",data:=.fields #[.int lo t,.int hi u,.int 1 v]}).objs.size],_,_,H,rfl,
  I1.kept (t':=tk) fun b o e=>xab _ e,zas _ lo (hi - lo).toNat,?_,fun b hb=>?_,q⟩
 ·have e1:lo + ((0:Nat):Int) * 1=lo:=by simp
  have e2:(((hi - lo).toNat:Nat):Int) - ((0:Nat):Int)=Builtin.Range.rangeSize lo hi 1:=by rw[rangeSize_one];split<;>omega
  show IsRangeIter _ _ (lo + ((0:Nat):Int) * 1) ((((hi - lo).toNat:Nat):Int) - ((0:Nat):Int)) 1;rw[e1,e2];exact xau _ rfl
 ·have e:b=(s.heap.push {cls:=.type "range",data:=.fields #[.int lo t,.int hi u,.int 1 v]}).objs.size:=by simpa using hb
  subst e;exact I1.fpOk (xaf _) (I1.hok.fresh (xaf _))
noncomputable def nJ (ta:TA):TI:=fun σ H R=>ta σ H fun vs H1=>∃j:Int,vs=[.int j]/\ -(2 ^ 62)<=j/\j<2 ^ 62/\R (yw 0 j.toNat) H1
theorem XH {a:Expr}{ta:TA}{p pos:Pos}(hg:Gl X "range")(hm:X.mg "range"=none)(ha:PA X [a] ta)(hs:starEach [a] X.env=[(false,eval a X.env)]:=by rfl):PI X tg (.Call (.Name "range" p) [a] [] pos) (nJ ta):=by
  intro pins s σ H R I h;refine Call_ (vV I hg hm boot_range (xbM (aL (ha pos pins s σ H _ I h) fun us s1 ⟨vs,H1,I1,r1,q1⟩=>?_) hs rfl));obtain⟨j,e,q1,q2,q⟩:=q1;subst e
  cases r1 with
  |cons r rr=>
    cases rr;obtain⟨t,rfl⟩:=r;exact call_range_1 (zaR I1 (by omega) (by omega) q1 q2 (by simpa using q))
noncomputable def Hy (wi:TI) (g:TG) (tb:TS):TS:=fun D σ H=>wi σ H fun J H1=>∃W:Nat->Nat->St->Hp->Prop,(∃m,W 0 m σ H1)/\∀i m σ H,W i m σ H->
 (J.stop i H/\D.nx σ H)\/(J.go i H/\∃N:St->Hp->Prop,(∀σ' H',N σ' H'->∃m',m'<m/\W (i + 1) m' σ' H')/\∀x H',J.yld i H x H'->g x σ H' fun σ2 H2=>tb {D with nx:=N,ct:=N,bk:=D.nx} σ2 H2)
noncomputable def uc (fp:List Addr) (h:Heap):Pnx:=fp.filterMap fun b=>(h.get? b).map fun o=>(b,o)
theorem tU (hb:b∈fp)(e:h.get? b=some o):(b,o)∈uc fp h:=xb2.mpr ⟨b,hb,by rw[e];rfl⟩
theorem Wm (hp:p∈uc fp h):p.1∈fp/\h.get? p.1=some p.2:=by
  obtain⟨b,hb,e⟩:=xb2.mp hp
  cases q:h.get? b with
  |none=>rw[q]at e;cases e
  |some o=>
    rw[q]at e;have e':(b,o)=p:=xar e;subst e';exact⟨hb,q⟩
theorem Inv.pinned (I:Inv X pins σ H s)(hf:∀b∈fp,cJ X pins H b)(ho:∀b∈fp,∃o,s.heap.get? b=some o/\∀v,o.data≠ .cell v):Inv X (pins ++ uc fp s.heap) σ H s:=
 I.pins_of fun p hp=>(xaO.mp hp).elim (fun z=>I.pin p (xao _ z)) fun z=>by
  obtain⟨hb,e⟩:=Wm z;obtain⟨f0,f1,f2,_⟩:=hf p.1 hb;obtain⟨o,e',d⟩:=ho p.1 hb;rw[e]at e';cases e';exact⟨e,f0,f1,f2,d⟩
theorem Inv.unpinned (I:Inv X (pins ++ pl) σ H s):Inv X pins σ H s:=I.pins_of fun p hp=>I.pin p (xao _ (xcq _ hp))
theorem Ml (hp:PassesOwn (model X.prog X.w) X.A X.env X.xe)(hc:X.calm=true)(hi:PI X tg iter wi)(hg:PG X tg g)(hb:dX X body tb)
  (hs:∀x,foldedSetIterable iter X.env x=pure x:=by intro _;rfl):PS X (.For tg iter body [] pos) (Hy wi g tb):=by
 intro pins s σ H D I h;refine wpAny_For (aL (hi pins s σ H _ I h) fun v s1 h1=>aL h1 fun itv s2 h2=>?_) hs;obtain⟨it,fp,tn,J,H2,e,I2,T,st2,f2,W,⟨m0,w0⟩,turn⟩:=h2;subst e
 -- what stays true of the iterator's objects through the loop
 have stat:∀{H':Hp},(∀b∈fp,H' b=none)->∀b∈fp,cJ X pins H' b:=fun hn b hb=>⟨hn b hb,(f2 b hb).2⟩;refine codeAny_forLoop_any (fun n s'=>∃i σ' H',Inv X pins σ' H' s'/\tn i s'.heap/\(∀b∈fp,H' b=none)/\W i n σ' H') ?_ m0 ⟨0,σ,H2,I2,st2,fun b hb=>(f2 b hb).1,w0⟩;rintro n s3 ⟨i,σ3,H3,I3,st3,fr3,w3⟩;rcases turn i n σ3 H3 w3 with⟨stop,qn⟩ |⟨go,N,hN,step⟩
 ·refine xbY hp (aL (T.done X rfl rfl rfl hc i pins s3 σ3 H3 X.xe I3 (stat fr3) st3 stop) fun r s4 ⟨hr,I4⟩=>?_);subst hr;exact xbX ⟨σ3,H3,I4,qn⟩
 ·refine xbY hp (aL (T.item X rfl rfl rfl hc i pins s3 σ3 H3 X.xe I3 (stat fr3) st3 go) fun r s4 ⟨u,hr,h4⟩=>?_);subst hr;refine xbY hp (aL h4 fun _ s5 ⟨x,H5,I5,r5,y5,st5,fr5⟩=>?_);have I5':=I5.pinned (stat fr5) (T.obj _ _ st5);refine xbY hp (aL (hg _ s5 σ3 H5 x u _ I5' r5 (step x H5 y5)) fun _ s6 ⟨σ6,H6,I6,q6⟩=>?_);refine xbY hp (aL (hb _ s6 σ6 H6 _ I6 q6) fun f s7 q7=>?_);have again:∀{σ7:St} {H7:Hp},Inv X (pins ++ uc fp s5.heap) σ7 H7 s7->N σ7 H7->∃m,m<n/\∃i σ' H',Inv X pins σ' H' s7/\tn i s7.heap/\(∀b∈fp,H' b=none)/\W i m σ' H':=fun {σ7 H7} I7 n7=>by
   obtain⟨m',hm,w7⟩:=hN σ7 H7 n7;refine⟨m',hm,i + 1,σ7,H7,I7.unpinned,T.keep _ _ _ st5 fun b hb o e=>(I7.pin (b,o) (xao _ (xao _ (tU hb e)))).1,fun b hb=>?_,w7⟩;obtain⟨o,e,d⟩:=T.obj _ _ st5 b hb;exact(I7.pin (b,o) (xao _ (xao _ (tU hb e)))).2.1
  cases f with
  |next=>obtain⟨σ7,H7,I7,n7⟩:=q7;exact again I7 n7
  |cont=>obtain⟨σ7,H7,I7,n7⟩:=q7;exact again I7 n7
  |brk=>obtain⟨σ7,H7,I7,q7⟩:=q7;exact⟨σ7,H7,I7.unpinned,q7⟩
  |ret v=>obtain⟨x7,σ7,H7,I7,r7,q7⟩:=q7;exact⟨x7,σ7,H7,I7.unpinned,r7,q7⟩
end
abbrev R2:=V->V->Hp->VK->Prop
def bK (X:Cx)(f:Value->Value->Sem Value)(r:R2):Prop:=
 ∀(pins:Pnx) (s:Shared) (σ:St) (H:Hp) (x y:V) (v u:Value) (Q:VK),Inv X pins σ H s->RelV x v->RelV y u->r x y H Q->
  wpAny (model X.prog X.w) X.A (f v u) (EP X pins σ Q) X.xe s
def yF (X:Cx)(f:Value->Sem Value)(r:V->Hp->VK->Prop):Prop:=
 ∀(pins:Pnx) (s:Shared) (σ:St) (H:Hp) (x:V) (v:Value) (Q:VK),Inv X pins σ H s->RelV x v->r x H Q->
  wpAny (model X.prog X.w) X.A (f v) (EP X pins σ Q) X.xe s
def dU (X:Cx)(f:Value)(r:List V->Hp->VK->Prop):Prop:=
 ∀(pins:Pnx) (s:Shared) (σ:St) (H:Hp) (xs:List V) (us:List Value) (Q:VK),Inv X pins σ H s->Vals xs us->r xs H Q->
  wpAny (model X.prog X.w) X.A (call f us) (EP X pins σ Q) X.xe s
def Ca (X:Cx)(r:V->Hp->(Bool->Hp->Prop)->Prop):Prop:=
 ∀(pins:Pnx) (s:Shared) (σ:St) (H:Hp) (x:V) (v:Value) (Q:Bool->Hp->Prop),Inv X pins σ H s->RelV x v->r x H Q->
  wpAny (model X.prog X.w) X.A (truthy v) (TP X pins σ Q) X.xe s
noncomputable def xR (r:R2) (ta tb:TE):TE:=fun σ H Q=>ta σ H fun x H1=>tb σ H1 fun y H2=>r x y H2 Q
noncomputable def O8 (r:V->Hp->VK->Prop) (ta:TE):TE:=fun σ H Q=>ta σ H fun x H1=>r x H1 Q
noncomputable def rI (C:Int->Int->Prop) (g:Int->Int->V):R2:=fun x y H Q=>∃i j,x=.int i/\y=.int j/\C i j/\Q (g i j) H
noncomputable def gU (g:Int->Int->V):R2:=fun x y H Q=>∃i j,x=.int i/\y=.int j/\Q (g i j) H
def rU (g:Int->V):V->Hp->VK->Prop:=fun x H Q=>∃i,x=.int i/\Q (g i) H
section
variable {X:Cx}{a b c:Expr}{ta tb tc:TE}{pos:Pos}
theorem oW (ha:PE X a ta)(hb:PE X b tb){pins:Pnx}{s:Shared}{σ:St}{H:Hp}{R:V->V->Hp->Prop}(I:Inv X pins σ H s)
  (h:ta σ H fun x H1=>tb σ H1 fun y H2=>R x y H2) {Q:Value->Shared->Prop} {f:Value->Value->Sem Value}
  (hf:∀v u s2 x y H2,Inv X pins σ H2 s2->RelV x v->RelV y u->R x y H2->wpAny (model X.prog X.w) X.A (f v u) Q X.xe s2):
  wpAny (model X.prog X.w) X.A (eval a X.env) (fun v s₁=>wpAny (model X.prog X.w) X.A (eval b X.env) (fun u s₂=>wpAny (model X.prog X.w) X.A (f v u) Q X.xe s₂) X.xe s₁) X.xe s:=by
 refine aL (ha pins s σ H _ I h) fun v s1 ⟨x,H1,I1,r1,q1⟩=>?_;refine aL (hb pins s1 σ H1 _ I1 q1) fun u s2 ⟨y,H2,I2,r2,q2⟩=>?_;exact hf v u s2 x y H2 I2 r1 r2 q2
theorem Xm {op:Operator}{r:R2}(ho:bK X (binaryOp op) r)(ha:PE X a ta)(hb:PE X b tb):PE X (.BinOp a op b pos) (xR r ta tb):=by
 intro pins s σ H Q I h;exact wpAny_BinOp (oW ha hb I h fun v u s2 x y H2 I2 rx ry q=>ho pins s2 σ H2 x y v u Q I2 rx ry q)
theorem Xv (ho:yF X (unaryOp op) r)(ha:PE X a ta):PE X (.UnaryOp op a pos) (O8 r ta):=by
 intro pins s σ H Q I h;exact UnaryOp_ (aL (ha pins s σ H _ I h) fun v s1 ⟨x,H1,I1,r1,q1⟩=>ho pins s1 σ H1 x v Q I1 r1 q1)
theorem wC {f:Value->Value->Sem Value}{C:Int->Int->Prop}{g:Int->Int->Int}
  (rule:∀(i j:Int) (t u:Tok) (s:Shared) (Q:Value->Shared->Prop) (E:Value->Shared->Prop),C i j->Q (.int (g i j) s.toks) {s with toks:=s.toks + 1}->wpAny (model X.prog X.w) X.A (f (.int i t) (.int j u)) Q E s):
  bK X f (rI C fun i j=>.int (g i j)):=by
 intro pins s σ H x y v u Q I rx ry h;obtain⟨i,j,rfl,rfl,hc,q⟩:=h;obtain⟨t,rfl⟩:=rx;obtain⟨t',rfl⟩:=ry;exact rule i j t t' s _ _ hc ⟨.int (g i j),H,I.tok _,⟨_,rfl⟩,q⟩
theorem wD {f:Value->Value->Sem Value}{g:Int->Int->Int}
  (rule:∀(i j:Int) (t u:Tok) (s:Shared) (Q:Value->Shared->Prop) (E:Value->Shared->Prop),Q (.int (g i j) s.toks) {s with toks:=s.toks + 1}->wpAny (model X.prog X.w) X.A (f (.int i t) (.int j u)) Q E s):
  bK X f (gU fun i j=>.int (g i j)):=by
 intro pins s σ H x y v u Q I rx ry h;obtain⟨i,j,rfl,rfl,q⟩:=h;obtain⟨t,rfl⟩:=rx;obtain⟨t',rfl⟩:=ry;exact rule i j t t' s _ _ ⟨.int (g i j),H,I.tok _,⟨_,rfl⟩,q⟩
theorem mz {f:Value->Value->Sem Value}{g:Int->Int->Bool}
  (rule:∀(i j:Int) (t u:Tok) (s:Shared) (Q:Value->Shared->Prop) (E:Value->Shared->Prop),Q (.bool (g i j)) s->wpAny (model X.prog X.w) X.A (f (.int i t) (.int j u)) Q E s):
  bK X f (gU fun i j=>.bl (g i j)):=by
 intro pins s σ H x y v u Q I rx ry h;obtain⟨i,j,rfl,rfl,q⟩:=h;obtain⟨t,rfl⟩:=rx;obtain⟨t',rfl⟩:=ry;exact rule i j t t' s _ _ ⟨.bl (g i j),H,I,rfl,q⟩
def uG (i j:Int):Prop:=0<j/\j<1073741824
def oG (i j:Int):Prop:=0<=j/\j<=1000000/\i.natAbs<2 ^ 64
def lD (i j:Int):Prop:=(-(2 ^ 64)<i/\i<2 ^ 64)\/(-(2 ^ 64)<j/\j<2 ^ 64)
theorem lD.ok (h:lD i j):IntMulOk i j:=by
 rcases h with⟨h1,h2⟩ |⟨h1,h2⟩
 ·exact .of_left (intBits_le_64 h1 h2)
 ·exact .of_right (intBits_le_64 h1 h2)
theorem Wn:bK X (binaryOp .Add) (gU fun i j=>.int (i + j)):=wD fun _ _ _ _ _ _ _ q=>add_int q
theorem zQ:bK X (binaryOp .Sub) (gU fun i j=>.int (i - j)):=wD fun _ _ _ _ _ _ _ q=>sub_int q
theorem mC:bK X (binaryOp .FloorDiv) (rI uG fun i j=>.int (i / j)):=wC fun i j _ _ _ _ _ hc q=>by
 have h1:(0:Int)<j:=hc.1;have h2:j<1073741824:=hc.2;exact floordiv_int (by omega) (by rw[xcI i (by omega)];exact q) (.inl (PyProof.noPylong_small (by omega)))
theorem cX:bK X (binaryOp .Mod) (rI (fun _ j=>0<j) fun i j=>.int (i % j)):=wC fun i j _ _ _ _ _ hc q=>by
 have h1:(0:Int)<j:=hc;exact mod_int' (by omega) (by rw[Int.fmod_eq_emod_of_nonneg i (by omega)];exact q)
theorem pZ:bK X (binaryOp .Pow) (rI oG fun i j=>.int (i ^ j.toNat)):=wC fun _ _ _ _ _ _ _ hc q=>pow_int_small hc.1 hc.2.1 hc.2.2 q
theorem unI {f:Value->Sem Value}{g:Int->Int}
  (rule:∀(i:Int) (t:Tok) (s:Shared) (Q:Value->Shared->Prop) (E:Value->Shared->Prop),Q (.int (g i) s.toks) {s with toks:=s.toks + 1}->wpAny (model X.prog X.w) X.A (f (.int i t)) Q E s):
  yF X f (rU fun i=>.int (g i)):=by
 intro pins s σ H x v Q I rx h;obtain⟨i,rfl,q⟩:=h;obtain⟨t,rfl⟩:=rx;exact rule i t s _ _ ⟨.int (g i),H,I.tok _,⟨_,rfl⟩,q⟩
theorem gJ:yF X (unaryOp .USub) (rU fun i=>.int (-i)):=unI fun _ _ _ _ _ q=>neg_int q
end
noncomputable def mU:V->V->Bool
 |.non,.non=>true |.non,.int _=>true |.int _,.non=>true |.non,.bl _=>true |.bl _,.non=>true |.non,.str _=>true |.str _,.non=>true
 |.int _,.int _=>true |.bl _,.bl _=>true |.str _,.str _=>true |.byt _,.byt _=>true
 |.int _,.str _=>true |.str _,.int _=>true |.bl _,.str _=>true |.str _,.bl _=>true
 |_,_=>false
def Zt:R2:=fun x y H Q=>mU x y=true/\Q (.bl (decide (x=y))) H
def Zu:R2:=fun x y H Q=>mU x y=true/\Q (.bl (!decide (x=y))) H
theorem JW:decide (V.int i=V.int j)=(i==j):=by
 rw[xa5]
 simp
theorem yZ:decide (V.bl i=V.bl j)=(i==j):=by
 rw[xa5]
 simp
theorem JX:decide (V.str i=V.str j)=(i==j):=by
 rw[xa5]
 simp
theorem JV:decide (V.byt i=V.byt j)=(i.toList==j.toList):=by
 rw[xa5];cases i;cases j
 simp
section
variable {X:Cx}{a b c:Expr}{ta tb tc:TE}{pos:Pos}
theorem bG (I:Inv X pins σ H s)(q:Q (.bl k) H)(e:k=k'):EP X pins σ Q (.bool k') s:=by
 subst e;exact⟨.bl k,H,I,rfl,q⟩
theorem Wr:bK X (compareOp .Eq) Zt:=by
  intro pins s σ H x y v u Q I rx ry h;obtain⟨hs,q⟩:=h
  cases x with
  |non=>
    cases rx
    cases y with
    |non=>cases ry;exact PySem.EqNone.eq_none_none (bG I q (by simp))
    |bl j=>cases ry;exact PySem.EqNone.eq_none_bool (bG I q (by simp))
    |int j=>obtain⟨t',rfl⟩:=ry;exact PySem.EqNone.eq_none_int (bG I q (by simp))
    |str j=>obtain⟨t',rfl⟩:=ry;exact PySem.EqNone.eq_none_str (bG I q (by simp))
    |_=>exact absurd (show false=true from hs) xaq
  |bl i=>
    cases rx
    cases y with
    |non=>cases ry;exact PySem.EqNone.eq_bool_none (bG I q (by simp))
    |bl j=>cases ry;exact eq_bool (bG I q yZ)
    |str j=>obtain⟨t',rfl⟩:=ry;exact PySem.EqMixed.eq_bool_str (bG I q (by simp))
    |_=>exact absurd (show false=true from hs) xaq
  |int i=>
    obtain⟨t,rfl⟩:=rx
    cases y with
    |non=>cases ry;exact PySem.EqNone.eq_int_none (bG I q (by simp))
    |int j=>obtain⟨t',rfl⟩:=ry;exact eq_int (bG I q JW)
    |str j=>obtain⟨t',rfl⟩:=ry;exact PySem.EqMixed.eq_int_str (bG I q (by simp))
    |_=>exact absurd (show false=true from hs) xaq
  |str i=>
    obtain⟨t,rfl⟩:=rx
    cases y with
    |non=>cases ry;exact PySem.EqNone.eq_str_none (bG I q (by simp))
    |bl j=>cases ry;exact PySem.EqMixed.eq_str_bool (bG I q (by simp))
    |int j=>obtain⟨t',rfl⟩:=ry;exact PySem.EqMixed.eq_str_int (bG I q (by simp))
    |str j=>obtain⟨t',rfl⟩:=ry;exact eq_str (bG I q JX)
    |_=>exact absurd (show false=true from hs) xaq
  |byt i=>
    obtain⟨t,rfl⟩:=rx
    cases y with
    |byt j=>obtain⟨t',rfl⟩:=ry;exact PySem.W.eq_bytes (bG I q JV)
    |_=>exact absurd (show false=true from hs) xaq
  |_=>cases y<;>exact absurd (show false=true from hs) xaq
theorem WR:bK X (compareOp .NotEq) Zu:=by
  intro pins s σ H x y v u Q I rx ry h;obtain⟨hs,q⟩:=h
  cases x with
  |non=>
    cases rx
    cases y with
    |non=>cases ry;exact PySem.EqNone.ne_none_none (bG I q (by simp))
    |bl j=>cases ry;exact PySem.EqNone.ne_none_bool (bG I q (by simp))
    |int j=>obtain⟨t',rfl⟩:=ry;exact PySem.EqNone.ne_none_int (bG I q (by simp))
    |str j=>obtain⟨t',rfl⟩:=ry;exact PySem.EqNone.ne_none_str (bG I q (by simp))
    |_=>exact absurd (show false=true from hs) xaq
  |bl i=>
    cases rx
    cases y with
    |non=>cases ry;exact PySem.EqNone.ne_bool_none (bG I q (by simp))
    |bl j=>cases ry;exact ne_bool (bG I q (congrArg not yZ))
    |str j=>obtain⟨t',rfl⟩:=ry;exact PySem.EqMixed.ne_bool_str (bG I q (by simp))
    |_=>exact absurd (show false=true from hs) xaq
  |int i=>
    obtain⟨t,rfl⟩:=rx
    cases y with
    |non=>cases ry;exact PySem.EqNone.ne_int_none (bG I q (by simp))
    |int j=>obtain⟨t',rfl⟩:=ry;exact ne_int (bG I q (congrArg not JW))
    |str j=>obtain⟨t',rfl⟩:=ry;exact PySem.EqMixed.ne_int_str (bG I q (by simp))
    |_=>exact absurd (show false=true from hs) xaq
  |str i=>
    obtain⟨t,rfl⟩:=rx
    cases y with
    |non=>cases ry;exact PySem.EqNone.ne_str_none (bG I q (by simp))
    |bl j=>cases ry;exact PySem.EqMixed.ne_str_bool (bG I q (by simp))
    |int j=>obtain⟨t',rfl⟩:=ry;exact PySem.EqMixed.ne_str_int (bG I q (by simp))
    |str j=>obtain⟨t',rfl⟩:=ry;exact ne_str (bG I q (congrArg not JX))
    |_=>exact absurd (show false=true from hs) xaq
  |byt i=>
    obtain⟨t,rfl⟩:=rx
    cases y with
    |byt j=>obtain⟨t',rfl⟩:=ry;exact PySem.W.ne_bytes (bG I q (congrArg not JV))
    |_=>exact absurd (show false=true from hs) xaq
  |_=>cases y<;>exact absurd (show false=true from hs) xaq
theorem WQ:bK X (compareOp .Lt) (gU fun i j=>.bl (decide (i<j))):=mz fun _ _ _ _ _ _ _ q=>lt_int q
theorem WM:bK X (compareOp .LtE) (gU fun i j=>.bl (decide (i<=j))):=mz fun _ _ _ _ _ _ _ q=>le_int q
theorem Wv:bK X (compareOp .Gt) (gU fun i j=>.bl (decide (j<i))):=mz fun _ _ _ _ _ _ _ q=>gt_int q
theorem Wu:bK X (compareOp .GtE) (gU fun i j=>.bl (decide (j<=i))):=mz fun _ _ _ _ _ _ _ q=>ge_int q
theorem Wy:bK X (compareOp .In) (fun x y H Q=>∃i j,x=.str i/\y=.str j/\Q (.bl (!(Builtin.Str.occurrences j i 0 j.length 1).isEmpty)) H):=by
 intro pins s σ H x y v u Q I rx ry h;obtain⟨i,j,rfl,rfl,q⟩:=h;obtain⟨t,rfl⟩:=rx;obtain⟨t',rfl⟩:=ry;exact in_str (bG I q rfl)
theorem WK:bK X (compareOp .Is) (fun x y H Q=>y=.non/\Q (.bl (decide (x=.non))) H):=by
 intro pins s σ H x y v u Q I rx ry h;obtain⟨rfl,q⟩:=h;cases ry;refine is_none_gen (bG I q ?_);cases x<;>first
  |(cases rx;rfl)
  |(obtain⟨t,rfl⟩:=rx;rfl)
theorem WX:bK X (compareOp .IsNot) (fun x y H Q=>y=.non/\Q (.bl (!decide (x=.non))) H):=by
 intro pins s σ H x y v u Q I rx ry h;obtain⟨rfl,q⟩:=h;cases ry;refine isnot_none_gen (bG I q ?_);cases x<;>first
  |(cases rx;rfl)
  |(obtain⟨t,rfl⟩:=rx;rfl)
theorem WY:bK X (compareOp .NotIn) (fun x y H Q=>∃i j,x=.str i/\y=.str j/\Q (.bl (!(!(Builtin.Str.occurrences j i 0 j.length 1).isEmpty))) H):=by
 intro pins s σ H x y v u Q I rx ry h;obtain⟨i,j,rfl,rfl,q⟩:=h;obtain⟨t,rfl⟩:=rx;obtain⟨t',rfl⟩:=ry;exact notIn_str (bG I q rfl)
theorem bK.or (h:bK X f r)(h':bK X f r'):bK X f (fun x y H Q=>r x y H Q\/r' x y H Q):=by
 intro pins s σ H x y v u Q I rx ry q;rcases q with q |q
 ·exact h pins s σ H x y v u Q I rx ry q
 ·exact h' pins s σ H x y v u Q I rx ry q
theorem W_ {op:CmpOp}{r:R2}(ho:bK X (compareOp op) r)(ha:PE X a ta)(hb:PE X b tb)(hm:behindInMarks op b=false):PE X (.Compare a [op] [b] pos) (xR r ta tb):=by
 intro pins s σ H Q I h;exact wpAny_Compare1 (oW ha hb I h fun v u s2 x y H2 I2 rx ry q=>ho pins s2 σ H2 x y v u Q I2 rx ry q) hm
noncomputable def O7 (t:TE):TT:=fun σ H Q=>t σ H fun x H'=>∃k,x=.bl k/\Q k H'
theorem Yh (ho:bK X (compareOp op) r)(ha:PE X a ta)(hb:PE X b tb)(hm:behindInMarks op b=false):PT X (.Compare a [op] [b] pos) (O7 (xR r ta tb)):=by
 intro pins s σ H Q I h;refine wpAny_isTrue_Compare1 (aL (ha pins s σ H _ I h) fun v s1 ⟨x,H1,I1,r1,q1⟩=>aL (hb pins s1 σ H1 _ I1 q1) fun u s2 ⟨y,H2,I2,r2,q2⟩=>
  aL (ho pins s2 σ H2 x y v u _ I2 r1 r2 q2) fun c s3 ⟨z,H3,I3,r3,k,e,q3⟩=>?_) hm
 subst e;cases r3;exact xbj ⟨H3,I3,q3⟩
noncomputable def O5 (r r':R2) (ta tb tc:TE):TE:=fun σ H Q=>ta σ H fun x H1=>tb σ H1 fun y H2=>r x y H2 fun z H3=>∃k,z=.bl k/\
 (if k=true then tc σ H3 fun w' H4=>r' y w' H4 Q else Q (.bl false) H3)
theorem W9 (ho:bK X (compareOp op) r)(ho':bK X (compareOp op') r')(ha:PE X a ta)(hb:PE X b tb)(hc:PE X c tc)
  (hm:lastMarks [op,op'] [b,c]=false:=by with_unfolding_all rfl):PE X (.Compare a [op,op'] [b,c] pos) (O5 r r' ta tb tc):=by
 intro pins s σ H Q I h;refine Compare_chain (aL (ha pins s σ H _ I h) fun v s1 ⟨x, H1, I1, r1, q1⟩ => chain_link (aL (hb pins s1 σ H1 _ I1 q1) fun u s2 ⟨y,H2,I2,r2,q2⟩=>
  aL (ho pins s2 σ H2 x y v u _ I2 r1 r2 q2) fun d s3 ⟨z,H3,I3,r3,k,e,q3⟩=>?_)) hm
 subst e;cases r3;refine xbj ?_
 cases k with
 |false=>exact ite_ff ⟨.bl false,H3,I3,rfl,q3⟩
 |true=>exact ite_tt (chain_last (aL (hc pins s3 σ H3 _ I3 q3) fun w' s4 ⟨z',H4,I4,r4,q4⟩=>ho' pins s4 σ H4 y z' u w' Q I4 r2 r4 q4))
def lG (K:Fgx)(x:V)(H:Hp)(k:Bool):Prop:=
 match x with
 |.non=>k=false
 |.bl b=>k=b
 |.int i=>k=(i !=0)
 |.str y=>y.length<=sizeLine/\k=((y.length:Int) !=0)
 |.byt y=>y.size<=sizeLine/\k=((y.size:Int) !=0)
 |.ref p=>(∃xs,bI K H p xs/\k= !xs.isEmpty)\/(∃xs,dJ K H p xs/\k= !xs.isEmpty)\/∃kvs,H p=some (.dK kvs)/\k= !kvs.isEmpty
 |_=>False
theorem TV (r:KV kvs vs):(!vs.isEmpty)= !kvs.isEmpty:=by
 cases r<;>rfl
theorem Kz (r:Vals xs its):(!its.toArray.isEmpty)= !xs.isEmpty:=by
 cases r<;>simp
theorem pR:(sizeLine:Nat)<2 ^ 63:=by rw[xaw];decide
theorem Pn:Ca X (fun x H Q=>∃k,lG X.K x H k/\Q k H):=by
  intro pins s σ H x v Q I rx h;obtain⟨k,e,q⟩:=h;have hl:=pR;have hs:sizeLine=16777216:=xaw
  cases x with
  |non=>
    cases rx;have e':k=false:=e;subst e';exact truthy_none ⟨H,I,q⟩
  |bl b=>
    cases rx;have e':k=b:=e;subst e';exact xbj ⟨H,I,q⟩
  |int i=>
    obtain⟨t,rfl⟩:=rx;have e':k=(i !=0):=e;subst e';exact PySem.P.truthy_int ⟨H,I,q⟩
  |str y=>
    obtain⟨t,rfl⟩:=rx;obtain⟨hy,e'⟩:y.length<=sizeLine/\k=((y.length:Int) !=0):=e;subst e';exact PySem.P.truthy_str (by omega) ⟨H,I.tok _,q⟩
  |byt y=>
    obtain⟨t,rfl⟩:=rx;obtain⟨hy,e'⟩:y.size<=sizeLine/\k=((y.size:Int) !=0):=e;subst e';exact PySem.W.truthy_bytes (by omega) ⟨H,I.tok _,q⟩
  |ref p=>
    cases rx;have e':(∃xs,bI X.K H p xs/\k= !xs.isEmpty)\/(∃xs,dJ X.K H p xs/\k= !xs.isEmpty)\/∃kvs,H p=some (.dK kvs)/\k= !kvs.isEmpty:=e;rcases e' with⟨xs,hx,e'⟩ |⟨xs,hx,e'⟩ |⟨kvs,hx,e'⟩
    · subst e';obtain⟨its,r,pl,hz⟩:=I.list hx;have hlen:=r.length;exact wpAny_truthy_list pl.isList (by simp only[xak];omega) ⟨H,I.tok _,by rw[Kz r];exact q⟩
    · subst e';obtain⟨its,r,pl,hz⟩:=I.tuple hx;have hlen:=r.length;exact truthy_tuple pl (by simp only[xak];omega) ⟨H,I.tok _,by rw[Kz r];exact q⟩
    · subst e';obtain⟨hz,hS,vs,r,m⟩:kvs.length<=sizeLine/\(p==sysModules)=false/\∃vs,KV kvs vs/\s.heap.DictOf (dZ X.prog X.w) p vs:=I.hok p _ hx;have hlen:kvs.length=vs.length:=xcG r;exact wpAny_truthy_dict hS m (by omega) ⟨H,I.tok _,by rw[TV r];exact q⟩
  |_=>exact(show False from e).elim
theorem Yk (ha:PE X a ta)(he:∀whole,isTrue a X.env whole=(do let v <-whole;standAt a.pos;holding [v] (truthy v))):
  PT X a (fun σ H Q=>ta σ H fun x H'=>∃k,lG X.K x H' k/\Q k H'):=by
 intro pins s σ H Q I h;exact isTrue_plain (aL (ha pins s σ H _ I h) fun v s1 ⟨x,H1,I1,r1,q1⟩=>Pn pins s1 σ H1 x v Q I1 r1 q1) (he _)
theorem Wo:bK X (binaryOp .Add) (fun x y H Q=>∃i j,x=.str i/\y=.str j/\i.length + j.length<=sizeLine/\Q (.str (i ++ j)) H):=by
 intro pins s σ H x y v u Q I rx ry h;obtain⟨i,j,rfl,rfl,hz,q⟩:=h;obtain⟨t,rfl⟩:=rx;obtain⟨t',rfl⟩:=ry;exact add_str (fun t' tk=>⟨.str (i ++ j),H,I.tok _,⟨_,rfl⟩,q⟩) hz
theorem vals1 (r:Vals [x] us):∃u,us=[u]/\RelV x u:=by
 cases r with
 |cons r1 r2=>cases r2;exact⟨_,rfl,r1⟩
theorem vals2 (r:Vals [x,y] us):∃u w',us=[u,w']/\RelV x u/\RelV y w':=by
  cases r with
  |cons r1 r2=>
    cases r2 with
    |cons r3 r4=>cases r4;exact⟨_,_,rfl,r1,r3⟩
theorem QS (hc:X.calm=true):dU X (.builtin "max") (fun xs H Q=>∃i j,xs=[.int i,.int j]/\Q (.int (if j > i then j else i)) H):=by
 intro pins s σ H xs us Q I r h;obtain⟨i,j,rfl,q⟩:=h;obtain⟨u,w',rfl,⟨t,rfl⟩,⟨t',rfl⟩⟩:=vals2 r;refine max_two_ints (I.ok.hd hc) fun h' tk k=>⟨_,H,I.kept k,?_,q⟩
 by_cases hj:j > i
 ·rw[xac hj,xac hj];exact⟨_,rfl⟩
 ·rw[xag hj,xag hj];exact⟨_,rfl⟩
theorem CW:dU X (.type "str") (fun xs H Q=>∃i,xs=[.int i]/\i.natAbs.log2<1920/\Q (.str (toString i)) H):=by
 intro pins s σ H xs us Q I r h;obtain⟨i,rfl,hz,q⟩:=h;obtain⟨u,rfl,t,rfl⟩:=vals1 r;exact PySem.P.str_of_int hz ⟨.str _,H,I.tok _,⟨_,rfl⟩,q⟩
end
structure ObjM (h:Heap)(x dx C:Addr)(mA:Mgx):Prop where
 obj:h.get? x=some (PySem.W.instObj C dx)
 ns:h.Ns1 dx mA
 ne:dx≠x
theorem Fl {h:Heap}{dx:Addr}{mA:Mgx}(n:h.Ns1 dx mA):∃od,h.get? dx=some od/\∀name,PySem.W.lookIn name od=some (mA name):=by
 obtain⟨o,es,ep,ho,hd,hk,_,hm⟩:=n;refine⟨o,ho,fun name=>?_⟩;have e:=hm name;unfold nsFind findBy at e;rw[<-xcC]at e;unfold PySem.W.lookIn;rw[hd];dsimp only
 split
 ·rename_i y q;rw[q]at e;exact congrArg some e
 ·rename_i q;rw[q]at e;have a:es.toList.any (·.refKey)=false:=by
   rw[List.any_eq_false];intro y hy;obtain⟨z,t,hkey⟩:=hk y (Array.mem_toList_iff.mp hy)
   simp[DictEntry.refKey,hkey]
  have a':¬ es.toList.any (·.refKey)=true:=by rw[a];exact xaq
  rw[xag a'];exact congrArg some e
theorem ObjM.look (I:ObjM h x dx C mA):∃od,PySem.W.InstAt h x (PySem.W.instObj C dx) C (some od)/\∀name,PySem.W.lookIn name od=some (mA name):=
 let ⟨od,ho,hl⟩:=Fl I.ns
 ⟨od,⟨I.obj,rfl,rfl,ho⟩,hl⟩
theorem cN.some_of (r:cN (some v) o):∃u,o=some u/\RelV v u:=by
 cases o with
 |none=>exact(show False from r).elim
 |some u=>exact⟨u,rfl,r⟩
theorem S_ (r:RelV v u):PySem.W.handedIn u=true:=by
 cases v with
 |non=>cases (show u=Value.none from r);rfl
 |bl b=>cases (show u=Value.bool b from r);rfl
 |int i=>obtain⟨t,e⟩:=(show ∃t,u=Value.int i t from r);cases e;rfl
 |str x=>obtain⟨t,e⟩:=(show ∃t,u=Value.str x t from r);cases e;rfl
 |byt b=>obtain⟨t,e⟩:=(show ∃t,u=Value.bytes b t from r);cases e;rfl
 |flt b=>obtain⟨t,e⟩:=(show ∃t,u=Value.float b t from r);cases e;rfl
 |ref a=>cases (show u=Value.ref a from r);rfl
 |ty n=>cases (show u=Value.type n from r);rfl
section
variable {P:Program}{w:World}{H H':Hp}{h h':Heap}{a C dx:Addr}{fs fs':List (Str×V)}
theorem Tr (hok:cC P w H h)(e:H a=some (.ins C dx fs)):∃mA,ObjM h a dx C mA/\(∀f,cN (fs.lookup f) (mA f))/\PySem.Within mA (fs.map (·.1))/\fs.length<=1000/\H dx=some (.own a):=by
 obtain⟨d,z,ne,ob,mA,n,r,q⟩:=(show cG P w H h a (.ins C dx fs) from hok a _ e);exact⟨mA,⟨ob,n,ne⟩,r,q,z,d⟩
end
structure Cls (K:Fgx)(C:Addr):Prop where
 pg:PySem.W.plainGet K C Str.empty=true
 hd:PySem.W.hasDictIn K C=true
 po:PySem.W.plainOver K C=true
 sa:PySem.W.findIn K (.ref C) "__setattr__"=some (some (.builtin "object.__setattr__"))
theorem Cls.get {K:Fgx}{C:Addr}(c:Cls K C)(f:Str):PySem.W.plainGet K C f=true:=c.pg
structure Con (K:Fgx)(C:Addr)(f:Str)(v:V)(u:Value):Prop where
 at_:PySem.W.findIn K (.ref C) f=some (some u)
 rel:RelV v u
 get:PySem.W.specialIn K u "__get__"=some none
 cp:PySem.W.copiedNames.contains f=false
structure Meth (K:Fgx)(C:Addr)(m:Str)(f:Addr):Prop where
 at_:PySem.W.findIn K (.ref C) m=some (some (.ref f))
 fn:PySem.W.isFn K (.ref f)=true
 kp:PySem.W.keepIn K (.ref f)=true
section
variable {X:Cx}{pins:Pnx}{σ:St}{H:Hp}{s:Shared}{a C dx:Addr}{fs:List (Str×V)}{f:Str}{v:V}{A:Around}{E:Value->Shared->Prop}
theorem Qp (hb:attributeBase e f env (eval e env)=eval e env)
  (h:wpAny (model prog w) A (eval e env) (fun o s₁=>wpAny (model prog w) A (getAttr o f true) Q E s₁) E s):wpAny (model prog w) A (eval (.Attribute e f pos) env) Q E s:=
 Attribute_any_ h (by rw[arm_eval_Attribute,hb])
end
section
variable {X:Cx}{o e value:Expr}{f:Str}{pos pos' tpos:Pos}{ta tv:TE}
noncomputable def rF:V->V->Hp->VK->Prop:=fun x y H Q=>∃i j,x=.int i/\y=.int j/\Q (.int (i + j)) H
end
section
variable {X:Cx}{pins:Pnx}{σ:St}{H:Hp}{s:Shared}{A:Around}{E:Value->Shared->Prop}{Q:Value->Shared->Prop}{c:Value}{b:Bool}
inductive TyOf (K:Fgx)(H:Hp):V->Value->Prop where
 |non:TyOf K H .non (.type "NoneType")
 |bl (x:Bool):TyOf K H (.bl x) (.type "bool")
 |int (i:Int):TyOf K H (.int i) (.type "int")
 |str (x:Str):TyOf K H (.str x) (.type "str")
 |flt (x:UInt64):TyOf K H (.flt x) (.type "float")
 |lst {a:Addr} {xs:List V} (e:H a=some (.lst xs)):TyOf K H (.ref a) (.type "list")
 |frz {a:Addr} {o:Obj} {xs:List V} (e:H a=some (.frz o (.lst xs))):TyOf K H (.ref a) (.type "list")
 |tup {a:Addr} {xs:List V} (e:H a=some (.tup xs)):TyOf K H (.ref a) (.type "tuple")
 |dK {a:Addr} {kvs:List (Key×V)} (e:H a=some (.dK kvs)):TyOf K H (.ref a) (.type "dict")
 |dT {a:Addr} {kvs:List (List Key×V)} (e:H a=some (.dT kvs)):TyOf K H (.ref a) (.type "dict")
 |ins {a C dx:Addr} {fs:List (Str×V)} (e:H a=some (.ins C dx fs)) (cl:Cls K C) (ha:PySem.W.findIn K (.ref C) "__class__"=some (some (.builtin "object.__class__")))
   (hn:PySem.W.specialIn K (.builtin "object.__class__") "__get__"=some (some (.builtin "getset_descriptor.__get__"))) (htk:PySem.W.takesIn K (.builtin "object.__class__")=some true)
   (hm:PySem.W.mroIn K C (.type "object")=some true):TyOf K H (.ref a) (.ref C)
theorem zB (I:Inv X pins σ H s)(rx:RelV x u)(ty:TyOf X.K H x t)(e:PySem.W.kitOne X.K t c=some b)(h:∀tk,Q (.bool b) {s with toks:=tk}):
    wpAny (model X.prog X.w) A (call (.builtin "isinstance") [u,c]) Q E s:=by
  cases ty with
  |non=>cases (show u=Value.none from rx);exact xaF PySem.W.kitx_none I.kIn True.intro e (fun z=>nomatch z) h
  |bl y=>cases (show u=Value.bool y from rx);exact xaF PySem.W.kitx_bool I.kIn True.intro e (fun z=>nomatch z) h
  |int i=>obtain⟨t,q⟩:=(show ∃t,u=Value.int i t from rx);cases q;exact xaF PySem.W.kitx_int I.kIn True.intro e (fun z=>nomatch z) h
  |str y=>obtain⟨t,q⟩:=(show ∃t,u=Value.str y t from rx);cases q;exact xaF PySem.W.kitx_str I.kIn True.intro e (fun z=>nomatch z) h
  |flt y=>obtain⟨t,q⟩:=(show ∃t,u=Value.float y t from rx);cases q;exact xaF PySem.W.kitx_float I.kIn True.intro e (fun z=>nomatch z) h
  | @lst a xs ea=>
    cases (show u=Value.ref a from rx);obtain⟨_,_,n,_,h1⟩:=(show cG X.prog X.w H s.heap a (.lst xs) from I.hok a _ ea);exact xaF xcK I.kIn ⟨_,h1,rfl⟩ e (fun z=>nomatch z) h
  | @frz a ob xs ea=>
    cases (show u=Value.ref a from rx);obtain⟨_,_,_,n,_,h1⟩:=(show cG X.prog X.w H s.heap a (.frz ob (.lst xs)) from I.hok a _ ea);exact xaF xcK I.kIn ⟨_,h1,rfl⟩ e (fun z=>nomatch z) h
  | @tup a xs ea=>
    cases (show u=Value.ref a from rx);obtain⟨_,_,_,p⟩:=(show cG X.prog X.w H s.heap a (.tup xs) from I.hok a _ ea);obtain⟨o,h1,h2,_⟩:=p;exact xaF xds I.kIn ⟨o,h1,h2⟩ e (fun z=>nomatch z) h
  | @dK a kvs ea=>
    cases (show u=Value.ref a from rx);obtain⟨_,_,vs,_,p⟩:=(show cG X.prog X.w H s.heap a (.dK kvs) from I.hok a _ ea);obtain⟨o,es,ep,h1,h2,_⟩:=p;exact xaF xcL I.kIn ⟨o,h1,h2.1⟩ e (fun z=>nomatch z) h
  | @dT a kvs ea=>
    cases (show u=Value.ref a from rx);obtain⟨_,_,xs,_,o,es,ep,h1,h2,_⟩:=(show cG X.prog X.w H s.heap a (.dT kvs) from I.hok a _ ea);exact xaF xcL I.kIn ⟨o,h1,h2.1⟩ e (fun z=>nomatch z) h
  | @ins a C dx fs ea cl ha hn htk hm=>
    cases (show u=Value.ref a from rx);obtain⟨mA,O,_⟩:=Tr I.hok ea;obtain⟨od,J,_⟩:=O.look;exact xaF (PySem.W.kitx_own (cl.get _) cl.hd ha hn htk hm) I.kIn J e (fun z=>nomatch z) h
end
structure Room (k:Nat)(A:Around):Prop where
 hd:A.handled=none
 dp:A.depth + 3 * k + 5<recursionLimit
 un:A.units + 16 * k + 200<cLine
theorem Room.mono (r:Room k A)(h:j<=k):Room j A:=⟨r.hd,by have:=r.dp;omega,by have:=r.un;omega⟩
theorem Room.deeper (r:Room (k + 1) A)(env:Env):Room k (A.deeper env):=
 ⟨r.hd,by have:=r.dp;show A.depth + 1 + 3 * k + 5<_;omega,by have:=r.un;show A.units + 3 + 16 * k + 200<_;omega⟩
theorem Va {A:Around}{C:Addr}{us:List Value}{kw:List (Str×Value)}:(A.under (.builtin "type.__call__" ⟨.ref C::us,kw⟩)).depth=A.depth + 1:=by
 first |rfl |simp[Around.under,Code.weight,Code.isCreation,Code.isGuard,Code.isCaller,Code.frames,Code.isFrame,guardIds]
theorem Vb {A:Around}{C:Addr}{us:List Value}{kw:List (Str×Value)}:(A.under (.builtin "type.__call__" ⟨.ref C::us,kw⟩)).units=A.units + 1:=by
 first |rfl |simp[Around.under,Code.cUnits,Code.frames,Code.isFrame]
theorem Room.make (r:Room (k + 1) A)(C:Addr)(us:List Value)(kw:List (Str×Value)):Room k (A.under (.builtin "type.__call__" ⟨.ref C::us,kw⟩)):=
 ⟨r.hd,by have:=r.dp;rw[Va];omega,by have:=r.un;rw[Vb];omega⟩
theorem Room.depth (r:Room k A):A.depth<recursionLimit:=by have:=r.dp;omega
theorem Room.units (r:Room k A):A.units + 64<cLine:=by have:=r.un;omega
def HF:TA:=fun _ H Q=>Q [] H
noncomputable def zdb (ta:TE) (tr:TA):TA:=fun σ H Q=>ta σ H fun x H1=>tr σ H1 fun xs H2=>Q (x::xs) H2
section
variable {X:Cx}{e:Expr}{es:List Expr}{te:TE}{t:TA}{pos:Pos}
theorem iK:PA X [] HF:=fun _ _ _ _ H Q I h=>Calls.spliced_nil ⟨[],H,I,.nil,h⟩
theorem gj (ha:PE X e te)(hr:PA X es t)(hs:starEach (e::es) X.env=(false,eval e X.env)::starEach es X.env:=by rfl):PA X (e::es) (zdb te t):=by
 intro pos pins s σ H Q I h;rw[hs];show wpAny _ _ (spliced ((false,eval e X.env)::backTo pos (starEach es X.env))) _ _ s;refine xcD (aL (ha pins s σ H _ I h) fun u s1 ⟨x,H1,I1,r1,q1⟩=>?_);exact aL (hr pos pins s1 σ H1 _ I1 q1) fun us s2 ⟨xs,H2,I2,r2,q2⟩=>⟨x::xs,H2,I2,.cons r1 r2,q2⟩
noncomputable def HY (t:TA):TE:=fun σ H Q=>t σ H fun xs H1=>xs.length<=sizeLine/\∀p,H1 p=none->Q (.ref p) (upd H1 p (.tup xs))
noncomputable def HD (t:TA):TE:=fun σ H Q=>t σ H fun xs H1=>xs.length<=sizeLine/\∀p,H1 p=none->Q (.ref p) (upd H1 p (.lst xs))
theorem Xu {x1}(h:PA X es t):PE X (.Tuple es x1 pos) (HY t):=by
 intro pins s σ H Q I hq;refine wpAny_Tuple_spliced (aL (h pos pins s σ H _ I hq) fun us s1 ⟨xs,H1,I1,r,z,q⟩=>⟨by rw[<-r.length];exact z,?_⟩);have hf:H1 s1.heap.objs.size=none:=I1.hok.fresh (xaf _);refine⟨.ref s1.heap.objs.size,upd H1 s1.heap.objs.size (.tup xs),I1.laid (t':=s1.toks) (fun b u e=>xab _ e) (xaf _) ?_,rfl,q _ hf⟩;exact⟨z,us,r,⟨_,xau _ rfl,rfl,_,rfl⟩⟩
theorem Xj (h:PA X es t):PE X (.List es pos) (HD t):=by
 intro pins s σ H Q I hq;refine wpAny_List_spliced (aL (h pos pins s σ H _ I hq) fun us s1 ⟨xs,H1,I1,r,z,q⟩=>⟨by rw[<-r.length];exact z,?_⟩);have hf:H1 s1.heap.objs.size=none:=I1.hok.fresh (xaf _);refine⟨.ref s1.heap.objs.size,upd H1 s1.heap.objs.size (.lst xs),I1.laid (t':=s1.toks) (fun b u e=>xab _ e) (xaf _) ?_,rfl,q _ hf⟩;exact⟨z,us,0,r,xau _ rfl⟩
end
abbrev Sp:=List V->Hp->VK->XK->Prop
abbrev eV:=List Env->Hp->Shared->XK->Value->Shared->Prop
structure Env0 (P:Program)(w:World)(K:Fgx)(mg:Mgx)(base:Heap)(A:Around)(outer:List Env)(s:Shared)(H:Hp):Prop where
 frames:A.frames=some outer
 mod:Mod K mg base
 bs:∀b o,base.get? b=some o->s.heap.get? b=some o/\H b=none
 bsz:base.objs.size<=s.heap.objs.size
 funs:s.heap.FunFrames base outer
 frf:∀b∈frs outer,H b=none
 hok:cC P w H s.heap
 bare:AllBare s.gens
def CE (outer:List Env)(P:Program)(w:World)(H:Hp)(s:Shared)(Q:VK)(u:Value)(s':Shared):Prop:=
 ∃v H',s'.os=s.os/\AllBare s'.gens/\Un (frs outer) [] H H' s.heap s'.heap/\cC P w H' s'.heap/\RelV v u/\Q v H'
def CR (CX:eV)(outer:List Env)(P:Program)(w:World)(H:Hp)(s:Shared)(Q:VK)(E:XK)(r:Result)(s':Shared):Prop:=
 match r with
 |.ok (.ret u)=>CE outer P w H s Q u s'
 |.ok _=>False
 |.error e=>CX outer H s E e s'
structure FnOk (P:Program)(w:World)(K:Fgx)(mg:Mgx)(base:Heap)(CX:eV)(k:Nat)(f:Addr)(fd:FuncData)(ps:List Str)(sp:Sp):Prop where
 len:∀vs H Q E,sp vs H Q E->vs.length=ps.length
 run:∀(A:Around) (outer:List Env) (s:Shared) (H:Hp) (args:Args) (us:List Value) (vs:List V) (Q:VK) (E:XK),Room k A->Env0 P w K mg base A outer s H->BindsTo s fd args (ps.zip us)->Vals vs us->sp vs H Q E->
  codeAny (model P w) A (.call (.ref f) args) (CR CX outer P w H s Q E) s
theorem FnOk.mono {P:Program}{w:World}{K:Fgx}{mg:Mgx}{base:Heap}{CX:eV}{j k:Nat}{f:Addr}{fd:FuncData}{ps:List Str}{sp:Sp}(F:FnOk P w K mg base CX j f fd ps sp)(h:j<=k):
  FnOk P w K mg base CX k f fd ps sp:=⟨F.len,fun A outer s H args us vs Q E hr=>F.run A outer s H args us vs Q E (hr.mono h)⟩
theorem Env0.make {P:Program}{w:World}{K:Fgx}{mg:Mgx}{base:Heap}{A:Around}{outer:List Env}{s:Shared}{H:Hp}(e:Env0 P w K mg base A outer s H)(C:Addr)(us:List Value)(kw:List (Str×Value)):
  Env0 P w K mg base (A.under (.builtin "type.__call__" ⟨.ref C::us,kw⟩)) outer s H:=⟨by first |exact e.frames |(simpa [Around.under,Code.envs,Code.isFrame,pushEnvs] using e.frames),e.mod,e.bs,e.bsz,e.funs,e.frf,e.hok,e.bare⟩
section
variable {X:Cx}{pins:Pnx}{σ:St}{H:Hp}{s s':Shared}
theorem Inv.env0 (I:Inv X pins σ H s):Env0 X.prog X.w X.K X.mg X.base X.A X.stack s H:=
 ⟨I.ok.frames,I.ok.mod,I.bs,xaD I.ok.bsz I.sz,I.stack,I.stkFree,I.hok,I.bare⟩
theorem Inv.after (I:Inv X pins σ H s)(h:CE X.stack X.prog X.w H s Q u s'):EP X pins σ Q u s':=by
 obtain⟨v,H',os,bare,un,hok,r,q⟩:=h;obtain⟨hh,g,d,t,os'⟩:=s';obtain rfl:os'=s.os:=os;exact⟨v,H',I.call (h':=hh) (g':=g) (d':=d) (t':=t) (ch:=[]) un hok bare (fun b z=>absurd z (by simp)),r,q⟩
end
noncomputable def zcG (sp:Sp) (dvs:List V) (E:XK) (t:TA):TE:=fun σ H Q=>t σ H fun vs H1=>sp (vs ++ dvs) H1 Q E
def Binds (K:Fgx)(fd:FuncData)(ps:List Str)(ds:List Value):Prop:=
 ∀(s:Shared) (us:List Value),K.In s.heap->(us ++ ds).length=ps.length->BindsTo s fd ⟨us,[]⟩ (ps.zip (us ++ ds))
theorem Binds.all {K:Fgx}{fd:FuncData}{ps:List Str}(h:∀us:List Value,us.length=ps.length->bindArgs fd ⟨us,[]⟩=pure (ps.zip us)):Binds K fd ps []:=fun s us _ hl=>by
 rw[xa4]at hl ⊢;exact .of_eq (h us hl)
def Passes (CX:eV)(X:Cx)(E:XK):Prop:=∀(pins:Pnx) (σ:St) (H:Hp) (s:Shared) (e:Value) (s':Shared),Inv X pins σ H s->CX X.stack H s E e s'->X.xe e s'
section
variable {X:Cx}{CX:eV}{k:Nat}{f C:Addr}{fd:FuncData}{ps:List Str}{sp:Sp}{dvs:List V}{ds:List Value}{E:XK}{x m:Str}{p pos apos:Pos}{e o:Expr}{es:List Expr}{ta:TE}{t:TA}
theorem zbK (F:FnOk X.prog X.w X.K X.mg X.base CX k f fd ps sp)(hr:Room k X.A)(hb:Binds X.K fd ps ds)(hd:Vals dvs ds)(hx:Passes CX X E)
    (I:Inv X pins σ H s) (r:Vals vs us) (h:sp (vs ++ dvs) H Q E):wpAny (model X.prog X.w) X.A (call (.ref f) us) (EP X pins σ Q) X.xe s:=by
  have r2:Vals (vs ++ dvs) (us ++ ds):=r.append hd;have hl:(us ++ ds).length=ps.length:=by rw[<-r2.length];exact F.len _ _ _ _ h
  refine xb8 (xb3 (F.run X.A X.stack s H ⟨us,[]⟩ (us ++ ds) (vs ++ dvs) Q E hr I.env0 (hb s us I.kIn hl) r2 h) fun r s' hq=>?_)
  cases r with
  |error e=>exact hx pins σ H s e s' I hq
  |ok fl=>
    cases fl with
    |ret u=>exact I.after hq
    |next=>exact False.elim hq
    |brk=>exact False.elim hq
    |cont=>exact False.elim hq
theorem W7 (F:FnOk X.prog X.w X.K X.mg X.base CX k f fd ps sp)(hr:Room k X.A)(hg:Gl X x)(hm:X.mg x=some (.ref f))(hk:PySem.W.keepIn X.K (.ref f)=true)(hb:Binds X.K fd ps ds)(hd:Vals dvs ds)(hx:Passes CX X E)
  (ha:PA X (e::es) t) (hdb:(x==("__debug__":Str))=false:=by decide) (he:starEach (e::es) X.env=(false,eval e X.env)::starEach es X.env:=by rfl) (hpl:(backTo pos (starEach es X.env)).any (·.1)=false:=by rfl):
  PE X (.Call (.Name x p) (e::es) [] pos) (zcG sp dvs E t):=by
 intro pins s σ H Q I h;refine xbn (nP I hg hm ?_ hdb);refine xb4 (h₀:=X.base) I.ok.mod.kin hk (aL (ha pos pins s σ H _ I h) fun us s1 ⟨vs,H1,I1,r,q⟩=>⟨I1.kIn,?_⟩) he hpl;exact zbK F hr hb hd hx I1 r q
structure Mk (K:Fgx)(C f:Addr):Prop where
 makes:PySem.W.makesIn K C=true
 init:PySem.W.findIn K (.ref C) "__init__"=some (some (.ref f))
 fn:PySem.W.isFn K (.ref f)=true
 kp:PySem.W.keepIn K (.ref C)=true
end
section
variable {X:Cx}{CX:eV}{k:Nat}{f C:Addr}{fd:FuncData}{ps ks:List Str}{sp:Sp}{E:XK}{x m:Str}{p pos apos kpos:Pos}{e o:Expr}{es:List Expr}{kws:List Keyword}{te ta:TE}{t tk:TA}{nm:Option Str}
structure KBinds (K:Fgx)(fd:FuncData)(ps ks:List Str)(g:List Value->List Value->List Value)(gV:List V->List V->List V):Prop where
 to:∀(s:Shared) (us ws:List Value),K.In s.heap->(g us ws).length=ps.length->BindsTo s fd ⟨us,ks.zip ws⟩ (ps.zip (g us ws))
 rel:∀{vs:List V} {us:List Value} {zs:List V} {ws:List Value},Vals vs us->Vals zs ws->Vals (gV vs zs) (g us ws)
variable {g:List Value->List Value->List Value}{gV:List V->List V->List V}
end
structure FnScope (N P:List Str)(sc:Scope):Prop where
 kind:sc.kind=.function
 co:sc.isCoroutine=false
 gen:sc.isGenerator=false
 nd:N.Nodup
 pre:N.take P.length=P
 par:∀x∈P,sc.names.lookup x=some .local\/sc.names.lookup x=some .cell
 nofree:∀y∈sc.names,y.2≠ .free
theorem Jk {kindOf:Str->Option NameKind}{x:Str}:∀{binds:List (Str×Value)} {m:Mgx},(∀v,(x,v)∉binds)->bindL kindOf binds m x=m x
  | [],_,_=>rfl
  |(n,v)::r,m,h=>by
    unfold bindL;rw[Jk fun w hw=>h w (xav _ hw)]
    split
    · have:x≠n:=by rintro rfl;exact h v xaA
      simp[this]
    · rfl
theorem Ji {kindOf:Str->Option NameKind}{x:Str}:∀{binds:List (Str×Value)} {m:Mgx},(∀v,(x,v)∉binds)->bindC kindOf binds m x=m x
  | [],_,_=>rfl
  |(n,v)::r,m,h=>by
    unfold bindC;rw[Ji fun w hw=>h w (xav _ hw)]
    split
    · rfl
    · have:x≠n:=by rintro rfl;exact h v xaA
      simp[this]
theorem Jj {kindOf:Str->Option NameKind}{x:Str}{v:Value}:∀{P:List Str} {vs:List Value} {i:Nat} {m:Mgx},P.Nodup->P[i]? =some x->vs[i]? =some v->kindOf x=some .local->
    bindL kindOf (P.zip vs) m x=some v
  | [],_,_,_,_,h,_,_=>by simp at h
  |_::_,[],_,_,_,_,h,_=>by simp at h
  |p::P,w::vs,0,m,nd,h1,h2,hk=>by
    simp at h1 h2;subst h1;subst h2
    show bindL kindOf ((p,w)::P.zip vs) m p=_;unfold bindL;rw[Jk fun v hv=>(xbF.mp nd).1 (xc6 hv).1,xac hk]
    simp
  |p::P,w::vs,i + 1,m,nd,h1,h2,hk=>by
    show bindL kindOf ((p,w)::P.zip vs) m x=_;unfold bindL;exact Jj (i:=i) (xbF.mp nd).2 (by simpa using h1) (by simpa using h2) hk
theorem Jh {kindOf:Str->Option NameKind}{x:Str}{v:Value}:∀{P:List Str} {vs:List Value} {i:Nat} {m:Mgx},P.Nodup->P[i]? =some x->vs[i]? =some v->kindOf x≠some .local->
    bindC kindOf (P.zip vs) m x=some v
  | [],_,_,_,_,h,_,_=>by simp at h
  |_::_,[],_,_,_,_,h,_=>by simp at h
  |p::P,w::vs,0,m,nd,h1,h2,hk=>by
    simp at h1 h2;subst h1;subst h2
    show bindC kindOf ((p,w)::P.zip vs) m p=_;unfold bindC;rw[Ji fun v hv=>(xbF.mp nd).1 (xc6 hv).1,xag hk]
    simp
  |p::P,w::vs,i + 1,m,nd,h1,h2,hk=>by
    show bindC kindOf ((p,w)::P.zip vs) m x=_;unfold bindC;exact Jh (i:=i) (xbF.mp nd).2 (by simpa using h1) (by simpa using h2) hk
noncomputable def start (N:List Str) (vs:List V):St:=vs.map some ++ List.replicate (N.length - vs.length) none
noncomputable def cU (CX:eV) (P:Program) (w:World) (K:Fgx) (mg:Mgx) (base:Heap) (N:List Str) (qual:Str) (scope:Scope) (f:Addr) (cd:Value) (A:Around) (outer:List Env) (s:Shared) (H:Hp) (E:XK):Cx where
 prog:=P
 w:=w
 K:=K
 mg:=mg
 base:=base
 A:=A.deeper (envOfC qual scope s.heap.objs.size f cd)
 N:=N
 s₀:=s
 H₀:=H
 env:=envOfC qual scope s.heap.objs.size f cd
 outer:=outer
 stack:=envOfC qual scope s.heap.objs.size f cd::outer
 ex:=[]
 calm:=true
 fn:=fun _=>true
 pn:=[]
 xe:=fun e s'=>wpAny (model P w) (A.deeper (envOfC qual scope s.heap.objs.size f cd)) (leaving (envOfC qual scope s.heap.objs.size f cd) e) (fun _ s''=>CX outer H s E e s'') (fun e' s''=>CX outer H s E e' s'') s'
theorem Jx {sc:Scope}{n:Nat}{x:Str}(h:sc.names.lookup x=some .cell):∃c,(cellsFrom n sc.names []).lookup x=some c:=by
 have q:=xc9 sc.names n [] (.inl h);exact xcQ.mp q
theorem Tz {CX:eV}{P:Program}{w:World}{K:Fgx}{mg:Mgx}{base:Heap}{N ps:List Str}{qual:Str}{scope:Scope}{f:Addr}{cd:Value}{A:Around}{outer:List Env}{s s1:Shared}{H:Hp}{E:XK}{us:List Value}{vs:List V}
  (S:FnScope N ps scope) (hd:A.handled=none) (e0:Env0 P w K mg base A outer s H) (hl:vs.length=ps.length) (r:Vals vs us)
  (x:InCallC s s.heap.objs.size (bindL (envOfC qual scope s.heap.objs.size f cd).kindOf (ps.zip us) fun _=>none) (cellsFrom (s.heap.objs.size + 1) scope.names []) (bindC (envOfC qual scope s.heap.objs.size f cd).kindOf (ps.zip us) fun _=>none) s1):
  Inv (cU CX P w K mg base N qual scope f cd A outer s H E) [] (start N vs) H s1:=by
 have hpl:ps.length<=N.length:=by have:=congrArg List.length S.pre;rw[xcj]at this;omega
 obtain ⟨h1, tk, rfl, hk⟩ := x.done;have noA : ∀ b : Addr, b ∉ (cU CX P w K mg base N qual scope f cd A outer s H E).ex := fun b z => absurd (show b ∈ ([] : List Addr) from z) (by simp);refine ⟨⟨e0.mod,S.kind,rfl,rfl,xaf _,fun y z c h1 h2=>?_,fun y hy=>?_,fun y c _ h=>?_,fun _=>hd,Around.frames_deeper e0.frames,.inr ⟨rfl,rfl⟩,fun b z=>absurd z (noA b),e0.bs,e0.bsz,fun b _ _=>noA b,fun b z=>absurd z (noA b),e0.funs,e0.frf⟩,
  rfl,e0.bare,Un.kept hk,⟨_,x.toInCall.ns,fun i y v h1 h2 h3=>?_⟩,fun y c h=>⟨_,x.cell y c h⟩,e0.hok.fresh (xaf _),fun y c h=>?_,fun p hp=>absurd (show p∈([]:Pnx) from hp) (by simp),e0.hok.kept hk,?_⟩
 ·exact name_of_addr x.apart (xbB h1) (xbB h2)
 ·have hy:scope.names.lookup y=some .cell\/scope.names.lookup y=some .free:=hy;rcases hy with hy |hy
  ·exact Jx hy
  ·exact absurd rfl (S.nofree _ (xbB hy))
 ·exact xdr (x.above y c (xbB h))
 ·have hi:i<vs.length:=by
   unfold start at h2
   by_cases hi:i<vs.length
   ·exact hi
   ·rw[xa9 (by simpa using hi)]at h2;rw[xbm]at h2;split at h2<;>cases h2
  have ha:vs[i]? =some v:=by
   unfold start at h2;rw[xaX (by simpa using hi),xan]at h2
   cases e:vs[i]? with
   |none=>rw[e]at h2;cases h2
   |some a=>rw[e]at h2;cases h2;rfl
  obtain⟨u,hu,rv⟩:=r.get ha;have hp:ps[i]? =some y:=by
   rw[<-S.pre,List.getElem?_take_of_lt (by omega)];exact h1
  have ndP:ps.Nodup:=by rw[<-S.pre];exact S.nd.sublist (List.take_sublist _ _)
  refine⟨u,rv,?_⟩;rcases S.par y (xaL hp) with k |k
  ·exact .inl ⟨k,Jj ndP hp hu k⟩
  ·obtain⟨c,e⟩:=Jx (n:=s.heap.objs.size + 1) k;refine .inr ⟨.inl k,c,e,?_⟩;have q:=x.cell y c e;rw[Jh ndP hp hu (by show scope.names.lookup y≠_;rw[k];decide)]at q;exact q
 ·exact e0.hok.fresh (xdr (x.above y c (xbB h)))
 ·unfold start;show _=N.length;rw[xax,xaC,xbs];omega
theorem DW {CX:eV}{P:Program}{w:World}{K:Fgx}{mg:Mgx}{base:Heap}{k:Nat}{f:Addr}{name qual:Str}{params:Arguments}{body:List Stmt}{scope:Scope}{dV kV doc pm cdv ct oc:Value}{an od:Option Addr}
    {osl:Array (Option Value)} {N ps:List Str} {sp:Sp} (lk:K.lookup f=some ⟨oc,od,.func (PySem.W.fnOf name qual params body scope dV kV doc pm an cdv ct),osl⟩) (hcd:PySem.W.codeIn K cdv qual=true) (S:FnScope N ps scope)
    (len:∀vs H Q E,sp vs H Q E->vs.length=ps.length)
    (hbody:∀(A:Around) (outer:List Env) (s:Shared) (H:Hp) (vs:List V) (Q:VK) (E:XK),Room k (A.deeper (envOfC qual scope s.heap.objs.size f cdv))->sp vs H Q E->
      ∃t,dX (cU CX P w K mg base N qual scope f cdv A outer s H E) body t/\t {nx:=fun _ H'=>Q .non H',rt:=Q} (start N vs) H):
    FnOk P w K mg base CX (k + 1) f (PySem.W.fnOf name qual params body scope dV kV doc pm an cdv ct) ps sp:=by
  refine⟨len,fun A outer s H args us vs Q E hr e0 hb r hsp=>?_⟩;have hl:=len _ _ _ _ hsp;have KX:K.In s.heap:=e0.mod.kin.keeps fun b o e=>(e0.bs b o e).1;have lim:s.heap.NoLimit:=e0.mod.nolimit.keeps fun b o e=>(e0.bs b o e).1;have hkind:∀y∈ps.zip us,scope.names.lookup y.1=some .local\/(scope.names.lookup y.1=some .cell/\((cellsFrom (s.heap.objs.size + 1) scope.names []).lookup y.1).isSome=true):=fun⟨n,v⟩ hy=>by
    rcases S.par n (xc6 hy).1 with q |q
    · exact .inl q
    · exact .inr ⟨q,xc9 _ _ _ (.inl q)⟩
  refine codeAny_call_function hr.depth (KX _ _ lk) rfl S.co S.gen rfl (PySem.W.codeRec_of KX hcd) (hb _ _ _ _ ?_);refine wpAny_newFunctionEnv_cells S.kind hkind fun env he s1 x=>?_;subst he;refine⟨lim.keeps x.toInCall.keep,codeAny_func ?_⟩;obtain⟨t,ht,hq⟩:=hbody A outer s H vs Q E (hr.deeper _) hsp;have I:Inv (cU CX P w K mg base N qual scope f cdv A outer s H E) [] (start N vs) H s1:=Tz S hr.hd e0 hl r x;refine xaH (ht [] s1 (start N vs) H _ I hq) (fun fl s' hs=>?_) fun e s' hs=>hs;have fin:∀{σ':St} {H':Hp} {v:V} {u:Value},Inv (cU CX P w K mg base N qual scope f cdv A outer s H E) [] σ' H' s'->RelV v u->Q v H'->CE outer P w H s Q u s':=
    fun {σ' H' v u} J rv q=>⟨v,H',J.os,J.bare,J.base,J.hok,rv,q⟩
  cases fl with
  |ret u=>
    obtain⟨v,σ',H',J,rv,q⟩:=hs;exact fin J rv q
  |next=>
    obtain⟨σ',H',J,q⟩:=hs;exact fin (v:=V.non) (u:=Value.none) J rfl q
  |brk=>
    obtain⟨_,_,_,q⟩:=hs;exact False.elim q
  |cont=>
    obtain⟨_,_,_,q⟩:=hs;exact False.elim q
section
variable {X:Cx}{x:Str}{p pos:Pos}{e:Expr}{es:List Expr}{t:TA}{id T:String}{r:List V->Hp->VK->Prop}
noncomputable def Hx (r:List V->Hp->VK->Prop) (t:TA):TE:=fun σ H Q=>t σ H fun vs H1=>r vs H1 Q
theorem zR (hc:dU X (.builtin id) r)(hg:Gl X x)(hm:X.mg x=none)(hv:bootBuiltins x=some (.builtin id))(ha:PA X (e::es) t)(hn:x≠"__name__":=by decide)(hdb:(x==("__debug__":Str))=false:=by decide)
  (he:starEach (e::es) X.env=(false,eval e X.env)::starEach es X.env:=by rfl) (hpl:(backTo pos (starEach es X.env)).any (·.1)=false:=by rfl):PE X (.Call (.Name x p) (e::es) [] pos) (Hx r t):=by
 intro pins s σ H Q I h;refine xbn (vV I hg hm hv ?_ hn hdb);exact xcr (aL (ha pos pins s σ H _ I h) fun us s1 ⟨vs,H1,I1,r1,q1⟩=>hc pins s1 σ H1 vs us Q I1 r1 q1) he hpl
theorem zT (hc:dU X (.type T) r)(hg:Gl X x)(hm:X.mg x=none)(hv:bootBuiltins x=some (.type T))(ha:PA X (e::es) t)(hn:x≠"__name__":=by decide)(hdb:(x==("__debug__":Str))=false:=by decide)
  (he:starEach (e::es) X.env=(false,eval e X.env)::starEach es X.env:=by rfl) (hpl:(backTo pos (starEach es X.env)).any (·.1)=false:=by rfl):PE X (.Call (.Name x p) (e::es) [] pos) (Hx r t):=by
 intro pins s σ H Q I h;refine xbn (vV I hg hm hv ?_ hn hdb);exact xbM (aL (ha pos pins s σ H _ I h) fun us s1 ⟨vs,H1,I1,r1,q1⟩=>hc pins s1 σ H1 vs us Q I1 r1 q1) he hpl
end
end L2
namespace HT
open PySem PyProof.Rows
section
open PySem.SeqAt
open PySem.AutoSeq1 (wpAny_loadPart')
open PySem.MeetsSeq PySem.MeetsSeq2 PySem.MeetsSeq3
end
section
variable {prog:Program}{w:World}{A:Around}{E:Value->Shared->Prop}{s:Shared}
noncomputable def eU (n d:Nat):Option Int->Nat
 |none=>d
 |some v=>if v<0 then(v + (n:Int)).toNat else min v.toNat n
theorem Nf (n d:Nat):eU n d none=d:=rfl
theorem Nb (n d k:Nat):eU n d (some (k:Int))=min k n:=by
 show(if (k:Int)<0 then((k:Int) + (n:Int)).toNat else min (k:Int).toNat n)=min k n
 rw[xag (by omega),xcc]
end
end HT
namespace L2
open PySem PySem.Spec PyProof.Rows
abbrev TO:=St->Hp->(Option Int->Hp->Prop)->Prop
def PO (X:Cx)(e:Option Expr)(t:TO):Prop:=
 ∀(pins:Pnx) (s:Shared) (σ:St) (H:Hp) (Q:Option Int->Hp->Prop),Inv X pins σ H s->t σ H Q->
  wpAny (model X.prog X.w) X.A (evalPart e X.env) (fun u s'=>∃o H',Inv X pins σ H' s'/\IsPart u o/\Q o H') X.xe s
def zbw:TO:=fun _ H Q=>Q none H
noncomputable def zcB (t:TE):TO:=fun σ H Q=>t σ H fun x H1=>∃i,x=.int i/\Q (some i) H1
section
variable {X:Cx}{e:Expr}{te:TE}{lo hi:Option Expr}{tl th:TO}{pos p2:Pos}
theorem X3:PO X none zbw:=by
 intro pins s σ H Q I h;rw[evalPart_none];exact xaj ⟨none,H,I,.none,h⟩
theorem X4 (h:PE X e te):PO X (some e) (zcB te):=by
 intro pins s σ H Q I hw;rw[evalPart_some];refine aL (h pins s σ H _ I hw) fun u s1 ⟨x,H1,I1,r1,q1⟩=>?_;obtain⟨i,rfl,q⟩:=q1;obtain⟨t,rfl⟩:=r1;exact⟨some i,H1,I1,.int i t,q⟩
def oO (X:Cx)(r:V->Option Int->Option Int->Hp->VK->Prop):Prop:=
 ∀(pins:Pnx) (s:Shared) (σ:St) (H:Hp) (x:V) (v vl vu:Value) (lo hi:Option Int) (sl:Addr) (Q:VK),Inv X pins σ H s->RelV x v->s.heap.IsSliceOf sl vl vu .none->IsPart vl lo->IsPart vu hi->r x lo hi H Q->
  ∃T id,typeLookup (.type T) "__getitem__"=pure (some (.builtin id))/\s.TypeIs v T/\wpAny (model X.prog X.w) X.A (getItem v (.ref sl)) (EP X pins σ Q) X.xe s
theorem oO.or (h:oO X r)(h':oO X r'):oO X (fun x lo hi H Q=>r x lo hi H Q\/r' x lo hi H Q):=by
 intro pins s σ H x v vl vu lo hi sl Q I rx hs pl pu q;rcases q with q |q
 ·exact h pins s σ H x v vl vu lo hi sl Q I rx hs pl pu q
 ·exact h' pins s σ H x v vl vu lo hi sl Q I rx hs pl pu q
noncomputable def tSl (r:V->Option Int->Option Int->Hp->VK->Prop) (te:TE) (tl th:TO):TE:=fun σ H Q=>te σ H fun x H1=>tl σ H1 fun l H2=>th σ H2 fun u H3=>r x l u H3 Q
theorem Xq (hr:oO X r)(he:PE X e te)(hl:PO X lo tl)(hu:PO X hi th):PE X (.Subscript e (.Slice lo hi none p2) pos) (tSl r te tl th):=by
 intro pins s σ H Q I h;refine Subscript_ (aL (he pins s σ H _ I h) fun v s1 ⟨x,H1,I1,r1,q1⟩=>?_);refine wpAny_Slice (aL (hl pins s1 σ H1 _ I1 q1) fun vl s2 ⟨l,H2,I2,pl,q2⟩=>aL (hu pins s2 σ H2 _ I2 q2) fun vu s3 ⟨u,H3,I3,pu,q3⟩=>?_);rw[evalPart_none];refine xaj ?_;have I4:Inv X pins σ H3 {s3 with heap:=s3.heap.push {cls:=.type "slice",data:=.fields #[vl,vu,.none]}}:=I3.kept (t':=s3.toks) fun b ob q=>xab _ q;obtain⟨T,id,hT,ht,hg⟩:=hr pins {s3 with heap:=s3.heap.push {cls:=.type "slice",data:=.fields #[vl,vu,.none]}} σ H3 x v vl vu l u s3.heap.objs.size Q I4 r1 (Heap.IsSliceOf.new ..) pl pu q3;show wpAny (model X.prog X.w) X.A (subscriptTail e (.Slice lo hi none p2) v (.ref s3.heap.objs.size)) (EP X pins σ Q) X.xe {s3 with heap:=s3.heap.push {cls:=.type "slice",data:=.fields #[vl,vu,.none]}};exact tail_any (ops:=[.ref s3.heap.objs.size,v]) ht hT hg (by with_unfolding_all rfl)
noncomputable def g_ (xs:List V) (lo hi:Option Int):List V:=(xs.drop (HT.eU xs.length 0 lo)).take (HT.eU xs.length xs.length hi - HT.eU xs.length 0 lo)
theorem Rn (xs:List V)(lo hi:Option Int):(g_ xs lo hi).length<=xs.length:=by
 unfold g_;rw[xcj,xck];omega
end
noncomputable def iy (n:Nat) (i:Int):Option Nat:=if 0<=i then(if i<n then some i.toNat else none) else if -(n:Int)<=i then some (i + n).toNat else none
noncomputable def cP {α:Type} (xs:List α) (i:Int):Option α:=(iy xs.length i).bind fun j=>xs[j]?
theorem KN (h:iy n i=some j):seqIndex? i n=some j/\j<n/\ -(n:Int)<=i/\i<n:=by
 unfold iy at h
 by_cases h0:0<=i
 ·rw[xac h0]at h
  by_cases h1:i<n
  ·rw[xac h1]at h;have e:i.toNat=j:=xar h;exact⟨by rw[seqIndex_of h0 h1,e],by omega,by omega,h1⟩
  ·rw[xag h1]at h;cases h
 ·rw[xag h0]at h
  by_cases h1: -(n:Int)<=i
  ·rw[xac h1]at h;have e:(i + n).toNat=j:=xar h;exact⟨by rw[seqIndex_neg (by omega) h1,e],by omega,h1,by omega⟩
  ·rw[xag h1]at h;cases h
theorem Ce (h:cP xs i=some v):∃j,seqIndex? i xs.length=some j/\xs[j]? =some v/\j<xs.length/\ -(xs.length:Int)<=i/\i<xs.length:=by
  unfold cP at h
  cases e:iy xs.length i with
  |none=>rw[e]at h;cases h
  |some j=>
    rw[e]at h;obtain⟨h1,h2,h3,h4⟩:=KN e;exact⟨j,h1,h,h2,h3,h4⟩
theorem lJ {α:Type}{xs:List α}{j:Nat}{v:α}(h:xs[j]? =some v):cP xs (j:Int)=some v:=by
 have hj:j<xs.length:=(xal.mp h).1;have e:iy xs.length (j:Int)=some j:=by
  unfold iy;rw[xac (by omega),xac (by omega)];simp
 unfold cP;rw[e];exact h
def BP (b:Expr):Prop:=∀o i,subscripted b false o i=operate [o,i] (getItem o i)
def kO (X:Cx)(r:R2):Prop:=
 ∀(value slice:Expr) (pins:Pnx) (s:Shared) (σ:St) (H:Hp) (x y:V) (v u:Value) (Q:VK),Inv X pins σ H s->RelV x v->RelV y u->r x y H Q->
  subscripted slice false v u=operate [v,u] (getItem v u)->wpAny (model X.prog X.w) X.A (subscriptTail value slice v u) (EP X pins σ Q) X.xe s
def IV (X:Cx)(id:String)(r:V->List V->Hp->VK->Prop):Prop:=
 ∀(pins:Pnx) (s:Shared) (σ:St) (H:Hp) (x:V) (xs:List V) (v:Value) (us:List Value) (Q:VK),Inv X pins σ H s->RelV x v->Vals xs us->r x xs H Q->
  wpAny (model X.prog X.w) X.A (call (.builtin id) (v::us)) (EP X pins σ Q) X.xe s
section
variable {X:Cx}{a b:Expr}{ta tb:TE}{pos:Pos}
theorem kO.or (h:kO X r)(h':kO X r'):kO X (fun x y H Q=>r x y H Q\/r' x y H Q):=by
 intro value slice pins s σ H x y v u Q I rx ry q hs;rcases q with q |q
 ·exact h value slice pins s σ H x y v u Q I rx ry q hs
 ·exact h' value slice pins s σ H x y v u Q I rx ry q hs
theorem Xh (hr:kO X r)(ha:PE X a ta)(hb:PE X b tb)(hs:BP b):PE X (.Subscript a b pos) (xR r ta tb):=by
 intro pins s σ H Q I h;exact Subscript_ (oW ha hb I h fun v u s2 x y H2 I2 rx ry q=>hr a b pins s2 σ H2 x y v u Q I2 rx ry q (hs _ _))
noncomputable def rG (K:Fgx):R2:=fun x y H Q=>∃p xs i v,x=.ref p/\y=.int i/\bI K H p xs/\cP xs i=some v/\Q v H
noncomputable def rJ (K:Fgx):R2:=fun x y H Q=>∃p xs i v,x=.ref p/\y=.int i/\dJ K H p xs/\cP xs i=some v/\Q v H
noncomputable def rH:R2:=fun x y H Q=>∃z i c,x=.str z/\y=.int i/\z.length<=sizeLine/\cP z.cps.toList i=some c/\Q (.str ⟨#[c]⟩) H
theorem T_:kO X (rG X.K):=by
 intro value slice pins s σ H x y v u Q I rx ry h hs;obtain⟨p,xs,i,z,rfl,rfl,hq,he,q⟩:=h;cases rx;obtain⟨t,rfl⟩:=ry;obtain⟨its,r,pl,hz⟩:=I.list hq;obtain⟨j,h1,h2,h3,h4,h5⟩:=Ce he;obtain⟨w,ew,rw'⟩:=r.get h2;have hl:=r.length;have hn:=pR;have fin:EP X pins σ Q w s:=⟨z,H,I,rw',q⟩
 by_cases h0:0<=i
 ·have hj:i.toNat=j:=by
   rw[seqIndex_of h0 h5]at h1;exact xar h1
  exact item_listR pl.isList h0 (by omega) (by rw[hj];simpa using ew) fin hs
 ·have hj:(i + (its.toArray.size:Int)).toNat=j:=by
   rw[seqIndex_neg (by omega) h4]at h1;rw[xak, <-hl];exact xar h1
  exact subscriptTail_builtinR (x:=w) pl.isList.typeIs slot_list_getitem.lookup
   (wpAny_getItem_list_neg (Q:=fun r s'=>r=w/\EP X pins σ Q r s') pl.isList (by omega) (by rw[xak]<;>omega) (by omega) (by rw[hj];simpa using ew) ⟨rfl,fin⟩) hs
theorem Ug:kO X (rJ X.K):=by
 intro value slice pins s σ H x y v u Q I rx ry h hs;obtain⟨p,xs,i,z,rfl,rfl,hq,he,q⟩:=h;cases rx;obtain⟨t,rfl⟩:=ry;obtain⟨its,r,pl,hz⟩:=I.tuple hq;obtain⟨j,h1,h2,h3,h4,h5⟩:=Ce he;obtain⟨w,ew,rw'⟩:=r.get h2;have hl:=r.length;have hn:=pR;have fin:EP X pins σ Q w s:=⟨z,H,I,rw',q⟩;exact subscriptTail_builtinR (x:=w) pl.typeIs slot_tuple_getitem.lookup
  (getItem_tuple (j:=j) (Q:=fun r s'=>r=w/\EP X pins σ Q r s') pl (by omega) (by omega) (by rw[xak, <-hl];exact h1) (by simpa using ew) ⟨rfl,fin⟩) hs
theorem Ue:kO X rH:=by
 intro value slice pins s σ H x y v u Q I rx ry h hs;obtain⟨z,i,c,rfl,rfl,hz,he,q⟩:=h;obtain⟨t,rfl⟩:=rx;obtain⟨t',rfl⟩:=ry;obtain⟨j,h1,h2,h3,h4,h5⟩:=Ce he;have hl:z.cps.toList.length=z.length:=by simp[Str.length]
 rw [hl] at h1 h4 h5;have hn := pR;exact tail_any (typeIs_str s z t) slot_str_getitem.lookup (getItem_str (c := c) (by
  have e1:decide (i< -(2 ^ 63:Int))=false:=xaE (by omega);have e2:decide (i >=2 ^ 63)=false:=xaE (by omega);rw[e1,e2,Bool.or_false]) (by rw[h1];simpa using h2) ⟨.str ⟨#[c]⟩,H,I.tok _,⟨_,rfl⟩,q⟩) hs
noncomputable def Gz (K:Fgx):R2:=fun x y H Q=>rG K x y H Q\/rJ K x y H Q\/rH x y H Q
theorem Vc (its:List Value)(n j:Nat)(u:Value):Obj.mapSeq (·.setIfInBounds j u) {cls:=.type "list",data:=.seq its.toArray n}={cls:=.type "list",data:=.seq (its.set j u).toArray n}:=by
 simp[Obj.mapSeq]
theorem Inv.lst (I:Inv X pins σ H s)(h:H p=some (.lst xs)):
  ∃(its:List Value) (n:Nat),Vals xs its/\s.heap.get? p=some {cls:=.type "list",data:=.seq its.toArray n}/\xs.length<=sizeLine:=by
 obtain⟨z,its,n,r,e⟩:=I.hok p _ h;exact⟨its,n,r,e,z⟩
theorem Inv.lstUpd {pins:Pnx}{σ:St}{H:Hp}{s:Shared}{p:Addr}{xs ys:List V}{its its':List Value}{n n':Nat}{f:Obj->Obj}(I:Inv X pins σ H s)(h:H p=some (.lst xs))
  (ho:s.heap.get? p=some {cls:=.type "list",data:=.seq its.toArray n}) (hf:f {cls:=.type "list",data:=.seq its.toArray n}={cls:=.type "list",data:=.seq its'.toArray n'}) (r:Vals ys its') (hz:ys.length<=sizeLine) (t:Nat):
  Inv X pins σ (upd H p (.lst ys)) {s with heap:=s.heap.update p f,toks:=t}:=by
 have e:(s.heap.update p f).get? p=some {cls:=.type "list",data:=.seq its'.toArray n'}:=by
  rw[xbb f ho (by rw[hf]<;>rfl),hf]
 refine I.write (x:=p) (e:=p) (by rw[h];trivial) (.inl rfl) (fun b u hb q=>(xaB _ _ (xaP hb)).trans q) ⟨_,e⟩ ?_;exact⟨hz,its',n',r,e⟩
def Zv:V->V->V->Hp->(Hp->Prop)->Prop:=fun o i v H Q=>∃p xs k j,o=.ref p/\i=.int k/\H p=some (.lst xs)/\iy xs.length k=some j/\Q (upd H p (.lst (xs.set j v)))
theorem set_list:uO X Zv:=by
 intro pins s σ H o i v ov iv u Q I ro ri rv h;obtain⟨p,xs,k,j,rfl,rfl,hp,hj,q⟩:=h;cases ro;obtain⟨t,rfl⟩:=ri;obtain⟨its,n,r,ho,hz⟩:=I.lst hp;obtain⟨h1,h2,h3,h4⟩:=KN hj;have hl:=r.length;have hn:=pR;have I':Inv X pins σ (upd H p (.lst (xs.set j v))) {s with heap:=s.heap.update p (Obj.mapSeq (·.setIfInBounds j u))}:=
  I.lstUpd hp ho (Vc its n j u) (r.set rv j) (by rw[xay];exact hz) s.toks
 by_cases h0:0<=k
 ·have hk:k.toNat=j:=by
   rw[seqIndex_of h0 h4]at h1;exact xar h1
  exact PySem.W.ki_setAt ho h0 (by omega) (by rw[xak, <-hl];exact h4) (by rw[hk];exact⟨_,I',q⟩)
 ·have hk:(k + (its.toArray.size:Int)).toNat=j:=by
   rw[seqIndex_neg (by omega) h3]at h1;rw[xak, <-hl];exact xar h1
  exact PySem.W.ki_setBack ho (by omega) (by rw[xak, <-hl];exact h3) (by omega) (by rw[hk];exact⟨_,I',q⟩)
theorem zah (lo hi:Option Int)(n:Nat):(sliceBounds lo hi none n).1=((HT.eU n 0 lo:Nat):Int)/\(sliceBounds lo hi none n).2.1=((HT.eU n n hi:Nat):Int)/\(sliceBounds lo hi none n).2.2=1:=by
  refine⟨?_,?_,rfl⟩
  · cases lo with
    |none=>simp[sliceBounds,HT.eU]
    |some i=>
      simp only[sliceBounds,HT.eU,Option.getD_none,show(1:Int) > 0 by decide,xbU]
      by_cases h:i<0
      · simp only[h,xbU]<;>omega
      · simp only[h,xb5]<;>omega
  · cases hi with
    |none=>simp[sliceBounds,HT.eU]
    |some i=>
      simp only[sliceBounds,HT.eU,Option.getD_none,show(1:Int) > 0 by decide,xbU]
      by_cases h:i<0
      · simp only[h,xbU]<;>omega
      · simp only[h,xb5]<;>omega
theorem zaf (its:List Value)(lo hi:Option Int):slicePick its.toArray lo hi none=((its.drop (HT.eU its.length 0 lo)).take (HT.eU its.length its.length hi - HT.eU its.length 0 lo)).toArray:=by
 obtain⟨h1,h2,h3⟩:=zah lo hi its.toArray.size;unfold slicePick;rw[h1,h2,h3];simp only[sliceRange_one,pick_run,xak]<;>rfl
def GC (K:Fgx):V->Option Int->Option Int->Hp->VK->Prop:=fun x lo hi H Q=>∃a xs,x=.ref a/\bI K H a xs/\∀p,H p=none->Q (.ref p) (upd H p (.lst (g_ xs lo hi)))
theorem zbt:oO X (GC X.K):=by
 intro pins s σ H x v vl vu lo hi sl Q I rx hs pl pu h;obtain⟨a,xs,rfl,hx,q⟩:=h;cases rx;obtain⟨its,r,ht,hz⟩:=I.list hx;have hlen:=r.length;refine⟨"list",_,slot_list_getitem.lookup,ht.isList.typeIs,?_⟩;refine wpAny_getItem_list_slice ht.isList hs pl pu .none (by simp) ?_ (by rw[xak]<;>omega)
 rw[zaf, <-hlen];refine⟨.ref s.heap.objs.size,_,I.laid (t':=s.toks) (o:=.lst (g_ xs lo hi)) (fun b ob q=>xab _ q) (xaf _) ?_,rfl,q _ (I.hok.fresh (xaf _))⟩;exact⟨xaD (Rn xs lo hi) hz,_,0,(r.drop (HT.eU xs.length 0 lo)).take (HT.eU xs.length xs.length hi - HT.eU xs.length 0 lo),xau _ rfl⟩
noncomputable def k_:V->Bool
 |.non=>true
 |.bl _=>true
 |.int _=>true
 |.str _=>true
 |_=>false
noncomputable def lR:V->V->Bool
 |.non,.non=>true
 |.bl a,.bl b=>a==b
 |.bl a,.int b=>(if a then 1 else 0)==b
 |.int a,.bl b=>a==(if b then 1 else 0)
 |.int a,.int b=>a==b
 |.str a,.str b=>a==b
 |_,_=>false
theorem RV (ry:RelV y u)(rx:RelV x v)(fy:k_ y=true)(fx:k_ x=true):SeqAt.EqAt A s u v (lR y x):=by
  cases y with
  |non=>
    cases ry
    cases x with
    |non=>cases rx;exact xcs _
    |bl b=>cases rx;exact SeqAt.EqAt.none_bool b
    |int b=>obtain⟨t,rfl⟩:=rx;exact SeqAt.EqAt.none_int b t
    |str b=>obtain⟨t,rfl⟩:=rx;exact SeqAt.EqAt.none_str b t
    |_=>exact absurd (show false=true from fx) xaq
  |bl a=>
    cases ry
    cases x with
    |non=>cases rx;exact SeqAt.EqAt.bool_none a
    |bl b=>cases rx;exact SeqAt.EqAt.bool_bool a b
    |int b=>obtain⟨t,rfl⟩:=rx;exact SeqAt.EqAt.bool_int a b t
    |str b=>obtain⟨t,rfl⟩:=rx;exact SeqAt.EqAt.bool_str a b t
    |_=>exact absurd (show false=true from fx) xaq
  |int a=>
    obtain⟨t',rfl⟩:=ry
    cases x with
    |non=>cases rx;exact SeqAt.EqAt.int_none a t'
    |bl b=>cases rx;exact SeqAt.EqAt.int_bool a t' b
    |int b=>obtain⟨t,rfl⟩:=rx;exact SeqAt.EqAt.int_int a t' b t
    |str b=>obtain⟨t,rfl⟩:=rx;exact xcA a t' b t
    |_=>exact absurd (show false=true from fx) xaq
  |str a=>
    obtain⟨t',rfl⟩:=ry
    cases x with
    |non=>cases rx;exact SeqAt.EqAt.str_none a t'
    |bl b=>cases rx;exact SeqAt.EqAt.str_bool a t' b
    |int b=>obtain⟨t,rfl⟩:=rx;exact xcB a t' b t
    |str b=>obtain⟨t,rfl⟩:=rx;exact SeqAt.EqAt.str_str a t' b t
    |_=>exact absurd (show false=true from fx) xaq
  |_=>exact absurd (show false=true from fy) xaq
noncomputable def gB (x:V) (u:Value):Bool:=match u with
 |.none=>lR .non x
 |.bool b=>lR (.bl b) x
 |.int i _=>lR (.int i) x
 |.str z _=>lR (.str z) x
 |_=>false
theorem J6 (r:RelV y u)(f:k_ y=true):gB x u=lR y x:=by
 cases y with
 |non=>cases r;rfl
 |bl b=>cases r;rfl
 |int i=>obtain⟨t,rfl⟩:=r;rfl
 |str z=>obtain⟨t,rfl⟩:=r;rfl
 |_=>exact absurd (show false=true from f) xaq
theorem uQ:∀{xs:List V} {us:List Value},Vals xs us->xs.all k_=true->us.any (gB x)=xs.any fun y=>lR y x
  |_,_,.nil,_=>rfl
  |y::xs,u::us,.cons r t,f=>by
    rw[xbT,xat]at f;rw[xbl,xbl,J6 r f.1,uQ t f.2]
theorem vY (rx:RelV x v)(fx:k_ x=true):∀{xs:List V} {us:List Value},Vals xs us->xs.all k_=true->∀u∈us,SeqAt.EqAt A s u v (gB x u)
  |_,_,.nil,_=>fun u hu=>by cases hu
  |y::xs,u::us,.cons r t,f=>fun u' hu=>by
    rw[xbT,xat]at f;rcases xas.mp hu with rfl |hu
    · rw[J6 r f.1];exact RV r rx f.1 fx
    · exact vY rx fx t f.2 u' hu
def inV (x:V)(xs:List V):Bool:=xs.any fun y=>lR y x
noncomputable def z6 (K:Fgx) (neg:Bool):R2:=fun x y H Q=>∃p xs,y=.ref p/\(bI K H p xs\/dJ K H p xs)/\k_ x=true/\xs.all k_=true/\Q (.bl (if neg then !inV x xs else inV x xs)) H
theorem Ww:bK X (compareOp .In) (z6 X.K false):=by
 intro pins s σ H x y v u Q I rx ry h;obtain⟨p,xs,rfl,hq,fx,fs,q⟩:=h;cases ry;rcases hq with hq |hq
 ·obtain⟨its,r,pl,hz⟩:=I.list hq;refine SeqAt.in_listAt (gB x) pl.isList (fun w hw=>vY rx fx r fs w (by simpa using hw)) ⟨.bl _,H,I,rfl,?_⟩;rw[show its.toArray.any (gB x)=its.any (gB x) by simp,uQ r fs];exact q
 ·obtain⟨its,r,pl,hz⟩:=I.tuple hq;refine SeqAt.in_tupleAt (gB x) pl (fun w hw=>vY rx fx r fs w (by simpa using hw)) ⟨.bl _,H,I,rfl,?_⟩;rw[show its.toArray.any (gB x)=its.any (gB x) by simp,uQ r fs];exact q
theorem WW:bK X (compareOp .NotIn) (z6 X.K true):=by
 intro pins s σ H x y v u Q I rx ry h;obtain⟨p,xs,rfl,hq,fx,fs,q⟩:=h;cases ry;rcases hq with hq |hq
 ·obtain⟨its,r,pl,hz⟩:=I.list hq;refine SeqAt.notIn_listAt (gB x) pl.isList (fun w hw=>vY rx fx r fs w (by simpa using hw)) ⟨.bl _,H,I,rfl,?_⟩;rw[show its.toArray.any (gB x)=its.any (gB x) by simp,uQ r fs];exact q
 ·obtain⟨its,r,pl,hz⟩:=I.tuple hq;refine SeqAt.notIn_tupleAt (gB x) pl (fun w hw=>vY rx fx r fs w (by simpa using hw)) ⟨.bl _,H,I,rfl,?_⟩;rw[show its.toArray.any (gB x)=its.any (gB x) by simp,uQ r fs];exact q
theorem QK:dU X (.builtin "len") (fun xs H Q=>∃p ys,xs=[.ref p]/\(bI X.K H p ys\/dJ X.K H p ys)/\Q (.int ys.length) H):=by
 intro pins s σ H xs us Q I r h;obtain⟨p,ys,rfl,hq,q⟩:=h;obtain⟨u,rfl,rx⟩:=vals1 r;cases rx;have hn:=pR;rcases hq with hq |hq
 ·obtain⟨its,r',pl,hz⟩:=I.list hq;have hlen:=r'.length;exact Calls.call_len_list pl.isList (by simp only[xak]<;>omega) ⟨.int ys.length,H,I.tok _,⟨s.toks + 1,by rw[xak,hlen]⟩,q⟩
 ·obtain⟨its,r',pl,hz⟩:=I.tuple hq;have hlen:=r'.length;exact len_tuple pl (by simp only[xak]<;>omega) ⟨.int ys.length,H,I.tok _,⟨s.toks + 1,by rw[xak,hlen]⟩,q⟩
theorem QL:dU X (.builtin "len") (fun xs H Q=>∃z,xs=[.str z]/\z.length<=sizeLine/\Q (.int z.length) H):=by
 intro pins s σ H xs us Q I r h;obtain⟨z,rfl,hz,q⟩:=h;obtain⟨u,rfl,t,rfl⟩:=vals1 r;have hn:=pR;exact len_str (by omega) ⟨.int z.length,H,I.tok _,⟨_,rfl⟩,q⟩
theorem dU.or (h:dU X f r)(h':dU X f r'):dU X f (fun xs H Q=>r xs H Q\/r' xs H Q):=by
 intro pins s σ H xs us Q I rs q;rcases q with q |q
 ·exact h pins s σ H xs us Q I rs q
 ·exact h' pins s σ H xs us Q I rs q
theorem QM:dU X (.type "list") (fun xs H Q=>∃p ys,xs=[.ref p]/\(bI X.K H p ys\/dJ X.K H p ys)/\∀l,H l=none->Q (.ref l) (upd H l (.lst ys))):=by
 intro pins s σ H xs us Q I r h;obtain⟨p,ys,rfl,hq,q⟩:=h;obtain⟨u,rfl,rx⟩:=vals1 r;cases rx;have fin:∀(its:List Value),Vals ys its->ys.length<=sizeLine->∀(h':Heap) (c':Nat),(∀b o',s.heap.get? b=some o'->h'.get? b=some o')->
   h'.get? s.heap.objs.size=some {cls:=.type "list",dict:=none,data:=.seq its.toArray c',slots:= #[]}->EP X pins σ Q (.ref s.heap.objs.size) {s with heap:=h'}:=fun its r' hz h' c' kp e=>
  ⟨.ref s.heap.objs.size,_,I.laid (t':=s.toks) kp (xaf _) (show cG X.prog X.w _ h' _ (.lst ys) from⟨hz,its,c',r',e⟩),rfl,q _ (I.hok.fresh (xaf _))⟩
 rcases hq with hq |hq
 ·obtain⟨its,r',pl,hz⟩:=I.list hq;have hlen:=r'.length;obtain⟨o,ho,hc,n,hd⟩:=pl.isList;exact call_list_seq p (.inl rfl) ho hc hd (fun h' c' kp e=>fin its r' hz h' c' kp e) (by simp only[xak]<;>omega)
 ·obtain⟨its,r',pl,hz⟩:=I.tuple hq;have hlen:=r'.length;obtain⟨o,ho,hc,n,hd⟩:=pl;exact call_list_seq p (.inr rfl) ho hc hd (fun h' c' kp e=>fin its r' hz h' c' kp e) (by simp only[xak]<;>omega)
def Px (K:Fgx)(T:String)(x:V)(H:Hp):Prop:=match x with
 |.str _=>T="str"
 |.int _=>T="int"
 |.ref p=>(T="list"/\∃xs,bI K H p xs)\/(T="tuple"/\∃o,K.lookup p=some o/\o.cls=.type "tuple"/\o.dict=none)\/
   (T="dict"/\((∃kvs,H p=some (.dK kvs))\/∃kvs,H p=some (.dT kvs)))\/(T="set"/\∃S n,H p=some (.set S n))
 |_=>False
theorem zcl (I:Inv X pins σ H s)(r:RelV x v)(ty:Px X.K T x H):
    s.TypeIs v T/\∀a,v=.ref a->∃ob,s.heap.get? a=some ob/\ob.dict=none:=by
  cases x with
  |str z=>
    obtain⟨t,rfl⟩:=r;cases (show T="str" from ty);exact⟨typeIs_str s z t,fun _ e=>nomatch e⟩
  |int i=>
    obtain⟨t,rfl⟩:=r;cases (show T="int" from ty);exact⟨typeIs_int s i t,fun _ e=>nomatch e⟩
  |ref p=>
    cases r;rcases ty with⟨rfl,xs,hq⟩ |⟨rfl,o,hk,hc,hd⟩ |⟨rfl,hk⟩ |⟨rfl,S,n,hk⟩
    · obtain⟨its,_,pl,_⟩:=I.list hq;refine⟨pl.isList.typeIs,fun a e=>?_⟩;cases e;obtain⟨o,n,e,c,hd,_⟩:=pl;exact⟨o,e,hd⟩
    · refine⟨⟨o,I.kIn p o hk,hc⟩,fun a e=>?_⟩;cases e;exact⟨o,I.kIn _ o hk,hd⟩
    · have z:∃o,s.heap.get? p=some o/\o.ExactDict:=by
        rcases hk with⟨kvs,hk⟩ |⟨kvs,hk⟩
        · obtain⟨_,_,_,_,o,_,_,e,ex,_⟩:=I.hok p _ hk;exact⟨o,e,ex⟩
        · obtain⟨_,_,_,_,o,_,_,e,ex,_⟩:=I.hok p _ hk;exact⟨o,e,ex⟩
      obtain⟨o,e,ex⟩:=z;refine⟨⟨o,e,ex.1⟩,fun a e2=>?_⟩;cases e2;exact⟨o,e,ex.2.1⟩
    · obtain⟨o,_,_,_,e,ex,_⟩:=I.hok p _ hk;refine⟨⟨o,e,ex.1⟩,fun a e2=>?_⟩;cases e2;exact⟨o,e,ex.2.1⟩
  |_=>exact False.elim ty
noncomputable def tBM (K:Fgx) (T:String) (r:V->List V->Hp->VK->Prop) (to:TE) (t:TA):TE:=fun σ H Q=>to σ H fun x H1=>Px K T x H1/\t σ H1 fun xs H2=>r x xs H2 Q
variable {o e:Expr}{es:List Expr}{to:TE}{t:TA}{name:Str}{apos cpos:Pos}{T id:String}{r:V->List V->Hp->VK->Prop}
theorem Mf (pa:PlainAttrs T)(slot:Slot T name id)(hty:typeOf (.builtin id)=pure (.type "method_descriptor"))(hm:IV X id r)(ho:PE X o to)(ha:PA X (e::es) t)
  (hbase:attributeBase o name X.env (eval o X.env)=eval o X.env:=by rfl)
  (hfew : ((backTo cpos (starEach (e::es) X.env)).all (fun x=> !x.1) && (backToKw cpos (keywordEach [] X.env)).all (fun x=>x.1.isSome)
   && decide ((e::es).length + ([]:List Keyword).length + (if ([]:List Keyword).isEmpty then 0 else 1)<30))=true:=by rfl)
  (hline:(apos.endLine==cpos.line)=true:=by rfl) (hs:starEach (e::es) X.env=(false,eval e X.env)::starEach es X.env:=by rfl) (hplain:(backTo cpos (starEach es X.env)).any (·.1)=false:=by rfl):
  PE X (.Call (.Attribute o name apos) (e::es) [] cpos) (tBM X.K T r to t):=by
 intro pins s σ H Q I h;refine wpAny_Call_method_late hbase hfew hline rfl (aL (ho pins s σ H _ I h) fun v s1 ⟨x,H1,I1,r1,ty,q1⟩=>?_);obtain⟨h1,h2⟩:=zcl I1 r1 ty;refine⟨T,id,pa,slot,hty,h1,h2,?_⟩;have hA:=ha cpos pins s1 σ H1 _ I1 q1;rw[hs]at hA ⊢;refine xcf (by show(false || (backTo cpos (starEach es X.env)).any (·.1))=false;rw[hplain]<;>rfl) (Calls.evalArgs_plain ?_)
 exact aL hA fun us s2 ⟨vs,H2,I2,r2,q2⟩=>hm pins s2 σ H2 x vs v us Q I2 r1 r2 q2
end
def Qf (X:Cx)(id:String)(r:V->List V->Hp->VK->Prop):Prop:=
 ∀(pins:Pnx) (s:Shared) (σ:St) (H:Hp) (x:V) (xs:List V) (v:Value) (us:List Value) (Q:VK),Inv X pins σ H s->RelV x v->Vals xs us->r x xs H Q->
  wpAny (model X.prog X.w) X.A (call (.builtin id) (v::us)) (EP X pins σ Q) X.xe s
theorem Vals.one:∀{x:V} {us:List Value},Vals [x] us->∃u,us=[u]/\RelV x u
 |_,_,.cons r .nil=>⟨_,rfl,r⟩
section
variable {X:Cx}{pins:Pnx}{σ:St}{H:Hp}{s:Shared}{l b:Addr}{xs ys zs:List V}
theorem Inv.lset {its its':List Value}{n:Nat}{f:Array Value->Array Value}{t':Nat}(I:Inv X pins σ H s)(hH:H l=some (.lst xs))
  (e:s.heap.get? l=some {cls:=.type "list",data:=.seq its.toArray n}) (hf:f its.toArray=its'.toArray) (hv:Vals ys its') (hz:ys.length<=sizeLine):
  Inv X pins σ (upd H l (.lst ys)) {s with heap:=s.heap.update l (Obj.mapSeq f),toks:=t'}:=by
 have q:=PySem.IsL.update e f;rw[hf]at q;refine I.write (x:=l) (e:=l) (by rw[hH];exact trivial) (.inl rfl) (fun b' u hb hu=>(xaB s.heap (Obj.mapSeq f) (xaP hb)).trans hu) ⟨_,q⟩ ?_;exact⟨hz,its',_,hv,q⟩
theorem Inv.lnew (I:Inv X pins σ H s)(hv:Vals ys its)(hz:ys.length<=sizeLine):
  Inv X pins σ (upd H s.heap.objs.size (.lst ys)) {s with heap:=s.heap.push {cls:=.type "list",data:=.seq its.toArray},toks:=t'}:=
 I.laid (fun _ _ q=>xab _ q) (xaf _) ⟨hz,its,0,hv,xau _ rfl⟩
theorem Inv.fresh (I:Inv X pins σ H s):H s.heap.objs.size=none:=I.hok.fresh (xaf _)
theorem Inv.lstM (I:Inv X pins σ H s)(hH:H l=some (.lst xs)):xs.length<=sizeLine/\∃(its:List Value) (n:Nat),Vals xs its/\xs.length=its.length/\s.heap.get? l=some {cls:=.type "list",data:=.seq its.toArray n}:=by
 obtain⟨z,its,n,r,e⟩:=I.hok l _ hH;exact⟨z,its,n,r,r.length,e⟩
end
section
variable {X:Cx}
def Zq:V->List V->Hp->VK->Prop:=fun x vs H Q=>∃l xs y,x=.ref l/\vs=[y]/\H l=some (.lst xs)/\xs.length<sizeLine/\Q .non (upd H l (.lst (xs ++ [y])))
theorem Fo:Qf X "list.append" Zq:=by
 intro pins s σ H x vs v us Q I rx rv h;obtain⟨l,xs,y,rfl,rfl,hH,hz,q⟩:=h;cases rx;obtain⟨u,rfl,ru⟩:=rv.one;obtain⟨z,its,n,r,hl,e⟩:=I.lstM hH;refine call_meets F.slot_list_append ⟨_,e,rfl⟩ F.entry_list_append (F.args_list_append_2 _ _) (PySem.list_append l its.toArray n u (by rw[xak];omega)) ⟨e,?_⟩;refine⟨.non,_,I.lset (its':=its ++ [u]) hH e (by simp) (r.append (.cons ru .nil)) ?_,rfl,q⟩;rw[xax,xa2];omega
end
end L2
namespace Att
open PySem PySem.W PySem.Calls PyProof.Rows
theorem Tw:∀(ns:List Int) (vs:List Value),WellAll P h vs (ns.map WData.int)->IntsAre vs ns:=by
  intro ns
  induction ns with
  |nil=>
    intro vs w;rw[xbx]at w;cases w;exact .nil
  |cons n ns ih=>
    intro vs w;rw[xam]at w
    cases w with
    |cons a b=>
      cases a;exact .cons _ _ (ih _ b)
theorem zaC {l:OpenLaw}{n:Nat}(hn:l.most=some n){P:Params}{h:Heap}{args:List WData}{vals:List Value}
    (hpre:l.row.toRowW.claim.pre args=true) (hwl:WellAll P h vals args):
    ∃a vs ns,vals=[Value.ref a]/\args=[WData.list (ns.map WData.int)]/\h.get? a=some {cls:=.type "list",data:=.seq vs.toArray}/\IntsAre vs ns/\ns.length<=n:=by
  have hsh:WShape.hasAll [] args [.list .int]=true:=(pre_splitW hpre).1;have hc:l.pre.holds [] {args:=args}=true:=(pre_splitW hpre).2;obtain⟨d,r,rfl,h1,h2⟩:=hasAllW_cons hsh;obtain rfl:=hasAllW_nil h2;obtain⟨xs,rfl,h3⟩:=hasW_list h1;obtain⟨ns,rfl⟩:=items_int h3;have hlen:ns.length<=n:=by
    unfold OpenLaw.pre at hc;have h4:(WTm.not (.lt (.lit (.int (n:Int))) (.len (.arg 0)))).holds [] {args:=[.list (ns.map .int)]}=true:=by
      have h4:=(holds_andW hc).1;rw[hn]at h4;exact h4
    have h5:=condW_of h4 (w_not (w_lt w_lit (w_len_list (w_arg rfl))));rw[xaC]at h5;refine xcR fun q=>?_;have q':(n:Int)<((ns.length:Nat):Int):=by omega
    first
      |(rw[xbf q']at h5;exact absurd h5 (by decide))
      |(simp at h5;omega)
  cases hwl with
  |cons w1 w2=>
    cases w2
    cases w1 with
    |list ho hall=>exact⟨_,_,ns,rfl,rfl,ho,Tw ns _ hall,hlen⟩
theorem X5 (l:OpenLaw)(args:List WData):l.row.toRowW.claim.post args (.bool true) args=true:=
 postW_of (r:=l.row.toRowW) (X:=(true==true))
  (show WShape.has [] (.bool true) .bool=true by first |rfl |decide |simp[WShape.has,WShape.arms,WShape.armsAll])
  (show(WTm.eq .res (.lit (.bool true))).value [] {args:=args,res:=some (.bool true),after:=args}=some (.bool (true==true)) from w_eq_bool (w_res rfl) w_lit) rfl
theorem Qo {l:OpenLaw}{n:Nat}{q:Program}{loose:List Str}{XP:(Mgx)->Heap->Prop}{YP:World->Heap->Prop}{d:DefRec}
  (hn:l.most=some n) (hdf:d.params.defaults=[])
  (call:∀(w:World) (s₀ s₁:Shared) (mg mb:Mgx) (fa:Addr) (o:Obj) (pm cd doc:Value) (a:Addr) (vs:List Value) (ns:List Int),
   Ground q loose [] XP w s₀ mg mb s₁.heap->YP w s₁.heap->
   s₁.heap.get? fa=some o->o.data=.func (docDef d.name d.params d.body d.scope pm cd doc)->s₁.heap.CodeRec cd d.name->mg d.name=some (.ref fa)->
   s₁.heap.get? a=some {cls:=.type "list",data:=.seq vs.toArray}->IntsAre vs ns->ns.length<=n->s₁.gens= #[]->
   codeAny (model l.prog w) callerA (.call (.ref fa) ⟨[.ref a],[]⟩) (fun r s'=>r=.ok (.ret (.bool true))/\OldK s₁.heap s'.heap/\s'.os=s₁.os/\AllBare s'.gens) s₁):
  WalkO q loose XP YP l.row.toRowW d [] (fun f vs=>PySem.call f vs):=by
 intro w s₀ s₁ mg mb G Y fa o pm cd doc dV kV ho hd hcd hD hmg hg args vals as hpre hlay hrd hwl hlo;obtain rfl:dV=.none:=Dflts.none hD hdf;obtain rfl:kV=.none:=Dflts.noKw hD;obtain⟨a,vs,ns,rfl,rfl,hobj,hints,hlen⟩:=zaC hn hpre hwl;refine enter_call (xb3 (call w s₀ s₁ mg mb fa o pm cd doc a vs ns G Y ho (fd_plain hd) hcd hmg hobj hints hlen hg) fun r s' hq=>?_);obtain⟨rfl,h2,h3,h4⟩:=hq;exact⟨.inl ⟨.bool true,.bool true,[],rfl,fun _=>rfl,.bool true,X5 l _,fun _=>⟨List.Pairwise.nil,fun _ hm=>(nomatch hm)⟩⟩,h2,h3,h4⟩
end Att
namespace L2
open PySem PySem.Spec PyProof.Rows
theorem PK:∀{vs:List Value} {ns:List Int},IntsAre vs ns->Vals (ns.map V.int) vs
 |_,_,.nil=>.nil
 |_,_,.cons n t h=>.cons ⟨t,rfl⟩ (PK h)
def Only (H:Hp):Prop:=∀b,H b=none\/∃o xs,H b=some (.frz o (.lst xs))
theorem UL {P:Program}{w:World}{K:Fgx}{mg mb:Mgx}{CX:eV}{k:Nat}{fa a:Addr}{fd:FuncData}{x:Str}{sp:Sp}{s₁:Shared}{vs:List Value}{ns:List Int}
    (KX:K.In s₁.heap) (hns:s₁.heap.Ns mainGlobals mg) (hb:s₁.heap.Ns builtinsNs mb) (hbb:∀x:Str,x≠"__name__"->mb x=bootBuiltins x) (hlim:s₁.heap.NoLimit) (hg:s₁.gens= #[])
    (ha:s₁.heap.get? a=some {cls:=.type "list",data:=.seq vs.toArray}) (hi:IntsAre vs ns) (hl:ns.length<=sizeLine) (hr:Room k callerA)
    (F:∀base:Heap,K.In base->base.Ns mainGlobals mg->FnOk P w K mg base CX k fa fd [x] sp) (hbind:∀(s:Shared) (u:Value),BindsTo s fd ⟨[u],[]⟩ [(x,u)])
    (hsp:∀H:Hp,Only H->bI K H a (ns.map V.int)->sp [.ref a] H (fun v _=>v=.bl true) fun _ _ _=>False)
    (hCX:∀H e s',CX [] H s₁ (fun _ _ _=>False) e s'->False):
    codeAny (model P w) callerA (.call (.ref fa) ⟨[.ref a],[]⟩) (fun r s'=>r=.ok (.ret (.bool true))/\OldK s₁.heap s'.heap/\s'.os=s₁.os/\AllBare s'.gens) s₁:=by
  have rv:=PK hi;have lenV:=hi.length
  -- from an abstract heap in which nothing but the script may be tracked
  have core:∀H:Hp,Only H->bI K H a (ns.map V.int)->cC P w H s₁.heap->(∀b,H b≠none->b=a)->(H a≠none->K.lookup a=none)->
      codeAny (model P w) callerA (.call (.ref fa) ⟨[.ref a],[]⟩) (fun r s'=>r=.ok (.ret (.bool true))/\OldK s₁.heap s'.heap/\s'.os=s₁.os/\AllBare s'.gens) s₁:=by
    intro H hO hS hok hA hK;have base_of:∀{b:Addr} {o:Obj},s₁.heap.get? b=some o->H b=none->(fj s₁.heap H).get? b=some o:=fun e n=>Tf e n;have noA:∀{b:Addr} {o:Obj} {es:Array DictEntry} {ep:Nat},s₁.heap.get? b=some o->o.data=.dict es ep->H b=none:=fun {b o es ep} e d=>by
      cases q:H b with
      |none=>rfl
      |some u=>
        have e':b=a:=hA b (by rw[q];simp);subst e';rw[ha]at e;cases e;have d':Data.seq vs.toArray _=Data.dict es ep:=d;cases d'
    have nsK : ∀ {b : Addr} {m : Mgx}, s₁.heap.Ns b m -> (fj s₁.heap H).Ns b m := fun {b m} ⟨o, es, ep, e, d, r⟩ => ⟨o, es, ep, base_of e (noA e d), d, r⟩;have hKb : K.In (fj s₁.heap H) := fun b o e => base_of (KX b o e) (by
      cases q:H b with
      |none=>rfl
      |some u=>
        have e':b=a:=hA b (by rw[q];simp);subst e';rw[hK (by rw[q];simp)]at e;cases e)
    have hM:Mod K mg (fj s₁.heap H):=⟨hKb,nsK hns,⟨mb,nsK hb,hbb⟩,let ⟨mc,h1,h2⟩:=hlim;⟨mc,nsK h1,h2⟩⟩
    have e0:Env0 P w K mg (fj s₁.heap H) callerA [] s₁ H:=⟨rfl,hM,fun b o e=>Wj e,Nat.le_of_eq (Tg _ _),trivial,fun b hb=>absurd (show b∈([]:List Addr) from hb) (by simp),hok,.of_eq hg⟩;refine xb3 ((F _ hKb (nsK hns)).run callerA [] s₁ H ⟨[.ref a],[]⟩ [.ref a] [.ref a] _ _ hr e0 (hbind s₁ (.ref a)) (.cons rfl .nil) (hsp H hO hS)) fun r s' h=>?_
    cases r with
    |error e=>exact(hCX H e s' h).elim
    |ok fl=>
      cases fl with
      |next=>exact False.elim h
      |brk=>exact False.elim h
      |cont=>exact False.elim h
      |ret u=>
        obtain⟨v,H',os,bare,un,hok',r',q⟩:=h;have q':v=.bl true:=q;subst q';obtain rfl:u=Value.bool true:=r';refine⟨rfl,OldK.of_keep fun b o e=>?_,os,bare⟩
        cases q:H b with
        |none=>exact un.keep b o e q (by intro z;exact absurd (show b∈([]:List Addr) from z) (by simp)) (by simp)
        |some u=>
          rcases hO b with z |⟨ob,xs,z⟩
          · rw[q]at z;cases z
          · have z2:=un.frzs b ob _ z;obtain⟨e1,_⟩:=hok b _ z;obtain⟨e2,_⟩:=hok' b _ z2;rw[e]at e1;cases e1;exact e2
  cases hk:K.lookup a with
  |some o=>
    -- the script is one of the module's own objects
    have e:=KX a o hk;rw[ha]at e;cases e;refine core (fun _=>none) (fun _=>.inl rfl) (.inr ⟨_,vs.toArray,_,hk,rfl,rfl,rfl,by rw[xak,lenV];exact hl,by simpa using rv⟩) (fun b u z=>by have z':(none:Option HO)=some u:=z;cases z') (fun b z=>absurd rfl z) fun z=>absurd rfl z
  |none=>
    refine core (fun b=>if b=a then some (.frz {cls:=.type "list",data:=.seq vs.toArray} (.lst (ns.map V.int))) else none) (fun b=>?_) (.inl (.inr ⟨{cls:=.type "list",data:=.seq vs.toArray},xac rfl⟩)) (fun b u z=>?_) (fun b z=>?_) fun _=>hk
    · by_cases hb:b=a
      · exact .inr ⟨_,_,xac hb⟩
      · exact .inl (xag hb)
    · by_cases hb:b=a
      · have z':=(xac hb).symm.trans z;cases z';subst hb;exact⟨ha,by rw[xaC];exact hl,vs,_,rv,ha⟩
      · have z':=(xag hb).symm.trans z;cases z'
    · by_cases hb:b=a
      · exact hb
      · exact absurd (xag hb) z
theorem za4 {l:PySem.W.OpenLaw}{n k:Nat}{q:Program}{loose:List Str}{XP:(Mgx)->Heap->Prop}{YP:World->Heap->Prop}{d:DefRec}{K:Params->Fgx}{CX:World->eV}{sp:World->Sp}{x:Str}
  (hn:l.most=some n) (hn2:n<=sizeLine) (hdf:d.params.defaults=[]) (hr:Room k callerA)
  (hY:∀(w:World) (h:Heap),YP w h->(K w.params).In h)
  (F:∀(w:World) (mg:Mgx) (fa:Addr) (h:Heap),(K w.params).In h->h.Ns mainGlobals mg->mg d.name=some (.ref fa)->
   ∃fd:FuncData,(∀(s:Shared) (u:Value),BindsTo s fd ⟨[u],[]⟩ [(x,u)])/\
    ∀base:Heap,(K w.params).In base->base.Ns mainGlobals mg->FnOk l.prog w (K w.params) mg base (CX w) k fa fd [x] (sp w))
  (hsp:∀(w:World) (H:Hp) (a:Addr) (ns:List Int),ns.length<=n->Only H->bI (K w.params) H a (ns.map V.int)->sp w [.ref a] H (fun v _=>v=.bl true) fun _ _ _=>False)
  (hCX:∀(w:World) (H:Hp) (s:Shared) (e:Value) (s':Shared),CX w [] H s (fun _ _ _=>False) e s'->False):
  PySem.W.WalkO q loose XP YP l.row.toRowW d [] (fun f vs=>PySem.call f vs):=by
 refine Att.Qo hn hdf fun w s₀ s₁ mg mb fa o pm cd doc a vs ns G Y ho hd hcd hmg hobj hints hlen hg=>?_;have KX:=hY w _ Y;obtain⟨fd,hb,hF⟩:=F w mg fa _ KX G.T.g hmg;exact UL KX G.T.g G.T.b G.T.builtins G.T.nolimit hg hobj hints (xaD hlen hn2) hr hF hb (fun H hO hS=>hsp w H a ns hlen hO hS) fun H e s'=>hCX w H s₁ e s'
theorem zaN {l:PySem.W.OpenLaw}{n k:Nat}{q:Program}{loose:List Str}{XP:(Mgx)->Heap->Prop}{YP:World->Heap->Prop}{d:DefRec}{K:Params->Fgx}{CX:eV}{sp:Fgx->Sp}{x:Str}
  (hn:l.most=some n) (hn2:n<=sizeLine) (hdf:d.params.defaults=[]) (hr:Room k callerA)
  (hY:∀(w:World) (h:Heap),YP w h->(K w.params).In h)
  (F:∀(w:World) (mg:Mgx) (fa:Addr) (h:Heap),(K w.params).In h->h.Ns mainGlobals mg->mg d.name=some (.ref fa)->
   ∃fd:FuncData,(∀(s:Shared) (u:Value),BindsTo s fd ⟨[u],[]⟩ [(x,u)])/\
    ∀base:Heap,(K w.params).In base->base.Ns mainGlobals mg->FnOk l.prog w (K w.params) mg base CX k fa fd [x] (sp (K w.params)))
  (hsp:∀(K:Fgx) (H:Hp) (a:Addr) (ns:List Int),ns.length<=n->Only H->bI K H a (ns.map V.int)->sp K [.ref a] H (fun v _=>v=.bl true) fun _ _ _=>False)
  (hCX:∀(H:Hp) (s:Shared) (e:Value) (s':Shared),CX [] H s (fun _ _ _=>False) e s'->False):
  PySem.W.WalkO q loose XP YP l.row.toRowW d [] (fun f vs=>PySem.call f vs):=
 za4 (K:=K) (CX:=fun _=>CX) (sp:=fun w=>sp (K w.params)) hn hn2 hdf hr hY F (fun w H a ns h1 h2 h3=>hsp (K w.params) H a ns h1 h2 h3) fun _ H s e s'=>hCX H s e s'
noncomputable def fG (s:Stmt):Arguments:=match s with
 |.FunctionDef _ a _ _ _ _ _ _ _ _=>a
 |_=>{posonlyargs:=[],args:=[],vararg:=none,kwonlyargs:=[],kw_defaults:=[],kwarg:=none,defaults:=[]}
noncomputable def dD (s:Stmt):List Stmt:=match s with
 |.FunctionDef _ _ b _ _ _ _ _ _ _=>b
 |_=>[]
noncomputable def bw (s:Stmt):Scope:=match s with
 |.FunctionDef _ _ _ _ _ _ sc _ _ _=>sc
 |_=>{kind:=.function,names:=[],isGenerator:=false,isCoroutine:=false}
abbrev eG:eV:=fun _ _ _ _ _ _=>False
abbrev E0:XK:=fun _ _ _=>False
theorem W3:Passes eG X E0:=fun _ _ _ _ _ _ _ h=>h.elim
structure Fun (K:Fgx)(x qual:Str)(st:Stmt)(f:Addr)(fd:FuncData):Prop where
 ex:∃(oc:Value) (od:Option Addr) (kV doc pm:Value) (an:Option Addr) (cdv ct:Value) (osl:Array (Option Value)),
  fd=PySem.W.fnOf x qual (fG st) (dD st) (bw st) .none kV doc pm an cdv ct/\K.lookup f=some ⟨oc,od,.func fd,osl⟩/\PySem.W.codeIn K cdv qual=true
 kp:PySem.W.keepIn K (.ref f)=true
section
variable {P:Program}{w:World}{K:Fgx}{mg:Mgx}{base:Heap}
theorem Fun.binds {x qual:Str}{st:Stmt}{f:Addr}{fd:FuncData}{ps:List Str}(F:Fun K x qual st f fd)
  (h:∀(kV doc pm:Value) (an:Option Addr) (cdv ct:Value) (us:List Value),us.length=ps.length->bindArgs (PySem.W.fnOf x qual (fG st) (dD st) (bw st) .none kV doc pm an cdv ct) ⟨us,[]⟩=pure (ps.zip us)):Binds K fd ps []:=by
 obtain⟨oc,od,kV,doc,pm,an,cdv,ct,osl,rfl,lk,hcd⟩:=F.ex;exact .all (h kV doc pm an cdv ct)
theorem Ec {x qual:Str}{st:Stmt}{f:Addr}{oc:Value}{od an:Option Addr}{osl:Array (Option Value)}{kV doc pm cdv ct:Value}(l:K.lookup f=some ⟨oc,od,.func (PySem.W.fnOf x qual (fG st) (dD st) (bw st) .none kV doc pm an cdv ct),osl⟩)
  (c:PySem.W.codeIn K cdv qual=true) (k:PySem.W.keepIn K (.ref f)=true):Fun K x qual st f (PySem.W.fnOf x qual (fG st) (dD st) (bw st) .none kV doc pm an cdv ct):=⟨⟨oc,od,kV,doc,pm,an,cdv,ct,osl,rfl,l,c⟩,k⟩
end
def Same (H H':Hp):Prop:=∀b o,H b=some o->H' b=some o
theorem Same.refl (H:Hp):Same H H:=fun _ _ h=>h
theorem Same.free (e:Same H H')(h:H' l=Option.none):H l=Option.none:=by
  cases q:H l with
  |none=>rfl
  |some o=>
    rw[e l o q]at h;cases h
end L2
set_option maxHeartbeats 0
namespace L2
open PySem PySem.Spec PyProof.Rows
section
variable {κ:Type}[DecidableEq κ]
noncomputable def bR (kvs:List (κ×V)) (k:κ):Option V:=(kvs.find? fun kv=>decide (kv.1=k)).map (·.2)
noncomputable def putK (kvs:List (κ×V)) (k:κ) (v:V):List (κ×V):=
 if (kvs.any fun kv=>decide (kv.1=k))=true then kvs.map (fun kv=>if kv.1=k then(kv.1,v) else kv) else kvs ++ [(k,v)]
theorem Bt {p:κ×V}{r:List (κ×V)}{k:κ}(e:p.1=k):bR (p::r) k=some p.2:=by simp[bR,xaK,e]
theorem Bs {p:κ×V}{r:List (κ×V)}{k:κ}(e:¬ p.1=k):bR (p::r) k=bR r k:=by simp[bR,xaK,e]
theorem PB (k:κ):∀kvs:List (κ×V),(kvs.any fun kv=>decide (kv.1=k))=(bR kvs k).isSome
  | []=>rfl
  |p::r=>by
    rw[xbl]
    by_cases e:p.1=k
    · simp only[Bt e,xbf e,Bool.true_or,Option.isSome_some]
    · rw[Bs e,xaE e,Bool.false_or];exact PB k r
theorem Fi (kvs:List (κ×V))(k:κ)(v:V):(putK kvs k v).length<=kvs.length + 1:=by
 unfold putK
 split
 ·rw[xaC];omega
 ·rw[xax,xaz,xct];omega
theorem cN.isSome_eq (r:cN o u):o.isSome=u.isSome:=by
  cases o with
  |none=>cases u with
    |none=>rfl
    |some _=>exact(show False from r).elim
  |some _=>cases u with
    |none=>exact(show False from r).elim
    |some _=>rfl
theorem cN.getD (r:cN o u)(rd:RelV d d'):RelV (o.getD d) (u.getD d'):=by
  cases o with
  |none=>cases u with
    |none=>exact rd
    |some _=>exact(show False from r).elim
  |some _=>cases u with
    |none=>exact(show False from r).elim
    |some _=>exact r
theorem KV.val {kvs:List (κ×V)}{vs:List (κ×Value)}(r:KV kvs vs)(k:κ):cN (bR kvs k) (valueAt vs k):=by
  unfold KV at r
  induction r with
  |nil=>exact True.intro
  | @cons p q ps qs h t ih=>
    obtain⟨h1,h2⟩:=h
    by_cases e:p.1=k
    · have e':q.1=k:=h1.symm.trans e;have b:valueAt (q::qs) k=some q.2:=by simp[valueAt,xaK,e']
      rw[Bt e,b];exact h2
    · have e':¬ q.1=k:=fun z=>e (h1.trans z);have b:valueAt (q::qs) k=valueAt qs k:=by simp[valueAt,xaK,e']
      rw[Bs e,b];exact ih
theorem KV.any (r:KV kvs vs)(k:κ):(kvs.any fun kv=>decide (kv.1=k))=vs.any fun kv=>decide (kv.1=k):=by
 unfold KV at r
 induction r with
 |nil=>rfl
 |cons h t ih=>rw[xbl,xbl,ih,h.1]
theorem KV.repl (r:KV kvs vs)(k:κ)(ry:RelV y u):
    KV (kvs.map fun kv=>if kv.1=k then(kv.1,y) else kv) (vs.map fun kv=>if kv.1=k then(kv.1,u) else kv):=by
  unfold KV at r ⊢
  induction r with
  |nil=>exact .nil
  | @cons p q ps qs h t ih=>
    rw[xam,xam];refine .cons ?_ ih;obtain⟨h1,h2⟩:=h
    by_cases e:p.1=k
    · rw[xac e,xac (h1.symm.trans e)];exact⟨h1,ry⟩
    · rw[xag e,xag (fun z=>e (h1.trans z))];exact⟨h1,h2⟩
theorem KV.put (r:KV kvs vs)(k:κ)(ry:RelV y u):KV (putK kvs k y) (stored vs k u):=by
 unfold putK stored;rw[r.any k]
 by_cases e:(vs.any fun kv=>decide (kv.1=k))=true
 ·rw[xac e,xac e];exact r.repl k ry
 ·rw[xag e,xag e];exact Paired.snoc r ⟨rfl,ry⟩
theorem KV.keys {kvs:List (κ×V)}{vs:List (κ×Value)}(r:KV kvs vs):kvs.map (·.1)=vs.map (·.1):=by
 unfold KV at r
 induction r with
 |nil=>rfl
 |cons h t ih=>rw[xam,xam,ih,h.1]
theorem KV.length (r:KV kvs vs):kvs.length=vs.length:=xcG r
end
theorem tQ (r:RelV (kV k) u):(dZ P w).is k u=true:=by
 cases k with
 |inl i=>obtain⟨t,e⟩:=(show ∃t,u=Value.int i t from r);subst e;exact Vd P w i t
 |inr x=>obtain⟨t,e⟩:=(show ∃t,u=Value.str x t from r);subst e;exact Ve P w x t
theorem KH:∀{ks:List Key} {us:List Value},Vals (ks.map kV) us->ItemsAre (dZ P w) ks us
  | [],_,r=>by rw[xbx]at r;cases r;exact .nil
  |k::ks,_,r=>by
    rw[xam]at r
    cases r with
    |cons h t=>exact .cons (tQ h) (KH t)
abbrev KT (H:Hp):List (List Key×V)->List (List Key×Addr×Value)->Prop:=Paired fun p q=>p.1=q.1/\H q.2.1=some (.tup (p.1.map kV))/\RelV p.2 q.2.2
theorem KT.val {H:Hp}{kvs:List (List Key×V)}{xs:List (List Key×Addr×Value)}(r:KT H kvs xs)(k:List Key):cN (bR kvs k) ((atKey xs k).map (·.2)):=by
  induction r with
  |nil=>exact True.intro
  | @cons p q ps qs h t ih=>
    obtain⟨h1,_,h2⟩:=h
    by_cases e:p.1=k
    · have e':q.1=k:=h1.symm.trans e;have b:atKey (q::qs) k=some q.2:=by simp[atKey,xaK,e']
      rw[Bt e,b];exact h2
    · have e':¬ q.1=k:=fun z=>e (h1.trans z);have b:atKey (q::qs) k=atKey qs k:=by simp[atKey,xaK,e']
      rw[Bs e,b];exact ih
theorem KT.repl (r:KT H kvs xs)(k:List Key)(ry:RelV y u):
    KT H (kvs.map fun kv=>if kv.1=k then(kv.1,y) else kv) (xs.map (putAt k u)):=by
  induction r with
  |nil=>exact .nil
  | @cons p q ps qs h t ih=>
    rw[xam,xam];refine .cons ?_ ih;obtain⟨h1,h2,h3⟩:=h;unfold putAt
    by_cases e:p.1=k
    · rw[xac e,xac (h1.symm.trans e)];exact⟨h1,h2,ry⟩
    · rw[xag e,xag (fun z=>e (h1.trans z))];exact⟨h1,h2,h3⟩
theorem KT.put (r:KT H kvs xs)(k:List Key)(hb:H b=some (.tup (k.map kV)))(ry:RelV y u):
  KT H (putK kvs k y) (storedH xs k b u):=by
 have e:(kvs.any fun kv=>decide (kv.1=k))=(atKey xs k).isSome:=by
  rw[PB,(r.val k).isSome_eq,Option.isSome_map]
 unfold putK storedH;rw[e]
 by_cases q:(atKey xs k).isSome=true
 ·rw[xac q,xac q];exact r.repl k ry
 ·rw[xag q,xag q];exact Paired.snoc r ⟨rfl,hb,ry⟩
theorem KT.keeps (r:KT H kvs xs)(ht:∀b ys,H b=some (.tup ys)->H' b=some (.tup ys)):KT H' kvs xs:=
 Paired.mapP r fun _ _ z=>⟨z.1,ht _ _ z.2.1,z.2.2⟩
section
variable {P:Program}{w:World}{H:Hp}{h:Heap}{a:Addr}
theorem MN (ok:cC P w H h)(e:Rd H a u):cG P w H h a u:=e.ok ok
theorem nG (ok:cC P w H h)(e:Rd H a (.dK kvs)):kvs.length<=sizeLine/\(a==sysModules)=false/\∃vs,KV kvs vs/\h.DictOf (dZ P w) a vs:=
 show cG P w H h a (.dK kvs) from MN ok e
theorem J2 (ok:cC P w H h)(e:H a=some (.dK kvs)):kvs.length<=sizeLine/\(a==sysModules)=false/\∃vs,KV kvs vs/\h.DictOf (dZ P w) a vs:=nG ok (.inl e)
theorem zF (ok:cC P w H h)(e:H a=some (.tup (ks.map kV))):(tupleKind (dZ P w)).is h ks a:=by
 obtain⟨_,its,r,o,h1,h2,n,h3⟩:=(show cG P w H h a (.tup (ks.map kV)) from ok a _ e);exact⟨o,its.toArray,n,h1,h2,h3,by simpa using KH r⟩
theorem vd (ok:cC P w H h)(e:Rd H a (.dT kvs)):kvs.length<=sizeLine/\(a==sysModules)=false/\
    ∃xs,KT H kvs xs/\h.DictOfH (tupleKind (dZ P w)) a xs:=by
  obtain⟨z,y,xs,r,o,es,ep,h1,h2,h3,h4,h5⟩:=(show cG P w H h a (.dT kvs) from MN ok e);refine⟨z,y,xs,r,o,es,ep,h1,h2,h3,h4,fun x hx=>?_,h5⟩;have all:∀{l:List (List Key×V)} {m:List (List Key×Addr×Value)},KT H l m->∀x∈m,(tupleKind (dZ P w)).is h x.1 x.2.1:=by
    intro l m q
    induction q with
    |nil=>intro x hx;exact nomatch hx
    | @cons p q ps qs hq t ih=>
      intro x hx;rcases xas.mp hx with e |hx
      · subst e;exact zF ok (by rw[<-hq.1];exact hq.2.1)
      · exact ih x hx
  exact all r x hx
theorem RM (ok:cC P w H h)(e:H a=some (.dT kvs)):kvs.length<=sizeLine/\(a==sysModules)=false/\
  ∃xs,KT H kvs xs/\h.DictOfH (tupleKind (dZ P w)) a xs:=vd ok (.inl e)
end
def eX (H:Hp)(a:Addr)(y:V)(r:Option V):Prop:=
 (∃kvs k,Rd H a (.dK kvs)/\y=kV k/\r=bR kvs k)\/∃kvs k b,Rd H a (.dT kvs)/\y=.ref b/\H b=some (.tup (k.map kV))/\r=bR kvs k
def iQ (H:Hp)(a:Addr)(y v:V)(H':Hp):Prop:=
 (∃kvs k,H a=some (.dK kvs)/\y=kV k/\kvs.length<sizeLine/\H'=upd H a (.dK (putK kvs k v)))\/
 ∃kvs k b,H a=some (.dT kvs)/\y=.ref b/\H b=some (.tup (k.map kV))/\kvs.length<sizeLine/\H'=upd H a (.dT (putK kvs k v))
theorem eX.k {H:Hp}{a:Addr}{kvs:List (Key×V)}{k:Key}(e:H a=some (.dK kvs)):eX H a (kV k) (bR kvs k):=.inl ⟨kvs,k,.inl e,rfl,rfl⟩
theorem iQ.k {H:Hp}{a:Addr}{kvs:List (Key×V)}{k:Key}{v:V}(e:H a=some (.dK kvs))(hl:kvs.length<sizeLine):iQ H a (kV k) v (upd H a (.dK (putK kvs k v))):=.inl ⟨kvs,k,e,rfl,hl,rfl⟩
section
variable {X:Cx}{pins:Pnx}{σ:St}{H:Hp}{s:Shared}{a:Addr}{y v:V}{u r:Value}{o:Option V}{A:Around}{E:Value->Shared->Prop}
theorem Inv.big (I:Inv X pins σ H s):sysModules<s.heap.objs.size:=by
 have h:mainGlobals<s.heap.objs.size:=(I.mod.glob.keeps I.bk).lt;exact xdt (by decide) h
theorem Rx (hu:A.units + 1<cLine)(I:Inv X pins σ H s)(g:eX H a y (some v))(ry:RelV y u)(h:∀w' s',Inv X pins σ H s'->RelV v w'->Q w' s'):
  wpAny (model X.prog X.w) A (getItem (.ref a) u) Q E s:=by
 rcases g with⟨kvs,k,e,ey,l⟩ |⟨kvs,k,b,e,ey,eb,l⟩
 ·subst ey;obtain⟨z,hd,vs,rel,dd⟩:=nG I.hok e;obtain⟨w',hw,rw'⟩:=cN.some_of (v:=v) (o:=valueAt vs k) (by rw[l];exact rel.val k);exact wpAny_getItem_of (tQ ry) dd.mapOf hw (h w' _ (I.tok _) rw')
 ·subst ey;cases (show u=Value.ref b from ry);obtain⟨z,hd,xs,rel,dd⟩:=vd I.hok e;obtain⟨w',hw,rw'⟩:=cN.some_of (v:=v) (o:=(atKey xs k).map (·.2)) (by rw[l];exact rel.val k);obtain⟨p,hp,hp2⟩:=xae.mp hw;refine wpAny_getItem_heap (xcE hu) (zF I.hok eb) dd hp ?_;rw[hp2];exact h w' _ (I.tok _) rw'
theorem Dr (I:Inv X pins σ H s)(mu:uL (H a))(hs:Heap.SameBut a s.heap h')(he:∃q,h'.get? a=some q)(new:cG X.prog X.w (upd H a ob) h' a ob):
  Inv X pins σ (upd H a ob) {s with heap:=h',toks:=t'}:=
 I.write (x:=a) (e:=a) mu (.inl rfl) (fun b q hb z=>(hs.2 b hb).trans z) he new
theorem zf (z:kvs.length<=sizeLine)(hd:(a==sysModules)=false)(rel:KV kvs vs)(dd:h'.DictOf (dZ P w) a vs):
  cG P w H' h' a (.dK kvs):=⟨z,hd,vs,rel,dd⟩
theorem Rz (hu:A.units + 1<cLine)(I:Inv X pins σ H s)(g:iQ H a y v H')(ry:RelV y u)(rv:RelV v r)(h:∀s',Inv X pins σ H' s'->Q () s'):
  wpAny (model X.prog X.w) A (setItem (.ref a) u r) Q E s:=by
 rcases g with⟨kvs,k,e,ey,l,eH⟩ |⟨kvs,k,b,e,ey,eb,l,eH⟩
 ·subst ey eH;obtain⟨z,hd,vs,rel,dd⟩:=J2 I.hok e;have hz:vs.length<=sizeLine:=by rw[<-rel.length];exact z
  have hl:(putK kvs k v).length<=sizeLine:=by have:=Fi kvs k v;omega
  refine wpAny_setItem_pairs (hsz:=hz) (tQ ry) dd fun h' dd' hs=>h _ ?_;have he:∃q,h'.get? a=some q:=let ⟨q,_,_,hq,_⟩:=dd';⟨q,hq⟩
  exact Dr I (by rw[e];exact True.intro) hs he (zf hl hd (rel.put k rv) dd')
 ·subst ey eH;cases (show u=Value.ref b from ry);obtain⟨z,hd,xs,rel,dd⟩:=RM I.hok e;have hz:xs.length<=sizeLine:=by rw[<-xcG rel];exact z
  have hl:(putK kvs k v).length<=sizeLine:=by have:=Fi kvs k v;omega
  refine wpAny_setItem_heap (hsz:=hz) (xcE hu) (zF I.hok eb) dd fun h' dd' hs=>h _ ?_;obtain⟨q,es,ep,hq,h2,h3,h4,_,h5⟩:=dd';refine Dr I (by rw[e];exact True.intro) hs ⟨q,hq⟩ ⟨hl,hd,_,(rel.put k eb rv).keeps fun c ys ec=>?_,q,es,ep,hq,h2,h3,h4,h5⟩;rw[aP (Vj ec e (fun z=>nomatch z))]
  exact ec
end
def oJ (i:Expr):Prop:=∀ov iv,subscripted i false ov iv=operate [ov,iv] (getItem ov iv)
theorem zbz {prog:Program}{w:World}{A:Around}{E:Value->Shared->Prop}{s:Shared}{env:Env}{value slice:Expr}{pos:Pos}{T id:String}{Q:Value->Shared->Prop}
  (hl:typeLookup (.type T) "__getitem__"=pure (some (.builtin id))) (hs:oJ slice)
  (h:wpAny (model prog w) A (eval value env) (fun o s₁=>wpAny (model prog w) A (eval slice env) (fun i s₂=>s₂.TypeIs o T/\wpAny (model prog w) A (getItem o i) Q E s₂) E s₁) E s):
  wpAny (model prog w) A (eval (.Subscript value slice pos) env) Q E s:=by
 refine Subscript_ (xaH h (fun o s₁ h₁=>xaH h₁ (fun i s₂ h₂=>?_) fun _ _ x=>x) fun _ _ x=>x);obtain⟨hT,h₂⟩:=h₂;unfold subscriptTail;refine xaa ?_;rw[getitemInPython_of_ne hT.not_modules];refine xaa (wpAny_specialOf hT hl ?_);have fin:wpAny (model prog w) A (subscripted slice false o i) (fun r s₃=>wpAny (model prog w) A (letTemporaryGo value o r >>=fun _=>pure r) Q E s₃) E s₂:=by
  rw[hs o i];exact wpAny_operating (xaH h₂ (fun r s₃ h₃=>xaa (wpAny_letTemporaryGo (xaj h₃))) fun _ _ x=>x)
 first
  |exact xaj (xaa fin)
  |exact xaa (xaj (xaa fin))
  |exact xaa fin
theorem RJ (I:Inv X pins σ H s)(g:eX H a y o):s.TypeIs (.ref a) "dict":=by
 rcases g with⟨kvs,k,e,_,_⟩ |⟨kvs,k,b,e,_,_,_⟩
 ·obtain⟨_,_,vs,_,dd⟩:=nG I.hok e;exact dd.typeIs
 ·obtain⟨_,_,xs,_,dd⟩:=vd I.hok e;exact dd.typeIs
noncomputable def zcA (td ty:TE):TE:=fun σ H Q=>td σ H fun x H1=>ty σ H1 fun y H2=>∃a v,x=.ref a/\eX H2 a y (some v)/\Q v H2
noncomputable def zdc (td ty tv:TE):TS:=fun D σ H=>tv σ H fun v H1=>td σ H1 fun x H2=>ty σ H2 fun y H3=>∃a H4,x=.ref a/\iQ H3 a y v H4/\D.nx σ H4
section
variable {X:Cx}{o i e value:Expr}{pos pos' tpos:Pos}{td ty tv:TE}
theorem Xc (hu:X.A.units + 1<cLine)(ho:PE X o td)(hi:PE X i ty)(hs:oJ i):PE X (.Subscript o i pos) (zcA td ty):=by
 intro pins s σ H Q I h;refine zbz PySem.F.slot_dict_getitem.lookup hs (aL (ho pins s σ H _ I h) fun u s1 ⟨x,H1,I1,rx,q1⟩=>aL (hi pins s1 σ H1 _ I1 q1) fun iv s2 ⟨y,H2,I2,ry,a,v,ex,g,q2⟩=>?_);subst ex;obtain rfl:u=Value.ref a:=rx;exact⟨RJ I2 g,Rx hu I2 g ry fun w' s3 I3 rw'=>⟨v,H2,I3,rw',q2⟩⟩
theorem X8 (hu:X.A.units + 1<cLine)(ho:PE X o td)(hi:PE X i ty)(hv:PE X value tv)(hs:swapsWith value (some (.Subscript o i pos')) pos.line X.env=pure false):
  PS X (.Assign [.Subscript o i pos'] value pos) (zdc td ty tv):=by
 intro pins s σ H D I h;refine wpAny_Assign_Subscript (aL (hv pins s σ H _ I h) fun r s1 ⟨v,H1,I1,rv,q1⟩=>aL (ho pins s1 σ H1 _ I1 q1) fun u s2 ⟨x,H2,I2,rx,q2⟩=>aL (hi pins s2 σ H2 _ I2 q2) fun iv s3 ⟨y,H3,I3,ry,a,H4,ex,g,q3⟩=>?_) hs;subst ex;obtain rfl:u=Value.ref a:=rx;exact Rz hu I3 g ry rv fun s4 I4=>⟨σ,H4,I4,q3⟩
end
theorem J1 (h:Heap)(hb:sysModules<h.objs.size):cG P w H (h.push {cls:=.type "dict",data:=.dict #[]}) h.objs.size (.dK []):=
 ⟨xbc _,xba.mpr (xaP (xap hb)),[],.nil,Heap.DictOf.new h⟩
def zbZ:TE:=fun _ H Q=>∀p,H p=none->Q (.ref p) (upd H p (.dK []))
section
variable {X:Cx}{pos:Pos}
theorem Xe:PE X (.Dict [] [] pos) zbZ:=fun pins s σ H Q I h=>
 wpAny_Dict_empty ⟨.ref s.heap.objs.size,_,I.laid (a:=s.heap.objs.size) (o:=.dK []) (t':=s.toks) (fun _ _ q=>xab _ q) (xaf _) (J1 s.heap I.big),rfl,h _ (I.hok.fresh (xaf _))⟩
end
noncomputable def Bp:List (TE×TE)->St->Hp->(List (V×V)->Hp->Prop)->Prop
 | [],_,H,Q=>Q [] H
 |(tk,tv)::r,σ,H,Q=>tk σ H fun x H1=>tv σ H1 fun y H2=>Bp r σ H2 fun ps H3=>Q ((x,y)::ps) H3
abbrev VV:List (V×V)->List (Value×Value)->Prop:=Paired fun p q=>RelV p.1 q.1/\RelV p.2 q.2
def uN (X:Cx)(pos:Pos)(keys:List (Option Expr))(values:List Expr)(trs:List (TE×TE)):Prop:=
 ∀(pins:Pnx) (s:Shared) (σ:St) (H:Hp) (Q:List (V×V)->Hp->Prop),Inv X pins σ H s->Bp trs σ H Q->
  wpAny (model X.prog X.w) X.A (evalPairs (pairTrees keys values X.env pos)) (fun vs s'=>∃ps H',Inv X pins σ H' s'/\VV ps vs/\Q ps H') X.xe s
theorem X7:uN X pos [] [] []:=fun pins s σ H Q I h=>pairTrees_nil_walk ⟨[],H,I,.nil,h⟩
theorem X6 (hk:PE X k tk)(hv:PE X v tv)(hr:uN X pos ks vs trs):
  uN X pos (some k::ks) (v::vs) ((tk,tv)::trs):=fun pins s σ H Q I h=>
 pairTrees_cons_walk (aL (hk pins s σ H _ I h) fun u s1 ⟨x,H1,I1,rx,q1⟩=>aL (hv pins s1 σ H1 _ I1 q1) fun w2 s2 ⟨y,H2,I2,ry,q2⟩=>
  aL (hr pins s2 σ H2 _ I2 q2) fun ws s3 ⟨ps,H3,I3,rel,q3⟩=>⟨(x,y)::ps,H3,I3,.cons ⟨rx,ry⟩ rel,q3⟩)
noncomputable def nQ (kvs more:List (Key×V)):List (Key×V):=more.foldl (fun acc kv=>putK acc kv.1 kv.2) kvs
theorem KV.merge:∀{more:List (Key×V)} {rs:List (Key×Value)} {kvs:List (Key×V)} {vs:List (Key×Value)},KV more rs->KV kvs vs->KV (nQ kvs more) (merged vs rs):=by
  intro more rs kvs vs r;unfold KV at r
  induction r generalizing kvs vs with
  |nil=>intro q;exact q
  | @cons p q ps qs h t ih=>
    intro r0;have e:KV (putK kvs p.1 p.2) (stored vs q.1 q.2):=by
      have:=r0.put p.1 h.2;rw[<-h.1];exact this
    exact ih e
theorem K6:∀(more kvs:List (Key×V)),(nQ kvs more).length<=kvs.length + more.length
  | [],kvs=>by show kvs.length<=kvs.length + 0;omega
  |p::r,kvs=>by
    have h1:=K6 r (putK kvs p.1 p.2);have h2:=Fi kvs p.1 p.2;show(nQ (putK kvs p.1 p.2) r).length<=_;rw[xaz];omega
theorem Jt:∀{kvs:List (Key×V)} {ws:List (Value×Value)},VV (kvs.map fun kv=>(kV kv.1,kv.2)) ws->∃rs,Carries (dZ P w) ws rs/\KV kvs rs
  | [],_,r=>by rw[xbx]at r;cases r;exact⟨[],True.intro,.nil⟩
  |p::kvs,_,r=>by
    rw[xam]at r
    cases r with
    | @cons a b as bs h t=>
      obtain⟨rs,c,q⟩:=Jt (P:=P) (w:=w) t;obtain⟨b1,b2⟩:=b;exact⟨(p.1,b2)::rs,⟨tQ h.1,rfl,c⟩,.cons ⟨rfl,h.2⟩ q⟩
noncomputable def zcP (trs:List (TE×TE)):TE:=fun σ H Q=>∀p,H p=none->Bp trs σ (upd H p (.dK [])) fun ps H2=>H2 p=some (.dK [])/\∃kvs:List (Key×V),ps=kvs.map (fun kv=>(kV kv.1,kv.2))/\kvs.length<=15/\Q (.ref p) (upd H2 p (.dK (nQ [] kvs)))
theorem Xd (h:uN X pos keys values trs)(hall:keys.all (·.isSome)=true)(hl:keys.length=values.length)(h0:keys≠ [])
  (h15:keys.length<=15):PE X (.Dict keys values pos) (zcP trs):=by
 intro pins s σ H Q I q;have hn:=I.hok.fresh (xaf s.heap.objs.size);have I1:=I.laid (a:=s.heap.objs.size) (o:=.dK []) (h':=s.heap.push {cls:=.type "dict",data:=.dict #[]}) (t':=s.toks) (fun _ _ q=>xab _ q) (xaf _) (J1 s.heap I.big);refine wpAny_Dict_walk (knd:=dZ X.prog X.w) hall hl h0 h15 (aL (h pins _ σ _ _ I1 (q _ hn)) fun ws s2 ⟨ps,H2,I2,rel,e,kvs,ep,lk,q2⟩=>?_);subst ep;obtain⟨rs,c,rk⟩:=Jt (P:=X.prog) (w:=X.w) rel;obtain⟨z,hd,vs0,r0,dd⟩:=J2 I2.hok e;cases r0;refine⟨rs,c,dd,fun h' dd' hs=>⟨.ref s.heap.objs.size,_,?_,rfl,q2⟩⟩;have hz:(nQ [] kvs).length<=sizeLine:=by
  have h1:=K6 kvs [];rw[xct]at h1;rw[xaw];omega
 have he:∃q,h'.get? s.heap.objs.size=some q:=let ⟨q,_,_,hq,_⟩:=dd';⟨q,hq⟩
 exact Dr I2 (by rw[e];exact True.intro) hs he (zf hz hd (rk.merge .nil) dd')
structure M1 (X:Cx)(o:Expr)(m:Str)(apos:Pos)(e:Expr)(cpos:Pos):Prop where
 base:attributeBase o m X.env (eval o X.env)=eval o X.env
 few : ((backTo cpos (starEach [e] X.env)).all (fun x=> !x.1) && (backToKw cpos (keywordEach [] X.env)).all (fun x=>x.1.isSome)
  && decide (([e]:List Expr).length + ([]:List Keyword).length + (if ([]:List Keyword).isEmpty then 0 else 1)<30))=true
 line:(apos.endLine==cpos.line)=true
 trees:backTo cpos (starEach [e] X.env)=[(false,eval e X.env)]
structure M2 (X:Cx)(o:Expr)(m:Str)(apos:Pos)(e f:Expr)(cpos:Pos):Prop where
 base:attributeBase o m X.env (eval o X.env)=eval o X.env
 few : ((backTo cpos (starEach [e,f] X.env)).all (fun x=> !x.1) && (backToKw cpos (keywordEach [] X.env)).all (fun x=>x.1.isSome)
  && decide (([e,f]:List Expr).length + ([]:List Keyword).length + (if ([]:List Keyword).isEmpty then 0 else 1)<30))=true
 line:(apos.endLine==cpos.line)=true
 trees:backTo cpos (starEach [e,f] X.env)=[(false,eval e X.env),(false,eval f X.env)]
def Iw (H:Hp)(a:Addr):Prop:=(∃kvs,Rd H a (.dK kvs))\/∃kvs,Rd H a (.dT kvs)
theorem TF (I:Inv X pins σ H s)(d:Iw H a):
  s.TypeIs (.ref a) "dict"/\(∀b,Value.ref a=.ref b->∃ob,s.heap.get? b=some ob/\ob.dict=none)/\(a==sysModules)=false:=by
 rcases d with⟨kvs,e⟩ |⟨kvs,e⟩
 ·obtain⟨_,hd,vs,_,dd⟩:=nG I.hok e;refine⟨dd.typeIs,fun b q=>?_,hd⟩;cases q;obtain⟨ob,_,_,h1,h2,_⟩:=dd;exact⟨ob,h1,h2.2.1⟩
 ·obtain⟨_,hd,xs,_,dd⟩:=vd I.hok e;refine⟨dd.typeIs,fun b q=>?_,hd⟩;cases q;obtain⟨ob,_,_,h1,h2,_⟩:=dd;exact⟨ob,h1,h2.2.1⟩
section
variable {X:Cx}{pins:Pnx}{σ:St}{H:Hp}{s:Shared}{a:Addr}{y d:V}{u r:Value}{o:Option V}{A:Around}{E:Value->Shared->Prop}
theorem Ru (hu:A.units + 1<cLine)(I:Inv X pins σ H s)(g:eX H a y o)(ry:RelV y u)(rd:RelV d r)(h:∀w' s',Inv X pins σ H s'->RelV (o.getD d) w'->Q w' s'):
  wpAny (model X.prog X.w) A (call (.builtin "dict.get") [.ref a,u,r]) Q E s:=by
 rcases g with⟨kvs,k,e,ey,l⟩ |⟨kvs,k,b,e,ey,eb,l⟩
 ·subst ey;obtain⟨z,hd,vs,rel,dd⟩:=nG I.hok e;refine call_meetsIn xco dd.typeIs xda (xcZ _ _ _) (meets_dict_get_default (dZ X.prog X.w) a (tQ ry) hd r) ⟨_,dd.mapOf,h _ _ (I.tok _) ?_⟩;rw[l];exact(rel.val k).getD rd
 ·subst ey;cases (show u=Value.ref b from ry);obtain⟨z,hd,xs,rel,dd⟩:=vd I.hok e;refine call_meetsIn xco dd.typeIs xda (xcZ _ _ _) (meetsH_dict_get_default (tupleKind (dZ X.prog X.w)) a b hd r) ⟨xcE hu,k,xs,zF I.hok eb,dd,h _ _ (I.tok _) ?_⟩;rw[l];exact(rel.val k).getD rd
end
noncomputable def zbJ (td ty tx:TE):TE:=fun σ H Q=>td σ H fun x H1=>∃a,x=.ref a/\Iw H1 a/\ty σ H1 fun y H2=>tx σ H2 fun z H3=>∃o,eX H3 a y o/\Q (o.getD z) H3
section
variable {X:Cx}{o e f:Expr}{apos cpos:Pos}{td ty tx:TE}
theorem Mg (hu:X.A.units + 1<cLine)(ho:PE X o td)(he:PE X e ty)(hf:PE X f tx)(m:M2 X o "get" apos e f cpos):PE X (.Call (.Attribute o "get" apos) [e,f] [] cpos) (zbJ td ty tx):=by
 intro pins s σ H Q I h;refine wpAny_Call_method m.base m.few m.line xc1 xco PySem.F.type_dict_get (aL (ho pins s σ H _ I h) fun u s1 ⟨x, H1, I1, rx, a, ex, d, q1⟩ => ?_);subst ex;obtain rfl : u = Value.ref a := rx;obtain ⟨t1, t2, _⟩ := TF I1 d;refine ⟨t1, t2, ?_⟩;rw [m.trees];refine xcf rfl (Calls.evalArgs_plain (xcD (aL (he pins s1 σ H1 _ I1 q1) fun iv s2 ⟨y,H2,I2,ry,q2⟩=>
  xcD (aL (hf pins s2 σ H2 _ I2 q2) fun fv s3 ⟨z,H3,I3,rz,ov,g,q3⟩=>Calls.spliced_nil ?_))))
 exact Ru hu I3 g ry rz fun w' s4 I4 rw'=>⟨_,H3,I4,rw',q3⟩
end
section
variable {X:Cx}{pins:Pnx}{σ:St}{H:Hp}{s:Shared}{a:Addr}{kvs:List (Key×V)}{A:Around}{E:Value->Shared->Prop}
theorem Rr (I:Inv X pins σ H s)(e:Rd H a (.dK kvs))(h:∀p s',H p=none->Inv X pins σ (upd H p (.dK kvs)) s'->Q (.ref p) s'):wpAny (model X.prog X.w) A (call (.type "dict") [.ref a]) Q E s:=by
 obtain⟨z,hd,vs,rel,dd⟩:=nG I.hok e;refine kt_call_dict hd dd (by rw[<-rel.length];exact z) fun h' dd' hs=>?_;refine h _ _ (I.hok.fresh (xaf _)) (I.laid (a:=s.heap.objs.size) (o:=.dK kvs) (t':=s.toks) (fun b q hq=>?_) (xaf _) (zf z (xba.mpr (xaP (xap I.big))) rel dd'));exact(hs.2 b (xap (xad hq))).trans (xab _ hq)
end
end L2
namespace Att
open PySem PySem.W PySem.Calls PyProof.Rows
end Att
namespace L2
open PySem PySem.Spec PyProof.Rows
noncomputable def Its (z:Str):It:=⟨fun i _=>i<z.cps.size,fun i H x H'=>H'=H/\∃c,z.cps[i]? =some c/\x=.str ⟨#[c]⟩,fun i _=>i=z.cps.size⟩
theorem S8 (hQ:Q () s):wpAny M A (letOwnedTupleGo tg (.ref it) (.str x t)) Q E s:=by
 unfold letOwnedTupleGo;cases tg<;>exact xaj hQ
theorem Pr {P:Program}{w:World}{K:Fgx}{tg:Expr}{ty:String}{z:Str}{t:Tok}{it:Addr}
  (W:∀A:Around,A.handled=none->Walks P w A it [it] [it] z.cps.size (SignAt z) (fun i h=>h.IsStrIter it ty z t i))
  (hself:∀(A:Around) (i:Nat) (s:Shared) (Q:Value->Shared->Prop) (E:Value->Shared->Prop),s.heap.IsStrIter it ty z t i->Q (.ref it) s->wpAny (model P w) A (pyIter (.ref it)) Q E s):
  Turn P w K tg (Its z) [it] it (fun i h=>h.IsStrIter it ty z t i) where
 mem:=by simp
 obj:=fun i h st b hb=>by
  have e:b=it:=by simpa using hb
  subst e;obtain⟨o,e,c,d⟩:=st;exact⟨o,e,fun v z=>by rw[d]at z;cases z⟩
 keep:=fun i h h' st k=>by
  obtain⟨o,e,c,d⟩:=st;exact⟨o,k it (by simp) o e,c,d⟩
 item:=by
  intro X hP hw hK hc i pins s σ H E I hf st hg;subst hP hw hK;obtain⟨f0,f1,f2,f3,f4,f5⟩:=hf it (by simp);refine(W X.A (I.ok.hd hc)).item i s _ _ hg st fun v h' tk hv st' kk=>?_;obtain⟨c,u,hcc,rfl⟩:=hv;have I1:Inv X pins σ H {s with heap:=h',toks:=tk}:=I.turned (fun b o hb e=>kk b o (by simpa using hb) e) f0 f1 f3 f4 f5;exact⟨_,rfl,S8 ⟨.str ⟨#[c]⟩,H,I1,⟨_,rfl⟩,⟨rfl,c,hcc,rfl⟩,st',fun b hb=>(hf b hb).1⟩⟩
 done:=by
  intro X hP hw hK hc i pins s σ H E I hf st hg;subst hP hw hK;have hg':i=z.cps.size:=hg;subst hg';obtain⟨f0,f1,f2,f3,f4,f5⟩:=hf it (by simp);exact(W X.A (I.ok.hd hc)).done s _ _ st fun h' tk kk=>⟨rfl,I.turned (fun b o hb e=>kk b o (by simpa using hb) e) f0 f1 f3 f4 f5⟩
 self:=fun A i s Q E st q=>hself A i s Q E st q
section
variable {X:Cx}{tg:Expr}
noncomputable def Eo (tl:TE):TI:=fun σ H R=>tl σ H fun x H1=>∃z,x=.str z/\R (Its z) H1
theorem XJ {l:Expr}{tl:TE}(hl:PE X l tl):PI X tg l (Eo tl):=by
 intro pins s σ H R I h;refine aL (hl pins s σ H _ I h) fun v s1 ⟨x,H1,I1,r1,q1⟩=>?_;obtain⟨z,e,q⟩:=q1;subst e;obtain⟨t,e⟩:=r1;subst e;have fp:∀b∈ [s1.heap.objs.size],cJ X pins H1 b:=fun b hb=>by
  have e:b=s1.heap.objs.size:=by simpa using hb
  subst e;exact I1.fpOk (xaf _) (I1.hok.fresh (xaf _))
 cases ha:z.cps.all (· <128)
 ·refine wpAny_pyIter_wide ha ?_;exact ⟨s1.heap.objs.size,[s1.heap.objs.size],_,_,H1,rfl,I1.kept (t':=s1.toks) fun b o e=>xab _ e,
   Pr (ty:="str_iterator") (z:=z) (t:=t) (fun A hA=>Walks.strWide hA _ z t) (fun _ _ _ _ _ st q=>wpAny_pyIter_striter_wide st q),⟨_,xau _ rfl,rfl,rfl⟩,fp,q⟩
 ·refine wpAny_pyIter_ascii ha ?_;exact ⟨s1.heap.objs.size,[s1.heap.objs.size],_,_,H1,rfl,I1.kept (t':=s1.toks) fun b o e=>xab _ e,
   Pr (ty:="str_ascii_iterator") (z:=z) (t:=t) (fun A hA=>Walks.strAscii hA _ z t) (fun _ _ _ _ _ st q=>wpAny_pyIter_striter_ascii st q),⟨_,xau _ rfl,rfl,rfl⟩,fp,q⟩
end
section
variable {X:Cx}
def GD:V->Option Int->Option Int->Hp->VK->Prop:=fun x lo hi H Q=>∃z,x=.str z/\z.length<=sizeLine/\Q (.str (Txt.slice z lo hi)) H
theorem zb5:oO X GD:=by
 intro pins s σ H x v vl vu lo hi sl Q I rx hs pl pu h;obtain⟨z,rfl,hz,q⟩:=h;obtain⟨t,rfl⟩:=rx;refine⟨"str",_,F.slot_str_getitem.lookup,typeIs_str _ _ _,?_⟩;obtain⟨o,ho,hc,hd⟩:=hs;cases pl<;>cases pu
 ·exact xbD (l:=none) (u:=none) (st:=none) ⟨o,ho,hc,hd⟩ rfl (xcu ⟨xaD (xcS z none none) hz,fun t' k=>⟨.str _,H,I.tok _,⟨_,rfl⟩,q⟩⟩)
 ·rename_i j uj;exact xbD (l:=none) (u:=some (j,uj)) (st:=none) ⟨o,ho,hc,hd⟩ rfl (xcu ⟨xaD (xcS z none (some j)) hz,fun t' k=>⟨.str _,H,I.tok _,⟨_,rfl⟩,q⟩⟩)
 ·rename_i i ui;exact xbD (l:=some (i,ui)) (u:=none) (st:=none) ⟨o,ho,hc,hd⟩ rfl (xcu ⟨xaD (xcS z (some i) none) hz,fun t' k=>⟨.str _,H,I.tok _,⟨_,rfl⟩,q⟩⟩)
 ·rename_i i ui j uj;exact xbD (l:=some (i,ui)) (u:=some (j,uj)) (st:=none) ⟨o,ho,hc,hd⟩ rfl (xcu ⟨xaD (xcS z (some i) (some j)) hz,fun t' k=>⟨.str _,H,I.tok _,⟨_,rfl⟩,q⟩⟩)
theorem Wz:bK X (compareOp .Is) (fun x y H Q=>∃b,y=.bl b/\Q (.bl (decide (x=.bl b))) H):=by
 intro pins s σ H x y v u Q I rx ry h;obtain⟨b,rfl,q⟩:=h;cases ry
 cases x with
 |bl c=>cases rx;exact xaj (bG I q (by cases b<;>cases c<;>rfl))
 |non=>cases rx;exact xaj (bG I q (by simp))
 |int _=>obtain⟨t,rfl⟩:=rx;exact xaj (bG I q (by simp))
 |str _=>obtain⟨t,rfl⟩:=rx;exact xaj (bG I q (by simp))
 |byt _=>obtain⟨t,rfl⟩:=rx;exact xaj (bG I q (by simp))
 |flt _=>obtain⟨t,rfl⟩:=rx;exact xaj (bG I q (by simp))
 |ref _=>cases rx;exact xaj (bG I q (by simp))
 |ty _=>cases rx;exact xaj (bG I q (by simp))
theorem WL:bK X (compareOp .IsNot) (fun x y H Q=>∃b,y=.bl b/\Q (.bl (!decide (x=.bl b))) H):=by
 intro pins s σ H x y v u Q I rx ry h;obtain⟨b,rfl,q⟩:=h;cases ry
 cases x with
 |bl c=>cases rx;exact xaj (bG I q (by cases b<;>cases c<;>rfl))
 |non=>cases rx;exact xaj (bG I q (by simp))
 |int _=>obtain⟨t,rfl⟩:=rx;exact xaj (bG I q (by simp))
 |str _=>obtain⟨t,rfl⟩:=rx;exact xaj (bG I q (by simp))
 |byt _=>obtain⟨t,rfl⟩:=rx;exact xaj (bG I q (by simp))
 |flt _=>obtain⟨t,rfl⟩:=rx;exact xaj (bG I q (by simp))
 |ref _=>cases rx;exact xaj (bG I q (by simp))
 |ty _=>cases rx;exact xaj (bG I q (by simp))
theorem range_all (bs:List Bool):(List.range bs.length).all (fun i=>(bs[i]?).getD false)=bs.all id:=by
 rw[xa5,xcl,xcl]
 constructor
 ·intro h b hb;obtain⟨i,hi,e⟩:=List.mem_iff_getElem.mp hb;have:=h i (xb7.mpr hi);rw[xai hi,e]at this;exact this
 ·intro h i hi;have hi':=xb7.mp hi;rw[xai hi'];exact h _ (xcm hi')
theorem Qu {bs:List Bool}{its:List Value}(r:Vals (bs.map V.bl) its){i:Nat}{v:Value}(h:its.toArray[i]? =some v):v=.bool ((bs[i]?).getD false):=by
 have h':its[i]? =some v:=by simpa using h
 have hl:=r.length;rw[xaC]at hl;have hi:i<bs.length:=by
  have:=(xal.mp h').1;omega
 have hx:(bs.map V.bl)[i]? =some (V.bl bs[i]):=by rw[xan,xai hi];rfl
 obtain⟨u,hu,ru⟩:=r.get hx;rw[h']at hu;cases hu;rw[xai hi];exact ru
theorem QC (hc:X.calm=true):dU X (.builtin "all") (fun xs H Q=>∃(p:Addr) (bs:List Bool),xs=[.ref p]/\bI X.K H p (bs.map V.bl)/\Q (.bl (bs.all id)) H):=by
 intro pins s σ H xs us Q I r h;obtain⟨p,bs,rfl,hq,q⟩:=h;obtain⟨u,rfl,ru⟩:=vals1 r;cases ru;obtain⟨its,rv,pl,hz⟩:=I.list hq;have hp:p<s.heap.objs.size:=by obtain⟨o,ho,_⟩:=pl.isList;exact xad ho
 have hn:its.toArray.size=bs.length:=by rw[xak, <-rv.length,xaC]
 refine call_all_walk (xcb pl.isList ⟨s.heap.objs.size,_,_,its.toArray.size,_,_,fun i=>(bs[i]?).getD false,rfl,Walks.list (A:=X.A.in1) (show X.A.in1.handled=none from I.ok.hd hc) _ p (xap hp) its.toArray,
  ⟨⟨_,xau _ rfl,rfl,rfl⟩,pl.isList.at fun o e=>xab _ e⟩,fun i v s' Q' E' hv hQ=>?_,fun h' tk kk=>?_⟩)
 ·rw[Qu rv hv];exact xbj hQ
 ·rw[hn,range_all];refine⟨.bl _,H,I.kept fun b o e=>kk b o ?_ (xab _ e),rfl,q⟩;intro z;have z':b=s.heap.objs.size:=by simpa using z
  exact xa0 _ (z' ▸ xad e)
end
section
variable {X:Cx}{pins:Pnx}{σ:St}{H:Hp}{s:Shared}
noncomputable def wj (base h:Heap) (L:Addr):Pnx:=(List.range h.objs.size).filterMap fun b=>if b=L then none else if (base.get? b).isSome then none else(h.get? b).map fun o=>(b,o)
theorem La (hL:b≠L)(hb:base.get? b=none)(e:h.get? b=some o):(b,o)∈wj base h L:=by
 unfold wj;rw[xb2];refine⟨b,xb7.mpr (xad e),?_⟩;rw[xag hL,hb,e]
 simp
theorem Wl (hp:p∈wj base h L):h.get? p.1=some p.2/\p.1≠L/\base.get? p.1=none:=by
  unfold wj at hp;rw[xb2]at hp;obtain⟨b,_,e⟩:=hp
  by_cases hL:b=L
  · rw[xac hL]at e;cases e
  · rw[xag hL]at e
    cases hb:base.get? b with
    |some u=>rw[hb]at e;simp at e
    |none=>
      rw[hb]at e
      cases hh:h.get? b with
      |none=>rw[hh]at e;simp at e
      |some u=>
        rw[hh]at e
        simp at e
        subst e;exact⟨hh,hL,hb⟩
theorem Inv.but (I:Inv X pins σ H s)(k:∀b o,b≠X.env.locals->s.heap.get? b=some o->h'.get? b=some o)(ns:∀m,s.heap.Ns X.env.locals m->h'.Ns X.env.locals m):Inv X pins σ H {s with heap:=h',toks:=tk}:=by
 have hok : cC X.prog X.w H h' := fun a o e => (I.hok a o e).stay (fun b u hb q => k b u (fun z=>by
  subst z;have hn:=I.free;rcases hb with hb |hb
  ·rw[<-hb]at e;rw[hn]at e;cases e
  ·rw[hn]at hb;cases hb) q) (fun _ q=>q) fun _ _ q=>q
 exact I.step (g' := s.gens) (d' := s.drawn) (ch := []) (fun _ z => nomatch z) (fun b o hL _ _ e _ => k b o hL e) (fun b o hL _ _ e _ => ⟨o.slots, k b o hL e⟩) (fun b o _ _ n => n) (fun b o _ e=>by
  by_cases hL:b=X.env.locals
  ·subst hL;obtain⟨m,hn,_⟩:=I.loc;obtain⟨o',_,_,e',_⟩:=ns m hn;exact⟨o',e'⟩
  ·exact⟨o,k b o hL e⟩) (fun _ _ q=>q) (fun _ _ _ q=>q) (fun _ ps q=>⟨#[],by simpa using q⟩) ns hok I.bare
theorem Inv.via (I:Inv X pins σ H s):∃m news,Fr X.base X.env.locals s.heap m/\News X.base X.env.locals s.heap news/\
    (∀b o,b≠X.env.locals->X.base.get? b=none->s.heap.get? b=some o->(b,o)∈news)/\
    ∀(h':Heap) (tk:Nat),Fr X.base X.env.locals h' m->News X.base X.env.locals h' news->(∀b o,b≠X.env.locals->s.heap.get? b=some o->h'.get? b=some o)/\Inv X pins σ H {s with heap:=h',toks:=tk}:=by
  obtain⟨m,F⟩:=I.fr;refine⟨m,wj X.base s.heap X.env.locals,F,fun p hp=>Wl hp,fun b o hL hb e=>La hL hb e,fun h' tk F' N'=>?_⟩;have k:∀b o,b≠X.env.locals->s.heap.get? b=some o->h'.get? b=some o:=fun b o hL e=>by
    cases hb:X.base.get? b with
    |some u=>
      have e1:=I.bk b u hb;rw[e]at e1;cases e1;exact F'.keep b o hb
    |none=>exact(N' (b,o) (La hL hb e)).1
  refine⟨k,I.but k fun m' hm=>?_⟩;have:m'=m:=by
    obtain⟨o,es,ep,e,d,_,f⟩:=hm;obtain⟨o',es',ep',e',d',_,f'⟩:=F.ns;rw[e]at e';cases e';rw[d]at d';cases d';funext x;rw[<-f x, <-f' x]
  subst this;exact F'.ns
theorem Tv:∀{us:List Value},Vals (ns.map V.int) us->IntsAre us ns:=by
  induction ns with
  |nil=>intro us h;cases us with
    |nil=>exact .nil
    |cons u us=>cases h
  |cons n ns ih=>intro us h;cases us with
    |nil=>cases h
    |cons u us=>
      cases h with
      |cons a b=>
        obtain⟨t,rfl⟩:=a;exact .cons _ _ (ih b)
theorem QW:X.calm=true->dU X (.builtin "sum") (fun xs H Q=>∃(p:Addr) (is:List Int),xs=[.ref p]/\bI X.K H p (is.map V.int)/\Q (.int is.sum) H):=by
 intro hc pins s σ H xs us Q I r h;obtain⟨p,is,rfl,hq,q⟩:=h;obtain⟨u,rfl,rx⟩:=vals1 r;cases rx;obtain⟨its,rv,pl,hz⟩:=I.list hq;obtain⟨m,news,F,N,_,back⟩:=I.via;refine LSm.sum_ints F N (I.ok.hd hc) pl.isList (Tv rv) fun h' tk t' F' N'=>?_;exact⟨.int is.sum,H,(back h' tk F' N').2,⟨t',rfl⟩,q⟩
end
section
variable {X:Cx}{pins:Pnx}{σ:St}{H:Hp}{s:Shared}
theorem Jr:dU X (.type "int") (fun xs H Q=>∃z n,xs=[.str z]/\intText? z=some n/\z.length<=640/\Q (.int n) H):=by
 intro pins s σ H xs us Q I r h;obtain⟨z,n,rfl,h1,h2,q⟩:=h;obtain⟨u,rfl,t,rfl⟩:=vals1 r;exact W.KIN.call_text h1 h2 ⟨.int n,H,I.tok _,⟨_,rfl⟩,q⟩
end
section
variable {X:Cx}{pins:Pnx}{σ:St}{H:Hp}{s:Shared}{h':Heap}
theorem Inv.turnedL {t':Nat}{fp:List Addr}(I:Inv X pins σ H s)(k:∀b o,b∉fp->s.heap.get? b=some o->h'.get? b=some o)(hf:∀b∈fp,cJ X pins H b):Inv X pins σ H {s with heap:=h',toks:=t'}:=by
 refine I.step (g':=s.gens) (d':=s.drawn) (ch:=fp) (fun b hb=>⟨(hf b hb).2.2.2.1,(hf b hb).2.1,(hf b hb).2.2.2.2.1,(hf b hb).2.2.2.2.2⟩) (fun b o _ _ hc e _=>k b o hc e) (fun b o _ _ hc e _=>⟨o.slots,k b o hc e⟩) (fun _ _ _ _ n=>n)
  (fun b o hc e=>⟨o,k b o hc e⟩) (fun _ _ e=>e) (fun _ _ _ e=>e) (fun b ps e=>⟨#[],by rw[e];simp⟩) (fun m hm=>?_) (fun b u e=>?_) I.bare
 ·obtain⟨o,es,ep,ho,r⟩:=hm;exact⟨o,es,ep,k _ o (fun z=>(hf _ z).2.1 rfl) ho,r⟩
 ·refine(I.hok b u e).stay (fun c v hc q=>k c v (fun z=>?_) q) (fun _ q=>q) fun _ _ q=>q;have hn:=(hf c z).1;rcases hc with y |y
  ·rw[y,e]at hn;cases hn
  ·rw[y]at hn;cases hn
theorem Inv.turnLaid {t':Nat}{fp:List Addr}{T:Addr}{o:HO}(I:Inv X pins σ H s)(k:∀b u,b∉fp->s.heap.get? b=some u->h'.get? b=some u)(hf:∀b∈fp,cJ X pins H b)(hp:s.heap.objs.size<=T)(new:cG X.prog X.w (upd H T o) h' T o):
  Inv X pins σ (upd H T o) {s with heap:=h',toks:=t'}:=by
 have hn:H T=none:=I.hok.fresh hp;have neT:∀b u,s.heap.get? b=some u->b≠T:=fun b u e=>xap (xah (xad e) hp);refine I.step (g':=s.gens) (d':=s.drawn) (ch:=fp) (fun b hb=>⟨(hf b hb).2.2.2.1,(hf b hb).2.1,(hf b hb).2.2.2.2.1,(hf b hb).2.2.2.2.2⟩) (fun b o _ _ hc e _=>k b o hc e) (fun b o _ _ hc e _=>⟨o.slots,k b o hc e⟩) (fun b u _ e n=>by rw[aP (neT b u e)];exact n)
  (fun b o hc e=>⟨o,k b o hc e⟩) (fun b xs e=>by rw[aP (d8 e hn)];exact e) (fun b u xs e=>by rw[aP (d8 e hn)];exact e) (fun b ps e=>⟨#[],by rw[aP (d8 e hn),e];simp⟩) (fun m hm=>?_) (fun b u e=>?_) I.bare
 ·obtain⟨o,es,ep,ho,r⟩:=hm;exact⟨o,es,ep,k _ o (fun z=>(hf _ z).2.1 rfl) ho,r⟩
 ·by_cases hb:b=T
  ·subst hb;rw[bO]at e;cases e;exact new
  ·rw[aP hb]at e;refine(I.hok b u e).stay (fun c v hc q=>k c v (fun z=>?_) q) (fun c q=>by rw[aP (d8 q hn)];exact q) fun c xs q=>by rw[aP (d8 q hn)];exact q
   have hn':=(hf c z).1;rcases hc with y |y
   ·rw[y,e]at hn';cases hn'
   ·rw[y]at hn';cases hn'
end
noncomputable def uK (K:Fgx) (a:Addr):It:=
 ⟨fun i H=>∃xs x,bI K H a xs/\xs[i]? =some x,fun i H x H'=>∃p v,H p=none/\x=.ref p/\H'=upd H p (.tup [.int i,v])/\∀xs,bI K H a xs->xs[i]? =some v,fun i H=>∃xs,bI K H a xs/\xs.length=i⟩
theorem zat {P:Program}{w:World}{K:Fgx}{es:List Expr}{k:Nat}{pos:Pos}(a e it:Addr)(ne:e≠it):Turn P w K (.Tuple es k pos) (uK K a) [e,it] e (fun i h=>(∃old,IsEnum h e it i old)/\h.IsListIter it a i) where
 mem:=by simp
 obj:=fun i h st b hb=>by
  obtain⟨⟨old,z⟩,o,e1,e2,e3⟩:=st;rcases xas.mp hb with rfl |hb
  ·exact⟨_,z,fun v y=>by cases y⟩
  ·rw[xaI.mp hb];exact⟨o,e1,fun v y=>by rw[e3]at y;cases y⟩
 keep:=fun i h h' st k=>⟨let ⟨old,z⟩:=st.1;⟨old,k e (by simp) _ z⟩,st.2.at fun o z=>k it (by simp) o z⟩
 item:=by
  intro X hP hw hK hc i pins s σ H E I hf st hg;subst hP hw hK;obtain⟨xs,x,hq,hx⟩:=hg;obtain⟨its,rv,pl,hz⟩:=I.list hq;have p:=pl.isList;obtain⟨u,hu,ru⟩:=rv.get hx;have nea:a≠it:=fun z=>by
   obtain⟨o,e1,e2,_⟩:=st.2;obtain⟨o',e1',e2',_⟩:=id p;rw[z,e1]at e1';cases e1';rw[e2]at e2';exact absurd e2' (by simp)
  have nee:e∉ [it,a]:=fun z=>by
   rcases xas.mp z with z |z
   ·exact ne z
   ·have z:=xaI.mp z;obtain⟨⟨old,y⟩,_⟩:=st;obtain⟨o',e1',e2',_⟩:=id p;rw[<-z,y]at e1';cases e1';exact absurd e2' (by simp)
  have W:=WalksT.enumerateD (Draws.list (prog:=X.prog) (w:=X.w) (A:=X.A.in1) (I.ok.hd hc) it a nea its.toArray) e ne nee (by simp);have hi:i<its.toArray.size:=by
   have:=(xal.mp hu).1
   simpa using this
  refine W.item i s _ _ hi ⟨st.1,st.2,p⟩ fun T vals h' tk hv hT hI hm hk=>?_;obtain⟨t,y,hy,rfl⟩:=hv;have ey:y=u:=by
   have hy':its.toArray[i]? =some y:=hy;rw[show its.toArray[i]? =its[i]? by simp,hu]at hy';exact(xar hy').symm
  subst ey;refine⟨_,rfl,W.go es k pos i T _ _ _ hm fun h2 st2 hk2=>?_⟩;have kk:∀b o,b∉ [e,it]->s.heap.get? b=some o->h2.get? b=some o:=fun b o hb z=>hk2 b o hb (hk b o hb z);have hT2:h2.IsTuple T #[.int i t,y]:=by
   obtain⟨o,e1,r⟩:=hI;exact⟨o,hk2 T o (W.apart i T _ hm) e1,r⟩
  have I2:Inv X pins σ (upd H T (.tup [.int i,x])) {s with heap:=h2,toks:=tk}:=I.turnLaid kk hf hT ⟨by show 2<=sizeLine;decide,[.int i t,y],.cons ⟨t,rfl⟩ (.cons ru .nil),hT2⟩;have nT:H T=none:=I.hok.fresh hT;refine⟨.ref T,_,I2,rfl,⟨T,x,nT,rfl,rfl,fun ys hys=>by rw[I.list_inj hys hq];exact hx⟩,⟨st2.1,st2.2.1⟩,fun b hb=>?_⟩;rw[aP (fun z=>?_)]
  ·exact(hf b hb).1
  ·rw[z]at hb;exact W.apart i T _ hm hb
 done:=by
  intro X hP hw hK hc i pins s σ H E I hf st hg;subst hP hw hK;obtain⟨xs,hq,hl⟩:=hg;obtain⟨its,rv,pl,hz⟩:=I.list hq;have p:=pl.isList;have nea:a≠it:=fun z=>by
   obtain⟨o,e1,e2,_⟩:=st.2;obtain⟨o',e1',e2',_⟩:=id p;rw[z,e1]at e1';cases e1';rw[e2]at e2';exact absurd e2' (by simp)
  have nee:e∉ [it,a]:=fun z=>by
   rcases xas.mp z with z |z
   ·exact ne z
   ·have z:=xaI.mp z;obtain⟨⟨old,y⟩,_⟩:=st;obtain⟨o',e1',e2',_⟩:=id p;rw[<-z,y]at e1';cases e1';exact absurd e2' (by simp)
  have W:=WalksT.enumerateD (Draws.list (prog:=X.prog) (w:=X.w) (A:=X.A.in1) (I.ok.hd hc) it a nea its.toArray) e ne nee (by simp);have hn:its.toArray.size=i:=by rw[xak, <-rv.length,hl]
  refine W.done s _ _ (by rw[hn];exact⟨st.1,st.2,p⟩) fun h' tk hk=>⟨rfl,I.turnedL hk hf⟩
 self:=fun _ i s _ _ st h=>by
  obtain⟨⟨old,y⟩,_⟩:=st;exact wpAny_pyIter_enum y h
section
variable {X:Cx}{es:List Expr}{k:Nat}{tpos:Pos}
noncomputable def Ti (K:Fgx) (ta:TA):TI:=fun σ H R=>ta σ H fun vs H1=>∃a xs,vs=[.ref a]/\bI K H1 a xs/\R (uK K a) H1
theorem Xz {a:Expr}{ta:TA}{p pos:Pos}(hg:Gl X "enumerate")(hm:X.mg "enumerate"=none)(ha:PA X [a] ta)(hs:starEach [a] X.env=[(false,eval a X.env)]:=by rfl):PI X (.Tuple es k tpos) (.Call (.Name "enumerate" p) [a] [] pos) (Ti X.K ta):=by
 intro pins s σ H R I h;refine Call_ (vV I hg hm boot_enumerate (xbM (aL (ha pos pins s σ H _ I h) fun us s1 ⟨vs,H1,I1,r1,q1⟩=>?_) hs rfl));obtain⟨b,xs,e,hq,q⟩:=q1;subst e;obtain⟨u,e,ru⟩:=vals1 r1;subst e;cases ru;obtain⟨its,rv,pl,hz⟩:=I1.list hq;refine call_enumerate_list pl.isList fun h' e1 e2 _ kp=>?_;refine wpAny_pyIter_enum e1 ?_;refine⟨s1.heap.objs.size + 1,[s1.heap.objs.size + 1,s1.heap.objs.size],_,_,H1,rfl,I1.kept (t':=s1.toks) kp,zat b _ _ (Nat.succ_ne_self _),⟨⟨_,e1⟩,e2⟩,fun c hc=>?_,q⟩;have hc':s1.heap.objs.size<=c:=by
  rcases xas.mp hc with rfl |hc
  ·omega
  ·rw[xaI.mp hc];exact xaf _
 exact I1.fpOk hc' (I1.hok.fresh hc')
end
noncomputable def textV:V->Option Str
 |.str z=>if z.length<=sizeLine then some z else none
 |.int i=>if i.natAbs.log2<1920 then some (toString i) else none
 |_=>none
abbrev TJ:=Str->St->Hp->VK->Prop
def PJ (X:Cx)(vs:List Expr)(t:TJ):Prop:=∀(pins:Pnx) (s:Shared) (σ:St) (H:Hp) (out:Str) (Q:VK),Inv X pins σ H s->t out σ H Q->wpAny (model X.prog X.w) X.A (joinParts out (evalEach vs X.env)) (EP X pins σ Q) X.xe s
def E_:TJ:=fun out _ H Q=>out.length<=sizeLine/\Q (.str out) H
noncomputable def Uh (te:TE) (tj:TJ):TJ:=fun out σ H Q=>te σ H fun v H1=>∃y,textV v=some y/\(out ++ y).length<=sizeLine/\tj (out ++ y) σ H1 Q
section
variable {X:Cx}{vs:List Expr}{te:TE}{tj:TJ}
theorem Ge:PJ X [] E_:=fun pins s σ H out Q I h=>joinParts_nil ⟨.str out,H,I.tok _,⟨_,rfl⟩,h.2⟩ h.1
theorem zV (hv:PJ X vs tj)(hz:z.length<=sizeLine):PJ X (.Constant (.str z) k pos::vs) (fun out σ H Q=>(out ++ z).length<=sizeLine/\tj (out ++ z) σ H Q):=fun pins s σ H out Q I h=>by
 refine joinParts_cons (Calls.Constant_str ?_);exact⟨h.1,hv pins _ σ H _ Q (I.tok _) h.2⟩
theorem Gf (he:PE X e te)(hv:PJ X vs tj):PJ X (.FormattedValue e (-1) none pos::vs) (Uh te tj):=fun pins s σ H out Q I h=>by
 refine joinParts_cons (FormattedValue_plain (aL (he pins s σ H _ I h) fun u s1 ⟨x,H1,I1,r1,y,ey,hl,q⟩=>?_));cases x<;>simp only[textV,reduceCtorEq]at ey
 case int i=>
  split at ey
  ·rename_i hd;cases ey;obtain⟨t,rfl⟩:=r1;exact formatField_int_small hd ⟨hl,hv pins _ σ H1 _ Q (I1.tok _) q⟩
  ·cases ey
 case str z=>
  split at ey
  ·rename_i hz;cases ey;obtain⟨t,rfl⟩:=r1;exact formatField_str (fun t' tk=>⟨hl,hv pins _ σ H1 _ Q (I1.tok _) q⟩) hz
  ·cases ey
theorem FZ (h:PJ X (v::w::vs) tj):PE X (.JoinedStr (v::w::vs) pos) (fun σ H Q=>tj Str.empty σ H Q):=fun pins s σ H Q I q=>JoinedStr_many (h pins s σ H _ Q I q)
end
theorem Ka (g:α->β->β):∀(l:List α) (b:β),(∀x∈l,∀b,f x b=pure (.yield (g x b)))->(forIn l b f:Sem β)=pure (l.foldl (fun b x=>g x b) b)
  | [],b,_=>rfl
  |x::l,b,h=>by
    rw[List.forIn_cons,h x xaA b];simp only[pure_bind,xc7];exact Ka g l (g x b) fun y hy=>h y (xav _ hy)
noncomputable def kY (cells:List (Str×Addr)) (cs:List (Str×Addr)) (x:Str×NameKind):List (Str×Addr):=if x.2=.free then(x.1,(cells.lookup x.1).getD 0)::cs else cs
noncomputable def cT (cells:List (Str×Addr)) (names:List (Str×NameKind)):List (Str×Addr):=names.foldl (kY cells) []
theorem Di (h:∀y∈scope.names,y.2=.free->∃c,env.cells.lookup y.1=some c):closureFor scope env=pure (cT env.cells scope.names):=by
 simp only [closureFor];rw [Ka (fun x cs => kY env.cells cs x) scope.names [] (fun x hx c=>by
  obtain⟨n,kind⟩:=x
  by_cases hk:kind=.free
  ·obtain⟨a,ha⟩:=h _ hx hk;subst hk;have ha':env.cells.lookup n=some a:=ha
   simp[cellOf,ha',kY]
  ·have hk':(kind==NameKind.free)=false:=by simpa using hk
   simp[hk',hk,kY])]
 rfl
theorem Dh:∀(names:List (Str×NameKind)) (acc:List (Str×Addr)),(∀y∈names,y.2=.free->∃c,cells.lookup y.1=some c)->
    (∀x c,acc.lookup x=some c->cells.lookup x=some c)->∀x c,(names.foldl (kY cells) acc).lookup x=some c->cells.lookup x=some c
  | [],_,_,h,x,c,e=>h x c e
  |(n,k)::r,acc,hc,h,x,c,e=>by
    rw[xc7]at e;refine Dh r _ (fun y hy=>hc y (xav _ hy)) ?_ x c e;intro y d hd;unfold kY at hd
    by_cases hk:k=.free
    · obtain⟨a,ha⟩:=hc (n,k) xaA hk;have ha':cells.lookup n=some a:=ha;simp only[hk,xbU,ha',Option.getD_some,xby]at hd
      cases hyn:y==n with
      |true=>
        rw[hyn]at hd;have e2:=eq_of_beq hyn;subst e2;exact ha'.trans hd
      |false=>
        rw[hyn]at hd;exact h y d hd
    · simp only[hk,xb5]at hd;exact h y d hd
theorem u9:∀(names:List (Str×NameKind)) (acc:List (Str×Addr)) (x:Str),((x,NameKind.free)∈names\/∃c,acc.lookup x=some c)->∃c,(names.foldl (kY cells) acc).lookup x=some c
  | [],acc,x,h=>by
    rcases h with h |h
    · exact absurd h (by simp)
    · exact h
  |(n,k)::r,acc,x,h=>by
    rw[xc7];refine u9 r _ x ?_;have keep:(∃c,acc.lookup x=some c)->∃c,(kY cells acc (n,k)).lookup x=some c:=fun⟨c,hc⟩=>by
      unfold kY
      by_cases hk:k=.free
      · simp only[hk,xbU,xby]
        cases hxn:x==n with
        |true=>exact⟨_,rfl⟩
        |false=>exact⟨c,hc⟩
      · simp only[hk,xb5];exact⟨c,hc⟩
    rcases h with h |h
    · rcases xas.mp h with h |h
      · cases h;refine .inr ?_;unfold kY;simp only[xbU,xby,xa7];exact⟨_,rfl⟩
      · exact .inl h
    · exact .inr (keep h)
noncomputable def c7 (psc:Scope) (names:List (Str×NameKind)):List (Str×NameKind):=names.map fun(n,k)=>if (k==.free && psc.kind==.function && psc.names.lookup n==some .cell) then(n,.cell) else(n,k)
theorem mG:∀{names:List (Str×NameKind)} {x:Str} {k':NameKind},(c7 psc names).lookup x=some k'->(k'=.cell\/k'=.free)->(∀y∈names,y.2≠ .cell)->(x,NameKind.free)∈names
  | [],_,_,h,_,_=>by simp[c7]at h
  |(n,k)::r,x,k',h,hk,hn=>by
    have ih:= @mG psc r x k';have h':List.lookup x ((if (k==NameKind.free && psc.kind==.function && psc.names.lookup n==some .cell)=true then(n,NameKind.cell) else(n,k))::c7 psc r)=some k':=h
    cases hx:x==n with
    |true=>
      have e:=eq_of_beq hx;subst e
      by_cases hc:(k==NameKind.free && psc.kind==.function && psc.names.lookup x==some .cell)=true
      · have hkf:k=.free:=by
          cases k<;>first |rfl |(exfalso;simp at hc)
        rw[hkf];exact xaA
      · rw[xag hc]at h';simp only[xby,xa7]at h';have e2:k=k':=xar h';subst e2;rcases hk with hk |hk
        · exact absurd hk (hn (x,k) xaA)
        · rw[hk];exact xaA
    |false=>
      refine xav _ (ih ?_ hk fun y hy=>hn y (xav _ hy))
      by_cases hc:(k==NameKind.free && psc.kind==.function && psc.names.lookup n==some .cell)=true
      · rw[xac hc]at h';simp only[xby,hx]at h';exact h'
      · rw[xag hc]at h';simp only[xby,hx]at h';exact h'
noncomputable def dY (cs:List (Str×Nat)) (σ:St):St:=cs.map fun p=>(σ[p.2]?).join
abbrev bU (X:Cx)(Nc:List Str)(scope:Scope)(cl:List (Str×Addr))(C:Addr)(s₀:Shared)(H₀:Hp)(ex:List Addr)(pn:Pnx):Cx:=
 {X with N:=Nc,s₀:=s₀,H₀:=H₀,env:=compEnvC scope cl C X.env,outer:=X.stack,ex:=ex,fn:=fun _=>false,pn:=pn,xe:=fun _ _=>False}
noncomputable def oY (N:List Str) (psc:Scope) (x:Str) (cs:List (Str×Nat)) (scope:Scope):Bool:=
 scope.kind==.function && scope.names.lookup x==some .local && decide ((x::cs.map (·.1)).Nodup) &&
 scope.names.all (fun y=>y.2 !=.cell && (y.2 !=.local || scope.names.lookup y.1==some .local) && (y.2 !=.free || (psc.names.lookup y.1==some .cell || psc.names.lookup y.1==some .free))) &&
 cs.all (fun p=>N[p.2]? ==some p.1 && (psc.names.lookup p.1==some .cell || psc.names.lookup p.1==some .free) && ((c7 psc scope.names).lookup p.1==some .cell || (c7 psc scope.names).lookup p.1==some .free))
structure CompOk (N:List Str)(psc:Scope)(x:Str)(cs:List (Str×Nat))(scope:Scope):Prop where
 kind:scope.kind=.function
 own:scope.names.lookup x=some .local
 nd:(x::cs.map (·.1)).Nodup
 cell:∀y∈scope.names,y.2≠ .cell
 names:∀y∈scope.names,y.2=.local->scope.names.lookup y.1=some .local
 has:∀y∈scope.names,y.2=.free->psc.names.lookup y.1=some .cell\/psc.names.lookup y.1=some .free
 cap:∀p∈cs,N[p.2]? =some p.1/\(psc.names.lookup p.1=some .cell\/psc.names.lookup p.1=some .free)/\((c7 psc scope.names).lookup p.1=some .cell\/(c7 psc scope.names).lookup p.1=some .free)
theorem CompOk.of (h:oY N psc x cs scope=true):CompOk N psc x cs scope:=by
 unfold oY at h;simp only[xat,Bool.or_eq_true,xcl,xaU,xbd,bne_iff_ne,ne_eq]at h;obtain⟨⟨⟨⟨h1,h2⟩,h3⟩,h4⟩,h5⟩:=h;refine⟨h1,h2,h3,fun y hy=>(h4 y hy).1.1,fun y hy e=>?_,fun y hy e=>?_,fun p hp=>⟨(h5 p hp).1.1,(h5 p hp).1.2,(h5 p hp).2⟩⟩
 ·rcases(h4 y hy).1.2 with z |z
  ·exact absurd e z
  ·exact z
 ·rcases(h4 y hy).2 with z |z
  ·exact absurd e z
  ·exact z
def fM (X:Cx)(ifs:List Expr)(t:TT):Prop:=
 ∀(pins:Pnx) (s:Shared) (σ:St) (H:Hp) (Q:Bool->Hp->Prop),Inv X pins σ H s->t σ H Q->
  wpAny (model X.prog X.w) X.A (forIn ifs true fun c r=>if r=true then do let ok <-isTrue c X.env (eval c X.env);pure (ForInStep.yield ok) else pure (ForInStep.yield r)) (TP X pins σ Q) X.xe s
def iI:TT:=fun _ H Q=>Q true H
theorem Gd:fM X [] iI:=fun _ _ _ H _ I h=>wpAny_tests_nil ⟨H,I,h⟩
theorem XR (h:PT X c t):fM X [c] t:=fun pins s σ H Q I hw=>wpAny_tests_one (h pins s σ H Q I hw)
def xP (wi:TI)(tq:TT)(te:TE)(cs:List (Str×Nat)):St->Hp->(Addr->Hp->Prop)->Prop:=fun σ H R=>wi σ H fun J H1=>∀D,H1 D=none->
  ∃W:Nat->Nat->List V->Hp->Prop,(∃m,W 0 m [] (upd H1 D (.lst [])))/\∀i m ys H2,W i m ys H2->H2 D=some (.lst ys)/\
    ((J.stop i H2 /\ R D H2) \/ (J.go i H2/\ys.length<sizeLine/\∃N:List V->Hp->Prop,(∀ys' H',N ys' H'->∃m',m'<m/\W (i + 1) m' ys' H')/\∀v H3,J.yld i H2 v H3->tq (some v::dY cs σ) H3 fun b H4=>
      if b=true then te (some v::dY cs σ) H4 fun y H5=>H5 D=some (.lst ys)/\N (ys ++ [y]) (upd H5 D (.lst (ys ++ [y]))) else N ys H4))
section
variable {prog:Program}{w:World}{A:Around}{R:Result->Shared->Prop}{s:Shared}
theorem JD (I:Nat->Shared->Prop)
    (turn : ∀ n s, I n s -> wpAny (model prog w) A (pyNext it) (fun r s₁=>match r with
      |none=>R (.ok .next) s₁
      | some v => wpAny (model prog w) A (letOwnedTupleGo target it v) (fun _ s₁' => wpAny (model prog w) A (assign target env v) (fun _ s₂=>
          wpAny (model prog w) A (forIn ifs true fun c r => if r = true then do let ok <- isTrue c env (eval c env); pure (ForInStep.yield ok) else pure (ForInStep.yield r)) (fun ok s₃=>
            if ok = true then wpAny (model prog w) A (eval elt env) (fun x s₄=>
              wpAny (model prog w) A (call (.builtin "list.append") [acc,x]) (fun _ s₅=>∃m,m<n/\I m s₅) (fun _ _=>False) s₄) (fun _ _=>False) s₃
            else ∃m,m<n/\I m s₃) (fun _ _=>False) s₂) (fun _ _=>False) s₁') (fun _ _=>False) s₁) (fun _ _=>False) s)
    (n:Nat) (h:I n s):
    codeAny (model prog w) A (.compLoop (.ListComp elt [⟨target,iter,ifs,0⟩] scope pos) 0 it acc env) R s:=by
  refine codeAny_loop rfl I (fun n s hI=>?_) n h;show wpAny _ A ((compTurn (.ListComp elt [⟨target,iter,ifs,0⟩] scope pos) 0 it acc env).onRaise (fun x=>do noteFrame x env;theTreesLotGoes x)) _ _ s
  refine wpAny_noted ?_;rw[compTurn_list];refine xaa (xbS (xaa (xaH (turn n s hI) (fun r s₁ h₁=>?_) fun _ _ h'=>h'.elim)))
  cases r with
  |none=>exact xaj h₁
  |some v=>
    refine xaa (xaH h₁ (fun _ s₁' h₁'=>?_) fun _ _ h'=>h'.elim);refine xaa (xaH h₁' (fun _ s₂ h₂=>xaa (xaH h₂ (fun ok s₃ h₃=>?_) fun _ _ h'=>h'.elim)) fun _ _ h'=>h'.elim)
    cases ok with
    |false=>exact xaj ⟨rfl,h₃⟩
    |true=>
      exact xaa (xaa (xaH h₃ (fun x s₄ h₄=>xaa (xaH h₄ (fun _ s₅ h₅=>xaj (xaj ⟨rfl,h₅⟩)) fun _ _ h'=>h'.elim)) fun _ _ h'=>h'.elim))
end
section
variable {X:Cx}{elt iter:Expr}{ifs:List Expr}{x:Str}{px:Pos}{scope:Scope}{pos:Pos}{wi:TI}{tq:TT}{te:TE}{cs:List (Str×Nat)}
theorem JK (hc:X.calm=true)(hi:PI X (.Name x px) iter wi)
    (hq:∀(cl:List (Str×Addr)) (C:Addr) (s₀:Shared) (H₀:Hp) (ex:List Addr) (pn:Pnx),fM (bU X (x::cs.map (·.1)) scope cl C s₀ H₀ ex pn) ifs tq)
    (he:∀(cl:List (Str×Addr)) (C:Addr) (s₀:Shared) (H₀:Hp) (ex:List Addr) (pn:Pnx),PE (bU X (x::cs.map (·.1)) scope cl C s₀ H₀ ex pn) elt te)
    (ok:CompOk X.N X.env.scope x cs scope) {pins:Pnx} {s:Shared} {σ:St} {H:Hp} {R:Addr->Hp->Prop} (I:Inv X pins σ H s) (h:xP wi tq te cs σ H R)
    {RR:Value->Addr->Result->Shared->Prop}
    (hRR:∀(D C:Addr) (oC:Obj) (H':Hp) (s':Shared),Inv X (pins ++ [(C,oC)]) σ H' s'->(∀h':Heap,h'.get? C=some oC->∃m,h'.Ns C m)->cJ X pins H' C->R D H'->RR (.ref D) C (.ok .next) s'):
    wpAny (model X.prog X.w) X.A (eval iter X.env) (fun xv s₁ => wpAny (model X.prog X.w) X.A (pyIter xv) (fun itv s₂ => wpAny (model X.prog X.w) X.A (newList []) (fun acc s₃=>
      wpAny (model X.prog X.w) X.A (newFunctionEnv scope X.env.globals (cT X.env.cells scope.names) [] X.env.qual none .none (some X.env)) (fun cenv s₄=>
        codeAny (model X.prog X.w) X.A (.compStart (.ListComp elt [⟨.Name x px,iter,ifs,0⟩] scope pos) 0 itv acc {cenv with scope:=relabel scope X.env}) (RR acc cenv.locals) s₄) X.xe s₃) X.xe s₂) X.xe s₁) X.xe s:=by
  refine aL (hi pins s σ H _ I h) fun v s1 h1=>aL h1 fun itv s2 h2=>?_;obtain⟨it,fp,tn,J,H2,e,I2,T,st2,f2,h2⟩:=h2;subst e;have hhas:∀y∈scope.names,y.2=.free->∃c,X.env.cells.lookup y.1=some c:=fun y hy hk=>I2.ok.has y.1 (ok.has y hy hk);refine xbv (wpAny_newFunctionEnv ok.cell (by intro y hy;simp at hy) (fun h₁ hns₁ hsb₁=>?_) ok.kind);dsimp only at hns₁ hsb₁ ⊢;generalize hHH:s2.heap.push {cls:=.type "list",dict:=none,data:=.seq ([]:List Value).toArray}=HH at hns₁ hsb₁ ⊢;have hC:HH.objs.size=s2.heap.objs.size + 1:=by rw[<-hHH,Heap.size_push]
  have hDC:s2.heap.objs.size≠HH.objs.size:=by rw[hC];exact xap (xbO _)
  have hCle:s2.heap.objs.size<=HH.objs.size:=by rw[hC];exact xcz _
  have below:∀b,b<s2.heap.objs.size->b≠HH.objs.size:=fun b hb=>by rw[hC];exact xap (xdD hb)
  have old:∀b o,s2.heap.get? b=some o->h₁.get? b=some o:=fun b o e=>hsb₁.extBut b o (below b (xad e)) (xab _ (hHH ▸ xab _ e));have hacc:h₁.get? s2.heap.objs.size=some {cls:=.type "list",dict:=none,data:=.seq ([]:List Value).toArray}:=hsb₁.extBut _ _ hDC (xab _ (hHH ▸ xau _ rfl));have nD:H2 s2.heap.objs.size=none:=I2.hok.fresh (xaf _);have nC:H2 HH.objs.size=none:=I2.hok.fresh hCle;obtain⟨W,⟨m0,w0⟩,turn⟩:=h2 s2.heap.objs.size nD
  -- the block's context
  have fpC:∀b∈fp,b≠HH.objs.size:=fun b hb=>by
    obtain⟨o,ho,_⟩:=T.obj 0 _ st2 b hb;exact below b (xad ho)
  have fpD:∀b∈fp,b≠s2.heap.objs.size:=fun b hb=>by
    obtain⟨o,ho,_⟩:=T.obj 0 _ st2 b hb;exact xap (xad ho)
  have pinC:∀p∈X.pn ++ pins,p.1≠HH.objs.size:=fun p hp=>below _ (xad (I2.pin p hp).1);have clIn:∀y c,(cT X.env.cells scope.names).lookup y=some c->X.env.cells.lookup y=some c:=Dh scope.names [] hhas (fun y c e=>by cases e);have kindRel:∀y,(relabel scope X.env).names.lookup y=(c7 X.env.scope scope.names).lookup y:=fun _=>rfl;have okC:(bU X (x::cs.map (·.1)) scope (cT X.env.cells scope.names) HH.objs.size s2 H2 fp (X.pn ++ pins)).Ok:=
    { mod:=I2.ok.mod
      kind:=ok.kind
      glob:=I2.ok.glob
      blt:=I2.ok.blt
      above:=hCle
      inj:=fun y z c e1 e2=>I2.ok.inj y z c (clIn y c e1) (clIn z c e2)
      has:=fun y hk=>by
        have hm:(y,NameKind.free)∈scope.names:=by
          rcases hk with hk |hk
          · exact mG (psc:=X.env.scope) (k':=.cell) hk (.inl rfl) ok.cell
          · exact mG (psc:=X.env.scope) (k':=.free) hk (.inr rfl) ok.cell
        exact u9 scope.names [] y (.inl hm)
      cab:=fun y c hf _=>by cases hf
      hd:=I2.ok.hd
      frames:=I2.ok.frames
      stk:=.inl rfl
      exf:=fun b hb=>⟨fpC b hb,fun y c e z=>(f2 b hb).2.2.2.2.1 y c (clIn y c e) z⟩
      bs:=fun b o e=>I2.bs b o e
      bsz:=xaD I2.ok.bsz I2.sz
      noex:=fun b o e hb=>by
        rcases(f2 b hb).2.2.2.1 with z |z
        · exact I2.ok.noex b o e z
        · exact absurd (xah (xad e) (xaD I2.ok.bsz z)) (xa0 _)
      exfs:=fun b hb z=>by
        rcases xas.mp (I2.stkSub b z) with q |q
        · exact(f2 b hb).2.1 q
        · exact(f2 b hb).2.2.1 q
      funs:=I2.stack
      frf:=I2.stkFree}
  have IC:Inv (bU X (x::cs.map (·.1)) scope (cT X.env.cells scope.names) HH.objs.size s2 H2 fp (X.pn ++ pins)) [] (none::dY cs σ) (upd H2 s2.heap.objs.size (.lst [])) {s2 with heap:=h₁,toks:=s2.toks + ([]:List (Str×Value)).length}:=
    { ok:=okC
      os:=rfl
      bare:=I2.bare
      base:=Un.laid old (xaf _) nD
      loc:=by
        refine⟨_,hns₁,fun i y u e1 e2 _=>?_⟩
        cases i with
        |zero=>
          have e2':(none:Option V)=some u:=xar e2;cases e2'
        |succ i=>
          have e1':(cs.map (·.1))[i]? =some y:=e1;have e2':(dY cs σ)[i]? =some (some u):=e2;rw[xan]at e1';unfold dY at e2';rw[xan]at e2'
          cases ep:cs[i]? with
          |none=>rw[ep]at e1';cases e1'
          |some p=>
            rw[ep]at e1' e2';have e1'':p.1=y:=xar e1';have e2'':(σ[p.2]?).join=some u:=xar e2';have e3:σ[p.2]? =some (some u):=by
              cases q:σ[p.2]? with
              |none=>rw[q]at e2'';cases e2''
              |some z=>rw[q]at e2'';exact congrArg some e2''
            subst e1'';obtain⟨hN,hkp,hkc⟩:=ok.cap p (xaL ep);obtain⟨mP,_,hl⟩:=I2.loc;obtain⟨u',ru,lk⟩:=hl p.2 p.1 u hN e3 (.inr hkp);refine⟨u',ru,.inr ⟨hkc,?_⟩⟩;rcases lk with⟨k0,_⟩ |⟨_,c,hcell,his⟩
            · exfalso
              have k0':X.env.scope.names.lookup p.1=some .local:=k0;rcases hkp with z |z<;>(rw[k0']at z;cases z)
            · have hm:(p.1,NameKind.free)∈scope.names:=by
                rcases hkc with z |z
                · exact mG z (.inl rfl) ok.cell
                · exact mG z (.inr rfl) ok.cell
              obtain⟨c',hc'⟩:=u9 (cells:=X.env.cells) scope.names [] p.1 (.inl hm);have e5:c'=c:=xar ((clIn p.1 c' hc').symm.trans hcell);exact⟨c',hc',by rw[e5];exact his.keeps old⟩
      cell:=fun y c e=>by
        obtain⟨v',q⟩:=I2.cell y c (clIn y c e);exact⟨v',q.keeps old⟩
      free:=by
        show upd H2 s2.heap.objs.size (.lst []) HH.objs.size=none;rw[aP hDC.symm];exact nC
      freeC:=fun y c e=>by
        have hcl:c<s2.heap.objs.size:=by
          obtain⟨_,q⟩:=I2.cell y c (clIn y c e);exact q.lt
        rw[aP (xap hcl)];exact I2.freeC y c (clIn y c e)
      pin:=fun p hp=>by
        have hp':p∈X.pn ++ pins:=by
          rcases xaO.mp hp with z |z
          · exact z
          · cases z
        obtain⟨e1,e2,e3,e4,e5⟩:=I2.pin p hp';refine⟨old _ _ e1,?_,pinC p hp',fun z=>?_,e5⟩
        · rw[aP (xap (xad e1))];exact e2
        · rcases xas.mp (I2.stkSub p.1 z) with q |q
          · exact e3 q
          · exact e4 q
      hok:=I2.hok.laid old (xaf _) ⟨xbc _,[],0,.nil,hacc⟩
      len:=by simp[dY]}
  have stC:tn 0 h₁:=T.keep 0 _ _ st2 fun b _ o e=>old b o e;have frC:∀b∈fp,upd H2 s2.heap.objs.size (HO.lst []) b=none:=fun b hb=>by
    rw[aP (fpD b hb)];exact(f2 b hb).1
  -- what stays true of the iterator's objects in the block
  have stat:∀{H':Hp},(∀b∈fp,H' b=none)->∀b∈fp,cJ (bU X (x::cs.map (·.1)) scope (cT X.env.cells scope.names) HH.objs.size s2 H2 fp (X.pn ++ pins)) [] H' b:=fun {H'} hn b hb=>
    ⟨hn b hb, fpC b hb, okC.exfs b hb, .inl hb, fun y c e => (okC.exf b hb).2 y c e, fun p hp => (f2 b hb).2.2.2.2.2 p (by
      rcases xaO.mp hp with z |z
      · exact z
      · cases z)⟩
  have loop:∀s₃:Shared,s₃={s2 with heap:=h₁,toks:=s2.toks + ([]:List (Str×Value)).length}->
      codeAny (model X.prog X.w) X.A (.compLoop (.ListComp elt [⟨.Name x px,iter,ifs,0⟩] scope pos) 0 (.ref it) (.ref s2.heap.objs.size) (compEnvC scope (cT X.env.cells scope.names) HH.objs.size X.env)) (RR (.ref s2.heap.objs.size) HH.objs.size) s₃:=by
    rintro s₃ rfl;refine JD (fun n s'=>∃(i:Nat) (v:Option V) (ys:List V) (H':Hp),Inv (bU X (x::cs.map (·.1)) scope (cT X.env.cells scope.names) HH.objs.size s2 H2 fp (X.pn ++ pins)) [] (v::dY cs σ) H' s'/\tn i s'.heap/\(∀b∈fp,H' b=none)/\W i n ys H')
      ?_ m0 ⟨0,none,[],_,IC,stC,frC,w0⟩
    rintro n s3 ⟨i,v3,ys,H3,I3,st3,fr3,w3⟩;obtain⟨hD3,tr⟩:=turn i n ys H3 w3;rcases tr with⟨stop,qn⟩ |⟨go,hsz,N,hN,step⟩
    · refine aL (T.done (bU X (x::cs.map (·.1)) scope (cT X.env.cells scope.names) HH.objs.size s2 H2 fp (X.pn ++ pins)) rfl rfl rfl hc i [] s3 _ H3 _ I3 (stat fr3) st3 stop) fun r s4 ⟨hr,I4⟩=>?_;subst hr;show RR (.ref s2.heap.objs.size) HH.objs.size (.ok .next) s4
      have IP:Inv X pins σ H3 s4:=I2.call' (ch:=fp) I4.os I4.base I4.hok I4.bare fun b hb=>⟨(f2 b hb).2.2.2.1,(f2 b hb).2.1,(f2 b hb).2.2.2.2.1,(f2 b hb).2.2.2.2.2⟩;obtain⟨m4,⟨oC,es,ep,hoC,hdC,hk1,hk2⟩,_⟩:=I4.loc;have nC3:H3 HH.objs.size=none:=I4.free;have fC:cJ X pins H3 HH.objs.size:=I2.fpOk hCle nC3;refine hRR _ _ oC H3 s4 (IP.pins_of fun p hp=>?_) (fun h' e=>⟨m4,oC,es,ep,e,hdC,hk1,hk2⟩) fC qn;rcases xaO.mp hp with z |z
      · exact IP.pin p (xao _ z)
      · have e:p=(HH.objs.size,oC):=by simpa using z
        subst e;exact ⟨hoC,nC3,fC.2.1,fC.2.2.1,fun v z=>by
          have z':oC.data=.cell v:=z;rw[hdC]at z';cases z'⟩
    · refine aL (T.item (bU X (x::cs.map (·.1)) scope (cT X.env.cells scope.names) HH.objs.size s2 H2 fp (X.pn ++ pins)) rfl rfl rfl hc i [] s3 _ H3 _ I3 (stat fr3) st3 go) fun r s4 ⟨u,hr,h4⟩=>?_;subst hr;refine aL h4 fun _ s5 ⟨y,H5,I5,r5,y5,st5,fr5⟩=>?_;have I5':=I5.pinned (stat fr5) (T.obj _ _ st5);have hloc:Loc (bU X (x::cs.map (·.1)) scope (cT X.env.cells scope.names) HH.objs.size s2 H2 fp (X.pn ++ pins)).env.scope x:=.inl (xbP ok.own);refine xcJ (mX (i:=0) I5' ok.nd rfl hloc r5 (fun s6 I6=>?_) (.inr (xbP ok.own)));refine aL (hq _ _ _ _ _ _ _ s6 _ H5 _ I6 (step y H5 y5)) fun b s7 ⟨H7,I7,q7⟩=>?_;have again:∀{v':Option V} {H8:Hp} {s8:Shared} {ys':List V} {m':Nat},Inv (bU X (x::cs.map (·.1)) scope (cT X.env.cells scope.names) HH.objs.size s2 H2 fp (X.pn ++ pins)) ([] ++ uc fp s5.heap) (v'::dY cs σ) H8 s8->W (i + 1) m' ys' H8->
          ∃(i:Nat) (v:Option V) (ys:List V) (H':Hp),Inv (bU X (x::cs.map (·.1)) scope (cT X.env.cells scope.names) HH.objs.size s2 H2 fp (X.pn ++ pins)) [] (v::dY cs σ) H' s8/\tn i s8.heap/\(∀b∈fp,H' b=none)/\W i m' ys H':=fun {v' H8 s8 ys' m'} I8 w8=>by
        refine⟨i + 1,v',ys',H8,I8.unpinned,T.keep _ _ _ st5 fun b hb o e=>(I8.pin (b,o) (xao _ (xao _ (tU hb e)))).1,fun b hb=>?_,w8⟩;obtain⟨o,e,d⟩:=T.obj _ _ st5 b hb;exact(I8.pin (b,o) (xao _ (xao _ (tU hb e)))).2.1
      cases b with
      |false=>
        rw[xag xaq]at q7;rw[xag xaq];obtain⟨m',hm,w8⟩:=hN _ _ q7;exact⟨m',hm,again I7 w8⟩
      |true=>
        rw[xac rfl]at q7;rw[xac rfl];refine aL (he _ _ _ _ _ _ _ s7 _ H7 _ I7 q7) fun z s8 ⟨zv,H8,I8,r8,hD8,n8⟩=>?_;obtain⟨m',hm,w8⟩:=hN _ _ n8;refine aL (Fo (X:=bU X (x::cs.map (·.1)) scope (cT X.env.cells scope.names) HH.objs.size s2 H2 fp (X.pn ++ pins)) _ s8 _ H8 (.ref s2.heap.objs.size) [zv] (.ref s2.heap.objs.size) [z] (fun _ H9=>H9=upd H8 s2.heap.objs.size (.lst (ys ++ [zv]))) I8 rfl (.cons r8 .nil) ⟨_,ys,zv,rfl,rfl,hD8,hsz,rfl⟩) fun _ s9 ⟨_,H9,I9,_,e9⟩=>?_;subst e9;exact⟨m',hm,again I9 w8⟩
  exact codeAny_compStart_list (loop _ rfl) (T.self _ 0 _ _ _ stC (loop _ rfl))
noncomputable def zcS (wi:TI) (tq:TT) (te:TE) (cs:List (Str×Nat)):TE:=fun σ H Q=>xP wi tq te cs σ H fun D H'=>Q (.ref D) H'
theorem Xa (x:Str)(cs:List (Str×Nat))(hc:X.calm=true)(hi:PI X (.Name x px) iter wi)
  (hq:∀(cl:List (Str×Addr)) (C:Addr) (s₀:Shared) (H₀:Hp) (ex:List Addr) (pn:Pnx),fM (bU X (x::cs.map (·.1)) scope cl C s₀ H₀ ex pn) ifs tq)
  (he:∀(cl:List (Str×Addr)) (C:Addr) (s₀:Shared) (H₀:Hp) (ex:List Addr) (pn:Pnx),PE (bU X (x::cs.map (·.1)) scope cl C s₀ H₀ ex pn) elt te)
  (ok:oY X.N X.env.scope x cs scope=true:=by kernel_rfl) (hs:∀x,foldedSetIterable iter X.env x=pure x:=by intro _;rfl):
  PE X (.ListComp elt [⟨.Name x px,iter,ifs,0⟩] scope pos) (zcS wi tq te cs):=by
 intro pins s σ H Q I h;have ok':=CompOk.of ok;rw[eval_ListComp];refine xb6 (use:=none) rfl hs (Di fun y hy hk=>I.ok.has y.1 (ok'.has y hy hk)) ok'.kind ok'.names ?_;refine JK (RR:=fun acc C=>compPost (model X.prog X.w) X.A X.xe none (EP X pins σ Q) acc C) hc hi hq he ok' I h ?_;intro D C oC H' s' I' hns fC q;refine⟨_,(hns _ (I'.pin (C,oC) (xao _ (xao _ (by simp)))).1).choose_spec,fun h' hs'=>?_⟩;have I1:Inv X pins σ H' s':=I'.unpinned;exact⟨.ref D,H',I1.turned (t':=s'.toks) (fun b o hb e=>(hs'.2 b hb).trans e) fC.1 fC.2.1 fC.2.2.2.1 fC.2.2.2.2.1 fC.2.2.2.2.2,rfl,q⟩
noncomputable def zcn (k:Nat) (wi:TI) (tq:TT) (te:TE) (cs:List (Str×Nat)):TS:=fun D σ H=>xP wi tq te cs σ H fun l H'=>D.nx (σ.set k (some (.ref l))) H'
theorem Mq (x:Str)(cs:List (Str×Nat))(hN:X.N.Nodup)(hk:X.N[k]? =some y)(hy:Loc X.env.scope y)(hc:X.calm=true)(hi:PI X (.Name x px) iter wi)
  (hq:∀(cl:List (Str×Addr)) (C:Addr) (s₀:Shared) (H₀:Hp) (ex:List Addr) (pn:Pnx),fM (bU X (x::cs.map (·.1)) scope cl C s₀ H₀ ex pn) ifs tq)
  (he:∀(cl:List (Str×Addr)) (C:Addr) (s₀:Shared) (H₀:Hp) (ex:List Addr) (pn:Pnx),PE (bU X (x::cs.map (·.1)) scope cl C s₀ H₀ ex pn) elt te)
  (ok:oY X.N X.env.scope x cs scope=true:=by kernel_rfl) (hs:∀x,foldedSetIterable iter X.env x=pure x:=by intro _;rfl)
  (hsw:swapsWith (.ListComp elt [⟨.Name x px,iter,ifs,0⟩] scope pos) (some (.Name y py)) spos.line X.env=pure true:=by rfl)
  (hf:X.fn y=true\/X.env.scope.names.lookup y=some .local:=by first |exact .inl rfl |exact .inr rfl |assumption):
  PS X (.Assign [.Name y py] (.ListComp elt [⟨.Name x px,iter,ifs,0⟩] scope pos) spos) (zcn k wi tq te cs):=by
 intro pins s σ H D I h;have ok':=CompOk.of ok;rw[exec_Assign_Name_used _ _ _ _ hsw];refine xaa (xbS (xaa ?_));show wpAny _ X.A (do let _ <-comprehension (.ListComp elt [⟨.Name x px,iter,ifs,0⟩] scope pos) scope X.env _ (newList []) false (eval iter X.env) (some (assign (.Name y py) X.env))) _ _ s
 refine xaa (xaH (xb6 (use:=some (assign (.Name y py) X.env)) (Q:=fun _ s'=>SP X pins D .next s') rfl hs (Di fun y hy hk=>I.ok.has y.1 (ok'.has y hy hk)) ok'.kind ok'.names
  (JK (RR:=fun acc C=>compPost (model X.prog X.w) X.A X.xe (some (assign (.Name y py) X.env)) (fun _ s'=>SP X pins D .next s') acc C) hc hi hq he ok' I h ?_)) (fun _ s' hq=>xaj (xaj hq)) fun _ _ e=>e)
 intro l C oC H' s' I' hns fC q;show wpAny _ X.A (assign (.Name y py) X.env (.ref l)) _ _ _;refine xcJ (mX (v:=.ref l) I' hN hk hy rfl (fun s'' I''=>?_) hf);refine⟨_,(hns _ (I''.pin (C,oC) (xao _ (xao _ (by simp)))).1).choose_spec,fun h' hs'=>?_⟩;have I1:Inv X pins _ H' s'':=I''.unpinned;exact⟨_,H',I1.turned (t':=s''.toks) (fun b o hb e=>(hs'.2 b hb).trans e) fC.1 fC.2.1 fC.2.2.2.1 fC.2.2.2.2.1 fC.2.2.2.2.2,q⟩
end
theorem nZ (hD:H D=none):Same H (upd H D o):=fun b ob e=>by
 rw[aP (d8 e hD)];exact e
structure Noted (fs:List Addr)(z:Addr)(h h':Heap)(e:Addr)(oe:Obj)(T:Addr)(fl:Value):Prop where
 keep:∀b o,b∉fs->b≠e->b≠z->h.get? b=some o->h'.get? b=some o
 slot:∀b o,b∈fs->b≠e->b≠z->h.get? b=some o->∃sl,h'.get? b=some {o with slots:=sl}
 exc:h'.get? e=some (oe.mapFields (·.setIfInBounds 1 (.ref T)))
 new:h.objs.size<=T
 tb:∃oT ts,h'.get? T=some oT/\oT.data=.fields ts/\ts[3]? =some fl
section
variable {M:Model}{A:Around}{E:Value->Shared->Prop}{s:Shared}{base:Heap}{env:Env}{outer:List Env}{L e z:Addr}{oe:Obj}{vs:Array Value}{Q:Unit->Shared->Prop}
theorem Ls (a1:A.frames=some (env::outer))(a2:s.heap.FunFrames base (env::outer))(a3:env.frame=some L)
  (a4:s.heap.get? e=some oe) (a5:oe.data=.fields vs) (a6:1<vs.size)
  (k:∀h' T,Noted (frs (env::outer)) e s.heap h' e oe T (rawInt L)->Q () {s with heap:=h'}):
  wpAny M A (do
   let a <-frameOf env
   let pl <-entryPlaceOf L hadNext
   let b <-EntryCells.newEntry head a .none (rawInt L) .none pl
   setField (.ref e) 1 b) Q E s:=by
 have ne:e∉frs (env::outer):=fun m=>by
  obtain⟨_,o,e1,e2⟩:=a2.mem m;rw[a4]at e1;cases e1;exact e2 vs a5
 refine xaa (wpAny_frameOf_fun a1 a2 a3 fun h1 S=>?_);refine xaa (wpAny_entryPlaceOf fun pl hpl=>?_);unfold EntryCells.newEntry newFields;refine xaa (xbv ?_ (hpl.sizeOk5 _ _ _ _ _));have b1:h1.get? e=some oe:=(S.2.1 e ne).trans a4;have b2:=xab (h:=h1) {cls:=.type "traceback",dict:=none,data:=.fields ([head,.ref L,.none,rawInt L,.none] ++ (if pl.isEmpty then List.replicate 6 Value.none else pl)).toArray} b1
 refine xcy b2 a5 a6 (k _ h1.objs.size ?_);have n1:h1.objs.size≠e:=xb1 (xad b1);have frd:=xbt (xaM a5 (·.setIfInBounds 1 (Value.ref h1.objs.size)));refine⟨fun b o nb nbe _ hb=>?_,fun b o _ nbe _ hb=>?_,xbb _ b2 frd,Nat.le_of_eq S.1.symm,?_⟩
 ·rw[xaB _ _ (xaP nbe)];exact xab _ ((S.2.1 b nb).trans hb)
 ·obtain⟨sl,q⟩:=S.2.2 b o hb;refine⟨sl,?_⟩;rw[xaB _ _ (xaP nbe)];exact xab _ q
 ·refine⟨_,_,(xaB _ _ (xaP n1)).trans (xau h1 rfl),rfl,?_⟩;rcases hpl with rfl |⟨_,_,_,_,_,_,_,rfl⟩<;>simp
theorem J8 (b1:s.heap.get? e=some oe)(b2:oe.data=.fields vs)(b3:vs[1]? =some (.ref T))(b4:s.heap.get? T=some oT)(b5:oT.data=.fields ts)(b6:3<ts.size)
  (k:Q () {s with heap:=s.heap.update T (Obj.mapFields (·.setIfInBounds 3 .none))}):wpAny M A (setFlight (.ref e) none) Q E s:=by
 unfold setFlight;refine xaa (xcg b1 b2 b3 ?_);rw[xac (by simp)];exact xcy b4 b5 b6 k
theorem Vn (N:Noted fs z h h1 e oe T fl)(a4:h.get? e=some oe)(a5:oe.data=.fields vs):Noted fs z h (h1.update T (Obj.mapFields (·.setIfInBounds 3 .none))) e oe T .none:=by
 obtain⟨oT,ts,t1,t2,t3⟩:=N.tb;have ne:∀b o,h.get? b=some o->b≠T:=fun b o q=>xap (xah (xad q) N.new);refine⟨fun b o n1 n2 n3 hb=>?_,fun b o n1 n2 n3 hb=>?_,?_,N.new,?_⟩
 ·rw[xaB _ _ (xaP (ne b o hb))];exact N.keep b o n1 n2 n3 hb
 ·obtain⟨sl,q⟩:=N.slot b o n1 n2 n3 hb;exact⟨sl,by rw[xaB _ _ (xaP (ne b o hb))];exact q⟩
 ·rw[xaB _ _ (xaP (ne e oe a4))];exact N.exc
 ·have z3:3<ts.size:=(xaS.mp t3).1;exact⟨_,_,xbb _ t1 (xbt (xaM t2 _)),xaM t2 _,by simp[z3]⟩
theorem Ly (N:Noted fs z h s.heap e oe T fl)(a4:h.get? e=some oe)(a5:oe.data=.fields vs)(a6:1<vs.size)
  (k:∀h',Noted fs z h h' e oe T .none->Q () {s with heap:=h'}):wpAny M A (setFlight (.ref e) none) Q E s:=by
 obtain⟨oT,ts,t1,t2,t3⟩:=N.tb;refine J8 N.exc (xaM a5 _) (by simp[a6]) t1 t2 (xaS.mp t3).1 (k _ (Vn N a4 a5))
theorem U3 (a1:A.frames=some (env::outer))(a2:s.heap.FunFrames base (env::outer))(a3:env.frame=some L)
  (a4:s.heap.get? e=some oe) (a5:oe.data=.fields vs) (a6:vs[1]? =some .none) (k:∀h' T,Noted (frs (env::outer)) e s.heap h' e oe T .none->Q () {s with heap:=h'}):wpAny M A (leaving env (.ref e)) Q E s:=by
 have z1:=(xaS.mp a6).1;unfold leaving noteFrame;simp only[a3];refine xaa (xaa (xcg a4 a5 a6 ?_));rw[xag (by decide)];exact Ls a1 a2 a3 a4 a5 z1 fun h' T N=>Ly (s:={s with heap:=h'}) N a4 a5 z1 fun h2 N2=>k h2 T N2
theorem Vm (a1:A.frames=some (env::outer))(a2:s.heap.FunFrames base (env::outer))(a3:env.frame=some L)
  (a4:s.heap.get? e=some oe) (a5:oe.data=.fields vs) (a6:vs[1]? =some (.ref T0)) (b1:T0≠e) (b2:s.heap.get? T0=some oT) (b3:oT.data=.fields ts) (b4:ts[3]? =some .none)
  (k:∀h' T,Noted (frs (env::outer)) T0 s.heap h' e oe T (rawInt L)->Q () {s with heap:=h'}):wpAny M A (noteFrame (.ref e) env) Q E s:=by
 have z1:=(xaS.mp a6).1;unfold noteFrame;simp only[a3];refine xaa (xcg a4 a5 a6 ?_);rw[xac (by simp)];refine xaa (xcg b2 b3 b4 ?_);rw[xag (by simp[rawInt])];refine xaa (xcy b2 b3 (xaS.mp b4).1 ?_);have oth:∀b,b≠T0->(s.heap.update T0 (Obj.mapFields (·.setIfInBounds 3 Value.none))).get? b=s.heap.get? b:=fun b hb=>xaB _ _ (xaP hb);have fr:∀b o,s.heap.get? b=some o->(∀us,o.data≠ .fields us)->b≠T0:=fun b o hb n r=>by
  rw[r,b2]at hb;cases hb;exact n ts b3
 refine Ls (s:={s with heap:=s.heap.update T0 (Obj.mapFields (·.setIfInBounds 3 Value.none))}) a1 (a2.of_keeps fun b o hb n=>⟨o,(oth b (fr b o hb n)).trans hb,rfl⟩) a3 ((oth e (xaP b1)).trans a4) a5 z1 fun h' T N=>k h' T ?_;exact⟨fun b o n1 n2 n3 hb=>N.keep b o n1 n2 n2 ((oth b n3).trans hb),fun b o n1 n2 n3 hb=>N.slot b o n1 n2 n2 ((oth b n3).trans hb),N.exc,by rw[<-Heap.size_after_update s.heap T0 (Obj.mapFields (·.setIfInBounds 3 Value.none))];exact N.new,N.tb⟩
end
section
variable {prog:Program}{w:World}{A:Around}{E:Value->Shared->Prop}{h:Heap}{g:Array GenState}{d:Drawn}{t:Nat}{os:OsState}
variable {nm q:Str}{C N:Addr}{bs bm bmB:List Value}{hdct:Bool}{sn:List Str}{sub:List Value}{ab:Bool}{col:Option Bool}{dd:Option Addr}{k0 k1 k2 k3 k5:Option Value}{B newId initId:String}
theorem zae (F:ExcBaseFacts B newId initId bmB)(T:OwnTail h bmB bm) 
  (c1:h.get? C=some (excClassObj nm q C N bs bm hdct sn sub ab col dd k0 k1 k2 k3 k5 newId)) (c2:h.Ns N mN) (c3:mN "__init__"=some (.ref fI)) (c4:h.get? fI=some oI) (c5:oI.cls=.type "function") (c6:rest.length<=sizeLine)
  (k:∀h' e,Heap.MadeExcOf h h' e (.ref C) rest->wpAny (model prog w) A (call (.ref fI) (.ref e::rest)) (fun r s'=>r=.none/\Q (.done (.ret (.ref e))) s') E ⟨h',g,d,t,os⟩):
  wpAny (model prog w) A (Builtin.«type.__call__» ⟨.ref C::rest,[]⟩) Q E ⟨h,g,d,t,os⟩:=by
 repeat (first |with_reducible refine xbk c1 ?_ |with_reducible refine wpAny_madeBy_exc c1 ?_ |wp_step)
 refine codeAny_call_builtin_code (Code.quiet_builtin _ F.quiet) (wpAny_check_new_subT F T c1 (codeAny_exc_new_subT F T c1 ?_ c6));show wpAny _ _ _ _ _ _;have up : ∀ b o, h.get? b = some o -> ((h.push {cls:=.type "tuple",data:=.seq rest.toArray}).push
   {cls:=.ref C,data:=.fields #[.ref h.objs.size,.none,.none,.none,.bool false,.none]}).get? b=some o:=fun b o hb=>
  xab _ (xab _ hb)
 have at1 : ((h.push {cls:=.type "tuple",data:=.seq rest.toArray}).push
   {cls:=.ref C,data:=.fields #[.ref h.objs.size,.none,.none,.none,.bool false,.none]}).get? (h.objs.size + 1)=some
   {cls:=.ref C,data:=.fields #[.ref h.objs.size,.none,.none,.none,.bool false,.none]}:=by heap_get
 have hcC:(Value.ref C::bm).contains (.ref C)=true:=by simp
 have c1':=up _ _ c1;have c4':=up _ _ c4;have T':=T.keeps up;have c2':=c2.keeps up;unfold isInstance
 repeat (first |with_reducible refine xbk at1 ?_ |(with_reducible refine xbW c1' ?_;rw[hcC]) |wp_step)
 show wpAny _ _ (typeLookup (.ref C) _) _ _ _;refine wpAny_typeLookup_tail c1' c2' T' F.mroIs F.init.lookup ?_;rw[c3];refine xaR (xaa ?_);unfold bindSpecial;refine xaa (xcT (T:="function") ⟨_,c4',c5⟩ ?_);rw[xac (by decide)];refine xaj (xaa (xaH (k _ (h.objs.size + 1) ⟨up,xbw (xcz _),h.objs.size,at1,xbw (xaf _),?_⟩) (fun r s' hr=>?_) fun _ _ x=>x))
 ·exact xab _ (Heap.get?_push_at rfl rfl)
 ·obtain⟨rfl,z⟩:=hr
  wp_walk
  exact z
theorem QT (F:ExcBaseFacts B newId initId bmB)(T:OwnTail h bmB bm) 
  (c1:h.get? C=some (excClassObj nm q C N bs bm hdct sn sub ab col dd k0 k1 k2 k3 k5 newId)) (c2:h.Ns N mN) (c3:mN "__init__"=some (.ref fI)) (c4:h.get? fI=some oI) (c5:oI.cls=.type "function") (c6:rest.length<=sizeLine)
  (k:∀h' e,Heap.MadeExcOf h h' e (.ref C) rest->wpAny (model prog w) (A.under (.builtin "type.__call__" ⟨.ref C::rest,[]⟩)) (call (.ref fI) (.ref e::rest)) (fun r s'=>r=.none/\Q (.ref e) s') E ⟨h',g,d,t,os⟩):
  wpAny (model prog w) A (call (.ref C) rest) Q E ⟨h,g,d,t,os⟩:=by
 have f1:=tc_lookup;have f2:=tc_bind (.ref C);have f3:(⟨h,g,d,t,os⟩:Shared).TypeIs (.ref C) "type":=⟨_,c1,rfl⟩;refine xb8 (codeAny_of_tree ?_);show wpAny _ _ (callAny (.ref C) _) _ _ _
 repeat (any_goals (first |assumption |with_reducible refine xbk c1 ?_ |wp_step))
 exact⟨rfl,codeAny_call_builtin_at (Code.quiet_builtin _ (by x_go)) entry_typeCall (wpAny_check_type_call_sub c1 (zae F T c1 c2 c3 c4 c5 c6 fun h' e m=>k h' e m))⟩
theorem zao (hh:A.handled=none)
  (k : wpAny (model prog w) A x (fun v s₁=>∃e oe vs,v=.ref e/\(∃C nm q N bs bm hdct sn sub ab col dd k0 k1 k2 k3 k5 newId,s₁.heap.get? C=some (excClassObj nm q C N bs bm hdct sn sub ab col dd k0 k1 k2 k3 k5 newId)/\bm.contains (.type "BaseException")=true/\oe.cls=.ref C)/\
   s₁.heap.get? e=some oe/\oe.data=.fields vs/\vs[1]? =some .none/\E (.ref e) s₁) E s):
  wpAny (model prog w) A (raiseStmt env (some x) none) Q E s:=by
 unfold raiseStmt;refine xaa (xaH k (fun v s₁ h₁=>?_) fun _ _ x=>x);obtain⟨e,oe,vs,rfl,⟨C,nm,q,N,bs,bm,hdct,sn,sub,ab,col,dd,k0,k1,k2,k3,k5,newId,hC,hb,hc⟩,he,hd,h1,hE⟩:=h₁;have hcB:(Value.ref C::bm).contains (.type "BaseException")=true:=by rw[xcF,hb,xdu]
 obtain⟨oc,od,odt,osl⟩:=oe;dsimp only at hc hd;subst hc hd;obtain⟨hp,g,d,tk,os⟩:=s₁
 repeat (first |with_reducible refine xbk he ?_ |with_reducible refine xbk hC ?_ |(with_reducible refine xbW hC ?_;rw[hcB]) |with_reducible refine xcg he rfl h1 ?_ |wp_step)
 exact wpAny_raiseNew_none hh hE
end
section
variable {prog:Program}{w:World}{A:Around}{E:Value->Shared->Prop}{h:Heap}{g:Array GenState}{d:Drawn}{t:Nat}{os:OsState}
variable {nm q:Str}{C N:Addr}{bs bm bmB:List Value}{hdct:Bool}{sn:List Str}{sub:List Value}{ab:Bool}{col:Option Bool}{dd:Option Addr}{k0 k1 k2 k3 k5:Option Value}{B newId initId:String}
theorem zcg (F:ExcBaseFacts B newId initId bmB)(T:OwnTail h bmB bm) 
  (c1:h.get? C=some (excClassObj nm q C N bs bm hdct sn sub ab col dd k0 k1 k2 k3 k5 newId)) (e1:h.get? e=some oe) (e2:oe.cls=.ref C) (e3:oe.data=.fields vs) (e4:vs[0]? =some (.ref t0)) (hz:rest.length<=sizeLine)
  (k:Q .none ⟨(h.push {cls:=.type "tuple",data:=.seq rest.toArray}).update e (Obj.mapFields (·.setIfInBounds 0 (.ref h.objs.size))),g,d,t,os⟩):
  wpAny (model prog w) A (call (.builtin initId) (.ref e::rest)) Q E ⟨h,g,d,t,os⟩:=by
 refine xb8 (xbQ F.init.plain F.initEntry (wpAny_check_init_subT F T c1 e1 e2 ?_));unfold Builtin.«BaseException.__init__»;dsimp only;rw[xag (by simp)];unfold newTuple Builtin.BaseException.bexcPut;have z0:0<vs.size:=(xaS.mp e4).1;have e1':=xab (h:=h) {cls:=.type "tuple",data:=.seq rest.toArray} e1;refine xaa (xbv (xaa (xaa (xcg e1' e3 e4 (xaa (xcy e1' e3 z0 ?_))))) (by show rest.toArray.size<=sizeLine;rw[xak];exact hz));exact wpAny_letGo (xaj k)
theorem Qd 
  (c1:h.get? C=some (excClassObj nm q C N bs bm hdct sn sub ab col dd k0 k1 k2 k3 k5 newId)) (c2:h.get? c=some (excClassObj nm' q' c N' bs' bm' hdct' sn' sub' ab' col' dd' j0 j1 j2 j3 j5 newId)) (e1:h.get? e=some oe) (e2:oe.cls=.ref C)
  (hb:bm'.contains (.type "BaseException")=true) (k:Q ((Value.ref C::bm).contains (.ref c)) ⟨h,g,d,t,os⟩):wpAny (model prog w) A (excMatches (.ref e) (.ref c)) Q E ⟨h,g,d,t,os⟩:=by
 have hcB:(Value.ref c::bm').contains (.type "BaseException")=true:=by rw[xcF,hb,xdu]
 have f:=tc_notTuple;unfold excMatches;generalize hr:(Value.ref C::bm).contains (.ref c)=r at k
 repeat (first |(with_reducible refine xbk e1 ?_;rw[e2]) |with_reducible refine xbk c2 ?_ |(with_reducible refine xbW c2 ?_;rw[hcB]) |(with_reducible refine xbW c1 ?_;rw[hr]) |wp_step)
 cases r<;>(wp_walk;exact k)
end
abbrev sy:List Value:=[.type "ValueError",.type "Exception",.type "BaseException",.type "object"]
def Bu:List Value->Bool
 |.ref _::r=>Bu r
 |l=>l==sy
theorem PL:∀(l:List Value),Bu l=true->∃as:List Addr,l=as.map Value.ref ++ sy
  | [],e=>⟨[],xaU.mp e⟩
  |v::r,e=>by
    cases v
    case ref c=>
      obtain⟨as,h⟩:=PL r e;exact⟨c::as,by rw[h];rfl⟩
    all_goals exact⟨[],xaU.mp e⟩
theorem M6 (self:Value):∀as:List Addr,refuseLoop self "__setattr__" (as.map Value.ref ++ sy)=pure ()
 | []=>PySem.F.store_ValueError.passes self
 |c::as=>(refuseLoop_ref self "__setattr__" c _).trans (M6 self as)
theorem zcf (as:List Addr):(as.map Value.ref ++ sy).contains (.type "object")=true:=by
 induction as with
 |nil=>decide +kernel
 |cons c as ih=>rw[xam,xcU,xcF,ih,xdu]
noncomputable def aV (K:Fgx) (C:Addr):Bool:=match K.lookup C with
  | some ⟨.type "type", _, .cls cd, sl⟩ => (match cd.mro,sl.toList with
    |.ref c::bm,[_,_,_,_,some (.builtin n),_]=>c==C && (n=="ValueError.__new__" && (!cd.hasDel && (PySem.W.tailIn K sy bm && (PySem.W.nsOkIn K cd.ns && (cd.hasDict && Bu bm)))))
    |_,_=>false)
  |_=>false
structure XCls (h:Heap)(C:Addr)(nm qn:Str)(N:Addr)(bs bm:List Value)(sn:List Str)(sub:List Value)(ab:Bool)(col:Option Bool)(dd:Option Addr)(k0 k1 k2 k3 k5:Option Value):Prop where
 obj:h.get? C=some (excClassObj nm qn C N bs bm true sn sub ab col dd k0 k1 k2 k3 k5 "ValueError.__new__")
 tail:OwnTail h sy bm
 ns:h.Ns N (h.nsMap N)
 over:Bu bm=true
theorem m6 {K:Fgx}{h:Heap}{C:Addr}(X:K.In h)(q:aV K C=true):∃nm qn N bs bm sn sub ab col dd k0 k1 k2 k3 k5,
  XCls h C nm qn N bs bm sn sub ab col dd k0 k1 k2 k3 k5/\K.lookup C=some (excClassObj nm qn C N bs bm true sn sub ab col dd k0 k1 k2 k3 k5 "ValueError.__new__"):=by
 unfold aV at q;split at q
 ·rename_i dd cd sl ho;split at q
  ·rename_i c bm k0 k1 k2 k3 n k5 hm hs;simp only[xat,xaU,xdE]at q;obtain⟨q1,q2,q3,q4,q5,q6,q7⟩:=q;obtain⟨nm,bs,mro,ns,qn,hd,sn,sub,ab,col,del⟩:=cd;obtain⟨sl⟩:=sl;dsimp only at hm hs q3 q5 q6;subst q1 q2 hm q3 q6 hs;exact⟨nm,qn,ns,bs,bm,sn,sub,ab,col,dd,k0,k1,k2,k3,k5,⟨X _ _ ho,PySem.W.tail_of_in X q4,.of_isNs (PySem.W.isNs_of_in X q5),q7⟩,ho⟩
  ·cases q
 ·cases q
noncomputable def yr (K:Fgx) (C f:Addr):Bool:=match K.lookup C with
 |some ⟨_,_,.cls cd,_⟩=>PySem.W.nsIn K cd.ns "__init__"==some (some (.ref f)) && PySem.W.typeIn K (.ref f)==some (.type "function")
 |_=>false
noncomputable def sH (K:Fgx) (C:Addr):Bool:=match K.lookup C with
 |some ⟨_,_,.cls cd,_⟩=>PySem.W.nsIn K cd.ns "__init__"==some none
 |_=>false
theorem Vp {K:Fgx}{h:Heap}{N:Addr}{mg:Mgx}{n:Str}{v:Value}(X:K.In h)(G:h.Ns N mg)(e:PySem.W.nsIn K N n=some (some v)):mg n=some v:=by
 obtain⟨o,es,ep,ho,hd,_,hf⟩:=G;unfold PySem.W.nsIn at e;split at e
 ·rename_i q;have z:=X _ _ q;rw[ho]at z;cases z;cases hd;split at e
  ·rename_i en he;cases e;rw[<-hf];unfold nsFind findBy;rw[<-xcC,he];rfl
  ·split at e<;>cases e
 ·cases e
noncomputable def m7 (K:Fgx) (C:Addr):Bool:=PySem.W.findIn K (.ref C) "__getattribute__"==some (some (.builtin "BaseException.__getattribute__")) &&
 (PySem.W.findIn K (.ref C) "__getattr__"==some none && PySem.W.mroIn K C (.type "BaseException")==some true)
section
variable {prog:Program}{w:World}{A:Around}{E:Value->Shared->Prop}{s:Shared}{K:Fgx}{x C:Addr}{ox:Obj}{od:Option Obj}{name:Str}{tk:Tok}
theorem yq {fill expr:Bool}{Q:Value->Shared->Prop}(X:K.In s.heap)(q:m7 K C=true)(I:PySem.W.InstAt s.heap x ox C od)
  (h : wpAny (model prog w) A.in1 (Builtin.«object.__getattribute__» ⟨[.ref x, .str name tk], []⟩) (fun fin s'=>match fin with
   |.done (.ret v)=>wpAny (model prog w) A (handedOut v) Q E s'
   |_=>False) (fun _ _=>False) s):wpAny (model prog w) A (getAttrBy (.ref x) (.str name tk) fill expr) Q E s:=by
 simp only[m7,xat,xaU]at q;obtain⟨g1,g2,g3⟩:=q;have M0:=I.type (M:=model prog w);have M1:=xcv (M:=model prog w) X g1;have M2:=xcv (M:=model prog w) X g2;have M3:PySem.W.Looks (model prog w) s.heap (isInstance (.ref x) (.type "BaseException")) true:=M0.andThen (xdl X g3);have FB:=PySem.F.excAttr_ValueError;unfold getAttrBy;refine xaR (xaa (M0.here (xaa (M1.here ?_))));dsimp only;rw[show(Value.builtin "BaseException.__getattribute__"==Value.builtin "object.__getattribute__")=false from by x_go,xb9,xag xaq];unfold getAttrByItsOwn;refine xaa (m:=hookBefore (.ref C)) (M2.here (xaa (wpAny_attempt (xaR ?_))));unfold callGetattribute;rw[xag (by cases expr<;>decide +kernel)]
 unfold boundAndCalled;rw[FB.ga.bind];refine xaa (xaj ?_);refine xb8 (xbQ FB.ga.plain PySem.F.entry_bexc_ga (@PySem.W.check_slot (model prog w) _ _ s "BaseException.__getattribute__" "BaseException" "__getattribute__" (.ref x) [.str name tk] [] _ (by x_go) (by x_go) M3 (PySem.F.args_bexc_ga _ _) ?_));refine xaH h (fun fin s' z=>?_) fun _ _ z=>z.elim;rcases fin with(v |_ |_ |_) |c<;>first |exact z |exact z.elim
theorem zbe {v:Value}{Q:Fin->Shared->Prop}(X:K.In s.heap)(I:PySem.W.InstAt s.heap x ox C od)(hf:PySem.W.findObj K C od name=some (.value v))(k:Q (.done (.ret v)) s):
  wpAny (model prog w) A (Builtin.«object.__getattribute__» ⟨[.ref x,.str name tk],[]⟩) Q E s:=by
 have M0:=I.type (M:=model prog w);have M1:=xdv (M:=model prog w) X I hf;refine xaa (xaj (xaa (xaj (xaa (M0.here (xaa (M1.here ?_)))))));exact xaj k
theorem zbb {g a:Value}{P:Value->Shared->Prop}(X:K.In s.heap)(I:PySem.W.InstAt s.heap x ox C od)(hf:PySem.W.findObj K C od name=some (.bind g a))(k:wpAny (model prog w) A (call g [a,.ref x,.ref C]) P E s):
  wpAny (model prog w) A (Builtin.«object.__getattribute__» ⟨[.ref x, .str name tk], []⟩) (fun fin s'=>match fin with
   |.done (.ret v)=>P v s'
   |_=>False) E s:=by
 have M0:=I.type (M:=model prog w);have M1:=xdv (M:=model prog w) X I hf;refine xaa (xaj (xaa (xaj (xaa (M0.here (xaa (M1.here ?_)))))));show wpAny _ _ (holding [a] (call g [a,.ref x,.ref C]) >>=ret) _ _ _;exact xaa (xaR (xaH k (fun v s' z=>xaj z) fun _ _ z=>z))
end
noncomputable def gY (K:Fgx) (C:Addr) (name:Str):Bool:=
 PySem.W.findIn K (.ref C) "__setattr__" == some (some (.builtin "object.__setattr__")) && (PySem.W.takerIn K C name==some none &&
  (m7 K C && (PySem.W.hasDictIn K C && PySem.W.findIn K (.ref C) name==some none)))
section
variable {prog:Program}{w:World}{A:Around}{E:Value->Shared->Prop}{s:Shared}{K:Fgx}{x dx C:Addr}{ox:Obj}{vs:Array Value}{name:Str}{v:Value}
theorem zc1 {expr:Bool}{mA:Mgx}{Q:Value->Shared->Prop}(X:K.In s.heap)(q:gY K C name=true)(a1:s.heap.get? x=some ox)(a2:ox.cls=.ref C)(a3:ox.dict=some dx)(a4:ox.data=.fields vs)(a5:s.heap.Ns1 dx mA)
  (a6:mA name=some v) (a7:PySem.W.handedIn v=true) (k:Q v {s with toks:=s.toks + 1}):wpAny (model prog w) A (getAttr (.ref x) name expr) Q E s:=by
 simp only[gY,xat,xaU]at q;obtain⟨od,e1,e2⟩:=Fl a5;have J:PySem.W.InstAt s.heap x ox C (some od):=⟨a1,a2,by unfold PySem.W.notCls;rw[a4],by rw[a3];exact e1⟩;unfold getAttr;refine xaa (wpAny_mkText (yq (s:={s with toks:=s.toks + 1}) X q.2.2.1 J (zbe (s:={s with toks:=s.toks + 1}) X J (PySem.W.findObj_own q.2.2.2.1 q.2.2.2.2 rfl (by rw[e2,a6])) ?_)));exact xdF a7 k
theorem zcR {Q:Unit->Shared->Prop}(X:K.In s.heap)(q0:aV K C=true)(q:gY K C name=true)(a1:s.heap.get? x=some ox)(a2:ox.cls=.ref C)(a3:ox.dict=none)(a4:ox.data=.fields vs)
    (k:∀h' tk,(∀b o,b≠x->s.heap.get? b=some o->h'.get? b=some o)->h'.get? x=some {ox with dict:=some s.heap.objs.size}->h'.Ns1 s.heap.objs.size (fun y=>if y=name then some v else none)->Q () {s with heap:=h',toks:=tk}):
    wpAny (model prog w) A (setAttr (.ref x) name v) Q E s:=by
  simp only[gY,xat,xaU]at q;obtain⟨g1,g2,_,g4,_⟩:=q;obtain⟨nm,qn,N,bs,bm,sn,sub,ab,col,dd,k0,k1,k2,k3,k5,Y,lk⟩:=m6 X q0;obtain⟨as,hbm⟩:=PL bm Y.over;have J:PySem.W.InstAt s.heap x ox C none:=⟨a1,a2,by unfold PySem.W.notCls;rw[a4],by rw[a3];trivial⟩;refine PySem.W.set_plain X J g1 ?_;have SF:=PySem.F.store_object;obtain⟨cd,hc,hd⟩:=xcV g4;have hcd:cd.mro=(C::as).map Value.ref ++ sy:=by
    unfold PySem.W.clsIn at hc;rw[lk]at hc;cases hc;show Value.ref C::bm=_;rw[hbm];rfl
  have ne:cd.mro.isEmpty=false:=by rw[hcd];rfl
  have sub2:PySem.W.Looks (model prog w) s.heap (isInstance (.ref x) (.type "object")) true:=
    J.type.andThen (xdl X (by unfold PySem.W.mroIn;rw[hc,Option.bind_some,xag (by rw[ne];decide),hcd,zcf]))
  refine xbQ SF.slot.plain SF.entry (@PySem.W.check_slot (model prog w) _ _ {s with toks:=s.toks + 1} "object.__setattr__" "object" "__setattr__" (.ref x) [.str name s.toks,v] [] _ SF.kind SF.split sub2 (SF.args (.ref x) (.str name s.toks) v) ?_);obtain⟨attr,ha,hr⟩:=Option.bind_eq_some_iff.mp g2;have hm:PySem.W.Looks (model prog w) s.heap (mroOf (.ref C)) cd.mro:=(xdm X hc).andThen .now;have L3:PySem.W.Looks (model prog w) s.heap (Builtin.ObjectAttr.storeTaker? attr) none:=by
    cases attr with
    |none=>exact .now
    |some a=>
      obtain⟨b,hb,e⟩:=xae.mp hr;refine(PySem.W.looks_takesIn X hb).andThen ?_;cases b
      · exact .now
      · cases e
  rw[PySem.W.osa_eq,refuse_eq];refine xaa (xaa (xbo (s:={s with toks:=s.toks + 1}) J.type (xaa (xbo (s:={s with toks:=s.toks + 1}) hm ?_))));rw[hcd,M6];refine xaj (xaa (xbo (s:={s with toks:=s.toks + 1}) J.type (xaa (xbo (s:={s with toks:=s.toks + 1}) (xcv X ha) (xaa (xbo (s:={s with toks:=s.toks + 1}) L3 ?_))))));obtain⟨oc,odi,oda,osl⟩:=ox;dsimp only at a2 a3 a4;subst a2 a3 a4;refine xaa (xaj (xaa (xaa (wpAny_loadPart a1 (xaa (xbo (s:={s with toks:=s.toks + 1}) (xdm X hc) ?_))))));rw[hd];have hx1:(s.heap.push {cls:=.type "dict",data:=.dict #[]}).get? x=some _:=xab _ a1;have hxs:x≠s.heap.objs.size:=xap (xad a1);refine xaa (wpAny_alloc' ?_);refine xaa (wpAny_update' hx1 ?_);refine xaj ?_;have hgd:((s.heap.push {cls:=.type "dict",data:=.dict #[]}).update x fun o=>{cls:=o.cls,dict:=some s.heap.objs.size,data:=o.data,slots:=o.slots}).get? s.heap.objs.size=some {cls:=.type "dict",data:=.dict #[]}:=
    (Heap.get?_update_ne _ _ _ _ hxs.symm).trans (Heap.get?_push_at rfl rfl)
  have hnd:((s.heap.push {cls:=.type "dict",data:=.dict #[]}).update x fun o=>{cls:=o.cls,dict:=some s.heap.objs.size,data:=o.data,slots:=o.slots}).Ns s.heap.objs.size (fun _=>none):=
    ⟨_, #[],_,hgd,rfl,fun e he=>absurd he (by simp),fun _=>rfl⟩
  show wpAny _ _ (Builtin.ObjectAttr.storeInDict s.heap.objs.size (.str name s.toks) name v) _ _ _;unfold Builtin.ObjectAttr.storeInDict Builtin.ObjectAttr.newKeyGuard;refine xaa (xaj (xaa (wpAny_nsSet1 (Heap.Ns1.of_empty hnd) fun h' hn' hs=>?_)));obtain⟨oD,esD,epD,hoD,hdD,hcD⟩:=hn'.count (Within.cons name v Within.nil);refine xaa (wpAny_lookBehind hoD (by rw[hdD];exact pastItsLine_dict (xaD hcD (by rw[xaz,xct,xaw];omega))) ?_);refine xaj (k h' _ (fun b o nb hb=>?_) ?_ hn')
  · exact(hs.2 b (xap (xad hb))).trans ((Heap.get?_update_ne _ _ _ _ nb).trans (xab _ hb))
  · exact(hs.2 x hxs).trans (xbb _ hx1 rfl)
end
noncomputable def xo (a C:Addr) (dx:Option Addr) (b:Bool):HO:=.ext fun h=>∃oe vs t,h.get? a=some oe/\oe.cls=.ref C/\oe.dict=dx/\oe.data=.fields vs/\vs.size=6/\vs[0]? =some (.ref t)/\(b=true->vs[1]? =some .none)
theorem yt (x:∃oe vs t,h.get? a=some oe/\oe.cls=.ref C/\oe.dict=dx/\oe.data=.fields vs/\vs.size=6/\vs[0]? =some (.ref t)/\(b=true->vs[1]? =some .none)):
  cG P w H h a (xo a C dx b):=by
 obtain⟨oe,vs,t,e,r⟩:=x;exact⟨⟨oe,vs,t,e,r⟩,⟨oe,e⟩,fun h1 h2 ⟨oe,vs,t,e,r⟩ k=>⟨oe,vs,t,k _ e,r⟩⟩
def Bw (h:Heap)(a T:Addr):Prop:=∃oe vs oT ts,h.get? a=some oe/\oe.data=.fields vs/\vs[1]? =some (.ref T)/\T≠a/\h.get? T=some oT/\oT.data=.fields ts/\ts[3]? =some .none
section
variable {P:Program}{w:World}{H:Hp}{h h':Heap}{fs ch:List Addr}{z a C T:Addr}{oe:Obj}{fl:Value}{dx:Option Addr}{b:Bool}{vs:Array Value}
theorem Lx (N:Noted fs z h h' a oe T .none)(e1:h.get? a=some oe)(e2:oe.data=.fields vs)(e3:vs.size=6):Bw h' a T:=by
 obtain⟨oT,ts,t1,t2,t3⟩:=N.tb;refine⟨_,_,oT,ts,N.exc,xaM e2 _,by simp[e3],fun q=>?_,t1,t2,t3⟩;have z:=xah (xad e1) N.new;rw[q]at z;exact absurd z (xa0 _)
theorem Vo (N:Noted fs z h h' a oe T fl)(x:∃vs t,oe.cls=.ref C/\oe.dict=dx/\oe.data=.fields vs/\vs.size=6/\vs[0]? =some (.ref t)):∃oe vs t,h'.get? a=some oe/\oe.cls=.ref C/\oe.dict=dx/\oe.data=.fields vs/\vs.size=6/\vs[0]? =some (.ref t)/\(false=true->vs[1]? =some .none):=by
 obtain⟨vs,t,c1,c2,c3,c4,c5⟩:=x;refine⟨_,_,t,N.exc,(xcM _ _).trans c1,?_,xaM c3 _,by simp[c4],?_,fun q=>by cases q⟩
 ·obtain⟨_,_,od,_⟩:=oe;dsimp only at c3;subst c3;exact c2
 ·rw[xcp (by decide)];exact c5
theorem Py (N:Noted fs z h h' a oe T fl)(ha:H a=some (xo a C dx b))(hz:z=a\/z∈ch):Un fs ch H (upd H a (xo a C dx false)) h h':=by
 have n1:∀c,H c=none->c≠a:=fun c n q=>by rw[q,ha]at n;cases n
 have n2:∀c,c≠a->c∉ch->c≠z:=fun c n m q=>by
  rcases hz with r |r
  ·exact n (q.trans r)
  ·exact m (q ▸ r)
 have n3:∀c u,H c=some u->(∀φ,u≠ .ext φ)->c≠a:=fun c u q m r=>by
  rw[r,ha]at q;exact m _ (xar q).symm
 refine ⟨fun c o q n hc hx=>N.keep c o hc (n1 c n) (n2 c (n1 c n) hx) q,fun c o q n hc hx=>N.slot c o hc (n1 c n) (n2 c (n1 c n) hx) q,fun c o q n hx=>by rw[aP (n1 c n)];exact n,fun c o q hx=>?_,
  fun c xs q=>by rw[aP (n3 c _ q (by intro _ z;cases z))];exact q,fun c o u q=>by rw[aP (n3 c _ q (by intro _ z;cases z))];exact q,fun c ps q=>⟨#[],by rw[aP (n3 c _ q (by intro _ z;cases z)),q];simp⟩⟩
 by_cases ca:c=a
 ·rw[ca];exact⟨_,N.exc⟩
 ·by_cases cf:c∈fs
  ·obtain⟨sl,r⟩:=N.slot c o cf ca (n2 c ca hx) q;exact⟨_,r⟩
  ·exact⟨o,N.keep c o cf ca (n2 c ca hx) q⟩
theorem Kq (ok:cC P w H h)(N:Noted fs z h h' a oe T fl)(ha:H a=some (xo a C dx b))(hz:z=a\/H z=none)(hf:∀c∈fs,H c=none)
  (x:∃vs t,oe.cls=.ref C/\oe.dict=dx/\oe.data=.fields vs/\vs.size=6/\vs[0]? =some (.ref t)):cC P w (upd H a (xo a C dx false)) h':=fun c u q=>by
 have n3:∀c u,H c=some u->(∀φ,u≠ .ext φ)->c≠a:=fun c u q m r=>by
  rw[r,ha]at q;exact m _ (xar q).symm
 by_cases hc:c=a
 ·subst hc;rw[bO]at q;cases q;exact yt (Vo N x)
 ·rw [aP hc] at q;have kp : ∀ d u v, H d = some u -> d ≠ a -> h.get? d = some v -> h'.get? d = some v := fun d u v q nd r => N.keep d v (fun m => by rw [hf d m] at q; cases q) nd (fun e=>by
   rcases hz with g |g
   ·exact nd (e.trans g)
   ·rw[e,g]at q;cases q) r
  refine(ok c u q).stay (fun d v hd r=>?_) (fun d r=>by rw[aP (n3 d _ r (by intro _ z;cases z))];exact r) fun d xs r=>by rw[aP (n3 d _ r (by intro _ z;cases z))];exact r
  rcases hd with rfl |hd
  ·exact kp d u v q hc r
  ·exact kp d _ v hd (n3 d _ hd (by intro _ z;cases z)) r
theorem Un.less (u:Un (L::fs) ch H H' h h')(n:h.get? L=none):Un fs ch H H' h h':=by
 have m:∀c o,h.get? c=some o->c≠L:=fun c o q e=>by rw[e,n]at q;cases q
 exact⟨fun c o q k hc hx=>u.keep c o q k (fun z=>(xas.mp z).elim (m c o q) hc) hx,fun c o q k hc hx=>u.slot c o q k (xav _ hc) hx,u.free,u.there,u.tups,u.frzs,u.tbls⟩
end
noncomputable def gk (P:Program) (w:World):eV:=fun outer H s E e s'=>∃a C dx H' T,e=.ref a/\s'.os=s.os/\AllBare s'.gens/\Un (frs outer) [] H H' s.heap s'.heap/\cC P w H' s'.heap/\H' a=some (xo a C dx false)/\H' T=none/\s.heap.objs.size<=T/\Bw s'.heap a T/\E (.ref C) dx H'
section
variable {X:Cx}{pins:Pnx}{σ:St}{H:Hp}{s:Shared}
theorem U0 {P:Program}{w:World}{K:Fgx}{mg:Mgx}{base:Heap}{N:List Str}{qual:Str}{scope:Scope}{f:Addr}{cd:Value}{A:Around}{outer:List PySem.Env}{E:XK}{H1:Hp}{s1:Shared}{a C:Addr}{dx:Option Addr}
  (I:Inv (cU (gk P w) P w K mg base N qual scope f cd A outer s H E) pins σ H1 s1) (ha:H1 a=some (xo a C dx true)) (hE:E (.ref C) dx (upd H1 a (xo a C dx false))):(cU (gk P w) P w K mg base N qual scope f cd A outer s H E).xe (.ref a) s1:=by
 obtain⟨oe,vs,t,e1,e2,e3,e4,e5,e6,e7⟩:=(I.hok a _ ha).1;have fr:=I.ok.frames;have st:=I.stack;refine U3 fr st rfl e1 e4 (e7 rfl) fun h' T Nn=>?_;have hL:s.heap.get? (envOfC qual scope s.heap.objs.size f cd).locals=none:=xbw I.ok.above;have u1:Un (s.heap.objs.size::frs outer) [] H H1 s.heap s1.heap:=Un.mono (fs':=s.heap.objs.size::frs outer) (ex':=[]) I.base (fun b hb=>xav _ hb) fun b hb=>hb;have u2:Un (s.heap.objs.size::frs outer) [] H1 (upd H1 a (xo a C dx false)) s1.heap h':=Py Nn ha (.inl rfl);have hT:H1 T=none:=I.hok.fresh Nn.new;have nT:T≠a:=fun q=>by rw[q,ha]at hT;cases hT
 refine⟨a,C,dx,_,T,rfl,I.os,I.bare,(u1.trans u2).less hL,Kq I.hok Nn ha (.inl rfl) (fun c hc=>I.stkFree c hc) ⟨vs,t,e2,e3,e4,e5,e6⟩,bO,by rw[aP nT];exact hT,xaD I.sz Nn.new,Lx Nn e1 e4 e5,hE⟩
end
theorem cG.some_of (x:cG P w H h a o):∃u,h.get? a=some u:=by
 cases o with
 |lst xs=>obtain⟨_,_,_,_,e⟩:=x;exact⟨_,e⟩
 |tup xs=>obtain⟨_,_,_,u,e,_⟩:=x;exact⟨u,e⟩
 |dK kvs=>obtain⟨_,_,_,_,u,_,_,e,_⟩:=x;exact⟨u,e⟩
 |dT kvs=>obtain⟨_,_,_,_,u,_,_,e,_⟩:=x;exact⟨u,e⟩
 |set S n=>obtain⟨u,_,_,_,e,_⟩:=x;exact⟨u,e⟩
 |ins C dx fs=>obtain⟨_,_,_,e,_⟩:=x;exact⟨_,e⟩
 |own y=>exact x
 |xd fs=>obtain⟨_,⟨u,_,_,e,_⟩,_⟩:=x;exact⟨u,e⟩
 |rng lo hi=>obtain⟨_,_,_,e⟩:=x;exact⟨_,e⟩
 |frz ob u=>obtain⟨e,_⟩:=x;exact⟨_,e⟩
 |tbl ps=>exact⟨_,x⟩
 |met f y=>exact⟨_,x⟩
 |ext φ=>exact x.2.1
theorem Pz (e:H a=some o):upd H a o=H:=by
 funext b;unfold upd
 split
 ·subst_vars;exact e.symm
 ·rfl
theorem ou (ok:cC P w H h)(e:H a=some (xo a C dx b)):
  ∃oe vs t,h.get? a=some oe/\oe.cls=.ref C/\oe.dict=dx/\oe.data=.fields vs/\vs.size=6/\vs[0]? =some (.ref t)/\(b=true->vs[1]? =some .none):=(ok a _ e).1
section
variable {X:Cx}{pins:Pnx}{σ:St}{H:Hp}{s:Shared}
theorem Inv.laidN (I:Inv X pins σ H s)(k:∀b u,s.heap.get? b=some u->h'.get? b=some u)(n:s.heap.get? a=none)(new:cG X.prog X.w (upd H a o) h' a o):
    H a=none/\Inv X pins σ (upd H a o) {s with heap:=h',toks:=t'}:=by
  have hn:H a=none:=by
    cases q:H a with
    |none=>rfl
    |some u=>
      obtain⟨v,e⟩:=(I.hok a u q).some_of;rw[n]at e;cases e
  refine ⟨hn, I.un ⟨fun b u q _ _ _=>k b u q,fun b u q _ _ _=>⟨u.slots,k b u q⟩,fun b u q m _=>?_,fun b u q _=>⟨u,k b u q⟩,fun b xs q=>by rw[aP (d8 q hn)];exact q,fun b u xs q=>by rw[aP (d8 q hn)];exact q,
    fun b ps q=>⟨#[],by rw[aP (d8 q hn),q];simp⟩⟩ fun b u q=>?_⟩
  · rw[aP (fun z=>by rw[z,n]at q;cases q)];exact m
  · by_cases hb:b=a
    · subst hb;rw[bO]at q;cases q;exact new
    · rw[aP hb]at q;exact(I.hok b u q).stay (fun c v _ r=>k c v r) (fun c r=>by rw[aP (d8 r hn)];exact r) fun c xs r=>by rw[aP (d8 r hn)];exact r
noncomputable def HS (C:Addr) (sp:Sp) (te:TE):TE:=fun σ H Q=>te σ H fun v H1=>∀a,H1 a=none->sp [.ref a,v] (upd H1 a (xo a C none true)) (fun r H2=>r=.non/\Q (.ref a) H2) E0
theorem Xo (q1:aV X.K C=true)(q2:yr X.K C f=true)(kp:PySem.W.keepIn X.K (.ref C)=true)
    (F:FnOk X.prog X.w X.K X.mg X.base eG k f fd ps sp) (hr:Room (k + 1) X.A) (hg:Gl X x) (hm:X.mg x=some (.ref C)) (hb:Binds X.K fd ps []) (hps:ps.length<=100) (he:PE X e te) (hdb:(x==("__debug__":Str))=false)
    (hs:starEach [e] X.env=[(false,eval e X.env)]):PE X (.Call (.Name x p) [e] [] pos) (HS C sp te):=by
  intro pins s σ H Q I h;refine xbn (nP I hg hm ?_ hdb);refine xb4 (h₀:=X.base) I.ok.mod.kin kp (aL (gj he iK hs pos pins s σ H (fun vs H1=>∀a,H1 a=none->sp (.ref a::vs) (upd H1 a (xo a C none true)) (fun r H2=>r=.non/\Q (.ref a) H2) E0) I h) fun us s1 ⟨vs,H1,I1,r,q⟩=>⟨I1.kIn,?_⟩) hs rfl;obtain⟨nm,qn,N,bs,bm,sn,sub,ab,col,dd,k0,k1,k2,k3,k5,Y,lk⟩:=m6 I1.kIn q1;unfold yr at q2;rw[lk]at q2;simp only[xat,xaU]at q2;have c3:=Vp I1.kIn Y.ns q2.1;obtain⟨oI,c4,c5⟩:∃oI,s1.heap.get? f=some oI/\oI.cls=.type "function":=by
    have z:(X.K.lookup f).map (·.cls)=some (.type "function"):=q2.2
    cases lf:X.K.lookup f with
    |none=>rw[lf]at z;cases z
    |some oI=>rw[lf]at z;exact⟨oI,I1.kIn _ _ lf,xar z⟩
  have hl:=r.length;have ql:=F.len _ _ _ _ (q s1.heap.objs.size (I1.hok.fresh (xaf _)));rw[xaz]at ql;obtain⟨hh,g,d,t,os⟩:=s1;refine QT xaT Y.tail Y.obj Y.ns c3 c4 c5 (by show us.length<=sizeLine;rw[<-hl,xaw];omega) fun h' a M=>?_;obtain⟨t0,m1,_,_⟩:=M.there;obtain⟨hn,I2⟩:=I1.laidN (a:=a) (o:=xo a C none true) (t':=t) M.keeps M.new (yt ⟨_,_,t0,m1,rfl,rfl,rfl,rfl,rfl,fun _=>rfl⟩);have r2:Vals (V.ref a::vs) (Value.ref a::us):=.cons rfl r;have hz:(Value.ref a::us ++ []).length=ps.length:=by
    rw[xa4, <-r2.length];exact F.len _ _ _ _ (q a hn)
  have bd:=hb _ (Value.ref a::us) I2.kIn hz;rw[xa4]at bd;refine xb8 (xb3 (F.run _ X.stack _ _ ⟨Value.ref a::us,[]⟩ (Value.ref a::us) (V.ref a::vs) _ E0 (hr.make C us []) (I2.env0.make C us []) bd r2 (q a hn)) fun rr s' hq=>?_)
  cases rr with
  |error e=>exact False.elim hq
  |ok fl=>
    cases fl with
    |ret u=>
      obtain⟨v,H',I3,rv,ev,q3⟩:=I2.after hq;subst ev;exact⟨rv,⟨V.ref a,H',I3,rfl,q3⟩⟩
    |next=>exact False.elim hq
    |brk=>exact False.elim hq
    |cont=>exact False.elim hq
theorem Mp {e:Expr}{te:TE}{pos:Pos}{W:Addr->Addr->Option Addr->Hp->Prop}(he:PE X e te)(hc:X.calm=true)
  (hx:∀pins σ H s a C dx,Inv X pins σ H s->H a=some (xo a C dx true)->W a C dx H->X.xe (.ref a) s):
  PS X (.Raise (some e) none pos) (fun _ σ H=>te σ H fun v H1=>∃a C dx,v=.ref a/\H1 a=some (xo a C dx true)/\aV X.K C=true/\W a C dx H1):=by
 intro pins s σ H D I h;rw[arm_exec_Raise];refine xaa (xbS (zao (I.ok.hd hc) (xaa (aL (he pins s σ H _ I h) fun u s1 ⟨v,H1,I1,rv,a,C,dx,ev,ea,q1,w⟩=>xaa (xbS (xaj ?_))))));subst ev;cases rv;obtain⟨nm,qn,N,bs,bm,sn,sub,ab,col,dd,k0,k1,k2,k3,k5,Y,lk⟩:=m6 I1.kIn q1;obtain⟨oe,vs,t,e1,e2,e3,e4,e5,e6,e7⟩:=ou I1.hok ea;exact⟨a,oe,vs,rfl,⟨C,nm,qn,N,bs,bm,_,sn,sub,ab,col,dd,k0,k1,k2,k3,k5,_,Y.obj,Y.tail.hasType xaT.hasBase,e2⟩,e1,e4,e7 rfl,hx pins σ H1 s1 a C dx I1 ea w⟩
noncomputable def sG (K : Fgx) (D : Addr) : Bool := PySem.W.specialIn K (.ref D) "__getattribute__" == some (some (.builtin "type.__getattribute__")) && (PySem.W.readsIn K D (.type "type") &&
 (match PySem.W.findCls K (.ref D) (.type "type") "__init__" with
  |some (.val (.builtin i))=>i=="ValueError.__init__"
  |_=>false))
noncomputable def tBi (K:Fgx) (t1 t2:TE):TE:=fun σ H Q=>t1 σ H fun x H1=>t2 σ H1 fun _ H2=>∃a C,x=.ref a/\H2 a=some (xo a C none true)/\aV K C=true/\Q .non H2
theorem L_ (q:sG X.K D=true)(hg:Gl X x)(hm:X.mg x=some (.ref D))(h1:PE X e1 t1)(h2:PE X e2 t2)(hdb:(x==("__debug__":Str))=false)
    (s1:starEach [e1,e2] X.env=(false,eval e1 X.env)::starEach [e2] X.env) (s2:starEach [e2] X.env=[(false,eval e2 X.env)])
    (ht : eval (.Call (.Attribute (.Name x p) "__init__" ap) [e1, e2] [] pos) X.env = (do
      let ov <-eval (.Name x p) X.env
      standAt ap.atName
      let (f,first) <-holding [ov] (getMethod ov "__init__" pl)
      callWith pos f first (backTo pos (starEach [e1,e2] X.env)) (backToKw pos (keywordEach [] X.env)))):
    PE X (.Call (.Attribute (.Name x p) "__init__" ap) [e1,e2] [] pos) (tBi X.K t1 t2):=by
  intro pins s σ H Q I h;simp only[sG,xat,xaU]at q;obtain⟨q1,q2,q3⟩:=q;have q4:PySem.W.findCls X.K (.ref D) (.type "type") "__init__"=some (.val (.builtin "ValueError.__init__")):=by
    split at q3
    · rename_i i e;rw[e,xaU.mp q3]
    · cases q3
  refine PySem.W.methodCall_KW (pl := pl) (nP I hg hm ?_ hdb) ht;refine PySem.W.method_cls I.kIn q1 (PySem.W.cls_value I.kIn q2 q4 rfl ?_);have I0 := I.tok (s.toks + 1);refine xcr (aL (gj h1 (gj h2 iK s2) s1 pos pins _ σ H (fun vs H2=>match vs with
    | [x,_]=>∃a C,x=.ref a/\H2 a=some (xo a C none true)/\aV X.K C=true/\Q .non H2
    |_=>False) I0 h) fun us s3 ⟨vs,H3,I3,r,z⟩=>?_) s1 (by rw[s2];rfl)
  rcases vs with _ |⟨x1,_ |⟨y1,_ |⟨z1,vs⟩⟩⟩<;>first |exact z.elim |skip
  obtain⟨a,C,rfl,ea,q5,hq⟩:=z
  cases r with
  |cons r1 r2=>
    cases r2 with
    |cons r3 r4=>
      cases r4;cases r1;rename_i u1 _;obtain ⟨nm, qn, N, bs, bm, sn, sub, ab, col, dd, k0, k1, k2, k3, k5, Y, lk⟩ := m6 I3.kIn q5;obtain ⟨oe, ws, t0, e1, e2, e3, e4, e5, e6, e7⟩ := ou I3.hok ea;obtain ⟨hh, g, d, t, os⟩ := s3;refine zcg xaT Y.tail Y.obj e1 e2 e4 e6 (by show 1 <= sizeLine; rw [xaw]; decide) ?_;have e8 := xab (h := hh) { cls := .type "tuple", data := .seq [u1].toArray } e1;have e9 := xbb (Obj.mapFields (·.setIfInBounds 0 (.ref hh.objs.size))) e8 (xbt (xaM e4 _));have I4 := I3.write (x := a) (e := a) (o := xo a C none true) (t' := t) (by rw [ea]; exact True.intro) (.inl rfl) (fun b u nb hb => (xaB _ _ (xaP nb)).trans (xab _ hb)) ⟨_, e9⟩ (yt ⟨_, _, hh.objs.size, e9, (xcM _ _).trans e2, (by
        obtain⟨_,_,od,_⟩:=oe;dsimp only at e4;subst e4;exact e3),xaM e4 _,by simp[e5],by simp[e5],fun z=>by rw[xcp (by decide)];exact e7 z⟩)
      rw[Pz ea]at I4;exact⟨.non,H3,I4,rfl,hq⟩
noncomputable def G7 (K:Fgx) (f:Str) (ta tv:TE):TS:=fun D σ H=>tv σ H fun y H1=>ta σ H1 fun x H2=>∃a C b,x=.ref a/\H2 a=some (xo a C none b)/\aV K C=true/\gY K C f=true/\
 ∀dx,H2 dx=none->dx≠a->D.nx σ (upd (upd H2 dx (.xd [(f,y)])) a (xo a C (some dx) b))
theorem Mr (ha:PE X o ta)(hv:PE X value tv)(hs:swapsWith value (some (.Attribute o f pos')) pos.line X.env=pure false):PS X (.Assign [.Attribute o f pos'] value pos) (G7 X.K f ta tv):=by
  intro pins s σ H D I h;refine plainObj_wpAny_Assign_Attribute (aL (hv pins s σ H _ I h) fun u s1 ⟨y,H1,I1,ry,q⟩=>aL (ha pins s1 σ H1 _ I1 q) fun ov s2 ⟨x,H2,I2,rx,a,C,b,ex,ea,q1,q2,k⟩=>?_) hs;subst ex;obtain rfl:ov=Value.ref a:=rx;obtain⟨oe,vs,t,e1,e2,e3,e4,e5,e6,e7⟩:=ou I2.hok ea;refine zcR I2.kIn q1 q2 e1 e2 e3 e4 fun h' tk kp hx hn=>?_;have hd:H2 s2.heap.objs.size=none:=I2.hok.fresh (xaf _);have nd:s2.heap.objs.size≠a:=xb1 (xad e1);refine⟨σ,_,?_,k _ hd nd⟩;have ext:∀c u,H2 c=some u->(∀φ,u≠ .ext φ)->c≠a:=fun c u q m r=>by
    rw[r,ea]at q;exact m _ (xar q).symm
  have up:∀c u,c≠a->H2 c=some u->(upd (upd H2 s2.heap.objs.size (.xd [(f,y)])) a (xo a C (some s2.heap.objs.size) b)) c=some u:=fun c u n q=>by
    rw[aP n,aP (d8 q hd)];exact q
  refine I2.un ⟨fun c o q n _ _=>kp c o (fun z=>by rw[z,ea]at n;cases n) q,fun c o q n _ _=>⟨o.slots,kp c o (fun z=>by rw[z,ea]at n;cases n) q⟩,fun c o q n _=>?_,fun c o q _=>?_,
    fun c xs q=>up c _ (ext c _ q (by intro _ z;cases z)) q,fun c o xs q=>up c _ (ext c _ q (by intro _ z;cases z)) q,fun c ps q=>⟨#[],by rw[up c _ (ext c _ q (by intro _ z;cases z)) q];simp⟩⟩ fun c u q=>?_
  · rw[aP (fun z=>by rw[z,ea]at n;cases n),aP (xap (xad q))];exact n
  · by_cases ca:c=a
    · rw[ca];exact⟨_,hx⟩
    · exact⟨o,kp c o ca q⟩
  · by_cases ca:c=a
    · subst ca;rw[bO]at q;cases q;exact yt ⟨_,vs,t,hx,e2,rfl,e4,e5,e6,e7⟩
    · rw[aP ca]at q
      by_cases cd:c=s2.heap.objs.size
      · rw[cd,bO]at q;cases q;rw[cd];refine⟨_,hn,fun g=>?_⟩
        by_cases gf:g=f
        · subst gf;simp only[List.lookup,xa7,xbU];exact ry
        · have gb:(g==f)=false:=xba.mpr gf;simp only[List.lookup,gb,xag gf]
          trivial
      · rw [aP cd] at q;exact (I2.hok c u q).stay (fun d v hdv r => kp d v (by
          rcases hdv with rfl |z
          · exact ca
          · exact ext d _ z (by intro _ z;cases z)) r) (fun d r=>up d _ (ext d _ r (by intro _ z;cases z)) r) fun d xs r=>up d _ (ext d _ r (by intro _ z;cases z)) r
noncomputable def H_ (K:Fgx) (f:Str) (ta:TE):TE:=fun σ H Q=>ta σ H fun x H1=>∃a C dx b fs v,x=.ref a/\H1 a=some (xo a C (some dx) b)/\gY K C f=true/\H1 dx=some (.xd fs)/\fs.lookup f=some v/\Q v H1
theorem Xw (he:PE X e ta)(hb:attributeBase e f X.env (eval e X.env)=eval e X.env):PE X (.Attribute e f pos) (H_ X.K f ta):=by
 intro pins s σ H Q I h;refine Qp hb (aL (he pins s σ H _ I h) fun u s1 ⟨x,H1,I1,rx,a,C,dx,b,fs,v,ex,ea,q1,ed,l,q⟩=>?_);subst ex;obtain rfl:u=Value.ref a:=rx;obtain⟨oe,vs,t,e1,e2,e3,e4,_⟩:=ou I1.hok ea;obtain⟨mA,n,r⟩:=(show cG X.prog X.w H1 s1.heap dx (.xd fs) from I1.hok dx _ ed);obtain⟨u2,hu,ru⟩:=cN.some_of (v:=v) (o:=mA f) (by rw[<-l];exact r f);exact zc1 I1.kIn q1 e1 e2 e3 e4 n hu (S_ ru) ⟨v,H1,I1.tok _,ru,q⟩
noncomputable def gK (K : Fgx) (C : Addr) : Bool := m7 K C && (PySem.W.hasDictIn K C && (PySem.W.findIn K (.ref C) "__class__"==some (some (.builtin "object.__class__")) &&
 (PySem.W.specialIn K (.builtin "object.__class__") "__get__"==some (some (.builtin "getset_descriptor.__get__")) && (PySem.W.takesIn K (.builtin "object.__class__")==some true && PySem.W.mroIn K C (.type "object")==some true))))
noncomputable def lH:V->Option Value
 |.ref a=>some (.ref a)
 |.ty n=>some (.type n)
 |_=>none
theorem Qn (r:RelV v u)(h:lH v=some c):u=c:=by
 cases v<;>simp only[lH,reduceCtorEq]at h
 ·cases h;exact r
 ·cases h;exact r
end
section
variable {X:Cx}{pins:Pnx}{σ:St}{H:Hp}{s:Shared}
theorem Inv.del (I:Inv X pins σ H s)(hN:X.N.Nodup)(hi:X.N[i]? =some x)(hk:X.env.scope.names.lookup x=some .local)(hv:σ[i]? =some (some v))
  (k:∀s',Inv X pins (σ.set i none) H s'->Q () s'):wpAny M A (unbindName X.env x) Q E s:=by
 obtain⟨m,hn,hl⟩:=id I.loc;obtain⟨u,r,q⟩:=hl i x v hi hv (.inl hk);have hk':X.env.kindOf x=some .local:=hk;have hm:m x=some u:=by
  rcases q with⟨_,e⟩ |⟨z,_⟩
  ·exact e
  ·rw[hk']at z;rcases z with z |z<;>cases z
 have hcls:(X.env.scope.kind==.class || (X.env.scope.kind==.module && X.env.locals !=X.env.globals))=false:=by rw[I.ok.kind];rfl
 refine wpAny_unbindName_local hk' hn hm hcls fun h' u' hn' hs=>k _ ?_;obtain⟨oL,_,_,hoL,_⟩:=id hn;have above:∀b o,X.s₀.heap.get? b=some o->b≠X.env.locals:=fun b o e=>xap (xah (xad e) I.ok.above);refine⟨I.ok,I.os,I.bare,⟨fun b o e n hb hx=>(hs.2 b (above b o e)).trans (I.base.keep b o e n hb hx),fun b o e n hb hx=>?_,I.base.free,fun b o e hx=>?_,I.base.tups,I.base.frzs,I.base.tbls⟩,⟨_,hn',fun j y v' e1 e2 e3=>?_⟩,fun y c e=>?_,I.free,I.freeC,fun p hp=>?_,fun b ob e=>?_,by simpa using I.len⟩
 ·obtain⟨sl,e1⟩:=I.base.slot b o e n hb hx;exact⟨sl,(hs.2 b (above b o e)).trans e1⟩
 ·obtain⟨o',e1⟩:=I.base.there b o e hx;exact⟨o',(hs.2 b (above b o e)).trans e1⟩
 ·have hj:j≠i:=by
   rintro rfl;rw[xaG]at e2;split at e2
   ·split at e2<;>cases e2
   ·rename_i z;exact z rfl
  rw[xbN (xaP hj)]at e2;obtain⟨u2,r2,q2⟩:=hl j y v' e1 e2 e3;refine⟨u2,r2,?_⟩;rcases q2 with⟨k2,e⟩ |⟨k2,c,e,z⟩
  ·have ne:y≠x:=fun e=>hj (Fy hN e1 (e ▸ hi));exact .inl ⟨k2,(xag ne).trans e⟩
  ·exact .inr ⟨k2,c,e,z.sameBut hs (I.cne y c e)⟩
 ·obtain⟨w',z⟩:=I.cell y c e;exact⟨w',z.sameBut hs (I.cne y c e)⟩
 ·obtain⟨e,n,ne,nf,d⟩:=I.pin p hp;exact⟨(hs.2 p.1 ne).trans e,n,ne,nf,d⟩
 ·refine(I.hok b ob e).stay (fun c w' hc q=>(hs.2 c ?_).trans q) (fun _ q=>q) fun _ _ q=>q;rintro rfl;rcases hc with rfl |hc
  ·rw[I.free]at e;cases e
  ·rw[I.free]at hc;cases hc
structure Caught (X:Cx)(pins:Pnx)(σ:St)(H:Hp)(s:Shared)(a C:Addr)(dx:Option Addr)(T:Addr):Prop where
 inv:Inv X pins σ H s
 obj:H a=some (xo a C dx false)
 fl:Bw s.heap a T
 hT:H T=none
 t1:X.s₀.heap.objs.size<=T
 t2:T≠X.env.locals
 t3:∀x c,X.env.cells.lookup x=some c->c≠T
 t4:∀p∈X.pn ++ pins,p.1≠T
theorem Jv (I:Inv X pins σ H s)(h:s.heap.objs.size<=T):X.s₀.heap.objs.size<=T/\T≠X.env.locals/\(∀x c,X.env.cells.lookup x=some c->c≠T)/\∀p∈X.pn ++ pins,p.1≠T:=by
 refine⟨xaD I.sz h,xb1 (xah I.lt h),fun x c e=>?_,fun p hp=>?_⟩
 ·obtain⟨v,o,ho,_⟩:=I.cell x c e;exact xap (xah (xad ho) h)
 ·exact xap (xah (xad (I.pin p hp).1) h)
theorem C_ (I:Inv X pins σ H s)(h:gk X.prog X.w X.stack H s E e s'):∃a C dx H' T,e=.ref a/\Caught X pins σ H' s' a C dx T/\E (.ref C) dx H':=by
 obtain⟨a,C,dx,H',T,rfl,os,bare,un,hok,ha,hT,hz,fl,hE⟩:=h;have I2:=I.call' os un hok bare (fun b z=>nomatch z)
 obtain⟨z1,z2,z3,z4⟩:=Jv I hz;exact⟨a,C,dx,H',T,rfl,⟨I2,ha,fl,hT,z1,z2,z3,z4⟩,hE⟩
variable {a C T:Addr}{dx:Option Addr}{Q:Unit->Shared->Prop}{E:Value->Shared->Prop}{M:Model}
theorem Caught.note (c:Caught X pins σ H s a C dx T)(hs:X.stack=X.env::X.outer)(hf:X.env.frame=some X.env.locals)(k:∀s' T',Caught X pins σ H s' a C dx T'->Q () s'):
  wpAny M X.A (noteFrame (.ref a) X.env) (fun _ s2=>wpAny M X.A (setFlight (.ref a) none) Q E s2) E s:=by
 obtain ⟨oe, vs, t, e1, e2, e3, e4, e5, e6, _⟩ := ou c.inv.hok c.obj;obtain ⟨oe', vs', oT, ts, f1, f2, f3, f4, f5, f6, f7⟩ := c.fl;rw [e1] at f1;cases f1;rw [e4] at f2;cases f2;have fr := c.inv.ok.frames;have st := c.inv.stack;rw [hs] at fr st;refine Vm fr st hf e1 e4 f3 f4 f5 f6 f7 fun h' T' N => Ly (s := { s with heap := h' }) N e1 e4 (by omega) fun h2 N2 => k _ T' ?_;have hx : ∃ vs t, oe.cls = .ref C /\ oe.dict = dx /\ oe.data = .fields vs /\ vs.size = 6 /\ vs[0]? = some (.ref t) := ⟨vs, t, e2, e3, e4, e5, e6⟩;rw [<- hs] at N2;have u := Py (ch := [T]) N2 c.obj (.inr (xaI.mpr rfl));have hk := Kq c.inv.hok N2 c.obj (.inr c.hT) (fun b hb => c.inv.stkFree b hb) hx;rw [Pz c.obj] at u hk;have I2 : Inv X pins σ H { s with heap := h2 } := c.inv.call' (s' := { s with heap := h2 }) rfl u hk c.inv.bare (fun b hb=>by
  rw[xaI.mp hb];exact⟨.inr c.t1,c.t2,c.t3,c.t4⟩)
 obtain⟨z1,z2,z3,z4⟩:=Jv c.inv N2.new;exact⟨I2,c.obj,Lx N2 e1 e4 e5,c.inv.hok.fresh N2.new,z1,z2,z3,z4⟩
theorem Caught.off (c:Caught X pins σ H s a C dx T)(k:∀s',Caught X pins σ H s' a C dx T->Q () s'):wpAny M A (setFlight (.ref a) none) Q E s:=by
 obtain⟨oe,vs,oT,ts,f1,f2,f3,f4,f5,f6,f7⟩:=c.fl;have z3:3<ts.size:=(xaS.mp f7).1;refine J8 f1 f2 f3 f5 f6 z3 (k _ ?_);have kp:∀b o,b≠T->s.heap.get? b=some o->(s.heap.update T (Obj.mapFields (·.setIfInBounds 3 .none))).get? b=some o:=fun b o n e=>(xaB _ _ (xaP n)).trans e;have I2:=c.inv.turned (t':=s.toks) kp c.hT c.t2 (.inr c.t1) c.t3 c.t4;exact⟨I2,c.obj,⟨oe,vs,_,_,kp a oe (xaP f4) f1,f2,f3,f4,xbb _ f5 (xbt (xaM f6 _)),xaM f6 _,by simp[z3]⟩,c.hT,c.t1,c.t2,c.t3,c.t4⟩
end
abbrev Cx.pin (X:Cx)(pins:Pnx)(E:Value->Shared->Prop):Cx:={X with pn:=X.pn ++ pins,xe:=E}
abbrev Cx.suite (X:Cx)(e:Value):Cx:={X with A:=X.A.mark (some e),calm:=false,xe:=fun _ _=>False}
section
variable {X:Cx}{pins ps:Pnx}{σ:St}{H:Hp}{s:Shared}{E:Value->Shared->Prop}{e:Value}
theorem Inv.to_pin (I:Inv X pins σ H s)(E:Value->Shared->Prop):Inv (X.pin pins E) [] σ H s:=
  ⟨⟨I.ok.mod,I.ok.kind,I.ok.glob,I.ok.blt,I.ok.above,I.ok.inj,I.ok.has,I.ok.cab,I.ok.hd,I.ok.frames,I.ok.stk,I.ok.exf,I.ok.bs,I.ok.bsz,I.ok.noex,I.ok.exfs,I.ok.funs,I.ok.frf⟩,I.os,I.bare,I.base,I.loc,I.cell,I.free,I.freeC,
    fun p hp=>I.pin p (by simpa using hp),I.hok,I.len⟩
theorem Inv.of_pin (I:Inv (X.pin pins E) ps σ H s):Inv X pins σ H s:=
  ⟨⟨I.ok.mod,I.ok.kind,I.ok.glob,I.ok.blt,I.ok.above,I.ok.inj,I.ok.has,I.ok.cab,I.ok.hd,I.ok.frames,I.ok.stk,I.ok.exf,I.ok.bs,I.ok.bsz,I.ok.noex,I.ok.exfs,I.ok.funs,I.ok.frf⟩,I.os,I.bare,I.base,I.loc,I.cell,I.free,I.freeC,
    fun p hp=>I.pin p (xcq _ hp),I.hok,I.len⟩
theorem Inv.to_suite (I:Inv X pins σ H s)(e:Value):Inv (X.suite e) pins σ H s:=
 ⟨⟨I.ok.mod,I.ok.kind,I.ok.glob,I.ok.blt,I.ok.above,I.ok.inj,I.ok.has,I.ok.cab,(fun z=>by cases z),I.ok.frames,I.ok.stk,I.ok.exf,I.ok.bs,I.ok.bsz,I.ok.noex,I.ok.exfs,I.ok.funs,I.ok.frf⟩,I.os,I.bare,I.base,I.loc,I.cell,I.free,I.freeC,I.pin,I.hok,I.len⟩
theorem Inv.of_suite (I:Inv (X.suite e) pins σ H s)(hd:X.A.handled=none):Inv X pins σ H s:=
 ⟨⟨I.ok.mod,I.ok.kind,I.ok.glob,I.ok.blt,I.ok.above,I.ok.inj,I.ok.has,I.ok.cab,fun _=>hd,I.ok.frames,I.ok.stk,I.ok.exf,I.ok.bs,I.ok.bsz,I.ok.noex,I.ok.exfs,I.ok.funs,I.ok.frf⟩,I.os,I.bare,I.base,I.loc,I.cell,I.free,I.freeC,I.pin,I.hok,I.len⟩
end
noncomputable def bN (K:Fgx) (C c:Addr):Bool:=match K.lookup C with
 |some ⟨_,_,.cls cd,_⟩=>cd.mro.contains (.ref c)
 |_=>false
theorem W8 {X:Cx}{CX:eV}{k:Nat}{f:Addr}{fd:FuncData}{ps:List Str}{sp:Sp}{dvs:List V}{ds:List Value}{x:Str}{p pos:Pos}{e:Expr}{es:List Expr}{t:TA}{Ex:St->XK}(F:FnOk X.prog X.w X.K X.mg X.base CX k f fd ps sp)(hr:Room k X.A)(hg:Gl X x)
    (hm:X.mg x=some (.ref f)) (hk:PySem.W.keepIn X.K (.ref f)=true) (hb:Binds X.K fd ps ds) (hd:Vals dvs ds) (hx:∀pins σ H s e s',Inv X pins σ H s->CX X.stack H s (Ex σ) e s'->X.xe e s') (ha:PA X (e::es) t)
    (hdb:(x==("__debug__":Str))=false) (he:starEach (e::es) X.env=(false,eval e X.env)::starEach es X.env) (hpl:(backTo pos (starEach es X.env)).any (·.1)=false):
    PE X (.Call (.Name x p) (e::es) [] pos) (fun σ H Q=>t σ H fun vs H1=>sp (vs ++ dvs) H1 Q (Ex σ)):=by
  intro pins s σ H Q I h;refine xbn (nP I hg hm ?_ hdb);refine xb4 (h₀:=X.base) I.ok.mod.kin hk (aL (ha pos pins s σ H _ I h) fun us s1 ⟨vs,H1,I1,r,q⟩=>⟨I1.kIn,?_⟩) he hpl;have r2:Vals (vs ++ dvs) (us ++ ds):=r.append hd;have hl:(us ++ ds).length=ps.length:=by rw[<-r2.length];exact F.len _ _ _ _ q
  refine xb8 (xb3 (F.run X.A X.stack s1 H1 ⟨us,[]⟩ (us ++ ds) (vs ++ dvs) Q (Ex σ) hr I1.env0 (hb s1 us I1.kIn hl) r2 q) fun rr s' hq=>?_)
  cases rr with
  |error e=>exact hx pins σ H1 s1 e s' I1 hq
  |ok fl=>
    cases fl with
    |ret u=>exact I1.after hq
    |next=>exact False.elim hq
    |brk=>exact False.elim hq
    |cont=>exact False.elim hq
theorem ns_none_of {K:Fgx}{h:Heap}{N:Addr}{mg:Mgx}{n:Str}(X:K.In h)(G:h.Ns N mg)(e:PySem.W.nsIn K N n=some none):mg n=none:=by
 obtain⟨o,es,ep,ho,hd,_,hf⟩:=G;unfold PySem.W.nsIn at e;split at e
 ·rename_i q;have z:=X _ _ q;rw[ho]at z;cases z;cases hd;split at e
  ·cases e
  ·rename_i he;rw[<-hf];unfold nsFind findBy;rw[<-xcC,he];rfl
 ·cases e
section
variable {X:Cx}
def Ph (C:Addr)(Q:VK)(vs:List V)(H:Hp):Prop:=vs.length=1/\∀a,H a=none->Q (.ref a) (upd H a (xo a C none true))
noncomputable def zb2 (C:Addr) (te:TE):TE:=fun σ H Q=>te σ H fun v H1=>Ph C Q [v] H1
theorem Xp {C:Addr}{x:Str}{p pos:Pos}{e:Expr}{te:TE}(q1:aV X.K C=true)(q2:sH X.K C=true)(kp:PySem.W.keepIn X.K (.ref C)=true)(hg:Gl X x)(hm:X.mg x=some (.ref C))(he:PE X e te)(hdb:(x==("__debug__":Str))=false)
  (hs:starEach [e] X.env=[(false,eval e X.env)]):PE X (.Call (.Name x p) [e] [] pos) (zb2 C te):=by
 intro pins s σ H Q I h;refine xbn (nP I hg hm ?_ hdb);refine xb4 (h₀:=X.base) I.ok.mod.kin kp (aL (gj he iK hs pos pins s σ H (Ph C Q) I h) fun us s1 ⟨vs,H1,I1,r,q⟩=>⟨I1.kIn,?_⟩) hs rfl;obtain⟨nm,qn,N,bs,bm,sn,sub,ab,col,dd,k0,k1,k2,k3,k5,Y,lk⟩:=m6 I1.kIn q1;unfold sH at q2;rw[lk]at q2;simp only[xaU]at q2;have c3:=ns_none_of I1.kIn Y.ns q2;have hl:us.length=1:=by
  rw[<-r.length,q.1]
 obtain⟨hh,g,d,t,os⟩:=s1;refine wpAny_call_exc_subU xaT (by x_go) xaT Y.tail Y.obj Y.ns c3 (fun h' a M=>?_) (by show us.length<=sizeLine;rw[hl,xaw];decide);obtain⟨t0,m1,_,_⟩:=M.there;obtain⟨hn,I2⟩:=I1.laidN (a:=a) (o:=xo a C none true) (t':=t) M.keeps M.new (yt ⟨_,_,t0,m1,rfl,rfl,rfl,rfl,rfl,fun _=>rfl⟩);exact⟨V.ref a,_,I2,rfl,q.2 a hn⟩
end
theorem Yd {X:Cx}{body suite:List Stmt}{b0:Stmt}{cn n:Str}{np hp pos:Pos}{c:Addr}{i:Nat}{tb:Ends->TS}{th:TS}
    (hs:X.stack=X.env::X.outer) (hf:X.env.frame=some X.env.locals) (hc:X.calm=true) (hN:X.N.Nodup) (hi:X.N[i]? =some n) (hl:X.env.scope.names.lookup n=some .local) (hg:Gl X cn) (hm:X.mg cn=some (.ref c)) (q:aV X.K c=true) (hdb:(cn==("__debug__":Str))=false)
    (hb : ∀ (pins : Pnx) (D : Ends), dX (X.pin pins fun e s'=>∃σ' H' a C dx T,e=.ref a/\Caught X pins σ' H' s' a C dx T/\aV X.K C=true/\bN X.K C c=true/\
      th {D with nx:=fun σ H=>∃v,σ[i]? =some (some v)/\D.nx (σ.set i none) H,bk:=fun _ _=>False,ct:=fun _ _=>False} (σ'.set i (some (.ref a))) H') body (tb D))
    (hh:∀e,dX (X.suite e) (b0::suite) th):
    PS X (.Try body [.ExceptHandler (some (.Name cn np)) (some n) (b0::suite) hp] [] [] pos) (fun D σ H=>tb D D σ H):=by
  intro pins s σ H D I h;refine wpAny_Try_except (xaH (hb pins D [] s σ H D (I.to_pin _) h) (fun f s1 z=>?_) fun e s1 z=>?_)
  · cases f with
    |next=>obtain⟨σ',H',J,q⟩:=z;exact xbX ⟨σ',H',J.of_pin,q⟩
    |brk=>obtain⟨σ',H',J,q⟩:=z;exact⟨σ',H',J.of_pin,q⟩
    |cont=>obtain⟨σ',H',J,q⟩:=z;exact⟨σ',H',J.of_pin,q⟩
    |ret u=>obtain⟨v,σ',H',J,r,q⟩:=z;exact⟨v,σ',H',J.of_pin,r,q⟩
  · obtain⟨σ',H',a,C,dx,T,rfl,K1,q1,q2,z⟩:=z;refine K1.note hs hf fun s2 T2 K2=>?_;have hd:=I.ok.hd hc;refine wpAny_handleBy_cons (codeAny_handlers_test ?_) (by intro z;cases z);refine nP (X:=X.suite (.ref a)) (K2.inv.to_suite _) hg hm ?_ hdb;obtain⟨nm,qn,N,bs,bm,sn,sub,ab,col,dd,k0,k1,k2,k3,k5,Y,lk⟩:=m6 K2.inv.kIn q1;obtain⟨nm',qn',N',bs',bm',sn',sub',ab',col',dd',j0,j1,j2,j3,j5,Y',lk'⟩:=m6 K2.inv.kIn q;obtain⟨oe,vs,t,e1,e2,e3,e4,e5,e6,_⟩:=ou K2.inv.hok K2.obj;have hit:(Value.ref C::bm).contains (.ref c)=true:=by
      unfold bN at q2;rw[lk]at q2;exact q2
    obtain⟨hh2,g,d,tk,os⟩:=s2;refine Qd Y.obj Y'.obj e1 e2 (Y'.tail.hasType xaT.hasBase) ?_;rw[hit];refine xcN (K2.off fun s3 K3=>?_);refine mX (X:=X.suite (.ref a)) (v:=.ref a) (K3.inv.to_suite _) hN hi (.inl hl) rfl (fun s4 I4=>?_) (.inr hl);refine xaH (hh (.ref a) pins s4 _ H' _ I4 z) (fun f s5 y=>?_) fun _ _ y=>False.elim y
    cases f with
    |next=>
      obtain⟨σ5,H5,I5,v,ev,y⟩:=y;have I5':=I5.of_suite hd;refine xaa (xde (mX (v:=.non) I5' hN hi (.inl hl) rfl (fun s6 I6=>?_) (.inr hl)));unfold unbindBehindTheSuite;refine xdi (I6.del (v:=.non) hN hi hl ?_ fun s7 I7=>?_)
      · rw[xaW];rw[I5'.len];exact(xal.mp hi).1
      · rw[xdw]at I7;exact⟨_,H5,I7,y⟩
    |brk=>obtain⟨_,_,_,y⟩:=y;exact False.elim y
    |cont=>obtain⟨_,_,_,y⟩:=y;exact False.elim y
    |ret u=>
      obtain⟨v,σ5,H5,I5,rv,y⟩:=y;have I5':=I5.of_suite hd;refine xaa (xde (mX (v:=.non) I5' hN hi (.inl hl) rfl (fun s6 I6=>?_) (.inr hl)));unfold unbindBehindTheSuite;refine xdi (I6.del (v:=.non) hN hi hl ?_ fun s7 I7=>?_)
      · rw[xaW];rw[I5'.len];exact(xal.mp hi).1
      · rw[xdw]at I7;exact⟨v,_,H5,I7,rv,y⟩
end L2
namespace E3
open PySem PySem.Spec PyProof.Rows L2
inductive D where
 |non |bl (b:Bool) |int (i:Int) |str (s:Str) |tup (xs:List D) |lst (xs:List D) |ref (n:Nat)
inductive Cl where
  |lst (ds:List D) |obj (c:Str) (fs:List (Str×D)) |dct (kvs:List (L2.Key×D))
    |dcf (kvs:List (L2.Key×D))
abbrev Mm:=List Cl
inductive Slot where
 |un |val (d:D) |own (ds:List D) |exc (c:Str) (n:Int)
abbrev Env:=List Slot
mutual
def D.lf:D->Bool
 |.tup xs=>D.lfs xs
 |.lst _=>false
 |.ref _=>false
 |_=>true
def D.lfs:List D->Bool
 | []=>true
 |a::as=>D.lf a && D.lfs as
end
def KL (K:Fgx)(a:Addr)(vs:List V):Prop:=∃(o:Obj) (its:Array Value) (n:Nat),K.lookup a=some o/\o.cls=.type "list"/\o.dict=none/\o.data=.seq its n/\its.size<=sizeLine/\Vals vs its.toList
structure Pl where
 io:Nat->Addr
 n:Nat
 bd:Addr->Prop
def BW (K:Fgx)(P:Pl)(H:Hp)(a:Addr)(vs:List V):Prop:=(¬ P.bd a/\Rd H a (.lst vs))\/KL K a vs
def Ja (K:Fgx)(P:Pl)(H:Hp)(a:Addr)(vs:List V):Prop:=((∀k,k<P.n->P.io k≠a)/\Rd H a (.lst vs))\/KL K a vs
mutual
def Is (K:Fgx)(P:Pl)(H:Hp):D->V->Prop
 |.non,v=>v=.non
 |.bl b,v=>v=.bl b
 |.int i,v=>v=.int i
 |.str s,v=>v=.str s
 |.tup ds,v=>∃a vs,v=.ref a/\dJ K H a vs/\aD K P H ds vs
 |.lst ds,v=>∃a vs,v=.ref a/\BW K P H a vs/\aD K P H ds vs
 |.ref k,v=>k<P.n/\v=.ref (P.io k)
def aD (K:Fgx)(P:Pl)(H:Hp):List D->List V->Prop
 | [],vs=>vs=[]
 |d::ds,vs=>∃v r,vs=v::r/\Is K P H d v/\aD K P H ds r
end
def Fx (o:HO):Prop:=(∃xs,o=.tup xs)\/(∃u w,o=.frz u w)\/(∃g,o=.ext g)\/∃fs,o=.xd fs
structure Lt (P:Pl)(H:Hp)(P':Pl)(H':Hp):Prop where
 n:P.n<=P'.n
 io:∀k,k<P.n->P'.io k=P.io k
 bd:∀a,P'.bd a->P.bd a\/H a=none
 keep:∀a o,H a=some o->(Fx o\/¬ P.bd a)->H' a=some o
 sure:∀a,H' a=none->H a=none
section
variable {K:Fgx}{P P' P'':Pl}{H H' H'':Hp}
theorem Lt.refl (P:Pl)(H:Hp):Lt P H P H:=⟨xaf _,fun _ _=>rfl,fun _ z=>.inl z,fun _ _ e _=>e,fun _ z=>z⟩
theorem Lt.not (l:Lt P H P' H')(e:H a=some o)(n:¬ P.bd a):¬ P'.bd a:=fun z=>(l.bd a z).elim n fun z=>by rw[e]at z;cases z
theorem Lt.trans (l:Lt P H P' H')(m:Lt P' H' P'' H''):Lt P H P'' H'' where
 n:=xaD l.n m.n
 io:=fun k h=>(m.io k (xah h l.n)).trans (l.io k h)
 bd:=fun a z=>(m.bd a z).elim (l.bd a) fun z=>.inr (l.sure a z)
 keep:=fun a o e h=>m.keep a o (l.keep a o e h) (h.imp id fun n=>l.not e n)
 sure:=fun a z=>l.sure a (m.sure a z)
theorem Lt.rd (l:Lt P H P' H')(n:¬ P.bd a)(h:Rd H a (.lst xs)):Rd H' a (.lst xs):=by
 rcases h with h |⟨o,h⟩
 ·exact .inl (l.keep _ _ h (.inr n))
 ·exact .inr ⟨o,l.keep _ _ h (.inr n)⟩
theorem MP (h:Rd H a o):∃o',H a=some o':=h.elim (fun h=>⟨_,h⟩) fun⟨_,h⟩=>⟨_,h⟩
theorem Lt.rda (l:Lt P H P' H')(h:BW K P H a xs):BW K P' H' a xs:=h.imp (fun⟨n,h⟩=>⟨by obtain⟨o,e⟩:=MP h;exact l.not e n,l.rd n h⟩) id
theorem Lt.tup (l:Lt P H P' H')(h:dJ K H a xs):dJ K H' a xs:=by
 rcases h with(h |⟨o,h⟩) |h
 ·exact .inl (.inl (l.keep _ _ h (.inl (.inl ⟨_,rfl⟩))))
 ·exact .inl (.inr ⟨o,l.keep _ _ h (.inl (.inr (.inl ⟨_,_,rfl⟩)))⟩)
 ·exact .inr h
mutual
theorem Is.lt (l:Lt P H P' H'):∀{d:D} {v:V},Is K P H d v->Is K P' H' d v
  |.non,_,h=>h
  |.bl _,_,h=>h
  |.int _,_,h=>h
  |.str _,_,h=>h
  |.tup ds,_,h=>by
    obtain⟨a,vs,e,s,r⟩:=h;exact⟨a,vs,e,l.tup s,aD.lt l r⟩
  |.lst ds,_,h=>by
    obtain⟨a,vs,e,s,r⟩:=h;exact⟨a,vs,e,l.rda s,aD.lt l r⟩
  |.ref k,_,h=>⟨xah h.1 l.n,by rw[l.io k h.1];exact h.2⟩
theorem aD.lt (l:Lt P H P' H'):∀{ds:List D} {vs:List V},aD K P H ds vs->aD K P' H' ds vs
  | [],_,h=>h
  |_::_,_,h=>by
    obtain⟨v,r,e,p,q⟩:=h;exact⟨v,r,e,Is.lt l p,aD.lt l q⟩
end
noncomputable def Pl.less (P:Pl) (B:Addr->Prop):Pl:={P with bd:=fun a=>P.bd a/\B a}
mutual
theorem Is.less:∀{d:D} {v:V},Is K P H d v->Is K (P.less B) H d v
  |.non,_,h=>h
  |.bl _,_,h=>h
  |.int _,_,h=>h
  |.str _,_,h=>h
  |.tup ds,_,h=>by
    obtain⟨a,vs,e,s,r⟩:=h;exact⟨a,vs,e,s,aD.less r⟩
  |.lst ds,_,h=>by
    obtain⟨a,vs,e,s,r⟩:=h;exact⟨a,vs,e,s.imp (fun⟨n,h⟩=>⟨fun z=>n z.1,h⟩) id,aD.less r⟩
  |.ref k,_,h=>h
theorem aD.less:∀{ds:List D} {vs:List V},aD K P H ds vs->aD K (P.less B) H ds vs
  | [],_,h=>h
  |_::_,_,h=>by
    obtain⟨v,r,e,p,q⟩:=h;exact⟨v,r,e,Is.less p,aD.less q⟩
end
mutual
theorem Is.free (P':Pl):∀{d:D} {v:V},d.lf=true->Is K P H d v->Is K P' H d v
  |.non,_,_,h=>h
  |.bl _,_,_,h=>h
  |.int _,_,_,h=>h
  |.str _,_,_,h=>h
  |.tup ds,_,l,h=>by
    obtain⟨a,vs,e,s,r⟩:=h;exact⟨a,vs,e,s,aD.free P' (by simpa only[D.lf] using l) r⟩
  |.lst _,_,l,_=>by simp[D.lf]at l
  |.ref _,_,l,_=>by simp[D.lf]at l
theorem aD.free (P':Pl):∀{ds:List D} {vs:List V},D.lfs ds=true->aD K P H ds vs->aD K P' H ds vs
  | [],_,_,h=>h
  |_::_,_,l,h=>by
    obtain⟨v,r,e,p,q⟩:=h;simp only[D.lfs,xat]at l;exact⟨v,r,e,Is.free P' l.1 p,aD.free P' l.2 q⟩
end
theorem aD.len:∀{ds:List D} {vs:List V},aD K P H ds vs->vs.length=ds.length
  | [],_,h=>by rw[show _=[] from h];rfl
  |d::ds,_,h=>by
    obtain⟨v,r,e,_,q⟩:=h;subst e
    simp[aD.len q]
theorem aD.get:∀{ds:List D} {vs:List V} {i:Nat} {d:D},aD K P H ds vs->ds[i]? =some d->∃v,vs[i]? =some v/\Is K P H d v
  | [],_,_,_,_,e=>by simp at e
  |d::ds,_,0,_,h,e=>by
    obtain⟨v,r,e',p,_⟩:=h
    simp at e
    subst e e';exact⟨v,rfl,p⟩
  |d::ds,_,i + 1,_,h,e=>by
    obtain⟨v,r,e',_,q⟩:=h;subst e'
    simpa using aD.get (i:=i) q (by simpa using e)
theorem aD.append:∀{ds es:List D} {vs ws:List V},aD K P H ds vs->aD K P H es ws->aD K P H (ds ++ es) (vs ++ ws)
  | [],_,_,_,h,q=>by rw[show _=[] from h];exact q
  |d::ds,_,_,_,h,q=>by
    obtain⟨v,r,e,p,h⟩:=h;subst e;exact⟨v,r ++ _,rfl,p,aD.append h q⟩
theorem aD.take:∀{ds:List D} {vs:List V} (n:Nat),aD K P H ds vs->aD K P H (ds.take n) (vs.take n)
  |_,_,0,_=>rfl
  | [],_,n + 1,h=>by rw[show _=[] from h];rfl
  |d::ds,_,n + 1,h=>by
    obtain⟨v,r,e,p,h⟩:=h;subst e;exact⟨v,_,rfl,p,aD.take n h⟩
theorem aD.drop:∀{ds:List D} {vs:List V} (n:Nat),aD K P H ds vs->aD K P H (ds.drop n) (vs.drop n)
  |_,_,0,h=>h
  | [],_,n + 1,h=>by rw[show _=[] from h];rfl
  |d::ds,_,n + 1,h=>by
    obtain⟨v,r,e,p,h⟩:=h;subst e;exact aD.drop n h
theorem aD.one (h:Is K P H d v):aD K P H [d] [v]:=⟨v,[],rfl,h,rfl⟩
theorem aD.set:∀{ds:List D} {vs:List V} {d:D} {v:V} (n:Nat),aD K P H ds vs->Is K P H d v->aD K P H (ds.set n d) (vs.set n v)
  | [],_,_,_,_,h,_=>by rw[show _=[] from h];rfl
  |d::ds,_,_,_,0,h,p=>by
    obtain⟨v,r,e,_,h⟩:=h;subst e;exact⟨_,r,rfl,p,h⟩
  |d::ds,_,_,_,n + 1,h,p=>by
    obtain⟨v,r,e,q,h⟩:=h;subst e;exact⟨v,_,rfl,q,aD.set n h p⟩
end
noncomputable def sI (K:Fgx) (mg:Mgx) (P:Pl) (H:Hp) (a:Addr):Cl->Prop
 |.lst ds=>∃vs,H a=some (.lst vs)/\aD K P H ds vs
 |.obj c fs=>∃C dx gs,mg c=some (.ref C)/\H a=some (.ins C dx gs)/\gs.map (·.1)=fs.map (·.1)/\aD K P H (fs.map (·.2)) (gs.map (·.2))
 |.dct kvs=>∃vs:List (L2.Key×V),H a=some (.dK vs)/\vs.map (·.1)=kvs.map (·.1)/\aD K P H (kvs.map (·.2)) (vs.map (·.2))
 |.dcf kvs=>∃(vs:List (L2.Key×V)) (ob:Obj) (es:Array DictEntry) (ep:Nat),H a=some (.frz ob (.dK vs))/\ob.data=.dict es ep/\vs.map (·.1)=kvs.map (·.1)/\aD K P H (kvs.map (·.2)) (vs.map (·.2))
structure Hk (K:Fgx)(mg:Mgx)(P:Pl)(H:Hp)(M:Mm):Prop where
 n:P.n=M.length
 cell:∀(k:Nat) c,M[k]? =some c->sI K mg P H (P.io k) c
 inj:∀j k,j<P.n->k<P.n->P.io j=P.io k->j=k
 bd:∀k,k<P.n->P.bd (P.io k)
 here:∀a,P.bd a->H a≠none
structure LtE (P:Pl)(H:Hp)(P':Pl)(H':Hp):Prop where
 n:P.n<=P'.n
 io:∀k,k<P.n->P'.io k=P.io k
 bd:∀a,P'.bd a->P.bd a\/H a=none
 bm:∀a,P.bd a->P'.bd a
 keep:∀a o,H a=some o->(Fx o\/∀k,k<P.n->P.io k≠a)->H' a=some o
 sure:∀a,H' a=none->H a=none
 nw:∀k,P.n<=k->k<P'.n->H (P'.io k)=none
section
variable {K:Fgx}{mg:Mgx}{P P' P'':Pl}{H H' H'':Hp}{M M':Mm}
theorem LtE.refl (P:Pl)(H:Hp):LtE P H P H:=⟨xaf _,fun _ _=>rfl,fun _ z=>.inl z,fun _ z=>z,fun _ _ e _=>e,fun _ z=>z,fun k h1 h2=>absurd h1 (xcO.mpr h2)⟩
theorem LtE.same (s:Same H H'):LtE P H P H':=⟨xaf _,fun _ _=>rfl,fun _ z=>.inl z,fun _ z=>z,fun a o e _=>s a o e,fun a z=>s.free z,fun k h1 h2=>absurd h1 (xcO.mpr h2)⟩
theorem Hk.cellAt (h:Hk K mg P H M)(hc:M[k]? =some c)(nd:∀kvs,c≠ .dcf kvs:=by intro _ z;cases z):∃o,H (P.io k)=some o/\¬ Fx o:=by
  have:=h.cell k c hc
  cases c with
  |lst ds=>
    obtain⟨vs,e,_⟩:=this;exact⟨_,e,fun z=>by rcases z with⟨_,z⟩ |⟨_,_,z⟩ |⟨_,z⟩ |⟨_,z⟩<;>cases z⟩
  |obj c fs=>
    obtain⟨C,dx,gs,_,e,_⟩:=this;exact⟨_,e,fun z=>by rcases z with⟨_,z⟩ |⟨_,_,z⟩ |⟨_,z⟩ |⟨_,z⟩<;>cases z⟩
  |dct kvs=>
    obtain⟨vs,e,_⟩:=this;exact⟨_,e,fun z=>by rcases z with⟨_,z⟩ |⟨_,_,z⟩ |⟨_,z⟩ |⟨_,z⟩<;>cases z⟩
  |dcf kvs=>exact absurd rfl (nd kvs)
theorem LtE.lt (l:LtE P H P' H')(h:Hk K mg P H M):Lt P H P' H' where
 n:=l.n
 io:=l.io
 bd:=l.bd
 sure:=l.sure
 keep:=fun a o e z=>l.keep a o e (z.imp id fun z k hk q=>z (q ▸ h.bd k hk))
theorem LtE.trans (l:LtE P H P' H')(m:LtE P' H' P'' H''):LtE P H P'' H'' where
 n:=xaD l.n m.n
 io:=fun k h=>(m.io k (xah h l.n)).trans (l.io k h)
 bd:=fun a z=>(m.bd a z).elim (l.bd a) fun z=>.inr (l.sure a z)
 bm:=fun a z=>m.bm a (l.bm a z)
 keep:=fun a o e h=>m.keep a o (l.keep a o e h) <| h.imp id fun h k hk q=>by
  rcases xaJ k P.n with z |z
  ·rw[l.io k z]at q;exact h k z q
  ·rw[<-q,l.nw k z hk]at e;cases e
 sure:=fun a z=>l.sure a (m.sure a z)
 nw:=fun k h1 h2=>by
  rcases xaJ k P'.n with z |z
  ·rw[m.io k z];exact l.nw k h1 z
  ·exact l.sure _ (m.nw k z h2)
end
inductive Cp where
 |eq |ne |lt |le |gt |ge |isin |notin |same |other
mutual
def D.eq:D->D->Bool
 |.non,.non=>true
 |.bl a,.bl b=>a==b
 |.bl a,.int b=>(if a then 1 else 0)==b
 |.int a,.bl b=>a==(if b then 1 else 0)
 |.int a,.int b=>a==b
 |.str a,.str b=>a==b
 |.tup a,.tup b=>D.eqs a b
 |.lst a,.lst b=>D.eqs a b
 |.ref a,.ref b=>a==b
 |_,_=>false
def D.eqs:List D->List D->Bool
 | [],[]=>true
 |a::as,b::bs=>D.eq a b && D.eqs as bs
 |_,_=>false
end
mutual
def D.dep:D->Nat
 |.tup xs=>D.deps xs + 1
 |.lst xs=>D.deps xs + 1
 |.ref _=>101
 |_=>0
def D.deps:List D->Nat
 | []=>0
 |a::as=>max (D.dep a) (D.deps as)
end
noncomputable def D.flat:D->Bool
 |.tup _=>false
 |.lst _=>false
 |.ref _=>false
 |_=>true
noncomputable def zA (i j:Str):Bool:= !(Builtin.Str.occurrences j i 0 j.length 1).isEmpty
def dF (a b:D):Bool:=a.flat==b.flat && decide (b.dep<=50)
noncomputable def kW (a b:D):Option Bool:=if dF a b=true/\a.dep<=50 then some (D.eq a b) else none
noncomputable def ni (a b:D):Option Bool:=if dF a b=true/\a.dep<=50 then some (!D.eq a b) else none
noncomputable def dB (f:Int->Int->Bool) (a b:D):Option Bool:=match a with
 |.int i=>(match b with |.int j=>some (f i j) |_=>none)
 |_=>none
noncomputable def m_ (a b:D):Option Bool:=match b with
 |.str j=>(match a with |.str i=>some (zA i j) |_=>none)
 |.lst xs=>if (a.flat && xs.all D.flat)=true then some (xs.any fun y=>D.eq y a) else none
 |.tup xs=>if (a.flat && xs.all D.flat)=true then some (xs.any fun y=>D.eq y a) else none
 |_=>none
noncomputable def eY (a b:D):Option Bool:=match b with
 |.str j=>(match a with |.str i=>some (!zA i j) |_=>none)
 |.lst xs=>if (a.flat && xs.all D.flat)=true then some (!xs.any fun y=>D.eq y a) else none
 |.tup xs=>if (a.flat && xs.all D.flat)=true then some (!xs.any fun y=>D.eq y a) else none
 |_=>none
noncomputable def nq (a b:D):Option Bool:=match b with
 |.bl b=>(match a with |.bl a=>some (a==b) |_=>some false)
 |.non=>(match a with |.non=>some true |_=>some false)
 |_=>none
noncomputable def nj (a b:D):Option Bool:=match b with
 |.bl b=>(match a with |.bl a=>some (!(a==b)) |_=>some true)
 |.non=>(match a with |.non=>some false |_=>some true)
 |_=>none
noncomputable def cD (c:Cp) (a b:D):Option Bool:=match c with
 |.eq=>kW a b
 |.ne=>ni a b
 |.lt=>dB (fun i j=>decide (i<j)) a b
 |.le=>dB (fun i j=>decide (i<=j)) a b
 |.gt=>dB (fun i j=>decide (j<i)) a b
 |.ge=>dB (fun i j=>decide (j<=i)) a b
 |.isin=>m_ a b
 |.notin=>eY a b
 |.same=>nq a b
 |.other=>nj a b
noncomputable def cH (K:Fgx) (P:Pl) (H:Hp):D->V->Prop
 |.lst ds,v=>∃a vs,v=.ref a/\Ja K P H a vs/\aD K P H ds vs
 |d,v=>Is K P H d v
section
variable {X:Cx}{pins:Pnx}{σ:L2.St}{H:Hp}{s:Shared}
theorem zcX {K:Fgx}{P:Pl}{a:Addr}{xs:List V}(h:Ja K P H a xs):bI K H a xs:=h.imp (·.2) id
noncomputable def bH (K:Fgx) (P:Pl) (H:Hp):D->V->Prop
 |.lst ds,v=>∃a vs,v=.ref a/\bI K H a vs/\aD K P H ds vs
 |d,v=>Is K P H d v
theorem cH.w {K:Fgx}{P:Pl}{d:D}{v:V}(h:cH K P H d v):bH K P H d v:=by
 cases d<;>first |exact h |(obtain⟨a,vs,e,r,q⟩:=h;exact⟨a,vs,e,zcX r,q⟩)
theorem Is.w {K:Fgx}{P:Pl}{d:D}{v:V}(h:Is K P H d v):bH K P H d v:=by
 cases d<;>first |exact h |(obtain⟨a,vs,e,r,q⟩:=h;exact⟨a,vs,e,r.imp (·.2) id,q⟩)
theorem sql (I:Inv X pins σ H s)(h:bI X.K H l xs):xs.length<=sizeLine/\∃its:List Value,Vals xs its/\s.heap.IsList l its.toArray:=by
 obtain⟨its,r,p,z⟩:=I.list h;exact⟨z,its,r,p.isList⟩
mutual
theorem Is.inj (I:Inv X pins σ H s):∀(d e:D) (v:V),bH X.K A H d v->bH X.K B H e v->d.dep<=100->e.dep<=100->d=e
  |.ref _,e,v,h,h',hd,he=>by simp[D.dep]at hd
  |.non,e,v,h,h',hd,he=>by
    have hv:v=.non:=h;subst hv;cases e<;>first |(simp[D.dep]at he;done) |(simp[bH,Is]at h'<;>rfl)
  |.bl b,e,v,h,h',hd,he=>by
    have hv:v=.bl b:=h;subst hv;cases e<;>first |(simp[D.dep]at he;done) |(simp[bH,Is]at h'<;>simp[h'])
  |.int b,e,v,h,h',hd,he=>by
    have hv:v=.int b:=h;subst hv;cases e<;>first |(simp[D.dep]at he;done) |(simp[bH,Is]at h'<;>simp[h'])
  |.str b,e,v,h,h',hd,he=>by
    have hv:v=.str b:=h;subst hv;cases e<;>first |(simp[D.dep]at he;done) |(simp[bH,Is]at h'<;>simp[h'])
  |.tup ds,e,v,h,h',hd,he=>by
    simp only[D.dep]at hd;simp only[bH,Is]at h;obtain⟨a,vs,rfl,t,r⟩:=h
    cases e with
    |tup es=>
      simp only[bH,Is]at h';obtain⟨b,ws,e1,t',r'⟩:=h';cases e1;have e2:=I.tuple_inj t t';subst e2;simp only[D.dep]at he;rw[aD.inj I ds es vs r r' (by omega) (by omega)]
    |lst es=>
      obtain⟨b,ws,e1,t',r'⟩:=h';cases e1;obtain⟨_,its,_,o2,e2,c2,_⟩:=sql I t';obtain⟨its2,_,⟨o,e3,c3,_⟩,_⟩:=I.tuple t;rw[e2]at e3;cases e3;rw[c2]at c3;exact absurd c3 (by simp)
    |ref _=>simp[D.dep]at he
    |_=>simp[bH,Is]at h'
  |.lst ds,e,v,h,h',hd,he=>by
    simp only[D.dep]at hd;obtain⟨a,vs,rfl,t,r⟩:=h
    cases e with
    |lst es=>
      obtain⟨b,ws,e1,t',r'⟩:=h';cases e1;have e2:=I.list_inj (t) (t');subst e2;simp only[D.dep]at he;rw[aD.inj I ds es vs r r' (by omega) (by omega)]
    |tup es=>
      simp only[bH,Is]at h';obtain⟨b,ws,e1,t',r'⟩:=h';cases e1;obtain⟨_,its,_,o2,e2,c2,_⟩:=sql I t;obtain⟨its2,_,⟨o,e3,c3,_⟩,_⟩:=I.tuple t';rw[e2]at e3;cases e3;rw[c2]at c3;exact absurd c3 (by simp)
    |ref _=>simp[D.dep]at he
    |_=>simp[bH,Is]at h'
theorem aD.inj (I:Inv X pins σ H s):∀(ds es:List D) (vs:List V),aD X.K A H ds vs->aD X.K B H es vs->D.deps ds<=100->D.deps es<=100->ds=es
  | [],es,vs,h,h',hd,he=>by
    have hv:vs=[]:=h;subst hv
    cases es with
    |nil=>rfl
    |cons=>simp[aD]at h'
  |d::ds,es,vs,h,h',hd,he=>by
    simp only[D.deps]at hd;obtain⟨v,r,rfl,p,q⟩:=h
    cases es with
    |nil=>simp[aD]at h'
    |cons e es=>
      obtain⟨v',r',e1,p',q'⟩:=h';cases e1;simp only[D.deps]at he;rw[Is.inj I d e v p.w p'.w (by omega) (by omega),aD.inj I ds es r q q' (by omega) (by omega)]
end
mutual
theorem D.eq_refl:∀d:D,D.eq d d=true
 |.non=>rfl
 |.bl b=>by simp[D.eq]
 |.int b=>by simp[D.eq]
 |.str b=>by simp[D.eq]
 |.tup ds=>by simp only[D.eq];exact D.eqs_refl ds
 |.lst ds=>by simp only[D.eq];exact D.eqs_refl ds
 |.ref n=>by simp[D.eq]
theorem D.eqs_refl:∀d:List D,D.eqs d d=true
 | []=>rfl
 |d::ds=>by simp only[D.eqs,D.eq_refl d,D.eqs_refl ds,xci]
end
theorem D.eqs_len:∀(ds es:List D),ds.length≠es.length->D.eqs ds es=false
  | [],[],h=>absurd rfl h
  | [],_::_,_=>rfl
  |_::_,[],_=>rfl
  |d::ds,e::es,h=>by
    simp only[D.eqs,D.eqs_len ds es (by simpa using h),xb9]
theorem D.eqs_all:∀(ds es:List D),ds.length=es.length->D.eqs ds es=(List.range ds.length).all fun j=>D.eq (ds.getD j .non) (es.getD j .non)
  | [],[],_=>rfl
  |d::ds,e::es,h=>by
    rw[D.eqs,D.eqs_all ds es (by simpa using h),xaz,List.range_succ_eq_map,xbT,List.all_map];rfl
mutual
theorem pB (I:Inv X pins σ H s):∀(d e:D) (v w:V) (u u':Value),bH X.K A H d v->bH X.K B H e w->RelV v u->RelV w u'->Ar.units + d.dep<cLine->d.dep<=100->e.dep<=100->SeqAt.EqAt Ar s u u' (D.eq d e)
  |.ref _,e,v,w,u,u',h1,h2,r1,r2,hu,hd,he=>by simp[D.dep]at hd
  |.non,e,v,w,u,u',h1,h2,r1,r2,hu,hd,he=>by
    have hv:v=.non:=h1;subst hv;cases r1;have hu':Ar.units<cLine:=by omega
    cases e with
    |ref _=>simp[D.dep]at he
    |non=>have hw:w=.non:=h2;subst hw;cases r2;exact xcs _
    |bl b=>have hw:w=.bl b:=h2;subst hw;cases r2;exact SeqAt.EqAt.none_bool _
    |int b=>have hw:w=.int b:=h2;subst hw;obtain⟨t,rfl⟩:=r2;exact SeqAt.EqAt.none_int _ _
    |str b=>have hw:w=.str b:=h2;subst hw;obtain⟨t,rfl⟩:=r2;exact SeqAt.EqAt.none_str _ _
    |tup es=>obtain⟨a,vs,rfl,t,_⟩:=h2;cases r2;obtain⟨its,_,p,_⟩:=I.tuple t;exact SeqAt.EqAt.none_tuple p hu'
    |lst es=>obtain⟨a,vs,rfl,t,_⟩:=h2;cases r2;obtain⟨_,its,_,p⟩:=sql I t;exact SeqAt.EqAt.none_list p hu'
  |.bl x,e,v,w,u,u',h1,h2,r1,r2,hu,hd,he=>by
    have hv:v=.bl x:=h1;subst hv;cases r1;have hu':Ar.units<cLine:=by omega
    cases e with
    |ref _=>simp[D.dep]at he
    |non=>have hw:w=.non:=h2;subst hw;cases r2;exact SeqAt.EqAt.bool_none _
    |bl b=>have hw:w=.bl b:=h2;subst hw;cases r2;exact SeqAt.EqAt.bool_bool _ _
    |int b=>have hw:w=.int b:=h2;subst hw;obtain⟨t,rfl⟩:=r2;exact SeqAt.EqAt.bool_int _ _ _
    |str b=>have hw:w=.str b:=h2;subst hw;obtain⟨t,rfl⟩:=r2;exact SeqAt.EqAt.bool_str _ _ _
    |tup es=>obtain⟨a,vs,rfl,t,_⟩:=h2;cases r2;obtain⟨its,_,p,_⟩:=I.tuple t;exact SeqAt.EqAt.bool_tuple _ p hu'
    |lst es=>obtain⟨a,vs,rfl,t,_⟩:=h2;cases r2;obtain⟨_,its,_,p⟩:=sql I t;exact SeqAt.EqAt.bool_list _ p hu'
  |.int x,e,v,w,u,u',h1,h2,r1,r2,hu,hd,he=>by
    have hv:v=.int x:=h1;subst hv;obtain⟨t0,rfl⟩:=r1;have hu':Ar.units<cLine:=by omega
    cases e with
    |ref _=>simp[D.dep]at he
    |non=>have hw:w=.non:=h2;subst hw;cases r2;exact SeqAt.EqAt.int_none _ _
    |bl b=>have hw:w=.bl b:=h2;subst hw;cases r2;exact SeqAt.EqAt.int_bool _ _ _
    |int b=>have hw:w=.int b:=h2;subst hw;obtain⟨t,rfl⟩:=r2;exact SeqAt.EqAt.int_int _ _ _ _
    |str b=>have hw:w=.str b:=h2;subst hw;obtain⟨t,rfl⟩:=r2;exact xcA _ _ _ _
    |tup es=>obtain⟨a,vs,rfl,t,_⟩:=h2;cases r2;obtain⟨its,_,p,_⟩:=I.tuple t;exact SeqAt.EqAt.int_tuple _ _ p hu'
    |lst es=>obtain⟨a,vs,rfl,t,_⟩:=h2;cases r2;obtain⟨_,its,_,p⟩:=sql I t;exact SeqAt.EqAt.int_list _ _ p hu'
  |.str x,e,v,w,u,u',h1,h2,r1,r2,hu,hd,he=>by
    have hv:v=.str x:=h1;subst hv;obtain⟨t0,rfl⟩:=r1;have hu':Ar.units<cLine:=by omega
    cases e with
    |ref _=>simp[D.dep]at he
    |non=>have hw:w=.non:=h2;subst hw;cases r2;exact SeqAt.EqAt.str_none _ _
    |bl b=>have hw:w=.bl b:=h2;subst hw;cases r2;exact SeqAt.EqAt.str_bool _ _ _
    |int b=>have hw:w=.int b:=h2;subst hw;obtain⟨t,rfl⟩:=r2;exact xcB _ _ _ _
    |str b=>have hw:w=.str b:=h2;subst hw;obtain⟨t,rfl⟩:=r2;exact SeqAt.EqAt.str_str _ _ _ _
    |tup es=>obtain⟨a,vs,rfl,t,_⟩:=h2;cases r2;obtain⟨its,_,p,_⟩:=I.tuple t;exact SeqAt.EqAt.str_tuple _ _ p hu'
    |lst es=>obtain⟨a,vs,rfl,t,_⟩:=h2;cases r2;obtain⟨_,its,_,p⟩:=sql I t;exact SeqAt.EqAt.str_list _ _ p hu'
  |.tup ds,e,v,w,u,u',h1,h2,r1,r2,hu,hd,he=>by
    have h1':=h1;have hd':=hd;simp only[D.dep]at hu hd;have hu':Ar.units<cLine:=by omega
    obtain⟨a,vs,rfl,t,q⟩:=h1;cases r1;obtain⟨its,rv,p,hz⟩:=I.tuple t
    cases e with
    |ref _=>simp[D.dep]at he
    |non=>have hw:w=.non:=h2;subst hw;cases r2;exact SeqAt.EqAt.tuple_none p hu'
    |bl b=>have hw:w=.bl b:=h2;subst hw;cases r2;exact SeqAt.EqAt.tuple_bool _ p hu'
    |int b=>have hw:w=.int b:=h2;subst hw;obtain⟨t,rfl⟩:=r2;exact SeqAt.EqAt.tuple_int _ _ p hu'
    |str b=>have hw:w=.str b:=h2;subst hw;obtain⟨t,rfl⟩:=r2;exact SeqAt.EqAt.tuple_str _ _ p hu'
    |tup es=>
      have h2':=h2;have he':=he;simp only[D.dep]at he;obtain⟨b,ws,rfl,t',q'⟩:=h2;cases r2
      by_cases hab:a=b
      · subst hab;rw[Is.inj I _ _ _ h1' h2' hd' he',D.eq_refl];exact xcs _
      · obtain⟨its',rv',p',hz'⟩:=I.tuple t';refine SeqAt.EqAt.of_refs hab ?_;have l1:its.toArray.size=ds.length:=by rw[xak, <-rv.length,q.len]
        have l2:its'.toArray.size=es.length:=by rw[xak, <-rv'.length,q'.len]
        have key:=SeqAt.RcAt.tuples (A:=Ar) (s:=s) (e:=fun j=>D.eq (ds.getD j .non) (es.getD j .non)) p p' hu' fun j j1 j2=>by
          simpa using pC I ds es vs ws its its' q q' rv rv' (Ar:=Ar.in1) (by show Ar.units + 1 + _<_;omega) (by omega) (by omega) j (by simpa using j1) (by simpa using j2)
        rw[l1,l2]at key
        by_cases hl:ds.length=es.length
        · rw[show D.eq (.tup ds) (.tup es)=D.eqs ds es from rfl,D.eqs_all ds es hl];rw[hl,xdx,xa7,xdj]at key;rw[hl];exact key
        · rw[show D.eq (.tup ds) (.tup es)=D.eqs ds es from rfl,D.eqs_len ds es hl];rw[xba.mpr hl,xb9]at key;exact key
    |lst es=>obtain⟨b,ws,rfl,t',_⟩:=h2;cases r2;obtain⟨_,its',_,p'⟩:=sql I t';exact SeqAt.EqAt.tuple_list p p' hu'
  |.lst ds,e,v,w,u,u',h1,h2,r1,r2,hu,hd,he=>by
    have h1':=h1;have hd':=hd;simp only[D.dep]at hu hd;have hu':Ar.units<cLine:=by omega
    obtain⟨a,vs,rfl,t,q⟩:=h1;cases r1;obtain⟨hz,its,rv,p⟩:=sql I t
    cases e with
    |ref _=>simp[D.dep]at he
    |non=>have hw:w=.non:=h2;subst hw;cases r2;exact SeqAt.EqAt.list_none p hu'
    |bl b=>have hw:w=.bl b:=h2;subst hw;cases r2;exact SeqAt.EqAt.list_bool _ p hu'
    |int b=>have hw:w=.int b:=h2;subst hw;obtain⟨t,rfl⟩:=r2;exact SeqAt.EqAt.list_int _ _ p hu'
    |str b=>have hw:w=.str b:=h2;subst hw;obtain⟨t,rfl⟩:=r2;exact SeqAt.EqAt.list_str _ _ p hu'
    |tup es=>obtain⟨b,ws,rfl,t',_⟩:=h2;cases r2;obtain⟨its',_,p',_⟩:=I.tuple t';exact SeqAt.EqAt.list_tuple p p' hu'
    |lst es=>
      have h2':=h2;have he':=he;simp only[D.dep]at he;obtain⟨b,ws,rfl,t',q'⟩:=h2;cases r2
      by_cases hab:a=b
      · subst hab;rw[Is.inj I _ _ _ h1' h2' hd' he',D.eq_refl];exact xcs _
      · obtain⟨hz',its',rv',p'⟩:=sql I t';refine SeqAt.EqAt.of_refs hab ?_;have l1:its.toArray.size=ds.length:=by rw[xak, <-rv.length,q.len]
        have l2:its'.toArray.size=es.length:=by rw[xak, <-rv'.length,q'.len]
        by_cases hl:ds.length=es.length
        · have key:=SeqAt.RcAt.lists (A:=Ar) (s:=s) (e:=fun j=>D.eq (ds.getD j .non) (es.getD j .non)) p p' (by rw[l1,l2,hl]) hu' fun j j1 j2=>by
            simpa using pC I ds es vs ws its its' q q' rv rv' (Ar:=Ar.in1) (by show Ar.units + 1 + _<_;omega) (by omega) (by omega) j (by simpa using j1) (by simpa using j2)
          rw[show D.eq (.lst ds) (.lst es)=D.eqs ds es from rfl,D.eqs_all ds es hl];rw[l1]at key;exact key
        · rw[show D.eq (.lst ds) (.lst es)=D.eqs ds es from rfl,D.eqs_len ds es hl];exact xcW p p' (by rw[l1,l2];simpa using hl) hu'
theorem pC (I:Inv X pins σ H s):∀(ds es:List D) (vs ws:List V) (its its':List Value),aD X.K A H ds vs->aD X.K B H es ws->Vals vs its->Vals ws its'->Ar.units + D.deps ds<cLine->D.deps ds<=100->D.deps es<=100->
    ∀(j:Nat) (h1:j<its.length) (h2:j<its'.length),SeqAt.EqAt Ar s its[j] its'[j] (D.eq (ds.getD j .non) (es.getD j .non))
  | [],es,vs,ws,its,its',h,h',r,r',hu,hd,he,j,j1,j2=>by
    have hv:vs=[]:=h;subst hv;cases r;exact absurd j1 (xbZ _)
  |d::ds,[],vs,ws,its,its',h,h',r,r',hu,hd,he,j,j1,j2=>by
    have hv:ws=[]:=h';subst hv;cases r';exact absurd j2 (xbZ _)
  |d::ds,e::es,vs,ws,its,its',h,h',r,r',hu,hd,he,j,j1,j2=>by
    obtain⟨v,vr,rfl,p,q⟩:=h;obtain⟨w,wr,rfl,p',q'⟩:=h';simp only[D.deps]at hu hd he
    cases r with
    |cons r1 r2=>
      cases r' with
      |cons r1' r2'=>
        cases j with
        |zero=>exact pB I d e v w _ _ p.w p'.w r1 r1' (by omega) (by omega) (by omega)
        |succ j=>exact pC I ds es vr wr _ _ q q' r2 r2' (by omega) (by omega) (by omega) j (by simpa using j1) (by simpa using j2)
end
theorem Oc {d e:D}{A B:Pl}{K:Fgx}{v w:V}(fd:d.flat=true)(fe:e.flat=true)(h1:bH K A H d v)(h2:bH K B H e w):
  (mU v w=true/\D.eq d e=decide (v=w))\/(∃a i,v=.bl a/\w=.int i/\D.eq d e=((if a then 1 else 0)==i))\/∃a i,v=.int i/\w=.bl a/\D.eq d e=(i==(if a then 1 else 0)):=by
 cases d<;>cases e<;>simp only[D.flat,xbp]at fd fe<;>simp only[bH,Is]at h1 h2<;>subst h1 h2<;>simp[mU,D.eq]
 all_goals first |rfl |(rw[xa5];simp)
noncomputable def mF (K:Fgx) (neg:Bool):R2:=fun x y H Q=>∃(A B:Pl) (d e:D),bH K A H d x/\bH K B H e y/\dF d e=true/\d.dep<=50/\Q (.bl (if neg then !D.eq d e else D.eq d e)) H
theorem Ws (hu:X.A.units + 60<cLine):bK X (compareOp .Eq) (mF X.K false):=by
  intro pins s σ H x y v u Q I rx ry h;obtain⟨A,B,d,e,h1,h2,hk,hd,q⟩:=h;have q:Q (.bl (D.eq d e)) H:=q;have fin:SeqAt.RcAt X.A s v u (D.eq d e)->wpAny (model X.prog X.w) X.A (compareOp .Eq v u) (EP X pins σ Q) X.xe s:=fun r=>EqBoolInt.of_rc r ⟨.bl _,H,I,rfl,q⟩;have hu':X.A.units<cLine:=by omega
  cases fd:d.flat with
  |true=>
    simp only[dF,xat,xbd,xaU]at hk;have fe:e.flat=true:=hk.1.symm.trans fd;rcases Oc fd fe h1 h2 with⟨sc,eq⟩ |⟨a,i,rfl,rfl,eq⟩ |⟨a,i,rfl,rfl,eq⟩
    · exact Wr pins s σ H x y v u Q I rx ry ⟨sc,by rw[<-eq];exact q⟩
    · cases rx;obtain⟨t,rfl⟩:=ry;exact EqBoolInt.eq_bool_int ⟨.bl _,H,I,rfl,by rw[<-eq];exact q⟩
    · cases ry;obtain⟨t,rfl⟩:=rx;exact EqBoolInt.eq_int_bool ⟨.bl _,H,I,rfl,by rw[<-eq];exact q⟩
  |false=>
    simp only[dF,xat,xbd,xaU]at hk;have he:=hk.2;have fe:e.flat=false:=hk.1.symm.trans fd
    cases d with
    |tup ds=>
      obtain⟨a,vs,rfl,t,p⟩:=h1;cases rx;obtain⟨its,rv,pt,hz⟩:=I.tuple t;simp only[D.dep]at hd
      cases e with
      |tup es=>
        obtain⟨b,ws,rfl,t',p'⟩:=h2;cases ry;obtain⟨its',rv',pt',hz'⟩:=I.tuple t';have l1:its.toArray.size=ds.length:=by rw[xak, <-rv.length,p.len]
        have l2:its'.toArray.size=es.length:=by rw[xak, <-rv'.length,p'.len]
        have key:=SeqAt.RcAt.tuples (A:=X.A) (s:=s) (e:=fun j=>D.eq (ds.getD j .non) (es.getD j .non)) pt pt' hu' fun j j1 j2=>by
          simpa using pC I ds es vs ws its its' p p' rv rv' (Ar:=X.A.in1) (by show X.A.units + 1 + _<_;omega) (by omega) (by simp only[D.dep]at he;omega) j (by simpa using j1) (by simpa using j2)
        rw[l1,l2]at key;refine fin ?_
        by_cases hl:ds.length=es.length
        · rw[show D.eq (.tup ds) (.tup es)=D.eqs ds es from rfl,D.eqs_all ds es hl];rw[hl,xdx,xa7,xdj]at key;rw[hl];exact key
        · rw[show D.eq (.tup ds) (.tup es)=D.eqs ds es from rfl,D.eqs_len ds es hl];rw[xba.mpr hl,xb9]at key;exact key
      |lst es=>
        obtain⟨b,ws,rfl,t',p'⟩:=h2;cases ry;obtain⟨_,its',rv',e'⟩:=sql I t';exact fin (SeqAt.RcAt.tuple_list pt e' hu')
      |ref _=>simp[D.dep]at he
      |_=>cases fe
    |lst ds=>
      obtain⟨a,vs,rfl,t,p⟩:=h1;cases rx;obtain⟨hz,its,rv,pt⟩:=sql I t;simp only[D.dep]at hd
      cases e with
      |tup es=>
        obtain⟨b,ws,rfl,t',p'⟩:=h2;cases ry;obtain⟨its',rv',pt',hz'⟩:=I.tuple t';exact fin (SeqAt.RcAt.list_tuple pt pt' hu')
      |lst es=>
        obtain⟨b,ws,rfl,t',p'⟩:=h2;cases ry;obtain⟨_,its',rv',pt'⟩:=sql I t';have l1:its.toArray.size=ds.length:=by rw[xak, <-rv.length,p.len]
        have l2:its'.toArray.size=es.length:=by rw[xak, <-rv'.length,p'.len]
        refine fin ?_
        by_cases hl:ds.length=es.length
        · have key:=SeqAt.RcAt.lists (A:=X.A) (s:=s) (e:=fun j=>D.eq (ds.getD j .non) (es.getD j .non)) pt pt' (by rw[l1,l2,hl]) hu' fun j j1 j2=>by
            simpa using pC I ds es vs ws its its' p p' rv rv' (Ar:=X.A.in1) (by show X.A.units + 1 + _<_;omega) (by omega) (by simp only[D.dep]at he;omega) j (by simpa using j1) (by simpa using j2)
          rw[show D.eq (.lst ds) (.lst es)=D.eqs ds es from rfl,D.eqs_all ds es hl];rw[l1]at key;exact key
        · rw[show D.eq (.lst ds) (.lst es)=D.eqs ds es from rfl,D.eqs_len ds es hl];exact xcW pt pt' (by rw[l1,l2];simpa using hl) hu'
      |ref _=>simp[D.dep]at he
      |_=>cases fe
    |ref _=>simp[D.dep]at hd
    |_=>cases fd
theorem WT (hu:X.A.units + 60<cLine):bK X (compareOp .NotEq) (mF X.K true):=by
  intro pins s σ H x y v u Q I rx ry h;obtain⟨A,B,d,e,h1,h2,hk,hd,q⟩:=h;have q:Q (.bl (!D.eq d e)) H:=q;have fin:SeqAt.RcNeAt X.A s v u (!D.eq d e)->wpAny (model X.prog X.w) X.A (compareOp .NotEq v u) (EP X pins σ Q) X.xe s:=fun r=>EqBoolInt.of_rcne r ⟨.bl _,H,I,rfl,q⟩;have hu':X.A.units<cLine:=by omega
  cases fd:d.flat with
  |true=>
    simp only[dF,xat,xbd,xaU]at hk;have fe:e.flat=true:=hk.1.symm.trans fd;rcases Oc fd fe h1 h2 with⟨sc,eq⟩ |⟨a,i,rfl,rfl,eq⟩ |⟨a,i,rfl,rfl,eq⟩
    · exact WR pins s σ H x y v u Q I rx ry ⟨sc,by rw[<-eq];exact q⟩
    · cases rx;obtain⟨t,rfl⟩:=ry;exact EqBoolInt.ne_bool_int ⟨.bl _,H,I,rfl,by rw[<-eq];exact q⟩
    · cases ry;obtain⟨t,rfl⟩:=rx;exact EqBoolInt.ne_int_bool ⟨.bl _,H,I,rfl,by rw[<-eq];exact q⟩
  |false=>
    simp only[dF,xat,xbd,xaU]at hk;have he:=hk.2;have fe:e.flat=false:=hk.1.symm.trans fd
    cases d with
    |tup ds=>
      obtain⟨a,vs,rfl,t,p⟩:=h1;cases rx;obtain⟨its,rv,pt,hz⟩:=I.tuple t;simp only[D.dep]at hd
      cases e with
      |tup es=>
        obtain⟨b,ws,rfl,t',p'⟩:=h2;cases ry;obtain⟨its',rv',pt',hz'⟩:=I.tuple t';have l1:its.toArray.size=ds.length:=by rw[xak, <-rv.length,p.len]
        have l2:its'.toArray.size=es.length:=by rw[xak, <-rv'.length,p'.len]
        have key:=SeqAt.RcNeAt.tuples (A:=X.A) (s:=s) (e:=fun j=>D.eq (ds.getD j .non) (es.getD j .non)) pt pt' hu' fun j j1 j2=>by
          simpa using pC I ds es vs ws its its' p p' rv rv' (Ar:=X.A.in1) (by show X.A.units + 1 + _<_;omega) (by omega) (by simp only[D.dep]at he;omega) j (by simpa using j1) (by simpa using j2)
        rw[l1,l2]at key;refine fin ?_
        by_cases hl:ds.length=es.length
        · rw[show D.eq (.tup ds) (.tup es)=D.eqs ds es from rfl,D.eqs_all ds es hl];rw[hl,xdx,xa7,xdj]at key;rw[hl];exact key
        · rw[show D.eq (.tup ds) (.tup es)=D.eqs ds es from rfl,D.eqs_len ds es hl];rw[xba.mpr hl,xb9]at key;exact key
      |lst es=>
        obtain⟨b,ws,rfl,t',p'⟩:=h2;cases ry;obtain⟨_,its',rv',e'⟩:=sql I t';exact fin (SeqAt.RcNeAt.tuple_list pt e' hu')
      |ref _=>simp[D.dep]at he
      |_=>cases fe
    |lst ds=>
      obtain⟨a,vs,rfl,t,p⟩:=h1;cases rx;obtain⟨hz,its,rv,pt⟩:=sql I t;simp only[D.dep]at hd
      cases e with
      |tup es=>
        obtain⟨b,ws,rfl,t',p'⟩:=h2;cases ry;obtain⟨its',rv',pt',hz'⟩:=I.tuple t';exact fin (SeqAt.RcNeAt.list_tuple pt pt' hu')
      |lst es=>
        obtain⟨b,ws,rfl,t',p'⟩:=h2;cases ry;obtain⟨_,its',rv',pt'⟩:=sql I t';have l1:its.toArray.size=ds.length:=by rw[xak, <-rv.length,p.len]
        have l2:its'.toArray.size=es.length:=by rw[xak, <-rv'.length,p'.len]
        refine fin ?_
        by_cases hl:ds.length=es.length
        · have key:=SeqAt.RcNeAt.lists (A:=X.A) (s:=s) (e:=fun j=>D.eq (ds.getD j .non) (es.getD j .non)) pt pt' (by rw[l1,l2,hl]) hu' fun j j1 j2=>by
            simpa using pC I ds es vs ws its its' p p' rv rv' (Ar:=X.A.in1) (by show X.A.units + 1 + _<_;omega) (by omega) (by simp only[D.dep]at he;omega) j (by simpa using j1) (by simpa using j2)
          rw[show D.eq (.lst ds) (.lst es)=D.eqs ds es from rfl,D.eqs_all ds es hl];rw[l1]at key;exact key
        · rw[show D.eq (.lst ds) (.lst es)=D.eqs ds es from rfl,D.eqs_len ds es hl];exact SeqAt.RcNeAt.lists_lengths pt pt' (by rw[l1,l2];simpa using hl) hu'
      |ref _=>simp[D.dep]at he
      |_=>cases fe
    |ref _=>simp[D.dep]at hd
    |_=>cases fd
noncomputable def oZ:Cp->CmpOp
 |.eq=>.Eq
 |.ne=>.NotEq
 |.lt=>.Lt
 |.le=>.LtE
 |.gt=>.Gt
 |.ge=>.GtE
 |.isin=>.In
 |.notin=>.NotIn
 |.same=>.Is
 |.other=>.IsNot
noncomputable def wN (K:Fgx):Cp->R2
 |.eq=>mF K false
 |.ne=>mF K true
 |.lt=>gU fun i j=>.bl (decide (i<j))
 |.le=>gU fun i j=>.bl (decide (i<=j))
 |.gt=>gU fun i j=>.bl (decide (j<i))
 |.ge=>gU fun i j=>.bl (decide (j<=i))
 |.isin=>fun x y H Q=>(∃i j,x=.str i/\y=.str j/\Q (.bl (!(Builtin.Str.occurrences j i 0 j.length 1).isEmpty)) H)\/z6 K false x y H Q
 |.notin=>fun x y H Q=>(∃i j,x=.str i/\y=.str j/\Q (.bl (!(!(Builtin.Str.occurrences j i 0 j.length 1).isEmpty))) H)\/z6 K true x y H Q
 |.same=>fun x y H Q=>(y=.non/\Q (.bl (decide (x=.non))) H)\/(∃b,y=.bl b/\Q (.bl (decide (x=.bl b))) H)
 |.other=>fun x y H Q=>(y=.non/\Q (.bl (!decide (x=.non))) H)\/(∃b,y=.bl b/\Q (.bl (!decide (x=.bl b))) H)
theorem nA (hu:X.A.units + 60<cLine):∀c:Cp,bK X (compareOp (oZ c)) (wN X.K c)
 |.eq=>Ws hu
 |.ne=>WT hu
 |.lt=>WQ
 |.le=>WM
 |.gt=>Wv
 |.ge=>Wu
 |.isin=>Wy.or Ww
 |.notin=>WY.or WW
 |.same=>WK.or Wz
 |.other=>WX.or WL
theorem vh {K:Fgx}{A:Pl}{d:D}{v:V}(f:d.flat=true)(h:Is K A H d v):k_ v=true:=by
 cases d<;>simp only[D.flat,xbp]at f<;>simp only[Is]at h<;>subst h<;>rfl
theorem DG {K:Fgx}{A B:Pl}{d e:D}{v w:V}(f:d.flat=true)(g:e.flat=true)(h:Is K A H d v)(h':Is K B H e w):lR v w=D.eq d e:=by
 cases d<;>cases e<;>simp only[D.flat,xbp]at f g<;>simp only[Is]at h h'<;>subst h h'<;>rfl
theorem vm {K:Fgx}{A:Pl}:∀{ds:List D} {vs:List V},ds.all D.flat=true->aD K A H ds vs->vs.all k_=true
  | [],_,_,h=>by rw[show _=[] from h];rfl
  |d::ds,_,f,h=>by
    obtain⟨v,r,rfl,p,q⟩:=h;rw[xbT,xat]at f;rw[xbT,vh f.1 p,vm f.2 q];rfl
theorem iY {K:Fgx}{A B:Pl}{e:D}{w:V}(g:e.flat=true)(h':Is K B H e w):∀{ds:List D} {vs:List V},ds.all D.flat=true->aD K A H ds vs->inV w vs=ds.any fun y=>D.eq y e
  | [],_,_,h=>by rw[show _=[] from h];rfl
  |d::ds,_,f,h=>by
    obtain⟨v,r,rfl,p,q⟩:=h;rw[xbT,xat]at f;have:=iY g h' f.2 q;unfold inV at this ⊢;rw[xbl,xbl,this,DG f.1 g p h']
theorem yW {K:Fgx}{A B:Pl}{c:Cp}{d e:D}{v w:V}{b:Bool}{Q:VK}(h:cD c d e=some b)(h1:bH K A H d v)(h2:bH K B H e w)(q:Q (.bl b) H):wN K c v w H Q:=by
  cases c
  case eq=>
    simp only[cD,kW,ni]at h;split at h
    · rename_i hc;cases h;exact⟨A,B,d,e,h1,h2,hc.1,hc.2,q⟩
    · cases h
  case ne=>
    simp only[cD,kW,ni]at h;split at h
    · rename_i hc;cases h;exact⟨A,B,d,e,h1,h2,hc.1,hc.2,q⟩
    · cases h
  case isin=>
    cases e with
    |str j=>
      cases d<;>simp only[cD,dB,m_,eY,nq,nj,reduceCtorEq]at h
      simp only[bH,Is]at h1 h2;subst h1 h2;cases h;exact .inl ⟨_,_,rfl,rfl,q⟩
    |lst xs=>
      have h':(if (d.flat && xs.all D.flat)=true then some (xs.any fun y=>D.eq y d) else none)=some b:=by cases d<;>exact h
      split at h'
      · rename_i hc;rw[xat]at hc;cases h';obtain⟨a,vs,rfl,t,p⟩:=h2;have h1':Is K A H d v:=by cases d<;>first |exact h1 |cases hc.1
        refine .inr ⟨a,vs,rfl,.inl (t),vh hc.1 h1',vm hc.2 p,?_⟩;rw[iY hc.1 h1' hc.2 p];exact q
      · cases h'
    |tup xs=>
      have h':(if (d.flat && xs.all D.flat)=true then some (xs.any fun y=>D.eq y d) else none)=some b:=by cases d<;>exact h
      split at h'
      · rename_i hc;rw[xat]at hc;cases h';obtain⟨a,vs,rfl,t,p⟩:=h2;have h1':Is K A H d v:=by cases d<;>first |exact h1 |cases hc.1
        refine .inr ⟨a,vs,rfl,.inr t,vh hc.1 h1',vm hc.2 p,?_⟩;rw[iY hc.1 h1' hc.2 p];exact q
      · cases h'
    |_=>cases d<;>simp only[cD,dB,m_,eY,nq,nj,reduceCtorEq]at h
  case notin=>
    cases e with
    |str j=>
      cases d<;>simp only[cD,dB,m_,eY,nq,nj,reduceCtorEq]at h
      simp only[bH,Is]at h1 h2;subst h1 h2;cases h;exact .inl ⟨_,_,rfl,rfl,q⟩
    |lst xs=>
      have h':(if (d.flat && xs.all D.flat)=true then some (!xs.any fun y=>D.eq y d) else none)=some b:=by cases d<;>exact h
      split at h'
      · rename_i hc;rw[xat]at hc;cases h';obtain⟨a,vs,rfl,t,p⟩:=h2;have h1':Is K A H d v:=by cases d<;>first |exact h1 |cases hc.1
        refine .inr ⟨a,vs,rfl,.inl (t),vh hc.1 h1',vm hc.2 p,?_⟩;rw[iY hc.1 h1' hc.2 p];exact q
      · cases h'
    |tup xs=>
      have h':(if (d.flat && xs.all D.flat)=true then some (!xs.any fun y=>D.eq y d) else none)=some b:=by cases d<;>exact h
      split at h'
      · rename_i hc;rw[xat]at hc;cases h';obtain⟨a,vs,rfl,t,p⟩:=h2;have h1':Is K A H d v:=by cases d<;>first |exact h1 |cases hc.1
        refine .inr ⟨a,vs,rfl,.inr t,vh hc.1 h1',vm hc.2 p,?_⟩;rw[iY hc.1 h1' hc.2 p];exact q
      · cases h'
    |_=>cases d<;>simp only[cD,dB,m_,eY,nq,nj,reduceCtorEq]at h
  case same=>
    cases d<;>cases e<;>simp only[cD,dB,m_,eY,nq,nj,reduceCtorEq]at h<;>cases h<;>simp only[bH,Is]at h1 h2
    all_goals first
      |(subst h1 h2;first |exact .inr ⟨_,rfl,by rw[yZ];exact q⟩ |exact .inl ⟨rfl,by simpa using q⟩ |exact .inr ⟨_,rfl,by simpa using q⟩)
      |(obtain⟨a,vs,rfl,_⟩:=h1;subst h2;first |exact .inl ⟨rfl,by simpa using q⟩ |exact .inr ⟨_,rfl,by simpa using q⟩)
  case other=>
    cases d<;>cases e<;>simp only[cD,dB,m_,eY,nq,nj,reduceCtorEq]at h<;>cases h<;>simp only[bH,Is]at h1 h2
    all_goals first
      |(subst h1 h2;first |exact .inr ⟨_,rfl,by rw[yZ];exact q⟩ |exact .inl ⟨rfl,by simpa using q⟩ |exact .inr ⟨_,rfl,by simpa using q⟩)
      |(obtain⟨a,vs,rfl,_⟩:=h1;subst h2;first |exact .inl ⟨rfl,by simpa using q⟩ |exact .inr ⟨_,rfl,by simpa using q⟩)
  all_goals
    cases d<;>cases e<;>simp only[cD,dB,m_,eY,nq,nj,reduceCtorEq]at h
    simp only[bH,Is]at h1 h2;subst h1 h2;cases h;exact⟨_,_,rfl,rfl,q⟩
end
inductive Mode where
 |val |bor
def yG (mg:Mgx)(H:Hp)(c:Str)(n:Int)(v:V):Prop:=∃a C dx,v=.ref a/\mg c=some (.ref C)/\H a=some (xo a C dx false)/\
 match dx with
 |none=>n=0
 |some d=>∃fs,H d=some (.xd fs)/\fs.lookup ("at":Str)=some (.int (n - 1))/\n≠0
theorem yG.lt (l:Lt P H P' H')(h:yG mg H c n v):yG mg H' c n v:=by
  obtain⟨a,C,dx,e,m,ea,q⟩:=h;refine⟨a,C,dx,e,m,l.keep _ _ ea (.inl (.inr (.inr (.inl ⟨_,rfl⟩)))),?_⟩
  cases dx with
  |none=>exact q
  |some d=>
    obtain⟨fs,ed,el⟩:=q;exact⟨fs,l.keep _ _ ed (.inl (.inr (.inr (.inr ⟨_,rfl⟩)))),el⟩
noncomputable def B_ (K:Fgx) (mg:Mgx) (P:Pl) (H:Hp) (o:Option Addr) (sv:Option V):Slot->Prop
 |.un=>True
 |.val d=>∃v,sv=some v/\Is K P H d v
 |.own ds=>∃a vs,o=some a/\sv=some (.ref a)/\H a=some (.lst vs)/\aD K P H ds vs
 |.exc c n=>∃v,sv=some v/\yG mg H c n v
structure Ok (K:Fgx)(mg:Mgx)(P0:Pl)(H0:Hp)(P:Pl)(O:List (Option Addr))(H:Hp)(M:Mm)(st:L2.St)(env:Env):Prop where
 hk:Hk K mg P H M
 base:LtE P0 H0 P H
 b0:∀a,P0.bd a->H0 a≠none
 slot:∀(i:Nat) s,env[i]? =some s->B_ K mg P H (O[i]?).join (st[i]?).join s
 own:∀a,some a∈O->P.bd a/\(∀k,k<P.n->P.io k≠a)/\H0 a=none
 inj:∀(i j:Nat) a,O[i]? =some (some a)->O[j]? =some (some a)->i=j
 olen:O.length=env.length
 slen:st.length=env.length
def cA (K:Fgx)(P:Pl)(H:Hp)(m:Mode)(d:D)(v:V):Prop:=match m with
 |.val=>Is K P H d v
 |.bor=>cH K P H d v
inductive Res where
 |v (d:D) |x (c:Str) (n:Int)
abbrev O:=Option (Res×Mm)
abbrev E:=Env->Mm->O
noncomputable def bnd (o:O) (k:D->Mm->O):O:=match o with
 |some (.v d,M)=>k d M
 |some (.x c n,M)=>some (.x c n,M)
 |none=>none
theorem bT (h:bnd o k=some (r,M')):(∃d M,o=some (.v d,M)/\k d M=some (r,M'))\/∃c n,o=some (.x c n,M')/\r=.x c n:=by
 unfold bnd at h;split at h
 ·exact .inl ⟨_,_,rfl,h⟩
 ·cases h;exact .inr ⟨_,_,rfl,rfl⟩
 ·cases h
abbrev XW:=Pl->Hp->Mm->Str->Int->Prop
section
variable {K:Fgx}{mg:Mgx}{P0 P P':Pl}{H0 H H':Hp}{M M':Mm}{Os:List (Option Addr)}{st:L2.St}{env:Env}{d:D}{v:V}{m:Mode}
theorem Is.b (h:Hk K mg P H M)(i:Is K P H d v):cH K P H d v:=by
  cases d with
  |lst ds=>
    obtain⟨a,vs,e,r,q⟩:=i;exact⟨a,vs,e,r.imp (fun⟨n,r⟩=>⟨fun k hk z=>n (z ▸ h.bd k hk),r⟩) id,q⟩
  |_=>exact i
theorem cA.of (h:Hk K mg P H M)(i:Is K P H d v):cA K P H m d v:=by
 cases m with
 |val=>exact i
 |bor=>exact i.b h
theorem cA.b (h:Hk K mg P H M)(i:cA K P H m d v):cH K P H d v:=by
 cases m with
 |val=>exact Is.b h i
 |bor=>exact i
theorem LtE.nc (l:LtE P H P' H')(e:H a=some o)(n:∀k,k<P.n->P.io k≠a):∀k,k<P'.n->P'.io k≠a:=fun k hk z=>by
 rcases xaJ k P.n with q |q
 ·rw[l.io k q]at z;exact n k q z
 ·rw[<-z,l.nw k q hk]at e;cases e
theorem cH.lt (l:LtE P H P' H')(h:Hk K mg P H M)(i:cH K P H d v):cH K P' H' d v:=by
  cases d with
  |lst ds=>
    obtain⟨a,vs,e,r,q⟩:=i;refine⟨a,vs,e,r.imp (fun⟨n,r⟩=>?_) id,aD.lt (l.lt h) q⟩;obtain⟨o,eo⟩:=MP r;refine⟨l.nc eo n,?_⟩;rcases r with r |⟨o',r⟩
    · exact .inl (l.keep _ _ r (.inr n))
    · exact .inr ⟨o',l.keep _ _ r (.inr n)⟩
  |_=>exact Is.lt (l.lt h) i
theorem Ok.next (k:Ok K mg P0 H0 P Os H M st env)(l:LtE P H P' H')(h:Hk K mg P' H' M'):Ok K mg P0 H0 P' Os H' M' st env where
  hk:=h
  base:=k.base.trans l
  b0:=k.b0
  slot:=fun i s e=>by
    have q:=k.slot i s e
    cases s with
    |un=>exact True.intro
    |val d=>
      obtain⟨v,e1,q⟩:=q;exact⟨v,e1,Is.lt (l.lt k.hk) q⟩
    |own ds=>
      obtain ⟨a, vs, e1, e2, e3, q⟩ := q;have ho := k.own a (by
        cases hx:Os[i]? with
        |none=>rw[hx]at e1;cases e1
        |some o=>rw[hx]at e1;cases o with
          |none=>cases e1
          |some b=>cases e1;exact xaL hx)
      exact⟨a,vs,e1,e2,l.keep _ _ e3 (.inr ho.2.1),aD.lt (l.lt k.hk) q⟩
    |exc c n=>
      obtain⟨v,e1,q⟩:=q;exact⟨v,e1,q.lt (l.lt k.hk)⟩
  own:=fun a z=>by
    have ho:=k.own a z;refine⟨l.bm a ho.1,?_,ho.2.2⟩;obtain⟨o,eo⟩:∃o,H a=some o:=by
      cases e:H a with
      |none=>exact absurd e (k.hk.here a ho.1)
      |some o=>exact⟨o,rfl⟩
    exact l.nc eo ho.2.1
  inj:=k.inj
  olen:=k.olen
  slen:=k.slen
theorem Hk.same (h:Hk K mg P H M)(s:Same H H'):Hk K mg P H' M:=by
  have l:Lt P H P H':=(LtE.same s).lt h;refine⟨h.n,fun k c e=>?_,h.inj,h.bd,fun a z q=>h.here a z (s.free q)⟩;have:=h.cell k c e
  cases c with
  |lst ds=>
    obtain⟨vs,e1,q⟩:=this;exact⟨vs,s _ _ e1,aD.lt l q⟩
  |obj c fs=>
    obtain⟨C,dx,gs,e1,e2,e3,q⟩:=this;exact⟨C,dx,gs,e1,s _ _ e2,e3,aD.lt l q⟩
  |dct kvs=>
    obtain⟨vs,e1,e2,q⟩:=this;exact⟨vs,s _ _ e1,e2,aD.lt l q⟩
  |dcf kvs=>
    obtain⟨vs,ob,es,ep,e1,eD,e2,q⟩:=this;exact⟨vs,ob,es,ep,s _ _ e1,eD,e2,aD.lt l q⟩
end
noncomputable def RQ (K:Fgx) (mg:Mgx) (Wx:XW) (m:Mode) (P0:Pl) (H0:Hp) (P:Pl) (H:Hp) (M':Mm) (Q:VK):Res->Prop
 |.v d=>∀P' v H',LtE P H P' H'->Hk K mg P' H' M'->cA K P' H' m d v->Q v H'
 |.x c n=>Wx P0 H0 M' c n
theorem cg (h:PE X e t)(i:∀st H Q,t' st H Q->t st H Q):PE X e t':=fun pins s σ H Q I z=>h pins s σ H Q I (i _ _ _ z)
noncomputable def tE (K:Fgx) (mg:Mgx) (Wx:XW) (m:Mode) (f:E):TE:=fun st H Q=>∃P0 H0 P Os env M r M',Ok K mg P0 H0 P Os H M st env/\f env M=some (r,M')/\RQ K mg Wx m P0 H0 P H M' Q r
structure Fit (X:Cx)(Wx:XW):Prop where
 calm:X.calm=true
 room:X.A.units + 60<cLine
section
variable {X:Cx}{Wx:XW}{m:Mode}
def SE (X:Cx)(Wx:XW)(m:Mode)(e:Expr)(f:E):Prop:=PE X e (tE X.K X.mg Wx m f)
theorem SE.bor (h : SE X Wx .val e f) : SE X Wx m e f := cg h fun st H Q ⟨P0, H0, P, Os, env, M, r, M', k, e, q⟩ => ⟨P0,H0,P,Os,env,M,r,M',k,e,by
 cases r with
 |v d=>exact fun P' v H' l h i=>q P' v H' l h (cA.of h i)
 |x c n=>exact q⟩
theorem aN {f:E}{K:Fgx}{mg:Mgx}{P0 P:Pl}{H0 H:Hp}{Os:List (Option Addr)}{M M':Mm}{st:L2.St}{env:Env}{r:Res}{Q:VK}(k:Ok K mg P0 H0 P Os H M st env)(e:f env M=some (r,M'))
  (q:RQ K mg Wx m P0 H0 P H M' Q r):tE K mg Wx m f st H Q:=⟨P0,H0,P,Os,env,M,r,M',k,e,q⟩
noncomputable def ak (i:Nat):E:=fun env M=>match env[i]? with
 |some (.val d)=>some (.v d,M)
 |_=>none
def aj (d:D):E:=fun _ M=>some (.v d,M)
theorem lu {α:Type}{l:List (Option α)}{i:Nat}{a:α}(h:(l[i]?).join=some a):l[i]? =some (some a):=by
  cases e:l[i]? with
  |none=>rw[e]at h;cases h
  |some o=>rw[e]at h;cases o with
    |none=>cases h
    |some b=>cases h;rfl
theorem Oi {i:Nat}{x:Str}{pos:Pos}(hN:X.N[i]? =some x)(hv:sS X.env.scope x)(hd:(x==("__debug__":Str))=false:=by x_go)(hcd:(x==("__classdict__":Str))=false:=by x_go):SE X Wx .val (.Name x pos) (ak i):=by
 refine cg (rB hN hv hd hcd) ?_;rintro st H Q ⟨P0,H0,P,Os,env,M,r,M',k,e,q⟩;unfold ak at e;split at e
 ·rename_i d hs;cases e;obtain⟨v,e1,i1⟩:=k.slot i _ hs;exact⟨v,lu e1,q P v H (LtE.refl P H) k.hk i1⟩
 ·cases e
theorem Bc (h:PE X e (tC v))(hd:∀P H,Is X.K P H d v):SE X Wx .val e (aj d):=by
 refine cg h ?_;rintro st H Q ⟨P0,H0,P,Os,env,M,r,M',k,e,q⟩;cases e;exact q P v H (LtE.refl P H) k.hk (hd P H)
noncomputable def vw (M:Mm) (d:D):D:=match d with
  | .ref k => (match M[k]? with
    |some (.lst ds)=>.lst ds
    |_=>.ref k)
  |d=>d
theorem cH.vw {K:Fgx}{mg:Mgx}{P:Pl}{H:Hp}{M:Mm}{d:D}{v:V}(h:Hk K mg P H M)(i:cH K P H d v):bH K P H (vw M d) v:=by
  cases d with
  |ref k=>
    unfold E3.vw;dsimp only
    split
    · rename_i ds e;obtain⟨i1,i2⟩:k<P.n/\v=.ref (P.io k):=i;obtain⟨vs,e1,q⟩:=h.cell k _ e;exact⟨_,vs,i2,.inl (.inl e1),q⟩
    · exact i
  |lst ds=>exact i.w
  |_=>exact i
noncomputable def s1 (o:D->Option D) (f:E):E:=fun env M=>bnd (f env M) fun d M1=>(o (vw M1 d)).map fun z=>(.v z,M1)
noncomputable def s2 (o:D->D->Option D) (f g:E):E:=fun env M=>bnd (f env M) fun d M1=>bnd (g env M1) fun e M2=>(o (vw M2 d) (vw M2 e)).map fun z=>(.v z,M2)
def gM (K:Fgx)(r:R2)(o:D->D->Option D):Prop:=∀(P:Pl) (H:Hp) (d e z:D) (v w:V) (Q:VK),o d e=some z->bH K P H d v->bH K P H e w->(∀p,H p=none->¬ P.bd p)->(∀u H',Same H H'->Is K P H' z u->Q u H')->r v w H Q
def BR (K:Fgx)(r:V->Hp->VK->Prop)(o:D->Option D):Prop:=∀(P:Pl) (H:Hp) (d z:D) (v:V) (Q:VK),o d=some z->bH K P H d v->(∀p,H p=none->¬ P.bd p)->(∀u H',Same H H'->Is K P H' z u->Q u H')->r v H Q
theorem Hk.new {K:Fgx}{mg:Mgx}{P:Pl}{H:Hp}{M:Mm}(h:Hk K mg P H M):∀p,H p=none->¬ P.bd p:=fun p hp z=>h.here p z hp
theorem Bm {f g:E}{o:D->D->Option D}{r:R2}{st:L2.St}{H:Hp}{Q:VK}(po:gM X.K r o)(h:tE X.K X.mg Wx m (s2 o f g) st H Q):xR r (tE X.K X.mg Wx .bor f) (tE X.K X.mg Wx .bor g) st H Q:=by
 obtain⟨P0,H0,P,Os,env,M,rr,M',k,e,q⟩:=h;unfold s2 at e;rcases bT e with⟨d,M1,e1,e⟩ |⟨c,n,e1,rfl⟩
 ·refine aN k e1 fun P1 v1 H1 l1 h1 i1=>?_;have k1:=k.next l1 h1
  rcases bT e with⟨d2,M2,e2,e⟩ |⟨c,n,e2,rfl⟩
  ·refine aN k1 e2 fun P2 v2 H2 l2 h2 i2=>?_;rw[xae]at e;obtain⟨z,ez,e⟩:=e;cases e;exact po P2 H2 _ _ z v1 v2 Q ez (cH.vw h2 (cH.lt l2 h1 i1)) (cH.vw h2 i2) h2.new fun u H' s i=>q P2 u H' (l1.trans (l2.trans (LtE.same s))) (h2.same s) (cA.of (h2.same s) i)
  ·exact aN k1 e2 q
 ·exact aN k e1 q
theorem zc6 {f:E}{o:D->Option D}{r:V->Hp->VK->Prop}{st:L2.St}{H:Hp}{Q:VK}(po:BR X.K r o)(h:tE X.K X.mg Wx m (s1 o f) st H Q):O8 r (tE X.K X.mg Wx .bor f) st H Q:=by
 obtain⟨P0,H0,P,Os,env,M,rr,M',k,e,q⟩:=h;unfold s1 at e;rcases bT e with⟨d,M1,e1,e⟩ |⟨c,n,e1,rfl⟩
 ·refine aN k e1 fun P1 v1 H1 l1 h1 i1=>?_;rw[xae]at e;obtain⟨z,ez,e⟩:=e;cases e;exact po P1 H1 _ z v1 Q ez (cH.vw h1 i1) h1.new fun u H' s i=>q P1 u H' (l1.trans (LtE.same s)) (h1.same s) (cA.of (h1.same s) i)
 ·exact aN k e1 q
theorem aO (ho:bK X (binaryOp op) r)(po:gM X.K r o)(ha:SE X Wx .bor a f)(hb:SE X Wx .bor b g):SE X Wx m (.BinOp a op b pos) (s2 o f g):=
 cg (Xm ho ha hb) fun _ _ _ h=>Bm po h
theorem G_ (ho:bK X (compareOp op) r)(po:gM X.K r o)(ha:SE X Wx .bor a f)(hb:SE X Wx .bor b g)(hm:behindInMarks op b=false:=by rfl):SE X Wx m (.Compare a [op] [b] pos) (s2 o f g):=
 cg (W_ ho ha hb hm) fun _ _ _ h=>Bm po h
theorem Hg (ho:kO X r)(po:gM X.K r o)(ha:SE X Wx .bor a f)(hb:SE X Wx .bor b g)(hs:BP b:=by exact fun _ _=>rfl):SE X Wx m (.Subscript a b pos) (s2 o f g):=
 cg (Xh ho ha hb hs) fun _ _ _ h=>Bm po h
noncomputable def TQ (K:Fgx) (mg:Mgx) (Wx:XW) (P0:Pl) (H0:Hp) (P:Pl) (H:Hp) (M':Mm) (Q:Bool->Hp->Prop):Res->Prop
 |.v d=>∃b,d=.bl b/\∀P' H',LtE P H P' H'->Hk K mg P' H' M'->Q b H'
 |.x c n=>Wx P0 H0 M' c n
noncomputable def n_ (K:Fgx) (mg:Mgx) (Wx:XW) (f:E):TT:=fun st H Q=>∃P0 H0 P Os env M r M',Ok K mg P0 H0 P Os H M st env/\f env M=some (r,M')/\TQ K mg Wx P0 H0 P H M' Q r
def ST (X:Cx)(Wx:XW)(e:Expr)(f:E):Prop:=PT X e (n_ X.K X.mg Wx f)
theorem zY (h:PT X e t)(i:∀st H Q,t' st H Q->t st H Q):PT X e t':=fun pins s σ H Q I z=>h pins s σ H Q I (i _ _ _ z)
theorem gW {f:E}{K:Fgx}{mg:Mgx}{P0 P:Pl}{H0 H:Hp}{Os:List (Option Addr)}{M M':Mm}{st:L2.St}{env:Env}{r:Res}{Q:Bool->Hp->Prop}(k:Ok K mg P0 H0 P Os H M st env)(e:f env M=some (r,M'))
  (q:TQ K mg Wx P0 H0 P H M' Q r):n_ K mg Wx f st H Q:=⟨P0,H0,P,Os,env,M,r,M',k,e,q⟩
theorem Pq {f:E}{st:L2.St}{H:Hp}{Q:Bool->Hp->Prop}(h:n_ X.K X.mg Wx f st H Q):O7 (tE X.K X.mg Wx .val f) st H Q:=by
  obtain⟨P0,H0,P,Os,env,M,r,M',k,e,q⟩:=h;refine aN k e ?_
  cases r with
  |v d=>
    obtain⟨b,rfl,q⟩:=q;exact fun P' v H' l h i=>⟨b,i,q P' H' l h⟩
  |x c n=>exact q
theorem Hs (ho:bK X (compareOp op) r)(po:gM X.K r o)(ha:SE X Wx .bor a f)(hb:SE X Wx .bor b g)(hm:behindInMarks op b=false:=by rfl):ST X Wx (.Compare a [op] [b] pos) (s2 o f g):=
 zY (Yh ho ha hb hm) fun _ _ _ h=>Bm po (Pq h)
noncomputable def fX:D->Option Bool
 |.non=>some false
 |.bl b=>some b
 |.int i=>some (i !=0)
 |.str s=>if s.length<=sizeLine then some ((s.length:Int) !=0) else none
 |.lst ds=>some (!ds.isEmpty)
 |.tup ds=>some (!ds.isEmpty)
 |.ref _=>none
def fD (f:E):E:=s1 (fun d=>(fX d).map .bl) f
noncomputable def fW (f:E):E:=fun env M=>bnd (f env M) fun d M1=>match d with
 |.bl b=>some (.v (.bl (!b)),M1)
 |_=>none
noncomputable def bJ (f g:E):E:=fun env M=>bnd (f env M) fun d M1=>match d with
 |.bl b=>if b=true then g env M1 else some (.v (.bl false),M1)
 |_=>none
noncomputable def mO (f g:E):E:=fun env M=>bnd (f env M) fun d M1=>match d with
 |.bl b=>if b=true then some (.v (.bl true),M1) else g env M1
 |_=>none
noncomputable def mL (c f g:E):E:=fun env M=>bnd (c env M) fun d M1=>match d with
 |.bl b=>if b=true then f env M1 else g env M1
 |_=>none
def SW (X:Cx)(Wx:XW)(e:Expr)(f:E):Prop:=PW X e (n_ X.K X.mg Wx f)
theorem Mt (h:PW X e t)(i:∀st H Q,t' st H Q->t st H Q):PW X e t':=fun wh pins s σ H Q I z=>h wh pins s σ H Q I (i _ _ _ z)
theorem xM (ha:ST X Wx a f):ST X Wx (.UnaryOp .Not a pos) (fW f):=by
 refine zY (Yj ha) ?_;rintro st H Q ⟨P0,H0,P,Os,env,M,r,M',k,e,q⟩;unfold fW at e;rcases bT e with⟨d,M1,e1,e⟩ |⟨c,n,e1,rfl⟩
 ·cases d<;>simp only[reduceCtorEq]at e
  cases e;obtain⟨b,e2,q⟩:=q;cases e2;exact gW k e1 ⟨_,rfl,q⟩
 ·exact gW k e1 q
theorem Bk (ha:ST X Wx a f):SW X Wx (.BoolOp .And [a] pos) f:=Yr ha
theorem O4 (ha:ST X Wx a f):SW X Wx (.BoolOp .Or [a] pos) f:=Yt ha
theorem Bj (ha:ST X Wx a f)(hb:SW X Wx (.BoolOp .And (b::rest) pos) g):SW X Wx (.BoolOp .And (a::b::rest) pos) (bJ f g):=by
  refine Mt (Yq ha hb) ?_;rintro st H Q ⟨P0,H0,P,Os,env,M,r,M',k,e,q⟩;unfold bJ at e;rcases bT e with⟨d,M1,e1,e⟩ |⟨c,n,e1,rfl⟩
  · cases d<;>simp only[reduceCtorEq]at e
    rename_i b;refine gW k e1 ⟨b,rfl,fun P1 H1 l1 h1=>?_⟩
    cases b with
    |true=>
      rw[xac rfl]at e ⊢;refine gW (k.next l1 h1) e ?_
      cases r with
      |v d=>obtain⟨b,e2,q⟩:=q;exact⟨b,e2,fun P' H' l h=>q P' H' (l1.trans l) h⟩
      |x c n=>exact q
    |false=>
      rw[xag (by decide)]at e ⊢;cases e;obtain⟨b,e2,q⟩:=q;cases e2;exact q P1 H1 l1 h1
  · exact gW k e1 q
theorem Hv (ha:ST X Wx a f)(hb:SW X Wx (.BoolOp .Or (b::rest) pos) g):SW X Wx (.BoolOp .Or (a::b::rest) pos) (mO f g):=by
  refine Mt (Ys ha hb) ?_;rintro st H Q ⟨P0,H0,P,Os,env,M,r,M',k,e,q⟩;unfold mO at e;rcases bT e with⟨d,M1,e1,e⟩ |⟨c,n,e1,rfl⟩
  · cases d<;>simp only[reduceCtorEq]at e
    rename_i b;refine gW k e1 ⟨b,rfl,fun P1 H1 l1 h1=>?_⟩
    cases b with
    |false=>
      rw[xag (by decide)]at e ⊢;refine gW (k.next l1 h1) e ?_
      cases r with
      |v d=>obtain⟨b,e2,q⟩:=q;exact⟨b,e2,fun P' H' l h=>q P' H' (l1.trans l) h⟩
      |x c n=>exact q
    |true=>
      rw[xac rfl]at e ⊢;cases e;obtain⟨b,e2,q⟩:=q;cases e2;exact q P1 H1 l1 h1
  · exact gW k e1 q
theorem SW.st (h:SW X Wx e f):ST X Wx e f:=h.pt
end
section
variable {X:Cx}{Wx:XW}{m:Mode}
theorem RQ.imp {K:Fgx}{mg:Mgx}{P0 P P1:Pl}{H0 H H1:Hp}{M':Mm}{Q:VK}{r:Res}(l:LtE P H P1 H1)(q:RQ K mg Wx m P0 H0 P H M' Q r):RQ K mg Wx m P0 H0 P1 H1 M' Q r:=by
 cases r with
 |v d=>exact fun P' v H' l' h i=>q P' v H' (l.trans l') h i
 |x c n=>exact q
theorem rP (ha:SE X Wx m a f):SE X Wx m (.BoolOp op [a] pos) f:=Xl ha
theorem lB (ha:SE X Wx .val a f)(hb:SE X Wx m (.BoolOp .And (b::rest) pos) g):SE X Wx m (.BoolOp .And (a::b::rest) pos) (bJ f g):=by
  refine cg (W5 ha hb) ?_;rintro st H Q ⟨P0,H0,P,Os,env,M,r,M',k,e,q⟩;unfold bJ at e;rcases bT e with⟨d,M1,e1,e⟩ |⟨c,n,e1,rfl⟩
  · cases d<;>simp only[reduceCtorEq]at e
    rename_i b;refine aN k e1 fun P1 v1 H1 l1 h1 i1=>⟨b,i1,?_⟩
    cases b with
    |true=>
      rw[xac rfl]at e ⊢;exact aN (k.next l1 h1) e (RQ.imp l1 q)
    |false=>
      rw[xag (by decide)]at e ⊢;cases e;exact q P1 _ H1 l1 h1 (cA.of h1 (show Is _ _ _ (.bl false) _ from rfl))
  · exact aN k e1 q
theorem zcu (ha:SE X Wx .val a f)(hb:SE X Wx m (.BoolOp .Or (b::rest) pos) g):SE X Wx m (.BoolOp .Or (a::b::rest) pos) (mO f g):=by
  refine cg (Xn ha hb) ?_;rintro st H Q ⟨P0,H0,P,Os,env,M,r,M',k,e,q⟩;unfold mO at e;rcases bT e with⟨d,M1,e1,e⟩ |⟨c,n,e1,rfl⟩
  · cases d<;>simp only[reduceCtorEq]at e
    rename_i b;refine aN k e1 fun P1 v1 H1 l1 h1 i1=>⟨b,i1,?_⟩
    cases b with
    |false=>
      rw[xag (by decide)]at e ⊢;exact aN (k.next l1 h1) e (RQ.imp l1 q)
    |true=>
      rw[xac rfl]at e ⊢;cases e;exact q P1 _ H1 l1 h1 (cA.of h1 (show Is _ _ _ (.bl true) _ from rfl))
  · exact aN k e1 q
theorem zcc (hc:ST X Wx c t)(ha:SE X Wx m a f)(hb:SE X Wx m b g):SE X Wx m (.IfExp c a b pos) (mL t f g):=by
  refine cg (Xf hc ha hb) ?_;rintro st H Q ⟨P0,H0,P,Os,env,M,r,M',k,e,q⟩;unfold mL at e;rcases bT e with⟨d,M1,e1,e⟩ |⟨c,n,e1,rfl⟩
  · cases d<;>simp only[reduceCtorEq]at e
    rename_i b;refine gW k e1 ⟨b,rfl,fun P1 H1 l1 h1=>?_⟩
    cases b with
    |true=>
      rw[xac rfl]at e ⊢;exact aN (k.next l1 h1) e (RQ.imp l1 q)
    |false=>
      rw[xag (by decide)]at e ⊢;exact aN (k.next l1 h1) e (RQ.imp l1 q)
  · exact gW k e1 q
theorem Pk {K:Fgx}{P:Pl}{H:Hp}{d:D}{v:V}{b:Bool}(h:fX d=some b)(i:bH K P H d v):lG K v H b:=by
  cases d with
  |non=>have e:v=.non:=i;subst e;cases h;rfl
  |bl c=>have e:v=.bl c:=i;subst e;cases h;rfl
  |int c=>have e:v=.int c:=i;subst e;cases h;rfl
  |str c=>
    have e:v=.str c:=i;subst e;simp only[fX]at h;split at h
    · rename_i hl;cases h;exact⟨hl,rfl⟩
    · cases h
  |lst ds=>
    obtain⟨a,vs,rfl,r,q⟩:=i;cases h;refine .inl ⟨vs,r,?_⟩
    cases ds with
    |nil=>rw[show vs=[] from q];rfl
    |cons d ds=>obtain⟨w,r',rfl,_⟩:=q;rfl
  |tup ds=>
    obtain⟨a,vs,rfl,r,q⟩:=i;cases h;refine .inr (.inl ⟨vs,r,?_⟩)
    cases ds with
    |nil=>rw[show vs=[] from q];rfl
    |cons d ds=>obtain⟨w,r',rfl,_⟩:=q;rfl
  |ref k=>cases h
theorem uz (ha:SE X Wx .bor a f)(he:∀whole,isTrue a X.env whole=(do let v <-whole;standAt a.pos;holding [v] (truthy v)):=by exact fun _=>rfl):ST X Wx a (fD f):=by
 refine zY (Yk ha he) ?_;rintro st H Q ⟨P0,H0,P,Os,env,M,r,M',k,e,q⟩;unfold fD s1 at e;rcases bT e with⟨d,M1,e1,e⟩ |⟨c,n,e1,rfl⟩
 ·rw[xae]at e;obtain⟨z,ez,e⟩:=e;cases e;rw[xae]at ez;obtain⟨b,eb,rfl⟩:=ez;obtain⟨b',e2,q⟩:=q;cases e2;exact aN k e1 fun P1 v1 H1 l1 h1 i1=>⟨b,Pk eb (cH.vw h1 i1),q P1 H1 l1 h1⟩
 ·exact aN k e1 q
theorem Xk (ha:PE X a ta):PE X (.UnaryOp .Not a pos) (fun σ H Q=>ta σ H fun x H1=>∃k,lG X.K x H1 k/\Q (.bl (!k)) H1):=by
 intro pins s σ H Q I h;refine UnaryOp_ (aL (ha pins s σ H _ I h) fun v s1 ⟨x, H1, I1, r1, k, tv, q⟩ => ?_);exact not_of (aL (Pn pins s1 σ H1 x v (fun b H'=>b=k/\H'=H1) I1 r1 ⟨k,tv,rfl,rfl⟩) fun b s2 ⟨H2,I2,e1,e2⟩=>by
  subst e1 e2;exact⟨.bl (!b),H2,I2,rfl,q⟩)
def z8 (f:E):E:=s1 (fun d=>(fX d).map fun b=>.bl (!b)) f
theorem zcb (ha:SE X Wx .bor a f):SE X Wx m (.UnaryOp .Not a pos) (z8 f):=by
 refine cg (Xk ha) ?_;rintro st H Q ⟨P0,H0,P,Os,env,M,r,M',k,e,q⟩;unfold z8 s1 at e;rcases bT e with⟨d,M1,e1,e⟩ |⟨c,n,e1,rfl⟩
 ·rw[xae]at e;obtain⟨z,ez,e⟩:=e;cases e;rw[xae]at ez;obtain⟨b,eb,rfl⟩:=ez;exact aN k e1 fun P1 v1 H1 l1 h1 i1=>⟨b,Pk eb (cH.vw h1 i1),q P1 _ H1 l1 h1 (cA.of h1 (show Is _ _ _ (.bl _) _ from rfl))⟩
 ·exact aN k e1 q
inductive ResA where
 |v (ds:List D) |x (c:Str) (n:Int)
abbrev EA:=Env->Mm->Option (ResA×Mm)
def aq:EA:=fun _ M=>some (.v [],M)
noncomputable def ao (f:E) (fs:EA):EA:=fun env M=>match f env M with
  | some (.v d, M1) => (match fs env M1 with
    |some (.v ds,M2)=>some (.v (d::ds),M2)
    |some (.x c n,M2)=>some (.x c n,M2)
    |none=>none)
  |some (.x c n,M1)=>some (.x c n,M1)
  |none=>none
noncomputable def gw (o:Option (ResA×Mm)) (k:List D->Mm->O):O:=match o with
 |some (.v ds,M)=>k ds M
 |some (.x c n,M)=>some (.x c n,M)
 |none=>none
theorem uZ (h:gw o k=some (r,M')):(∃ds M,o=some (.v ds,M)/\k ds M=some (r,M'))\/∃c n,o=some (.x c n,M')/\r=.x c n:=by
 unfold gw at h;split at h
 ·exact .inl ⟨_,_,rfl,h⟩
 ·cases h;exact .inr ⟨_,_,rfl,rfl⟩
 ·cases h
noncomputable def dz (K:Fgx) (P:Pl) (H:Hp) (m:Mode):List D->List V->Prop
 | [],vs=>vs=[]
 |d::ds,vs=>∃v ws,vs=v::ws/\cA K P H m d v/\dz K P H m ds ws
theorem dz.iss {K:Fgx}{P:Pl}{H:Hp}:∀{ds:List D} {vs:List V},dz K P H .val ds vs->aD K P H ds vs
  | [],_,h=>h
  |_::_,_,h=>by
    obtain⟨v,ws,e,p,q⟩:=h;exact⟨v,ws,e,p,dz.iss q⟩
noncomputable def AQ (K:Fgx) (mg:Mgx) (Wx:XW) (m:Mode) (P0:Pl) (H0:Hp) (P:Pl) (H:Hp) (M':Mm) (Q:List V->Hp->Prop):ResA->Prop
 |.v ds=>∀P' vs H',LtE P H P' H'->Hk K mg P' H' M'->dz K P' H' m ds vs->Q vs H'
 |.x c n=>Wx P0 H0 M' c n
noncomputable def tAs (K:Fgx) (mg:Mgx) (Wx:XW) (m:Mode) (fs:EA):TA:=fun st H Q=>∃P0 H0 P Os env M r M',Ok K mg P0 H0 P Os H M st env/\fs env M=some (r,M')/\AQ K mg Wx m P0 H0 P H M' Q r
def SA (X:Cx)(Wx:XW)(m:Mode)(es:List Expr)(fs:EA):Prop:=PA X es (tAs X.K X.mg Wx m fs)
theorem LQ (h:PA X es t)(w:∀σ H Q,t' σ H Q->t σ H Q):PA X es t':=fun pos pins s σ H Q I hw=>h pos pins s σ H Q I (w σ H Q hw)
theorem aF:SA X Wx m [] aq:=by
 refine LQ iK ?_;rintro st H Q ⟨P0,H0,P,Os,env,M,r,M',k,e,q⟩;cases e;exact q P [] H (LtE.refl P H) k.hk rfl
theorem au (ha:SE X Wx m e f)(hr:SA X Wx m es fs)(hs:starEach (e::es) X.env=(false,eval e X.env)::starEach es X.env:=by rfl):SA X Wx m (e::es) (ao f fs):=by
 refine LQ (gj ha hr hs) ?_;rintro st H Q ⟨P0,H0,P,Os,env,M,r,M',k,e,q⟩;unfold ao at e;split at e
 ·rename_i d M1 e1;refine aN k e1 fun P1 v1 H1 l1 h1 i1=>?_;split at e
  ·rename_i ds M2 e2;cases e;refine⟨P0,H0,P1,Os,env,M1,_,_,k.next l1 h1,e2,fun P2 vs H2 l2 h2 i2=>q P2 _ H2 (l1.trans l2) h2 ⟨v1,vs,rfl,?_,i2⟩⟩
   cases m with
   |val=>exact Is.lt (l2.lt h1) i1
   |bor=>exact cH.lt l2 h1 i1
  ·rename_i c n M2 e2;cases e;exact⟨P0,H0,P1,Os,env,M1,_,_,k.next l1 h1,e2,q⟩
  ·cases e
 ·rename_i c n M1 e1;cases e;exact aN k e1 q
 ·cases e
noncomputable def sN (o:List D->Option D) (fs:EA):E:=fun env M=>gw (fs env M) fun ds M1=>(o (ds.map (vw M1))).map fun z=>(.v z,M1)
noncomputable def oA (K:Fgx) (P:Pl) (H:Hp):List D->List V->Prop
 | [],vs=>vs=[]
 |d::ds,vs=>∃v ws,vs=v::ws/\bH K P H d v/\oA K P H ds ws
theorem dz.w {K:Fgx}{mg:Mgx}{P:Pl}{H:Hp}{M:Mm}(h:Hk K mg P H M):∀{ds:List D} {vs:List V},dz K P H m ds vs->oA K P H (ds.map (vw M)) vs
  | [],_,q=>q
  |d::ds,_,q=>by
    obtain⟨v,ws,e,p,q⟩:=q;exact⟨v,ws,e,cH.vw h (p.b h),dz.w h q⟩
def lF (K:Fgx)(r:List V->Hp->VK->Prop)(o:List D->Option D):Prop:=∀(P:Pl) (H:Hp) (ds:List D) (z:D) (vs:List V) (Q:VK),o ds=some z->oA K P H ds vs->(∀p,H p=none->¬ P.bd p)->(∀u H',Same H H'->Is K P H' z u->Q u H')->r vs H Q
theorem Od (h:∀t,PA X (e::es) t->PE X ex (Hx r t))(po:lF X.K r o)(ha:SA X Wx .bor (e::es) fs):SE X Wx m ex (sN o fs):=by
 refine cg (h _ ha) ?_;rintro st H Q ⟨P0,H0,P,Os,env,M,r,M',k,e,q⟩;unfold sN at e;rcases uZ e with⟨ds,M1,e1,e⟩ |⟨c,n,e1,rfl⟩
 ·rw[xae]at e;obtain⟨z,ez,e⟩:=e;cases e;exact⟨P0,H0,P,Os,env,M,_,_,k,e1,fun P1 vs H1 l1 h1 i1=>po P1 H1 _ z vs Q ez (dz.w h1 i1) h1.new fun u H' s i=>q P1 u H' (l1.trans (LtE.same s)) (h1.same s) (cA.of (h1.same s) i)⟩
 ·exact⟨P0,H0,P,Os,env,M,_,_,k,e1,q⟩
noncomputable def aG (fs:EA):E:=fun env M=>gw (fs env M) fun ds M1=>if ds.length<=sizeLine then some (.v (.tup ds),M1) else none
theorem aZ {es:List Expr}{x1:Nat}{pos:Pos}{fs:EA}(ha:SA X Wx .val es fs):SE X Wx m (.Tuple es x1 pos) (aG fs):=by
 refine cg (Xu ha) ?_;rintro st H Q ⟨P0,H0,P,Os,env,M,r,M',k,e,q⟩;unfold aG at e;rcases uZ e with⟨ds,M1,e1,e⟩ |⟨c,n,e1,rfl⟩
 ·split at e
  ·rename_i hl;cases e;refine⟨P0,H0,P,Os,env,M,_,_,k,e1,fun P1 vs H1 l1 h1 i1=>⟨by rw[i1.iss.len];exact hl,fun p hp=>?_⟩⟩;have s:=nZ (o:=.tup vs) hp;exact q P1 _ _ (l1.trans (LtE.same s)) (h1.same s) (cA.of (h1.same s) ⟨p,vs,rfl,.inl (.inl bO),aD.lt ((LtE.same s).lt h1) i1.iss⟩)
  ·cases e
 ·exact⟨P0,H0,P,Os,env,M,_,_,k,e1,q⟩
noncomputable def NQ (K:Fgx) (mg:Mgx) (Wx:XW) (P0:Pl) (H0:Hp) (P:Pl) (H:Hp) (M':Mm) (Q:VK):Res->Prop
 |.v d=>∃ds,d=.lst ds/\∀P' a vs H',LtE P H P' H'->Hk K mg P' H' M'->H a=none->P'.bd a->(∀k,k<P'.n->P'.io k≠a)->H' a=some (.lst vs)->aD K P' H' ds vs->Q (.ref a) H'
 |.x c n=>Wx P0 H0 M' c n
noncomputable def tN (K:Fgx) (mg:Mgx) (Wx:XW) (f:E):TE:=fun st H Q=>∃P0 H0 P Os env M r M',Ok K mg P0 H0 P Os H M st env/\f env M=some (r,M')/\NQ K mg Wx P0 H0 P H M' Q r
def SN (X:Cx)(Wx:XW)(e:Expr)(f:E):Prop:=PE X e (tN X.K X.mg Wx f)
def Pl.bar (P:Pl)(p:Addr):Pl:={P with bd:=fun a=>P.bd a\/a=p}
theorem uX {K:Fgx}{mg:Mgx}{P:Pl}{H:Hp}{M:Mm}{p:Addr}{vs:List V}(h:Hk K mg P H M)(hp:H p=none):LtE P H (P.bar p) (upd H p (.lst vs))/\Hk K mg (P.bar p) (upd H p (.lst vs)) M/\∀k,k<P.n->P.io k≠p:=by
  have s:=nZ (o:=.lst vs) hp;have nc:∀k,k<P.n->P.io k≠p:=fun k hk z=>h.here _ (h.bd k hk) (z ▸ hp);have l:LtE P H (P.bar p) (upd H p (.lst vs)):=⟨xaf _,fun _ _=>rfl,fun a z=>Or.imp (fun q=>q) (fun(q:a=p)=>by rw[q];exact hp) z,fun a z=>.inl z,fun a o e _=>s a o e,fun a z=>s.free z,fun k h1 h2=>absurd h1 (xcO.mpr h2)⟩;have lt:=l.lt h;refine⟨l,⟨h.n,fun k c e=>?_,h.inj,fun k hk=>.inl (h.bd k hk),fun a z q=>?_⟩,nc⟩
  · have:=h.cell k c e
    cases c with
    |lst ds=>
      obtain⟨vs,e1,q⟩:=this;exact⟨vs,s _ _ e1,aD.lt lt q⟩
    |obj c fs=>
      obtain⟨C,dx,gs,e1,e2,e3,q⟩:=this;exact⟨C,dx,gs,e1,s _ _ e2,e3,aD.lt lt q⟩
    |dct kvs=>
      obtain⟨vs,e1,e2,q⟩:=this;exact⟨vs,s _ _ e1,e2,aD.lt lt q⟩
    |dcf kvs=>
      obtain⟨vs,ob,es,ep,e1,eD,e2,q⟩:=this;exact⟨vs,ob,es,ep,s _ _ e1,eD,e2,aD.lt lt q⟩
  · rcases z with z |z
    · exact h.here a z (s.free q)
    · subst z;rw[bO]at q;cases q
theorem SN.se (h:SN X Wx e f)(hf:∀env M r M',f env M=some (.v r,M')->∃ds,r=.lst ds):SE X Wx .val e f:=by
  refine cg h ?_;rintro st H Q ⟨P0,H0,P,Os,env,M,r,M',k,e,q⟩;refine⟨P0,H0,P,Os,env,M,r,M',k,e,?_⟩
  cases r with
  |x c n=>exact q
  |v d=>
    obtain⟨ds,rfl⟩:=hf _ _ _ _ e;refine⟨ds,rfl,fun P' a vs H' l h ha ba nc ea is=>q (P'.less (· ≠a)) _ H' ?_ ?_ ⟨a,vs,rfl,.inl ⟨fun z=>z.2 rfl,.inl ea⟩,aD.less is⟩⟩
    · exact⟨l.n,l.io,fun b z=>l.bd b z.1,fun b z=>⟨l.bm b z,fun q=>k.hk.here b z (q ▸ ha)⟩,l.keep,l.sure,l.nw⟩
    · refine⟨h.n,fun j c e=>?_,h.inj,fun j hj=>⟨h.bd j hj,nc j hj⟩,fun b z=>h.here b z.1⟩;have:=h.cell j c e
      cases c with
      |lst ds=>
        obtain⟨vs,e1,q⟩:=this;exact⟨vs,e1,aD.less q⟩
      |obj c fs=>
        obtain⟨C,dx,gs,e1,e2,e3,q⟩:=this;exact⟨C,dx,gs,e1,e2,e3,aD.less q⟩
      |dct kvs=>
        obtain⟨vs,e1,e2,q⟩:=this;exact⟨vs,e1,e2,aD.less q⟩
      |dcf kvs=>
        obtain⟨vs,ob,es,ep,e1,eD,e2,q⟩:=this;exact⟨vs,ob,es,ep,e1,eD,e2,aD.less q⟩
noncomputable def bF (fs:EA):E:=fun env M=>gw (fs env M) fun ds M1=>if ds.length<=sizeLine then some (.v (.lst ds),M1) else none
theorem fJ {es:List Expr}{pos:Pos}{fs:EA}(ha:SA X Wx .val es fs):SN X Wx (.List es pos) (bF fs):=by
 refine cg (Xj ha) ?_;rintro st H Q ⟨P0,H0,P,Os,env,M,r,M',k,e,q⟩;unfold bF at e;rcases uZ e with⟨ds,M1,e1,e⟩ |⟨c,n,e1,rfl⟩
 ·split at e
  ·rename_i hl;cases e;obtain⟨ds',e',q⟩:=q;cases e';refine⟨P0,H0,P,Os,env,M,_,_,k,e1,fun P1 vs H1 l1 h1 i1=>⟨by rw[i1.iss.len];exact hl,fun p hp=>?_⟩⟩;obtain⟨l2,h2,nc⟩:=uX (vs:=vs) h1 hp;exact q (P1.bar p) p vs _ (l1.trans l2) h2 (l1.sure p hp) (.inr rfl) nc bO (aD.lt (l2.lt h1) i1.iss)
  ·cases e
 ·exact⟨P0,H0,P,Os,env,M,_,_,k,e1,q⟩
theorem lst_is:∀env M r M',bF fs env M=some (.v r,M')->∃ds,r=.lst ds:=fun env M r M' e=>by
 unfold bF at e;rcases uZ e with⟨ds,M1,e1,e⟩ |⟨c,n,e1,e⟩
 ·split at e
  ·cases e;exact⟨_,rfl⟩
  ·cases e
 ·cases e
end
inductive Out where
 |nx (env:Env) |bk (env:Env) |ct (env:Env) |rt (d:D) |ex (c:Str) (n:Int)
abbrev OS:=Option (Out×Mm)
abbrev S:=Env->Mm->OS
noncomputable def Post (K:Fgx) (mg:Mgx) (Wx:XW) (P0:Pl) (H0:Hp) (P:Pl) (H:Hp) (M':Mm) (D:Ends):Out->Prop
 |.nx env=>∀P' Os' H' st',Lt P H P' H'->Ok K mg P0 H0 P' Os' H' M' st' env->D.nx st' H'
 |.bk env=>∀P' Os' H' st',Lt P H P' H'->Ok K mg P0 H0 P' Os' H' M' st' env->D.bk st' H'
 |.ct env=>∀P' Os' H' st',Lt P H P' H'->Ok K mg P0 H0 P' Os' H' M' st' env->D.ct st' H'
 |.rt d=>∀P' v H',LtE P0 H0 P' H'->Hk K mg P' H' M'->Is K P' H' d v->D.rt v H'
 |.ex c n=>Wx P0 H0 M' c n
noncomputable def tS (K:Fgx) (mg:Mgx) (Wx:XW) (f:S):TS:=fun D st H=>∃P0 H0 P Os env M out M',Ok K mg P0 H0 P Os H M st env/\f env M=some (out,M')/\Post K mg Wx P0 H0 P H M' D out
def SS (X:Cx)(Wx:XW)(s:Stmt)(f:S):Prop:=PS X s (tS X.K X.mg Wx f)
def SB (X:Cx)(Wx:XW)(s:List Stmt)(f:S):Prop:=dX X s (tS X.K X.mg Wx f)
noncomputable def bQ (o:O) (k:D->Mm->OS):OS:=match o with
 |some (.v d,M)=>k d M
 |some (.x c n,M)=>some (.ex c n,M)
 |none=>none
theorem eN (h:bQ o k=some (r,M')):(∃d M,o=some (.v d,M)/\k d M=some (r,M'))\/∃c n,o=some (.x c n,M')/\r=.ex c n:=by
 unfold bQ at h;split at h
 ·exact .inl ⟨_,_,rfl,h⟩
 ·cases h;exact .inr ⟨_,_,rfl,rfl⟩
 ·cases h
section
variable {K:Fgx}{mg:Mgx}{Wx:XW}{P0 P P' P1:Pl}{H0 H H' H1:Hp}{M M':Mm}{Os:List (Option Addr)}{st:L2.St}{env:Env}{d:D}{v:V}{i:Nat}
theorem rR (l:List (Option α))(i j:Nat)(x:Option α)(hi:i<l.length):((l.set i x)[j]?).join=if i=j then x else(l[j]?).join:=by
 rw[xaG]
 by_cases h:i=j
 ·subst h;rw[xac rfl,xac hi,xac rfl];rfl
 ·rw[xag h,xag h]
theorem Ok.asg (k:Ok K mg P0 H0 P Os H M st env)(hi:i<env.length)(h:Is K P H d v):Ok K mg P0 H0 P (Os.set i none) H M (st.set i (some v)) (env.set i (.val d)) where
 hk:=k.hk
 base:=k.base
 b0:=k.b0
 slot:=fun j s e=>by
  rw[rR _ _ _ _ (by rw[k.olen];exact hi),rR _ _ _ _ (by rw[k.slen];exact hi)];rw[xaG]at e;split at e
  ·rename_i ij;subst ij;cases e;rw[xac rfl,xac rfl];exact⟨v,rfl,h⟩
  ·rename_i ij;rw[xag ij,xag ij];exact k.slot j s e
 own := fun a h => k.own a (by
  rcases xb0 h with h |h
  ·exact h
  ·cases h)
 inj:=fun j l a e1 e2=>by
  rw[xaG]at e1 e2;split at e1
  ·split at e1<;>cases e1
  ·split at e2
   ·split at e2<;>cases e2
   ·exact k.inj j l a e1 e2
 olen:=by rw[xay,xay,k.olen]
 slen:=by rw[xay,xay,k.slen]
theorem Ok.here (k:Ok K mg P0 H0 P Os H M st env)(h:some a∈Os):H a≠none:=k.hk.here a (k.own a h).1
theorem Ok.mine (k0:Ok K mg P0 H0 P Os H M st env)(l:LtE P H P' H')(hk:Hk K mg P' H' M')(hi:i<env.length)(ha:H a=none)(ba:P'.bd a)(nc:∀j,j<P'.n->P'.io j≠a)(e:H' a=some (.lst vs))(h:aD K P' H' ds vs):
  Ok K mg P0 H0 P' (Os.set i (some a)) H' M' (st.set i (some (.ref a))) (env.set i (.own ds)):=by
 have k:=k0.next l hk
 have nO:∀j,Os[j]? ≠some (some a):=fun j z=>k0.here (xaL z) ha;exact {
  hk:=k.hk
  base:=k.base
  b0:=k.b0
  slot:=fun j s e'=>by
   rw[rR _ _ _ _ (by rw[k.olen];exact hi),rR _ _ _ _ (by rw[k.slen];exact hi)];rw[xaG]at e';split at e'
   ·rename_i ij;subst ij;cases e';rw[xac rfl,xac rfl];exact⟨a,vs,rfl,rfl,e,h⟩
   ·rename_i ij;rw[xag ij,xag ij];exact k.slot j s e'
  own:=fun b hb=>by
   rcases xb0 hb with hb |hb
   ·exact k.own b hb
   ·cases hb;exact⟨ba,nc,k0.base.sure a ha⟩
  inj:=fun j l b e1 e2=>by
   rw[xaG]at e1 e2;split at e1
   ·split at e1
    ·cases e1;split at e2
     ·rename_i z1 _ z2;exact z1.symm.trans z2
     ·exact absurd e2 (nO l)
    ·cases e1
   ·split at e2
    ·split at e2
     ·cases e2;exact absurd e1 (nO j)
     ·cases e2
    ·exact k.inj j l b e1 e2
  olen:=by rw[xay,xay,k.olen]
  slen:=by rw[xay,xay,k.slen]}
theorem pU (b : P.bd a) (e : H a = some o) (nf : ¬ Fx o) : Lt P H P (upd H a o') := ⟨xaf _,fun _ _=>rfl,fun _ z=>.inl z,fun c u ec z=>by
  by_cases h:c=a
  ·subst h;rw[e]at ec;cases ec;exact(z.elim nf fun n=>n b).elim
  ·rw[aP h];exact ec,fun c z=>by
  by_cases h:c=a
  ·subst h;rw[bO]at z;cases z
  ·rw[aP h]at z;exact z⟩
theorem Fv:¬ Fx (.lst vs):=fun z=>by rcases z with⟨_,z⟩ |⟨_,_,z⟩ |⟨_,z⟩ |⟨_,z⟩<;>cases z
theorem sI.lt (l:Lt P H P' H')(e:∀o,H a=some o->H' a=some o)(h:sI K mg P H a c):sI K mg P' H' a c:=by
  cases c with
  |lst ds=>
    obtain⟨vs,e1,q⟩:=h;exact⟨vs,e _ e1,aD.lt l q⟩
  |obj c fs=>
    obtain⟨C,dx,gs,e1,e2,e3,q⟩:=h;exact⟨C,dx,gs,e1,e _ e2,e3,aD.lt l q⟩
  |dct kvs=>
    obtain⟨vs,e1,e2,q⟩:=h;exact⟨vs,e _ e1,e2,aD.lt l q⟩
  |dcf kvs=>
    obtain⟨vs,ob,es,ep,e1,eD,e2,q⟩:=h;exact⟨vs,ob,es,ep,e _ e1,eD,e2,aD.lt l q⟩
theorem Ok.chg (k:Ok K mg P0 H0 P Os H M st env)(hi:env[i]? =some (.own ds))(ho:Os[i]? =some (some a))(e:H a=some (.lst vs))(h:aD K P H ds' vs'):
    Lt P H P (upd H a (.lst vs'))/\Ok K mg P0 H0 P Os (upd H a (.lst vs')) M st (env.set i (.own ds')):=by
  obtain⟨b1,b2,b3⟩:=k.own a (xaL ho);have l:Lt P H P (upd H a (.lst vs')):=pU b1 e Fv;have ilt:i<env.length:=(xal.mp hi).1;refine⟨l,?_⟩;exact {
    hk:=⟨k.hk.n,fun j c ej=>(k.hk.cell j c ej).lt l fun o eo=>by rw[aP (b2 j (by rw[k.hk.n];exact(xal.mp ej).1))];exact eo,k.hk.inj,k.hk.bd,fun c z q=>k.hk.here c z (l.sure c q)⟩
    base := ⟨k.base.n,k.base.io,k.base.bd,k.base.bm,fun c o ec n=>by
      have:=k.base.keep c o ec n;rw[aP (fun z=>by subst z;rw[b3]at ec;cases ec)];exact this,fun c z=>k.base.sure c (l.sure c z),k.base.nw⟩
    b0:=k.b0
    slot:=fun j s ej=>by
      rw[xaG]at ej;split at ej
      · rename_i ij;subst ij;cases ej;obtain⟨a',vs0,e1,e2,e3,q⟩:=k.slot i _ hi;rw[ho]at e1;cases e1;exact⟨a,vs',by rw[ho];rfl,e2,bO,aD.lt l h⟩
      · rename_i ij;have q:=k.slot j s ej
        cases s with
        |un=>exact True.intro
        |val d=>obtain⟨v,e1,q⟩:=q;exact⟨v,e1,Is.lt l q⟩
        |own es=>
          obtain⟨a',ws,e1,e2,e3,q⟩:=q;refine⟨a',ws,e1,e2,?_,aD.lt l q⟩;rw[aP (fun z=>ij (k.inj i j a ho (by rw[<-z];exact lu e1)))];exact e3
        |exc c n=>obtain⟨v,e1,q⟩:=q;exact⟨v,e1,q.lt l⟩
    own:=k.own
    inj:=k.inj
    olen:=by rw[xay,k.olen]
    slen:=by rw[xay,k.slen]}
theorem Hk.set (h:Hk K mg P H M)(e:M[j]? =some c)(w:sI K mg P (upd H (P.io j) o') (P.io j) c')(nd:∀kvs,c≠ .dcf kvs:=by intro _ z;cases z):Lt P H P (upd H (P.io j) o')/\LtE P H P (upd H (P.io j) o')/\Hk K mg P (upd H (P.io j) o') (M.set j c'):=by
 have jl:j<P.n:=by rw[h.n];exact(xal.mp e).1
 obtain ⟨o, eo, nf⟩ := h.cellAt e nd;have l : Lt P H P (upd H (P.io j) o') := pU (h.bd j jl) eo nf;refine ⟨l, ⟨xaf _,fun _ _=>rfl,fun _ z=>.inl z,fun _ z=>z,fun a u ea n=>by
  have ne:a≠P.io j:=by
   rintro rfl;rw[eo]at ea;cases ea;exact n.elim nf fun nc=>nc j jl rfl
  rw[aP ne];exact ea,l.sure,fun k h1 h2=>absurd h1 (xcO.mpr h2)⟩,⟨by rw[xay,h.n],fun k b ek=>?_,h.inj,h.bd,fun a z q=>h.here a z (l.sure a q)⟩⟩
 rw[xaG]at ek;split at ek
 ·rename_i jk;subst jk;rw[xac (by rw[<-h.n];exact jl)]at ek;cases ek;exact w
 ·rename_i jk;have kl:k<P.n:=by rw[h.n];exact(xal.mp ek).1
  exact(h.cell k b ek).lt l fun u eu=>by rw[aP (fun z=>jk (h.inj j k jl kl z.symm))];exact eu
theorem Ok.frz (k:Ok K mg P0 H0 P Os H M st env)(hi:env[i]? =some (.own ds)):∃P' Os',Lt P H P' H/\Ok K mg P0 H0 P' Os' H M st (env.set i (.val (.lst ds))):=by
 obtain⟨a,vs,e1,e2,e3,q⟩:=k.slot i _ hi;have ho:=lu e1;obtain⟨b1,b2,b3⟩:=k.own a (xaL ho);have ilt:i<env.length:=(xal.mp hi).1;have nO:∀b,some b∈Os.set i none->some b∈Os/\b≠a:=fun b z=>by
  obtain⟨j,hj⟩:=xdf.mp z;rw[xaG]at hj;split at hj
  ·split at hj<;>cases hj
  ·rename_i ij;exact⟨xaL hj,fun z=>by subst z;exact ij (k.inj i j b ho hj)⟩
 have l : Lt P H (P.less (· ≠ a)) H := ⟨xaf _, fun _ _ => rfl, fun c z => .inl z.1, fun _ _ e _ => e, fun _ z => z⟩;refine ⟨P.less (· ≠a),Os.set i none,l,{
  hk:=⟨k.hk.n,fun j c ej=>(k.hk.cell j c ej).lt l fun _ z=>z,k.hk.inj,fun j hj=>⟨k.hk.bd j hj,b2 j hj⟩,fun c z=>k.hk.here c z.1⟩
  base:=⟨k.base.n,k.base.io,fun c z=>k.base.bd c z.1,fun c z=>⟨k.base.bm c z,fun q=>k.b0 c z (q ▸ b3)⟩,k.base.keep,k.base.sure,k.base.nw⟩
  b0:=k.b0
  slot:=fun j s ej=>?_
  own:=fun c z=>?_
  inj:=fun j l b z1 z2=>?_
  olen:=by rw[xay,xay,k.olen]
  slen:=by rw[xay,k.slen]}⟩
 ·rw[rR _ _ _ _ (by rw[k.olen];exact ilt)];rw[xaG]at ej;split at ej
  ·rename_i ij;subst ij;cases ej;exact⟨.ref a,e2,a,vs,rfl,.inl ⟨fun z=>z.2 rfl,.inl e3⟩,aD.less q⟩
  ·rename_i ij;rw[xag ij];have q:=k.slot j s ej
   cases s with
   |un=>exact True.intro
   |val d=>obtain⟨v,e1,q⟩:=q;exact⟨v,e1,Is.less q⟩
   |own es=>obtain⟨a',ws,e1,e2,e3,q⟩:=q;exact⟨a',ws,e1,e2,e3,aD.less q⟩
   |exc c n=>obtain⟨v,e1,q⟩:=q;exact⟨v,e1,q.lt l⟩
 ·obtain⟨z1,z2⟩:=nO c z;obtain⟨c1,c2,c3⟩:=k.own c z1;exact⟨⟨c1,z2⟩,c2,c3⟩
 ·rw[xaG]at z1 z2;split at z1
  ·split at z1<;>cases z1
  ·split at z2
   ·split at z2<;>cases z2
   ·exact k.inj j l b z1 z2
end
section
variable {X:Cx}{Wx:XW}{pos:Pos}
theorem eO (h:PS X s t)(w:∀D σ H,t' D σ H->t D σ H):PS X s t':=fun pins s σ H D I hw=>h pins s σ H D I (w D σ H hw)
theorem Gi (h:dX X s t)(w:∀D σ H,t' D σ H->t D σ H):dX X s t':=fun pins s σ H D I hw=>h pins s σ H D I (w D σ H hw)
def aC:S:=fun env M=>some (.nx env,M)
noncomputable def aA (f g:S):S:=fun env M=>match f env M with
 |some (.nx e,M1)=>g e M1
 |o=>o
theorem aR:SB X Wx [] aC:=by
 refine Gi Gj ?_;rintro D st H ⟨P0,H0,P,Os,env,M,out,M',k,e,q⟩;cases e;exact q P Os H st (Lt.refl P H) k
theorem Post.lt {K:Fgx}{mg:Mgx}{P0 P P1:Pl}{H0 H H1:Hp}{M':Mm}{D:Ends}{o:Out}(l:Lt P H P1 H1)(q:Post K mg Wx P0 H0 P H M' D o):Post K mg Wx P0 H0 P1 H1 M' D o:=by
 cases o with
 |nx env=>exact fun P' Os' H' st' l' k=>q P' Os' H' st' (l.trans l') k
 |bk env=>exact fun P' Os' H' st' l' k=>q P' Os' H' st' (l.trans l') k
 |ct env=>exact fun P' Os' H' st' l' k=>q P' Os' H' st' (l.trans l') k
 |rt d=>exact q
 |ex c n=>exact q
theorem aH (h1:SS X Wx s f)(h2:SB X Wx ss g):SB X Wx (s::ss) (aA f g):=by
  refine Gi (wK h1 h2) ?_;rintro D st H ⟨P0,H0,P,Os,env,M,out,M',k,e,q⟩;unfold aA at e;split at e
  · rename_i e1 M1 ef;refine⟨P0,H0,P,Os,env,M,_,_,k,ef,fun P1 Os1 H1 st1 l1 k1=>?_⟩;exact⟨P0,H0,P1,Os1,e1,M1,_,_,k1,e,q.lt l1⟩
  · rename_i o ho
    cases ef:f env M with
    |none=>rw[ef]at e;cases e
    |some om=>
      obtain⟨o1,M1⟩:=om;rw[ef]at e;cases e;refine⟨P0,H0,P,Os,env,M,_,_,k,ef,?_⟩
      cases out with
      |nx env'=>exact(ho _ _ ef).elim
      |bk env'=>exact q
      |ct env'=>exact q
      |rt d=>exact q
      |ex c n=>exact q
noncomputable def aM (i:Nat) (f:E):S:=fun env M=>bQ (f env M) fun d M1=>if i<env.length then some (.nx (env.set i (.val d)),M1) else none
theorem cj (hN:X.N.Nodup)(hi:X.N[i]? =some x)(hx:Loc X.env.scope x)(he:SE X Wx .val e f)(hs:swapsWith e (some (.Name x pos')) pos.line X.env=pure false:=by rfl)
  (hf:X.fn x=true\/X.env.scope.names.lookup x=some .local:=by first |exact .inl rfl |exact .inr rfl):SS X Wx (.Assign [.Name x pos'] e pos) (aM i f):=by
 refine eO (Gh hN hi hx he hs hf) ?_;rintro D st H ⟨P0,H0,P,Os,env,M,out,M',k,e,q⟩;unfold aM at e;rcases eN e with⟨d,M1,e1,e⟩ |⟨c,n,e1,rfl⟩
 ·split at e
  ·rename_i hl;cases e;exact⟨P0,H0,P,Os,env,M,_,_,k,e1,fun P1 v1 H1 l1 h1 i1=>q _ _ _ _ (l1.lt k.hk) ((k.next l1 h1).asg hl i1)⟩
  ·cases e
 ·exact⟨P0,H0,P,Os,env,M,_,_,k,e1,q⟩
noncomputable def wY (i:Nat) (f:E):S:=fun env M=>bQ (f env M) fun d M1=>match d with
 |.lst ds=>if i<env.length then some (.nx (env.set i (.own ds)),M1) else none
 |_=>none
theorem Oz (hN:X.N.Nodup)(hi:X.N[i]? =some x)(hx:Loc X.env.scope x)(he:SN X Wx e f)(hs:swapsWith e (some (.Name x pos')) pos.line X.env=pure false:=by rfl)
  (hf:X.fn x=true\/X.env.scope.names.lookup x=some .local:=by first |exact .inl rfl |exact .inr rfl):SS X Wx (.Assign [.Name x pos'] e pos) (wY i f):=by
 refine eO (Gh hN hi hx he hs hf) ?_;rintro D st H ⟨P0,H0,P,Os,env,M,out,M',k,e,q⟩;unfold wY at e;rcases eN e with⟨d,M1,e1,e⟩ |⟨c,n,e1,rfl⟩
 ·cases d<;>simp only[reduceCtorEq]at e
  rename_i ds;split at e
  ·rename_i hl;cases e;exact⟨P0,H0,P,Os,env,M,_,_,k,e1,ds,rfl,fun P1 a vs H1 l1 h1 ha ba nc ea is=>q _ _ _ _ (l1.lt k.hk) (k.mine l1 h1 hl ha ba nc ea is)⟩
  ·cases e
 ·exact⟨P0,H0,P,Os,env,M,_,_,k,e1,q⟩
def aQ (f:E):S:=fun env M=>bQ (f env M) fun d M1=>some (.rt d,M1)
theorem cu (he:SE X Wx .val e f):SS X Wx (.Return (some e) pos) (aQ f):=by
 refine eO (Yb he) ?_;rintro D st H ⟨P0,H0,P,Os,env,M,out,M',k,e,q⟩;unfold aQ at e;rcases eN e with⟨d,M1,e1,e⟩ |⟨c,n,e1,rfl⟩
 ·cases e;exact⟨P0,H0,P,Os,env,M,_,_,k,e1,fun P1 v1 H1 l1 h1 i1=>q P1 v1 H1 (k.base.trans l1) h1 i1⟩
 ·exact⟨P0,H0,P,Os,env,M,_,_,k,e1,q⟩
noncomputable def nW (f:E):S:=fun env M=>bQ (f env M) fun _ M1=>some (.nx env,M1)
theorem Ox (he:SE X Wx .bor e f)(hs:swapsWith e none pos.line X.env=pure false:=by rfl):SS X Wx (.Expr e pos) (nW f):=by
 refine eO (wJ he hs) ?_;rintro D st H ⟨P0,H0,P,Os,env,M,out,M',k,e,q⟩;unfold nW at e;rcases eN e with⟨d,M1,e1,e⟩ |⟨c,n,e1,rfl⟩
 ·cases e;exact⟨P0,H0,P,Os,env,M,_,_,k,e1,fun P1 v1 H1 l1 h1 i1=>q _ _ _ _ (l1.lt k.hk) (k.next l1 h1)⟩
 ·exact⟨P0,H0,P,Os,env,M,_,_,k,e1,q⟩
noncomputable def cQ (c:E) (f g:S):S:=fun env M=>bQ (c env M) fun d M1=>match d with
 |.bl b=>if b=true then f env M1 else g env M1
 |_=>none
theorem dI (hc:ST X Wx c t)(ha:SB X Wx a f)(hb:SB X Wx b g):SS X Wx (.If c a b pos) (cQ t f g):=by
  refine eO (X_ hc ha hb) ?_;rintro D st H ⟨P0,H0,P,Os,env,M,out,M',k,e,q⟩;unfold cQ at e;rcases eN e with⟨d,M1,e1,e⟩ |⟨c,n,e1,rfl⟩
  · cases d<;>simp only[reduceCtorEq]at e
    rename_i b;refine gW k e1 ⟨b,rfl,fun P1 H1 l1 h1=>?_⟩
    cases b with
    |true=>
      rw[xac rfl]at e ⊢;exact⟨P0,H0,P1,Os,env,M1,_,_,k.next l1 h1,e,q.lt (l1.lt k.hk)⟩
    |false=>
      rw[xag (by decide)]at e ⊢;exact⟨P0,H0,P1,Os,env,M1,_,_,k.next l1 h1,e,q.lt (l1.lt k.hk)⟩
  · exact gW k e1 q
noncomputable def kj (i:Nat):S:=fun env M=>match env[i]? with
 |some (.own ds)=>some (.nx (env.set i (.val (.lst ds))),M)
 |_=>none
theorem Nh (h:SB X Wx ss g):SB X Wx ss (aA (kj i) g):=by
 refine Gi h ?_;rintro D st H ⟨P0,H0,P,Os,env,M,out,M',k,e,q⟩;unfold aA kj at e;split at e
 ·rename_i e1 M1 ef;split at ef
  ·rename_i ds es;cases ef;obtain⟨P1,Os1,l1,k1⟩:=k.frz es;exact⟨P0,H0,P1,Os1,_,_,_,_,k1,e,q.lt l1⟩
  ·cases ef
 ·rename_i ho;split at e
  ·rename_i es;exact(ho _ _ (by rw[es])).elim
  ·cases e
noncomputable def d9 (i:Nat) (f:E):S:=fun env M=>match env[i]? with
 |some (.own ds)=>bQ (f env M) fun d M1=>if ds.length<sizeLine then some (.nx (env.set i (.own (ds ++ [d]))),M1) else none
 |_=>none
theorem rW (hN:X.N[i]? =some x)(hv:sS X.env.scope x)(he:SE X Wx .val e f)(hd:(x==("__debug__":Str))=false:=by x_go)(hcd:(x==("__classdict__":Str))=false:=by x_go)
  (hfew:((backTo q (starEach [e] X.env)).all (fun x=> !x.1) && (backToKw q (keywordEach [] X.env)).all (fun x=>x.1.isSome) && decide ([e].length + ([]:List Keyword).length + (if ([]:List Keyword).isEmpty then 0 else 1)<30))=true:=by rfl)
  (hline:(p.endLine==q.line)=true:=by rfl) (hs:starEach [e] X.env=(false,eval e X.env)::starEach [] X.env:=by rfl) (hw:swapsWith (.Call (.Attribute (.Name x p0) "append" p) [e] [] q) none pos.line X.env=pure false:=by rfl):
  SS X Wx (.Expr (.Call (.Attribute (.Name x p0) "append" p) [e] [] q) pos) (d9 i f):=by
 refine eO (wJ (Mf xc2 PySem.F.slot_list_append PySem.F.type_list_append Fo (rB hN hv hd hcd) (gj he iK hs) rfl hfew hline hs rfl) hw) ?_;rintro D st H ⟨P0,H0,P,Os,env,M,out,M',k,e,q⟩;unfold d9 at e;split at e
 ·rename_i ds es;obtain⟨a,vs,o1,o2,o3,o4⟩:=k.slot i _ es;refine⟨.ref a,lu o2,.inl ⟨rfl,vs,.inl (.inl o3)⟩,?_⟩;rcases eN e with⟨d,M1,e1,e⟩ |⟨c,n,e1,rfl⟩
  ·split at e
   ·rename_i hz;cases e;refine aN k e1 fun P1 v1 H1 l1 h1 i1=>?_;have k1:=k.next l1 h1
    obtain⟨a',vs',o1',o2',o3',o4'⟩:=k1.slot i _ es;have ea:a'=a:=by
     have z:=o2'.symm.trans o2;cases z;rfl
    subst ea;refine⟨a',vs',v1,rfl,rfl,o3',by rw[o4'.len];exact hz,?_⟩;obtain⟨l2,k2⟩:=k1.chg es (lu o1') o3' (aD.append o4' (aD.one i1));exact q _ _ _ _ ((l1.lt k.hk).trans l2) k2
   ·cases e
  ·exact aN k e1 q
 ·cases e
def Wk (K:Fgx)(P1:Pl)(H1:Hp)(J:It)(ds:List D):Prop:=∀P H,Lt P1 H1 P H->(∀k,k<ds.length->J.go k H)/\(∀k,ds.length<=k->k<=ds.length->J.stop k H)/\∀k x H',J.yld k H x H'->k<ds.length->H'=H/\∃d,ds[k]? =some d/\Is K P H d x
noncomputable def IQ (K:Fgx) (mg:Mgx) (Wx:XW) (P0:Pl) (H0:Hp) (P:Pl) (H:Hp) (M':Mm) (R:It->Hp->Prop):ResA->Prop
 |.v ds=>∀P' H' J,LtE P H P' H'->Hk K mg P' H' M'->Wk K P' H' J ds->R J H'
 |.x c n=>Wx P0 H0 M' c n
noncomputable def tI (K:Fgx) (mg:Mgx) (Wx:XW) (fs:EA):TI:=fun st H R=>∃P0 H0 P Os env M r M',Ok K mg P0 H0 P Os H M st env/\fs env M=some (r,M')/\IQ K mg Wx P0 H0 P H M' R r
def SI (X:Cx)(Wx:XW)(tg iter:Expr)(fs:EA):Prop:=PI X tg iter (tI X.K X.mg Wx fs)
theorem wI (h:PI X tg iter t)(w:∀σ H R,t' σ H R->t σ H R):PI X tg iter t':=fun pins s σ H R I hw=>h pins s σ H R I (w σ H R hw)
noncomputable def loopS (i:Nat) (body:S):List D->Env->Mm->OS
  | [],env,M=>some (.nx env,M)
  | d :: ds, env, M => if i < env.length then (match body (env.set i (.val d)) M with
    |some (.nx e,M1)=>loopS i body ds e M1
    |some (.ct e,M1)=>loopS i body ds e M1
    |some (.bk e,M1)=>some (.nx e,M1)
    |some (.rt d,M1)=>some (.rt d,M1)
    |some (.ex c n,M1)=>some (.ex c n,M1)
    |none=>none) else none
noncomputable def eF (i:Nat) (fs:EA) (body:S):S:=fun env M=>match fs env M with
 |some (.v ds,M1)=>loopS i body ds env M1
 |some (.x c n,M1)=>some (.ex c n,M1)
 |none=>none
theorem U_ {K:Fgx}{mg:Mgx}{P0 P1:Pl}{H0 H1:Hp}{Os:List (Option Addr)}{M M':Mm}{st:L2.St}{env:Env}{i:Nat}{b:S}{J:It}{ds:List D}{out:Out}{D:Ends}(k:Ok K mg P0 H0 P1 Os H1 M st env)(wk:Wk K P1 H1 J ds)
  (h:loopS i b ds env M=some (out,M')) (q:Post K mg Wx P0 H0 P1 H1 M' D out):
  ∃W:Nat->Nat->L2.St->Hp->Prop,(∃m,W 0 m st H1)/\∀j m σ H,W j m σ H->
   (J.stop j H/\D.nx σ H)\/(J.go j H/\∃Nn:L2.St->Hp->Prop,(∀σ' H',Nn σ' H'->∃m',m'<m/\W (j + 1) m' σ' H')/\∀x H',J.yld j H x H'->vp i x σ H' fun σ2 H2=>tS K mg Wx b {D with nx:=Nn,ct:=Nn,bk:=D.nx} σ2 H2):=by
 refine⟨fun j m σ H=>m=ds.length - j/\j<=ds.length/\∃P Os' M1 env',Lt P1 H1 P H/\Ok K mg P0 H0 P Os' H M1 σ env'/\loopS i b (ds.drop j) env' M1=some (out,M'),⟨ds.length,by simp,xbc _,P1,Os,M,env,Lt.refl _ _,k,h⟩,?_⟩;rintro j m σ H ⟨rfl,hj,P,Os',M1,env',lt,k',h'⟩;obtain⟨w1,w2,w3⟩:=wk P H lt
 by_cases hlt:j<ds.length
 ·refine .inr ⟨w1 j hlt,fun σ' H'=>∃P Os' M1 env',Lt P1 H1 P H'/\Ok K mg P0 H0 P Os' H' M1 σ' env'/\loopS i b (ds.drop (j + 1)) env' M1=some (out,M'),fun σ' H' z=>⟨ds.length - (j + 1),by omega,rfl,hlt,z⟩,fun x H' y=>?_⟩;obtain⟨e3,d,ed,iv⟩:=w3 j x H' y hlt;subst e3;have ed':ds.drop j=d::ds.drop (j + 1):=by
   rw[xaY hlt];rw[xai hlt]at ed;rw[xar ed]
  rw[ed']at h';simp only[loopS]at h';split at h'
  ·rename_i hi;have k2:=k'.asg hi iv;split at h'
   ·rename_i e M2 eb;exact⟨P0,H0,P,_,_,M1,_,_,k2,eb,fun P' Os2 H2 st2 l2 k3=>⟨P',Os2,_,e,lt.trans l2,k3,h'⟩⟩
   ·rename_i e M2 eb;exact⟨P0,H0,P,_,_,M1,_,_,k2,eb,fun P' Os2 H2 st2 l2 k3=>⟨P',Os2,_,e,lt.trans l2,k3,h'⟩⟩
   ·rename_i e M2 eb;cases h';exact⟨P0,H0,P,_,_,M1,_,_,k2,eb,fun P' Os2 H2 st2 l2 k3=>q P' Os2 H2 st2 (lt.trans l2) k3⟩
   ·rename_i e M2 eb;cases h';exact⟨P0,H0,P,_,_,M1,_,_,k2,eb,q⟩
   ·rename_i c n M2 eb;cases h';exact⟨P0,H0,P,_,_,M1,_,_,k2,eb,q⟩
   ·cases h'
  ·cases h'
 ·have ej:j=ds.length:=by omega
  subst ej;rw[xbz]at h';cases h';exact .inl ⟨w2 _ (xaf _) (xaf _),q P Os' H σ lt k'⟩
theorem uy (hp:PassesOwn (model X.prog X.w) X.A X.env X.xe)(hc:X.calm=true)(hN:X.N.Nodup)(hi:X.N[i]? =some x)(hx:Loc X.env.scope x)(hI:SI X Wx (.Name x p) iter fs)(hb:SB X Wx body b)
  (hf:X.fn x=true\/X.env.scope.names.lookup x=some .local:=by first |exact .inl rfl |exact .inr rfl) (hs:∀x,foldedSetIterable iter X.env x=pure x:=by intro _;rfl):SS X Wx (.For (.Name x p) iter body [] pos) (eF i fs b):=by
 refine eO (Ml hp hc hI (wG hN hi hx hf) hb hs) ?_;rintro D st H ⟨P0,H0,P,Os,env,M,out,M',k,e,q⟩;unfold eF at e;split at e
 ·rename_i ds M1 ef;exact⟨P0,H0,P,Os,env,M,_,_,k,ef,fun P1 H1 J l1 h1 wk=>U_ (k.next l1 h1) wk e (q.lt (l1.lt k.hk))⟩
 ·rename_i c n M1 ef;cases e;exact⟨P0,H0,P,Os,env,M,_,_,k,ef,q⟩
 ·cases e
noncomputable def fP (f:E):EA:=fun env M=>match f env M with
 |some (.v (.lst ds),M1)=>some (.v ds,M1)
 |some (.x c n,M1)=>some (.x c n,M1)
 |_=>none
theorem Bf (h:SE X Wx .val e f):SI X Wx tg e (fP f):=by
 refine wI (Mh h) ?_;rintro st H R ⟨P0,H0,P,Os,env,M,r,M',k,e,q⟩;unfold fP at e;split at e
 ·rename_i ds M1 ef;cases e;refine⟨P0,H0,P,Os,env,M,_,_,k,ef,fun P1 v1 H1 l1 h1 i1=>?_⟩;obtain⟨a,vs,rfl,ra,is⟩:=i1;refine⟨a,rfl,⟨vs,ra.imp (·.2) id⟩,q P1 H1 _ l1 h1 fun P2 H2 l2=>?_⟩;have ra2:=l2.rda ra;have is2:=aD.lt l2 is;have sq:bI X.K H2 a vs:=ra2.imp (·.2) id;refine⟨fun j hj=>?_,fun j h1 h2=>⟨vs,sq,by rw[is2.len];exact h1⟩,fun j x H' y hj=>⟨y.1,?_⟩⟩
  ·obtain⟨v,ev,_⟩:=aD.get is2 (xai hj);exact⟨vs,v,sq,ev⟩
  ·obtain⟨v,ev,iv⟩:=aD.get is2 (xai hj);have:=y.2 vs sq;rw[ev]at this;cases this;exact⟨_,xai hj,iv⟩
 ·rename_i c n M1 ef;cases e;exact⟨P0,H0,P,Os,env,M,_,_,k,ef,q⟩
 ·cases e
end
abbrev G:=List D->Mm->O
noncomputable def mW (K:Fgx) (mg:Mgx) (n:Nat) (g:G):Sp:=fun vs H Q _=>vs.length=n/\∃P M ds d M',Hk K mg P H M/\aD K P H ds vs/\g ds M=some (.v d,M')/\∀P' v H',LtE P H P' H'->Hk K mg P' H' M'->Is K P' H' d v->Q v H'
noncomputable def bB (o:OS):O:=match o with
 |some (.rt d,M)=>some (.v d,M)
 |some (.nx _,M)=>some (.v .non,M)
 |some (.ex c n,M)=>some (.x c n,M)
 |_=>none
noncomputable def cI (n:Nat) (b:S):G:=fun ds M=>bB (b (ds.map .val ++ List.replicate (n - ds.length) .un) M)
theorem O1 {K:Fgx}{mg:Mgx}{P:Pl}{H:Hp}{M:Mm}{N:List Str}{ds:List D}{vs:List V}(hk:Hk K mg P H M)(hl:vs.length<=N.length)(h:aD K P H ds vs):
  Ok K mg P H P (List.replicate N.length none) H M (L2.start N vs) (ds.map .val ++ List.replicate (N.length - ds.length) .un):=by
 have hd:=h.len;refine⟨hk,LtE.refl P H,hk.here,fun i s e=>?_,fun a z=>?_,fun i j a e1 _=>?_,by simp;omega,by simp[L2.start];omega⟩
 ·have e0:((List.replicate N.length (none:Option Addr))[i]?).join=none:=by
   rw[xbm]
   split<;>rfl
  rw[e0]
  by_cases hi:i<ds.length
  ·rw[xaX (by simpa using hi),xan,xai hi]at e;simp only[xbE,xdG]at e;subst e;obtain⟨v,ev,p⟩:=h.get (xai hi);refine⟨v,?_,p⟩;unfold L2.start;rw[xaX (by rw[xaC];omega),xan,ev];rfl
  ·rw[xa9 (by simpa using hi),xbm]at e;split at e
   ·cases e;exact True.intro
   ·cases e
 ·exact absurd (List.eq_of_mem_replicate z) (by simp)
 ·rw[xbm]at e1;split at e1<;>cases e1
structure FunD (K:Fgx)(x qual:Str)(st:Stmt)(f:Addr)(fd:FuncData):Prop where
 ex:∃(oc:Value) (od:Option Addr) (dV kV doc pm:Value) (an:Option Addr) (cdv ct:Value) (osl:Array (Option Value)),
  fd=PySem.W.fnOf x qual (fG st) (dD st) (bw st) dV kV doc pm an cdv ct/\K.lookup f=some ⟨oc,od,.func fd,osl⟩/\PySem.W.codeIn K cdv qual=true
 kp:PySem.W.keepIn K (.ref f)=true
theorem Ea {K:Fgx}{x qual:Str}{st:Stmt}{f:Addr}{oc:Value}{od an:Option Addr}{osl:Array (Option Value)}{dV kV doc pm cdv ct:Value}(l:K.lookup f=some ⟨oc,od,.func (PySem.W.fnOf x qual (fG st) (dD st) (bw st) dV kV doc pm an cdv ct),osl⟩)
  (c:PySem.W.codeIn K cdv qual=true) (k:PySem.W.keepIn K (.ref f)=true):FunD K x qual st f (PySem.W.fnOf x qual (fG st) (dD st) (bw st) dV kV doc pm an cdv ct):=⟨⟨oc,od,dV,kV,doc,pm,an,cdv,ct,osl,rfl,l,c⟩,k⟩
section
variable {P:Program}{w:World}{K:Fgx}{mg:Mgx}{base:Heap}{k:Nat}{x qual:Str}{st:Stmt}{f:Addr}{fd:FuncData}{N ps:List Str}{b:S}
def W0:XW:=fun _ _ _ _ _=>False
abbrev u_ (P:Program)(w:World)(K:Fgx)(mg:Mgx)(base:Heap)(N:List Str)(qual:Str)(st:Stmt)(f:Addr)(cdv:Value)(A:Around)(outer:List PySem.Env)(s:Shared)(H:Hp)(E:XK):Cx:=(cU eG P w K mg base N qual (bw st) f cdv A outer s H E).nox
theorem J9 (F:FunD K x qual st f fd)(S:FnScope N ps (bw st))(hp:ps.length<=N.length)
  (hb:∀cdv A outer s H E,Room k (A.deeper (envOfC qual (bw st) s.heap.objs.size f cdv))->SB (u_ P w K mg base N qual st f cdv A outer s H E) W0 (dD st) b):FnOk P w K mg base eG (k + 1) f fd ps (mW K mg ps.length (cI N.length b)):=by
 obtain⟨oc,od,dV,kV,doc,pm,an,cdv,ct,osl,rfl,lk,hcd⟩:=F.ex;refine DW lk hcd S (fun vs H Q E h=>h.1) fun A outer s H vs Q E hr h=>?_;obtain⟨hl,Pl,M,ds,d,M',hk,is,e,q⟩:=h;refine⟨_,dX.nox (hb cdv A outer s H E hr),?_⟩;unfold cI bB at e;have st0:=O1 (N:=N) hk (by omega) is;split at e
 ·rename_i d' M2 eb;cases e;exact⟨Pl,H,Pl,_,_,M,_,_,st0,eb,fun P' v H' l h i=>q P' v H' l h i⟩
 ·rename_i env M2 eb;cases e;exact⟨Pl,H,Pl,_,_,M,_,_,st0,eb,fun P' Os' H' st' _ k'=>q P' .non H' k'.base k'.hk rfl⟩
 ·rename_i c n M2 eb;cases e
 ·cases e
def bC (P:Program)(w:World)(K:Fgx)(mg:Mgx)(base:Heap)(k:Nat)(f:Str)(n:Nat)(g:G):Prop:=
 ∃fa fd ps ds dvs sp,mg f=some (.ref fa)/\PySem.W.keepIn K (.ref fa)=true/\FnOk P w K mg base eG k fa fd ps sp/\Binds K fd ps ds/\Vals dvs ds/\∀vs H Q E,mW K mg n g vs H Q E->sp (vs ++ dvs) H Q E
theorem Sx (F:FunD K x qual st f fd)(S:FnScope N ps (bw st))(hp:ps.length<=N.length)(hm:mg x=some (.ref f))(hd:Binds K fd ps [])
  (hb:∀cdv A outer s H E,Room k (A.deeper (envOfC qual (bw st) s.heap.objs.size f cdv))->SB (u_ P w K mg base N qual st f cdv A outer s H E) W0 (dD st) b):bC P w K mg base (k + 1) x ps.length (cI N.length b):=
 ⟨f,fd,ps,[],[],_,hm,F.kp,J9 F S hp hb,hd,.nil,fun vs H Q E h=>by rw[xa4];exact h⟩
theorem bC.mono (a:bC P w K mg base j x n g)(h:j<=k):bC P w K mg base k x n g:=by
 obtain⟨fa,fd,ps,ds,dvs,sp,h1,h2,h3,h4⟩:=a;exact⟨fa,fd,ps,ds,dvs,sp,h1,h2,h3.mono h,h4⟩
end
section
variable {X:Cx}{Wx:XW}{m:Mode}
noncomputable def bV (g:G) (fs:EA):E:=fun env M=>gw (fs env M) fun ds M1=>match g ds M1 with
 |some (.v d,M2)=>some (.v d,M2)
 |_=>none
theorem dz.len {K:Fgx}{P:Pl}{H:Hp}:∀{ds:List D} {vs:List V},dz K P H m ds vs->vs.length=ds.length
  | [],_,h=>by rw[show _=[] from h];rfl
  |d::ds,_,h=>by
    obtain⟨v,r,e,_,q⟩:=h;subst e
    simp[dz.len q]
def uI (n:Nat)(fs:EA):Prop:=∀env M ds M',fs env M=some (.v ds,M')->ds.length=n
theorem cnt_nil:uI 0 aq:=fun env M ds M' e=>by cases e;rfl
theorem cnt_cons (h:uI n fs):uI (n + 1) (ao f fs):=fun env M ds M' e=>by
 unfold ao at e;split at e
 ·split at e
  ·rename_i ef;cases e;rw[xaz,h _ _ _ _ ef]
  ·cases e
  ·cases e
 ·cases e
 ·cases e
theorem cF {k n:Nat}{f:Str}{g:G}{e:Expr}{es:List Expr}{fs:EA}{p pos:Pos}(a:bC X.prog X.w X.K X.mg X.base k f n g)(hr:Room k X.A)(hg:Gl X f)(ha:SA X Wx .val (e::es) fs)(hn:uI n fs)(hdb:(f==("__debug__":Str))=false:=by x_go)
  (he:starEach (e::es) X.env=(false,eval e X.env)::starEach es X.env:=by rfl) (hpl:(backTo pos (starEach es X.env)).any (·.1)=false:=by rfl):SE X Wx m (.Call (.Name f p) (e::es) [] pos) (bV g fs):=by
 obtain⟨fa,fd,ps,ds,dvs,sp,hm,hk,F,hb,hv,himp⟩:=a;refine cg (W7 F hr hg hm hk hb hv W3 ha hdb he hpl) ?_;rintro st H Q ⟨P0,H0,P,Os,env,M,r,M',k,e,q⟩;unfold bV at e;rcases uZ e with⟨ds,M1,e1,e⟩ |⟨c,n,e1,rfl⟩
 ·split at e
  ·rename_i d M2 eg;cases e;exact⟨P0,H0,P,Os,env,M,_,_,k,e1,fun P1 vs H1 l1 h1 i1=>himp _ _ _ _ ⟨by rw[i1.len];exact hn _ _ _ _ e1,P1,M1,ds,d,_,h1,i1.iss,eg,fun P2 v H2 l2 h2 i2=>q P2 v H2 (l1.trans l2) h2 (cA.of h2 i2)⟩⟩
  ·cases e
 ·exact⟨P0,H0,P,Os,env,M,_,_,k,e1,q⟩
end
def uH (i j:Int):Prop:=lD i j\/(i.natAbs.log2<10000/\j.natAbs.log2<10000)
theorem Jl (h:i.natAbs.log2<10000):Builtin.Int.intBits i<=10001:=by
 unfold Builtin.Int.intBits
 split<;>omega
theorem uH.ok (h:uH i j):IntMulOk i j:=by
 rcases h with h |⟨h1,h2⟩
 ·exact h.ok
 ·exact mulOk_of_bits (Jl h1) (Jl h2) (by decide)
theorem gP:bK X (binaryOp .Mult) (rI uH fun i j=>.int (i * j)):=wC fun _ _ _ _ _ _ _ hc q=>mul_int q hc.ok
section
variable {X:Cx}{pins:Pnx}{σ:L2.St}{H:Hp}{s:Shared}{K:Fgx}
noncomputable def Mx (K:Fgx):R2:=fun x y H Q=>∃l b xs zs,x=.ref l/\y=.ref b/\bI K H l xs/\bI K H b zs/\xs.length + zs.length<=sizeLine/\∀p,H p=none->Q (.ref p) (upd H p (.lst (xs ++ zs)))
theorem Wq:bK X (binaryOp .Add) (Mx X.K):=by
 intro pins s σ H x y v u Q I rx ry h;obtain⟨l,b,xs,zs,rfl,rfl,hH,hB,hz,q⟩:=h;cases rx;cases ry;obtain⟨z,its,r,⟨cls,dd,data,sl⟩,ho,hc,n,hd⟩:=sql I hH;obtain⟨z2,its2,r2,⟨cls2,dd2,data2,sl2⟩,ho2,hc2,n2,hd2⟩:=sql I hB;simp only at hc hd hc2 hd2;subst hc hd hc2 hd2;have hl:=r.length;have hl2:=r2.length;refine concat_meets ⟨_,ho,rfl⟩ ⟨_,ho2,rfl⟩ noFill_list_add seq_list_add F.slot_list_add F.entry_list_add (F.args_list_add_2 _ _) (list_addW l b its.toArray its2.toArray n n2 dd dd2 sl sl2 (by rw[xak,xak];omega)) ⟨ho,ho2,?_⟩;have ea:its.toArray ++ its2.toArray=(its ++ its2).toArray:=by simp
 rw[ea];exact⟨.ref _,_,I.lnew (t':=s.toks) (r.append r2) (by rw[xax];omega),rfl,q _ I.fresh⟩
theorem Lq {P:Pl}{H:Hp}{ds:List D}{vs:List V}{Q:VK}(hn:∀p,H p=none->¬ P.bd p)(h:aD K P H ds vs)(q:∀u H',Same H H'->Is K P H' (.lst ds) u->Q u H'):∀p,H p=none->Q (.ref p) (upd H p (.lst vs)):=fun p hp=>by
 have s:=nZ (o:=.lst vs) hp;exact q _ _ s ⟨p,vs,rfl,.inl ⟨hn p hp,.inl bO⟩,aD.lt ⟨xaf _,fun _ _=>rfl,fun _ z=>.inl z,fun a o e _=>s a o e,fun a z=>s.free z⟩ h⟩
noncomputable def aX:D->D->Option D
 |.int i,.int j=>some (.int (i + j))
 |.str i,.str j=>if i.length + j.length<=sizeLine then some (.str (i ++ j)) else none
 |.lst xs,.lst ys=>if xs.length + ys.length<=sizeLine then some (.lst (xs ++ ys)) else none
 |_,_=>none
noncomputable def rF (K:Fgx):R2:=fun x y H Q=>gU (fun i j=>.int (i + j)) x y H Q\/(∃i j,x=.str i/\y=.str j/\i.length + j.length<=sizeLine/\Q (.str (i ++ j)) H)\/Mx K x y H Q
theorem cW:bK X (binaryOp .Add) (rF X.K):=Wn.or (Wo.or Wq)
theorem cY:gM K (rF K) aX:=fun P H d e z v w Q h h1 h2 hn q=>by
 unfold aX at h;split at h
 ·cases h;cases h1;cases h2;exact .inl ⟨_,_,rfl,rfl,q _ H (Same.refl H) rfl⟩
 ·split at h
  ·rename_i hl;cases h;cases h1;cases h2;exact .inr (.inl ⟨_,_,rfl,rfl,hl,q _ H (Same.refl H) rfl⟩)
  ·cases h
 ·split at h
  ·rename_i hl;cases h;obtain⟨a,vs,rfl,r1,s1⟩:=h1;obtain⟨b,ws,rfl,r2,s2⟩:=h2;exact .inr (.inr ⟨a,b,vs,ws,rfl,rfl,r1,r2,by rw[s1.len,s2.len];exact hl,Lq hn (s1.append s2) q⟩)
  ·cases h
 ·cases h
noncomputable def oI (g:Int->Int->Option D):D->D->Option D
 |.int i,.int j=>g i j
 |_,_=>none
theorem tZ (h:oI g d e=some z)(h1:bH K P H d v)(h2:bH K P H e w):∃i j,v=.int i/\w=.int j/\g i j=some z:=by
 unfold oI at h;split at h
 ·cases h1;cases h2;exact⟨_,_,rfl,rfl,h⟩
 ·cases h
def iD:=oI fun i j=>some (.int (i - j))
theorem zZ:gM K (gU fun i j=>.int (i - j)) iD:=fun P H d e z v w Q h h1 h2 _ q=>by
 obtain⟨i,j,rfl,rfl,h⟩:=tZ h h1 h2;cases h;exact⟨i,j,rfl,rfl,q _ H (Same.refl H) rfl⟩
noncomputable def cB:=oI fun i j=>if i.natAbs<18446744073709551616\/j.natAbs<18446744073709551616\/(i.natAbs.log2<10000/\j.natAbs.log2<10000) then some (.int (i * j)) else none
theorem gR:gM K (rI uH fun i j=>.int (i * j)) cB:=fun P H d e z v w Q h h1 h2 _ q=>by
 obtain⟨i,j,rfl,rfl,h⟩:=tZ h h1 h2;split at h
 ·rename_i hg;cases h;exact⟨i,j,rfl,rfl,by unfold uH lD;rw[show(2:Int) ^ 64=18446744073709551616 from rfl];exact hg.elim (fun z=>.inl (.inl ⟨by omega,by omega⟩)) (fun z=>z.elim (fun z=>.inl (.inr ⟨by omega,by omega⟩)) .inr),q _ H (Same.refl H) rfl⟩
 ·cases h
noncomputable def iC:=oI fun i j=>if 0<j/\j.natAbs<1073741824 then some (.int (i / j)) else none
theorem mD:gM K (rI uG fun i j=>.int (i / j)) iC:=fun P H d e z v w Q h h1 h2 _ q=>by
 obtain⟨i,j,rfl,rfl,h⟩:=tZ h h1 h2;split at h
 ·rename_i hg;cases h;exact⟨i,j,rfl,rfl,⟨hg.1,by omega⟩,q _ H (Same.refl H) rfl⟩
 ·cases h
def oMod:=oI fun i j=>if 0<j then some (.int (i % j)) else none
theorem cZ:gM K (rI (fun _ j=>0<j) fun i j=>.int (i % j)) oMod:=fun P H d e z v w Q h h1 h2 _ q=>by
 obtain⟨i,j,rfl,rfl,h⟩:=tZ h h1 h2;split at h
 ·rename_i hg;cases h;exact⟨i,j,rfl,rfl,hg,q _ H (Same.refl H) rfl⟩
 ·cases h
noncomputable def fB:=oI fun i j=>if 0<=j/\j.natAbs<=1000000/\i.natAbs<18446744073709551616 then some (.int (i ^ j.toNat)) else none
theorem rC:gM K (rI oG fun i j=>.int (i ^ j.toNat)) fB:=fun P H d e z v w Q h h1 h2 _ q=>by
 obtain⟨i,j,rfl,rfl,h⟩:=tZ h h1 h2;split at h
 ·rename_i hg;cases h;exact⟨i,j,rfl,rfl,by unfold oG;rw[show(2:Nat) ^ 64=18446744073709551616 from rfl];exact⟨hg.1,by omega,hg.2.2⟩,q _ H (Same.refl H) rfl⟩
 ·cases h
def aJ (c:Cp)(a b:D):Option D:=(cD c a b).map .bl
theorem ud:gM K (wN K c) (aJ c):=fun P H d e z v w Q h h1 h2 _ q=>by
 unfold aJ at h;rw[xae]at h;obtain⟨b,h,rfl⟩:=h;exact yW h h1 h2 (q _ H (Same.refl H) rfl)
noncomputable def aY:D->D->Option D
 |.lst ds,.int i=>cP ds i
 |.tup ds,.int i=>cP ds i
 |.str z,.int i=>if z.length<=sizeLine then(cP z.cps.toList i).map fun c=>.str ⟨#[c]⟩ else none
 |_,_=>none
noncomputable def Gz (K:Fgx):R2:=fun x y H Q=>rG K x y H Q\/rJ K x y H Q\/rH x y H Q
theorem EY:kO X (Gz X.K):=T_.or (Ug.or Ue)
theorem Je (h:cP ds i=some d)(q:aD K P H ds vs):∃u,cP vs i=some u/\Is K P H d u:=by
 unfold cP at h ⊢;rw[q.len]
 cases e:iy ds.length i with
 |none=>rw[e]at h;cases h
 |some j=>rw[e]at h;exact q.get h
theorem Gk:gM K (Gz K) aY:=fun P H d e z v w Q h h1 h2 _ q=>by
 unfold aY at h;split at h
 ·obtain⟨a,vs,rfl,r,s⟩:=h1;cases h2;obtain⟨u,e,p⟩:=Je h s;exact .inl ⟨a,vs,_,u,rfl,rfl,r,e,q _ H (Same.refl H) p⟩
 ·obtain⟨a,vs,rfl,r,s⟩:=h1;cases h2;obtain⟨u,e,p⟩:=Je h s;exact .inr (.inl ⟨a,vs,_,u,rfl,rfl,r,e,q _ H (Same.refl H) p⟩)
 ·split at h
  ·rename_i hl;rw[xae]at h;obtain⟨c,h,e⟩:=h;cases e;cases h1;cases h2;exact .inr (.inr ⟨_,_,c,rfl,rfl,hl,h,q _ H (Same.refl H) rfl⟩)
  ·cases h
 ·cases h
noncomputable def dO:List D->Option D
 | [.lst ds]=>some (.int ds.length)
 | [.tup ds]=>some (.int ds.length)
 | [.str z]=>if z.length<=sizeLine then some (.int z.length) else none
 |_=>none
def wO (K:Fgx):List V->Hp->VK->Prop:=fun xs H Q=>(∃p ys,xs=[.ref p]/\(bI K H p ys\/dJ K H p ys)/\Q (.int ys.length) H)\/∃z,xs=[.str z]/\z.length<=sizeLine/\Q (.int z.length) H
theorem sW:dU X (.builtin "len") (wO X.K):=QK.or QL
theorem uf:lF K (wO K) dO:=fun P H ds z vs Q h i _ q=>by
 unfold dO at h;split at h
 ·obtain⟨v,ws,rfl,p,rfl⟩:=i;cases h;obtain⟨a,us,rfl,r,s⟩:=p;exact .inl ⟨a,us,rfl,.inl r,q _ H (Same.refl H) (by rw[s.len];rfl)⟩
 ·obtain⟨v,ws,rfl,p,rfl⟩:=i;cases h;obtain⟨a,us,rfl,r,s⟩:=p;exact .inl ⟨a,us,rfl,.inr r,q _ H (Same.refl H) (by rw[s.len];rfl)⟩
 ·split at h
  ·rename_i hl;obtain⟨v,ws,rfl,p,rfl⟩:=i;cases h;cases p;exact .inr ⟨_,rfl,hl,q _ H (Same.refl H) rfl⟩
  ·cases h
 ·cases h
noncomputable def lM:List D->Option D
 | [.int i,.int j]=>some (.int (if j > i then j else i))
 |_=>none
theorem Yn:lF K (fun xs H Q=>∃i j,xs=[.int i,.int j]/\Q (.int (if j > i then j else i)) H) lM:=fun P H ds z vs Q h i _ q=>by
 unfold lM at h;split at h
 ·obtain⟨v,ws,rfl,p,v',ws',rfl,p',rfl⟩:=i;cases h;cases p;cases p';exact⟨_,_,rfl,q _ H (Same.refl H) rfl⟩
 ·cases h
end
section
variable {X:Cx}{Wx:XW}{m:Mode}
noncomputable def yd:D->String
 |.non=>"NoneType"
 |.bl _=>"bool"
 |.int _=>"int"
 |.str _=>"str"
 |.tup _=>"tuple"
 |.lst _=>"list"
 |.ref _=>""
theorem QG:dU X (.builtin "isinstance") (fun xs H Q=>∃(x:V) (T:String) (d:D) (P:Pl) (b:Bool),xs=[x,.ty T]/\bH X.K P H d x/\yd d≠""/\PySem.W.kitOne X.K (.type (yd d)) (.type T)=some b/\Q (.bl b) H):=by
  intro pins s σ H xs us Q I r h;obtain⟨x,T,d,A,b,rfl,i,ne,e,q⟩:=h;obtain⟨u,w',rfl,rx,rT⟩:=vals2 r;cases rT;have fin:∀tk,EP X pins σ Q (.bool b) {s with toks:=tk}:=fun tk=>⟨.bl b,H,I.tok _,rfl,q⟩
  cases d with
  |non=>have hv:x=.non:=i;subst hv;exact zB I rx (TyOf.non) e fin
  |bl y=>have hv:x=.bl y:=i;subst hv;exact zB I rx (TyOf.bl y) e fin
  |int y=>have hv:x=.int y:=i;subst hv;exact zB I rx (TyOf.int y) e fin
  |str y=>have hv:x=.str y:=i;subst hv;exact zB I rx (TyOf.str y) e fin
  |ref n=>exact absurd rfl ne
  |tup ds=>
    obtain⟨a,vs,rfl,t,_⟩:=i;cases rx;obtain⟨its,_,p,_⟩:=I.tuple t;obtain⟨o,h1,h2,_⟩:=p;exact xaF xds I.kIn ⟨o,h1,h2⟩ e (fun z=>nomatch z) fin
  |lst ds=>
    obtain⟨a,vs,rfl,t,_⟩:=i;cases rx;obtain⟨_,its,_,o,h1,h2,_⟩:=sql I t;exact xaF xcK I.kIn ⟨o,h1,h2⟩ e (fun z=>nomatch z) fin
theorem zaL {K:Fgx}{P:Pl}{H:Hp}{lo:Int}{n:Nat}:Wk K P H (yw lo n) ((List.range n).map fun(k:Nat)=>.int (lo + k)):=fun P' H' l=>by
 rw[xaC,xbJ];refine⟨fun k hk=>hk,fun k h1 _=>h1,fun k x H2 y hk=>⟨y.1,.int (lo + k),?_,y.2⟩⟩;rw[xan,xcx hk];rfl
noncomputable def nJ (fs:EA):EA:=fun env M=>match fs env M with
 |some (.v [.int j],M1)=>if -1000000000<=j/\j<=1000000000 then some (.v ((List.range j.toNat).map fun(k:Nat)=>.int (0 + k)),M1) else none
 |some (.x c n,M1)=>some (.x c n,M1)
 |_=>none
theorem Hl (hg:Gl X "range")(hm:X.mg "range"=none)(ha:SA X Wx .val [a] fs)(hs:starEach [a] X.env=[(false,eval a X.env)]:=by rfl):SI X Wx tg (.Call (.Name "range" p) [a] [] pos) (nJ fs):=by
 refine wI (XH hg hm ha hs) ?_;rintro st H R ⟨P0,H0,P,Os,env,M,r,M',k,e,q⟩;unfold nJ at e;split at e
 ·rename_i j M1 ef;split at e
  ·rename_i hj;cases e;refine⟨P0,H0,P,Os,env,M,_,_,k,ef,fun P1 vs H1 l1 h1 i1=>?_⟩;obtain⟨v,ws,rfl,p,rfl⟩:=i1;exact⟨j,by rw[show v=.int j from p],by omega,by omega,q P1 H1 _ l1 h1 zaL⟩
  ·cases e
 ·rename_i c n M1 ef;cases e;exact⟨P0,H0,P,Os,env,M,_,_,k,ef,q⟩
 ·cases e
def t_:Env->Mm->Option (Option Int×Mm):=fun _ M=>some (none,M)
noncomputable def rm (f:E):Env->Mm->Option (Option Int×Mm):=fun env M=>match f env M with
 |some (.v (.int i),M1)=>some (some i,M1)
 |_=>none
noncomputable def tP (K:Fgx) (mg:Mgx) (f:Env->Mm->Option (Option Int×Mm)):TO:=fun st H Q=>∃P0 H0 P Os env M i M',Ok K mg P0 H0 P Os H M st env/\f env M=some (i,M')/\∀P' H',LtE P H P' H'->Hk K mg P' H' M'->Q i H'
def yD (X:Cx)(e:Option Expr)(f:Env->Mm->Option (Option Int×Mm)):Prop:=PO X e (tP X.K X.mg f)
theorem Mi (h:PO X e t)(w:∀σ H Q,t' σ H Q->t σ H Q):PO X e t':=fun pins s σ H Q I hw=>h pins s σ H Q I (w σ H Q hw)
theorem Bh:yD X none t_:=by
 refine Mi X3 ?_;rintro st H Q ⟨P0,H0,P,Os,env,M,i,M',k,e,q⟩;cases e;exact q P H (LtE.refl P H) k.hk
theorem Bg (h:SE X Wx .val e f):yD X (some e) (rm f):=by
 refine Mi (X4 h) ?_;rintro st H Q ⟨P0,H0,P,Os,env,M,i,M',k,e,q⟩;unfold rm at e;split at e
 ·rename_i j M1 ef;cases e;exact⟨P0,H0,P,Os,env,M,_,_,k,ef,fun P1 v H1 l1 h1 i1=>⟨j,i1,q P1 H1 l1 h1⟩⟩
 ·cases e
noncomputable def fO {α:Type} (xs:List α) (lo hi:Option Int):List α:=(xs.drop (HT.eU xs.length 0 lo)).take (HT.eU xs.length xs.length hi - HT.eU xs.length 0 lo)
theorem Rp {K:Fgx}{P:Pl}{H:Hp}{ds:List D}{vs:List V}{lo hi:Option Int}(q:aD K P H ds vs):aD K P H (fO ds lo hi) (g_ vs lo hi):=by
 unfold fO g_;rw[q.len];exact(q.drop _).take _
noncomputable def ux (d:D) (lo hi:Option Int):Option D:=match d with
 |.lst ds=>some (.lst (fO ds lo hi))
 |.str z=>if z.length<=sizeLine then some (.str (Txt.slice z lo hi)) else none
 |_=>none
noncomputable def rM (f:E) (l h:Env->Mm->Option (Option Int×Mm)):E:=fun env M=>bnd (f env M) fun d M1=>match l env M1 with
  | some (lo, M2) => (match h env M2 with
    |some (hi,M3)=>(ux (vw M3 d) lo hi).map fun z=>(.v z,M3)
    |none=>none)
  |none=>none
theorem Bd {e:Expr}{lo hi:Option Expr}{p2 pos:Pos}{f:E}{l h:Env->Mm->Option (Option Int×Mm)}(he:SE X Wx .bor e f)(hl:yD X lo l)(hh:yD X hi h):SE X Wx m (.Subscript e (.Slice lo hi none p2) pos) (rM f l h):=by
 refine cg (Xq (zbt.or zb5) he hl hh) ?_;rintro st H Q ⟨P0,H0,P,Os,env,M,r,M',k,e,q⟩;unfold rM at e;rcases bT e with⟨d,M1,e1,e⟩ |⟨c,n,e1,rfl⟩
 ·split at e
  ·rename_i lo' M2 el;split at e
   ·rename_i hi' M3 eh;rw[xae]at e;obtain⟨z,ez,e⟩:=e;cases e;refine aN k e1 fun P1 v1 H1 l1 h1 i1=>⟨P0,H0,P1,Os,env,M1,_,_,k.next l1 h1,el,fun P2 H2 l2 h2=>⟨P0,H0,P2,Os,env,M2,_,_,(k.next l1 h1).next l2 h2,eh,fun P3 H3 l3 h3=>?_⟩⟩
    have i3:=cH.vw h3 (cH.lt l3 h2 (cH.lt l2 h1 i1));have fin:∀u H',Same H3 H'->Is X.K P3 H' z u->Q u H':=fun u H' s i=>q P3 u H' (l1.trans (l2.trans (l3.trans (LtE.same s)))) (h3.same s) (cA.of (h3.same s) i);generalize vw M' d=d' at i3 ez;unfold ux at ez;split at ez
    ·cases ez;obtain⟨a,vs,rfl,r,s⟩:=i3;exact .inl ⟨a,vs,rfl,r,Lq h3.new (Rp s) fin⟩
    ·split at ez
     ·rename_i hz;cases ez;cases i3;exact .inr ⟨_,rfl,hz,fin _ _ (Same.refl _) rfl⟩
     ·cases ez
    ·cases ez
   ·cases e
  ·cases e
 ·exact aN k e1 q
noncomputable def z7 (f:E):E:=fun env M=>bnd (f env M) fun d M1=>match d with
 |.lst ds=>some (.v (.ref M1.length),M1 ++ [.lst ds])
 |_=>none
theorem zbq (h:SN X Wx e f):SE X Wx m e (z7 f):=by
  refine cg h ?_;rintro st H Q ⟨P0,H0,P,Os,env,M,r,M',k,e,q⟩;unfold z7 at e;rcases bT e with⟨d,M1,e1,e⟩ |⟨c,n,e1,rfl⟩
  · cases d<;>simp only[reduceCtorEq]at e
    rename_i ds;cases e;refine⟨P0,H0,P,Os,env,M,_,_,k,e1,ds,rfl,fun P1 a vs H1 l1 h1 ha ba nc ea is=>?_⟩;have hn:P1.n=M1.length:=h1.n
    let P2:Pl:={io:=fun j=>if j=P1.n then a else P1.io j,n:=P1.n + 1,bd:=P1.bd}
    have io : ∀ j, j < P1.n -> P2.io j = P1.io j := fun j hj => xag (by omega);have ioN : P2.io P1.n = a := xac rfl;have l2 : Lt P1 H1 P2 H1 := ⟨xcz _, io, fun _ z => .inl z, fun _ _ e _ => e, fun _ z => z⟩;have le : LtE P H P2 H1 := ⟨xdH l1.n,fun j hj=>(io j (xah hj l1.n)).trans (l1.io j hj),l1.bd,l1.bm,l1.keep,l1.sure,fun j h2 h3=>by
      rcases xaJ j P1.n with z |z
      · rw[io j z];exact l1.nw j h2 z
      · have:j=P1.n:=xaV (xaZ h3) z;rw[this,ioN];exact ha⟩
    have hk2:Hk X.K X.mg P2 H1 (M1 ++ [.lst ds]):=by
      refine⟨by rw[xax, <-hn];rfl,fun j c ej=>?_,fun i j hi hj e=>?_,fun j hj=>?_,h1.here⟩
      · rcases xaJ j P1.n with z |z
        · rw[xaX (by rw[<-hn];exact z)]at ej;rw[io j z];exact(h1.cell j c ej).lt l2 fun _ z=>z
        · have jl:=(xal.mp ej).1;rw[xax,xa2, <-hn]at jl;have:j=P1.n:=by omega
          subst this;rw[xa9 (by rw[hn];exact xaf _),hn,Nat.sub_self]at ej;cases ej;rw[ioN];exact⟨vs,ea,aD.lt l2 is⟩
      · rcases xaJ i P1.n with z |z
        · rcases xaJ j P1.n with y |y
          · rw[io i z,io j y]at e;exact h1.inj i j z y e
          · have:j=P1.n:=xaV (xaZ hj) y;rw[io i z,this,ioN]at e;exact absurd e (nc i z)
        · have iN:i=P1.n:=xaV (xaZ hi) z;rcases xaJ j P1.n with y |y
          · rw[iN,ioN,io j y]at e;exact absurd e.symm (nc j y)
          · rw[iN];exact xaV y (xaZ hj)
      · rcases xaJ j P1.n with z |z
        · rw[io j z];exact h1.bd j z
        · have:j=P1.n:=xaV (xaZ hj) z;rw[this,ioN];exact ba
    exact q P2 _ H1 le hk2 (cA.of hk2 (show Is _ _ _ (.ref _) _ from⟨by show _<P1.n + 1;rw[hn];exact xbO _,by rw[<-hn,ioN]⟩))
  · exact⟨P0,H0,P,Os,env,M,_,_,k,e1,q⟩
end
section
variable {X:Cx}{Wx:XW}{m:Mode}{pos:Pos}
noncomputable def bZ:D->Option D
 |.int i=>some (.int (-i))
 |_=>none
theorem gC {K:Fgx}:BR K (rU fun i=>.int (-i)) bZ:=fun P H d z v Q h i _ q=>by
 unfold bZ at h;split at h
 ·cases h;cases i;exact⟨_,rfl,q _ H (Same.refl H) rfl⟩
 ·cases h
theorem gG (ho:yF X (unaryOp op) r)(po:BR X.K r o)(ha:SE X Wx .bor a f):SE X Wx m (.UnaryOp op a pos) (s1 o f):=
 cg (Xv ho ha) fun _ _ _ h=>zc6 po h
noncomputable def eE (c c':Cp) (f g h:E):E:=fun env M=>bnd (f env M) fun x M1=>bnd (g env M1) fun y M2=>match cD c (vw M2 x) (vw M2 y) with
 |some true=>bnd (h env M2) fun z M3=>(cD c' (vw M3 y) (vw M3 z)).map fun b=>(.v (.bl b),M3)
 |some false=>some (.v (.bl false),M2)
 |none=>none
theorem Rf {c c':Cp}{f g h:E}{st:L2.St}{H:Hp}{Q:VK}(w:tE X.K X.mg Wx m (eE c c' f g h) st H Q):O5 (wN X.K c) (wN X.K c') (tE X.K X.mg Wx .bor f) (tE X.K X.mg Wx .bor g) (tE X.K X.mg Wx .bor h) st H Q:=by
  obtain⟨P0,H0,P,Os,env,M,rr,M',k,e,q⟩:=w;unfold eE at e;rcases bT e with⟨x,M1,e1,e⟩ |⟨c,n,e1,rfl⟩
  · refine aN k e1 fun P1 v1 H1 l1 h1 i1=>?_;have k1:=k.next l1 h1
    rcases bT e with⟨y,M2,e2,e⟩ |⟨c,n,e2,rfl⟩
    · refine aN k1 e2 fun P2 v2 H2 l2 h2 i2=>?_;have k2:=k1.next l2 h2
      have w1:=cH.vw h2 (cH.lt l2 h1 i1);have w2:=cH.vw h2 i2;split at e
      · rename_i ec;refine yW ec w1 w2 ⟨true,rfl,?_⟩;rw[xac rfl];rcases bT e with⟨z,M3,e3,e⟩ |⟨c,n,e3,rfl⟩
        · refine aN k2 e3 fun P3 v3 H3 l3 h3 i3=>?_;rw[xae]at e;obtain⟨b,eb,e⟩:=e;cases e;exact yW eb (cH.vw h3 (cH.lt l3 h2 i2)) (cH.vw h3 i3) (q P3 _ H3 (l1.trans (l2.trans l3)) h3 (cA.of h3 (show Is _ _ _ (.bl b) _ from rfl)))
        · exact aN k2 e3 q
      · rename_i ec;cases e;refine yW ec w1 w2 ⟨false,rfl,?_⟩;rw[xag (by decide)];exact q P2 _ H2 (l1.trans l2) h2 (cA.of h2 (show Is _ _ _ (.bl false) _ from rfl))
      · cases e
    · exact aN k1 e2 q
  · exact aN k e1 q
theorem G9 (hu:X.A.units + 60<cLine)(ha:SE X Wx .bor a f)(hb:SE X Wx .bor b g)(hc:SE X Wx .bor c h)(hm:lastMarks [oZ c1,oZ c2] [b,c]=false:=by with_unfolding_all rfl):SE X Wx m (.Compare a [oZ c1,oZ c2] [b,c] pos) (eE c1 c2 f g h):=
 cg (W9 (nA hu c1) (nA hu c2) ha hb hc hm) fun _ _ _ w=>Rf w
noncomputable def ur (f:E):E:=fun env M=>bnd (f env M) fun d M1=>match vw M1 d with
 |.lst ds=>some (.v (.lst ds),M1)
 |.tup ds=>some (.v (.lst ds),M1)
 |_=>none
theorem zbg (hg:Gl X "list")(hm:X.mg "list"=none)(he:SE X Wx .bor e f)(hs:starEach [e] X.env=(false,eval e X.env)::starEach [] X.env:=by rfl):SN X Wx (.Call (.Name "list" p) [e] [] pos) (ur f):=by
 refine cg (zT QM hg hm boot_list (gj he iK hs) (by x_go) (by x_go) hs rfl) ?_;rintro st H Q ⟨P0,H0,P,Os,env,M,r,M',k,e,q⟩;unfold ur at e;rcases bT e with⟨d,M1,e1,e⟩ |⟨c,n,e1,rfl⟩
 ·refine aN k e1 ?_;have key:∀ds,r=.v (.lst ds)->M'=M1->(∀P1 v1 H1,bH X.K P1 H1 (vw M1 d) v1->∃a vs,v1=.ref a/\(bI X.K H1 a vs\/dJ X.K H1 a vs)/\aD X.K P1 H1 ds vs)->∀P1 v1 H1,LtE P H P1 H1->Hk X.K X.mg P1 H1 M1->cA X.K P1 H1 .bor d v1->
    ∃p ys,[v1]=[V.ref p]/\(bI X.K H1 p ys\/dJ X.K H1 p ys)/\∀l,H1 l=none->Q (.ref l) (upd H1 l (.lst ys)):=by
   rintro ds rfl rfl hv P1 v1 H1 l1 h1 i1;obtain⟨ds',e',q⟩:=q;cases e';obtain⟨a,vs,rfl,sq,is⟩:=hv P1 v1 H1 (cH.vw h1 i1);refine⟨a,vs,rfl,sq,fun p hp=>?_⟩;obtain⟨l2,h2,nc⟩:=uX (vs:=vs) h1 hp;exact q (P1.bar p) p vs _ (l1.trans l2) h2 (l1.sure p hp) (.inr rfl) nc bO (aD.lt (l2.lt h1) is)
  split at e
  ·rename_i ds ev;cases e;exact key ds rfl rfl fun P1 v1 H1 i=>by
    rw[ev]at i;obtain⟨a,vs,e,s,is⟩:=i;exact⟨a,vs,e,.inl s,is⟩
  ·rename_i ds ev;cases e;exact key ds rfl rfl fun P1 v1 H1 i=>by
    rw[ev]at i;obtain⟨a,vs,e,s,is⟩:=i;exact⟨a,vs,e,.inr s,is⟩
  ·cases e
 ·exact aN k e1 q
theorem U6:∀env M r M',ur f env M=some (.v r,M')->∃ds,r=.lst ds:=fun env M r M' e=>by
 unfold ur at e;rcases bT e with⟨ds,M1,e1,e⟩ |⟨c,n,e1,e⟩
 ·split at e
  ·cases e;exact⟨_,rfl⟩
  ·cases e;exact⟨_,rfl⟩
  ·cases e
 ·cases e
end
noncomputable def xH (K:Fgx) (g:G):Sp:=fun vs H Q E=>∀mg,mW K mg 1 g vs H Q E
theorem SM {P:Program}{w:World}{K:Fgx}{mg:Mgx}{base:Heap}{k:Nat}{f:Addr}{fd:FuncData}{ps:List Str}{g:G}(F:FnOk P w K mg base eG k f fd ps (mW K mg 1 g)):FnOk P w K mg base eG k f fd ps (xH K g):=
 ⟨fun vs H Q E h=>F.len vs H Q E (h mg),fun A outer s H args us vs Q E hr he hb hv hs=>F.run A outer s H args us vs Q E hr he hb hv (hs mg)⟩
theorem KC {K:Fgx}{P:Pl}{H:Hp}:∀ns:List Int,aD K P H (ns.map D.int) (ns.map V.int)
 | []=>rfl
 |n::ns=>⟨.int n,_,rfl,rfl,KC ns⟩
theorem UW {K:Fgx}{g:G}{H:Hp}{a:Addr}{ns:List Int}(hg:∃M,g [.lst (ns.map D.int)] []=some (.v (.bl true),M))(hS:bI K H a (ns.map V.int)):xH K g [.ref a] H (fun v _=>v=.bl true) fun _ _ _=>False:=by
 intro mg;obtain⟨M,e⟩:=hg;refine⟨rfl,⟨fun _=>0,0,fun _=>False⟩,[],[.lst (ns.map D.int)],.bl true,M,⟨rfl,fun k c e=>(by cases e),fun j k h=>absurd h (xbZ _),fun k h=>absurd h (xbZ _),fun a z=>z.elim⟩,⟨.ref a,[],rfl,⟨a,ns.map V.int,rfl,?_,KC ns⟩,rfl⟩,e,fun P' v H' _ _ i=>i⟩;rcases hS with h |h
 ·exact .inl ⟨fun z=>z,h⟩
 ·exact .inr h
theorem zbv {l:PySem.W.OpenLaw}{k:Nat}{q:Program}{loose:List Str}{XP:(Mgx)->Heap->Prop}{YP:World->Heap->Prop}{d:DefRec}{K:Params->Fgx}{x:Str}{g:G}
  (hn:l.most=some 63) (hdf:d.params.defaults=[]) (hr:Room k callerA) (hY:∀(w:World) (h:Heap),YP w h->(K w.params).In h)
  (F:∀(w:World) (mg:Mgx) (fa:Addr) (h:Heap),(K w.params).In h->h.Ns mainGlobals mg->mg d.name=some (.ref fa)->
   ∃fd:FuncData,(∀(s:Shared) (u:Value),BindsTo s fd ⟨[u],[]⟩ [(x,u)])/\
    ∀base:Heap,(K w.params).In base->base.Ns mainGlobals mg->FnOk l.prog w (K w.params) mg base eG k fa fd [x] (xH (K w.params) g))
  (hg:∀ns:List Int,ns.length<=63->∃M,g [.lst (ns.map D.int)] []=some (.v (.bl true),M)):PySem.W.WalkO q loose XP YP l.row.toRowW d [] (fun f vs=>PySem.call f vs):=
 L2.zaN (sp:=fun K=>xH K g) hn (by decide) hdf hr hY F (fun K H a ns hl _ hS=>UW (hg ns hl) hS) fun _ _ _ _ z=>z
section
variable {X:Cx}{Wx:XW}{m:Mode}{e:Expr}
theorem gF (h:PE X e (tC (.int i))):SE X Wx m e (aj (.int i)):=(Bc (d:=.int i) h fun _ _=>rfl).bor
theorem xu (h:PE X e (tC (.str z))):SE X Wx m e (aj (.str z)):=(Bc (d:=.str z) h fun _ _=>rfl).bor
theorem G8 (h:PE X e (tC (.bl b))):SE X Wx m e (aj (.bl b)):=(Bc (d:=.bl b) h fun _ _=>rfl).bor
theorem rO (h:PE X e (tC .non)):SE X Wx m e (aj .non):=(Bc (d:=.non) h fun _ _=>rfl).bor
theorem rQ (hN:X.N[i]? =some x)(hv:X.env.scope.names.lookup x=some .local)(hd:(x==("__debug__":Str))=false:=by x_go)(hcd:(x==("__classdict__":Str))=false:=by x_go):SE X Wx m (.Name x pos) (ak i):=(Oi hN (.inl hv) hd hcd).bor
theorem SN.sem (h:SN X Wx e f)(hf:∀env M r M',f env M=some (.v r,M')->∃ds,r=.lst ds):SE X Wx m e f:=(SN.se h hf).bor
end
structure ClsOk (K:Fgx)(mg:Mgx)(c:Str)(C:Addr):Prop where
 mg:mg c=some (.ref C)
 cl:Cls K C
section
variable {X:Cx}{Wx:XW}{m:Mode}{pos:Pos}
def yu (P:Program)(w:World)(K:Fgx)(mg:Mgx)(base:Heap)(k:Nat)(C:Addr)(m:Str)(n:Nat)(g:G):Prop:=
 ∃f fd ps,Meth K C m f/\FnOk P w K mg base eG k f fd ps (mW K mg n g)/\Binds K fd ps []
theorem yu.mono {P:Program}{w:World}{K:Fgx}{mg:Mgx}{base:Heap}{j k:Nat}{C:Addr}{m:Str}{n:Nat}{g:G}(a:yu P w K mg base j C m n g)(h:j<=k):yu P w K mg base k C m n g:=by
 obtain⟨f,fd,ps,h1,h2,h3⟩:=a;exact⟨f,fd,ps,h1,h2.mono h,h3⟩
end
section
variable {X:Cx}{Wx:XW}{m:Mode}{pos:Pos}
def oE (P:Program)(w:World)(K:Fgx)(mg:Mgx)(base:Heap)(k:Nat)(C:Addr)(n:Nat)(g:G):Prop:=
 ∃f fd ps,Mk K C f/\FnOk P w K mg base eG k f fd ps (mW K mg n g)/\Binds K fd ps []
end
end E3
namespace E3
open PySem PySem.Spec PyProof.Rows L2 PySem.W
def zdg (a:Addr)(h h':Heap):Prop:=∀b o,b≠a->h.get? b=some o->h'.get? b=some o
def Low (n:Nat)(p:Array Nat):Prop:=p.size=n/\∀x∈p.toList,x<n
section
variable {n:Nat}{lt:Nat->Nat->Option Bool}(hn:0<n)(tot:∀i j,i<n->j<n->∃b,lt i j=some b)
include hn tot
end
end E3
namespace E3
open PySem L2
section
variable {env:Env}{M M1:Mm}{f g h c:E}{d e:D}{i j:Int}{n k:Nat}{z:Str}{b:Bool}{ds es:List D}{s t:S}{x:Str}
def dj (g:S):OS->OS
 |some (.nx e,M1)=>g e M1
 |o=>o
theorem wM:aA s t env M=dj t (s env M):=rfl
theorem j_ {e:Env}:dj t (some (.nx e,M))=t e M:=rfl
theorem G3:dj t (some (.rt d,M))=some (.rt d,M):=rfl
theorem GJ {e:Env}:dj t (some (.bk e,M))=some (.bk e,M):=rfl
theorem GP {e:Env}:dj t (some (.ct e,M))=some (.ct e,M):=rfl
theorem GQ {a:Int}:dj t (some (.ex x a,M))=some (.ex x a,M):=rfl
theorem YL:aC env M=some (.nx env,M):=rfl
noncomputable def yj (M:Mm):Option Slot->O
 |some (.val d)=>some (.v d,M)
 |_=>none
theorem Gy:ak k env M=yj M env[k]? :=rfl
theorem G4:yj M (some (.val d))=some (.v d,M):=rfl
theorem YH:aj d env M=some (.v d,M):=rfl
def mapR (M:Mm)(o:Option D):O:=o.map fun z=>(.v z,M)
theorem zcZ:mapR M (some d)=some (.v d,M):=rfl
def mq (o:D->Option D)(r:O):O:=bnd r fun d M=>mapR M (o (vw M d))
theorem Yu {o:D->Option D}:s1 o f env M=mq o (f env M):=rfl
theorem Zw {o:D->Option D}:mq o (some (.v d,M))=mapR M (o (vw M d)):=rfl
noncomputable def su (o:D->D->Option D) (d:D) (r:O):O:=bnd r fun e M=>mapR M (o (vw M d) (vw M e))
noncomputable def yc (o:D->D->Option D) (k:Mm->O) (r:O):O:=bnd r fun d M=>su o d (k M)
theorem Yv {o:D->D->Option D}:s2 o f g env M=yc o (g env) (f env M):=rfl
theorem Zx {o:D->D->Option D}{q:Mm->O}:yc o q (some (.v d,M))=su o d (q M):=rfl
theorem GF {o:D->D->Option D}:su o d (some (.v e,M))=mapR M (o (vw M d) (vw M e)):=rfl
theorem zcD:vw M (.int i)=.int i:=rfl
theorem zco:vw M (.str z)=.str z:=rfl
theorem Ij:vw M (.bl b)=.bl b:=rfl
theorem zcJ:vw M .non=.non:=rfl
theorem zct:vw M (.tup ds)=.tup ds:=rfl
theorem P_:vw M (.lst ds)=.lst ds:=rfl
theorem Zj:fD f env M=mq (fun d=>(fX d).map .bl) (f env M):=rfl
theorem Zb:z8 f env M=mq (fun d=>(fX d).map fun b=>.bl (!b)) (f env M):=rfl
noncomputable def wz (r:O):O:=bnd r fun d M=>match d with
 |.bl b=>some (.v (.bl (!b)),M)
 |_=>none
theorem Za:fW f env M=wz (f env M):=rfl
theorem zcO:wz (some (.v (.bl b),M))=some (.v (.bl (!b)),M):=rfl
noncomputable def lX (k1 k2:Mm->O) (r:O):O:=bnd r fun d M=>match d with
 |.bl b=>if b=true then k1 M else k2 M
 |_=>none
theorem Yw:bJ f g env M=lX (g env) (fun M=>some (.v (.bl false),M)) (f env M):=rfl
theorem Gv:mO f g env M=lX (fun M=>some (.v (.bl true),M)) (g env) (f env M):=rfl
theorem YZ:mL c f g env M=lX (f env) (g env) (c env M):=rfl
theorem zcQ {k1 k2:Mm->O}:lX k1 k2 (some (.v (.bl b),M))=if b=true then k1 M else k2 M:=rfl
noncomputable def lQ (d:D):Option (ResA×Mm)->Option (ResA×Mm)
 |some (.v ds,M2)=>some (.v (d::ds),M2)
 |some (.x c n,M2)=>some (.x c n,M2)
 |none=>none
noncomputable def Dp (k:Mm->Option (ResA×Mm)):O->Option (ResA×Mm)
 |some (.v d,M1)=>lQ d (k M1)
 |some (.x c n,M1)=>some (.x c n,M1)
 |none=>none
theorem Y_:aq env M=some (.v [],M):=rfl
theorem YJ {fs:EA}:ao f fs env M=Dp (fs env) (f env M):=rfl
theorem Z_ {q:Mm->Option (ResA×Mm)}:Dp q (some (.v d,M))=lQ d (q M):=rfl
theorem Z8:lQ d (some (.v ds,M))=some (.v (d::ds),M):=rfl
noncomputable def uU (o:List D->Option D) (r:Option (ResA×Mm)):O:=gw r fun ds M=>mapR M (o (ds.map (vw M)))
theorem Y9 {o:List D->Option D}{fs:EA}:sN o fs env M=uU o (fs env M):=rfl
theorem r_n {o:List D->Option D}:uU o (some (.v ds,M))=mapR M (o (ds.map (vw M))):=rfl
noncomputable def iR (k:List D->Mm->O):Option (ResA×Mm)->O
 |some (.v ds,M)=>k ds M
 |some (.x c n,M)=>some (.x c n,M)
 |none=>none
theorem ZQ {q:List D->Mm->O}:iR q (some (.v ds,M))=q ds M:=rfl
theorem Zm {fs:EA}:aG fs env M=iR (fun ds M1=>if ds.length<=sizeLine then some (.v (.tup ds),M1) else none) (fs env M):=rfl
theorem Y7 {fs:EA}:bF fs env M=iR (fun ds M1=>if ds.length<=sizeLine then some (.v (.lst ds),M1) else none) (fs env M):=rfl
def Jq:O->O
 |some (.v d,M)=>some (.v d,M)
 |_=>none
theorem Z1:Jq (some (.v d,M))=some (.v d,M):=rfl
theorem Yz {u:G}{fs:EA}:bV u fs env M=iR (fun ds M1=>Jq (u ds M1)) (fs env M):=rfl
noncomputable def gA (k:D->Mm->O):O->O
 |some (.v d,M)=>k d M
 |some (.x c n,M)=>some (.x c n,M)
 |none=>none
theorem GK {q:D->Mm->O}:gA q (some (.v d,M))=q d M:=rfl
noncomputable def Jw (M:Mm):D->O
 |.lst ds=>some (.v (.ref M.length),M ++ [.lst ds])
 |_=>none
theorem Z2:Jw M (.lst ds)=some (.v (.ref M.length),M ++ [.lst ds]):=rfl
theorem YF:z7 f env M=gA (fun d M1=>Jw M1 d) (f env M):=rfl
noncomputable def K7 (M:Mm):D->O
 |.lst ds=>some (.v (.lst ds),M)
 |.tup ds=>some (.v (.lst ds),M)
 |_=>none
theorem zbn:K7 M (.lst ds)=some (.v (.lst ds),M):=rfl
theorem Y5:ur f env M=gA (fun d M1=>K7 M1 (vw M1 d)) (f env M):=rfl
noncomputable def Hq (d:D) (lo:Option Int):Option (Option Int×Mm)->O
 |some (hi,M3)=>mapR M3 (ux (vw M3 d) lo hi)
 |none=>none
noncomputable def Oq (d:D) (k:Mm->Option (Option Int×Mm)):Option (Option Int×Mm)->O
 |some (lo,M2)=>Hq d lo (k M2)
 |none=>none
theorem Gx {l u:Env->Mm->Option (Option Int×Mm)}:rM f l u env M=gA (fun d M1=>Oq d (u env) (l env M1)) (f env M):=rfl
theorem zcE {lo:Option Int}{q:Mm->Option (Option Int×Mm)}:Oq d q (some (lo,M))=Hq d lo (q M):=rfl
theorem zcV {lo hi:Option Int}:Hq d lo (some (hi,M))=mapR M (ux (vw M d) lo hi):=rfl
theorem Zd:t_ env M=some (none,M):=rfl
noncomputable def wF:O->Option (Option Int×Mm)
 |some (.v (.int i),M)=>some (some i,M)
 |_=>none
theorem Zc:rm f env M=wF (f env M):=rfl
theorem zcp:wF (some (.v (.int i),M))=some (some i,M):=rfl
noncomputable def cR (k:D->Mm->OS):O->OS
 |some (.v d,M)=>k d M
 |some (.x c n,M)=>some (.ex c n,M)
 |none=>none
theorem ZX {q:D->Mm->OS}:cR q (some (.v d,M))=q d M:=rfl
theorem Mu:aM k f env M=cR (fun d M1=>if k<env.length then some (.nx (env.set k (.val d)),M1) else none) (f env M):=rfl
noncomputable def Ld (k:Nat) (env:Env) (M:Mm):D->OS
 |.lst ds=>if k<env.length then some (.nx (env.set k (.own ds)),M) else none
 |_=>none
theorem zb1:Ld k env M (.lst ds)=if k<env.length then some (.nx (env.set k (.own ds)),M) else none:=rfl
theorem Y8:wY k f env M=cR (fun d M1=>Ld k env M1 d) (f env M):=rfl
theorem Zf:aQ f env M=cR (fun d M1=>some (.rt d,M1)) (f env M):=rfl
theorem YK:nW f env M=cR (fun _ M1=>some (.nx env,M1)) (f env M):=rfl
noncomputable def Ks (s t:Mm->OS) (M:Mm):D->OS
 |.bl b=>if b=true then s M else t M
 |_=>none
theorem GX {q r:Mm->OS}:Ks q r M (.bl b)=if b=true then q M else r M:=rfl
theorem rE:cQ c s t env M=cR (fun d M1=>Ks (s env) (t env) M1 d) (c env M):=rfl
noncomputable def vo (k:Nat) (env:Env) (M:Mm):Option Slot->OS
 |some (.own ds)=>some (.nx (env.set k (.val (.lst ds))),M)
 |_=>none
theorem YQ:kj k env M=vo k env M env[k]? :=rfl
theorem zcF:vo k env M (some (.own ds))=some (.nx (env.set k (.val (.lst ds))),M):=rfl
noncomputable def uR (k:Nat) (env:Env) (o:O):Option Slot->OS
 |some (.own ds)=>cR (fun d M1=>if ds.length<sizeLine then some (.nx (env.set k (.own (ds ++ [d]))),M1) else none) o
 |_=>none
theorem Yx:d9 k f env M=uR k env (f env M) env[k]? :=rfl
theorem ZP {o:O}:uR k env o (some (.own ds))=cR (fun d M1=>if ds.length<sizeLine then some (.nx (env.set k (.own (ds ++ [d]))),M1) else none) o:=rfl
noncomputable def forR (k:Nat) (t:S) (env:Env):Option (ResA×Mm)->OS
 |some (.v ds,M1)=>loopS k t ds env M1
 |some (.x c n,M1)=>some (.ex c n,M1)
 |none=>none
theorem YM {fs:EA}:eF k fs t env M=forR k t env (fs env M):=rfl
theorem zcY:forR k t env (some (.v ds,M))=loopS k t ds env M:=rfl
noncomputable def vX:O->Option (ResA×Mm)
 |some (.v (.lst ds),M1)=>some (.v ds,M1)
 |some (.x c n,M1)=>some (.x c n,M1)
 |_=>none
theorem YS:fP f env M=vX (f env M):=rfl
theorem zbL:vX (some (.v (.lst ds),M))=some (.v ds,M):=rfl
noncomputable def M9:Option (ResA×Mm)->Option (ResA×Mm)
 |some (.v [.int j],M1)=>if -1000000000<=j/\j<=1000000000 then some (.v ((List.range j.toNat).map fun(k:Nat)=>.int (0 + k)),M1) else none
 |some (.x c n,M1)=>some (.x c n,M1)
 |_=>none
theorem Zg {fs:EA}:nJ fs env M=M9 (fs env M):=rfl
theorem GZ (h: -1000000000<=i/\i<=1000000000):M9 (some (.v [.int i],M))=some (.v ((List.range i.toNat).map fun(k:Nat)=>.int (0 + k)),M):=xac h
theorem wL {m:Nat}{t:S}:cI m t ds M=bB (t (ds.map .val ++ List.replicate (m - ds.length) .un) M):=rfl
theorem zbH:bB (some (.rt d,M))=some (.v d,M):=rfl
theorem zca {e:Env}:bB (some (.nx e,M))=some (.v .non,M):=rfl
theorem Vq:aX (.int i) (.int j)=some (.int (i + j)):=rfl
theorem Vr:aX (.lst ds) (.lst es)=if ds.length + es.length<=sizeLine then some (.lst (ds ++ es)) else none:=rfl
theorem V_:iD (.int i) (.int j)=some (.int (i - j)):=rfl
theorem V0:cB (.int i) (.int j)=if i.natAbs<18446744073709551616\/j.natAbs<18446744073709551616\/(i.natAbs.log2<10000/\j.natAbs.log2<10000) then some (.int (i * j)) else none:=rfl
theorem Vy:iC (.int i) (.int j)=if 0<j/\j.natAbs<1073741824 then some (.int (i / j)) else none:=rfl
theorem VR:oMod (.int i) (.int j)=if 0<j then some (.int (i % j)) else none:=rfl
theorem V6:fB (.int i) (.int j)=if 0<=j/\j.natAbs<=1000000/\i.natAbs<18446744073709551616 then some (.int (i ^ j.toNat)) else none:=rfl
theorem V4:bZ (.int i)=some (.int (-i)):=rfl
theorem FQ:aJ .lt (.int i) (.int j)=some (.bl (decide (i<j))):=rfl
theorem FP:aJ .le (.int i) (.int j)=some (.bl (decide (i<=j))):=rfl
theorem FN:aJ .gt (.int i) (.int j)=some (.bl (decide (j<i))):=rfl
theorem FJ:aJ .ge (.int i) (.int j)=some (.bl (decide (j<=i))):=rfl
theorem Vu:aJ .eq (.int i) (.int j)=some (.bl (decide (i=j))):=by
 show(kW _ _).map D.bl=_
 simp[kW,dF,D.flat,D.dep,D.eq]
 rw[xa5];simp
theorem V1:aJ .ne (.int i) (.int j)=some (.bl (!decide (i=j))):=by
 show(ni _ _).map D.bl=_
 simp[ni,dF,D.flat,D.dep,D.eq]
 rw[xa5];simp
theorem Lz (h:D.deps ds<=49):aJ .eq (.lst ds) (.lst [])=some (.bl ds.isEmpty):=by
 show(kW _ _).map D.bl=_;unfold kW;rw[xac ⟨by simp[dF,D.flat,D.dep,D.deps],by show D.deps ds + 1<=50;omega⟩];cases ds<;>rfl
theorem Vv (h:d.dep<=50):aJ .eq d d=some (.bl true):=by
 show(kW d d).map D.bl=_;unfold kW;rw[xac ⟨by simp[dF,h],h⟩,D.eq_refl];rfl
theorem V2 (h:d.dep<=50):aJ .ne d d=some (.bl false):=by
 show(ni d d).map D.bl=_;unfold ni;rw[xac ⟨by simp[dF,h],h⟩,D.eq_refl];rfl
theorem zP:aY (.lst ds) (.int i)=cP ds i:=rfl
theorem wB:aY (.tup ds) (.int i)=cP ds i:=rfl
theorem VJ:dO [.lst ds]=some (.int ds.length):=rfl
theorem VN:dO [.tup ds]=some (.int ds.length):=rfl
theorem VP:lM [.int i,.int j]=some (.int (if j > i then j else i)):=rfl
theorem Wc:fX (.lst ds)=some (!ds.isEmpty):=rfl
theorem Wb:fX (.bl b)=some b:=rfl
theorem V8 {lo hi:Option Int}:ux (.str z) lo hi=if z.length<=sizeLine then some (.str (Txt.slice z lo hi)) else none:=rfl
theorem V7 {lo hi:Option Int}:ux (.lst ds) lo hi=some (.lst (fO ds lo hi)):=rfl
end
noncomputable def Step (J:Env->Mm->Prop) (Q:OS->Prop):OS->Prop
 |some (.nx e,M)=>J e M
 |some (.ct e,M)=>J e M
 |some (.bk e,M)=>Q (some (.nx e,M))
 |some (.rt d,M)=>Q (some (.rt d,M))
 |some (.ex c n,M)=>Q (some (.ex c n,M))
 |none=>False
theorem K9 {i:Nat}{body:S}{ds:List D}{env:Env}{M:Mm}(Q:OS->Prop)(J:Nat->Env->Mm->Prop)(h0:J 0 env M)
    (hs:∀(k:Nat) d env M,ds[k]? =some d->J k env M->i<env.length/\Step (J (k + 1)) Q (body (env.set i (.val d)) M)) (hd:∀env M,J ds.length env M->Q (some (.nx env,M))):Q (loopS i body ds env M):=by
  have key:∀(m k:Nat) (env:Env) (M:Mm),m + k=ds.length->J k env M->Q (loopS i body (ds.drop k) env M):=by
    intro m
    induction m with
    |zero=>
      intro k env M hk hJ;have e:k=ds.length:=by omega
      subst e;rw[xbz];exact hd env M hJ
    |succ m ih=>
      intro k env M hk hJ;have hlt:k<ds.length:=by omega
      obtain⟨hi,h1⟩:=hs k ds[k] env M (xai hlt) hJ;rw[xaY hlt];simp only[loopS,hi,xbU]
      cases e:body (env.set i (.val ds[k])) M with
      |none=>rw[e]at h1;exact h1.elim
      |some o=>
        rw[e]at h1;obtain⟨o,M'⟩:=o
        cases o with
        |nx e'=>exact ih (k + 1) e' M' (by omega) h1
        |ct e'=>exact ih (k + 1) e' M' (by omega) h1
        |bk e'=>exact h1
        |rt d=>exact h1
        |ex c n=>exact h1
  have:=key ds.length 0 env M (by omega) h0
  rwa [xbK]at this
end E3
namespace E3
open PySem PySem.Spec PyProof.Rows L2
noncomputable def XN (H:Hp) (n:Int):Option Addr->Prop
 |none=>n=0
 |some d=>∃fs,H d=some (.xd fs)/\fs.lookup ("at":Str)=some (.int (n - 1))/\n≠0
noncomputable def XQ (K:Fgx) (mg:Mgx) (P:Pl) (H:Hp) (M':Mm) (Q:VK) (E:XK):Res->Prop
 |.v d=>∀P' v H',LtE P H P' H'->Hk K mg P' H' M'->Is K P' H' d v->Q v H'
 |.x c n=>∀P' H' C dx,LtE P H P' H'->Hk K mg P' H' M'->mg c=some (.ref C)->XN H' n dx->E (.ref C) dx H'
noncomputable def xJ (K:Fgx) (mg:Mgx) (n:Nat) (g:G):Sp:=fun vs H Q E=>vs.length=n/\∃P M ds r M',Hk K mg P H M/\aD K P H ds vs/\g ds M=some (r,M')/\XQ K mg P H M' Q E r
mutual
theorem Is.away {K:Fgx}{P:Pl}{H H':Hp}(s:∀b o,H b=some o->(∀g,o≠ .ext g)->H' b=some o):∀{d:D} {v:V},Is K P H d v->Is K P H' d v
  |.non,_,h=>h
  |.bl _,_,h=>h
  |.int _,_,h=>h
  |.str _,_,h=>h
  |.tup ds,_,h=>by
    obtain⟨a,vs,e,q,r⟩:=h;refine⟨a,vs,e,?_,aD.away s r⟩;rcases q with(q |⟨o,q⟩) |q
    · exact .inl (.inl (s _ _ q fun _ z=>nomatch z))
    · exact .inl (.inr ⟨o,s _ _ q fun _ z=>nomatch z⟩)
    · exact .inr q
  |.lst ds,_,h=>by
    obtain⟨a,vs,e,q,r⟩:=h;refine⟨a,vs,e,?_,aD.away s r⟩;rcases q with⟨n,q |⟨o,q⟩⟩ |q
    · exact .inl ⟨n,.inl (s _ _ q fun _ z=>nomatch z)⟩
    · exact .inl ⟨n,.inr ⟨o,s _ _ q fun _ z=>nomatch z⟩⟩
    · exact .inr q
  |.ref k,_,h=>h
theorem aD.away {K:Fgx}{P:Pl}{H H':Hp}(s:∀b o,H b=some o->(∀g,o≠ .ext g)->H' b=some o):∀{ds:List D} {vs:List V},aD K P H ds vs->aD K P H' ds vs
  | [],_,h=>h
  |_::_,_,h=>by
    obtain⟨v,r,e,p,q⟩:=h;exact⟨v,r,e,Is.away s p,aD.away s q⟩
end
theorem Hk.away {K:Fgx}{mg:Mgx}{P:Pl}{H H':Hp}{M:Mm}(h:Hk K mg P H M)(s:∀b o,H b=some o->(∀g,o≠ .ext g)->H' b=some o)(t:∀b,H' b=none->H b=none):Hk K mg P H' M:=by
  refine⟨h.n,fun k c e=>?_,h.inj,h.bd,fun a z q=>h.here a z (t a q)⟩;have:=h.cell k c e
  cases c with
  |lst ds=>
    obtain⟨vs,e1,q⟩:=this;exact⟨vs,s _ _ e1 (fun _ z=>nomatch z),aD.away s q⟩
  |obj c fs=>
    obtain⟨C,dx,gs,e1,e2,e3,q⟩:=this;exact⟨C,dx,gs,e1,s _ _ e2 (fun _ z=>nomatch z),e3,aD.away s q⟩
  |dct kvs=>
    obtain⟨vs,e1,e2,q⟩:=this;exact⟨vs,s _ _ e1 (fun _ z=>nomatch z),e2,aD.away s q⟩
  |dcf kvs=>
    obtain⟨vs,ob,es,ep,e1,eD,e2,q⟩:=this;exact⟨vs,ob,es,ep,s _ _ e1 (fun _ z=>nomatch z),eD,e2,aD.away s q⟩
structure XFit (X:Cx)(Wx:XW):Prop where
 xr:∀pins σ H s a C dx c n P0 H0 P M,Inv X pins σ H s->H a=some (xo a C dx true)->¬ P.bd a->H0 a=none->LtE P0 H0 P H->Hk X.K X.mg P H M->X.mg c=some (.ref C)->XN H n dx->Wx P0 H0 M c n->X.xe (.ref a) s
section
variable {X:Cx}{Wx:XW}{pos:Pos}
noncomputable def nY (c:Str) (f:E):S:=fun env M=>bQ (f env M) fun _ M1=>some (.ex c 0,M1)
theorem OD (F:XFit X Wx)(hc:X.calm=true)(m:X.mg c=some (.ref C))(q1:aV X.K C=true)(q2:sH X.K C=true)(kp:PySem.W.keepIn X.K (.ref C)=true)(hg:Gl X c)(he:SE X Wx .val e f)(hdb:(c==("__debug__":Str))=false:=by x_go)
  (hs:starEach [e] X.env=[(false,eval e X.env)]:=by rfl):SS X Wx (.Raise (some (.Call (.Name c p) [e] [] q)) none pos) (nY c f):=by
 refine eO (Mp (W:=fun a C' dx H=>dx=none/\C'=C/\∃P0 H0 P M,¬ P.bd a/\H0 a=none/\LtE P0 H0 P H/\Hk X.K X.mg P H M/\Wx P0 H0 M c 0) (Xp q1 q2 kp hg m he hdb hs) hc fun pins σ H s a C' dx I ea ⟨e1,e2,P0,H0,P,M,b,n,l,h,w⟩=>?_) ?_
 ·subst e1 e2;exact F.xr pins σ H s a _ none c 0 P0 H0 P M I ea b n l h m rfl w
 ·rintro D st H ⟨P0,H0,P,Os,env,M,out,M',k,e,q⟩;unfold nY at e;rcases eN e with⟨d,M1,e1,e⟩ |⟨c,n,e1,rfl⟩
  ·cases e;refine⟨P0,H0,P,Os,env,M,_,_,k,e1,fun P1 v H1 l1 h1 i1=>⟨rfl,fun a ha=>⟨a,C,none,rfl,bO,q1,rfl,rfl,P0,H0,P1,_,h1.new a ha,?_,?_,?_,q⟩⟩⟩
   ·exact k.base.sure a (l1.sure a ha)
   ·exact k.base.trans (l1.trans (LtE.same (nZ ha)))
   ·exact h1.same (nZ ha)
  ·exact⟨P0,H0,P,Os,env,M,_,_,k,e1,q⟩
end
section
variable {P:Program}{w:World}{K:Fgx}{mg:Mgx}{base:Heap}{k:Nat}{x qual:Str}{st:Stmt}{f:Addr}{fd:FuncData}{N ps:List Str}{b:S}
abbrev kZ (P:Program)(w:World)(K:Fgx)(mg:Mgx)(base:Heap)(N:List Str)(qual:Str)(st:Stmt)(f:Addr)(cdv:Value)(A:Around)(outer:List PySem.Env)(s:Shared)(H:Hp)(E:XK):Cx:=cU (gk P w) P w K mg base N qual (bw st) f cdv A outer s H E
end
section
variable {P:Program}{w:World}{K:Fgx}{mg:Mgx}{base:Heap}{k:Nat}{x qual:Str}{st:Stmt}{f:Addr}{fd:FuncData}{N ps:List Str}{b:S}
theorem S5 (F:FnOk P w K mg base (gk P w) k f fd ps sp):FnOk P w K mg base eG k f fd ps (fun vs H Q _=>sp vs H Q E0):=
 ⟨fun vs H Q E h=>F.len vs H Q E0 h,fun A outer s H args us vs Q E hr he hb hv hs=>xb3 (F.run A outer s H args us vs Q E0 hr he hb hv hs) fun r s' z=>by
  cases r with
  |error e=>obtain⟨_,_,_,_,_,_,_,_,_,_,_,_,_,_,z⟩:=z;exact z
  |ok fl=>cases fl<;>exact z⟩
theorem DX (F:FnOk P w K mg base (gk P w) k f fd ps (xJ K mg n g)):FnOk P w K mg base eG k f fd ps (mW K mg n g):=by
 have F0:=S5 F;refine⟨fun vs H Q E h=>F0.len vs H Q E ?_,fun A outer s H args us vs Q E hr he hb hv hs=>F0.run A outer s H args us vs Q E hr he hb hv ?_⟩
 ·obtain⟨hl,P,M,ds,d,M',hk,is,e,q⟩:=h;exact⟨hl,P,M,ds,.v d,M',hk,is,e,q⟩
 ·obtain⟨hl,P,M,ds,d,M',hk,is,e,q⟩:=hs;exact⟨hl,P,M,ds,.v d,M',hk,is,e,q⟩
def uF (P:Program)(w:World)(K:Fgx)(mg:Mgx)(base:Heap)(k:Nat)(C:Addr)(m:Str)(n:Nat)(g:G):Prop:=
 ∃f fd ps,Meth K C m f/\FnOk P w K mg base (gk P w) k f fd ps (xJ K mg n g)/\Binds K fd ps []
def uE (P:Program)(w:World)(K:Fgx)(mg:Mgx)(base:Heap)(k:Nat)(C:Addr)(n:Nat)(g:G):Prop:=
 ∃f fd ps,Mk K C f/\FnOk P w K mg base (gk P w) k f fd ps (xJ K mg n g)/\Binds K fd ps []
def fL (P:Program)(w:World)(K:Fgx)(mg:Mgx)(base:Heap)(k:Nat)(f:Str)(n:Nat)(g:G):Prop:=
 ∃fa fd ps,mg f=some (.ref fa)/\PySem.W.keepIn K (.ref fa)=true/\FnOk P w K mg base (gk P w) k fa fd ps (xJ K mg n g)/\Binds K fd ps []
theorem uF.quiet (a:uF P w K mg base k C m n g):yu P w K mg base k C m n g:=by
 obtain⟨f,fd,ps,h1,h2,h3⟩:=a;exact⟨f,fd,ps,h1,DX h2,h3⟩
theorem uE.quiet (a:uE P w K mg base k C n g):oE P w K mg base k C n g:=by
 obtain⟨f,fd,ps,h1,h2,h3⟩:=a;exact⟨f,fd,ps,h1,DX h2,h3⟩
theorem fL.quiet (a:fL P w K mg base k x n g):bC P w K mg base k x n g:=by
 obtain⟨fa,fd,ps,h1,h2,h3,h4⟩:=a;exact⟨fa,fd,ps,[],[],_,h1,h2,DX h3,h4,.nil,fun vs H Q E h=>by rw[xa4];exact h⟩
theorem fL.mono (a:fL P w K mg base j x n g)(h:j<=k):fL P w K mg base k x n g:=by
 obtain⟨f,fd,ps,h1,h2,h3,h4⟩:=a;exact⟨f,fd,ps,h1,h2,h3.mono h,h4⟩
end
end E3
namespace L2
open PySem PySem.Spec PyProof.Rows
section
variable {X:Cx}{CX:eV}{k:Nat}{f C:Addr}{fd:FuncData}{ps:List Str}{sp:Sp}{x m:Str}{p pos apos:Pos}{e o:Expr}{es:List Expr}{ta:TE}{t:TA}{Ex:St->XK}
def BL (CX:eV)(X:Cx)(Ex:St->XK):Prop:=∀pins σ H s e s',Inv X pins σ H s->CX X.stack H s (Ex σ) e s'->X.xe e s'
end
end L2
namespace E3
open PySem PySem.Spec PyProof.Rows L2
section
variable {X:Cx}{Wx:XW}{pos:Pos}
def SX (X:Cx)(e:Expr)(f:E):Prop:=∀Ex:L2.St->XK,BL (gk X.prog X.w) X Ex->PE X e fun st H Q=>∃P0 H0 P Os env M r M',Ok X.K X.mg P0 H0 P Os H M st env/\f env M=some (r,M')/\XQ X.K X.mg P H M' Q (Ex st) r
theorem XQ.lt {K:Fgx}{mg:Mgx}{P P1:Pl}{H H1:Hp}{M':Mm}{Q:VK}{E:XK}{r:Res}(l:LtE P H P1 H1)(q:XQ K mg P H M' Q E r):XQ K mg P1 H1 M' Q E r:=by
 cases r with
 |v d=>exact fun P' v H' l' h i=>q P' v H' (l.trans l') h i
 |x c n=>exact fun P' H' C dx l' h m xn=>q P' H' C dx (l.trans l') h m xn
noncomputable def rK (g:G) (fs:EA):E:=fun env M=>match fs env M with
 |some (.v ds,M1)=>g ds M1
 |_=>none
theorem Bl (a:fL X.prog X.w X.K X.mg X.base k f n g)(hr:Room k X.A)(hg:Gl X f)(ha:SA X W0 .val (e::es) fs)(hn:uI n fs)(hdb:(f==("__debug__":Str))=false:=by x_go)
  (he:starEach (e::es) X.env=(false,eval e X.env)::starEach es X.env:=by rfl) (hpl:(backTo pos (starEach es X.env)).any (·.1)=false:=by rfl):SX X (.Call (.Name f p) (e::es) [] pos) (rK g fs):=by
 obtain⟨fa,fd,ps,hm,hk,F,hb⟩:=a;intro Ex hx;refine cg (W8 F hr hg hm hk hb .nil hx ha hdb he hpl) ?_;rintro st H Q ⟨P0,H0,P,Os,env,M,r,M',k,e,q⟩;unfold rK at e;split at e
 ·rename_i ds M1 e1;exact ⟨P0,H0,P,Os,env,M,_,_,k,e1,fun P1 vs H1 l1 h1 i1=>by
   dsimp only;rw[xa4];exact⟨by rw[i1.len];exact hn _ _ _ _ e1,P1,M1,ds,r,_,h1,i1.iss,e,q.lt l1⟩⟩
 ·cases e
noncomputable def Qg (K:Fgx) (mg:Mgx) (E:XK) (P0:Pl) (H0:Hp) (P:Pl) (H:Hp) (M':Mm) (D:Ends):Out->Prop
 |.ex c n=>∀P' H' C dx,LtE P H P' H'->Hk K mg P' H' M'->mg c=some (.ref C)->XN H' n dx->E (.ref C) dx H'
 |.nx env=>Post K mg W0 P0 H0 P H M' D (.nx env)
 |.bk env=>Post K mg W0 P0 H0 P H M' D (.bk env)
 |.ct env=>Post K mg W0 P0 H0 P H M' D (.ct env)
 |.rt d=>Post K mg W0 P0 H0 P H M' D (.rt d)
noncomputable def Bo (K:Fgx) (mg:Mgx) (Ex:L2.St->XK) (b:S):TS:=fun D st H=>∃P0 H0 P Os env M out M',Ok K mg P0 H0 P Os H M st env/\b env M=some (out,M')/\Qg K mg (Ex st) P0 H0 P H M' D out
def BZ (X:Cx)(s:Stmt)(b:S):Prop:=∀Ex:L2.St->XK,BL (gk X.prog X.w) X Ex->PS X s (Bo X.K X.mg Ex b)
def BX (X:Cx)(ss:List Stmt)(b:S):Prop:=∀Ex:L2.St->XK,BL (gk X.prog X.w) X Ex->dX X ss (Bo X.K X.mg Ex b)
theorem Jm (h:BZ X s b):BX X [s] b:=fun Ex hx=>Ye (h Ex hx)
theorem zbu (h:SX X e f)(hs:swapsWith e none pos.line X.env=pure false:=by rfl):BZ X (.Expr e pos) (nW f):=by
 intro Ex hx;refine eO (wJ (h Ex hx) hs) ?_;rintro D st H ⟨P0,H0,P,Os,env,M,out,M',k,e,q⟩;unfold nW at e;rcases eN e with⟨d,M1,e1,e⟩ |⟨c,n,e1,rfl⟩
 ·cases e;exact⟨P0,H0,P,Os,env,M,_,_,k,e1,fun P1 v H1 l1 h1 i1=>q _ _ _ _ (l1.lt k.hk) (k.next l1 h1)⟩
 ·exact⟨P0,H0,P,Os,env,M,_,_,k,e1,q⟩
theorem zch (hN:X.N.Nodup)(hi:X.N[i]? =some x)(hx:Loc X.env.scope x)(h:SX X e f)(hs:swapsWith e (some (.Name x pos')) pos.line X.env=pure false:=by rfl)
  (hf:X.fn x=true\/X.env.scope.names.lookup x=some .local:=by first |exact .inl rfl |exact .inr rfl):BZ X (.Assign [.Name x pos'] e pos) (aM i f):=by
 intro Ex hX;refine eO (Gh hN hi hx (h Ex hX) hs hf) ?_;rintro D st H ⟨P0,H0,P,Os,env,M,out,M',k,e,q⟩;unfold aM at e;rcases eN e with⟨d,M1,e1,e⟩ |⟨c,n,e1,rfl⟩
 ·split at e
  ·rename_i hl;cases e;exact⟨P0,H0,P,Os,env,M,_,_,k,e1,fun P1 v1 H1 l1 h1 i1=>q _ _ _ _ (l1.lt k.hk) ((k.next l1 h1).asg hl i1)⟩
  ·cases e
 ·exact⟨P0,H0,P,Os,env,M,_,_,k,e1,q⟩
end
end E3
namespace L2
open PySem PySem.Spec PyProof.Rows
section
variable {prog:Program}{w:World}{A:Around}{E:Value->Shared->Prop}{s:Shared}{K:Fgx}{x C:Addr}{ox:Obj}{od:Option Obj}{name:Str}{tk:Tok}
theorem R7 (hc:(PySem.W.clsIn K C).isSome=true)(ha:PySem.W.findIn K (.ref C) name=some (some a))(hg:PySem.W.specialIn K a "__get__"=some (some g))(ht:PySem.W.takesIn K a=some true):PySem.W.findObj K C od name=some (.bind g a):=by
 obtain⟨cd,hc⟩:=xcQ.mp hc;unfold PySem.W.findObj;rw[hc,Option.bind_some,ha,Option.bind_some]
 simp[hg,ht]
theorem zaV (X:K.In s.heap)(q:m7 K C=true)(I:PySem.W.InstAt s.heap x ox C od)(h1:PySem.W.hasDictIn K C=true)(h2:PySem.W.findIn K (.ref C) "__class__"=some (some (.builtin "object.__class__")))
  (h3:PySem.W.specialIn K (.builtin "object.__class__") "__get__"=some (some (.builtin "getset_descriptor.__get__"))) (h4:PySem.W.takesIn K (.builtin "object.__class__")=some true) (h5:PySem.W.mroIn K C (.type "object")=some true)
  (k:Q (some (.ref C)) {s with toks:=s.toks + 1}):wpAny (model prog w) A (getAttr? (.ref x) "__class__") Q E s:=by
 have hf:PySem.W.findObj K C od "__class__"=some (.bind (.builtin "getset_descriptor.__get__") (.builtin "object.__class__")):=R7 (by obtain⟨cd,hc,_⟩:=xcV h1;rw[hc];rfl) h2 h3 h4;unfold getAttr? getAttrBy?;refine xaa (wpAny_mkText (xaa (wpAny_attempt (yq (s:={s with toks:=s.toks + 1}) X q I ?_))));refine zbb (s:={s with toks:=s.toks + 1}) X I hf (xb8 (PySem.W.class_get (s:={s with toks:=s.toks + 1}) X I h5 ?_));exact xdF rfl (xaj k)
end
def Mz (K:Fgx):List V->Hp->VK->Prop:=fun xs H Q=>∃a C dx b0 c cv b,xs=[.ref a,cv]/\H a=some (xo a C dx b0)/\gK K C=true/\(∀d,dx=some d->∃fs,H d=some (.xd fs))/\lH cv=some c/\PySem.W.kitOne K (.ref C) c=some b/\Q (.bl b) H
theorem Js:dU X (.builtin "isinstance") (Mz X.K):=by
  intro pins s σ H vs us Q I r h;obtain⟨a,C,dx,b0,c,cv,b,rfl,ea,q,hdx,hc,hk,hq⟩:=h;simp only[gK,xat,xaU]at q;obtain⟨q1,q2,q3,q4,q5,q6⟩:=q;obtain⟨oe,ws,t,e1,e2,e3,e4,_⟩:=ou I.hok ea;have J:∃od,PySem.W.InstAt s.heap a oe C od:=by
    cases dx with
    |none=>exact⟨none,e1,e2,by unfold PySem.W.notCls;rw[e4],by rw[e3];exact True.intro⟩
    |some d=>
      obtain⟨fs,ed⟩:=hdx d rfl;obtain⟨mA,n,_⟩:=(show cG X.prog X.w H s.heap d (.xd fs) from I.hok d _ ed);obtain⟨od,d1,_⟩:=Fl n;exact⟨some od,e1,e2,by unfold PySem.W.notCls;rw[e4],by rw[e3];exact d1⟩
  obtain⟨od,J⟩:=J;have Z:PySem.W.KitX X.K (.ref a) (.ref C) (fun h=>PySem.W.InstAt h a oe C od):=by
    obtain⟨cd0,hc0,_⟩:=xcV q2;have lk0:∃c' d' cd' sl',X.K.lookup C=some ⟨c',d',.cls cd',sl'⟩:=by
      unfold PySem.W.clsIn at hc0;split at hc0
      · rename_i ho;exact⟨_,_,_,_,ho⟩
      · cases hc0
    obtain⟨c',d',cd',sl',ho⟩:=lk0;refine⟨fun _ _ _ I=>I.type,fun _ _ XX _=>?_,fun h tp dd its n sl XX ht=>Bool.eq_false_iff.mpr fun z=>?_,fun XX I k=>zaV XX q1 I q2 q3 q4 q5 q6 k⟩
    · intro A' Q' E' s' k z;unfold isType loadHead;exact xaa (wpAny_loadPart (k _ _ (XX _ _ ho)) (xaj z))
    · have z:=xaU.mp z;cases z;have y:=(XX _ _ ho).symm.trans ht;cases y
  cases r with
  |cons r1 r2=>
    cases r2 with
    |cons r3 r4=>
      cases r4;cases r1;rw[Qn r3 hc];exact xaF Z I.kIn J hk (fun z=>nomatch z) fun tk=>⟨.bl b,H,I.tok tk,rfl,hq⟩
end L2
namespace E3
open PySem PySem.Spec PyProof.Rows L2
section
variable {K:Fgx}{mg:Mgx}{P0 P:Pl}{H0 H:Hp}{M:Mm}{Os:List (Option Addr)}{st:L2.St}{env:Env}{i:Nat}
theorem Ok.put (k:Ok K mg P0 H0 P Os H M st env)(hi:i<env.length)(h:B_ K mg P H none sv s):Ok K mg P0 H0 P (Os.set i none) H M (st.set i sv) (env.set i s) where
 hk:=k.hk
 base:=k.base
 b0:=k.b0
 slot:=fun j s e=>by
  rw[rR _ _ _ _ (by rw[k.olen];exact hi),rR _ _ _ _ (by rw[k.slen];exact hi)];rw[xaG]at e;split at e
  ·rename_i ij;subst ij;cases e;rw[xac rfl,xac rfl];exact h
  ·rename_i ij;rw[xag ij,xag ij];exact k.slot j s e
 own := fun a h => k.own a (by
  rcases xb0 h with h |h
  ·exact h
  ·cases h)
 inj:=fun j l a e1 e2=>by
  rw[xaG]at e1 e2;split at e1
  ·split at e1<;>cases e1
  ·split at e2
   ·split at e2<;>cases e2
   ·exact k.inj j l a e1 e2
 olen:=by rw[xay,xay,k.olen]
 slen:=by rw[xay,xay,k.slen]
end
section
variable {X:Cx}{Wx:XW}{m:Mode}{pos:Pos}
noncomputable def mQ (i:Nat) (cat:Str->Bool) (b h:S):S:=fun env M=>match b env M with
  | some (.ex c n, M1) => if cat c = true then (if i < env.length then (match h (env.set i (.exc c n)) M1 with
    | some (.nx env', M2) => (match env'[i]? with
      |some (.exc _ _)=>some (.nx (env'.set i .un),M2)
      |_=>none)
    |some (.rt d,M2)=>some (.rt d,M2)
    |_=>none) else none) else none
  |o=>o
theorem zbR 
    (hs:X.stack=X.env::X.outer) (hf:X.env.frame=some X.env.locals) (hc:X.calm=true) (hN:X.N.Nodup) (hi:X.N[i]? =some n) (hl:X.env.scope.names.lookup n=some .local) (hg:Gl X cn) (hm:X.mg cn=some (.ref c)) (q:aV X.K c=true)
    (hcat:∀c',cat c'=true->∃C,X.mg c'=some (.ref C)/\aV X.K C=true/\bN X.K C c=true) (hb:∀pins E,BX (X.pin pins E) body b) (hh:∀e,SB (X.suite e) W0 (b0::suite) h) (hdb:(cn==("__debug__":Str))=false:=by x_go):
    SS X Wx (.Try body [.ExceptHandler (some (.Name cn np)) (some n) (b0::suite) hp] [] [] pos) (mQ i cat b h):=by
  let Ex:Ends->L2.St->XK:=fun D σ Cv dx H'=>∀a C,Cv=.ref C->H' a=some (xo a C dx false)->aV X.K C=true/\bN X.K C c=true/\tS X.K X.mg W0 h {D with nx:=fun σ H=>∃v,σ[i]? =some (some v)/\D.nx (σ.set i none) H,bk:=fun _ _=>False,ct:=fun _ _=>False} (σ.set i (some (.ref a))) H'
  refine eO (Yd (tb:=fun D=>Bo X.K X.mg (Ex D) b) (th:=tS X.K X.mg W0 h) hs hf hc hN hi hl hg hm q hdb (fun pins D=>hb pins _ (Ex D) fun pins' σ H s e s' I z=>?_) hh) ?_
  · obtain⟨a,C,dx,H',T,rfl,K1,hE⟩:=C_ (X:=X) I.of_pin z;obtain⟨z1,z2,z3⟩:=hE a C rfl K1.obj;exact⟨σ,H',a,C,dx,T,rfl,K1,z1,z2,z3⟩
  · rintro D st H ⟨P0,H0,P,Os,env,M,out,M',k,e,q⟩;unfold mQ at e;split at e
    · rename_i c' n' M1 e1;split at e
      · rename_i hct;split at e
        · rename_i hil;obtain⟨C,hmC,x1,x2⟩:=hcat c' hct;refine⟨P0,H0,P,Os,env,M,_,_,k,e1,fun P1 H1 C1 dx l1 h1 m1 xn a C2 eC ea=>?_⟩;cases eC;cases hmC.symm.trans m1;have k1:=(k.next l1 h1).put (s:=.exc c' n') (sv:=some (.ref a)) hil ⟨_,rfl,a,C,dx,rfl,m1,ea,xn⟩
          refine⟨x1,x2,?_⟩;split at e
          · rename_i env' M2 e2;split at e
            · rename_i c3 n3 ex;cases e;refine⟨P0,H0,P1,_,_,M1,_,_,k1,e2,fun P2 Os2 H2 st2 l2 k2=>?_⟩;obtain⟨v,ev,_⟩:=k2.slot i _ ex;exact⟨v,lu ev,q P2 _ H2 _ ((l1.lt k.hk).trans l2) (k2.put (s:=.un) (sv:=none) (xal.mp ex).1 True.intro)⟩
            · cases e
          · rename_i d M2 e2;cases e;exact⟨P0,H0,P1,_,_,M1,_,_,k1,e2,q⟩
          · cases e
        · cases e
      · cases e
    · rename_i o hne;refine⟨P0,H0,P,Os,env,M,_,_,k,e,?_⟩
      cases out with
      |ex c n=>exact absurd e (hne c n M')
      |nx env=>exact q
      |bk env=>exact q
      |ct env=>exact q
      |rt d=>exact q
noncomputable def dH (i:Nat) (tb:Str->Option Bool):E:=fun env M=>match env[i]? with
 |some (.exc c _)=>(tb c).map fun b=>(.v (.bl b),M)
 |_=>none
def oR (X:Cx)(u:Value)(tb:Str->Option Bool):Prop:=∀c b,tb c=some b->∃C,X.mg c=some (.ref C)/\gK X.K C=true/\PySem.W.kitOne X.K (.ref C) u=some b
theorem KD {i:Nat}{tb:Str->Option Bool}{u:Value}{cv:V}{st:L2.St}{H:Hp}{Q:VK}(hu:lH cv=some u)(ht:oR X u tb)(w:tE X.K X.mg Wx m (dH i tb) st H Q):∃v,st[i]? =some (some v)/\Mz X.K [v,cv] H Q:=by
 obtain⟨P0,H0,P,Os,env,M,r,M',k,e,q⟩:=w;unfold dH at e;split at e
 ·rename_i c n hs;rw[xae]at e;obtain⟨b,eb,e⟩:=e;cases e;obtain⟨v,ev,a,C,dx,rfl,m1,ea,xn⟩:=k.slot i _ hs;obtain⟨C2,m2,x2,k2⟩:=ht c b eb;cases m1.symm.trans m2;refine⟨_,lu ev,a,C,dx,false,u,cv,b,rfl,ea,x2,fun d hd=>?_,hu,k2,q P _ H (LtE.refl P H) k.hk (cA.of k.hk (show Is _ _ _ (.bl b) _ from rfl))⟩;subst hd;obtain⟨fs,ed,_⟩:=xn;exact⟨fs,ed⟩
 ·cases e
theorem Hf {i:Nat}{x cn:Str}{c:Addr}{tb:Str->Option Bool}{p p' p2:Pos}(hN:X.N[i]? =some x)(hv:X.env.scope.names.lookup x=some .local)(ht:oR X (.ref c) tb)(hg:Gl X "isinstance")(hm:X.mg "isinstance"=none)(hg':Gl X cn)(hm':X.mg cn=some (.ref c))(hd:(x==("__debug__":Str))=false:=by x_go)(hcd:(x==("__classdict__":Str))=false:=by x_go)(hd':(cn==("__debug__":Str))=false:=by x_go)
  (hs:starEach [.Name x p2,.Name cn p'] X.env=(false,eval (.Name x p2) X.env)::starEach [.Name cn p'] X.env:=by rfl):SE X Wx m (.Call (.Name "isinstance" p) [.Name x p2,.Name cn p'] [] pos) (dH i tb):=by
 refine cg (zR Js hg hm boot_isinstance (gj (rB hN (.inl hv) hd hcd) (gj (nR hg' hm' (v:=.ref c) rfl hd') iK) hs) (by x_go) (by x_go) hs rfl) ?_;intro st H Q w;exact KD rfl ht w
theorem za5 {i:Nat}{x:Str}{T:String}{tb:Str->Option Bool}{p p' p2:Pos}(hN:X.N[i]? =some x)(hv:X.env.scope.names.lookup x=some .local)(ht:oR X (.type T) tb)(hg:Gl X "isinstance")(hm:X.mg "isinstance"=none)(hg':Gl X (Str.ofString T))(hm':X.mg (Str.ofString T)=none)(hT:bootBuiltins (Str.ofString T)=some (.type T))(hd:(x==("__debug__":Str))=false:=by x_go)(hcd:(x==("__classdict__":Str))=false:=by x_go)
  (n1:Str.ofString T≠"__name__":=by x_go) (n2:(Str.ofString T==("__debug__":Str))=false:=by x_go)
  (hs:starEach [.Name x p2,.Name (Str.ofString T) p'] X.env=(false,eval (.Name x p2) X.env)::starEach [.Name (Str.ofString T) p'] X.env:=by rfl):SE X Wx m (.Call (.Name "isinstance" p) [.Name x p2,.Name (Str.ofString T) p'] [] pos) (dH i tb):=by
 refine cg (zR Js hg hm boot_isinstance (gj (rB hN (.inl hv) hd hcd) (gj (Ma hg' hm' hT (v:=.ty T) rfl n1 n2) iK) hs) (by x_go) (by x_go) hs rfl) ?_;intro st H Q w;exact KD rfl ht w
end
section
variable {X:Cx}{Wx:XW}
noncomputable def zu (f:E):EA:=fun env M=>match f env M with
 |some (.v (.tup ds),M1)=>some (.v ds,M1)
 |some (.x c n,M1)=>some (.x c n,M1)
 |_=>none
theorem zcL (h:SE X Wx .val e f):SI X Wx tg e (zu f):=by
 refine wI (XM h) ?_;rintro st H R ⟨P0,H0,P,Os,env,M,r,M',k,e,q⟩;unfold zu at e;split at e
 ·rename_i ds M1 ef;cases e;refine⟨P0,H0,P,Os,env,M,_,_,k,ef,fun P1 v1 H1 l1 h1 i1=>?_⟩;obtain⟨a,vs,rfl,ra,is⟩:=i1;refine⟨a,rfl,⟨vs,ra⟩,q P1 H1 _ l1 h1 fun P2 H2 l2=>?_⟩;have sq:dJ X.K H2 a vs:=l2.tup ra;have is2:=aD.lt l2 is;refine⟨fun j hj=>?_,fun j h1 h2=>⟨vs,sq,by rw[is2.len];exact h1⟩,fun j x H' y hj=>⟨y.1,?_⟩⟩
  ·obtain⟨v,ev,_⟩:=aD.get is2 (xai hj);exact⟨vs,v,sq,ev⟩
  ·obtain⟨v,ev,iv⟩:=aD.get is2 (xai hj);have:=y.2 vs sq;rw[ev]at this;cases this;exact⟨_,xai hj,iv⟩
 ·rename_i c n M1 ef;cases e;exact⟨P0,H0,P,Os,env,M,_,_,k,ef,q⟩
 ·cases e
end
theorem Bv {K:Fgx}{C:Addr}(h1:PySem.W.findIn K (.ref C) "__getattribute__"=some (some (.builtin "BaseException.__getattribute__")))(h2:PySem.W.findIn K (.ref C) "__getattr__"=some none)(h3:PySem.W.mroIn K C (.type "BaseException")=some true):m7 K C=true:=by
 simp only[m7,h1,h2,h3,xa7,xci]
theorem Im {K:Fgx}{C:Addr}(h1:m7 K C=true)(h2:PySem.W.hasDictIn K C=true)(h3:PySem.W.findIn K (.ref C) "__class__"=some (some (.builtin "object.__class__")))(h4:PySem.W.specialIn K (.builtin "object.__class__") "__get__"=some (some (.builtin "getset_descriptor.__get__")))
  (h5:PySem.W.takesIn K (.builtin "object.__class__")=some true) (h6:PySem.W.mroIn K C (.type "object")=some true):gK K C=true:=by
 simp only[gK,h1,h2,h3,h4,h5,h6,xa7,xci]
end E3
namespace E3
open PySem L2
section
variable {env:Env}{M M1 M2:Mm}{f g o v:E}{d e x:D}{i:Int}{k:Nat}{ds:List D}{s t:S}{c me fl:Str}{fs:List (Str×D)}{gg:G}{fa:EA}
theorem zb0 {a:Int}:bB (some (.ex c a,M))=some (.x c a,M):=rfl
noncomputable def Pj:O->Option (ResA×Mm)
 |some (.v (.tup ds),M1)=>some (.v ds,M1)
 |some (.x c n,M1)=>some (.x c n,M1)
 |_=>none
theorem Y0:zu f env M=Pj (f env M):=rfl
theorem zcM:Pj (some (.v (.tup ds),M))=some (.v ds,M):=rfl
end
theorem oE.mono (a:oE P w K mg base j C n g)(h:j<=k):oE P w K mg base k C n g:=by
 obtain⟨f,fd,ps,h1,h2,h3⟩:=a;exact⟨f,fd,ps,h1,h2.mono h,h3⟩
end E3
namespace E3
open PySem PySem.Spec PyProof.Rows L2
theorem fH (hN:X.N[i]? =some x)(hv:sS X.env.scope x)(hd:(x==("__debug__":Str))=false:=by x_go)(hcd:(x==("__classdict__":Str))=false:=by x_go):SE X Wx m (.Name x pos) (ak i):=(Oi hN hv hd hcd).bor
noncomputable def bY (cs:List (Str×Nat)) (env:Env):Env:=cs.map fun p=>(env[p.2]?).getD .un
noncomputable def g8 (cs:List (Str×Nat)) (Os:List (Option Addr)):List (Option Addr):=cs.map fun p=>(Os[p.2]?).join
section
variable {K:Fgx}{mg:Mgx}{P0 P:Pl}{H0 H:Hp}{M:Mm}{Os:List (Option Addr)}{st:L2.St}{env:Env}{d:D}{v:V}
theorem CZ {cs:List (Str×Nat)}{i:Nat}{a:Addr}(h:(g8 cs Os)[i]? =some (some a)):∃p,cs[i]? =some p/\Os[p.2]? =some (some a):=by
 unfold g8 at h;rw[xan,xae]at h;obtain⟨p,e,h⟩:=h;exact⟨p,e,lu h⟩
theorem Ok.cap {cs:List (Str×Nat)}(k:Ok K mg P0 H0 P Os H M st env)(nd:(cs.map (·.2)).Nodup)(h:Is K P H d v):Ok K mg P0 H0 P (none::g8 cs Os) H M (some v::dY cs st) (.val d::bY cs env) where
  hk:=k.hk
  base:=k.base
  b0:=k.b0
  slot:=fun i s e=>by
    cases i with
    |zero=>cases e;exact⟨v,rfl,h⟩
    |succ i=>
      rw[xaQ]at e ⊢;rw[xaQ];unfold bY at e;rw[xan,xae]at e;obtain⟨p,ep,e⟩:=e;have eo:((g8 cs Os)[i]?).join=(Os[p.2]?).join:=by unfold g8;rw[xan,ep];rfl
      have es:((dY cs st)[i]?).join=(st[p.2]?).join:=by unfold dY;rw[xan,ep];rfl
      rw[eo,es]
      cases e':env[p.2]? with
      |none=>rw[e']at e;cases e;exact True.intro
      |some s'=>rw[e']at e;cases e;exact k.slot _ _ e'
  own:=fun a h=>by
    rw[xas]at h;rcases h with h |h
    · cases h
    · obtain⟨i,hi⟩:=xdf.mp h;obtain⟨p,_,e⟩:=CZ hi;exact k.own a (xaL e)
  inj:=fun i j a e1 e2=>by
    cases i with
    |zero=>cases e1
    |succ i=>
      cases j with
      |zero=>cases e2
      |succ j=>
        rw[xaQ]at e1 e2;obtain⟨p,h1,h2⟩:=CZ e1;obtain⟨q,h3,h4⟩:=CZ e2;have e:=k.inj _ _ a h2 h4;congr 1;have hi:(cs.map (·.2))[i]? =some p.2:=by rw[xan,h1];rfl
        have hj:(cs.map (·.2))[j]? =some p.2:=by rw[xan,h3,e];rfl
        have il:=(xal.mp hi).1;exact(List.getElem?_inj il nd).mp (hi.trans hj.symm)
  olen:=by simp[g8,bY]
  slen:=by simp[dY,bY]
end
section
variable {X:Cx}{Wx:XW}{m:Mode}{pos:Pos}
noncomputable def eZ (q e:E) (env:Env):List D->List D->Mm->Option (List D×Mm)
  | [],acc,M=>some (acc,M)
  |d::ds,acc,M=>match q (.val d::env) M with
    | some (.v (.bl true), M1) => (match e (.val d::env) M1 with
      |some (.v y,M2)=>if acc.length + 1<sizeLine then eZ q e env ds (acc ++ [y]) M2 else none
      |_=>none)
    |some (.v (.bl false),M1)=>eZ q e env ds acc M1
    |_=>none
noncomputable def kh (cs:List (Str×Nat)) (fs:EA) (q e:E):E:=fun env M=>match fs env M with
  | some (.v ds, M1) => (match eZ q e (bY cs env) ds [] M1 with
    |some (ys,M2)=>some (.v (.lst ys),M2)
    |none=>none)
  |some (.x c n,M1)=>some (.x c n,M1)
  |none=>none
theorem Dk:∀env M r M',kh cs fs q e env M=some (.v r,M')->∃ds,r=.lst ds:=fun env M r M' h=>by
 unfold kh at h;split at h
 ·split at h
  ·cases h;exact⟨_,rfl⟩
  ·cases h
 ·cases h
 ·cases h
theorem Ej {K:Fgx}{mg:Mgx}{P1 P:Pl}{H1 H:Hp}{M:Mm}{D:Addr}{vs vs':List V}(l:LtE P1 H1 P H)(h:Hk K mg P H M)(hD:H1 D=none)(bD:P.bd D)(nc:∀k,k<P.n->P.io k≠D)(e:H D=some (.lst vs)):
  Lt P H P (upd H D (.lst vs'))/\LtE P1 H1 P (upd H D (.lst vs'))/\Hk K mg P (upd H D (.lst vs')) M:=by
 have lc:Lt P H P (upd H D (.lst vs')):=pU bD e Fv;refine⟨lc,⟨l.n,l.io,l.bd,l.bm,fun c o ec n=>?_,fun c z=>l.sure c (lc.sure c z),l.nw⟩,⟨h.n,fun j c ej=>(h.cell j c ej).lt lc fun o eo=>?_,h.inj,h.bd,fun c z q=>h.here c z (lc.sure c q)⟩⟩
 ·rw[aP (fun z=>by subst z;rw[hD]at ec;cases ec)];exact l.keep c o ec n
 ·rw[aP (nc j (by rw[h.n];exact(xal.mp ej).1))];exact eo
noncomputable def NR (K:Fgx) (mg:Mgx) (Wx:XW) (P0:Pl) (H0:Hp) (P:Pl) (H:Hp) (M':Mm) (R:Addr->Hp->Prop):Res->Prop
 |.v d=>∃ds,d=.lst ds/\∀P' a vs H',LtE P H P' H'->Hk K mg P' H' M'->H a=none->P'.bd a->(∀k,k<P'.n->P'.io k≠a)->H' a=some (.lst vs)->aD K P' H' ds vs->R a H'
 |.x c n=>Wx P0 H0 M' c n
theorem Dn {K:Fgx}{mg:Mgx}{cs:List (Str×Nat)}{fs:EA}{q e:E}{P0 P:Pl}{H0 H:Hp}{Os:List (Option Addr)}{M M':Mm}{st:L2.St}{env:Env}{r:Res}{R:Addr->Hp->Prop}(nd:(cs.map (·.2)).Nodup)
    (k:Ok K mg P0 H0 P Os H M st env) (h:kh cs fs q e env M=some (r,M')) (w:NR K mg Wx P0 H0 P H M' R r):xP (tI K mg Wx fs) (n_ K mg W0 q) (tE K mg W0 .val e) cs st H R:=by
  unfold kh at h;split at h
  · rename_i ds M1 ef;split at h
    rotate_left
    · cases h
    rename_i ys M2 ec;cases h;obtain ⟨ds', e', w⟩ := w;cases e';refine ⟨P0, H0, P, Os, env, M, _, _, k, ef, fun P1 H1 J l1 h1 wk D hD => ?_⟩;obtain ⟨l2, h2, nc⟩ := uX (vs := []) h1 hD;refine ⟨fun i m vs H2=>m=ds.length - i/\i<=ds.length/\∃P2 M3 acc,LtE P1 H1 P2 H2/\Hk K mg P2 H2 M3/\P2.bd D/\(∀k,k<P2.n->P2.io k≠D)/\H2 D=some (.lst vs)/\aD K P2 H2 acc vs/\acc.length<sizeLine/\eZ q e (bY cs env) (ds.drop i) acc M3=some (ys,M'),
      ⟨ds.length,by simp,xbc _,P1.bar D,M1,[],l2,h2,.inr rfl,nc,bO,rfl,by x_go,by rw[xbK];exact ec⟩,?_⟩
    rintro i m vs H2 ⟨rfl,hi,P2,M3,acc,l3,h3,bD,nD,eD,is,hz,ec⟩;refine⟨eD,?_⟩;obtain⟨w1,w2,w3⟩:=wk P2 H2 (l3.lt h1)
    by_cases hlt:i<ds.length
    · refine .inr ⟨w1 i hlt,by rw[is.len];exact hz,fun vs' H'=>∃P2 M3 acc,LtE P1 H1 P2 H'/\Hk K mg P2 H' M3/\P2.bd D/\(∀k,k<P2.n->P2.io k≠D)/\H' D=some (.lst vs')/\aD K P2 H' acc vs'/\acc.length<sizeLine/\eZ q e (bY cs env) (ds.drop (i + 1)) acc M3=some (ys,M'),
        fun vs' H' z=>⟨ds.length - (i + 1),by omega,rfl,hlt,z⟩,fun x H' y=>?_⟩
      obtain⟨e3,d,ed,iv⟩:=w3 i x H' y hlt;subst e3;have ed':ds.drop i=d::ds.drop (i + 1):=by
        rw[xaY hlt];rw[xai hlt]at ed;rw[xar ed]
      rw[ed']at ec;have kk:=((k.next l1 h1).next l3 h3).cap (cs:=cs) nd iv
      simp only[eZ]at ec;split at ec
      · rename_i M4 eq;refine gW kk eq ⟨true,rfl,fun P4 H4 l4 h4=>?_⟩;dsimp only;rw[xac rfl];split at ec
        · rename_i y' M5 ee;split at ec
          · rename_i hz';refine aN (kk.next l4 h4) ee fun P5 v5 H5 l5 h5 i5=>?_
            have l45:=l4.trans l5;have eD5:H5 D=some (.lst vs):=l45.keep D _ eD (.inr nD);have nD5:∀k,k<P5.n->P5.io k≠D:=l45.nc eD nD;obtain⟨g1,g2,g3⟩:=Ej (vs':=vs ++ [v5]) (l3.trans l45) h5 hD (l45.bm D bD) nD5 eD5;refine⟨eD5,P5,M5,acc ++ [y'],g2,g3,l45.bm D bD,nD5,bO,aD.append (aD.lt ((l45.lt h3).trans g1) is) (aD.one (Is.lt g1 i5)),by rw[xax];exact hz',ec⟩
          · cases ec
        · cases ec
      · rename_i M4 eq;refine gW kk eq ⟨false,rfl,fun P4 H4 l4 h4=>?_⟩;dsimp only;rw[xag (by decide)];exact⟨P4,M4,acc,l3.trans l4,h4,l4.bm D bD,l4.nc eD nD,l4.keep D _ eD (.inr nD),aD.lt (l4.lt h3) is,hz,ec⟩
      · cases ec
    · have ei:i=ds.length:=by omega
      subst ei;rw[xbz]at ec;cases ec;exact .inl ⟨w2 _ (xaf _) (xaf _),w P2 D vs H2 (l1.trans l3) h3 (l1.sure D hD) bD nD eD is⟩
  · rename_i c n M1 ef;cases h;exact⟨P0,H0,P,Os,env,M,_,_,k,ef,w⟩
  · cases h
def SQ (X:Cx)(ifs:List Expr)(q:E):Prop:=fM X ifs (n_ X.K X.mg W0 q)
theorem Hr:SQ X [] (aj (.bl true)):=fun pins s σ H Q I h=>by
 obtain⟨P0,H0,P,Os,env,M,r,M',k,e,q⟩:=h;cases e;obtain⟨b,e2,q⟩:=q;cases e2;exact Gd pins s σ H Q I (q P H (LtE.refl P H) k.hk)
theorem zcj (h:ST X W0 c q):SQ X [c] q:=XR h
section
variable {elt iter:Expr}{ifs:List Expr}{scope:Scope}{fs:EA}{q e:E}
theorem Ot (x:Str)(cs:List (Str×Nat))(hc:X.calm=true)(nd:(cs.map (·.2)).Nodup)(hi:SI X Wx (.Name x px) iter fs)
  (hq:∀(cl:List (Str×Addr)) (C:Addr) (s₀:Shared) (H₀:Hp) (ex:List Addr) (pn:Pnx),SQ (bU X (x::cs.map (·.1)) scope cl C s₀ H₀ ex pn) ifs q)
  (he:∀(cl:List (Str×Addr)) (C:Addr) (s₀:Shared) (H₀:Hp) (ex:List Addr) (pn:Pnx),SE (bU X (x::cs.map (·.1)) scope cl C s₀ H₀ ex pn) W0 .val elt e)
  (ok:oY X.N X.env.scope x cs scope=true:=by kernel_rfl) (hs:∀x,foldedSetIterable iter X.env x=pure x:=by intro _;rfl):
  SN X Wx (.ListComp elt [⟨.Name x px,iter,ifs,0⟩] scope pos) (kh cs fs q e):=by
 refine cg (Xa (tq:=n_ X.K X.mg W0 q) (te:=tE X.K X.mg W0 .val e) x cs hc hi hq he ok hs) ?_;rintro st H Q ⟨P0,H0,P,Os,env,M,r,M',k,e,w⟩;refine Dn nd k e ?_
 cases r with
 |v d=>exact w
 |x c n=>exact w
theorem Ke {K:Fgx}{mg:Mgx}{P P':Pl}{H H':Hp}{M M':Mm}{a:Addr}{vs:List V}{ds:List D}(k:Hk K mg P H M)(l:LtE P H P' H')(h:Hk K mg P' H' M')(ha:H a=none)(nc:∀j,j<P'.n->P'.io j≠a)(ea:H' a=some (.lst vs))(is:aD K P' H' ds vs):
  LtE P H (P'.less (· ≠a)) H'/\Hk K mg (P'.less (· ≠a)) H' M'/\Is K (P'.less (· ≠a)) H' (.lst ds) (.ref a):=by
 have l2 : Lt P' H' (P'.less (· ≠ a)) H' := ⟨xaf _, fun _ _ => rfl, fun c z => .inl z.1, fun _ _ e _ => e, fun _ z => z⟩;exact ⟨⟨l.n,l.io,fun b z=>l.bd b z.1,fun b z=>⟨l.bm b z,fun q=>k.here b z (q ▸ ha)⟩,l.keep,l.sure,l.nw⟩,
  ⟨h.n,fun j c e=>(h.cell j c e).lt l2 fun _ z=>z,h.inj,fun j hj=>⟨h.bd j hj,nc j hj⟩,fun b z=>h.here b z.1⟩,
  a,vs,rfl,.inl ⟨fun z=>z.2 rfl,.inl ea⟩,aD.less is⟩
theorem Ow (x:Str)(cs:List (Str×Nat))(hN:X.N.Nodup)(hk:X.N[i]? =some y)(hy:Loc X.env.scope y)(hc:X.calm=true)(nd:(cs.map (·.2)).Nodup)(hi:SI X Wx (.Name x px) iter fs)
  (hq:∀(cl:List (Str×Addr)) (C:Addr) (s₀:Shared) (H₀:Hp) (ex:List Addr) (pn:Pnx),SQ (bU X (x::cs.map (·.1)) scope cl C s₀ H₀ ex pn) ifs q)
  (he:∀(cl:List (Str×Addr)) (C:Addr) (s₀:Shared) (H₀:Hp) (ex:List Addr) (pn:Pnx),SE (bU X (x::cs.map (·.1)) scope cl C s₀ H₀ ex pn) W0 .val elt e)
  (ok:oY X.N X.env.scope x cs scope=true:=by kernel_rfl) (hs:∀x,foldedSetIterable iter X.env x=pure x:=by intro _;rfl)
  (hsw:swapsWith (.ListComp elt [⟨.Name x px,iter,ifs,0⟩] scope pos) (some (.Name y py)) spos.line X.env=pure true:=by rfl)
  (hf:X.fn y=true\/X.env.scope.names.lookup y=some .local:=by first |exact .inl rfl |exact .inr rfl):
  SS X Wx (.Assign [.Name y py] (.ListComp elt [⟨.Name x px,iter,ifs,0⟩] scope pos) spos) (aM i (kh cs fs q e)):=by
 refine eO (Mq (tq:=n_ X.K X.mg W0 q) (te:=tE X.K X.mg W0 .val e) x cs hN hk hy hc hi hq he ok hs hsw hf) ?_;rintro D st H ⟨P0,H0,P,Os,env,M,out,M',k,ee,w⟩;unfold aM at ee;rcases eN ee with⟨d,M1,e1,ee⟩ |⟨c,n,e1,rfl⟩
 ·obtain⟨ds,rfl⟩:=Dk _ _ _ _ e1;split at ee
  ·rename_i hl;cases ee;refine Dn nd k e1 ⟨ds,rfl,fun P1 a vs H1 l1 h1 ha ba nc ea is=>?_⟩;obtain⟨l2,h2,i2⟩:=Ke k.hk l1 h1 ha nc ea is;exact w _ _ _ _ (l2.lt k.hk) ((k.next l2 h2).asg hl i2)
  ·cases ee
 ·exact Dn nd k e1 w
end
end
noncomputable def toKey:D->Option Key
 |.int i=>some (.inl i)
 |.str z=>some (.inr z)
 |_=>none
noncomputable def bf (kvs:List (Key×D)) (k:Key):Option D:=(kvs.find? fun kv=>decide (kv.1=k)).map (·.2)
noncomputable def b_ (kvs:List (Key×D)) (k:Key) (v:D):List (Key×D):=
 if (kvs.any fun kv=>decide (kv.1=k))=true then kvs.map (fun kv=>if kv.1=k then(kv.1,v) else kv) else kvs ++ [(k,v)]
section
variable {K:Fgx}{mg:Mgx}{P:Pl}{H:Hp}{M:Mm}
def cO (K:Fgx)(P:Pl)(H:Hp)(kvs:List (Key×D))(vs:List (Key×V)):Prop:=vs.map (·.1)=kvs.map (·.1)/\aD K P H (kvs.map (·.2)) (vs.map (·.2))
theorem key_is (h:toKey d=some k)(i:Is K P H d v):v=kV k:=by
 unfold toKey at h;split at h
 ·cases h;cases i;rfl
 ·cases h;cases i;rfl
 ·cases h
theorem xY:cO K P H (p::kvs) (q::vs) ↔ q.1=p.1/\Is K P H p.2 q.2/\cO K P H kvs vs:=by
 constructor
 ·rintro⟨h1,v,r,e1,i,q⟩;simp only[xam,List.cons.injEq]at h1 e1;obtain⟨rfl,rfl⟩:=e1;exact⟨h1.1,i,h1.2,q⟩
 ·rintro⟨h1,i,h2,q⟩;exact⟨by simp[h1,h2],_,_,rfl,i,q⟩
theorem xZ:∀{kvs:List (Key×D)} {vs:List (Key×V)},cO K P H kvs vs->match bf kvs k with
    |some d=>∃v,bR vs k=some v/\Is K P H d v
    |none=>bR vs k=none
  | [],[],_=>rfl
  | [],_::_,h=>by cases h.1
  |_::_,[],h=>by cases h.1
  |p::kvs,q::vs,h=>by
    obtain⟨h1,i,h2⟩:=xY.mp h
    by_cases e:p.1=k
    · have e':q.1=k:=h1.trans e;have a:bf (p::kvs) k=some p.2:=by simp[bf,xaK,e]
      rw[a];exact⟨q.2,Bt e',i⟩
    · have e':¬ q.1=k:=fun z=>e (h1.symm.trans z);have a:bf (p::kvs) k=bf kvs k:=by simp[bf,xaK,e]
      rw[a,Bs e'];exact xZ h2
theorem tb_any:∀{kvs:List (Key×D)} {vs:List (Key×V)},vs.map (·.1)=kvs.map (·.1)->(vs.any fun kv=>decide (kv.1=k))=(kvs.any fun kv=>decide (kv.1=k))
  | [],[],_=>rfl
  | [],_::_,h=>by cases h
  |_::_,[],h=>by cases h
  |p::kvs,q::vs,h=>by
    simp only[xam,List.cons.injEq]at h;rw[xbl,xbl,h.1,tb_any h.2]
theorem O_ (i:Is K P H d v):∀{kvs:List (Key×D)} {vs:List (Key×V)},cO K P H kvs vs->cO K P H (kvs.map fun kv=>if kv.1=k then(kv.1,d) else kv) (vs.map fun kv=>if kv.1=k then(kv.1,v) else kv)
  | [],[],h=>h
  | [],_::_,h=>by cases h.1
  |_::_,[],h=>by cases h.1
  |p::kvs,q::vs,h=>by
    obtain⟨h1,i1,h2⟩:=xY.mp h;rw[xam,xam];refine xY.mpr ⟨?_,?_,O_ i h2⟩
    · split<;>split<;>exact h1
    · rw[h1]
      split
      · exact i
      · exact i1
theorem Pb (i:Is K P H d v)(h:cO K P H kvs vs):cO K P H (b_ kvs k d) (putK vs k v):=by
 unfold b_ putK;rw[tb_any h.1]
 split
 ·exact O_ i h
 ·refine⟨by rw[xbh,xbh,h.1];rfl,?_⟩;rw[xbh,xbh];exact aD.append h.2 (aD.one i)
theorem Ia {kvs:List (Key×D)}{vs:List (Key×V)}(h:cO K P H kvs vs):vs.length=kvs.length:=by
 have:=congrArg List.length h.1
 simpa using this
theorem tY:¬ Fx (.dK vs):=fun z=>by rcases z with⟨_,z⟩ |⟨_,_,z⟩ |⟨_,z⟩ |⟨_,z⟩<;>cases z
end
section
variable {X:Cx}{Wx:XW}{m:Mode}{pos:Pos}
noncomputable def nF (M:Mm) (d:D):Option (Nat×List (Key×D)):=match d with
  | .ref k => (match M[k]? with
    |some (.dct kvs)=>some (k,kvs)
    |_=>none)
  |_=>none
theorem Ds (h:nF M d=some (k,kvs)):d=.ref k/\M[k]? =some (.dct kvs):=by
 unfold nF at h;split at h
 ·split at h
  ·cases h;rename_i e;exact⟨rfl,e⟩
  ·cases h
 ·cases h
noncomputable def dk (M:Mm) (d y:D):Option (Nat×List (Key×D)×Key):=match nF M d with
 |some p=>(toKey y).map fun k=>(p.1,p.2,k)
 |none=>none
theorem Dw (h:dk M d y=some (j,kvs,k)):d=.ref j/\M[j]? =some (.dct kvs)/\toKey y=some k:=by
 unfold dk at h;split at h
 ·rename_i p ep;rw[xae]at h;obtain⟨k',ek,h⟩:=h;cases h;obtain⟨h1,h2⟩:=Ds (k:=p.1) (kvs:=p.2) ep;exact⟨h1,h2,ek⟩
 ·cases h
noncomputable def wU (f g:E):E:=fun env M=>bnd (f env M) fun d M1=>bnd (g env M1) fun y M2=>match dk M2 d y with
 |some (_,kvs,k)=>(bf kvs k).map fun z=>(.v z,M2)
 |none=>none
theorem zbr (hu:X.A.units + 60<cLine)(ho:SE X Wx .val o f)(hi:SE X Wx .val i g)(hs:oJ i:=by exact fun _ _=>rfl):SE X Wx m (.Subscript o i pos) (wU f g):=by
 refine cg (Xc (xbG (xbC (by decide) _) hu) ho hi hs) ?_;rintro st H Q ⟨P0,H0,P,Os,env,M,r,M',k,e,q⟩;unfold wU at e;rcases bT e with⟨d,M1,e1,e⟩ |⟨c,n,e1,rfl⟩
 ·refine aN k e1 fun P1 v1 H1 l1 h1 i1=>?_;have k1:=k.next l1 h1
  rcases bT e with⟨y,M2,e2,e⟩ |⟨c,n,e2,rfl⟩
  ·refine aN k1 e2 fun P2 v2 H2 l2 h2 i2=>?_;split at e
   ·rename_i j kvs key ed;rw[xae]at e;obtain⟨z,ez,e⟩:=e;cases e;obtain⟨rfl,em,ek⟩:=Dw ed;obtain⟨jl,rfl⟩:j<P1.n/\v1=.ref (P1.io j):=i1;obtain⟨vs,ev,en,is⟩:=h2.cell j _ em;have g:=xZ (k:=key) (kvs:=kvs) (vs:=vs) ⟨en,is⟩;rw[ez]at g;obtain⟨v,gv,iv⟩:=g;rw[l2.io j jl]at ev;refine⟨_,v,rfl,?_,q P2 v H2 (l1.trans l2) h2 (cA.of h2 iv)⟩;rw[<-gv,key_is ek i2];exact eX.k ev
   ·cases e
  ·exact aN k1 e2 q
 ·exact aN k e1 q
noncomputable def wV (f g v:E):S:=fun env M=>bQ (v env M) fun x M1=>bQ (f env M1) fun d M2=>bQ (g env M2) fun y M3=>match dk M3 d y with
 |some (j,kvs,k)=>if kvs.length<sizeLine then some (.nx env,M3.set j (.dct (b_ kvs k x))) else none
 |none=>none
theorem zba (hu:X.A.units + 60<cLine)(ho:SE X Wx .val o f)(hi:SE X Wx .val i g)(he:SE X Wx .val e v)(hs:swapsWith e (some (.Subscript o i pos')) pos.line X.env=pure false:=by rfl):
  SS X Wx (.Assign [.Subscript o i pos'] e pos) (wV f g v):=by
 refine eO (X8 (xbG (xbC (by decide) _) hu) ho hi he hs) ?_;rintro D st H ⟨P0,H0,P,Os,env,M,out,M',k,e,q⟩;unfold wV at e;rcases eN e with⟨x,M1,e1,e⟩ |⟨c,n,e1,rfl⟩
 ·refine aN k e1 fun P1 v1 H1 l1 h1 i1=>?_;have k1:=k.next l1 h1
  rcases eN e with⟨d,M2,e2,e⟩ |⟨c,n,e2,rfl⟩
  ·refine aN k1 e2 fun P2 v2 H2 l2 h2 i2=>?_;have k2:=k1.next l2 h2
   rcases eN e with⟨y,M3,e3,e⟩ |⟨c,n,e3,rfl⟩
   ·refine aN k2 e3 fun P3 v3 H3 l3 h3 i3=>?_;split at e
    ·rename_i j kvs key ed;split at e
     ·rename_i hl;cases e;obtain⟨rfl,em,ek⟩:=Dw ed;obtain⟨jl,rfl⟩:j<P2.n/\v2=.ref (P2.io j):=i2;obtain⟨vs,ev,en,is⟩:=h3.cell j _ em;have jl3:j<P3.n:=xah jl l3.n;have eio:P3.io j=P2.io j:=l3.io j jl;have ix:=Is.lt ((l2.lt h1).trans (l3.lt h2)) i1;have lc:Lt P3 H3 P3 (upd H3 (P3.io j) (.dK (putK vs key v1))):=pU (h3.bd j jl3) ev tY;have tp:=Pb (k:=key) ix ⟨en,is⟩;obtain⟨l4,l4e,h4⟩:=h3.set (c':=.dct (b_ kvs key x)) (o':=.dK (putK vs key v1)) em ⟨_,bO,tp.1,aD.lt lc tp.2⟩;rw[eio]at l4 l4e h4 ev;refine⟨_,_,rfl,by rw[key_is ek i3];exact iQ.k ev (by rw[Ia ⟨en,is⟩];exact hl),?_⟩;exact q _ _ _ _ ((l1.lt k.hk).trans ((l2.lt h1).trans ((l3.lt h2).trans l4))) ((k2.next l3 h3).next l4e h4)
     ·cases e
    ·cases e
   ·exact aN k2 e3 q
  ·exact aN k1 e2 q
 ·exact aN k e1 q
inductive ResP where
 |v (ps:List (D×D)) |x (c:Str) (n:Int)
abbrev sJ:=Env->Mm->Option (ResP×Mm)
def dG:sJ:=fun _ M=>some (.v [],M)
noncomputable def gQ (f g:E) (ps:sJ):sJ:=fun env M=>match f env M with
  | some (.v x, M1) => (match g env M1 with
    | some (.v y, M2) => (match ps env M2 with
      |some (.v r,M3)=>some (.v ((x,y)::r),M3)
      |some (.x c n,M3)=>some (.x c n,M3)
      |none=>none)
    |some (.x c n,M2)=>some (.x c n,M2)
    |none=>none)
  |some (.x c n,M1)=>some (.x c n,M1)
  |none=>none
noncomputable def AllP (K:Fgx) (P:Pl) (H:Hp):List (D×D)->List (V×V)->Prop
 | [],vs=>vs=[]
 |p::ps,vs=>∃v r,vs=v::r/\Is K P H p.1 v.1/\Is K P H p.2 v.2/\AllP K P H ps r
noncomputable def PQ (K:Fgx) (mg:Mgx) (Wx:XW) (P0:Pl) (H0:Hp) (P:Pl) (H:Hp) (M':Mm) (Q:List (V×V)->Hp->Prop):ResP->Prop
 |.v ds=>∀P' vs H',LtE P H P' H'->Hk K mg P' H' M'->AllP K P' H' ds vs->Q vs H'
 |.x c n=>Wx P0 H0 M' c n
def yE (X:Cx)(Wx:XW)(cpos:Pos)(keys:List (Option Expr))(values:List Expr)(ps:sJ):Prop:=∃trs,uN X cpos keys values trs/\∀P0 H0 P Os st H M env r M' Q,Ok X.K X.mg P0 H0 P Os H M st env->ps env M=some (r,M')->PQ X.K X.mg Wx P0 H0 P H M' Q r->Bp trs st H Q
theorem Ov : yE X Wx cpos [] [] dG := ⟨[],X7,fun P0 H0 P Os st H M env r M' Q k e q=>by
 cases e;exact q P [] H (LtE.refl P H) k.hk rfl⟩
theorem xK (ha:SE X Wx .val a f)(hb:SE X Wx .val b g)(hr:yE X Wx cpos ks vs ps):yE X Wx cpos (some a::ks) (b::vs) (gQ f g ps):=by
 obtain⟨trs,h1,h2⟩:=hr;refine⟨_,X6 ha hb h1,fun P0 H0 P Os st H M env r M' Q k e q=>?_⟩;unfold gQ at e;split at e
 ·rename_i x M1 e1;refine aN k e1 fun P1 v1 H1 l1 hk1 i1=>?_;have k1:=k.next l1 hk1
  split at e
  ·rename_i y M2 e2;refine aN k1 e2 fun P2 v2 H2 l2 hk2 i2=>?_;have k2:=k1.next l2 hk2
   split at e
   ·rename_i rr M3 e3;cases e;exact h2 _ _ _ _ _ _ _ _ _ _ _ k2 e3 fun P3 us H3 l3 hk3 al=>q P3 _ H3 (l1.trans (l2.trans l3)) hk3 ⟨(v1,v2),us,rfl,Is.lt ((l2.lt hk1).trans (l3.lt hk2)) i1,Is.lt (l3.lt hk2) i2,al⟩
   ·rename_i c n M3 e3;cases e;exact h2 _ _ _ _ _ _ _ _ _ _ _ k2 e3 q
   ·cases e
  ·rename_i c n M2 e2;cases e;exact aN k1 e2 q
  ·cases e
 ·rename_i c n M1 e1;cases e;exact aN k e1 q
 ·cases e
noncomputable def keysOf:List (D×D)->Option (List (Key×D))
  | []=>some []
  |p::ps=>match toKey p.1,keysOf ps with
    |some k,some r=>some ((k,p.2)::r)
    |_,_=>none
noncomputable def tV (kvs more:List (Key×D)):List (Key×D):=more.foldl (fun acc kv=>b_ acc kv.1 kv.2) kvs
noncomputable def dh (ps:sJ):E:=fun env M=>match ps env M with
  | some (.v ds, M1) => (match keysOf ds with
    |some kvs=>if kvs.length<=15 then some (.v (.ref M1.length),M1 ++ [.dct (tV [] kvs)]) else none
    |none=>none)
  |some (.x c n,M1)=>some (.x c n,M1)
  |none=>none
theorem K4 {K:Fgx}{P:Pl}{H:Hp}:∀{ds:List (D×D)} {kvs:List (Key×D)} {vs:List (V×V)},keysOf ds=some kvs->AllP K P H ds vs->∃us:List (Key×V),vs=us.map (fun kv=>(kV kv.1,kv.2))/\us.length=kvs.length/\cO K P H kvs us
  | [],kvs,vs,e,h=>by
    cases e;exact⟨[],h,rfl,rfl,rfl⟩
  |p::ps,kvs,vs,e,h=>by
    obtain⟨v,r,rfl,i1,i2,h⟩:=h;simp only[keysOf]at e;split at e
    · rename_i k r' ek er;cases e;obtain⟨us,e1,e2,e3⟩:=K4 er h;refine⟨(k,v.2)::us,?_,by simp[e2],xY.mpr ⟨rfl,i2,e3⟩⟩;rw[xam, <-e1, <-key_is ek i1]
    · cases e
theorem Lb {K:Fgx}{P:Pl}{H:Hp}:∀{more:List (Key×D)} {us:List (Key×V)} {kvs:List (Key×D)} {vs:List (Key×V)},cO K P H more us->cO K P H kvs vs->cO K P H (tV kvs more) (nQ vs us)
  | [],[],_,_,_,q=>q
  | [],_::_,_,_,h,_=>by cases h.1
  |_::_,[],_,_,h,_=>by cases h.1
  |p::more,u::us,kvs,vs,h,q=>by
    obtain⟨h1,i,h2⟩:=xY.mp h;show cO K P H (tV (b_ kvs p.1 p.2) more) (nQ (putK vs u.1 u.2) us);rw[h1];exact Lb h2 (Pb i q)
theorem yO {K:Fgx}{mg:Mgx}{P:Pl}{H:Hp}{M:Mm}{p:Addr}{o:HO}(h:Hk K mg P H M)(hp:H p=none):LtE P H (P.bar p) (upd H p o)/\Hk K mg (P.bar p) (upd H p o) M/\∀k,k<P.n->P.io k≠p:=by
 have s:=nZ (o:=o) hp;have nc:∀k,k<P.n->P.io k≠p:=fun k hk z=>h.here _ (h.bd k hk) (z ▸ hp);have l:LtE P H (P.bar p) (upd H p o):=⟨xaf _,fun _ _=>rfl,fun a z=>Or.imp (fun q=>q) (fun(q:a=p)=>by rw[q];exact hp) z,fun a z=>.inl z,fun a o e _=>s a o e,fun a z=>s.free z,fun k h1 h2=>absurd h1 (xcO.mpr h2)⟩;refine⟨l,⟨h.n,fun k c e=>(h.cell k c e).lt (l.lt h) fun u eu=>s _ _ eu,h.inj,fun k hk=>.inl (h.bd k hk),fun a z q=>?_⟩,nc⟩;rcases z with z |z
 ·exact h.here a z (s.free q)
 ·subst z;rw[bO]at q;cases q
theorem yV {K:Fgx}{mg:Mgx}{P0 P:Pl}{H0 H:Hp}{M:Mm}{a:Addr}{o o':HO}{c:Cl}(l:LtE P0 H0 P H)(h:Hk K mg P H M)(ha:H0 a=none)(ba:P.bd a)(nc:∀k,k<P.n->P.io k≠a)(ea:H a=some o)(nf:¬ Fx o)(hc:∀P',Lt P H P' (upd H a o')->sI K mg P' (upd H a o') a c):
  ∃P',LtE P0 H0 P' (upd H a o')/\Hk K mg P' (upd H a o') (M ++ [c])/\Is K P' (upd H a o') (.ref M.length) (.ref a):=by
 have hn:P.n=M.length:=h.n
 let P2:Pl:={io:=fun j=>if j=P.n then a else P.io j,n:=P.n + 1,bd:=P.bd}
 have io:∀j,j<P.n->P2.io j=P.io j:=fun j hj=>xag (by omega);have ioN:P2.io P.n=a:=xac rfl;have lc:Lt P H P (upd H a o'):=pU ba ea nf;have l2:Lt P H P2 (upd H a o'):=⟨xcz _,io,fun _ z=>.inl z,lc.keep,lc.sure⟩;refine⟨P2,⟨xdH l.n,fun j hj=>(io j (xah hj l.n)).trans (l.io j hj),l.bd,l.bm,fun b u e z=>?_,fun b z=>l.sure b (lc.sure b z),fun j h2 h3=>?_⟩,⟨by rw[xax, <-hn];rfl,fun j d ej=>?_,fun i j hi hj e=>?_,fun j hj=>?_,fun b z q=>h.here b z (lc.sure b q)⟩,?_⟩
 ·rw[aP (fun z=>by subst z;rw[ha]at e;cases e)];exact l.keep b u e z
 ·rcases xaJ j P.n with z |z
  ·rw[io j z];exact l.nw j h2 z
  ·have:j=P.n:=xaV (xaZ h3) z;rw[this,ioN];exact ha
 ·rcases xaJ j P.n with z |z
  ·rw[xaX (by rw[<-hn];exact z)]at ej;rw[io j z];exact(h.cell j d ej).lt l2 fun u eu=>by rw[aP (nc j z)];exact eu
  ·have jl:=(xal.mp ej).1;rw[xax,xa2, <-hn]at jl;have:j=P.n:=by omega
   subst this;rw[xa9 (by rw[hn];exact xaf _),hn,Nat.sub_self]at ej;cases ej;rw[ioN];exact hc P2 l2
 ·rcases xaJ i P.n with z |z
  ·rcases xaJ j P.n with y |y
   ·rw[io i z,io j y]at e;exact h.inj i j z y e
   ·have:j=P.n:=xaV (xaZ hj) y;rw[io i z,this,ioN]at e;exact absurd e (nc i z)
  ·have iN:i=P.n:=xaV (xaZ hi) z;rcases xaJ j P.n with y |y
   ·rw[iN,ioN,io j y]at e;exact absurd e.symm (nc j y)
   ·rw[iN];exact xaV y (xaZ hj)
 ·rcases xaJ j P.n with z |z
  ·rw[io j z];exact h.bd j z
  ·have:j=P.n:=xaV (xaZ hj) z;rw[this,ioN];exact ba
 ·exact⟨by show _<P.n + 1;rw[hn];exact xbO _,by rw[<-hn,ioN]⟩
theorem Og:SE X Wx m (.Dict [] [] pos) (dh dG):=by
 refine cg Xe ?_;rintro st H Q ⟨P0,H0,P,Os,env,M,r,M',k,e,q⟩;cases e;intro p hp;obtain⟨l1,h1,nc⟩:=yO (o:=.dK []) k.hk hp;obtain⟨P2,l2,h2,i2⟩:=yV (o':=.dK []) (c:=.dct []) l1 h1 hp (.inr rfl) nc bO tY fun P' _=>⟨[],bO,rfl,rfl⟩;rw[Ie]at l2 h2 i2;exact q P2 _ _ l2 h2 (cA.of h2 i2)
theorem Oe {keys:List (Option Expr)}{values:List Expr}{ps:sJ}(h:yE X Wx pos keys values ps)(hall:keys.all (·.isSome)=true:=by rfl)(hl:keys.length=values.length:=by rfl)(h0:keys≠ []:=by exact fun z=>nomatch z)(h15:keys.length<=15:=by decide):SE X Wx m (.Dict keys values pos) (dh ps):=by
 obtain⟨trs,hp,ht⟩:=h;refine cg (Xd hp hall hl h0 h15) ?_;rintro st H Q ⟨P0,H0,P,Os,env,M,r,M',k,e,q⟩;intro p hp;obtain⟨l1,h1,nc⟩:=yO (o:=.dK []) k.hk hp;have k1:=k.next l1 h1
 unfold dh at e;split at e
 ·rename_i ds M1 e1;split at e
  rotate_left
  ·cases e
  rename_i kvs ek;split at e
  rotate_left
  ·cases e
  rename_i h15';cases e;refine ht _ _ _ _ _ _ _ _ _ _ _ k1 e1 fun P2 vs H2 l2 h2 al=>?_;have ep:H2 p=some (.dK []):=l2.keep p _ bO (.inr nc);have nc2:=l2.nc bO nc;obtain⟨us,e3,e4,tb⟩:=K4 ek al;refine⟨ep,us,e3,by rw[e4];exact h15',?_⟩;obtain⟨P3,l3,h3,i3⟩:=yV (o':=.dK (nQ [] us)) (c:=.dct (tV [] kvs)) (l1.trans l2) h2 hp (l2.bm p (.inr rfl)) nc2 ep tY fun P' l'=>by
   have tm:=Lb (kvs:=[]) (vs:=[]) tb ⟨rfl,rfl⟩;exact⟨_,bO,tm.1,aD.lt l' tm.2⟩
  exact q P3 _ _ l3 h3 (cA.of h3 i3)
 ·rename_i c n M1 e1;cases e;exact ht _ _ _ _ _ _ _ _ _ _ _ k1 e1 q
 ·cases e
noncomputable def fK (M:Mm) (d:D):String:=match d with
  | .ref k => (match M[k]? with
    |some (.lst _)=>"list"
    |some (.dct _)=>"dict"
    |_=>"")
  |d=>yd d
noncomputable def fV (tb:String->String->Option Bool) (T:String) (f:E):E:=fun env M=>bnd (f env M) fun d M1=>if fK M1 d="" then none else(tb (fK M1 d) T).map fun b=>(.v (.bl b),M1)
theorem QJ:dU X (.builtin "isinstance") (fun xs H Q=>∃(x:V) (T:String) (d:D) (P:Pl) (M:Mm) (b:Bool),xs=[x,.ty T]/\Hk X.K X.mg P H M/\cH X.K P H d x/\fK M d≠""/\PySem.W.kitOne X.K (.type (fK M d)) (.type T)=some b/\Q (.bl b) H):=by
  intro pins s σ H xs us Q I r h;obtain⟨x,T,d,P,M,b,rfl,hk,i,ne,e,q⟩:=h;have old:fK M d=yd (vw M d)->wpAny (model X.prog X.w) X.A (call (.builtin "isinstance") us) (EP X pins σ Q) X.xe s:=fun et=>by
    rw[et]at ne e;exact QG pins s σ H _ us Q I r ⟨x,T,vw M d,P,b,rfl,cH.vw hk i,ne,e,q⟩
  cases d with
  |ref k=>
    cases em:M[k]? with
    |none=>simp[fK,em]at ne
    |some c=>
      cases c with
      |lst ds=>exact old (by simp[fK,vw,em,yd])
      |obj c fs=>simp[fK,em]at ne
      |dcf kvs=>simp[fK,em]at ne
      |dct kvs=>
        obtain⟨u,w',rfl,rx,rT⟩:=vals2 r;cases rT;obtain⟨kl,rfl⟩:k<P.n/\x=.ref (P.io k):=i;cases rx;obtain⟨vs,ev,_⟩:=hk.cell k _ em;obtain⟨_,_,vs',_,o,es,ep,h1,h2,_⟩:=I.hok _ _ ev;simp only[fK,em]at e;exact xaF xcL I.kIn ⟨o,h1,h2.1⟩ e (fun z=>nomatch z) fun tk=>⟨.bl b,H,I.tok _,rfl,q⟩
  |non=>exact old rfl
  |bl _=>exact old rfl
  |int _=>exact old rfl
  |str _=>exact old rfl
  |tup _=>exact old rfl
  |lst _=>exact old rfl
theorem xq (ht:∀t b,tb t T=some b->PySem.W.kitOne X.K (.type t) (.type T)=some b)(he:SE X Wx .bor e f)(hg:Gl X "isinstance")(hm:X.mg "isinstance"=none)(hg':Gl X (Str.ofString T))(hm':X.mg (Str.ofString T)=none)(hT:bootBuiltins (Str.ofString T)=some (.type T))
  (n1:Str.ofString T≠"__name__":=by x_go) (n2:(Str.ofString T==("__debug__":Str))=false:=by x_go) (hs:starEach [e,.Name (Str.ofString T) p'] X.env=(false,eval e X.env)::starEach [.Name (Str.ofString T) p'] X.env:=by rfl):
  SE X Wx m (.Call (.Name "isinstance" p) [e,.Name (Str.ofString T) p'] [] pos) (fV tb T f):=by
 have pT:PE X (.Name (Str.ofString T) p') (tC (.ty T)):=Ma hg' hm' hT rfl n1 n2;refine cg (zR QJ hg hm boot_isinstance (gj he (gj pT iK) hs) (by x_go) (by x_go) hs rfl) ?_;rintro st H Q ⟨P0,H0,P,Os,env,M,r,M',k,e,q⟩;unfold fV at e;rcases bT e with⟨d,M1,e1,e⟩ |⟨c,n,e1,rfl⟩
 ·split at e
  ·cases e
  ·rename_i hne;rw[xae]at e;obtain⟨b,eb,e⟩:=e;cases e;exact aN k e1 fun P1 v1 H1 l1 h1 i1=>⟨v1,T,d,P1,_,b,rfl,h1,i1,hne,ht _ _ eb,q P1 _ H1 l1 h1 (cA.of h1 (show Is _ _ _ (.bl b) _ from rfl))⟩
 ·exact aN k e1 q
end
section
variable {X:Cx}{Wx:XW}{m:Mode}{pos:Pos}
noncomputable def uD:D->Option Str
 |.str z=>if z.length<=sizeLine then some z else none
 |.int i=>if i.natAbs.log2<1920 then some (toString i) else none
 |_=>none
abbrev EJ:=Str->Env->Mm->O
noncomputable def fQ:EJ:=fun out _ M=>if out.length<=sizeLine then some (.v (.str out),M) else none
noncomputable def d7 (z:Str) (ps:EJ):EJ:=fun out env M=>if (out ++ z).length<=sizeLine then ps (out ++ z) env M else none
noncomputable def iz (f:E) (ps:EJ):EJ:=fun out env M=>bnd (f env M) fun d M1=>match uD d with
 |some y=>if (out ++ y).length<=sizeLine then ps (out ++ y) env M1 else none
 |none=>none
noncomputable def tJ (K:Fgx) (mg:Mgx) (Wx:XW) (ps:EJ):TJ:=fun out st H Q=>tE K mg Wx .val (ps out) st H Q
def SJ (X:Cx)(Wx:XW)(vs:List Expr)(ps:EJ):Prop:=PJ X vs (tJ X.K X.mg Wx ps)
theorem zW (h:PJ X vs t)(w:∀out σ H Q,t' out σ H Q->t out σ H Q):PJ X vs t':=fun pins s σ H out Q I hw=>h pins s σ H out Q I (w out σ H Q hw)
theorem Oo:SJ X Wx [] fQ:=by
 refine zW Ge ?_;rintro out st H Q ⟨P0,H0,P,Os,env,M,r,M',k,e,q⟩;unfold fQ at e;split at e
 ·rename_i hl;cases e;exact⟨hl,q P _ H (LtE.refl P H) k.hk rfl⟩
 ·cases e
theorem Ho (h:SJ X Wx vs ps)(hz:z.length<=sizeLine:=by x_go):SJ X Wx (.Constant (.str z) n pos::vs) (d7 z ps):=by
 refine zW (zV h hz) ?_;rintro out st H Q ⟨P0,H0,P,Os,env,M,r,M',k,e,q⟩;unfold d7 at e;split at e
 ·rename_i hl;exact⟨hl,P0,H0,P,Os,env,M,r,M',k,e,q⟩
 ·cases e
theorem zbi {K:Fgx}{P:Pl}{H:Hp}{d:D}{v:V}{y:Str}(h:uD d=some y)(i:Is K P H d v):textV v=some y:=by
 unfold uD at h;split at h
 ·cases i;exact h
 ·cases i;exact h
 ·cases h
theorem zbQ (he:SE X Wx .val e f)(h:SJ X Wx vs ps):SJ X Wx (.FormattedValue e (-1) none pos::vs) (iz f ps):=by
 refine zW (Gf he h) ?_;rintro out st H Q ⟨P0,H0,P,Os,env,M,r,M',k,e,q⟩;unfold iz at e;rcases bT e with⟨d,M1,e1,e⟩ |⟨c,n,e1,rfl⟩
 ·split at e
  ·rename_i y ey;split at e
   ·rename_i hl;exact aN k e1 fun P1 v1 H1 l1 h1 i1=>⟨y,zbi ey i1,hl,P0,H0,P1,Os,env,M1,r,M',k.next l1 h1,e,RQ.imp l1 q⟩
   ·cases e
  ·cases e
 ·exact aN k e1 q
def fU (ps:EJ):E:=ps Str.empty
theorem Oh (h:SJ X Wx (v::w::vs) ps):SE X Wx m (.JoinedStr (v::w::vs) pos) (fU ps):=by
 have h':SE X Wx .val (.JoinedStr (v::w::vs) pos) (fU ps):=cg (FZ h) fun st H Q z=>z;exact h'.bor
noncomputable def dw:List Nat->List D->Env->Option Env
 | [],[],env=>some env
 |i::is,d::ds,env=>if i<env.length then dw is ds (env.set i (.val d)) else none
 |_,_,_=>none
def SG (X:Cx)(ts:List Expr)(is:List Nat):Prop:=∃t,sO X ts t/\∀P0 H0 P Os st H M env env' ds vs Q,Ok X.K X.mg P0 H0 P Os H M st env->aD X.K P H ds vs->dw is ds env=some env'->(∀Os' st',Ok X.K X.mg P0 H0 P Os' H M st' env'->Q st' H)->t vs st H Q
theorem Hi : SG X [] [] := ⟨_,Gb,fun P0 H0 P Os st H M env env' ds vs Q k is e q=>by
 cases ds with
 |nil=>cases e;exact⟨is,q _ _ k⟩
 |cons d ds=>cases e⟩
theorem n6 (hN:X.N.Nodup)(hi:X.N[i]? =some x)(hx:Loc X.env.scope x)(hr:SG X ts is)(hf:X.fn x=true\/X.env.scope.names.lookup x=some .local:=by first |exact .inl rfl |exact .inr rfl)
    (hs:(assignEach (.Name x p::ts) X.env).map (·.2)=assign (.Name x p) X.env::(assignEach ts X.env).map (·.2):=by rfl):SG X (.Name x p::ts) (i::is):=by
  obtain⟨t,h1,h2⟩:=hr;refine⟨_,wH (wG hN hi hx hf) h1 hs,fun P0 H0 P Os st H M env env' ds vs Q k is e q=>?_⟩
  cases ds with
  |nil=>cases e
  |cons d ds=>
    obtain⟨v,r,rfl,iv,is⟩:=is;simp only[dw]at e;split at e
    · rename_i hl;exact⟨v,r,rfl,h2 _ _ _ _ _ _ _ _ _ _ _ _ (k.asg hl iv) is e q⟩
    · cases e
noncomputable def mR (is:List Nat) (f:E):S:=fun env M=>bQ (f env M) fun d M1=>match d with
 |.tup ds=>if ds.length=is.length then(dw is ds env).map fun e=>(.nx e,M1) else none
 |_=>none
theorem zbX (hc:X.calm=true)(hg:SG X ts is)(he:SE X Wx .val e f)(hn:(assignEach ts X.env).length=is.length:=by rfl)(hst:(assignEach ts X.env).findIdx? (·.1)=none:=by rfl)
  (hs:swapsWithSole [.Tuple ts n p] e pos.line X.env=pure false:=by rfl) (hw:swappedStores [.Tuple ts n p] e X.env=pure none:=by rfl) (h1:(assignEach [.Tuple ts n p] X.env).map (·.2)=[assign (.Tuple ts n p) X.env]:=by rfl):
  SS X Wx (.Assign [.Tuple ts n p] e pos) (mR is f):=by
 obtain⟨t,hp,ht⟩:=hg;refine eO (Gg he (zU (n:=is.length) hc hp hn hst) hs hw h1) ?_;rintro D st H ⟨P0,H0,P,Os,env,M,out,M',k,e,q⟩;unfold mR at e;rcases eN e with⟨d,M1,e1,e⟩ |⟨c,n,e1,rfl⟩
 ·cases d<;>simp only[reduceCtorEq]at e
  rename_i ds;split at e
  ·rename_i hl;rw[xae]at e;obtain⟨env',ee,e⟩:=e;cases e;refine aN k e1 fun P1 v1 H1 l1 h1 i1=>?_;obtain⟨a,vs,rfl,sq,is'⟩:=i1;exact⟨a,vs,rfl,sq,by rw[is'.len];exact hl,ht _ _ _ _ _ _ _ _ _ _ _ _ (k.next l1 h1) is' ee fun Os' st' k'=>q _ _ _ _ (l1.lt k.hk) k'⟩
  ·cases e
 ·exact aN k e1 q
noncomputable def setAt (M:Mm) (d y x:D):Option Mm:=match d with
  | .ref j => (match y with
    | .int i => (match M[j]? with
      | some (.lst ds) => (match iy ds.length i with
        |some n=>some (M.set j (.lst (ds.set n x)))
        |none=>none)
      |_=>none)
    |_=>none)
  |_=>none
theorem zay (h:setAt M d y x=some M'):∃j i ds n,d=.ref j/\y=.int i/\M[j]? =some (.lst ds)/\iy ds.length i=some n/\M'=M.set j (.lst (ds.set n x)):=by
 unfold setAt at h;split at h
 ·split at h
  ·split at h
   ·rename_i em;split at h
    ·rename_i en;cases h;exact⟨_,_,_,_,rfl,rfl,em,en,rfl⟩
    ·cases h
   ·cases h
  ·cases h
 ·cases h
end
end E3
namespace E3
open PySem L2
section
variable {env:Env}{M M1 M2:Mm}{f g o v:E}{d e x:D}{i:Int}{k:Nat}{ds es:List D}{s t:S}{z:Str}{fa:EA}{b:Bool}
noncomputable def Dj:Option (List D×Mm)->O
 |some (ys,M)=>some (.v (.lst ys),M)
 |none=>none
noncomputable def JG (q e:E) (env:Env):Option (ResA×Mm)->O
 |some (.v ds,M1)=>Dj (eZ q e env ds [] M1)
 |some (.x c n,M1)=>some (.x c n,M1)
 |none=>none
theorem YG {cs:List (Str×Nat)}{q e:E}:kh cs fa q e env M=JG q e (bY cs env) (fa env M):=rfl
theorem Z6 {q e:E}:JG q e env (some (.v ds,M))=Dj (eZ q e env ds [] M):=rfl
theorem Z7:Dj (some (ds,M))=some (.v (.lst ds),M):=rfl
theorem JM {q e : E} (F : D -> Option D) : ∀ (ds acc : List D), (∀d∈ds,match F d with
    |some y=>q (.val d::env) M=some (.v (.bl true),M)/\e (.val d::env) M=some (.v y,M)
    |none=>q (.val d::env) M=some (.v (.bl false),M))->acc.length + ds.length<sizeLine->eZ q e env ds acc M=some (acc ++ ds.filterMap F,M)
  | [],acc,_,_=>by simp[eZ]
  |d::ds,acc,h,hl=>by
    have hd:=h d (by simp);have hr:∀acc',acc'.length + ds.length<sizeLine->eZ q e env ds acc' M=some (acc' ++ ds.filterMap F,M):=fun acc' hl'=>JM F ds acc' (fun d' hd'=>h d' (by simp[hd'])) hl';rw[xaz]at hl
    cases hF:F d with
    |none=>
      rw[hF]at hd;simp only[eZ,hd,xbe,hF];exact hr acc (by omega)
    |some y=>
      rw[hF]at hd;simp only[eZ,hd.1,hd.2,xbe,hF];rw[xac (by omega),hr (acc ++ [y]) (by rw[xax,xa2];omega)]
      simp
theorem YD:bY [] env=[]:=rfl
theorem YC {x:Str}{n:Nat}{cs:List (Str×Nat)}:bY ((x,n)::cs) env=(env[n]?).getD .un::bY cs env:=rfl
noncomputable def fu (tb:String->String->Option Bool) (T:String) (M:Mm) (ty:String):O:=if ty="" then none else(tb ty T).map fun b=>(.v (.bl b),M)
noncomputable def vO (tb:String->String->Option Bool) (T:String) (r:O):O:=bnd r fun d M=>fu tb T M (fK M d)
theorem YW {tb:String->String->Option Bool}{T:String}:fV tb T f env M=vO tb T (f env M):=rfl
theorem zcU {tb:String->String->Option Bool}{T:String}:vO tb T (some (.v d,M))=fu tb T M (fK M d):=rfl
theorem ty_int:fK M (.int i)="int":=rfl
theorem ty_str:fK M (.str z)="str":=rfl
theorem zcq:fK M (.bl b)="bool":=rfl
theorem zb3:fK M .non="NoneType":=rfl
theorem zbU:fK M (.tup ds)="tuple":=rfl
theorem zbO:fK M (.lst ds)="list":=rfl
theorem zc7 {tb:String->String->Option Bool}{T:String}:fu tb T M "int"=(tb "int" T).map fun b=>(.v (.bl b),M):=rfl
theorem zcr {tb:String->String->Option Bool}{T:String}:fu tb T M "str"=(tb "str" T).map fun b=>(.v (.bl b),M):=rfl
theorem Ig {tb:String->String->Option Bool}{T:String}:fu tb T M "bool"=(tb "bool" T).map fun b=>(.v (.bl b),M):=rfl
theorem zc4 {tb:String->String->Option Bool}{T:String}:fu tb T M "NoneType"=(tb "NoneType" T).map fun b=>(.v (.bl b),M):=rfl
theorem zda {tb:String->String->Option Bool}{T:String}:fu tb T M "tuple"=(tb "tuple" T).map fun b=>(.v (.bl b),M):=rfl
theorem zc3 {tb:String->String->Option Bool}{T:String}:fu tb T M "list"=(tb "list" T).map fun b=>(.v (.bl b),M):=rfl
theorem zcT {tb:String->String->Option Bool}{T:String}:fu tb T M "dict"=(tb "dict" T).map fun b=>(.v (.bl b),M):=rfl
theorem JR {kvs:List (Key×D)}(h:M[k]? =some (.dct kvs)):nF M (.ref k)=some (k,kvs):=by unfold nF;simp only[h]
theorem Dv {kvs:List (Key×D)}{key:Key}(h:M[k]? =some (.dct kvs))(h4:toKey e=some key):dk M (.ref k) e=some (k,kvs,key):=by simp only[dk,JR h,h4,xbE]
theorem Rt {kvs:List (Key×D)}{key:Key}(h1:f env M=some (.v (.ref k),M1))(h2:g env M1=some (.v e,M2))(h3:M2[k]? =some (.dct kvs))(h4:toKey e=some key)(h5:bf kvs key=some x):wU f g env M=some (.v x,M2):=by
 simp only[wU,bnd,h1,h2,Dv h3 h4,h5,xbE]
theorem Ry {M3:Mm}{kvs:List (Key×D)}{key:Key}(h0:v env M=some (.v x,M1))(h1:f env M1=some (.v (.ref k),M2))(h2:g env M2=some (.v e,M3))(h3:M3[k]? =some (.dct kvs))(h4:toKey e=some key)(h5:kvs.length<sizeLine):wV f g v env M=some (.nx env,M3.set k (.dct (b_ kvs key x))):=by
 simp only[wV,bQ,h0,h1,h2,Dv h3 h4,h5,xbU]
noncomputable def yg (is:List Nat) (env:Env) (M:Mm):D->OS
 |.tup ds=>if ds.length=is.length then(dw is ds env).map fun e=>(.nx e,M) else none
 |_=>none
theorem Zn {is:List Nat}:mR is f env M=cR (fun d M1=>yg is env M1 d) (f env M):=rfl
theorem zcw {is:List Nat}:yg is env M (.tup ds)=if ds.length=is.length then(dw is ds env).map fun e=>(.nx e,M) else none:=rfl
theorem Zh:dw [] [] env=some env:=rfl
theorem Zi {n:Nat}{is:List Nat}:dw (n::is) (d::ds) env=if n<env.length then dw is ds (env.set n (.val d)) else none:=rfl
end
end E3
namespace L2
open PySem PySem.Spec PyProof.Rows
end L2
namespace E3
open PySem PySem.Spec PyProof.Rows L2
section
variable {es:List Expr}{env:PySem.Env}{pos:Pos}
theorem aK:starEach (.Constant c k pos::es) env=(false,eval (.Constant c k pos) env)::starEach es env:=by rfl
theorem aU:starEach (.Name x pos::es) env=(false,eval (.Name x pos) env)::starEach es env:=by rfl
theorem iH:starEach (.BinOp a o b pos::es) env=(false,eval (.BinOp a o b pos) env)::starEach es env:=by rfl
theorem kI:starEach (.UnaryOp o a pos::es) env=(false,eval (.UnaryOp o a pos) env)::starEach es env:=by rfl
theorem gH:starEach (.Call f as ks pos::es) env=(false,eval (.Call f as ks pos) env)::starEach es env:=by rfl
theorem zaj:starEach (.Attribute a x pos::es) env=(false,eval (.Attribute a x pos) env)::starEach es env:=by rfl
theorem kE:starEach (.Subscript a b pos::es) env=(false,eval (.Subscript a b pos) env)::starEach es env:=by rfl
theorem bM:starEach (.Tuple as k pos::es) env=(false,eval (.Tuple as k pos) env)::starEach es env:=by rfl
theorem OJ:starEach (.List as pos::es) env=(false,eval (.List as pos) env)::starEach es env:=by rfl
theorem za9:starEach (.Dict ks vs pos::es) env=(false,eval (.Dict ks vs pos) env)::starEach es env:=by rfl
theorem zak:starEach (.ListComp a gs sc pos::es) env=(false,eval (.ListComp a gs sc pos) env)::starEach es env:=by rfl
end
end E3
namespace L2
open PySem PySem.Spec PyProof.Rows
theorem U4 {P:Program}{w:World}{K:Fgx}{mg:Mgx}{base:Heap}{N:List Str}{qual:Str}{scope:Scope}{f:Addr}{cd:Value}{A:Around}{outer:List PySem.Env}{E:XK}{s:Shared}{H H1:Hp}{s1:Shared}{pins:Pnx}{σ:St}{a C T:Addr}{dx:Option Addr}
  (c:Caught (cU (gk P w) P w K mg base N qual scope f cd A outer s H E) pins σ H1 s1 a C dx T) (hE:E (.ref C) dx H1):(cU (gk P w) P w K mg base N qual scope f cd A outer s H E).xe (.ref a) s1:=by
 show wpAny _ _ (leaving _ _) _ _ _;unfold leaving;refine xaa (Caught.note c rfl rfl fun s' T' c'=>?_);have I:=c'.inv;have hL:s.heap.get? (envOfC qual scope s.heap.objs.size f cd).locals=none:=xbw I.ok.above;have u1:Un (s.heap.objs.size::frs outer) [] H H1 s.heap s'.heap:=Un.mono (fs':=s.heap.objs.size::frs outer) (ex':=[]) I.base (fun b hb=>xav _ hb) fun b hb=>hb;exact⟨a,C,dx,H1,T',rfl,I.os,I.bare,u1.less hL,I.hok,c'.obj,c'.hT,c'.t1,c'.fl,hE⟩
end L2
namespace E3
open PySem PySem.Spec PyProof.Rows L2
structure XPass (X:Cx)(Wx:XW):Prop where
 xc:∀pins σ H s a C dx T c n P0 H0 P M,Caught X pins σ H s a C dx T->LtE P0 H0 P H->Hk X.K X.mg P H M->X.mg c=some (.ref C)->XN H n dx->Wx P0 H0 M c n->X.xe (.ref a) s
section
variable {X:Cx}{Wx:XW}{m:Mode}{pos:Pos}
theorem SX.se (F:XPass X Wx)(h:SX X e f):SE X Wx m e f:=by
  have h':SE X Wx .val e f:=by
    let Ex:L2.St->XK:=fun σ Cv dx H'=>∀pins s' a C T,Cv=.ref C->Caught X pins σ H' s' a C dx T->X.xe (.ref a) s'
    refine cg (h Ex fun pins σ H s e s' I z=>?_) ?_
    · obtain⟨a,C,dx,H',T,rfl,K1,hE⟩:=C_ I z;exact hE pins s' a C T rfl K1
    · rintro st H Q ⟨P0,H0,P,Os,env,M,r,M',k,e,q⟩;refine⟨P0,H0,P,Os,env,M,r,M',k,e,?_⟩
      cases r with
      |v d=>exact q
      |x c n=>
        intro P' H' C dx l hk hm xn pins s' a C' T eC ca;cases eC;exact F.xc pins st H' s' a C dx T c n P0 H0 P' M' ca (k.base.trans l) hk hm xn q
  exact h'.bor
end
section
variable {P:Program}{w:World}{K:Fgx}{mg:Mgx}{base:Heap}{k:Nat}{x qual:Str}{st:Stmt}{f:Addr}{fd:FuncData}{N ps:List Str}{b:S}
theorem Sy (F:FunD K x qual st f fd)(S:FnScope N ps (bw st))(hp:ps.length<=N.length)
    (hb:∀cdv A outer s H E Wx,Room k (A.deeper (envOfC qual (bw st) s.heap.objs.size f cdv))->XFit (kZ P w K mg base N qual st f cdv A outer s H E) Wx->XPass (kZ P w K mg base N qual st f cdv A outer s H E) Wx->SB (kZ P w K mg base N qual st f cdv A outer s H E) Wx (dD st) b):FnOk P w K mg base (gk P w) (k + 1) f fd ps (xJ K mg ps.length (cI N.length b)):=by
  obtain ⟨oc, od, dV, kV, doc, pm, an, cdv, ct, osl, rfl, lk, hcd⟩ := F.ex;refine DW lk hcd S (fun vs H Q E h => h.1) fun A outer s H vs Q E hr h => ?_;obtain ⟨hl, Pl, M, ds, r, M', hk, is, e, q⟩ := h;have XF : XFit (kZ P w K mg base N qual st f cdv A outer s H E) (fun P0 H0 M1 c n => P0 = Pl /\ H0 = H /\ M1 = M' /\ r = .x c n) := ⟨fun pins σ H1 s1 a C dx c n P0 H0 P1 M1 I ea nb n0 l h m xn ⟨e1,e2,e3,e4⟩=>by
    subst e1 e2 e3 e4;have sure:∀b,upd H1 a (xo a C dx false) b=none->H1 b=none:=fun b z=>by
      by_cases hb:b=a
      · subst hb;rw[bO]at z;cases z
      · rw[aP hb]at z;exact z
    have l1 : LtE P0 H0 P1 (upd H1 a (xo a C dx false)) := ⟨l.n,l.io,l.bd,l.bm,fun b o eb nb=>by
      rw[aP (fun z=>by rw[z,n0]at eb;cases eb)];exact l.keep b o eb nb,fun b z=>l.sure b (sure b z),l.nw⟩
    have h1 := h.away (H' := upd H1 a (xo a C dx false)) (fun b o eb nx=>by
      rw[aP (fun z=>by rw[z,ea]at eb;cases eb;exact nx _ rfl)];exact eb) sure
    refine U0 I ea (q P1 _ C dx l1 h1 m ?_)
    cases dx with
    |none=>exact xn
    |some d=>
      obtain⟨fs,ed,el⟩:=xn;exact⟨fs,by rw[aP (fun z=>by rw[z,ea]at ed;cases ed)];exact ed,el⟩⟩
  have XP : XPass (kZ P w K mg base N qual st f cdv A outer s H E) (fun P0 H0 M1 c n => P0 = Pl /\ H0 = H /\ M1 = M' /\ r = .x c n) := ⟨fun pins σ H1 s1 a C dx T c n P0 H0 P1 M1 ca l h m xn ⟨e1,e2,e3,e4⟩=>by
    subst e1 e2 e3 e4;exact U4 ca (q P1 _ C dx l h m xn)⟩
  refine⟨_,hb cdv A outer s H E _ hr XF XP,?_⟩;unfold cI bB at e;have st0:=O1 (N:=N) hk (by omega) is;split at e
  · rename_i d' M2 eb;cases e;exact⟨Pl,H,Pl,_,_,M,_,_,st0,eb,fun P' v H' l h i=>q P' v H' l h i⟩
  · rename_i env M2 eb;cases e;exact⟨Pl,H,Pl,_,_,M,_,_,st0,eb,fun P' Os' H' st' _ k'=>q P' .non H' k'.base k'.hk rfl⟩
  · rename_i c n M2 eb;cases e;exact⟨Pl,H,Pl,_,_,M,_,_,st0,eb,⟨rfl,rfl,rfl,rfl⟩⟩
  · cases e
end
section
variable {K:Fgx}{P:Pl}{H:Hp}
noncomputable def pO:List D->Option (List Int)
 | []=>some []
 |.int i::ds=>(pO ds).map (i:: ·)
 |_::_=>none
theorem Ky:∀{ds:List D} {is:List Int} {vs:List V},pO ds=some is->aD K P H ds vs->vs=is.map V.int
  | [],_,_,e,h=>by cases e;exact h
  |d::ds,is,vs,e,h=>by
    obtain⟨v,r,rfl,i,h⟩:=h
    cases d with
    |int n=>
      simp only[pO,xae]at e;obtain⟨is',e',rfl⟩:=e;cases i;rw[Ky e' h];rfl
    |_=>simp[pO]at e
noncomputable def m9:List D->Option (List Bool)
 | []=>some []
 |.bl b::ds=>(m9 ds).map (b:: ·)
 |_::_=>none
theorem CT:∀{ds:List D} {bs:List Bool} {vs:List V},m9 ds=some bs->aD K P H ds vs->vs=bs.map V.bl
  | [],_,_,e,h=>by cases e;exact h
  |d::ds,bs,vs,e,h=>by
    obtain⟨v,r,rfl,i,h⟩:=h
    cases d with
    |bl n=>
      simp only[m9,xae]at e;obtain⟨bs',e',rfl⟩:=e;cases i;rw[CT e' h];rfl
    |_=>simp[m9]at e
noncomputable def gZ:List D->Option D
 | [.int i]=>if i.natAbs.log2<1920 then some (.str (toString i)) else none
 |_=>none
theorem Gm:lF K (fun xs H Q=>∃i,xs=[.int i]/\i.natAbs.log2<1920/\Q (.str (toString i)) H) gZ:=fun P H ds z vs Q h i _ q=>by
 unfold gZ at h;split at h
 ·split at h
  ·rename_i hl;obtain⟨v,ws,rfl,p,rfl⟩:=i;cases h;cases p;exact⟨_,rfl,hl,q _ H (Same.refl H) rfl⟩
  ·cases h
 ·cases h
noncomputable def iT:List D->Option D
 | [.str z]=>if z.length<=640 then(intText? z).map .int else none
 |_=>none
theorem Ms:lF K (fun xs H Q=>∃z n,xs=[.str z]/\intText? z=some n/\z.length<=640/\Q (.int n) H) iT:=fun P H ds z vs Q h i _ q=>by
 unfold iT at h;split at h
 ·split at h
  ·rename_i hl;rw[xae]at h;obtain⟨n,en,rfl⟩:=h;obtain⟨v,ws,rfl,p,rfl⟩:=i;cases p;exact⟨_,n,rfl,en,hl,q _ H (Same.refl H) rfl⟩
  ·cases h
 ·cases h
noncomputable def iU:List D->Option D
 | [.lst ds]=>(pO ds).map fun is=>.int is.sum
 |_=>none
theorem Yo:lF K (fun xs H Q=>∃(p:Addr) (is:List Int),xs=[.ref p]/\bI K H p (is.map V.int)/\Q (.int is.sum) H) iU:=fun P H ds z vs Q h i _ q=>by
 unfold iU at h;split at h
 ·rw[xae]at h;obtain⟨is,ei,rfl⟩:=h;obtain⟨v,ws,rfl,p,rfl⟩:=i;obtain⟨a,us,rfl,r,s⟩:=p;rw[Ky ei s]at r;exact⟨a,is,rfl,r,q _ H (Same.refl H) rfl⟩
 ·cases h
noncomputable def lK:List D->Option D
 | [.lst ds]=>(m9 ds).map fun bs=>.bl (bs.all id)
 |_=>none
theorem Yl:lF K (fun xs H Q=>∃(p:Addr) (bs:List Bool),xs=[.ref p]/\bI K H p (bs.map V.bl)/\Q (.bl (bs.all id)) H) lK:=fun P H ds z vs Q h i _ q=>by
 unfold lK at h;split at h
 ·rw[xae]at h;obtain⟨is,ei,rfl⟩:=h;obtain⟨v,ws,rfl,p,rfl⟩:=i;obtain⟨a,us,rfl,r,s⟩:=p;rw[CT ei s]at r;exact⟨a,is,rfl,r,q _ H (Same.refl H) rfl⟩
 ·cases h
end
section
variable {X:Cx}{Wx:XW}{m:Mode}{pos:Pos}
noncomputable def uo (f g h:E):E:=fun env M=>bnd (f env M) fun d M1=>match nF M1 d with
  | some _ => bnd (g env M1) fun y M2 => bnd (h env M2) fun x M3 => (match dk M3 d y with
    |some (_,kvs,k)=>some (.v ((bf kvs k).getD x),M3)
    |none=>none)
  |none=>none
theorem zaO (hu:X.A.units + 60<cLine)(ho:SE X Wx .val o f)(he:SE X Wx .val e g)(he':SE X Wx .val e' h)(hm:L2.M2 X o "get" p e e' pos:=by exact⟨rfl,rfl,rfl,rfl⟩):SE X Wx m (.Call (.Attribute o "get" p) [e,e'] [] pos) (uo f g h):=by
  refine cg (Mg (xbG (xbC (by decide) _) hu) ho he he' hm) ?_;rintro st H Q ⟨P0,H0,P,Os,env,M,r,M',k,ee,q⟩;unfold uo at ee;rcases bT ee with⟨d,N1,e1,ea⟩ |⟨c,n,e1,rfl⟩
  · refine aN k e1 fun P1 v1 H1 l1 h1 i1=>?_;have k1:=k.next l1 h1
    split at ea
    · rename_i pr ed;obtain⟨j,kvs0⟩:=pr;obtain⟨rfl,em0⟩:=Ds ed;obtain⟨jl,rfl⟩:j<P1.n/\v1=.ref (P1.io j):=i1;obtain⟨vs0,ev0,_,_⟩:=h1.cell j _ em0;refine⟨_,rfl,.inl ⟨vs0,.inl ev0⟩,?_⟩;rcases bT ea with⟨y,N2,e2,eb⟩ |⟨c,n,e2,rfl⟩
      · refine aN k1 e2 fun P2 v2 H2 l2 h2 i2=>?_;have k2:=k1.next l2 h2
        rcases bT eb with⟨x,N3,e3,ec⟩ |⟨c,n,e3,rfl⟩
        · refine aN k2 e3 fun P3 v3 H3 l3 h3 i3=>?_;split at ec
          · rename_i j' kvs key ek;cases ec;obtain⟨ej,em,et⟩:=Dw ek;cases ej;obtain⟨vs,ev,en,is⟩:=h3.cell j _ em;have g:=xZ (k:=key) (kvs:=kvs) (vs:=vs) ⟨en,is⟩;rw[l3.io j (xah jl l2.n),l2.io j jl]at ev;have i2':=Is.lt (l3.lt h2) i2;refine⟨bR vs key,by rw[key_is et i2'];exact eX.k ev,?_⟩
            cases hd:bf kvs key with
            |none=>
              rw[hd]at g q;have g':bR vs key=none:=g;rw[g'];exact q P3 _ H3 (l1.trans (l2.trans l3)) h3 (cA.of h3 i3)
            |some z=>
              rw[hd]at g q;obtain⟨v,gv,iv⟩:=g;rw[gv];exact q P3 _ H3 (l1.trans (l2.trans l3)) h3 (cA.of h3 iv)
          · cases ec
        · exact aN k2 e3 q
      · exact aN k1 e2 q
    · cases ea
  · exact aN k e1 q
end
inductive KRows (K:Fgx)(w:World):List (Str×D)->List DictEntry->List (Key×Value)->Prop
 |nil:KRows K w [] [] []
 |cons {z:Str} {d:D} {t:Tok} {u:Value} {v:V} {hs:Int} {tb:List (Str×D)} {es:List DictEntry} {vs:List (Key×Value)}:hs=hashStr w z->RelV v u->(∀P H,Is K P H d v)->KRows K w tb es vs->KRows K w ((z,d)::tb) (⟨hs,.str z t,u⟩::es) ((.inr z,u)::vs)
def KTab (K:Fgx)(w:World)(a:Addr)(tb:List (Str×D)):Prop:=∃o es ep vs,K.lookup a=some o/\o.ExactDict/\o.data=.dict es ep/\KRows K w tb es.toList vs/\(tb.map (·.1)).Nodup/\(a==sysModules)=false
section
variable {X:Cx}{Wx:XW}{pos:Pos}
noncomputable def zx (f:E):EA:=fun env M=>match f env M with
 |some (.v (.str z),M1)=>some (.v (z.cps.toList.map fun c=>.str ⟨#[c]⟩),M1)
 |some (.x c n,M1)=>some (.x c n,M1)
 |_=>none
theorem zcs (h:SE X Wx .val e f):SI X Wx tg e (zx f):=by
 refine wI (XJ h) ?_;rintro st H R ⟨P0,H0,P,Os,env,M,r,M',k,e,q⟩;unfold zx at e;split at e
 ·rename_i z M1 ef;cases e;refine⟨P0,H0,P,Os,env,M,_,_,k,ef,fun P1 v1 H1 l1 h1 i1=>⟨z,i1,q P1 H1 _ l1 h1 fun P2 H2 l2=>?_⟩⟩;have hl:(z.cps.toList.map fun c=>(D.str ⟨#[c]⟩)).length=z.cps.size:=by simp
  rw[hl];refine⟨fun j hj=>hj,fun j h1 h2=>xaV h2 h1,fun j x H' y hj=>⟨y.1,?_⟩⟩;obtain⟨c,ec,rfl⟩:=y.2;refine⟨.str ⟨#[c]⟩,?_,rfl⟩;rw[xan,Array.getElem?_toList,ec];rfl
 ·rename_i c n M1 ef;cases e;exact⟨P0,H0,P,Os,env,M,_,_,k,ef,q⟩
 ·cases e
end
end E3
namespace L2
open PySem PySem.Spec PyProof.Rows
def zde (h:Heap)(a t:Addr)(i:Int):Prop:=∃o,h.get? a=some o/\o.cls=.type "reversed"/\o.data=.fields #[.ref t,rawInt i]
end L2
namespace E3
open PySem PySem.Spec PyProof.Rows L2
section
variable {X:Cx}{Wx:XW}{m:Mode}{pos:Pos}
noncomputable def iZ (f:E) (ps:EJ):EJ:=fun out env M=>bnd (f env M) fun d M1=>match d with
 |.str z=>if (reprText z).length<=sizeLine/\(out ++ reprText z).length<=sizeLine then ps (out ++ reprText z) env M1 else none
 |_=>none
theorem XS (he:PE X e te)(hv:PJ X vs tj):PJ X (.FormattedValue e 114 none pos::vs) (fun out σ H Q=>te σ H fun v H1=>∃z,v=.str z/\(reprText z).length<=sizeLine/\(out ++ reprText z).length<=sizeLine/\tj (out ++ reprText z) σ H1 Q):=fun pins s σ H out Q I h=>by
 refine joinParts_cons (wpAny_FormattedValue_repr (aL (he pins s σ H _ I h) fun u s1 ⟨x,H1,I1,r1,z,ez,hz,hl,q⟩=>?_));subst ez;obtain⟨t,rfl⟩:=r1;refine pyReprObj_str ?_ hz;exact formatField_str (fun t' tk=>⟨hl,hv pins _ σ H1 _ Q (I1.tok _) q⟩) hz
theorem zbP (he:SE X Wx .val e f)(h:SJ X Wx vs ps):SJ X Wx (.FormattedValue e 114 none pos::vs) (iZ f ps):=by
 refine zW (XS he h) ?_;rintro out st H Q ⟨P0,H0,P,Os,env,M,r,M',k,e,q⟩;unfold iZ at e;rcases bT e with⟨d,M1,e1,e⟩ |⟨c,n,e1,rfl⟩
 ·cases d<;>simp only[reduceCtorEq]at e
  rename_i z;split at e
  ·rename_i hl;exact aN k e1 fun P1 v1 H1 l1 h1 i1=>⟨z,i1,hl.1,hl.2,P0,H0,P1,Os,env,M1,r,M',k.next l1 h1,e,RQ.imp l1 q⟩
  ·cases e
 ·exact aN k e1 q
def oF (P:Program)(w:World)(K:Fgx)(mg:Mgx)(base:Heap)(k:Nat)(C:Addr)(m:Str)(n:Nat)(g:G):Prop:=
 ∃f fd ps ds dvs sp,Meth K C m f/\FnOk P w K mg base eG k f fd ps sp/\Binds K fd ps ds/\Vals dvs ds/\∀vs H Q E,mW K mg n g vs H Q E->sp (vs ++ dvs) H Q E
theorem oF.mono {P:Program}{w:World}{K:Fgx}{mg:Mgx}{base:Heap}{j k:Nat}{C:Addr}{m:Str}{n:Nat}{g:G}(a:oF P w K mg base j C m n g)(h:j<=k):oF P w K mg base k C m n g:=by
 obtain⟨f,fd,ps,ds,dvs,sp,h1,h2,h3⟩:=a;exact⟨f,fd,ps,ds,dvs,sp,h1,h2.mono h,h3⟩
structure OwnIs (K:Fgx)(C:Addr):Prop where
 ca:PySem.W.findIn K (.ref C) "__class__"=some (some (.builtin "object.__class__"))
 gt:PySem.W.specialIn K (.builtin "object.__class__") "__get__"=some (some (.builtin "getset_descriptor.__get__"))
 tk:PySem.W.takesIn K (.builtin "object.__class__")=some true
 mr:PySem.W.mroIn K C (.type "object")=some true
 me:PySem.W.kitOne K (.ref C) (.ref C)=some true
end
end E3
namespace E3
open PySem L2
noncomputable def dg (n:Nat):List Nat:=(Nat.toDigits 10 n).map Char.toNat
theorem Dt (n:Nat):NumText.AllDigits (dg n):=fun c hc=>by
 obtain⟨d,hd,rfl⟩:=xbq.mp hc;have h:=Nat.isDigit_of_mem_toDigits (by decide) (by decide) hd;simp only[Char.isDigit,xat,xbd]at h;exact⟨h.1,h.2⟩
theorem J0 (n:Nat):dg n≠ []:=fun e=>Nat.toDigits_ne_nil (List.map_eq_nil_iff.mp e)
theorem JZ (h1:1<=k)(h:n<10 ^ k):(dg n).length<=k:=by
 rw[dg,xaC];exact toDigits_len_pow (by decide) h1 h
noncomputable def bL (i:Int):Str:=Str.ofString (toString i)
theorem xG (h:0<=i):(bL i).cps.toList=dg i.toNat:=by
 have:=W.KIN.signs_num i.toNat;rw[xdn h]at this;exact this
theorem Om (h:i<0):(bL i).cps.toList=45::dg i.natAbs:=by
 obtain⟨m,rfl⟩:∃m,i=Int.negSucc m:=by
  cases i with
  |ofNat n=>exact absurd h (by simp)
  |negSucc m=>exact⟨m,rfl⟩
 unfold bL dg;rw[PyProof.Rows.signs_ofString];show List.map Char.toNat ("-" ++ toString (m + 1)).toList=_;rw[String.toList_append,xbh,Nat.toString_eq_ofList_toDigits]
 simp
theorem Hj (h1:1<=k)(h:i.natAbs<10 ^ k):(bL i).length<=k + 1:=by
 show(bL i).cps.size<=k + 1;rw[<-xcw]
 by_cases h0:0<=i
 ·rw[xG h0];have:=JZ (n:=i.toNat) h1 (by rw[<-Int.natAbs_of_nonneg h0]at *;simpa using h);omega
 ·rw[Om (by omega),xaz];have:=JZ h1 h;omega
theorem Tt (h:i.natAbs<10 ^ 600):intText? (bL i)=some i:=by
 have hl:=Hj (by decide) h
 by_cases h0:0<=i
 ·rw[intText_digits (by rw[xG h0];exact Dt _) (by rw[xG h0];exact J0 _) (by omega),xG h0];have:=W.KIN.val_back i.toNat;unfold dg;rw[this,xdn h0]
 ·rw[intText_neg (Om (by omega)) (Dt _) (J0 _) (by omega)];have:=W.KIN.val_back i.natAbs;unfold dg;rw[this];congr 1;omega
noncomputable def cd (s:Str):List Nat:=s.cps.toList
theorem sX (a b:Str):cd (a ++ b)=cd a ++ cd b:=by
 unfold cd;rw[Str.cps_append,Array.toList_append]
theorem Fg (x:Str):x.length=(cd x).length:=by
 show x.cps.size=x.cps.toList.length
 simp
theorem U9 {i:Int}(h:i.natAbs<2 ^ 1900):i.natAbs.log2<1920:=by
 by_cases h0:i.natAbs=0
 ·rw[h0];decide
 ·have:=(xdJ h0).mpr h;omega
noncomputable def RG (c:Nat):Bool:=decide (48<=c) && decide (c<=57)
noncomputable def DN (cs:List Nat):Bool:= !decide (cs=[]) && cs.all RG && (decide (cs=[48]) || !decide (cs.head? =some 48))
noncomputable def R5 (cs:List Nat):List Nat:=if cs.head? =some 45 then cs.tail else cs
def good (cs:List Nat):Bool:= !decide (cs=[45,48]) && DN (R5 cs)
theorem Fj (h:n<340282366920938463463374607431768211456):n.log2<1920:=by
 by_cases h0:n=0
 ·rw[h0];decide
 ·have:=(xdJ h0 (k:=128)).mpr h;omega
section
variable {env:Env}{M M1:Mm}{f g h c:E}{d e:D}{i j:Int}{n k:Nat}{z:Str}{b:Bool}{ds es:List D}{s t:S}{x:Str}{fa:EA}{u:G}
theorem Z0 {q:D->Mm->OS}:cR q (some (.x x i,M))=some (.ex x i,M):=rfl
theorem ZW {q:D->Mm->O}:gA q (some (.x x i,M))=some (.x x i,M):=rfl
theorem ZR {q:List D->Mm->O}:iR q (some (.x x i,M))=some (.x x i,M):=rfl
theorem zbp {q:Mm->Option (ResA×Mm)}:Dp q (some (.x x i,M))=some (.x x i,M):=rfl
theorem Z9:lQ d (some (.x x i,M))=some (.x x i,M):=rfl
theorem sE (h:M[k]? =some (.lst ds)):vw M (.ref k)=.lst ds:=by unfold vw;simp only[h]
noncomputable def uV (q:List D->Mm->O):Option (ResA×Mm)->O
 |some (.v ds,M)=>q ds M
 |_=>none
theorem ZS {q:List D->Mm->O}:uV q (some (.v ds,M))=q ds M:=rfl
theorem YB:rK u fa env M=uV (fun ds M1=>u ds M1) (fa env M):=rfl
theorem Gw:nY x f env M=cR (fun _ M1=>some (.ex x 0,M1)) (f env M):=rfl
noncomputable def Ib (k:Nat) (M:Mm) (env:Env):Option Slot->OS
 |some (.exc _ _)=>some (.nx (env.set k .un),M)
 |_=>none
theorem zc0 {e':Env}:Ib k M e' (some (.exc x i))=some (.nx (e'.set k .un),M):=rfl
noncomputable def mY (k:Nat):OS->OS
 |some (.nx e,M2)=>Ib k M2 e e[k]?
 |some (.rt d,M2)=>some (.rt d,M2)
 |_=>none
theorem za7 {e':Env}:mY k (some (.nx e',M))=Ib k M e' e'[k]? :=rfl
theorem zbm:mY k (some (.rt d,M))=some (.rt d,M):=rfl
noncomputable def mZ (k:Nat) (cat:Str->Bool) (q:S) (env:Env):OS->OS
 |some (.ex c n,M1)=>if cat c=true then(if k<env.length then mY k (q (env.set k (.exc c n)) M1) else none) else none
 |o=>o
theorem zcd {cat:Str->Bool}{e':Env}:mZ k cat t env (some (.nx e',M))=some (.nx e',M):=rfl
theorem zbo {cat:Str->Bool}:mZ k cat t env (some (.rt d,M))=some (.rt d,M):=rfl
theorem zbM {cat:Str->Bool}:mZ k cat t env (some (.ex x i,M))=if cat x=true then(if k<env.length then mY k (t (env.set k (.exc x i)) M) else none) else none:=rfl
theorem Zk {cat:Str->Bool}:mQ k cat s t env M=mZ k cat t env (s env M):=rfl
noncomputable def vQ (tb:Str->Option Bool) (M:Mm):Option Slot->O
 |some (.exc c _)=>(tb c).map fun b=>(.v (.bl b),M)
 |_=>none
theorem zcm {tb:Str->Option Bool}:vQ tb M (some (.exc x i))=(tb x).map fun b=>(.v (.bl b),M):=rfl
theorem YX {tb:Str->Option Bool}:dH k tb env M=vQ tb M env[k]? :=rfl
noncomputable def Pu:O->Option (ResA×Mm)
 |some (.v (.str z),M1)=>some (.v (z.cps.toList.map fun c=>.str ⟨#[c]⟩),M1)
 |some (.x c n,M1)=>some (.x c n,M1)
 |_=>none
theorem Y4:zx f env M=Pu (f env M):=rfl
theorem zc5:Pu (some (.v (.str z),M))=some (.v (z.cps.toList.map fun c=>.str ⟨#[c]⟩),M):=rfl
theorem Gp {ps:EJ}:fU ps env M=ps Str.empty env M:=rfl
theorem Gs {out:Str}:fQ out env M=if out.length<=sizeLine then some (.v (.str out),M) else none:=rfl
theorem Gq {ps:EJ}{out:Str}:d7 z ps out env M=if (out ++ z).length<=sizeLine then ps (out ++ z) env M else none:=rfl
noncomputable def KR (ps:EJ) (out:Str) (env:Env) (M:Mm):Option Str->O
 |some y=>if (out ++ y).length<=sizeLine then ps (out ++ y) env M else none
 |none=>none
theorem wR {ps:EJ}{out y:Str}:KR ps out env M (some y)=if (out ++ y).length<=sizeLine then ps (out ++ y) env M else none:=rfl
theorem Mw {ps:EJ}{out:Str}:iz f ps out env M=gA (fun d M1=>KR ps out env M1 (uD d)) (f env M):=rfl
theorem O9:uD (.str z)=if z.length<=sizeLine then some z else none:=rfl
theorem zcC:uD (.int i)=if i.natAbs.log2<1920 then some (Str.ofString (toString i)) else none:=rfl
noncomputable def KQ (ps:EJ) (out:Str) (env:Env) (M:Mm):D->O
 |.str z=>if (reprText z).length<=sizeLine/\(out ++ reprText z).length<=sizeLine then ps (out ++ reprText z) env M else none
 |_=>none
theorem wQ {ps:EJ}{out:Str}:KQ ps out env M (.str z)=if (reprText z).length<=sizeLine/\(out ++ reprText z).length<=sizeLine then ps (out ++ reprText z) env M else none:=rfl
theorem Mv {ps:EJ}{out:Str}:iZ f ps out env M=gA (fun d M1=>KQ ps out env M1 d) (f env M):=rfl
theorem Vs {y:Str}:aX (.str z) (.str y)=if z.length + y.length<=sizeLine then some (.str (z ++ y)) else none:=rfl
theorem VH:aY (.str z) (.int i)=if z.length<=sizeLine then(cP z.cps.toList i).map fun c=>.str ⟨#[c]⟩ else none:=rfl
theorem VL:dO [.str z]=if z.length<=sizeLine then some (.int z.length) else none:=rfl
theorem V9:gZ [.int i]=if i.natAbs.log2<1920 then some (.str (toString i)) else none:=rfl
theorem VB:iT [.str z]=if z.length<=640 then(intText? z).map .int else none:=rfl
theorem Vz {y:Str}:aJ .isin (.str z) (.str y)=some (.bl (zA z y)):=rfl
theorem V5 {y:Str}:aJ .notin (.str z) (.str y)=some (.bl (!zA z y)):=rfl
theorem Vw {y:Str}:aJ .eq (.str z) (.str y)=some (.bl (decide (z=y))):=by
 unfold aJ cD kW;rw[xac (by constructor<;>first |rfl |simp[D.dep])]
 have:(z==y)=decide (z=y):=by rw[xa5];simp
 simp[D.eq,this]
theorem V3 {y:Str}:aJ .ne (.str z) (.str y)=some (.bl (!decide (z=y))):=by
 unfold aJ cD ni;rw[xac (by constructor<;>first |rfl |simp[D.dep])]
 have:(z==y)=decide (z=y):=by rw[xa5];simp
 simp[D.eq,this]
theorem VD:aJ .same .non .non=some (.bl true):=rfl
theorem VF:aJ .other (.int i) .non=some (.bl true):=rfl
theorem VG:aJ .other .non .non=some (.bl false):=rfl
theorem Dl {α:Type}{e:E}(A B:α->D):∀(as:List α) (acc:List D),(∀a∈as,e (.val (A a)::env) M=some (.v (B a),M))->acc.length + as.length<sizeLine->eZ (aj (.bl true)) e env (as.map A) acc M=some (acc ++ as.map B,M)
  | [],acc,_,_=>by simp[eZ]
  |a::as,acc,h,hl=>by
    rw[xaz]at hl;have hr:=Dl A B as (acc ++ [B a]) (fun a' ha'=>h a' (by simp[ha'])) (by rw[xax,xa2];omega);rw[xam];unfold eZ;rw[show aj (.bl true) (.val (A a)::env) M=some (.v (.bl true),M) from rfl];dsimp only;rw[h a xaA];dsimp only;rw[xac (by omega),hr]
    simp
noncomputable def rY (k:Nat) (t:S) (ds:List D):OS->OS
 |some (.nx e,M1)=>loopS k t ds e M1
 |some (.ct e,M1)=>loopS k t ds e M1
 |some (.bk e,M1)=>some (.nx e,M1)
 |some (.rt d,M1)=>some (.rt d,M1)
 |some (.ex c n,M1)=>some (.ex c n,M1)
 |none=>none
theorem Y6:loopS k t [] env M=some (.nx env,M):=rfl
theorem Gu:loopS k t (d::ds) env M=if k<env.length then rY k t ds (t (env.set k (.val d)) M) else none:=rfl
theorem MF {e':Env}:rY k t ds (some (.nx e',M))=loopS k t ds e' M:=rfl
theorem zcz {e':Env}:rY k t ds (some (.ct e',M))=loopS k t ds e' M:=rfl
theorem zcy {e':Env}:rY k t ds (some (.bk e',M))=some (.nx e',M):=rfl
theorem zcv:rY k t ds (some (.rt d,M))=some (.rt d,M):=rfl
theorem zc9:rY k t ds (some (.ex x i,M))=some (.ex x i,M):=rfl
theorem Cg {α:Type}{xs:List α}{i:Int}(d:α)(h0:0<=i)(h1:i<xs.length):cP xs i=some (xs.getD i.toNat d):=by
 obtain⟨k,rfl⟩:∃k:Nat,i=k:=⟨i.toNat,by omega⟩;have hk:k<xs.length:=by omega
 exact lJ (by simp[hk])
theorem at0 {α:Type}{a:α}{xs:List α}:cP (a::xs) 0=some a:=lJ (j:=0) rfl
theorem at1 {α:Type}{a b:α}{xs:List α}:cP (a::b::xs) 1=some b:=lJ (j:=1) rfl
theorem at2 {α:Type}{a b c:α}{xs:List α}:cP (a::b::c::xs) 2=some c:=lJ (j:=2) rfl
theorem yH {α:Type}{a b c d:α}{xs:List α}:cP (a::b::c::d::xs) 3=some d:=lJ (j:=3) rfl
theorem iW {M:Mm}{cl:Cl}:(M ++ [cl])[M.length]? =some cl:=List.getElem?_concat_length ..
theorem s_end {M:Mm}{cl cl':Cl}:(M ++ [cl]).set M.length cl'=M ++ [cl']:=by simp
theorem w_end {M:Mm}:vw (M ++ [.lst ds]) (.ref M.length)=.lst ds:=sE iW
theorem Ro {α:Type}(xs:List α){i:Int}(h:0<=i):fO xs (some i) none=xs.drop i.toNat:=by
 obtain⟨k,rfl⟩:∃k:Nat,i=k:=⟨i.toNat,by omega⟩;unfold fO;rw[HT.Nf,HT.Nb];rw[xch (by rw[xck];omega),xcc]
 by_cases hk:k<=xs.length
 ·rw[Nat.min_eq_left hk]
 ·rw[Nat.min_eq_right (by omega),xbz,xdb (by omega)]
theorem Rq {α:Type}(xs:List α){i:Int}(h:0<=i):fO xs none (some i)=xs.take i.toNat:=by
 obtain⟨k,rfl⟩:∃k:Nat,i=k:=⟨i.toNat,by omega⟩;unfold fO;rw[HT.Nf,HT.Nb,xbK,Nat.sub_zero,xcc]
 by_cases hk:k<=xs.length
 ·rw[Nat.min_eq_left hk]
 ·rw[Nat.min_eq_right (by omega),List.take_length,xch (by omega)]
end
end E3
namespace L2
open PySem PySem.Spec PyProof.Rows
end L2
namespace E3
open PySem PySem.Spec PyProof.Rows L2
end E3
namespace L2
open PySem PySem.Spec PyProof.Rows
end L2
namespace E3
open PySem PySem.Spec PyProof.Rows L2
end E3
namespace L2
open PySem PySem.Spec PyProof.Rows
section
variable {X:Cx}{pins:Pnx}{σ:St}{H:Hp}{s:Shared}{a:Addr}{u u':HO}
theorem Inv.swap (I:Inv X pins σ H s)(ha:H a=some u)(h1:∀xs,u≠ .tup xs)(h2:∀b,u≠ .own b)(h3:∀ps,u≠ .tbl ps)(hf:∀o v,X.H₀ a≠some (.frz o v))
  (ok:cG X.prog X.w (upd H a u') s.heap a u'):Inv X pins σ (upd H a u') s:=by
 have ne:∀b,H b=none->b≠a:=fun b e z=>by rw[z,ha]at e;cases e
 refine⟨I.ok,I.os,I.bare,?_,I.loc,I.cell,?_,?_,?_,?_,I.len⟩
 ·refine⟨I.base.keep,I.base.slot,fun b o e1 e2 e3=>?_,I.base.there,fun b xs e=>?_,fun b o v e=>?_,fun b ps e=>?_⟩
  ·have:=I.base.free b o e1 e2 e3;rw[aP (ne b this)];exact this
  ·have:=I.base.tups b xs e
   by_cases z:b=a
   ·rw[z,ha]at this;cases this;exact absurd rfl (h1 xs)
   ·rw[aP z];exact this
  ·have:=I.base.frzs b o v e
   by_cases z:b=a
   ·rw[z]at e;exact absurd e (hf o v)
   ·rw[aP z];exact this
  ·obtain⟨more,this⟩:=I.base.tbls b ps e
   by_cases z:b=a
   ·rw[z,ha]at this;cases this;exact absurd rfl (h3 _)
   ·exact⟨more,by rw[aP z];exact this⟩
 ·rw[aP (ne _ I.free)];exact I.free
 ·intro x c e;have:=I.freeC x c e;rw[aP (ne _ this)];exact this
 ·intro p hp;obtain⟨q1,q2,q3⟩:=I.pin p hp;exact⟨q1,by rw[aP (ne _ q2)];exact q2,q3⟩
 ·intro b o e
  by_cases z:b=a
  ·rw[z]at e ⊢;rw[bO]at e;cases e;exact ok
  ·rw[aP z]at e;refine(I.hok b o e).stay (fun c v _ q=>q) (fun c q=>?_) (fun c xs q=>?_)
   ·by_cases y:c=a
    ·rw[y,ha]at q;cases q;exact absurd rfl (h2 _)
    ·rw[aP y];exact q
   ·by_cases y:c=a
    ·rw[y,ha]at q;cases q;exact absurd rfl (h1 _)
    ·rw[aP y];exact q
end
theorem oV (ok:cC P w H h)(e:H a=some (.frz ob (.dK kvs)))(hd:ob.data=.dict es0 ep):
  ∃vs,KV kvs vs/\h.DictAt (dZ P w) a vs ep:=by
 obtain⟨g,_,_,vs,r,o,es,ep',ho,hx,hdat,rest⟩:=ok a _ e;rw[g]at ho;cases ho;rw[hd]at hdat;cases hdat;exact⟨vs,r,ob,es0,g,hx,hd,rest⟩
noncomputable def BJ (a:Addr) (ob:Obj) (kvs:List (Key×V)):It:=
 ⟨fun i H=>i<kvs.length/\H a=some (.frz ob (.dK kvs)),fun i H x H'=>H'=H/\(kvs[i]?).map (fun p=>kV p.1)=some x,fun i H=>i=kvs.length/\H a=some (.frz ob (.dK kvs))⟩
theorem KV.key {κ:Type}:∀{kvs:List (κ×V)} {vs:List (κ×Value)} {i:Nat} {p:κ×V},KV kvs vs->kvs[i]? =some p->∃q,vs[i]? =some q/\p.1=q.1:=by
  intro kvs vs i p r;unfold KV at r
  induction r generalizing i with
  |nil=>intro e;simp at e
  |cons h t ih=>
    intro e
    cases i with
    |zero=>simp only[xc3]at e;cases e;exact⟨_,rfl,h.1⟩
    |succ n=>simp only[xaQ]at e ⊢;exact ih e
theorem M7 {k:Key}{v:Value}(h:pP k v=true):RelV (kV k) v:=by
 rcases lA h with⟨i,t,rfl,rfl⟩ |⟨x,t,rfl,rfl⟩<;>exact⟨_,rfl⟩
theorem zaH {P:Program}{w:World}{K:Fgx}{tg:Expr}(a it:Addr)(ob:Obj)(kvs:List (Key×V)){es:Array DictEntry}{ep:Nat}(hd:ob.data=.dict es ep):Turn P w K tg (BJ a ob kvs) [it] it (fun i h=>h.IsKeyIter it a i kvs.length ep) where
 mem:=by simp
 obj:=fun i h st b hb=>by
  have e:b=it:=by simpa using hb
  subst e;obtain⟨o,e,c,d⟩:=st;exact⟨o,e,fun v z=>by rw[d]at z;cases z⟩
 keep:=fun i h h' st k=>st.at fun o e=>k it (by simp) o e
 item:=by
  intro X hP hw hK hc i pins s σ H E I hf st hg;subst hP hw hK;obtain⟨hi,hq⟩:=hg;obtain⟨vs,rv,dat⟩:=oV I.hok hq hd;have hx:kvs[i]? =some (kvs[i]'hi):=xai hi;obtain⟨⟨k,u⟩,hu,ru⟩:=rv.key hx;obtain⟨f0,f1,f2,f3,f4,f5⟩:=hf it (by simp);have st0:s.heap.IsKeyIter it a i vs.length ep:=by rw[<-rv.length];exact st
  refine wpAny_pyNext_dict_item st0 dat hu fun key h' hk st' sb=>?_;rw[<-rv.length]at st';have I1:Inv X pins σ H {s with heap:=h'}:=I.turned (t':=s.toks) (fun b o hb e=>(sb.2 b hb).trans e) f0 f1 f3 f4 f5;obtain⟨o,eo,c,d⟩:=id st';have ru':(kvs[i]'hi).1=k:=ru;exact⟨key,rfl,pL (s:={s with heap:=h'}) eo c d (by decide) ⟨kV k,H,I1,M7 hk,⟨rfl,by rw[hx, <-ru'];rfl⟩,st',fun b hb=>(hf b hb).1⟩⟩
 done:=by
  intro X hP hw hK hc i pins s σ H E I hf st hg;subst hP hw hK;obtain⟨hi,hq⟩:=hg;obtain⟨vs,rv,dat⟩:=oV I.hok hq hd;obtain⟨f0,f1,f2,f3,f4,f5⟩:=hf it (by simp);have st0:s.heap.IsKeyIter it a i vs.length ep:=by rw[<-rv.length];exact st
  exact wpAny_pyNext_dict_end (I.ok.hd hc) st0 dat (xbg (by rw[hi,rv.length];exact xaf _)) fun h' eb=>⟨rfl,I.turned (t':=s.toks) (fun b o hb e=>eb b o hb e) f0 f1 f3 f4 f5⟩
 self:=fun _ _ _ _ _ st h=>wpAny_pyIter_keyiter st h
section
variable {X:Cx}{tg:Expr}
noncomputable def Tn (td:TE):TI:=fun σ H R=>td σ H fun v H1=>∃a ob kvs es ep,v=.ref a/\H1 a=some (.frz ob (.dK kvs))/\ob.data=.dict es ep/\R (BJ a ob kvs) H1
theorem XD {o:Expr}{td:TE}(ho:PE X o td):PI X tg o (Tn td):=by
 intro pins s σ H R I h;refine aL (ho pins s σ H _ I h) fun v s1 ⟨x,H1,I1,r1,a,ob,kvs,es,ep,ex,ha,hd,q1⟩=>?_;subst ex;obtain rfl:v=Value.ref a:=r1;obtain⟨g,sz,sa,_⟩:=I1.hok a _ ha;obtain⟨vs,rv,dat⟩:=oV I1.hok ha hd;refine wpAny_pyIter_dict sa dat ?_;have I3:Inv X pins σ H1 {s1 with heap:=s1.heap.push {cls:=.type "dict_keyiterator",data:=.fields #[.ref a,.int 0 0,.int vs.length 0,.int ep 0]}}:=I1.kept (t':=s1.toks) fun b o e=>xab _ e;refine⟨_,[s1.heap.objs.size],_,BJ a ob kvs,_,rfl,I3,zaH a _ ob kvs hd,?_,fun c hc=>?_,q1⟩
 ·rw[rv.length];exact⟨_,xau _ rfl,rfl,rfl⟩
 ·have e:c=s1.heap.objs.size:=by simpa using hc
  subst e;exact I1.fpOk (xaf _) (I1.hok.fresh (xaf _))
theorem Xi {e:Expr}{t:TE}(h:PE X e t):PE X e fun σ H Q=>t σ H fun v H'=>∃a kvs,H' a=some (.dK kvs)/\∀ob es ep,ob.data=.dict es ep->Q v (upd H' a (.frz ob (.dK kvs))):=by
 intro pins s σ H Q I w;refine aL (h pins s σ H _ I w) fun v s1 ⟨x,H1,I1,r1,a,kvs,ha,q⟩=>?_;obtain⟨sz,sa,vs,rv,dd⟩:=I1.hok a _ ha;obtain⟨ob,es,ep,hob,hex,hdat,rest⟩:=id dd;have nf:∀o u,X.H₀ a≠some (.frz o u):=fun o u e=>by
  have:=I1.base.frzs a o u e;rw[ha]at this;cases this
 exact⟨x,_,I1.swap (u':=.frz ob (.dK kvs)) ha (fun _ z=>by cases z) (fun _ z=>by cases z) (fun _ z=>by cases z) nf ⟨hob,I1.hok a _ ha⟩,r1,q ob es ep hdat⟩
end
end L2
namespace E3
open PySem PySem.Spec PyProof.Rows L2
section
variable {X:Cx}{Wx:XW}{m:Mode}{pos:Pos}
open Classical in
theorem zcH {K:Fgx}{P:Pl}{H:Hp}{kvs:List (Key×D)}{vs:List (Key×V)}(t:cO K P H kvs vs){p:Key×V}(hp:p∈vs):∃d,(p.1,d)∈kvs/\Is K P H d p.2:=by
 obtain⟨i,hi,e⟩:=List.getElem_of_mem hp;have hl:kvs.length=vs.length:=by have:=congrArg List.length t.1;simpa using this.symm
 have hi':i<kvs.length:=by omega
 obtain⟨v,ev,iv⟩:=aD.get t.2 (i:=i) (d:=(kvs[i]).2) (by rw[xan,xai hi'];rfl);rw[xan,xai hi,e]at ev;cases ev;have ek:(vs.map (·.1))[i]? =(kvs.map (·.1))[i]? :=by rw[t.1]
 rw[xan,xan,xai hi,xai hi',e]at ek;have ek':p.1=kvs[i].1:=by simpa using ek
 exact⟨_,by rw[ek'];exact xcm hi',iv⟩
end
theorem Wt:bK X (binaryOp .FloorDiv) (rI (fun _ j=>0<j/\j<18446744073709551616) fun i j=>.int (i / j)):=wC fun i j _ _ _ _ _ hc q=>by
 have h1:(0:Int)<j:=hc.1;have h2:j<18446744073709551616:=hc.2;refine floordiv_int (by omega) (by rw[xcI i (by omega)];exact q) (.inl (PyProof.noPylong_of_log2 ?_));have h0:j.natAbs≠0:=by omega
 have h64:j.natAbs.log2<64:=(xdJ h0).mpr (by rw[show(2:Nat) ^ 64=18446744073709551616 by decide];omega);omega
noncomputable def pY:=oI fun i j=>if 0<j/\j.natAbs<18446744073709551616 then some (.int (i / j)) else none
theorem Ym {K:Fgx}:gM K (rI (fun _ j=>0<j/\j<18446744073709551616) fun i j=>.int (i / j)) pY:=fun P H d e z v w Q h h1 h2 _ q=>by
 obtain⟨i,j,rfl,rfl,h⟩:=tZ h h1 h2;split at h
 ·rename_i hg;cases h;exact⟨i,j,rfl,rfl,⟨hg.1,by omega⟩,q _ H (Same.refl H) rfl⟩
 ·cases h
theorem Vx:pY (.int i) (.int j)=if 0<j/\j.natAbs<18446744073709551616 then some (.int (i / j)) else none:=rfl
section
variable {f g h:E}{env:Env}{M M1 M2 M3:Mm}{j k:Nat}{kvs kvs':List (Key×D)}{y:Bool}
theorem Rv (h1:f env M=some (.v (.ref k),M1))(h2:g env M1=some (.v e,M2))(h3:h env M2=some (.v x,M3))(e1:M1[k]? =some (.dct kvs'))(e3:M3[k]? =some (.dct kvs))(h4:toKey e=some key):uo f g h env M=some (.v ((bf kvs key).getD x),M3):=by
 simp only[uo,bnd,h1,h2,h3,nF,e1,Dv e3 h4]
theorem JN:dh dG env M=some (.v (.ref M.length),M ++ [.dct []]):=rfl
end
end E3
namespace E3
open PySem PySem.Spec PyProof.Rows L2
section
variable {X:Cx}{Wx:XW}{pos:Pos}
noncomputable def gO (is:List Nat) (body:S):Nat->List D->Env->Mm->OS
  |_,[],env,M=>some (.nx env,M)
  |n,d::ds,env,M=>match dw is [.int n,d] env with
    | some env1 => (match body env1 M with
      |some (.nx e,M1)=>gO is body (n + 1) ds e M1
      |some (.ct e,M1)=>gO is body (n + 1) ds e M1
      |some (.bk e,M1)=>some (.nx e,M1)
      |some (.rt d,M1)=>some (.rt d,M1)
      |some (.ex c n,M1)=>some (.ex c n,M1)
      |none=>none)
    |none=>none
noncomputable def wX (is:List Nat) (fs:EA) (body:S):S:=fun env M=>match fs env M with
 |some (.v [.lst ds],M1)=>gO is body 0 ds env M1
 |some (.x c n,M1)=>some (.ex c n,M1)
 |_=>none
theorem zbl (hp:PassesOwn (model X.prog X.w) X.A X.env X.xe)(hc:X.calm=true)(hG:SG X ts is)(hg:Gl X "enumerate")(hm:X.mg "enumerate"=none)(ha:SA X Wx .val [a] fs)(hb:SB X Wx body b)
    (h2:is.length=2:=by rfl) (hn:(assignEach ts X.env).length=2:=by rfl) (hst:(assignEach ts X.env).findIdx? (·.1)=none:=by rfl) (hs:starEach [a] X.env=[(false,eval a X.env)]:=by rfl)
    (hfs:∀x,foldedSetIterable (.Call (.Name "enumerate" p) [a] [] q) X.env x=pure x:=by intro _;rfl):
    SS X Wx (.For (.Tuple ts n tp) (.Call (.Name "enumerate" p) [a] [] q) body [] pos) (wX is fs b):=by
  obtain⟨t,hpg,ht⟩:=hG;refine eO (Ml hp hc (Xz hg hm ha hs) (zU (n:=2) hc hpg hn hst) hb hfs) ?_;rintro D st H ⟨P0,H0,P,Os,env,M,out,M',k,e,q⟩;unfold wX at e;split at e
  · rename_i ds M1 ef;refine⟨P0,H0,P,Os,env,M,_,_,k,ef,fun P1 vs H1 l1 h1 i1=>?_⟩;obtain⟨v,ws,rfl,i1,rfl⟩:=i1;obtain⟨a,us,rfl,ra,is1⟩:=i1;refine⟨a,us,rfl,ra.imp (·.2) id,?_⟩;have k1:=k.next l1 h1
    have q1:=q.lt (l1.lt k.hk);refine⟨fun j m σ H=>m=ds.length - j/\j<=ds.length/\∃P Os' M2 env',Lt P1 H1 P H/\Ok X.K X.mg P0 H0 P Os' H M2 σ env'/\gO is b j (ds.drop j) env' M2=some (out,M'),⟨ds.length,by simp,xbc _,P1,Os,M1,env,Lt.refl _ _,k1,e⟩,?_⟩;rintro j m σ H2 ⟨rfl,hj,P2,Os',M2,env',lt,k',h'⟩;have ra2:=lt.rda ra;have is2:=aD.lt lt is1;have sq:bI X.K H2 a us:=ra2.imp (·.2) id
    by_cases hlt:j<ds.length
    · obtain⟨w,ew,iw⟩:=aD.get is2 (xai hlt);refine .inr ⟨⟨us,w,sq,ew⟩,fun σ' H'=>∃P Os' M2 env',Lt P1 H1 P H'/\Ok X.K X.mg P0 H0 P Os' H' M2 σ' env'/\gO is b (j + 1) (ds.drop (j + 1)) env' M2=some (out,M'),fun σ' H' z=>⟨ds.length - (j + 1),by omega,rfl,hlt,z⟩,fun x H3 y=>?_⟩;obtain⟨pp,v,hpp,rfl,rfl,hv⟩:=y;have hv':=hv us sq;rw[ew]at hv';cases hv';rw[xaY hlt]at h';simp only[gO]at h';have sm:Same H2 (upd H2 pp (.tup [.int j,w])):=nZ hpp;have l3:LtE P2 H2 P2 (upd H2 pp (.tup [.int j,w])):=LtE.same sm;have h3:=k'.hk.same sm;have k3:=k'.next l3 h3
      have lt3:=lt.trans (l3.lt k'.hk);split at h'
      · rename_i env1 ee;have isx:aD X.K P2 (upd H2 pp (.tup [.int j,w])) [.int j,ds[j]] [.int j,w]:=⟨V.int j,[w],rfl,rfl,w,[],rfl,Is.lt (l3.lt k'.hk) iw,rfl⟩;refine⟨pp,[.int j,w],rfl,.inl (.inl bO),rfl,ht _ _ _ _ _ _ _ _ _ _ _ _ k3 isx ee fun Os2 st2 k4=>?_⟩;split at h'
        · rename_i e4 M4 eb;exact⟨P0,H0,P2,_,_,M2,_,_,k4,eb,fun P' Os2 H2 st2 l2 k5=>⟨P',Os2,_,e4,lt3.trans l2,k5,h'⟩⟩
        · rename_i e4 M4 eb;exact⟨P0,H0,P2,_,_,M2,_,_,k4,eb,fun P' Os2 H2 st2 l2 k5=>⟨P',Os2,_,e4,lt3.trans l2,k5,h'⟩⟩
        · rename_i e4 M4 eb;cases h';exact⟨P0,H0,P2,_,_,M2,_,_,k4,eb,fun P' Os2 H2 st2 l2 k5=>q1 P' Os2 H2 st2 (lt3.trans l2) k5⟩
        · rename_i d4 M4 eb;cases h';exact⟨P0,H0,P2,_,_,M2,_,_,k4,eb,q1⟩
        · rename_i c4 n4 M4 eb;cases h';exact⟨P0,H0,P2,_,_,M2,_,_,k4,eb,q1⟩
        · cases h'
      · cases h'
    · have ej:j=ds.length:=by omega
      subst ej;rw[xbz]at h';cases h';exact .inl ⟨⟨us,sq,is2.len⟩,q1 P2 Os' H2 σ lt k'⟩
  · rename_i c n M1 ef;cases e;exact⟨P0,H0,P,Os,env,M,_,_,k,ef,q⟩
  · cases e
end
noncomputable def Ou (K:Fgx):Sp:=fun vs H Q _=>∃a C n,vs=[.ref a,.int n]/\n.natAbs<1000000000000000000/\H a=some (xo a C none true)/\aV K C=true/\gY K C "at"=true/\
 ∀dx,H dx=none->dx≠a->Q .non (upd (upd H dx (.xd [("at",.int n)])) a (xo a C (some dx) true))
noncomputable def lV (sc:Scope) (dn:Str) (ap cp:Pos) (z y:Str):Bool:=(ap.endLine==cp.line) && (decide (sc.names.lookup dn=some .globalImplicit) && !(dn==("__debug__":Str))) && decide (sc.names.lookup ("self":Str)=some .local) && decide (sc.names.lookup ("at":Str)=some .local) && decide (z.length<=100) && decide (y.length<=100)
def pN (sc:Scope)(dn:Str)(b:List Stmt):Prop:=∃p1 ap p3 p4 cp p5 p6 p7 p8 p9 q1 q2 q3 q4 z y vs,b=[.Expr (.Call (.Attribute (.Name dn p1) "__init__" ap) [.Name "self" p3,.JoinedStr vs p4] [] cp) p5,.Assign [.Attribute (.Name "self" p6) "at" p7] (.Name "at" p8) p9]/\lV sc dn ap cp z y=true/\
 (vs=[.Constant (.str z) q1 q2,.FormattedValue (.Name "at" q3) (-1) none q4]\/∃q5 q6,vs=[.Constant (.str z) q1 q2,.FormattedValue (.Name "at" q3) (-1) none q4,.Constant (.str y) q5 q6])
theorem Er {sc:Scope}{dn z:Str}{p1 ap p3 p4 cp p5 p6 p7 p8 p9 q2 q3 q4:Pos}{q1:_}(h:lV sc dn ap cp z Str.empty=true):pN sc dn [.Expr (.Call (.Attribute (.Name dn p1) "__init__" ap) [.Name "self" p3,.JoinedStr [.Constant (.str z) q1 q2,.FormattedValue (.Name "at" q3) (-1) none q4] p4] [] cp) p5,.Assign [.Attribute (.Name "self" p6) "at" p7] (.Name "at" p8) p9]:=
 ⟨p1,ap,p3,p4,cp,p5,p6,p7,p8,p9,q1,q2,q3,q4,z,_,_,rfl,h,.inl rfl⟩
theorem Et {sc:Scope}{dn z y:Str}{p1 ap p3 p4 cp p5 p6 p7 p8 p9 q2 q3 q4 q6:Pos}{q1 q5:_}(h:lV sc dn ap cp z y=true):pN sc dn [.Expr (.Call (.Attribute (.Name dn p1) "__init__" ap) [.Name "self" p3,.JoinedStr [.Constant (.str z) q1 q2,.FormattedValue (.Name "at" q3) (-1) none q4,.Constant (.str y) q5 q6] p4] [] cp) p5,.Assign [.Attribute (.Name "self" p6) "at" p7] (.Name "at" p8) p9]:=
 ⟨p1,ap,p3,p4,cp,p5,p6,p7,p8,p9,q1,q2,q3,q4,z,_,_,rfl,h,.inr ⟨_,_,rfl⟩⟩
theorem FunD.ok {P:Program}{w:World}{K:Fgx}{mg:Mgx}{base:Heap}{x qual:Str}{st:Stmt}{f:Addr}{fd:FuncData}{N ps:List Str}{k:Nat}{sp:Sp}(F:FunD K x qual st f fd)(S:FnScope N ps (bw st))(len:∀vs H Q E,sp vs H Q E->vs.length=ps.length)
  (hbody:∀(cdv:Value) (A:Around) (outer:List PySem.Env) (s:Shared) (H:Hp) (vs:List V) (Q:VK) (E:XK),Room k (A.deeper (envOfC qual (bw st) s.heap.objs.size f cdv))->sp vs H Q E->
   ∃t,dX (cU eG P w K mg base N qual (bw st) f cdv A outer s H E).nox (dD st) t/\t {nx:=fun _ H'=>Q .non H',rt:=Q} (start N vs) H):FnOk P w K mg base eG (k + 1) f fd ps sp:=by
 obtain⟨oc,od,dV,kV,doc,pm,an,cdv,ct,osl,rfl,lk,hcd⟩:=F.ex;refine DW lk hcd S len fun A outer s H vs Q E hr hsp=>?_;obtain⟨t,h,q⟩:=hbody cdv A outer s H vs Q E hr hsp;exact⟨t,h.nox,q⟩
theorem Ku (hb:attributeBase o name env (eval o env)=eval o env)(hline:(ap.endLine==pos.line)=true)
  (hform:methodCallForm ([e1,e2].length + ([]:List Keyword).length) (backTo pos (starEach [e1,e2] env)) (backToKw pos (keywordEach [] env))=true):
  eval (.Call (.Attribute o name ap) [e1, e2] [] pos) env = (do
   let ov <-eval o env
   standAt ap.atName
   let (f,first) <-holding [ov] (getMethod ov name (do return (<-importBound o env).getD true))
   callWith pos f first (backTo pos (starEach [e1,e2] env)) (backToKw pos (keywordEach [] env))):=by
 have hpos:methodCallPos true o env ap pos=pure pos:=by unfold methodCallPos;simp[hline]
 rw[arm_eval_Call,hb];unfold methodCall;rw[hform,hpos];rfl
theorem uT (a b:Str):(a ++ b).length=a.length + b.length:=by
 show(a.cps ++ b.cps).size=_;rw[Array.size_append];rfl
theorem zby (hn:n.natAbs<1000000000000000000):textV (.int n)=some (bL n)/\(bL n).length<=19:=by
 refine⟨?_,Hj (k:=18) (by decide) (by simpa using hn)⟩;show(if n.natAbs.log2<1920 then some (bL n) else none)=_
 rw[xac (U9 (xah hn (by x_go)))]
theorem Tq {P:Program}{w:World}{K:Fgx}{mg:Mgx}{base:Heap}{k:Nat}{x qual dn:Str}{st:Stmt}{f Dm:Addr}{fd:FuncData}(F:FunD K x qual st f fd)(S:FnScope ["self","at"] ["self","at"] (bw st))(hm:mg dn=some (.ref Dm))(q:sG K Dm=true)
  (hc:pN (bw st) dn (dD st)):FnOk P w K mg base eG (k + 1) f fd ["self","at"] (Ou K):=by
 refine F.ok S (fun vs H Q E h=>by obtain⟨a,C,n,rfl,_⟩:=h;rfl) (fun cdv A outer s H vs Q E hr h=>?_);obtain⟨a,C,n,rfl,hn,ea,q1,q2,kk⟩:=h;obtain⟨ht,hlen⟩:=zby hn;obtain⟨p1,ap,p3,p4,cp,p5,p6,p7,p8,p9,q1',q2',q3',q4',z,y,us,eb,hcc,hv⟩:=hc
 ·simp only[lV,xat,xbd,xdE]at hcc;obtain⟨⟨⟨⟨⟨g0,g1,g2⟩,g3⟩,g4⟩,z1⟩,z2⟩:=hcc;rw[eb];generalize hX:(cU eG P w K mg base ["self","at"] qual (bw st) f cdv A outer s H E).nox=X;have e1:X.N=[("self":Str),("at":Str)]:=by rw[<-hX];rfl
  have e2:X.env.scope=bw st:=by rw[<-hX];rfl
  have e3:X.mg=mg:=by rw[<-hX];rfl
  have e4:X.K=K:=by rw[<-hX];rfl
  have pv0:∀p,PE X (.Name "self" p) (rZ 0):=fun p=>rB (by rw[e1];rfl) (by rw[e2];exact .inl g3) (by x_go) (by x_go);have pv1:∀p,PE X (.Name "at" p) (rZ 1):=fun p=>rB (by rw[e1];rfl) (by rw[e2];exact .inl g4) (by x_go) (by x_go);have gl:Gl X dn:=by show X.env.scope.names.lookup _=_;rw[e2];exact g1
  rcases hv with rfl |⟨q5,q6,rfl⟩
  ·refine⟨_,wK (wJ (L_ (by rw[e4];exact q) gl (by rw[e3];exact hm) (pv0 _) (FZ (zV (Gf (pv1 _) Ge) (by rw[xaw];omega))) g2 rfl rfl (Ku rfl g0 rfl))) (wK (Mr (pv0 _) (pv1 _) rfl) Gj),?_⟩;have l1:(Str.empty ++ z).length<=100:=by rw[uT];show 0 + _<=_;omega
   have l2:(Str.empty ++ z ++ bL n).length<=119:=by rw[uT];omega
   refine⟨.ref a,rfl,by rw[xaw];omega,.int n,rfl,bL n,ht,by rw[xaw];omega,by rw[xaw];omega,a,C,rfl,ea,by rw[e4];exact q1,?_⟩;exact⟨.int n,rfl,.ref a,rfl,a,C,true,rfl,ea,by rw[e4];exact q1,by rw[e4];exact q2,fun dx hd nd=>kk dx hd nd⟩
  ·refine⟨_,wK (wJ (L_ (by rw[e4];exact q) gl (by rw[e3];exact hm) (pv0 _) (FZ (zV (Gf (pv1 _) (zV Ge (by rw[xaw];omega))) (by rw[xaw];omega))) g2 rfl rfl (Ku rfl g0 rfl))) (wK (Mr (pv0 _) (pv1 _) rfl) Gj),?_⟩;have l1:(Str.empty ++ z).length<=100:=by rw[uT];show 0 + _<=_;omega
   have l2:(Str.empty ++ z ++ bL n).length<=119:=by rw[uT];omega
   have l3:(Str.empty ++ z ++ bL n ++ y).length<=219:=by rw[uT];omega
   refine⟨.ref a,rfl,by rw[xaw];omega,.int n,rfl,bL n,ht,by rw[xaw];omega,by rw[xaw];omega,by rw[xaw];omega,a,C,rfl,ea,by rw[e4];exact q1,?_⟩;exact⟨.int n,rfl,.ref a,rfl,a,C,true,rfl,ea,by rw[e4];exact q1,by rw[e4];exact q2,fun dx hd nd=>kk dx hd nd⟩
section
variable {X:Cx}{Wx:XW}{pos:Pos}
noncomputable def z9 (c:Str) (f:E):S:=fun env M=>bQ (f env M) fun d M1=>match d with
 |.int n=>if n.natAbs<1000000000000000000/\0<=n then some (.ex c (n + 1),M1) else none   -- the number and one more:nought tells that there is none
 |_=>none
theorem zax (F:XFit X Wx)(hc:X.calm=true)(m:X.mg c=some (.ref C))(q1:aV X.K C=true)(q2:yr X.K C fI=true)(q3:gY X.K C "at"=true)(kp:PySem.W.keepIn X.K (.ref C)=true)
  (FO:FnOk X.prog X.w X.K X.mg X.base eG k fI fd ["self","at"] (Ou X.K)) (hr:Room (k + 1) X.A) (hb:Binds X.K fd ["self","at"] []) (hg:Gl X c) (he:SE X Wx .val e f) (hdb:(c==("__debug__":Str))=false:=by x_go)
  (hs:starEach [e] X.env=[(false,eval e X.env)]:=by rfl):SS X Wx (.Raise (some (.Call (.Name c p) [e] [] q)) none pos) (z9 c f):=by
 refine eO (Mp (W:=fun a C' dx H=>C'=C/\∃n P0 H0 P M,XN H n dx/\¬ P.bd a/\H0 a=none/\LtE P0 H0 P H/\Hk X.K X.mg P H M/\Wx P0 H0 M c n) (Xo q1 q2 kp FO hr hg m hb (by decide) he hdb hs) hc fun pins σ H s a C' dx I ea ⟨e2,n,P0,H0,P,M,xn,b,nn,l,h,w⟩=>?_) ?_
 ·subst e2;exact F.xr pins σ H s a _ dx c n P0 H0 P M I ea b nn l h m xn w
 ·rintro D st H ⟨P0,H0,P,Os,env,M,out,M',k,e,q⟩;unfold z9 at e;rcases eN e with⟨d,M1,e1,e⟩ |⟨c,n,e1,rfl⟩
  ·split at e
   ·rename_i n;split at e
    ·rename_i hn;cases e;refine⟨P0,H0,P,Os,env,M,_,_,k,e1,fun P1 v H1 l1 h1 i1=>fun a ha=>?_⟩;have ev:v=.int n:=i1;subst ev;refine⟨a,C,n,rfl,hn.1,bO,q1,q3,fun dx hd nd=>⟨rfl,a,C,some dx,rfl,bO,q1,rfl,n + 1,P0,H0,P1,_,⟨[("at",.int n)],by rw[aP nd,bO],by rw[xdy];rfl,by omega⟩,h1.new a ha,?_,?_,?_,q⟩⟩
     ·exact k.base.sure a (l1.sure a ha)
     ·have sm:Same H1 (upd (upd (upd H1 a (xo a C none true)) dx (.xd [("at",.int n)])) a (xo a C (some dx) true)):=fun b o eb=>by
       have n1:b≠a:=d8 eb ha;rw[aP nd]at hd;rw[aP n1,aP (d8 eb hd),aP n1];exact eb
      exact k.base.trans (l1.trans (LtE.same sm))
     ·have sm:Same H1 (upd (upd (upd H1 a (xo a C none true)) dx (.xd [("at",.int n)])) a (xo a C (some dx) true)):=fun b o eb=>by
       have n1:b≠a:=d8 eb ha;rw[aP nd]at hd;rw[aP n1,aP (d8 eb hd),aP n1];exact eb
      exact h1.same sm
    ·cases e
   ·cases e
  ·exact⟨P0,H0,P,Os,env,M,_,_,k,e1,q⟩
noncomputable def mH (own:Str->Bool) (i:Nat):E:=fun env M=>match env[i]? with
 |some (.exc c n)=>if own c=true/\n≠0 then some (.v (.int (n - 1)),M) else none
 |_=>none
theorem zb8 (hN:X.N[i]? =some x)(hv:sS X.env.scope x)(hx:∀c C,own c=true->X.mg c=some (.ref C)->gY X.K C "at"=true)(hd:(x==("__debug__":Str))=false:=by x_go)(hcd:(x==("__classdict__":Str))=false:=by x_go)
    (hb:attributeBase (.Name x p) "at" X.env (eval (.Name x p) X.env)=eval (.Name x p) X.env:=by rfl):SE X Wx m (.Attribute (.Name x p) "at" pos) (mH own i):=by
  refine cg (Xw (rB hN hv hd hcd) hb) ?_;rintro st H Q ⟨P0,H0,P,Os,env,M,r,M',k,e,q⟩;unfold mH at e;split at e
  · rename_i c n es;split at e
    · rename_i hn;cases e;obtain⟨v,sv,a,C,dx,rfl,mc,ea,qd⟩:=k.slot i _ es
      cases dx with
      |none=>exact absurd qd hn.2
      |some d=>
        obtain⟨fs,ed,el,_⟩:=qd;exact⟨_,lu sv,a,C,d,false,fs,.int (n - 1),rfl,ea,hx c C hn.1 mc,ed,el,q P _ H (LtE.same (Same.refl H)) k.hk (cA.of k.hk (show Is _ _ _ (.int _) _ from rfl))⟩
    · cases e
  · cases e
end
theorem zbY {K:Fgx}{C:Addr}{name:Str}(h1:PySem.W.findIn K (.ref C) "__setattr__"=some (some (.builtin "object.__setattr__")))(h2:PySem.W.takerIn K C name=some none)(h3:m7 K C=true)(h4:PySem.W.hasDictIn K C=true)(h5:PySem.W.findIn K (.ref C) name=some none):gY K C name=true:=by
 simp only[gY,h1,h2,h3,h4,h5,xa7,xci]
theorem zce {K:Fgx}{C:Addr}(h1:PySem.W.specialIn K (.ref C) "__getattribute__"=some (some (.builtin "type.__getattribute__")))(h2:PySem.W.readsIn K C (.type "type")=true)(h3:PySem.W.findCls K (.ref C) (.type "type") "__init__"=some (.val (.builtin "ValueError.__init__"))):sG K C=true:=by
 simp only[sG,h1,h2,h3,xa7,xci]
section
variable {env:Env}{M:Mm}{f g:E}{d:D}{i:Int}{ds es:List D}{fa:EA}{x:Str}{k:Nat}
noncomputable def MJ (x:Str) (M:Mm):D->OS
 |.int n=>if n.natAbs<1000000000000000000/\0<=n then some (.ex x (n + 1),M) else none
 |_=>none
theorem Ze:z9 x f env M=cR (fun d M1=>MJ x M1 d) (f env M):=rfl
theorem zaY {n:Nat}(h:n<1000000):MJ x M (.int n)=some (.ex x ((n:Int) + 1),M):=xac ⟨by omega,by omega⟩
noncomputable def uW (own:Str->Bool) (M:Mm):Option Slot->O
 |some (.exc c n)=>if own c=true/\n≠0 then some (.v (.int (n - 1)),M) else none
 |_=>none
theorem Yy {own:Str->Bool}:mH own k env M=uW own M env[k]? :=rfl
theorem ZV {own:Str->Bool}{n:Nat}(h:own x=true):uW own M (some (.exc x ((n:Int) + 1)))=some (.v (.int n),M):=by
 show(if own x=true/\((n:Int) + 1)≠0 then some (Res.v (.int (((n:Int) + 1) - 1)),M) else none)=_
 rw[xac ⟨h,by omega⟩,xdy]
theorem Vt:lK [.lst ds]=(m9 ds).map fun bs=>.bl (bs.all id):=rfl
end
end E3
namespace L2
open PySem PySem.Spec PyProof.Rows
end L2
namespace E3
open PySem PySem.Spec PyProof.Rows L2
end E3
namespace E3
end E3
namespace E3
open PySem PySem.Spec PyProof.Rows L2
mutual
def D.nr:D->Bool
 |.tup xs=>D.nrs xs
 |.lst xs=>D.nrs xs
 |.ref _=>false
 |_=>true
def D.nrs:List D->Bool
 | []=>true
 |a::as=>D.nr a && D.nrs as
end
noncomputable def Pf:Pl:=⟨fun _=>0,0,fun _=>False⟩
section
variable {K:Fgx}{mg:Mgx}{P P':Pl}{H H':Hp}{M:Mm}
mutual
theorem Is.fre:∀{d:D} {v:V},D.nr d=true->Is K P H d v->Is K Pf H d v
 |.non,_,_,h=>h
 |.bl _,_,_,h=>h
 |.int _,_,_,h=>h
 |.str _,_,_,h=>h
 |.tup _,_,n,h=>by obtain⟨a,vs,e,s,q⟩:=h;exact⟨a,vs,e,s,aD.fre n q⟩
 |.lst _,_,n,h=>by obtain⟨a,vs,e,s,q⟩:=h;exact⟨a,vs,e,s.imp (fun z=>⟨fun z=>z,z.2⟩) id,aD.fre n q⟩
 |.ref _,_,n,_=>by cases n
theorem aD.fre:∀{ds:List D} {vs:List V},D.nrs ds=true->aD K P H ds vs->aD K Pf H ds vs
  | [],_,_,h=>h
  |_::_,_,n,h=>by
    obtain⟨v,r,e,p,q⟩:=h;have n:=xdh.mp n;exact⟨v,r,e,Is.fre n.1 p,aD.fre n.2 q⟩
end
mutual
theorem Is.lf_any:∀{d:D} {v:V},D.lf d=true->Is K P H d v->Is K P' H d v
 |.non,_,_,h=>h
 |.bl _,_,_,h=>h
 |.int _,_,_,h=>h
 |.str _,_,_,h=>h
 |.tup _,_,n,h=>by obtain⟨a,vs,e,s,q⟩:=h;exact⟨a,vs,e,s,aD.lf_any n q⟩
 |.lst _,_,n,_=>by cases n
 |.ref _,_,n,_=>by cases n
theorem aD.lf_any:∀{ds:List D} {vs:List V},D.lfs ds=true->aD K P H ds vs->aD K P' H ds vs
  | [],_,_,h=>h
  |_::_,_,n,h=>by
    obtain⟨v,r,e,p,q⟩:=h;have n:=xdh.mp n;exact⟨v,r,e,Is.lf_any n.1 p,aD.lf_any n.2 q⟩
end
end
section
variable {X:Cx}{Wx:XW}{m:Mode}{pos:Pos}
theorem dM (hr:Room k X.A)(h:X.A.units + 60<cLine->SB X Wx ss b):SB X Wx ss b:=h (xbG (xbC (by decide) _) hr.units)
theorem mV {e:Expr}{es:List Expr}{x:Str}{id:String}{r:List V->Hp->VK->Prop}{o:List D->Option D}{fs:EA}{p:Pos}(hc:dU X (.builtin id) r)(hg:Gl X x)(hm:X.mg x=none)(hv:bootBuiltins x=some (.builtin id))(po:lF X.K r o)(ha:SA X Wx .bor (e::es) fs)
  (hn:x≠"__name__":=by x_go) (hdb:(x==("__debug__":Str))=false:=by x_go) (he:starEach (e::es) X.env=(false,eval e X.env)::starEach es X.env:=by rfl) (hpl:(backTo pos (starEach es X.env)).any (·.1)=false:=by rfl):SE X Wx m (.Call (.Name x p) (e::es) [] pos) (sN o fs):=
 Od (fun _ ha=>zR hc hg hm hv ha hn hdb he hpl) po ha
theorem xg (hc:dU X (.type T) r)(hg:Gl X x)(hm:X.mg x=none)(hv:bootBuiltins x=some (.type T))(po:lF X.K r o)(ha:SA X Wx .bor (e::es) fs)
  (hn:x≠"__name__":=by x_go) (hdb:(x==("__debug__":Str))=false:=by x_go) (he:starEach (e::es) X.env=(false,eval e X.env)::starEach es X.env:=by rfl) (hpl:(backTo pos (starEach es X.env)).any (·.1)=false:=by rfl):SE X Wx m (.Call (.Name x p) (e::es) [] pos) (sN o fs):=
 Od (fun _ ha=>zT hc hg hm hv ha hn hdb he hpl) po ha
end
section
variable (P:Program)(w:World)(K:Fgx)(mg:Mgx)(base:Heap)(k:Nat)(f:Addr)(N:List Str)(q:Str)(st:Stmt)(b:S)
abbrev RT:Prop:=∀(cdv:Value) (A:Around) (outer:List PySem.Env) (s:Shared) (H:Hp) (E:XK),Room k (A.deeper (envOfC q (bw st) s.heap.objs.size f cdv))->SB (u_ P w K mg base N q st f cdv A outer s H E) W0 (dD st) b
abbrev yC:Prop:=∀(cdv:Value) (A:Around) (outer:List PySem.Env) (s:Shared) (H:Hp) (E:XK) (Wx:XW),Room k (A.deeper (envOfC q (bw st) s.heap.objs.size f cdv))->XFit (kZ P w K mg base N q st f cdv A outer s H E) Wx->XPass (kZ P w K mg base N q st f cdv A outer s H E) Wx->SB (kZ P w K mg base N q st f cdv A outer s H E) Wx (dD st) b
end
theorem dN (h1:sc.kind=.function:=by rfl)(h2:sc.isCoroutine=false:=by rfl)(h3:sc.isGenerator=false:=by rfl)(h4:N.Nodup:=by x_go)(h5:N.take P.length=P:=by rfl)
  (h6:∀x∈P,sc.names.lookup x=some .local\/sc.names.lookup x=some .cell:=by x_go) (h7:∀y∈sc.names,y.2≠ .free:=by x_go):FnScope N P sc:=⟨h1,h2,h3,h4,h5,h6,h7⟩
abbrev LV (st:Stmt)(x:Str):Prop:=(bw st).names.lookup x=some .local
structure DefAt (K:Fgx)(mg:Mgx)(x:Str)(st:Stmt)(ps:List Str)(f:Addr)(fd:FuncData):Prop where
 mg:mg x=some (.ref f)
 F:FunD K x x st f fd
 b:Binds K fd ps []
theorem DefAt.ok {P:Program}{w:World}{K:Fgx}{mg:Mgx}{base:Heap}{k:Nat}{x:Str}{st:Stmt}{f:Addr}{fd:FuncData}{N ps:List Str}{b:S}(D:DefAt K mg x st ps f fd)(S:FnScope N ps (bw st))(hr:RT P w K mg base k f N x st b)(hp:ps.length<=N.length:=by decide):bC P w K mg base (k + 1) x ps.length (cI N.length b):=Sx D.F S hp D.mg D.b hr
def bA (K:Fgx)(x:Str)(st:Stmt):Prop:=∃(f:Addr) (oc kV dc pm cd ct:Value) (od an:Option Addr) (sl:Array (Option Value)),PySem.W.nsIn K mainGlobals x=some (some (.ref f))/\K.lookup f=some ⟨oc,od,.func (PySem.W.fnOf x x (fG st) (dD st) (bw st) .none kV dc pm an cd ct),sl⟩/\PySem.W.codeIn K cd x=true/\PySem.W.keepIn K (.ref f)=true
theorem bA.mk {K:Fgx}{x:Str}{st:Stmt}{f:Addr}{oc kV dc pm cd ct:Value}{od an:Option Addr}{sl:Array (Option Value)}(a:PySem.W.nsIn K mainGlobals x=some (some (.ref f)))(l:K.lookup f=some ⟨oc,od,.func (PySem.W.fnOf x x (fG st) (dD st) (bw st) .none kV dc pm an cd ct),sl⟩)(c:PySem.W.codeIn K cd x=true)(k:PySem.W.keepIn K (.ref f)=true):bA K x st:=⟨f,oc,kV,dc,pm,cd,ct,od,an,sl,a,l,c,k⟩
theorem bA.at {K:Fgx}{h:Heap}{mg:Mgx}{x:Str}{st:Stmt}{ps:List Str}(F:bA K x st)(X:K.In h)(G:h.Ns mainGlobals mg)
  (hb:∀(kV doc pm:Value) (an:Option Addr) (cdv ct:Value) (us:List Value),us.length=ps.length->bindArgs (PySem.W.fnOf x x (fG st) (dD st) (bw st) .none kV doc pm an cdv ct) ⟨us,[]⟩=pure (ps.zip us)):∃f fd,DefAt K mg x st ps f fd:=by
 obtain⟨f,oc,kV,dc,pm,cd,ct,od,an,sl,a,l,c,k⟩:=F;exact⟨f,_,PySem.W.mg_of X G a,Ea l c k,(Ec (st:=st) l c k).binds hb⟩
end E3
namespace L2
open PySem PySem.Spec PyProof.Rows
abbrev TH:=Ends->Addr->Addr->Option Addr->St->Hp->Prop
def HB (X:Cx)(hs:List ExceptHandler)(t:TH):Prop:=∀(pins:Pnx) (s:Shared) (σ:St) (H:Hp) (a C:Addr) (dx:Option Addr) (T:Addr) (D:Ends),
 Caught X pins σ H s a C dx T->aV X.K C=true->X.A.handled=none->t D C a dx σ H->wpAny (model X.prog X.w) X.A (handleBy (.ref a) X.env hs) (SP X pins D) X.xe s
section
variable {X:Cx}{suite:List Stmt}{b0:Stmt}{cn n:Str}{np hp:Pos}{c:Addr}{i:Nat}{th:TS}{t:TH}{hs:List ExceptHandler}
theorem Te:HB X [] fun _ _ _ _ _ _=>False:=fun _ _ _ _ _ _ _ _ _ _ _ _ z=>z.elim
theorem Ko {pins:Pnx}{s:Shared}{σ:St}{H:Hp}{a C:Addr}{dx:Option Addr}{T:Addr}{name:Option Str}{body:List Stmt}{Q:Flow->Shared->Prop}(hg:Gl X cn)(hm:X.mg cn=some (.ref c))(q:aV X.K c=true)(hdb:(cn==("__debug__":Str))=false)
    (K2:Caught X pins σ H s a C dx T) (q1:aV X.K C=true)
    (h1 : bN X.K C c = true -> codeAny (model X.prog X.w) (X.A.mark (some (.ref a))) (.handlers (.ref a) [.ExceptHandler none name body hp] X.env) (fun r s₂=>match r with
          | .ok f => (match name with
            |none=>Q f s₂
            |some n=>wpAny (model X.prog X.w) X.A (do bindName X.env n .none;unbindBehindTheSuite X.env n hp) (fun _ s₃=>Q f s₃) X.xe s₂)
          |.error x=>cameBackBy (model X.prog X.w) X.A X.env X.xe x s₂) s)
    (h2:bN X.K C c=false->wpAny (model X.prog X.w) X.A (handleBy (.ref a) X.env hs) Q X.xe s):
    wpAny (model X.prog X.w) X.A (handleBy (.ref a) X.env (.ExceptHandler (some (.Name cn np)) name body hp::hs)) Q X.xe s:=by
  refine wpAny_handleBy_cons (codeAny_handlers_test ?_) (by intro z;cases z);refine nP (X:=X.suite (.ref a)) (K2.inv.to_suite _) hg hm ?_ hdb;obtain⟨nm,qn,N,bs,bm,sn,sub,ab,col,dd,k0,k1,k2,k3,k5,Y,lk⟩:=m6 K2.inv.kIn q1;obtain⟨nm',qn',N',bs',bm',sn',sub',ab',col',dd',j0,j1,j2,j3,j5,Y',lk'⟩:=m6 K2.inv.kIn q;obtain⟨oe,vs,t,e1,e2,e3,e4,e5,e6,_⟩:=ou K2.inv.hok K2.obj;have hit:bN X.K C c=(Value.ref C::bm).contains (.ref c):=by
    unfold bN;rw[lk]
  rw[hit]at h1 h2;obtain⟨hh2,g,d,tk,os⟩:=s;refine Qd Y.obj Y'.obj e1 e2 (Y'.tail.hasType xaT.hasBase) ?_
  cases hb:(Value.ref C::bm).contains (.ref c) with
  |true=>exact h1 hb
  |false=>exact h2 hb
theorem Tc (hg:Gl X cn)(hm:X.mg cn=some (.ref c))(q:aV X.K c=true)(hdb:(cn==("__debug__":Str))=false)(hh:∀e,dX (X.suite e) (b0::suite) th)(hr:HB X hs t):
    HB X (.ExceptHandler (some (.Name cn np)) none (b0::suite) hp::hs) fun D C a dx σ H=>(bN X.K C c=true->th {D with bk:=fun _ _=>False,ct:=fun _ _=>False} σ H)/\(bN X.K C c=false->t D C a dx σ H):=by
  intro pins s σ H a C dx T D K2 q1 hd z;refine Ko hg hm q hdb K2 q1 (fun h=>?_) fun h=>hr pins s σ H a C dx T D K2 q1 hd (z.2 h);refine codeAny_handlers_suite (K2.off fun s3 K3=>?_);refine xaH (hh (.ref a) pins s3 _ H _ (K3.inv.to_suite _) (z.1 h)) (fun f s5 y=>?_) fun _ _ y=>False.elim y
  cases f with
  |next=>
    obtain⟨σ5,H5,I5,y⟩:=y;exact⟨σ5,H5,I5.of_suite hd,y⟩
  |brk=>obtain⟨_,_,_,y⟩:=y;exact False.elim y
  |cont=>obtain⟨_,_,_,y⟩:=y;exact False.elim y
  |ret u=>
    obtain⟨v,σ5,H5,I5,rv,y⟩:=y;exact⟨v,σ5,H5,I5.of_suite hd,rv,y⟩
theorem Td (hN:X.N.Nodup)(hi:X.N[i]? =some n)(hl:X.env.scope.names.lookup n=some .local)(hg:Gl X cn)(hm:X.mg cn=some (.ref c))(q:aV X.K c=true)(hdb:(cn==("__debug__":Str))=false)(hh:∀e,dX (X.suite e) (b0::suite) th)(hr:HB X hs t):
    HB X (.ExceptHandler (some (.Name cn np)) (some n) (b0::suite) hp::hs) fun D C a dx σ H=>(bN X.K C c=true->th {D with nx:=fun σ H=>∃v,σ[i]? =some (some v)/\D.nx (σ.set i none) H,bk:=fun _ _=>False,ct:=fun _ _=>False} (σ.set i (some (.ref a))) H)/\(bN X.K C c=false->t D C a dx σ H):=by
  intro pins s σ H a C dx T D K2 q1 hd z;refine Ko hg hm q hdb K2 q1 (fun h=>?_) fun h=>hr pins s σ H a C dx T D K2 q1 hd (z.2 h);refine xcN (K2.off fun s3 K3=>?_);refine mX (X:=X.suite (.ref a)) (v:=.ref a) (K3.inv.to_suite _) hN hi (.inl hl) rfl (fun s4 I4=>?_) (.inr hl);refine xaH (hh (.ref a) pins s4 _ H _ I4 (z.1 h)) (fun f s5 y=>?_) fun _ _ y=>False.elim y;have off:∀{σ5:St} {H5:Hp} {s5:Shared} {Q:Unit->Shared->Prop},Inv (X.suite (.ref a)) pins σ5 H5 s5->(∀s7,Inv X pins (σ5.set i none) H5 s7->Q () s7)->wpAny (model X.prog X.w) X.A (do bindName X.env n .none;unbindBehindTheSuite X.env n hp) Q X.xe s5:=fun I5 k=>by
    have I5':=I5.of_suite hd;refine xaa (xde (mX (v:=.non) I5' hN hi (.inl hl) rfl (fun s6 I6=>?_) (.inr hl)));unfold unbindBehindTheSuite;refine xdi (I6.del (v:=.non) hN hi hl ?_ fun s7 I7=>?_)
    · rw[xaW];rw[I5'.len];exact(xal.mp hi).1
    · rw[xdw]at I7;exact k s7 I7
  cases f with
  |next=>
    obtain⟨σ5,H5,I5,v,ev,y⟩:=y;exact off I5 fun s7 I7=>⟨_,H5,I7,y⟩
  |brk=>obtain⟨_,_,_,y⟩:=y;exact False.elim y
  |cont=>obtain⟨_,_,_,y⟩:=y;exact False.elim y
  |ret u=>
    obtain⟨v,σ5,H5,I5,rv,y⟩:=y;exact off I5 fun s7 I7=>⟨v,_,H5,I7,rv,y⟩
theorem Yc {body:List Stmt}{h0:ExceptHandler}{pos:Pos}{tb:Ends->TS}(hs':X.stack=X.env::X.outer)(hf:X.env.frame=some X.env.locals)(hc:X.calm=true)
  (hb:∀(pins:Pnx) (D:Ends),dX (X.pin pins fun e s'=>∃σ' H' a C dx T,e=.ref a/\Caught X pins σ' H' s' a C dx T/\aV X.K C=true/\t D C a dx σ' H') body (tb D))
  (hh:HB X (h0::hs) t):PS X (.Try body (h0::hs) [] [] pos) (fun D σ H=>tb D D σ H):=by
 intro pins s σ H D I h;refine wpAny_Try_except (xaH (hb pins D [] s σ H D (I.to_pin _) h) (fun f s1 z=>?_) fun e s1 z=>?_)
 ·cases f with
  |next=>obtain⟨σ',H',J,q⟩:=z;exact xbX ⟨σ',H',J.of_pin,q⟩
  |brk=>obtain⟨σ',H',J,q⟩:=z;exact⟨σ',H',J.of_pin,q⟩
  |cont=>obtain⟨σ',H',J,q⟩:=z;exact⟨σ',H',J.of_pin,q⟩
  |ret u=>obtain⟨v,σ',H',J,r,q⟩:=z;exact⟨v,σ',H',J.of_pin,r,q⟩
 ·obtain⟨σ',H',a,C,dx,T,rfl,K1,q1,z⟩:=z;exact K1.note hs' hf fun s2 T2 K2=>hh pins s2 σ' H' a C dx T2 D K2 q1 (I.ok.hd hc) z
end
end L2
namespace E3
open PySem PySem.Spec PyProof.Rows L2
abbrev HE:=Str->Int->Env->Mm->OS
noncomputable def q_ (o:OS):OS:=match o with
 |some (.nx e,M)=>some (.nx e,M)
 |some (.rt d,M)=>some (.rt d,M)
 |_=>none
def vJ:HE:=fun _ _ _ _=>none
noncomputable def dR (cat:Str->Option Bool) (h:S) (r:HE):HE:=fun c n env M=>match cat c with
 |some true=>q_ (h env M)
 |some false=>r c n env M
 |none=>none
noncomputable def mj (i:Nat) (o:OS):OS:=match o with
  | some (.nx e, M) => (match e[i]? with
    |some (.exc _ _)=>some (.nx (e.set i .un),M)
    |_=>none)
  |some (.rt d,M)=>some (.rt d,M)
  |_=>none
noncomputable def tO (i:Nat) (cat:Str->Option Bool) (h:S) (r:HE):HE:=fun c n env M=>match cat c with
 |some true=>if i<env.length then mj i (h (env.set i (.exc c n)) M) else none
 |some false=>r c n env M
 |none=>none
noncomputable def rN (b:S) (hh:HE):S:=fun env M=>match b env M with
 |some (.ex c n,M1)=>hh c n env M1
 |o=>o
def lE (X:Cx)(c:Addr)(cat:Str->Option Bool):Prop:=∀c' b,cat c'=some b->∃C,X.mg c'=some (.ref C)/\aV X.K C=true/\bN X.K C c=b
section
variable {X:Cx}{Wx:XW}{m:Mode}{pos:Pos}
noncomputable def tH (X:Cx) (hh:HE):TH:=fun D C a dx st H=>∃P0 H0 P Os env M c n out M',Ok X.K X.mg P0 H0 P Os H M st env/\X.mg c=some (.ref C)/\B_ X.K X.mg P H none (some (.ref a)) (.exc c n)/\hh c n env M=some (out,M')/\Post X.K X.mg W0 P0 H0 P H M' D out
def uM (out:Out):Prop:=(∃e,out=.nx e)\/∃d,out=.rt d
structure SH (X:Cx)(hs:List ExceptHandler)(hh:HE):Prop where
 hb:HB X hs (tH X hh)
 ok:∀c n env M out M',hh c n env M=some (out,M')->(∃C,X.mg c=some (.ref C)/\aV X.K C=true)/\uM out
theorem En {hs:List ExceptHandler}{t t':TH}(h:HB X hs t)(w:∀D C a dx σ H,t' D C a dx σ H->t D C a dx σ H):HB X hs t':=fun pins s σ H a C dx T D k q hd z=>h pins s σ H a C dx T D k q hd (w _ _ _ _ _ _ z)
theorem zci:SH X [] vJ:=⟨En Te (fun D C a dx σ H ⟨_,_,_,_,_,_,_,_,_,_,_,_,_,e,_⟩=>by cases e),fun _ _ _ _ _ _ e=>by cases e⟩
theorem LK {o:OS}{out:Out}{M:Mm}(h:q_ o=some (out,M)):o=some (out,M)/\uM out:=by
 unfold q_ at h;split at h
 ·cases h;exact⟨rfl,.inl ⟨_,rfl⟩⟩
 ·cases h;exact⟨rfl,.inr ⟨_,rfl⟩⟩
 ·cases h
variable {suite:List Stmt}{b0:Stmt}{cn n:Str}{np hp:Pos}{c:Addr}{i:Nat}{h:S}{hs:List ExceptHandler}{r:HE}{cat:Str->Option Bool}
theorem Ju {c':Str}{b:Bool}(hcat:lE X c cat)(e:cat c'=some b):∃C,X.mg c'=some (.ref C)/\aV X.K C=true:=let ⟨C,m,x,_⟩:=hcat c' b e;⟨C,m,x⟩
theorem yU {c':Str}{C:Addr}{b:Bool}(hcat:lE X c cat)(e:cat c'=some b)(hm:X.mg c'=some (.ref C)):bN X.K C c=b:=by
 obtain⟨C',m',_,s⟩:=hcat c' b e;cases hm.symm.trans m';exact s
theorem Ol (hg:Gl X cn)(hm:X.mg cn=some (.ref c))(q:aV X.K c=true)(hcat:lE X c cat)(hh:∀e,SB (X.suite e) W0 (b0::suite) h)(hr:SH X hs r)(hdb:(cn==("__debug__":Str))=false:=by x_go):
  SH X (.ExceptHandler (some (.Name cn np)) none (b0::suite) hp::hs) (dR cat h r):=by
 refine⟨En (Tc (th:=tS X.K X.mg W0 h) hg hm q hdb hh hr.hb) ?_,fun c' n' env M out M' e=>?_⟩
 rotate_left
 ·unfold dR at e;split at e
  ·rename_i ec;exact⟨Ju hcat ec,(LK e).2⟩
  ·exact hr.ok _ _ _ _ _ _ e
  ·cases e
 rintro D C a dx st H ⟨P0,H0,P,Os,env,M,c',n',out,M',k,m1,so,e,q⟩;unfold dR at e;split at e
 ·rename_i ec;obtain⟨e,ho⟩:=LK e;refine⟨fun _=>⟨P0,H0,P,Os,env,M,_,_,k,e,?_⟩,fun z=>by rw[yU hcat ec m1]at z;cases z⟩;rcases ho with⟨_,rfl⟩ |⟨_,rfl⟩<;>exact q
 ·rename_i ec;exact⟨fun z=>(by rw[yU hcat ec m1]at z;cases z),fun _=>⟨P0,H0,P,Os,env,M,c',n',out,M',k,m1,so,e,q⟩⟩
 ·cases e
theorem zc2 (hN:X.N.Nodup)(hi:X.N[i]? =some n)(hl:X.env.scope.names.lookup n=some .local)(hg:Gl X cn)(hm:X.mg cn=some (.ref c))(q:aV X.K c=true)(hcat:lE X c cat)(hh:∀e,SB (X.suite e) W0 (b0::suite) h)(hr:SH X hs r)(hdb:(cn==("__debug__":Str))=false:=by x_go):
    SH X (.ExceptHandler (some (.Name cn np)) (some n) (b0::suite) hp::hs) (tO i cat h r):=by
  refine⟨En (Td (th:=tS X.K X.mg W0 h) hN hi hl hg hm q hdb hh hr.hb) ?_,fun c' n' env M out M' e=>?_⟩
  rotate_left
  · unfold tO at e;split at e
    · rename_i ec;refine⟨Ju hcat ec,?_⟩;split at e
      · unfold mj at e;split at e
        · split at e
          · cases e;exact .inl ⟨_,rfl⟩
          · cases e
        · cases e;exact .inr ⟨_,rfl⟩
        · cases e
      · cases e
    · exact hr.ok _ _ _ _ _ _ e
    · cases e
  rintro D C a dx st H ⟨P0,H0,P,Os,env,M,c',n',out,M',k,m1,so,e,q⟩;unfold tO at e;split at e
  · rename_i ec;refine⟨fun _=>?_,fun z=>by rw[yU hcat ec m1]at z;cases z⟩;split at e
    · rename_i hil;have k1:=k.put (s:=.exc c' n') (sv:=some (.ref a)) hil so;unfold mj at e;split at e
      · rename_i env' M2 e2;split at e
        · rename_i c3 n3 ex;cases e;refine⟨P0,H0,P,_,_,M,_,_,k1,e2,fun P2 Os2 H2 st2 l2 k2=>?_⟩;obtain⟨v,ev,_⟩:=k2.slot i _ ex;exact⟨v,lu ev,q P2 _ H2 _ l2 (k2.put (s:=.un) (sv:=none) (xal.mp ex).1 True.intro)⟩
        · cases e
      · rename_i d M2 e2;cases e;exact⟨P0,H0,P,_,_,M,_,_,k1,e2,q⟩
      · cases e
    · cases e
  · rename_i ec;exact⟨fun z=>(by rw[yU hcat ec m1]at z;cases z),fun _=>⟨P0,H0,P,Os,env,M,c',n',out,M',k,m1,so,e,q⟩⟩
  · cases e
theorem zbc {body:List Stmt}{h0:ExceptHandler}{b:S}{hh:HE}  (hs':X.stack=X.env::X.outer)(hf:X.env.frame=some X.env.locals)(hc:X.calm=true)
  (hb:∀pins E,BX (X.pin pins E) body b) (hH:SH X (h0::hs) hh):SS X Wx (.Try body (h0::hs) [] [] pos) (rN b hh):=by
 let Ex:Ends->L2.St->XK:=fun D σ Cv dx H'=>∀a C,Cv=.ref C->H' a=some (xo a C dx false)->aV X.K C=true/\tH X hh D C a dx σ H'
 refine eO (Yc (tb:=fun D=>Bo X.K X.mg (Ex D) b) (t:=tH X hh) hs' hf hc (fun pins D=>hb pins _ (Ex D) fun pins' σ H s e s' I z=>?_) hH.hb) ?_
 ·obtain⟨a,C,dx,H',T,rfl,K1,hE⟩:=C_ (X:=X) I.of_pin z;obtain⟨z1,z3⟩:=hE a C rfl K1.obj;exact⟨σ,H',a,C,dx,T,rfl,K1,z1,z3⟩
 ·rintro D st H ⟨P0,H0,P,Os,env,M,out,M',k,e,q⟩;unfold rN at e;split at e
  ·rename_i c' n' M1 e1;obtain⟨⟨C,hmC,x1⟩,ho⟩:=hH.ok _ _ _ _ _ _ e;refine⟨P0,H0,P,Os,env,M,_,_,k,e1,fun P1 H1 C1 dx l1 h1 m1 xn a C2 eC ea=>?_⟩;cases eC;cases hmC.symm.trans m1;refine⟨x1,P0,H0,P1,Os,env,M1,c',n',out,M',k.next l1 h1,m1,⟨_,rfl,a,C,dx,rfl,m1,ea,xn⟩,e,?_⟩
   rcases ho with⟨_,rfl⟩ |⟨_,rfl⟩
   ·exact fun P2 Os2 H2 st2 l2 k2=>q P2 Os2 H2 st2 ((l1.lt k.hk).trans l2) k2
   ·exact q
  ·rename_i o hne;refine⟨P0,H0,P,Os,env,M,_,_,k,e,?_⟩
   cases out with
   |ex c n=>exact absurd e (hne c n M')
   |nx env=>exact q
   |bk env=>exact q
   |ct env=>exact q
   |rt d=>exact q
end
end E3
namespace L2
open PySem PySem.Spec PyProof.Rows
section
variable {X:Cx}{e:Expr}{es:List Expr}{te:TE}{t:TA}{pos:Pos}
open Builtin Builtin.Str in
open Builtin Builtin.Str in
open Builtin Builtin.Str in
end
end L2
namespace E3
open PySem PySem.Spec PyProof.Rows L2
section
variable {X:Cx}{Wx:XW}{m:Mode}
theorem Sv {P:Program}{w:World}{K:Fgx}{mg:Mgx}{base:Heap}{N:List Str}{q:Str}{st:Stmt}{f:Addr}{cdv:Value}{A:Around}{outer:List PySem.Env}{s:Shared}{H:Hp}{E:XK}{i:Nat}{x:Str}{pos:Pos}(hN:N[i]? =some x:=by rfl)(hv:LV st x:=by kernel_rfl)(hd:(x==("__debug__":Str))=false:=by x_go)(hcd:(x==("__classdict__":Str))=false:=by x_go):SE (u_ P w K mg base N q st f cdv A outer s H E) Wx m (.Name x pos) (ak i):=rQ hN hv hd hcd
theorem Lv {P:Program}{w:World}{K:Fgx}{mg:Mgx}{base:Heap}{N:List Str}{q:Str}{st:Stmt}{f:Addr}{cdv:Value}{A:Around}{outer:List PySem.Env}{s:Shared}{H:Hp}{E:XK}{x:Str}(hv:LV st x:=by kernel_rfl):Loc (u_ P w K mg base N q st f cdv A outer s H E).env.scope x:=.inl hv
theorem Sw {P:Program}{w:World}{K:Fgx}{mg:Mgx}{base:Heap}{N:List Str}{q:Str}{st:Stmt}{f:Addr}{cdv:Value}{A:Around}{outer:List PySem.Env}{s:Shared}{H:Hp}{E:XK}{i:Nat}{x:Str}{pos:Pos}(hN:N[i]? =some x:=by rfl)(hv:LV st x:=by kernel_rfl)(hd:(x==("__debug__":Str))=false:=by x_go)(hcd:(x==("__classdict__":Str))=false:=by x_go):SE (kZ P w K mg base N q st f cdv A outer s H E) Wx m (.Name x pos) (ak i):=rQ hN hv hd hcd
theorem Lw {P:Program}{w:World}{K:Fgx}{mg:Mgx}{base:Heap}{N:List Str}{q:Str}{st:Stmt}{f:Addr}{cdv:Value}{A:Around}{outer:List PySem.Env}{s:Shared}{H:Hp}{E:XK}{x:Str}(hv:LV st x:=by kernel_rfl):Loc (kZ P w K mg base N q st f cdv A outer s H E).env.scope x:=.inl hv
theorem Su {i:Nat}{x:Str}{pos:Pos}(hN:X.N[i]? =some x:=by rfl)(hv:X.env.scope.names.lookup x=some .local:=by kernel_rfl)(hd:(x==("__debug__":Str))=false:=by x_go)(hcd:(x==("__classdict__":Str))=false:=by x_go):SE X Wx m (.Name x pos) (ak i):=rQ hN hv hd hcd
theorem Lu {a b:Prop}(h:a:=by kernel_rfl):a\/b:=.inl h
theorem Ei {i:Int}{j pos}:SE X Wx m (.Constant (.int i) j pos) (aj (.int i)):=gF Xg
theorem Es {z:Str}{j pos}:SE X Wx m (.Constant (.str z) j pos) (aj (.str z)):=xu Xr
theorem Eb {b:Bool}{j pos}:SE X Wx m (.Constant (.bool b) j pos) (aj (.bl b)):=G8 W6
theorem Ek {a b:Expr}{pos:Pos}{f g:E}(ha:SE X Wx .bor a f)(hb:SE X Wx .bor b g)(hs:BP b:=by exact fun _ _=>rfl):SE X Wx m (.Subscript a b pos) (s2 aY f g):=Hg EY Gk ha hb hs
theorem Cm {a b:Expr}{op:CmpOp}{c:Cp}{pos:Pos}{f g:E}(hu:X.A.units + 60<cLine)(ha:SE X Wx .bor a f)(hb:SE X Wx .bor b g)(ho:op=oZ c:=by rfl)(hm:behindInMarks op b=false:=by rfl):SE X Wx m (.Compare a [op] [b] pos) (s2 (aJ c) f g):=by subst ho;exact G_ (nA hu c) ud ha hb hm
theorem Ct {a b:Expr}{op:CmpOp}{c:Cp}{pos:Pos}{f g:E}(hu:X.A.units + 60<cLine)(ha:SE X Wx .bor a f)(hb:SE X Wx .bor b g)(ho:op=oZ c:=by rfl)(hm:behindInMarks op b=false:=by rfl):ST X Wx (.Compare a [op] [b] pos) (s2 (aJ c) f g):=by subst ho;exact Hs (nA hu c) ud ha hb hm
end
section
variable {P:Program}{w:World}{K:Fgx}{h base:Heap}{mg:Mgx}{k:Nat}{x:Str}{st:Stmt}{N ps:List Str}{b:S}
abbrev HB (x:Str)(st:Stmt)(ps:List Str):Prop:=∀(kV doc pm:Value) (an:Option Addr) (cdv ct:Value) (us:List Value),us.length=ps.length->bindArgs (PySem.W.fnOf x x (fG st) (dD st) (bw st) .none kV doc pm an cdv ct) ⟨us,[]⟩=pure (ps.zip us)
theorem Ip {a0:Str}(h:∀{kV doc pm:Value} {an:Option Addr} {cdv ct u0:Value},bindArgs (PySem.W.fnOf x x (fG st) (dD st) (bw st) .none kV doc pm an cdv ct) ⟨[u0],[]⟩=pure [(a0,u0)]):HB x st [a0]:=fun _ _ _ _ _ _ us hl=>match us,hl with | [_],_=>h
theorem Ir {a0 a1:Str}(h:∀{kV doc pm:Value} {an:Option Addr} {cdv ct u0 u1:Value},bindArgs (PySem.W.fnOf x x (fG st) (dD st) (bw st) .none kV doc pm an cdv ct) ⟨[u0,u1],[]⟩=pure [(a0,u0),(a1,u1)]):HB x st [a0,a1]:=fun _ _ _ _ _ _ us hl=>match us,hl with | [_,_],_=>h
theorem Iu {a0 a1 a2:Str}(h:∀{kV doc pm:Value} {an:Option Addr} {cdv ct u0 u1 u2:Value},bindArgs (PySem.W.fnOf x x (fG st) (dD st) (bw st) .none kV doc pm an cdv ct) ⟨[u0,u1,u2],[]⟩=pure [(a0,u0),(a1,u1),(a2,u2)]):HB x st [a0,a1,a2]:=fun _ _ _ _ _ _ us hl=>match us,hl with | [_,_,_],_=>h
theorem Iv {a0 a1 a2 a3:Str}(h:∀{kV doc pm:Value} {an:Option Addr} {cdv ct u0 u1 u2 u3:Value},bindArgs (PySem.W.fnOf x x (fG st) (dD st) (bw st) .none kV doc pm an cdv ct) ⟨[u0,u1,u2,u3],[]⟩=pure [(a0,u0),(a1,u1),(a2,u2),(a3,u3)]):HB x st [a0,a1,a2,a3]:=fun _ _ _ _ _ _ us hl=>match us,hl with | [_,_,_,_],_=>h
theorem bA.ok (F:bA K x st)(X:K.In h)(G:h.Ns mainGlobals mg)(S:FnScope N ps (bw st))(hr:∀f,RT P w K mg base k f N x st b)
  (hb:HB x st ps:=by first |exact Ip rfl |exact Ir rfl |exact Iu rfl |exact Iv rfl) (hp:ps.length<=N.length:=by decide):bC P w K mg base (k + 1) x ps.length (cI N.length b):=by
 obtain⟨f,d,D⟩:=F.at X G hb;exact D.ok S (hr f) hp
theorem bA.okX (F:bA K x st)(X:K.In h)(G:h.Ns mainGlobals mg)(S:FnScope N ps (bw st))(hr:∀f,yC P w K mg base k f N x st b)
  (hb:HB x st ps:=by first |exact Ip rfl |exact Ir rfl |exact Iu rfl |exact Iv rfl) (hp:ps.length<=N.length:=by decide):fL P w K mg base (k + 1) x ps.length (cI N.length b):=by
 obtain⟨f,d,D⟩:=F.at X G hb;exact⟨_,_,_,D.mg,D.F.kp,Sy D.F S hp (hr f),D.b⟩
theorem bC.up {j n:Nat}{g:G}(a:bC P w K mg base j x n g)(h:j<=k:=by decide):bC P w K mg base k x n g:=a.mono h
theorem fL.up {j n:Nat}{g:G}(a:fL P w K mg base j x n g)(h:j<=k:=by decide):fL P w K mg base k x n g:=a.mono h
theorem oE.up {j n:Nat}{C:Addr}{g:G}(a:oE P w K mg base j C n g)(h:j<=k:=by decide):oE P w K mg base k C n g:=a.mono h
end
section
variable {X:Cx}{Wx:XW}{m:Mode}{pos:Pos}
noncomputable def iV (M:Mm) (d:D):Option (Nat×List (Key×D)):=match d with
  | .ref k => (match M[k]? with
    |some (.dcf kvs)=>some (k,kvs)
    |_=>none)
  |_=>none
theorem o_ {M:Mm}{d:D}{k:Nat}{kvs:List (Key×D)}(h:iV M d=some (k,kvs)):d=.ref k/\M[k]? =some (.dcf kvs):=by
 unfold iV at h;split at h
 ·split at h
  ·cases h;rename_i e;exact⟨rfl,e⟩
  ·cases h
 ·cases h
noncomputable def gD (f:E):E:=fun env M=>bnd (f env M) fun d M1=>match nF M1 d with
 |some (j,kvs)=>some (.v d,M1.set j (.dcf kvs))
 |none=>none
theorem Hh {e:Expr}{f:E}(h:SE X Wx .val e f):SE X Wx m e (gD f):=by
 refine cg (Xi h) ?_;rintro st H Q ⟨P0,H0,P,Os,env,M,r,M',k,e,q⟩;unfold gD at e;rcases bT e with⟨d,M1,e1,e⟩ |⟨c,n,e1,rfl⟩
 ·refine aN k e1 fun P1 v1 H1 l1 h1 i1=>?_;split at e
  ·rename_i j kvs ed;cases e;obtain⟨rfl,em⟩:=Ds ed;obtain⟨jl,rfl⟩:j<P1.n/\v1=.ref (P1.io j):=i1;obtain⟨vs,ev,en,is⟩:=h1.cell j _ em;refine⟨P1.io j,vs,ev,fun ob es ep hd=>?_⟩;have lc:Lt P1 H1 P1 (upd H1 (P1.io j) (.frz ob (.dK vs))):=pU (h1.bd j jl) ev tY;obtain⟨l2,l2e,h2⟩:=h1.set (c':=.dcf kvs) (o':=.frz ob (.dK vs)) em ⟨vs,ob,es,ep,bO,hd,en,aD.lt lc is⟩;exact q P1 _ _ (l1.trans l2e) h2 (cA.of h2 (show Is _ _ _ (.ref j) _ from⟨jl,rfl⟩))
  ·cases e
 ·exact aN k e1 q
def cV:Key->D
 |.inl i=>.int i
 |.inr x=>.str x
theorem is_key {K:Fgx}{P:Pl}{H:Hp}(k:Key):Is K P H (cV k) (kV k):=by
 cases k<;>rfl
noncomputable def vL (f:E):EA:=fun env M=>match f env M with
  | some (.v d, M1) => (match iV M1 d with
    |some p=>some (.v (p.2.map fun p=>cV p.1),M1)
    |none=>none)
  |some (.x c n,M1)=>some (.x c n,M1)
  |none=>none
theorem zbf {tg e:Expr}{f:E}(h:SE X Wx .val e f):SI X Wx tg e (vL f):=by
 refine wI (XD h) ?_;rintro st H R ⟨P0,H0,P,Os,env,M,r,M',k,e,q⟩;unfold vL at e;split at e
 ·rename_i d M1 ef;split at e
  ·rename_i p ed;cases e;refine⟨P0,H0,P,Os,env,M,_,_,k,ef,fun P1 v1 H1 l1 h1 i1=>?_⟩;obtain⟨rfl,em⟩:=o_ (k:=p.1) (kvs:=p.2) ed;obtain⟨jl,rfl⟩:p.1<P1.n/\v1=.ref (P1.io p.1):=i1;obtain⟨vs,ob,es,ep,ev,hd,en,is⟩:=h1.cell p.1 _ em;have hl:vs.length=p.2.length:=by simpa using congrArg List.length en
   refine⟨P1.io p.1,ob,vs,es,ep,rfl,ev,hd,q P1 H1 _ l1 h1 fun P2 H2 l2=>?_⟩;have e2:H2 (P1.io p.1)=some (.frz ob (.dK vs)):=l2.keep _ _ ev (.inl (.inr (.inl ⟨_,_,rfl⟩)));refine⟨fun j hj=>⟨by rw[xaC, <-hl]at hj;exact hj,e2⟩,fun j h1 h2=>⟨by rw[xaC, <-hl]at h1 h2;exact xaV h2 h1,e2⟩,fun j x H' y hj=>⟨y.1,?_⟩⟩;have y2:=y.2;rw[xae]at y2;obtain⟨u,eu,rfl⟩:=y2;have ek:(p.2.map (·.1))[j]? =some u.1:=by rw[<-en,xan,eu];rfl
   refine⟨cV u.1,?_,is_key u.1⟩;rw[xan,xae]at ek ⊢;obtain⟨w,ew,e3⟩:=ek;exact⟨w,ew,by rw[e3]⟩
  ·cases e
 ·rename_i c n M1 ef;cases e;exact⟨P0,H0,P,Os,env,M,_,_,k,ef,q⟩
 ·cases e
noncomputable def zc (M:Mm) (d y:D):Option (Nat×List (Key×D)×Key):=match iV M d with
 |some p=>(toKey y).map fun k=>(p.1,p.2,k)
 |none=>none
theorem RL {M:Mm}{d y:D}{j:Nat}{kvs:List (Key×D)}{k:Key}(h:zc M d y=some (j,kvs,k)):d=.ref j/\M[j]? =some (.dcf kvs)/\toKey y=some k:=by
 unfold zc at h;split at h
 ·rename_i p ep;rw[xae]at h;obtain⟨k',ek,h⟩:=h;cases h;obtain⟨h1,h2⟩:=o_ (k:=p.1) (kvs:=p.2) ep;exact⟨h1,h2,ek⟩
 ·cases h
noncomputable def uq (f g h:E):E:=fun env M=>bnd (f env M) fun d M1=>match iV M1 d with
  | some _ => bnd (g env M1) fun y M2 => bnd (h env M2) fun x M3 => (match zc M3 d y with
    |some (_,kvs,k)=>some (.v ((bf kvs k).getD x),M3)
    |none=>none)
  |none=>none
theorem zaP {o e e':Expr}{f g h:E}{p:Pos}(hu:X.A.units + 60<cLine)(ho:SE X Wx .val o f)(he:SE X Wx .val e g)(he':SE X Wx .val e' h)(hm:L2.M2 X o "get" p e e' pos:=by exact⟨rfl,rfl,rfl,rfl⟩):SE X Wx m (.Call (.Attribute o "get" p) [e,e'] [] pos) (uq f g h):=by
  refine cg (Mg (xbG (xbC (by decide) _) hu) ho he he' hm) ?_;rintro st H Q ⟨P0,H0,P,Os,env,M,r,M',k,ee,q⟩;unfold uq at ee;rcases bT ee with⟨d,N1,e1,ea⟩ |⟨c,n,e1,rfl⟩
  · refine aN k e1 fun P1 v1 H1 l1 h1 i1=>?_;have k1:=k.next l1 h1
    split at ea
    · rename_i pr ed;obtain⟨j,kvs0⟩:=pr;obtain⟨rfl,em0⟩:=o_ ed;obtain⟨jl,rfl⟩:j<P1.n/\v1=.ref (P1.io j):=i1;obtain⟨vs0,ob0,_,_,ev0,_⟩:=h1.cell j _ em0;refine⟨_,rfl,.inl ⟨vs0,.inr ⟨ob0,ev0⟩⟩,?_⟩;rcases bT ea with⟨y,N2,e2,eb⟩ |⟨c,n,e2,rfl⟩
      · refine aN k1 e2 fun P2 v2 H2 l2 h2 i2=>?_;have k2:=k1.next l2 h2
        rcases bT eb with⟨x,N3,e3,ec⟩ |⟨c,n,e3,rfl⟩
        · refine aN k2 e3 fun P3 v3 H3 l3 h3 i3=>?_;split at ec
          · rename_i j' kvs key ek;cases ec;obtain⟨ej,em,et⟩:=RL ek;cases ej;obtain⟨vs,ob,_,_,ev,_,en,is⟩:=h3.cell j _ em;have g:=xZ (k:=key) (kvs:=kvs) (vs:=vs) ⟨en,is⟩;rw[l3.io j (xah jl l2.n),l2.io j jl]at ev;have i2':=Is.lt (l3.lt h2) i2;refine⟨bR vs key,by rw[key_is et i2'];exact .inl ⟨vs,key,.inr ⟨ob,ev⟩,rfl,rfl⟩,?_⟩
            cases hd:bf kvs key with
            |none=>
              rw[hd]at g q;have g':bR vs key=none:=g;rw[g'];exact q P3 _ H3 (l1.trans (l2.trans l3)) h3 (cA.of h3 i3)
            |some z=>
              rw[hd]at g q;obtain⟨v,gv,iv⟩:=g;rw[gv];exact q P3 _ H3 (l1.trans (l2.trans l3)) h3 (cA.of h3 iv)
          · cases ec
        · exact aN k2 e3 q
      · exact aN k1 e2 q
    · cases ea
  · exact aN k e1 q
theorem QD:dU X (.type "dict") (fun xs H Q=>∃a kvs,xs=[.ref a]/\Rd H a (.dK kvs)/\∀p,H p=none->Q (.ref p) (upd H p (.dK kvs))):=by
 intro pins s σ H xs us Q I r h;obtain⟨a,kvs,rfl,ha,q⟩:=h;obtain⟨u,rfl,ru⟩:=vals1 r;cases ru;exact Rr I ha fun p s' hp I'=>⟨.ref p,_,I',rfl,q p hp⟩
noncomputable def wW (f:E):E:=fun env M=>bnd (f env M) fun d M1=>match iV M1 d with
 |some p=>some (.v (.ref M1.length),M1 ++ [.dct p.2])
 |none=>none
theorem zaT {e:Expr}{f:E}{p:Pos}(hg:Gl X "dict")(hm:X.mg "dict"=none)(he:SE X Wx .val e f)(hs:starEach [e] X.env=(false,eval e X.env)::starEach [] X.env:=by rfl):SE X Wx m (.Call (.Name "dict" p) [e] [] pos) (wW f):=by
 refine cg (zT QD hg hm boot_dict (gj he iK hs) (by x_go) (by x_go) hs rfl) ?_;rintro st H Q ⟨P0,H0,P,Os,env,M,r,M',k,ee,q⟩;unfold wW at ee;rcases bT ee with⟨d,N1,e1,ea⟩ |⟨c,n,e1,rfl⟩
 ·split at ea
  ·rename_i pr ed;obtain⟨j,kvs⟩:=pr;cases ea;obtain⟨rfl,em⟩:=o_ ed;refine aN k e1 fun P1 v1 H1 l1 h1 i1=>?_;obtain⟨jl,rfl⟩:j<P1.n/\v1=.ref (P1.io j):=i1;obtain⟨vs,ob,_,_,ev,_,en,is⟩:=h1.cell j _ em;refine⟨_,vs,rfl,.inr ⟨ob,ev⟩,fun p hp=>?_⟩;obtain⟨l2,h2,nc⟩:=yO (o:=.dK vs) h1 hp;obtain⟨P3,l3,h3,i3⟩:=yV (o':=.dK vs) (c:=.dct kvs) (l1.trans l2) h2 (l1.sure p hp) (.inr rfl) nc bO tY fun P' l'=>⟨vs,bO,en,aD.lt ((l2.lt h1).trans l') is⟩;rw[Ie]at l3 h3 i3;exact q P3 _ _ l3 h3 (cA.of h3 i3)
  ·cases ea
 ·exact aN k e1 q
end
end E3
namespace L2
open PySem PySem.Spec PyProof.Rows
noncomputable def yX (N:List Str) (psc:Scope) (xs:List Str) (cs:List (Str×Nat)) (scope:Scope):Bool:=
 scope.kind==.function && xs.all (fun x=>scope.names.lookup x==some .local) && decide ((xs ++ cs.map (·.1)).Nodup) &&
 scope.names.all (fun y=>y.2 !=.cell && (y.2 !=.local || scope.names.lookup y.1==some .local) && (y.2 !=.free || (psc.names.lookup y.1==some .cell || psc.names.lookup y.1==some .free))) &&
 cs.all (fun p=>N[p.2]? ==some p.1 && (psc.names.lookup p.1==some .cell || psc.names.lookup p.1==some .free) && ((c7 psc scope.names).lookup p.1==some .cell || (c7 psc scope.names).lookup p.1==some .free))
structure CompOkT (N:List Str)(psc:Scope)(xs:List Str)(cs:List (Str×Nat))(scope:Scope):Prop where
 kind:scope.kind=.function
 own:∀x∈xs,scope.names.lookup x=some .local
 nd:(xs ++ cs.map (·.1)).Nodup
 cell:∀y∈scope.names,y.2≠ .cell
 names:∀y∈scope.names,y.2=.local->scope.names.lookup y.1=some .local
 has:∀y∈scope.names,y.2=.free->psc.names.lookup y.1=some .cell\/psc.names.lookup y.1=some .free
 cap:∀p∈cs,N[p.2]? =some p.1/\(psc.names.lookup p.1=some .cell\/psc.names.lookup p.1=some .free)/\((c7 psc scope.names).lookup p.1=some .cell\/(c7 psc scope.names).lookup p.1=some .free)
theorem CompOkT.of {N:List Str}{psc:Scope}{xs:List Str}{cs:List (Str×Nat)}{scope:Scope}(h:yX N psc xs cs scope=true):CompOkT N psc xs cs scope:=by
 unfold yX at h;simp only[xat,Bool.or_eq_true,xcl,xaU,xbd,bne_iff_ne,ne_eq]at h;obtain⟨⟨⟨⟨h1,h2⟩,h3⟩,h4⟩,h5⟩:=h;refine⟨h1,h2,h3,fun y hy=>(h4 y hy).1.1,fun y hy e=>?_,fun y hy e=>?_,fun p hp=>⟨(h5 p hp).1.1,(h5 p hp).1.2,(h5 p hp).2⟩⟩
 ·rcases(h4 y hy).1.2 with z |z
  ·exact absurd e z
  ·exact z
 ·rcases(h4 y hy).2 with z |z
  ·exact absurd e z
  ·exact z
def O6 (wi:TI)(tG:TG)(tq:TT)(te:TE)(n:Nat)(cs:List (Str×Nat)):St->Hp->(Addr->Hp->Prop)->Prop:=fun σ H R=>wi σ H fun J H1=>∀D,H1 D=none->
  ∃W:Nat->Nat->List V->Hp->Prop,(∃m,W 0 m [] (upd H1 D (.lst [])))/\∀i m ys H2,W i m ys H2->H2 D=some (.lst ys)/\
    ((J.stop i H2 /\ R D H2) \/ (J.go i H2/\ys.length<sizeLine/\∃N:List V->Hp->Prop,(∀ys' H',N ys' H'->∃m',m'<m/\W (i + 1) m' ys' H')/\∀v H3,J.yld i H2 v H3->∀vl:List (Option V),vl.length=n->
      tG v (vl ++ dY cs σ) H3 fun σ' H4=>∃vl',vl'.length=n/\σ'=vl' ++ dY cs σ/\tq σ' H4 fun b H5=>
      if b=true then te σ' H5 fun y H6=>H6 D=some (.lst ys)/\N (ys ++ [y]) (upd H6 D (.lst (ys ++ [y]))) else N ys H5))
section
variable {X:Cx}{elt iter tg:Expr}{ifs:List Expr}{xs:List Str}{scope:Scope}{pos:Pos}{wi:TI}{tG:TG}{tq:TT}{te:TE}{cs:List (Str×Nat)}
theorem Rm (hc:X.calm=true)(hi:PI X tg iter wi)
    (hg:∀(cl:List (Str×Addr)) (C:Addr) (s₀:Shared) (H₀:Hp) (ex:List Addr) (pn:Pnx),PG (bU X (xs ++ cs.map (·.1)) scope cl C s₀ H₀ ex pn) tg tG)
    (hq:∀(cl:List (Str×Addr)) (C:Addr) (s₀:Shared) (H₀:Hp) (ex:List Addr) (pn:Pnx),fM (bU X (xs ++ cs.map (·.1)) scope cl C s₀ H₀ ex pn) ifs tq)
    (he:∀(cl:List (Str×Addr)) (C:Addr) (s₀:Shared) (H₀:Hp) (ex:List Addr) (pn:Pnx),PE (bU X (xs ++ cs.map (·.1)) scope cl C s₀ H₀ ex pn) elt te)
    (ok:CompOkT X.N X.env.scope xs cs scope) {pins:Pnx} {s:Shared} {σ:St} {H:Hp} {R:Addr->Hp->Prop} (I:Inv X pins σ H s) (h:O6 wi tG tq te xs.length cs σ H R)
    {RR:Value->Addr->Result->Shared->Prop}
    (hRR:∀(D C:Addr) (oC:Obj) (H':Hp) (s':Shared),Inv X (pins ++ [(C,oC)]) σ H' s'->(∀h':Heap,h'.get? C=some oC->∃m,h'.Ns C m)->cJ X pins H' C->R D H'->RR (.ref D) C (.ok .next) s'):
    wpAny (model X.prog X.w) X.A (eval iter X.env) (fun xv s₁ => wpAny (model X.prog X.w) X.A (pyIter xv) (fun itv s₂ => wpAny (model X.prog X.w) X.A (newList []) (fun acc s₃=>
      wpAny (model X.prog X.w) X.A (newFunctionEnv scope X.env.globals (cT X.env.cells scope.names) [] X.env.qual none .none (some X.env)) (fun cenv s₄=>
        codeAny (model X.prog X.w) X.A (.compStart (.ListComp elt [⟨tg,iter,ifs,0⟩] scope pos) 0 itv acc {cenv with scope:=relabel scope X.env}) (RR acc cenv.locals) s₄) X.xe s₃) X.xe s₂) X.xe s₁) X.xe s:=by
  refine aL (hi pins s σ H _ I h) fun v s1 h1=>aL h1 fun itv s2 h2=>?_;obtain⟨it,fp,tn,J,H2,e,I2,T,st2,f2,h2⟩:=h2;subst e;have hhas:∀y∈scope.names,y.2=.free->∃c,X.env.cells.lookup y.1=some c:=fun y hy hk=>I2.ok.has y.1 (ok.has y hy hk);refine xbv (wpAny_newFunctionEnv ok.cell (by intro y hy;simp at hy) (fun h₁ hns₁ hsb₁=>?_) ok.kind);dsimp only at hns₁ hsb₁ ⊢;generalize hHH:s2.heap.push {cls:=.type "list",dict:=none,data:=.seq ([]:List Value).toArray}=HH at hns₁ hsb₁ ⊢;have hC:HH.objs.size=s2.heap.objs.size + 1:=by rw[<-hHH,Heap.size_push]
  have hDC:s2.heap.objs.size≠HH.objs.size:=by rw[hC];exact xap (xbO _)
  have hCle:s2.heap.objs.size<=HH.objs.size:=by rw[hC];exact xcz _
  have below:∀b,b<s2.heap.objs.size->b≠HH.objs.size:=fun b hb=>by rw[hC];exact xap (xdD hb)
  have old:∀b o,s2.heap.get? b=some o->h₁.get? b=some o:=fun b o e=>hsb₁.extBut b o (below b (xad e)) (xab _ (hHH ▸ xab _ e));have hacc:h₁.get? s2.heap.objs.size=some {cls:=.type "list",dict:=none,data:=.seq ([]:List Value).toArray}:=hsb₁.extBut _ _ hDC (xab _ (hHH ▸ xau _ rfl));have nD:H2 s2.heap.objs.size=none:=I2.hok.fresh (xaf _);have nC:H2 HH.objs.size=none:=I2.hok.fresh hCle;obtain⟨W,⟨m0,w0⟩,turn⟩:=h2 s2.heap.objs.size nD
  -- the block's context
  have fpC:∀b∈fp,b≠HH.objs.size:=fun b hb=>by
    obtain⟨o,ho,_⟩:=T.obj 0 _ st2 b hb;exact below b (xad ho)
  have fpD:∀b∈fp,b≠s2.heap.objs.size:=fun b hb=>by
    obtain⟨o,ho,_⟩:=T.obj 0 _ st2 b hb;exact xap (xad ho)
  have pinC:∀p∈X.pn ++ pins,p.1≠HH.objs.size:=fun p hp=>below _ (xad (I2.pin p hp).1);have clIn:∀y c,(cT X.env.cells scope.names).lookup y=some c->X.env.cells.lookup y=some c:=Dh scope.names [] hhas (fun y c e=>by cases e);have kindRel:∀y,(relabel scope X.env).names.lookup y=(c7 X.env.scope scope.names).lookup y:=fun _=>rfl;have okC:(bU X (xs ++ cs.map (·.1)) scope (cT X.env.cells scope.names) HH.objs.size s2 H2 fp (X.pn ++ pins)).Ok:=
    { mod:=I2.ok.mod
      kind:=ok.kind
      glob:=I2.ok.glob
      blt:=I2.ok.blt
      above:=hCle
      inj:=fun y z c e1 e2=>I2.ok.inj y z c (clIn y c e1) (clIn z c e2)
      has:=fun y hk=>by
        have hm:(y,NameKind.free)∈scope.names:=by
          rcases hk with hk |hk
          · exact mG (psc:=X.env.scope) (k':=.cell) hk (.inl rfl) ok.cell
          · exact mG (psc:=X.env.scope) (k':=.free) hk (.inr rfl) ok.cell
        exact u9 scope.names [] y (.inl hm)
      cab:=fun y c hf _=>by cases hf
      hd:=I2.ok.hd
      frames:=I2.ok.frames
      stk:=.inl rfl
      exf:=fun b hb=>⟨fpC b hb,fun y c e z=>(f2 b hb).2.2.2.2.1 y c (clIn y c e) z⟩
      bs:=fun b o e=>I2.bs b o e
      bsz:=xaD I2.ok.bsz I2.sz
      noex:=fun b o e hb=>by
        rcases(f2 b hb).2.2.2.1 with z |z
        · exact I2.ok.noex b o e z
        · exact absurd (xah (xad e) (xaD I2.ok.bsz z)) (xa0 _)
      exfs:=fun b hb z=>by
        rcases xas.mp (I2.stkSub b z) with q |q
        · exact(f2 b hb).2.1 q
        · exact(f2 b hb).2.2.1 q
      funs:=I2.stack
      frf:=I2.stkFree}
  have IC:Inv (bU X (xs ++ cs.map (·.1)) scope (cT X.env.cells scope.names) HH.objs.size s2 H2 fp (X.pn ++ pins)) [] (List.replicate xs.length none ++ dY cs σ) (upd H2 s2.heap.objs.size (.lst [])) {s2 with heap:=h₁,toks:=s2.toks + ([]:List (Str×Value)).length}:=
    { ok:=okC
      os:=rfl
      bare:=I2.bare
      base:=Un.laid old (xaf _) nD
      loc:=by
        refine⟨_,hns₁,fun i y u e1 e2 _=>?_⟩;rcases xaJ i xs.length with hi |hi
        · exfalso
          rw[xaX (by rw[xbs];exact hi),xbm,xac hi]at e2;cases e2
        · have e1':(cs.map (·.1))[i - xs.length]? =some y:=by rw[<-xa9 hi];exact e1
          have e2':(dY cs σ)[i - xs.length]? =some (some u):=by
            rw[xa9 (by rw[xbs];exact hi),xbs]at e2;exact e2
          rw[xan]at e1';unfold dY at e2';rw[xan]at e2'
          cases ep:cs[i - xs.length]? with
          |none=>rw[ep]at e1';cases e1'
          |some p=>
            rw[ep]at e1' e2';have e1'':p.1=y:=xar e1';have e2'':(σ[p.2]?).join=some u:=xar e2';have e3:σ[p.2]? =some (some u):=by
              cases q:σ[p.2]? with
              |none=>rw[q]at e2'';cases e2''
              |some z=>rw[q]at e2'';exact congrArg some e2''
            subst e1'';obtain⟨hN,hkp,hkc⟩:=ok.cap p (xaL ep);obtain⟨mP,_,hl⟩:=I2.loc;obtain⟨u',ru,lk⟩:=hl p.2 p.1 u hN e3 (.inr hkp);refine⟨u',ru,.inr ⟨hkc,?_⟩⟩;rcases lk with⟨k0,_⟩ |⟨_,c,hcell,his⟩
            · exfalso
              have k0':X.env.scope.names.lookup p.1=some .local:=k0;rcases hkp with z |z<;>(rw[k0']at z;cases z)
            · have hm:(p.1,NameKind.free)∈scope.names:=by
                rcases hkc with z |z
                · exact mG z (.inl rfl) ok.cell
                · exact mG z (.inr rfl) ok.cell
              obtain⟨c',hc'⟩:=u9 (cells:=X.env.cells) scope.names [] p.1 (.inl hm);have e5:c'=c:=xar ((clIn p.1 c' hc').symm.trans hcell);exact⟨c',hc',by rw[e5];exact his.keeps old⟩
      cell:=fun y c e=>by
        obtain⟨v',q⟩:=I2.cell y c (clIn y c e);exact⟨v',q.keeps old⟩
      free:=by
        show upd H2 s2.heap.objs.size (.lst []) HH.objs.size=none;rw[aP hDC.symm];exact nC
      freeC:=fun y c e=>by
        have hcl:c<s2.heap.objs.size:=by
          obtain⟨_,q⟩:=I2.cell y c (clIn y c e);exact q.lt
        rw[aP (xap hcl)];exact I2.freeC y c (clIn y c e)
      pin:=fun p hp=>by
        have hp':p∈X.pn ++ pins:=by
          rcases xaO.mp hp with z |z
          · exact z
          · cases z
        obtain⟨e1,e2,e3,e4,e5⟩:=I2.pin p hp';refine⟨old _ _ e1,?_,pinC p hp',fun z=>?_,e5⟩
        · rw[aP (xap (xad e1))];exact e2
        · rcases xas.mp (I2.stkSub p.1 z) with q |q
          · exact e3 q
          · exact e4 q
      hok:=I2.hok.laid old (xaf _) ⟨xbc _,[],0,.nil,hacc⟩
      len:=by simp[dY]}
  have stC:tn 0 h₁:=T.keep 0 _ _ st2 fun b _ o e=>old b o e;have frC:∀b∈fp,upd H2 s2.heap.objs.size (HO.lst []) b=none:=fun b hb=>by
    rw[aP (fpD b hb)];exact(f2 b hb).1
  -- what stays true of the iterator's objects in the block
  have stat:∀{H':Hp},(∀b∈fp,H' b=none)->∀b∈fp,cJ (bU X (xs ++ cs.map (·.1)) scope (cT X.env.cells scope.names) HH.objs.size s2 H2 fp (X.pn ++ pins)) [] H' b:=fun {H'} hn b hb=>
    ⟨hn b hb, fpC b hb, okC.exfs b hb, .inl hb, fun y c e => (okC.exf b hb).2 y c e, fun p hp => (f2 b hb).2.2.2.2.2 p (by
      rcases xaO.mp hp with z |z
      · exact z
      · cases z)⟩
  have loop:∀s₃:Shared,s₃={s2 with heap:=h₁,toks:=s2.toks + ([]:List (Str×Value)).length}->
      codeAny (model X.prog X.w) X.A (.compLoop (.ListComp elt [⟨tg,iter,ifs,0⟩] scope pos) 0 (.ref it) (.ref s2.heap.objs.size) (compEnvC scope (cT X.env.cells scope.names) HH.objs.size X.env)) (RR (.ref s2.heap.objs.size) HH.objs.size) s₃:=by
    rintro s₃ rfl;refine JD (fun n s'=>∃(i:Nat) (vl:List (Option V)) (ys:List V) (H':Hp),vl.length=xs.length/\Inv (bU X (xs ++ cs.map (·.1)) scope (cT X.env.cells scope.names) HH.objs.size s2 H2 fp (X.pn ++ pins)) [] (vl ++ dY cs σ) H' s'/\tn i s'.heap/\(∀b∈fp,H' b=none)/\W i n ys H')
      ?_ m0 ⟨0,_,[],_,xbs,IC,stC,frC,w0⟩
    rintro n s3 ⟨i,v3,ys,H3,hv3,I3,st3,fr3,w3⟩;obtain⟨hD3,tr⟩:=turn i n ys H3 w3;rcases tr with⟨stop,qn⟩ |⟨go,hsz,N,hN,step⟩
    · refine aL (T.done (bU X (xs ++ cs.map (·.1)) scope (cT X.env.cells scope.names) HH.objs.size s2 H2 fp (X.pn ++ pins)) rfl rfl rfl hc i [] s3 _ H3 _ I3 (stat fr3) st3 stop) fun r s4 ⟨hr,I4⟩=>?_;subst hr;show RR (.ref s2.heap.objs.size) HH.objs.size (.ok .next) s4
      have IP:Inv X pins σ H3 s4:=I2.call' (ch:=fp) I4.os I4.base I4.hok I4.bare fun b hb=>⟨(f2 b hb).2.2.2.1,(f2 b hb).2.1,(f2 b hb).2.2.2.2.1,(f2 b hb).2.2.2.2.2⟩;obtain⟨m4,⟨oC,es,ep,hoC,hdC,hk1,hk2⟩,_⟩:=I4.loc;have nC3:H3 HH.objs.size=none:=I4.free;have fC:cJ X pins H3 HH.objs.size:=I2.fpOk hCle nC3;refine hRR _ _ oC H3 s4 (IP.pins_of fun p hp=>?_) (fun h' e=>⟨m4,oC,es,ep,e,hdC,hk1,hk2⟩) fC qn;rcases xaO.mp hp with z |z
      · exact IP.pin p (xao _ z)
      · have e:p=(HH.objs.size,oC):=by simpa using z
        subst e;exact ⟨hoC,nC3,fC.2.1,fC.2.2.1,fun v z=>by
          have z':oC.data=.cell v:=z;rw[hdC]at z';cases z'⟩
    · refine aL (T.item (bU X (xs ++ cs.map (·.1)) scope (cT X.env.cells scope.names) HH.objs.size s2 H2 fp (X.pn ++ pins)) rfl rfl rfl hc i [] s3 _ H3 _ I3 (stat fr3) st3 go) fun r s4 ⟨u,hr,h4⟩=>?_;subst hr;refine aL h4 fun _ s5 ⟨y,H5,I5,r5,y5,st5,fr5⟩=>?_;have I5':=I5.pinned (stat fr5) (T.obj _ _ st5);refine aL (hg (cT X.env.cells scope.names) HH.objs.size s2 H2 fp (X.pn ++ pins) _ s5 _ H5 y u _ I5' r5 (step y H5 y5 v3 hv3)) fun _ s6 ⟨σ6,H6,I6,vl6,hl6,e6,q6⟩=>?_;subst e6;refine aL (hq _ _ _ _ _ _ _ s6 _ H6 _ I6 q6) fun b s7 ⟨H7,I7,q7⟩=>?_;have again:∀{v':List (Option V)} {H8:Hp} {s8:Shared} {ys':List V} {m':Nat},v'.length=xs.length->Inv (bU X (xs ++ cs.map (·.1)) scope (cT X.env.cells scope.names) HH.objs.size s2 H2 fp (X.pn ++ pins)) ([] ++ uc fp s5.heap) (v' ++ dY cs σ) H8 s8->W (i + 1) m' ys' H8->
          ∃(i:Nat) (vl:List (Option V)) (ys:List V) (H':Hp),vl.length=xs.length/\Inv (bU X (xs ++ cs.map (·.1)) scope (cT X.env.cells scope.names) HH.objs.size s2 H2 fp (X.pn ++ pins)) [] (vl ++ dY cs σ) H' s8/\tn i s8.heap/\(∀b∈fp,H' b=none)/\W i m' ys H':=fun {v' H8 s8 ys' m'} hl8 I8 w8=>by
        refine⟨i + 1,v',ys',H8,hl8,I8.unpinned,T.keep _ _ _ st5 fun b hb o e=>(I8.pin (b,o) (xao _ (xao _ (tU hb e)))).1,fun b hb=>?_,w8⟩;obtain⟨o,e,d⟩:=T.obj _ _ st5 b hb;exact(I8.pin (b,o) (xao _ (xao _ (tU hb e)))).2.1
      cases b with
      |false=>
        rw[xag xaq]at q7;rw[xag xaq];obtain⟨m',hm,w8⟩:=hN _ _ q7;exact⟨m',hm,again hl6 I7 w8⟩
      |true=>
        rw[xac rfl]at q7;rw[xac rfl];refine aL (he _ _ _ _ _ _ _ s7 _ H7 _ I7 q7) fun z s8 ⟨zv,H8,I8,r8,hD8,n8⟩=>?_;obtain⟨m',hm,w8⟩:=hN _ _ n8;refine aL (Fo (X:=bU X (xs ++ cs.map (·.1)) scope (cT X.env.cells scope.names) HH.objs.size s2 H2 fp (X.pn ++ pins)) _ s8 _ H8 (.ref s2.heap.objs.size) [zv] (.ref s2.heap.objs.size) [z] (fun _ H9=>H9=upd H8 s2.heap.objs.size (.lst (ys ++ [zv]))) I8 rfl (.cons r8 .nil) ⟨_,ys,zv,rfl,rfl,hD8,hsz,rfl⟩) fun _ s9 ⟨_,H9,I9,_,e9⟩=>?_;subst e9;exact⟨m',hm,again hl6 I9 w8⟩
  exact codeAny_compStart_list (loop _ rfl) (T.self _ 0 _ _ _ stC (loop _ rfl))
noncomputable def zb4 (wi:TI) (tG:TG) (tq:TT) (te:TE) (n:Nat) (cs:List (Str×Nat)):TE:=fun σ H Q=>O6 wi tG tq te n cs σ H fun D H'=>Q (.ref D) H'
theorem Xb (xs:List Str)(cs:List (Str×Nat))(hc:X.calm=true)(hi:PI X tg iter wi)
  (hg:∀(cl:List (Str×Addr)) (C:Addr) (s₀:Shared) (H₀:Hp) (ex:List Addr) (pn:Pnx),PG (bU X (xs ++ cs.map (·.1)) scope cl C s₀ H₀ ex pn) tg tG)
  (hq:∀(cl:List (Str×Addr)) (C:Addr) (s₀:Shared) (H₀:Hp) (ex:List Addr) (pn:Pnx),fM (bU X (xs ++ cs.map (·.1)) scope cl C s₀ H₀ ex pn) ifs tq)
  (he:∀(cl:List (Str×Addr)) (C:Addr) (s₀:Shared) (H₀:Hp) (ex:List Addr) (pn:Pnx),PE (bU X (xs ++ cs.map (·.1)) scope cl C s₀ H₀ ex pn) elt te)
  (ok:yX X.N X.env.scope xs cs scope=true:=by kernel_rfl) (hs:∀x,foldedSetIterable iter X.env x=pure x:=by intro _;rfl):
  PE X (.ListComp elt [⟨tg,iter,ifs,0⟩] scope pos) (zb4 wi tG tq te xs.length cs):=by
 intro pins s σ H Q I h;have ok':=CompOkT.of ok;rw[eval_ListComp];refine xb6 (use:=none) rfl hs (Di fun y hy hk=>I.ok.has y.1 (ok'.has y hy hk)) ok'.kind ok'.names ?_;refine Rm (RR:=fun acc C=>compPost (model X.prog X.w) X.A X.xe none (EP X pins σ Q) acc C) hc hi hg hq he ok' I h ?_;intro D C oC H' s' I' hns fC q;refine⟨_,(hns _ (I'.pin (C,oC) (xao _ (xao _ (by simp)))).1).choose_spec,fun h' hs'=>?_⟩;have I1:Inv X pins σ H' s':=I'.unpinned;exact⟨.ref D,H',I1.turned (t':=s'.toks) (fun b o hb e=>(hs'.2 b hb).trans e) fC.1 fC.2.1 fC.2.2.2.1 fC.2.2.2.2.1 fC.2.2.2.2.2,rfl,q⟩
end
noncomputable def Bx (a:Addr) (ob:Obj) (kvs:List (Key×V)):It:=
 ⟨fun i H=>i<kvs.length/\H a=some (.frz ob (.dK kvs)),fun i H x H'=>∃(T:Addr) (p:Key×V),H T=none/\x=.ref T/\kvs[i]? =some p/\H'=upd H T (.tup [kV p.1,p.2]),fun i H=>i=kvs.length/\H a=some (.frz ob (.dK kvs))⟩
theorem KV.both {κ:Type}:∀{kvs:List (κ×V)} {vs:List (κ×Value)} {i:Nat} {p:κ×V},KV kvs vs->kvs[i]? =some p->∃q,vs[i]? =some q/\p.1=q.1/\RelV p.2 q.2:=by
  intro kvs vs i p r;unfold KV at r
  induction r generalizing i with
  |nil=>intro e;simp at e
  |cons h t ih=>
    intro e
    cases i with
    |zero=>simp only[xc3]at e;cases e;exact⟨_,rfl,h.1,h.2⟩
    |succ n=>simp only[xaQ]at e ⊢;exact ih e
theorem T7:entryFor table "dict_itemiterator.__iter__"=some Builtin.«dict_keyiterator.__iter__» :=
 entryFor_alias (id':="dict_keyiterator.__iter__") (by kernel_rfl) rfl (by x_go) (by kernel_rfl)
theorem T8 {prog:Program}{w:World}{A:Around}{E:Value->Shared->Prop}{s:Shared}{it d:Addr}{i n ep:Nat}{ok ov:Value}{Q:Value->Shared->Prop}(hit:IsItemIter s.heap it d i n ep ok ov)(h:Q (.ref it) s):wpAny (model prog w) A (pyIter (.ref it)) Q E s:=by
 have hT:s.TypeIs (.ref it) "dict_itemiterator":=⟨_,hit,rfl⟩;refine wpAny_pyIter_slot hT xca (wpAny_call_entry xca hT T7 ?_ (PySem.F.args_dict_itemiterator_iter_1 _));exact xaj ⟨_,rfl,"dict_itemiterator",_,hT,PySem.F.slot_dict_itemiterator_next.lookup,h⟩
theorem zav {P:Program}{w:World}{K:Fgx}{ts:List Expr}{k:Nat}{pos:Pos}(a it:Addr)(ob:Obj)(kvs:List (Key×V)){es:Array DictEntry}{ep:Nat}(hd:ob.data=.dict es ep):
  Turn P w K (.Tuple ts k pos) (Bx a ob kvs) [it] it (fun i h=>∃ok ov,IsItemIter h it a i kvs.length ep ok ov) where
 mem:=by simp
 obj:=fun i h st b hb=>by
  have e:b=it:=by simpa using hb
  subst e;obtain⟨ok,ov,e⟩:=st;exact⟨_,e,fun v z=>by cases z⟩
 keep:=fun i h h' st k=>by
  obtain⟨ok,ov,e⟩:=st;exact⟨ok,ov,k it (by simp) _ e⟩
 item:=by
  intro X hP hw hK hc i pins s σ H E I hf st hg;subst hP hw hK;obtain⟨hi,hq⟩:=hg;obtain⟨vs,rv,dat⟩:=oV I.hok hq hd;have hx:kvs[i]? =some (kvs[i]'hi):=xai hi;obtain⟨⟨kk,u⟩,hu,ek,ru⟩:=rv.both hx;obtain⟨ok,ov,st⟩:=st;have st0:IsItemIter s.heap it a i vs.length ep ok ov:=by rw[<-rv.length];exact st
  refine wpAny_pyNext_items_item st0 dat hu fun key h' hk so t1 hsz kp=>?_;refine⟨_,rfl,wpAny_letOwnedTupleGo_items so fun h2 s2 sb=>?_⟩;rw[<-rv.length]at s2;have its:it<s.heap.objs.size:=xad st;have kk':∀c o,c∉ [it]->s.heap.get? c=some o->h2.get? c=some o:=fun c o hc e=>by
   have hc':c≠it:=by simpa using hc
   exact sb.extBut _ _ hc' (kp c o hc' e)
  have tT:h2.IsTuple s.heap.objs.size #[key,u]:=⟨_,sb.extBut _ _ (xb1 its) t1,rfl,_,rfl⟩;have ek':(kvs[i]'hi).1=kk:=ek;have rk:RelV (kV (kvs[i]'hi).1) key:=by rw[ek'];exact M7 hk
  have I2:Inv X pins σ (upd H s.heap.objs.size (.tup [kV (kvs[i]'hi).1,(kvs[i]'hi).2])) {s with heap:=h2,toks:=s.toks}:=I.turnLaid kk' hf (xaf _) ⟨by show 2<=sizeLine;decide,[key,u],.cons rk (.cons ru .nil),tT⟩;refine⟨.ref s.heap.objs.size,_,I2,rfl,⟨s.heap.objs.size,_,I.hok.fresh (xaf _),rfl,hx,rfl⟩,⟨_,_,s2⟩,fun c hc=>?_⟩;have ec:c=it:=by simpa using hc
  rw[aP (by rw[ec];exact xap its)];exact(hf c hc).1
 done:=by
  intro X hP hw hK hc i pins s σ H E I hf st hg;subst hP hw hK;obtain⟨hi,hq⟩:=hg;obtain⟨vs,rv,dat⟩:=oV I.hok hq hd;obtain⟨f0,f1,f2,f3,f4,f5⟩:=hf it (by simp);obtain⟨ok,ov,st⟩:=st;have st0:IsItemIter s.heap it a i vs.length ep ok ov:=by rw[<-rv.length];exact st
  exact wpAny_pyNext_items_end (I.ok.hd hc) st0 dat (xbg (by rw[hi,rv.length];exact xaf _)) fun h' eb=>⟨rfl,I.turned (t':=s.toks) (fun b o hb e=>eb b o hb e) f0 f1 f3 f4 f5⟩
 self:=fun _ _ _ _ _ st h=>by
  obtain⟨ok,ov,st⟩:=st;exact T8 st h
section
variable {X:Cx}{ts:List Expr}{k:Nat}{tp:Pos}
noncomputable def Tj (td:TE):TI:=fun σ H R=>td σ H fun v H1=>∃a ob kvs es ep,v=.ref a/\H1 a=some (.frz ob (.dK kvs))/\ob.data=.dict es ep/\R (Bx a ob kvs) H1
theorem XC {o:Expr}{td:TE}{p q:Pos}(ho:PE X o td)(hbase:attributeBase o "items" X.env (eval o X.env)=eval o X.env:=by rfl)(hline:(p.endLine==q.line)=true:=by rfl):PI X (.Tuple ts k tp) (.Call (.Attribute o "items" p) [] [] q) (Tj td):=by
 intro pins s σ H R I h;refine wpAny_Call_method0_late hbase hline (aL (ho pins s σ H _ I h) fun v s1 ⟨x,H1,I1,r1,a,ob,kvs,es,ep,ex,ha,hd,q1⟩=>?_);subst ex;obtain rfl:v=Value.ref a:=r1;obtain⟨g,sz,sa,vs,rv,dd⟩:=I1.hok a _ ha;obtain⟨vs',rv',dat⟩:=oV I1.hok ha hd;have hex:ob.dict=none:=by
  obtain⟨ob',_,_,hob',hex,_⟩:=id dd;rw[g]at hob';cases hob';exact hex.2.1
 refine⟨"dict","dict.items",xc1,xc4,PySem.F.type_dict_items,dd.typeIs,fun b e=>by cases e;exact⟨ob,g,hex⟩,xcf rfl (PySem.evalArgs_none ?_)⟩;refine call_meetsIn xc4 dd.typeIs PySem.F.entry_dict_items (PySem.F.args_dict_items_1 _) (meets_dict_items (dZ X.prog X.w) a sa) ⟨⟨vs,dd⟩,?_⟩;have I2:Inv X pins σ H1 {s1 with heap:=s1.heap.push {cls:=.type "dict_items",data:=.fields #[.ref a]}}:=I1.kept (t':=s1.toks) fun b o e=>xab _ e;obtain⟨vs2,rv2,da⟩:=oV I2.hok ha hd;refine wpAny_pyIter_items (s:={s1 with heap:=s1.heap.push {cls:=.type "dict_items",data:=.fields #[.ref a]}}) (v:=s1.heap.objs.size) ⟨_,xau _ rfl,rfl,rfl⟩ da ?_;have I3:Inv X pins σ H1 {s1 with heap:=(s1.heap.push {cls:=.type "dict_items",data:=.fields #[.ref a]}).push {cls:=.type "dict_itemiterator",data:=.fields #[.none,.bool false,.ref a,.int 0 0,.int vs2.length 0,.int ep 0,.none,.none]}}:=I2.kept (t':=s1.toks) fun b o e=>xab _ e;refine⟨_,[(s1.heap.push {cls:=.type "dict_items",data:=.fields #[.ref a]}).objs.size],_,Bx a ob kvs,_,rfl,I3,zav a _ ob kvs hd,?_,fun c hc=>?_,q1⟩
 ·rw[rv2.length];exact⟨.none,.none,xau _ rfl⟩
 ·have e:c=(s1.heap.push {cls:=.type "dict_items",data:=.fields #[.ref a]}).objs.size:=by simpa using hc
  subst e;exact I2.fpOk (xaf _) (I2.hok.fresh (xaf _))
end
end L2
namespace E3
open PySem PySem.Spec PyProof.Rows L2
section
variable {K:Fgx}{mg:Mgx}{P0 P:Pl}{H0 H:Hp}{M:Mm}{Os:List (Option Addr)}{st:L2.St}{env:Env}{d:D}{v:V}
theorem Ok.consV (k:Ok K mg P0 H0 P Os H M st env)(h:Is K P H d v):Ok K mg P0 H0 P (none::Os) H M (some v::st) (.val d::env) where
  hk:=k.hk
  base:=k.base
  b0:=k.b0
  slot:=fun i s e=>by
    cases i with
    |zero=>cases e;exact⟨v,rfl,h⟩
    |succ i=>
      rw[xaQ]at e ⊢;rw[xaQ];exact k.slot i s e
  own:=fun a h=>by
    rw[xas]at h;rcases h with h |h
    · cases h
    · exact k.own a h
  inj:=fun i j a e1 e2=>by
    cases i with
    |zero=>cases e1
    |succ i=>
      cases j with
      |zero=>cases e2
      |succ j=>
        rw[xaQ]at e1 e2;rw[k.inj _ _ a e1 e2]
  olen:=by rw[xaz,xaz,k.olen]
  slen:=by rw[xaz,xaz,k.slen]
end
section
variable {X:Cx}{Wx:XW}{m:Mode}{pos:Pos}
noncomputable def nu (e:E) (env:Env):List (Key×D)->List D->Mm->Option (List D×Mm)
  | [],acc,M=>some (acc,M)
  |p::ps,acc,M=>match e (.val (cV p.1)::.val p.2::env) M with
    |some (.v y,M2)=>if acc.length + 1<sizeLine then nu e env ps (acc ++ [y]) M2 else none
    |_=>none
noncomputable def mJ (cs:List (Str×Nat)) (f e:E):E:=fun env M=>bnd (f env M) fun d M1=>match iV M1 d with
  | some p => (match nu e (bY cs env) p.2 [] M1 with
    |some (ys,M2)=>some (.v (.lst ys),M2)
    |none=>none)
  |none=>none
theorem Rk {cs:List (Str×Nat)}{f e:E}:∀env M r M',mJ cs f e env M=some (.v r,M')->∃ds,r=.lst ds:=fun env M r M' h=>by
 unfold mJ at h;rcases bT h with⟨d,M1,e1,h⟩ |⟨c,n,e1,h⟩
 ·split at h
  ·split at h
   ·cases h;exact⟨_,rfl⟩
   ·cases h
  ·cases h
 ·cases h
theorem zaS (x y:Str)(cs:List (Str×Nat)){px py p q tp:Pos}{n:Nat}{o elt:Expr}{scope:Scope}{f e:E}(hc:X.calm=true)(nd:(cs.map (·.2)).Nodup)(ho:SE X Wx .val o f)
    (he:∀(cl:List (Str×Addr)) (C:Addr) (s₀:Shared) (H₀:Hp) (ex:List Addr) (pn:Pnx),SE (bU X ([x,y] ++ cs.map (·.1)) scope cl C s₀ H₀ ex pn) W0 .val elt e)
    (ok:yX X.N X.env.scope [x,y] cs scope=true:=by kernel_rfl) (hs:∀x,foldedSetIterable (.Call (.Attribute o "items" p) [] [] q) X.env x=pure x:=by intro _;rfl)
    (hbase:attributeBase o "items" X.env (eval o X.env)=eval o X.env:=by rfl) (hline:(p.endLine==q.line)=true:=by rfl):
    SN X Wx (.ListComp elt [⟨.Tuple [.Name x px,.Name y py] n tp,.Call (.Attribute o "items" p) [] [] q,[],0⟩] scope pos) (mJ cs f e):=by
  have ok':=CompOkT.of ok;refine cg (Xb (tq:=iI) (te:=tE X.K X.mg W0 .val e) (tG:=vA X.K 2 (Ed (vp 0) (Ed (vp 1) vq))) [x,y] cs hc (XC ho hbase hline) (fun cl C s₀ H₀ ex pn=>?_) (fun _ _ _ _ _ _=>Gd) he ok hs) ?_
  · have ox:=xbP (env:=X.env) (ok'.own x (by simp));have oy:=xbP (env:=X.env) (ok'.own y (by simp));exact zU (X:=bU X ([x,y] ++ cs.map (·.1)) scope cl C s₀ H₀ ex pn) hc (wH (wG (i:=0) ok'.nd rfl (.inl ox) (.inr ox)) (wH (wG (i:=1) ok'.nd rfl (.inl oy) (.inr oy)) Gb))
  rintro st H Q ⟨P0,H0,P,Os,env,M,r,M',k,ee,w⟩;unfold mJ at ee;rcases bT ee with⟨d,M1,e1,ea⟩ |⟨c,n,e1,rfl⟩
  · split at ea
    · rename_i pr ed;obtain⟨j,kvs⟩:=pr;split at ea
      · rename_i ys M2 ec;cases ea;obtain⟨rfl,em⟩:=o_ ed;obtain⟨ds',e',w⟩:=w;cases e';refine aN k e1 fun P1 v1 H1 l1 h1 i1=>?_;obtain⟨jl,rfl⟩:j<P1.n/\v1=.ref (P1.io j):=i1;obtain⟨vs,ob,es,ep,ev,hd,en,is0⟩:=h1.cell j _ em;have hl:vs.length=kvs.length:=by simpa using congrArg List.length en
        refine ⟨P1.io j, ob, vs, es, ep, rfl, ev, hd, fun D hD => ?_⟩;obtain ⟨l2, h2, nc⟩ := uX (vs := []) h1 hD;refine ⟨fun i m us H2=>m=kvs.length - i/\i<=kvs.length/\∃P2 M3 acc,LtE P1 H1 P2 H2/\Hk X.K X.mg P2 H2 M3/\P2.bd D/\(∀k,k<P2.n->P2.io k≠D)/\H2 D=some (.lst us)/\aD X.K P2 H2 acc us/\acc.length<sizeLine/\nu e (bY cs env) (kvs.drop i) acc M3=some (ys,M'),
          ⟨kvs.length,by simp,xbc _,P1.bar D,M1,[],l2,h2,.inr rfl,nc,bO,rfl,by x_go,by rw[xbK];exact ec⟩,?_⟩
        rintro i m us H2 ⟨rfl,hi,P2,M3,acc,l3,h3,bD,nD,eD,is,hz,ec⟩;refine⟨eD,?_⟩;have ef:H2 (P1.io j)=some (.frz ob (.dK vs)):=l3.keep _ _ ev (.inl (.inr (.inl ⟨_,_,rfl⟩)))
        by_cases hlt:i<kvs.length
        · refine .inr ⟨⟨by rw[hl];exact hlt,ef⟩,by rw[is.len];exact hz,fun us' H'=>∃P2 M3 acc,LtE P1 H1 P2 H'/\Hk X.K X.mg P2 H' M3/\P2.bd D/\(∀k,k<P2.n->P2.io k≠D)/\H' D=some (.lst us')/\aD X.K P2 H' acc us'/\acc.length<sizeLine/\nu e (bY cs env) (kvs.drop (i + 1)) acc M3=some (ys,M'),
            fun us' H' z=>⟨kvs.length - (i + 1),by omega,rfl,hlt,z⟩,?_⟩
          rintro v H3 ⟨T,pv,hT,rfl,epv,rfl⟩ vl hvl;obtain⟨va,vb,rfl⟩:∃va vb,vl=[va,vb]:=by
            match vl,hvl with
            | [a,b],_=>exact⟨a,b,rfl⟩
          have sm:Same H2 (upd H2 T (.tup [kV pv.1,pv.2])):=nZ hT;have l4:LtE P2 H2 P2 (upd H2 T (.tup [kV pv.1,pv.2])):=LtE.same sm;have h4:=h3.same sm;have hg:kvs[i]? =some kvs[i]:=xai hlt;have ek:pv.1=kvs[i].1:=by
            have e2:(vs.map (·.1))[i]? =some pv.1:=by rw[xan,epv];rfl
            rw[en,xan,hg]at e2;exact(xar e2).symm
          obtain⟨v',ev',iv'⟩:=aD.get is0 (i:=i) (d:=kvs[i].2) (by rw[xan,hg];rfl);rw[xan,epv]at ev';cases ev';have iv:Is X.K P2 (upd H2 T (.tup [kV pv.1,pv.2])) kvs[i].2 pv.2:=Is.lt ((l3.lt h1).trans (l4.lt h3)) iv';have ik:Is X.K P2 (upd H2 T (.tup [kV pv.1,pv.2])) (cV kvs[i].1) (kV pv.1):=by rw[ek];exact is_key _
          have kk:=((((k.next l1 h1).next l3 h3).next l4 h4).cap (cs:=cs) nd iv).consV ik
          rw[xaY hlt]at ec;simp only[nu]at ec;refine⟨T,[kV pv.1,pv.2],rfl,.inl (.inl bO),rfl,_,_,rfl,_,_,rfl,rfl,[some (kV pv.1),some pv.2],rfl,rfl,?_⟩;unfold iI;dsimp only;rw[xac rfl];split at ec
          · rename_i y' M5 e5;split at ec
            · rename_i hz';refine aN kk e5 fun P5 v5 H5 l5 h5 i5=>?_;have l45:=l4.trans l5;have eD5:H5 D=some (.lst us):=l45.keep D _ eD (.inr nD);have nD5:∀k,k<P5.n->P5.io k≠D:=l45.nc eD nD;obtain⟨g1,g2,g3⟩:=Ej (vs':=us ++ [v5]) (l3.trans l45) h5 hD (l45.bm D bD) nD5 eD5;exact⟨eD5,P5,M5,acc ++ [y'],g2,g3,l45.bm D bD,nD5,bO,aD.append (aD.lt ((l45.lt h3).trans g1) is) (aD.one (Is.lt g1 i5)),by rw[xax];exact hz',ec⟩
            · cases ec
          · cases ec
        · have ei:i=kvs.length:=by omega
          subst ei;rw[xbz]at ec;cases ec;exact .inl ⟨⟨hl.symm,ef⟩,w P2 D us H2 (l1.trans l3) h3 (l1.sure D hD) bD nD eD is⟩
      · cases ea
    · cases ea
  · exact aN k e1 w
end
def uJ (a b:List (Key×D)):Prop:=a.length=b.length/\∀p∈a,∃e,bf b p.1=some e/\D.eq p.2 e=true/\p.2.dep<=40/\e.dep<=100
section
variable {X:Cx}{Wx:XW}{m:Mode}{pos:Pos}
theorem Kp {Pa:Pl}{Ar:Around}{pins:Pnx}{s:Shared}{σ:L2.St}{H:Hp}(I:Inv X pins σ H s)(hu:Ar.units + 40<cLine){kb:List (Key×V)}{vb:List (Key×Value)}(rb:KV kb vb){ka:List (Key×V)}{va:List (Key×Value)}(ra:KV ka va)
    (h:∀p∈ka,∃d e v,bH X.K Pa H d p.2/\bR kb p.1=some v/\bH X.K Pa H e v/\D.eq d e=true/\d.dep<=40/\e.dep<=100):PySem.W.KeqHits Ar s vb va true:=by
  unfold KV at ra
  induction ra with
  |nil=>exact .nil
  | @cons p q ps qs hh t ih=>
    obtain⟨d,e,v,i1,e2,i2,eq,d1,d2⟩:=h p (by simp);have r:=rb.val p.1;rw[e2]at r;obtain⟨h1,h2⟩:=hh
    cases hv:valueAt vb p.1 with
    |none=>rw[hv]at r;exact r.elim
    |some y=>
      rw[hv]at r;obtain⟨qk,qv⟩:=q;have e5:p.1=qk:=h1;subst e5;have z:=PySem.W.KeqHits.hit hv (pB I (A:=Pa) (B:=Pa) (Ar:=Ar) d e p.2 v qv y i1 i2 h2 r (by omega) (by omega) d2) (ih fun p hp=>h p (by simp[hp]));rw[eq]at z
      simpa using z
noncomputable def xQ (y:Bool) (ta tb:TE):TE:=fun σ H Q=>ta σ H fun x H1=>tb σ H1 fun z H2=>∃(a b:Addr) (ka kb:List (Key×V)) (Pa:Pl),x=.ref a/\z=.ref b/\Rd H2 a (.dK ka)/\Rd H2 b (.dK kb)/\ka.length=kb.length/\
 (∀p∈ka,∃d e v,bH X.K Pa H2 d p.2/\bR kb p.1=some v/\bH X.K Pa H2 e v/\D.eq d e=true/\d.dep<=40/\e.dep<=100)/\Q (.bl y) H2
theorem R3 {pins:Pnx}{s:Shared}{σ:L2.St}{H:Hp}{a b:Addr}{ka kb:List (Key×V)}{Pa:Pl}(hu:X.A.units + 60<cLine)(I:Inv X pins σ H s)(ha:Rd H a (.dK ka))(hb:Rd H b (.dK kb))(hl:ka.length=kb.length)
  (h:∀p∈ka,∃d e v,bH X.K Pa H d p.2/\bR kb p.1=some v/\bH X.K Pa H e v/\D.eq d e=true/\d.dep<=40/\e.dep<=100):
  (∀{E:Value->Shared->Prop} {Q:Value->Shared->Prop},Q (.bool true) s->wpAny (model X.prog X.w) X.A (compareOp .Eq (.ref a) (.ref b)) Q E s)/\
  (∀{E:Value->Shared->Prop} {Q:Value->Shared->Prop},Q (.bool false) s->wpAny (model X.prog X.w) X.A (compareOp .NotEq (.ref a) (.ref b)) Q E s):=by
 obtain⟨_,sa,va,ra,da⟩:=nG I.hok ha;obtain⟨_,sb,vb,rb,db⟩:=nG I.hok hb;have e:va.length=vb.length:=by rw[<-ra.length, <-rb.length];exact hl
 have hu0:X.A.units<cLine:=by omega
 have hu1:X.A.in1.units + 40<cLine:=by
  have:X.A.in1.units=X.A.units + 1:=rfl;omega
 refine⟨fun {E Q} q=>PySem.W.keq_eq sa sb da db hu0 (fun _=>Kp I hu1 rb ra h) ?_,fun {E Q} q=>PySem.W.keq_ne sa sb da db hu0 (fun _=>Kp I hu1 rb ra h) ?_⟩
 ·rw[e];simpa using q
 ·rw[e];simpa using q
theorem W4 {i o:Expr}{ti to:TE}(hu:X.A.units + 60<cLine)(hi:PE X i ti)(ho:PE X o to):PC X .NotEq i o (xQ (X:=X) false ti to):=by
 intro pins s σ H Q I h;refine aL (hi pins s σ H _ I h) fun u s1 ⟨x,H1,I1,rx,q1⟩=>aL (ho pins s1 σ H1 _ I1 q1) fun v s2 ⟨z,H2,I2,rz,a,b,ka,kb,Pa,ex,ez,ha,hb,hl,hh,q2⟩=>?_;subst ex ez;obtain rfl:u=Value.ref a:=rx;obtain rfl:v=Value.ref b:=rz;exact(R3 hu I2 ha hb hl hh).2 ⟨.bl false,H2,I2,rfl,q2⟩
open Classical in
noncomputable def iG (y:Bool) (f g:E):E:=fun env M=>bnd (f env M) fun d M1=>bnd (g env M1) fun z M2=>match iV M2 d,iV M2 z with
 |some p,some q=>if uJ p.2 q.2 then some (.v (.bl y),M2) else none
 |_,_=>none
theorem R4 {y:Bool}{f g:E}{st:L2.St}{H:Hp}{Q:VK}(w:tE X.K X.mg Wx m (iG y f g) st H Q):xQ (X:=X) y (tE X.K X.mg Wx .val f) (tE X.K X.mg Wx .val g) st H Q:=by
  obtain⟨P0,H0,P,Os,env,M,r,M',k,e,q⟩:=w;unfold iG at e;rcases bT e with⟨d,M1,e1,e⟩ |⟨c,n,e1,rfl⟩
  · refine aN k e1 fun P1 v1 H1 l1 h1 i1=>?_;have k1:=k.next l1 h1
    rcases bT e with⟨z,M2,e2,e⟩ |⟨c,n,e2,rfl⟩
    · refine aN k1 e2 fun P2 v2 H2 l2 h2 i2=>?_;split at e
      · rename_i pa pb ea eb;obtain⟨ja,ka⟩:=pa;obtain⟨jb,kb⟩:=pb;split at e
        · rename_i al;cases e;obtain⟨rfl,ma⟩:=o_ ea;obtain⟨rfl,mb⟩:=o_ eb;obtain⟨jl,rfl⟩:ja<P1.n/\v1=.ref (P1.io ja):=i1;obtain⟨jl2,rfl⟩:jb<P2.n/\v2=.ref (P2.io jb):=i2;obtain⟨va,oa,_,_,eva,_,ena,isa⟩:=h2.cell ja _ ma;obtain⟨vb,ob,_,_,evb,_,enb,isb⟩:=h2.cell jb _ mb;rw[l2.io ja jl]at eva;refine⟨_,_,va,vb,P2,rfl,rfl,.inr ⟨oa,eva⟩,.inr ⟨ob,evb⟩,?_,fun p hp=>?_,q P2 _ H2 (l1.trans l2) h2 (cA.of h2 (show Is _ _ _ (.bl _) _ from rfl))⟩
          · have h1:=congrArg List.length ena;have h2:=congrArg List.length enb;simp only[xaC]at h1 h2;rw[h1,h2];exact al.1
          · obtain⟨d,hd,id⟩:=zcH (kvs:=ka) (vs:=va) ⟨ena,isa⟩ hp;obtain⟨e',ve,q1,q2,q3⟩:=al.2 _ hd;have g:=xZ (k:=p.1) (kvs:=kb) (vs:=vb) ⟨enb,isb⟩;have ve':bf kb p.1=some e':=ve;rw[ve']at g;obtain⟨v,gv,iv⟩:=g;exact⟨d,e',v,Is.w id,gv,Is.w iv,q1,q2,q3⟩
        · cases e
      · cases e
    · exact aN k1 e2 q
  · exact aN k e1 q
theorem zb6 {o i:Expr}{f g:E}(hu:X.A.units + 60<cLine)(hi:SE X Wx .val i f)(ho:SE X Wx .val o g)(hm:behindInMarks .NotEq o=false:=by rfl):ST X Wx (.Compare i [.NotEq] [o] pos) (iG false f g):=
 zY (Yg (W4 hu hi ho) hm) fun _ _ _ w=>R4 (Pq w)
end
end E3
namespace E3
open PySem PySem.Spec PyProof.Rows L2
section
variable {X:Cx}{Wx:XW}{m:Mode}{pos:Pos}
noncomputable def vN (b:Bool):Value->Bool
 |.bool c=>c==b
 |_=>false
theorem JC (b:Bool):∀{bs:List Bool} {its:List Value},Vals (bs.map V.bl) its->its.countP (vN b)=bs.count b
  | [],its,r=>by cases r;rfl
  |c::bs,its,r=>by
    cases r with
    |cons h t=>
      cases h;rw[List.countP_cons,List.count_cons,JC b t];rfl
theorem Qt {bs:List Bool}{its:List Value}(r:Vals (bs.map V.bl) its):∀y∈its,∃c,y=.bool c:=by
  induction bs generalizing its with
  |nil=>cases r;intro y hy;cases hy
  |cons c bs ih=>
    cases r with
    |cons h t=>
      cases h;intro y hy;rcases xas.mp hy with rfl |hy
      · exact⟨c,rfl⟩
      · exact ih t y hy
theorem Vh (hu:X.A.units + 60<cLine):IV X "list.count" (fun x xs H Q=>∃(a:Addr) (bs:List Bool) (b:Bool),x=.ref a/\xs=[.bl b]/\bI X.K H a (bs.map V.bl)/\Q (.int (bs.count b:Nat)) H):=by
 intro pins s σ H x xs v us Q I rx rv h;obtain⟨a,bs,b,rfl,rfl,hq,q⟩:=h;cases rx;obtain⟨u,rfl,ru⟩:=rv.one;cases ru;obtain⟨its,rw',p,hz⟩:=I.list hq;obtain⟨⟨cls,dd,data,sl⟩,ho,hc,n,hd⟩:=id p.isList;simp only at hc hd;subst hc hd;refine call_meets xc5 ⟨_,ho,rfl⟩ PySem.F.entry_list_count (PySem.F.args_list_count_2 _ _) (SeqAt.list_countAt a its.toArray n dd sl (.bool b) (vN b)) ⟨ho,fun y hy=>?_,?_⟩
 ·obtain ⟨c, rfl⟩ := Qt rw' y (by simpa using hy);have := pB I (A := ⟨fun _ => 0, 0, fun _ => False⟩) (B := ⟨fun _ => 0, 0, fun _ => False⟩) (Ar := X.A.in1) (.bl c) (.bl b) (.bl c) (.bl b) (.bool c) (.bool b) rfl rfl rfl rfl (by
   have e1:X.A.in1.units=X.A.units + 1:=rfl;have e2:(D.bl c).dep=0:=rfl;omega) (xbc _) (xbc _)
  exact this
 ·refine⟨.int (bs.count b:Nat),H,I.tok _,?_,q⟩;have e:its.toArray.toList=its:=rfl;rw[e,JC b rw'];exact⟨_,rfl⟩
noncomputable def uh (f g:E):E:=fun env M=>bnd (f env M) fun d M1=>match d with
  | .lst ds => bnd (g env M1) fun y M2 => (match y,m9 ds with
    |.bl b,some bs=>some (.v (.int (bs.count b:Nat)),M2)
    |_,_=>none)
  |_=>none
theorem zaF {o e:Expr}{f g:E}{p:Pos}(hu:X.A.units + 60<cLine)(ho:SE X Wx .val o f)(he:SE X Wx .val e g)(hbase:attributeBase o "count" X.env (eval o X.env)=eval o X.env:=by rfl)
  (hfew:((backTo pos (starEach [e] X.env)).all (fun x=> !x.1) && (backToKw pos (keywordEach [] X.env)).all (fun x=>x.1.isSome) && decide ([e].length + ([]:List Keyword).length + (if ([]:List Keyword).isEmpty then 0 else 1)<30))=true:=by rfl)
  (hline:(p.endLine==pos.line)=true:=by rfl) (hs:starEach [e] X.env=(false,eval e X.env)::starEach [] X.env:=by rfl):
  SE X Wx m (.Call (.Attribute o "count" p) [e] [] pos) (uh f g):=by
 refine cg (Mf xc2 xc5 PySem.F.type_list_count (Vh hu) ho (gj he iK hs) hbase hfew hline hs rfl) ?_;rintro st H Q ⟨P0,H0,P,Os,env,M,r,M',k,e,q⟩;unfold uh at e;rcases bT e with⟨d,M1,e1,e⟩ |⟨c,n,e1,rfl⟩
 ·cases d<;>simp only[reduceCtorEq]at e
  rename_i ds;refine aN k e1 fun P1 v1 H1 l1 h1 i1=>?_;have k1:=k.next l1 h1
  obtain⟨a,vs,rfl,ra,is⟩:=i1;refine⟨.inl ⟨rfl,vs,ra.imp (·.2) id⟩,?_⟩;rcases bT e with⟨y,M2,e2,e⟩ |⟨c,n,e2,rfl⟩
  ·split at e
   ·rename_i b bs eb;cases e;refine aN k1 e2 fun P2 v2 H2 l2 h2 i2=>?_;have ev2:v2=.bl b:=i2;subst ev2;have ra2:=(l2.lt h1).rda ra;have is2:=aD.lt (l2.lt h1) is;obtain rfl:=CT eb is2;exact⟨a,bs,b,rfl,rfl,ra2.imp (·.2) id,q P2 _ H2 (l1.trans l2) h2 (cA.of h2 (show Is _ _ _ (.int _) _ from rfl))⟩
   ·cases e
  ·exact aN k1 e2 q
 ·exact aN k e1 q
end
section
variable {X:Cx}{Wx:XW}{pos:Pos}
noncomputable def wZ (k:Nat) (f g v:E):S:=fun env M=>bQ (v env M) fun d M1=>match d with
  | .tup [a, b] => if k < env.length then bQ (f (env.set k (.val a)) M1) fun d M2 => bQ (g (env.set k (.val a)) M2) fun y M3 => (match setAt M3 d y b with
    |some M4=>some (.nx (env.set k (.val a)),M4)
    |none=>none) else none
  |_=>none
theorem za3 {k:Nat}{x:Str}{o i e:Expr}{f g v:E}{px p pos':Pos}{n:Nat}(hc:X.calm=true)(hN:X.N.Nodup)(hk:X.N[k]? =some x)(hx:Loc X.env.scope x)(ho:SE X Wx .val o f)(hi:SE X Wx .val i g)(he:SE X Wx .val e v)
    (hf:X.fn x=true\/X.env.scope.names.lookup x=some .local:=by first |exact .inl rfl |exact .inr rfl)
    (ha : ∀ v, assign (.Subscript o i pos') X.env v = (do
      let ov <-holding [v] (eval o X.env)
      let iv <-holding [v,ov] (eval i X.env)
      standAt pos'
      holding [v,ov,iv] (setItem ov iv v)
      release [v,ov,iv] []):=by intro _;rfl)
    (hn:(assignEach [.Name x px,.Subscript o i pos'] X.env).length=2:=by rfl) (hst:(assignEach [.Name x px,.Subscript o i pos'] X.env).findIdx? (·.1)=none:=by rfl)
    (hs1:(assignEach [.Name x px,.Subscript o i pos'] X.env).map (·.2)=assign (.Name x px) X.env::(assignEach [.Subscript o i pos'] X.env).map (·.2):=by rfl)
    (hs2:(assignEach [.Subscript o i pos'] X.env).map (·.2)=assign (.Subscript o i pos') X.env::(assignEach [] X.env).map (·.2):=by rfl)
    (hs:swapsWithSole [.Tuple [.Name x px,.Subscript o i pos'] n p] e pos.line X.env=pure false:=by rfl) (hw:swappedStores [.Tuple [.Name x px,.Subscript o i pos'] n p] e X.env=pure none:=by rfl) (h1:(assignEach [.Tuple [.Name x px,.Subscript o i pos'] n p] X.env).map (·.2)=[assign (.Tuple [.Name x px,.Subscript o i pos'] n p) X.env]:=by rfl):
    SS X Wx (.Assign [.Tuple [.Name x px,.Subscript o i pos'] n p] e pos) (wZ k f g v):=by
  refine eO (Gg he (zU (n:=2) hc (wH (wG hN hk hx hf) (wH (Xy ho hi set_list ha) Gb hs2) hs1) hn hst) hs hw h1) ?_;rintro D st H ⟨P0,H0,P,Os,env,M,out,M',kk,e,q⟩;unfold wZ at e;rcases eN e with⟨d,M1,e1,e⟩ |⟨c,n,e1,rfl⟩
  · split at e
    · rename_i a b;split at e
      · rename_i hl;refine aN kk e1 fun P1 v1 H1 l1 h1 i1=>?_;obtain⟨t,vs,rfl,sq,is⟩:=i1;obtain⟨va,r,rfl,ia,is⟩:=is;obtain⟨vb,r',rfl,ib,is⟩:=is;obtain rfl:r'=[]:=is;have k1:=(kk.next l1 h1).asg hl ia
        refine⟨t,[va,vb],rfl,sq,rfl,va,[vb],rfl,vb,[],rfl,?_⟩;rcases eN e with⟨d,M2,e2,e⟩ |⟨c,n,e2,rfl⟩
        · refine aN k1 e2 fun P2 v2 H2 l2 h2 i2=>?_;have k2:=k1.next l2 h2
          rcases eN e with⟨y,M3,e3,e⟩ |⟨c,n,e3,rfl⟩
          · refine aN k2 e3 fun P3 v3 H3 l3 h3 i3=>?_;split at e
            · rename_i M4 ea;cases e;obtain⟨j,i,ds,n,rfl,rfl,em,en,rfl⟩:=zay ea;cases i3;obtain⟨jl,rfl⟩:j<P2.n/\v2=.ref (P2.io j):=i2;obtain⟨vs,ev,is⟩:=h3.cell j _ em;have jl3:j<P3.n:=xah jl l3.n;have eio:P3.io j=P2.io j:=l3.io j jl;have ix:=Is.lt ((l2.lt h1).trans (l3.lt h2)) ib;have lc:Lt P3 H3 P3 (upd H3 (P3.io j) (.lst (vs.set n vb))):=pU (h3.bd j jl3) ev Fv;obtain⟨l4,l4e,h4⟩:=h3.set (c':=.lst (ds.set n b)) (o':=.lst (vs.set n vb)) em ⟨_,bO,aD.set n (aD.lt lc is) (Is.lt lc ix)⟩;rw[eio]at l4 l4e h4 ev;refine⟨_,vs,i,n,rfl,rfl,ev,by rw[is.len];exact en,rfl,?_⟩;exact q _ _ _ _ ((l1.lt kk.hk).trans ((l2.lt h1).trans ((l3.lt h2).trans l4))) ((k2.next l3 h3).next l4e h4)
            · cases e
          · exact aN k2 e3 q
        · exact aN k1 e2 q
      · cases e
    · cases e
  · exact aN kk e1 q
end
end E3
namespace L2
open PySem PySem.Spec PyProof.Rows
theorem Hu:isSubtype (.type "AttributeError") (.type "AttributeError")=pure true:=by rw[isSubtype_type];kernel_rfl
theorem zaq {α:Type}{M:Model}{A:Around}{E:Value->Shared->Prop}{s:Shared}{o:Value}{nm msg:Str}{Q:α->Shared->Prop}(hh:A.handled=none)(hm:msg.length<=sizeLine)
  (hq:∀h' tk e,(∀b u,s.heap.get? b=some u->h'.get? b=some u)->(∃u,h'.get? e=some u/\u.cls=.type "AttributeError")->s.heap.objs.size<=h'.objs.size->E (.ref e) {s with heap:=h',toks:=tk}):
  wpAny M A (raiseAttrError o nm msg:Sem α) Q E s:=by
 obtain⟨h,g,d,t,os⟩:=s;unfold raiseAttrError newExc newTuple;refine xaa (wpAny_mkStr (xaa ?_) hm);refine xaa (xbv ?_ (by size_fits));refine xaa (m:=firstArgMember _ _) (wpAny_of_eq (a:=Value.none) (by rfl) ?_);refine xbv ?_ (by size_fits);have e0:∀x,ownMembersOf (.type "AttributeError") [x]=ownMembersOf (.type "AttributeError") [.none]:=fun x=>rfl;dsimp only;rw[e0];generalize hp1:h.push _=h1;have hsz:h.objs.size<=h1.objs.size:=by rw[<-hp1];simp
 have hk1:∀b u,h.get? b=some u->h1.get? b=some u:=fun b u hb=>by rw[<-hp1];exact xab _ hb
 refine xaa (wpAny_mkText (xaa ?_));unfold noteAttr lacksNameAndObj;dsimp only;have he:=xau h1 (o:={cls:=.type "AttributeError",data:=.fields (#[.ref h.objs.size,.none,.none,.none,.bool false,.none] ++ ownMembersOf (.type "AttributeError") [.none])}) rfl;refine xaa (xaa (xcX (T:="AttributeError") ⟨_,he,rfl⟩ Hu ?_));simp only[Bool.not_true,xbp,xb5];refine xaa (wpAny_load he ?_);refine wpAny_of_eq (a:=true) (by rfl) ?_;rw[xac rfl];refine xaa (wpAny_rule (xaa (xcT (T:="AttributeError") ⟨_,he,rfl⟩ ?_)));dsimp only;unfold layMembers;refine xaa (wpAny_load he ?_);dsimp only;refine wpAny_update he ?_;unfold raiseNew;refine xaa (wpAny_handled ?_);rw[hh];refine xaa (xaj (wpAny_throw ?_));refine hq _ _ _ (fun b u hb=>?_) ⟨_,xbb _ he (xbt (xaM rfl _)),xcM _ _⟩ ?_
 ·have hb1:=hk1 b u hb;rw[xaB _ _ (xb1 (xad hb1))];exact xab _ hb1
 ·simp
  omega
theorem U8:typeLookup (.type "list") "keys"=pure none:=by rw[typeLookup_type,builtinLookup_eq_fast];kernel_rfl
theorem U7:typeLookup (.type "list") "__getattr__"=pure none:=by rw[typeLookup_type,builtinLookup_eq_fast];kernel_rfl
section
variable {prog:Program}{w:World}{A:Around}{E:Value->Shared->Prop}{h:Heap}{g:Array GenState}{d:Drawn}{t:Nat}{os:OsState}{a:Addr}{items:Array Value}{n:Nat}{sl:Array (Option Value)}
def Io (h:Heap)(g:Array GenState)(d:Drawn)(os:OsState)(E:Value->Shared->Prop):Prop:=
 ∀h' tk e,(∀b u,h.get? b=some u->h'.get? b=some u)->(∃u,h'.get? e=some u/\u.cls=.type "AttributeError")->h.objs.size<=h'.objs.size->E (.ref e) ⟨h',g,d,tk,os⟩
theorem Uw {tk:Tok}{Q:Fin->Shared->Prop}(hh:A.handled=none)(hx:h.get? a=some {cls:=.type "list",data:=.seq items n,slots:=sl})(hq:Io h g d os E):
  wpAny (model prog w) A (Builtin.«object.__getattribute__» ⟨[.ref a,.str "keys" tk],[]⟩) Q E ⟨h,g,d,t,os⟩:=by
 have hT:(⟨h,g,d,t,os⟩:Shared).TypeIs (.ref a) "list":=⟨_,hx,rfl⟩;have f4:=U8
 repeat (any_goals (first |assumption |wp_step))
 exact zaq hh (by x_go) hq
theorem Uv {tk:Tok}{R:Result->Shared->Prop}(hh:A.handled=none)(hx:h.get? a=some {cls:=.type "list",data:=.seq items n,slots:=sl})(hq:Io h g d os fun e s=>R (.error e) s):
  codeAny (model prog w) A (.call (.builtin "list.__getattribute__") ⟨[.ref a,.str "keys" tk],[]⟩) R ⟨h,g,d,t,os⟩:=
 xbQ xbA.plain F.entry_list_ga (xbA.check _ _ _ _ _ _ _ _ (show(⟨h,g,d,t,os⟩:Shared).TypeIs (.ref a) "list" from⟨_,hx,rfl⟩) (F.args_list_getattribute_2 _ _) (Uw hh hx hq))
theorem Vl {Q:Option Value->Shared->Prop}(hh:A.handled=none)(hx:h.get? a=some {cls:=.type "list",data:=.seq items n,slots:=sl})
  (hq:∀h' tk,(∀b u,h.get? b=some u->h'.get? b=some u)->h.objs.size<=h'.objs.size->Q none ⟨h',g,d,tk,os⟩):wpAny (model prog w) A (getAttr? (.ref a) "keys") Q E ⟨h,g,d,t,os⟩:=by
 have hT:(⟨h,g,d,t,os⟩:Shared).TypeIs (.ref a) "list":=⟨_,hx,rfl⟩;have f2:=xbA.lookup;have f3:=xbA.bind (.ref a);unfold getAttr? getAttrBy? getAttrBy getAttrByItsOwn callGetattribute boundAndCalled
 repeat (any_goals (first |assumption |wp_step))
 refine Uv hh hx fun h' tk e hk hu hs=>?_;obtain⟨u,hu,hc⟩:=hu;dsimp only;unfold getattributeRaised;refine xaa (xcX (T:="AttributeError") ⟨u,hu,hc⟩ Hu ?_);rw[xac rfl];unfold hookBehind;rw[xag (by decide)];refine xaa (wpAny_of_eq U7 ?_);unfold hookOrError attributeErrorLeaves;dsimp only;rw[xac (show(!false)=true from rfl)];refine xaa (wpAny_throw ?_);refine xaa (xcX (T:="AttributeError") ⟨u,hu,hc⟩ Hu ?_);rw[xac rfl];exact xaj (hq h' tk hk hs)
end
theorem J5:entryFor table "dict.update.loop"=some Builtin.«dict.update.loop» :=entryFor_of_fast (by kernel_rfl)
theorem zX:plainId "dict.update.loop"=true:=by x_go
section
variable {prog:Program}{w:World}{A:Around}{K:Type}[DecidableEq K]{knd:KeyKind prog w K}{R:Result->Shared->Prop}{d it l:Addr}{items:Array Value}{n:Nat}{sl:Array (Option Value)}
def BK (knd:KeyKind prog w K)(h:Heap)(x:Value)(kv:K×Value):Prop:=∃t key,x=.ref t/\IsTup h t #[key,kv.2]/\knd.is kv.1 key=true
theorem RN (hh:A.handled=none):∀(m i:Nat) (more:List (K×Value)) (kvs:List (K×Value)) (s:Shared),m + i=items.size->d≠it->d≠l->it≠l->more.length=m->kvs.length + m<=sizeLine->
    s.heap.get? l=some {cls:=.type "list",data:=.seq items n,slots:=sl}->s.heap.IsListIter it l i->s.heap.DictOf knd d kvs->
    (∀j kv,more[j]? =some kv->∃x,items[i + j]? =some x/\BK knd s.heap x kv/\x≠ .ref d/\x≠ .ref it)->
    (∀h' tk,h'.DictOf knd d (merged kvs more)->(∀b u,b≠d->b≠it->s.heap.get? b=some u->h'.get? b=some u)->R (.ok (.ret .none)) {s with heap:=h',toks:=tk})->
    codeAny (model prog w) A (.builtin "dict.update.loop" ⟨[.ref d,.ref it,rawInt i,.none],[]⟩) R s:=by
  intro m
  induction m with
  |zero=>
    intro i more kvs s hm hdi hdl hil hml hsz hl hit hd hp hR;obtain rfl:more=[]:=List.length_eq_zero_iff.mp hml;refine codeAny_builtin J5 ?_;rw[Around.under_plainId zX _];show wpAny _ A.in1 (pyNext (.ref it) >>=_) _ _ s;refine xaa (xcn hh hit ⟨_,hl,rfl,n,rfl⟩ (by simp;omega) fun h' he=>?_);show wpAny _ _ (Builtin.Dict.addKeywords d [] >>=_) _ _ _;refine xaa (xaj (xaj ?_));exact hR h' s.toks (hd.extBut he hdi) fun b u _ hb hu=>he b u hb hu
  |succ m ih=>
    intro i more kvs s hm hdi hdl hil hml hsz hl hit hd hp hR;obtain⟨kv,more,rfl⟩:∃kv r,more=kv::r:=by cases more with
      |nil=>cases hml
      |cons kv r=>exact⟨kv,r,rfl⟩
    obtain⟨x,hx,⟨tt,key,rfl,ht,hk⟩,hxd,hxi⟩:=hp 0 kv rfl;refine codeAny_builtin J5 ?_;rw[Around.under_plainId zX _];show wpAny _ A.in1 (pyNext (.ref it) >>=_) _ _ s;refine xaa (xce hit ⟨_,hl,rfl,n,rfl⟩ (by simpa using hx) fun h1 hit1 hs1=>?_);dsimp only;refine xaa (xaR ?_);refine xaa ?_;refine wpAny_tryCatch ?_;unfold Builtin.Dict.pairItems;obtain⟨ot,hot,hct,nt,hdt⟩:=ht;have hne:tt≠it:=fun e=>hxi (by rw[e]);have hned:tt≠d:=fun e=>hxd (by rw[e]);have hot1:h1.get? tt=some ot:=(hs1.2 tt hne).trans hot;refine xaa (xcT (s:={s with heap:=h1}) ⟨ot,hot1,hct⟩ ?_);rw[xac (by decide)];refine xaa (wpAny_seqItems hot1 hdt (xaj ?_));show wpAny _ _ (holding [key,kv.2] (dictSet d key kv.2)) _ _ _;have hst:=stored_length_le kvs kv.1 kv.2;refine xaR (wpAny_dictSet_pairs (s:={s with heap:=h1}) hk (hd.sameBut hs1 hdi) (fun h2 hd2 hs2=>?_) (by omega));show wpAny _ _ (again (Code.builtin "dict.update.loop" {pos:=[Value.ref d,Value.ref it,rawInt ((i:Int) + 1),Value.none]})) _ _ _;have hk2:∀b u,b≠d->b≠it->s.heap.get? b=some u->h2.get? b=some u:=fun b u b1 b2 hu=>(hs2.2 b b1).trans ((hs1.2 b b2).trans hu);rw[show((i:Int) + 1)=((i + 1:Nat):Int) by omega];refine xaj ⟨plainId_quiet zX _,ih (i + 1) more (stored kvs kv.1 kv.2) {s with heap:=h2,toks:=s.toks + 1} (by omega) hdi hdl hil (by simpa using hml) (by omega) (hk2 l _ hdl.symm hil.symm hl) ?_ hd2 (fun j kv' hj=>?_) (fun h' tk hd' hb=>hR h' tk hd' fun b u b1 b2 hu=>hb b u b1 b2 (hk2 b u b1 b2 hu))⟩
    · obtain⟨oi,hoi,r⟩:=hit1;exact⟨oi,(hs2.2 it hdi.symm).trans hoi,r⟩
    · obtain⟨x,hx',⟨t',k',rfl,⟨o',ho',q'⟩,hk'⟩,a1,a2⟩:=hp (j + 1) kv' hj;refine⟨_,by rw[<-hx'];congr 1;omega,⟨t',k',rfl,⟨o',hk2 t' o' (fun e=>a1 (by rw[e])) (fun e=>a2 (by rw[e])) ho',q'⟩,hk'⟩,a1,a2⟩
end
section
variable {prog:Program}{w:World}{K:Type}[DecidableEq K]{knd:KeyKind prog w K}{A:Around}{E:Value->Shared->Prop}{s:Shared}{l:Addr}{items:Array Value}{n:Nat}{sl:Array (Option Value)}
theorem QV {more:List (K×Value)}{Q:Value->Shared->Prop}(hh:A.handled=none)(hl:s.heap.get? l=some {cls:=.type "list",data:=.seq items n,slots:=sl})(hn:items.size=more.length)(hsz:more.length<=sizeLine)
  (hp:∀(j:Nat) kv,more[j]? =some kv->∃x,items[j]? =some x/\BK knd s.heap x kv)
  (h:∀h' tk a,s.heap.objs.size<=a->h'.DictOf knd a (merged [] more)->(∀b u,s.heap.get? b=some u->h'.get? b=some u)->Q (.ref a) {s with heap:=h',toks:=tk}):
  wpAny (model prog w) A (call (.type "dict") [.ref l]) Q E s:=by
 refine callType_codes (Q₁:=fun obj s₁=>obj=.ref s.heap.objs.size/\s₁={s with heap:=s.heap.push {cls:=.type "dict",data:=.dict #[]}}) F.kt_called_dict (F.kt_typeCall_dict_1 _) F.entry_dict_init (kt_code_dict_new _ ⟨rfl,rfl⟩) ?_;rintro obj s₁ ⟨rfl,rfl⟩;have hnew:(s.heap.push {cls:=.type "dict",data:=.dict #[]}).DictOf knd s.heap.objs.size []:=Heap.DictOf.new s.heap;have hl1:(s.heap.push {cls:=.type "dict",data:=.dict #[]}).get? l=some {cls:=.type "list",data:=.seq items n,slots:=sl}:=xab _ hl;have hdl:s.heap.objs.size≠l:=fun e=>absurd (xad hl) (by rw[e];exact xa0 _);refine⟨hnew.typeIs,F.args_dict_init_2 _ _,?_⟩;unfold Builtin.«dict.__init__»;refine xaa ?_;unfold Builtin.Dict.selfAndRest;refine xaa (wpAny_notOrdered_dict hnew.typeIs ?_);show wpAny _ _ (pure (s.heap.objs.size,[Value.ref l])) _ _ _;refine xaj ?_;show wpAny _ _ (Builtin.Dict.updateFrom "dict.__init__" s.heap.objs.size (.ref l) [] .none) _ _ _;unfold Builtin.Dict.updateFrom;refine xaa (xcT (T:="list") ⟨_,hl1,rfl⟩ ?_);rw[xac (by decide)];refine xaa (Vl (A:=A.in1.in1) hh hl1 fun h2 tk hk hs=>?_);rw[xac (show Option.isNone (none:Option Value)=true from rfl)];refine xaa (wpAny_rule ?_);have hl2:=hk _ _ hl1;have hd2:h2.DictOf knd s.heap.objs.size []:=hnew.extBut (b:=l) (fun a o _ q=>hk a o q) hdl;have hdlt:s.heap.objs.size<h2.objs.size:=by
  have:(s.heap.push {cls:=.type "dict",data:=.dict #[]}).objs.size=s.heap.objs.size + 1:=by simp
  omega
 refine xaa (xcb (s:=⟨h2,_,_,tk,_⟩) ⟨_,hl2,rfl,n,rfl⟩ ?_);dsimp only;have hit:(h2.push {cls:=.type "list_iterator",data:=.fields #[.ref l,.int 0 0]}).IsListIter h2.objs.size l 0:=⟨_,xau _ rfl,rfl,rfl⟩;have hil:h2.objs.size≠l:=fun e=>absurd (xad hl2) (by rw[e];exact xa0 _);have hk3:∀b u,s.heap.get? b=some u->(h2.push {cls:=.type "list_iterator",data:=.fields #[.ref l,.int 0 0]}).get? b=some u:=fun b u hb=>xab _ (hk b u (xab _ hb));refine xaa (xaj (xaj ⟨plainId_quiet zX _,?_⟩));refine RN (A:=A.in1) (knd:=knd) (n:=n) hh more.length 0 more [] _ (by omega) (xap hdlt) hdl hil rfl (by simpa using hsz) (xab _ hl2) hit ?_ (fun j kv hj=>?_) fun h' tk' hd' hb=>?_
 ·exact hd2.extBut (b:=l) (fun a o _ q=>xab _ q) hdl
 ·obtain⟨x,hx,t,key,rfl,⟨o,ho,r⟩,hkk⟩:=hp j kv hj;have ol:=xad ho;refine⟨_,by rw[Nat.zero_add];exact hx,⟨t,key,rfl,⟨o,hk3 t o ho,r⟩,hkk⟩,fun e=>?_,fun e=>?_⟩
  ·cases e;exact absurd ol (xa0 _)
  ·cases e;exact absurd (xdt ol hdlt) (xa0 _)
 ·refine⟨rfl,h h' tk' _ (xaf _) hd' fun b u hu=>?_⟩;have bl:=xad hu;exact hb b u (xap bl) (xap (xdt bl hdlt)) (hk3 b u hu)
end
section
variable {X:Cx}{pins:Pnx}{σ:St}{H:Hp}{s:Shared}
theorem pairs_at (I:Inv X pins σ H s):∀{ys:List V} {kvs:List (Key×V)} {its:List Value},Paired (fun(y:V) (kv:Key×V)=>∃t,y=.ref t/\dJ X.K H t [kV kv.1,kv.2]) ys kvs->Vals ys its->
    ∃more:List (Key×Value),KV kvs more/\its.length=more.length/\∀(j:Nat) kv,more[j]? =some kv->∃x,its[j]? =some x/\BK (dZ X.prog X.w) s.heap x kv
  |_,_,_,.nil,.nil=>⟨[],.nil,rfl,fun j kv h=>by simp at h⟩
  |_,_,_,.cons ⟨t,e,sq⟩ r,.cons rv rs=>by
    obtain⟨more,k1,k2,k3⟩:=pairs_at I r rs;subst e;cases rv;obtain⟨its',r',pl,_⟩:=I.tuple sq;obtain⟨u,w',rfl,ru,rw'⟩:=vals2 r';refine⟨(_,w')::more,.cons ⟨rfl,rw'⟩ k1,by simp[k2],fun j kv h=>?_⟩
    cases j with
    |zero=>cases h;exact⟨_,rfl,t,u,rfl,pl,tQ ru⟩
    |succ j=>exact k3 j kv h
theorem QF (hc:X.calm=true):dU X (.type "dict") (fun xs H Q=>∃p ys kvs,xs=[.ref p]/\bI X.K H p ys/\Paired (fun(y:V) (kv:Key×V)=>∃t,y=.ref t/\dJ X.K H t [kV kv.1,kv.2]) ys kvs/\(kvs.map (·.1)).Nodup/\∀q,H q=none->Q (.ref q) (upd H q (.dK kvs))):=by
 intro pins s σ H xs us Q I r h;obtain⟨p,ys,kvs,rfl,sq,pr,nd,q⟩:=h;obtain⟨u,rfl,ru⟩:=vals1 r;cases ru;obtain⟨its,rv,pl,hz⟩:=I.list sq;obtain⟨more,k1,k2,k3⟩:=pairs_at I pr rv;obtain⟨⟨cl,dc,dt,sl⟩,n,ho,h1,h2,h3⟩:=pl;dsimp only at h1 h2 h3;subst h1 h2 h3;have hn:(more.map (·.1)).Nodup:=by rw[<-k1.keys];exact nd
 have hml:more.length<=sizeLine:=by have:=rv.length;omega
 refine QV (knd:=dZ X.prog X.w) (I.ok.hd hc) ho (by simpa using k2) hml (fun j kv hj=>by simpa using k3 j kv hj) fun h' tk a ha hd hk=>?_;rw[merged_nil_of_nodup more hn]at hd;have hb:(a==sysModules)=false:=xba.mpr (xaP (xap (xah I.big ha)));exact⟨.ref a,_,I.laid (a:=a) (o:=.dK kvs) (t':=tk) hk ha (zf (by rw[k1.length];exact hml) hb k1 hd),rfl,q a (I.hok.fresh ha)⟩
end
end L2
namespace E3
open PySem PySem.Spec PyProof.Rows L2
section
variable {X:Cx}{Wx:XW}{m:Mode}{pos:Pos}
noncomputable def pairD:D->Option (Key×D)
 |.tup [k,v]=>(toKey k).map fun key=>(key,v)
 |_=>none
noncomputable def rA:List D->Option (List (Key×D))
  | []=>some []
  |d::ds=>match pairD d,rA ds with
    |some p,some ps=>some (p::ps)
    |_,_=>none
theorem zaX {K:Fgx}{P:Pl}{H:Hp}{d:D}{k:Key}{v:V}(h:toKey d=some k)(i:Is K P H d v):v=kV k:=by
 cases d<;>simp only[toKey,reduceCtorEq,xdG]at h<;>subst h<;>exact i
theorem LR {K:Fgx}{P:Pl}{H:Hp}:∀{ds:List D} {vs:List V} {kvs:List (Key×D)},rA ds=some kvs->aD K P H ds vs->
    ∃ws:List (Key×V),Paired (fun(y:V) (kv:Key×V)=>∃t,y=.ref t/\dJ K H t [kV kv.1,kv.2]) vs ws/\ws.map (·.1)=kvs.map (·.1)/\aD K P H (kvs.map (·.2)) (ws.map (·.2))
  | [],vs,kvs,h,i=>by
    cases h;obtain rfl:vs=[]:=i;exact⟨[],.nil,rfl,rfl⟩
  |d::ds,vs,kvs,h,i=>by
    obtain⟨v,r,rfl,i1,i2⟩:=i;unfold rA at h;split at h
    · rename_i p ps e1 e2;cases h;obtain⟨ws,w1,w2,w3⟩:=LR e2 i2;unfold pairD at e1;split at e1
      · rename_i k x;obtain⟨key,ek,rfl⟩:=xae.mp e1;obtain⟨a,us,rfl,sq,is⟩:=i1;obtain⟨u1,r1,rfl,j1,us2,r2,rfl,j2,rfl⟩:=is;have:=zaX ek j1;subst this;exact⟨(key,us2)::ws,.cons ⟨a,rfl,sq⟩ w1,by simp[w2],us2,_,rfl,j2,w3⟩
      · cases e1
    · cases h
noncomputable def pA (M:Mm):D->O
  | .lst ds => (match rA ds with
    |some kvs=>if (kvs.map (·.1)).Nodup then some (.v (.ref M.length),M ++ [.dct kvs]) else none
    |none=>none)
  |_=>none
def mK (f:E):E:=fun env M=>bnd (f env M) fun d M1=>pA M1 (vw M1 d)
theorem zbI {e:Expr}{f:E}{p:Pos}(hc:X.calm=true)(hg:Gl X "dict")(hm:X.mg "dict"=none)(he:SE X Wx .bor e f)(hs:starEach [e] X.env=(false,eval e X.env)::starEach [] X.env:=by rfl):SE X Wx m (.Call (.Name "dict" p) [e] [] pos) (mK f):=by
 refine cg (zT (QF hc) hg hm boot_dict (gj he iK hs) (by x_go) (by x_go) hs rfl) ?_;rintro st H Q ⟨P0,H0,P,Os,env,M,r,M',k,ee,q⟩;unfold mK at ee;rcases bT ee with⟨d,N1,e1,ea⟩ |⟨c,n,e1,rfl⟩
 ·refine aN k e1 fun P1 v1 H1 l1 h1 i1=>?_;have iw:=cH.vw h1 i1;unfold pA at ea;split at ea
  ·rename_i ds ev;rw[ev]at iw;split at ea
   ·rename_i kvs ek;split at ea
    ·rename_i nd;cases ea;obtain⟨a,vs,rfl,sq,is⟩:=iw;obtain⟨ws,w1,w2,w3⟩:=LR ek is;refine⟨a,vs,ws,rfl,sq,w1,by rw[w2];exact nd,fun p hp=>?_⟩;obtain⟨l2,h2,nc⟩:=yO (o:=.dK ws) h1 hp;obtain⟨P3,l3,h3,i3⟩:=yV (o':=.dK ws) (c:=.dct kvs) (l1.trans l2) h2 (l1.sure p hp) (.inr rfl) nc bO tY fun P' l'=>⟨ws,bO,w2,aD.lt ((l2.lt h1).trans l') w3⟩;rw[Ie]at l3 h3 i3;exact q P3 _ _ l3 h3 (cA.of h3 i3)
    ·cases ea
   ·cases ea
  ·cases ea
 ·exact aN k e1 q
end
end E3
namespace L2
open PySem PySem.Spec PyProof.Rows
section
variable {prog:Program}{w:World}{A:Around}{E:Value->Shared->Prop}{s:Shared}
theorem J3 {it t:Addr}{items:Array Value}(hne:t≠it):∀(n i:Nat) (s:Shared) (Q:List Value->Shared->Prop),s.heap.IsListIter it t i->s.heap.IsList t items->i + n<=items.size->
    (∀h',h'.IsListIter it t (i + n)->Heap.SameBut it s.heap h'->Q ((items.toList.drop i).take n) {s with heap:=h'})->wpAny (model prog w) A (draw (.ref it) n) Q E s
  |0,i,s,Q,hit,_,_,hQ=>by
    show wpAny _ _ (pure []) Q E s;exact xaj (by simpa using hQ s.heap hit (Heap.SameBut.refl ..))
  |n + 1,i,s,Q,hit,ht,hle,hQ=>by
    have hlt:i<items.size:=by omega
    show wpAny _ _ (pyNext (.ref it) >>=_) Q E s;refine xaa (xce hit ht (x:=items[i]) (by simp[hlt]) fun h₁ hit₁ hs₁=>?_);refine xaa (xaR (J3 hne n (i + 1) _ _ hit₁ (ht.extBut hs₁.extBut hne) (by omega) fun h₂ hit₂ hs₂=>xaj ?_));have hd:items.toList.drop i=items[i]::items.toList.drop (i + 1):=by simp[xaY,hlt]
    have:=hQ h₂ (by rw[show i + (n + 1)=i + 1 + n by omega];exact hit₂) (hs₁.trans hs₂);rw[hd,List.take_succ_cons]at this;exact this
theorem zam {t:Addr}{items:Array Value}{targets:List (Bool×(Value->Sem Unit))}{Q:Unit->Shared->Prop}(hh:A.handled=none)(ht:s.heap.IsList t items)
  (hn:targets.length=items.size) (hstar:targets.findIdx? (·.1)=none)
  (h:∀h',Heap.ExtBut s.heap.objs.size s.heap h'->wpAny (model prog w) A (assignInOrder (targets.map (·.2)) items.toList) Q E {s with heap:=h'}):
  wpAny (model prog w) A (unpack (.ref t) targets) Q E s:=by
 unfold unpack;rw[hn,hstar];refine xaa (xaR ?_);have hlt:t≠s.heap.objs.size:=by obtain⟨o,ho,_⟩:=ht;exact xap (xad ho)
 unfold unpackItems;refine xaa ?_
 ·unfold notIterableAtAll;refine xaa (wpAny_specialOf ht.typeIs slot_list_iter.lookup ?_);refine xaj ?_;simp only[xbp,xb5];refine xaa (xaR (xcb ht ?_));refine xaa (xaR (J3 hlt items.size 0 _ _ ⟨_,xau _ rfl,rfl,rfl⟩ (ht.push _) (by omega) fun h₁ hit₁ hs₁=>?_));have hall:List.take items.size (List.drop 0 items.toList)=items.toList:=by
   rw[xbK];exact xch (by simp)
  rw[hall];rw[xag (by simp)];have ht₁:h₁.IsList t items:=(ht.push _).extBut hs₁.extBut hlt;refine xaa (xaR (xcn hh hit₁ ht₁ (by simp) fun h₂ he₂=>?_));simp only[Option.isSome_none,xbp,xb5];refine xaj (h h₂ fun b o hb e=>he₂ b o hb (hs₁.extBut b o hb (xab _ e)))
end
section
variable {X:Cx}{pos:Pos}
noncomputable def Ef (K:Fgx) (n:Nat) (t:oU):TG:=fun v σ H Q=>∃a xs,v=.ref a/\bI K H a xs/\xs.length=n/\t xs σ H Q
theorem Xx {es:List Expr}{k:Nat}{t:oU}{n:Nat}(hc:X.calm=true)(h:sO X es t)
  (hn:(assignEach es X.env).length=n:=by rfl) (hst:(assignEach es X.env).findIdx? (·.1)=none:=by rfl):PG X (.Tuple es k pos) (Ef X.K n t):=by
 intro pins s σ H v u Q I r hw;obtain⟨a,xs,e1,hq,hl,hw⟩:=hw;subst e1;cases r;obtain⟨its,rv,ht,hz⟩:=I.list hq;rw[assign_Tuple];refine xaa (xbS (zam (I.ok.hd hc) ht.isList (by simp[hn, <-hl,rv.length]) hst fun h' hx=>?_));have I1:Inv X pins σ H {s with heap:=h'}:=I.kept (t':=s.toks) fun b o e=>hx b o (xap (xad e)) e;exact h pins _ σ H xs _ Q I1 (by simpa using rv) hw
end
end L2
namespace E3
open PySem PySem.Spec PyProof.Rows L2
section
variable {X:Cx}{Wx:XW}{m:Mode}{pos:Pos}
noncomputable def m5 (is:List Nat) (env:Env) (M:Mm):D->OS
 |.lst ds=>if ds.length=is.length then(dw is ds env).map fun e=>(.nx e,M) else none
 |_=>none
noncomputable def z_ (is:List Nat) (f:E):S:=fun env M=>bQ (f env M) fun d M1=>m5 is env M1 d
theorem zbj {ts:List Expr}{is:List Nat}{e:Expr}{f:E}{n:Nat}{p:Pos}(hc:X.calm=true)(hg:SG X ts is)(he:SE X Wx .val e f)(hn:(assignEach ts X.env).length=is.length:=by rfl)(hst:(assignEach ts X.env).findIdx? (·.1)=none:=by rfl)
  (hs:swapsWithSole [.Tuple ts n p] e pos.line X.env=pure false:=by rfl) (hw:swappedStores [.Tuple ts n p] e X.env=pure none:=by rfl) (h1:(assignEach [.Tuple ts n p] X.env).map (·.2)=[assign (.Tuple ts n p) X.env]:=by rfl):
  SS X Wx (.Assign [.Tuple ts n p] e pos) (z_ is f):=by
 obtain⟨t,hp,ht⟩:=hg;refine eO (Gg he (Xx (n:=is.length) hc hp hn hst) hs hw h1) ?_;rintro D st H ⟨P0,H0,P,Os,env,M,out,M',k,e,q⟩;unfold z_ at e;rcases eN e with⟨d,M1,e1,e⟩ |⟨c,n,e1,rfl⟩
 ·unfold m5 at e;split at e
  ·rename_i ds;split at e
   ·rename_i hl;rw[xae]at e;obtain⟨env',ee,e⟩:=e;cases e;refine aN k e1 fun P1 v1 H1 l1 h1 i1=>?_;have ib:cH X.K P1 H1 (.lst ds) v1:=(cA.of h1 i1:cA X.K P1 H1 .bor (.lst ds) v1);obtain⟨a,vs,rfl,sq,is'⟩:bH X.K P1 H1 (.lst ds) v1:=cH.vw h1 ib;exact⟨a,vs,rfl,sq,by rw[is'.len];exact hl,ht _ _ _ _ _ _ _ _ _ _ _ _ (k.next l1 h1) is' ee fun Os' st' k'=>q _ _ _ _ (l1.lt k.hk) k'⟩
   ·cases e
  ·cases e
 ·exact aN k e1 q
variable {env:Env}{M:Mm}{f:E}{ds:List D}{d:D}{is:List Nat}
theorem Zo:z_ is f env M=cR (fun d M1=>m5 is env M1 d) (f env M):=rfl
theorem zbN:m5 is env M (.lst ds)=if ds.length=is.length then(dw is ds env).map fun e=>(.nx e,M) else none:=rfl
end
section
variable {X:Cx}{Wx:XW}{m:Mode}{pos:Pos}
noncomputable def lO (j:Nat) (e:E) (env:Env):Nat->Nat->List D->Mm->Option (List D×Mm)
  |0,_,_,_=>none
  |n + 1,t,acc,M=>match M[j]? with
    | some (.lst ds) => (match ds[t]? with
      |none=>some (acc,M)
      | some d => (match e (.val d::env) M with
        |some (.v y,M2)=>if acc.length + 1<sizeLine then lO j e env n (t + 1) (acc ++ [y]) M2 else none
        |_=>none))
    |_=>none
noncomputable def nU (n:Nat) (cs:List (Str×Nat)) (f e:E):E:=fun env M=>bnd (f env M) fun d M1=>match d with
  | .ref j => (match lO j e (bY cs env) n 0 [] M1 with
    |some (ys,M2)=>some (.v (.lst ys),M2)
    |none=>none)
  |_=>none
theorem Rj {n:Nat}{cs:List (Str×Nat)}{f e:E}:∀env M r M',nU n cs f e env M=some (.v r,M')->∃ds,r=.lst ds:=fun env M r M' h=>by
 unfold nU at h;rcases bT h with⟨d,M1,e1,h⟩ |⟨c,n,e1,h⟩
 ·split at h
  ·split at h
   ·cases h;exact⟨_,rfl⟩
   ·cases h
  ·cases h
 ·cases h
theorem JF {K:Fgx}{mg:Mgx}{n:Nat}{cs:List (Str×Nat)}{f e:E}{P0 P:Pl}{H0 H:Hp}{Os:List (Option Addr)}{M M':Mm}{st:L2.St}{env:Env}{r:Res}{R:Addr->Hp->Prop}(nd:(cs.map (·.2)).Nodup)
    (k:Ok K mg P0 H0 P Os H M st env) (ee:nU n cs f e env M=some (r,M')) (w:NR K mg Wx P0 H0 P H M' R r):xP (Kr K (tE K mg Wx .val f)) iI (tE K mg W0 .val e) cs st H R:=by
  unfold nU at ee;rcases bT ee with⟨d,M1,e1,ee⟩ |⟨c,n,e1,rfl⟩
  · split at ee
    · rename_i j;split at ee
      · rename_i ys M2 ec;cases ee;obtain⟨ds',e',w⟩:=w;cases e';refine⟨P0,H0,P,Os,env,M,_,_,k,e1,fun P1 v1 H1 l1 h1 i1=>?_⟩;obtain⟨jl,rfl⟩:j<P1.n/\v1=.ref (P1.io j):=i1;have hl:∃vs,bI K H1 (P1.io j) vs:=by
          cases n with
          |zero=>cases ec
          |succ n=>
            simp only[lO]at ec;split at ec
            · rename_i ds em;obtain⟨vs,ev,is⟩:=h1.cell j _ em;exact⟨vs,.inl (.inl ev)⟩
            · cases ec
        refine ⟨P1.io j, rfl, hl, fun D hD => ?_⟩;obtain ⟨l2, h2, nc⟩ := uX (vs := []) h1 hD;refine ⟨fun i m vs H2=>∃P2 M3 acc,LtE P1 H1 P2 H2/\Hk K mg P2 H2 M3/\P2.bd D/\(∀k,k<P2.n->P2.io k≠D)/\H2 D=some (.lst vs)/\aD K P2 H2 acc vs/\acc.length<sizeLine/\lO j e (bY cs env) m i acc M3=some (ys,M'),
          ⟨n,P1.bar D,M1,[],l2,h2,.inr rfl,nc,bO,rfl,by x_go,ec⟩,?_⟩
        rintro i m vs H2 ⟨P2,M3,acc,l3,h3,bD,nD,eD,is,hz,ec⟩;refine⟨eD,?_⟩
        cases m with
        |zero=>cases ec
        |succ m=>
          simp only[lO]at ec;split at ec
          · rename_i ds em;obtain⟨us,ev,iu⟩:=h3.cell j _ em;rw[l3.io j jl]at ev;have sq:bI K H2 (P1.io j) us:=.inl (.inl ev);split at ec
            · rename_i et;cases ec;exact .inl ⟨⟨us,sq,by rw[iu.len];exact List.getElem?_eq_none_iff.mp et⟩,w P2 D vs H2 (l1.trans l3) h3 (l1.sure D hD) bD nD eD is⟩
            · rename_i d et;obtain⟨v,evt,iv⟩:=iu.get et;split at ec
              · rename_i y' M5 ey;split at ec
                · rename_i hz';refine .inr ⟨⟨us,v,sq,evt⟩,by rw[is.len];exact hz,fun vs' H'=>∃P2 M3 acc,LtE P1 H1 P2 H'/\Hk K mg P2 H' M3/\P2.bd D/\(∀k,k<P2.n->P2.io k≠D)/\H' D=some (.lst vs')/\aD K P2 H' acc vs'/\acc.length<sizeLine/\lO j e (bY cs env) m (i + 1) acc M3=some (ys,M'),
                    fun vs' H' z=>⟨m,xbO _,z⟩,fun x' H' y=>?_⟩
                  obtain⟨rfl,hy⟩:=y;have ex':v=x':=xar (evt.symm.trans (hy us sq));subst ex';have kk:=((k.next l1 h1).next l3 h3).cap (cs:=cs) nd iv
                  unfold iI;dsimp only;rw[xac rfl];refine aN kk ey fun P5 v5 H5 l5 h5 i5=>?_;have eD5:H5 D=some (.lst vs):=l5.keep D _ eD (.inr nD);have nD5:∀k,k<P5.n->P5.io k≠D:=l5.nc eD nD;obtain⟨g1,g2,g3⟩:=Ej (vs':=vs ++ [v5]) (l3.trans l5) h5 hD (l5.bm D bD) nD5 eD5;exact⟨eD5,P5,M5,acc ++ [y'],g2,g3,l5.bm D bD,nD5,bO,aD.append (aD.lt ((l5.lt h3).trans g1) is) (aD.one (Is.lt g1 i5)),by rw[xax];exact hz',ec⟩
                · cases ec
              · cases ec
          · cases ec
      · cases ee
    · cases ee
  · exact⟨P0,H0,P,Os,env,M,_,_,k,e1,w⟩
theorem zaU (n:Nat)(x:Str)(cs:List (Str×Nat)){px py spos:Pos}{y:Str}{i:Nat}{iter elt:Expr}{scope:Scope}{f e:E}(hN:X.N.Nodup)(hk:X.N[i]? =some y)(hy:Loc X.env.scope y)(hc:X.calm=true)(nd:(cs.map (·.2)).Nodup)(hi:SE X Wx .val iter f)
  (he:∀(cl:List (Str×Addr)) (C:Addr) (s₀:Shared) (H₀:Hp) (ex:List Addr) (pn:Pnx),SE (bU X (x::cs.map (·.1)) scope cl C s₀ H₀ ex pn) W0 .val elt e)
  (ok:oY X.N X.env.scope x cs scope=true:=by kernel_rfl) (hs:∀x,foldedSetIterable iter X.env x=pure x:=by intro _;rfl)
  (hsw:swapsWith (.ListComp elt [⟨.Name x px,iter,[],0⟩] scope pos) (some (.Name y py)) spos.line X.env=pure true:=by rfl)
  (hf:X.fn y=true\/X.env.scope.names.lookup y=some .local:=by first |exact .inl rfl |exact .inr rfl):
  SS X Wx (.Assign [.Name y py] (.ListComp elt [⟨.Name x px,iter,[],0⟩] scope pos) spos) (aM i (nU n cs f e)):=by
 refine eO (Mq (tq:=iI) (te:=tE X.K X.mg W0 .val e) x cs hN hk hy hc (Mh hi) (fun _ _ _ _ _ _=>Gd) he ok hs hsw hf) ?_;rintro D st H ⟨P0,H0,P,Os,env,M,out,M',k,ee,w⟩;unfold aM at ee;rcases eN ee with⟨d,M1,e1,ee⟩ |⟨c,n,e1,rfl⟩
 ·obtain⟨ds,rfl⟩:=Rj _ _ _ _ e1;split at ee
  ·rename_i hl;cases ee;refine JF nd k e1 ⟨ds,rfl,fun P1 a vs H1 l1 h1 ha ba nc ea is=>?_⟩;obtain⟨l2,h2,i2⟩:=Ke k.hk l1 h1 ha nc ea is;exact w _ _ _ _ (l2.lt k.hk) ((k.next l2 h2).asg hl i2)
  ·cases ee
 ·exact JF nd k e1 w
end
end E3
namespace E3
open PySem L2
section
variable {env:Env}{M M1 M2 M3 M4:Mm}{f g h v:E}{d e x y:D}{i:Int}{n k:Nat}{ds es:List D}{kvs:List (Key×D)}{key:Key}
theorem pq (h:M[k]? =some (.dcf kvs)):iV M (.ref k)=some (k,kvs):=by unfold iV;simp only[h]
theorem Fe (h1:f env M=some (.v (.ref k),M1))(h2:M1[k]? =some (.dct kvs)):gD f env M=some (.v (.ref k),M1.set k (.dcf kvs)):=by
 simp only[gD,bnd,h1,JR h2]
theorem vM (h1:f env M=some (.v (.ref k),M1))(h2:M1[k]? =some (.dcf kvs)):vL f env M=some (.v (kvs.map fun p=>cV p.1),M1):=by
 simp only[vL,h1,pq h2]
theorem RX (h1:f env M=some (.v (.ref k),M1))(h2:M1[k]? =some (.dcf kvs))(h3:g env M1=some (.v y,M2))(h4:h env M2=some (.v x,M3))(h5:M3[k]? =some (.dcf kvs))(h6:toKey y=some key):uq f g h env M=some (.v ((bf kvs key).getD x),M3):=by
 simp only[uq,bnd,h1,pq h2,h3,h4,zc,pq h5,h6,xbE]
theorem RW (h1:f env M=some (.v (.ref k),M1))(h2:M1[k]? =some (.dcf kvs)):wW f env M=some (.v (.ref M1.length),M1 ++ [.dct kvs]):=by
 simp only[wW,bnd,h1,pq h2]
theorem JL {e:E}(F:Key×D->D):∀(ps:List (Key×D)) (acc:List D),(∀p∈ps,e (.val (cV p.1)::.val p.2::env) M=some (.v (F p),M))->acc.length + ps.length<sizeLine->nu e env ps acc M=some (acc ++ ps.map F,M)
  | [],acc,_,_=>by simp[nu]
  |p::ps,acc,hp,hl=>by
    rw[xaz]at hl;simp only[nu,hp p xaA];rw[xac (by omega),JL F ps (acc ++ [F p]) (fun q hq=>hp q (xav _ hq)) (by rw[xax,xa2];omega)]
    simp
theorem Qz {cs:List (Str×Nat)}{e:E}(F:Key×D->D)(h1:f env M=some (.v (.ref k),M1))(h2:M1[k]? =some (.dcf kvs))(he:∀p∈kvs,e (.val (cV p.1)::.val p.2::bY cs env) M1=some (.v (F p),M1))(hl:kvs.length<sizeLine):
  mJ cs f e env M=some (.v (.lst (kvs.map F)),M1):=by
 simp only[mJ,bnd,h1,pq h2,JL F kvs [] he (by simpa using hl),xbH]
theorem Dq (h1:f env M=some (.v (.lst ds),M1))(h2:rA ds=some kvs)(h3:(kvs.map (·.1)).Nodup):mK f env M=some (.v (.ref M1.length),M1 ++ [.dct kvs]):=by
 show bnd (f env M) _=_;simp only[bnd,h1,P_,pA,h2,xac h3]
theorem CV {bs:List Bool}{b:Bool}(h1:f env M=some (.v (.lst ds),M1))(h2:g env M1=some (.v (.bl b),M2))(h3:m9 ds=some bs):uh f g env M=some (.v (.int (bs.count b:Nat)),M2):=by
 simp only[uh,bnd,h1,h2,h3]
theorem DK {kws:List (Key×D)}{j:Nat}{b:Bool}(h1:f env M=some (.v (.ref k),M1))(h2:g env M1=some (.v (.ref j),M2))(h3:M2[k]? =some (.dcf kvs))(h4:M2[j]? =some (.dcf kws))(h5:uJ kvs kws):iG b f g env M=some (.v (.bl b),M2):=by
 simp only[iG,bnd,h1,h2,pq h3,pq h4,xac h5]
theorem u_s {j t:Nat}(h1:v env M=some (.v (.tup [d,e]),M1))(hk:k<env.length)(h2:f (env.set k (.val d)) M1=some (.v (.ref j),M2))(h3:g (env.set k (.val d)) M2=some (.v (.int i),M3))(h4:M3[j]? =some (.lst ds))(h5:iy ds.length i=some t):
  wZ k f g v env M=some (.nx (env.set k (.val d)),M3.set j (.lst (ds.set t e))):=by
 simp only[wZ,bQ,h1,xac hk,h2,h3,setAt,h4,h5]
theorem JH {j:Nat}{e:E}(F:D->D)(hM:M[j]? =some (.lst ds))(he:∀d∈ds,e (.val d::env) M=some (.v (F d),M)):∀(n t:Nat) (acc:List D),ds.length - t<n->t<=ds.length->acc.length + (ds.length - t)<sizeLine->lO j e env n t acc M=some (acc ++ (ds.drop t).map F,M)
  |0,t,acc,h,_,_=>absurd h (xbZ _)
  |n + 1,t,acc,h,ht,hl=>by
    by_cases q:t<ds.length
    · simp only[lO,hM,xai q,he _ (xcm q)];rw[xac (by omega),JH F hM he n (t + 1) (acc ++ [F ds[t]]) (by omega) q (by rw[xax,xa2];omega),xaY q,xam,xbi];rfl
    · simp only[lO,hM,xbg (xcR q)];rw[xdb (xcR q)]
      simp
theorem Qy {cs:List (Str×Nat)}{j:Nat}{e:E}(F:D->D)(h1:f env M=some (.v (.ref j),M1))(hM:M1[j]? =some (.lst ds))(he:∀d∈ds,e (.val d::bY cs env) M1=some (.v (F d),M1))(hn:ds.length<n)(hl:ds.length<sizeLine):
  nU n cs f e env M=some (.v (.lst (ds.map F)),M1):=by
 simp only[nU,bnd,h1,JH F hM he n 0 [] (by omega) (xbc _) (by simpa using hl),xbK,xbH]
end
end E3
namespace My
open PySem PySem.Spec PyProof.Rows L2 E3
noncomputable def top (i:Nat):Stmt:=PySem.Challenge.pw_rowdam_k30_rows_refused.main.body.getD i (.Pass ⟨0,0,0,0⟩)
noncomputable def uY:List Str:=["isinstance","bool","int","all","len","str","tuple","enumerate","sum","dict","range","max","ValueError","list"]
noncomputable def Tp (s:Stmt) (j:Nat):Stmt:=match s with
 |.ClassDef _ _ _ body _ _ _ _ _ _ _=>body.getD j s
 |_=>s
structure Ad where
 DamError:Addr
 NoIn:Addr
 NoItem:Addr
 TooMuch:Addr
abbrev uw:Stmt:=Tp (top 2) 0
theorem zad:FnScope ["self","at"] ["self","at"] (bw uw):=⟨rfl,rfl,rfl,by x_go,rfl,by x_go,by x_go⟩
structure Txt (K:Fgx)(mg:Mgx)(C:Ad):Prop where
 blt:∀b∈uY,mg b=none
 xm_DamError:mg "DamError"=some (.ref C.DamError)
 xc_DamError:aV K C.DamError=true
 xm_NoIn:mg "NoIn"=some (.ref C.NoIn)
 xc_NoIn:aV K C.NoIn=true
 xm_NoItem:mg "NoItem"=some (.ref C.NoItem)
 xc_NoItem:aV K C.NoItem=true
 xm_TooMuch:mg "TooMuch"=some (.ref C.TooMuch)
 xc_TooMuch:aV K C.TooMuch=true
 xn_NoIn:sH K C.NoIn=true
 xk_NoIn:PySem.W.keepIn K (.ref C.NoIn)=true
 xs_NoIn:gK K C.NoIn=true
 xk_NoItem:PySem.W.keepIn K (.ref C.NoItem)=true
 xs_NoItem:gK K C.NoItem=true
 xn_TooMuch:sH K C.TooMuch=true
 xk_TooMuch:PySem.W.keepIn K (.ref C.TooMuch)=true
 xs_TooMuch:gK K C.TooMuch=true
 pk_NoIn_NoIn:PySem.W.kitOne K (.ref C.NoIn) (.ref C.NoIn)=some true
 pk_NoIn_NoItem:PySem.W.kitOne K (.ref C.NoIn) (.ref C.NoItem)=some false
 pk_NoIn_TooMuch:PySem.W.kitOne K (.ref C.NoIn) (.ref C.TooMuch)=some false
 pk_NoIn_ValueError:PySem.W.kitOne K (.ref C.NoIn) (.type "ValueError")=some true
 pk_NoItem_NoIn:PySem.W.kitOne K (.ref C.NoItem) (.ref C.NoIn)=some false
 pk_NoItem_NoItem:PySem.W.kitOne K (.ref C.NoItem) (.ref C.NoItem)=some true
 pk_NoItem_TooMuch:PySem.W.kitOne K (.ref C.NoItem) (.ref C.TooMuch)=some false
 pk_NoItem_ValueError:PySem.W.kitOne K (.ref C.NoItem) (.type "ValueError")=some true
 pk_TooMuch_NoIn:PySem.W.kitOne K (.ref C.TooMuch) (.ref C.NoIn)=some false
 pk_TooMuch_NoItem:PySem.W.kitOne K (.ref C.TooMuch) (.ref C.NoItem)=some false
 pk_TooMuch_TooMuch:PySem.W.kitOne K (.ref C.TooMuch) (.ref C.TooMuch)=some true
 pk_TooMuch_ValueError:PySem.W.kitOne K (.ref C.TooMuch) (.type "ValueError")=some true
 qk_NoIn_DamError:bN K C.NoIn C.DamError=true
 qk_NoIn_NoIn:bN K C.NoIn C.NoIn=true
 qk_NoItem_DamError:bN K C.NoItem C.DamError=true
 qk_NoItem_NoItem:bN K C.NoItem C.NoItem=true
 qk_TooMuch_DamError:bN K C.TooMuch C.DamError=true
 qk_TooMuch_TooMuch:bN K C.TooMuch C.TooMuch=true
 qn_NoIn_NoItem:bN K C.NoIn C.NoItem=false
 qn_NoIn_TooMuch:bN K C.NoIn C.TooMuch=false
 qn_NoItem_NoIn:bN K C.NoItem C.NoIn=false
 qn_NoItem_TooMuch:bN K C.NoItem C.TooMuch=false
 qn_TooMuch_NoIn:bN K C.TooMuch C.NoIn=false
 qn_TooMuch_NoItem:bN K C.TooMuch C.NoItem=false
 xb_DamError:sG K C.DamError=true
 xa_NoItem:gY K C.NoItem "at"=true
 o_NoItem:∃f fd,yr K C.NoItem f=true/\FunD K "__init__" "NoItem.__init__" uw f fd/\Binds K fd ["self","at"] []
 k_MOST_TIME:∃t,mg "MOST_TIME"=some (.int 1000000000000 t)
 k_MOST_VALUE:∃t,mg "MOST_VALUE"=some (.int 1000000000000000000000000000000000000000000000000000000000000 t)
 k_MOST_SIGNS:∃t,mg "MOST_SIGNS"=some (.int 8 t)
 k_LETTERS:∃t,mg "LETTERS"=some (.str "abcdefghijklmnopqrstuvwxyz" t)
 k_MOST_FLOW:∃t,mg "MOST_FLOW"=some (.int 2000 t)
structure MetAt (K:Fgx)(C:Addr)(x q:Str)(st:Stmt)(ps:List Str)(f:Addr)(fd:FuncData):Prop where
 M:Meth K C x f
 F:FunD K x q st f fd
 b:Binds K fd ps []
structure IniAt (K:Fgx)(C:Addr)(q:Str)(st:Stmt)(ps:List Str)(f:Addr)(fd:FuncData):Prop where
 M:Mk K C f
 F:FunD K "__init__" q st f fd
 b:Binds K fd ps []
structure MetAtD (K:Fgx)(C:Addr)(x q:Str)(st:Stmt)(ps:List Str)(dd:List D)(f:Addr)(fd:FuncData):Prop where
 M:Meth K C x f
 F:FunD K x q st f fd
 b:Binds K fd ps []
 bd:∃(dv:List V) (du:List Value),Binds K fd ps du/\Vals dv du/\(∀P H,aD K P H dd dv)/\dv.length=dd.length
noncomputable def FW (c:Str):Bool:=if c="NoItem" then true else false
theorem W2 {K:Fgx}{mg:Mgx}{C:Ad}(T:Txt K mg C):∀c D,FW c=true->mg c=some (.ref D)->gY K D "at"=true:=by
 intro c D h m;unfold FW at h;split at h
 ·rename_i e;subst e;cases (T.xm_NoItem).symm.trans m;exact T.xa_NoItem
 cases h
noncomputable def xV (c:Str):Option Bool:=if c="NoIn" then some true else if c="NoItem" then some false else if c="TooMuch" then some false else none
theorem zau {K:Fgx}{mg:Mgx}{C:Ad}(T:Txt K mg C):∀c b,xV c=some b->∃D,mg c=some (.ref D)/\gK K D=true/\PySem.W.kitOne K (.ref D) (.ref C.NoIn)=some b:=by
 intro c b h;unfold xV at h;split at h
 ·rename_i e;subst e;cases h;exact⟨_,T.xm_NoIn,T.xs_NoIn,T.pk_NoIn_NoIn⟩
 split at h
 ·rename_i e;subst e;cases h;exact⟨_,T.xm_NoItem,T.xs_NoItem,T.pk_NoItem_NoIn⟩
 split at h
 ·rename_i e;subst e;cases h;exact⟨_,T.xm_TooMuch,T.xs_TooMuch,T.pk_TooMuch_NoIn⟩
 cases h
noncomputable def xW (c:Str):Option Bool:=if c="NoIn" then some false else if c="NoItem" then some true else if c="TooMuch" then some false else none
theorem zai {K:Fgx}{mg:Mgx}{C:Ad}(T:Txt K mg C):∀c b,xW c=some b->∃D,mg c=some (.ref D)/\gK K D=true/\PySem.W.kitOne K (.ref D) (.ref C.NoItem)=some b:=by
 intro c b h;unfold xW at h;split at h
 ·rename_i e;subst e;cases h;exact⟨_,T.xm_NoIn,T.xs_NoIn,T.pk_NoIn_NoItem⟩
 split at h
 ·rename_i e;subst e;cases h;exact⟨_,T.xm_NoItem,T.xs_NoItem,T.pk_NoItem_NoItem⟩
 split at h
 ·rename_i e;subst e;cases h;exact⟨_,T.xm_TooMuch,T.xs_TooMuch,T.pk_TooMuch_NoItem⟩
 cases h
noncomputable def xX (c:Str):Option Bool:=if c="NoIn" then some false else if c="NoItem" then some false else if c="TooMuch" then some true else none
theorem zag {K:Fgx}{mg:Mgx}{C:Ad}(T:Txt K mg C):∀c b,xX c=some b->∃D,mg c=some (.ref D)/\gK K D=true/\PySem.W.kitOne K (.ref D) (.ref C.TooMuch)=some b:=by
 intro c b h;unfold xX at h;split at h
 ·rename_i e;subst e;cases h;exact⟨_,T.xm_NoIn,T.xs_NoIn,T.pk_NoIn_TooMuch⟩
 split at h
 ·rename_i e;subst e;cases h;exact⟨_,T.xm_NoItem,T.xs_NoItem,T.pk_NoItem_TooMuch⟩
 split at h
 ·rename_i e;subst e;cases h;exact⟨_,T.xm_TooMuch,T.xs_TooMuch,T.pk_TooMuch_TooMuch⟩
 cases h
noncomputable def Bq (c:Str):Option Bool:=if c="NoIn" then some true else if c="NoItem" then some true else if c="TooMuch" then some true else none
theorem zaa {K:Fgx}{mg:Mgx}{C:Ad}(T:Txt K mg C):∀c b,Bq c=some b->∃D,mg c=some (.ref D)/\gK K D=true/\PySem.W.kitOne K (.ref D) (.type "ValueError")=some b:=by
 intro c b h;unfold Bq at h;split at h
 ·rename_i e;subst e;cases h;exact⟨_,T.xm_NoIn,T.xs_NoIn,T.pk_NoIn_ValueError⟩
 split at h
 ·rename_i e;subst e;cases h;exact⟨_,T.xm_NoItem,T.xs_NoItem,T.pk_NoItem_ValueError⟩
 split at h
 ·rename_i e;subst e;cases h;exact⟨_,T.xm_TooMuch,T.xs_TooMuch,T.pk_TooMuch_ValueError⟩
 cases h
noncomputable def yS (c:Str):Bool:=if c="NoIn" then true else if c="NoItem" then true else if c="TooMuch" then true else false
theorem Q5 {K:Fgx}{mg:Mgx}{C:Ad}(T:Txt K mg C):∀c,yS c=true->∃D,mg c=some (.ref D)/\aV K D=true/\bN K D C.DamError=true:=by
 intro c h;unfold yS at h;split at h
 ·rename_i e;subst e;exact⟨_,T.xm_NoIn,T.xc_NoIn,T.qk_NoIn_DamError⟩
 split at h
 ·rename_i e;subst e;exact⟨_,T.xm_NoItem,T.xc_NoItem,T.qk_NoItem_DamError⟩
 split at h
 ·rename_i e;subst e;exact⟨_,T.xm_TooMuch,T.xc_TooMuch,T.qk_TooMuch_DamError⟩
 cases h
noncomputable def lN (c:Str):Option Bool:=if c="NoIn" then some true else if c="NoItem" then some false else if c="TooMuch" then some false else none
theorem QX {K:Fgx}{mg:Mgx}{C:Ad}(T:Txt K mg C):∀c b,lN c=some b->∃D,mg c=some (.ref D)/\aV K D=true/\bN K D C.NoIn=b:=by
 intro c b h;unfold lN at h;split at h
 ·rename_i e;subst e;cases h;exact⟨_,T.xm_NoIn,T.xc_NoIn,T.qk_NoIn_NoIn⟩
 split at h
 ·rename_i e;subst e;cases h;exact⟨_,T.xm_NoItem,T.xc_NoItem,T.qn_NoItem_NoIn⟩
 split at h
 ·rename_i e;subst e;cases h;exact⟨_,T.xm_TooMuch,T.xc_TooMuch,T.qn_TooMuch_NoIn⟩
 cases h
noncomputable def u5 (c:Str):Option Bool:=if c="NoIn" then some false else if c="NoItem" then some true else if c="TooMuch" then some false else none
theorem QZ {K:Fgx}{mg:Mgx}{C:Ad}(T:Txt K mg C):∀c b,u5 c=some b->∃D,mg c=some (.ref D)/\aV K D=true/\bN K D C.NoItem=b:=by
 intro c b h;unfold u5 at h;split at h
 ·rename_i e;subst e;cases h;exact⟨_,T.xm_NoIn,T.xc_NoIn,T.qn_NoIn_NoItem⟩
 split at h
 ·rename_i e;subst e;cases h;exact⟨_,T.xm_NoItem,T.xc_NoItem,T.qk_NoItem_NoItem⟩
 split at h
 ·rename_i e;subst e;cases h;exact⟨_,T.xm_TooMuch,T.xc_TooMuch,T.qn_TooMuch_NoItem⟩
 cases h
noncomputable def yR (c:Str):Option Bool:=if c="NoIn" then some false else if c="NoItem" then some false else if c="TooMuch" then some true else none
theorem Q0 {K:Fgx}{mg:Mgx}{C:Ad}(T:Txt K mg C):∀c b,yR c=some b->∃D,mg c=some (.ref D)/\aV K D=true/\bN K D C.TooMuch=b:=by
 intro c b h;unfold yR at h;split at h
 ·rename_i e;subst e;cases h;exact⟨_,T.xm_NoIn,T.xc_NoIn,T.qn_NoIn_TooMuch⟩
 split at h
 ·rename_i e;subst e;cases h;exact⟨_,T.xm_NoItem,T.xc_NoItem,T.qn_NoItem_TooMuch⟩
 split at h
 ·rename_i e;subst e;cases h;exact⟨_,T.xm_TooMuch,T.xc_TooMuch,T.qk_TooMuch_TooMuch⟩
 cases h
noncomputable def Eu (t:String):Option Bool:=if t="int" then some false else if t="bool" then some true else if t="str" then some false else if t="list" then some false else if t="tuple" then some false else if t="NoneType" then some false else if t="dict" then some false else none
theorem TX {K:Fgx}:∀t b,Eu t=some b->PySem.W.kitOne K (.type t) (.type "bool")=some b:=by
 intro t b h;unfold Eu at h;split at h
 ·rename_i e;subst e;cases h;kernel_rfl
 split at h
 ·rename_i e;subst e;cases h;kernel_rfl
 split at h
 ·rename_i e;subst e;cases h;kernel_rfl
 split at h
 ·rename_i e;subst e;cases h;kernel_rfl
 split at h
 ·rename_i e;subst e;cases h;kernel_rfl
 split at h
 ·rename_i e;subst e;cases h;kernel_rfl
 split at h
 ·rename_i e;subst e;cases h;kernel_rfl
 cases h
noncomputable def Ew (t:String):Option Bool:=if t="int" then some true else if t="bool" then some true else if t="str" then some false else if t="list" then some false else if t="tuple" then some false else if t="NoneType" then some false else if t="dict" then some false else none
theorem TY {K:Fgx}:∀t b,Ew t=some b->PySem.W.kitOne K (.type t) (.type "int")=some b:=by
 intro t b h;unfold Ew at h;split at h
 ·rename_i e;subst e;cases h;kernel_rfl
 split at h
 ·rename_i e;subst e;cases h;kernel_rfl
 split at h
 ·rename_i e;subst e;cases h;kernel_rfl
 split at h
 ·rename_i e;subst e;cases h;kernel_rfl
 split at h
 ·rename_i e;subst e;cases h;kernel_rfl
 split at h
 ·rename_i e;subst e;cases h;kernel_rfl
 split at h
 ·rename_i e;subst e;cases h;kernel_rfl
 cases h
noncomputable def Ey (t:String):Option Bool:=if t="int" then some false else if t="bool" then some false else if t="str" then some true else if t="list" then some false else if t="tuple" then some false else if t="NoneType" then some false else if t="dict" then some false else none
theorem T3 {K:Fgx}:∀t b,Ey t=some b->PySem.W.kitOne K (.type t) (.type "str")=some b:=by
 intro t b h;unfold Ey at h;split at h
 ·rename_i e;subst e;cases h;kernel_rfl
 split at h
 ·rename_i e;subst e;cases h;kernel_rfl
 split at h
 ·rename_i e;subst e;cases h;kernel_rfl
 split at h
 ·rename_i e;subst e;cases h;kernel_rfl
 split at h
 ·rename_i e;subst e;cases h;kernel_rfl
 split at h
 ·rename_i e;subst e;cases h;kernel_rfl
 split at h
 ·rename_i e;subst e;cases h;kernel_rfl
 cases h
noncomputable def Ez (t:String):Option Bool:=if t="int" then some false else if t="bool" then some false else if t="str" then some false else if t="list" then some false else if t="tuple" then some true else if t="NoneType" then some false else if t="dict" then some false else none
theorem T4 {K:Fgx}:∀t b,Ez t=some b->PySem.W.kitOne K (.type t) (.type "tuple")=some b:=by
 intro t b h;unfold Ez at h;split at h
 ·rename_i e;subst e;cases h;kernel_rfl
 split at h
 ·rename_i e;subst e;cases h;kernel_rfl
 split at h
 ·rename_i e;subst e;cases h;kernel_rfl
 split at h
 ·rename_i e;subst e;cases h;kernel_rfl
 split at h
 ·rename_i e;subst e;cases h;kernel_rfl
 split at h
 ·rename_i e;subst e;cases h;kernel_rfl
 split at h
 ·rename_i e;subst e;cases h;kernel_rfl
 cases h
noncomputable def aW (t T:String):Option Bool:=if T="bool" then Eu t else if T="int" then Ew t else if T="str" then Ey t else if T="tuple" then Ez t else none
theorem Uj:aW "int" "bool"=some false:=by x_go
theorem Uk:aW "int" "int"=some true:=by x_go
theorem zb7:aW "int" "str"=some false:=by x_go
theorem zbd:aW "int" "tuple"=some false:=by x_go
theorem Ui:aW "bool" "bool"=some true:=by x_go
theorem zbG:aW "bool" "int"=some true:=by x_go
theorem zbF:aW "bool" "str"=some false:=by x_go
theorem za0:aW "bool" "tuple"=some false:=by x_go
theorem zbB:aW "str" "bool"=some false:=by x_go
theorem zbS:aW "str" "int"=some false:=by x_go
theorem zbV:aW "str" "str"=some true:=by x_go
theorem zbk:aW "str" "tuple"=some false:=by x_go
theorem za8:aW "list" "bool"=some false:=by x_go
theorem zbC:aW "list" "int"=some false:=by x_go
theorem zbE:aW "list" "str"=some false:=by x_go
theorem za2:aW "list" "tuple"=some false:=by x_go
theorem za1:aW "tuple" "bool"=some false:=by x_go
theorem zbs:aW "tuple" "int"=some false:=by x_go
theorem za6:aW "tuple" "str"=some false:=by x_go
theorem Ul:aW "tuple" "tuple"=some true:=by x_go
theorem zaI:aW "NoneType" "bool"=some false:=by x_go
theorem zaK:aW "NoneType" "int"=some false:=by x_go
theorem zaJ:aW "NoneType" "str"=some false:=by x_go
theorem zaw:aW "NoneType" "tuple"=some false:=by x_go
theorem zbx:aW "dict" "bool"=some false:=by x_go
theorem zbA:aW "dict" "int"=some false:=by x_go
theorem zbD:aW "dict" "str"=some false:=by x_go
theorem zaZ:aW "dict" "tuple"=some false:=by x_go
theorem vP {K:Fgx}:∀t T b,aW t T=some b->PySem.W.kitOne K (.type t) (.type T)=some b:=by
 intro t T b h;unfold aW at h;split at h
 ·rename_i e;subst e;exact TX t b h
 split at h
 ·rename_i e;subst e;exact TY t b h
 split at h
 ·rename_i e;subst e;exact T3 t b h
 split at h
 ·rename_i e;subst e;exact T4 t b h
 cases h
abbrev A_:Stmt:=top 10
theorem N_:FnScope ["x"] ["x"] (bw A_):=dN
noncomputable def Jg:S:=(aA (aQ (bJ (fV aW "int" (ak 0)) (z8 (fV aW "bool" (ak 0))))) aC)
def tL:G:=cI 1 Jg
abbrev Ay:Stmt:=top 11
theorem N7:FnScope ["x"] ["x"] (bw Ay):=dN
noncomputable def CN:S:=(aA (aQ (bJ (bV tL (ao (ak 0) aq)) (eE .le .le (aj (.int 0)) (ak 0) (aj (.int 1000000000000))))) aC)
def pK:G:=cI 1 CN
abbrev Az:Stmt:=top 12
theorem N8:FnScope ["x"] ["x"] (bw Az):=dN
noncomputable def CP:S:=(aA (aQ (bJ (bV tL (ao (ak 0) aq)) (eE .le .le (s1 bZ (aj (.int 1000000000000000000000000000000000000000000000000000000000000))) (ak 0) (aj (.int 1000000000000000000000000000000000000000000000000000000000000))))) aC)
def vH:G:=cI 1 CP
abbrev Av:Stmt:=top 13
theorem NZ:FnScope ["x"] ["x"] (bw Av):=dN
noncomputable def RP:E:=(s2 (aJ .isin) (ak 0) (aj (.str "abcdefghijklmnopqrstuvwxyz")))
noncomputable def Jf:S:=(aA (cQ (fW (fD (fV aW "str" (ak 0)))) (aA (aQ (aj (.bl false))) aC) aC) (aA (aQ (bJ (eE .le .le (aj (.int 1)) (sN dO (ao (ak 0) aq)) (aj (.int 8))) (sN lK (ao (kh [] (zx (ak 0)) (aj (.bl true)) RP) aq)))) aC))
def pJ:G:=cI 1 Jf
abbrev Ax:Stmt:=top 14
theorem N6:FnScope ["parts"] ["parts"] (bw Ax):=dN
noncomputable def CK:S:=(aA (aQ (bJ (s2 (aJ .eq) (sN dO (ao (ak 0) aq)) (aj (.int 4))) (bJ (s2 (aJ .eq) (s2 aY (ak 0) (aj (.int 0))) (aj (.str "thing"))) (bJ (bV pK (ao (s2 aY (ak 0) (aj (.int 1))) aq)) (bJ (bV pJ (ao (s2 aY (ak 0) (aj (.int 2))) aq)) (bV vH (ao (s2 aY (ak 0) (aj (.int 3))) aq))))))) aC)
def tK:G:=cI 1 CK
abbrev Aw:Stmt:=top 15
theorem N5:FnScope ["parts"] ["parts"] (bw Aw):=dN
noncomputable def CJ:S:=(aA (aQ (bJ (s2 (aJ .eq) (sN dO (ao (ak 0) aq)) (aj (.int 2))) (bJ (s2 (aJ .eq) (s2 aY (ak 0) (aj (.int 0))) (aj (.str "mark"))) (bV pK (ao (s2 aY (ak 0) (aj (.int 1))) aq))))) aC)
def vG:G:=cI 1 CJ
abbrev Aq:Stmt:=top 16
theorem NT:FnScope ["x"] ["x"] (bw Aq):=dN
noncomputable def yM:S:=(aA (cQ (fW (fD (fV aW "tuple" (ak 0)))) (aA (aQ (aj (.bl false))) aC) aC) (aA (aQ (mO (bV tK (ao (ak 0) aq)) (bV vG (ao (ak 0) aq)))) aC))
def lq:G:=cI 1 yM
abbrev Ba:Stmt:=top 18
theorem Ob:FnScope ["row","width","step"] ["row"] (bw Ba):=dN
noncomputable def CQ:S:=(aA (aM 1 (sN iT (ao (s2 aY (s2 aY (ak 0) (aj (.int 3))) (aj (.int 0))) aq))) (aA (aM 2 (mL (s2 (aJ .eq) (s2 aY (ak 0) (aj (.int 0))) (aj (.str "slide"))) (sN iT (ao (s2 aY (s2 aY (ak 0) (aj (.int 3))) (aj (.int 1))) aq)) (ak 1))) (aA (aQ (aG (ao (ak 1) (ao (ak 2) (ao (s2 aY (s2 aY (ak 0) (aj (.int 3))) (s1 bZ (aj (.int 1)))) aq))))) aC)))
def vI:G:=cI 3 CQ
abbrev Aj:Stmt:=top 20
theorem Nx:FnScope ["row","at","item"] ["row"] (bw Aj):=dN
noncomputable def iB:S:=(aA (cQ (fW (fD (bV lq (ao (ak 2) aq)))) (aA (z9 "NoItem" (ak 1)) aC) aC) aC)
noncomputable def yK:S:=(aA (wX [1,2] (ao (ak 0) aq) iB) aC)
def pG:G:=cI 3 yK
abbrev Ao:Stmt:=top 23
theorem NP:FnScope ["works"] ["works"] (bw Ao):=dN
noncomputable def yQ:E:=(s2 (aJ .eq) (s2 aY (ak 0) (aj (.int 0))) (aj (.str "in")))
def Dz:E:=(s2 aY (ak 0) (aj (.int 1)))
noncomputable def CG:S:=(aA (aQ (kh [] (fP (ak 0)) yQ Dz)) aC)
def pI:G:=cI 1 CG
abbrev Al:Stmt:=top 24
theorem Nz:FnScope ["row","lengths","above","froms","window"] ["row","lengths","above"] (bw Al):=dN
def zj:E:=(wU (ak 1) (ak 0))
noncomputable def sU:S:=(aA (cQ (s2 (aJ .eq) (s2 aY (ak 0) (aj (.int 0))) (aj (.str "in"))) (aA (aQ (uo (ak 1) (s2 aY (ak 0) (aj (.int 1))) (aj (.int 0)))) aC) aC) (aA (aM 3 (kh [("above",2)] (zu (s2 aY (ak 0) (aj (.int 2)))) (aj (.bl true)) zj)) (aA (cQ (s2 (aJ .eq) (s2 aY (ak 0) (aj (.int 0))) (aj (.str "join"))) (aA (aQ (s2 cB (s2 aY (ak 3) (aj (.int 0))) (s2 aY (ak 3) (aj (.int 1))))) aC) aC) (aA (cQ (s2 (aJ .eq) (s2 aY (ak 0) (aj (.int 0))) (aj (.str "slide"))) (aA (aM 4 (bV vI (ao (ak 0) aq))) (aA (aQ (s2 cB (s2 aY (ak 3) (aj (.int 0))) (s2 pY (s2 iD (s2 aX (s2 aY (ak 4) (aj (.int 0))) (s2 aY (ak 4) (aj (.int 1)))) (aj (.int 1))) (s2 aY (ak 4) (aj (.int 1)))))) aC)) aC) (aA (aQ (sN iU (ao (ak 3) aq))) aC)))))
def iJ:G:=cI 5 sU
abbrev Am:Stmt:=top 25
theorem NK:FnScope ["works","lengths","found","row","flow"] ["works","lengths"] (bw Am):=dN
noncomputable def lY:S:=(aA (aM 4 (bV iJ (ao (ak 3) (ao (ak 1) (ao (ak 2) aq))))) (aA (cQ (s2 (aJ .gt) (ak 4) (aj (.int 2000))) (aA (nY "TooMuch" (fU (d7 "more than " (iz (aj (.int 2000)) (d7 " things may be told by a row" fQ))))) aC) aC) (aA (wV (ak 2) (s2 aY (ak 3) (aj (.int 1))) (ak 4)) aC)))
noncomputable def Cz:S:=(aA (aM 2 (dh dG)) (aA (eF 3 (fP (ak 0)) lY) (aA (aQ (ak 2)) aC)))
def pH:G:=cI 5 Cz
abbrev Ak:Stmt:=top 27
theorem Ny:FnScope ["works","rows","ins","name"] ["works","rows"] (bw Ak):=dN
noncomputable def vf:E:=(aG (ao (ak 0) (ao (sN dO (ao (ak 1) aq)) aq)))
noncomputable def tX:S:=(aA (nW (rK pH (ao (ak 0) (ao (mK (mJ [] (ak 1) vf)) aq)))) aC)
noncomputable def vU:S:=(aA (nW (rK pG (ao (uq (ak 1) (ak 3) (bF aq)) aq))) aC)
noncomputable def tW:S:=(aA (eF 3 (fP (ak 2)) vU) tX)
noncomputable def tR:S:=(aA (cQ (s2 (aJ .notin) (ak 3) (ak 2)) (aA (nY "NoIn" (fU (iZ (ak 3) (d7 " is no name of an in" fQ)))) aC) aC) aC)
noncomputable def Ft:S:=(aA (eF 3 (vL (ak 1)) tR) tW)
noncomputable def yL:S:=(aA (aM 2 (bV pI (ao (ak 0) aq))) Ft)
def gh:G:=cI 4 yL
abbrev Aa:Stmt:=top 29
theorem Ni:FnScope ["_law_script","_law_k"] ["_law_script","_law_k"] (bw Aa):=dN
noncomputable def Ci:S:=(aA (cQ (s2 (aJ .lt) (ak 1) (sN dO (ao (ak 0) aq))) (aA (aQ (s2 aY (ak 0) (ak 1))) aC) aC) (aA (aQ (aj (.int 0))) aC))
def f9:G:=cI 2 Ci
abbrev Af:Stmt:=top 30
theorem Np:FnScope ["_law_number","_law_k","_law_some","_law_word","_law_place"] ["_law_number","_law_k"] (bw Af):=dN
noncomputable def zG:S:=(aA (aM 3 (s2 aX (ak 3) (s2 aY (s2 aX (ak 2) (aj (.str "0123456789"))) (s2 oMod (s2 iC (ak 0) (s2 aX (aj (.int 156)) (s2 cB (aj (.int 37)) (ak 4)))) (aj (.int 36)))))) aC)
noncomputable def Cq:S:=(aA (aM 2 (aj (.str "kqzabcdefghijlmnoprstuvwxy"))) (aA (aM 3 (s2 aY (ak 2) (s2 oMod (ak 0) (aj (.int 26))))) (aA (eF 4 (nJ (ao (s2 oMod (s2 iC (ak 0) (aj (.int 26))) (aj (.int 6))) aq)) zG) (aA (aQ (s2 aX (ak 3) (sN gZ (ao (ak 1) aq)))) aC))))
def vC:G:=cI 5 Cq
abbrev Ai:Stmt:=top 31
theorem Nv:FnScope ["_law_cell","_law_names","_law_folds","_law_one","_law_other","_law_third","_law_last","_law_works_here","_law_step","_law_width"] ["_law_cell","_law_names","_law_folds"] (bw Ai):=dN
noncomputable def Cy:S:=(aA (z_ [3,4,5,6] (ak 1)) (aA (wY 7 (bF (ao (aG (ao (aj (.str "in")) (ao (ak 3) (ao (aG aq) (ao (aG aq) aq))))) (ao (aG (ao (aj (.str "in")) (ao (ak 4) (ao (aG aq) (ao (aG aq) aq))))) aq)))) (aA (cQ (s2 (aJ .eq) (s2 oMod (ak 0) (aj (.int 3))) (aj (.int 0))) (aA (d9 7 (aG (ao (aj (.str "join")) (ao (ak 6) (ao (aG (ao (ak 3) (ao (ak 4) aq))) (ao (aG (ao (aj (.str "5")) (ao (aj (.str "v")) aq))) aq)))))) aC) aC) (aA (cQ (s2 (aJ .eq) (s2 oMod (ak 0) (aj (.int 3))) (aj (.int 1))) (aA (aM 8 (s2 aX (aj (.int 1)) (s2 oMod (s2 iC (ak 0) (aj (.int 3))) (aj (.int 50))))) (aA (aM 9 (sN lM (ao (ak 8) (ao (s2 iD (s2 cB (ak 8) (ak 2)) (s2 oMod (s2 iC (ak 0) (aj (.int 150))) (ak 8))) aq)))) (aA (d9 7 (aG (ao (aj (.str "slide")) (ao (ak 5) (ao (aG (ao (ak 3) aq)) (ao (aG (ao (sN gZ (ao (ak 9) aq)) (ao (sN gZ (ao (ak 8) aq)) (ao (aj (.str "sum")) aq)))) aq)))))) (aA (d9 7 (aG (ao (aj (.str "join")) (ao (ak 6) (ao (aG (ao (ak 5) (ao (ak 4) aq))) (ao (aG (ao (aj (.str "0")) (ao (aj (.str "+")) (ao (aj (.str "v")) (ao (aj (.str "w")) aq))))) aq)))))) aC)))) aC) (aA (cQ (s2 (aJ .eq) (s2 oMod (ak 0) (aj (.int 3))) (aj (.int 2))) (aA (d9 7 (aG (ao (aj (.str "pour")) (ao (ak 5) (ao (aG (ao (ak 3) (ao (ak 4) (ao (ak 3) aq)))) (ao (aG aq) aq)))))) (aA (d9 7 (aG (ao (aj (.str "join")) (ao (ak 6) (ao (aG (ao (ak 5) (ao (ak 5) aq))) (ao (aG (ao (aj (.str "0")) (ao (aj (.str "w")) aq))) aq)))))) aC)) aC) (aA (kj 7) (aA (aQ (ak 7)) aC)))))))
def nH:G:=cI 10 Cy
abbrev Ae:Stmt:=top 32
theorem Nm:FnScope ["_law_script","_law_cell","_law_some"] ["_law_script"] (bw Ae):=dN
noncomputable def yI:S:=(aA (aM 1 (bV f9 (ao (ak 0) (ao (aj (.int 1)) aq)))) (aA (aM 2 (bF (ao (aG (ao (aj (.int 40)) (ao (aj (.int 50)) aq))) (ao (aG (ao (aj (.int 41)) (ao (aj (.int 49)) aq))) (ao (aG (ao (aj (.int 29)) (ao (aj (.int 69)) aq))) (ao (aG (ao (aj (.int 20)) (ao (aj (.int 100)) aq))) (ao (aG (ao (aj (.int 100)) (ao (aj (.int 20)) aq))) (ao (aG (ao (aj (.int 100)) (ao (aj (.int 100)) aq))) aq)))))))) (aA (cQ (s2 (aJ .eq) (s2 oMod (ak 1) (aj (.int 2))) (aj (.int 0))) (aA (aQ (s2 aY (ak 2) (s2 oMod (s2 iC (ak 1) (aj (.int 2))) (aj (.int 6))))) aC) aC) (aA (aQ (aG (ao (s2 oMod (s2 iC (ak 1) (aj (.int 2))) (aj (.int 101))) (ao (s2 oMod (bV f9 (ao (ak 0) (ao (aj (.int 2)) aq))) (aj (.int 101))) aq)))) aC))))
def sZ:G:=cI 3 yI
abbrev Ac:Stmt:=top 33
theorem Nk:FnScope ["_law_many","_law_cell","_law_found","_law_k","_law_time"] ["_law_many","_law_cell"] (bw Ac):=dN
noncomputable def vR:S:=(aA (aM 4 (s2 oMod (s2 aX (ak 1) (s2 cB (s2 cB (aj (.int 7919)) (ak 3)) (ak 3))) (s2 aX (s2 fB (aj (.int 10)) (aj (.int 12))) (aj (.int 1))))) (aA (cQ (s2 (aJ .eq) (s2 oMod (s2 aX (ak 1) (ak 3)) (aj (.int 3))) (aj (.int 0))) (aA (d9 2 (aG (ao (aj (.str "mark")) (ao (ak 4) aq)))) aC) (aA (d9 2 (aG (ao (aj (.str "thing")) (ao (ak 4) (ao (rM (aj (.str "ab")) t_ (rm (s2 aX (aj (.int 1)) (s2 oMod (ak 3) (aj (.int 2)))))) (ao (s2 iD (s2 oMod (ak 1) (s2 aX (s2 cB (aj (.int 2)) (s2 fB (aj (.int 10)) (aj (.int 60)))) (aj (.int 1)))) (s2 fB (aj (.int 10)) (aj (.int 60)))) aq)))))) aC)) aC))
noncomputable def Ck:S:=(aA (wY 2 (bF aq)) (aA (eF 3 (nJ (ao (ak 0) aq)) vR) (aA (kj 2) (aA (aQ (ak 2)) aC))))
def sY:G:=cI 5 Ck
abbrev Ag:Stmt:=top 34
theorem Nq:FnScope ["_law_cell","_law_some"] ["_law_cell"] (bw Ag):=dN
noncomputable def Cr:S:=(aA (aM 1 (bF (ao (aj .non) (ao (aj (.int 5)) (ao (aj (.str "mark")) (ao (bF (ao (aj (.str "mark")) (ao (aj (.int 3)) aq))) (ao (aG (ao (aj (.str "mark")) aq)) (ao (aG (ao (aj (.str "mark")) (ao (s1 bZ (aj (.int 1))) aq))) (ao (aG (ao (aj (.str "mark")) (ao (s2 aX (s2 fB (aj (.int 10)) (aj (.int 12))) (aj (.int 1))) aq))) (ao (aG (ao (aj (.str "mark")) (ao (aj (.bl true)) aq))) aq)))))))))) (aA (aM 1 (s2 aX (ak 1) (bF (ao (aG (ao (aj (.str "thing")) (ao (aj (.int 3)) (ao (aj (.str "a")) aq)))) (ao (aG (ao (aj (.str "thing")) (ao (aj (.int 3)) (ao (aj (.str "")) (ao (aj (.int 1)) aq))))) (ao (aG (ao (aj (.str "thing")) (ao (aj (.int 3)) (ao (aj (.str "aB")) (ao (aj (.int 1)) aq))))) (ao (aG (ao (aj (.str "thing")) (ao (aj (.int 3)) (ao (aj (.str "abcdefghi")) (ao (aj (.int 1)) aq))))) aq))))))) (aA (aM 1 (s2 aX (ak 1) (bF (ao (aG (ao (aj (.str "thing")) (ao (aj (.int 3)) (ao (aj (.str "a")) (ao (s2 aX (s2 fB (aj (.int 10)) (aj (.int 60))) (aj (.int 1))) aq))))) (ao (aG (ao (aj (.str "thing")) (ao (s1 bZ (aj (.int 1))) (ao (aj (.str "a")) (ao (aj (.int 1)) aq))))) (ao (aG (ao (aj (.str "sign")) (ao (aj (.int 3)) (ao (aj (.str "a")) (ao (aj (.int 1)) aq))))) (ao (aG (ao (aj (.str "line")) (ao (aj (.int 1)) aq))) aq))))))) (aA (aM 1 (s2 aX (ak 1) (bF (ao (aG (ao (aj (.str "thing")) (ao (aj (.int 3)) (ao (aj (.int 7)) (ao (aj (.int 1)) aq))))) (ao (aG (ao (aj (.str "thing")) (ao (aj (.bl true)) (ao (aj (.str "a")) (ao (aj (.int 1)) aq))))) (ao (aG (ao (aj (.str "thing")) (ao (aj (.int 3)) (ao (aj (.str "a")) (ao (aj (.bl false)) aq))))) (ao (aG aq) (ao (aG (ao (aj (.str "mark")) (ao (aj (.int 3)) (ao (aj (.int 4)) aq)))) aq)))))))) (aA (aM 1 (s2 aX (ak 1) (bF (ao (aG (ao (aj (.str "thing")) (ao (s2 aX (s2 fB (aj (.int 10)) (aj (.int 12))) (aj (.int 1))) (ao (aj (.str "a")) (ao (aj (.int 1)) aq))))) (ao (aG (ao (aj (.str "thing")) (ao (aj (.int 3)) (ao (aj (.str "a")) (ao (s2 iD (s1 bZ (s2 fB (aj (.int 10)) (aj (.int 60)))) (aj (.int 1))) aq))))) (ao (aG (ao (aj (.str "thing")) (ao (aj (.int 3)) (ao (aj (.str "a")) (ao (aj .non) aq))))) aq)))))) (aA (aQ (s2 aY (ak 1) (s2 oMod (ak 0) (aj (.int 24))))) aC))))))
def tD:G:=cI 2 Cr
abbrev Ah:Stmt:=top 35
theorem Nu:FnScope ["_law_items_here","_law_cell","_law_at"] ["_law_items_here","_law_cell"] (bw Ah):=dN
noncomputable def yJ:S:=(aA (cQ (s2 (aJ .eq) (ak 0) (bF aq)) (aA (aQ (aG (ao (aj (.int 0)) (ao (bF (ao (bV tD (ao (ak 1) aq)) aq)) aq)))) aC) aC) (aA (aM 2 (s2 oMod (s2 iC (ak 1) (aj (.int 24))) (sN dO (ao (ak 0) aq)))) (aA (aQ (aG (ao (ak 2) (ao (s2 aX (s2 aX (rM (ak 0) t_ (rm (ak 2))) (bF (ao (bV tD (ao (ak 1) aq)) aq))) (rM (ak 0) (rm (s2 aX (ak 2) (aj (.int 1)))) t_)) aq)))) aC)))
def pF:G:=cI 3 yJ
abbrev w6:Stmt:=top 36
theorem Nt:FnScope ["_law_works_here","_law_rows","_law_found","_law_said_here","e"] ["_law_works_here","_law_rows"] (bw w6):=dN
theorem zaB:LV w6 "e":=by kernel_rfl
def Lf:S:=(aA (aQ (ak 3)) aC)
noncomputable def Fq:S:=(aA (cQ (fD (fV aW "bool" (s2 aY (ak 3) (aj (.int 1))))) (aA (aQ (aG (ao (aj (.str "told")) (ao (s1 bZ (aj (.int 1))) aq)))) aC) aC) Lf)
noncomputable def pW:S:=(aA (cQ (bJ (s2 (aJ .eq) (s2 aY (ak 3) (aj (.int 0))) (aj (.str ""))) (s2 (aJ .other) (ak 2) (aj .non))) (aA (aQ (aG (ao (aj (.str "told")) (ao (s1 bZ (aj (.int 1))) aq)))) aC) aC) Fq)
noncomputable def m8:S:=(aM 2 (rK gh (ao (ak 0) (ao (ak 1) aq))))
noncomputable def vK:S:=(aA (aM 3 (aG (ao (aj (.str "NoIn")) (ao (s1 bZ (aj (.int 1))) aq)))) aC)
noncomputable def Em:S:=(aA (aM 3 (aG (ao (aj (.str "NoItem")) (ao (mH FW 4) aq)))) aC)
noncomputable def Km:S:=(aA (aM 3 (aG (ao (aj (.str "TooMuch")) (ao (s1 bZ (aj (.int 1))) aq)))) aC)
noncomputable def Fp:S:=(aA (rN m8 (dR lN vK (tO 4 u5 Em (dR yR Km vJ)))) pW)
noncomputable def Le:S:=(aA (aM 3 (aG (ao (aj (.str "")) (ao (s1 bZ (aj (.int 1))) aq)))) Fp)
def Cw:S:=(aA (aM 2 (aj (.int 0))) Le)
def pD:G:=cI 5 Cw
abbrev w5:Stmt:=top 37
theorem Nr:FnScope ["_law_works_here","_law_rows","e"] ["_law_works_here","_law_rows"] (bw w5):=dN
theorem yh:LV w5 "e":=by kernel_rfl
noncomputable def Qe:S:=(nW (rK gh (ao (ak 0) (ao (ak 1) aq))))
noncomputable def Kl:S:=(aA (cQ (fW (fD (dH 2 Bq))) (aA (aQ (aj (.bl false))) aC) aC) (aA (aQ (s2 (aJ .eq) (uh (bF (ao (dH 2 xV) (ao (dH 2 xW) (ao (dH 2 xX) aq)))) (aj (.bl true))) (aj (.int 1)))) aC))
noncomputable def Cu:S:=(aA (mQ 2 yS Qe Kl) (aA (aQ (aj (.bl false))) aC))
def vD:G:=cI 3 Cu
abbrev Ab:Stmt:=top 38
theorem Nj:FnScope ["_law_cell","_law_one","_law_other","_law_folds"] ["_law_cell","_law_one","_law_other","_law_folds"] (bw Ab):=dN
noncomputable def Cj:S:=(aA (cQ (s2 (aJ .eq) (s2 oMod (ak 0) (aj (.int 3))) (aj (.int 0))) (aA (aQ (s2 cB (ak 1) (ak 2))) aC) aC) (aA (cQ (s2 (aJ .eq) (s2 oMod (ak 0) (aj (.int 3))) (aj (.int 1))) (aA (aQ (s2 cB (s2 cB (ak 1) (ak 3)) (ak 2))) aC) aC) (aA (aQ (s2 cB (s2 aX (s2 cB (aj (.int 2)) (ak 1)) (ak 2)) (s2 aX (s2 cB (aj (.int 2)) (ak 1)) (ak 2)))) aC)))
def vB:G:=cI 4 Cj
abbrev iM:Stmt:=top 39
theorem Oa:FnScope ["_law_script","_law_kind","_law_names","_law_one","_law_other","_law_folds","_law_works_here","_law_bits","_law_items_here","_law_due","_law_k","_law_at","_law_rows","_law_strange","_law_kept","_law_handed"] ["_law_script"] (bw iM):=dN
noncomputable def zK:S:=(aA (aQ (s2 (aJ .eq) (bV pD (ao (ak 6) (ao (gD (dh dG)) aq))) (aG (ao (aj (.str "")) (ao (s1 bZ (aj (.int 1))) aq))))) aC)
noncomputable def v9:S:=(aA (cQ (mO (iG false (ak 12) (ak 14)) (mO (s2 (aJ .ne) (ak 8) (ak 15)) (s2 (aJ .ne) (ak 6) (bV nH (ao (ak 1) (ao (ak 2) (ao (ak 5) aq))))))) (aA (aQ (aj (.bl false))) aC) aC) zK)
noncomputable def v8:S:=(aA (cQ (mO (s2 (aJ .ne) (bV pD (ao (ak 6) (ao (ak 12) aq))) (ak 9)) (bJ (s2 (aJ .ne) (s2 aY (ak 9) (aj (.int 0))) (aj (.str ""))) (fW (fD (bV vD (ao (ak 6) (ao (ak 12) aq))))))) (aA (aQ (aj (.bl false))) aC) aC) v9)
def zm:E:=(ur (ak 0))
def zJ:S:=(aA (aM 15 (nU 1000 [] (ak 8) zm)) v8)
def v7:S:=(aA (aM 14 (gD (wW (gD (ak 12))))) zJ)
noncomputable def vZ:S:=(aA (cQ (bJ (s2 (aJ .lt) (ak 7) (aj (.int 8))) (s2 (aJ .eq) (s2 oMod (ak 7) (aj (.int 2))) (aj (.int 1)))) (aA (aM 13 (s2 aY (bF (ao (s2 aY (ak 2) (aj (.int 3))) (ao (rM (s2 aY (ak 2) (aj (.int 0))) t_ (rm (s1 bZ (aj (.int 1))))) (ao (s2 aX (s2 aY (ak 2) (aj (.int 0))) (aj (.str "0"))) aq)))) (s2 oMod (bV f9 (ao (ak 0) (ao (aj (.int 9)) aq))) (aj (.int 3))))) (aA (aM 12 (dh (gQ (s2 aY (ak 2) (aj (.int 0))) (s2 aY (ak 8) (aj (.int 0))) (gQ (ak 13) (bF aq) (gQ (s2 aY (ak 2) (aj (.int 1))) (s2 aY (ak 8) (aj (.int 1))) dG))))) (aA (aM 9 (aG (ao (aj (.str "NoIn")) (ao (s1 bZ (aj (.int 1))) aq)))) aC))) aC) v7)
noncomputable def zH:S:=(aA (aM 12 (dh (gQ (s2 aY (ak 2) (aj (.int 1))) (s2 aY (ak 8) (aj (.int 1))) (gQ (s2 aY (ak 2) (aj (.int 0))) (s2 aY (ak 8) (aj (.int 0))) dG)))) vZ)
noncomputable def nM:S:=(aA (cQ (bJ (s2 (aJ .lt) (ak 7) (aj (.int 8))) (s2 (aJ .eq) (s2 oMod (s2 iC (ak 7) (s2 aX (aj (.int 2)) (s2 cB (aj (.int 2)) (ak 10)))) (aj (.int 2))) (aj (.int 1)))) (aA (wZ 11 (ak 8) (ak 10) (bV pF (ao (s2 aY (ak 8) (ak 10)) (ao (bV f9 (ao (ak 0) (ao (s2 aX (aj (.int 7)) (ak 10)) aq))) aq)))) (aA (aM 9 (aG (ao (aj (.str "NoItem")) (ao (ak 11) aq)))) aC)) aC) aC)
noncomputable def zM:S:=(aA (eF 10 (fP (bF (ao (aj (.int 1)) (ao (aj (.int 0)) aq)))) nM) zH)
noncomputable def Lp:S:=(aA (cQ (s2 (aJ .gt) (bV vB (ao (ak 1) (ao (ak 3) (ao (ak 4) (ao (ak 5) aq))))) (aj (.int 2000))) (aA (aM 9 (aG (ao (aj (.str "TooMuch")) (ao (s1 bZ (aj (.int 1))) aq)))) aC) aC) zM)
noncomputable def zL:S:=(aA (aM 9 (aG (ao (aj (.str "")) (ao (s1 bZ (aj (.int 1))) aq)))) Lp)
noncomputable def Ln:S:=(aA (aM 8 (z7 (bF (ao (bV sY (ao (ak 3) (ao (bV f9 (ao (ak 0) (ao (aj (.int 5)) aq))) aq))) (ao (bV sY (ao (ak 4) (ao (bV f9 (ao (ak 0) (ao (aj (.int 6)) aq))) aq))) aq))))) zL)
noncomputable def Lk:S:=(aA (aM 7 (s2 oMod (bV f9 (ao (ak 0) (ao (aj (.int 4)) aq))) (aj (.int 12)))) Ln)
noncomputable def Lj:S:=(aA (aM 6 (bV nH (ao (ak 1) (ao (ak 2) (ao (ak 5) aq))))) Lk)
noncomputable def Li:S:=(aA (aM 5 (s2 aX (aj (.int 1)) (s2 oMod (s2 iC (bV f9 (ao (ak 0) (ao (aj (.int 2)) aq))) (aj (.int 101))) (aj (.int 8))))) Lj)
noncomputable def Lh:S:=(aA (mR [3,4] (bV sZ (ao (ak 0) aq))) Li)
noncomputable def zp:E:=(bV vC (ao (s2 oMod (bV f9 (ao (ak 1) (ao (aj (.int 3)) aq))) (aj (.int 999983))) (ao (ak 0) aq)))
noncomputable def Lg:S:=(aA (aM 2 (kh [("_law_script",0)] (nJ (ao (aj (.int 4)) aq)) (aj (.bl true)) zp)) Lh)
noncomputable def yN:S:=(aA (aM 1 (s2 oMod (bV f9 (ao (ak 0) (ao (aj (.int 0)) aq))) (aj (.int 7800)))) Lg)
def Kf:G:=cI 16 yN
section
variable {P:Program}{w:World}{K:Fgx}{mg:Mgx}{C:Ad}{base:Heap}{k k0:Nat}{f:Addr}
theorem zap (T:Txt K mg C):RT P w K mg base k f ["x"] "is_whole" A_ Jg:=fun cdv A outer s H E hr=>by
 refine dM hr fun hu=>?_;have nd:=(N_).nd;have B_bool:=T.blt "bool" (by x_go);have B_int:=T.blt "int" (by x_go);have B_isinstance:=T.blt "isinstance" (by x_go);exact aH (cu (lB (xq (T:="int") (fun t b h=>vP t "int" b h) Sv rfl B_isinstance rfl B_int boot_int) (rP (zcb (xq (T:="bool") (fun t b h=>vP t "bool" b h) Sv rfl B_isinstance rfl B_bool boot_bool))))) aR
theorem zaE (T:Txt K mg C)(a_is_whole:bC P w K mg base k "is_whole" 1 tL):RT P w K mg base k f ["x"] "is_time" Ay CN:=fun cdv A outer s H E hr=>by
 refine dM hr fun hu=>?_;have nd:=(N7).nd;obtain⟨t_MOST_TIME,m_MOST_TIME⟩:=T.k_MOST_TIME;exact aH (cu (lB (cF a_is_whole hr rfl (au Sv aF aU) (cnt_cons cnt_nil)) (rP (G9 (c1:=.le) (c2:=.le) hu Ei Sv (gF (nR (v:=(.int 1000000000000)) rfl m_MOST_TIME ⟨t_MOST_TIME,rfl⟩)))))) aR
theorem zar (T:Txt K mg C)(a_is_whole:bC P w K mg base k "is_whole" 1 tL):RT P w K mg base k f ["x"] "is_value" Az CP:=fun cdv A outer s H E hr=>by
 refine dM hr fun hu=>?_;have nd:=(N8).nd;obtain⟨t_MOST_VALUE,m_MOST_VALUE⟩:=T.k_MOST_VALUE;exact aH (cu (lB (cF a_is_whole hr rfl (au Sv aF aU) (cnt_cons cnt_nil)) (rP (G9 (c1:=.le) (c2:=.le) hu (gG gJ gC (gF (nR (v:=(.int 1000000000000000000000000000000000000000000000000000000000000)) rfl m_MOST_VALUE ⟨t_MOST_VALUE,rfl⟩))) Sv (gF (nR (v:=(.int 1000000000000000000000000000000000000000000000000000000000000)) rfl m_MOST_VALUE ⟨t_MOST_VALUE,rfl⟩)))))) aR
theorem zaW (T:Txt K mg C):RT P w K mg base k f ["x"] "is_key" Av Jf:=fun cdv A outer s H E hr=>by
 refine dM hr fun hu=>?_;have nd:=(NZ).nd;have B_all:=T.blt "all" (by x_go);have B_isinstance:=T.blt "isinstance" (by x_go);have B_len:=T.blt "len" (by x_go);have B_str:=T.blt "str" (by x_go);obtain⟨t_LETTERS,m_LETTERS⟩:=T.k_LETTERS;obtain⟨t_MOST_SIGNS,m_MOST_SIGNS⟩:=T.k_MOST_SIGNS;refine aH (dI (xM (uz (xq (T:="str") (fun t b h=>vP t "str" b h) Sv rfl B_isinstance rfl B_str boot_str))) (aH (cu Eb) aR) aR) ?_;exact aH (cu (lB (G9 (c1:=.le) (c2:=.le) hu Ei (mV sW rfl B_len xbL uf (au Sv aF aU)) (gF (nR (v:=(.int 8)) rfl m_MOST_SIGNS ⟨t_MOST_SIGNS,rfl⟩))) (rP (mV (QC rfl) rfl B_all boot_all Yl (au (SN.sem (Ot "sign" [] rfl (by x_go) (zcs Sv) (fun _ _ _ _ _ _=>Hr) (fun _ _ _ _ _ _=>(G_ (nA (X:=bU _ _ _ _ _ _ _ _ _) hu .isin) ud (fH rfl (.inl (by kernel_rfl))) (xu (nR (v:=(.str "abcdefghijklmnopqrstuvwxyz")) rfl m_LETTERS ⟨t_LETTERS,rfl⟩))))) Dk) aF zak))))) aR
theorem zab (T:Txt K mg C)(a_is_time:bC P w K mg base k "is_time" 1 pK)(a_is_value:bC P w K mg base k "is_value" 1 vH)(a_is_key:bC P w K mg base k "is_key" 1 pJ):RT P w K mg base k f ["parts"] "is_thing_item" Ax CK:=fun cdv A outer s H E hr=>by
 refine dM hr fun hu=>?_;have nd:=(N6).nd;have B_len:=T.blt "len" (by x_go);exact aH (cu (lB (Cm hu (mV sW rfl B_len xbL uf (au Sv aF aU)) Ei) (lB (Cm hu (Ek Sv Ei) Es) (lB (cF a_is_time hr rfl (au (Ek Sv Ei) aF kE) (cnt_cons cnt_nil)) (lB (cF a_is_key hr rfl (au (Ek Sv Ei) aF kE) (cnt_cons cnt_nil)) (rP (cF a_is_value hr rfl (au (Ek Sv Ei) aF kE) (cnt_cons cnt_nil)))))))) aR
theorem zac (T:Txt K mg C)(a_is_time:bC P w K mg base k "is_time" 1 pK):RT P w K mg base k f ["parts"] "is_mark_item" Aw CJ:=fun cdv A outer s H E hr=>by
 refine dM hr fun hu=>?_;have nd:=(N5).nd;have B_len:=T.blt "len" (by x_go);exact aH (cu (lB (Cm hu (mV sW rfl B_len xbL uf (au Sv aF aU)) Ei) (lB (Cm hu (Ek Sv Ei) Es) (rP (cF a_is_time hr rfl (au (Ek Sv Ei) aF kE) (cnt_cons cnt_nil)))))) aR
theorem zaG (T:Txt K mg C)(a_is_thing_item:bC P w K mg base k "is_thing_item" 1 tK)(a_is_mark_item:bC P w K mg base k "is_mark_item" 1 vG):RT P w K mg base k f ["x"] "is_item" Aq yM:=fun cdv A outer s H E hr=>by
 refine dM hr fun hu=>?_;have nd:=(NT).nd;have B_isinstance:=T.blt "isinstance" (by x_go);have B_tuple:=T.blt "tuple" (by x_go);refine aH (dI (xM (uz (xq (T:="tuple") (fun t b h=>vP t "tuple" b h) Sv rfl B_isinstance rfl B_tuple boot_tuple))) (aH (cu Eb) aR) aR) ?_;exact aH (cu (zcu (cF a_is_thing_item hr rfl (au Sv aF aU) (cnt_cons cnt_nil)) (rP (cF a_is_mark_item hr rfl (au Sv aF aU) (cnt_cons cnt_nil))))) aR
theorem zal (T:Txt K mg C):RT P w K mg base k f ["row","width","step"] "window_of" Ba CQ:=fun cdv A outer s H E hr=>by
 refine dM hr fun hu=>?_;have nd:=(Ob).nd;have B_int:=T.blt "int" (by x_go);refine aH (cj (i:=1) nd rfl Lv (xg Jr rfl B_int boot_int Ms (au (Ek (Ek Sv Ei) Ei) aF kE))) ?_;refine aH (cj (i:=2) nd rfl Lv (zcc (Ct hu (Ek Sv Ei) Es) (xg Jr rfl B_int boot_int Ms (au (Ek (Ek Sv Ei) Ei) aF kE)) Sv)) ?_;exact aH (cu (aZ (au Sv (au Sv (au (Ek (Ek Sv Ei) (gG gJ gC Ei)) aF kE) aU) aU))) aR
theorem Z4 (T:Txt K mg C)(hR:2<=k)(a_is_item:bC P w K mg base k "is_item" 1 lq):yC P w K mg base k f ["row","at","item"] "check_row" Aj yK:=fun cdv A outer s H E Wx hr XF XP=>by
 refine dM hr fun hu=>?_;have nd:=(Nx).nd;have B_enumerate:=T.blt "enumerate" (by x_go);obtain⟨fI_NoItem,fdI_NoItem,xi_NoItem,FI_NoItem,bI_NoItem⟩:=T.o_NoItem;have FO_NoItem:=Tq (P:=P) (w:=w) (mg:=mg) (base:=base) (k:=0) FI_NoItem zad T.xm_DamError T.xb_DamError (by first |exact Er (by x_go) |exact Et (by x_go))
 exact aH (zbl xcd rfl (n6 (i:=1) nd rfl Lw (n6 (i:=2) nd rfl Lw Hi)) rfl B_enumerate (au Sw aF aU) (aH (dI (xM (uz (cF a_is_item hr rfl (au Sw aF aU) (cnt_cons cnt_nil)))) (aH (zax XF rfl T.xm_NoItem T.xc_NoItem xi_NoItem T.xa_NoItem T.xk_NoItem FO_NoItem (hr.mono hR) bI_NoItem rfl Sw) aR) aR) aR)) aR
theorem zaM (T:Txt K mg C):RT P w K mg base k f ["works"] "ins_of" Ao CG:=fun cdv A outer s H E hr=>by
 refine dM hr fun hu=>?_;have nd:=(NP).nd;exact aH (cu (SN.sem (Ot "row" [] rfl (by x_go) (Bf Sv) (fun _ _ _ _ _ _=>(zcj (Hs (nA (X:=bU _ _ _ _ _ _ _ _ _) hu .eq) ud (Ek (fH rfl (.inl (by kernel_rfl))) Ei) Es))) (fun _ _ _ _ _ _=>(Ek (fH rfl (.inl (by kernel_rfl))) Ei))) Dk)) aR
theorem zaD (T:Txt K mg C)(a_window_of:bC P w K mg base k "window_of" 1 vI):RT P w K mg base k f ["row","lengths","above","froms","window"] "flow_of" Al sU:=fun cdv A outer s H E hr=>by
 refine dM hr fun hu=>?_;have nd:=(Nz).nd;have B_sum:=T.blt "sum" (by x_go);refine aH (dI (Ct hu (Ek Sv Ei) Es) (aH (cu (zaO hu Sv (Ek Sv Ei) Ei)) aR) aR) ?_;refine aH (Ow "name" [("above",2)] (i:=3) nd rfl Lv rfl (by x_go) (zcL (Ek Sv Ei)) (fun _ _ _ _ _ _=>Hr) (fun _ _ _ _ _ _=>(zbr hu (fH rfl (.inr (.inl (by kernel_rfl)))) (fH rfl (.inl (by kernel_rfl)))))) ?_;refine aH (dI (Ct hu (Ek Sv Ei) Es) (aH (cu (aO gP gR (Ek Sv Ei) (Ek Sv Ei))) aR) aR) ?_;refine aH (dI (Ct hu (Ek Sv Ei) Es) (aH (cj (i:=4) nd rfl Lv (cF a_window_of hr rfl (au Sv aF aU) (cnt_cons cnt_nil))) (aH (cu (aO gP gR (Ek Sv Ei) (aO Wt Ym (aO zQ zZ (aO cW cY (Ek Sv Ei) (Ek Sv Ei)) Ei) (Ek Sv Ei)))) aR)) aR) ?_;exact aH (cu (mV (QW rfl) rfl B_sum boot_sum Yo (au Sv aF aU))) aR
theorem zbh (T:Txt K mg C)(a_flow_of:bC P w K mg base k "flow_of" 3 iJ):yC P w K mg base k f ["works","lengths","found","row","flow"] "flows" Am Cz:=fun cdv A outer s H E Wx hr XF XP=>by
 refine dM hr fun hu=>?_;have nd:=(NK).nd;obtain⟨t_MOST_FLOW,m_MOST_FLOW⟩:=T.k_MOST_FLOW;refine aH (cj (i:=2) nd rfl Lw Og) ?_;refine aH (uy xcd rfl nd rfl Lw (Bf Sw) (aH (cj (i:=4) nd rfl Lw (cF a_flow_of hr rfl (au Sw (au Sw (au Sw aF aU) aU) aU) (cnt_cons (cnt_cons (cnt_cons cnt_nil))))) (aH (dI (Ct hu Sw (gF (nR (v:=(.int 2000)) rfl m_MOST_FLOW ⟨t_MOST_FLOW,rfl⟩))) (aH (OD XF rfl T.xm_TooMuch T.xc_TooMuch T.xn_TooMuch T.xk_TooMuch rfl (Oh (Ho (zbQ (gF (nR (v:=(.int 2000)) rfl m_MOST_FLOW ⟨t_MOST_FLOW,rfl⟩)) (Ho Oo))))) aR) aR) (aH (zba hu Sw (Ek Sw Ei) Sw) aR)))) ?_;exact aH (cu Sw) aR
theorem Z5 (T:Txt K mg C)(a_ins_of:bC P w K mg base k "ins_of" 1 pI)(x_check_row:fL P w K mg base k "check_row" 1 pG)(x_flows:fL P w K mg base k "flows" 2 pH):yC P w K mg base k f ["works","rows","ins","name"] "check_rows" Ak yL:=fun cdv A outer s H E Wx hr XF XP=>by
 refine dM hr fun hu=>?_;have nd:=(Ny).nd;have B_dict:=T.blt "dict" (by x_go);have B_len:=T.blt "len" (by x_go);refine aH (cj (i:=2) nd rfl Lw (cF a_ins_of hr rfl (au Sw aF aU) (cnt_cons cnt_nil))) ?_;refine aH (uy xcd rfl nd rfl Lw (zbf Sw) (aH (dI (Ct hu Sw Sw) (aH (OD XF rfl T.xm_NoIn T.xc_NoIn T.xn_NoIn T.xk_NoIn rfl (Oh (zbP Sw (Ho Oo)))) aR) aR) aR)) ?_;refine aH (uy xcd rfl nd rfl Lw (Bf Sw) (aH (Ox (SX.se XP (Bl x_check_row hr rfl (au (zaP hu Sw Sw (SN.sem (fJ aF) lst_is)) aF gH) (cnt_cons cnt_nil)))) aR)) ?_;exact aH (Ox (SX.se XP (Bl x_flows hr rfl (au Sw (au (zbI rfl rfl B_dict (SN.sem (zaS "name" "row" [] rfl (by x_go) Sw (fun _ _ _ _ _ _=>(aZ (au (fH rfl (.inl (by kernel_rfl))) (au (mV sW rfl B_len xbL uf (au (fH rfl (.inl (by kernel_rfl))) aF aU)) aF gH) aU)))) Rk)) aF gH) aU) (cnt_cons (cnt_cons cnt_nil))))) aR
theorem Zy (T:Txt K mg C):RT P w K mg base k f ["_law_script","_law_k"] "_law_cell_at" Aa Ci:=fun cdv A outer s H E hr=>by
 refine dM hr fun hu=>?_;have nd:=(Ni).nd;have B_len:=T.blt "len" (by x_go);refine aH (dI (Ct hu Sv (mV sW rfl B_len xbL uf (au Sv aF aU))) (aH (cu (Ek Sv Sv)) aR) aR) ?_;exact aH (cu Ei) aR
theorem ZF (T:Txt K mg C):RT P w K mg base k f ["_law_number","_law_k","_law_some","_law_word","_law_place"] "_law_name" Af Cq:=fun cdv A outer s H E hr=>by
 refine dM hr fun hu=>?_;have nd:=(Np).nd;have B_range:=T.blt "range" (by x_go);have B_str:=T.blt "str" (by x_go);refine aH (cj (i:=2) nd rfl Lv Es) ?_;refine aH (cj (i:=3) nd rfl Lv (Ek Sv (aO cX cZ Sv Ei))) ?_;refine aH (uy xc8 rfl nd rfl Lv (Hl rfl B_range (au (aO cX cZ (aO mC mD Sv Ei) Ei) aF iH)) (aH (cj (i:=3) nd rfl Lv (aO cW cY Sv (Ek (aO cW cY Sv Es) (aO cX cZ (aO mC mD Sv (aO cW cY Ei (aO gP gR Ei Sv))) Ei)))) aR)) ?_;exact aH (cu (aO cW cY Sv (xg CW rfl B_str boot_str Gm (au Sv aF aU)))) aR
theorem ZM (T:Txt K mg C):RT P w K mg base k f ["_law_cell","_law_names","_law_folds","_law_one","_law_other","_law_third","_law_last","_law_works_here","_law_step","_law_width"] "_law_works" Ai Cy:=fun cdv A outer s H E hr=>by
 refine dM hr fun hu=>?_;have nd:=(Nv).nd;have B_max:=T.blt "max" (by x_go);have B_str:=T.blt "str" (by x_go);refine aH (zbj rfl (n6 (i:=3) nd rfl Lv (n6 (i:=4) nd rfl Lv (n6 (i:=5) nd rfl Lv (n6 (i:=6) nd rfl Lv Hi)))) Sv) ?_;refine aH (Oz (i:=7) nd rfl Lv (fJ (au (aZ (au Es (au Sv (au (aZ aF) (au (aZ aF) aF bM) bM) aU) aK)) (au (aZ (au Es (au Sv (au (aZ aF) (au (aZ aF) aF bM) bM) aU) aK)) aF bM) bM))) ?_;refine aH (dI (Ct hu (aO cX cZ Sv Ei) Ei) (aH (rW rfl Lu (aZ (au Es (au Sv (au (aZ (au Sv (au Sv aF aU) aU)) (au (aZ (au Es (au Es aF aK) aK)) aF bM) bM) aU) aK))) aR) aR) ?_;refine aH (dI (Ct hu (aO cX cZ Sv Ei) Ei) (aH (cj (i:=8) nd rfl Lv (aO cW cY Ei (aO cX cZ (aO mC mD Sv Ei) Ei))) (aH (cj (i:=9) nd rfl Lv (mV (QS rfl) rfl B_max boot_max Yn (au Sv (au (aO zQ zZ (aO gP gR Sv Sv) (aO cX cZ (aO mC mD Sv Ei) Sv)) aF iH) aU))) (aH (rW rfl Lu (aZ (au Es (au Sv (au (aZ (au Sv aF aU)) (au (aZ (au (xg CW rfl B_str boot_str Gm (au Sv aF aU)) (au (xg CW rfl B_str boot_str Gm (au Sv aF aU)) (au Es aF aK) gH) gH)) aF bM) bM) aU) aK))) (aH (rW rfl Lu (aZ (au Es (au Sv (au (aZ (au Sv (au Sv aF aU) aU)) (au (aZ (au Es (au Es (au Es (au Es aF aK) aK) aK) aK)) aF bM) bM) aU) aK))) aR)))) aR) ?_;refine aH (dI (Ct hu (aO cX cZ Sv Ei) Ei) (aH (rW rfl Lu (aZ (au Es (au Sv (au (aZ (au Sv (au Sv (au Sv aF aU) aU) aU)) (au (aZ aF) aF bM) bM) aU) aK))) (aH (rW rfl Lu (aZ (au Es (au Sv (au (aZ (au Sv (au Sv aF aU) aU)) (au (aZ (au Es (au Es aF aK) aK)) aF bM) bM) aU) aK))) aR)) aR) ?_;refine Nh ?_;exact aH (cu Sv) aR
theorem ZD (T:Txt K mg C)(a__cell_at:bC P w K mg base k "_law_cell_at" 2 f9):RT P w K mg base k f ["_law_script","_law_cell","_law_some"] "_law_lengths" Ae yI:=fun cdv A outer s H E hr=>by
  refine @dM _ _ _ _ _ hr fun hu=>?_;have nd:=(Nm).nd;refine @aH _ _ _ _ _ _ ?_ ?_
  · refine @cj _ _ _ 1 _ _ _ _ nd rfl Lv ?_ (by first |rfl |exact .inl rfl |exact .inr rfl |exact fun _ _=>rfl |exact fun _=>rfl |exact⟨rfl,rfl,rfl,rfl⟩ |decide +kernel |kernel_rfl) (by first |rfl |exact .inl rfl |exact .inr rfl |exact fun _ _=>rfl |exact fun _=>rfl |exact⟨rfl,rfl,rfl,rfl⟩ |decide +kernel |kernel_rfl)
    · refine @cF _ _ _ _ _ _ _ _ _ _ _ _ a__cell_at hr rfl ?_ ?_ (by first |rfl |exact .inl rfl |exact .inr rfl |exact fun _ _=>rfl |exact fun _=>rfl |exact⟨rfl,rfl,rfl,rfl⟩ |decide +kernel |kernel_rfl) (by first |rfl |exact .inl rfl |exact .inr rfl |exact fun _ _=>rfl |exact fun _=>rfl |exact⟨rfl,rfl,rfl,rfl⟩ |decide +kernel |kernel_rfl) (by first |rfl |exact .inl rfl |exact .inr rfl |exact fun _ _=>rfl |exact fun _=>rfl |exact⟨rfl,rfl,rfl,rfl⟩ |decide +kernel |kernel_rfl)
      · refine @au _ _ _ _ _ _ _ Sv ?_ aU
        · refine @au _ _ _ _ _ _ _ Ei aF aK
      · exact(cnt_cons (cnt_cons cnt_nil))
  refine @aH _ _ _ _ _ _ ?_ ?_
  · refine @cj _ _ _ 2 _ _ _ _ nd rfl Lv ?_ (by first |rfl |exact .inl rfl |exact .inr rfl |exact fun _ _=>rfl |exact fun _=>rfl |exact⟨rfl,rfl,rfl,rfl⟩ |decide +kernel |kernel_rfl) (by first |rfl |exact .inl rfl |exact .inr rfl |exact fun _ _=>rfl |exact fun _=>rfl |exact⟨rfl,rfl,rfl,rfl⟩ |decide +kernel |kernel_rfl)
    · refine @SN.sem _ _ _ _ _ ?_ lst_is
      · refine @fJ _ _ _ _ _ ?_
        · refine @au _ _ _ _ _ _ _ ?_ ?_ bM
          · refine @aZ _ _ _ _ _ _ _ ?_
            · refine @au _ _ _ _ _ _ _ Ei ?_ aK
              · refine @au _ _ _ _ _ _ _ Ei aF aK
          · refine @au _ _ _ _ _ _ _ ?_ ?_ bM
            · refine @aZ _ _ _ _ _ _ _ ?_
              · refine @au _ _ _ _ _ _ _ Ei ?_ aK
                · refine @au _ _ _ _ _ _ _ Ei aF aK
            · refine @au _ _ _ _ _ _ _ ?_ ?_ bM
              · refine @aZ _ _ _ _ _ _ _ ?_
                · refine @au _ _ _ _ _ _ _ Ei ?_ aK
                  · refine @au _ _ _ _ _ _ _ Ei aF aK
              · refine @au _ _ _ _ _ _ _ ?_ ?_ bM
                · refine @aZ _ _ _ _ _ _ _ ?_
                  · refine @au _ _ _ _ _ _ _ Ei ?_ aK
                    · refine @au _ _ _ _ _ _ _ Ei aF aK
                · refine @au _ _ _ _ _ _ _ ?_ ?_ bM
                  · refine @aZ _ _ _ _ _ _ _ ?_
                    · refine @au _ _ _ _ _ _ _ Ei ?_ aK
                      · refine @au _ _ _ _ _ _ _ Ei aF aK
                  · refine @au _ _ _ _ _ _ _ ?_ aF bM
                    · refine @aZ _ _ _ _ _ _ _ ?_
                      · refine @au _ _ _ _ _ _ _ Ei ?_ aK
                        · refine @au _ _ _ _ _ _ _ Ei aF aK
  refine @aH _ _ _ _ _ _ ?_ ?_
  · refine @dI _ _ _ _ _ _ _ _ _ ?_ ?_ aR
    · refine @Hs _ _ _ _ _ _ _ _ _ _ (nA hu .eq) ud ?_ Ei (by first |rfl |exact .inl rfl |exact .inr rfl |exact fun _ _=>rfl |exact fun _=>rfl |exact⟨rfl,rfl,rfl,rfl⟩ |decide +kernel |kernel_rfl)
      · refine @aO _ _ _ _ _ _ _ _ _ _ _ cX cZ Sv Ei
    · refine @aH _ _ _ _ _ _ ?_ aR
      · refine @cu _ _ _ _ _ ?_
        · refine @Hg _ _ _ _ _ _ _ _ _ _ EY Gk Sv ?_ (by first |rfl |exact .inl rfl |exact .inr rfl |exact fun _ _=>rfl |exact fun _=>rfl |exact⟨rfl,rfl,rfl,rfl⟩ |decide +kernel |kernel_rfl)
          · refine @aO _ _ _ _ _ _ _ _ _ _ _ cX cZ ?_ Ei
            · refine @aO _ _ _ _ _ _ _ _ _ _ _ mC mD Sv Ei
  refine @aH _ _ _ _ _ _ ?_ ?_
  · refine @cu _ _ _ _ _ ?_
    · refine @aZ _ _ _ _ _ _ _ ?_
      · refine @au _ _ _ _ _ _ _ ?_ ?_ iH
        · refine @aO _ _ _ _ _ _ _ _ _ _ _ cX cZ ?_ Ei
          · refine @aO _ _ _ _ _ _ _ _ _ _ _ mC mD Sv Ei
        · refine @au _ _ _ _ _ _ _ ?_ aF iH
          · refine @aO _ _ _ _ _ _ _ _ _ _ _ cX cZ ?_ Ei
            · refine @cF _ _ _ _ _ _ _ _ _ _ _ _ a__cell_at hr rfl ?_ ?_ (by first |rfl |exact .inl rfl |exact .inr rfl |exact fun _ _=>rfl |exact fun _=>rfl |exact⟨rfl,rfl,rfl,rfl⟩ |decide +kernel |kernel_rfl) (by first |rfl |exact .inl rfl |exact .inr rfl |exact fun _ _=>rfl |exact fun _=>rfl |exact⟨rfl,rfl,rfl,rfl⟩ |decide +kernel |kernel_rfl) (by first |rfl |exact .inl rfl |exact .inr rfl |exact fun _ _=>rfl |exact fun _=>rfl |exact⟨rfl,rfl,rfl,rfl⟩ |decide +kernel |kernel_rfl)
              · refine @au _ _ _ _ _ _ _ Sv ?_ aU
                · refine @au _ _ _ _ _ _ _ Ei aF aK
              · exact(cnt_cons (cnt_cons cnt_nil))
  exact aR
theorem ZC (T:Txt K mg C):RT P w K mg base k f ["_law_many","_law_cell","_law_found","_law_k","_law_time"] "_law_items" Ac Ck:=fun cdv A outer s H E hr=>by
 refine dM hr fun hu=>?_;have nd:=(Nk).nd;have B_range:=T.blt "range" (by x_go);refine aH (Oz (i:=2) nd rfl Lv (fJ aF)) ?_;refine aH (uy xc8 rfl nd rfl Lv (Hl rfl B_range (au Sv aF aU)) (aH (cj (i:=4) nd rfl Lv (aO cX cZ (aO cW cY Sv (aO gP gR (aO gP gR Ei Sv) Sv)) (aO cW cY (aO pZ rC Ei Ei) Ei))) (aH (dI (Ct hu (aO cX cZ (aO cW cY Sv Sv) Ei) Ei) (aH (rW rfl Lu (aZ (au Es (au Sv aF aU) aK))) aR) (aH (rW rfl Lu (aZ (au Es (au Sv (au (Bd Es Bh (Bg (Wx:=W0) (aO cW cY Ei (aO cX cZ Sv Ei)))) (au (aO zQ zZ (aO cX cZ Sv (aO cW cY (aO gP gR Ei (aO pZ rC Ei Ei)) Ei)) (aO pZ rC Ei Ei)) aF iH) kE) aU) aK))) aR)) aR))) ?_;refine Nh ?_;exact aH (cu Sv) aR
theorem ZG (T:Txt K mg C):RT P w K mg base k f ["_law_cell","_law_some"] "_law_odd" Ag Cr:=fun cdv A outer s H E hr=>by
  refine @dM _ _ _ _ _ hr fun hu=>?_;have nd:=(Nq).nd;refine @aH _ _ _ _ _ _ ?_ ?_
  · refine @cj _ _ _ 1 _ _ _ _ nd rfl Lv ?_ (by first |rfl |exact .inl rfl |exact .inr rfl |exact fun _ _=>rfl |exact fun _=>rfl |exact⟨rfl,rfl,rfl,rfl⟩ |decide +kernel |kernel_rfl) (by first |rfl |exact .inl rfl |exact .inr rfl |exact fun _ _=>rfl |exact fun _=>rfl |exact⟨rfl,rfl,rfl,rfl⟩ |decide +kernel |kernel_rfl)
    · refine @SN.sem _ _ _ _ _ ?_ lst_is
      · refine @fJ _ _ _ _ _ ?_
        · refine @au _ _ _ _ _ _ _ ?_ ?_ aK
          · refine @rO _ _ _ _ Ga
          · refine @au _ _ _ _ _ _ _ Ei ?_ aK
            · refine @au _ _ _ _ _ _ _ Es ?_ aK
              · refine @au _ _ _ _ _ _ _ ?_ ?_ OJ
                · refine @SN.sem _ _ _ _ _ ?_ lst_is
                  · refine @fJ _ _ _ _ _ ?_
                    · refine @au _ _ _ _ _ _ _ Es ?_ aK
                      · refine @au _ _ _ _ _ _ _ Ei aF aK
                · refine @au _ _ _ _ _ _ _ ?_ ?_ bM
                  · refine @aZ _ _ _ _ _ _ _ ?_
                    · refine @au _ _ _ _ _ _ _ Es aF aK
                  · refine @au _ _ _ _ _ _ _ ?_ ?_ bM
                    · refine @aZ _ _ _ _ _ _ _ ?_
                      · refine @au _ _ _ _ _ _ _ Es ?_ aK
                        · refine @au _ _ _ _ _ _ _ ?_ aF kI
                          · refine @gG _ _ _ _ _ _ _ _ _ gJ gC Ei
                    · refine @au _ _ _ _ _ _ _ ?_ ?_ bM
                      · refine @aZ _ _ _ _ _ _ _ ?_
                        · refine @au _ _ _ _ _ _ _ Es ?_ aK
                          · refine @au _ _ _ _ _ _ _ ?_ aF iH
                            · refine @aO _ _ _ _ _ _ _ _ _ _ _ cW cY ?_ Ei
                              · refine @aO _ _ _ _ _ _ _ _ _ _ _ pZ rC Ei Ei
                      · refine @au _ _ _ _ _ _ _ ?_ aF bM
                        · refine @aZ _ _ _ _ _ _ _ ?_
                          · refine @au _ _ _ _ _ _ _ Es ?_ aK
                            · refine @au _ _ _ _ _ _ _ Eb aF aK
  refine @aH _ _ _ _ _ _ ?_ ?_
  · refine @cj _ _ _ 1 _ _ _ _ nd rfl Lv ?_ (by first |rfl |exact .inl rfl |exact .inr rfl |exact fun _ _=>rfl |exact fun _=>rfl |exact⟨rfl,rfl,rfl,rfl⟩ |decide +kernel |kernel_rfl) (by first |rfl |exact .inl rfl |exact .inr rfl |exact fun _ _=>rfl |exact fun _=>rfl |exact⟨rfl,rfl,rfl,rfl⟩ |decide +kernel |kernel_rfl)
    · refine @aO _ _ _ _ _ _ _ _ _ _ _ cW cY Sv ?_
      · refine @SN.sem _ _ _ _ _ ?_ lst_is
        · refine @fJ _ _ _ _ _ ?_
          · refine @au _ _ _ _ _ _ _ ?_ ?_ bM
            · refine @aZ _ _ _ _ _ _ _ ?_
              · refine @au _ _ _ _ _ _ _ Es ?_ aK
                · refine @au _ _ _ _ _ _ _ Ei ?_ aK
                  · refine @au _ _ _ _ _ _ _ Es aF aK
            · refine @au _ _ _ _ _ _ _ ?_ ?_ bM
              · refine @aZ _ _ _ _ _ _ _ ?_
                · refine @au _ _ _ _ _ _ _ Es ?_ aK
                  · refine @au _ _ _ _ _ _ _ Ei ?_ aK
                    · refine @au _ _ _ _ _ _ _ Es ?_ aK
                      · refine @au _ _ _ _ _ _ _ Ei aF aK
              · refine @au _ _ _ _ _ _ _ ?_ ?_ bM
                · refine @aZ _ _ _ _ _ _ _ ?_
                  · refine @au _ _ _ _ _ _ _ Es ?_ aK
                    · refine @au _ _ _ _ _ _ _ Ei ?_ aK
                      · refine @au _ _ _ _ _ _ _ Es ?_ aK
                        · refine @au _ _ _ _ _ _ _ Ei aF aK
                · refine @au _ _ _ _ _ _ _ ?_ aF bM
                  · refine @aZ _ _ _ _ _ _ _ ?_
                    · refine @au _ _ _ _ _ _ _ Es ?_ aK
                      · refine @au _ _ _ _ _ _ _ Ei ?_ aK
                        · refine @au _ _ _ _ _ _ _ Es ?_ aK
                          · refine @au _ _ _ _ _ _ _ Ei aF aK
  refine @aH _ _ _ _ _ _ ?_ ?_
  · refine @cj _ _ _ 1 _ _ _ _ nd rfl Lv ?_ (by first |rfl |exact .inl rfl |exact .inr rfl |exact fun _ _=>rfl |exact fun _=>rfl |exact⟨rfl,rfl,rfl,rfl⟩ |decide +kernel |kernel_rfl) (by first |rfl |exact .inl rfl |exact .inr rfl |exact fun _ _=>rfl |exact fun _=>rfl |exact⟨rfl,rfl,rfl,rfl⟩ |decide +kernel |kernel_rfl)
    · refine @aO _ _ _ _ _ _ _ _ _ _ _ cW cY Sv ?_
      · refine @SN.sem _ _ _ _ _ ?_ lst_is
        · refine @fJ _ _ _ _ _ ?_
          · refine @au _ _ _ _ _ _ _ ?_ ?_ bM
            · refine @aZ _ _ _ _ _ _ _ ?_
              · refine @au _ _ _ _ _ _ _ Es ?_ aK
                · refine @au _ _ _ _ _ _ _ Ei ?_ aK
                  · refine @au _ _ _ _ _ _ _ Es ?_ aK
                    · refine @au _ _ _ _ _ _ _ ?_ aF iH
                      · refine @aO _ _ _ _ _ _ _ _ _ _ _ cW cY ?_ Ei
                        · refine @aO _ _ _ _ _ _ _ _ _ _ _ pZ rC Ei Ei
            · refine @au _ _ _ _ _ _ _ ?_ ?_ bM
              · refine @aZ _ _ _ _ _ _ _ ?_
                · refine @au _ _ _ _ _ _ _ Es ?_ aK
                  · refine @au _ _ _ _ _ _ _ ?_ ?_ kI
                    · refine @gG _ _ _ _ _ _ _ _ _ gJ gC Ei
                    · refine @au _ _ _ _ _ _ _ Es ?_ aK
                      · refine @au _ _ _ _ _ _ _ Ei aF aK
              · refine @au _ _ _ _ _ _ _ ?_ ?_ bM
                · refine @aZ _ _ _ _ _ _ _ ?_
                  · refine @au _ _ _ _ _ _ _ Es ?_ aK
                    · refine @au _ _ _ _ _ _ _ Ei ?_ aK
                      · refine @au _ _ _ _ _ _ _ Es ?_ aK
                        · refine @au _ _ _ _ _ _ _ Ei aF aK
                · refine @au _ _ _ _ _ _ _ ?_ aF bM
                  · refine @aZ _ _ _ _ _ _ _ ?_
                    · refine @au _ _ _ _ _ _ _ Es ?_ aK
                      · refine @au _ _ _ _ _ _ _ Ei aF aK
  refine @aH _ _ _ _ _ _ ?_ ?_
  · refine @cj _ _ _ 1 _ _ _ _ nd rfl Lv ?_ (by first |rfl |exact .inl rfl |exact .inr rfl |exact fun _ _=>rfl |exact fun _=>rfl |exact⟨rfl,rfl,rfl,rfl⟩ |decide +kernel |kernel_rfl) (by first |rfl |exact .inl rfl |exact .inr rfl |exact fun _ _=>rfl |exact fun _=>rfl |exact⟨rfl,rfl,rfl,rfl⟩ |decide +kernel |kernel_rfl)
    · refine @aO _ _ _ _ _ _ _ _ _ _ _ cW cY Sv ?_
      · refine @SN.sem _ _ _ _ _ ?_ lst_is
        · refine @fJ _ _ _ _ _ ?_
          · refine @au _ _ _ _ _ _ _ ?_ ?_ bM
            · refine @aZ _ _ _ _ _ _ _ ?_
              · refine @au _ _ _ _ _ _ _ Es ?_ aK
                · refine @au _ _ _ _ _ _ _ Ei ?_ aK
                  · refine @au _ _ _ _ _ _ _ Ei ?_ aK
                    · refine @au _ _ _ _ _ _ _ Ei aF aK
            · refine @au _ _ _ _ _ _ _ ?_ ?_ bM
              · refine @aZ _ _ _ _ _ _ _ ?_
                · refine @au _ _ _ _ _ _ _ Es ?_ aK
                  · refine @au _ _ _ _ _ _ _ Eb ?_ aK
                    · refine @au _ _ _ _ _ _ _ Es ?_ aK
                      · refine @au _ _ _ _ _ _ _ Ei aF aK
              · refine @au _ _ _ _ _ _ _ ?_ ?_ bM
                · refine @aZ _ _ _ _ _ _ _ ?_
                  · refine @au _ _ _ _ _ _ _ Es ?_ aK
                    · refine @au _ _ _ _ _ _ _ Ei ?_ aK
                      · refine @au _ _ _ _ _ _ _ Es ?_ aK
                        · refine @au _ _ _ _ _ _ _ Eb aF aK
                · refine @au _ _ _ _ _ _ _ ?_ ?_ bM
                  · refine @aZ _ _ _ _ _ _ _ aF
                  · refine @au _ _ _ _ _ _ _ ?_ aF bM
                    · refine @aZ _ _ _ _ _ _ _ ?_
                      · refine @au _ _ _ _ _ _ _ Es ?_ aK
                        · refine @au _ _ _ _ _ _ _ Ei ?_ aK
                          · refine @au _ _ _ _ _ _ _ Ei aF aK
  refine @aH _ _ _ _ _ _ ?_ ?_
  · refine @cj _ _ _ 1 _ _ _ _ nd rfl Lv ?_ (by first |rfl |exact .inl rfl |exact .inr rfl |exact fun _ _=>rfl |exact fun _=>rfl |exact⟨rfl,rfl,rfl,rfl⟩ |decide +kernel |kernel_rfl) (by first |rfl |exact .inl rfl |exact .inr rfl |exact fun _ _=>rfl |exact fun _=>rfl |exact⟨rfl,rfl,rfl,rfl⟩ |decide +kernel |kernel_rfl)
    · refine @aO _ _ _ _ _ _ _ _ _ _ _ cW cY Sv ?_
      · refine @SN.sem _ _ _ _ _ ?_ lst_is
        · refine @fJ _ _ _ _ _ ?_
          · refine @au _ _ _ _ _ _ _ ?_ ?_ bM
            · refine @aZ _ _ _ _ _ _ _ ?_
              · refine @au _ _ _ _ _ _ _ Es ?_ aK
                · refine @au _ _ _ _ _ _ _ ?_ ?_ iH
                  · refine @aO _ _ _ _ _ _ _ _ _ _ _ cW cY ?_ Ei
                    · refine @aO _ _ _ _ _ _ _ _ _ _ _ pZ rC Ei Ei
                  · refine @au _ _ _ _ _ _ _ Es ?_ aK
                    · refine @au _ _ _ _ _ _ _ Ei aF aK
            · refine @au _ _ _ _ _ _ _ ?_ ?_ bM
              · refine @aZ _ _ _ _ _ _ _ ?_
                · refine @au _ _ _ _ _ _ _ Es ?_ aK
                  · refine @au _ _ _ _ _ _ _ Ei ?_ aK
                    · refine @au _ _ _ _ _ _ _ Es ?_ aK
                      · refine @au _ _ _ _ _ _ _ ?_ aF iH
                        · refine @aO _ _ _ _ _ _ _ _ _ _ _ zQ zZ ?_ Ei
                          · refine @gG _ _ _ _ _ _ _ _ _ gJ gC ?_
                            · refine @aO _ _ _ _ _ _ _ _ _ _ _ pZ rC Ei Ei
              · refine @au _ _ _ _ _ _ _ ?_ aF bM
                · refine @aZ _ _ _ _ _ _ _ ?_
                  · refine @au _ _ _ _ _ _ _ Es ?_ aK
                    · refine @au _ _ _ _ _ _ _ Ei ?_ aK
                      · refine @au _ _ _ _ _ _ _ Es ?_ aK
                        · refine @au _ _ _ _ _ _ _ ?_ aF aK
                          · refine @rO _ _ _ _ Ga
  refine @aH _ _ _ _ _ _ ?_ ?_
  · refine @cu _ _ _ _ _ ?_
    · refine @Hg _ _ _ _ _ _ _ _ _ _ EY Gk Sv ?_ (by first |rfl |exact .inl rfl |exact .inr rfl |exact fun _ _=>rfl |exact fun _=>rfl |exact⟨rfl,rfl,rfl,rfl⟩ |decide +kernel |kernel_rfl)
      · refine @aO _ _ _ _ _ _ _ _ _ _ _ cX cZ Sv Ei
  exact aR
theorem ZL (T:Txt K mg C)(a__odd:bC P w K mg base k "_law_odd" 1 tD):RT P w K mg base k f ["_law_items_here","_law_cell","_law_at"] "_law_spoiled" Ah yJ:=fun cdv A outer s H E hr=>by
 refine dM hr fun hu=>?_;have nd:=(Nu).nd;have B_len:=T.blt "len" (by x_go);refine aH (dI (Ct hu Sv (SN.sem (fJ aF) lst_is)) (aH (cu (aZ (au Ei (au (SN.sem (fJ (au (cF a__odd hr rfl (au Sv aF aU) (cnt_cons cnt_nil)) aF gH)) lst_is) aF OJ) aK))) aR) aR) ?_;refine aH (cj (i:=2) nd rfl Lv (aO cX cZ (aO mC mD Sv Ei) (mV sW rfl B_len xbL uf (au Sv aF aU)))) ?_;exact aH (cu (aZ (au Sv (au (aO cW cY (aO cW cY (Bd Sv Bh (Bg (Wx:=W0) Sv)) (SN.sem (fJ (au (cF a__odd hr rfl (au Sv aF aU) (cnt_cons cnt_nil)) aF gH)) lst_is)) (Bd Sv (Bg (Wx:=W0) (aO cW cY Sv Ei)) Bh)) aF iH) aU))) aR
theorem ZK (T:Txt K mg C)(x_check_rows:fL P w K mg base k "check_rows" 2 gh):RT P w K mg base k f ["_law_works_here","_law_rows","_law_found","_law_said_here","e"] "_law_said" w6 Cw:=fun cdv A outer s H E hr=>by
 refine dM hr fun hu=>?_;have nd:=(Nt).nd;have B_bool:=T.blt "bool" (by x_go);have B_isinstance:=T.blt "isinstance" (by x_go);refine aH (cj (i:=2) nd rfl Lu Ei) ?_;refine aH (cj (i:=3) nd rfl Lu (aZ (au Es (au (gG gJ gC Ei) aF kI) aK))) ?_;refine aH (zbc rfl rfl rfl (fun pins E'=>(Jm (zch (i:=2) nd rfl Lu (Bl x_check_rows hr rfl (au Su (au Su aF aU) aU) (cnt_cons (cnt_cons cnt_nil)))))) (Ol rfl T.xm_NoIn T.xc_NoIn (QX T) (fun e'=>(aH (cj (i:=3) nd rfl Lu (aZ (au Es (au (gG gJ gC Ei) aF kI) aK))) aR)) (zc2 (i:=4) nd rfl zaB rfl T.xm_NoItem T.xc_NoItem (QZ T) (fun e'=>(aH (cj (i:=3) nd rfl Lu (aZ (au Es (au (zb8 rfl Lu (fun c C h m=>W2 T c C h m)) aF zaj) aK))) aR)) (Ol rfl T.xm_TooMuch T.xc_TooMuch (Q0 T) (fun e'=>(aH (cj (i:=3) nd rfl Lu (aZ (au Es (au (gG gJ gC Ei) aF kI) aK))) aR)) zci)))) ?_;refine aH (dI (SW.st (Bj (Ct hu (Ek Su Ei) Es) (Bk (Ct hu Su (rO Ga))))) (aH (cu (aZ (au Es (au (gG gJ gC Ei) aF kI) aK))) aR) aR) ?_;refine aH (dI (uz (xq (T:="bool") (fun t b h=>vP t "bool" b h) (Ek Su Ei) rfl B_isinstance rfl B_bool boot_bool)) (aH (cu (aZ (au Es (au (gG gJ gC Ei) aF kI) aK))) aR) aR) ?_;exact aH (cu Su) aR
theorem ZJ (T:Txt K mg C)(x_check_rows:fL P w K mg base k "check_rows" 2 gh):RT P w K mg base k f ["_law_works_here","_law_rows","e"] "_law_one_class" w5 Cu:=fun cdv A outer s H E hr=>by
 refine dM hr fun hu=>?_;have nd:=(Nr).nd;have B_ValueError:=T.blt "ValueError" (by x_go);have B_isinstance:=T.blt "isinstance" (by x_go);refine aH (zbR (i:=2) rfl rfl rfl nd rfl yh rfl T.xm_DamError T.xc_DamError (fun c h=>Q5 T c h) (fun pins E'=>(Jm (zbu (Bl x_check_rows hr rfl (au Su (au Su aF aU) aU) (cnt_cons (cnt_cons cnt_nil)))))) (fun e'=>(aH (dI (xM (uz (za5 (T:="ValueError") rfl yh (fun c b h=>zaa T c b h) rfl B_isinstance rfl B_ValueError PyProof.Rows.Boot.«ValueError»))) (aH (cu Eb) aR) aR) (aH (cu (G_ (nA (X:=Cx.suite _ e') hu .eq) ud (zaF hu (SN.sem (fJ (au (Hf rfl yh (fun c b h=>zau T c b h) rfl B_isinstance rfl T.xm_NoIn) (au (Hf rfl yh (fun c b h=>zai T c b h) rfl B_isinstance rfl T.xm_NoItem) (au (Hf rfl yh (fun c b h=>zag T c b h) rfl B_isinstance rfl T.xm_TooMuch) aF gH) gH) gH)) lst_is) Eb) Ei)) aR)))) ?_;exact aH (cu Eb) aR
theorem Zz (T:Txt K mg C):RT P w K mg base k f ["_law_cell","_law_one","_law_other","_law_folds"] "_law_flow" Ab Cj:=fun cdv A outer s H E hr=>by
 refine dM hr fun hu=>?_;have nd:=(Nj).nd;refine aH (dI (Ct hu (aO cX cZ Sv Ei) Ei) (aH (cu (aO gP gR Sv Sv)) aR) aR) ?_;refine aH (dI (Ct hu (aO cX cZ Sv Ei) Ei) (aH (cu (aO gP gR (aO gP gR Sv Sv) Sv)) aR) aR) ?_;exact aH (cu (aO gP gR (aO cW cY (aO gP gR Ei Sv) Sv) (aO cW cY (aO gP gR Ei Sv) Sv))) aR
theorem zdd (T:Txt K mg C)(a__cell_at:bC P w K mg base k "_law_cell_at" 2 f9)(a__name:bC P w K mg base k "_law_name" 2 vC)(a__works:bC P w K mg base k "_law_works" 3 nH)(a__lengths:bC P w K mg base k "_law_lengths" 1 sZ)(a__items:bC P w K mg base k "_law_items" 2 sY)(a__spoiled:bC P w K mg base k "_law_spoiled" 2 pF)(a__said:bC P w K mg base k "_law_said" 2 pD)(a__one_class:bC P w K mg base k "_law_one_class" 2 vD)(a__flow:bC P w K mg base k "_law_flow" 4 vB):RT P w K mg base k f ["_law_script","_law_kind","_law_names","_law_one","_law_other","_law_folds","_law_works_here","_law_bits","_law_items_here","_law_due","_law_k","_law_at","_law_rows","_law_strange","_law_kept","_law_handed"] "law" iM yN:=fun cdv A outer s H E hr=>by
 refine dM hr fun hu=>?_;have nd:=(Oa).nd;have B_dict:=T.blt "dict" (by x_go);have B_list:=T.blt "list" (by x_go);have B_range:=T.blt "range" (by x_go);refine aH (cj (i:=1) nd rfl Lv (aO cX cZ (cF a__cell_at hr rfl (au (fH rfl (.inr Lu)) (au Ei aF aK) aU) (cnt_cons (cnt_cons cnt_nil))) Ei)) ?_;refine aH (Ow "_law_k" [("_law_script",0)] (i:=2) nd rfl Lv rfl (by x_go) (Hl rfl B_range (au Ei aF aK)) (fun _ _ _ _ _ _=>Hr) (fun _ _ _ _ _ _=>(cF a__name hr rfl (au (aO cX cZ (cF a__cell_at hr rfl (au (fH rfl (.inr (.inl (by kernel_rfl)))) (au Ei aF aK) aU) (cnt_cons (cnt_cons cnt_nil))) Ei) (au (fH rfl (.inl (by kernel_rfl))) aF aU) iH) (cnt_cons (cnt_cons cnt_nil))))) ?_;refine aH (zbX rfl (n6 (i:=3) nd rfl Lv (n6 (i:=4) nd rfl Lv Hi)) (cF a__lengths hr rfl (au (fH rfl (.inr Lu)) aF aU) (cnt_cons cnt_nil))) ?_;refine aH (cj (i:=5) nd rfl Lv (aO cW cY Ei (aO cX cZ (aO mC mD (cF a__cell_at hr rfl (au (fH rfl (.inr Lu)) (au Ei aF aK) aU) (cnt_cons (cnt_cons cnt_nil))) Ei) Ei))) ?_;refine aH (cj (i:=6) nd rfl Lv (cF a__works hr rfl (au Sv (au Sv (au Sv aF aU) aU) aU) (cnt_cons (cnt_cons (cnt_cons cnt_nil))))) ?_;refine aH (cj (i:=7) nd rfl Lv (aO cX cZ (cF a__cell_at hr rfl (au (fH rfl (.inr Lu)) (au Ei aF aK) aU) (cnt_cons (cnt_cons cnt_nil))) Ei)) ?_;refine aH (cj (i:=8) nd rfl Lv (zbq (fJ (au (cF a__items hr rfl (au Sv (au (cF a__cell_at hr rfl (au (fH rfl (.inr Lu)) (au Ei aF aK) aU) (cnt_cons (cnt_cons cnt_nil))) aF gH) aU) (cnt_cons (cnt_cons cnt_nil))) (au (cF a__items hr rfl (au Sv (au (cF a__cell_at hr rfl (au (fH rfl (.inr Lu)) (au Ei aF aK) aU) (cnt_cons (cnt_cons cnt_nil))) aF gH) aU) (cnt_cons (cnt_cons cnt_nil))) aF gH) gH)))) ?_;refine aH (cj (i:=9) nd rfl Lv (aZ (au Es (au (gG gJ gC Ei) aF kI) aK))) ?_;refine aH (dI (Ct hu (cF a__flow hr rfl (au Sv (au Sv (au Sv (au Sv aF aU) aU) aU) aU) (cnt_cons (cnt_cons (cnt_cons (cnt_cons cnt_nil))))) Ei) (aH (cj (i:=9) nd rfl Lv (aZ (au Es (au (gG gJ gC Ei) aF kI) aK))) aR) aR) ?_;refine aH (uy xc8 rfl nd rfl Lv (Bf (SN.sem (fJ (au Ei (au Ei aF aK) aK)) lst_is)) (aH (dI (SW.st (Bj (Ct hu Sv Ei) (Bk (Ct hu (aO cX cZ (aO mC mD Sv (aO cW cY Ei (aO gP gR Ei Sv))) Ei) Ei)))) (aH (za3 (k:=11) rfl nd rfl Lv Sv Sv (cF a__spoiled hr rfl (au (Ek Sv Sv) (au (cF a__cell_at hr rfl (au (fH rfl (.inr Lu)) (au (aO cW cY Ei Sv) aF iH) aU) (cnt_cons (cnt_cons cnt_nil))) aF gH) kE) (cnt_cons (cnt_cons cnt_nil)))) (aH (cj (i:=9) nd rfl Lv (aZ (au Es (au Sv aF aU) aK))) aR)) aR) aR)) ?_;refine aH (cj (i:=12) nd rfl Lv (Oe (xK (Ek Sv Ei) (Ek Sv Ei) (xK (Ek Sv Ei) (Ek Sv Ei) Ov)))) ?_;refine aH (dI (SW.st (Bj (Ct hu Sv Ei) (Bk (Ct hu (aO cX cZ Sv Ei) Ei)))) (aH (cj (i:=13) nd rfl Lv (Ek (SN.sem (fJ (au (Ek Sv Ei) (au (Bd (Ek Sv Ei) Bh (Bg (Wx:=W0) (gG gJ gC Ei))) (au (aO cW cY (Ek Sv Ei) Es) aF iH) kE) kE)) lst_is) (aO cX cZ (cF a__cell_at hr rfl (au (fH rfl (.inr Lu)) (au Ei aF aK) aU) (cnt_cons (cnt_cons cnt_nil))) Ei))) (aH (cj (i:=12) nd rfl Lv (Oe (xK (Ek Sv Ei) (Ek Sv Ei) (xK Sv (SN.sem (fJ aF) lst_is) (xK (Ek Sv Ei) (Ek Sv Ei) Ov))))) (aH (cj (i:=9) nd rfl Lv (aZ (au Es (au (gG gJ gC Ei) aF kI) aK))) aR))) aR) ?_;refine aH (cj (i:=14) nd rfl Lv (Hh (zaT rfl B_dict (Hh Sv)))) ?_;refine aH (zaU 1000 "_law_row" [] (i:=15) nd rfl Lv rfl (by x_go) Sv (fun _ _ _ _ _ _=>(SN.sem (zbg rfl B_list (fH rfl (.inl (by kernel_rfl)))) U6))) ?_;refine aH (dI (SW.st (Hv (Ct hu (cF a__said hr rfl (au Sv (au Sv aF aU) aU) (cnt_cons (cnt_cons cnt_nil))) Sv) (O4 (SW.st (Bj (Ct hu (Ek Sv Ei) Es) (Bk (xM (uz (cF a__one_class hr rfl (au Sv (au Sv aF aU) aU) (cnt_cons (cnt_cons cnt_nil))))))))))) (aH (cu Eb) aR) aR) ?_;refine aH (dI (SW.st (Hv (zb6 hu Sv Sv) (Hv (Ct hu Sv Sv) (O4 (Ct hu Sv (cF a__works hr rfl (au Sv (au Sv (au Sv aF aU) aU) aU) (cnt_cons (cnt_cons (cnt_cons cnt_nil))))))))) (aH (cu Eb) aR) aR) ?_;exact aH (cu (Cm hu (cF a__said hr rfl (au Sv (au (Hh Og) aF za9) aU) (cnt_cons (cnt_cons cnt_nil))) (aZ (au Es (au (gG gJ gC Ei) aF kI) aK)))) aR
end
noncomputable def pQ:Nat:=8
def i_:G:=Kf
theorem lC {a b:Str}(h:decide (a=b)=false):(a=b)=False:=eq_false (xdz h)
structure Rw where
 w:Str
 nm:Str
 fs:List Str
 rest:List Str
noncomputable def rD (r:Rw):D:=.tup [.str r.w,.str r.nm,.tup (r.fs.map .str),.tup (r.rest.map .str)]
theorem Ii {r:Rw}:vw M (rD r)=rD r:=rfl
theorem Ua {r:Rw}:aY (rD r) (.int 0)=some (.str r.w):=(wB).trans at0
theorem Ub {r:Rw}:aY (rD r) (.int 1)=some (.str r.nm):=(wB).trans at1
theorem Uc {r:Rw}:aY (rD r) (.int 2)=some (.tup (r.fs.map .str)):=(wB).trans at2
theorem Ud {r:Rw}:aY (rD r) (.int 3)=some (.tup (r.rest.map .str)):=(wB).trans yH
abbrev PN:String:="wM j_ G3 GJ GP GQ YL Gy G4 YH zcZ Yu Zw Yv Zx GF zcD zco Ij zcJ zct P_ Zj Zb Za zcO Yw Gv YZ zcQ Y_ YJ Z_ Z8 Y9 r_n ZQ Zm Y7 Z1 Yz GK Z2 YF zbn Y5 Gx zcE zcV Zd Zc zcp ZX Mu zb1 Y8 Zf YK GX rE YQ zcF Yx ZP YM zcY YS zbL Zg wL zbH zca Vq Vr V_ Vy VR V6 V4 FQ FP FN FJ Vu V1 zP wB VJ VN VP Wc Wb V8 V7 sizeLine_eq Option.map_some Option.map_none List.getElem?_cons_zero List.getElem?_cons_succ List.set_cons_zero List.set_cons_succ List.map_cons List.map_nil List.length_cons List.length_nil List.length_map List.replicate List.cons_append List.nil_append List.append_nil reduceCtorEq if_true if_false reduceIte Bool.not_true Bool.not_false Nat.reduceSub Nat.reduceAdd Nat.reduceLeDiff Nat.reduceLT Int.reduceLT Int.reduceLE Int.reduceAdd Int.reduceSub Int.reduceMul Int.reduceNeg Int.reduceAbs Int.reduceEq Int.reducePow Int.reduceMod Int.reduceDiv Int.reduceToNat Nat.zero_le and_true true_and and_self or_true true_or Bool.false_eq_true decide_eq_true_eq decide_true decide_false Bool.not_eq_true' decide_eq_false_iff_not not_true_eq_false not_false_eq_true eq_self YG Z6 Z7 YD YC Option.getD_some YW zcU ty_int ty_str zcq zb3 zbU zbO zc7 zcr Ig zc4 zda zc3 zcT Zn zcw Zh Zi Y0 zcM zb0 V0 List.isEmpty_cons List.isEmpty_nil Bool.true_eq_false Bool.and_self Bool.and_true Bool.true_and Bool.and_false Bool.false_and Z0 ZW ZR zbp Z9 ZS YB zc0 za7 zbm zcd zbo zbM Zk zcm YX Y4 zc5 Gp Gs Gq wR Mw wQ Mv Vs VH VL V9 VB Vz V5 Vw V3 VD VF VG O9 zcC Bool.true_or Bool.false_or Bool.or_true Bool.or_false at0 at1 at2 yH iW s_end w_end Y6 Gu MF zcz zcy zcv zc9 Zo zbN Vt Ze Yy Ii Ua Ub Uc Ud"
local macro_rules | `(tactic| z_go)=>do
 let l <-(PN.splitOn " ").toArray.mapM fun n=> `(Lean.Parser.Tactic.simpLemma| $(Lean.mkIdent n.toName):term)
 `(tactic| try simp only[$l,*])
theorem Du {i:Int}(h0:0<=i)(h1:i<1000000000000000000000):(bL i).length<=22/\∀c∈cd (bL i),c<4294967296:=by
 refine⟨Hj (k:=21) (by decide) (by rw[show(10:Nat) ^ 21=1000000000000000000000 by decide];omega),fun c hc=>?_⟩;unfold cd at hc;rw[xG h0]at hc;have:=Dt i.toNat c hc;omega
inductive RK (ab:List Str):Rw->Prop
 |inn {nm:Str}:RK ab ⟨"in",nm,[],[]⟩
 |one {w nm f:Str} {rest:List Str}:(w="keep"\/w="turn"\/w="share"\/w="fixed"\/w="gap"\/w="out")->f∈ab->RK ab ⟨w,nm,[f],rest⟩
 |pour {nm:Str} {fs:List Str}:2<=fs.length->fs.length<=8->(∀f∈fs,f∈ab)->RK ab ⟨"pour",nm,fs,[]⟩
 |slide {nm f fold:Str} {a b:Int}:f∈ab->1<=b->b<=a->a<=8 * b->a<=1000000000000->RK ab ⟨"slide",nm,[f],[bL a,bL b,fold]⟩
 |join {nm f g:Str} {rest:List Str}:f∈ab->g∈ab->RK ab ⟨"join",nm,[f,g],rest⟩
noncomputable def tb (t:List (Str×Int)):List (Key×D):=t.map fun p=>(.inr p.1,.int p.2)
noncomputable def gt (t:List (Str×Int)) (k:Str):Option Int:=(t.find? fun p=>decide (p.1=k)).map (·.2)
def gv (t:List (Str×Int))(k:Str):Int:=(gt t k).getD 0
noncomputable def pt (t:List (Str×Int)) (k:Str) (v:Int):List (Str×Int):=if (t.any fun p=>decide (p.1=k))=true then t.map (fun p=>if p.1=k then(p.1,v) else p) else t ++ [(k,v)]
theorem Kv {a b:Str}:decide ((Sum.inr a:Key)=Sum.inr b)=decide (a=b):=by simp
theorem Ih {k:Str}:∀t:List (Str×Int),bf (tb t) (.inr k)=(gt t k).map .int
  | []=>rfl
  |p::t=>by
    have ih:=Ih (k:=k) t;unfold bf tb gt at *;rw[xam,xaK,xaK,Kv];cases decide (p.1=k)
    · exact ih
    · rfl
theorem Yp {k:Str}{v:Int}(t:List (Str×Int)):b_ (tb t) (.inr k) (.int v)=tb (pt t k v):=by
 have e1:((tb t).any fun kv=>decide (kv.1=Sum.inr k))=t.any fun p=>decide (p.1=k):=by
  unfold tb;rw[List.any_map];congr 1;funext p;exact Kv
 unfold b_ pt;rw[e1]
 split
 ·unfold tb;rw[xbr,xbr];congr 1;funext p;simp only[Function.comp]
  by_cases h:p.1=k
  ·rw[xac h,xac (by rw[h])]
  ·rw[xag h,xag (fun z=>h (xdI z))]
 ·unfold tb;rw[xbh];rfl
theorem El {k k':Str}{v:Int}(t:List (Str×Int)):gt (pt t k v) k'=if k'=k then some v else gt t k':=by
  unfold pt
  split
  · rename_i h;unfold gt
    induction t with
    |nil=>simp at h
    |cons p t ih=>
      rw[xam,xaK,xaK]
      by_cases e:p.1=k
      · simp only[e,xbU]
        by_cases e2:k'=k
        · simp[e2]
        · simp only[e2,xb5];rw[xaE (fun z=>e2 z.symm)];dsimp only
          by_cases ht:(t.any fun p=>decide (p.1=k))=true
          · have:=ih ht;rw[xag e2]at this;exact this
          · have e3:t.map (fun p=>if p.1=k then(p.1,v) else p)=t:=by
              rw[xdo (g:=id) (fun q hq=>?_),List.map_id];rw[xag]
              · rfl
              · intro z;exact ht (xcY.mpr ⟨q,hq,xbf z⟩)
            rw[e3]
      · simp only[e,xb5]
        by_cases e2:p.1=k'
        · have e4:¬ k'=k:=fun z=>e (e2.trans z)
          simp[e2,e4]
        · rw[xaE e2];dsimp only;refine ih ?_
          simpa [e] using h
  · rename_i h;unfold gt;rw[List.find?_append]
    by_cases e:k'=k
    · subst e;have:t.find? (fun p=>decide (p.1=k'))=none:=by
        rw[List.find?_eq_none];intro q hq z;exact h (xcY.mpr ⟨q,hq,z⟩)
      rw[this,xac rfl]
      simp
    · rw[xag e]
      cases t.find? (fun p=>decide (p.1=k')) with
      |some q=>rfl
      |none=>
        have e':¬ k=k':=fun z=>e z.symm
        simp[e']
def TN (t:List (Str×Int)):Prop:=(t.map (·.1)).Nodup
theorem TN.pt {t:List (Str×Int)}{k:Str}{v:Int}(h:TN t):TN (pt t k v):=by
 unfold TN My.pt at *
 split
 ·rw[xbr];rw[show((fun p:Str×Int=>p.1) ∘ fun p=>if p.1=k then(p.1,v) else p)=fun p=>p.1 by funext p;simp only[Function.comp];split<;>rfl]
  exact h
 ·rename_i ha;rw[xbh,List.nodup_append];refine⟨h,by simp,fun a ha' b hb z=>?_⟩
  simp at hb
  subst hb;subst z;rw[xbq]at ha';obtain⟨q,hq,e⟩:=ha';exact ha (xcY.mpr ⟨q,hq,xbf e⟩)
theorem Yi {t:List (Str×Int)}{k:Str}{v:Int}:(pt t k v).length<=t.length + 1:=by
 unfold pt
 split
 ·rw[xaC];omega
 ·rw[xax,xa2];exact xaf _
theorem S9:∀{t:List (Str×Int)} {p:Str×Int},TN t->p∈t->gt t p.1=some p.2
  | [],p,_,h=>by cases h
  |q::t,p,hn,h=>by
    unfold TN at hn;rw[xam,xbF]at hn;unfold gt;rw[xaK];rcases xas.mp h with rfl |h
    · simp
    · have:¬ q.1=p.1:=fun z=>hn.1 (by rw[z];exact xdp h);rw[xaE this];exact S9 (t:=t) hn.2 h
theorem Ia {t:List (Str×Int)}:(tb t).length=t.length:=xaC ..
variable {M:Mm}
theorem O3 {i:Int}(h0:0<=i)(h1:i<=1000000000000):(bL i).length<=640:=by
 have:=(Du (i:=i) h0 (by omega)).1;omega
theorem zE {i : Int} (h0 : 0 <= i) (h1 : i <= 1000000000000) : intText? (bL i) = some i := Tt (by
 refine xah (m:=10 ^ 13) (by omega) (Nat.pow_le_pow_right (by decide) (by decide)))
theorem zbT {nm f fold:Str}{a b:Int}(b0:1<=b)(ab:b<=a)(a1:a<=1000000000000):vI [rD ⟨"slide",nm,[f],[bL a,bL b,fold]⟩] M=some (.v (.tup [.int a,.int b,.str fold]),M):=by
 unfold vI CQ;z_go;rw[xac (O3 (by omega) a1),zE (by omega) a1];z_go;rw[xac (O3 (by omega) (by omega)),zE (by omega) (by omega)];z_go;rw[show cP [D.str (bL a),.str (bL b),.str fold] (-1)=some (.str fold) by simp[cP,iy]];z_go
noncomputable def stp (r:Rw):Int:=match r.rest with
 | [a,b,_]=>((intText? a).getD 0 + (intText? b).getD 0 - 1) / (intText? b).getD 0
 |_=>0
noncomputable def fl (L t:List (Str×Int)) (r:Rw):Int:=
 if r.w="in" then gv L r.nm else if r.w="join" then gv t (r.fs.getD 0 "") * gv t (r.fs.getD 1 "") else if r.w="slide" then gv t (r.fs.getD 0 "") * stp r else(r.fs.map (gv t)).sum
section
variable {L t:List (Str×Int)}{a b:Nat}
theorem Dy {f:Str}{x:Int}(hB:M[b]? =some (.dct (tb t)))(h:gt t f=some x):zj [.val (.str f),.val (.ref b)] M=some (.v (.int (gv t f)),M):=by
 unfold zj;refine(Rt (k:=b) (e:=.str f) (kvs:=tb t) (key:=.inr f) (x:=.int x) rfl rfl hB rfl (by rw[Ih,h];rfl)).trans (by unfold gv;rw[h];rfl)
theorem sum_ints:∀l:List Int,pO (l.map .int)=some l
 | []=>rfl
 |a::l=>by simp only[xam,pO,sum_ints l];rfl
end
theorem Wa {l:List Int}:iU [.lst (l.map .int)]=some (.int l.sum):=by simp only[iU,sum_ints];rfl
section
variable {L t:List (Str×Int)}{a b:Nat}{ab:List Str}
def KB (t:List (Str×Int))(ab:List Str):Prop:=∀f∈ab,∃x,gt t f=some x/\0<=x/\x<=2000
theorem KB.v {f:Str}(h:KB t ab)(hf:f∈ab):0<=gv t f/\gv t f<=2000:=by
 obtain⟨x,e,h⟩:=h f hf;unfold gv;rw[e];exact h
theorem oX {fs:List Str}(hB:M[b]? =some (.dct (tb t)))(hl:fs.length<=8)(h:∀f∈fs,f∈ab)(hk:KB t ab):eZ (aj (.bl true)) zj [.val (.ref b)] (fs.map .str) [] M=some ([] ++ (fs.map (gv t)).map D.int,M):=by
 rw[xbr];exact Dl (fun f:Str=>D.str f) (fun f=>D.int (gv t f)) fs [] (fun f hf=>by obtain⟨x,e,_⟩:=hk f (h f hf);exact Dy hB e) (by rw[xaw];simp;omega)
theorem YT:(Str.ofString "in"=Str.ofString "in")=True:=eq_true rfl
theorem S6 {nm:Str}(hA:M[a]? =some (.dct (tb L))):iJ [rD ⟨"in",nm,[],[]⟩,.ref a,.ref b] M=some (.v (.int (gv L nm)),M):=by
 have e:uo (ak 1) (s2 aY (ak 0) (aj (.int 1))) (aj (.int 0)) [.val (rD ⟨"in",nm,[],[]⟩),.val (.ref a),.val (.ref b),.un,.un] M=some (.v (.int (gv L nm)),M):=by
  refine(Rv (k:=a) (e:=.str nm) (x:=.int 0) (key:=.inr nm) (kvs:=tb L) (kvs':=tb L) rfl ?_ rfl hA hA rfl).trans ?_
  ·z_go
  ·rw[Ih];unfold gv;cases gt L nm<;>rfl
 unfold iJ sU;z_go;rw[e];z_go
theorem J_ {w nm:Str}{fs rest:List Str}(h1:(w=Str.ofString "in")=False)(h2:(w=Str.ofString "join")=False)(h3:(w=Str.ofString "slide")=False)(hB:M[b]? =some (.dct (tb t)))(hl:fs.length<=8)(h:∀f∈fs,f∈ab)(hk:KB t ab):iJ [rD ⟨w,nm,fs,rest⟩,.ref a,.ref b] M=some (.v (.int (fs.map (gv t)).sum),M):=by
 unfold iJ sU;z_go;simp only[h1];z_go;rw[oX hB hl h hk];z_go;simp only[h2];z_go;simp only[h3];z_go;rw[Wa];z_go
theorem RZ {nm f g:Str}{rest:List Str}(hB:M[b]? =some (.dct (tb t)))(hf:f∈ab)(hg:g∈ab)(hk:KB t ab):iJ [rD ⟨"join",nm,[f,g],rest⟩,.ref a,.ref b] M=some (.v (.int (gv t f * gv t g)),M):=by
 have h1:(Str.ofString "join"=Str.ofString "in")=False:=lC (by x_go);have hh:∀x∈ [f,g],x∈ab:=fun x hx=>by
  simp only[xas,xa8,xbR]at hx;rcases hx with rfl |rfl
  ·exact hf
  ·exact hg
 have c:=oX (fs:=[f,g]) hB (by simp) hh hk;have b1:=hk.v hf;simp only[xam,xbx,xbH]at c;unfold iJ sU;z_go;simp only[h1];z_go;rw[c];z_go;rw[xac (.inl (by omega))];z_go
theorem R0 {nm f fold:Str}{x y:Int}(hB:M[b]? =some (.dct (tb t)))(hf:f∈ab)(y0:1<=y)(yx:y<=x)(x8:x<=8 * y)(x1:x<=1000000000000)(hk:KB t ab):iJ [rD ⟨"slide",nm,[f],[bL x,bL y,fold]⟩,.ref a,.ref b] M=some (.v (.int (gv t f * ((x + y - 1) / y))),M):=by
 have h1:(Str.ofString "slide"=Str.ofString "in")=False:=lC (by x_go);have h3:(Str.ofString "slide"=Str.ofString "join")=False:=lC (by x_go);have hh:∀x∈ [f],x∈ab:=fun x hx=>by
  rw[xaI]at hx;rw[hx];exact hf
 have c:=oX (fs:=[f]) hB (by simp) hh hk;have b1:=hk.v hf;simp only[xam,xbx,xbH]at c;have wn:=zbT (M:=M) (nm:=nm) (f:=f) (fold:=fold) y0 yx x1;unfold iJ sU;z_go;simp only[h1];z_go;rw[c];z_go;simp only[h3];z_go;rw[wn];z_go;rw[Vx,xac ⟨by omega,by omega⟩];z_go;rw[xac (.inl (by omega))];z_go
theorem kJ (x y:String)(h:decide (Str.ofString x=Str.ofString y)=false:=by x_go):¬ Str.ofString x=Str.ofString y:=xdz h
theorem Qa {w:Str}(h1:w="keep"\/w="turn"\/w="share"\/w="fixed"\/w="gap"\/w="out"):(w=Str.ofString "in")=False/\(w=Str.ofString "join")=False/\(w=Str.ofString "slide")=False/\(w=Str.ofString "pour")=False:=by
 rcases h1 with rfl |rfl |rfl |rfl |rfl |rfl<;>exact⟨lC (by x_go),lC (by x_go),lC (by x_go),lC (by x_go)⟩
theorem J7 {w nm f:Str}{rest:List Str}(h1:w="keep"\/w="turn"\/w="share"\/w="fixed"\/w="gap"\/w="out"):fl L t ⟨w,nm,[f],rest⟩=gv t f:=by
 obtain⟨e1,e2,e3,e4⟩:=Qa h1;unfold fl;rw[xag (by rw[e1];exact id),xag (by rw[e2];exact id),xag (by rw[e3];exact id)]
 simp
theorem DQ {nm:Str}{fs:List Str}:fl L t ⟨"pour",nm,fs,[]⟩=(fs.map (gv t)).sum:=by
 unfold fl;rw[xag (kJ "pour" "in"),xag (kJ "pour" "join"),xag (kJ "pour" "slide")]
theorem DR {nm f fold:Str}{x y:Int}(h2:1<=y)(h3:y<=x)(h5:x<=1000000000000):fl L t ⟨"slide",nm,[f],[bL x,bL y,fold]⟩=gv t f * ((x + y - 1) / y):=by
 unfold fl stp;rw[xag (kJ "slide" "in"),xag (kJ "slide" "join"),xac rfl];dsimp only;rw[zE (by omega) h5,zE (by omega) (by omega)];rfl
theorem vg {nm f g:Str}{rest:List Str}:fl L t ⟨"join",nm,[f,g],rest⟩=gv t f * gv t g:=by
 unfold fl;rw[xag (kJ "join" "in"),xac rfl];rfl
theorem Sq {r:Rw}(hr:RK ab r)(hk:KB t ab)(hA:M[a]? =some (.dct (tb L)))(hB:M[b]? =some (.dct (tb t))):iJ [rD r,.ref a,.ref b] M=some (.v (.int (fl L t r)),M):=by
  cases hr with
  |inn=>exact(S6 hA).trans rfl
  | @one w nm f rest h1 h2=>
    obtain⟨e1,e2,e3,e4⟩:=Qa h1;rw[J7 h1];have s:=J_ (a:=a) (M:=M) (nm:=nm) (rest:=rest) (fs:=[f]) e1 e2 e3 hB (by simp) (fun g hg=>by rw[xaI]at hg;rw[hg];exact h2) hk;rw[show([f].map (gv t)).sum=gv t f by simp]at s;exact s
  | @pour nm fs h1 h2 h3=>
    rw[DQ];exact J_ (lC (by x_go)) (lC (by x_go)) (lC (by x_go)) hB h2 h3 hk
  | @slide nm f fold x y h1 h2 h3 h4 h5=>
    rw[DR h2 h3 h5];exact R0 hB h1 h2 h3 h4 h5 hk
  | @join nm f g rest h1 h2=>
    rw[vg];exact RZ hB h1 h2 hk
theorem zck {x y:Int}(y0:1<=y)(yx:y<=x):0<=(x + y - 1) / y:=Int.ediv_nonneg (by omega) (by omega)
theorem O2:∀{l:List Int},(∀x∈l,0<=x)->0<=l.sum
  | [],_=>by simp
  |a::l,h=>by
    rw[xdk];have:=O2 (l:=l) fun x hx=>h x (xav _ hx);have:=h a xaA;omega
def NN (L:List (Str×Int)):Prop:=∀k,0<=gv L k
theorem Sg {r:Rw}(hr:RK ab r)(hk:KB t ab)(hL:NN L):0<=fl L t r:=by
  cases hr with
  |inn=>exact hL _
  |one h1 h2=>rw[J7 h1];exact(hk.v h2).1
  |pour h1 h2 h3=>
    rw[DQ];refine O2 fun x hx=>?_;rw[xbq]at hx;obtain⟨f,hf,rfl⟩:=hx;exact(hk.v (h3 f hf)).1
  |slide h1 h2 h3 h4 h5=>rw[DR h2 h3 h5];exact Int.mul_nonneg (hk.v h1).1 (zck h2 h3)
  |join h1 h2=>rw[vg];exact Int.mul_nonneg (hk.v h1).1 (hk.v h2).1
theorem DP {r:Rw}(h:∀k,gv t k=0)(hL:∀k,gv L k=0):fl L t r=0:=by
 unfold fl
 split
 ·exact hL _
 ·split
  ·rw[h,Int.zero_mul]
  ·split
   ·rw[h,Int.zero_mul]
   ·have:r.fs.map (gv t)=r.fs.map fun _=>0:=xdo fun f _=>h f;rw[this];clear this
    induction r.fs with
    |nil=>rfl
    |cons a l ih=>rw[xam,xdk,ih];rfl
noncomputable def run (L:List (Str×Int)):List Rw->List (Str×Int)->Option (List (Str×Int))
 | [],t=>some t
 |r::rs,t=>if 2000<fl L t r then none else run L rs (pt t r.nm (fl L t r))
theorem KB.put {r:Rw}{v:Int}(hk:KB t ab)(h0:0<=v)(h1:v<=2000):KB (pt t r.nm v) (ab ++ [r.nm]):=fun f hf=>by
 rw[El]
 by_cases e:f=r.nm
 ·exact⟨v,by rw[xac e],h0,h1⟩
 ·rw[xag e];rw[xaO,xaI]at hf;exact hk f (hf.resolve_right e)
inductive GR:List Str->List Rw->Prop
 |nil {ab:List Str}:GR ab []
 |cons {ab:List Str} {r:Rw} {rs:List Rw}:RK ab r->GR (ab ++ [r.nm]) rs->GR ab (r::rs)
end
section
variable {L t:List (Str×Int)}{a:Nat}{ab:List Str}
theorem gq {N E:Mm}{k:Nat}{c:E3.Cl}(h:N[k]? =some c):(N ++ E)[k]? =some c:=by
 rw[xaX]
 ·exact h
 ·exact(xal.mp h).1
theorem Vg {env:E3.Env}{N:Mm}:nY "TooMuch" (fU (d7 "more than " (iz (aj (.int 2000)) (d7 " things may be told by a row" fQ)))) env N=some (.ex "TooMuch" 0,N):=by
 rw[Gw];z_go;rw[xac (by x_go),xac (show Nat.log2 2000<1920 by x_go)];z_go;rw[xac (by x_go)];z_go;rw[xac (by x_go)];z_go;rw[xac (by x_go)];z_go
theorem Sh {r:Rw}{wk:D}{s4:E3.Slot}(hr:RK ab r)(hk:KB t ab)(hlen:t.length<=100)(hA:M[a]? =some (.dct (tb L))):lY [.val wk,.val (.ref a),.val (.ref M.length),.val (rD r),s4] (M ++ [.dct (tb t)])=if 2000<fl L t r then some (.ex "TooMuch" 0,M ++ [.dct (tb t)]) else some (.nx [.val wk,.val (.ref a),.val (.ref M.length),.val (rD r),.val (.int (fl L t r))],M ++ [.dct (tb (pt t r.nm (fl L t r)))]):=by
 have e:=(Sq (M:=M ++ [.dct (tb t)]) (a:=a) (b:=M.length) (L:=L) hr hk (gq hA) iW);unfold lY;z_go;rw[e];z_go
 by_cases h:2000<fl L t r
 ·rw[xac h,xac h];z_go;rw[Vg];z_go
 ·rw[xag h,xag h];z_go;rw[Ry (k:=M.length) (kvs:=tb t) (e:=.str r.nm) (key:=.inr r.nm) (x:=.int (fl L t r)) (M1:=M ++ [.dct (tb t)]) (M2:=M ++ [.dct (tb t)]) (M3:=M ++ [.dct (tb t)]) rfl rfl (by z_go) iW rfl (by rw[Ia,xaw];omega),Yp];z_go
theorem Sd {wk:D}{rs:List Rw}(h:GR ab rs):∀{t:List (Str×Int)} {s3 s4:E3.Slot},KB t ab->NN L->t.length + rs.length<=100->TN t->M[a]? =some (.dct (tb L))->
    (∃t' s3' s4',run L rs t=some t'/\TN t'/\t'.length<=100/\loopS 3 lY (rs.map rD) [.val wk,.val (.ref a),.val (.ref M.length),s3,s4] (M ++ [.dct (tb t)])=some (.nx [.val wk,.val (.ref a),.val (.ref M.length),s3',s4'],M ++ [.dct (tb t')]))\/
    (∃t',run L rs t=none/\loopS 3 lY (rs.map rD) [.val wk,.val (.ref a),.val (.ref M.length),s3,s4] (M ++ [.dct (tb t)])=some (.ex "TooMuch" 0,M ++ [.dct (tb t')])):=by
  induction h with
  |nil=>intro t s3 s4 hk hL hl hn hA;exact .inl ⟨t,s3,s4,rfl,hn,by simpa using hl,rfl⟩
  | @cons ab r rs hr _ ih=>
    intro t s3 s4 hk hL hl hn hA;rw[xaz]at hl;have tu:=Sh (M:=M) (a:=a) (L:=L) (wk:=wk) (s4:=s4) hr hk (by omega) hA;have e:loopS 3 lY ((r::rs).map rD) [.val wk,.val (.ref a),.val (.ref M.length),s3,s4] (M ++ [.dct (tb t)])=rY 3 lY (rs.map rD) (lY [.val wk,.val (.ref a),.val (.ref M.length),.val (rD r),s4] (M ++ [.dct (tb t)])):=by
      rw[xam,Gu];rfl
    rw[e,tu]
    by_cases z:2000<fl L t r
    · refine .inr ⟨t,by unfold run;rw[xac z],by rw[xac z];rfl⟩
    · have lp:=Yi (t:=t) (k:=r.nm) (v:=fl L t r);rw[xag z,MF];rcases ih (t:=pt t r.nm (fl L t r)) (s3:=.val (rD r)) (s4:=.val (.int (fl L t r))) (hk.put (Sg hr hk hL) (by omega)) hL (by omega) hn.pt hA with⟨t',s3',s4',e1,e2,e3,e4⟩ |⟨t',e1,e2⟩
      · exact .inl ⟨t',s3',s4',by unfold run;rw[xag z];exact e1,e2,e3,e4⟩
      · exact .inr ⟨t',by unfold run;rw[xag z];exact e1,e2⟩
theorem Um:KB [] []:=fun f hf=>by cases hf
theorem Ss {rs:List Rw}(h:GR [] rs)(hL:NN L)(hl:rs.length<=100)(hA:M[a]? =some (.dct (tb L))):
  (∃t',run L rs []=some t'/\TN t'/\t'.length<=100/\pH [.lst (rs.map rD),.ref a] M=some (.v (.ref M.length),M ++ [.dct (tb t')]))\/
  (∃t',run L rs []=none/\pH [.lst (rs.map rD),.ref a] M=some (.x "TooMuch" 0,M ++ [.dct (tb t')])):=by
 have go:pH [.lst (rs.map rD),.ref a] M=bB (aA (eF 3 (fP (ak 0)) lY) (aA (aQ (ak 2)) aC) [.val (.lst (rs.map rD)),.val (.ref a),.val (.ref M.length),.un,.un] (M ++ [.dct (tb [])])):=by
  unfold pH Cz;rw[wL];simp only[xam,xbx,xcU,xbH,xaz,xct,Nat.reduceAdd,Nat.reduceSub,List.replicate];rw[wM,Mu,JN];rfl
 rw[go];rcases Sd (M:=M) (wk:=.lst (rs.map rD)) h (t:=[]) (s3:=.un) (s4:=.un) Um hL (by simpa using hl) (by unfold TN;simp) hA with⟨t',s3',s4',e1,e2,e3,e4⟩ |⟨t',e1,e2⟩
 ·refine .inl ⟨t',e1,e2,e3,?_⟩;z_go;rw[e4];z_go
 ·refine .inr ⟨t',e1,?_⟩;z_go;rw[e2];z_go
theorem M_:∀{rs:List Rw} {t:List (Str×Int)},(∀k,gv t k=0)->∃t',run [] rs t=some t'
  | [],t,_=>⟨t,rfl⟩
  |r::rs,t,h=>by
    unfold run;have e:fl [] t r=0:=DP h fun _=>rfl;rw[e,xag (by decide)];refine M_ fun k=>?_;unfold gv;rw[El]
    split
    · rfl
    · exact h k
end
theorem Jo:((0:Nat):Int)=0:=rfl
theorem Jp:((1:Nat):Int)=1:=rfl
theorem Qv:((2:Nat):Int)=2:=rfl
theorem Qw:((3:Nat):Int)=3:=rfl
theorem Qx:((4:Nat):Int)=4:=rfl
local macro_rules | `(tactic| z_go)=>do
 let l <-((PN ++ " Ul Uj Uk Ui Jo Jp Qv Qw Qx").splitOn " ").toArray.mapM fun n=> `(Lean.Parser.Tactic.simpLemma| $(Lean.mkIdent n.toName):term)
 `(tactic| try simp only[$l,*])
variable {M:Mm}
noncomputable def cL : List D := [.non,.int 5,.str "mark",.lst [.str "mark",.int 3],.tup [.str "mark"],.tup [.str "mark",.int (-1)],.tup [.str "mark",.int 1000000000001],.tup [.str "mark",.bl true],
 .tup [.str "thing",.int 3,.str "a"],.tup [.str "thing",.int 3,.str "",.int 1],.tup [.str "thing",.int 3,.str "aB",.int 1],.tup [.str "thing",.int 3,.str "abcdefghi",.int 1],
 .tup [.str "thing",.int 3,.str "a",.int 1000000000000000000000000000000000000000000000000000000000001],.tup [.str "thing",.int (-1),.str "a",.int 1],.tup [.str "sign",.int 3,.str "a",.int 1],.tup [.str "line",.int 1],
 .tup [.str "thing",.int 3,.int 7,.int 1],.tup [.str "thing",.bl true,.str "a",.int 1],.tup [.str "thing",.int 3,.str "a",.bl false],.tup [],.tup [.str "mark",.int 3,.int 4],
 .tup [.str "thing",.int 1000000000001,.str "a",.int 1],.tup [.str "thing",.int 3,.str "a",.int (-1000000000000000000000000000000000000000000000000000000000001)],.tup [.str "thing",.int 3,.str "a",.non]]
theorem LC {d:D}(h:d∈cL):∀M:Mm,lq [d] M=some (.v (.bl false),M):=by
 simp only[cL,xas,xa8,xbR]at h;rcases h with rfl |rfl |rfl |rfl |rfl |rfl |rfl |rfl |rfl |rfl |rfl |rfl |rfl |rfl |rfl |rfl |rfl |rfl |rfl |rfl |rfl |rfl |rfl |rfl<;>intro M<;>kernel_rfl
theorem JB {i j k:Int}{f g h:E}{env:E3.Env}(hf:f env M=some (.v (.int i),M))(hg:g env M=some (.v (.int j),M))(hh:h env M=some (.v (.int k),M)):eE .le .le f g h env M=some (.v (.bl (decide (i<=j) && decide (j<=k))),M):=by
 unfold eE;simp only[bnd,hf,hg,hh,vw,cD,dB]
 by_cases h1:i<=j
 ·simp only[h1,decide_true,Bool.true_and,xbE]
 ·simp only[h1,decide_false,Bool.false_and]
theorem Qc {i:Int}:tL [.int i] M=some (.v (.bl true),M):=by kernel_rfl
theorem Pg {i:Int}(h0:0<=i)(h1:i<=1000000000000):pK [.int i] M=some (.v (.bl true),M):=by
 have c:eE .le .le (aj (.int 0)) (ak 0) (aj (.int 1000000000000)) [.val (.int i)] M=some (.v (.bl true),M):=by
  rw[JB (i:=0) (j:=i) (k:=1000000000000) rfl rfl rfl,xbf h0,xbf h1];rfl
 unfold pK CN;z_go;rw[Qc];z_go;rw[c];z_go
theorem zcI {i:Int}(h0: -1000000000000000000000000000000000000000000000000000000000000<=i)(h1:i<=1000000000000000000000000000000000000000000000000000000000000):vH [.int i] M=some (.v (.bl true),M):=by
 have c:eE .le .le (s1 bZ (aj (.int 1000000000000000000000000000000000000000000000000000000000000))) (ak 0) (aj (.int 1000000000000000000000000000000000000000000000000000000000000)) [.val (.int i)] M=some (.v (.bl true),M):=by
  rw[JB (i:= -1000000000000000000000000000000000000000000000000000000000000) (j:=i) (k:=1000000000000000000000000000000000000000000000000000000000000) rfl rfl rfl,xbf h0,xbf h1];rfl
 unfold vH CP;z_go;rw[Qc];z_go;rw[c];z_go
theorem Fd:pJ [.str "a"] M=some (.v (.bl true),M):=by kernel_rfl
theorem Uy:pJ [.str "ab"] M=some (.v (.bl true),M):=by kernel_rfl
theorem T5 {i:Int}(h0:0<=i)(h1:i<=1000000000000):lq [.tup [.str "mark",.int i]] M=some (.v (.bl true),M):=by
 have a:tK [.tup [.str "mark",.int i]] M=some (.v (.bl false),M):=by kernel_rfl
 have b:vG [.tup [.str "mark",.int i]] M=some (.v (.bl true),M):=by
  unfold vG CJ;z_go;rw[Pg h0 h1];z_go
 unfold lq yM;z_go;rw[a];z_go;rw[b];z_go
theorem T6 {i v:Int}{z:Str}(h0:0<=i)(h1:i<=1000000000000)(hz:∀M:Mm,pJ [.str z] M=some (.v (.bl true),M))(v0: -1000000000000000000000000000000000000000000000000000000000000<=v)(v1:v<=1000000000000000000000000000000000000000000000000000000000000):lq [.tup [.str "thing",.int i,.str z,.int v]] M=some (.v (.bl true),M):=by
 have b:tK [.tup [.str "thing",.int i,.str z,.int v]] M=some (.v (.bl true),M):=by
  unfold tK CK;z_go;rw[Pg h0 h1];z_go;rw[hz];z_go;rw[zcI v0 v1];z_go
 unfold lq yM;z_go;rw[b];z_go
variable {M:Mm}
def bW (d:D):Prop:=∀M:Mm,lq [d] M=some (.v (.bl true),M)
def gn (d:D):Prop:=∀M:Mm,lq [d] M=some (.v (.bl false),M)
theorem Dg {w d:D}{n:Nat}(h:bW d):iB [.val w,.val (.int n),.val d] M=some (.nx [.val w,.val (.int n),.val d],M):=by
 unfold iB;z_go;rw[h M];z_go
theorem Dd {w d:D}{n:Nat}(h:gn d)(hn:n<1000):iB [.val w,.val (.int n),.val d] M=some (.ex "NoItem" ((n:Int) + 1),M):=by
 unfold iB;z_go;rw[h M];z_go;rw[zaY (by omega)];z_go
theorem Oj {w a:D}{n:Nat}{s1 s2:E3.Slot}:dw [1,2] [.int n,a] [.val w,s1,s2]=some [.val w,.val (.int n),.val a]:=rfl
theorem Uz {w a:D}{n:Nat}{ds:List D}{s1 s2:E3.Slot}(h:bW a):gO [1,2] iB n (a::ds) [.val w,s1,s2] M=gO [1,2] iB (n + 1) ds [.val w,.val (.int n),.val a] M:=by
 simp only[gO,Oj,Dg h]
theorem Df {w:D}{rest:List D}:∀(as:List D) (n:Nat) (s1 s2:E3.Slot),(∀a∈as,bW a)->∃s1' s2',gO [1,2] iB n (as ++ rest) [.val w,s1,s2] M=gO [1,2] iB (n + as.length) rest [.val w,s1',s2'] M
  | [],n,s1,s2,_=>⟨s1,s2,rfl⟩
  |a::as,n,s1,s2,h=>by
    obtain⟨s1',s2',e⟩:=Df (w:=w) (rest:=rest) as (n + 1) (.val (.int n)) (.val a) fun b hb=>h b (xav _ hb);refine⟨s1',s2',?_⟩;rw[xaz,show n + (as.length + 1)=n + 1 + as.length by omega, <-e,xcU,Uz (h a xaA)]
theorem Rh {ds:List D}(h:∀d∈ds,bW d):pG [.lst ds] M=some (.v .non,M):=by
 obtain⟨s1,s2,e⟩:=Df (M:=M) (w:=.lst ds) (rest:=[]) ds 0 .un .un h;rw[xa4]at e;unfold pG yK;z_go;rw[show wX [1,2] (ao (ak 0) aq) iB [.val (.lst ds),.un,.un] M=gO [1,2] iB 0 ds [.val (.lst ds),.un,.un] M from rfl,e];rfl
theorem Rg {as bs:List D}{d:D}(h:∀a∈as,bW a)(hd:gn d)(hl:as.length<1000):pG [.lst (as ++ d::bs)] M=some (.x "NoItem" ((as.length:Int) + 1),M):=by
 obtain⟨s1,s2,e⟩:=Df (M:=M) (w:=.lst (as ++ d::bs)) (rest:=d::bs) as 0 .un .un h;unfold pG yK;z_go;rw[show wX [1,2] (ao (ak 0) aq) iB [.val (.lst (as ++ d::bs)),.un,.un] M=gO [1,2] iB 0 (as ++ d::bs) [.val (.lst (as ++ d::bs)),.un,.un] M from rfl,e,Nat.zero_add];simp only[gO,Oj,Dd hd hl];rfl
variable {M:Mm}
noncomputable def lW:D->Option D
 |.tup [.str w,.str nm,_,_]=>if w="in" then some (.str nm) else none
 |_=>none
theorem Kw {n0 n1:Str}{rs:List Rw}(h:∀r∈rs,¬ r.w="in")(hl:rs.length<=10):pI [.lst ((⟨"in",n0,[],[]⟩::⟨"in",n1,[],[]⟩::rs:List Rw).map rD)] M=some (.v (.lst [.str n0,.str n1]),M):=by
 have c:eZ yQ Dz [] ((⟨"in",n0,[],[]⟩::⟨"in",n1,[],[]⟩::rs:List Rw).map rD) [] M=some ([.str n0,.str n1],M):=by
  rw[JM lW _ [] (fun d hd=>?_) (by rw[xaw];simp;omega)]
  ·have:rs.filterMap (lW ∘ rD)=[]:=by
    rw[List.filterMap_eq_nil_iff];intro r hr;simp only[Function.comp,rD,lW];rw[xag (h r hr)]
   rw[xam,xam,xbH,xbe,xbe,List.filterMap_map,this];rfl
  ·obtain⟨r,hr,rfl⟩:=xbq.mp hd;have ei:lW (rD r)=if r.w="in" then some (.str r.nm) else none:=rfl
   rw[ei]
   by_cases e:r.w="in"
   ·rw[xac e];dsimp only
    constructor
    ·unfold yQ;z_go;rw[e];z_go
    ·unfold Dz;z_go
   ·rw[xag e];dsimp only;unfold yQ;z_go;rw[xaE e]
 rw[xam,xam]at c;unfold pI CG;z_go;rw[c];z_go
theorem zdf {x z c:Str}{env:E3.Env}{k:Nat}(he:env[k]? =some (.val (.str x)))(hx:x.length<=100000)(hz:z.length<=1000):nY c (fU (iz (ak k) (d7 z fQ))) env M=some (.ex c 0,M):=by
 rw[Gw,Gp,Mw,Gy,he,G4,GK,O9,xaw,xac (show x.length<=16777216 by omega),wR,xaw];have e:(Str.empty ++ x).length=x.length:=by rw[xbu,show Str.empty.length=0 from rfl];omega
 rw[xac (by omega),Gq,xaw,xac (by rw[xbu];omega),Gs,xaw,xac (by rw[xbu];omega)];rfl
theorem Vf {x z c:Str}{env:E3.Env}{k:Nat}(he:env[k]? =some (.val (.str x)))(hx:(reprText x).length<=100000)(hz:z.length<=1000):nY c (fU (iZ (ak k) (d7 z fQ))) env M=some (.ex c 0,M):=by
 rw[Gw,Gp,Mv,Gy,he,G4,GK];have e:(Str.empty ++ reprText x).length=(reprText x).length:=by rw[xbu,show Str.empty.length=0 from rfl];omega
 rw[wQ,xaw,xac ⟨by omega,by omega⟩,Gq,xaw,xac (by rw[xbu];omega),Gs,xaw,xac (by rw[xbu];omega)];rfl
def sm (x:Str):Prop:=x.length<=9000/\∀c∈cd x,c<4294967296
theorem sm.rp {x:Str}(h:sm x):(reprText x).length<=100000:=by
 have:=StrLaws.reprText_len x (fun c hc=>h.2 c hc);have:=h.1;omega
noncomputable def kr (rt:List (Str×List D)):List (Key×D):=rt.map fun p=>(.inr p.1,.lst p.2)
theorem Lr {z n0 n1:Str}:aJ .notin (.str z) (.lst [.str n0,.str n1])=some (.bl (!(decide (n0=z) || decide (n1=z)))):=by
 have e:∀a b:Str,D.eq (.str a) (.str b)=decide (a=b):=fun a b=>by
  show(a==b)=_;rw[xa5];simp
 simp[aJ,cD,eY,D.flat,e]
section
variable {n0 n1:Str}{wk:D}{k:Nat}
theorem K5 {z:Str}(h:z=n0\/z=n1):tR [.val wk,.val (.ref k),.val (.lst [.str n0,.str n1]),.val (.str z)] M=some (.nx [.val wk,.val (.ref k),.val (.lst [.str n0,.str n1]),.val (.str z)],M):=by
 unfold tR;z_go;rw[Lr,show(decide (n0=z) || decide (n1=z))=true by rcases h with rfl |rfl<;>simp]
 z_go
theorem Ux {z:Str}(h0:n0≠z)(h1:n1≠z)(hz:sm z):tR [.val wk,.val (.ref k),.val (.lst [.str n0,.str n1]),.val (.str z)] M=some (.ex "NoIn" 0,M):=by
 unfold tR;z_go;rw[Lr,xaE h0,xaE h1];z_go;rw[Vf (k:=3) (x:=z) rfl hz.rp (by x_go)];z_go
theorem M8 {rt:List (Str×List D)}{ins:D}{nm:Str}(hM:M[k]? =some (.dcf (kr rt))):uq (ak 1) (ak 3) (bF aq) [.val wk,.val (.ref k),.val ins,.val (.str nm)] M=some (.v ((bf (kr rt) (.inr nm)).getD (.lst [])),M):=by
 refine RX (k:=k) (kvs:=kr rt) (y:=.str nm) (x:=.lst []) (key:=.inr nm) (M1:=M) (M2:=M) (M3:=M) rfl hM rfl ?_ hM rfl;z_go
theorem G5 {rt:List (Str×List D)}{ins:D}{nm:Str}{its:List D}(hM:M[k]? =some (.dcf (kr rt)))(hv:(bf (kr rt) (.inr nm)).getD (.lst [])=.lst its)(h:∀d∈its,bW d):vU [.val wk,.val (.ref k),.val ins,.val (.str nm)] M=some (.nx [.val wk,.val (.ref k),.val ins,.val (.str nm)],M):=by
 unfold vU;z_go;rw[M8 hM,hv];z_go;rw[Rh h];z_go
theorem MK {rt:List (Str×List D)}{ins d:D}{nm:Str}{as bs:List D}(hM:M[k]? =some (.dcf (kr rt)))(hv:(bf (kr rt) (.inr nm)).getD (.lst [])=.lst (as ++ d::bs))(h:∀d∈as,bW d)(hd:gn d)(hl:as.length<1000):vU [.val wk,.val (.ref k),.val ins,.val (.str nm)] M=some (.ex "NoItem" ((as.length:Int) + 1),M):=by
 unfold vU;z_go;rw[M8 hM,hv];z_go;rw[Rg h hd hl];z_go
end
variable {M:Mm}
theorem U5 {ds:List D}{nm:Str}:vf [.val (.str nm),.val (.lst ds)] M=some (.v (.tup [.str nm,.int ds.length]),M):=by
 unfold vf;z_go
noncomputable def lt (rt:List (Str×List D)):List (Str×Int):=rt.map fun p=>(p.1,(p.2.length:Int))
theorem Mj:∀rt:List (Str×List D),rA ((kr rt).map fun p=>match p with |(kk,.lst ds)=>D.tup [cV kk,.int ds.length] |(kk,_)=>.tup [cV kk,.int 0])=some (tb (lt rt))
  | []=>rfl
  |p::rt=>by
    have ih:=Mj rt;unfold kr lt tb at ih ⊢;rw[xam,xam,xam,xam];simp only[rA,ih];rfl
section
variable {n0 n1:Str}{k:Nat}{rt:List (Str×List D)}
theorem R6 {rs:List Rw}{ins s3:E3.Slot}(hr:GR [] rs)(hl:rs.length<=100)(hM:M[k]? =some (.dcf (kr rt)))(hn:(rt.map (·.1)).Nodup)(hrt:rt.length<=10):
    (∃t',run (lt rt) rs []=some t'/\tX [.val (.lst (rs.map rD)),.val (.ref k),ins,s3] M=some (.nx [.val (.lst (rs.map rD)),.val (.ref k),ins,s3],M ++ [.dct (tb (lt rt))] ++ [.dct (tb t')]))\/
    (∃t',run (lt rt) rs []=none/\tX [.val (.lst (rs.map rD)),.val (.ref k),ins,s3] M=some (.ex "TooMuch" 0,M ++ [.dct (tb (lt rt))] ++ [.dct (tb t')])):=by
  have ci:mJ [] (ak 1) vf [.val (.lst (rs.map rD)),.val (.ref k),ins,s3] M=some (.v (.lst ((kr rt).map fun p=>match p with |(kk,.lst ds)=>D.tup [cV kk,.int ds.length] |(kk,_)=>.tup [cV kk,.int 0])),M):=by
    refine Qz (k:=k) (kvs:=kr rt) (M1:=M) _ rfl hM (fun p hp=>?_) (by unfold kr;rw[xaC,xaw];omega);unfold kr at hp;obtain⟨q,hq,rfl⟩:=xbq.mp hp;exact U5
  have hnd:((tb (lt rt)).map (·.1)).Nodup:=by
    unfold tb lt;rw[xbr,xbr];have:(((fun x:Key×D=>x.1) ∘ fun p:Str×Int=>(Sum.inr p.1,D.int p.2)) ∘ fun p:Str×List D=>(p.1,(p.2.length:Int)))=fun p:Str×List D=>(Sum.inr p.1:Key):=rfl;rw[this,show rt.map (fun p=>(Sum.inr p.1:Key))=(rt.map (·.1)).map (fun z=>(Sum.inr z:Key)) by rw[xbr];rfl];exact List.Pairwise.map _ (fun a b h z=>h (xdI z)) hn
  have dd:=Dq (f:=mJ [] (ak 1) vf) (env:=[.val (.lst (rs.map rD)),.val (.ref k),ins,s3]) (M:=M) ci (Mj rt) hnd;have hNN:NN (lt rt):=fun z=>by
    unfold gv gt
    cases h:(lt rt).find? fun p=>decide (p.1=z) with
    |none=>simp
    |some p=>
      have:=List.mem_of_find?_eq_some h;unfold lt at this;obtain⟨q,hq,rfl⟩:=xbq.mp this
      simp
  rcases Ss (M:=M ++ [.dct (tb (lt rt))]) (a:=M.length) (L:=lt rt) hr hNN hl iW with⟨t',e1,_,_,e2⟩ |⟨t',e1,e2⟩
  · refine .inl ⟨t',e1,?_⟩;unfold tX;z_go;rw[dd];z_go;rw[e2];z_go
  · refine .inr ⟨t',e1,?_⟩;unfold tX;z_go;rw[dd];z_go;rw[e2];z_go
end
variable {M:Mm}
section
variable {n0 n1:Str}{k:Nat}{rt:List (Str×List D)}{rest:List Rw}
noncomputable def cM (n0 n1:Str) (rest:List Rw):List Rw:=⟨"in",n0,[],[]⟩::⟨"in",n1,[],[]⟩::rest
theorem KY {wk:D}:∀(ks:List Str) (s3:E3.Slot),(∀z∈ks,z=n0\/z=n1)->∃s3',loopS 3 tR (ks.map .str) [.val wk,.val (.ref k),.val (.lst [.str n0,.str n1]),s3] M=some (.nx [.val wk,.val (.ref k),.val (.lst [.str n0,.str n1]),s3'],M)
  | [],s3,_=>⟨s3,rfl⟩
  |z::ks,s3,h=>by
    obtain⟨s3',e⟩:=KY (wk:=wk) ks (.val (.str z)) fun y hy=>h y (xav _ hy);refine⟨s3',?_⟩;rw[xam,Gu];z_go;rw[K5 (h z xaA)];z_go;exact e
theorem KZ:(kr rt).map (fun p=>cV p.1)=(rt.map (·.1)).map .str:=by
 unfold kr;rw[xbr,xbr];rfl
theorem Dc (hin:∀r∈rest,¬ r.w="in")(hl:rest.length<=10)(hM:M[k]? =some (.dcf (kr rt)))(hk:∀z∈rt.map (·.1),z=n0\/z=n1):
  ∃s3,gh [.lst ((cM n0 n1 rest).map rD),.ref k] M=bB (tW [.val (.lst ((cM n0 n1 rest).map rD)),.val (.ref k),.val (.lst [.str n0,.str n1]),s3] M):=by
 obtain⟨s3,e⟩:=KY (M:=M) (n0:=n0) (n1:=n1) (k:=k) (wk:=.lst ((cM n0 n1 rest).map rD)) (rt.map (·.1)) .un hk;refine⟨s3,?_⟩;have ei:=Kw (M:=M) (n0:=n0) (n1:=n1) hin hl;have ek:=vM (f:=ak 1) (env:=[.val (.lst ((cM n0 n1 rest).map rD)),.val (.ref k),.val (.lst [.str n0,.str n1]),.un]) (M:=M) (k:=k) (M1:=M) rfl hM;rw[KZ]at ek
 change pI [.lst ((cM n0 n1 rest).map rD)] M=_ at ei
 generalize (cM n0 n1 rest).map rD=W at *;unfold gh yL;z_go;rw[ei];z_go;unfold Ft;z_go;rw[ek];z_go;rw[e];z_go
theorem Q_ {z:Str}{a b c:List D}(hin:∀r∈rest,¬ r.w="in")(hl:rest.length<=10)(hM:M[k]? =some (.dcf (kr [(n0,a),(z,b),(n1,c)])))(h0:n0≠z)(h1:n1≠z)(hz:sm z):
  gh [.lst ((cM n0 n1 rest).map rD),.ref k] M=some (.x "NoIn" 0,M):=by
 have ei:=Kw (M:=M) (n0:=n0) (n1:=n1) hin hl;have ek:=vM (f:=ak 1) (env:=[.val (.lst ((cM n0 n1 rest).map rD)),.val (.ref k),.val (.lst [.str n0,.str n1]),.un]) (M:=M) (k:=k) (M1:=M) rfl hM;rw[KZ]at ek
 change pI [.lst ((cM n0 n1 rest).map rD)] M=_ at ei
 generalize (cM n0 n1 rest).map rD=W at *;unfold gh yL;z_go;rw[ei];z_go;unfold Ft;z_go;rw[ek];z_go;rw[K5 (.inl rfl)];z_go;rw[Ux h0 h1 hz];z_go
section
variable {i0 i1:List D}
theorem Q6 {as bs:List D}{d:D}(hin:∀r∈rest,¬ r.w="in")(hl:rest.length<=10)(hM:M[k]? =some (.dcf (kr rt)))(hk:∀z∈rt.map (·.1),z=n0\/z=n1)(hv:(bf (kr rt) (.inr n0)).getD (.lst [])=.lst (as ++ d::bs))(h:∀d∈as,bW d)(hd:gn d)(hL:as.length<1000):
  gh [.lst ((cM n0 n1 rest).map rD),.ref k] M=some (.x "NoItem" ((as.length:Int) + 1),M):=by
 obtain⟨s3,e⟩:=Dc (n0:=n0) (n1:=n1) hin hl hM hk;rw[e];unfold tW;z_go;rw[MK hM hv h hd hL];z_go
theorem Q7 {as bs:List D}{d:D}(hin:∀r∈rest,¬ r.w="in")(hl:rest.length<=10)(hM:M[k]? =some (.dcf (kr rt)))(hk:∀z∈rt.map (·.1),z=n0\/z=n1)(hv0:(bf (kr rt) (.inr n0)).getD (.lst [])=.lst i0)(h0:∀d∈i0,bW d)(hv:(bf (kr rt) (.inr n1)).getD (.lst [])=.lst (as ++ d::bs))(h:∀d∈as,bW d)(hd:gn d)(hL:as.length<1000):
  gh [.lst ((cM n0 n1 rest).map rD),.ref k] M=some (.x "NoItem" ((as.length:Int) + 1),M):=by
 obtain⟨s3,e⟩:=Dc (n0:=n0) (n1:=n1) hin hl hM hk;rw[e];unfold tW;z_go;rw[G5 hM hv0 h0];z_go;rw[MK hM hv h hd hL];z_go
theorem Jy (hin:∀r∈rest,¬ r.w="in")(hl:rest.length<=10)(hM:M[k]? =some (.dcf (kr rt)))(hk:∀z∈rt.map (·.1),z=n0\/z=n1)(hn:(rt.map (·.1)).Nodup)(hrt:rt.length<=10)(hv0:(bf (kr rt) (.inr n0)).getD (.lst [])=.lst i0)(h0:∀d∈i0,bW d)(hv1:(bf (kr rt) (.inr n1)).getD (.lst [])=.lst i1)(h1:∀d∈i1,bW d)(hr:GR [] (cM n0 n1 rest)):
  (∃t',run (lt rt) (cM n0 n1 rest) []=some t'/\gh [.lst ((cM n0 n1 rest).map rD),.ref k] M=some (.v .non,M ++ [.dct (tb (lt rt))] ++ [.dct (tb t')]))\/
  (∃t',run (lt rt) (cM n0 n1 rest) []=none/\gh [.lst ((cM n0 n1 rest).map rD),.ref k] M=some (.x "TooMuch" 0,M ++ [.dct (tb (lt rt))] ++ [.dct (tb t')])):=by
 obtain⟨s3,e⟩:=Dc (n0:=n0) (n1:=n1) hin hl hM hk;have step:tW [.val (.lst ((cM n0 n1 rest).map rD)),.val (.ref k),.val (.lst [.str n0,.str n1]),s3] M=tX [.val (.lst ((cM n0 n1 rest).map rD)),.val (.ref k),.val (.lst [.str n0,.str n1]),.val (.str n1)] M:=by
  unfold tW;z_go;rw[G5 hM hv0 h0];z_go;rw[G5 hM hv1 h1];z_go
 rw[e,step];rcases R6 (M:=M) (ins:=.val (.lst [.str n0,.str n1])) (s3:=.val (.str n1)) hr (by unfold cM;simp;omega) hM hn hrt with⟨t',a,b⟩ |⟨t',a,b⟩
 ·exact .inl ⟨t',a,by rw[b];rfl⟩
 ·exact .inr ⟨t',a,by rw[b];rfl⟩
end
end
variable {M:Mm}
noncomputable def fZ:Str:="kqzabcdefghijlmnoprstuvwxy"
def oN:Str:=fZ ++ "0123456789"
def yP (x:Int):Nat:=(cd fZ).getD (x % 26).toNat 0
noncomputable def sV (x:Int) (p:Nat):Nat:=(cd oN).getD (x / (156 + 37 * (p:Int)) % 36).toNat 0
noncomputable def wS (x:Int):Nat->Str
 |0=>⟨#[yP x]⟩
 |n + 1=>wS x n ++ ⟨#[sV x n]⟩
theorem yp {x:Int}:∀n,(wS x n).length=n + 1
  |0=>rfl
  |n + 1=>by
    unfold wS;rw[xbu,yp n];rfl
theorem Kg {l:List Nat}(h:∀c∈l,c<200)(i:Nat):l.getD i 0<200:=by
 unfold List.getD
 cases e:l[i]? with
 |none=>decide
 |some c=>exact h c (xaL e)
theorem PX {x:Int}:∀n,∀c∈cd (wS x n),c<200
  |0,c,h=>by
    rw[show cd (wS x 0)=[yP x] from rfl,xaI]at h;rw[h];exact Kg (by x_go) _
  |n + 1,c,h=>by
    unfold wS at h;rw[sX,xaO]at h;rcases h with h |h
    · exact PX n c h
    · rw[show cd ⟨#[sV x n]⟩=[sV x n] from rfl,xaI]at h;rw[h];exact Kg (by x_go) _
theorem Fw {x k:Int}{w:Str}{p:Nat}(hp:p<=5)(hw:w.length<=10):zG [.val (.int x),.val (.int k),.val (.str fZ),.val (.str w),.val (.int (0 + (p:Int)))] M=some (.nx [.val (.int x),.val (.int k),.val (.str fZ),.val (.str (w ++ ⟨#[sV x p]⟩)),.val (.int (0 + (p:Int)))],M):=by
 have p0:=xa6 (x / (156 + 37 * (p:Int))) (show(36:Int)≠0 by decide);have p1:=xaN (x / (156 + 37 * (p:Int))) (show(0:Int)<36 by decide);have ha:cP (cd oN) (x / (156 + 37 * (p:Int)) % 36)=some (sV x p):=Cg 0 p0 (by rw[show(cd oN).length=36 by x_go];exact p1);have l26:fZ.length=26:=by x_go
 have l36:oN.length=36:=by x_go
 have e:(0:Int) + (p:Int)=(p:Int):=Int.zero_add _;rw[e];unfold zG;z_go;rw[xac (by rw[l26];decide +kernel)];z_go;rw[xac ⟨by omega,by omega⟩];z_go;rw[show fZ ++ Str.ofString "0123456789"=oN from rfl,xac (by rw[l36];decide),show oN.cps.toList=cd oN from rfl,ha];z_go;rw[xac (by rw[show(⟨#[sV x p]⟩:Str).length=1 from rfl];omega)];z_go
theorem Vi {x k:Int}(hk:0<=k/\k<=3):vC [.int x,.int k] M=some (.v (.str (wS x (x / 26 % 6).toNat ++ bL k)),M):=by
 have m0:=xa6 (x / 26) (show(6:Int)≠0 by decide);have m1:=xaN (x / 26) (show(0:Int)<6 by decide);have b0:=xa6 x (show(26:Int)≠0 by decide);have b1:=xaN x (show(0:Int)<26 by decide);have ha:cP (cd fZ) (x % 26)=some (yP x):=Cg 0 b0 (by rw[show(cd fZ).length=26 by x_go];exact b1);have l26:fZ.length<=16777216:=by x_go
 have lp:∀s4,∃s4',loopS 4 zG ((List.range (x / 26 % 6).toNat).map fun(k:Nat)=>D.int (0 + (k:Int))) [.val (.int x),.val (.int k),.val (.str fZ),.val (.str (wS x 0)),s4] M=some (.nx [.val (.int x),.val (.int k),.val (.str fZ),.val (.str (wS x (x / 26 % 6).toNat)),s4'],M):=fun s4=>by
  refine K9 (fun o=>∃s4',o=some (.nx [.val (.int x),.val (.int k),.val (.str fZ),.val (.str (wS x (x / 26 % 6).toNat)),s4'],M)) (fun n env N=>N=M/\∃s4,env=[.val (.int x),.val (.int k),.val (.str fZ),.val (.str (wS x n)),s4]) ⟨rfl,s4,rfl⟩ ?_ ?_
  ·rintro n d env N hd ⟨rfl,s4,rfl⟩;rw[xan]at hd;have hn:n<(x / 26 % 6).toNat:=by
    rcases xaJ n (x / 26 % 6).toNat with h |h
    ·exact h
    ·rw[xbg (by rw[xbJ];exact h)]at hd;cases hd
   rw[xcx hn]at hd;cases hd;refine⟨by simp,?_⟩;simp only[xdA,xdB];rw[Fw (by omega) (by rw[yp];omega)];exact⟨rfl,_,rfl⟩
  ·rintro env N ⟨rfl,s4,rfl⟩;rw[xaC,xbJ];exact⟨s4,rfl⟩
 obtain⟨s4',lp⟩:=lp .un;unfold vC Cq;z_go;rw[show Str.ofString "kqzabcdefghijlmnoprstuvwxy"=fZ from rfl,xac l26,show fZ.cps.toList=cd fZ from rfl,ha];z_go;rw[GZ (by omega)];z_go;rw[show(⟨#[yP x]⟩:Str)=wS x 0 from rfl,lp];z_go;rw[xac (Fj (by omega))];z_go;have wl:(bL k).length<=22:=(Du hk.1 (by omega)).1;rw[xac (by rw[yp];show _ + (bL k).length<=16777216;omega)];z_go;rfl
variable {M:Mm}
def Good (d:D):Prop:=bW d/\d.dep<=5
theorem Qm {k:Nat}:∃z:Str,Txt.slice (Str.ofString "ab") none (some (1 + (k:Int) % 2))=z/\(∀M:Mm,pJ [.str z] M=some (.v (.bl true),M)):=by
 have:(k:Int) % 2=0\/(k:Int) % 2=1:=by omega
 rcases this with e |e<;>rw[e]
 ·exact⟨Str.ofString "a",by x_go,fun M=>Fd⟩
 ·exact⟨Str.ofString "ab",by x_go,fun M=>Uy⟩
theorem T9 {m c:Int}{ds:List D}{k:Nat}{s4:E3.Slot}(hk:k<=100)(hl:ds.length<=200):∃d s4',Good d/\vR [.val m',.val (.int c),.own ds,.val (.int (0 + (k:Int))),s4] M=some (.nx [.val m',.val (.int c),.own (ds ++ [d]),.val (.int (0 + (k:Int))),s4'],M):=by
 have t0:=xa6 (c + 7919 * (k:Int) * (k:Int)) (show(1000000000001:Int)≠0 by decide);have t1:=xaN (c + 7919 * (k:Int) * (k:Int)) (show(0:Int)<1000000000001 by decide);have v0:=xa6 c (show(2000000000000000000000000000000000000000000000000000000000001:Int)≠0 by decide);have v1:=xaN c (show(0:Int)<2000000000000000000000000000000000000000000000000000000000001 by decide);obtain⟨z,ez,hz⟩:=Qm (k:=k);rw[Int.zero_add];generalize et:(c + 7919 * (k:Int) * (k:Int)) % 1000000000001=tm at t0 t1;generalize ev:c % 2000000000000000000000000000000000000000000000000000000000001=vl at v0 v1
 by_cases h:(c + (k:Int)) % 3=0
 ·refine⟨.tup [.str "mark",.int tm],.val (.int tm),⟨fun M=>T5 t0 (by omega),by simp[D.dep,D.deps]⟩,?_⟩;unfold vR;z_go;rw[xac (.inl (by omega))];z_go;rw[et];z_go;rw[xac h];z_go;rw[xac (by omega)];z_go
 ·refine⟨.tup [.str "thing",.int tm,.str z,.int (vl - 1000000000000000000000000000000000000000000000000000000000000)],.val (.int tm),⟨fun M=>T6 t0 (by omega) hz (by omega) (by omega),by simp[D.dep,D.deps]⟩,?_⟩;unfold vR;z_go;rw[xac (.inl (by omega))];z_go;rw[et];z_go;rw[xag h];z_go;rw[xac (by x_go),ez];z_go;rw[ev];z_go;rw[xac (by omega)];z_go
theorem KJ {m c:Int}(h0:0<=m)(h1:m<=100):∃its:List D,its.length=m.toNat/\(∀d∈its,Good d)/\sY [.int m,.int c] M=some (.v (.lst its),M):=by
 have lp:∃its:List D,its.length=m.toNat/\(∀d∈its,Good d)/\∃s3 s4,loopS 3 vR ((List.range m.toNat).map fun(k:Nat)=>D.int (0 + (k:Int))) [.val (.int m),.val (.int c),.own [],.un,.un] M=some (.nx [.val (.int m),.val (.int c),.own its,s3,s4],M):=by
  refine K9 (fun o=>∃its:List D,its.length=m.toNat/\(∀d∈its,Good d)/\∃s3 s4,o=some (.nx [.val (.int m),.val (.int c),.own its,s3,s4],M)) (fun n env N=>N=M/\∃its:List D,its.length=n/\(∀d∈its,Good d)/\∃s3 s4,env=[.val (.int m),.val (.int c),.own its,s3,s4]) ⟨rfl,[],rfl,fun d hd=>(by cases hd),.un,.un,rfl⟩ ?_ ?_
  ·rintro n d env N hd ⟨rfl,its,hl,hg,s3,s4,rfl⟩;rw[xan]at hd;have hn:n<m.toNat:=by
    rcases xaJ n m.toNat with h |h
    ·exact h
    ·rw[xbg (by rw[xbJ];exact h)]at hd;cases hd
   rw[xcx hn]at hd;cases hd;refine⟨by simp,?_⟩;simp only[xdA,xdB];obtain⟨d,s4',g,e⟩:=T9 (M:=N) (m:=0) (m':=.int m) (c:=c) (ds:=its) (k:=n) (s4:=s4) (by omega) (by omega);rw[e];refine⟨rfl,its ++ [d],by simp[hl],fun x hx=>?_,_,s4',rfl⟩;rcases xaO.mp hx with hx |hx
   ·exact hg x hx
   ·rw[xaI]at hx;rw[hx];exact g
  ·rintro env N ⟨rfl,its,hl,hg,s3,s4,rfl⟩;exact⟨its,by rw[hl,xaC,xbJ],hg,s3,s4,rfl⟩
 obtain⟨its,hl,hg,s3,s4,e⟩:=lp;refine⟨its,hl,hg,?_⟩;unfold sY Ck;z_go;rw[GZ (by omega)];z_go;rw[e];z_go
theorem Wg:∀d∈cL,d.dep<=5:=fun d h=>by
 simp only[cL,xas,xa8,xbR]at h;rcases h with rfl |rfl |rfl |rfl |rfl |rfl |rfl |rfl |rfl |rfl |rfl |rfl |rfl |rfl |rfl |rfl |rfl |rfl |rfl |rfl |rfl |rfl |rfl |rfl<;>simp[D.dep,D.deps]
theorem Wh {c:Int}:∃d∈cL,∀M:Mm,tD [.int c] M=some (.v d,M):=by
 have p0:=xa6 c (show(24:Int)≠0 by decide);have p1:=xaN c (show(0:Int)<24 by decide);have hl:cL.length=24:=rfl;have ha:cP cL (c % 24)=some (cL.getD (c % 24).toNat D.non):=Cg D.non p0 (by rw[hl];exact p1);refine⟨cL.getD (c % 24).toNat D.non,?_,fun M=>?_⟩
 ·have:(c % 24).toNat<cL.length:=by rw[hl];omega
  rw[List.getD_eq_getElem?_getD,xai this];exact xcm this
 ·unfold tD Cr;z_go;generalize cL.getD (c % 24).toNat D.non=d at ha ⊢;unfold cL at ha;rw[ha];z_go
variable {M:Mm}
theorem zcN {its:List D}{c:Int}(hg:∀d∈its,Good d)(hl:its.length<=100):∃(as bs:List D) (d:D),d∈cL/\(∀a∈as,a∈its)/\(∀a∈bs,a∈its)/\as.length<=100/\bs.length<=100/\
    ∀M:Mm,pF [.lst its,.int c] M=some (.v (.tup [.int as.length,.lst (as ++ d::bs)]),M):=by
  obtain⟨d,hd,eo⟩:=Wh (c:=c);have hdp:D.deps its<=49:=by
    have:∀l:List D,(∀d∈l,d.dep<=5)->D.deps l<=49:=fun l=>by
      induction l with
      |nil=>intro _;simp[D.deps]
      |cons a l ih=>
        intro h;have h1:=h a xaA;have h2:=ih fun d hd=>h d (xav _ hd);simp only[D.deps];omega
    exact this its fun d hd=>(hg d hd).2
  cases its with
  |nil=>
    refine⟨[],[],d,hd,fun a h=>(by cases h),fun a h=>(by cases h),by simp,by simp,fun M=>?_⟩;unfold pF yJ;z_go;rw[Lz (by simp[D.deps])];z_go;rw[eo];z_go
  |cons a r=>
    have L0:0<(a::r).length:=Nat.succ_pos _;have p0:=xa6 (c / 24) (show(((a::r).length:Nat):Int)≠0 by omega);have p1:=xaN (c / 24) (show(0:Int)<(((a::r).length:Nat):Int) by omega);obtain⟨j,hj⟩:∃j:Nat,c / 24 % (((a::r).length:Nat):Int)=j:=⟨(c / 24 % (((a::r).length:Nat):Int)).toNat,by omega⟩;have hjl:j<(a::r).length:=by omega
    clear p0 p1;refine⟨(a::r).take j,(a::r).drop (j + 1),d,hd,fun x h=>List.mem_of_mem_take h,fun x h=>List.mem_of_mem_drop h,by rw[xcj];omega,by rw[xck];omega,fun M=>?_⟩;have hne:(a::r).isEmpty=false:=rfl;have tl:((a::r).take j).length=j:=by rw[xcj];omega
    have dl:((a::r).drop (j + 1)).length<=100:=by rw[xck];omega
    generalize a::r=its at *;unfold pF yJ;z_go;rw[Lz hdp,hne];z_go;rw[xac (by omega),hj];z_go;rw[Rq its (i:=(j:Int)) (by omega),xcc,eo];z_go;rw[xac (by rw[tl];omega)];z_go;rw[Ro its (i:=(j:Int) + 1) (by omega),show((j:Int) + 1).toNat=j + 1 by omega];z_go;rw[xac (by rw[xax,tl];simp;omega)];z_go;rw[tl,xbi];rfl
variable {M:Mm}
theorem lg {ns:List Int}{k:Int}{M:Mm}(hk:0<=k):f9 [.lst (ns.map .int),.int k] M=some (.v (.int (ns.getD k.toNat 0)),M):=by
 unfold f9 Ci;z_go
 by_cases h:k<(ns.length:Int)
 ·rw[xac h];z_go;have e:cP (ns.map D.int) k=some (.int (ns.getD k.toNat 0)):=by
   obtain⟨j,rfl⟩:∃j:Nat,k=j:=⟨k.toNat,by omega⟩;refine lJ ?_;have:j<ns.length:=by omega
   rw[xan,xai this]
   simp[List.getD,this]
  rw[e];z_go
 ·rw[xag h];z_go
  simp[List.getD,xbg (show ns.length<=k.toNat by omega)]
theorem QB {ns:List Int}:∃a b:Int,0<=a/\a<=100/\0<=b/\b<=100/\∀M:Mm,sZ [.lst (ns.map .int)] M=some (.v (.tup [.int a,.int b]),M):=by
 have g1:=fun M=>lg (ns:=ns) (k:=1) (M:=M) (by decide);have g2:=fun M=>lg (ns:=ns) (k:=2) (M:=M) (by decide);generalize ns.getD (1:Int).toNat 0=c at g1;generalize ns.getD (2:Int).toNat 0=e at g2
 by_cases h:c % 2=0
 ·have:c / 2 % 6=0\/c / 2 % 6=1\/c / 2 % 6=2\/c / 2 % 6=3\/c / 2 % 6=4\/c / 2 % 6=5:=by omega
  have key:∃a b:Int,0<=a/\a<=100/\0<=b/\b<=100/\cP [D.tup [.int 40,.int 50],.tup [.int 41,.int 49],.tup [.int 29,.int 69],.tup [.int 20,.int 100],.tup [.int 100,.int 20],.tup [.int 100,.int 100]] (c / 2 % 6)=some (.tup [.int a,.int b]):=by
   rcases this with e |e |e |e |e |e<;>rw[e]
   ·exact⟨_,_,by decide,by decide,by decide,by decide,at0⟩
   ·exact⟨_,_,by decide,by decide,by decide,by decide,at1⟩
   ·exact⟨_,_,by decide,by decide,by decide,by decide,at2⟩
   ·exact⟨_,_,by decide,by decide,by decide,by decide,yH⟩
   ·exact⟨_,_,by decide,by decide,by decide,by decide,lJ (j:=4) rfl⟩
   ·exact⟨_,_,by decide,by decide,by decide,by decide,lJ (j:=5) rfl⟩
  obtain⟨a,b,a0,a1,b0,b1,ea⟩:=key;refine⟨a,b,a0,a1,b0,b1,fun M=>?_⟩;unfold sZ yI;z_go;rw[g1];z_go;rw[xac h];z_go;rw[ea];z_go
 ·refine⟨c / 2 % 101,e % 101,by omega,by omega,by omega,by omega,fun M=>?_⟩;unfold sZ yI;z_go;rw[g1];z_go;rw[xag h];z_go;rw[g2];z_go
noncomputable def lU (kd a b f:Int):Int:=if kd % 3=0 then a * b else if kd % 3=1 then a * f * b else(2 * a + b) * (2 * a + b)
theorem R_ {kd a b f:Int}(a0:0<=a)(a1:a<=100)(b0:0<=b)(b1:b<=100)(f0:1<=f)(f1:f<=8):vB [.int kd,.int a,.int b,.int f] M=some (.v (.int (lU kd a b f)),M):=by
 unfold vB Cj lU;z_go
 by_cases h:kd % 3=0
 ·rw[xac h,xac h];z_go;rw[xac (.inl (by omega))];z_go
 ·rw[xag h,xag h];z_go
  by_cases h':kd % 3=1
  ·rw[xac h',xac h'];z_go;rw[xac (.inl (by omega))];z_go;rw[xac (.inr (.inl (by omega)))];z_go
  ·rw[xag h',xag h'];z_go;rw[xac (.inl (by omega))];z_go
noncomputable def bx (kd:Int):Int:=1 + kd / 3 % 50
noncomputable def fY (kd f:Int):Int:=if bx kd * f - kd / 150 % bx kd > bx kd then bx kd * f - kd / 150 % bx kd else bx kd
noncomputable def rst (kd f:Int) (n0 n1 n2 n3:Str):List Rw:=
 if kd % 3=0 then [⟨"join",n3,[n0,n1],["5","v"]⟩]
 else if kd % 3=1 then [⟨"slide",n2,[n0],[bL (fY kd f),bL (bx kd),"sum"]⟩,⟨"join",n3,[n2,n1],["0","+","v","w"]⟩]
 else [⟨"pour",n2,[n0,n1,n0],[]⟩,⟨"join",n3,[n2,n2],["0","w"]⟩]
theorem Ik {kd f:Int}(f0:1<=f)(f1:f<=8):1<=bx kd/\bx kd<=50/\bx kd<=fY kd f/\fY kd f<=8 * bx kd/\(fY kd f + bx kd - 1) / bx kd=f:=by
 have s0:1<=bx kd:=by unfold bx;omega
 have s1:bx kd<=50:=by unfold bx;omega
 have r0:=xa6 (kd / 150) (show bx kd≠0 by omega);have r1:=xaN (kd / 150) (show 0<bx kd by omega);unfold fY;generalize kd / 150 % bx kd=r at r0 r1;generalize bx kd=s at *;have m1:s * f<=s * 8:=xbI f1 (by omega);have m2:s * 1<=s * f:=xbI f0 (by omega);refine⟨s0,s1,by split<;>omega,by split<;>omega,?_⟩
 have sp:0<s:=by omega
 have e1:f * s=s * f:=Int.mul_comm _ _;have e2:(f + 1) * s=s * f + s:=by rw[Int.add_mul,e1,Int.one_mul]
 split
 ·rename_i h;refine Int.le_antisymm (xdC.mp ((xdc sp).mpr ?_)) ((xdd sp).mpr ?_)
  ·rw[e2];omega
  ·rw[e1];omega
 ·rename_i h;have f2:f=1:=xcP fun z=>by
   have:s * 2<=s * f:=xbI (by omega) (by omega);omega
  refine Int.le_antisymm (xdC.mp ((xdc sp).mpr ?_)) ((xdd sp).mpr ?_)
  ·rw[e2];omega
  ·rw[e1,f2,Int.mul_one];omega
theorem Il {kd f:Int}{n0 n1 n2 n3:Str}(f0:1<=f)(f1:f<=8)(k0:0<=kd)(k1:kd<7800):nH [.int kd,.lst [.str n0,.str n1,.str n2,.str n3],.int f] M=some (.v (.lst ((cM n0 n1 (rst kd f n0 n1 n2 n3)).map rD)),M):=by
 obtain⟨s0,s1,w0,w1,_⟩:=Ik (kd:=kd) f0 f1;unfold nH Cy;z_go
 by_cases h:kd % 3=0
 ·have h1:¬ kd % 3=1:=by omega
  have h2:¬ kd % 3=2:=by omega
  rw[xac h];z_go;rw[xag h1];z_go;rw[xag h2];z_go;rw[show rst kd f n0 n1 n2 n3=_ from xac h];rfl
 ·rw[xag h];z_go
  by_cases h1:kd % 3=1
  ·have h2:¬ kd % 3=2:=by omega
   rw[xac h1];z_go;rw[show(1:Int) + kd / 3 % 50=bx kd from rfl];rw[xac (.inl (by omega))];z_go;rw[xac (by omega)];z_go;rw[show(if bx kd * f - kd / 150 % bx kd > bx kd then bx kd * f - kd / 150 % bx kd else bx kd)=fY kd f from rfl]
   rw[xac (Fj (by omega))];z_go;rw[xac (Fj (by omega))];z_go;rw[xag h2];z_go;rw[show rst kd f n0 n1 n2 n3=_ from(xag h).trans (xac h1)];rfl
  ·have h2:kd % 3=2:=by omega
   rw[xag h1];z_go;rw[xac h2];z_go;rw[show rst kd f n0 n1 n2 n3=_ from(xag h).trans (xag h1)];rfl
variable {M:Mm}
section
variable {kd f a b:Int}{n0 n1 n2 n3:Str}
theorem G6:(∀r∈rst kd f n0 n1 n2 n3,¬ r.w="in")/\(rst kd f n0 n1 n2 n3).length<=10:=by
 unfold rst
 split
 ·refine⟨fun r hr=>?_,by simp⟩;simp only[xas,xa8,xbR]at hr;subst hr;exact kJ "join" "in"
 ·split
  ·refine⟨fun r hr=>?_,by simp⟩;simp only[xas,xa8,xbR]at hr;rcases hr with rfl |rfl
   ·exact kJ "slide" "in"
   ·exact kJ "join" "in"
  ·refine⟨fun r hr=>?_,by simp⟩;simp only[xas,xa8,xbR]at hr;rcases hr with rfl |rfl
   ·exact kJ "pour" "in"
   ·exact kJ "join" "in"
theorem Kh (f0:1<=f)(f1:f<=8):GR [] (cM n0 n1 (rst kd f n0 n1 n2 n3)):=by
 obtain⟨s0,s1,w0,w1,_⟩:=Ik (kd:=kd) f0 f1;unfold cM;refine .cons .inn (.cons .inn ?_);unfold rst
 split
 ·exact .cons (.join (by simp) (by simp)) .nil
 ·split
  ·exact .cons (.slide (by simp) s0 w0 w1 (by omega)) (.cons (.join (by simp) (by simp)) .nil)
  ·exact .cons (.pour (by simp) (by simp) (by simp)) (.cons (.join (by simp) (by simp)) .nil)
theorem tM {t:List (Str×Int)}{k k':Str}{v:Int}:gv (pt t k v) k'=if k'=k then v else gv t k':=by
 unfold gv;rw[El]
 split<;>rfl
theorem ug {L t:List (Str×Int)}{r:Rw}{rs:List Rw}:run L (r::rs) t=if 2000<fl L t r then none else run L rs (pt t r.nm (fl L t r)):=rfl
theorem zbW {L:List (Str×Int)}(f0:1<=f)(f1:f<=8)(ea:gv L n0=a)(eb:gv L n1=b)(a0:0<=a)(a1:a<=100)(b0:0<=b)(b1:b<=100)(h01:n0≠n1)(h02:n0≠n2)(h12:n1≠n2):
  (2000<lU kd a b f->run L (cM n0 n1 (rst kd f n0 n1 n2 n3)) []=none)/\(¬ 2000<lU kd a b f->∃t,run L (cM n0 n1 (rst kd f n0 n1 n2 n3)) []=some t):=by
 obtain⟨s0,s1,w0,w1,we⟩:=Ik (kd:=kd) f0 f1;have fi:∀(t:List (Str×Int)) (nm:Str),fl L t ⟨"in",nm,[],[]⟩=gv L nm:=fun t nm=>rfl;have g0:gv (pt (pt [] n0 a) n1 b) n0=a:=by rw[tM,xag h01,tM,xac rfl]
 have g1:gv (pt (pt [] n0 a) n1 b) n1=b:=by rw[tM,xac rfl]
 have st:∀rs,run L (⟨"in",n0,[],[]⟩::⟨"in",n1,[],[]⟩::rs) []=run L rs (pt (pt [] n0 a) n1 b):=fun rs=>by
  rw[ug,fi,ea,xag (by omega),ug,fi,eb,xag (by omega)]
 generalize pt (pt [] n0 a) n1 b=t at g0 g1 st;unfold cM;rw[st];have one:∀(u:List (Str×Int)) (r:Rw) (v:Int),fl L u r=v->(2000<v->run L [r] u=none)/\(¬ 2000<v->∃t,run L [r] u=some t):=fun u r v e=>by
  refine⟨fun h=>?_,fun h=>⟨pt u r.nm v,?_⟩⟩
  ·rw[ug,e,xac h]
  ·rw[ug,e,xag h];rfl
 unfold rst lU
 by_cases h:kd % 3=0
 ·rw[xac h,xac h];exact one _ _ _ (by rw[vg,g0,g1])
 ·rw[xag h,xag h]
  by_cases h1:kd % 3=1
  ·rw[xac h1,xac h1];have e1:fl L t ⟨"slide",n2,[n0],[bL (fY kd f),bL (bx kd),"sum"]⟩=a * f:=by rw[DR s0 w0 (by omega),g0,we]
   have m1:a * f<=100 * f:=Int.mul_le_mul_of_nonneg_right a1 (by omega);have s2:run L [⟨"slide",n2,[n0],[bL (fY kd f),bL (bx kd),"sum"]⟩,⟨"join",n3,[n2,n1],["0","+","v","w"]⟩] t=run L [⟨"join",n3,[n2,n1],["0","+","v","w"]⟩] (pt t n2 (a * f)):=by
    rw[ug,e1,xag (by omega)]
   rw[s2];exact one _ _ _ (by rw[vg,tM,xac rfl,tM,xag h12,g1])
  ·rw[xag h1,xag h1];have e1:fl L t ⟨"pour",n2,[n0,n1,n0],[]⟩=2 * a + b:=by
    rw[DQ];simp only[xam,xbx,xdk,List.sum_nil,g0,g1];omega
   have s2:run L [⟨"pour",n2,[n0,n1,n0],[]⟩,⟨"join",n3,[n2,n2],["0","w"]⟩] t=run L [⟨"join",n3,[n2,n2],["0","w"]⟩] (pt t n2 (2 * a + b)):=by
    rw[ug,e1,xag (by omega)]
   rw[s2];exact one _ _ _ (by rw[vg,tM,xac rfl])
end
variable {M:Mm}
inductive Said:E3.Res->D->Prop
 |v:Said (.v .non) (.tup [.str "",.int (-1)])
 |noin:Said (.x "NoIn" 0) (.tup [.str "NoIn",.int (-1)])
 |noit {n:Nat}:Said (.x "NoItem" ((n:Int) + 1)) (.tup [.str "NoItem",.int n])
 |much:Said (.x "TooMuch" 0) (.tup [.str "TooMuch",.int (-1)])
theorem Bb {w1 w2 d2:D}{z:Str}{n:Int}{s4:E3.Slot}(h:(z=""/\d2=.non)\/z≠""):bB (pW [.val w1,.val w2,.val d2,.val (.tup [.str z,.int n]),s4] M)=some (.v (.tup [.str z,.int n]),M):=by
 have e4:Fq [.val w1,.val w2,.val d2,.val (.tup [.str z,.int n]),s4] M=some (.rt (.tup [.str z,.int n]),M):=by
  unfold Fq;z_go;unfold Lf;z_go
 rcases h with⟨rfl,rfl⟩ |h
 ·unfold pW;z_go;rw[e4];z_go
 ·have h':(z=Str.ofString "")=False:=eq_false h;unfold pW;z_go;simp only[h'];z_go;rw[e4];z_go
section
variable {wk:D}{k:Nat}{M':Mm}{r:E3.Res}{d:D}
theorem Ng (h:gh [wk,.ref k] M=some (r,M'))(hs:Said r d):pD [wk,.ref k] M=some (.v d,M'):=by
  have go:pD [wk,.ref k] M=bB (Fp [.val wk,.val (.ref k),.val (.int 0),.val (.tup [.str "",.int (-1)]),.un] M):=by
    unfold pD Cw;z_go;unfold Le;z_go
  rw[go];unfold Fp;rw[wM]
  cases hs with
  |v=>
    have hy:m8 [.val wk,.val (.ref k),.val (.int 0),.val (.tup [.str "",.int (-1)]),.un] M=some (.nx [.val wk,.val (.ref k),.val .non,.val (.tup [.str "",.int (-1)]),.un],M'):=by
      unfold m8;z_go;rw[h];z_go
    unfold rN;rw[hy];dsimp only;rw[j_];exact Bb (.inl ⟨rfl,rfl⟩)
  |noin=>
    have hy:m8 [.val wk,.val (.ref k),.val (.int 0),.val (.tup [.str "",.int (-1)]),.un] M=some (.ex "NoIn" 0,M'):=by
      unfold m8;z_go;rw[h];z_go
    unfold rN;rw[hy];show bB (dj _ (dR lN vK _ _ _ _ _))=_;unfold dR;rw[show lN (Str.ofString "NoIn")=some true by x_go];dsimp only;unfold vK;z_go;show bB (dj pW (some (.nx [.val wk,.val (.ref k),.val (.int 0),.val (.tup [.str "NoIn",.int (-1)]),.un],M')))=_;rw[j_];exact Bb (.inr (by x_go))
  |much=>
    have hy:m8 [.val wk,.val (.ref k),.val (.int 0),.val (.tup [.str "",.int (-1)]),.un] M=some (.ex "TooMuch" 0,M'):=by
      unfold m8;z_go;rw[h];z_go
    unfold rN;rw[hy];show bB (dj _ (dR lN vK _ _ _ _ _))=_;unfold dR tO;rw[show lN (Str.ofString "TooMuch")=some false by x_go,show u5 (Str.ofString "TooMuch")=some false by x_go];dsimp only;rw[show yR (Str.ofString "TooMuch")=some true by x_go];dsimp only;unfold Km;z_go;show bB (dj pW (some (.nx [.val wk,.val (.ref k),.val (.int 0),.val (.tup [.str "TooMuch",.int (-1)]),.un],M')))=_;rw[j_];exact Bb (.inr (by x_go))
  | @noit n=>
    have hy:m8 [.val wk,.val (.ref k),.val (.int 0),.val (.tup [.str "",.int (-1)]),.un] M=some (.ex "NoItem" ((n:Int) + 1),M'):=by
      unfold m8;z_go;rw[h];z_go
    unfold rN;rw[hy];show bB (dj _ (dR lN vK _ _ _ _ _))=_;unfold dR tO;rw[show lN (Str.ofString "NoItem")=some false by x_go,show u5 (Str.ofString "NoItem")=some true by x_go];dsimp only;rw[xac (by show 4<5;decide)];show bB (dj _ (mj 4 (Em [.val wk,.val (.ref k),.val (.int 0),.val (.tup [.str "",.int (-1)]),.exc "NoItem" ((n:Int) + 1)] M')))=_;unfold Em;z_go;rw[ZV (by x_go)];z_go;show bB (dj pW (some (.nx [.val wk,.val (.ref k),.val (.int 0),.val (.tup [.str "NoItem",.int n]),.un],M')))=_;rw[j_];exact Bb (.inr (by x_go))
theorem Ri {c:Str}{n:Int}(h:gh [wk,.ref k] M=some (.x c n,M'))(hs:Said (.x c n) d):vD [wk,.ref k] M=some (.v (.bl true),M'):=by
  have hc:yS c=true/\Bq c=some true/\∃a b e,xV c=some a/\xW c=some b/\xX c=some e/\[a,b,e].count true=1:=by
    cases hs with
    |noin=>exact⟨by x_go,by x_go,true,false,false,by x_go,by x_go,by x_go,by decide⟩
    |noit=>exact⟨by x_go,by x_go,false,true,false,by x_go,by x_go,by x_go,by decide⟩
    |much=>exact⟨by x_go,by x_go,false,false,true,by x_go,by x_go,by x_go,by decide⟩
  obtain⟨c1,c2,a,b,e,t1,t2,t3,cn⟩:=hc;have ct:uh (bF (ao (dH 2 xV) (ao (dH 2 xW) (ao (dH 2 xX) aq)))) (aj (.bl true)) [.val wk,.val (.ref k),.exc c n] M'=some (.v (.int 1),M'):=by
    refine(CV (ds:=[.bl a,.bl b,.bl e]) (bs:=[a,b,e]) (b:=true) (M1:=M') (M2:=M') ?_ rfl rfl).trans ?_
    · z_go;rw[t1];z_go;rw[t2];z_go;rw[t3];z_go
    · rw[cn];rfl
  unfold vD Cu Qe;z_go;rw[h];z_go;rw[c1];z_go;unfold Kl;z_go;rw[c2];z_go;rw[ct];z_go
end
variable {M:Mm}
def nm (x:Int)(k:Int):Str:=wS x (x / 26 % 6).toNat ++ bL k
theorem u6 {x:Int}:cd (nm x 0)=cd (wS x (x / 26 % 6).toNat) ++ [48]/\cd (nm x 1)=cd (wS x (x / 26 % 6).toNat) ++ [49]/\cd (nm x 2)=cd (wS x (x / 26 % 6).toNat) ++ [50]/\cd (nm x 3)=cd (wS x (x / 26 % 6).toNat) ++ [51]:=by
 unfold nm;rw[sX,sX,sX,sX,show cd (bL 0)=[48] by x_go,show cd (bL 1)=[49] by x_go,show cd (bL 2)=[50] by x_go,show cd (bL 3)=[51] by x_go];exact⟨rfl,rfl,rfl,rfl⟩
theorem wg {a b:Str}{w:List Nat}{c d:Nat}(ha:cd a=w ++ [c])(hb:cd b=w ++ [d])(h:c≠d):a≠b:=fun e=>by
 rw[e,hb]at ha;have:=List.append_cancel_left ha;exact h (by simpa using this.symm)
theorem zN {a b:Str}(h:(cd a).length≠(cd b).length):a≠b:=fun e=>h (by rw[e])
theorem wu {x:Int}:nm x 0≠nm x 1/\nm x 0≠nm x 2/\nm x 1≠nm x 2:=by
 obtain⟨e0,e1,e2,e3⟩:=u6 (x:=x);exact⟨wg e0 e1 (by decide),wg e0 e2 (by decide),wg e1 e2 (by decide)⟩
def Odd (x:Int)(z:Str):Prop:=nm x 0≠z/\nm x 1≠z/\sm z
theorem FT {x:Int}{l:List Nat}{z:Str}(h:cd z=cd (wS x (x / 26 % 6).toNat) ++ l)(hl:l.length<=2)(hc:∀c∈l,c<200):sm z:=by
 have m0:=xa6 (x / 26) (show(6:Int)≠0 by decide);have m1:=xaN (x / 26) (show(0:Int)<6 by decide);refine⟨?_,fun c hc'=>?_⟩
 ·rw[Fg,h,xax, <-Fg,yp];omega
 ·rw[h,xaO]at hc';rcases hc' with q |q
  ·have:=PX _ c q;omega
  ·have:=hc c q;omega
theorem Wf {x:Int}:Odd x (nm x 3):=by
 obtain⟨e0,e1,e2,e3⟩:=u6 (x:=x);exact⟨wg e0 e3 (by decide),wg e1 e3 (by decide),FT e3 (by simp) (by simp)⟩
theorem Wd {x:Int}:Odd x (nm x 0 ++ Str.ofString "0"):=by
 obtain⟨e0,e1,e2,e3⟩:=u6 (x:=x);have e:cd (nm x 0 ++ Str.ofString "0")=cd (wS x (x / 26 % 6).toNat) ++ [48,48]:=by rw[sX,e0,show cd (Str.ofString "0")=[48] by x_go,xbi];rfl
 exact⟨zN (by rw[e0,e];simp),zN (by rw[e1,e];simp),FT e (by simp) (by simp)⟩
theorem zcW {x:Int}:Txt.slice (nm x 0) none (some (-1))=wS x (x / 26 % 6).toNat:=by
 obtain⟨e0,_⟩:=u6 (x:=x);have hl:(nm x 0).length=(cd (wS x (x / 26 % 6).toNat)).length + 1:=by rw[Fg,e0];simp
 have:=eq_of_beq (PyProof.Rows.slice_closes_to_neg (x:=nm x 0) (j:= -1) (k:= -1 + (nm x 0).length) (by decide) (by omega) rfl);rw[this];have e:((nm x 0).cps.toList.drop (0:Int).toNat).take (-1 + ((nm x 0).length:Int) - 0).toNat=cd (wS x (x / 26 % 6).toNat):=by
  show((cd (nm x 0)).drop (0:Int).toNat).take _=_;rw[e0,show(-1 + ((nm x 0).length:Int) - 0).toNat=(cd (wS x (x / 26 % 6).toNat)).length by omega]
  simp
 rw[e];rfl
theorem Wi {x:Int}:Odd x (wS x (x / 26 % 6).toNat):=by
 obtain⟨e0,e1,e2,e3⟩:=u6 (x:=x);exact⟨zN (by rw[e0];simp),zN (by rw[e1];simp),FT (x:=x) (l:=[]) (by simp) (by simp) (by simp)⟩
theorem Gn {kvs:List (Key×D)}{k:Key}{v:D}(h:(kvs.any fun kv=>decide (kv.1=k))=false):b_ kvs k v=kvs ++ [(k,v)]:=by
 unfold b_;rw[xag (by rw[h];decide)]
theorem RD {f1 g1 f2 g2:E}{env:E3.Env}{a b:Str}{x y:List D}(h1:f1 env M=some (.v (.str a),M))(h2:g1 env M=some (.v (.lst x),M))(h3:f2 env M=some (.v (.str b),M))(h4:g2 env M=some (.v (.lst y),M))(h:a≠b):dh (gQ f1 g1 (gQ f2 g2 dG)) env M=some (.v (.ref M.length),M ++ [.dct (kr [(a,x),(b,y)])]):=by
 simp only[dh,gQ,h1,h2,h3,h4,dG,keysOf,toKey];rw[xac (by simp)];have e:tV [] [(.inr a,.lst x),(.inr b,.lst y)]=kr [(a,x),(b,y)]:=by
  have p1:b_ [] (.inr a) (.lst x)=[(.inr a,.lst x)]:=rfl;show b_ (b_ [] (.inr a) (.lst x)) (.inr b) (.lst y)=_;rw[p1,Gn (by simp[h])];rfl
 rw[<-e]
theorem RB {f1 g1 f2 g2 f3 g3:E}{env:E3.Env}{a b c:Str}{x y z:List D}(h1:f1 env M=some (.v (.str a),M))(h2:g1 env M=some (.v (.lst x),M))(h3:f2 env M=some (.v (.str b),M))(h4:g2 env M=some (.v (.lst y),M))(h5:f3 env M=some (.v (.str c),M))(h6:g3 env M=some (.v (.lst z),M))(ab:a≠b)(ac:a≠c)(bc:b≠c):dh (gQ f1 g1 (gQ f2 g2 (gQ f3 g3 dG))) env M=some (.v (.ref M.length),M ++ [.dct (kr [(a,x),(b,y),(c,z)])]):=by
 simp only[dh,gQ,h1,h2,h3,h4,h5,h6,dG,keysOf,toKey];rw[xac (by simp)];have e:tV [] [(.inr a,.lst x),(.inr b,.lst y),(.inr c,.lst z)]=kr [(a,x),(b,y),(c,z)]:=by
  have p1:b_ [] (.inr a) (.lst x)=[(.inr a,.lst x)]:=rfl;have p2:b_ [(.inr a,.lst x)] (.inr b) (.lst y)=[(.inr a,.lst x),(.inr b,.lst y)]:=Gn (by simp[ab]);show b_ (b_ (b_ [] (.inr a) (.lst x)) (.inr b) (.lst y)) (.inr c) (.lst z)=_;rw[p1,p2,Gn (by simp[ac,bc])];rfl
 rw[<-e]
variable {M:Mm}
inductive Due (a b:Int)(d0:D):List D->List D->D->Prop
 |good {i0 i1:List D}:(∀d∈i0,bW d)->(∀d∈i1,bW d)->(i0.length:Int)=a->(i1.length:Int)=b->Due a b d0 i0 i1 d0
 |bad1 {i0 as bs:List D} {d:D}:(∀d∈i0,bW d)->(∀d∈as,bW d)->gn d->as.length<1000->Due a b d0 i0 (as ++ d::bs) (.tup [.str "NoItem",.int as.length])
 |bad0 {i1 as bs:List D} {d:D}:(∀d∈as,bW d)->gn d->as.length<1000->Due a b d0 (as ++ d::bs) i1 (.tup [.str "NoItem",.int as.length])
noncomputable def h_ (kd a b f:Int):D:=if lU kd a b f > 2000 then .tup [.str "TooMuch",.int (-1)] else .tup [.str "",.int (-1)]
def oH (W:D)(k:Nat)(kvs:List (Key×D))(due:D):Prop:=∀M:Mm,M[k]? =some (.dcf kvs)->∃r E,gh [W,.ref k] M=some (r,M ++ E)/\Said r due
section
variable {kd f a b x:Int}{k:Nat}{i0 i1:List D}{due:D}
theorem Rb {z:Str}(hz:Odd x z):oH (.lst ((cM (nm x 0) (nm x 1) (rst kd f (nm x 0) (nm x 1) (nm x 2) (nm x 3))).map rD)) k (kr [(nm x 0,i0),(z,[]),(nm x 1,i1)]) (.tup [.str "NoIn",.int (-1)]):=fun M hM=>by
 obtain⟨r1,r2⟩:=G6 (kd:=kd) (f:=f) (n0:=nm x 0) (n1:=nm x 1) (n2:=nm x 2) (n3:=nm x 3);exact⟨_,[],by rw[Q_ r1 r2 hM hz.1 hz.2.1 hz.2.2,xa4],.noin⟩
theorem Ra (f0:1<=f)(f1:f<=8)(a0:0<=a)(a1:a<=100)(b0:0<=b)(b1:b<=100)(hd:Due a b (h_ kd a b f) i0 i1 due):oH (.lst ((cM (nm x 0) (nm x 1) (rst kd f (nm x 0) (nm x 1) (nm x 2) (nm x 3))).map rD)) k (kr [(nm x 1,i1),(nm x 0,i0)]) due:=fun M hM=>by
  obtain⟨r1,r2⟩:=G6 (kd:=kd) (f:=f) (n0:=nm x 0) (n1:=nm x 1) (n2:=nm x 2) (n3:=nm x 3);obtain⟨h01,h02,h12⟩:=wu (x:=x);have hk:∀z∈ [(nm x 1,i1),(nm x 0,i0)].map (·.1),z=nm x 0\/z=nm x 1:=fun z hz=>by
    simp only[xam,xbx,xas,xa8,xbR]at hz;exact hz.symm
  have hv1:(bf (kr [(nm x 1,i1),(nm x 0,i0)]) (.inr (nm x 1))).getD (.lst [])=.lst i1:=by simp[kr,bf]
  have hv0:(bf (kr [(nm x 1,i1),(nm x 0,i0)]) (.inr (nm x 0))).getD (.lst [])=.lst i0:=by
    have:¬ nm x 1=nm x 0:=fun e=>h01 e.symm
    simp[kr,bf,this]
  cases hd with
  |bad0 g0 gd gl=>exact⟨_,[],by rw[Q6 r1 r2 hM hk hv0 g0 gd gl,xa4],.noit⟩
  |bad1 g0 g1 gd gl=>exact⟨_,[],by rw[Q7 r1 r2 hM hk hv0 g0 hv1 g1 gd gl,xa4],.noit⟩
  |good g0 g1 e0 e1=>
    have ea:gv (lt [(nm x 1,i1),(nm x 0,i0)]) (nm x 0)=a:=by
      have:¬ nm x 1=nm x 0:=fun e=>h01 e.symm
      simp[lt,gv,gt,this,e0]
    have eb:gv (lt [(nm x 1,i1),(nm x 0,i0)]) (nm x 1)=b:=by simp[lt,gv,gt,e1]
    obtain⟨u1,u2⟩:=zbW (kd:=kd) (n3:=nm x 3) f0 f1 ea eb a0 a1 b0 b1 h01 h02 h12;have nd:([(nm x 1,i1),(nm x 0,i0)].map (·.1)).Nodup:=by simp[xaP h01]
    rcases Jy (i0:=i0) (i1:=i1) r1 r2 hM hk nd (by simp) hv0 g0 hv1 g1 (Kh f0 f1) with⟨t',q,e⟩ |⟨t',q,e⟩
    · have nf:¬ lU kd a b f > 2000:=fun z=>by rw[u1 z]at q;cases q
      refine⟨_,_,by rw[e,xbi],?_⟩;unfold h_;rw[xag nf];exact .v
    · have nf:lU kd a b f > 2000:=xcP fun z=>by
        obtain⟨t,q'⟩:=u2 z;rw[q']at q;cases q
      refine⟨_,_,by rw[e,xbi],?_⟩;unfold h_;rw[xac nf];exact .much
theorem Jz (f0:1<=f)(f1:f<=8):oH (.lst ((cM (nm x 0) (nm x 1) (rst kd f (nm x 0) (nm x 1) (nm x 2) (nm x 3))).map rD)) k [] (.tup [.str "",.int (-1)]):=fun M hM=>by
 obtain⟨r1,r2⟩:=G6 (kd:=kd) (f:=f) (n0:=nm x 0) (n1:=nm x 1) (n2:=nm x 2) (n3:=nm x 3);rcases Jy (rt:=[]) (i0:=[]) (i1:=[]) r1 r2 hM (by simp) (by simp) (by simp) rfl (by simp) rfl (by simp) (Kh (n2:=nm x 2) (n3:=nm x 3) f0 f1) with⟨t',q,e⟩ |⟨t',q,e⟩
 ·exact⟨_,_,by rw[e,xbi],.v⟩
 ·obtain⟨t,q'⟩:=M_ (rs:=cM (nm x 0) (nm x 1) (rst kd f (nm x 0) (nm x 1) (nm x 2) (nm x 3))) (t:=[]) (fun k=>rfl);rw[show lt []=[] from rfl,q']at q;cases q
end
variable {M:Mm}
section
variable {s0 s1 s2' s3 s4 s5 s7 s8 s9 s10 s11 s12 s13 s14 s15:E3.Slot}{W:D}
theorem Ql (hc:∀k,oH W k [] (.tup [.str "",.int (-1)])):∃M',bB (zK [s0,s1,s2',s3,s4,s5,.val W,s7,s8,s9,s10,s11,s12,s13,s14,s15] M)=some (.v (.bl true),M'):=by
 obtain⟨r,E,e,hs⟩:=hc M.length (M ++ [.dcf []]) iW;have sd:=Ng e hs;have l:=Fe (f:=dh dG) (env:=[s0,s1,s2',s3,s4,s5,.val W,s7,s8,s9,s10,s11,s12,s13,s14,s15]) (M:=M) (k:=M.length) (M1:=M ++ [.dct []]) (kvs:=[]) JN iW;rw[s_end]at l;refine⟨M ++ [.dcf []] ++ E,?_⟩;unfold zK;z_go;rw[l];z_go;rw[sd];z_go;rw[Vv (by simp[D.dep,D.deps])];z_go
theorem zO {d:D}(h:d.dep<=50):aJ .ne d d=some (.bl false):=V2 h
theorem I_ {kd f:Int}{NL:D}{r q j:Nat}{kvs:List (Key×D)}{ds:List D}(hc:∀k,oH W k [] (.tup [.str "",.int (-1)]))(hr:M[r]? =some (.dcf kvs))(hq:M[q]? =some (.dcf kvs))(hj:M[j]? =some (.lst ds))(hda:uJ kvs kvs)(hds:(D.lst ds).dep<=50)(hW:W.dep<=50)
  (hw:∀M:Mm,nH [.int kd,NL,.int f] M=some (.v W,M)) (hvW:∀M:Mm,vw M W=W):
  ∃M',bB (v9 [s0,.val (.int kd),.val NL,s3,s4,.val (.int f),.val W,s7,.val (.ref j),s9,s10,s11,.val (.ref r),s13,.val (.ref q),.val (.lst ds)] M)=some (.v (.bl true),M'):=by
 obtain⟨M',e16⟩:=Ql (M:=M) (s0:=s0) (s1:=.val (.int kd)) (s2':=.val NL) (s3:=s3) (s4:=s4) (s5:=.val (.int f)) (s7:=s7) (s8:=.val (.ref j)) (s9:=s9) (s10:=s10) (s11:=s11) (s12:=.val (.ref r)) (s13:=s13) (s14:=.val (.ref q)) (s15:=.val (.lst ds)) hc;refine⟨M',?_⟩;have e1:=DK (f:=ak 12) (g:=ak 14) (env:=[s0,.val (.int kd),.val NL,s3,s4,.val (.int f),.val W,s7,.val (.ref j),s9,s10,s11,.val (.ref r),s13,.val (.ref q),.val (.lst ds)]) (b:=false) (M:=M) (M1:=M) (M2:=M) rfl rfl hr hq hda;unfold v9;generalize hn:zK=nx at *;z_go;rw[e1];z_go;rw[sE hj,zO hds];z_go;rw[hw];z_go;rw[hvW,zO hW];z_go;exact e16
end
variable {M:Mm}
section
variable {s0 s3 s4 s7 s10 s11 s13 s14 s15:E3.Slot}{W NL:D}{kd f:Int}{r q j:Nat}{kvs:List (Key×D)}{ds:List D}
structure Fit (W NL:D)(kd f:Int)(kvs:List (Key×D))(ds:List D)(r:Nat)(due:D):Prop where
 c0:∀k,oH W k [] (.tup [.str "",.int (-1)])
 ck:oH W r kvs due
 da:uJ kvs kvs
 dd:(D.lst ds).dep<=50
 dW:W.dep<=50
 w:∀M:Mm,nH [.int kd,NL,.int f] M=some (.v W,M)
 vW:∀M:Mm,vw M W=W
theorem J4 {r:E3.Res}{due:D}(h:Said r due):∃(z:Str) (n:Int),due=.tup [.str z,.int n]/\((z=""/\r=.v .non)\/(z≠""/\∃c m,r=.x c m)):=by
 cases h with
 |v=>exact⟨_,_,rfl,.inl ⟨rfl,rfl⟩⟩
 |noin=>exact⟨_,_,rfl,.inr ⟨by x_go,_,_,rfl⟩⟩
 |noit=>exact⟨_,_,rfl,.inr ⟨by x_go,_,_,rfl⟩⟩
 |much=>exact⟨_,_,rfl,.inr ⟨by x_go,_,_,rfl⟩⟩
theorem Qk {due:D}(F:Fit W NL kd f kvs ds r due)(hr:M[r]? =some (.dcf kvs))(hq:M[q]? =some (.dcf kvs))(hj:M[j]? =some (.lst ds)):
  ∃M',bB (v8 [s0,.val (.int kd),.val NL,s3,s4,.val (.int f),.val W,s7,.val (.ref j),.val due,s10,s11,.val (.ref r),s13,.val (.ref q),.val (.lst ds)] M)=some (.v (.bl true),M'):=by
 obtain⟨x1,E1,e1,d1⟩:=F.ck M hr;have hs1:=Ng e1 d1;obtain⟨z,n,rfl,hz⟩:=J4 d1;have dp:(D.tup [.str z,.int n]).dep<=50:=by simp[D.dep,D.deps]
 rcases hz with⟨rfl,rfl⟩ |⟨hz,c,m,rfl⟩
 ·obtain⟨M',e15⟩:=I_ (M:=M ++ E1) (s0:=s0) (s3:=s3) (s4:=s4) (s7:=s7) (s9:=.val (.tup [.str "",.int n])) (s10:=s10) (s11:=s11) (s13:=s13) (kd:=kd) (f:=f) (NL:=NL) (r:=r) (q:=q) (j:=j) F.c0 (gq hr) (gq hq) (gq hj) F.da F.dd F.dW F.w F.vW;refine⟨M',?_⟩;unfold v8;generalize hn:v9=nx at *;z_go;rw[hs1];z_go;rw[zO dp];z_go;exact e15
 ·obtain⟨x2,E2,e2,d2⟩:=F.ck (M ++ E1) (gq hr);have hx2:∃c m,x2=.x c m:=by
   obtain⟨z',n',e',h'⟩:=J4 d2;rcases h' with⟨rfl,_⟩ |⟨_,h'⟩
   ·have:z=Str.ofString "":=by injection e' with e';injection e' with e' _;injection e'
    exact absurd this hz
   ·exact h'
  obtain⟨c2,m2,rfl⟩:=hx2;have hc2:=Ri e2 d2;obtain⟨M',e15⟩:=I_ (M:=M ++ E1 ++ E2) (s0:=s0) (s3:=s3) (s4:=s4) (s7:=s7) (s9:=.val (.tup [.str z,.int n])) (s10:=s10) (s11:=s11) (s13:=s13) (kd:=kd) (f:=f) (NL:=NL) (r:=r) (q:=q) (j:=j) F.c0 (gq (gq hr)) (gq (gq hq)) (gq (gq hj)) F.da F.dd F.dW F.w F.vW;have h':(z=Str.ofString "")=False:=eq_false hz;refine⟨M',?_⟩;unfold v8;generalize hn:v9=nx at *;z_go;rw[hs1];z_go;rw[zO dp];z_go;simp only[h'];z_go;rw[hc2];z_go;exact e15
theorem Qj {due:D}{i0 i1:List D}(F:Fit W NL kd f kvs [.lst i0,.lst i1] r due)(hr:M[r]? =some (.dcf kvs))(hq:M[q]? =some (.dcf kvs))(hj:M[j]? =some (.lst [.lst i0,.lst i1])):
  ∃M',bB (zJ [s0,.val (.int kd),.val NL,s3,s4,.val (.int f),.val W,s7,.val (.ref j),.val due,s10,s11,.val (.ref r),s13,.val (.ref q),s15] M)=some (.v (.bl true),M'):=by
 obtain ⟨M', e14⟩ := Qk (M := M) (s0 := s0) (s3 := s3) (s4 := s4) (s7 := s7) (s10 := s10) (s11 := s11) (s13 := s13) (q := q) (j := j) F hr hq hj;refine ⟨M', ?_⟩;have ec := Qy (n := 1000) (cs := []) (f := ak 8) (e := zm) (env := [s0, .val (.int kd), .val NL, s3, s4, .val (.int f), .val W, s7, .val (.ref j), .val due, s10, s11, .val (.ref r), s13, .val (.ref q), s15]) (M := M) (M1 := M) id rfl hj (fun d hd=>by
  simp only[xas,xa8,xbR]at hd;rcases hd with rfl |rfl
  ·unfold zm;z_go;rfl
  ·unfold zm;z_go;rfl) (by simp) (by rw[xaw];simp)
 rw[List.map_id]at ec;unfold zJ;generalize hn:v8=nx at *;z_go;rw[ec];z_go;exact e14
theorem IW {due:D}{i0 i1:List D}(F:Fit W NL kd f kvs [.lst i0,.lst i1] r due)(hr:M[r]? =some (.dct kvs))(hj:M[j]? =some (.lst [.lst i0,.lst i1])):
  ∃M',bB (v7 [s0,.val (.int kd),.val NL,s3,s4,.val (.int f),.val W,s7,.val (.ref j),.val due,s10,s11,.val (.ref r),s13,s14,s15] M)=some (.v (.bl true),M'):=by
 have hrl:r<M.length:=(xal.mp hr).1;have hne:j≠r:=fun e=>by rw[e,hr]at hj;cases hj
 have l1:=Fe (f:=ak 12) (env:=[s0,.val (.int kd),.val NL,s3,s4,.val (.int f),.val W,s7,.val (.ref j),.val due,s10,s11,.val (.ref r),s13,s14,s15]) (M:=M) (M1:=M) (k:=r) rfl hr;have hr1:(M.set r (.dcf kvs))[r]? =some (.dcf kvs):=by rw[xaW hrl]
 have hj1:(M.set r (.dcf kvs))[j]? =some (.lst [.lst i0,.lst i1]):=by rw[xbN (xaP hne)];exact hj
 have l2:=RW l1 hr1;have l3:=Fe l2 iW;rw[s_end]at l3;obtain⟨M',e13⟩:=Qj (M:=M.set r (.dcf kvs) ++ [.dcf kvs]) (s0:=s0) (s3:=s3) (s4:=s4) (s7:=s7) (s10:=s10) (s11:=s11) (s13:=s13) (s15:=s15) (q:=(M.set r (.dcf kvs)).length) (j:=j) F (gq hr1) iW (gq hj1);refine⟨M',?_⟩;unfold v7;generalize hn:zJ=nx at *;z_go;rw[l3];z_go;exact e13
end
variable {M:Mm}
def Lo (l:List D):Prop:=∀d∈l,d.dep<=5
theorem za {n:Nat}:∀l:List D,(∀d∈l,d.dep<=n)->D.deps l<=n
  | [],_=>xbc _
  |a::l,h=>by
    have h1:=h a xaA;have h2:=za l fun d hd=>h d (xav _ hd);simp only[D.deps];omega
theorem Lo.dep {l:List D}(h:Lo l):(D.lst l).dep<=6:=by
 have:=za l h;simp only[D.dep];omega
theorem zaQ (l : List Str) : D.deps (l.map .str) = 0 := Nat.le_zero.mp (za _ fun d hd=>by
 obtain⟨z,_,rfl⟩:=xbq.mp hd
 simp[D.dep])
theorem Zr {r:Rw}:(rD r).dep<=2:=by
 unfold rD
 simp[D.dep,D.deps,zaQ]
theorem Jb {rs:List Rw}:(D.lst (rs.map rD)).dep<=50:=by
 have:=za (n:=2) (rs.map rD) fun d hd=>by
  obtain⟨r,_,rfl⟩:=xbq.mp hd;exact Zr
 simp only[D.dep];omega
theorem JQ {rt:List (Str×List D)}(hn:(rt.map (·.1)).Nodup)(hl:∀p∈rt,Lo p.2):uJ (kr rt) (kr rt):=by
  refine⟨rfl,fun p hp=>?_⟩;unfold kr at hp;obtain⟨q,hq,rfl⟩:=xbq.mp hp;have key:∀rt:List (Str×List D),(rt.map (·.1)).Nodup->q∈rt->bf (kr rt) (.inr q.1)=some (.lst q.2):=fun rt=>by
    induction rt with
    |nil=>intro _ h;cases h
    |cons a rt ih=>
      intro hn hq;rw[xam,xbF]at hn;unfold bf kr;rw[xam,xaK];rcases xas.mp hq with rfl |hq
      · simp
      · have:¬ a.1=q.1:=fun e=>hn.1 (by rw[e];exact xdp hq);have hne:decide ((Sum.inr a.1:Key)=Sum.inr q.1)=false:=by simp[this]
        simp only[hne];exact ih hn.2 hq
  have:=(hl q hq).dep;exact⟨_,key rt hn hq,D.eq_refl _,by dsimp only;omega,by omega⟩
section
variable {s0 s3 s4 s7 s10 s11 s13 s14 s15:E3.Slot}{kd f a b x:Int}{r j:Nat}{i0 i1:List D}{due:D}
noncomputable def WD (kd f x:Int):D:=.lst ((cM (nm x 0) (nm x 1) (rst kd f (nm x 0) (nm x 1) (nm x 2) (nm x 3))).map rD)
noncomputable def ND (x:Int):D:=.lst [.str (nm x 0),.str (nm x 1),.str (nm x 2),.str (nm x 3)]
theorem JT (h0:Lo i0)(h1:Lo i1):(D.lst [.lst i0,.lst i1]).dep<=50:=by
 have:=h0.dep;have:=h1.dep;simp only[D.dep,D.deps]at *;omega
theorem R8 (k0:0<=kd)(k1:kd<7800)(f0:1<=f)(f1:f<=8)(a0:0<=a)(a1:a<=100)(b0:0<=b)(b1:b<=100)(hd:Due a b (h_ kd a b f) i0 i1 due)(h0:Lo i0)(h1:Lo i1):Fit (WD kd f x) (ND x) kd f (kr [(nm x 1,i1),(nm x 0,i0)]) [.lst i0,.lst i1] r due where
 c0:=fun k=>Jz f0 f1
 ck:=Ra f0 f1 a0 a1 b0 b1 hd
 da:=JQ (by simp[xaP (wu (x:=x)).1]) (by simp[h0,h1])
 dd:=JT h0 h1
 dW:=Jb
 w:=fun M=>Il f0 f1 k0 k1
 vW:=fun M=>rfl
theorem R9 {z:Str}(k0:0<=kd)(k1:kd<7800)(f0:1<=f)(f1:f<=8)(hz:Odd x z)(h0:Lo i0)(h1:Lo i1):Fit (WD kd f x) (ND x) kd f (kr [(nm x 0,i0),(z,[]),(nm x 1,i1)]) [.lst i0,.lst i1] r (.tup [.str "NoIn",.int (-1)]) where
 c0:=fun k=>Jz f0 f1
 ck:=Rb hz
 da := JQ (by
  have:=(wu (x:=x)).1
  simp [this, hz.1, xaP hz.2.1]) (by
  intro p hp;simp only[xas,xa8,xbR]at hp;rcases hp with rfl |rfl |rfl
  ·exact h0
  ·intro d hd;cases hd
  ·exact h1)
 dd:=JT h0 h1
 dW:=Jb
 w:=fun M=>Il f0 f1 k0 k1
 vW:=fun M=>rfl
theorem lZ:aY (ND x) (.int 0)=some (.str (nm x 0)):=(zP).trans at0
theorem wA:aY (ND x) (.int 1)=some (.str (nm x 1)):=(zP).trans at1
theorem Fz:aY (ND x) (.int 3)=some (.str (nm x 3)):=(zP).trans yH
theorem pX:vw M (ND x)=ND x:=rfl
theorem Vk {x k:Int}(hk:0<=k/\k<=3):(nm x k).length<=40:=by
 have m0:=xa6 (x / 26) (show(6:Int)≠0 by decide);have m1:=xaN (x / 26) (show(0:Int)<6 by decide);have:=(Du (i:=k) hk.1 (by omega)).1;unfold nm;rw[xbu,yp];omega
theorem Qi {ns:List Int}{bt:Int}(bt0:0<=bt)(k0:0<=kd)(k1:kd<7800)(f0:1<=f)(f1:f<=8)(a0:0<=a)(a1:a<=100)(b0:0<=b)(b1:b<=100)(hd:Due a b (h_ kd a b f) i0 i1 due)(h0:Lo i0)(h1:Lo i1)(hr:M[r]? =some (.dct (kr [(nm x 1,i1),(nm x 0,i0)])))(hj:M[j]? =some (.lst [.lst i0,.lst i1])):
  ∃M',bB (vZ [.val (.lst (ns.map .int)),.val (.int kd),.val (ND x),s3,s4,.val (.int f),.val (WD kd f x),.val (.int bt),.val (.ref j),.val due,s10,s11,.val (.ref r),s13,s14,s15] M)=some (.v (.bl true),M'):=by
 by_cases hb:bt<8/\bt % 2=1
 ·have g9:=fun M=>lg (ns:=ns) (k:=9) (M:=M) (by decide);generalize ns.getD (9:Int).toNat 0=c at g9;have ln0:=Vk (x:=x) (k:=0) (by decide);have st:∃z,Odd x z/\cP [D.str (nm x 3),.str (Txt.slice (nm x 0) none (some (-1))),.str (nm x 0 ++ Str.ofString "0")] (c % 3)=some (.str z):=by
   have:c % 3=0\/c % 3=1\/c % 3=2:=by omega
   rcases this with e |e |e<;>rw[e]
   ·exact⟨_,Wf,at0⟩
   ·exact⟨_,Wi,by rw[zcW];exact at1⟩
   ·exact⟨_,Wd,at2⟩
  obtain⟨z,hz,ez⟩:=st;have d3:=RB (M:=M) (f1:=s2 aY (ak 2) (aj (.int 0))) (g1:=s2 aY (ak 8) (aj (.int 0))) (f2:=ak 13) (g2:=bF aq) (f3:=s2 aY (ak 2) (aj (.int 1))) (g3:=s2 aY (ak 8) (aj (.int 1))) (env:=[.val (.lst (ns.map .int)),.val (.int kd),.val (ND x),s3,s4,.val (.int f),.val (WD kd f x),.val (.int bt),.val (.ref j),.val due,s10,s11,.val (.ref r),.val (.str z),s14,s15])
   (a:=nm x 0) (b:=z) (c:=nm x 1) (x:=i0) (y:=[]) (z:=i1) (by z_go;rw[pX,lZ];z_go) (by z_go;rw[sE hj];z_go) (by z_go) (by z_go) (by z_go;rw[pX,wA];z_go) (by z_go;rw[sE hj];z_go) hz.1 (wu (x:=x)).1 (xaP hz.2.1)
  obtain⟨M',e12⟩:=IW (M:=M ++ [.dct (kr [(nm x 0,i0),(z,[]),(nm x 1,i1)])]) (s0:=.val (.lst (ns.map .int))) (s3:=s3) (s4:=s4) (s7:=.val (.int bt)) (s10:=s10) (s11:=s11) (s13:=.val (.str z)) (s14:=s14) (s15:=s15) (j:=j) (R9 (r:=M.length) k0 k1 f0 f1 hz h0 h1) iW (gq hj);refine⟨M',?_⟩;unfold vZ;generalize hn:v7=nx at *;z_go;simp only[hb.1,hb.2];z_go;rw[pX,Fz];z_go;rw[pX,lZ];z_go;rw[xac (by omega)];z_go;rw[pX,lZ];z_go;rw[xac (by rw[show(Str.ofString "0").length=1 by x_go];omega)];z_go;rw[g9];z_go;rw[ez];z_go;rw[d3];z_go;exact e12
 ·obtain⟨M',e12⟩:=IW (M:=M) (s0:=.val (.lst (ns.map .int))) (s3:=s3) (s4:=s4) (s7:=.val (.int bt)) (s10:=s10) (s11:=s11) (s13:=s13) (s14:=s14) (s15:=s15) (j:=j) (R8 (r:=r) k0 k1 f0 f1 a0 a1 b0 b1 hd h0 h1) hr hj;refine⟨M',?_⟩;have st:(if bt<8 then some (Res.v (D.bl (decide (bt % 2=1))),M) else some (Res.v (D.bl false),M))=some (Res.v (D.bl false),M):=by
   by_cases q:bt<8
   ·rw[xac q,xaE fun q2=>hb ⟨q,q2⟩]
   ·rw[xag q]
  unfold vZ;generalize hn:v7=nx at *;z_go;rw[st];z_go;exact e12
end
variable {M:Mm}
section
variable {s3 s4 s10 s11 s12 s13 s14 s15:E3.Slot}{kd f a b x:Int}{j:Nat}{i0 i1:List D}{due:D}
theorem Qh {ns:List Int}{bt:Int}(bt0:0<=bt)(k0:0<=kd)(k1:kd<7800)(f0:1<=f)(f1:f<=8)(a0:0<=a)(a1:a<=100)(b0:0<=b)(b1:b<=100)(hd:Due a b (h_ kd a b f) i0 i1 due)(h0:Lo i0)(h1:Lo i1)(hj:M[j]? =some (.lst [.lst i0,.lst i1])):
  ∃M',bB (zH [.val (.lst (ns.map .int)),.val (.int kd),.val (ND x),s3,s4,.val (.int f),.val (WD kd f x),.val (.int bt),.val (.ref j),.val due,s10,s11,s12,s13,s14,s15] M)=some (.v (.bl true),M'):=by
 have d2:=RD (M:=M) (f1:=s2 aY (ak 2) (aj (.int 1))) (g1:=s2 aY (ak 8) (aj (.int 1))) (f2:=s2 aY (ak 2) (aj (.int 0))) (g2:=s2 aY (ak 8) (aj (.int 0))) (env:=[.val (.lst (ns.map .int)),.val (.int kd),.val (ND x),s3,s4,.val (.int f),.val (WD kd f x),.val (.int bt),.val (.ref j),.val due,s10,s11,s12,s13,s14,s15])
  (a:=nm x 1) (b:=nm x 0) (x:=i1) (y:=i0) (by z_go;rw[pX,wA];z_go) (by z_go;rw[sE hj];z_go) (by z_go;rw[pX,lZ];z_go) (by z_go;rw[sE hj];z_go) (xaP (wu (x:=x)).1)
 obtain⟨M',e11⟩:=Qi (M:=M ++ [.dct (kr [(nm x 1,i1),(nm x 0,i0)])]) (ns:=ns) (bt:=bt) (s3:=s3) (s4:=s4) (s10:=s10) (s11:=s11) (s13:=s13) (s14:=s14) (s15:=s15) (r:=M.length) (j:=j) bt0 k0 k1 f0 f1 a0 a1 b0 b1 hd h0 h1 iW (gq hj);refine⟨M',?_⟩;unfold zH;generalize hn:vZ=nx at *;z_go;rw[d2];z_go;exact e11
theorem xT {e0 e1 e2 e5 e6 e8 e9:E3.Slot}{bt:Int}{k:Nat}(hk:k<=1)(h:¬ (bt<8/\bt / (2 + 2 * (k:Int)) % 2=1)):nM [e0,e1,e2,s3,s4,e5,e6,.val (.int bt),e8,e9,.val (.int k),s11,s12,s13,s14,s15] M=some (.nx [e0,e1,e2,s3,s4,e5,e6,.val (.int bt),e8,e9,.val (.int k),s11,s12,s13,s14,s15],M):=by
 have e:bJ (s2 (aJ .lt) (ak 7) (aj (.int 8))) (s2 (aJ .eq) (s2 oMod (s2 iC (ak 7) (s2 aX (aj (.int 2)) (s2 cB (aj (.int 2)) (ak 10)))) (aj (.int 2))) (aj (.int 1))) [e0,e1,e2,s3,s4,e5,e6,.val (.int bt),e8,e9,.val (.int k),s11,s12,s13,s14,s15] M=some (.v (.bl false),M):=by
  z_go
  by_cases q:bt<8
  ·rw[xac q,xac ⟨by omega,by omega⟩];z_go;rw[xaE fun z=>h ⟨q,z⟩]
  ·rw[xag q]
 unfold nM;rw[wM,rE,e];z_go
theorem xU {ns:List Int}{e1 e2 e5 e6 e9:E3.Slot}{bt:Int}{k:Nat}{ds its:List D}(hk:k<=1)(h:bt<8/\bt / (2 + 2 * (k:Int)) % 2=1)(hj:M[j]? =some (.lst ds))(hit:ds[k]? =some (.lst its))(hl:ds.length=2)(hg:∀d∈its,Good d)(hL:its.length<=100):∃(as bs:List D) (d:D),d∈cL/\(∀a∈as,a∈its)/\(∀a∈bs,a∈its)/\as.length<=100/\
  nM [.val (.lst (ns.map .int)),e1,e2,s3,s4,e5,e6,.val (.int bt),.val (.ref j),e9,.val (.int k),s11,s12,s13,s14,s15] M=some (.nx [.val (.lst (ns.map .int)),e1,e2,s3,s4,e5,e6,.val (.int bt),.val (.ref j),.val (.tup [.str "NoItem",.int as.length]),.val (.int k),.val (.int as.length),s12,s13,s14,s15],M.set j (.lst (ds.set k (.lst (as ++ d::bs))))):=by
 have gc:=fun M=>lg (ns:=ns) (k:=7 + (k:Int)) (M:=M) (by omega);generalize ns.getD (7 + (k:Int)).toNat 0=c at gc;obtain⟨as,bs,d,hd,ha,hb,al,bl,sp⟩:=zcN (c:=c) hg hL;refine⟨as,bs,d,hd,ha,hb,al,?_⟩;have hix:iy ds.length (k:Int)=some k:=by
  rw[hl];have:k=0\/k=1:=by omega
  rcases this with rfl |rfl<;>decide
 have us:=u_s (k:=11) (f:=ak 8) (g:=ak 10) (v:=bV pF (ao (s2 aY (ak 8) (ak 10)) (ao (bV f9 (ao (ak 0) (ao (s2 aX (aj (.int 7)) (ak 10)) aq))) aq))) (env:=[.val (.lst (ns.map .int)),e1,e2,s3,s4,e5,e6,.val (.int bt),.val (.ref j),e9,.val (.int k),s11,s12,s13,s14,s15]) (M:=M) (M1:=M) (M2:=M) (M3:=M) (d:=.int as.length) (e:=.lst (as ++ d::bs)) (j:=j) (i:=(k:Int)) (ds:=ds) (t:=k)
  (by z_go;rw[sE hj];z_go;rw[lJ hit];z_go;rw[gc];z_go;rw[sp];z_go) (by simp) rfl rfl hj hix
 have e:bJ (s2 (aJ .lt) (ak 7) (aj (.int 8))) (s2 (aJ .eq) (s2 oMod (s2 iC (ak 7) (s2 aX (aj (.int 2)) (s2 cB (aj (.int 2)) (ak 10)))) (aj (.int 2))) (aj (.int 1))) [.val (.lst (ns.map .int)),e1,e2,s3,s4,e5,e6,.val (.int bt),.val (.ref j),e9,.val (.int k),s11,s12,s13,s14,s15] M=some (.v (.bl true),M):=by
  z_go;rw[xac h.1,xac ⟨by omega,by omega⟩];z_go;rw[xbf h.2]
 unfold nM;rw[wM,rE,e];z_go;rw[us];z_go
end
variable {M:Mm}
theorem Good.lo {l:List D}(h:∀d∈l,Good d):Lo l:=fun d hd=>(h d hd).2
theorem Good.ok {l:List D}(h:∀d∈l,Good d):∀d∈l,bW d:=fun d hd=>(h d hd).1
theorem K8 {its as bs:List D}{d:D}(hg:∀d∈its,Good d)(ha:∀a∈as,a∈its)(hb:∀a∈bs,a∈its)(hd:d∈cL):Lo (as ++ d::bs):=fun y hy=>by
 rcases xaO.mp hy with hy |hy
 ·exact(hg y (ha y hy)).2
 ·rcases xas.mp hy with rfl |hy
  ·exact Wg y hd
  ·exact(hg y (hb y hy)).2
section
variable {s3 s4 s10 s11 s12 s13 s14 s15:E3.Slot}{kd f a b x:Int}{j:Nat}{g0 g1:List D}
theorem Q9 {ns:List Int}{bt:Int}(bt0:0<=bt)(k0:0<=kd)(k1:kd<7800)(f0:1<=f)(f1:f<=8)(a0:0<=a)(a1:a<=100)(b0:0<=b)(b1:b<=100)(h0:∀d∈g0,Good d)(h1:∀d∈g1,Good d)(l0:(g0.length:Int)=a)(l1:(g1.length:Int)=b)(hj:M[j]? =some (.lst [.lst g0,.lst g1])):
  ∃M',bB (zM [.val (.lst (ns.map .int)),.val (.int kd),.val (ND x),s3,s4,.val (.int f),.val (WD kd f x),.val (.int bt),.val (.ref j),.val (h_ kd a b f),s10,s11,s12,s13,s14,s15] M)=some (.v (.bl true),M'):=by
 have hjl:j<M.length:=(xal.mp hj).1;have T1:∃(i1:List D) (d1:D) (s11':E3.Slot) (N:Mm),N[j]? =some (.lst [.lst g0,.lst i1])/\j<N.length/\Lo i1/\Due a b (h_ kd a b f) g0 i1 d1/\
   nM [.val (.lst (ns.map .int)),.val (.int kd),.val (ND x),s3,s4,.val (.int f),.val (WD kd f x),.val (.int bt),.val (.ref j),.val (h_ kd a b f),.val (.int ((1:Nat):Int)),s11,s12,s13,s14,s15] M=some (.nx [.val (.lst (ns.map .int)),.val (.int kd),.val (ND x),s3,s4,.val (.int f),.val (WD kd f x),.val (.int bt),.val (.ref j),.val d1,.val (.int ((1:Nat):Int)),s11',s12,s13,s14,s15],N):=by
  by_cases q:bt<8/\bt / (2 + 2 * ((1:Nat):Int)) % 2=1
  ·obtain⟨as,bs,d,hd,ha,hb,al,e⟩:=xU (M:=M) (j:=j) (ns:=ns) (e1:=.val (.int kd)) (e2:=.val (ND x)) (e5:=.val (.int f)) (e6:=.val (WD kd f x)) (e9:=.val (h_ kd a b f)) (s3:=s3) (s4:=s4) (s11:=s11) (s12:=s12) (s13:=s13) (s14:=s14) (s15:=s15) (k:=1) (xaf _) q hj rfl rfl h1 (by omega);exact⟨_,_,_,_,by rw[xaW hjl];rfl,by rw[xay];exact hjl,K8 h1 ha hb hd,.bad1 (Good.ok h0) (fun y hy=>(h1 y (ha y hy)).1) (LC hd) (by omega),e⟩
  ·exact⟨g1,h_ kd a b f,s11,M,hj,hjl,Good.lo h1,.good (Good.ok h0) (Good.ok h1) l0 l1,xT (xaf _) q⟩
 obtain⟨i1,d1,s11',N,hjN,hlN,lo1,due1,e1⟩:=T1;have T0:∃(i0:List D) (d2:D) (s11'':E3.Slot) (N':Mm),N'[j]? =some (.lst [.lst i0,.lst i1])/\Lo i0/\Due a b (h_ kd a b f) i0 i1 d2/\
   nM [.val (.lst (ns.map .int)),.val (.int kd),.val (ND x),s3,s4,.val (.int f),.val (WD kd f x),.val (.int bt),.val (.ref j),.val d1,.val (.int ((0:Nat):Int)),s11',s12,s13,s14,s15] N=some (.nx [.val (.lst (ns.map .int)),.val (.int kd),.val (ND x),s3,s4,.val (.int f),.val (WD kd f x),.val (.int bt),.val (.ref j),.val d2,.val (.int ((0:Nat):Int)),s11'',s12,s13,s14,s15],N'):=by
  by_cases q:bt<8/\bt / (2 + 2 * ((0:Nat):Int)) % 2=1
  ·obtain⟨as,bs,d,hd,ha,hb,al,e⟩:=xU (M:=N) (j:=j) (ns:=ns) (e1:=.val (.int kd)) (e2:=.val (ND x)) (e5:=.val (.int f)) (e6:=.val (WD kd f x)) (e9:=.val d1) (s3:=s3) (s4:=s4) (s11:=s11') (s12:=s12) (s13:=s13) (s14:=s14) (s15:=s15) (k:=0) (xbc _) q hjN rfl rfl h0 (by omega);exact⟨_,_,_,_,by rw[xaW hlN];rfl,K8 h0 ha hb hd,.bad0 (fun y hy=>(h0 y (ha y hy)).1) (LC hd) (by omega),e⟩
  ·exact⟨g0,d1,s11',N,hjN,Good.lo h0,due1,xT (xbc _) q⟩
 obtain⟨i0,d2,s11'',N',hjN',lo0,due2,e0⟩:=T0;obtain⟨M',e10⟩:=Qh (M:=N') (ns:=ns) (bt:=bt) (s3:=s3) (s4:=s4) (s10:=.val (.int ((0:Nat):Int))) (s11:=s11'') (s12:=s12) (s13:=s13) (s14:=s14) (s15:=s15) (j:=j) (x:=x) bt0 k0 k1 f0 f1 a0 a1 b0 b1 due2 lo0 lo1 hjN';refine⟨M',?_⟩;rw[Jp]at e1;rw[Jo]at e0 e10;unfold zM;generalize hn:zH=nx at *;generalize hl:nM=lx at *;z_go;rw[e1];z_go;rw[e0];z_go;exact e10
theorem Q8 {ns:List Int}{bt:Int}(bt0:0<=bt)(k0:0<=kd)(k1:kd<7800)(f0:1<=f)(f1:f<=8)(a0:0<=a)(a1:a<=100)(b0:0<=b)(b1:b<=100)(h0:∀d∈g0,Good d)(h1:∀d∈g1,Good d)(l0:(g0.length:Int)=a)(l1:(g1.length:Int)=b)(hj:M[j]? =some (.lst [.lst g0,.lst g1])):
  ∃M',bB (zL [.val (.lst (ns.map .int)),.val (.int kd),.val (ND x),.val (.int a),.val (.int b),.val (.int f),.val (WD kd f x),.val (.int bt),.val (.ref j),.un,s10,s11,s12,s13,s14,s15] M)=some (.v (.bl true),M'):=by
 obtain⟨M',e9⟩:=Q9 (M:=M) (ns:=ns) (bt:=bt) (s3:=.val (.int a)) (s4:=.val (.int b)) (s10:=s10) (s11:=s11) (s12:=s12) (s13:=s13) (s14:=s14) (s15:=s15) (j:=j) (x:=x) bt0 k0 k1 f0 f1 a0 a1 b0 b1 h0 h1 l0 l1 hj;refine⟨M',?_⟩;unfold h_ at e9;unfold zL;z_go;unfold Lp;generalize hn:zM=nx at *;z_go;rw[R_ a0 a1 b0 b1 f0 f1];z_go
 by_cases q:2000<lU kd a b f
 ·rw[xac q]at e9;rw[xac q];z_go;exact e9
 ·rw[xag q]at e9;rw[xag q];z_go;exact e9
end
theorem UG:∀ns:List Int,ns.length<=63->∃M,i_ [.lst (ns.map D.int)] []=some (.v (.bl true),M):=by
 intro ns hn;have c0:=fun M=>lg (ns:=ns) (k:=0) (M:=M) (by decide);generalize ns.getD (0:Int).toNat 0=v0 at c0;have c2:=fun M=>lg (ns:=ns) (k:=2) (M:=M) (by decide);generalize ns.getD (2:Int).toNat 0=v2 at c2;have c3:=fun M=>lg (ns:=ns) (k:=3) (M:=M) (by decide);generalize ns.getD (3:Int).toNat 0=v3 at c3;have c4:=fun M=>lg (ns:=ns) (k:=4) (M:=M) (by decide);generalize ns.getD (4:Int).toNat 0=v4 at c4;have c5:=fun M=>lg (ns:=ns) (k:=5) (M:=M) (by decide);generalize ns.getD (5:Int).toNat 0=v5 at c5;have c6:=fun M=>lg (ns:=ns) (k:=6) (M:=M) (by decide);generalize ns.getD (6:Int).toNat 0=v6 at c6;obtain⟨a,b,a0,a1,b0,b1,el⟩:=QB (ns:=ns);obtain⟨g0,l0,h0,e5⟩:=KJ (M:=[]) (m:=a) (c:=v5) a0 a1;obtain⟨g1,l1,h1,e6⟩:=KJ (M:=[]) (m:=b) (c:=v6) b0 b1;have k0:=xa6 v0 (show(7800:Int)≠0 by decide);have k1:=xaN v0 (show(0:Int)<7800 by decide);have f0:1<=1 + v2 / 101 % 8:=by omega
 have f1:1 + v2 / 101 % 8<=8:=by omega
 have bt0:0<=v4 % 12:=by omega
 generalize hx:v3 % 999983=x;obtain⟨M',e8⟩:=Q8 (M:=[.lst [.lst g0,.lst g1]]) (j:=0) (ns:=ns) (bt:=v4 % 12) (x:=x) (s10:=.un) (s11:=.un) (s12:=.un) (s13:=.un) (s14:=.un) (s15:=.un) bt0 k0 k1 f0 f1 a0 a1 b0 b1 h0 h1 (by omega) (by omega) rfl;refine⟨M',?_⟩;have cn:eZ (aj (.bl true)) zp [.val (.lst (ns.map .int))] ((List.range 4).map fun(k:Nat)=>D.int (0 + (k:Int))) [] []=some ([.str (nm x 0),.str (nm x 1),.str (nm x 2),.str (nm x 3)],[]):=by
  have := Dl (M := []) (env := [.val (.lst (ns.map .int))]) (e := zp) (fun k : Nat => D.int (0 + (k : Int))) (fun k : Nat => D.str (nm x (0 + (k : Int)))) (List.range 4) [] (fun k hk=>by
   rw[xb7]at hk;have hk4:k<4:=hk;have e:=Vi (M:=[]) (x:=x) (k:=0 + (k:Int)) ⟨by omega,by omega⟩;unfold zp;z_go;rw[c3];z_go;rw[hx,e];z_go;rfl) (by rw[xaw];decide)
  rw[this];rfl
 unfold i_ Kf yN;z_go;rw[c0];z_go;unfold Lg;z_go;rw[GZ (by decide)];z_go;rw[cn];z_go;unfold Lh;z_go;rw[el];z_go;unfold Li;z_go;rw[c2];z_go;unfold Lj;z_go;rw[Il f0 f1 k0 k1];z_go;unfold Lk;z_go;rw[c4];z_go;unfold Ln;generalize hn:zL=nx at *;z_go;rw[c5];z_go;rw[e5];z_go;rw[c6];z_go;rw[e6];z_go;exact e8
theorem UJ {l:PySem.W.OpenLaw}{w:World}{K:Fgx}{mg:Mgx}{C:Ad}{h base:Heap}{f23:Addr}{d23:FuncData}(X:K.In h)(G:h.Ns mainGlobals mg)(T:Txt K mg C)
  (F0:bA K "is_whole" A_)
  (F1:bA K "is_time" Ay)
  (F2:bA K "is_value" Az)
  (F3:bA K "is_key" Av)
  (F4:bA K "is_thing_item" Ax)
  (F5:bA K "is_mark_item" Aw)
  (F6:bA K "is_item" Aq)
  (F7:bA K "window_of" Ba)
  (F8:bA K "check_row" Aj)
  (F9:bA K "ins_of" Ao)
  (F10:bA K "flow_of" Al)
  (F11:bA K "flows" Am)
  (F12:bA K "check_rows" Ak)
  (F13:bA K "_law_cell_at" Aa)
  (F14:bA K "_law_name" Af)
  (F15:bA K "_law_works" Ai)
  (F16:bA K "_law_lengths" Ae)
  (F17:bA K "_law_items" Ac)
  (F18:bA K "_law_odd" Ag)
  (F19:bA K "_law_spoiled" Ah)
  (F20:bA K "_law_said" w6)
  (F21:bA K "_law_one_class" w5)
  (F22:bA K "_law_flow" Ab)
  (D23:DefAt K mg "law" iM ["_law_script"] f23 d23)
  :FnOk l.prog w K mg base eG pQ f23 d23 ["_law_script"] (mW K mg 1 i_):=by
 have A0:bC l.prog w K mg base 1 "is_whole" 1 tL:=(F0.ok X G N_ (fun _=>zap (k:=0) T) :);have A1:bC l.prog w K mg base 2 "is_time" 1 pK:=(F1.ok X G N7 (fun _=>zaE (k:=1) T A0.up) :);have A2:bC l.prog w K mg base 2 "is_value" 1 vH:=(F2.ok X G N8 (fun _=>zar (k:=1) T A0.up) :);have A3:bC l.prog w K mg base 1 "is_key" 1 pJ:=(F3.ok X G NZ (fun _=>zaW (k:=0) T) :);have A4:bC l.prog w K mg base 3 "is_thing_item" 1 tK:=(F4.ok X G N6 (fun _=>zab (k:=2) T A1.up A2.up A3.up) :);have A5:bC l.prog w K mg base 3 "is_mark_item" 1 vG:=(F5.ok X G N5 (fun _=>zac (k:=2) T A1.up) :);have A6:bC l.prog w K mg base 4 "is_item" 1 lq:=(F6.ok X G NT (fun _=>zaG (k:=3) T A4.up A5.up) :);have A7:bC l.prog w K mg base 1 "window_of" 1 vI:=(F7.ok X G Ob (fun _=>zal (k:=0) T) :);have B8:fL l.prog w K mg base 5 "check_row" 1 pG:=(F8.okX X G Nx (fun _=>Z4 (k:=4) T (by decide) A6.up) :);have A8:=B8.quiet;have A9:bC l.prog w K mg base 1 "ins_of" 1 pI:=(F9.ok X G NP (fun _=>zaM (k:=0) T) :);have A10:bC l.prog w K mg base 2 "flow_of" 3 iJ:=(F10.ok X G Nz (fun _=>zaD (k:=1) T A7.up) :);have B11:fL l.prog w K mg base 3 "flows" 2 pH:=(F11.okX X G NK (fun _=>zbh (k:=2) T A10.up) :);have A11:=B11.quiet;have B12:fL l.prog w K mg base 6 "check_rows" 2 gh:=(F12.okX X G Ny (fun _=>Z5 (k:=5) T A9.up B8.up B11.up) :);have A12:=B12.quiet;have A13:bC l.prog w K mg base 1 "_law_cell_at" 2 f9:=(F13.ok X G Ni (fun _=>Zy (k:=0) T) :);have A14:bC l.prog w K mg base 1 "_law_name" 2 vC:=(F14.ok X G Np (fun _=>ZF (k:=0) T) :);have A15:bC l.prog w K mg base 1 "_law_works" 3 nH:=(F15.ok X G Nv (fun _=>ZM (k:=0) T) :);have A16:bC l.prog w K mg base 2 "_law_lengths" 1 sZ:=(F16.ok X G Nm (fun _=>ZD (k:=1) T A13.up) :);have A17:bC l.prog w K mg base 1 "_law_items" 2 sY:=(F17.ok X G Nk (fun _=>ZC (k:=0) T) :);have A18:bC l.prog w K mg base 1 "_law_odd" 1 tD:=(F18.ok X G Nq (fun _=>ZG (k:=0) T) :);have A19:bC l.prog w K mg base 2 "_law_spoiled" 2 pF:=(F19.ok X G Nu (fun _=>ZL (k:=1) T A18.up) :);have A20:bC l.prog w K mg base 7 "_law_said" 2 pD:=(F20.ok X G Nt (fun _=>ZK (k:=6) T B12.up) :);have A21:bC l.prog w K mg base 7 "_law_one_class" 2 vD:=(F21.ok X G Nr (fun _=>ZJ (k:=6) T B12.up) :);have A22:bC l.prog w K mg base 1 "_law_flow" 4 vB:=(F22.ok X G Nj (fun _=>Zz (k:=0) T) :);refine @J9 l.prog w K mg base 7 "law" "law" iM f23 d23 ["_law_script","_law_kind","_law_names","_law_one","_law_other","_law_folds","_law_works_here","_law_bits","_law_items_here","_law_due","_law_k","_law_at","_law_rows","_law_strange","_law_kept","_law_handed"] ["_law_script"] yN ?_ ?_ ?_ ?_
 ·exact D23.F
 ·exact Oa
 ·decide
 ·exact @zdd l.prog w K mg C base 7 f23 T A13.up A14.up A15.up A16.up A17.up A19.up A20.up A21.up A22.up
theorem all_mk {l:W.OpenLaw}{w:World}{K:W.Frag}{h:Heap}{mg:Mgx}{fa:Addr}(X:K.In h)(G:h.Ns mainGlobals mg)(hfa:mg "law"=some (.ref fa))
  (j4:W.nsIn K mainGlobals "DamError"=some (some (.ref j6)))
  (j7:W.nsIn K mainGlobals "NoIn"=some (some (.ref j8)))
  (j9:W.nsIn K mainGlobals "NoItem"=some (some (.ref jc)))
  (jd:W.nsIn K mainGlobals "TooMuch"=some (some (.ref je)))
  (jf:aV K j6=true)
  (jg:aV K j8=true)
  (jh:aV K jc=true)
  (ji:aV K je=true)
  (jj:sG K j6=true)
  (jm:W.findIn K (.ref jc) "__init__"=some (some (.ref jo))) (jq:K.lookup jo=some ⟨jr,jt,.func (W.fnOf "__init__" "NoItem.__init__" (fG uw) (dD uw) (bw uw) .none ju jw jx jy jz jA),jB⟩) (jC:W.codeIn K jz "NoItem.__init__"=true) (jD:W.keepIn K (.ref jo)=true)
  (jE:yr K jc jo=true) (jF:W.keepIn K (.ref jc)=true) (jG:gY K jc "at"=true) (jH:gK K jc=true)
  (jJ:sH K j8=true) (jK:W.keepIn K (.ref j8)=true) (jL:gK K j8=true)
  (jM:sH K je=true) (jN:W.keepIn K (.ref je)=true) (jO:gK K je=true)
  (jP:W.kitOne K (.ref j8) (.ref j8)=some true)
  (jQ:W.kitOne K (.ref j8) (.ref jc)=some false)
  (jR:W.kitOne K (.ref j8) (.ref je)=some false)
  (jT:W.kitOne K (.ref j8) (.type "ValueError")=some true)
  (jU:W.kitOne K (.ref jc) (.ref j8)=some false)
  (jV:W.kitOne K (.ref jc) (.ref jc)=some true)
  (jW:W.kitOne K (.ref jc) (.ref je)=some false)
  (jX:W.kitOne K (.ref jc) (.type "ValueError")=some true)
  (jY:W.kitOne K (.ref je) (.ref j8)=some false)
  (jZ:W.kitOne K (.ref je) (.ref jc)=some false)
  (qb:W.kitOne K (.ref je) (.ref je)=some true)
  (qe:W.kitOne K (.ref je) (.type "ValueError")=some true)
  (qg:bN K j8 j6=true)
  (qj:bN K j8 j8=true)
  (ql:bN K jc j6=true)
  (qm:bN K jc jc=true)
  (qp:bN K je j6=true)
  (qt:bN K je je=true)
  (qu:bN K j8 jc=false)
  (qw:bN K j8 je=false)
  (qx:bN K jc j8=false)
  (qy:bN K jc je=false)
  (qz:bN K je j8=false)
  (qC:bN K je jc=false)
  (F0:bA K "is_whole" A_)
  (F1:bA K "is_time" Ay)
  (F2:bA K "is_value" Az)
  (F3:bA K "is_key" Av)
  (F4:bA K "is_thing_item" Ax)
  (F5:bA K "is_mark_item" Aw)
  (F6:bA K "is_item" Aq)
  (F7:bA K "window_of" Ba)
  (F8:bA K "check_row" Aj)
  (F9:bA K "ins_of" Ao)
  (F10:bA K "flow_of" Al)
  (F11:bA K "flows" Am)
  (F12:bA K "check_rows" Ak)
  (F13:bA K "_law_cell_at" Aa)
  (F14:bA K "_law_name" Af)
  (F15:bA K "_law_works" Ai)
  (F16:bA K "_law_lengths" Ae)
  (F17:bA K "_law_items" Ac)
  (F18:bA K "_law_odd" Ag)
  (F19:bA K "_law_spoiled" Ah)
  (F20:bA K "_law_said" w6)
  (F21:bA K "_law_one_class" w5)
  (F22:bA K "_law_flow" Ab)
  (a23:W.nsIn K mainGlobals "law"=some (some (.ref f23))) (l23:K.lookup f23=some ⟨oc23,od23,.func (W.fnOf "law" "law" (fG iM) (dD iM) (bw iM) .none kV23 dc23 pm23 an23 cd23 ct23),sl23⟩) (c23:W.codeIn K cd23 "law"=true) (k23:W.keepIn K (.ref f23)=true)
  (qD:W.nsIn K mainGlobals "isinstance"=some none)
  (qF:W.nsIn K mainGlobals "bool"=some none)
  (qG:W.nsIn K mainGlobals "int"=some none)
  (qH:W.nsIn K mainGlobals "all"=some none)
  (qI:W.nsIn K mainGlobals "len"=some none)
  (qJ:W.nsIn K mainGlobals "str"=some none)
  (qK:W.nsIn K mainGlobals "tuple"=some none)
  (qL:W.nsIn K mainGlobals "enumerate"=some none)
  (qM:W.nsIn K mainGlobals "sum"=some none)
  (qN:W.nsIn K mainGlobals "dict"=some none)
  (qO:W.nsIn K mainGlobals "range"=some none)
  (qP:W.nsIn K mainGlobals "max"=some none)
  (qQ:W.nsIn K mainGlobals "ValueError"=some none)
  (qR:W.nsIn K mainGlobals "list"=some none)
  (qT:W.nsIn K mainGlobals "MOST_TIME"=some (some (.int 1000000000000 qU)))
  (qW:W.nsIn K mainGlobals "MOST_VALUE"=some (some (.int 1000000000000000000000000000000000000000000000000000000000000 qX)))
  (qY:W.nsIn K mainGlobals "MOST_SIGNS"=some (some (.int 8 qZ)))
  (o7:W.nsIn K mainGlobals "LETTERS"=some (some (.str "abcdefghijklmnopqrstuvwxyz" o8)))
  (o9:W.nsIn K mainGlobals "MOST_FLOW"=some (some (.int 2000 oh)))
  :∃fd:FuncData,(∀(s:Shared) (v:Value),BindsTo s fd ⟨[v],[]⟩ [("_law_script",v)])/\∀base:Heap,K.In base->base.Ns mainGlobals mg->FnOk l.prog w K mg base eG pQ fa fd ["_law_script"] (xH K i_):=by
 have e:=hfa.symm.trans (xbV X G a23);cases e;have T:Txt K mg ⟨j6,j8,jc,je⟩:=⟨by simp only[uY,xas,xa8,xbR,forall_eq_or_imp,forall_eq];exact⟨xa3 X G qD,xa3 X G qF,xa3 X G qG,xa3 X G qH,xa3 X G qI,xa3 X G qJ,xa3 X G qK,xa3 X G qL,xa3 X G qM,xa3 X G qN,xa3 X G qO,xa3 X G qP,xa3 X G qQ,xa3 X G qR⟩,xbV X G j4,jf,xbV X G j7,jg,xbV X G j9,jh,xbV X G jd,ji,jJ,jK,jL,jF,jH,jM,jN,jO,jP,jQ,jR,jT,jU,jV,jW,jX,jY,jZ,qb,qe,qg,qj,ql,qm,qp,qt,qu,qw,qx,qy,qz,qC,jj,jG,⟨_,_,jE,Ea jq jC jD,(Ec (st:=uw) jq jC jD).binds (ps:=["self","at"]) fun _ _ _ _ _ _ us hl=>match us,hl with | [_,_],_=>rfl⟩,⟨_,xbV X G qT⟩,⟨_,xbV X G qW⟩,⟨_,xbV X G qY⟩,⟨_,xbV X G o7⟩,⟨_,xbV X G o9⟩⟩
 have D23:DefAt K mg "law" iM ["_law_script"] _ _:=⟨xbV X G a23,Ea l23 c23 k23,(Ec (st:=iM) l23 c23 k23).binds (ps:=["_law_script"]) fun _ _ _ _ _ _ us hl=>match us,hl with | [_],_=>rfl⟩
 refine⟨W.fnOf "law" "law" (fG iM) (dD iM) (bw iM) .none kV23 dc23 pm23 an23 cd23 ct23,fun s v=>.of_eq rfl,fun base _ _=>SM ?_⟩;exact UJ X G T F0 F1 F2 F3 F4 F5 F6 F7 F8 F9 F10 F11 F12 F13 F14 F15 F16 F17 F18 F19 F20 F21 F22 D23
end My
open PySem PySem.W PyProof.Rows
set_option maxRecDepth 100000 in
set_option maxHeartbeats 0 in
theorem PySem.Challenge.cw_rowdam_k30_rows_refused_holds : PySem.Challenge.rw_rowdam_k30_rows_refused.Holds := by
 w_on;refine HQ.one My.he My.hA My.hB ?_
 k_fill
 refine E3.zbv (l:=PySem.Challenge.rw_rowdam_k30_rows_refused) (k:=My.pQ) (g:=My.i_) (x:="_law_script") rfl rfl ⟨rfl,by decide,by decide⟩ (fun w h Y=>PySem.W.kIn_of Y) ?F My.UG
 case F=>
  intro w mg fa h KX G hmg
  refine' My.all_mk KX G hmg ?j4 ?j7 ?j9 ?jd ?jf ?jg ?jh ?ji ?jj ?jm ?jq ?jC ?jD ?jE ?jF ?jG ?jH ?jJ ?jK ?jL ?jM ?jN ?jO ?jP ?jQ ?jR ?jT ?jU ?jV ?jW ?jX ?jY ?jZ ?qb ?qe ?qg ?qj ?ql ?qm ?qp ?qt ?qu ?qw ?qx ?qy ?qz ?qC ?F0 ?F1 ?F2 ?F3 ?F4 ?F5 ?F6 ?F7 ?F8 ?F9 ?F10 ?F11 ?F12 ?F13 ?F14 ?F15 ?F16 ?F17 ?F18 ?F19 ?F20 ?F21 ?F22 ?a23 ?l23 ?c23 ?k23 ?qD ?qF ?qG ?qH ?qI ?qJ ?qK ?qL ?qM ?qN ?qO ?qP ?qQ ?qR ?qT ?qW ?qY ?o7 ?o9
  (case j4 |j7 |j9 |jd=>k_is);(case jf |jg |jh |ji=>kernel_rfl);(case jj=>refine E3.zce ?_ ?_ ?_<;>k_is);(case jm |jq |jC |jD=>k_is);(case jE=>kernel_rfl);(case jF=>k_is);(case jG=>refine E3.zbY ?_ ?_ (E3.Bv ?_ ?_ ?_) ?_ ?_<;>k_is);(case jH=>refine E3.Im (E3.Bv ?_ ?_ ?_) ?_ ?_ ?_ ?_ ?_<;>k_is);(case jJ=>kernel_rfl);(case jK=>k_is);(case jL=>refine E3.Im (E3.Bv ?_ ?_ ?_) ?_ ?_ ?_ ?_ ?_<;>k_is);(case jM=>kernel_rfl);(case jN=>k_is);(case jO=>refine E3.Im (E3.Bv ?_ ?_ ?_) ?_ ?_ ?_ ?_ ?_<;>k_is);(case jP |jQ |jR |jT |jU |jV |jW |jX |jY |jZ |qb |qe |qg |qj |ql |qm |qp |qt |qu |qw |qx |qy |qz |qC=>kernel_rfl);(case a23 |l23 |c23 |k23 |qD |qF |qG |qH |qI |qJ |qK |qL |qM |qN |qO |qP |qQ |qR |qT |qW |qY |o7 |o9=>k_is);all_goals (refine' E3.bA.mk ?a ?l ?c ?k;(case a=>k_is);(case l=>k_is);(case c=>k_is);(case k=>k_is))
