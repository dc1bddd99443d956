import PyProof.Rows.All
import Wide.All
import OpenK.AllK
import Wide.FinOn
import Lean
import PyProof.EqAt
import PyProof.EqKinds
import PyProof.TupleCall
import KE.KIsAll
import KE.KMinKey
import KE.KTupSum
import KE.KxSplit
import KE.KxAffix
import KE.KIntText
import PyProof.NeKinds
import PyProof.Rows.EqBoolInt
import KE.KSortTup
import KE.KDictLaws
import PyProof.Conv_int_bool
import PySem.Challenge.RW_rowdam_k28_gaps_told
noncomputable section
set_option Elab.async false
set_option linter.all false
set_option compiler.extract_closed false
set_option maxRecDepth 100000
def tG:=@Nat.le_refl
def Z2:=@PySem.wpAny_bind
def Z4:=@List.length_append
def Z5:=@List.getElem?_eq_some_iff
def Z6:=@List.getElem?_eq_getElem
def Z7:=@if_pos
def Z8:=@List.size_toArray
def Z9:=@PySem.wpAny_pure
def Z_:=@List.getElem?_append_left
def xaa:=@Option.map_eq_some_iff
def xab:=@Nat.lt_of_lt_of_le
def xac:=@PySem.Heap.get?_push_of_some
def xad:=@PySem.Heap.lt_size
def xae:=@List.getElem?_append_right
def xaf:=@if_neg
def xag:=@List.getElem?_map
def xah:=@List.mem_cons
def xai:=@List.length_map
def xaj:=@Bool.false_ne_true
def xak:=@List.mem_cons_of_mem
def xal:=@List.mem_singleton
def xam:=@Bool.and_eq_true
def xan:=@Option.some.inj
def xao:=@List.mem_append_right
def xap:=@Nat.ne_of_lt
def xaq:=@List.mem_append
theorem xar:type_of%@List.length_cons:=by intros;rfl
def xas:=@Nat.lt_or_ge
def xat:=@Bool.false_eq_true
def xau:=@PySem.Heap.get?_push_size
def xav:=@Nat.le_trans
def xaw:=@List.mem_of_getElem?
def xax:=@List.getD_eq_getElem?_getD
theorem xay:type_of%@List.length_singleton:=by intros;rfl
theorem xaz:type_of%@Array.length_toList:=by intros;rfl
def xaA:=@decide_false
def xaB:=@List.map_append
def xaC:=@PySem.W.kia_one
def xaD:=@List.length_set
def xaE:=@Nat.zero_le
def xaF:=@if_false
def xaG:=@List.mem_cons_self
def xaH:=@PySem.PassesOwn.never
theorem xaI:type_of%@List.set_cons_zero:=by intros;rfl
theorem xaJ:type_of%@List.set_cons_succ:=by intros;rfl
def xaK:=@PySem.Heap.get?_update_other
def xaL:=@beq_self_eq_true
def xaM:=@beq_eq_false_iff_ne
def xaN:=@List.getElem?_set
def xaO:=@Nat.le_of_lt_succ
def xaP:=@Nat.sub_self
def xaQ:=@List.getElem?_eq_none
def xaR:=@decide_eq_false
def xaS:=@Nat.le_antisymm
def xaT:=@List.getElem_mem
theorem xaU:type_of%@List.cons_append:=by intros;rfl
def xaV:=@List.map_cons
def xaW:=@List.mem_map
def xaX:=@PySem.W.mg_none_of
def xaY:=@PySem.sizeLine_eq
def xaZ:=@if_true
theorem xa0:type_of%@Option.map_some:=by intros;rfl
def xa2:=@List.mem_filter
def xa3:=@Bool.eq_iff_iff
def xa4:=@List.drop_eq_getElem_cons
def xa5:=@List.mem_filterMap
def xa6:=@List.pairwise_append
theorem xa7:type_of%@List.getElem?_cons_succ:=by intros;rfl
def xa8:=@decide_eq_true_eq
def xa9:=@Array.getD_eq_getD_getElem?
theorem xba:type_of%@List.any_cons:=by intros;rfl
def xbb:=@List.length_take
def xbc:=@List.all_eq_true
def xbd:=@List.eq_nil_or_concat
def xbe:=@Int.emod_lt_of_pos
def xbf:=@List.getElem?_eq_none_iff
def xbg:=@List.append_nil
def xbh:=@PySem.wpAny_mono
theorem xbi:type_of%@List.foldl_cons:=by intros;rfl
theorem xbj:type_of%@List.nil_append:=by intros;rfl
def xbk:=@List.length_range
theorem xbl:type_of%@List.flatten_cons:=by intros;rfl
theorem xbm:type_of%@List.all_cons:=by intros;rfl
def xbn:=@List.getLast?_eq_some_getLast
theorem xbo:type_of%@List.filterMap_cons:=by intros;rfl
def xbp:=@List.getElem?_range
def xbq:=@List.flatten_append
def xbr:=@Ne.symm
def xbs:=@List.mem_reverse
def xbt:=@decide_true
def xbu:=@PySem.Obj.data_mapFields
def xbv:=@List.pairwise_cons
def xbw:=@List.append_of_mem
def xbx:=@List.set_append_right
def xby:=@List.concat_eq_append
def xbz:=@Int.emod_nonneg
def xbA:=@Array.getElem?_eq_some_iff
def xbB:=@List.append_assoc
def xbC:=@PySem.wpAny_newObj_type
def xbD:=@List.mem_of_getLast?
def xbE:=@decide_eq_true
def xbF:=@PySem.boot_len
theorem xbG:type_of%@List.lookup_cons:=by intros;rfl
def xbH:=@List.mem_flatten
def xbI:=@PySem.mem_of_lookup
def xbJ:=@PyProof.Rows.slot_tuple_getitem
def xbK:=@List.getElem?_replicate
def xbL:=@PySem.wpAny_getItem_str_slice
def xbM:=@Nat.lt_irrefl
def xbN:=@List.nodup_cons
theorem xbO:type_of%@List.find?_cons:=by intros;rfl
theorem xbP:type_of%@List.length_nil:=by intros;rfl
def xbQ:=@Nat.not_lt_zero
def xbR:=@List.getElem?_set_self
def xbS:=@PySem.wpAny_truthy_bool
def xbT:=@PyProof.Rows.callWith_type1
def xbU:=@List.mem_append_left
def xbV:=@List.getElem?_set_ne
def xbW:=@PySem.wpAny_call_entry
theorem xbX:type_of%@Option.getD_some:=by intros;rfl
def xbY:=@Nat.lt_succ_self
def xbZ:=@List.drop_length
def xb0:=@PySem.W.mg_of
def xb1:=@List.reverse_append
def xb2:=@List.range_succ
def xb3:=@PySem.wpAny_passesOwn
def xb4:=@PySem.SeqAt.EqAt.int_int
def xb5:=@PySem.SeqAt.EqAt.str_str
def xb6:=@List.filter_append
def xb7:=@PySem.F.slot_dict_itemiterator_iter
def xb8:=@List.filter_cons_of_neg
def xb9:=@List.any_eq_false
def xca:=@Nat.lt_succ_of_lt
def xcb:=@Nat.le_succ_of_le
def xcc:=@List.pairwise_map
def xcd:=@of_decide_eq_true
def xce:=@PySem.wpAny_field
def xcf:=@List.take_of_length_le
def xcg:=@PySem.wpAny_holding
theorem xch:type_of%@List.sum_cons:=by intros;rfl
def xci:=@List.length_drop
def xcj:=@List.take_length
def xck:=@List.length_filter_le
def xcl:=@PySem.SeqAt.EqAt.same
def xcm:=@PySem.post_val_or_str
def xcn:=@PyProof.Rows.get?_update_seq
def xco:=@List.mem_of_mem_take
def xcp:=@List.length_reverse
def xcq:=@Bool.and_false
def xcr:=@List.drop_zero
def xcs:=@PySem.F.slot_dict_setdefault
def xct:=@Nat.le_succ
def xcu:=@Int.le_refl
def xcv:=@PySem.SeqAt.EqAt.int_str
def xcw:=@PySem.SeqAt.EqAt.str_int
def xcx:=@PySem.wpAny_Call_Name_kw
def xcy:=@of_decide_eq_false
def xcz:=@PySem.Calls.Name_function_global
def xcA:=@Bool.and_true
def xcB:=@PyProof.Rows.listUpdate_at
def xcC:=@PySem.wpAny_newList
def xcD:=@PySem.wpAny_assign_Name
def xcE:=@PySem.W.kitx_list
def xcF:=@PySem.W.kitx_dict
theorem xcG:type_of%@Int.toNat_natCast:=by intros;rfl
def xcH:=@List.take_add_one
def xcI:=@List.nodup_append
def xcJ:=@beq_iff_eq
def xcK:=@Nat.not_le
def xcL:=@List.mem_or_eq_of_mem_set
def xcM:=@PySem.Calls.call_function_entry
def xcN:=@List.pairwise_iff_getElem
def xcO:=@Array.getElem?_eq_getElem
def xcP:=@List.getLast?_eq_some_iff
def xcQ:=@Nat.ne_of_gt
def xcR:=@PySem.codeAny_mono
def xcS:=@Nat.le_of_not_lt
def xcT:=@PySem.Txt.slice_le
def xcU:=@PySem.wpAny_comprehension_free
def xcV:=@PySem.SeqAt.RcAt.lists_lengths
def xcW:=@PySem.F.slot_list_append
def xcX:=@PySem.F.type_list_append
def xcY:=@List.any_eq_true
def xcZ:=@List.map_map
def xc1:=@List.length_filterMap_le
def xc2:=@PySem.F.plainAttrs_list
def xc3:=@PySem.F.plainAttrs_dict
def xc4:=@PySem.F.slot_dict_items
def xc5:=@Nat.add_sub_cancel_left
def xc6:=@List.of_mem_zip
def xc7:=@List.cons.injEq
def xc8:=@PySem.W.cellsFrom_some
def xc9:=@List.find?_cons_of_neg
def xda:=@List.mem_range
def xdb:=@Bool.false_and
def xdc:=@PySem.wpAny_setField
def xdd:=@List.mem_iff_getElem?
def xde:=@Array.mem_toList_iff
theorem xdf:type_of%@PySem.typeIs_str:=by intros;rfl
def xdh:=@Bool.and_eq_true_iff
def xdi:=@List.getElem?_of_mem
def xdj:=@List.reverse_reverse
def xdk:=@PySem.Paired.length
def xdl:=@Bool.and_self
def xdm:=@Bool.not_true
def xdn:=@Int.toNat_of_nonneg
def xdo:=@List.length_pos_iff
def xdp:=@Array.append_assoc
def xdq:=@Nat.le_of_lt
def xdr:=@PySem.W.kitx_tuple
def xds:=@Nat.min_self
theorem xdt:type_of%@List.zip_cons_cons:=by intros;rfl
def xdu:=@false_and
theorem xdv:type_of%@List.map_singleton:=by intros;rfl
def xdw:=@Int.zero_add
def xdx:=@bne_self_eq_false
def xdy:=@Array.Perm.toList
def xdz:=@List.reverse_cons
def xdA:=@List.map_id
abbrev Fgx:=PySem.W.Frag
abbrev Mgx:=PySem.Str->Option PySem.Value
abbrev Pnx:=List (PySem.Addr×PySem.Obj)
local macro_rules | `(tactic| x_go)=> `(tactic| decide +kernel)
namespace HQ
open PySem PySem.W PySem.Calls PyProof.Rows
noncomputable def GZ {α:Type} (t:BT):(BT->α)->α:= @BT.rec (fun _=>(BT->α)->α) (fun k=>k .nil) (fun v _ _ a b k=>a fun l=>b fun r=>k (.node v l r)) t
theorem Ay {α:Type}:∀(t:BT) (k:BT->α),GZ t k=k t
 |.nil,_=>rfl
 |.node _ l r,_=>(Ay l _).trans (Ay r _)
noncomputable def Az {α:Type} (n:Nat) (k:Nat->α):α:= @Nat.rec (fun _=>α) (k 0) (fun n _=>k (Nat.succ n)) n
theorem G3 {α:Type}(n:Nat)(k:Nat->α):Az n k=k n:=by cases n<;>rfl
def frs {α:Type}(s:SharedT)(k:SharedT->α):α:= @SharedT.rec (fun _=>α) (fun T n l g d i o=>GZ T fun T=>Az n fun n=>Az i fun i=>k ⟨T,n,l,g,d,i,o⟩) s
theorem MP {α:Type}(s:SharedT)(k:SharedT->α):frs s k=k s:=(Ay _ _).trans ((G3 _ _).trans (G3 _ _))
abbrev qd:Code->Sem Fin:=Fast.tw11892475500146522536 Fast.tw14364793385576792824
noncomputable def DK (p:Program) (w:World):SharedT->Thread->Option (SharedT×Thread)
  |⟨T,n,l,g,d,i,o⟩,⟨c,cd,q,fs⟩=>match c with
    |.load .. |.update .. |.alloc .. |.loadIfAlive .. =>Fast.tw10156331382660048174 qd p w ⟨T,n,l,g,d,i,o⟩ ⟨c,cd,q,fs⟩
    |c=>match Fast.tw8437177126325714943 qd p w ⟨{},g,d,i,o⟩ ⟨c,cd,q,fs⟩ with
      |.go ⟨_,g,d,i,o⟩ t=>some (⟨T,n,l,g,d,i,o⟩,t)
      |.halt _ _=>none
theorem Xm {p:Program}{w:World}(s:SharedT)(t:Thread):DK p w s t=stepT (denote treeTable) p w s t:=by
 obtain⟨T,n,l,g,d,i,o⟩:=s;obtain⟨c,cd,q,fs⟩:=t;rw[show denote treeTable=qd by unfold qd;rw[<-Fast.te11892475500146522536, <-Fast.te14364793385576792824]];cases c<;>(unfold DK;dsimp only;first |rw[<-Fast.te10156331382660048174] |(unfold stepT;dsimp only;rw[<-Fast.te8437177126325714943];cases step qd p w _ _<;>rfl))
abbrev OS:=Option SharedT
noncomputable def bd (p:Program) (w:World) (n:Nat) (ih:SharedT->Thread->OS) (s:SharedT) (t:Thread):OS:=
 @Bool.rec (fun _=>OS) (@Bool.rec (fun _=>OS) none (@Option.rec _ (fun _=>OS) none (fun r=> @Prod.rec _ _ (fun _=>OS) (fun s t=> @Bool.rec (fun _=>OS) (ih s t) (frs s fun s=>ih s t) (Nat.beq (n % 64) 0)) r) (DK p w s t)) (Fast.tw6613529449190102663 11 (some (.ref 6)) t)) (some s) (through t)
noncomputable def go (p:Program) (w:World) (n:Nat):SharedT->Thread->OS:= @Nat.rec (fun _=>SharedT->Thread->OS) (fun _ _=>none) (bd p w) n
theorem rm {p:Program}{w:World}:∀{n:Nat} {s s':SharedT} {t:Thread},go p w n s t=some s'->topRun treeTable p w 11 (some (.ref 6)) n s.abs t=some s'.abs
  |0,_,_,_,h=>by cases h
  |n + 1,s,s',t,h=>by
    rw[show go p w (n + 1) s t=bd p w n (go p w n) s t from rfl]at h;unfold bd at h;rw[Xm, <-Fast.te6613529449190102663]at h;unfold topRun
    cases ht:through t with
    |true=>rw[ht]at h;cases h;rfl
    |false=>
      rw[ht]at h
      cases hk:stepOk 11 (some (.ref 6)) t with
      |false=>rw[hk]at h;cases h
      |true=>
        rw[hk]at h
        cases hs:stepT (denote treeTable) p w s t with
        |none=>rw[hs]at h;cases h
        |some r=>
          obtain⟨s₂,t₂⟩:=r;rw[hs]at h;dsimp only at h ⊢;rw[stepT_spec hs];rw[MP]at h;exact rm (by revert h;cases Nat.beq (n % 64) 0<;>exact id)
noncomputable def mkT:List Obj->Nat->BT->BT
 | [],_,t=>t
 |o::l,i,t=>mkT l (i + 1) (t.ins i o)
noncomputable def bS (w:World) (o:OsState):SharedT:=⟨mkT (boot_heap w.params).objs.toList 0 .nil,11,{},⟨[]⟩,boot_drawn,boot_toks,o⟩
theorem KD (w:World)(o:OsState):(bS w o).abs=⟨boot_heap w.params,⟨[]⟩,boot_drawn,boot_toks,o⟩:=by kernel_rfl
theorem KH (P:Params):((boot_heap P).isNs mainGlobals && (Array.mk []:Array GenState).size==0,(boot_heap P).objs.size,(boot_heap P).nsMap mainGlobals "__annotations__")=(true,11,some (.ref 6)):=by kernel_rfl
noncomputable def lst {α:Type} (T:BT) (n:Nat):List Obj->(List Obj->α)->α:=
 @Nat.rec (fun _=>List Obj->(List Obj->α)->α) (fun a k=>k a) (fun i ih a k=> @Option.rec Obj (fun _=>α) (ih (default::a) k) (fun o=> @Obj.rec (fun _=>α) (fun c d t l=>ih (⟨c,d,t,l⟩::a) k) o) (T.get i)) n
theorem Hx {α:Type}(T:BT):∀(n:Nat) (a:List Obj) (k:List Obj->α),lst T n a k=k (T.list n ++ a)
  |0,_,_=>rfl
  |n + 1,a,k=>by
    rw[show T.list (n + 1)=T.list n ++ [(T.get n).getD default] by unfold BT.list;rw[xb2,xaB];rfl,xbB];unfold lst;dsimp only;cases T.get n<;>exact Hx T n _ k
noncomputable def Fi {α:Type} (s:SharedT) (k:Shared->α):α:= @SharedT.rec (fun _=>α) (fun T n l g d i o=>lst T n [] fun a=>k ⟨⟨⟨a⟩,l⟩,g,d,i,o⟩) s
theorem Fj {α:Type}(s:SharedT)(k:Shared->α):Fi s k=k s.abs:=(Hx _ _ _ _).trans (by rw[xbg];rfl)
section
variable {p q:Program}{lo:List Str}{Xt:Shared->Bool}{α:Type}{Yf:Shared->α}{Ya:World->α}{N:Nat}{g0:Bool}{B C:Prop}
abbrev Pre (_:LeftO p q lo Xt Yf Ya N g0/\B->C):Prop:=(opening p=plainProg p.main.scope.names/\∀s,fenceModules? p s=some s)/\Nat.ble 600 N=true
abbrev See {β:Type}(p:Program)(N:Nat)(v:World->World)(f:World->Shared->β)(y:World->β):Prop:=∀w o,(go p (v w) N (bS (v w) o) (topStub p)).map (fun s=>Fi s (f (v w)))=some (y (v w))
abbrev gR (v:World->World)(_:LeftO p q lo Xt Yf Ya N g0/\B->C):Prop:=
 See p N v (fun w s=>(staticsOk (importedModules p.main.body) (boot_heap w.params) s.heap && namesBound p s.heap && gensDone s && laidKept (boot_heap w.params) s.heap,Yf s)) fun w=>(true,Ya w)
abbrev gU (v:World->World)(_:LeftO p q lo Xt Yf Ya N g0/\B->C):Prop:=See p N v (fun _ s=>Fast.tw4187177175401517315 q lo (importedModules p.main.body) Xt g0 s) fun _=>openGood q lo
theorem left {v:World->World}{H:LeftO p q lo Xt Yf Ya N g0/\B->C}(e:Pre H)(a:gR v H)(b:gU v H)(w:World):
  (openEnds treeTable p (v w) N).map (fun s=>(openSeen q lo (importedModules p.main.body) Xt g0 s,Yf s))=some (openGood q lo,Ya (v w)):=by
 obtain⟨⟨h,gs,d,k,o⟩,e1,e2⟩:=xaa.mp (boot_open e.1.1 e.2 e.1.2 (v w));obtain⟨rfl,rfl,rfl,rfl⟩:h=boot_heap (v w).params/\gs=⟨[]⟩/\d=boot_drawn/\k=boot_toks:=by simpa using e2
 obtain⟨s,hs,hv⟩:=xaa.mp (a w o);have hb:=b w o;rw[hs,xa0,Fj, <-Fast.te4187177175401517315]at hb;rw[Fj]at hv;obtain⟨l1,l3⟩:=Prod.mk.inj hv;obtain⟨z1,z2,z3⟩:_/\_/\_:=by simpa only[Prod.mk.injEq] using KH (v w).params
 have hr:=rm hs;rw[KD]at hr;have t:topFrom treeTable p (v w) N ⟨boot_heap (v w).params,⟨[]⟩,boot_drawn,boot_toks,o⟩=some s.abs:=by
  unfold topFrom;dsimp only;rw[z1,z2,z3,hr];dsimp only[Option.bind_some];rw[l1]
 unfold openEnds;rw[e1,Option.bind_some,t];exact congrArg some (Prod.ext (xan hb) l3)
theorem two (row:String){H:LeftO p q lo Xt Yf Ya N g0/\B->C}(e:Pre H)(a:gR (·.withFollow row false) H)(b:gU (·.withFollow row false) H)(c:gR (·.withFollow row true) H)(d:gU (·.withFollow row true) H)(hB:B):C:=
 H ⟨fun w=>by
  have x:=left e a b w;have y:=left e c d w;have z:=World.withFollow_self w row;cases h:w.params.followText row<;>rw[h]at z<;>simp only[z]at x y<;>assumption,hB⟩
end
end HQ
section
local macro_rules
  | `(tactic| refine $f:term $as:term*)=>do
    let mut bs:= #[]
    let mut hit:=false
    for a in as do
      if a.raw.isOfKind ``Lean.Parser.Term.syntheticHole && a.raw[1].getId== `hl then
        hit:=true
        bs:=bs.push (<- `((And.left ?hx)))
      else if a.raw.isOfKind ``Lean.Parser.Term.syntheticHole && a.raw[1].getId== `hc then
        bs:=bs.push (<- `((And.right ?hx)))
      else bs:=bs.push a
    if hit then `(tactic| refine $f $bs*) else Lean.Macro.throwUnsupported
set_option maxHeartbeats 0 in
open_top My.hdAll for PySem.Challenge.rw_rowdam_k28_gaps_told
theorem My.he:HQ.Pre My.hdAll:=⟨⟨by kernel_rfl,fun _=>by kernel_rfl⟩,by kernel_rfl⟩
theorem My.hBf:HQ.gU (·.withFollow "special-get-raises" false) My.hdAll:=fun _ _=>by kernel_rfl
theorem My.hBt:HQ.gU (·.withFollow "special-get-raises" true) My.hdAll:=fun _ _=>by kernel_rfl
theorem My.hAf:HQ.gR (·.withFollow "special-get-raises" false) My.hdAll:=fun _ _=>by kernel_rfl
theorem My.hAt:HQ.gR (·.withFollow "special-get-raises" true) My.hdAll:=fun _ _=>by kernel_rfl
end
namespace L2
open PySem PySem.Spec PyProof.Rows
abbrev Key:=Sum Int Str
noncomputable def n6:Key->Value->Bool
 |.inl k,v=>Value.isInt k v
 |.inr x,v=>Value.isStrOf x v
def Bk (w:World):Key->Int
 |.inl k=>hashInt k
 |.inr x=>hashStr w x
theorem lg:∀{k:Key} {v:Value},n6 k v=true->(∃i t,k=Sum.inl i/\v=Value.int i t)\/(∃x t,k=Sum.inr x/\v=Value.str x t)
  |.inl i,v,h=>by
    obtain⟨t,e⟩:=Value.isInt_shape (k:=i) (v:=v) h;exact .inl ⟨i,t,rfl,e⟩
  |.inr x,v,h=>by
    obtain⟨t,e⟩:=Value.isStrOf_shape (x:=x) (v:=v) h;exact .inr ⟨x,t,rfl,e⟩
theorem Oi (i:Int)(t:Tok):n6 (.inl i) (.int i t)=true:=by simp[n6,Value.isInt]
theorem Oj (x:Str)(t:Tok):n6 (.inr x) (.str x t)=true:=by simp[n6,Value.isStrOf]
theorem Ol (a b:Int):decide ((Sum.inl a:Key)=Sum.inl b)=(a==b):=by
 by_cases e:a=b
 ·subst e;simp
 ·have h:¬ (Sum.inl a:Key)=Sum.inl b:=fun q=>e (Sum.inl.inj q);rw[xaR h];exact(xaM.mpr e).symm
theorem Ou (a b:Str):decide ((Sum.inr a:Key)=Sum.inr b)=decide (a=b):=by
 by_cases e:a=b
 ·subst e;simp
 ·have h:¬ (Sum.inr a:Key)=Sum.inr b:=fun q=>e (Sum.inr.inj q);rw[xaR h,xaR e]
theorem Oo (a:Int)(b:Str):decide ((Sum.inl a:Key)=Sum.inr b)=false:=xaR (fun q=>nomatch q)
theorem Ot (a:Str)(b:Int):decide ((Sum.inr a:Key)=Sum.inl b)=false:=xaR (fun q=>nomatch q)
noncomputable def gO (prog:Program) (w:World):PySem.KeyKind prog w Key where
 is:=n6
 hash:=Bk w
 inj:=fun v a b ha hb=>by
  rcases lg ha with⟨i,t,rfl,rfl⟩ |⟨x,t,rfl,rfl⟩
  ·rcases lg hb with⟨j,u,rfl,e⟩ |⟨y,u,rfl,e⟩
   ·injection e with e1 _;rw[e1]
   ·exact nomatch e
  ·rcases lg hb with⟨j,u,rfl,e⟩ |⟨y,u,rfl,e⟩
   ·exact nomatch e
   ·injection e with e1 _;rw[e1]
 byValue:=fun k v h=>by
  rcases lg h with⟨i,t,rfl,rfl⟩ |⟨x,t,rfl,rfl⟩<;>rfl
 pyHash:=fun hv h=>by
  rcases lg hv with⟨i,t,rfl,rfl⟩ |⟨x,t,rfl,rfl⟩
  ·exact wpAny_pyHash_int h
  ·exact wpAny_pyHash_str h
 eqBool:=fun hu hv h=>by
  rcases lg hu with⟨i,t,rfl,rfl⟩ |⟨x,t,rfl,rfl⟩
  ·rcases lg hv with⟨j,u,rfl,rfl⟩ |⟨y,u,rfl,rfl⟩
   ·rw[Ol]at h;exact wpAny_eqBool_int h
   ·rw[Oo]at h;exact xcv i t y u _ _ _ _ h
  ·rcases lg hv with⟨j,u,rfl,rfl⟩ |⟨y,u,rfl,rfl⟩
   ·rw[Ot]at h;exact xcw x t j u _ _ _ _ h
   ·rw[Ou]at h;exact wpAny_eqBool_str h
 «strs» :=fun k x t v h=>by
  rcases lg h with⟨i,u,rfl,e⟩ |⟨y,u,rfl,e⟩
  ·exact nomatch e
  ·injection e with e1 _
   subst e1;cases v<;>rfl
theorem Ph (prog:Program)(w:World)(i:Int)(t:Tok):(gO prog w).is (.inl i) (.int i t)=true:=Oi i t
theorem Pj (prog:Program)(w:World)(x:Str)(t:Tok):(gO prog w).is (.inr x) (.str x t)=true:=Oj x t
inductive V where
 |non |bl (b:Bool) |int (i:Int) |str (x:Str) |byt (b:Array UInt8) |flt (b:UInt64) |ref (a:Addr) |ty (n:String)
 deriving DecidableEq
noncomputable def RelV:V->Value->Prop
 |.non,u=>u=Value.none
 |.bl b,u=>u=Value.bool b
 |.int i,u=>∃t,u=Value.int i t
 |.str x,u=>∃t,u=Value.str x t
 |.byt b,u=>∃t,u=Value.bytes b t
 |.flt b,u=>∃t,u=Value.float b t
 |.ref a,u=>u=Value.ref a
 |.ty n,u=>u=Value.type n
abbrev Vals:List V->List Value->Prop:=Paired RelV
theorem Vals.length (r:Vals xs us):xs.length=us.length:=xdk r
theorem Vals.get:∀{xs:List V} {us:List Value} {i:Nat} {x:V},Vals xs us->xs[i]? =some x->∃u,us[i]? =some u/\RelV x u
  |_,_,_,_,.nil,e=>by simp at e
  |_,_,0,_,.cons r _,e=>by simp at e;subst e;exact⟨_,rfl,r⟩
  |_,_,i + 1,x,.cons _ t,e=>by
    obtain⟨u,h1,h2⟩:=Vals.get (i:=i) (x:=x) t (by simpa using e);exact⟨u,by simpa using h1,h2⟩
theorem Vals.append:∀{xs ys:List V} {us ws:List Value},Vals xs us->Vals ys ws->Vals (xs ++ ys) (us ++ ws)
 |_,_,_,_,.nil,s=>s
 |_,_,_,_,.cons r t,s=>.cons r (Vals.append t s)
theorem Vals.take:∀{xs:List V} {us:List Value} (n:Nat),Vals xs us->Vals (xs.take n) (us.take n)
 |_,_,0,_=>.nil
 |_,_,_ + 1,.nil=>.nil
 |_,_,n + 1,.cons r t=>.cons r (Vals.take n t)
theorem Vals.drop:∀{xs:List V} {us:List Value} (n:Nat),Vals xs us->Vals (xs.drop n) (us.drop n)
 |_,_,0,r=>r
 |_,_,_ + 1,.nil=>.nil
 |_,_,n + 1,.cons _ t=>Vals.drop n t
noncomputable def lF:Option V->Option Value->Prop
 |some v,some u=>RelV v u
 |none,none=>True
 |_,_=>False
def KV {κ:Type}:List (κ×V)->List (κ×Value)->Prop:=Paired fun(p:κ×V) (q:κ×Value)=>p.1=q.1/\RelV p.2 q.2
def kV:Key->V
 |.inl i=>.int i
 |.inr x=>.str x
inductive HO where
  |lst (xs:List V)
  |tup (xs:List V)
  |dK (kvs:List (Key×V)) |dT (kvs:List (List Key×V))
  |set (S:Int->Bool) (n:Nat)
  |ins (C dx:Addr) (fs:List (Str×V))
  |own (x:Addr)
  |xd (fs:List (Str×V))
  |met (f x:Addr)
  |rng (lo hi:Int)
  |frz (o:Obj) (u:HO)
  |tbl (ps:Array Value)
  |ext (φ:Heap->Prop)
abbrev Hp:=Addr->Option HO
noncomputable def upd (H:Hp) (a:Addr) (o:HO):Hp:=fun b=>if b=a then some o else H b
theorem b_:upd H a o a=some o:=by unfold upd;rw[Z7 rfl]
theorem aW (h:b≠a):upd H a o b=H b:=by unfold upd;rw[xaf h]
theorem J8:upd (upd H a o) a u=upd H a u:=by
 funext b;unfold upd;split<;>rfl
theorem j_ {H:Hp}{a b:Addr}{o:HO}(h:H a=some o)(h':H b=none):a≠b:=by
 intro e;subst e;rw[h]at h';cases h'
section
variable (P:Program)(w:World)
noncomputable def cj (H:Hp) (h:Heap) (a:Addr):HO->Prop
 |.lst xs=>xs.length<=sizeLine/\∃(its:List Value) (n:Nat),Vals xs its/\h.get? a=some {cls:=.type "list",data:=.seq its.toArray n}
 |.tup xs=>xs.length<=sizeLine/\∃its:List Value,Vals xs its/\IsTup h a its.toArray
 |.dK kvs=>kvs.length<=sizeLine/\(a==sysModules)=false/\∃vs,KV kvs vs/\h.DictOf (gO P w) a vs
 |.dT kvs=>kvs.length<=sizeLine/\(a==sysModules)=false/\∃xs:List (List Key×Addr×Value),
   Paired (fun(p:List Key×V) (q:List Key×Addr×Value)=>p.1=q.1/\H q.2.1=some (.tup (p.1.map kV))/\RelV p.2 q.2.2) kvs xs/\
   ∃o es ep,h.get? a=some o/\o.ExactDict/\o.data=.dict es ep/\es.toList=xs.map (entryOfKey (tupleKind (gO P w)))/\(xs.map (·.1)).Nodup
 |.set S n=>h.SetOf (intKind P w) a S n
 |.ins C dx fs=>H dx=some (.own a)/\fs.length<=1000/\dx≠a/\h.get? a=some (PySem.W.instObj C dx)/\
   ∃mA,h.Ns1 dx mA/\(∀f,lF (fs.lookup f) (mA f))/\PySem.Within mA (fs.map (·.1))
 |.own _=>∃o,h.get? a=some o
 |.xd fs=>∃mA,h.Ns1 a mA/\∀f,lF (fs.lookup f) (mA f)
 |.rng lo hi=>∃t u v,h.get? a=some {cls:=.type "range",data:=.fields #[.int lo t,.int hi u,.int 1 v]}
 |.frz o u=>h.get? a=some o/\cj H h a u
 |.tbl ps=>h.get? a=some {cls:=.none,data:=.fields ps}
 |.met f x=>h.get? a=some (PySem.W.methodObj (.ref f) (.ref x))
 |.ext φ=>φ h/\(∃o,h.get? a=some o)/\∀h1 h2:Heap,φ h1->(∀o,h1.get? a=some o->h2.get? a=some o)->φ h2
def bK (H:Hp)(h:Heap):Prop:=∀a o,H a=some o->cj P w H h a o
end
section
variable {P:Program}{w:World}{H H':Hp}{h h':Heap}{a:Addr}{o:HO}
theorem cj.lt (x:cj P w H h a o):a<h.objs.size:=by
 cases o with
 |lst xs=>obtain⟨_,_,_,_,e⟩:=x;exact xad e
 |tup xs=>obtain⟨_,_,_,p⟩:=x;exact p.lt
 |dK kvs=>obtain⟨_,_,_,_,o,_,_,e,_⟩:=x;exact xad e
 |dT kvs=>obtain⟨_,_,_,_,o,_,_,e,_⟩:=x;exact xad e
 |set S n=>obtain⟨o,_,_,_,e,_⟩:=x;exact xad e
 |ins C dx fs=>obtain⟨_,_,_,e,_⟩:=x;exact xad e
 |own y=>obtain⟨_,e⟩:=x;exact xad e
 |xd fs=>obtain⟨_,⟨_,_,_,e,_⟩,_⟩:=x;exact xad e
 |rng lo hi=>obtain⟨_,_,_,e⟩:=x;exact xad e
 |frz ob u=>obtain⟨e,_⟩:=x;exact xad e
 |tbl ps=>exact xad (show h.get? a=some _ from x)
 |met f y=>exact xad (show h.get? a=some _ from x)
 |ext φ=>obtain⟨_,⟨_,e⟩,_⟩:=x;exact xad e
theorem Paired.mapP:∀{l₁:List α} {l₂:List β},Paired F l₁ l₂->(∀a b,F a b->G a b)->Paired G l₁ l₂
 |_,_,.nil,_=>.nil
 |_,_,.cons r t,f=>.cons (f _ _ r) (Paired.mapP t f)
theorem cj.stay (x:cj P w H h a o)(k:∀b u,(b=a\/H b=some (.own a))->h.get? b=some u->h'.get? b=some u)
    (ho:∀b,H b=some (.own a)->H' b=some (.own a)) (ht:∀b xs,H b=some (.tup xs)->H' b=some (.tup xs)):cj P w H' h' a o:=by
  induction o with
  |lst xs=>obtain⟨z,its,n,r,e⟩:=x;exact⟨z,its,n,r,k _ _ (.inl rfl) e⟩
  |tup xs=>obtain⟨z,its,r,ob,e,c⟩:=x;exact⟨z,its,r,ob,k _ _ (.inl rfl) e,c⟩
  |dK kvs=>obtain⟨z,y,vs,r,ob,es,ep,e,c⟩:=x;exact⟨z,y,vs,r,ob,es,ep,k _ _ (.inl rfl) e,c⟩
  |dT kvs=>
    obtain⟨z,y,xs,r,ob,es,ep,e,c⟩:=x;exact⟨z,y,xs,Paired.mapP r fun p q z=>⟨z.1,ht _ _ z.2.1,z.2.2⟩,ob,es,ep,k _ _ (.inl rfl) e,c⟩
  |set S n=>obtain⟨ob,es,ep,t,e,c⟩:=x;exact⟨ob,es,ep,t,k _ _ (.inl rfl) e,c⟩
  |ins C dx fs=>
    obtain⟨d,z,ne,e,mA,⟨od,es,ep,e2,c⟩,r⟩:=x;exact⟨ho _ d,z,ne,k _ _ (.inl rfl) e,mA,⟨od,es,ep,k _ _ (.inr d) e2,c⟩,r⟩
  |own y=>obtain⟨ob,e⟩:=x;exact⟨ob,k _ _ (.inl rfl) e⟩
  |xd fs=>obtain⟨mA,⟨od,es,ep,e,c⟩,r⟩:=x;exact⟨mA,⟨od,es,ep,k _ _ (.inl rfl) e,c⟩,r⟩
  |rng lo hi=>obtain⟨t,u,v,e⟩:=x;exact⟨t,u,v,k _ _ (.inl rfl) e⟩
  |frz ob u ih=>obtain⟨e,q⟩:=x;exact⟨k _ _ (.inl rfl) e,ih q⟩
  |tbl ps=>
    have e:h.get? a=some {cls:=.none,data:=.fields ps}:=x;show h'.get? a=some {cls:=.none,data:=.fields ps};exact k a _ (.inl rfl) e
  |met f y=>
    have e:h.get? a=some (PySem.W.methodObj (.ref f) (.ref y)):=x;show h'.get? a=some (PySem.W.methodObj (.ref f) (.ref y));exact k a _ (.inl rfl) e
  |ext φ=>obtain⟨p,⟨o,e⟩,st⟩:=x;exact⟨st _ _ p fun o q=>k _ _ (.inl rfl) q,⟨o,k _ _ (.inl rfl) e⟩,st⟩
theorem bK.lt (x:bK P w H h)(e:H a=some o):a<h.objs.size:=(x a o e).lt
theorem bK.fresh (x:bK P w H h)(e:h.objs.size<=a):H a=none:=by
 cases q:H a with
 |none=>rfl
 |some u=>exact absurd (xab (x.lt q) e) (xbM _)
theorem bK.kept (x:bK P w H h)(k:∀b u,h.get? b=some u->h'.get? b=some u):bK P w H h':=fun a o e=>
 (x a o e).stay (fun b u _ q=>k b u q) (fun _ q=>q) fun _ _ q=>q
theorem bK.laid (x:bK P w H h)(k:∀b u,h.get? b=some u->h'.get? b=some u)(hp:h.objs.size<=a)(new:cj P w (upd H a o) h' a o):bK P w (upd H a o) h':=fun b u e=>by
 have hn:=x.fresh hp
 by_cases hb:b=a
 ·subst hb;rw[b_]at e;cases e;exact new
 ·rw[aW hb]at e;exact(x b u e).stay (fun c v _ q=>k c v q) (fun c q=>by rw[aW (j_ q hn)];exact q) fun c xs q=>by rw[aW (j_ q hn)];exact q
end
def Rd (H:Hp)(a:Addr)(u:HO):Prop:=H a=some u\/∃o,H a=some (.frz o u)
theorem Rd.ok (r:Rd H a u)(x:bK P w H h):cj P w H h a u:=by
 rcases r with r |⟨o,r⟩
 ·exact x a u r
 ·obtain⟨_,q⟩:=x a _ r;exact q
noncomputable def rQ:Option HO->Prop
 |some (.lst _)=>True
 |some (.dK _)=>True
 |some (.dT _)=>True
 |some (.set _ _)=>True
 |some (.ins _ _ _)=>True
 |some (.ext _)=>True
 |_=>False
section
variable {P:Program}{w:World}{H:Hp}{h h':Heap}{x e:Addr}{o':HO}
theorem bK.write (ok:bK P w H h)(mu:rQ (H x))(he:e=x\/H e=some (.own x))(k:∀b u,b≠e->h.get? b=some u->h'.get? b=some u)(heo:∃u,h'.get? e=some u)
  (new:cj P w (upd H x o') h' x o'):bK P w (upd H x o') h':=fun b u q=>by
 have nown:∀c y,H c=some (.own y)->c≠x:=fun c y r z=>by subst z;rw[r]at mu;exact mu
 have ntup:∀c xs,H c=some (.tup xs)->c≠x:=fun c xs r z=>by subst z;rw[r]at mu;exact mu
 by_cases hb:b=x
 ·subst hb;rw[b_]at q;cases q;exact new
 ·rw[aW hb]at q
  by_cases hbe:b=e
  ·have q':H b=some (.own x):=by
    rcases he with z |z
    ·exact absurd (hbe.trans z) hb
    ·rw[hbe];exact z
   rw[q]at q';cases q';obtain⟨v,hv⟩:=heo;exact⟨v,by rw[hbe];exact hv⟩
  ·refine(ok b u q).stay (fun c v hc r=>k c v ?_ r) (fun c r=>by rw[aW (nown c b r)];exact r) fun c xs r=>by rw[aW (ntup c xs r)];exact r
   rcases hc with rfl |hc
   ·exact hbe
   ·rintro rfl;rcases he with z |z
    ·exact nown c b hc z
    ·rw[hc]at z;cases z;exact hb rfl
end
structure Un (fs ex:List Addr)(H H':Hp)(h h':Heap):Prop where
 keep:∀b o,h.get? b=some o->H b=none->b∉fs->b∉ex->h'.get? b=some o
 slot:∀b o,h.get? b=some o->H b=none->b∈fs->b∉ex->∃sl,h'.get? b=some {o with slots:=sl}
 free:∀b o,h.get? b=some o->H b=none->b∉ex->H' b=none
 there:∀b o,h.get? b=some o->b∉ex->∃o',h'.get? b=some o'
 tups:∀b xs,H b=some (.tup xs)->H' b=some (.tup xs)
 frzs:∀b o u,H b=some (.frz o u)->H' b=some (.frz o u)
 tbls:∀b ps,H b=some (.tbl ps)->∃more,H' b=some (.tbl (ps ++ more))
section
variable {fs fs' ex ex':List Addr}{H H1 H2:Hp}{h h1 h2 h':Heap}{a x e:Addr}{o:HO}
theorem Un.any (u:Un fs ex H H1 h h1)(q:h.get? b=some ob)(n:H b=none)(hx:b∉ex):∃sl,h1.get? b=some {ob with slots:=sl}:=by
 by_cases hb:b∈fs
 ·exact u.slot b ob q n hb hx
 ·exact⟨ob.slots,u.keep b ob q n hb hx⟩
theorem Un.trans (a:Un fs ex H H1 h h1)(b:Un fs ex H1 H2 h1 h2):Un fs ex H H2 h h2 where
 keep:=fun c ob q n hc hx=>b.keep c ob (a.keep c ob q n hc hx) (a.free c ob q n hx) hc hx
 slot:=fun c ob q n hc hx=>by
  obtain⟨sl,e1⟩:=a.slot c ob q n hc hx;obtain⟨sl',e2⟩:=b.slot c _ e1 (a.free c ob q n hx) hc hx;exact⟨sl',e2⟩
 free:=fun c ob q n hx=>by
  obtain⟨o',e1⟩:=a.there c ob q hx;exact b.free c o' e1 (a.free c ob q n hx) hx
 there:=fun c ob q hx=>by
  obtain⟨o',e1⟩:=a.there c ob q hx;exact b.there c o' e1 hx
 tups:=fun c xs q=>b.tups c xs (a.tups c xs q)
 frzs:=fun c ob xs q=>b.frzs c ob xs (a.frzs c ob xs q)
 tbls:=fun c ps q=>by
  obtain⟨m1,e1⟩:=a.tbls c ps q;obtain⟨m2,e2⟩:=b.tbls c _ e1;exact⟨m1 ++ m2,by rw[e2,xdp]⟩
theorem Un.kept (k:∀b u,h.get? b=some u->h'.get? b=some u):Un fs ex H H h h':=
 ⟨fun b ob q _ _ _=>k b ob q,fun b ob q _ _ _=>⟨ob.slots,k b ob q⟩,fun _ _ _ n _=>n,fun b ob q _=>⟨ob,k b ob q⟩,fun _ _ q=>q,fun _ _ _ q=>q,fun _ ps q=>⟨#[],by rw[q];simp⟩⟩
theorem Un.refl:Un fs ex H H h h:=Un.kept fun _ _ q=>q
theorem Un.laid (k:∀b u,h.get? b=some u->h'.get? b=some u)(hp:h.objs.size<=a)(hn:H a=none):Un fs ex H (upd H a o) h h' where
 keep:=fun b u q _ _ _=>k b u q
 slot:=fun b u q _ _ _=>⟨u.slots,k b u q⟩
 free:=fun b u q n _=>by rw[aW (xap (xab (xad q) hp))];exact n
 there:=fun b u q _=>⟨u,k b u q⟩
 tups:=fun b xs q=>by rw[aW (j_ q hn)];exact q
 frzs:=fun b u xs q=>by rw[aW (j_ q hn)];exact q
 tbls:=fun b ps q=>⟨#[],by rw[aW (j_ q hn),q];simp⟩
theorem Un.write (mu:rQ (H x))(he:e=x\/H e=some (.own x))(k:∀b u,b≠e->h.get? b=some u->h'.get? b=some u)(heo:∃u,h'.get? e=some u):Un fs ex H (upd H x o) h h':=by
 have hx:∀b,H b=none->b≠x:=fun b n z=>by subst z;rw[n]at mu;exact mu
 have hb:∀b,H b=none->b≠e:=fun b n z=>by
  subst z;rcases he with r |r
  ·exact hx b n r
  ·rw[n]at r;cases r
 have hm:∀b u,H b=some u->¬ rQ (some u)->b≠x:=fun b u q nm z=>by subst z;rw[q]at mu;exact nm mu
 refine ⟨fun b u q n _ _=>k b u (hb b n) q,fun b u q n _ _=>⟨u.slots,k b u (hb b n) q⟩,fun b u q n _=>by rw[aW (hx b n)];exact n,fun b u q _=>?_,
  fun b xs q=>by rw[aW (hm b _ q fun z=>z)];exact q,fun b u xs q=>by rw[aW (hm b _ q fun z=>z)];exact q,fun b ps q=>⟨#[],by rw[aW (hm b _ q fun z=>z),q];simp⟩⟩
 by_cases hbe:b=e
 ·subst hbe;exact heo
 ·exact⟨u,k b u hbe q⟩
theorem Un.mono (u:Un fs ex H H1 h h1)(hs:∀b∈fs,b∈fs')(hx:∀b∈ex,b∈ex'):Un fs' ex' H H1 h h1:=
 ⟨fun b ob q n hb he=>u.keep b ob q n (fun z=>hb (hs b z)) fun z=>he (hx b z),fun _ _ q n _ he=>u.any q n fun z=>he (hx _ z),fun b ob q n he=>u.free b ob q n fun z=>he (hx b z),fun b ob q he=>u.there b ob q fun z=>he (hx b z),u.tups,u.frzs,u.tbls⟩
end
noncomputable def zm (h:Heap) (H:Hp):List Addr:=(List.range h.objs.size).filter fun a=>(H a).isSome
def dX (h:Heap)(H:Hp):Heap:=PySem.W.hideAll h (zm h H)
theorem Nj (h:Heap)(H:Hp):(dX h H).objs.size=h.objs.size:=PySem.W.hideAll_size _ _
theorem Ni (e:h.get? b=some o)(n:H b=none):(dX h H).get? b=some o:=
 PySem.W.hideAll_get _ e fun hm=>by
  have q:(H b).isSome=true:=(xa2.mp hm).2;rw[n]at q;simp at q
theorem QK (e:(dX h H).get? b=some o):h.get? b=some o/\H b=none:=by
  have e':h.get? b=some o:=PySem.W.of_hideAll (zm h H) e;refine⟨e',?_⟩
  cases q:H b with
  |none=>rfl
  |some x=>
    have hm:b∈zm h H:=xa2.mpr ⟨xda.mpr (xad e'),by simp[q]⟩;have z:(dX h H).get? b=none:=PySem.W.hideAll_none (zm h H) hm;rw[z]at e;cases e
structure Mod (K:Fgx)(mg:Mgx)(base:Heap):Prop where
 kin:K.In base
 glob:base.Ns mainGlobals mg
 blt:∃mb,base.Ns builtinsNs mb/\∀x:Str,x≠"__name__"->mb x=bootBuiltins x
 nolimit:base.NoLimit
structure Cx where
 prog:Program
 w:World
 K:Fgx
 mg:Mgx
 base:Heap
 A:Around
 N:List Str
 s₀:Shared
 H₀:Hp
 env:Env
 outer:List Env
 stack:List Env
 ex:List Addr
 fn:Str->Bool
 calm:Bool
 pn:Pnx
 xe:Value->Shared->Prop
def frs (l:List Env):List Addr:=l.filterMap (·.frame)
abbrev Cx.fs (X:Cx):List Addr:=frs X.outer
def pZ (sc:Scope)(x:Str):Prop:=sc.names.lookup x=some .local\/sc.names.lookup x=some .cell\/sc.names.lookup x=some .free
def Loc (sc:Scope)(x:Str):Prop:=sc.names.lookup x=some .local\/sc.names.lookup x=some .cell
def Look (env:Env)(h:Heap)(m:Mgx)(x:Str)(u:Value):Prop:=
 (env.kindOf x=some .local/\m x=some u)\/((env.kindOf x=some .cell\/env.kindOf x=some .free)/\∃c,env.cells.lookup x=some c/\h.IsCell c (some u))
structure Cx.Ok (X:Cx):Prop where
 mod:Mod X.K X.mg X.base
 kind:X.env.scope.kind=.function
 glob:X.env.globals=mainGlobals
 blt:X.env.builtins=builtinsNs
 above:X.s₀.heap.objs.size<=X.env.locals
 inj:∀x y c,X.env.cells.lookup x=some c->X.env.cells.lookup y=some c->x=y
 has:∀x,(X.env.kindOf x=some .cell\/X.env.kindOf x=some .free)->∃c,X.env.cells.lookup x=some c
 cab:∀x c,X.fn x=true->X.env.cells.lookup x=some c->X.s₀.heap.objs.size<=c
 hd:X.calm=true->X.A.handled=none
 frames:X.A.frames=some X.stack
 stk:X.stack=X.outer\/(X.stack=X.env::X.outer/\X.env.frame=some X.env.locals)
 exf:∀b∈X.ex,b≠X.env.locals/\∀x c,X.env.cells.lookup x=some c->c≠b
 bs:∀b o,X.base.get? b=some o->X.s₀.heap.get? b=some o/\X.H₀ b=none
 bsz:X.base.objs.size<=X.s₀.heap.objs.size
 noex:∀b o,X.base.get? b=some o->b∉X.ex
 exfs:∀b∈X.ex,b∉X.fs
 funs:X.s₀.heap.FunFrames X.base X.outer
 frf:∀b∈X.fs,X.H₀ b=none
structure Inv (X:Cx)(pins:Pnx)(σ:List (Option V))(H:Hp)(s:Shared):Prop where
 ok:X.Ok
 os:s.os=X.s₀.os
 bare:AllBare s.gens
 base:Un X.fs X.ex X.H₀ H X.s₀.heap s.heap
 loc:∃m,s.heap.Ns X.env.locals m/\∀(i:Nat) (x:Str) (v:V),X.N[i]? =some x->σ[i]? =some (some v)->pZ X.env.scope x->∃u,RelV v u/\Look X.env s.heap m x u
 cell:∀x c,X.env.cells.lookup x=some c->∃v,s.heap.IsCell c v
 free:H X.env.locals=none
 freeC:∀x c,X.env.cells.lookup x=some c->H c=none
 pin:∀p∈X.pn ++ pins,s.heap.get? p.1=some p.2/\H p.1=none/\p.1≠X.env.locals/\p.1∉X.fs/\∀v,p.2.data≠ .cell v
 hok:bK X.prog X.w H s.heap
 len:σ.length=X.N.length
section
variable {X:Cx}{pins:Pnx}{σ:List (Option V)}{H H':Hp}{s:Shared}{h':Heap}
theorem Cx.Ok.nofr (ok:X.Ok)(e:X.base.get? b=some o):b∉X.fs:=fun hb=>by
 have:=(ok.funs.mem hb).1;rw[e]at this;cases this
theorem Inv.bs (I:Inv X pins σ H s):∀b o,X.base.get? b=some o->s.heap.get? b=some o/\H b=none:=fun b o e=>
 ⟨I.base.keep b o (I.ok.bs b o e).1 (I.ok.bs b o e).2 (I.ok.nofr e) (I.ok.noex b o e),I.base.free b o (I.ok.bs b o e).1 (I.ok.bs b o e).2 (I.ok.noex b o e)⟩
theorem Inv.bk (I:Inv X pins σ H s):∀b o,X.base.get? b=some o->s.heap.get? b=some o:=fun b o e=>(I.bs b o e).1
theorem Inv.mod (I:Inv X pins σ H s):Mod X.K X.mg X.base:=I.ok.mod
theorem Inv.kIn (I:Inv X pins σ H s):X.K.In s.heap:=I.ok.mod.kin.keeps I.bk
theorem Inv.fr (I:Inv X pins σ H s):∃m,Fr X.base X.env.locals s.heap m:=
 let ⟨m,hn,_⟩:=I.loc
 ⟨m,hn,I.bk,xav I.ok.bsz I.ok.above⟩
theorem Inv.lt (I:Inv X pins σ H s):X.env.locals<s.heap.objs.size:=let ⟨_,hn,_⟩:=I.loc;hn.lt
theorem Inv.sz (I:Inv X pins σ H s):X.s₀.heap.objs.size<=s.heap.objs.size:=xav I.ok.above (xdq I.lt)
theorem Inv.nofs (I:Inv X pins σ H s)(h:s.heap.objs.size<=a):a∉X.fs:=fun hb=>by
 obtain⟨_,o,ho,_⟩:=I.ok.funs.mem hb;exact absurd (xab (xad ho) (xav I.sz h)) (xbM _)
theorem Inv.cne (I:Inv X pins σ H s):∀x c,X.env.cells.lookup x=some c->c≠X.env.locals:=fun x c e z=>by
 obtain⟨v,o,ho,hd⟩:=I.cell x c e;obtain⟨m,⟨o',es,ep,ho',hd',_⟩,_⟩:=I.loc;rw[z,ho']at ho;cases ho;rw[hd']at hd;cases hd
theorem Inv.funs (I:Inv X pins σ H s):s.heap.FunFrames X.base X.outer:=by
  have all:∀(l:List Env),(∀b∈frs l,b∈X.fs)->X.s₀.heap.FunFrames X.base l->s.heap.FunFrames X.base l:=by
    intro l
    induction l with
    |nil=>intro _ _;trivial
    |cons env r ih=>
      intro hs hl;obtain⟨hk,⟨L,o,hf,hn,ho,hd⟩,hr⟩:=hl;have hL:L∈X.fs:=hs L (by unfold frs;rw[xbo,hf];exact xaG);obtain⟨sl,e⟩:=I.base.slot L o ho (I.ok.frf L hL) hL fun z=>I.ok.exfs L z hL;exact⟨hk,⟨L,_,hf,hn,e,hd⟩,ih (fun b hb=>hs b (by unfold frs;rw[xbo,hf];exact xak _ hb)) hr⟩
  exact all X.outer (fun _ hb=>hb) I.ok.funs
theorem Inv.stack (I:Inv X pins σ H s):s.heap.FunFrames X.base X.stack:=by
 rcases I.ok.stk with e |⟨e,hf⟩
 ·rw[e];exact I.funs
 ·rw[e];obtain⟨m,hn,_⟩:=I.loc;refine .cons (by rw[I.ok.kind];decide) hf hn ?_ I.funs;exact Heap.get?_none_of_le (xav I.ok.bsz I.ok.above)
theorem Inv.stkSub (I:Inv X pins σ H s):∀b∈frs X.stack,b∈X.env.locals::X.fs:=fun b hb=>by
 rcases I.ok.stk with e |⟨e,hf⟩
 ·rw[e]at hb;exact xak _ hb
 ·rw[e]at hb;unfold frs at hb;rw[xbo,hf]at hb;exact hb
theorem Inv.stkFree (I:Inv X pins σ H s):∀b∈frs X.stack,H b=none:=fun b hb=>by
 rcases xah.mp (I.stkSub b hb) with e |hb
 ·rw[e];exact I.free
 ·obtain⟨_,o,ho,_⟩:=I.ok.funs.mem hb;exact I.base.free b o ho (I.ok.frf b hb) fun z=>I.ok.exfs b z hb
theorem Inv.step {g':Array GenState}{t':Nat}{d':Drawn}{ch:List Addr}(I:Inv X pins σ H s)
  (hch:∀b∈ch,(b∈X.ex\/X.s₀.heap.objs.size<=b)/\b≠X.env.locals/\(∀x c,X.env.cells.lookup x=some c->c≠b)/\∀p∈X.pn ++ pins,p.1≠b)
  (keep:∀b o,b≠X.env.locals->b∉X.fs->b∉ch->s.heap.get? b=some o->H b=none->h'.get? b=some o)
  (slot:∀b o,b≠X.env.locals->b∈X.fs->b∉ch->s.heap.get? b=some o->H b=none->∃sl,h'.get? b=some {o with slots:=sl}) (free:∀b o,b∉ch->s.heap.get? b=some o->H b=none->H' b=none)
  (there:∀b o,b∉ch->s.heap.get? b=some o->∃o',h'.get? b=some o')
  (tups:∀b xs,H b=some (.tup xs)->H' b=some (.tup xs)) (frzs:∀b o u,H b=some (.frz o u)->H' b=some (.frz o u)) (tbls:∀b ps,H b=some (.tbl ps)->∃more,H' b=some (.tbl (ps ++ more)))
  (ns:∀m,s.heap.Ns X.env.locals m->h'.Ns X.env.locals m) (hok:bK X.prog X.w H' h') (hg:AllBare g'):
  Inv X pins σ H' {s with heap:=h',gens:=g',drawn:=d',toks:=t'}:=by
 have neL:∀b o,X.s₀.heap.get? b=some o->b≠X.env.locals:=fun b o e=>xap (xab (xad e) I.ok.above);have neC:∀b o,X.s₀.heap.get? b=some o->b∉X.ex->b∉ch:=fun b o e hx hb=>by
  rcases(hch b hb).1 with z |z
  ·exact hx z
  ·exact absurd (xab (xad e) z) (xbM _)
 have cellK:∀x c,X.env.cells.lookup x=some c->∀v,s.heap.IsCell c v->h'.IsCell c v:=fun x c e v ⟨o,ho,hd⟩=>by
  have nch:c∉ch:=fun z=>(hch c z).2.2.1 x c e rfl
  by_cases hc:c∈X.fs
  ·obtain⟨sl,q⟩:=slot c o (I.cne x c e) hc nch ho (I.freeC x c e);exact⟨_,q,hd⟩
  ·exact⟨o,keep c o (I.cne x c e) hc nch ho (I.freeC x c e),hd⟩
 refine⟨I.ok,I.os,hg,⟨fun b o e n hb hx=>?_,fun b o e n hb hx=>?_,fun b o e n hx=>?_,fun b o e hx=>?_,fun b xs e=>tups b xs (I.base.tups b xs e),fun b o xs e=>frzs b o xs (I.base.frzs b o xs e),fun b ps e=>?_⟩,?_,fun x c e=>?_,?_,fun x c e=>?_,fun p hp=>?_,hok,I.len⟩
 ·exact keep b o (neL b o e) hb (neC b o e hx) (I.base.keep b o e n hb hx) (I.base.free b o e n hx)
 ·obtain⟨sl,e1⟩:=I.base.slot b o e n hb hx;obtain⟨sl',e2⟩:=slot b _ (neL b o e) hb (neC b o e hx) e1 (I.base.free b o e n hx);exact⟨sl',e2⟩
 ·obtain⟨o',e1⟩:=I.base.there b o e hx;exact free b o' (neC b o e hx) e1 (I.base.free b o e n hx)
 ·obtain⟨o',e1⟩:=I.base.there b o e hx;exact there b o' (neC b o e hx) e1
 ·obtain⟨m1,e1⟩:=I.base.tbls b ps e;obtain⟨m2,e2⟩:=tbls b _ e1;exact⟨m1 ++ m2,by rw[e2,xdp]⟩
 ·obtain⟨m,hn,hl⟩:=I.loc;refine⟨m,ns m hn,fun i x v e1 e2 e3=>?_⟩;obtain⟨u,r,l⟩:=hl i x v e1 e2 e3;refine⟨u,r,?_⟩;rcases l with l |⟨k,c,e,z⟩
  ·exact .inl l
  ·exact .inr ⟨k,c,e,cellK x c e _ z⟩
 ·obtain⟨v,z⟩:=I.cell x c e;exact⟨v,cellK x c e v z⟩
 ·obtain⟨m,⟨o,_,_,ho,_⟩,_⟩:=I.loc;exact free _ o (fun z=>(hch _ z).2.1 rfl) ho I.free
 ·obtain⟨v,o,ho,hd⟩:=I.cell x c e;exact free c o (fun z=>(hch c z).2.2.1 x c e rfl) ho (I.freeC x c e)
 ·obtain⟨e,n,ne,nf,d⟩:=I.pin p hp;have nch:p.1∉ch:=fun z=>(hch p.1 z).2.2.2 p hp rfl;exact⟨keep p.1 p.2 ne nf nch e n,free p.1 p.2 nch e n,ne,nf,d⟩
theorem Inv.un {t':Nat}(I:Inv X pins σ H s)(u:Un X.fs [] H H' s.heap h')(hok:bK X.prog X.w H' h'):Inv X pins σ H' {s with heap:=h',toks:=t'}:=by
 obtain ⟨m, ⟨o, es, ep, ho, r⟩, _⟩ := id I.loc;obtain ⟨sl, hL⟩ := u.any ho I.free (by simp);exact I.step (g' := s.gens) (d' := s.drawn) (ch := []) (fun _ z => nomatch z) (fun b o _ hb _ e n => u.keep b o e n hb (by simp)) (fun b o _ hb _ e n => u.slot b o e n hb (by simp)) (fun b o _ e n => u.free b o e n (by simp)) (fun b o _ e => u.there b o e (by simp)) u.tups u.frzs u.tbls (fun m' hm=>by
  obtain⟨o',es',ep',ho',r'⟩:=hm;rw[ho]at ho';cases ho';exact⟨_,es',ep',hL,r'⟩) hok I.bare
theorem Inv.call {g':Array GenState}{t':Nat}{d':Drawn}{ch:List Addr}(I:Inv X pins σ H s)(u:Un (frs X.stack) ch H H' s.heap h')(hok:bK X.prog X.w H' h')(hg:AllBare g')
  (hch:∀b∈ch,(b∈X.ex\/X.s₀.heap.objs.size<=b)/\b≠X.env.locals/\(∀x c,X.env.cells.lookup x=some c->c≠b)/\∀p∈X.pn ++ pins,p.1≠b):
  Inv X pins σ H' {s with heap:=h',gens:=g',drawn:=d',toks:=t'}:=by
 obtain ⟨m, ⟨o, es, ep, ho, r⟩, _⟩ := id I.loc;obtain ⟨sl, hL⟩ := u.any ho I.free fun z => (hch _ z).2.1 rfl;exact I.step (ch := ch) hch (fun b o hL hb hc e n => u.keep b o e n (fun z => (xah.mp (I.stkSub b z)).elim hL hb) hc) (fun b o _ _ hc e n => u.any e n hc) (fun b o hc e n => u.free b o e n hc) (fun b o hc e => u.there b o e hc) u.tups u.frzs u.tbls (fun m' hm=>by
  obtain⟨o',es',ep',ho',r'⟩:=hm;rw[ho]at ho';cases ho';exact⟨_,es',ep',hL,r'⟩) hok hg
theorem Inv.turned {t':Nat}{it:Addr}(I:Inv X pins σ H s)(k:∀b o,b≠it->s.heap.get? b=some o->h'.get? b=some o)(hn:H it=none)(hL:it≠X.env.locals)
  (h1:it∈X.ex\/X.s₀.heap.objs.size<=it) (h2:∀x c,X.env.cells.lookup x=some c->c≠it) (h3:∀p∈X.pn ++ pins,p.1≠it):Inv X pins σ H {s with heap:=h',toks:=t'}:=by
 have nit:∀b u,H b=some u->b≠it:=fun b u e z=>by rw[z,hn]at e;cases e
 refine I.step (g':=s.gens) (d':=s.drawn) (ch:=[it]) (fun b hb=>?_) (fun b o _ _ hc e _=>k b o (fun z=>hc (by simp[z])) e) (fun b o _ _ hc e _=>⟨o.slots,k b o (fun z=>hc (by simp[z])) e⟩) (fun _ _ _ _ n=>n)
  (fun b o hc e=>⟨o,k b o (fun z=>hc (by simp[z])) e⟩) (fun _ _ e=>e) (fun _ _ _ e=>e) (fun b ps e=>⟨#[],by rw[e];simp⟩) (fun m hm=>?_) (fun b u e=>?_) I.bare
 ·have e:b=it:=by simpa using hb
  subst e;exact⟨h1,hL,h2,h3⟩
 ·obtain⟨o,es,ep,ho,r⟩:=hm;exact⟨o,es,ep,k _ o (xbr hL) ho,r⟩
 ·refine(I.hok b u e).stay (fun c v hc q=>k c v ?_ q) (fun _ q=>q) fun _ _ q=>q;rcases hc with z |z
  ·rw[z];exact nit b u e
  ·exact nit c _ z
theorem Inv.tok (I:Inv X pins σ H s)(t:Nat):Inv X pins σ H {s with toks:=t}:=I.un (h':=s.heap) (t':=t) Un.refl I.hok
theorem Inv.kept (I:Inv X pins σ H s)(k:∀b u,s.heap.get? b=some u->h'.get? b=some u):Inv X pins σ H {s with heap:=h',toks:=t'}:=I.un (Un.kept k) (I.hok.kept k)
theorem Inv.laid (I:Inv X pins σ H s)(k:∀b u,s.heap.get? b=some u->h'.get? b=some u)(hp:s.heap.objs.size<=a)(new:cj X.prog X.w (upd H a o) h' a o):
  Inv X pins σ (upd H a o) {s with heap:=h',toks:=t'}:=I.un (Un.laid k hp (I.hok.fresh hp)) (I.hok.laid k hp new)
theorem Inv.write (I:Inv X pins σ H s)(mu:rQ (H x))(he:e=x\/H e=some (.own x))(k:∀b u,b≠e->s.heap.get? b=some u->h'.get? b=some u)(heo:∃u,h'.get? e=some u)
  (new:cj X.prog X.w (upd H x o) h' x o):Inv X pins σ (upd H x o) {s with heap:=h',toks:=t'}:=I.un (Un.write mu he k heo) (I.hok.write mu he k heo new)
theorem Inv.pins_of (I:Inv X pins σ H s)(h:∀p∈pins',s.heap.get? p.1=some p.2/\H p.1=none/\p.1≠X.env.locals/\p.1∉X.fs/\∀v,p.2.data≠ .cell v):Inv X pins' σ H s:=
 ⟨I.ok,I.os,I.bare,I.base,I.loc,I.cell,I.free,I.freeC,fun p hp=>(xaq.mp hp).elim (fun z=>I.pin p (xbU _ z)) (h p),I.hok,I.len⟩
theorem H_ {N:List Str}(hN:N.Nodup){i j:Nat}{x:Str}(a:N[i]? =some x)(b:N[j]? =some x):i=j:=by
 obtain⟨h1,e1⟩:=Z5.mp a;obtain⟨h2,e2⟩:=Z5.mp b;exact(List.getElem_inj hN).mp (e1.trans e2.symm)
theorem Xl {M:Model}{A:Around}{E:Value->Shared->Prop}{i:Nat}{x:Str}{v:V}{u:Value}{Q:Unit->Shared->Prop}(I:Inv X pins σ H s)(hN:X.N.Nodup)(hi:X.N[i]? =some x)(hx:Loc X.env.scope x)(r:RelV v u)
    (h:∀s',Inv X pins (σ.set i (some v)) H s'->(∃a,Heap.SameBut a s.heap s'.heap/\(a=X.env.locals\/X.env.cells.lookup x=some a))->Q () s') (hf:X.fn x=true\/X.env.scope.names.lookup x=some .local:=by first |exact .inl rfl |exact .inr rfl |assumption):wpAny M A (storeName X.env x u) Q E s:=by
  obtain⟨m,hn,hl⟩:=id I.loc;have hcls:(X.env.scope.kind==.class || (X.env.scope.kind==.module && X.env.locals !=X.env.globals))=false:=by rw[I.ok.kind];rfl
  have hiσ:i<σ.length:=by rw[I.len];exact(Z5.mp hi).1
  have cne:=I.cne;have tracked:∀{a:Addr} {h':Heap},(∃o,s.heap.get? a=some o/\H a=none)->Heap.SameBut a s.heap h'->bK X.prog X.w H h':=fun {a h'} ha hs b ob e=>by
    obtain⟨_,_,hfree⟩:=ha;refine(I.hok b ob e).stay (fun c w' hc q=>(hs.2 c ?_).trans q) (fun _ q=>q) fun _ _ q=>q;rintro rfl;rcases hc with rfl |hc
    · rw[hfree]at e;cases e
    · rw[hfree]at hc;cases hc
  rcases hx with hk |hk
  · refine wpAny_storeName_local hk hn (fun h' hn' hs=>?_) hcls;obtain⟨oL,_,_,hoL,_⟩:=id hn;refine h _ ⟨I.ok,I.os,I.bare,⟨fun b o e n hb hx=>?_,fun b o e n hb hx=>?_,I.base.free,fun b o e hx=>?_,I.base.tups,I.base.frzs,I.base.tbls⟩,⟨_,hn',fun j y v' e1 e2 e3=>?_⟩,fun y c e=>?_,I.free,I.freeC,fun p hp=>?_,tracked ⟨oL,hoL,I.free⟩ hs,by simpa using I.len⟩ ⟨_,hs,.inl rfl⟩
    · exact(hs.2 b (xap (xab (xad e) I.ok.above))).trans (I.base.keep b o e n hb hx)
    · obtain⟨sl,e1⟩:=I.base.slot b o e n hb hx;exact⟨sl,(hs.2 b (xap (xab (xad e) I.ok.above))).trans e1⟩
    · obtain⟨o',e1⟩:=I.base.there b o e hx;exact⟨o',(hs.2 b (xap (xab (xad e) I.ok.above))).trans e1⟩
    · by_cases hj:j=i
      · subst hj;rw[hi]at e1;cases e1;rw[xbR hiσ]at e2;cases e2;exact⟨u,r,.inl ⟨hk,by simp⟩⟩
      · rw[xbV (xbr hj)]at e2;obtain⟨u',r',q⟩:=hl j y v' e1 e2 e3;refine⟨u',r',?_⟩;rcases q with⟨k,e⟩ |⟨k,c,e,z⟩
        · refine .inl ⟨k,?_⟩;have:y≠x:=fun e=>hj (H_ hN e1 (e ▸ hi))
          simp[this,e]
        · exact .inr ⟨k,c,e,z.sameBut hs (cne y c e)⟩
    · obtain⟨w',z⟩:=I.cell y c e;exact⟨w',z.sameBut hs (cne y c e)⟩
    · obtain⟨e,n,ne,nf,d⟩:=I.pin p hp;exact⟨(hs.2 p.1 ne).trans e,n,ne,nf,d⟩
  · have hfn:X.fn x=true:=by
      rcases hf with z |z
      · exact z
      · rw[z]at hk;cases hk
    obtain⟨c,hc⟩:=I.ok.has x (.inl hk);obtain⟨w',z⟩:=I.cell x c hc;refine wpAny_storeName_cell I.ok.kind hk hc z (fun h' hc' hs=>?_);obtain⟨oc,hoc,hocd⟩:=id z;refine h {s with heap:=h'} ⟨I.ok,I.os,I.bare,⟨fun b o e n hb hx=>?_,fun b o e n hb hx=>?_,I.base.free,fun b o e hx=>?_,I.base.tups,I.base.frzs,I.base.tbls⟩,⟨m,hn.sameBut hs (xbr (cne x c hc)),fun j y v' e1 e2 e3=>?_⟩,fun y c' e=>?_,I.free,I.freeC,fun p hp=>?_,tracked ⟨oc,hoc,I.freeC x c hc⟩ hs,by simpa using I.len⟩ ⟨c,hs,.inr hc⟩
    · exact(hs.2 b (xap (xab (xad e) (I.ok.cab x c hfn hc)))).trans (I.base.keep b o e n hb hx)
    · obtain⟨sl,e1⟩:=I.base.slot b o e n hb hx;exact⟨sl,(hs.2 b (xap (xab (xad e) (I.ok.cab x c hfn hc)))).trans e1⟩
    · obtain⟨o',e1⟩:=I.base.there b o e hx;exact⟨o',(hs.2 b (xap (xab (xad e) (I.ok.cab x c hfn hc)))).trans e1⟩
    · by_cases hj:j=i
      · subst hj;rw[hi]at e1;cases e1;rw[xbR hiσ]at e2;cases e2;exact⟨u,r,.inr ⟨.inl hk,c,hc,hc'⟩⟩
      · rw[xbV (xbr hj)]at e2;obtain⟨u',r',q⟩:=hl j y v' e1 e2 e3;refine⟨u',r',?_⟩;rcases q with q |⟨k,c',e,z'⟩
        · exact .inl q
        · refine .inr ⟨k,c',e,z'.sameBut hs ?_⟩;rintro rfl;exact hj (H_ hN e1 (I.ok.inj _ _ _ e hc ▸ hi))
    · by_cases hcc:c'=c
      · subst hcc;exact⟨_,hc'⟩
      · obtain⟨w2,z2⟩:=I.cell y c' e;exact⟨w2,z2.sameBut hs hcc⟩
    · obtain⟨e,n,ne,nf,d⟩:=I.pin p hp;refine⟨(hs.2 p.1 ?_).trans e,n,ne,nf,d⟩;intro q;rw[q,hoc]at e;have q':oc=p.2:=xan e;exact d w' (by rw[<-q'];exact hocd)
theorem zc (I:Inv X pins σ H s)(hN:X.N.Nodup)(hi:X.N[i]? =some x)(hx:Loc X.env.scope x)(r:RelV v u)
  (h:∀s',Inv X pins (σ.set i (some v)) H s'->Q () s') (hf:X.fn x=true\/X.env.scope.names.lookup x=some .local:=by first |exact .inl rfl |exact .inr rfl |assumption):wpAny M A (storeName X.env x u) Q E s:=
 Xl I hN hi hx r (fun s' I' _=>h s' I') hf
theorem Inv.call' (I:Inv X pins σ H s)(ho:s'.os=s.os)(u:Un (frs X.stack) ch H H' s.heap s'.heap)(hok:bK X.prog X.w H' s'.heap)(hg:AllBare s'.gens)
  (hch:∀b∈ch,(b∈X.ex\/X.s₀.heap.objs.size<=b)/\b≠X.env.locals/\(∀x c,X.env.cells.lookup x=some c->c≠b)/\∀p∈X.pn ++ pins,p.1≠b):Inv X pins σ H' s':=by
 obtain⟨h',g',d',t',o'⟩:=s';have e:o'=s.os:=ho;subst e;exact I.call (g':=g') (t':=t') (d':=d') u hok hg hch
end
abbrev XK:=Value->Option Addr->Hp->Prop
abbrev St:=List (Option V)
abbrev VK:=V->Hp->Prop
abbrev TE:=St->Hp->VK->Prop
abbrev TT:=St->Hp->(Bool->Hp->Prop)->Prop
abbrev TA:=St->Hp->(List V->Hp->Prop)->Prop
structure Ends where
 nx:St->Hp->Prop
 rt:VK
 bk:St->Hp->Prop:=fun _ _=>False
 ct:St->Hp->Prop:=fun _ _=>False
abbrev TS:=Ends->St->Hp->Prop
def EP (X:Cx)(pins:Pnx)(σ:St)(Q:VK)(u:Value)(s':Shared):Prop:=∃v H',Inv X pins σ H' s'/\RelV v u/\Q v H'
def TP (X:Cx)(pins:Pnx)(σ:St)(Q:Bool->Hp->Prop)(b:Bool)(s':Shared):Prop:=∃H',Inv X pins σ H' s'/\Q b H'
def AP (X:Cx)(pins:Pnx)(σ:St)(Q:List V->Hp->Prop)(us:List Value)(s':Shared):Prop:=∃vs H',Inv X pins σ H' s'/\Vals vs us/\Q vs H'
def SP (X:Cx)(pins:Pnx)(D:Ends)(f:Flow)(s':Shared):Prop:=
 match f with
 |.next=>∃σ' H',Inv X pins σ' H' s'/\D.nx σ' H'
 |.brk=>∃σ' H',Inv X pins σ' H' s'/\D.bk σ' H'
 |.cont=>∃σ' H',Inv X pins σ' H' s'/\D.ct σ' H'
 |.ret u=>∃v σ' H',Inv X pins σ' H' s'/\RelV v u/\D.rt v H'
def PE (X:Cx)(e:Expr)(t:TE):Prop:=
 ∀(pins:Pnx) (s:Shared) (σ:St) (H:Hp) (Q:VK),Inv X pins σ H s->t σ H Q->wpAny (model X.prog X.w) X.A (eval e X.env) (EP X pins σ Q) X.xe s
def PT (X:Cx)(e:Expr)(t:TT):Prop:=
 ∀(pins:Pnx) (s:Shared) (σ:St) (H:Hp) (Q:Bool->Hp->Prop),Inv X pins σ H s->t σ H Q->wpAny (model X.prog X.w) X.A (isTrue e X.env (eval e X.env)) (TP X pins σ Q) X.xe s
def PW (X:Cx)(e:Expr)(t:TT):Prop:=
 ∀(whole:Sem Value) (pins:Pnx) (s:Shared) (σ:St) (H:Hp) (Q:Bool->Hp->Prop),Inv X pins σ H s->t σ H Q->wpAny (model X.prog X.w) X.A (isTrue e X.env whole) (TP X pins σ Q) X.xe s
theorem PW.pt (h:PW X e t):PT X e t:=h _
def PA (X:Cx)(es:List Expr)(t:TA):Prop:=
 ∀(pos:Pos) (pins:Pnx) (s:Shared) (σ:St) (H:Hp) (Q:List V->Hp->Prop),Inv X pins σ H s->t σ H Q->wpAny (model X.prog X.w) X.A (spliced (backTo pos (starEach es X.env))) (AP X pins σ Q) X.xe s
def PS (X:Cx)(st:Stmt)(t:TS):Prop:=
 ∀(pins:Pnx) (s:Shared) (σ:St) (H:Hp) (D:Ends),Inv X pins σ H s->t D σ H->wpAny (model X.prog X.w) X.A (exec st X.env) (SP X pins D) X.xe s
def fP (X:Cx)(st:List Stmt)(t:TS):Prop:=
 ∀(pins:Pnx) (s:Shared) (σ:St) (H:Hp) (D:Ends),Inv X pins σ H s->t D σ H->wpAny (model X.prog X.w) X.A (execs st X.env) (SP X pins D) X.xe s
theorem aU (h:wpAny M A t Q E s)(hQ:∀a s,Q a s->Q' a s):wpAny M A t Q' E s:=xbh h hQ fun _ _ x=>x
section
variable {X:Cx}
def Ef (i:Nat):TE:=fun σ H Q=>∃v,σ[i]? =some (some v)/\Q v H
def tC (v:V):TE:=fun _ H Q=>Q v H
theorem Ce (hN:X.N[i]? =some x)(hv:pZ X.env.scope x)(hd:(x==("__debug__":Str))=false:=by decide)(hcd:(x==("__classdict__":Str))=false:=by decide):PE X (.Name x pos) (Ef i):=by
 intro pins s σ H Q I h;obtain⟨v,e,h⟩:=h;obtain⟨m,hn,hl⟩:=I.loc;obtain⟨u,r,l⟩:=hl i x v hN e hv;have fin:EP X pins σ Q u s:=⟨v,H,I,r,h⟩;rcases l with⟨hk,hm⟩ |⟨hk,c,hc,hcell⟩
 ·exact wpAny_Name (wpAny_loadName_local I.ok.kind hk hn hm fin) hd
 ·rcases hk with hk |hk
  ·exact wpAny_Name (wpAny_loadName_cell I.ok.kind hk hc hcell fin) hd
  ·exact wpAny_Name (wpAny_loadName_free I.ok.kind hk hc hcell fin hcd) hd
theorem Rx {i j pos}:PE X (.Constant (.int i) j pos) (tC (.int i)):=fun _ _ _ H _ I h=>wpAny_Constant_int ⟨.int i,H,I.tok _,⟨_,rfl⟩,h⟩
theorem Rq {b j pos}:PE X (.Constant (.bool b) j pos) (tC (.bl b)):=fun _ _ _ H _ I h=>Constant_bool ⟨.bl b,H,I,rfl,h⟩
theorem RG {x j pos}:PE X (.Constant (.str x) j pos) (tC (.str x)):=fun _ _ _ H _ I h=>Calls.Constant_str ⟨.str x,H,I.tok _,⟨_,rfl⟩,h⟩
def Gl (X:Cx)(x:Str):Prop:=X.env.kindOf x=some .globalImplicit
theorem O2 (I:Inv X pins σ H s)(hg:Gl X x)(hm:X.mg x=some u)(h:Q u s)
  (hd:(x==("__debug__":Str))=false:=by decide):wpAny (model X.prog X.w) X.A (eval (.Name x pos) X.env) Q E s:=
 xcz I.ok.kind hg (Calls.loadGlobal_global (by rw[I.ok.glob];exact I.mod.glob.keeps I.bk) hm h) hd
theorem vf (I:Inv X pins σ H s)(hg:Gl X x)(hm:X.mg x=none)(hv:bootBuiltins x=some u)(h:Q u s)
  (hn:x≠"__name__":=by decide) (hd:(x==("__debug__":Str))=false:=by decide):wpAny (model X.prog X.w) X.A (eval (.Name x pos) X.env) Q E s:=by
 obtain⟨mb,h1,h2⟩:=I.mod.blt;exact xcz I.ok.kind hg (Calls.loadGlobal_builtin (by rw[I.ok.glob];exact I.mod.glob.keeps I.bk) hm (by rw[I.ok.blt];exact h1.keeps I.bk) ((h2 x hn).trans hv) h) hd
theorem Rr (hg:Gl X x)(hm:X.mg x=none)(hv:bootBuiltins x=some u)(r:RelV v u)(hn:x≠"__name__":=by decide)(hd:(x==("__debug__":Str))=false:=by decide):PE X (.Name x pos) (tC v):=
 fun _ _ _ H _ I h=>vf I hg hm hv ⟨v,H,I,r,h⟩ hn hd
variable {a b:Expr}{ta tb:TE}{pos:Pos}
variable {tA tB':TT}{rest:List Expr}
noncomputable def DN (t u:TT):TT:=fun σ H Q=>t σ H fun c H1=>if c=true then u σ H1 Q else Q false H1
noncomputable def XF (t u:TT):TT:=fun σ H Q=>t σ H fun c H1=>if c=true then Q true H1 else u σ H1 Q
def DY (t:TT):TT:=fun σ H Q=>t σ H fun c H1=>Q (!c) H1
theorem Td (ha:PT X a tA):PW X (.BoolOp .And [a] pos) tA:=by
 intro wh pins s σ H Q I h;refine isTrue_and (aU (ha pins s σ H Q I h) fun c s1 e=>?_)
 cases c with
 |true=>exact isTrue_and_nil e
 |false=>exact e
theorem Tf (ha:PT X a tA):PW X (.BoolOp .Or [a] pos) tA:=by
 intro wh pins s σ H Q I h;refine isTrue_or (aU (ha pins s σ H Q I h) fun c s1 e=>?_)
 cases c with
 |false=>exact isTrue_or_nil e
 |true=>exact e
theorem Tc (ha:PT X a tA)(hb:PW X (.BoolOp .And (b::rest) pos) tB'):PW X (.BoolOp .And (a::b::rest) pos) (DN tA tB'):=by
 intro wh pins s σ H Q I h;refine isTrue_and (aU (ha pins s σ H _ I h) fun c s1 ⟨H1,I1,q1⟩=>?_)
 cases c with
 |true=>exact hb wh pins s1 σ H1 Q I1 q1
 |false=>exact⟨H1,I1,q1⟩
theorem Te (ha:PT X a tA)(hb:PW X (.BoolOp .Or (b::rest) pos) tB'):PW X (.BoolOp .Or (a::b::rest) pos) (XF tA tB'):=by
 intro wh pins s σ H Q I h;refine isTrue_or (aU (ha pins s σ H _ I h) fun c s1 ⟨H1,I1,q1⟩=>?_)
 cases c with
 |true=>exact⟨H1,I1,q1⟩
 |false=>exact hb wh pins s1 σ H1 Q I1 q1
theorem Sq (ha:PT X a tA):PT X (.UnaryOp .Not a pos) (DY tA):=by
 intro pins s σ H Q I h;exact isTrue_not (ha pins s σ H (fun c H1=>Q (!c) H1) I h)
noncomputable def Xo (ta tb:TE):TE:=fun σ H Q=>ta σ H fun x H1=>∃c,x=.bl c/\if c=true then tb σ H1 Q else Q (.bl false) H1
theorem RD {op}(h:PE X a t):PE X (.BoolOp op [a] pos) t:=fun pins s σ H Q I hw=>BoolOp_one (h pins s σ H Q I hw)
theorem Rp (ha:PE X a ta)(hb:PE X (.BoolOp .And (b::rest) pos) tb):PE X (.BoolOp .And (a::b::rest) pos) (Xo ta tb):=by
 intro pins s σ H Q I h;refine BoolOp_and (aU (ha pins s σ H _ I h) fun v s1 ⟨x,H1,I1,r1,q1⟩=>?_);obtain⟨c,rfl,q1⟩:=q1;cases r1;refine xbS ?_
 cases c with
 |true=>exact hb pins s1 σ H1 Q I1 q1
 |false=>exact⟨.bl false,H1,I1,rfl,q1⟩
noncomputable def Xz (t:TT) (ta tb:TE):TE:=fun σ H Q=>t σ H fun c H1=>if c=true then ta σ H1 Q else tb σ H1 Q
theorem Rw (hc:PT X c tA)(ha:PE X a ta)(hb:PE X b tb):PE X (.IfExp c a b pos) (Xz tA ta tb):=by
 intro pins s σ H Q I h;refine wpAny_IfExp (aU (hc pins s σ H _ I h) fun d s1 ⟨H1,I1,q1⟩=>?_)
 cases d with
 |true=>exact ha pins s1 σ H1 Q I1 q1
 |false=>exact hb pins s1 σ H1 Q I1 q1
end
def bw (K:Fgx)(H:Hp)(a:Addr)(xs:List V):Prop:=
 Rd H a (.lst xs)\/
  ∃(o:Obj) (its:Array Value) (n:Nat),K.lookup a=some o/\o.cls=.type "list"/\o.dict=none/\o.data=.seq its n/\its.size<=sizeLine/\Vals xs its.toList
def dJ (K:Fgx)(H:Hp)(a:Addr)(xs:List V):Prop:=
 Rd H a (.tup xs)\/
  ∃(o:Obj) (its:Array Value) (n:Nat),K.lookup a=some o/\o.cls=.type "tuple"/\o.data=.seq its n/\its.size<=sizeLine/\Vals xs its.toList
noncomputable def zK:Value->Option V
 |.none=>some .non
 |.bool b=>some (.bl b)
 |.int i _=>some (.int i)
 |.str x _=>some (.str x)
 |.bytes b _=>some (.byt b)
 |.float b _=>some (.flt b)
 |.ref a=>some (.ref a)
 |.type n=>some (.ty n)
 |_=>none
theorem RelV.abs (r:RelV x u):zK u=some x:=by
 cases x with
 |non=>cases r;rfl
 |bl _=>cases r;rfl
 |int _=>obtain⟨t,rfl⟩:=r;rfl
 |str _=>obtain⟨t,rfl⟩:=r;rfl
 |byt _=>obtain⟨t,rfl⟩:=r;rfl
 |flt _=>obtain⟨t,rfl⟩:=r;rfl
 |ref _=>cases r;rfl
 |ty _=>cases r;rfl
theorem RelV.inj (r:RelV x u)(q:RelV y u):x=y:=xan (r.abs.symm.trans q.abs)
theorem Vals.inj:∀{xs ys:List V} {us:List Value},Vals xs us->Vals ys us->xs=ys
 |_,_,_,.nil,.nil=>rfl
 |_,_,_,.cons r t,.cons r' t'=>by rw[r.inj r',Vals.inj t t']
section
variable {X:Cx}{pins:Pnx}{σ:St}{H:Hp}{s:Shared}{a:Addr}{xs ys:List V}
theorem Inv.list (I:Inv X pins σ H s)(h:bw X.K H a xs):∃its:List Value,Vals xs its/\PlainL s.heap a its.toArray/\xs.length<=sizeLine:=by
 rcases h with h |⟨o,its,n,hk,hc,hd,hs,hz,r⟩
 ·obtain⟨z,its,n,r,e⟩:=h.ok I.hok;exact⟨its,r,⟨_,n,e,rfl,rfl,rfl⟩,z⟩
 ·refine⟨its.toList,r,⟨o,n,I.kIn a o hk,hc,hd,by simpa using hs⟩,?_⟩;have e:=r.length;simp only[xaz]at e;omega
theorem Inv.tuple (I:Inv X pins σ H s)(h:dJ X.K H a xs):∃its:List Value,Vals xs its/\IsTup s.heap a its.toArray/\xs.length<=sizeLine:=by
 rcases h with h |⟨o,its,n,hk,hc,hs,hz,r⟩
 ·obtain⟨z,its,r,p⟩:=h.ok I.hok;exact⟨its,r,p,z⟩
 ·refine⟨its.toList,r,⟨o,I.kIn a o hk,hc,n,by simpa using hs⟩,?_⟩;have e:=r.length;simp only[xaz]at e;omega
theorem Inv.list_inj (I:Inv X pins σ H s)(h:bw X.K H a xs)(h':bw X.K H a ys):xs=ys:=by
 obtain⟨its,r,⟨o,n,e,_,_,d⟩,_⟩:=I.list h;obtain⟨its',r',⟨o',n',e',_,_,d'⟩,_⟩:=I.list h';rw[e]at e';cases e';rw[d]at d'
 injection d' with d1 _
 have:its=its':=by simpa using congrArg Array.toList d1
 subst this;exact r.inj r'
theorem Inv.tuple_inj (I:Inv X pins σ H s)(h:dJ X.K H a xs)(h':dJ X.K H a ys):xs=ys:=by
 obtain⟨its,r,⟨o,e,_,n,d⟩,_⟩:=I.tuple h;obtain⟨its',r',⟨o',e',_,n',d'⟩,_⟩:=I.tuple h';rw[e]at e';cases e';rw[d]at d'
 injection d' with d1 _
 have:its=its':=by simpa using congrArg Array.toList d1
 subst this;exact r.inj r'
end
abbrev Cx.wish (X:Cx)(E:Value->Shared->Prop):Cx:={X with xe:=E}
abbrev Cx.nox (X:Cx):Cx:=X.wish fun _ _=>False
theorem Cx.Ok.wish {X:Cx}(ok:X.Ok)(E:Value->Shared->Prop):(X.wish E).Ok:=
 ⟨ok.mod,ok.kind,ok.glob,ok.blt,ok.above,ok.inj,ok.has,ok.cab,ok.hd,ok.frames,ok.stk,ok.exf,ok.bs,ok.bsz,ok.noex,ok.exfs,ok.funs,ok.frf⟩
theorem Cx.Ok.unwish {X:Cx}{E:Value->Shared->Prop}(ok:(X.wish E).Ok):X.Ok:=
 ⟨ok.mod,ok.kind,ok.glob,ok.blt,ok.above,ok.inj,ok.has,ok.cab,ok.hd,ok.frames,ok.stk,ok.exf,ok.bs,ok.bsz,ok.noex,ok.exfs,ok.funs,ok.frf⟩
section
variable {X:Cx}{pins:Pnx}{σ:St}{H:Hp}{s:Shared}{E:Value->Shared->Prop}
theorem Inv.wish (I:Inv X pins σ H s)(E:Value->Shared->Prop):Inv (X.wish E) pins σ H s:=⟨I.ok.wish E,I.os,I.bare,I.base,I.loc,I.cell,I.free,I.freeC,I.pin,I.hok,I.len⟩
theorem Inv.unwish (I:Inv (X.wish E) pins σ H s):Inv X pins σ H s:=⟨I.ok.unwish,I.os,I.bare,I.base,I.loc,I.cell,I.free,I.freeC,I.pin,I.hok,I.len⟩
theorem SP.unwish (h:SP (X.wish E) pins D f s'):SP X pins D f s':=by
 cases f with
 |next=>obtain⟨σ',H',I,q⟩:=h;exact⟨σ',H',I.unwish,q⟩
 |brk=>obtain⟨σ',H',I,q⟩:=h;exact⟨σ',H',I.unwish,q⟩
 |cont=>obtain⟨σ',H',I,q⟩:=h;exact⟨σ',H',I.unwish,q⟩
 |ret u=>obtain⟨v,σ',H',I,r,q⟩:=h;exact⟨v,σ',H',I.unwish,r,q⟩
theorem fP.nox {st:List Stmt}{t:TS}(h:fP X.nox st t):fP X st t:=fun pins s σ H D I hw=>
 xbh (h pins s σ H D (I.wish _) hw) (fun _ _ q=>q.unwish) fun _ _ z=>False.elim z
end
section
variable {X:Cx}{st:Stmt}{rest:List Stmt}{t u:TS}{e:Expr}{te:TE}{pos:Pos}
def XC:TS:=fun D σ H=>D.nx σ H
def Ea (t u:TS):TS:=fun D σ H=>t {D with nx:=u D} σ H
theorem Sd:fP X [] XC:=fun _ _ σ H _ I h=>wpAny_execs_nil ⟨σ,H,I,h⟩
theorem R_ (h1:PS X st t)(h2:fP X rest u):fP X (st::rest) (Ea t u):=by
  intro pins s σ H D I h;refine wpAny_execs_cons (aU (h1 pins s σ H {D with nx:=u D} I h) fun f s1 q=>?_)
  cases f with
  |next=>
    obtain⟨σ',H',I',q⟩:=q;exact h2 pins s1 σ' H' D I' q
  |ret v=>exact q
  |brk=>exact q
  |cont=>exact q
theorem Inv.quiet (I:Inv X pins σ H s):interactive X.env=false:=by simp[interactive,I.ok.kind]
def Xy (te:TE):TS:=fun D σ H=>te σ H fun _ H1=>D.nx σ H1
theorem Ip (he:PE X e te)(hs:swapsWith e none pos.line X.env=pure false:=by rfl):PS X (.Expr e pos) (Xy te):=by
 intro pins s σ H D I h;exact wpAny_Expr_any (aU (he pins s σ H _ I h) fun v s1 ⟨x,H1,I1,r1,q1⟩=>⟨σ,H1,I1,q1⟩) I.quiet hs
def D_ (te:TE):TS:=fun D σ H=>te σ H D.rt
theorem R8 (he:PE X e te):PS X (.Return (some e) pos) (D_ te):=by
 intro pins s σ H D I h;exact wpAny_Return_some (aU (he pins s σ H _ I h) fun v s1 ⟨x,H1,I1,r1,q1⟩=>⟨x,σ,H1,I1,r1,q1⟩)
noncomputable def DR (c:TT) (t u:TS):TS:=fun D σ H=>c σ H fun b H1=>if b=true then t D σ H1 else u D σ H1
theorem R7 (hc:PT X c tc)(ha:fP X a t)(hb:fP X b u):PS X (.If c a b pos) (DR tc t u):=by
 intro pins s σ H D I h;refine wpAny_If (aU (hc pins s σ H _ I h) fun d s1 ⟨H1,I1,q1⟩=>?_)
 cases d with
 |true=>exact ha pins s1 σ H1 D I1 q1
 |false=>exact hb pins s1 σ H1 D I1 q1
end
abbrev TG:=V->St->Hp->(St->Hp->Prop)->Prop
abbrev rW:=List V->St->Hp->(St->Hp->Prop)->Prop
def PG (X:Cx)(target:Expr)(t:TG):Prop:=
 ∀(pins:Pnx) (s:Shared) (σ:St) (H:Hp) (v:V) (u:Value) (Q:St->Hp->Prop),Inv X pins σ H s->RelV v u->t v σ H Q->
  wpAny (model X.prog X.w) X.A (assign target X.env u) (fun _ s'=>∃σ' H',Inv X pins σ' H' s'/\Q σ' H') X.xe s
def rR (X:Cx)(ts:List Expr)(t:rW):Prop:=
 ∀(pins:Pnx) (s:Shared) (σ:St) (H:Hp) (vs:List V) (us:List Value) (Q:St->Hp->Prop),Inv X pins σ H s->Vals vs us->t vs σ H Q->
  wpAny (model X.prog X.w) X.A (assignInOrder ((assignEach ts X.env).map (·.2)) us) (fun _ s'=>∃σ' H',Inv X pins σ' H' s'/\Q σ' H') X.xe s
section
variable {X:Cx}{pos:Pos}
def xH (i:Nat):TG:=fun v σ H Q=>Q (σ.set i (some v)) H
theorem Cg (hN:X.N.Nodup)(hi:X.N[i]? =some x)(hx:Loc X.env.scope x)(hf:X.fn x=true\/X.env.scope.names.lookup x=some .local:=by first |exact .inl rfl |exact .inr rfl |assumption):PG X (.Name x pos) (xH i):=by
 intro pins s σ H v u Q I r h;exact xcD (zc I hN hi hx r (fun s' I'=>⟨_,H,I',h⟩) hf)
def A_:rW:=fun vs σ H Q=>vs=[]/\Q σ H
noncomputable def M7 (t:TG) (u:rW):rW:=fun vs σ H Q=>∃v r,vs=v::r/\t v σ H fun σ' H'=>u r σ' H' Q
theorem RM:rR X [] A_:=by
 intro pins s σ H vs us Q I r h;obtain⟨e,h⟩:=h;subst e;cases r;exact assignInOrder_nil ⟨σ,H,I,h⟩
theorem RL (h1:PG X e t)(h2:rR X es u)
    (hs:(assignEach (e::es) X.env).map (·.2)=assign e X.env::(assignEach es X.env).map (·.2):=by rfl):rR X (e::es) (M7 t u):=by
  intro pins s σ H vs us Q I r h;obtain⟨v,vr,e1,h⟩:=h;subst e1
  cases r with
  |cons r rr=>
    rw[hs];refine assignInOrder_cons (aU (h1 pins s σ H _ _ _ I r h) fun _ s1 ⟨σ1,H1,I1,q1⟩=>?_);exact h2 pins s1 σ1 H1 _ _ Q I1 rr q1
noncomputable def Ba (K:Fgx) (n:Nat) (t:rW):TG:=fun v σ H Q=>∃a xs,v=.ref a/\dJ K H a xs/\xs.length=n/\t xs σ H Q
theorem Ci (hc:X.calm=true)(h:rR X es t)
  (hn:(assignEach es X.env).length=n:=by rfl) (hst:(assignEach es X.env).findIdx? (·.1)=none:=by rfl):PG X (.Tuple es k pos) (Ba X.K n t):=by
 intro pins s σ H v u Q I r hw;obtain⟨a,xs,e1,hq,hl,hw⟩:=hw;subst e1;cases r;obtain⟨its,rv,ht,hz⟩:=I.tuple hq;refine assign_Tuple_tuple (I.ok.hd hc) ht (by simp[hn, <-hl,rv.length]) hst fun h' hx=>?_;have I1:Inv X pins σ H {s with heap:=h'}:=I.kept (t':=s.toks) fun b o e=>hx b o (xap (xad e)) e;exact h pins _ σ H xs _ Q I1 (by simpa using rv) hw
noncomputable def wB (te:TE) (g:TG):TS:=fun D σ H=>te σ H fun x H1=>g x σ H1 D.nx
theorem R5 (he:PE X e te)(hg:PG X tg g)(hs:swapsWithSole [tg] e pos.line X.env=pure false:=by rfl)(hw:swappedStores [tg] e X.env=pure none:=by rfl)
  (h1:(assignEach [tg] X.env).map (·.2)=[assign tg X.env]:=by rfl):PS X (.Assign [tg] e pos) (wB te g):=by
 intro pins s σ H D I h;refine wpAny_Assign_stores (aU (he pins s σ H _ I h) fun v s1 ⟨x,H1,I1,r1,q1⟩=>?_) hs hw;rw[h1];exact aU (hg pins s1 σ H1 x v _ I1 r1 q1) fun _ s2 q=>q
theorem Ir (hN:X.N.Nodup)(hi:X.N[i]? =some x)(hx:Loc X.env.scope x)(he:PE X e te)(hs:swapsWith e (some (.Name x pos')) pos.line X.env=pure false:=by rfl)(hf:X.fn x=true\/X.env.scope.names.lookup x=some .local:=by first |exact .inl rfl |exact .inr rfl |assumption):
  PS X (.Assign [.Name x pos'] e pos) (wB te (xH i)):=by
 intro pins s σ H D I h;refine wpAny_Assign_Name (aU (he pins s σ H _ I h) fun v s1 ⟨y,H1,I1,r1,q1⟩=>?_) hs;exact zc I1 hN hi hx r1 (fun s2 I2=>⟨_,H1,I2,q1⟩) hf
end
structure It where
 go:Nat->Hp->Prop
 yld:Nat->Hp->V->Hp->Prop
 stop:Nat->Hp->Prop
def c7 (X:Cx)(pins:Pnx)(H:Hp)(b:Addr):Prop:=
 H b=none/\b≠X.env.locals/\b∉X.fs/\(b∈X.ex\/X.s₀.heap.objs.size<=b)/\(∀x c,X.env.cells.lookup x=some c->c≠b)/\∀p∈X.pn ++ pins,p.1≠b
theorem Inv.fpOk (I:Inv X pins σ H s)(hb:s.heap.objs.size<=b)(hn:H' b=none):c7 X pins H' b:=by
 refine⟨hn,xcQ (xab I.lt hb),I.nofs hb,.inr (xav I.sz hb),fun x c e z=>?_,fun p hp z=>?_⟩
 ·obtain⟨v,q⟩:=I.cell x c e;exact absurd (xab q.lt (by rw[z];exact hb)) (xbM _)
 ·exact absurd (xab (xad (I.pin p hp).1) (by rw[z];exact hb)) (xbM _)
structure Turn (P:Program)(w:World)(K:Fgx)(tg:Expr)(J:It)(fp:List Addr)(it:Addr)(tn:Nat->Heap->Prop):Prop where
 mem:it∈fp
 obj:∀i h,tn i h->∀b∈fp,∃o,h.get? b=some o/\∀v,o.data≠ .cell v
 keep:∀i h h',tn i h->(∀b∈fp,∀o,h.get? b=some o->h'.get? b=some o)->tn i h'
 item:∀(X:Cx),X.prog=P->X.w=w->X.K=K->X.calm=true->∀(i:Nat) (pins:Pnx) (s:Shared) (σ:St) (H:Hp) (E:Value->Shared->Prop),Inv X pins σ H s->(∀b∈fp,c7 X pins H b)->tn i s.heap->J.go i H->
  wpAny (model P w) X.A (pyNext (.ref it)) (fun r s1=>∃u,r=some u/\
   wpAny (model P w) X.A (letOwnedTupleGo tg (.ref it) u) (fun _ s2=>∃x H',Inv X pins σ H' s2/\RelV x u/\J.yld i H x H'/\tn (i + 1) s2.heap/\∀b∈fp,H' b=none) E s1) E s
 done:∀(X:Cx),X.prog=P->X.w=w->X.K=K->X.calm=true->∀(i:Nat) (pins:Pnx) (s:Shared) (σ:St) (H:Hp) (E:Value->Shared->Prop),Inv X pins σ H s->(∀b∈fp,c7 X pins H b)->tn i s.heap->J.stop i H->
  wpAny (model P w) X.A (pyNext (.ref it)) (fun r s1=>r=none/\Inv X pins σ H s1) E s
 self:∀(A:Around) (i:Nat) (s:Shared) (Q:Value->Shared->Prop) (E:Value->Shared->Prop),tn i s.heap->Q (.ref it) s->wpAny (model P w) A (pyIter (.ref it)) Q E s
abbrev TI:=St->Hp->(It->Hp->Prop)->Prop
def PIE (X:Cx)(pins:Pnx)(σ:St)(tg:Expr)(R:It->Hp->Prop)(itv:Value)(s2:Shared):Prop:=
 ∃(it:Addr) (fp:List Addr) (tn:Nat->Heap->Prop) (J:It) (H':Hp),itv=.ref it/\Inv X pins σ H' s2/\Turn X.prog X.w X.K tg J fp it tn/\tn 0 s2.heap/\(∀b∈fp,c7 X pins H' b)/\R J H'
def PI (X:Cx)(tg iter:Expr)(wi:TI):Prop:=
 ∀(pins:Pnx) (s:Shared) (σ:St) (H:Hp) (R:It->Hp->Prop),Inv X pins σ H s->wi σ H R->
  wpAny (model X.prog X.w) X.A (eval iter X.env) (fun v s1=>wpAny (model X.prog X.w) X.A (pyIter v) (PIE X pins σ tg R) X.xe s1) X.xe s
theorem rm {M:Model}{A:Around}{E:Value->Shared->Prop}{s:Shared}{tg:Expr}{it:Addr}{u:Value}{o:Obj}{n:String}{vs:Array Value}{Q:Unit->Shared->Prop}(ho:s.heap.get? it=some o)(hc:o.cls=.type n)(hd:o.data=.fields vs)
    (hn:["enumerate","zip","dict_itemiterator","dict_reverseitemiterator","odict_iterator","itertools.zip_longest","itertools.pairwise"].contains n=false) (hQ:Q () s):wpAny M A (letOwnedTupleGo tg (.ref it) u) Q E s:=by
  unfold letOwnedTupleGo;cases tg<;>first
    |exact Z9 hQ
    | (cases u<;>first
        |exact Z9 hQ
        | (refine Z2 (wpAny_load ho ?_)
           rw[hc,hd];show wpAny M A (if (["enumerate","zip","dict_itemiterator","dict_reverseitemiterator","odict_iterator","itertools.zip_longest","itertools.pairwise"].contains n && vs[0]? ==some (rawInt _))=true then _ else _) Q E s
           rw[xaf (by intro h;rw[hn,xdb]at h;cases h)];exact Z9 hQ))
noncomputable def rP (K:Fgx) (a:Addr):It:=
 ⟨fun i H=>∃xs x,bw K H a xs/\xs[i]? =some x,fun i H x H'=>H'=H/\∀xs,bw K H a xs->xs[i]? =some x,fun i H=>∃xs,bw K H a xs/\xs.length<=i⟩
noncomputable def wN (lo:Int) (n:Nat):It:=⟨fun i _=>i<n,fun i H x H'=>H'=H/\x=.int (lo + i),fun i _=>n<=i⟩
theorem Yp {P:Program}{w:World}{K:Fgx}{tg:Expr}(a it:Addr):Turn P w K tg (rP K a) [it] it (fun i h=>h.IsListIter it a i) where
 mem:=by simp
 obj:=fun i h st b hb=>by
  have e:b=it:=by simpa using hb
  subst e;obtain⟨o,e,c,d⟩:=st;exact⟨o,e,fun v z=>by rw[d]at z;cases z⟩
 keep:=fun i h h' st k=>st.at fun o e=>k it (by simp) o e
 item:=by
  intro X hP hw hK hc i pins s σ H E I hf st hg;subst hP hw hK;obtain⟨xs,x,hq,hx⟩:=hg;obtain⟨its,rv,p,hz⟩:=I.list hq;obtain⟨u,hu,ru⟩:=rv.get hx;obtain⟨f0,f1,f2,f3,f4,f5⟩:=hf it (by simp);refine wpAny_pyNext_list_item st p.isList (x:=u) (by simpa using hu) fun h' st' sb=>?_;have I1:Inv X pins σ H {s with heap:=h'}:=I.turned (t':=s.toks) (fun b o hb e=>(sb.2 b hb).trans e) f0 f1 f3 f4 f5;obtain⟨o,e,c,d⟩:=id st';exact⟨u,rfl,rm (s:={s with heap:=h'}) e c d (by decide) ⟨x,H,I1,ru,⟨rfl,fun ys hy=>by rw[I.list_inj hy hq];exact hx⟩,st',fun b hb=>(hf b hb).1⟩⟩
 done:=by
  intro X hP hw hK hc i pins s σ H E I hf st hg;subst hP hw hK;obtain⟨xs,hq,hx⟩:=hg;obtain⟨its,rv,p,hz⟩:=I.list hq;obtain⟨f0,f1,f2,f3,f4,f5⟩:=hf it (by simp);have hl:=rv.length;exact wpAny_pyNext_list_end (I.ok.hd hc) st p.isList (by simp;omega) fun h' eb=>⟨rfl,I.turned (t':=s.toks) (fun b o hb e=>eb b o hb e) f0 f1 f3 f4 f5⟩
 self:=fun _ _ _ _ _ st h=>wpAny_pyIter_listiter st h
theorem Yq {P:Program}{w:World}{K:Fgx}{tg:Expr}(it:Addr)(lo:Int)(n:Nat):Turn P w K tg (wN lo n) [it] it (fun i h=>IsRangeIter h it (lo + (i:Nat) * 1) ((n:Int) - (i:Nat)) 1) where
 mem:=by simp
 obj:=fun i h st b hb=>by
  have e:b=it:=by simpa using hb
  subst e;exact ⟨_,st,fun v z=>by
   have z':Data.fields _=Data.cell v:=z;cases z'⟩
 keep:=fun i h h' st k=>k it (by simp) _ st
 item:=by
  intro X hP hw hK hc i pins s σ H E I hf st hg;subst hP hw hK;obtain⟨f0,f1,f2,f3,f4,f5⟩:=hf it (by simp);have W:=Walks.range (prog:=X.prog) (w:=X.w) (I.ok.hd hc) it lo 1 n;refine W.item i s _ _ hg st fun v h' tk hv st' kk=>?_;obtain⟨t,rfl⟩:=hv;have I1:Inv X pins σ H {s with heap:=h',toks:=tk}:=I.turned (fun b o hb e=>kk b o (by simpa using hb) e) f0 f1 f3 f4 f5;refine⟨_,rfl,rm (s:={s with heap:=h',toks:=tk}) (n:="range_iterator") st' rfl rfl (by decide) ⟨.int (lo + i),H,I1,⟨t,?_⟩,⟨rfl,rfl⟩,st',fun b hb=>(hf b hb).1⟩⟩;rw[Int.mul_one]
 done:=by
  intro X hP hw hK hc i pins s σ H E I hf st hg;subst hP hw hK;obtain⟨f0,f1,f2,f3,f4,f5⟩:=hf it (by simp);exact wpAny_pyNext_range_end (I.ok.hd hc) st (by have:n<=i:=hg;omega) fun h' eb=>⟨rfl,I.turned (t':=s.toks) (fun b o hb e=>eb b o hb e) f0 f1 f3 f4 f5⟩
 self:=fun _ _ _ _ _ st h=>wpAny_pyIter_rangeiter st h
section
variable {X:Cx}{tg:Expr}
noncomputable def Hf (K:Fgx) (tl:TE):TI:=fun σ H R=>tl σ H fun x H1=>∃a,x=.ref a/\(∃xs,bw K H1 a xs)/\R (rP K a) H1
theorem Ck {l:Expr}{tl:TE}(hl:PE X l tl):PI X tg l (Hf X.K tl):=by
 intro pins s σ H R I h;refine aU (hl pins s σ H _ I h) fun v s1 ⟨x,H1,I1,r1,q1⟩=>?_;obtain⟨a,e,⟨xs,hq⟩,q⟩:=q1;subst e;cases r1;obtain⟨its,rv,p,hz⟩:=I1.list hq;refine wpAny_pyIter_list p.isList ?_;refine⟨s1.heap.objs.size,[s1.heap.objs.size],_,_,H1,rfl,I1.kept (t':=s1.toks) fun b o e=>xac _ e,Yp a _,⟨_,xau _ rfl,rfl,rfl⟩,fun b hb=>?_,q⟩;have e:b=s1.heap.objs.size:=by simpa using hb
 subst e;exact I1.fpOk (tG _) (I1.hok.fresh (tG _))
theorem Wa {pins:Pnx}{σ:St}{H:Hp}{s:Shared}{R:It->Hp->Prop}{E:Value->Shared->Prop}{lo hi:Int}{t u v:Tok}{tk:Nat}(I:Inv X pins σ H s)(h1: -(2 ^ 62)<=lo)(h2:lo<2 ^ 62)(h3: -(2 ^ 62)<=hi)(h4:hi<2 ^ 62)
  (q:R (wN lo (hi - lo).toNat) H):wpAny (model X.prog X.w) X.A (pyIter (.ref s.heap.objs.size)) (PIE X pins σ tg R) E {s with heap:=s.heap.push {cls:=.type "range",data:=.fields #[.int lo t,.int hi u,.int 1 v]},toks:=tk}:=by
 refine wpAny_pyIter_range (IsRange.new ..) (small_one h1 h2 h3 h4) ?_;have I1 : Inv X pins σ H { s with heap := s.heap.push { cls := .type "range", data := .fields #[.int lo t, .int hi u, .int 1 v] }, toks := tk } := I.kept fun b o e => xac _ e;refine ⟨(s.heap.push {cls:=.type "range",data:=.fields #[.int lo t,.int hi u,.int 1 v]}).objs.size,[(s.heap.push {cls:=.type "range",data:=.fields #[.int lo t,.int hi u,.int 1 v]}).objs.size],_,_,H,rfl,
  I1.kept (t':=tk) fun b o e=>xac _ e,Yq _ lo (hi - lo).toNat,?_,fun b hb=>?_,q⟩
 ·have e1:lo + ((0:Nat):Int) * 1=lo:=by simp
  have e2:(((hi - lo).toNat:Nat):Int) - ((0:Nat):Int)=Builtin.Range.rangeSize lo hi 1:=by rw[rangeSize_one];split<;>omega
  show IsRangeIter _ _ (lo + ((0:Nat):Int) * 1) ((((hi - lo).toNat:Nat):Int) - ((0:Nat):Int)) 1;rw[e1,e2];exact xau _ rfl
 ·have e:b=(s.heap.push {cls:=.type "range",data:=.fields #[.int lo t,.int hi u,.int 1 v]}).objs.size:=by simpa using hb
  subst e;exact I1.fpOk (tG _) (I1.hok.fresh (tG _))
noncomputable def m6 (ta:TA):TI:=fun σ H R=>ta σ H fun vs H1=>∃j:Int,vs=[.int j]/\ -(2 ^ 62)<=j/\j<2 ^ 62/\R (wN 0 j.toNat) H1
theorem RP {a:Expr}{ta:TA}{p pos:Pos}(hg:Gl X "range")(hm:X.mg "range"=none)(ha:PA X [a] ta)(hs:starEach [a] X.env=[(false,eval a X.env)]:=by rfl):PI X tg (.Call (.Name "range" p) [a] [] pos) (m6 ta):=by
  intro pins s σ H R I h;refine Call_ (vf I hg hm boot_range (xbT (aU (ha pos pins s σ H _ I h) fun us s1 ⟨vs,H1,I1,r1,q1⟩=>?_) hs rfl));obtain⟨j,e,q1,q2,q⟩:=q1;subst e
  cases r1 with
  |cons r rr=>
    cases rr;obtain⟨t,rfl⟩:=r;exact call_range_1 (Wa I1 (by omega) (by omega) q1 q2 (by simpa using q))
noncomputable def DQ (wi:TI) (g:TG) (tb:TS):TS:=fun D σ H=>wi σ H fun J H1=>∃W:Nat->Nat->St->Hp->Prop,(∃m,W 0 m σ H1)/\∀i m σ H,W i m σ H->
 (J.stop i H/\D.nx σ H)\/(J.go i H/\∃N:St->Hp->Prop,(∀σ' H',N σ' H'->∃m',m'<m/\W (i + 1) m' σ' H')/\∀x H',J.yld i H x H'->g x σ H' fun σ2 H2=>tb {D with nx:=N,ct:=N,bk:=D.nx} σ2 H2)
noncomputable def vD (fp:List Addr) (h:Heap):Pnx:=fp.filterMap fun b=>(h.get? b).map fun o=>(b,o)
theorem xY (hb:b∈fp)(e:h.get? b=some o):(b,o)∈vD fp h:=xa5.mpr ⟨b,hb,by rw[e];rfl⟩
theorem QM (hp:p∈vD fp h):p.1∈fp/\h.get? p.1=some p.2:=by
  obtain⟨b,hb,e⟩:=xa5.mp hp
  cases q:h.get? b with
  |none=>rw[q]at e;cases e
  |some o=>
    rw[q]at e;have e':(b,o)=p:=xan e;subst e';exact⟨hb,q⟩
theorem Inv.pinned (I:Inv X pins σ H s)(hf:∀b∈fp,c7 X pins H b)(ho:∀b∈fp,∃o,s.heap.get? b=some o/\∀v,o.data≠ .cell v):Inv X (pins ++ vD fp s.heap) σ H s:=
 I.pins_of fun p hp=>(xaq.mp hp).elim (fun z=>I.pin p (xao _ z)) fun z=>by
  obtain⟨hb,e⟩:=QM z;obtain⟨f0,f1,f2,_⟩:=hf p.1 hb;obtain⟨o,e',d⟩:=ho p.1 hb;rw[e]at e';cases e';exact⟨e,f0,f1,f2,d⟩
theorem Inv.unpinned (I:Inv X (pins ++ pl) σ H s):Inv X pins σ H s:=I.pins_of fun p hp=>I.pin p (xao _ (xbU _ hp))
theorem yh (hp:PassesOwn (model X.prog X.w) X.A X.env X.xe)(hc:X.calm=true)(hi:PI X tg iter wi)(hg:PG X tg g)(hb:fP X body tb)
  (hs:∀x,foldedSetIterable iter X.env x=pure x:=by intro _;rfl):PS X (.For tg iter body [] pos) (DQ wi g tb):=by
 intro pins s σ H D I h;refine wpAny_For (aU (hi pins s σ H _ I h) fun v s1 h1=>aU h1 fun itv s2 h2=>?_) hs;obtain⟨it,fp,tn,J,H2,e,I2,T,st2,f2,W,⟨m0,w0⟩,turn⟩:=h2;subst e
 -- what stays true of the iterator's objects through the loop
 have stat:∀{H':Hp},(∀b∈fp,H' b=none)->∀b∈fp,c7 X pins H' b:=fun hn b hb=>⟨hn b hb,(f2 b hb).2⟩;refine codeAny_forLoop_any (fun n s'=>∃i σ' H',Inv X pins σ' H' s'/\tn i s'.heap/\(∀b∈fp,H' b=none)/\W i n σ' H') ?_ m0 ⟨0,σ,H2,I2,st2,fun b hb=>(f2 b hb).1,w0⟩;rintro n s3 ⟨i,σ3,H3,I3,st3,fr3,w3⟩;rcases turn i n σ3 H3 w3 with⟨stop,qn⟩ |⟨go,N,hN,step⟩
 ·refine xb3 hp (aU (T.done X rfl rfl rfl hc i pins s3 σ3 H3 X.xe I3 (stat fr3) st3 stop) fun r s4 ⟨hr,I4⟩=>?_);subst hr;exact wpAny_execs_nil ⟨σ3,H3,I4,qn⟩
 ·refine xb3 hp (aU (T.item X rfl rfl rfl hc i pins s3 σ3 H3 X.xe I3 (stat fr3) st3 go) fun r s4 ⟨u,hr,h4⟩=>?_);subst hr;refine xb3 hp (aU h4 fun _ s5 ⟨x,H5,I5,r5,y5,st5,fr5⟩=>?_);have I5':=I5.pinned (stat fr5) (T.obj _ _ st5);refine xb3 hp (aU (hg _ s5 σ3 H5 x u _ I5' r5 (step x H5 y5)) fun _ s6 ⟨σ6,H6,I6,q6⟩=>?_);refine xb3 hp (aU (hb _ s6 σ6 H6 _ I6 q6) fun f s7 q7=>?_);have again:∀{σ7:St} {H7:Hp},Inv X (pins ++ vD fp s5.heap) σ7 H7 s7->N σ7 H7->∃m,m<n/\∃i σ' H',Inv X pins σ' H' s7/\tn i s7.heap/\(∀b∈fp,H' b=none)/\W i m σ' H':=fun {σ7 H7} I7 n7=>by
   obtain⟨m',hm,w7⟩:=hN σ7 H7 n7;refine⟨m',hm,i + 1,σ7,H7,I7.unpinned,T.keep _ _ _ st5 fun b hb o e=>(I7.pin (b,o) (xao _ (xao _ (xY hb e)))).1,fun b hb=>?_,w7⟩;obtain⟨o,e,d⟩:=T.obj _ _ st5 b hb;exact(I7.pin (b,o) (xao _ (xao _ (xY hb e)))).2.1
  cases f with
  |next=>obtain⟨σ7,H7,I7,n7⟩:=q7;exact again I7 n7
  |cont=>obtain⟨σ7,H7,I7,n7⟩:=q7;exact again I7 n7
  |brk=>obtain⟨σ7,H7,I7,q7⟩:=q7;exact⟨σ7,H7,I7.unpinned,q7⟩
  |ret v=>obtain⟨x7,σ7,H7,I7,r7,q7⟩:=q7;exact⟨x7,σ7,H7,I7.unpinned,r7,q7⟩
end
abbrev R2:=V->V->Hp->VK->Prop
def bC (X:Cx)(f:Value->Value->Sem Value)(r:R2):Prop:=
 ∀(pins:Pnx) (s:Shared) (σ:St) (H:Hp) (x y:V) (v u:Value) (Q:VK),Inv X pins σ H s->RelV x v->RelV y u->r x y H Q->
  wpAny (model X.prog X.w) X.A (f v u) (EP X pins σ Q) X.xe s
def wQ (X:Cx)(f:Value->Sem Value)(r:V->Hp->VK->Prop):Prop:=
 ∀(pins:Pnx) (s:Shared) (σ:St) (H:Hp) (x:V) (v:Value) (Q:VK),Inv X pins σ H s->RelV x v->r x H Q->
  wpAny (model X.prog X.w) X.A (f v) (EP X pins σ Q) X.xe s
def cR (X:Cx)(f:Value)(r:List V->Hp->VK->Prop):Prop:=
 ∀(pins:Pnx) (s:Shared) (σ:St) (H:Hp) (xs:List V) (us:List Value) (Q:VK),Inv X pins σ H s->Vals xs us->r xs H Q->
  wpAny (model X.prog X.w) X.A (call f us) (EP X pins σ Q) X.xe s
def zJ (X:Cx)(r:V->Hp->(Bool->Hp->Prop)->Prop):Prop:=
 ∀(pins:Pnx) (s:Shared) (σ:St) (H:Hp) (x:V) (v:Value) (Q:Bool->Hp->Prop),Inv X pins σ H s->RelV x v->r x H Q->
  wpAny (model X.prog X.w) X.A (truthy v) (TP X pins σ Q) X.xe s
noncomputable def wF (r:R2) (ta tb:TE):TE:=fun σ H Q=>ta σ H fun x H1=>tb σ H1 fun y H2=>r x y H2 Q
noncomputable def JX (r:V->Hp->VK->Prop) (ta:TE):TE:=fun σ H Q=>ta σ H fun x H1=>r x H1 Q
noncomputable def rI (C:Int->Int->Prop) (g:Int->Int->V):R2:=fun x y H Q=>∃i j,x=.int i/\y=.int j/\C i j/\Q (g i j) H
noncomputable def fW (g:Int->Int->V):R2:=fun x y H Q=>∃i j,x=.int i/\y=.int j/\Q (g i j) H
def rU (g:Int->V):V->Hp->VK->Prop:=fun x H Q=>∃i,x=.int i/\Q (g i) H
section
variable {X:Cx}{a b c:Expr}{ta tb tc:TE}{pos:Pos}
theorem nQ (ha:PE X a ta)(hb:PE X b tb){pins:Pnx}{s:Shared}{σ:St}{H:Hp}{R:V->V->Hp->Prop}(I:Inv X pins σ H s)
  (h:ta σ H fun x H1=>tb σ H1 fun y H2=>R x y H2) {Q:Value->Shared->Prop} {f:Value->Value->Sem Value}
  (hf:∀v u s2 x y H2,Inv X pins σ H2 s2->RelV x v->RelV y u->R x y H2->wpAny (model X.prog X.w) X.A (f v u) Q X.xe s2):
  wpAny (model X.prog X.w) X.A (eval a X.env) (fun v s₁=>wpAny (model X.prog X.w) X.A (eval b X.env) (fun u s₂=>wpAny (model X.prog X.w) X.A (f v u) Q X.xe s₂) X.xe s₁) X.xe s:=by
 refine aU (ha pins s σ H _ I h) fun v s1 ⟨x,H1,I1,r1,q1⟩=>?_;refine aU (hb pins s1 σ H1 _ I1 q1) fun u s2 ⟨y,H2,I2,r2,q2⟩=>?_;exact hf v u s2 x y H2 I2 r1 r2 q2
theorem Ik {op:Operator}{r:R2}(ho:bC X (binaryOp op) r)(ha:PE X a ta)(hb:PE X b tb):PE X (.BinOp a op b pos) (wF r ta tb):=by
 intro pins s σ H Q I h;exact wpAny_BinOp (nQ ha hb I h fun v u s2 x y H2 I2 rx ry q=>ho pins s2 σ H2 x y v u Q I2 rx ry q)
theorem RK (ho:wQ X (unaryOp op) r)(ha:PE X a ta):PE X (.UnaryOp op a pos) (JX r ta):=by
 intro pins s σ H Q I h;exact UnaryOp_ (aU (ha pins s σ H _ I h) fun v s1 ⟨x,H1,I1,r1,q1⟩=>ho pins s1 σ H1 x v Q I1 r1 q1)
theorem yd {f:Value->Value->Sem Value}{C:Int->Int->Prop}{g:Int->Int->Int}
  (rule:∀(i j:Int) (t u:Tok) (s:Shared) (Q:Value->Shared->Prop) (E:Value->Shared->Prop),C i j->Q (.int (g i j) s.toks) {s with toks:=s.toks + 1}->wpAny (model X.prog X.w) X.A (f (.int i t) (.int j u)) Q E s):
  bC X f (rI C fun i j=>.int (g i j)):=by
 intro pins s σ H x y v u Q I rx ry h;obtain⟨i,j,rfl,rfl,hc,q⟩:=h;obtain⟨t,rfl⟩:=rx;obtain⟨t',rfl⟩:=ry;exact rule i j t t' s _ _ hc ⟨.int (g i j),H,I.tok _,⟨_,rfl⟩,q⟩
theorem vA {f:Value->Value->Sem Value}{g:Int->Int->Int}
  (rule:∀(i j:Int) (t u:Tok) (s:Shared) (Q:Value->Shared->Prop) (E:Value->Shared->Prop),Q (.int (g i j) s.toks) {s with toks:=s.toks + 1}->wpAny (model X.prog X.w) X.A (f (.int i t) (.int j u)) Q E s):
  bC X f (fW fun i j=>.int (g i j)):=by
 intro pins s σ H x y v u Q I rx ry h;obtain⟨i,j,rfl,rfl,q⟩:=h;obtain⟨t,rfl⟩:=rx;obtain⟨t',rfl⟩:=ry;exact rule i j t t' s _ _ ⟨.int (g i j),H,I.tok _,⟨_,rfl⟩,q⟩
theorem lW {f:Value->Value->Sem Value}{g:Int->Int->Bool}
  (rule:∀(i j:Int) (t u:Tok) (s:Shared) (Q:Value->Shared->Prop) (E:Value->Shared->Prop),Q (.bool (g i j)) s->wpAny (model X.prog X.w) X.A (f (.int i t) (.int j u)) Q E s):
  bC X f (fW fun i j=>.bl (g i j)):=by
 intro pins s σ H x y v u Q I rx ry h;obtain⟨i,j,rfl,rfl,q⟩:=h;obtain⟨t,rfl⟩:=rx;obtain⟨t',rfl⟩:=ry;exact rule i j t t' s _ _ ⟨.bl (g i j),H,I,rfl,q⟩
def rN (i j:Int):Prop:=0<j/\j<1073741824
def nM (i j:Int):Prop:=0<=j/\j<=1000000/\i.natAbs<2 ^ 64
def lE (i j:Int):Prop:=(-(2 ^ 64)<i/\i<2 ^ 64)\/(-(2 ^ 64)<j/\j<2 ^ 64)
theorem lE.ok (h:lE i j):IntMulOk i j:=by
 rcases h with⟨h1,h2⟩ |⟨h1,h2⟩
 ·exact .of_left (intBits_le_64 h1 h2)
 ·exact .of_right (intBits_le_64 h1 h2)
theorem QS:bC X (binaryOp .Add) (fW fun i j=>.int (i + j)):=vA fun _ _ _ _ _ _ _ q=>add_int q
theorem lu:bC X (binaryOp .Sub) (fW fun i j=>.int (i - j)):=vA fun _ _ _ _ _ _ _ q=>sub_int q
theorem gw:bC X (binaryOp .FloorDiv) (rI rN fun i j=>.int (i / j)):=yd fun i j _ _ _ _ _ hc q=>by
 have h1:(0:Int)<j:=hc.1;have h2:j<1073741824:=hc.2;exact floordiv_int (by omega) (by rw[Int.fdiv_eq_ediv_of_nonneg i (by omega)];exact q) (.inl (PyProof.noPylong_small (by omega)))
theorem cL:bC X (binaryOp .Mod) (rI (fun _ j=>0<j) fun i j=>.int (i % j)):=yd fun i j _ _ _ _ _ hc q=>by
 have h1:(0:Int)<j:=hc;exact mod_int' (by omega) (by rw[Int.fmod_eq_emod_of_nonneg i (by omega)];exact q)
theorem vB:bC X (binaryOp .Pow) (rI nM fun i j=>.int (i ^ j.toNat)):=yd fun _ _ _ _ _ _ _ hc q=>pow_int_small hc.1 hc.2.1 hc.2.2 q
theorem Yy {f:Value->Sem Value}{g:Int->Int}
  (rule:∀(i:Int) (t:Tok) (s:Shared) (Q:Value->Shared->Prop) (E:Value->Shared->Prop),Q (.int (g i) s.toks) {s with toks:=s.toks + 1}->wpAny (model X.prog X.w) X.A (f (.int i t)) Q E s):
  wQ X f (rU fun i=>.int (g i)):=by
 intro pins s σ H x v Q I rx h;obtain⟨i,rfl,q⟩:=h;obtain⟨t,rfl⟩:=rx;exact rule i t s _ _ ⟨.int (g i),H,I.tok _,⟨_,rfl⟩,q⟩
theorem zp:wQ X (unaryOp .USub) (rU fun i=>.int (-i)):=Yy fun _ _ _ _ _ q=>neg_int q
end
noncomputable def mH:V->V->Bool
 |.non,.non=>true |.non,.int _=>true |.int _,.non=>true |.non,.bl _=>true |.bl _,.non=>true |.non,.str _=>true |.str _,.non=>true
 |.int _,.int _=>true |.bl _,.bl _=>true |.str _,.str _=>true |.byt _,.byt _=>true
 |.int _,.str _=>true |.str _,.int _=>true |.bl _,.str _=>true |.str _,.bl _=>true
 |_,_=>false
def Uv:R2:=fun x y H Q=>mH x y=true/\Q (.bl (decide (x=y))) H
def Uw:R2:=fun x y H Q=>mH x y=true/\Q (.bl (!decide (x=y))) H
theorem Gv:decide (V.int i=V.int j)=(i==j):=by
 rw[xa3]
 simp
theorem xG:decide (V.bl i=V.bl j)=(i==j):=by
 rw[xa3]
 simp
theorem Gw:decide (V.str i=V.str j)=(i==j):=by
 rw[xa3]
 simp
theorem Gu:decide (V.byt i=V.byt j)=(i.toList==j.toList):=by
 rw[xa3];cases i;cases j
 simp
section
variable {X:Cx}{a b c:Expr}{ta tb tc:TE}{pos:Pos}
theorem bf (I:Inv X pins σ H s)(q:Q (.bl k) H)(e:k=k'):EP X pins σ Q (.bool k') s:=by
 subst e;exact⟨.bl k,H,I,rfl,q⟩
theorem QV:bC X (compareOp .Eq) Uv:=by
  intro pins s σ H x y v u Q I rx ry h;obtain⟨hs,q⟩:=h
  cases x with
  |non=>
    cases rx
    cases y with
    |non=>cases ry;exact PySem.EqNone.eq_none_none (bf I q (by simp))
    |bl j=>cases ry;exact PySem.EqNone.eq_none_bool (bf I q (by simp))
    |int j=>obtain⟨t',rfl⟩:=ry;exact PySem.EqNone.eq_none_int (bf I q (by simp))
    |str j=>obtain⟨t',rfl⟩:=ry;exact PySem.EqNone.eq_none_str (bf I q (by simp))
    |_=>exact absurd (show false=true from hs) xaj
  |bl i=>
    cases rx
    cases y with
    |non=>cases ry;exact PySem.EqNone.eq_bool_none (bf I q (by simp))
    |bl j=>cases ry;exact eq_bool (bf I q xG)
    |str j=>obtain⟨t',rfl⟩:=ry;exact PySem.EqMixed.eq_bool_str (bf I q (by simp))
    |_=>exact absurd (show false=true from hs) xaj
  |int i=>
    obtain⟨t,rfl⟩:=rx
    cases y with
    |non=>cases ry;exact PySem.EqNone.eq_int_none (bf I q (by simp))
    |int j=>obtain⟨t',rfl⟩:=ry;exact eq_int (bf I q Gv)
    |str j=>obtain⟨t',rfl⟩:=ry;exact PySem.EqMixed.eq_int_str (bf I q (by simp))
    |_=>exact absurd (show false=true from hs) xaj
  |str i=>
    obtain⟨t,rfl⟩:=rx
    cases y with
    |non=>cases ry;exact PySem.EqNone.eq_str_none (bf I q (by simp))
    |bl j=>cases ry;exact PySem.EqMixed.eq_str_bool (bf I q (by simp))
    |int j=>obtain⟨t',rfl⟩:=ry;exact PySem.EqMixed.eq_str_int (bf I q (by simp))
    |str j=>obtain⟨t',rfl⟩:=ry;exact eq_str (bf I q Gw)
    |_=>exact absurd (show false=true from hs) xaj
  |byt i=>
    obtain⟨t,rfl⟩:=rx
    cases y with
    |byt j=>obtain⟨t',rfl⟩:=ry;exact PySem.W.eq_bytes (bf I q Gu)
    |_=>exact absurd (show false=true from hs) xaj
  |_=>cases y<;>exact absurd (show false=true from hs) xaj
theorem Rg:bC X (compareOp .NotEq) Uw:=by
  intro pins s σ H x y v u Q I rx ry h;obtain⟨hs,q⟩:=h
  cases x with
  |non=>
    cases rx
    cases y with
    |non=>cases ry;exact PySem.EqNone.ne_none_none (bf I q (by simp))
    |bl j=>cases ry;exact PySem.EqNone.ne_none_bool (bf I q (by simp))
    |int j=>obtain⟨t',rfl⟩:=ry;exact PySem.EqNone.ne_none_int (bf I q (by simp))
    |str j=>obtain⟨t',rfl⟩:=ry;exact PySem.EqNone.ne_none_str (bf I q (by simp))
    |_=>exact absurd (show false=true from hs) xaj
  |bl i=>
    cases rx
    cases y with
    |non=>cases ry;exact PySem.EqNone.ne_bool_none (bf I q (by simp))
    |bl j=>cases ry;exact ne_bool (bf I q (congrArg not xG))
    |str j=>obtain⟨t',rfl⟩:=ry;exact PySem.EqMixed.ne_bool_str (bf I q (by simp))
    |_=>exact absurd (show false=true from hs) xaj
  |int i=>
    obtain⟨t,rfl⟩:=rx
    cases y with
    |non=>cases ry;exact PySem.EqNone.ne_int_none (bf I q (by simp))
    |int j=>obtain⟨t',rfl⟩:=ry;exact ne_int (bf I q (congrArg not Gv))
    |str j=>obtain⟨t',rfl⟩:=ry;exact PySem.EqMixed.ne_int_str (bf I q (by simp))
    |_=>exact absurd (show false=true from hs) xaj
  |str i=>
    obtain⟨t,rfl⟩:=rx
    cases y with
    |non=>cases ry;exact PySem.EqNone.ne_str_none (bf I q (by simp))
    |bl j=>cases ry;exact PySem.EqMixed.ne_str_bool (bf I q (by simp))
    |int j=>obtain⟨t',rfl⟩:=ry;exact PySem.EqMixed.ne_str_int (bf I q (by simp))
    |str j=>obtain⟨t',rfl⟩:=ry;exact ne_str (bf I q (congrArg not Gw))
    |_=>exact absurd (show false=true from hs) xaj
  |byt i=>
    obtain⟨t,rfl⟩:=rx
    cases y with
    |byt j=>obtain⟨t',rfl⟩:=ry;exact PySem.W.ne_bytes (bf I q (congrArg not Gu))
    |_=>exact absurd (show false=true from hs) xaj
  |_=>cases y<;>exact absurd (show false=true from hs) xaj
theorem Rf:bC X (compareOp .Lt) (fW fun i j=>.bl (decide (i<j))):=lW fun _ _ _ _ _ _ _ q=>lt_int q
theorem Rb:bC X (compareOp .LtE) (fW fun i j=>.bl (decide (i<=j))):=lW fun _ _ _ _ _ _ _ q=>le_int q
theorem Q0:bC X (compareOp .Gt) (fW fun i j=>.bl (decide (j<i))):=lW fun _ _ _ _ _ _ _ q=>gt_int q
theorem QX:bC X (compareOp .GtE) (fW fun i j=>.bl (decide (j<=i))):=lW fun _ _ _ _ _ _ _ q=>ge_int q
theorem Q6:bC X (compareOp .In) (fun x y H Q=>∃i j,x=.str i/\y=.str j/\Q (.bl (!(Builtin.Str.occurrences j i 0 j.length 1).isEmpty)) H):=by
 intro pins s σ H x y v u Q I rx ry h;obtain⟨i,j,rfl,rfl,q⟩:=h;obtain⟨t,rfl⟩:=rx;obtain⟨t',rfl⟩:=ry;exact in_str (bf I q rfl)
theorem Q_:bC X (compareOp .Is) (fun x y H Q=>y=.non/\Q (.bl (decide (x=.non))) H):=by
 intro pins s σ H x y v u Q I rx ry h;obtain⟨rfl,q⟩:=h;cases ry;refine is_none_gen (bf I q ?_);cases x<;>first
  |(cases rx;rfl)
  |(obtain⟨t,rfl⟩:=rx;rfl)
theorem Rk:bC X (compareOp .IsNot) (fun x y H Q=>y=.non/\Q (.bl (!decide (x=.non))) H):=by
 intro pins s σ H x y v u Q I rx ry h;obtain⟨rfl,q⟩:=h;cases ry;refine isnot_none_gen (bf I q ?_);cases x<;>first
  |(cases rx;rfl)
  |(obtain⟨t,rfl⟩:=rx;rfl)
theorem Rm:bC X (compareOp .NotIn) (fun x y H Q=>∃i j,x=.str i/\y=.str j/\Q (.bl (!(!(Builtin.Str.occurrences j i 0 j.length 1).isEmpty))) H):=by
 intro pins s σ H x y v u Q I rx ry h;obtain⟨i,j,rfl,rfl,q⟩:=h;obtain⟨t,rfl⟩:=rx;obtain⟨t',rfl⟩:=ry;exact notIn_str (bf I q rfl)
theorem bC.or (h:bC X f r)(h':bC X f r'):bC X f (fun x y H Q=>r x y H Q\/r' x y H Q):=by
 intro pins s σ H x y v u Q I rx ry q;rcases q with q |q
 ·exact h pins s σ H x y v u Q I rx ry q
 ·exact h' pins s σ H x y v u Q I rx ry q
theorem Ru {op:CmpOp}{r:R2}(ho:bC X (compareOp op) r)(ha:PE X a ta)(hb:PE X b tb)(hm:behindInMarks op b=false):PE X (.Compare a [op] [b] pos) (wF r ta tb):=by
 intro pins s σ H Q I h;exact wpAny_Compare1 (nQ ha hb I h fun v u s2 x y H2 I2 rx ry q=>ho pins s2 σ H2 x y v u Q I2 rx ry q) hm
noncomputable def Ec (t:TE):TT:=fun σ H Q=>t σ H fun x H'=>∃k,x=.bl k/\Q k H'
theorem Sh (ho:bC X (compareOp op) r)(ha:PE X a ta)(hb:PE X b tb)(hm:behindInMarks op b=false):PT X (.Compare a [op] [b] pos) (Ec (wF r ta tb)):=by
 intro pins s σ H Q I h;refine wpAny_isTrue_Compare1 (aU (ha pins s σ H _ I h) fun v s1 ⟨x,H1,I1,r1,q1⟩=>aU (hb pins s1 σ H1 _ I1 q1) fun u s2 ⟨y,H2,I2,r2,q2⟩=>
  aU (ho pins s2 σ H2 x y v u _ I2 r1 r2 q2) fun c s3 ⟨z,H3,I3,r3,k,e,q3⟩=>?_) hm
 subst e;cases r3;exact xbS ⟨H3,I3,q3⟩
noncomputable def JW (r r':R2) (ta tb tc:TE):TE:=fun σ H Q=>ta σ H fun x H1=>tb σ H1 fun y H2=>r x y H2 fun z H3=>∃k,z=.bl k/\
 (if k=true then tc σ H3 fun w' H4=>r' y w' H4 Q else Q (.bl false) H3)
theorem Sg (ho:bC X (compareOp op) r)(ho':bC X (compareOp op') r')(ha:PE X a ta)(hb:PE X b tb)(hc:PE X c tc)
    (hm:lastMarks [op,op'] [b,c]=false:=by with_unfolding_all rfl):PT X (.Compare a [op,op'] [b,c] pos) (Ec (JW r r' ta tb tc)):=by
  intro pins s σ H Q I h;refine isTrue_chain (aU (ha pins s σ H _ I h) fun v s1 ⟨x, H1, I1, r1, q1⟩ => test_link (aU (hb pins s1 σ H1 _ I1 q1) fun u s2 ⟨y,H2,I2,r2,q2⟩=>
    aU (ho pins s2 σ H2 x y v u _ I2 r1 r2 q2) fun d s3 ⟨z,H3,I3,r3,k,e,q3⟩=>?_)) hm
  subst e;cases r3;refine xbS ?_
  cases k with
  |false=>
    obtain⟨k',e',q'⟩:=q3;cases e';exact ite_ff ⟨H3,I3,q'⟩
  |true=>
    refine ite_tt (test_last (aU (hc pins s3 σ H3 _ I3 q3) fun w' s4 ⟨z',H4,I4,r4,q4⟩=>aU (ho' pins s4 σ H4 y z' u w' _ I4 r2 r4 q4) fun d' s5 ⟨z2,H5,I5,r5,k2,e2,q5⟩=>?_));subst e2;cases r5;exact xbS ⟨H5,I5,q5⟩
def nP (K:Fgx)(x:V)(H:Hp)(k:Bool):Prop:=
 match x with
 |.non=>k=false
 |.bl b=>k=b
 |.int i=>k=(i !=0)
 |.str y=>y.length<=sizeLine/\k=((y.length:Int) !=0)
 |.byt y=>y.size<=sizeLine/\k=((y.size:Int) !=0)
 |.ref p=>(∃xs,bw K H p xs/\k= !xs.isEmpty)\/(∃xs,dJ K H p xs/\k= !xs.isEmpty)\/∃kvs,H p=some (.dK kvs)/\k= !kvs.isEmpty
 |_=>False
theorem NP (r:KV kvs vs):(!vs.isEmpty)= !kvs.isEmpty:=by
 cases r<;>rfl
theorem Hj (r:Vals xs its):(!its.toArray.isEmpty)= !xs.isEmpty:=by
 cases r<;>simp
theorem rz:(sizeLine:Nat)<2 ^ 63:=by rw[xaY];decide
theorem Yl:zJ X (fun x H Q=>∃k,nP X.K x H k/\Q k H):=by
  intro pins s σ H x v Q I rx h;obtain⟨k,e,q⟩:=h;have hl:=rz;have hs:sizeLine=16777216:=xaY
  cases x with
  |non=>
    cases rx;have e':k=false:=e;subst e';exact truthy_none ⟨H,I,q⟩
  |bl b=>
    cases rx;have e':k=b:=e;subst e';exact xbS ⟨H,I,q⟩
  |int i=>
    obtain⟨t,rfl⟩:=rx;have e':k=(i !=0):=e;subst e';exact PySem.P.truthy_int ⟨H,I,q⟩
  |str y=>
    obtain⟨t,rfl⟩:=rx;obtain⟨hy,e'⟩:y.length<=sizeLine/\k=((y.length:Int) !=0):=e;subst e';exact PySem.P.truthy_str (by omega) ⟨H,I.tok _,q⟩
  |byt y=>
    obtain⟨t,rfl⟩:=rx;obtain⟨hy,e'⟩:y.size<=sizeLine/\k=((y.size:Int) !=0):=e;subst e';exact PySem.W.truthy_bytes (by omega) ⟨H,I.tok _,q⟩
  |ref p=>
    cases rx;have e':(∃xs,bw X.K H p xs/\k= !xs.isEmpty)\/(∃xs,dJ X.K H p xs/\k= !xs.isEmpty)\/∃kvs,H p=some (.dK kvs)/\k= !kvs.isEmpty:=e;rcases e' with⟨xs,hx,e'⟩ |⟨xs,hx,e'⟩ |⟨kvs,hx,e'⟩
    · subst e';obtain⟨its,r,pl,hz⟩:=I.list hx;have hlen:=r.length;exact wpAny_truthy_list pl.isList (by simp only[Z8];omega) ⟨H,I.tok _,by rw[Hj r];exact q⟩
    · subst e';obtain⟨its,r,pl,hz⟩:=I.tuple hx;have hlen:=r.length;exact truthy_tuple pl (by simp only[Z8];omega) ⟨H,I.tok _,by rw[Hj r];exact q⟩
    · subst e';obtain⟨hz,hS,vs,r,m⟩:kvs.length<=sizeLine/\(p==sysModules)=false/\∃vs,KV kvs vs/\s.heap.DictOf (gO X.prog X.w) p vs:=I.hok p _ hx;have hlen:kvs.length=vs.length:=xdk r;exact wpAny_truthy_dict hS m (by omega) ⟨H,I.tok _,by rw[NP r];exact q⟩
  |_=>exact(show False from e).elim
theorem Ss (ha:PE X a ta)(he:∀whole,isTrue a X.env whole=(do let v <-whole;standAt a.pos;holding [v] (truthy v))):
  PT X a (fun σ H Q=>ta σ H fun x H'=>∃k,nP X.K x H' k/\Q k H'):=by
 intro pins s σ H Q I h;exact isTrue_plain (aU (ha pins s σ H _ I h) fun v s1 ⟨x,H1,I1,r1,q1⟩=>Yl pins s1 σ H1 x v Q I1 r1 q1) (he _)
theorem QT:bC X (binaryOp .Add) (fun x y H Q=>∃i j,x=.str i/\y=.str j/\i.length + j.length<=sizeLine/\Q (.str (i ++ j)) H):=by
 intro pins s σ H x y v u Q I rx ry h;obtain⟨i,j,rfl,rfl,hz,q⟩:=h;obtain⟨t,rfl⟩:=rx;obtain⟨t',rfl⟩:=ry;exact add_str (fun t' tk=>⟨.str (i ++ j),H,I.tok _,⟨_,rfl⟩,q⟩) hz
theorem vals1 (r:Vals [x] us):∃u,us=[u]/\RelV x u:=by
 cases r with
 |cons r1 r2=>cases r2;exact⟨_,rfl,r1⟩
theorem vals2 (r:Vals [x,y] us):∃u w',us=[u,w']/\RelV x u/\RelV y w':=by
  cases r with
  |cons r1 r2=>
    cases r2 with
    |cons r3 r4=>cases r4;exact⟨_,_,rfl,r1,r3⟩
theorem FW (hc:X.calm=true):cR X (.builtin "max") (fun xs H Q=>∃i j,xs=[.int i,.int j]/\Q (.int (if j > i then j else i)) H):=by
 intro pins s σ H xs us Q I r h;obtain⟨i,j,rfl,q⟩:=h;obtain⟨u,w',rfl,⟨t,rfl⟩,⟨t',rfl⟩⟩:=vals2 r;refine max_two_ints (I.ok.hd hc) fun h' tk k=>⟨_,H,I.kept k,?_,q⟩
 by_cases hj:j > i
 ·rw[Z7 hj,Z7 hj];exact⟨_,rfl⟩
 ·rw[xaf hj,xaf hj];exact⟨_,rfl⟩
theorem K8 (hc:X.calm=true):cR X (.builtin "min") (fun xs H Q=>∃i j,xs=[.int i,.int j]/\Q (.int (if j<i then j else i)) H):=by
 intro pins s σ H xs us Q I r h;obtain⟨i,j,rfl,q⟩:=h;obtain⟨u,w',rfl,⟨t,rfl⟩,⟨t',rfl⟩⟩:=vals2 r;refine min_two_ints (I.ok.hd hc) fun h' tk k=>⟨_,H,I.kept k,?_,q⟩
 by_cases hj:j<i
 ·rw[Z7 hj,Z7 hj];exact⟨_,rfl⟩
 ·rw[xaf hj,xaf hj];exact⟨_,rfl⟩
theorem La:cR X (.type "str") (fun xs H Q=>∃i,xs=[.int i]/\i.natAbs.log2<1920/\Q (.str (toString i)) H):=by
 intro pins s σ H xs us Q I r h;obtain⟨i,rfl,hz,q⟩:=h;obtain⟨u,rfl,t,rfl⟩:=vals1 r;exact PySem.P.str_of_int hz ⟨.str _,H,I.tok _,⟨_,rfl⟩,q⟩
end
structure ObjM (h:Heap)(x dx C:Addr)(mA:Mgx):Prop where
 obj:h.get? x=some (PySem.W.instObj C dx)
 ns:h.Ns1 dx mA
 ne:dx≠x
theorem O7 {h:Heap}{dx:Addr}{mA:Mgx}(n:h.Ns1 dx mA):∃od,h.get? dx=some od/\∀name,PySem.W.lookIn name od=some (mA name):=by
 obtain⟨o,es,ep,ho,hd,hk,_,hm⟩:=n;refine⟨o,ho,fun name=>?_⟩;have e:=hm name;unfold nsFind findBy at e;rw[<-Array.find?_toList]at e;unfold PySem.W.lookIn;rw[hd];dsimp only
 split
 ·rename_i y q;rw[q]at e;exact congrArg some e
 ·rename_i q;rw[q]at e;have a:es.toList.any (·.refKey)=false:=by
   rw[xb9];intro y hy;obtain⟨z,t,hkey⟩:=hk y (xde.mp hy)
   simp[DictEntry.refKey,hkey]
  have a':¬ es.toList.any (·.refKey)=true:=by rw[a];exact xaj
  rw[xaf a'];exact congrArg some e
theorem ObjM.look (I:ObjM h x dx C mA):∃od,PySem.W.InstAt h x (PySem.W.instObj C dx) C (some od)/\∀name,PySem.W.lookIn name od=some (mA name):=
 let ⟨od,ho,hl⟩:=O7 I.ns
 ⟨od,⟨I.obj,rfl,rfl,ho⟩,hl⟩
section
variable {P:Program}{w:World}{H H':Hp}{h h':Heap}{a C dx:Addr}{fs fs':List (Str×V)}
theorem Nx (hok:bK P w H h)(e:H a=some (.ins C dx fs)):∃mA,ObjM h a dx C mA/\(∀f,lF (fs.lookup f) (mA f))/\PySem.Within mA (fs.map (·.1))/\fs.length<=1000/\H dx=some (.own a):=by
 obtain⟨d,z,ne,ob,mA,n,r,q⟩:=(show cj P w H h a (.ins C dx fs) from hok a _ e);exact⟨mA,⟨ob,n,ne⟩,r,q,z,d⟩
end
structure Cls (K:Fgx)(C:Addr):Prop where
 pg:PySem.W.plainGet K C Str.empty=true
 hd:PySem.W.hasDictIn K C=true
 po:PySem.W.plainOver K C=true
 sa:PySem.W.findIn K (.ref C) "__setattr__"=some (some (.builtin "object.__setattr__"))
theorem Cls.get {K:Fgx}{C:Addr}(c:Cls K C)(f:Str):PySem.W.plainGet K C f=true:=c.pg
structure Con (K:Fgx)(C:Addr)(f:Str)(v:V)(u:Value):Prop where
 at_:PySem.W.findIn K (.ref C) f=some (some u)
 rel:RelV v u
 get:PySem.W.specialIn K u "__get__"=some none
 cp:PySem.W.copiedNames.contains f=false
structure Meth (K:Fgx)(C:Addr)(m:Str)(f:Addr):Prop where
 at_:PySem.W.findIn K (.ref C) m=some (some (.ref f))
 fn:PySem.W.isFn K (.ref f)=true
 kp:PySem.W.keepIn K (.ref f)=true
section
variable {X:Cx}{o e value:Expr}{f:Str}{pos pos' tpos:Pos}{ta tv:TE}
noncomputable def pH:V->V->Hp->VK->Prop:=fun x y H Q=>∃i j,x=.int i/\y=.int j/\Q (.int (i + j)) H
end
section
variable {X:Cx}{pins:Pnx}{σ:St}{H:Hp}{s:Shared}{A:Around}{E:Value->Shared->Prop}{Q:Value->Shared->Prop}{c:Value}{b:Bool}
inductive TyOf (K:Fgx)(H:Hp):V->Value->Prop where
 |non:TyOf K H .non (.type "NoneType")
 |bl (x:Bool):TyOf K H (.bl x) (.type "bool")
 |int (i:Int):TyOf K H (.int i) (.type "int")
 |str (x:Str):TyOf K H (.str x) (.type "str")
 |flt (x:UInt64):TyOf K H (.flt x) (.type "float")
 |lst {a:Addr} {xs:List V} (e:H a=some (.lst xs)):TyOf K H (.ref a) (.type "list")
 |frz {a:Addr} {o:Obj} {xs:List V} (e:H a=some (.frz o (.lst xs))):TyOf K H (.ref a) (.type "list")
 |tup {a:Addr} {xs:List V} (e:H a=some (.tup xs)):TyOf K H (.ref a) (.type "tuple")
 |dK {a:Addr} {kvs:List (Key×V)} (e:H a=some (.dK kvs)):TyOf K H (.ref a) (.type "dict")
 |dT {a:Addr} {kvs:List (List Key×V)} (e:H a=some (.dT kvs)):TyOf K H (.ref a) (.type "dict")
 |ins {a C dx:Addr} {fs:List (Str×V)} (e:H a=some (.ins C dx fs)) (cl:Cls K C) (ha:PySem.W.findIn K (.ref C) "__class__"=some (some (.builtin "object.__class__")))
   (hn:PySem.W.specialIn K (.builtin "object.__class__") "__get__"=some (some (.builtin "getset_descriptor.__get__"))) (htk:PySem.W.takesIn K (.builtin "object.__class__")=some true)
   (hm:PySem.W.mroIn K C (.type "object")=some true):TyOf K H (.ref a) (.ref C)
theorem xP (I:Inv X pins σ H s)(rx:RelV x u)(ty:TyOf X.K H x t)(e:PySem.W.kitOne X.K t c=some b)(h:∀tk,Q (.bool b) {s with toks:=tk}):
    wpAny (model X.prog X.w) A (call (.builtin "isinstance") [u,c]) Q E s:=by
  cases ty with
  |non=>cases (show u=Value.none from rx);exact xaC PySem.W.kitx_none I.kIn True.intro e (fun z=>nomatch z) h
  |bl y=>cases (show u=Value.bool y from rx);exact xaC PySem.W.kitx_bool I.kIn True.intro e (fun z=>nomatch z) h
  |int i=>obtain⟨t,q⟩:=(show ∃t,u=Value.int i t from rx);cases q;exact xaC PySem.W.kitx_int I.kIn True.intro e (fun z=>nomatch z) h
  |str y=>obtain⟨t,q⟩:=(show ∃t,u=Value.str y t from rx);cases q;exact xaC PySem.W.kitx_str I.kIn True.intro e (fun z=>nomatch z) h
  |flt y=>obtain⟨t,q⟩:=(show ∃t,u=Value.float y t from rx);cases q;exact xaC PySem.W.kitx_float I.kIn True.intro e (fun z=>nomatch z) h
  | @lst a xs ea=>
    cases (show u=Value.ref a from rx);obtain⟨_,_,n,_,h1⟩:=(show cj X.prog X.w H s.heap a (.lst xs) from I.hok a _ ea);exact xaC xcE I.kIn ⟨_,h1,rfl⟩ e (fun z=>nomatch z) h
  | @frz a ob xs ea=>
    cases (show u=Value.ref a from rx);obtain⟨_,_,_,n,_,h1⟩:=(show cj X.prog X.w H s.heap a (.frz ob (.lst xs)) from I.hok a _ ea);exact xaC xcE I.kIn ⟨_,h1,rfl⟩ e (fun z=>nomatch z) h
  | @tup a xs ea=>
    cases (show u=Value.ref a from rx);obtain⟨_,_,_,p⟩:=(show cj X.prog X.w H s.heap a (.tup xs) from I.hok a _ ea);obtain⟨o,h1,h2,_⟩:=p;exact xaC xdr I.kIn ⟨o,h1,h2⟩ e (fun z=>nomatch z) h
  | @dK a kvs ea=>
    cases (show u=Value.ref a from rx);obtain⟨_,_,vs,_,p⟩:=(show cj X.prog X.w H s.heap a (.dK kvs) from I.hok a _ ea);obtain⟨o,es,ep,h1,h2,_⟩:=p;exact xaC xcF I.kIn ⟨o,h1,h2.1⟩ e (fun z=>nomatch z) h
  | @dT a kvs ea=>
    cases (show u=Value.ref a from rx);obtain⟨_,_,xs,_,o,es,ep,h1,h2,_⟩:=(show cj X.prog X.w H s.heap a (.dT kvs) from I.hok a _ ea);exact xaC xcF I.kIn ⟨o,h1,h2.1⟩ e (fun z=>nomatch z) h
  | @ins a C dx fs ea cl ha hn htk hm=>
    cases (show u=Value.ref a from rx);obtain⟨mA,O,_⟩:=Nx I.hok ea;obtain⟨od,J,_⟩:=O.look;exact xaC (PySem.W.kitx_own (cl.get _) cl.hd ha hn htk hm) I.kIn J e (fun z=>nomatch z) h
end
structure Room (k:Nat)(A:Around):Prop where
 hd:A.handled=none
 dp:A.depth + 3 * k + 5<recursionLimit
 un:A.units + 16 * k + 200<cLine
theorem Room.mono (r:Room k A)(h:j<=k):Room j A:=⟨r.hd,by have:=r.dp;omega,by have:=r.un;omega⟩
theorem Room.deeper (r:Room (k + 1) A)(env:Env):Room k (A.deeper env):=
 ⟨r.hd,by have:=r.dp;show A.depth + 1 + 3 * k + 5<_;omega,by have:=r.un;show A.units + 3 + 16 * k + 200<_;omega⟩
theorem Room.depth (r:Room k A):A.depth<recursionLimit:=by have:=r.dp;omega
theorem Room.units (r:Room k A):A.units + 64<cLine:=by have:=r.un;omega
def DX:TA:=fun _ H Q=>Q [] H
noncomputable def Xw (ta:TE) (tr:TA):TA:=fun σ H Q=>ta σ H fun x H1=>tr σ H1 fun xs H2=>Q (x::xs) H2
section
variable {X:Cx}{e:Expr}{es:List Expr}{te:TE}{t:TA}{pos:Pos}
theorem pF:PA X [] DX:=fun _ _ _ _ H Q I h=>Calls.spliced_nil ⟨[],H,I,.nil,h⟩
theorem lY (ha:PE X e te)(hr:PA X es t)(hs:starEach (e::es) X.env=(false,eval e X.env)::starEach es X.env:=by rfl):PA X (e::es) (Xw te t):=by
 intro pos pins s σ H Q I h;rw[hs];show wpAny _ _ (spliced ((false,eval e X.env)::backTo pos (starEach es X.env))) _ _ s;refine Calls.spliced_cons (aU (ha pins s σ H _ I h) fun u s1 ⟨x,H1,I1,r1,q1⟩=>?_);exact aU (hr pos pins s1 σ H1 _ I1 q1) fun us s2 ⟨xs,H2,I2,r2,q2⟩=>⟨x::xs,H2,I2,.cons r1 r2,q2⟩
noncomputable def Ed (t:TA):TE:=fun σ H Q=>t σ H fun xs H1=>xs.length<=sizeLine/\∀p,H1 p=none->Q (.ref p) (upd H1 p (.tup xs))
noncomputable def DW (t:TA):TE:=fun σ H Q=>t σ H fun xs H1=>xs.length<=sizeLine/\∀p,H1 p=none->Q (.ref p) (upd H1 p (.lst xs))
theorem RJ {x1}(h:PA X es t):PE X (.Tuple es x1 pos) (Ed t):=by
 intro pins s σ H Q I hq;refine wpAny_Tuple_spliced (aU (h pos pins s σ H _ I hq) fun us s1 ⟨xs,H1,I1,r,z,q⟩=>⟨by rw[<-r.length];exact z,?_⟩);have hf:H1 s1.heap.objs.size=none:=I1.hok.fresh (tG _);refine⟨.ref s1.heap.objs.size,upd H1 s1.heap.objs.size (.tup xs),I1.laid (t':=s1.toks) (fun b u e=>xac _ e) (tG _) ?_,rfl,q _ hf⟩;exact⟨z,us,r,⟨_,xau _ rfl,rfl,_,rfl⟩⟩
theorem RB (h:PA X es t):PE X (.List es pos) (DW t):=by
 intro pins s σ H Q I hq;refine wpAny_List_spliced (aU (h pos pins s σ H _ I hq) fun us s1 ⟨xs,H1,I1,r,z,q⟩=>⟨by rw[<-r.length];exact z,?_⟩);have hf:H1 s1.heap.objs.size=none:=I1.hok.fresh (tG _);refine⟨.ref s1.heap.objs.size,upd H1 s1.heap.objs.size (.lst xs),I1.laid (t':=s1.toks) (fun b u e=>xac _ e) (tG _) ?_,rfl,q _ hf⟩;exact⟨z,us,0,r,xau _ rfl⟩
end
abbrev Sp:=List V->Hp->VK->XK->Prop
abbrev d7:=List Env->Hp->Shared->XK->Value->Shared->Prop
structure Env0 (P:Program)(w:World)(K:Fgx)(mg:Mgx)(base:Heap)(A:Around)(outer:List Env)(s:Shared)(H:Hp):Prop where
 frames:A.frames=some outer
 mod:Mod K mg base
 bs:∀b o,base.get? b=some o->s.heap.get? b=some o/\H b=none
 bsz:base.objs.size<=s.heap.objs.size
 funs:s.heap.FunFrames base outer
 frf:∀b∈frs outer,H b=none
 hok:bK P w H s.heap
 bare:AllBare s.gens
def CE (outer:List Env)(P:Program)(w:World)(H:Hp)(s:Shared)(Q:VK)(u:Value)(s':Shared):Prop:=
 ∃v H',s'.os=s.os/\AllBare s'.gens/\Un (frs outer) [] H H' s.heap s'.heap/\bK P w H' s'.heap/\RelV v u/\Q v H'
def CR (CX:d7)(outer:List Env)(P:Program)(w:World)(H:Hp)(s:Shared)(Q:VK)(E:XK)(r:Result)(s':Shared):Prop:=
 match r with
 |.ok (.ret u)=>CE outer P w H s Q u s'
 |.ok _=>False
 |.error e=>CX outer H s E e s'
structure FnOk (P:Program)(w:World)(K:Fgx)(mg:Mgx)(base:Heap)(CX:d7)(k:Nat)(f:Addr)(fd:FuncData)(ps:List Str)(sp:Sp):Prop where
 len:∀vs H Q E,sp vs H Q E->vs.length=ps.length
 run:∀(A:Around) (outer:List Env) (s:Shared) (H:Hp) (args:Args) (us:List Value) (vs:List V) (Q:VK) (E:XK),Room k A->Env0 P w K mg base A outer s H->BindsTo s fd args (ps.zip us)->Vals vs us->sp vs H Q E->
  codeAny (model P w) A (.call (.ref f) args) (CR CX outer P w H s Q E) s
theorem FnOk.mono {P:Program}{w:World}{K:Fgx}{mg:Mgx}{base:Heap}{CX:d7}{j k:Nat}{f:Addr}{fd:FuncData}{ps:List Str}{sp:Sp}(F:FnOk P w K mg base CX j f fd ps sp)(h:j<=k):
  FnOk P w K mg base CX k f fd ps sp:=⟨F.len,fun A outer s H args us vs Q E hr=>F.run A outer s H args us vs Q E (hr.mono h)⟩
section
variable {X:Cx}{pins:Pnx}{σ:St}{H:Hp}{s s':Shared}
theorem Inv.env0 (I:Inv X pins σ H s):Env0 X.prog X.w X.K X.mg X.base X.A X.stack s H:=
 ⟨I.ok.frames,I.ok.mod,I.bs,xav I.ok.bsz I.sz,I.stack,I.stkFree,I.hok,I.bare⟩
theorem Inv.after (I:Inv X pins σ H s)(h:CE X.stack X.prog X.w H s Q u s'):EP X pins σ Q u s':=by
 obtain⟨v,H',os,bare,un,hok,r,q⟩:=h;obtain⟨hh,g,d,t,os'⟩:=s';obtain rfl:os'=s.os:=os;exact⟨v,H',I.call (h':=hh) (g':=g) (d':=d) (t':=t) (ch:=[]) un hok bare (fun b z=>absurd z (by simp)),r,q⟩
end
noncomputable def Xu (sp:Sp) (dvs:List V) (E:XK) (t:TA):TE:=fun σ H Q=>t σ H fun vs H1=>sp (vs ++ dvs) H1 Q E
def Binds (K:Fgx)(fd:FuncData)(ps:List Str)(ds:List Value):Prop:=
 ∀(s:Shared) (us:List Value),K.In s.heap->(us ++ ds).length=ps.length->BindsTo s fd ⟨us,[]⟩ (ps.zip (us ++ ds))
theorem Binds.all {K:Fgx}{fd:FuncData}{ps:List Str}(h:∀us:List Value,us.length=ps.length->bindArgs fd ⟨us,[]⟩=pure (ps.zip us)):Binds K fd ps []:=fun s us _ hl=>by
 rw[xbg]at hl ⊢;exact .of_eq (h us hl)
def Passes (CX:d7)(X:Cx)(E:XK):Prop:=∀(pins:Pnx) (σ:St) (H:Hp) (s:Shared) (e:Value) (s':Shared),Inv X pins σ H s->CX X.stack H s E e s'->X.xe e s'
section
variable {X:Cx}{CX:d7}{k:Nat}{f C:Addr}{fd:FuncData}{ps:List Str}{sp:Sp}{dvs:List V}{ds:List Value}{E:XK}{x m:Str}{p pos apos:Pos}{e o:Expr}{es:List Expr}{ta:TE}{t:TA}
theorem Wd (F:FnOk X.prog X.w X.K X.mg X.base CX k f fd ps sp)(hr:Room k X.A)(hb:Binds X.K fd ps ds)(hd:Vals dvs ds)(hx:Passes CX X E)
    (I:Inv X pins σ H s) (r:Vals vs us) (h:sp (vs ++ dvs) H Q E):wpAny (model X.prog X.w) X.A (call (.ref f) us) (EP X pins σ Q) X.xe s:=by
  have r2:Vals (vs ++ dvs) (us ++ ds):=r.append hd;have hl:(us ++ ds).length=ps.length:=by rw[<-r2.length];exact F.len _ _ _ _ h
  refine wpAny_call (xcR (F.run X.A X.stack s H ⟨us,[]⟩ (us ++ ds) (vs ++ dvs) Q E hr I.env0 (hb s us I.kIn hl) r2 h) fun r s' hq=>?_)
  cases r with
  |error e=>exact hx pins σ H s e s' I hq
  |ok fl=>
    cases fl with
    |ret u=>exact I.after hq
    |next=>exact False.elim hq
    |brk=>exact False.elim hq
    |cont=>exact False.elim hq
theorem Rt (F:FnOk X.prog X.w X.K X.mg X.base CX k f fd ps sp)(hr:Room k X.A)(hg:Gl X x)(hm:X.mg x=some (.ref f))(hk:PySem.W.keepIn X.K (.ref f)=true)(hb:Binds X.K fd ps ds)(hd:Vals dvs ds)(hx:Passes CX X E)
  (ha:PA X (e::es) t) (hdb:(x==("__debug__":Str))=false:=by decide) (he:starEach (e::es) X.env=(false,eval e X.env)::starEach es X.env:=by rfl) (hpl:(backTo pos (starEach es X.env)).any (·.1)=false:=by rfl):
  PE X (.Call (.Name x p) (e::es) [] pos) (Xu sp dvs E t):=by
 intro pins s σ H Q I h;refine xcx (O2 I hg hm ?_ hdb);refine PySem.W.callWith_K (h₀:=X.base) I.ok.mod.kin hk (aU (ha pos pins s σ H _ I h) fun us s1 ⟨vs,H1,I1,r,q⟩=>⟨I1.kIn,?_⟩) he hpl;exact Wd F hr hb hd hx I1 r q
structure Mk (K:Fgx)(C f:Addr):Prop where
 makes:PySem.W.makesIn K C=true
 init:PySem.W.findIn K (.ref C) "__init__"=some (some (.ref f))
 fn:PySem.W.isFn K (.ref f)=true
 kp:PySem.W.keepIn K (.ref C)=true
end
section
variable {X:Cx}{CX:d7}{k:Nat}{f C:Addr}{fd:FuncData}{ps ks:List Str}{sp:Sp}{E:XK}{x m:Str}{p pos apos kpos:Pos}{e o:Expr}{es:List Expr}{kws:List Keyword}{te ta:TE}{t tk:TA}{nm:Option Str}
structure KBinds (K:Fgx)(fd:FuncData)(ps ks:List Str)(g:List Value->List Value->List Value)(gV:List V->List V->List V):Prop where
 to:∀(s:Shared) (us ws:List Value),K.In s.heap->(g us ws).length=ps.length->BindsTo s fd ⟨us,ks.zip ws⟩ (ps.zip (g us ws))
 rel:∀{vs:List V} {us:List Value} {zs:List V} {ws:List Value},Vals vs us->Vals zs ws->Vals (gV vs zs) (g us ws)
variable {g:List Value->List Value->List Value}{gV:List V->List V->List V}
end
structure FnScope (N P:List Str)(sc:Scope):Prop where
 kind:sc.kind=.function
 co:sc.isCoroutine=false
 gen:sc.isGenerator=false
 nd:N.Nodup
 pre:N.take P.length=P
 par:∀x∈P,sc.names.lookup x=some .local\/sc.names.lookup x=some .cell
 nofree:∀y∈sc.names,y.2≠ .free
theorem Fy {kindOf:Str->Option NameKind}{x:Str}:∀{binds:List (Str×Value)} {m:Mgx},(∀v,(x,v)∉binds)->bindL kindOf binds m x=m x
  | [],_,_=>rfl
  |(n,v)::r,m,h=>by
    unfold bindL;rw[Fy fun w hw=>h w (xak _ hw)]
    split
    · have:x≠n:=by rintro rfl;exact h v xaG
      simp[this]
    · rfl
theorem Fv {kindOf:Str->Option NameKind}{x:Str}:∀{binds:List (Str×Value)} {m:Mgx},(∀v,(x,v)∉binds)->bindC kindOf binds m x=m x
  | [],_,_=>rfl
  |(n,v)::r,m,h=>by
    unfold bindC;rw[Fv fun w hw=>h w (xak _ hw)]
    split
    · rfl
    · have:x≠n:=by rintro rfl;exact h v xaG
      simp[this]
theorem Fw {kindOf:Str->Option NameKind}{x:Str}{v:Value}:∀{P:List Str} {vs:List Value} {i:Nat} {m:Mgx},P.Nodup->P[i]? =some x->vs[i]? =some v->kindOf x=some .local->
    bindL kindOf (P.zip vs) m x=some v
  | [],_,_,_,_,h,_,_=>by simp at h
  |_::_,[],_,_,_,_,h,_=>by simp at h
  |p::P,w::vs,0,m,nd,h1,h2,hk=>by
    simp at h1 h2;subst h1;subst h2
    show bindL kindOf ((p,w)::P.zip vs) m p=_;unfold bindL;rw[Fy fun v hv=>(xbN.mp nd).1 (xc6 hv).1,Z7 hk]
    simp
  |p::P,w::vs,i + 1,m,nd,h1,h2,hk=>by
    show bindL kindOf ((p,w)::P.zip vs) m x=_;unfold bindL;exact Fw (i:=i) (xbN.mp nd).2 (by simpa using h1) (by simpa using h2) hk
theorem Ft {kindOf:Str->Option NameKind}{x:Str}{v:Value}:∀{P:List Str} {vs:List Value} {i:Nat} {m:Mgx},P.Nodup->P[i]? =some x->vs[i]? =some v->kindOf x≠some .local->
    bindC kindOf (P.zip vs) m x=some v
  | [],_,_,_,_,h,_,_=>by simp at h
  |_::_,[],_,_,_,_,h,_=>by simp at h
  |p::P,w::vs,0,m,nd,h1,h2,hk=>by
    simp at h1 h2;subst h1;subst h2
    show bindC kindOf ((p,w)::P.zip vs) m p=_;unfold bindC;rw[Fv fun v hv=>(xbN.mp nd).1 (xc6 hv).1,xaf hk]
    simp
  |p::P,w::vs,i + 1,m,nd,h1,h2,hk=>by
    show bindC kindOf ((p,w)::P.zip vs) m x=_;unfold bindC;exact Ft (i:=i) (xbN.mp nd).2 (by simpa using h1) (by simpa using h2) hk
noncomputable def start (N:List Str) (vs:List V):St:=vs.map some ++ List.replicate (N.length - vs.length) none
noncomputable def f9 (CX:d7) (P:Program) (w:World) (K:Fgx) (mg:Mgx) (base:Heap) (N:List Str) (qual:Str) (scope:Scope) (f:Addr) (cd:Value) (A:Around) (outer:List Env) (s:Shared) (H:Hp) (E:XK):Cx where
 prog:=P
 w:=w
 K:=K
 mg:=mg
 base:=base
 A:=A.deeper (envOfC qual scope s.heap.objs.size f cd)
 N:=N
 s₀:=s
 H₀:=H
 env:=envOfC qual scope s.heap.objs.size f cd
 outer:=outer
 stack:=envOfC qual scope s.heap.objs.size f cd::outer
 ex:=[]
 calm:=true
 fn:=fun _=>true
 pn:=[]
 xe:=fun e s'=>wpAny (model P w) (A.deeper (envOfC qual scope s.heap.objs.size f cd)) (leaving (envOfC qual scope s.heap.objs.size f cd) e) (fun _ s''=>CX outer H s E e s'') (fun e' s''=>CX outer H s E e' s'') s'
theorem Ga {sc:Scope}{n:Nat}{x:Str}(h:sc.names.lookup x=some .cell):∃c,(cellsFrom n sc.names []).lookup x=some c:=by
 have q:=xc8 sc.names n [] (.inl h);exact Option.isSome_iff_exists.mp q
theorem NK {CX:d7}{P:Program}{w:World}{K:Fgx}{mg:Mgx}{base:Heap}{N ps:List Str}{qual:Str}{scope:Scope}{f:Addr}{cd:Value}{A:Around}{outer:List Env}{s s1:Shared}{H:Hp}{E:XK}{us:List Value}{vs:List V}
  (S:FnScope N ps scope) (hd:A.handled=none) (e0:Env0 P w K mg base A outer s H) (hl:vs.length=ps.length) (r:Vals vs us)
  (x:InCallC s s.heap.objs.size (bindL (envOfC qual scope s.heap.objs.size f cd).kindOf (ps.zip us) fun _=>none) (cellsFrom (s.heap.objs.size + 1) scope.names []) (bindC (envOfC qual scope s.heap.objs.size f cd).kindOf (ps.zip us) fun _=>none) s1):
  Inv (f9 CX P w K mg base N qual scope f cd A outer s H E) [] (start N vs) H s1:=by
 have hpl:ps.length<=N.length:=by have:=congrArg List.length S.pre;rw[xbb]at this;omega
 obtain ⟨h1, tk, rfl, hk⟩ := x.done;have noA : ∀ b : Addr, b ∉ (f9 CX P w K mg base N qual scope f cd A outer s H E).ex := fun b z => absurd (show b ∈ ([] : List Addr) from z) (by simp);refine ⟨⟨e0.mod,S.kind,rfl,rfl,tG _,fun y z c h1 h2=>?_,fun y hy=>?_,fun y c _ h=>?_,fun _=>hd,Around.frames_deeper e0.frames,.inr ⟨rfl,rfl⟩,fun b z=>absurd z (noA b),e0.bs,e0.bsz,fun b _ _=>noA b,fun b z=>absurd z (noA b),e0.funs,e0.frf⟩,
  rfl,e0.bare,Un.kept hk,⟨_,x.toInCall.ns,fun i y v h1 h2 h3=>?_⟩,fun y c h=>⟨_,x.cell y c h⟩,e0.hok.fresh (tG _),fun y c h=>?_,fun p hp=>absurd (show p∈([]:Pnx) from hp) (by simp),e0.hok.kept hk,?_⟩
 ·exact name_of_addr x.apart (xbI h1) (xbI h2)
 ·have hy:scope.names.lookup y=some .cell\/scope.names.lookup y=some .free:=hy;rcases hy with hy |hy
  ·exact Ga hy
  ·exact absurd rfl (S.nofree _ (xbI hy))
 ·exact xdq (x.above y c (xbI h))
 ·have hi:i<vs.length:=by
   unfold start at h2
   by_cases hi:i<vs.length
   ·exact hi
   ·rw[xae (by simpa using hi)]at h2;rw[xbK]at h2;split at h2<;>cases h2
  have ha:vs[i]? =some v:=by
   unfold start at h2;rw[Z_ (by simpa using hi),xag]at h2
   cases e:vs[i]? with
   |none=>rw[e]at h2;cases h2
   |some a=>rw[e]at h2;cases h2;rfl
  obtain⟨u,hu,rv⟩:=r.get ha;have hp:ps[i]? =some y:=by
   rw[<-S.pre,List.getElem?_take_of_lt (by omega)];exact h1
  have ndP:ps.Nodup:=by rw[<-S.pre];exact S.nd.sublist (List.take_sublist _ _)
  refine⟨u,rv,?_⟩;rcases S.par y (xaw hp) with k |k
  ·exact .inl ⟨k,Fw ndP hp hu k⟩
  ·obtain⟨c,e⟩:=Ga (n:=s.heap.objs.size + 1) k;refine .inr ⟨.inl k,c,e,?_⟩;have q:=x.cell y c e;rw[Ft ndP hp hu (by show scope.names.lookup y≠_;rw[k];decide)]at q;exact q
 ·exact e0.hok.fresh (xdq (x.above y c (xbI h)))
 ·unfold start;show _=N.length;rw[Z4,xai,List.length_replicate];omega
theorem Mz {CX:d7}{P:Program}{w:World}{K:Fgx}{mg:Mgx}{base:Heap}{k:Nat}{f:Addr}{name qual:Str}{params:Arguments}{body:List Stmt}{scope:Scope}{dV kV doc pm cdv ct oc:Value}{an od:Option Addr}
    {osl:Array (Option Value)} {N ps:List Str} {sp:Sp} (lk:K.lookup f=some ⟨oc,od,.func (PySem.W.fnOf name qual params body scope dV kV doc pm an cdv ct),osl⟩) (hcd:PySem.W.codeIn K cdv qual=true) (S:FnScope N ps scope)
    (len:∀vs H Q E,sp vs H Q E->vs.length=ps.length)
    (hbody:∀(A:Around) (outer:List Env) (s:Shared) (H:Hp) (vs:List V) (Q:VK) (E:XK),Room k (A.deeper (envOfC qual scope s.heap.objs.size f cdv))->sp vs H Q E->
      ∃t,fP (f9 CX P w K mg base N qual scope f cdv A outer s H E) body t/\t {nx:=fun _ H'=>Q .non H',rt:=Q} (start N vs) H):
    FnOk P w K mg base CX (k + 1) f (PySem.W.fnOf name qual params body scope dV kV doc pm an cdv ct) ps sp:=by
  refine⟨len,fun A outer s H args us vs Q E hr e0 hb r hsp=>?_⟩;have hl:=len _ _ _ _ hsp;have KX:K.In s.heap:=e0.mod.kin.keeps fun b o e=>(e0.bs b o e).1;have lim:s.heap.NoLimit:=e0.mod.nolimit.keeps fun b o e=>(e0.bs b o e).1;have hkind:∀y∈ps.zip us,scope.names.lookup y.1=some .local\/(scope.names.lookup y.1=some .cell/\((cellsFrom (s.heap.objs.size + 1) scope.names []).lookup y.1).isSome=true):=fun⟨n,v⟩ hy=>by
    rcases S.par n (xc6 hy).1 with q |q
    · exact .inl q
    · exact .inr ⟨q,xc8 _ _ _ (.inl q)⟩
  refine codeAny_call_function hr.depth (KX _ _ lk) rfl S.co S.gen rfl (PySem.W.codeRec_of KX hcd) (hb _ _ _ _ ?_);refine wpAny_newFunctionEnv_cells S.kind hkind fun env he s1 x=>?_;subst he;refine⟨lim.keeps x.toInCall.keep,codeAny_func ?_⟩;obtain⟨t,ht,hq⟩:=hbody A outer s H vs Q E (hr.deeper _) hsp;have I:Inv (f9 CX P w K mg base N qual scope f cdv A outer s H E) [] (start N vs) H s1:=NK S hr.hd e0 hl r x;refine xbh (ht [] s1 (start N vs) H _ I hq) (fun fl s' hs=>?_) fun e s' hs=>hs;have fin:∀{σ':St} {H':Hp} {v:V} {u:Value},Inv (f9 CX P w K mg base N qual scope f cdv A outer s H E) [] σ' H' s'->RelV v u->Q v H'->CE outer P w H s Q u s':=
    fun {σ' H' v u} J rv q=>⟨v,H',J.os,J.bare,J.base,J.hok,rv,q⟩
  cases fl with
  |ret u=>
    obtain⟨v,σ',H',J,rv,q⟩:=hs;exact fin J rv q
  |next=>
    obtain⟨σ',H',J,q⟩:=hs;exact fin (v:=V.non) (u:=Value.none) J rfl q
  |brk=>
    obtain⟨_,_,_,q⟩:=hs;exact False.elim q
  |cont=>
    obtain⟨_,_,_,q⟩:=hs;exact False.elim q
section
variable {X:Cx}{x:Str}{p pos:Pos}{e:Expr}{es:List Expr}{t:TA}{id T:String}{r:List V->Hp->VK->Prop}
noncomputable def DP (r:List V->Hp->VK->Prop) (t:TA):TE:=fun σ H Q=>t σ H fun vs H1=>r vs H1 Q
theorem Cd (hc:cR X (.builtin id) r)(hg:Gl X x)(hm:X.mg x=none)(hv:bootBuiltins x=some (.builtin id))(ha:PA X (e::es) t)(hn:x≠"__name__":=by decide)(hdb:(x==("__debug__":Str))=false:=by decide)
  (he:starEach (e::es) X.env=(false,eval e X.env)::starEach es X.env:=by rfl) (hpl:(backTo pos (starEach es X.env)).any (·.1)=false:=by rfl):PE X (.Call (.Name x p) (e::es) [] pos) (DP r t):=by
 intro pins s σ H Q I h;refine xcx (vf I hg hm hv ?_ hn hdb);exact PyProof.Rows.callWith_builtin1 (aU (ha pos pins s σ H _ I h) fun us s1 ⟨vs,H1,I1,r1,q1⟩=>hc pins s1 σ H1 vs us Q I1 r1 q1) he hpl
theorem Ii (hc:cR X (.type T) r)(hg:Gl X x)(hm:X.mg x=none)(hv:bootBuiltins x=some (.type T))(ha:PA X (e::es) t)(hn:x≠"__name__":=by decide)(hdb:(x==("__debug__":Str))=false:=by decide)
  (he:starEach (e::es) X.env=(false,eval e X.env)::starEach es X.env:=by rfl) (hpl:(backTo pos (starEach es X.env)).any (·.1)=false:=by rfl):PE X (.Call (.Name x p) (e::es) [] pos) (DP r t):=by
 intro pins s σ H Q I h;refine xcx (vf I hg hm hv ?_ hn hdb);exact xbT (aU (ha pos pins s σ H _ I h) fun us s1 ⟨vs,H1,I1,r1,q1⟩=>hc pins s1 σ H1 vs us Q I1 r1 q1) he hpl
end
end L2
namespace HT
open PySem PyProof.Rows
section
open PySem.SeqAt
open PySem.AutoSeq1 (wpAny_loadPart')
open PySem.MeetsSeq PySem.MeetsSeq2 PySem.MeetsSeq3
end
section
variable {prog:Program}{w:World}{A:Around}{E:Value->Shared->Prop}{s:Shared}
noncomputable def aR (n d:Nat):Option Int->Nat
 |none=>d
 |some v=>if v<0 then(v + (n:Int)).toNat else min v.toNat n
theorem Wh (n d:Nat):aR n d none=d:=rfl
theorem Wg (n d k:Nat):aR n d (some (k:Int))=min k n:=by
 show(if (k:Int)<0 then((k:Int) + (n:Int)).toNat else min (k:Int).toNat n)=min k n
 rw[xaf (by omega),xcG]
theorem Wf (n d:Nat)(hd:d<=n)(o:Option Int):aR n d o<=n:=by
  cases o with
  |none=>exact hd
  |some v=>
    show(if v<0 then(v + (n:Int)).toNat else min v.toNat n)<=n
    by_cases hv:v<0
    · rw[Z7 hv];omega
    · rw[xaf hv];exact Nat.min_le_right _ _
theorem Ge (v:Int)(n d:Nat):(if v<0 then max (v + (n:Int)) 0 else min v (n:Int))=((aR n d (some v):Nat):Int):=by
 show(if v<0 then max (v + (n:Int)) 0 else min v (n:Int))=(((if v<0 then(v + (n:Int)).toNat else min v.toNat n):Nat):Int)
 by_cases hv:v<0
 ·simp only[Z7 hv];omega
 ·simp only[xaf hv];omega
theorem Ku (lo hi:Option Int)(n:Nat):Builtin.Slice.sliceAdjust lo hi 1 (n:Int)=(((aR n 0 lo:Nat):Int),((aR n n hi:Nat):Int)):=by
 have h1:¬ ((1:Int)<0):=by omega
 unfold Builtin.Slice.sliceAdjust;simp only[h1,xaF];refine Prod.ext ?_ ?_
 ·cases lo with
  |none=>rfl
  |some v=>exact Ge v n 0
 ·cases hi with
  |none=>rfl
  |some v=>exact Ge v n n
theorem RZ (i j:Nat):Builtin.Slice.slicePlaces (i:Int) (j:Int) 1=j - i:=by
 unfold Builtin.Slice.slicePlaces;have h1:(1:Int) > 0:=by omega
 simp only[h1,xaZ,Int.ediv_one]
 split<;>omega
theorem JG (p:IsPart v o)(h:Q o s):wpAny (model prog w) A (Builtin.Slice.slicePartIndex v) Q E s:=by
 cases p with
 |none=>exact slicePart_none h
 |int i t=>exact slicePart_int h
theorem WL {sl:Addr}{vl vu:Value}{lo hi:Option Int}{n:Nat}{Q:Int×Int×Nat->Shared->Prop}(hs:s.heap.IsSliceOf sl vl vu .none)(pl:IsPart vl lo)(pu:IsPart vu hi)
  (h:Q (((aR n 0 lo:Nat):Int),1,aR n n hi - aR n 0 lo) s):wpAny (model prog w) A (Builtin.Slice.sliceApplied (.ref sl) (pure (n:Int))) Q E s:=by
 obtain⟨os,hos,hcs,hds⟩:=id hs;unfold Builtin.Slice.sliceApplied Builtin.Slice.sliceFields;refine Z2 (Z2 (xce hos hds (x:=vl) rfl (Z2 (xce hos hds (x:=vu) rfl (Z2 (xce hos hds (x:=.none) rfl (Z9 ?_)))))));refine Z2 (slicePart_none ?_);show wpAny _ _ (if ((1:Int)==0)=true then _ else _) _ _ s
 rw[xaf (by decide)];refine Z2 (JG pl (Z2 (JG pu (Z2 (Z9 ?_)))));show wpAny _ _ (match Builtin.Slice.sliceAdjust lo hi 1 (n:Int) with |(lo,hi)=>pure (lo,(1:Int),Builtin.Slice.slicePlaces lo hi 1)) _ _ s
 rw[Ku lo hi n];show wpAny _ _ (pure (((aR n 0 lo:Nat):Int),(1:Int),Builtin.Slice.slicePlaces ((aR n 0 lo:Nat):Int) ((aR n n hi:Nat):Int) 1)) _ _ s;rw[RZ];exact Z9 h
theorem RW (xs:Array Value)(i k:Nat):((List.range k).filterMap fun(m:Nat)=>xs[((i:Int) + (m:Int) * 1).toNat]?).toArray=((xs.toList.drop i).take k).toArray:=by
 have e:(fun(m:Nat)=>xs[((i:Int) + (m:Int) * 1).toNat]?)=fun m=>xs[i + m]? :=by
  funext m;have:((i:Int) + (m:Int) * 1).toNat=i + m:=by omega
  rw[this]
 rw[e];have:=pick_run xs i k;rw[List.filterMap_map]at this;have e2:((fun x=>xs[x]?) ∘ fun x=>i + x)=fun m=>xs[i + m]? :=rfl;rw[e2]at this;rw[this]
theorem Nf {t sl:Addr}{items:Array Value}{vl vu:Value}{lo hi:Option Int}{Q:Value->Shared->Prop}(ht:IsTup s.heap t items)(hs:s.heap.IsSliceOf sl vl vu .none)(pl:IsPart vl lo)(pu:IsPart vu hi)
  (hw:¬ (aR items.size 0 lo=0/\aR items.size items.size hi=items.size))
  (h:Q (.ref s.heap.objs.size) {s with heap:=s.heap.push {cls:=.type "tuple",data:=.seq ((items.toList.drop (aR items.size 0 lo)).take (aR items.size items.size hi - aR items.size 0 lo)).toArray}})
  (hsz:items.size<=sizeLine):wpAny (model prog w) A (getItem (.ref t) (.ref sl)) Q E s:=by
 have htake:sizeOk (.seq ((items.toList.drop (aR items.size 0 lo)).take (aR items.size items.size hi - aR items.size 0 lo)).toArray):=by
  show((items.toList.drop (aR items.size 0 lo)).take (aR items.size items.size hi - aR items.size 0 lo)).toArray.size<=sizeLine;rw[Z8,xbb,xci,xaz];omega
 have hj:aR items.size items.size hi<=items.size:=Wf _ _ (tG _) hi;obtain⟨os,hos,hcs,hds⟩:=id hs;have hTs:s.TypeIs (.ref sl) "slice":=⟨os,hos,hcs⟩;unfold getItem
 try with_reducible refine xcg ?_
 first |refine Z2 (Z9 ?_) |skip
 refine Z2 (wpAny_sequenceKey ht.typeIs (by decide) ?_);refine Z2 (wpAny_callSpecial?_slot (name:=Str.ofString "__getitem__") ht.typeIs xbJ
  (xbW xbJ ht.typeIs entry_tuple_getitem ?_ (args_tuple_getitem _ _)))
 show wpAny _ _ (Builtin.Tuple.tupleItemsOf (.ref t) >>=_) _ _ s;refine Z2 (tupleItemsOf_ ht ?_);refine Z2 (wpAny_typeOf hTs ?_);rw[Z7 (by decide)];refine Z2 (WL hs pl pu ?_);have hno:¬ ((((aR items.size 0 lo:Nat):Int)==0 && (1:Int)==1 && (aR items.size items.size hi - aR items.size 0 lo)==items.size)=true):=by
  intro q;rw[xam,xam]at q;have q1:((aR items.size 0 lo:Nat):Int)=0:=eq_of_beq q.1.1;have q2:aR items.size items.size hi - aR items.size 0 lo=items.size:=eq_of_beq q.2;exact hw ⟨by omega,by omega⟩
 show wpAny _ _ (if (((aR items.size 0 lo:Nat):Int)==0 && (1:Int)==1 && (aR items.size items.size hi - aR items.size 0 lo)==items.size)=true then _ else _) _ _ s
 rw[xaf hno,RW]
 first
  |exact Z2 (m:=Builtin.Tuple.tupleExact _) (xbC (Z9 ⟨_,rfl,Z9 h⟩) htake)
  |exact Z2 (m:=Builtin.Tuple.tupleExact _) (xbC (Z2 (Z9 (Z9 ⟨_,rfl,Z9 h⟩))) htake)
  |exact Z2 (Z2 (m:=Builtin.Tuple.tupleExact _) (xbC (Z9 (Z9 ⟨_,rfl,Z9 h⟩)) htake))
  |exact Z2 (Z2 (m:=Builtin.Tuple.tupleExact _) (xbC (Z9 ⟨_,rfl,Z9 h⟩) htake))
end
end HT
namespace L2
open PySem PySem.Spec PyProof.Rows
abbrev TO:=St->Hp->(Option Int->Hp->Prop)->Prop
def PO (X:Cx)(e:Option Expr)(t:TO):Prop:=
 ∀(pins:Pnx) (s:Shared) (σ:St) (H:Hp) (Q:Option Int->Hp->Prop),Inv X pins σ H s->t σ H Q->
  wpAny (model X.prog X.w) X.A (evalPart e X.env) (fun u s'=>∃o H',Inv X pins σ H' s'/\IsPart u o/\Q o H') X.xe s
def XD:TO:=fun _ H Q=>Q none H
noncomputable def XH (t:TE):TO:=fun σ H Q=>t σ H fun x H1=>∃i,x=.int i/\Q (some i) H1
section
variable {X:Cx}{e:Expr}{te:TE}{lo hi:Option Expr}{tl th:TO}{pos p2:Pos}
theorem R0:PO X none XD:=by
 intro pins s σ H Q I h;rw[evalPart_none];exact Z9 ⟨none,H,I,.none,h⟩
theorem R3 (h:PE X e te):PO X (some e) (XH te):=by
 intro pins s σ H Q I hw;rw[evalPart_some];refine aU (h pins s σ H _ I hw) fun u s1 ⟨x,H1,I1,r1,q1⟩=>?_;obtain⟨i,rfl,q⟩:=q1;obtain⟨t,rfl⟩:=r1;exact⟨some i,H1,I1,.int i t,q⟩
def mR (X:Cx)(r:V->Option Int->Option Int->Hp->VK->Prop):Prop:=
 ∀(pins:Pnx) (s:Shared) (σ:St) (H:Hp) (x:V) (v vl vu:Value) (lo hi:Option Int) (sl:Addr) (Q:VK),Inv X pins σ H s->RelV x v->s.heap.IsSliceOf sl vl vu .none->IsPart vl lo->IsPart vu hi->r x lo hi H Q->
  ∃T id,typeLookup (.type T) "__getitem__"=pure (some (.builtin id))/\s.TypeIs v T/\wpAny (model X.prog X.w) X.A (getItem v (.ref sl)) (EP X pins σ Q) X.xe s
theorem mR.or (h:mR X r)(h':mR X r'):mR X (fun x lo hi H Q=>r x lo hi H Q\/r' x lo hi H Q):=by
 intro pins s σ H x v vl vu lo hi sl Q I rx hs pl pu q;rcases q with q |q
 ·exact h pins s σ H x v vl vu lo hi sl Q I rx hs pl pu q
 ·exact h' pins s σ H x v vl vu lo hi sl Q I rx hs pl pu q
noncomputable def XJ (r:V->Option Int->Option Int->Hp->VK->Prop) (te:TE) (tl th:TO):TE:=fun σ H Q=>te σ H fun x H1=>tl σ H1 fun l H2=>th σ H2 fun u H3=>r x l u H3 Q
theorem Il (hr:mR X r)(he:PE X e te)(hl:PO X lo tl)(hu:PO X hi th):PE X (.Subscript e (.Slice lo hi none p2) pos) (XJ r te tl th):=by
 intro pins s σ H Q I h;refine Subscript_ (aU (he pins s σ H _ I h) fun v s1 ⟨x,H1,I1,r1,q1⟩=>?_);refine wpAny_Slice (aU (hl pins s1 σ H1 _ I1 q1) fun vl s2 ⟨l,H2,I2,pl,q2⟩=>aU (hu pins s2 σ H2 _ I2 q2) fun vu s3 ⟨u,H3,I3,pu,q3⟩=>?_);rw[evalPart_none];refine Z9 ?_;have I4:Inv X pins σ H3 {s3 with heap:=s3.heap.push {cls:=.type "slice",data:=.fields #[vl,vu,.none]}}:=I3.kept (t':=s3.toks) fun b ob q=>xac _ q;obtain⟨T,id,hT,ht,hg⟩:=hr pins {s3 with heap:=s3.heap.push {cls:=.type "slice",data:=.fields #[vl,vu,.none]}} σ H3 x v vl vu l u s3.heap.objs.size Q I4 r1 (Heap.IsSliceOf.new ..) pl pu q3;show wpAny (model X.prog X.w) X.A (subscriptTail e (.Slice lo hi none p2) v (.ref s3.heap.objs.size)) (EP X pins σ Q) X.xe {s3 with heap:=s3.heap.push {cls:=.type "slice",data:=.fields #[vl,vu,.none]}};exact tail_any (ops:=[.ref s3.heap.objs.size,v]) ht hT hg (by with_unfolding_all rfl)
noncomputable def eN (xs:List V) (lo hi:Option Int):List V:=(xs.drop (HT.aR xs.length 0 lo)).take (HT.aR xs.length xs.length hi - HT.aR xs.length 0 lo)
theorem Gp (xs:List V)(lo hi:Option Int):(eN xs lo hi).length<=xs.length:=by
 unfold eN;rw[xbb,xci];omega
def CN (K:Fgx):V->Option Int->Option Int->Hp->VK->Prop:=fun x lo hi H Q=>∃a xs,x=.ref a/\dJ K H a xs/\
 ¬ (HT.aR xs.length 0 lo=0/\HT.aR xs.length xs.length hi=xs.length)/\∀p,H p=none->Q (.ref p) (upd H p (.tup (eN xs lo hi)))
theorem WK:mR X (CN X.K):=by
 intro pins s σ H x v vl vu lo hi sl Q I rx hs pl pu h;obtain⟨a,xs,rfl,hx,hw,q⟩:=h;cases rx;obtain⟨its,r,ht,hz⟩:=I.tuple hx;have hlen:its.toArray.size=xs.length:=by rw[Z8];exact r.length.symm
 refine⟨"tuple",_,xbJ.lookup,ht.typeIs,?_⟩;refine HT.Nf ht hs pl pu (by rw[hlen];exact hw) ?_ (by rw[hlen];exact hz);rw[hlen];refine⟨.ref s.heap.objs.size,_,I.laid (t':=s.toks) (o:=.tup (eN xs lo hi)) (fun b ob q=>xac _ q) (tG _) ?_,rfl,q _ (I.hok.fresh (tG _))⟩;exact⟨xav (Gp xs lo hi) hz,_,(r.drop (HT.aR xs.length 0 lo)).take (HT.aR xs.length xs.length hi - HT.aR xs.length 0 lo),IsTup.new _ _⟩
end
noncomputable def k_ (n:Nat) (i:Int):Option Nat:=if 0<=i then(if i<n then some i.toNat else none) else if -(n:Int)<=i then some (i + n).toNat else none
noncomputable def bI {α:Type} (xs:List α) (i:Int):Option α:=(k_ xs.length i).bind fun j=>xs[j]?
theorem Oa (h:k_ n i=some j):seqIndex? i n=some j/\j<n/\ -(n:Int)<=i/\i<n:=by
 unfold k_ at h
 by_cases h0:0<=i
 ·rw[Z7 h0]at h
  by_cases h1:i<n
  ·rw[Z7 h1]at h;have e:i.toNat=j:=xan h;exact⟨by rw[seqIndex_of h0 h1,e],by omega,by omega,h1⟩
  ·rw[xaf h1]at h;cases h
 ·rw[xaf h0]at h
  by_cases h1: -(n:Int)<=i
  ·rw[Z7 h1]at h;have e:(i + n).toNat=j:=xan h;exact⟨by rw[seqIndex_neg (by omega) h1,e],by omega,h1,by omega⟩
  ·rw[xaf h1]at h;cases h
theorem zM (h:bI xs i=some v):∃j,seqIndex? i xs.length=some j/\xs[j]? =some v/\j<xs.length/\ -(xs.length:Int)<=i/\i<xs.length:=by
  unfold bI at h
  cases e:k_ xs.length i with
  |none=>rw[e]at h;cases h
  |some j=>
    rw[e]at h;obtain⟨h1,h2,h3,h4⟩:=Oa e;exact⟨j,h1,h,h2,h3,h4⟩
theorem lH {α:Type}{xs:List α}{j:Nat}{v:α}(h:xs[j]? =some v):bI xs (j:Int)=some v:=by
 have hj:j<xs.length:=(Z5.mp h).1;have e:k_ xs.length (j:Int)=some j:=by
  unfold k_;rw[Z7 (by omega),Z7 (by omega)];simp
 unfold bI;rw[e];exact h
theorem wX {α:Type}(xs:List α)(v:α):bI (xs ++ [v]) (-1)=some v:=by
 have hl:(xs ++ [v]).length=xs.length + 1:=by simp
 have e:k_ (xs ++ [v]).length (-1)=some xs.length:=by
  unfold k_;rw[hl,xaf (by decide),Z7 (by omega)];congr 1;omega
 unfold bI;rw[e];show(xs ++ [v])[xs.length]? =some v
 simp
def zF (b:Expr):Prop:=∀o i,subscripted b false o i=operate [o,i] (getItem o i)
def kO (X:Cx)(r:R2):Prop:=
 ∀(value slice:Expr) (pins:Pnx) (s:Shared) (σ:St) (H:Hp) (x y:V) (v u:Value) (Q:VK),Inv X pins σ H s->RelV x v->RelV y u->r x y H Q->
  subscripted slice false v u=operate [v,u] (getItem v u)->wpAny (model X.prog X.w) X.A (subscriptTail value slice v u) (EP X pins σ Q) X.xe s
def wO (X:Cx)(id:String)(r:V->List V->Hp->VK->Prop):Prop:=
 ∀(pins:Pnx) (s:Shared) (σ:St) (H:Hp) (x:V) (xs:List V) (v:Value) (us:List Value) (Q:VK),Inv X pins σ H s->RelV x v->Vals xs us->r x xs H Q->
  wpAny (model X.prog X.w) X.A (call (.builtin id) (v::us)) (EP X pins σ Q) X.xe s
section
variable {X:Cx}{a b:Expr}{ta tb:TE}{pos:Pos}
theorem kO.or (h:kO X r)(h':kO X r'):kO X (fun x y H Q=>r x y H Q\/r' x y H Q):=by
 intro value slice pins s σ H x y v u Q I rx ry q hs;rcases q with q |q
 ·exact h value slice pins s σ H x y v u Q I rx ry q hs
 ·exact h' value slice pins s σ H x y v u Q I rx ry q hs
theorem Ry (hr:kO X r)(ha:PE X a ta)(hb:PE X b tb)(hs:zF b):PE X (.Subscript a b pos) (wF r ta tb):=by
 intro pins s σ H Q I h;exact Subscript_ (nQ ha hb I h fun v u s2 x y H2 I2 rx ry q=>hr a b pins s2 σ H2 x y v u Q I2 rx ry q (hs _ _))
noncomputable def pI (K:Fgx):R2:=fun x y H Q=>∃p xs i v,x=.ref p/\y=.int i/\bw K H p xs/\bI xs i=some v/\Q v H
noncomputable def pK (K:Fgx):R2:=fun x y H Q=>∃p xs i v,x=.ref p/\y=.int i/\dJ K H p xs/\bI xs i=some v/\Q v H
noncomputable def pJ:R2:=fun x y H Q=>∃z i c,x=.str z/\y=.int i/\z.length<=sizeLine/\bI z.cps.toList i=some c/\Q (.str ⟨#[c]⟩) H
theorem Od:kO X (pI X.K):=by
 intro value slice pins s σ H x y v u Q I rx ry h hs;obtain⟨p,xs,i,z,rfl,rfl,hq,he,q⟩:=h;cases rx;obtain⟨t,rfl⟩:=ry;obtain⟨its,r,pl,hz⟩:=I.list hq;obtain⟨j,h1,h2,h3,h4,h5⟩:=zM he;obtain⟨w,ew,rw'⟩:=r.get h2;have hl:=r.length;have hn:=rz;have fin:EP X pins σ Q w s:=⟨z,H,I,rw',q⟩
 by_cases h0:0<=i
 ·have hj:i.toNat=j:=by
   rw[seqIndex_of h0 h5]at h1;exact xan h1
  exact item_listR pl.isList h0 (by omega) (by rw[hj];simpa using ew) fin hs
 ·have hj:(i + (its.toArray.size:Int)).toNat=j:=by
   rw[seqIndex_neg (by omega) h4]at h1;rw[Z8, <-hl];exact xan h1
  exact subscriptTail_builtinR (x:=w) pl.isList.typeIs slot_list_getitem.lookup
   (wpAny_getItem_list_neg (Q:=fun r s'=>r=w/\EP X pins σ Q r s') pl.isList (by omega) (by rw[Z8]<;>omega) (by omega) (by rw[hj];simpa using ew) ⟨rfl,fin⟩) hs
theorem Og:kO X (pK X.K):=by
 intro value slice pins s σ H x y v u Q I rx ry h hs;obtain⟨p,xs,i,z,rfl,rfl,hq,he,q⟩:=h;cases rx;obtain⟨t,rfl⟩:=ry;obtain⟨its,r,pl,hz⟩:=I.tuple hq;obtain⟨j,h1,h2,h3,h4,h5⟩:=zM he;obtain⟨w,ew,rw'⟩:=r.get h2;have hl:=r.length;have hn:=rz;have fin:EP X pins σ Q w s:=⟨z,H,I,rw',q⟩;exact subscriptTail_builtinR (x:=w) pl.typeIs slot_tuple_getitem.lookup
  (getItem_tuple (j:=j) (Q:=fun r s'=>r=w/\EP X pins σ Q r s') pl (by omega) (by omega) (by rw[Z8, <-hl];exact h1) (by simpa using ew) ⟨rfl,fin⟩) hs
theorem Oe:kO X pJ:=by
 intro value slice pins s σ H x y v u Q I rx ry h hs;obtain⟨z,i,c,rfl,rfl,hz,he,q⟩:=h;obtain⟨t,rfl⟩:=rx;obtain⟨t',rfl⟩:=ry;obtain⟨j,h1,h2,h3,h4,h5⟩:=zM he;have hl:z.cps.toList.length=z.length:=by simp[Str.length]
 rw [hl] at h1 h4 h5;have hn := rz;exact tail_any (xdf s z t) slot_str_getitem.lookup (getItem_str (c := c) (by
  have e1:decide (i< -(2 ^ 63:Int))=false:=xaR (by omega);have e2:decide (i >=2 ^ 63)=false:=xaR (by omega);rw[e1,e2,Bool.or_false]) (by rw[h1];simpa using h2) ⟨.str ⟨#[c]⟩,H,I.tok _,⟨_,rfl⟩,q⟩) hs
noncomputable def CG (K:Fgx):R2:=fun x y H Q=>pI K x y H Q\/pK K x y H Q\/pJ x y H Q
theorem WQ (lo hi:Option Int)(n:Nat):(sliceBounds lo hi none n).1=((HT.aR n 0 lo:Nat):Int)/\(sliceBounds lo hi none n).2.1=((HT.aR n n hi:Nat):Int)/\(sliceBounds lo hi none n).2.2=1:=by
  refine⟨?_,?_,rfl⟩
  · cases lo with
    |none=>simp[sliceBounds,HT.aR]
    |some i=>
      simp only[sliceBounds,HT.aR,Option.getD_none,show(1:Int) > 0 by decide,xaZ]
      by_cases h:i<0
      · simp only[h,xaZ]<;>omega
      · simp only[h,xaF]<;>omega
  · cases hi with
    |none=>simp[sliceBounds,HT.aR]
    |some i=>
      simp only[sliceBounds,HT.aR,Option.getD_none,show(1:Int) > 0 by decide,xaZ]
      by_cases h:i<0
      · simp only[h,xaZ]<;>omega
      · simp only[h,xaF]<;>omega
theorem WM (its:List Value)(lo hi:Option Int):slicePick its.toArray lo hi none=((its.drop (HT.aR its.length 0 lo)).take (HT.aR its.length its.length hi - HT.aR its.length 0 lo)).toArray:=by
 obtain⟨h1,h2,h3⟩:=WQ lo hi its.toArray.size;unfold slicePick;rw[h1,h2,h3];simp only[sliceRange_one,pick_run,Z8]<;>rfl
def CJ (K:Fgx):V->Option Int->Option Int->Hp->VK->Prop:=fun x lo hi H Q=>∃a xs,x=.ref a/\bw K H a xs/\∀p,H p=none->Q (.ref p) (upd H p (.lst (eN xs lo hi)))
theorem Wz:mR X (CJ X.K):=by
 intro pins s σ H x v vl vu lo hi sl Q I rx hs pl pu h;obtain⟨a,xs,rfl,hx,q⟩:=h;cases rx;obtain⟨its,r,ht,hz⟩:=I.list hx;have hlen:=r.length;refine⟨"list",_,slot_list_getitem.lookup,ht.isList.typeIs,?_⟩;refine wpAny_getItem_list_slice ht.isList hs pl pu .none (by simp) ?_ (by rw[Z8]<;>omega)
 rw[WM, <-hlen];refine⟨.ref s.heap.objs.size,_,I.laid (t':=s.toks) (o:=.lst (eN xs lo hi)) (fun b ob q=>xac _ q) (tG _) ?_,rfl,q _ (I.hok.fresh (tG _))⟩;exact⟨xav (Gp xs lo hi) hz,_,0,(r.drop (HT.aR xs.length 0 lo)).take (HT.aR xs.length xs.length hi - HT.aR xs.length 0 lo),xau _ rfl⟩
noncomputable def kY:V->Bool
 |.non=>true
 |.bl _=>true
 |.int _=>true
 |.str _=>true
 |_=>false
noncomputable def lN:V->V->Bool
 |.non,.non=>true
 |.bl a,.bl b=>a==b
 |.bl a,.int b=>(if a then 1 else 0)==b
 |.int a,.bl b=>a==(if b then 1 else 0)
 |.int a,.int b=>a==b
 |.str a,.str b=>a==b
 |_,_=>false
theorem Mf (ry:RelV y u)(rx:RelV x v)(fy:kY y=true)(fx:kY x=true):SeqAt.EqAt A s u v (lN y x):=by
  cases y with
  |non=>
    cases ry
    cases x with
    |non=>cases rx;exact xcl _
    |bl b=>cases rx;exact SeqAt.EqAt.none_bool b
    |int b=>obtain⟨t,rfl⟩:=rx;exact SeqAt.EqAt.none_int b t
    |str b=>obtain⟨t,rfl⟩:=rx;exact SeqAt.EqAt.none_str b t
    |_=>exact absurd (show false=true from fx) xaj
  |bl a=>
    cases ry
    cases x with
    |non=>cases rx;exact SeqAt.EqAt.bool_none a
    |bl b=>cases rx;exact SeqAt.EqAt.bool_bool a b
    |int b=>obtain⟨t,rfl⟩:=rx;exact SeqAt.EqAt.bool_int a b t
    |str b=>obtain⟨t,rfl⟩:=rx;exact SeqAt.EqAt.bool_str a b t
    |_=>exact absurd (show false=true from fx) xaj
  |int a=>
    obtain⟨t',rfl⟩:=ry
    cases x with
    |non=>cases rx;exact SeqAt.EqAt.int_none a t'
    |bl b=>cases rx;exact SeqAt.EqAt.int_bool a t' b
    |int b=>obtain⟨t,rfl⟩:=rx;exact xb4 a t' b t
    |str b=>obtain⟨t,rfl⟩:=rx;exact xcv a t' b t
    |_=>exact absurd (show false=true from fx) xaj
  |str a=>
    obtain⟨t',rfl⟩:=ry
    cases x with
    |non=>cases rx;exact SeqAt.EqAt.str_none a t'
    |bl b=>cases rx;exact SeqAt.EqAt.str_bool a t' b
    |int b=>obtain⟨t,rfl⟩:=rx;exact xcw a t' b t
    |str b=>obtain⟨t,rfl⟩:=rx;exact xb5 a t' b t
    |_=>exact absurd (show false=true from fx) xaj
  |_=>exact absurd (show false=true from fy) xaj
noncomputable def fD (x:V) (u:Value):Bool:=match u with
 |.none=>lN .non x
 |.bool b=>lN (.bl b) x
 |.int i _=>lN (.int i) x
 |.str z _=>lN (.str z) x
 |_=>false
theorem GP (r:RelV y u)(f:kY y=true):fD x u=lN y x:=by
 cases y with
 |non=>cases r;rfl
 |bl b=>cases r;rfl
 |int i=>obtain⟨t,rfl⟩:=r;rfl
 |str z=>obtain⟨t,rfl⟩:=r;rfl
 |_=>exact absurd (show false=true from f) xaj
theorem rY:∀{xs:List V} {us:List Value},Vals xs us->xs.all kY=true->us.any (fD x)=xs.any fun y=>lN y x
  |_,_,.nil,_=>rfl
  |y::xs,u::us,.cons r t,f=>by
    rw[xbm,xam]at f;rw[xba,xba,GP r f.1,rY t f.2]
theorem vm (rx:RelV x v)(fx:kY x=true):∀{xs:List V} {us:List Value},Vals xs us->xs.all kY=true->∀u∈us,SeqAt.EqAt A s u v (fD x u)
  |_,_,.nil,_=>fun u hu=>by cases hu
  |y::xs,u::us,.cons r t,f=>fun u' hu=>by
    rw[xbm,xam]at f;rcases xah.mp hu with rfl |hu
    · rw[GP r f.1];exact Mf r rx f.1 fx
    · exact vm rx fx t f.2 u' hu
def inV (x:V)(xs:List V):Bool:=xs.any fun y=>lN y x
noncomputable def yr (K:Fgx) (neg:Bool):R2:=fun x y H Q=>∃p xs,y=.ref p/\(bw K H p xs\/dJ K H p xs)/\kY x=true/\xs.all kY=true/\Q (.bl (if neg then !inV x xs else inV x xs)) H
theorem Q5:bC X (compareOp .In) (yr X.K false):=by
 intro pins s σ H x y v u Q I rx ry h;obtain⟨p,xs,rfl,hq,fx,fs,q⟩:=h;cases ry;rcases hq with hq |hq
 ·obtain⟨its,r,pl,hz⟩:=I.list hq;refine SeqAt.in_listAt (fD x) pl.isList (fun w hw=>vm rx fx r fs w (by simpa using hw)) ⟨.bl _,H,I,rfl,?_⟩;rw[show its.toArray.any (fD x)=its.any (fD x) by simp,rY r fs];exact q
 ·obtain⟨its,r,pl,hz⟩:=I.tuple hq;refine SeqAt.in_tupleAt (fD x) pl (fun w hw=>vm rx fx r fs w (by simpa using hw)) ⟨.bl _,H,I,rfl,?_⟩;rw[show its.toArray.any (fD x)=its.any (fD x) by simp,rY r fs];exact q
theorem Rj:bC X (compareOp .NotIn) (yr X.K true):=by
 intro pins s σ H x y v u Q I rx ry h;obtain⟨p,xs,rfl,hq,fx,fs,q⟩:=h;cases ry;rcases hq with hq |hq
 ·obtain⟨its,r,pl,hz⟩:=I.list hq;refine SeqAt.notIn_listAt (fD x) pl.isList (fun w hw=>vm rx fx r fs w (by simpa using hw)) ⟨.bl _,H,I,rfl,?_⟩;rw[show its.toArray.any (fD x)=its.any (fD x) by simp,rY r fs];exact q
 ·obtain⟨its,r,pl,hz⟩:=I.tuple hq;refine SeqAt.notIn_tupleAt (fD x) pl (fun w hw=>vm rx fx r fs w (by simpa using hw)) ⟨.bl _,H,I,rfl,?_⟩;rw[show its.toArray.any (fD x)=its.any (fD x) by simp,rY r fs];exact q
theorem K4:cR X (.builtin "len") (fun xs H Q=>∃p ys,xs=[.ref p]/\(bw X.K H p ys\/dJ X.K H p ys)/\Q (.int ys.length) H):=by
 intro pins s σ H xs us Q I r h;obtain⟨p,ys,rfl,hq,q⟩:=h;obtain⟨u,rfl,rx⟩:=vals1 r;cases rx;have hn:=rz;rcases hq with hq |hq
 ·obtain⟨its,r',pl,hz⟩:=I.list hq;have hlen:=r'.length;exact Calls.call_len_list pl.isList (by simp only[Z8]<;>omega) ⟨.int ys.length,H,I.tok _,⟨s.toks + 1,by rw[Z8,hlen]⟩,q⟩
 ·obtain⟨its,r',pl,hz⟩:=I.tuple hq;have hlen:=r'.length;exact len_tuple pl (by simp only[Z8]<;>omega) ⟨.int ys.length,H,I.tok _,⟨s.toks + 1,by rw[Z8,hlen]⟩,q⟩
theorem K5:cR X (.builtin "len") (fun xs H Q=>∃z,xs=[.str z]/\z.length<=sizeLine/\Q (.int z.length) H):=by
 intro pins s σ H xs us Q I r h;obtain⟨z,rfl,hz,q⟩:=h;obtain⟨u,rfl,t,rfl⟩:=vals1 r;have hn:=rz;exact len_str (by omega) ⟨.int z.length,H,I.tok _,⟨_,rfl⟩,q⟩
theorem cR.or (h:cR X f r)(h':cR X f r'):cR X f (fun xs H Q=>r xs H Q\/r' xs H Q):=by
 intro pins s σ H xs us Q I rs q;rcases q with q |q
 ·exact h pins s σ H xs us Q I rs q
 ·exact h' pins s σ H xs us Q I rs q
theorem K6:cR X (.type "list") (fun xs H Q=>∃p ys,xs=[.ref p]/\(bw X.K H p ys\/dJ X.K H p ys)/\∀l,H l=none->Q (.ref l) (upd H l (.lst ys))):=by
 intro pins s σ H xs us Q I r h;obtain⟨p,ys,rfl,hq,q⟩:=h;obtain⟨u,rfl,rx⟩:=vals1 r;cases rx;have fin:∀(its:List Value),Vals ys its->ys.length<=sizeLine->∀(h':Heap) (c':Nat),(∀b o',s.heap.get? b=some o'->h'.get? b=some o')->
   h'.get? s.heap.objs.size=some {cls:=.type "list",dict:=none,data:=.seq its.toArray c',slots:= #[]}->EP X pins σ Q (.ref s.heap.objs.size) {s with heap:=h'}:=fun its r' hz h' c' kp e=>
  ⟨.ref s.heap.objs.size,_,I.laid (t':=s.toks) kp (tG _) (show cj X.prog X.w _ h' _ (.lst ys) from⟨hz,its,c',r',e⟩),rfl,q _ (I.hok.fresh (tG _))⟩
 rcases hq with hq |hq
 ·obtain⟨its,r',pl,hz⟩:=I.list hq;have hlen:=r'.length;obtain⟨o,ho,hc,n,hd⟩:=pl.isList;exact call_list_seq p (.inl rfl) ho hc hd (fun h' c' kp e=>fin its r' hz h' c' kp e) (by simp only[Z8]<;>omega)
 ·obtain⟨its,r',pl,hz⟩:=I.tuple hq;have hlen:=r'.length;obtain⟨o,ho,hc,n,hd⟩:=pl;exact call_list_seq p (.inr rfl) ho hc hd (fun h' c' kp e=>fin its r' hz h' c' kp e) (by simp only[Z8]<;>omega)
def J7 (K:Fgx)(T:String)(x:V)(H:Hp):Prop:=match x with
 |.str _=>T="str"
 |.int _=>T="int"
 |.ref p=>(T="list"/\∃xs,bw K H p xs)\/(T="tuple"/\∃o,K.lookup p=some o/\o.cls=.type "tuple"/\o.dict=none)\/
   (T="dict"/\((∃kvs,H p=some (.dK kvs))\/∃kvs,H p=some (.dT kvs)))\/(T="set"/\∃S n,H p=some (.set S n))
 |_=>False
theorem Ys (I:Inv X pins σ H s)(r:RelV x v)(ty:J7 X.K T x H):
    s.TypeIs v T/\∀a,v=.ref a->∃ob,s.heap.get? a=some ob/\ob.dict=none:=by
  cases x with
  |str z=>
    obtain⟨t,rfl⟩:=r;cases (show T="str" from ty);exact⟨xdf s z t,fun _ e=>nomatch e⟩
  |int i=>
    obtain⟨t,rfl⟩:=r;cases (show T="int" from ty);exact⟨typeIs_int s i t,fun _ e=>nomatch e⟩
  |ref p=>
    cases r;rcases ty with⟨rfl,xs,hq⟩ |⟨rfl,o,hk,hc,hd⟩ |⟨rfl,hk⟩ |⟨rfl,S,n,hk⟩
    · obtain⟨its,_,pl,_⟩:=I.list hq;refine⟨pl.isList.typeIs,fun a e=>?_⟩;cases e;obtain⟨o,n,e,c,hd,_⟩:=pl;exact⟨o,e,hd⟩
    · refine⟨⟨o,I.kIn p o hk,hc⟩,fun a e=>?_⟩;cases e;exact⟨o,I.kIn _ o hk,hd⟩
    · have z:∃o,s.heap.get? p=some o/\o.ExactDict:=by
        rcases hk with⟨kvs,hk⟩ |⟨kvs,hk⟩
        · obtain⟨_,_,_,_,o,_,_,e,ex,_⟩:=I.hok p _ hk;exact⟨o,e,ex⟩
        · obtain⟨_,_,_,_,o,_,_,e,ex,_⟩:=I.hok p _ hk;exact⟨o,e,ex⟩
      obtain⟨o,e,ex⟩:=z;refine⟨⟨o,e,ex.1⟩,fun a e2=>?_⟩;cases e2;exact⟨o,e,ex.2.1⟩
    · obtain⟨o,_,_,_,e,ex,_⟩:=I.hok p _ hk;refine⟨⟨o,e,ex.1⟩,fun a e2=>?_⟩;cases e2;exact⟨o,e,ex.2.1⟩
  |_=>exact False.elim ty
noncomputable def Xr (K:Fgx) (T:String) (r:V->List V->Hp->VK->Prop) (to:TE) (t:TA):TE:=fun σ H Q=>to σ H fun x H1=>J7 K T x H1/\t σ H1 fun xs H2=>r x xs H2 Q
variable {o e:Expr}{es:List Expr}{to:TE}{t:TA}{name:Str}{apos cpos:Pos}{T id:String}{r:V->List V->Hp->VK->Prop}
theorem yg (pa:PlainAttrs T)(slot:Slot T name id)(hty:typeOf (.builtin id)=pure (.type "method_descriptor"))(hm:wO X id r)(ho:PE X o to)(ha:PA X (e::es) t)
  (hbase:attributeBase o name X.env (eval o X.env)=eval o X.env:=by rfl)
  (hfew : ((backTo cpos (starEach (e::es) X.env)).all (fun x=> !x.1) && (backToKw cpos (keywordEach [] X.env)).all (fun x=>x.1.isSome)
   && decide ((e::es).length + ([]:List Keyword).length + (if ([]:List Keyword).isEmpty then 0 else 1)<30))=true:=by rfl)
  (hline:(apos.endLine==cpos.line)=true:=by rfl) (hs:starEach (e::es) X.env=(false,eval e X.env)::starEach es X.env:=by rfl) (hplain:(backTo cpos (starEach es X.env)).any (·.1)=false:=by rfl):
  PE X (.Call (.Attribute o name apos) (e::es) [] cpos) (Xr X.K T r to t):=by
 intro pins s σ H Q I h;refine wpAny_Call_method_late hbase hfew hline rfl (aU (ho pins s σ H _ I h) fun v s1 ⟨x,H1,I1,r1,ty,q1⟩=>?_);obtain⟨h1,h2⟩:=Ys I1 r1 ty;refine⟨T,id,pa,slot,hty,h1,h2,?_⟩;have hA:=ha cpos pins s1 σ H1 _ I1 q1;rw[hs]at hA ⊢;refine Calls.callWith_builtin (by show(false || (backTo cpos (starEach es X.env)).any (·.1))=false;rw[hplain]<;>rfl) (Calls.evalArgs_plain ?_)
 exact aU hA fun us s2 ⟨vs,H2,I2,r2,q2⟩=>hm pins s2 σ H2 x vs v us Q I2 r1 r2 q2
end
def Kr (X:Cx)(id:String)(r:V->List V->Hp->VK->Prop):Prop:=
 ∀(pins:Pnx) (s:Shared) (σ:St) (H:Hp) (x:V) (xs:List V) (v:Value) (us:List Value) (Q:VK),Inv X pins σ H s->RelV x v->Vals xs us->r x xs H Q->
  wpAny (model X.prog X.w) X.A (call (.builtin id) (v::us)) (EP X pins σ Q) X.xe s
theorem Vals.one:∀{x:V} {us:List Value},Vals [x] us->∃u,us=[u]/\RelV x u
 |_,_,.cons r .nil=>⟨_,rfl,r⟩
section
variable {X:Cx}{pins:Pnx}{σ:St}{H:Hp}{s:Shared}{l b:Addr}{xs ys zs:List V}
theorem Inv.lset {its its':List Value}{n:Nat}{f:Array Value->Array Value}{t':Nat}(I:Inv X pins σ H s)(hH:H l=some (.lst xs))
  (e:s.heap.get? l=some {cls:=.type "list",data:=.seq its.toArray n}) (hf:f its.toArray=its'.toArray) (hv:Vals ys its') (hz:ys.length<=sizeLine):
  Inv X pins σ (upd H l (.lst ys)) {s with heap:=s.heap.update l (Obj.mapSeq f),toks:=t'}:=by
 have q:=PySem.IsL.update e f;rw[hf]at q;refine I.write (x:=l) (e:=l) (by rw[hH];exact trivial) (.inl rfl) (fun b' u hb hu=>(xaK s.heap (Obj.mapSeq f) (xbr hb)).trans hu) ⟨_,q⟩ ?_;exact⟨hz,its',_,hv,q⟩
theorem Inv.lnew (I:Inv X pins σ H s)(hv:Vals ys its)(hz:ys.length<=sizeLine):
  Inv X pins σ (upd H s.heap.objs.size (.lst ys)) {s with heap:=s.heap.push {cls:=.type "list",data:=.seq its.toArray},toks:=t'}:=
 I.laid (fun _ _ q=>xac _ q) (tG _) ⟨hz,its,0,hv,xau _ rfl⟩
theorem Inv.fresh (I:Inv X pins σ H s):H s.heap.objs.size=none:=I.hok.fresh (tG _)
theorem Inv.lstM (I:Inv X pins σ H s)(hH:H l=some (.lst xs)):xs.length<=sizeLine/\∃(its:List Value) (n:Nat),Vals xs its/\xs.length=its.length/\s.heap.get? l=some {cls:=.type "list",data:=.seq its.toArray n}:=by
 obtain⟨z,its,n,r,e⟩:=I.hok l _ hH;exact⟨z,its,n,r,r.length,e⟩
end
section
variable {X:Cx}
def Uu:V->List V->Hp->VK->Prop:=fun x vs H Q=>∃l xs y,x=.ref l/\vs=[y]/\H l=some (.lst xs)/\xs.length<sizeLine/\Q .non (upd H l (.lst (xs ++ [y])))
theorem Bq:Kr X "list.append" Uu:=by
 intro pins s σ H x vs v us Q I rx rv h;obtain⟨l,xs,y,rfl,rfl,hH,hz,q⟩:=h;cases rx;obtain⟨u,rfl,ru⟩:=rv.one;obtain⟨z,its,n,r,hl,e⟩:=I.lstM hH;refine call_meets F.slot_list_append ⟨_,e,rfl⟩ F.entry_list_append (F.args_list_append_2 _ _) (PySem.list_append l its.toArray n u (by rw[Z8];omega)) ⟨e,?_⟩;refine⟨.non,_,I.lset (its':=its ++ [u]) hH e (by simp) (r.append (.cons ru .nil)) ?_,rfl,q⟩;rw[Z4,xay];omega
end
end L2
namespace Att
open PySem PySem.W PySem.Calls PyProof.Rows
theorem Nz:∀(ns:List Int) (vs:List Value),WellAll P h vs (ns.map WData.int)->IntsAre vs ns:=by
  intro ns
  induction ns with
  |nil=>
    intro vs w;rw[List.map_nil]at w;cases w;exact .nil
  |cons n ns ih=>
    intro vs w;rw[xaV]at w
    cases w with
    |cons a b=>
      cases a;exact .cons _ _ (ih _ b)
theorem Wi {l:OpenLaw}{n:Nat}(hn:l.most=some n){P:Params}{h:Heap}{args:List WData}{vals:List Value}
    (hpre:l.row.toRowW.claim.pre args=true) (hwl:WellAll P h vals args):
    ∃a vs ns,vals=[Value.ref a]/\args=[WData.list (ns.map WData.int)]/\h.get? a=some {cls:=.type "list",data:=.seq vs.toArray}/\IntsAre vs ns/\ns.length<=n:=by
  have hsh:WShape.hasAll [] args [.list .int]=true:=(pre_splitW hpre).1;have hc:l.pre.holds [] {args:=args}=true:=(pre_splitW hpre).2;obtain⟨d,r,rfl,h1,h2⟩:=hasAllW_cons hsh;obtain rfl:=hasAllW_nil h2;obtain⟨xs,rfl,h3⟩:=hasW_list h1;obtain⟨ns,rfl⟩:=items_int h3;have hlen:ns.length<=n:=by
    unfold OpenLaw.pre at hc;have h4:(WTm.not (.lt (.lit (.int (n:Int))) (.len (.arg 0)))).holds [] {args:=[.list (ns.map .int)]}=true:=by
      have h4:=(holds_andW hc).1;rw[hn]at h4;exact h4
    have h5:=condW_of h4 (w_not (w_lt w_lit (w_len_list (w_arg rfl))));rw[xai]at h5;refine xcS fun q=>?_;have q':(n:Int)<((ns.length:Nat):Int):=by omega
    first
      |(rw[xbE q']at h5;exact absurd h5 (by decide))
      |(simp at h5;omega)
  cases hwl with
  |cons w1 w2=>
    cases w2
    cases w1 with
    |list ho hall=>exact⟨_,_,ns,rfl,rfl,ho,Nz ns _ hall,hlen⟩
theorem R4 (l:OpenLaw)(args:List WData):l.row.toRowW.claim.post args (.bool true) args=true:=
 postW_of (r:=l.row.toRowW) (X:=(true==true))
  (show WShape.has [] (.bool true) .bool=true by first |rfl |decide |simp[WShape.has,WShape.arms,WShape.armsAll])
  (show(WTm.eq .res (.lit (.bool true))).value [] {args:=args,res:=some (.bool true),after:=args}=some (.bool (true==true)) from w_eq_bool (w_res rfl) w_lit) rfl
theorem KC {l:OpenLaw}{n:Nat}{q:Program}{loose:List Str}{XP:(Mgx)->Heap->Prop}{YP:World->Heap->Prop}{d:DefRec}
  (hn:l.most=some n) (hdf:d.params.defaults=[])
  (call:∀(w:World) (s₀ s₁:Shared) (mg mb:Mgx) (fa:Addr) (o:Obj) (pm cd doc:Value) (a:Addr) (vs:List Value) (ns:List Int),
   Ground q loose [] XP w s₀ mg mb s₁.heap->YP w s₁.heap->
   s₁.heap.get? fa=some o->o.data=.func (docDef d.name d.params d.body d.scope pm cd doc)->s₁.heap.CodeRec cd d.name->mg d.name=some (.ref fa)->
   s₁.heap.get? a=some {cls:=.type "list",data:=.seq vs.toArray}->IntsAre vs ns->ns.length<=n->s₁.gens= #[]->
   codeAny (model l.prog w) callerA (.call (.ref fa) ⟨[.ref a],[]⟩) (fun r s'=>r=.ok (.ret (.bool true))/\OldK s₁.heap s'.heap/\s'.os=s₁.os/\AllBare s'.gens) s₁):
  WalkO q loose XP YP l.row.toRowW d [] (fun f vs=>PySem.call f vs):=by
 intro w s₀ s₁ mg mb G Y fa o pm cd doc dV kV ho hd hcd hD hmg hg args vals as hpre hlay hrd hwl hlo;obtain rfl:dV=.none:=Dflts.none hD hdf;obtain rfl:kV=.none:=Dflts.noKw hD;obtain⟨a,vs,ns,rfl,rfl,hobj,hints,hlen⟩:=Wi hn hpre hwl;refine enter_call (xcR (call w s₀ s₁ mg mb fa o pm cd doc a vs ns G Y ho (fd_plain hd) hcd hmg hobj hints hlen hg) fun r s' hq=>?_);obtain⟨rfl,h2,h3,h4⟩:=hq;exact⟨.inl ⟨.bool true,.bool true,[],rfl,fun _=>rfl,.bool true,R4 l _,fun _=>⟨List.Pairwise.nil,fun _ hm=>(nomatch hm)⟩⟩,h2,h3,h4⟩
end Att
namespace L2
open PySem PySem.Spec PyProof.Rows
theorem Kd:∀{vs:List Value} {ns:List Int},IntsAre vs ns->Vals (ns.map V.int) vs
 |_,_,.nil=>.nil
 |_,_,.cons n t h=>.cons ⟨t,rfl⟩ (Kd h)
def Only (H:Hp):Prop:=∀b,H b=none\/∃o xs,H b=some (.frz o (.lst xs))
theorem OJ {P:Program}{w:World}{K:Fgx}{mg mb:Mgx}{CX:d7}{k:Nat}{fa a:Addr}{fd:FuncData}{x:Str}{sp:Sp}{s₁:Shared}{vs:List Value}{ns:List Int}
    (KX:K.In s₁.heap) (hns:s₁.heap.Ns mainGlobals mg) (hb:s₁.heap.Ns builtinsNs mb) (hbb:∀x:Str,x≠"__name__"->mb x=bootBuiltins x) (hlim:s₁.heap.NoLimit) (hg:s₁.gens= #[])
    (ha:s₁.heap.get? a=some {cls:=.type "list",data:=.seq vs.toArray}) (hi:IntsAre vs ns) (hl:ns.length<=sizeLine) (hr:Room k callerA)
    (F:∀base:Heap,K.In base->base.Ns mainGlobals mg->FnOk P w K mg base CX k fa fd [x] sp) (hbind:∀(s:Shared) (u:Value),BindsTo s fd ⟨[u],[]⟩ [(x,u)])
    (hsp:∀H:Hp,Only H->bw K H a (ns.map V.int)->sp [.ref a] H (fun v _=>v=.bl true) fun _ _ _=>False)
    (hCX:∀H e s',CX [] H s₁ (fun _ _ _=>False) e s'->False):
    codeAny (model P w) callerA (.call (.ref fa) ⟨[.ref a],[]⟩) (fun r s'=>r=.ok (.ret (.bool true))/\OldK s₁.heap s'.heap/\s'.os=s₁.os/\AllBare s'.gens) s₁:=by
  have rv:=Kd hi;have lenV:=hi.length
  -- from an abstract heap in which nothing but the script may be tracked
  have core:∀H:Hp,Only H->bw K H a (ns.map V.int)->bK P w H s₁.heap->(∀b,H b≠none->b=a)->(H a≠none->K.lookup a=none)->
      codeAny (model P w) callerA (.call (.ref fa) ⟨[.ref a],[]⟩) (fun r s'=>r=.ok (.ret (.bool true))/\OldK s₁.heap s'.heap/\s'.os=s₁.os/\AllBare s'.gens) s₁:=by
    intro H hO hS hok hA hK;have base_of:∀{b:Addr} {o:Obj},s₁.heap.get? b=some o->H b=none->(dX s₁.heap H).get? b=some o:=fun e n=>Ni e n;have noA:∀{b:Addr} {o:Obj} {es:Array DictEntry} {ep:Nat},s₁.heap.get? b=some o->o.data=.dict es ep->H b=none:=fun {b o es ep} e d=>by
      cases q:H b with
      |none=>rfl
      |some u=>
        have e':b=a:=hA b (by rw[q];simp);subst e';rw[ha]at e;cases e;have d':Data.seq vs.toArray _=Data.dict es ep:=d;cases d'
    have nsK : ∀ {b : Addr} {m : Mgx}, s₁.heap.Ns b m -> (dX s₁.heap H).Ns b m := fun {b m} ⟨o, es, ep, e, d, r⟩ => ⟨o, es, ep, base_of e (noA e d), d, r⟩;have hKb : K.In (dX s₁.heap H) := fun b o e => base_of (KX b o e) (by
      cases q:H b with
      |none=>rfl
      |some u=>
        have e':b=a:=hA b (by rw[q];simp);subst e';rw[hK (by rw[q];simp)]at e;cases e)
    have hM:Mod K mg (dX s₁.heap H):=⟨hKb,nsK hns,⟨mb,nsK hb,hbb⟩,let ⟨mc,h1,h2⟩:=hlim;⟨mc,nsK h1,h2⟩⟩
    have e0:Env0 P w K mg (dX s₁.heap H) callerA [] s₁ H:=⟨rfl,hM,fun b o e=>QK e,Nat.le_of_eq (Nj _ _),trivial,fun b hb=>absurd (show b∈([]:List Addr) from hb) (by simp),hok,.of_eq hg⟩;refine xcR ((F _ hKb (nsK hns)).run callerA [] s₁ H ⟨[.ref a],[]⟩ [.ref a] [.ref a] _ _ hr e0 (hbind s₁ (.ref a)) (.cons rfl .nil) (hsp H hO hS)) fun r s' h=>?_
    cases r with
    |error e=>exact(hCX H e s' h).elim
    |ok fl=>
      cases fl with
      |next=>exact False.elim h
      |brk=>exact False.elim h
      |cont=>exact False.elim h
      |ret u=>
        obtain⟨v,H',os,bare,un,hok',r',q⟩:=h;have q':v=.bl true:=q;subst q';obtain rfl:u=Value.bool true:=r';refine⟨rfl,OldK.of_keep fun b o e=>?_,os,bare⟩
        cases q:H b with
        |none=>exact un.keep b o e q (by intro z;exact absurd (show b∈([]:List Addr) from z) (by simp)) (by simp)
        |some u=>
          rcases hO b with z |⟨ob,xs,z⟩
          · rw[q]at z;cases z
          · have z2:=un.frzs b ob _ z;obtain⟨e1,_⟩:=hok b _ z;obtain⟨e2,_⟩:=hok' b _ z2;rw[e]at e1;cases e1;exact e2
  cases hk:K.lookup a with
  |some o=>
    -- the script is one of the module's own objects
    have e:=KX a o hk;rw[ha]at e;cases e;refine core (fun _=>none) (fun _=>.inl rfl) (.inr ⟨_,vs.toArray,_,hk,rfl,rfl,rfl,by rw[Z8,lenV];exact hl,by simpa using rv⟩) (fun b u z=>by have z':(none:Option HO)=some u:=z;cases z') (fun b z=>absurd rfl z) fun z=>absurd rfl z
  |none=>
    refine core (fun b=>if b=a then some (.frz {cls:=.type "list",data:=.seq vs.toArray} (.lst (ns.map V.int))) else none) (fun b=>?_) (.inl (.inr ⟨{cls:=.type "list",data:=.seq vs.toArray},Z7 rfl⟩)) (fun b u z=>?_) (fun b z=>?_) fun _=>hk
    · by_cases hb:b=a
      · exact .inr ⟨_,_,Z7 hb⟩
      · exact .inl (xaf hb)
    · by_cases hb:b=a
      · have z':=(Z7 hb).symm.trans z;cases z';subst hb;exact⟨ha,by rw[xai];exact hl,vs,_,rv,ha⟩
      · have z':=(xaf hb).symm.trans z;cases z'
    · by_cases hb:b=a
      · exact hb
      · exact absurd (xaf hb) z
theorem Y4 {l:PySem.W.OpenLaw}{n k:Nat}{q:Program}{loose:List Str}{XP:(Mgx)->Heap->Prop}{YP:World->Heap->Prop}{d:DefRec}{K:Params->Fgx}{CX:World->d7}{sp:World->Sp}{x:Str}
  (hn:l.most=some n) (hn2:n<=sizeLine) (hdf:d.params.defaults=[]) (hr:Room k callerA)
  (hY:∀(w:World) (h:Heap),YP w h->(K w.params).In h)
  (F:∀(w:World) (mg:Mgx) (fa:Addr) (h:Heap),(K w.params).In h->h.Ns mainGlobals mg->mg d.name=some (.ref fa)->
   ∃fd:FuncData,(∀(s:Shared) (u:Value),BindsTo s fd ⟨[u],[]⟩ [(x,u)])/\
    ∀base:Heap,(K w.params).In base->base.Ns mainGlobals mg->FnOk l.prog w (K w.params) mg base (CX w) k fa fd [x] (sp w))
  (hsp:∀(w:World) (H:Hp) (a:Addr) (ns:List Int),ns.length<=n->Only H->bw (K w.params) H a (ns.map V.int)->sp w [.ref a] H (fun v _=>v=.bl true) fun _ _ _=>False)
  (hCX:∀(w:World) (H:Hp) (s:Shared) (e:Value) (s':Shared),CX w [] H s (fun _ _ _=>False) e s'->False):
  PySem.W.WalkO q loose XP YP l.row.toRowW d [] (fun f vs=>PySem.call f vs):=by
 refine Att.KC hn hdf fun w s₀ s₁ mg mb fa o pm cd doc a vs ns G Y ho hd hcd hmg hobj hints hlen hg=>?_;have KX:=hY w _ Y;obtain⟨fd,hb,hF⟩:=F w mg fa _ KX G.T.g hmg;exact OJ KX G.T.g G.T.b G.T.builtins G.T.nolimit hg hobj hints (xav hlen hn2) hr hF hb (fun H hO hS=>hsp w H a ns hlen hO hS) fun H e s'=>hCX w H s₁ e s'
theorem Y5 {l:PySem.W.OpenLaw}{n k:Nat}{q:Program}{loose:List Str}{XP:(Mgx)->Heap->Prop}{YP:World->Heap->Prop}{d:DefRec}{K:Params->Fgx}{CX:d7}{sp:Fgx->Sp}{x:Str}
  (hn:l.most=some n) (hn2:n<=sizeLine) (hdf:d.params.defaults=[]) (hr:Room k callerA)
  (hY:∀(w:World) (h:Heap),YP w h->(K w.params).In h)
  (F:∀(w:World) (mg:Mgx) (fa:Addr) (h:Heap),(K w.params).In h->h.Ns mainGlobals mg->mg d.name=some (.ref fa)->
   ∃fd:FuncData,(∀(s:Shared) (u:Value),BindsTo s fd ⟨[u],[]⟩ [(x,u)])/\
    ∀base:Heap,(K w.params).In base->base.Ns mainGlobals mg->FnOk l.prog w (K w.params) mg base CX k fa fd [x] (sp (K w.params)))
  (hsp:∀(K:Fgx) (H:Hp) (a:Addr) (ns:List Int),ns.length<=n->Only H->bw K H a (ns.map V.int)->sp K [.ref a] H (fun v _=>v=.bl true) fun _ _ _=>False)
  (hCX:∀(H:Hp) (s:Shared) (e:Value) (s':Shared),CX [] H s (fun _ _ _=>False) e s'->False):
  PySem.W.WalkO q loose XP YP l.row.toRowW d [] (fun f vs=>PySem.call f vs):=
 Y4 (K:=K) (CX:=fun _=>CX) (sp:=fun w=>sp (K w.params)) hn hn2 hdf hr hY F (fun w H a ns h1 h2 h3=>hsp (K w.params) H a ns h1 h2 h3) fun _ H s e s'=>hCX H s e s'
noncomputable def d9 (s:Stmt):Arguments:=match s with
 |.FunctionDef _ a _ _ _ _ _ _ _ _=>a
 |_=>{posonlyargs:=[],args:=[],vararg:=none,kwonlyargs:=[],kw_defaults:=[],kwarg:=none,defaults:=[]}
noncomputable def dw (s:Stmt):List Stmt:=match s with
 |.FunctionDef _ _ b _ _ _ _ _ _ _=>b
 |_=>[]
noncomputable def bx (s:Stmt):Scope:=match s with
 |.FunctionDef _ _ _ _ _ _ sc _ _ _=>sc
 |_=>{kind:=.function,names:=[],isGenerator:=false,isCoroutine:=false}
abbrev fO:d7:=fun _ _ _ _ _ _=>False
abbrev E0:XK:=fun _ _ _=>False
theorem Ro:Passes fO X E0:=fun _ _ _ _ _ _ _ h=>h.elim
structure Fun (K:Fgx)(x qual:Str)(st:Stmt)(f:Addr)(fd:FuncData):Prop where
 ex:∃(oc:Value) (od:Option Addr) (kV doc pm:Value) (an:Option Addr) (cdv ct:Value) (osl:Array (Option Value)),
  fd=PySem.W.fnOf x qual (d9 st) (dw st) (bx st) .none kV doc pm an cdv ct/\K.lookup f=some ⟨oc,od,.func fd,osl⟩/\PySem.W.codeIn K cdv qual=true
 kp:PySem.W.keepIn K (.ref f)=true
section
variable {P:Program}{w:World}{K:Fgx}{mg:Mgx}{base:Heap}
theorem Fun.binds {x qual:Str}{st:Stmt}{f:Addr}{fd:FuncData}{ps:List Str}(F:Fun K x qual st f fd)
  (h:∀(kV doc pm:Value) (an:Option Addr) (cdv ct:Value) (us:List Value),us.length=ps.length->bindArgs (PySem.W.fnOf x qual (d9 st) (dw st) (bx st) .none kV doc pm an cdv ct) ⟨us,[]⟩=pure (ps.zip us)):Binds K fd ps []:=by
 obtain⟨oc,od,kV,doc,pm,an,cdv,ct,osl,rfl,lk,hcd⟩:=F.ex;exact .all (h kV doc pm an cdv ct)
theorem G5 {x qual:Str}{st:Stmt}{f:Addr}{oc:Value}{od an:Option Addr}{osl:Array (Option Value)}{kV doc pm cdv ct:Value}(l:K.lookup f=some ⟨oc,od,.func (PySem.W.fnOf x qual (d9 st) (dw st) (bx st) .none kV doc pm an cdv ct),osl⟩)
  (c:PySem.W.codeIn K cdv qual=true) (k:PySem.W.keepIn K (.ref f)=true):Fun K x qual st f (PySem.W.fnOf x qual (d9 st) (dw st) (bx st) .none kV doc pm an cdv ct):=⟨⟨oc,od,kV,doc,pm,an,cdv,ct,osl,rfl,l,c⟩,k⟩
end
def Same (H H':Hp):Prop:=∀b o,H b=some o->H' b=some o
theorem Same.refl (H:Hp):Same H H:=fun _ _ h=>h
theorem Same.free (e:Same H H')(h:H' l=Option.none):H l=Option.none:=by
  cases q:H l with
  |none=>rfl
  |some o=>
    rw[e l o q]at h;cases h
end L2
set_option maxHeartbeats 0
namespace L2
open PySem PySem.Spec PyProof.Rows
section
variable {κ:Type}[DecidableEq κ]
noncomputable def bN (kvs:List (κ×V)) (k:κ):Option V:=(kvs.find? fun kv=>decide (kv.1=k)).map (·.2)
noncomputable def putK (kvs:List (κ×V)) (k:κ) (v:V):List (κ×V):=
 if (kvs.any fun kv=>decide (kv.1=k))=true then kvs.map (fun kv=>if kv.1=k then(kv.1,v) else kv) else kvs ++ [(k,v)]
theorem Er {p:κ×V}{r:List (κ×V)}{k:κ}(e:p.1=k):bN (p::r) k=some p.2:=by simp[bN,xbO,e]
theorem Ep {p:κ×V}{r:List (κ×V)}{k:κ}(e:¬ p.1=k):bN (p::r) k=bN r k:=by simp[bN,xbO,e]
theorem YK (k:κ):∀kvs:List (κ×V),(kvs.any fun kv=>decide (kv.1=k))=(bN kvs k).isSome
  | []=>rfl
  |p::r=>by
    rw[xba]
    by_cases e:p.1=k
    · simp only[Er e,xbE e,Bool.true_or,Option.isSome_some]
    · rw[Ep e,xaR e,Bool.false_or];exact YK k r
theorem O4 (kvs:List (κ×V))(k:κ)(v:V):(putK kvs k v).length<=kvs.length + 1:=by
 unfold putK
 split
 ·rw[xai];omega
 ·rw[Z4,xar,xbP];omega
theorem KV.val {kvs:List (κ×V)}{vs:List (κ×Value)}(r:KV kvs vs)(k:κ):lF (bN kvs k) (valueAt vs k):=by
  unfold KV at r
  induction r with
  |nil=>exact True.intro
  | @cons p q ps qs h t ih=>
    obtain⟨h1,h2⟩:=h
    by_cases e:p.1=k
    · have e':q.1=k:=h1.symm.trans e;have b:valueAt (q::qs) k=some q.2:=by simp[valueAt,xbO,e']
      rw[Er e,b];exact h2
    · have e':¬ q.1=k:=fun z=>e (h1.trans z);have b:valueAt (q::qs) k=valueAt qs k:=by simp[valueAt,xbO,e']
      rw[Ep e,b];exact ih
theorem KV.any (r:KV kvs vs)(k:κ):(kvs.any fun kv=>decide (kv.1=k))=vs.any fun kv=>decide (kv.1=k):=by
 unfold KV at r
 induction r with
 |nil=>rfl
 |cons h t ih=>rw[xba,xba,ih,h.1]
theorem KV.repl (r:KV kvs vs)(k:κ)(ry:RelV y u):
    KV (kvs.map fun kv=>if kv.1=k then(kv.1,y) else kv) (vs.map fun kv=>if kv.1=k then(kv.1,u) else kv):=by
  unfold KV at r ⊢
  induction r with
  |nil=>exact .nil
  | @cons p q ps qs h t ih=>
    rw[xaV,xaV];refine .cons ?_ ih;obtain⟨h1,h2⟩:=h
    by_cases e:p.1=k
    · rw[Z7 e,Z7 (h1.symm.trans e)];exact⟨h1,ry⟩
    · rw[xaf e,xaf (fun z=>e (h1.trans z))];exact⟨h1,h2⟩
theorem KV.put (r:KV kvs vs)(k:κ)(ry:RelV y u):KV (putK kvs k y) (stored vs k u):=by
 unfold putK stored;rw[r.any k]
 by_cases e:(vs.any fun kv=>decide (kv.1=k))=true
 ·rw[Z7 e,Z7 e];exact r.repl k ry
 ·rw[xaf e,xaf e];exact Paired.snoc r ⟨rfl,ry⟩
theorem KV.length (r:KV kvs vs):kvs.length=vs.length:=xdk r
end
theorem Oh (r:RelV (kV k) u):(gO P w).is k u=true:=by
 cases k with
 |inl i=>obtain⟨t,e⟩:=(show ∃t,u=Value.int i t from r);subst e;exact Ph P w i t
 |inr x=>obtain⟨t,e⟩:=(show ∃t,u=Value.str x t from r);subst e;exact Pj P w x t
abbrev KT (H:Hp):List (List Key×V)->List (List Key×Addr×Value)->Prop:=Paired fun p q=>p.1=q.1/\H q.2.1=some (.tup (p.1.map kV))/\RelV p.2 q.2.2
section
variable {P:Program}{w:World}{H:Hp}{h:Heap}{a:Addr}
theorem Wb (ok:bK P w H h)(e:Rd H a u):cj P w H h a u:=e.ok ok
theorem Ma (ok:bK P w H h)(e:Rd H a (.dK kvs)):kvs.length<=sizeLine/\(a==sysModules)=false/\∃vs,KV kvs vs/\h.DictOf (gO P w) a vs:=
 show cj P w H h a (.dK kvs) from Wb ok e
theorem L_ (ok:bK P w H h)(e:H a=some (.dK kvs)):kvs.length<=sizeLine/\(a==sysModules)=false/\∃vs,KV kvs vs/\h.DictOf (gO P w) a vs:=Ma ok (.inl e)
end
def Kg (H:Hp)(a:Addr)(y:V)(r:Option V):Prop:=
 (∃kvs k,Rd H a (.dK kvs)/\y=kV k/\r=bN kvs k)\/∃kvs k b,Rd H a (.dT kvs)/\y=.ref b/\H b=some (.tup (k.map kV))/\r=bN kvs k
def Kh (H:Hp)(a:Addr)(y v:V)(H':Hp):Prop:=
 (∃kvs k,H a=some (.dK kvs)/\y=kV k/\kvs.length<sizeLine/\H'=upd H a (.dK (putK kvs k v)))\/
 ∃kvs k b,H a=some (.dT kvs)/\y=.ref b/\H b=some (.tup (k.map kV))/\kvs.length<sizeLine/\H'=upd H a (.dT (putK kvs k v))
section
variable {X:Cx}{pins:Pnx}{σ:St}{H:Hp}{s:Shared}{a:Addr}{y v:V}{u r:Value}{o:Option V}{A:Around}{E:Value->Shared->Prop}
theorem Inv.big (I:Inv X pins σ H s):sysModules<s.heap.objs.size:=by
 have h:mainGlobals<s.heap.objs.size:=(I.mod.glob.keeps I.bk).lt;exact Nat.lt_trans (by decide) h
theorem Lx (I:Inv X pins σ H s)(mu:rQ (H a))(hs:Heap.SameBut a s.heap h')(he:∃q,h'.get? a=some q)(new:cj X.prog X.w (upd H a ob) h' a ob):
  Inv X pins σ (upd H a ob) {s with heap:=h',toks:=t'}:=
 I.write (x:=a) (e:=a) mu (.inl rfl) (fun b q hb z=>(hs.2 b hb).trans z) he new
theorem LR (z:kvs.length<=sizeLine)(hd:(a==sysModules)=false)(rel:KV kvs vs)(dd:h'.DictOf (gO P w) a vs):
  cj P w H' h' a (.dK kvs):=⟨z,hd,vs,rel,dd⟩
end
theorem LK (h:Heap)(hb:sysModules<h.objs.size):cj P w H (h.push {cls:=.type "dict",data:=.dict #[]}) h.objs.size (.dK []):=
 ⟨xaE _,xaM.mpr (xbr (xap hb)),[],.nil,Heap.DictOf.new h⟩
def Xx:TE:=fun _ H Q=>∀p,H p=none->Q (.ref p) (upd H p (.dK []))
section
variable {X:Cx}{pos:Pos}
theorem Rv:PE X (.Dict [] [] pos) Xx:=fun pins s σ H Q I h=>
 wpAny_Dict_empty ⟨.ref s.heap.objs.size,_,I.laid (a:=s.heap.objs.size) (o:=.dK []) (t':=s.toks) (fun _ _ q=>xac _ q) (tG _) (LK s.heap I.big),rfl,h _ (I.hok.fresh (tG _))⟩
end
structure M1 (X:Cx)(o:Expr)(m:Str)(apos:Pos)(e:Expr)(cpos:Pos):Prop where
 base:attributeBase o m X.env (eval o X.env)=eval o X.env
 few : ((backTo cpos (starEach [e] X.env)).all (fun x=> !x.1) && (backToKw cpos (keywordEach [] X.env)).all (fun x=>x.1.isSome)
  && decide (([e]:List Expr).length + ([]:List Keyword).length + (if ([]:List Keyword).isEmpty then 0 else 1)<30))=true
 line:(apos.endLine==cpos.line)=true
 trees:backTo cpos (starEach [e] X.env)=[(false,eval e X.env)]
structure M2 (X:Cx)(o:Expr)(m:Str)(apos:Pos)(e f:Expr)(cpos:Pos):Prop where
 base:attributeBase o m X.env (eval o X.env)=eval o X.env
 few : ((backTo cpos (starEach [e,f] X.env)).all (fun x=> !x.1) && (backToKw cpos (keywordEach [] X.env)).all (fun x=>x.1.isSome)
  && decide (([e,f]:List Expr).length + ([]:List Keyword).length + (if ([]:List Keyword).isEmpty then 0 else 1)<30))=true
 line:(apos.endLine==cpos.line)=true
 trees:backTo cpos (starEach [e,f] X.env)=[(false,eval e X.env),(false,eval f X.env)]
end L2
namespace Att
open PySem PySem.W PySem.Calls PyProof.Rows
end Att
namespace L2
open PySem PySem.Spec PyProof.Rows
noncomputable def E_ (K:Fgx) (a:Addr) (n:Nat):It:=
 ⟨fun i H=>i<n/\∃xs,bw K H a xs/\xs.length=n,fun i H x H'=>H'=H/\∀xs,bw K H a xs->xs[n - 1 - i]? =some x,fun i _=>i=n⟩
theorem Yr {P:Program}{w:World}{K:Fgx}{tg:Expr}(a it:Addr)(n:Nat):Turn P w K tg (E_ K a n) [it] it (fun i h=>h.IsRevIter it a ((n:Int) - 1 - (i:Int))) where
 mem:=by simp
 obj:=fun i h st b hb=>by
  have e:b=it:=by simpa using hb
  subst e;obtain⟨o,e,c,d⟩:=st;exact⟨o,e,fun v z=>by rw[d]at z;cases z⟩
 keep:=fun i h h' st k=>st.at fun o e=>k it (by simp) o e
 item:=by
  intro X hP hw hK hc i pins s σ H E I hf st hg;subst hP hw hK;obtain⟨hi,xs,hq,hlen⟩:=hg;obtain⟨its,rv,p,hz⟩:=I.list hq;have hx:xs[n - 1 - i]? =some (xs[n - 1 - i]'(by omega)):=Z6 (by omega);obtain⟨u,hu,ru⟩:=rv.get hx;obtain⟨f0,f1,f2,f3,f4,f5⟩:=hf it (by simp);have e:(n:Int) - 1 - (i:Int)=((n - 1 - i:Nat):Int):=by omega
  have st0:s.heap.IsRevIter it a ((n - 1 - i:Nat):Int):=by rw[<-e];exact st
  refine wpAny_pyNext_rev_item st0 p.isList (x:=u) (by simpa using hu) fun h' st' sb=>?_;have e2:((n - 1 - i:Nat):Int) - 1=(n:Int) - 1 - ((i + 1:Nat):Int):=by omega
  rw[e2]at st';have I1:Inv X pins σ H {s with heap:=h'}:=I.turned (t':=s.toks) (fun b o hb e=>(sb.2 b hb).trans e) f0 f1 f3 f4 f5;obtain⟨o,eo,c,d⟩:=id st';exact⟨u,rfl,rm (s:={s with heap:=h'}) eo c d (by decide) ⟨_,H,I1,ru,⟨rfl,fun ys hy=>by rw[I.list_inj hy hq];exact hx⟩,st',fun b hb=>(hf b hb).1⟩⟩
 done:=by
  intro X hP hw hK hc i pins s σ H E I hf st hg;subst hP hw hK;have hg':i=n:=hg;subst hg';obtain⟨f0,f1,f2,f3,f4,f5⟩:=hf it (by simp);have e:(i:Int) - 1 - (i:Int)= -1:=by omega
  have st0:s.heap.IsRevIter it a (-1):=by rw[<-e];exact st
  exact wpAny_pyNext_rev_end (I.ok.hd hc) st0 fun h' eb=>⟨rfl,I.turned (t':=s.toks) (fun b o hb e=>eb b o hb e) f0 f1 f3 f4 f5⟩
 self:=fun _ _ _ _ _ st h=>wpAny_pyIter_revIter st h
section
variable {X:Cx}{tg:Expr}
noncomputable def Bb (K:Fgx) (ta:TA):TI:=fun σ H R=>ta σ H fun vs H1=>∃a xs,vs=[.ref a]/\bw K H1 a xs/\R (E_ K a xs.length) H1
theorem RV (hg:Gl X "reversed")(hm:X.mg "reversed"=none)(ha:PA X [a] ta)(hs:starEach [a] X.env=[(false,eval a X.env)]:=by rfl):PI X tg (.Call (.Name "reversed" p) [a] [] pos) (Bb X.K ta):=by
 intro pins s σ H R I h;refine Call_ (vf I hg hm boot_reversed (xbT (aU (ha pos pins s σ H _ I h) fun us s1 ⟨vs,H1,I1,r1,q1⟩=>?_) hs rfl));obtain⟨b,xs,e,hq,q⟩:=q1;subst e;obtain⟨u,e,ru⟩:=vals1 r1;subst e;cases ru;obtain⟨its,rv,pl,hz⟩:=I1.list hq;have hlen:its.toArray.size=xs.length:=by rw[Z8];exact rv.length.symm
 refine call_reversed_list pl.isList ?_;rw[hlen];refine wpAny_pyIter_revIter (l:=b) (i:=(xs.length:Int) - 1) ⟨_,xau _ rfl,rfl,rfl⟩ ?_;refine⟨s1.heap.objs.size,[s1.heap.objs.size],_,_,H1,rfl,I1.kept (t':=s1.toks) fun b o e=>xac _ e,Yr b _ xs.length,?_,fun c hc=>?_,q⟩
 ·have e:(xs.length:Int) - 1 - ((0:Nat):Int)=(xs.length:Int) - 1:=by omega
  show Heap.IsRevIter _ _ b ((xs.length:Int) - 1 - ((0:Nat):Int));rw[e];exact⟨_,xau _ rfl,rfl,rfl⟩
 ·have e:c=s1.heap.objs.size:=by simpa using hc
  subst e;exact I1.fpOk (tG _) (I1.hok.fresh (tG _))
end
section
variable {X:Cx}
def IK:V->List V->Hp->VK->Prop:=fun x vs H Q=>∃z y i rest,x=.str z/\vs=[.str y]/\Builtin.Str.occurrences z y 0 z.length 1=i::rest/\Q (.int (i:Nat)) H
theorem Pr:wO X "str.index" IK:=by
 intro pins s σ H x vs v us Q I rx rv h;obtain⟨z,y,i,rest,rfl,rfl,ho,q⟩:=h;obtain⟨t,rfl⟩:=rx;obtain⟨u,rfl,t',rfl⟩:=rv.one;exact call_givesAt (P:=fun _=>True) F.slot_str_index (xdf _ _ _) F.entry_str_index (F.args_str_index_2 _ _) (fun prog w A R s _ h=>gives_str_index z y t t' i rest ho prog w A R s h) True.intro ⟨.int _,H,I.tok _,⟨_,rfl⟩,q⟩
def CK:V->Option Int->Option Int->Hp->VK->Prop:=fun x lo hi H Q=>∃z,x=.str z/\z.length<=sizeLine/\Q (.str (Txt.slice z lo hi)) H
theorem WD:mR X CK:=by
 intro pins s σ H x v vl vu lo hi sl Q I rx hs pl pu h;obtain⟨z,rfl,hz,q⟩:=h;obtain⟨t,rfl⟩:=rx;refine⟨"str",_,F.slot_str_getitem.lookup,xdf _ _ _,?_⟩;obtain⟨o,ho,hc,hd⟩:=hs;cases pl<;>cases pu
 ·exact xbL (l:=none) (u:=none) (st:=none) ⟨o,ho,hc,hd⟩ rfl (xcm ⟨xav (xcT z none none) hz,fun t' k=>⟨.str _,H,I.tok _,⟨_,rfl⟩,q⟩⟩)
 ·rename_i j uj;exact xbL (l:=none) (u:=some (j,uj)) (st:=none) ⟨o,ho,hc,hd⟩ rfl (xcm ⟨xav (xcT z none (some j)) hz,fun t' k=>⟨.str _,H,I.tok _,⟨_,rfl⟩,q⟩⟩)
 ·rename_i i ui;exact xbL (l:=some (i,ui)) (u:=none) (st:=none) ⟨o,ho,hc,hd⟩ rfl (xcm ⟨xav (xcT z (some i) none) hz,fun t' k=>⟨.str _,H,I.tok _,⟨_,rfl⟩,q⟩⟩)
 ·rename_i i ui j uj;exact xbL (l:=some (i,ui)) (u:=some (j,uj)) (st:=none) ⟨o,ho,hc,hd⟩ rfl (xcm ⟨xav (xcT z (some i) (some j)) hz,fun t' k=>⟨.str _,H,I.tok _,⟨_,rfl⟩,q⟩⟩)
theorem Q9:bC X (compareOp .Is) (fun x y H Q=>∃b,y=.bl b/\Q (.bl (decide (x=.bl b))) H):=by
 intro pins s σ H x y v u Q I rx ry h;obtain⟨b,rfl,q⟩:=h;cases ry
 cases x with
 |bl c=>cases rx;exact Z9 (bf I q (by cases b<;>cases c<;>rfl))
 |non=>cases rx;exact Z9 (bf I q (by simp))
 |int _=>obtain⟨t,rfl⟩:=rx;exact Z9 (bf I q (by simp))
 |str _=>obtain⟨t,rfl⟩:=rx;exact Z9 (bf I q (by simp))
 |byt _=>obtain⟨t,rfl⟩:=rx;exact Z9 (bf I q (by simp))
 |flt _=>obtain⟨t,rfl⟩:=rx;exact Z9 (bf I q (by simp))
 |ref _=>cases rx;exact Z9 (bf I q (by simp))
 |ty _=>cases rx;exact Z9 (bf I q (by simp))
theorem Ra:bC X (compareOp .IsNot) (fun x y H Q=>∃b,y=.bl b/\Q (.bl (!decide (x=.bl b))) H):=by
 intro pins s σ H x y v u Q I rx ry h;obtain⟨b,rfl,q⟩:=h;cases ry
 cases x with
 |bl c=>cases rx;exact Z9 (bf I q (by cases b<;>cases c<;>rfl))
 |non=>cases rx;exact Z9 (bf I q (by simp))
 |int _=>obtain⟨t,rfl⟩:=rx;exact Z9 (bf I q (by simp))
 |str _=>obtain⟨t,rfl⟩:=rx;exact Z9 (bf I q (by simp))
 |byt _=>obtain⟨t,rfl⟩:=rx;exact Z9 (bf I q (by simp))
 |flt _=>obtain⟨t,rfl⟩:=rx;exact Z9 (bf I q (by simp))
 |ref _=>cases rx;exact Z9 (bf I q (by simp))
 |ty _=>cases rx;exact Z9 (bf I q (by simp))
end
section
variable {X:Cx}{pins:Pnx}{σ:St}{H:Hp}{s:Shared}
noncomputable def vo (base h:Heap) (L:Addr):Pnx:=(List.range h.objs.size).filterMap fun b=>if b=L then none else if (base.get? b).isSome then none else(h.get? b).map fun o=>(b,o)
theorem HD (hL:b≠L)(hb:base.get? b=none)(e:h.get? b=some o):(b,o)∈vo base h L:=by
 unfold vo;rw[xa5];refine⟨b,xda.mpr (xad e),?_⟩;rw[xaf hL,hb,e]
 simp
theorem QL (hp:p∈vo base h L):h.get? p.1=some p.2/\p.1≠L/\base.get? p.1=none:=by
  unfold vo at hp;rw[xa5]at hp;obtain⟨b,_,e⟩:=hp
  by_cases hL:b=L
  · rw[Z7 hL]at e;cases e
  · rw[xaf hL]at e
    cases hb:base.get? b with
    |some u=>rw[hb]at e;simp at e
    |none=>
      rw[hb]at e
      cases hh:h.get? b with
      |none=>rw[hh]at e;simp at e
      |some u=>
        rw[hh]at e
        simp at e
        subst e;exact⟨hh,hL,hb⟩
theorem Inv.but (I:Inv X pins σ H s)(k:∀b o,b≠X.env.locals->s.heap.get? b=some o->h'.get? b=some o)(ns:∀m,s.heap.Ns X.env.locals m->h'.Ns X.env.locals m):Inv X pins σ H {s with heap:=h',toks:=tk}:=by
 have hok : bK X.prog X.w H h' := fun a o e => (I.hok a o e).stay (fun b u hb q => k b u (fun z=>by
  subst z;have hn:=I.free;rcases hb with hb |hb
  ·rw[<-hb]at e;rw[hn]at e;cases e
  ·rw[hn]at hb;cases hb) q) (fun _ q=>q) fun _ _ q=>q
 exact I.step (g' := s.gens) (d' := s.drawn) (ch := []) (fun _ z => nomatch z) (fun b o hL _ _ e _ => k b o hL e) (fun b o hL _ _ e _ => ⟨o.slots, k b o hL e⟩) (fun b o _ _ n => n) (fun b o _ e=>by
  by_cases hL:b=X.env.locals
  ·subst hL;obtain⟨m,hn,_⟩:=I.loc;obtain⟨o',_,_,e',_⟩:=ns m hn;exact⟨o',e'⟩
  ·exact⟨o,k b o hL e⟩) (fun _ _ q=>q) (fun _ _ _ q=>q) (fun _ ps q=>⟨#[],by simpa using q⟩) ns hok I.bare
theorem Inv.via (I:Inv X pins σ H s):∃m news,Fr X.base X.env.locals s.heap m/\News X.base X.env.locals s.heap news/\
    (∀b o,b≠X.env.locals->X.base.get? b=none->s.heap.get? b=some o->(b,o)∈news)/\
    ∀(h':Heap) (tk:Nat),Fr X.base X.env.locals h' m->News X.base X.env.locals h' news->(∀b o,b≠X.env.locals->s.heap.get? b=some o->h'.get? b=some o)/\Inv X pins σ H {s with heap:=h',toks:=tk}:=by
  obtain⟨m,F⟩:=I.fr;refine⟨m,vo X.base s.heap X.env.locals,F,fun p hp=>QL hp,fun b o hL hb e=>HD hL hb e,fun h' tk F' N'=>?_⟩;have k:∀b o,b≠X.env.locals->s.heap.get? b=some o->h'.get? b=some o:=fun b o hL e=>by
    cases hb:X.base.get? b with
    |some u=>
      have e1:=I.bk b u hb;rw[e]at e1;cases e1;exact F'.keep b o hb
    |none=>exact(N' (b,o) (HD hL hb e)).1
  refine⟨k,I.but k fun m' hm=>?_⟩;have:m'=m:=by
    obtain⟨o,es,ep,e,d,_,f⟩:=hm;obtain⟨o',es',ep',e',d',_,f'⟩:=F.ns;rw[e]at e';cases e';rw[d]at d';cases d';funext x;rw[<-f x, <-f' x]
  subst this;exact F'.ns
theorem Bc:∀{us:List Value},Vals (ns.map V.int) us->IntsAre us ns:=by
  induction ns with
  |nil=>intro us h;cases us with
    |nil=>exact .nil
    |cons u us=>cases h
  |cons n ns ih=>intro us h;cases us with
    |nil=>cases h
    |cons u us=>
      cases h with
      |cons a b=>
        obtain⟨t,rfl⟩:=a;exact .cons _ _ (ih b)
theorem Lb:X.calm=true->cR X (.builtin "sum") (fun xs H Q=>∃(p:Addr) (is:List Int),xs=[.ref p]/\bw X.K H p (is.map V.int)/\Q (.int is.sum) H):=by
 intro hc pins s σ H xs us Q I r h;obtain⟨p,is,rfl,hq,q⟩:=h;obtain⟨u,rfl,rx⟩:=vals1 r;cases rx;obtain⟨its,rv,pl,hz⟩:=I.list hq;obtain⟨m,news,F,N,_,back⟩:=I.via;refine LSm.sum_ints F N (I.ok.hd hc) pl.isList (Bc rv) fun h' tk t' F' N'=>?_;exact⟨.int is.sum,H,(back h' tk F' N').2,⟨t',rfl⟩,q⟩
end
section
variable {X:Cx}{pins:Pnx}{σ:St}{H:Hp}{s:Shared}
theorem KZ:cR X (.type "int") (fun xs H Q=>∃z n,xs=[.str z]/\intText? z=some n/\z.length<=640/\Q (.int n) H):=by
 intro pins s σ H xs us Q I r h;obtain⟨z,n,rfl,h1,h2,q⟩:=h;obtain⟨u,rfl,t,rfl⟩:=vals1 r;exact W.KIN.call_text h1 h2 ⟨.int n,H,I.tok _,⟨_,rfl⟩,q⟩
end
section
variable {X:Cx}{pins:Pnx}{σ:St}{H:Hp}{s:Shared}{h':Heap}
theorem Inv.turnLaid {t':Nat}{fp:List Addr}{T:Addr}{o:HO}(I:Inv X pins σ H s)(k:∀b u,b∉fp->s.heap.get? b=some u->h'.get? b=some u)(hf:∀b∈fp,c7 X pins H b)(hp:s.heap.objs.size<=T)(new:cj X.prog X.w (upd H T o) h' T o):
  Inv X pins σ (upd H T o) {s with heap:=h',toks:=t'}:=by
 have hn:H T=none:=I.hok.fresh hp;have neT:∀b u,s.heap.get? b=some u->b≠T:=fun b u e=>xap (xab (xad e) hp);refine I.step (g':=s.gens) (d':=s.drawn) (ch:=fp) (fun b hb=>⟨(hf b hb).2.2.2.1,(hf b hb).2.1,(hf b hb).2.2.2.2.1,(hf b hb).2.2.2.2.2⟩) (fun b o _ _ hc e _=>k b o hc e) (fun b o _ _ hc e _=>⟨o.slots,k b o hc e⟩) (fun b u _ e n=>by rw[aW (neT b u e)];exact n)
  (fun b o hc e=>⟨o,k b o hc e⟩) (fun b xs e=>by rw[aW (j_ e hn)];exact e) (fun b u xs e=>by rw[aW (j_ e hn)];exact e) (fun b ps e=>⟨#[],by rw[aW (j_ e hn),e];simp⟩) (fun m hm=>?_) (fun b u e=>?_) I.bare
 ·obtain⟨o,es,ep,ho,r⟩:=hm;exact⟨o,es,ep,k _ o (fun z=>(hf _ z).2.1 rfl) ho,r⟩
 ·by_cases hb:b=T
  ·subst hb;rw[b_]at e;cases e;exact new
  ·rw[aW hb]at e;refine(I.hok b u e).stay (fun c v hc q=>k c v (fun z=>?_) q) (fun c q=>by rw[aW (j_ q hn)];exact q) fun c xs q=>by rw[aW (j_ q hn)];exact q
   have hn':=(hf c z).1;rcases hc with y |y
   ·rw[y,e]at hn';cases hn'
   ·rw[y]at hn';cases hn'
end
abbrev TJ:=Str->St->Hp->VK->Prop
theorem GX (g:α->β->β):∀(l:List α) (b:β),(∀x∈l,∀b,f x b=pure (.yield (g x b)))->(forIn l b f:Sem β)=pure (l.foldl (fun b x=>g x b) b)
  | [],b,_=>rfl
  |x::l,b,h=>by
    rw[List.forIn_cons,h x xaG b];simp only[pure_bind,xbi];exact GX g l (g x b) fun y hy=>h y (xak _ hy)
noncomputable def kW (cells:List (Str×Addr)) (cs:List (Str×Addr)) (x:Str×NameKind):List (Str×Addr):=if x.2=.free then(x.1,(cells.lookup x.1).getD 0)::cs else cs
noncomputable def fQ (cells:List (Str×Addr)) (names:List (Str×NameKind)):List (Str×Addr):=names.foldl (kW cells) []
theorem Gg (h:∀y∈scope.names,y.2=.free->∃c,env.cells.lookup y.1=some c):closureFor scope env=pure (fQ env.cells scope.names):=by
 simp only [closureFor];rw [GX (fun x cs => kW env.cells cs x) scope.names [] (fun x hx c=>by
  obtain⟨n,kind⟩:=x
  by_cases hk:kind=.free
  ·obtain⟨a,ha⟩:=h _ hx hk;subst hk;have ha':env.cells.lookup n=some a:=ha
   simp[cellOf,ha',kW]
  ·have hk':(kind==NameKind.free)=false:=by simpa using hk
   simp[hk',hk,kW])]
 rfl
theorem Gf:∀(names:List (Str×NameKind)) (acc:List (Str×Addr)),(∀y∈names,y.2=.free->∃c,cells.lookup y.1=some c)->
    (∀x c,acc.lookup x=some c->cells.lookup x=some c)->∀x c,(names.foldl (kW cells) acc).lookup x=some c->cells.lookup x=some c
  | [],_,_,h,x,c,e=>h x c e
  |(n,k)::r,acc,hc,h,x,c,e=>by
    rw[xbi]at e;refine Gf r _ (fun y hy=>hc y (xak _ hy)) ?_ x c e;intro y d hd;unfold kW at hd
    by_cases hk:k=.free
    · obtain⟨a,ha⟩:=hc (n,k) xaG hk;have ha':cells.lookup n=some a:=ha;simp only[hk,xaZ,ha',xbX,xbG]at hd
      cases hyn:y==n with
      |true=>
        rw[hyn]at hd;have e2:=eq_of_beq hyn;subst e2;exact ha'.trans hd
      |false=>
        rw[hyn]at hd;exact h y d hd
    · simp only[hk,xaF]at hd;exact h y d hd
theorem Ai:∀(names:List (Str×NameKind)) (acc:List (Str×Addr)) (x:Str),((x,NameKind.free)∈names\/∃c,acc.lookup x=some c)->∃c,(names.foldl (kW cells) acc).lookup x=some c
  | [],acc,x,h=>by
    rcases h with h |h
    · exact absurd h (by simp)
    · exact h
  |(n,k)::r,acc,x,h=>by
    rw[xbi];refine Ai r _ x ?_;have keep:(∃c,acc.lookup x=some c)->∃c,(kW cells acc (n,k)).lookup x=some c:=fun⟨c,hc⟩=>by
      unfold kW
      by_cases hk:k=.free
      · simp only[hk,xaZ,xbG]
        cases hxn:x==n with
        |true=>exact⟨_,rfl⟩
        |false=>exact⟨c,hc⟩
      · simp only[hk,xaF];exact⟨c,hc⟩
    rcases h with h |h
    · rcases xah.mp h with h |h
      · cases h;refine .inr ?_;unfold kW;simp only[xaZ,xbG,xaL];exact⟨_,rfl⟩
      · exact .inl h
    · exact .inr (keep h)
noncomputable def cN (psc:Scope) (names:List (Str×NameKind)):List (Str×NameKind):=names.map fun(n,k)=>if (k==.free && psc.kind==.function && psc.names.lookup n==some .cell) then(n,.cell) else(n,k)
theorem vO:∀{names:List (Str×NameKind)} {x:Str} {k':NameKind},(cN psc names).lookup x=some k'->(k'=.cell\/k'=.free)->(∀y∈names,y.2≠ .cell)->(x,NameKind.free)∈names
  | [],_,_,h,_,_=>by simp[cN]at h
  |(n,k)::r,x,k',h,hk,hn=>by
    have ih:= @vO psc r x k';have h':List.lookup x ((if (k==NameKind.free && psc.kind==.function && psc.names.lookup n==some .cell)=true then(n,NameKind.cell) else(n,k))::cN psc r)=some k':=h
    cases hx:x==n with
    |true=>
      have e:=eq_of_beq hx;subst e
      by_cases hc:(k==NameKind.free && psc.kind==.function && psc.names.lookup x==some .cell)=true
      · have hkf:k=.free:=by
          cases k<;>first |rfl |(exfalso;simp at hc)
        rw[hkf];exact xaG
      · rw[xaf hc]at h';simp only[xbG,xaL]at h';have e2:k=k':=xan h';subst e2;rcases hk with hk |hk
        · exact absurd hk (hn (x,k) xaG)
        · rw[hk];exact xaG
    |false=>
      refine xak _ (ih ?_ hk fun y hy=>hn y (xak _ hy))
      by_cases hc:(k==NameKind.free && psc.kind==.function && psc.names.lookup n==some .cell)=true
      · rw[Z7 hc]at h';simp only[xbG,hx]at h';exact h'
      · rw[xaf hc]at h';simp only[xbG,hx]at h';exact h'
noncomputable def d8 (cs:List (Str×Nat)) (σ:St):St:=cs.map fun p=>(σ[p.2]?).join
abbrev dh (X:Cx)(Nc:List Str)(scope:Scope)(cl:List (Str×Addr))(C:Addr)(s₀:Shared)(H₀:Hp)(ex:List Addr)(pn:Pnx):Cx:=
 {X with N:=Nc,s₀:=s₀,H₀:=H₀,env:=compEnvC scope cl C X.env,outer:=X.stack,ex:=ex,fn:=fun _=>false,pn:=pn,xe:=fun _ _=>False}
noncomputable def nT (N:List Str) (psc:Scope) (x:Str) (cs:List (Str×Nat)) (scope:Scope):Bool:=
 scope.kind==.function && scope.names.lookup x==some .local && decide ((x::cs.map (·.1)).Nodup) &&
 scope.names.all (fun y=>y.2 !=.cell && (y.2 !=.local || scope.names.lookup y.1==some .local) && (y.2 !=.free || (psc.names.lookup y.1==some .cell || psc.names.lookup y.1==some .free))) &&
 cs.all (fun p=>N[p.2]? ==some p.1 && (psc.names.lookup p.1==some .cell || psc.names.lookup p.1==some .free) && ((cN psc scope.names).lookup p.1==some .cell || (cN psc scope.names).lookup p.1==some .free))
structure CompOk (N:List Str)(psc:Scope)(x:Str)(cs:List (Str×Nat))(scope:Scope):Prop where
 kind:scope.kind=.function
 own:scope.names.lookup x=some .local
 nd:(x::cs.map (·.1)).Nodup
 cell:∀y∈scope.names,y.2≠ .cell
 names:∀y∈scope.names,y.2=.local->scope.names.lookup y.1=some .local
 has:∀y∈scope.names,y.2=.free->psc.names.lookup y.1=some .cell\/psc.names.lookup y.1=some .free
 cap:∀p∈cs,N[p.2]? =some p.1/\(psc.names.lookup p.1=some .cell\/psc.names.lookup p.1=some .free)/\((cN psc scope.names).lookup p.1=some .cell\/(cN psc scope.names).lookup p.1=some .free)
theorem CompOk.of (h:nT N psc x cs scope=true):CompOk N psc x cs scope:=by
 unfold nT at h;simp only[xam,Bool.or_eq_true,xbc,xcJ,xa8,bne_iff_ne,ne_eq]at h;obtain⟨⟨⟨⟨h1,h2⟩,h3⟩,h4⟩,h5⟩:=h;refine⟨h1,h2,h3,fun y hy=>(h4 y hy).1.1,fun y hy e=>?_,fun y hy e=>?_,fun p hp=>⟨(h5 p hp).1.1,(h5 p hp).1.2,(h5 p hp).2⟩⟩
 ·rcases(h4 y hy).1.2 with z |z
  ·exact absurd e z
  ·exact z
 ·rcases(h4 y hy).2 with z |z
  ·exact absurd e z
  ·exact z
def fY (X:Cx)(ifs:List Expr)(t:TT):Prop:=
 ∀(pins:Pnx) (s:Shared) (σ:St) (H:Hp) (Q:Bool->Hp->Prop),Inv X pins σ H s->t σ H Q->
  wpAny (model X.prog X.w) X.A (forIn ifs true fun c r=>if r=true then do let ok <-isTrue c X.env (eval c X.env);pure (ForInStep.yield ok) else pure (ForInStep.yield r)) (TP X pins σ Q) X.xe s
def gH:TT:=fun _ H Q=>Q true H
theorem Im:fY X [] gH:=fun _ _ _ H _ I h=>wpAny_tests_nil ⟨H,I,h⟩
theorem RX (h:PT X c t):fY X [c] t:=fun pins s σ H Q I hw=>wpAny_tests_one (h pins s σ H Q I hw)
def wC (wi:TI)(tq:TT)(te:TE)(cs:List (Str×Nat)):St->Hp->(Addr->Hp->Prop)->Prop:=fun σ H R=>wi σ H fun J H1=>∀D,H1 D=none->
  ∃W:Nat->Nat->List V->Hp->Prop,(∃m,W 0 m [] (upd H1 D (.lst [])))/\∀i m ys H2,W i m ys H2->H2 D=some (.lst ys)/\
    ((J.stop i H2 /\ R D H2) \/ (J.go i H2/\ys.length<sizeLine/\∃N:List V->Hp->Prop,(∀ys' H',N ys' H'->∃m',m'<m/\W (i + 1) m' ys' H')/\∀v H3,J.yld i H2 v H3->tq (some v::d8 cs σ) H3 fun b H4=>
      if b=true then te (some v::d8 cs σ) H4 fun y H5=>H5 D=some (.lst ys)/\N (ys ++ [y]) (upd H5 D (.lst (ys ++ [y]))) else N ys H4))
section
variable {prog:Program}{w:World}{A:Around}{R:Result->Shared->Prop}{s:Shared}
theorem Ln (I:Nat->Shared->Prop)
    (turn : ∀ n s, I n s -> wpAny (model prog w) A (pyNext it) (fun r s₁=>match r with
      |none=>R (.ok .next) s₁
      | some v => wpAny (model prog w) A (letOwnedTupleGo target it v) (fun _ s₁' => wpAny (model prog w) A (assign target env v) (fun _ s₂=>
          wpAny (model prog w) A (forIn ifs true fun c r => if r = true then do let ok <- isTrue c env (eval c env); pure (ForInStep.yield ok) else pure (ForInStep.yield r)) (fun ok s₃=>
            if ok = true then wpAny (model prog w) A (eval elt env) (fun x s₄=>
              wpAny (model prog w) A (call (.builtin "list.append") [acc,x]) (fun _ s₅=>∃m,m<n/\I m s₅) (fun _ _=>False) s₄) (fun _ _=>False) s₃
            else ∃m,m<n/\I m s₃) (fun _ _=>False) s₂) (fun _ _=>False) s₁') (fun _ _=>False) s₁) (fun _ _=>False) s)
    (n:Nat) (h:I n s):
    codeAny (model prog w) A (.compLoop (.ListComp elt [⟨target,iter,ifs,0⟩] scope pos) 0 it acc env) R s:=by
  refine codeAny_loop rfl I (fun n s hI=>?_) n h;show wpAny _ A ((compTurn (.ListComp elt [⟨target,iter,ifs,0⟩] scope pos) 0 it acc env).onRaise (fun x=>do noteFrame x env;theTreesLotGoes x)) _ _ s
  refine wpAny_noted ?_;rw[compTurn_list];refine Z2 (wpAny_standAt (Z2 (xbh (turn n s hI) (fun r s₁ h₁=>?_) fun _ _ h'=>h'.elim)))
  cases r with
  |none=>exact Z9 h₁
  |some v=>
    refine Z2 (xbh h₁ (fun _ s₁' h₁'=>?_) fun _ _ h'=>h'.elim);refine Z2 (xbh h₁' (fun _ s₂ h₂=>Z2 (xbh h₂ (fun ok s₃ h₃=>?_) fun _ _ h'=>h'.elim)) fun _ _ h'=>h'.elim)
    cases ok with
    |false=>exact Z9 ⟨rfl,h₃⟩
    |true=>
      exact Z2 (Z2 (xbh h₃ (fun x s₄ h₄=>Z2 (xbh h₄ (fun _ s₅ h₅=>Z9 (Z9 ⟨rfl,h₅⟩)) fun _ _ h'=>h'.elim)) fun _ _ h'=>h'.elim))
end
section
variable {X:Cx}{elt iter:Expr}{ifs:List Expr}{x:Str}{px:Pos}{scope:Scope}{pos:Pos}{wi:TI}{tq:TT}{te:TE}{cs:List (Str×Nat)}
theorem Gk (hc:X.calm=true)(hi:PI X (.Name x px) iter wi)
    (hq:∀(cl:List (Str×Addr)) (C:Addr) (s₀:Shared) (H₀:Hp) (ex:List Addr) (pn:Pnx),fY (dh X (x::cs.map (·.1)) scope cl C s₀ H₀ ex pn) ifs tq)
    (he:∀(cl:List (Str×Addr)) (C:Addr) (s₀:Shared) (H₀:Hp) (ex:List Addr) (pn:Pnx),PE (dh X (x::cs.map (·.1)) scope cl C s₀ H₀ ex pn) elt te)
    (ok:CompOk X.N X.env.scope x cs scope) {pins:Pnx} {s:Shared} {σ:St} {H:Hp} {R:Addr->Hp->Prop} (I:Inv X pins σ H s) (h:wC wi tq te cs σ H R)
    {RR:Value->Addr->Result->Shared->Prop}
    (hRR:∀(D C:Addr) (oC:Obj) (H':Hp) (s':Shared),Inv X (pins ++ [(C,oC)]) σ H' s'->(∀h':Heap,h'.get? C=some oC->∃m,h'.Ns C m)->c7 X pins H' C->R D H'->RR (.ref D) C (.ok .next) s'):
    wpAny (model X.prog X.w) X.A (eval iter X.env) (fun xv s₁ => wpAny (model X.prog X.w) X.A (pyIter xv) (fun itv s₂ => wpAny (model X.prog X.w) X.A (newList []) (fun acc s₃=>
      wpAny (model X.prog X.w) X.A (newFunctionEnv scope X.env.globals (fQ X.env.cells scope.names) [] X.env.qual none .none (some X.env)) (fun cenv s₄=>
        codeAny (model X.prog X.w) X.A (.compStart (.ListComp elt [⟨.Name x px,iter,ifs,0⟩] scope pos) 0 itv acc {cenv with scope:=relabel scope X.env}) (RR acc cenv.locals) s₄) X.xe s₃) X.xe s₂) X.xe s₁) X.xe s:=by
  refine aU (hi pins s σ H _ I h) fun v s1 h1=>aU h1 fun itv s2 h2=>?_;obtain⟨it,fp,tn,J,H2,e,I2,T,st2,f2,h2⟩:=h2;subst e;have hhas:∀y∈scope.names,y.2=.free->∃c,X.env.cells.lookup y.1=some c:=fun y hy hk=>I2.ok.has y.1 (ok.has y hy hk);refine xbC (wpAny_newFunctionEnv ok.cell (by intro y hy;simp at hy) (fun h₁ hns₁ hsb₁=>?_) ok.kind);dsimp only at hns₁ hsb₁ ⊢;generalize hHH:s2.heap.push {cls:=.type "list",dict:=none,data:=.seq ([]:List Value).toArray}=HH at hns₁ hsb₁ ⊢;have hC:HH.objs.size=s2.heap.objs.size + 1:=by rw[<-hHH,Heap.size_push]
  have hDC:s2.heap.objs.size≠HH.objs.size:=by rw[hC];exact xap (xbY _)
  have hCle:s2.heap.objs.size<=HH.objs.size:=by rw[hC];exact xct _
  have below:∀b,b<s2.heap.objs.size->b≠HH.objs.size:=fun b hb=>by rw[hC];exact xap (xca hb)
  have old:∀b o,s2.heap.get? b=some o->h₁.get? b=some o:=fun b o e=>hsb₁.extBut b o (below b (xad e)) (xac _ (hHH ▸ xac _ e));have hacc:h₁.get? s2.heap.objs.size=some {cls:=.type "list",dict:=none,data:=.seq ([]:List Value).toArray}:=hsb₁.extBut _ _ hDC (xac _ (hHH ▸ xau _ rfl));have nD:H2 s2.heap.objs.size=none:=I2.hok.fresh (tG _);have nC:H2 HH.objs.size=none:=I2.hok.fresh hCle;obtain⟨W,⟨m0,w0⟩,turn⟩:=h2 s2.heap.objs.size nD
  -- the block's context
  have fpC:∀b∈fp,b≠HH.objs.size:=fun b hb=>by
    obtain⟨o,ho,_⟩:=T.obj 0 _ st2 b hb;exact below b (xad ho)
  have fpD:∀b∈fp,b≠s2.heap.objs.size:=fun b hb=>by
    obtain⟨o,ho,_⟩:=T.obj 0 _ st2 b hb;exact xap (xad ho)
  have pinC:∀p∈X.pn ++ pins,p.1≠HH.objs.size:=fun p hp=>below _ (xad (I2.pin p hp).1);have clIn:∀y c,(fQ X.env.cells scope.names).lookup y=some c->X.env.cells.lookup y=some c:=Gf scope.names [] hhas (fun y c e=>by cases e);have kindRel:∀y,(relabel scope X.env).names.lookup y=(cN X.env.scope scope.names).lookup y:=fun _=>rfl;have okC:(dh X (x::cs.map (·.1)) scope (fQ X.env.cells scope.names) HH.objs.size s2 H2 fp (X.pn ++ pins)).Ok:=
    { mod:=I2.ok.mod
      kind:=ok.kind
      glob:=I2.ok.glob
      blt:=I2.ok.blt
      above:=hCle
      inj:=fun y z c e1 e2=>I2.ok.inj y z c (clIn y c e1) (clIn z c e2)
      has:=fun y hk=>by
        have hm:(y,NameKind.free)∈scope.names:=by
          rcases hk with hk |hk
          · exact vO (psc:=X.env.scope) (k':=.cell) hk (.inl rfl) ok.cell
          · exact vO (psc:=X.env.scope) (k':=.free) hk (.inr rfl) ok.cell
        exact Ai scope.names [] y (.inl hm)
      cab:=fun y c hf _=>by cases hf
      hd:=I2.ok.hd
      frames:=I2.ok.frames
      stk:=.inl rfl
      exf:=fun b hb=>⟨fpC b hb,fun y c e z=>(f2 b hb).2.2.2.2.1 y c (clIn y c e) z⟩
      bs:=fun b o e=>I2.bs b o e
      bsz:=xav I2.ok.bsz I2.sz
      noex:=fun b o e hb=>by
        rcases(f2 b hb).2.2.2.1 with z |z
        · exact I2.ok.noex b o e z
        · exact absurd (xab (xad e) (xav I2.ok.bsz z)) (xbM _)
      exfs:=fun b hb z=>by
        rcases xah.mp (I2.stkSub b z) with q |q
        · exact(f2 b hb).2.1 q
        · exact(f2 b hb).2.2.1 q
      funs:=I2.stack
      frf:=I2.stkFree}
  have IC:Inv (dh X (x::cs.map (·.1)) scope (fQ X.env.cells scope.names) HH.objs.size s2 H2 fp (X.pn ++ pins)) [] (none::d8 cs σ) (upd H2 s2.heap.objs.size (.lst [])) {s2 with heap:=h₁,toks:=s2.toks + ([]:List (Str×Value)).length}:=
    { ok:=okC
      os:=rfl
      bare:=I2.bare
      base:=Un.laid old (tG _) nD
      loc:=by
        refine⟨_,hns₁,fun i y u e1 e2 _=>?_⟩
        cases i with
        |zero=>
          have e2':(none:Option V)=some u:=xan e2;cases e2'
        |succ i=>
          have e1':(cs.map (·.1))[i]? =some y:=e1;have e2':(d8 cs σ)[i]? =some (some u):=e2;rw[xag]at e1';unfold d8 at e2';rw[xag]at e2'
          cases ep:cs[i]? with
          |none=>rw[ep]at e1';cases e1'
          |some p=>
            rw[ep]at e1' e2';have e1'':p.1=y:=xan e1';have e2'':(σ[p.2]?).join=some u:=xan e2';have e3:σ[p.2]? =some (some u):=by
              cases q:σ[p.2]? with
              |none=>rw[q]at e2'';cases e2''
              |some z=>rw[q]at e2'';exact congrArg some e2''
            subst e1'';obtain⟨hN,hkp,hkc⟩:=ok.cap p (xaw ep);obtain⟨mP,_,hl⟩:=I2.loc;obtain⟨u',ru,lk⟩:=hl p.2 p.1 u hN e3 (.inr hkp);refine⟨u',ru,.inr ⟨hkc,?_⟩⟩;rcases lk with⟨k0,_⟩ |⟨_,c,hcell,his⟩
            · exfalso
              have k0':X.env.scope.names.lookup p.1=some .local:=k0;rcases hkp with z |z<;>(rw[k0']at z;cases z)
            · have hm:(p.1,NameKind.free)∈scope.names:=by
                rcases hkc with z |z
                · exact vO z (.inl rfl) ok.cell
                · exact vO z (.inr rfl) ok.cell
              obtain⟨c',hc'⟩:=Ai (cells:=X.env.cells) scope.names [] p.1 (.inl hm);have e5:c'=c:=xan ((clIn p.1 c' hc').symm.trans hcell);exact⟨c',hc',by rw[e5];exact his.keeps old⟩
      cell:=fun y c e=>by
        obtain⟨v',q⟩:=I2.cell y c (clIn y c e);exact⟨v',q.keeps old⟩
      free:=by
        show upd H2 s2.heap.objs.size (.lst []) HH.objs.size=none;rw[aW hDC.symm];exact nC
      freeC:=fun y c e=>by
        have hcl:c<s2.heap.objs.size:=by
          obtain⟨_,q⟩:=I2.cell y c (clIn y c e);exact q.lt
        rw[aW (xap hcl)];exact I2.freeC y c (clIn y c e)
      pin:=fun p hp=>by
        have hp':p∈X.pn ++ pins:=by
          rcases xaq.mp hp with z |z
          · exact z
          · cases z
        obtain⟨e1,e2,e3,e4,e5⟩:=I2.pin p hp';refine⟨old _ _ e1,?_,pinC p hp',fun z=>?_,e5⟩
        · rw[aW (xap (xad e1))];exact e2
        · rcases xah.mp (I2.stkSub p.1 z) with q |q
          · exact e3 q
          · exact e4 q
      hok:=I2.hok.laid old (tG _) ⟨xaE _,[],0,.nil,hacc⟩
      len:=by simp[d8]}
  have stC:tn 0 h₁:=T.keep 0 _ _ st2 fun b _ o e=>old b o e;have frC:∀b∈fp,upd H2 s2.heap.objs.size (HO.lst []) b=none:=fun b hb=>by
    rw[aW (fpD b hb)];exact(f2 b hb).1
  -- what stays true of the iterator's objects in the block
  have stat:∀{H':Hp},(∀b∈fp,H' b=none)->∀b∈fp,c7 (dh X (x::cs.map (·.1)) scope (fQ X.env.cells scope.names) HH.objs.size s2 H2 fp (X.pn ++ pins)) [] H' b:=fun {H'} hn b hb=>
    ⟨hn b hb, fpC b hb, okC.exfs b hb, .inl hb, fun y c e => (okC.exf b hb).2 y c e, fun p hp => (f2 b hb).2.2.2.2.2 p (by
      rcases xaq.mp hp with z |z
      · exact z
      · cases z)⟩
  have loop:∀s₃:Shared,s₃={s2 with heap:=h₁,toks:=s2.toks + ([]:List (Str×Value)).length}->
      codeAny (model X.prog X.w) X.A (.compLoop (.ListComp elt [⟨.Name x px,iter,ifs,0⟩] scope pos) 0 (.ref it) (.ref s2.heap.objs.size) (compEnvC scope (fQ X.env.cells scope.names) HH.objs.size X.env)) (RR (.ref s2.heap.objs.size) HH.objs.size) s₃:=by
    rintro s₃ rfl;refine Ln (fun n s'=>∃(i:Nat) (v:Option V) (ys:List V) (H':Hp),Inv (dh X (x::cs.map (·.1)) scope (fQ X.env.cells scope.names) HH.objs.size s2 H2 fp (X.pn ++ pins)) [] (v::d8 cs σ) H' s'/\tn i s'.heap/\(∀b∈fp,H' b=none)/\W i n ys H')
      ?_ m0 ⟨0,none,[],_,IC,stC,frC,w0⟩
    rintro n s3 ⟨i,v3,ys,H3,I3,st3,fr3,w3⟩;obtain⟨hD3,tr⟩:=turn i n ys H3 w3;rcases tr with⟨stop,qn⟩ |⟨go,hsz,N,hN,step⟩
    · refine aU (T.done (dh X (x::cs.map (·.1)) scope (fQ X.env.cells scope.names) HH.objs.size s2 H2 fp (X.pn ++ pins)) rfl rfl rfl hc i [] s3 _ H3 _ I3 (stat fr3) st3 stop) fun r s4 ⟨hr,I4⟩=>?_;subst hr;show RR (.ref s2.heap.objs.size) HH.objs.size (.ok .next) s4
      have IP:Inv X pins σ H3 s4:=I2.call' (ch:=fp) I4.os I4.base I4.hok I4.bare fun b hb=>⟨(f2 b hb).2.2.2.1,(f2 b hb).2.1,(f2 b hb).2.2.2.2.1,(f2 b hb).2.2.2.2.2⟩;obtain⟨m4,⟨oC,es,ep,hoC,hdC,hk1,hk2⟩,_⟩:=I4.loc;have nC3:H3 HH.objs.size=none:=I4.free;have fC:c7 X pins H3 HH.objs.size:=I2.fpOk hCle nC3;refine hRR _ _ oC H3 s4 (IP.pins_of fun p hp=>?_) (fun h' e=>⟨m4,oC,es,ep,e,hdC,hk1,hk2⟩) fC qn;rcases xaq.mp hp with z |z
      · exact IP.pin p (xao _ z)
      · have e:p=(HH.objs.size,oC):=by simpa using z
        subst e;exact ⟨hoC,nC3,fC.2.1,fC.2.2.1,fun v z=>by
          have z':oC.data=.cell v:=z;rw[hdC]at z';cases z'⟩
    · refine aU (T.item (dh X (x::cs.map (·.1)) scope (fQ X.env.cells scope.names) HH.objs.size s2 H2 fp (X.pn ++ pins)) rfl rfl rfl hc i [] s3 _ H3 _ I3 (stat fr3) st3 go) fun r s4 ⟨u,hr,h4⟩=>?_;subst hr;refine aU h4 fun _ s5 ⟨y,H5,I5,r5,y5,st5,fr5⟩=>?_;have I5':=I5.pinned (stat fr5) (T.obj _ _ st5);have hloc:Loc (dh X (x::cs.map (·.1)) scope (fQ X.env.cells scope.names) HH.objs.size s2 H2 fp (X.pn ++ pins)).env.scope x:=.inl (lookup_relabel_local ok.own);refine xcD (zc (i:=0) I5' ok.nd rfl hloc r5 (fun s6 I6=>?_) (.inr (lookup_relabel_local ok.own)));refine aU (hq _ _ _ _ _ _ _ s6 _ H5 _ I6 (step y H5 y5)) fun b s7 ⟨H7,I7,q7⟩=>?_;have again:∀{v':Option V} {H8:Hp} {s8:Shared} {ys':List V} {m':Nat},Inv (dh X (x::cs.map (·.1)) scope (fQ X.env.cells scope.names) HH.objs.size s2 H2 fp (X.pn ++ pins)) ([] ++ vD fp s5.heap) (v'::d8 cs σ) H8 s8->W (i + 1) m' ys' H8->
          ∃(i:Nat) (v:Option V) (ys:List V) (H':Hp),Inv (dh X (x::cs.map (·.1)) scope (fQ X.env.cells scope.names) HH.objs.size s2 H2 fp (X.pn ++ pins)) [] (v::d8 cs σ) H' s8/\tn i s8.heap/\(∀b∈fp,H' b=none)/\W i m' ys H':=fun {v' H8 s8 ys' m'} I8 w8=>by
        refine⟨i + 1,v',ys',H8,I8.unpinned,T.keep _ _ _ st5 fun b hb o e=>(I8.pin (b,o) (xao _ (xao _ (xY hb e)))).1,fun b hb=>?_,w8⟩;obtain⟨o,e,d⟩:=T.obj _ _ st5 b hb;exact(I8.pin (b,o) (xao _ (xao _ (xY hb e)))).2.1
      cases b with
      |false=>
        rw[xaf xaj]at q7;rw[xaf xaj];obtain⟨m',hm,w8⟩:=hN _ _ q7;exact⟨m',hm,again I7 w8⟩
      |true=>
        rw[Z7 rfl]at q7;rw[Z7 rfl];refine aU (he _ _ _ _ _ _ _ s7 _ H7 _ I7 q7) fun z s8 ⟨zv,H8,I8,r8,hD8,n8⟩=>?_;obtain⟨m',hm,w8⟩:=hN _ _ n8;refine aU (Bq (X:=dh X (x::cs.map (·.1)) scope (fQ X.env.cells scope.names) HH.objs.size s2 H2 fp (X.pn ++ pins)) _ s8 _ H8 (.ref s2.heap.objs.size) [zv] (.ref s2.heap.objs.size) [z] (fun _ H9=>H9=upd H8 s2.heap.objs.size (.lst (ys ++ [zv]))) I8 rfl (.cons r8 .nil) ⟨_,ys,zv,rfl,rfl,hD8,hsz,rfl⟩) fun _ s9 ⟨_,H9,I9,_,e9⟩=>?_;subst e9;exact⟨m',hm,again I9 w8⟩
  exact codeAny_compStart_list (loop _ rfl) (T.self _ 0 _ _ _ stC (loop _ rfl))
noncomputable def Xv (wi:TI) (tq:TT) (te:TE) (cs:List (Str×Nat)):TE:=fun σ H Q=>wC wi tq te cs σ H fun D H'=>Q (.ref D) H'
theorem Ij (x:Str)(cs:List (Str×Nat))(hc:X.calm=true)(hi:PI X (.Name x px) iter wi)
  (hq:∀(cl:List (Str×Addr)) (C:Addr) (s₀:Shared) (H₀:Hp) (ex:List Addr) (pn:Pnx),fY (dh X (x::cs.map (·.1)) scope cl C s₀ H₀ ex pn) ifs tq)
  (he:∀(cl:List (Str×Addr)) (C:Addr) (s₀:Shared) (H₀:Hp) (ex:List Addr) (pn:Pnx),PE (dh X (x::cs.map (·.1)) scope cl C s₀ H₀ ex pn) elt te)
  (ok:nT X.N X.env.scope x cs scope=true:=by kernel_rfl) (hs:∀x,foldedSetIterable iter X.env x=pure x:=by intro _;rfl):
  PE X (.ListComp elt [⟨.Name x px,iter,ifs,0⟩] scope pos) (Xv wi tq te cs):=by
 intro pins s σ H Q I h;have ok':=CompOk.of ok;rw[eval_ListComp];refine xcU (use:=none) rfl hs (Gg fun y hy hk=>I.ok.has y.1 (ok'.has y hy hk)) ok'.kind ok'.names ?_;refine Gk (RR:=fun acc C=>compPost (model X.prog X.w) X.A X.xe none (EP X pins σ Q) acc C) hc hi hq he ok' I h ?_;intro D C oC H' s' I' hns fC q;refine⟨_,(hns _ (I'.pin (C,oC) (xao _ (xao _ (by simp)))).1).choose_spec,fun h' hs'=>?_⟩;have I1:Inv X pins σ H' s':=I'.unpinned;exact⟨.ref D,H',I1.turned (t':=s'.toks) (fun b o hb e=>(hs'.2 b hb).trans e) fC.1 fC.2.1 fC.2.2.2.1 fC.2.2.2.2.1 fC.2.2.2.2.2,rfl,q⟩
noncomputable def Xq (k:Nat) (wi:TI) (tq:TT) (te:TE) (cs:List (Str×Nat)):TS:=fun D σ H=>wC wi tq te cs σ H fun l H'=>D.nx (σ.set k (some (.ref l))) H'
theorem R9 (x:Str)(cs:List (Str×Nat))(hN:X.N.Nodup)(hk:X.N[k]? =some y)(hy:Loc X.env.scope y)(hc:X.calm=true)(hi:PI X (.Name x px) iter wi)
  (hq:∀(cl:List (Str×Addr)) (C:Addr) (s₀:Shared) (H₀:Hp) (ex:List Addr) (pn:Pnx),fY (dh X (x::cs.map (·.1)) scope cl C s₀ H₀ ex pn) ifs tq)
  (he:∀(cl:List (Str×Addr)) (C:Addr) (s₀:Shared) (H₀:Hp) (ex:List Addr) (pn:Pnx),PE (dh X (x::cs.map (·.1)) scope cl C s₀ H₀ ex pn) elt te)
  (ok:nT X.N X.env.scope x cs scope=true:=by kernel_rfl) (hs:∀x,foldedSetIterable iter X.env x=pure x:=by intro _;rfl)
  (hsw:swapsWith (.ListComp elt [⟨.Name x px,iter,ifs,0⟩] scope pos) (some (.Name y py)) spos.line X.env=pure true:=by rfl)
  (hf:X.fn y=true\/X.env.scope.names.lookup y=some .local:=by first |exact .inl rfl |exact .inr rfl |assumption):
  PS X (.Assign [.Name y py] (.ListComp elt [⟨.Name x px,iter,ifs,0⟩] scope pos) spos) (Xq k wi tq te cs):=by
 intro pins s σ H D I h;have ok':=CompOk.of ok;rw[exec_Assign_Name_used _ _ _ _ hsw];refine Z2 (wpAny_standAt (Z2 ?_));show wpAny _ X.A (do let _ <-comprehension (.ListComp elt [⟨.Name x px,iter,ifs,0⟩] scope pos) scope X.env _ (newList []) false (eval iter X.env) (some (assign (.Name y py) X.env))) _ _ s
 refine Z2 (xbh (xcU (use:=some (assign (.Name y py) X.env)) (Q:=fun _ s'=>SP X pins D .next s') rfl hs (Gg fun y hy hk=>I.ok.has y.1 (ok'.has y hy hk)) ok'.kind ok'.names
  (Gk (RR:=fun acc C=>compPost (model X.prog X.w) X.A X.xe (some (assign (.Name y py) X.env)) (fun _ s'=>SP X pins D .next s') acc C) hc hi hq he ok' I h ?_)) (fun _ s' hq=>Z9 (Z9 hq)) fun _ _ e=>e)
 intro l C oC H' s' I' hns fC q;show wpAny _ X.A (assign (.Name y py) X.env (.ref l)) _ _ _;refine xcD (zc (v:=.ref l) I' hN hk hy rfl (fun s'' I''=>?_) hf);refine⟨_,(hns _ (I''.pin (C,oC) (xao _ (xao _ (by simp)))).1).choose_spec,fun h' hs'=>?_⟩;have I1:Inv X pins _ H' s'':=I''.unpinned;exact⟨_,H',I1.turned (t':=s''.toks) (fun b o hb e=>(hs'.2 b hb).trans e) fC.1 fC.2.1 fC.2.2.2.1 fC.2.2.2.2.1 fC.2.2.2.2.2,q⟩
end
def Ez (J:It)(tq:TT)(te:TE)(cs:List (Str×Nat))(σ:St)(H1:Hp)(R:Addr->Hp->Prop):Prop:=∀D,H1 D=none->
  ∃W:Nat->Nat->List V->Hp->Prop,(∃m,W 0 m [] (upd H1 D (.lst [])))/\∀i m ys H2,W i m ys H2->H2 D=some (.lst ys)/\
    ((J.stop i H2 /\ R D H2) \/ (J.go i H2/\ys.length<sizeLine/\∃N:List V->Hp->Prop,(∀ys' H',N ys' H'->∃m',m'<m/\W (i + 1) m' ys' H')/\∀v H3,J.yld i H2 v H3->tq (some v::d8 cs σ) H3 fun b H4=>
      if b=true then te (some v::d8 cs σ) H4 fun y H5=>H5 D=some (.lst ys)/\N (ys ++ [y]) (upd H5 D (.lst (ys ++ [y]))) else N ys H4))
theorem Lr (n:Nat)(P:Addr->Nat->List V->Hp->Prop)
  (h0:∀D,H1 D=none->P D 0 [] (upd H1 D (.lst []))) (hl:∀D i ys H2,i<=n->P D i ys H2->H2 D=some (.lst ys)/\ys.length<sizeLine)
  (hgo:∀D i ys H2,i<n->P D i ys H2->J.go i H2) (hst:∀D ys H2,H1 D=none->P D n ys H2->J.stop n H2/\R D H2)
  (hs:∀D i v ys H2 H3,i<n->P D i ys H2->J.yld i H2 v H3->tq (some v::d8 cs σ) H3 fun b H4=>if b=true then te (some v::d8 cs σ) H4 fun y H5=>H5 D=some (.lst ys)/\P D (i + 1) (ys ++ [y]) (upd H5 D (.lst (ys ++ [y]))) else P D (i + 1) ys H4):
  Ez J tq te cs σ H1 R:=by
 intro D hD;refine⟨fun i m ys H=>m=n - i/\i<=n/\P D i ys H,⟨n,by simp,xaE _,h0 D hD⟩,?_⟩;rintro i m ys H2 ⟨rfl,hi,p⟩;obtain⟨q2,q3⟩:=hl D i ys H2 hi p;refine⟨q2,?_⟩
 by_cases hlt:i<n
 ·exact .inr ⟨hgo D i ys H2 hlt p,q3,P D (i + 1),fun ys' H' p'=>⟨n - (i + 1),by omega,rfl,hlt,p'⟩,fun v H3 y=>hs D i v ys H2 H3 hlt p y⟩
 ·have e:i=n:=by omega
  subst e;exact .inl (hst D ys H2 hD p)
theorem mG (hD:H D=none):Same H (upd H D o):=fun b ob e=>by
 rw[aW (j_ e hD)];exact e
theorem comp_map {J:It}{te:TE}{cs:List (Str×Nat)}{σ:St}{H1:Hp}{R:Addr->Hp->Prop}(n:Nat)(f:Nat->V)(hn:n<sizeLine)
  (hgo:∀i H2,i<n->Same H1 H2->J.go i H2) (hst:∀H2,Same H1 H2->J.stop n H2)
  (hy:∀i v H2 H3,i<n->Same H1 H2->J.yld i H2 v H3->H3=H2/\∀Q:VK,Q (f i) H2->te (some v::d8 cs σ) H2 Q)
  (hd:∀D,H1 D=none->R D (upd H1 D (.lst ((List.range n).map f)))):Ez J gH te cs σ H1 R:=by
 refine Lr n (fun D i ys H2=>i<=n/\H1 D=none/\ys=(List.range i).map f/\H2=upd H1 D (.lst ys)) (fun D hD=>⟨xaE _,hD,rfl,rfl⟩) ?_ ?_ ?_ ?_
 ·rintro D i ys H2 hi ⟨_,hD,e1,e2⟩;subst e1 e2;exact⟨b_,by rw[xai,xbk];omega⟩
 ·rintro D i ys H2 hi ⟨_,hD,e1,e2⟩;subst e2;exact hgo i _ hi (mG hD)
 ·rintro D ys H2 _ ⟨_,hD,e1,e2⟩;subst e2;refine⟨hst _ (mG hD),?_⟩;subst e1;exact hd D hD
 ·rintro D i v ys H2 H3 hi ⟨_,hD,e1,e2⟩ y;subst e2;obtain⟨e3,q⟩:=hy i v _ H3 hi (mG hD) y;subst e3;unfold gH;dsimp only;rw[Z7 rfl];refine q _ ⟨b_,hi,hD,?_,J8⟩;rw[e1,xb2,xaB];rfl
structure Noted (fs:List Addr)(z:Addr)(h h':Heap)(e:Addr)(oe:Obj)(T:Addr)(fl:Value):Prop where
 keep:∀b o,b∉fs->b≠e->b≠z->h.get? b=some o->h'.get? b=some o
 slot:∀b o,b∈fs->b≠e->b≠z->h.get? b=some o->∃sl,h'.get? b=some {o with slots:=sl}
 exc:h'.get? e=some (oe.mapFields (·.setIfInBounds 1 (.ref T)))
 new:h.objs.size<=T
 tb:∃oT ts,h'.get? T=some oT/\oT.data=.fields ts/\ts[3]? =some fl
section
variable {M:Model}{A:Around}{E:Value->Shared->Prop}{s:Shared}{base:Heap}{env:Env}{outer:List Env}{L e z:Addr}{oe:Obj}{vs:Array Value}{Q:Unit->Shared->Prop}
theorem Py (a1:A.frames=some (env::outer))(a2:s.heap.FunFrames base (env::outer))(a3:env.frame=some L)
  (a4:s.heap.get? e=some oe) (a5:oe.data=.fields vs) (a6:1<vs.size)
  (k:∀h' T,Noted (frs (env::outer)) e s.heap h' e oe T (rawInt L)->Q () {s with heap:=h'}):
  wpAny M A (do
   let a <-frameOf env
   let pl <-entryPlaceOf L hadNext
   let b <-EntryCells.newEntry head a .none (rawInt L) .none pl
   setField (.ref e) 1 b) Q E s:=by
 have ne:e∉frs (env::outer):=fun m=>by
  obtain⟨_,o,e1,e2⟩:=a2.mem m;rw[a4]at e1;cases e1;exact e2 vs a5
 refine Z2 (wpAny_frameOf_fun a1 a2 a3 fun h1 S=>?_);refine Z2 (wpAny_entryPlaceOf fun pl hpl=>?_);unfold EntryCells.newEntry newFields;refine Z2 (xbC ?_ (hpl.sizeOk5 _ _ _ _ _));have b1:h1.get? e=some oe:=(S.2.1 e ne).trans a4;have b2:=xac (h:=h1) {cls:=.type "traceback",dict:=none,data:=.fields ([head,.ref L,.none,rawInt L,.none] ++ (if pl.isEmpty then List.replicate 6 Value.none else pl)).toArray} b1
 refine xdc b2 a5 a6 (k _ h1.objs.size ?_);have n1:h1.objs.size≠e:=xcQ (xad b1);have frd:=Obj.isFreed_of_fields (xbu a5 (·.setIfInBounds 1 (Value.ref h1.objs.size)));refine⟨fun b o nb nbe _ hb=>?_,fun b o _ nbe _ hb=>?_,Heap.get?_update_self _ b2 frd,Nat.le_of_eq S.1.symm,?_⟩
 ·rw[xaK _ _ (xbr nbe)];exact xac _ ((S.2.1 b nb).trans hb)
 ·obtain⟨sl,q⟩:=S.2.2 b o hb;refine⟨sl,?_⟩;rw[xaK _ _ (xbr nbe)];exact xac _ q
 ·refine⟨_,_,(xaK _ _ (xbr n1)).trans (xau h1 rfl),rfl,?_⟩;rcases hpl with rfl |⟨_,_,_,_,_,_,_,rfl⟩<;>simp
theorem Mw (b1:s.heap.get? e=some oe)(b2:oe.data=.fields vs)(b3:vs[1]? =some (.ref T))(b4:s.heap.get? T=some oT)(b5:oT.data=.fields ts)(b6:3<ts.size)
  (k:Q () {s with heap:=s.heap.update T (Obj.mapFields (·.setIfInBounds 3 .none))}):wpAny M A (setFlight (.ref e) none) Q E s:=by
 unfold setFlight;refine Z2 (xce b1 b2 b3 ?_);rw[Z7 (by simp)];exact xdc b4 b5 b6 k
theorem PK (N:Noted fs z h h1 e oe T fl)(a4:h.get? e=some oe)(a5:oe.data=.fields vs):Noted fs z h (h1.update T (Obj.mapFields (·.setIfInBounds 3 .none))) e oe T .none:=by
 obtain⟨oT,ts,t1,t2,t3⟩:=N.tb;have ne:∀b o,h.get? b=some o->b≠T:=fun b o q=>xap (xab (xad q) N.new);refine⟨fun b o n1 n2 n3 hb=>?_,fun b o n1 n2 n3 hb=>?_,?_,N.new,?_⟩
 ·rw[xaK _ _ (xbr (ne b o hb))];exact N.keep b o n1 n2 n3 hb
 ·obtain⟨sl,q⟩:=N.slot b o n1 n2 n3 hb;exact⟨sl,by rw[xaK _ _ (xbr (ne b o hb))];exact q⟩
 ·rw[xaK _ _ (xbr (ne e oe a4))];exact N.exc
 ·have z3:3<ts.size:=(xbA.mp t3).1;exact⟨_,_,Heap.get?_update_self _ t1 (Obj.isFreed_of_fields (xbu t2 _)),xbu t2 _,by simp[z3]⟩
theorem PJ (N:Noted fs z h s.heap e oe T fl)(a4:h.get? e=some oe)(a5:oe.data=.fields vs)(a6:1<vs.size)
  (k:∀h',Noted fs z h h' e oe T .none->Q () {s with heap:=h'}):wpAny M A (setFlight (.ref e) none) Q E s:=by
 obtain⟨oT,ts,t1,t2,t3⟩:=N.tb;refine Mw N.exc (xbu a5 _) (by simp[a6]) t1 t2 (xbA.mp t3).1 (k _ (PK N a4 a5))
theorem Pz (a1:A.frames=some (env::outer))(a2:s.heap.FunFrames base (env::outer))(a3:env.frame=some L)
  (a4:s.heap.get? e=some oe) (a5:oe.data=.fields vs) (a6:vs[1]? =some (.ref T0)) (b1:T0≠e) (b2:s.heap.get? T0=some oT) (b3:oT.data=.fields ts) (b4:ts[3]? =some .none)
  (k:∀h' T,Noted (frs (env::outer)) T0 s.heap h' e oe T (rawInt L)->Q () {s with heap:=h'}):wpAny M A (noteFrame (.ref e) env) Q E s:=by
 have z1:=(xbA.mp a6).1;unfold noteFrame;simp only[a3];refine Z2 (xce a4 a5 a6 ?_);rw[Z7 (by simp)];refine Z2 (xce b2 b3 b4 ?_);rw[xaf (by simp[rawInt])];refine Z2 (xdc b2 b3 (xbA.mp b4).1 ?_);have oth:∀b,b≠T0->(s.heap.update T0 (Obj.mapFields (·.setIfInBounds 3 Value.none))).get? b=s.heap.get? b:=fun b hb=>xaK _ _ (xbr hb);have fr:∀b o,s.heap.get? b=some o->(∀us,o.data≠ .fields us)->b≠T0:=fun b o hb n r=>by
  rw[r,b2]at hb;cases hb;exact n ts b3
 refine Py (s:={s with heap:=s.heap.update T0 (Obj.mapFields (·.setIfInBounds 3 Value.none))}) a1 (a2.of_keeps fun b o hb n=>⟨o,(oth b (fr b o hb n)).trans hb,rfl⟩) a3 ((oth e (xbr b1)).trans a4) a5 z1 fun h' T N=>k h' T ?_;exact⟨fun b o n1 n2 n3 hb=>N.keep b o n1 n2 n2 ((oth b n3).trans hb),fun b o n1 n2 n3 hb=>N.slot b o n1 n2 n2 ((oth b n3).trans hb),N.exc,by rw[<-Heap.size_after_update s.heap T0 (Obj.mapFields (·.setIfInBounds 3 Value.none))];exact N.new,N.tb⟩
end
abbrev Ew:List Value:=[.type "ValueError",.type "Exception",.type "BaseException",.type "object"]
def Eu:List Value->Bool
 |.ref _::r=>Eu r
 |l=>l==Ew
noncomputable def gK (K:Fgx) (C:Addr):Bool:=match K.lookup C with
  | some ⟨.type "type", _, .cls cd, sl⟩ => (match cd.mro,sl.toList with
    |.ref c::bm,[_,_,_,_,some (.builtin n),_]=>c==C && (n=="ValueError.__new__" && (!cd.hasDel && (PySem.W.tailIn K Ew bm && (PySem.W.nsOkIn K cd.ns && (cd.hasDict && Eu bm)))))
    |_,_=>false)
  |_=>false
structure XCls (h:Heap)(C:Addr)(nm qn:Str)(N:Addr)(bs bm:List Value)(sn:List Str)(sub:List Value)(ab:Bool)(col:Option Bool)(dd:Option Addr)(k0 k1 k2 k3 k5:Option Value):Prop where
 obj:h.get? C=some (excClassObj nm qn C N bs bm true sn sub ab col dd k0 k1 k2 k3 k5 "ValueError.__new__")
 tail:OwnTail h Ew bm
 ns:h.Ns N (h.nsMap N)
 over:Eu bm=true
noncomputable def Ke (K:Fgx) (C:Addr):Bool:=match K.lookup C with
 |some ⟨_,_,.cls cd,_⟩=>PySem.W.nsIn K cd.ns "__init__"==some none
 |_=>false
noncomputable def zu (K:Fgx) (C:Addr):Bool:=PySem.W.findIn K (.ref C) "__getattribute__"==some (some (.builtin "BaseException.__getattribute__")) &&
 (PySem.W.findIn K (.ref C) "__getattr__"==some none && PySem.W.mroIn K C (.type "BaseException")==some true)
noncomputable def xo (a C:Addr) (dx:Option Addr) (b:Bool):HO:=.ext fun h=>∃oe vs t,h.get? a=some oe/\oe.cls=.ref C/\oe.dict=dx/\oe.data=.fields vs/\vs.size=6/\vs[0]? =some (.ref t)/\(b=true->vs[1]? =some .none)
theorem Y_ (x:∃oe vs t,h.get? a=some oe/\oe.cls=.ref C/\oe.dict=dx/\oe.data=.fields vs/\vs.size=6/\vs[0]? =some (.ref t)/\(b=true->vs[1]? =some .none)):
  cj P w H h a (xo a C dx b):=by
 obtain⟨oe,vs,t,e,r⟩:=x;exact⟨⟨oe,vs,t,e,r⟩,⟨oe,e⟩,fun h1 h2 ⟨oe,vs,t,e,r⟩ k=>⟨oe,vs,t,k _ e,r⟩⟩
def zA (h:Heap)(a T:Addr):Prop:=∃oe vs oT ts,h.get? a=some oe/\oe.data=.fields vs/\vs[1]? =some (.ref T)/\T≠a/\h.get? T=some oT/\oT.data=.fields ts/\ts[3]? =some .none
section
variable {P:Program}{w:World}{H:Hp}{h h':Heap}{fs ch:List Addr}{z a C T:Addr}{oe:Obj}{fl:Value}{dx:Option Addr}{b:Bool}{vs:Array Value}
theorem PB (N:Noted fs z h h' a oe T .none)(e1:h.get? a=some oe)(e2:oe.data=.fields vs)(e3:vs.size=6):zA h' a T:=by
 obtain⟨oT,ts,t1,t2,t3⟩:=N.tb;refine⟨_,_,oT,ts,N.exc,xbu e2 _,by simp[e3],fun q=>?_,t1,t2,t3⟩;have z:=xab (xad e1) N.new;rw[q]at z;exact absurd z (xbM _)
theorem PL (N:Noted fs z h h' a oe T fl)(x:∃vs t,oe.cls=.ref C/\oe.dict=dx/\oe.data=.fields vs/\vs.size=6/\vs[0]? =some (.ref t)):∃oe vs t,h'.get? a=some oe/\oe.cls=.ref C/\oe.dict=dx/\oe.data=.fields vs/\vs.size=6/\vs[0]? =some (.ref t)/\(false=true->vs[1]? =some .none):=by
 obtain⟨vs,t,c1,c2,c3,c4,c5⟩:=x;refine⟨_,_,t,N.exc,(Obj.cls_mapFields _ _).trans c1,?_,xbu c3 _,by simp[c4],?_,fun q=>by cases q⟩
 ·obtain⟨_,_,od,_⟩:=oe;dsimp only at c3;subst c3;exact c2
 ·rw[Array.getElem?_setIfInBounds_ne (by decide)];exact c5
theorem Yz (N:Noted fs z h h' a oe T fl)(ha:H a=some (xo a C dx b))(hz:z=a\/z∈ch):Un fs ch H (upd H a (xo a C dx false)) h h':=by
 have n1:∀c,H c=none->c≠a:=fun c n q=>by rw[q,ha]at n;cases n
 have n2:∀c,c≠a->c∉ch->c≠z:=fun c n m q=>by
  rcases hz with r |r
  ·exact n (q.trans r)
  ·exact m (q ▸ r)
 have n3:∀c u,H c=some u->(∀φ,u≠ .ext φ)->c≠a:=fun c u q m r=>by
  rw[r,ha]at q;exact m _ (xan q).symm
 refine ⟨fun c o q n hc hx=>N.keep c o hc (n1 c n) (n2 c (n1 c n) hx) q,fun c o q n hc hx=>N.slot c o hc (n1 c n) (n2 c (n1 c n) hx) q,fun c o q n hx=>by rw[aW (n1 c n)];exact n,fun c o q hx=>?_,
  fun c xs q=>by rw[aW (n3 c _ q (by intro _ z;cases z))];exact q,fun c o u q=>by rw[aW (n3 c _ q (by intro _ z;cases z))];exact q,fun c ps q=>⟨#[],by rw[aW (n3 c _ q (by intro _ z;cases z)),q];simp⟩⟩
 by_cases ca:c=a
 ·rw[ca];exact⟨_,N.exc⟩
 ·by_cases cf:c∈fs
  ·obtain⟨sl,r⟩:=N.slot c o cf ca (n2 c ca hx) q;exact⟨_,r⟩
  ·exact⟨o,N.keep c o cf ca (n2 c ca hx) q⟩
theorem Nk (ok:bK P w H h)(N:Noted fs z h h' a oe T fl)(ha:H a=some (xo a C dx b))(hz:z=a\/H z=none)(hf:∀c∈fs,H c=none)
  (x:∃vs t,oe.cls=.ref C/\oe.dict=dx/\oe.data=.fields vs/\vs.size=6/\vs[0]? =some (.ref t)):bK P w (upd H a (xo a C dx false)) h':=fun c u q=>by
 have n3:∀c u,H c=some u->(∀φ,u≠ .ext φ)->c≠a:=fun c u q m r=>by
  rw[r,ha]at q;exact m _ (xan q).symm
 by_cases hc:c=a
 ·subst hc;rw[b_]at q;cases q;exact Y_ (PL N x)
 ·rw [aW hc] at q;have kp : ∀ d u v, H d = some u -> d ≠ a -> h.get? d = some v -> h'.get? d = some v := fun d u v q nd r => N.keep d v (fun m => by rw [hf d m] at q; cases q) nd (fun e=>by
   rcases hz with g |g
   ·exact nd (e.trans g)
   ·rw[e,g]at q;cases q) r
  refine(ok c u q).stay (fun d v hd r=>?_) (fun d r=>by rw[aW (n3 d _ r (by intro _ z;cases z))];exact r) fun d xs r=>by rw[aW (n3 d _ r (by intro _ z;cases z))];exact r
  rcases hd with rfl |hd
  ·exact kp d u v q hc r
  ·exact kp d _ v hd (n3 d _ hd (by intro _ z;cases z)) r
theorem Un.less (u:Un (L::fs) ch H H' h h')(n:h.get? L=none):Un fs ch H H' h h':=by
 have m:∀c o,h.get? c=some o->c≠L:=fun c o q e=>by rw[e,n]at q;cases q
 exact⟨fun c o q k hc hx=>u.keep c o q k (fun z=>(xah.mp z).elim (m c o q) hc) hx,fun c o q k hc hx=>u.slot c o q k (xak _ hc) hx,u.free,u.there,u.tups,u.frzs,u.tbls⟩
end
noncomputable def pU (P:Program) (w:World):d7:=fun outer H s E e s'=>∃a C dx H' T,e=.ref a/\s'.os=s.os/\AllBare s'.gens/\Un (frs outer) [] H H' s.heap s'.heap/\bK P w H' s'.heap/\H' a=some (xo a C dx false)/\H' T=none/\s.heap.objs.size<=T/\zA s'.heap a T/\E (.ref C) dx H'
theorem YB (e:H a=some o):upd H a o=H:=by
 funext b;unfold upd
 split
 ·subst_vars;exact e.symm
 ·rfl
theorem Y9 (ok:bK P w H h)(e:H a=some (xo a C dx b)):
  ∃oe vs t,h.get? a=some oe/\oe.cls=.ref C/\oe.dict=dx/\oe.data=.fields vs/\vs.size=6/\vs[0]? =some (.ref t)/\(b=true->vs[1]? =some .none):=(ok a _ e).1
section
variable {X:Cx}{pins:Pnx}{σ:St}{H:Hp}{s:Shared}
noncomputable def zx (K : Fgx) (C : Addr) : Bool := zu K C && (PySem.W.hasDictIn K C && (PySem.W.findIn K (.ref C) "__class__"==some (some (.builtin "object.__class__")) &&
 (PySem.W.specialIn K (.builtin "object.__class__") "__get__"==some (some (.builtin "getset_descriptor.__get__")) && (PySem.W.takesIn K (.builtin "object.__class__")==some true && PySem.W.mroIn K C (.type "object")==some true))))
end
section
variable {X:Cx}{pins:Pnx}{σ:St}{H:Hp}{s:Shared}
structure Caught (X:Cx)(pins:Pnx)(σ:St)(H:Hp)(s:Shared)(a C:Addr)(dx:Option Addr)(T:Addr):Prop where
 inv:Inv X pins σ H s
 obj:H a=some (xo a C dx false)
 fl:zA s.heap a T
 hT:H T=none
 t1:X.s₀.heap.objs.size<=T
 t2:T≠X.env.locals
 t3:∀x c,X.env.cells.lookup x=some c->c≠T
 t4:∀p∈X.pn ++ pins,p.1≠T
theorem Ld (I:Inv X pins σ H s)(h:s.heap.objs.size<=T):X.s₀.heap.objs.size<=T/\T≠X.env.locals/\(∀x c,X.env.cells.lookup x=some c->c≠T)/\∀p∈X.pn ++ pins,p.1≠T:=by
 refine⟨xav I.sz h,xcQ (xab I.lt h),fun x c e=>?_,fun p hp=>?_⟩
 ·obtain⟨v,o,ho,_⟩:=I.cell x c e;exact xap (xab (xad ho) h)
 ·exact xap (xab (xad (I.pin p hp).1) h)
variable {a C T:Addr}{dx:Option Addr}{Q:Unit->Shared->Prop}{E:Value->Shared->Prop}{M:Model}
theorem Caught.note (c:Caught X pins σ H s a C dx T)(hs:X.stack=X.env::X.outer)(hf:X.env.frame=some X.env.locals)(k:∀s' T',Caught X pins σ H s' a C dx T'->Q () s'):
  wpAny M X.A (noteFrame (.ref a) X.env) (fun _ s2=>wpAny M X.A (setFlight (.ref a) none) Q E s2) E s:=by
 obtain ⟨oe, vs, t, e1, e2, e3, e4, e5, e6, _⟩ := Y9 c.inv.hok c.obj;obtain ⟨oe', vs', oT, ts, f1, f2, f3, f4, f5, f6, f7⟩ := c.fl;rw [e1] at f1;cases f1;rw [e4] at f2;cases f2;have fr := c.inv.ok.frames;have st := c.inv.stack;rw [hs] at fr st;refine Pz fr st hf e1 e4 f3 f4 f5 f6 f7 fun h' T' N => PJ (s := { s with heap := h' }) N e1 e4 (by omega) fun h2 N2 => k _ T' ?_;have hx : ∃ vs t, oe.cls = .ref C /\ oe.dict = dx /\ oe.data = .fields vs /\ vs.size = 6 /\ vs[0]? = some (.ref t) := ⟨vs, t, e2, e3, e4, e5, e6⟩;rw [<- hs] at N2;have u := Yz (ch := [T]) N2 c.obj (.inr (xal.mpr rfl));have hk := Nk c.inv.hok N2 c.obj (.inr c.hT) (fun b hb => c.inv.stkFree b hb) hx;rw [YB c.obj] at u hk;have I2 : Inv X pins σ H { s with heap := h2 } := c.inv.call' (s' := { s with heap := h2 }) rfl u hk c.inv.bare (fun b hb=>by
  rw[xal.mp hb];exact⟨.inr c.t1,c.t2,c.t3,c.t4⟩)
 obtain⟨z1,z2,z3,z4⟩:=Ld c.inv N2.new;exact⟨I2,c.obj,PB N2 e1 e4 e5,c.inv.hok.fresh N2.new,z1,z2,z3,z4⟩
end
abbrev Cx.pin (X:Cx)(pins:Pnx)(E:Value->Shared->Prop):Cx:={X with pn:=X.pn ++ pins,xe:=E}
abbrev Cx.suite (X:Cx)(e:Value):Cx:={X with A:=X.A.mark (some e),calm:=false,xe:=fun _ _=>False}
end L2
namespace E3
open PySem PySem.Spec PyProof.Rows L2
inductive D where
 |non |bl (b:Bool) |int (i:Int) |str (s:Str) |tup (xs:List D) |lst (xs:List D) |ref (n:Nat)
inductive Cl where
  |lst (ds:List D) |obj (c:Str) (fs:List (Str×D)) |dct (kvs:List (L2.Key×D))
    |dcf (kvs:List (L2.Key×D))
abbrev Mm:=List Cl
inductive Slot where
 |un |val (d:D) |own (ds:List D) |exc (c:Str) (n:Int)
abbrev Env:=List Slot
mutual
def D.lf:D->Bool
 |.tup xs=>D.lfs xs
 |.lst _=>false
 |.ref _=>false
 |_=>true
def D.lfs:List D->Bool
 | []=>true
 |a::as=>D.lf a && D.lfs as
end
def KL (K:Fgx)(a:Addr)(vs:List V):Prop:=∃(o:Obj) (its:Array Value) (n:Nat),K.lookup a=some o/\o.cls=.type "list"/\o.dict=none/\o.data=.seq its n/\its.size<=sizeLine/\Vals vs its.toList
structure Pl where
 io:Nat->Addr
 n:Nat
 bd:Addr->Prop
def zH (K:Fgx)(P:Pl)(H:Hp)(a:Addr)(vs:List V):Prop:=(¬ P.bd a/\Rd H a (.lst vs))\/KL K a vs
def Fd (K:Fgx)(P:Pl)(H:Hp)(a:Addr)(vs:List V):Prop:=((∀k,k<P.n->P.io k≠a)/\Rd H a (.lst vs))\/KL K a vs
mutual
def Is (K:Fgx)(P:Pl)(H:Hp):D->V->Prop
 |.non,v=>v=.non
 |.bl b,v=>v=.bl b
 |.int i,v=>v=.int i
 |.str s,v=>v=.str s
 |.tup ds,v=>∃a vs,v=.ref a/\dJ K H a vs/\au K P H ds vs
 |.lst ds,v=>∃a vs,v=.ref a/\zH K P H a vs/\au K P H ds vs
 |.ref k,v=>k<P.n/\v=.ref (P.io k)
def au (K:Fgx)(P:Pl)(H:Hp):List D->List V->Prop
 | [],vs=>vs=[]
 |d::ds,vs=>∃v r,vs=v::r/\Is K P H d v/\au K P H ds r
end
def Fx (o:HO):Prop:=(∃xs,o=.tup xs)\/(∃u w,o=.frz u w)\/(∃g,o=.ext g)\/∃fs,o=.xd fs
structure Lt (P:Pl)(H:Hp)(P':Pl)(H':Hp):Prop where
 n:P.n<=P'.n
 io:∀k,k<P.n->P'.io k=P.io k
 bd:∀a,P'.bd a->P.bd a\/H a=none
 keep:∀a o,H a=some o->(Fx o\/¬ P.bd a)->H' a=some o
 sure:∀a,H' a=none->H a=none
section
variable {K:Fgx}{P P' P'':Pl}{H H' H'':Hp}
theorem Lt.refl (P:Pl)(H:Hp):Lt P H P H:=⟨tG _,fun _ _=>rfl,fun _ z=>.inl z,fun _ _ e _=>e,fun _ z=>z⟩
theorem Lt.not (l:Lt P H P' H')(e:H a=some o)(n:¬ P.bd a):¬ P'.bd a:=fun z=>(l.bd a z).elim n fun z=>by rw[e]at z;cases z
theorem Lt.trans (l:Lt P H P' H')(m:Lt P' H' P'' H''):Lt P H P'' H'' where
 n:=xav l.n m.n
 io:=fun k h=>(m.io k (xab h l.n)).trans (l.io k h)
 bd:=fun a z=>(m.bd a z).elim (l.bd a) fun z=>.inr (l.sure a z)
 keep:=fun a o e h=>m.keep a o (l.keep a o e h) (h.imp id fun n=>l.not e n)
 sure:=fun a z=>l.sure a (m.sure a z)
theorem Lt.rd (l:Lt P H P' H')(n:¬ P.bd a)(h:Rd H a (.lst xs)):Rd H' a (.lst xs):=by
 rcases h with h |⟨o,h⟩
 ·exact .inl (l.keep _ _ h (.inr n))
 ·exact .inr ⟨o,l.keep _ _ h (.inr n)⟩
theorem IW (h:Rd H a o):∃o',H a=some o':=h.elim (fun h=>⟨_,h⟩) fun⟨_,h⟩=>⟨_,h⟩
theorem Lt.rda (l:Lt P H P' H')(h:zH K P H a xs):zH K P' H' a xs:=h.imp (fun⟨n,h⟩=>⟨by obtain⟨o,e⟩:=IW h;exact l.not e n,l.rd n h⟩) id
theorem Lt.tup (l:Lt P H P' H')(h:dJ K H a xs):dJ K H' a xs:=by
 rcases h with(h |⟨o,h⟩) |h
 ·exact .inl (.inl (l.keep _ _ h (.inl (.inl ⟨_,rfl⟩))))
 ·exact .inl (.inr ⟨o,l.keep _ _ h (.inl (.inr (.inl ⟨_,_,rfl⟩)))⟩)
 ·exact .inr h
mutual
theorem Is.lt (l:Lt P H P' H'):∀{d:D} {v:V},Is K P H d v->Is K P' H' d v
  |.non,_,h=>h
  |.bl _,_,h=>h
  |.int _,_,h=>h
  |.str _,_,h=>h
  |.tup ds,_,h=>by
    obtain⟨a,vs,e,s,r⟩:=h;exact⟨a,vs,e,l.tup s,au.lt l r⟩
  |.lst ds,_,h=>by
    obtain⟨a,vs,e,s,r⟩:=h;exact⟨a,vs,e,l.rda s,au.lt l r⟩
  |.ref k,_,h=>⟨xab h.1 l.n,by rw[l.io k h.1];exact h.2⟩
theorem au.lt (l:Lt P H P' H'):∀{ds:List D} {vs:List V},au K P H ds vs->au K P' H' ds vs
  | [],_,h=>h
  |_::_,_,h=>by
    obtain⟨v,r,e,p,q⟩:=h;exact⟨v,r,e,Is.lt l p,au.lt l q⟩
end
noncomputable def Pl.less (P:Pl) (B:Addr->Prop):Pl:={P with bd:=fun a=>P.bd a/\B a}
mutual
theorem Is.less:∀{d:D} {v:V},Is K P H d v->Is K (P.less B) H d v
  |.non,_,h=>h
  |.bl _,_,h=>h
  |.int _,_,h=>h
  |.str _,_,h=>h
  |.tup ds,_,h=>by
    obtain⟨a,vs,e,s,r⟩:=h;exact⟨a,vs,e,s,au.less r⟩
  |.lst ds,_,h=>by
    obtain⟨a,vs,e,s,r⟩:=h;exact⟨a,vs,e,s.imp (fun⟨n,h⟩=>⟨fun z=>n z.1,h⟩) id,au.less r⟩
  |.ref k,_,h=>h
theorem au.less:∀{ds:List D} {vs:List V},au K P H ds vs->au K (P.less B) H ds vs
  | [],_,h=>h
  |_::_,_,h=>by
    obtain⟨v,r,e,p,q⟩:=h;exact⟨v,r,e,Is.less p,au.less q⟩
end
mutual
theorem Is.free (P':Pl):∀{d:D} {v:V},d.lf=true->Is K P H d v->Is K P' H d v
  |.non,_,_,h=>h
  |.bl _,_,_,h=>h
  |.int _,_,_,h=>h
  |.str _,_,_,h=>h
  |.tup ds,_,l,h=>by
    obtain⟨a,vs,e,s,r⟩:=h;exact⟨a,vs,e,s,au.free P' (by simpa only[D.lf] using l) r⟩
  |.lst _,_,l,_=>by simp[D.lf]at l
  |.ref _,_,l,_=>by simp[D.lf]at l
theorem au.free (P':Pl):∀{ds:List D} {vs:List V},D.lfs ds=true->au K P H ds vs->au K P' H ds vs
  | [],_,_,h=>h
  |_::_,_,l,h=>by
    obtain⟨v,r,e,p,q⟩:=h;simp only[D.lfs,xam]at l;exact⟨v,r,e,Is.free P' l.1 p,au.free P' l.2 q⟩
end
theorem au.len:∀{ds:List D} {vs:List V},au K P H ds vs->vs.length=ds.length
  | [],_,h=>by rw[show _=[] from h];rfl
  |d::ds,_,h=>by
    obtain⟨v,r,e,_,q⟩:=h;subst e
    simp[au.len q]
theorem au.get:∀{ds:List D} {vs:List V} {i:Nat} {d:D},au K P H ds vs->ds[i]? =some d->∃v,vs[i]? =some v/\Is K P H d v
  | [],_,_,_,_,e=>by simp at e
  |d::ds,_,0,_,h,e=>by
    obtain⟨v,r,e',p,_⟩:=h
    simp at e
    subst e e';exact⟨v,rfl,p⟩
  |d::ds,_,i + 1,_,h,e=>by
    obtain⟨v,r,e',_,q⟩:=h;subst e'
    simpa using au.get (i:=i) q (by simpa using e)
theorem au.append:∀{ds es:List D} {vs ws:List V},au K P H ds vs->au K P H es ws->au K P H (ds ++ es) (vs ++ ws)
  | [],_,_,_,h,q=>by rw[show _=[] from h];exact q
  |d::ds,_,_,_,h,q=>by
    obtain⟨v,r,e,p,h⟩:=h;subst e;exact⟨v,r ++ _,rfl,p,au.append h q⟩
theorem au.take:∀{ds:List D} {vs:List V} (n:Nat),au K P H ds vs->au K P H (ds.take n) (vs.take n)
  |_,_,0,_=>rfl
  | [],_,n + 1,h=>by rw[show _=[] from h];rfl
  |d::ds,_,n + 1,h=>by
    obtain⟨v,r,e,p,h⟩:=h;subst e;exact⟨v,_,rfl,p,au.take n h⟩
theorem au.drop:∀{ds:List D} {vs:List V} (n:Nat),au K P H ds vs->au K P H (ds.drop n) (vs.drop n)
  |_,_,0,h=>h
  | [],_,n + 1,h=>by rw[show _=[] from h];rfl
  |d::ds,_,n + 1,h=>by
    obtain⟨v,r,e,p,h⟩:=h;subst e;exact au.drop n h
theorem au.one (h:Is K P H d v):au K P H [d] [v]:=⟨v,[],rfl,h,rfl⟩
end
noncomputable def pW (K:Fgx) (mg:Mgx) (P:Pl) (H:Hp) (a:Addr):Cl->Prop
 |.lst ds=>∃vs,H a=some (.lst vs)/\au K P H ds vs
 |.obj c fs=>∃C dx gs,mg c=some (.ref C)/\H a=some (.ins C dx gs)/\gs.map (·.1)=fs.map (·.1)/\au K P H (fs.map (·.2)) (gs.map (·.2))
 |.dct kvs=>∃vs:List (L2.Key×V),H a=some (.dK vs)/\vs.map (·.1)=kvs.map (·.1)/\au K P H (kvs.map (·.2)) (vs.map (·.2))
 |.dcf kvs=>∃(vs:List (L2.Key×V)) (ob:Obj) (es:Array DictEntry) (ep:Nat),H a=some (.frz ob (.dK vs))/\ob.data=.dict es ep/\vs.map (·.1)=kvs.map (·.1)/\au K P H (kvs.map (·.2)) (vs.map (·.2))
structure Hk (K:Fgx)(mg:Mgx)(P:Pl)(H:Hp)(M:Mm):Prop where
 n:P.n=M.length
 cell:∀(k:Nat) c,M[k]? =some c->pW K mg P H (P.io k) c
 inj:∀j k,j<P.n->k<P.n->P.io j=P.io k->j=k
 bd:∀k,k<P.n->P.bd (P.io k)
 here:∀a,P.bd a->H a≠none
structure LtE (P:Pl)(H:Hp)(P':Pl)(H':Hp):Prop where
 n:P.n<=P'.n
 io:∀k,k<P.n->P'.io k=P.io k
 bd:∀a,P'.bd a->P.bd a\/H a=none
 bm:∀a,P.bd a->P'.bd a
 keep:∀a o,H a=some o->(Fx o\/∀k,k<P.n->P.io k≠a)->H' a=some o
 sure:∀a,H' a=none->H a=none
 nw:∀k,P.n<=k->k<P'.n->H (P'.io k)=none
section
variable {K:Fgx}{mg:Mgx}{P P' P'':Pl}{H H' H'':Hp}{M M':Mm}
theorem LtE.refl (P:Pl)(H:Hp):LtE P H P H:=⟨tG _,fun _ _=>rfl,fun _ z=>.inl z,fun _ z=>z,fun _ _ e _=>e,fun _ z=>z,fun k h1 h2=>absurd h1 (xcK.mpr h2)⟩
theorem LtE.same (s:Same H H'):LtE P H P H':=⟨tG _,fun _ _=>rfl,fun _ z=>.inl z,fun _ z=>z,fun a o e _=>s a o e,fun a z=>s.free z,fun k h1 h2=>absurd h1 (xcK.mpr h2)⟩
theorem Hk.cellAt (h:Hk K mg P H M)(hc:M[k]? =some c)(nd:∀kvs,c≠ .dcf kvs:=by intro _ z;cases z):∃o,H (P.io k)=some o/\¬ Fx o:=by
  have:=h.cell k c hc
  cases c with
  |lst ds=>
    obtain⟨vs,e,_⟩:=this;exact⟨_,e,fun z=>by rcases z with⟨_,z⟩ |⟨_,_,z⟩ |⟨_,z⟩ |⟨_,z⟩<;>cases z⟩
  |obj c fs=>
    obtain⟨C,dx,gs,_,e,_⟩:=this;exact⟨_,e,fun z=>by rcases z with⟨_,z⟩ |⟨_,_,z⟩ |⟨_,z⟩ |⟨_,z⟩<;>cases z⟩
  |dct kvs=>
    obtain⟨vs,e,_⟩:=this;exact⟨_,e,fun z=>by rcases z with⟨_,z⟩ |⟨_,_,z⟩ |⟨_,z⟩ |⟨_,z⟩<;>cases z⟩
  |dcf kvs=>exact absurd rfl (nd kvs)
theorem LtE.lt (l:LtE P H P' H')(h:Hk K mg P H M):Lt P H P' H' where
 n:=l.n
 io:=l.io
 bd:=l.bd
 sure:=l.sure
 keep:=fun a o e z=>l.keep a o e (z.imp id fun z k hk q=>z (q ▸ h.bd k hk))
theorem LtE.trans (l:LtE P H P' H')(m:LtE P' H' P'' H''):LtE P H P'' H'' where
 n:=xav l.n m.n
 io:=fun k h=>(m.io k (xab h l.n)).trans (l.io k h)
 bd:=fun a z=>(m.bd a z).elim (l.bd a) fun z=>.inr (l.sure a z)
 bm:=fun a z=>m.bm a (l.bm a z)
 keep:=fun a o e h=>m.keep a o (l.keep a o e h) <| h.imp id fun h k hk q=>by
  rcases xas k P.n with z |z
  ·rw[l.io k z]at q;exact h k z q
  ·rw[<-q,l.nw k z hk]at e;cases e
 sure:=fun a z=>l.sure a (m.sure a z)
 nw:=fun k h1 h2=>by
  rcases xas k P'.n with z |z
  ·rw[m.io k z];exact l.nw k h1 z
  ·exact l.sure _ (m.nw k z h2)
end
inductive Cp where
 |eq |ne |lt |le |gt |ge |isin |notin |same |other
mutual
def D.eq:D->D->Bool
 |.non,.non=>true
 |.bl a,.bl b=>a==b
 |.bl a,.int b=>(if a then 1 else 0)==b
 |.int a,.bl b=>a==(if b then 1 else 0)
 |.int a,.int b=>a==b
 |.str a,.str b=>a==b
 |.tup a,.tup b=>D.eqs a b
 |.lst a,.lst b=>D.eqs a b
 |.ref a,.ref b=>a==b
 |_,_=>false
def D.eqs:List D->List D->Bool
 | [],[]=>true
 |a::as,b::bs=>D.eq a b && D.eqs as bs
 |_,_=>false
end
mutual
def D.dep:D->Nat
 |.tup xs=>D.deps xs + 1
 |.lst xs=>D.deps xs + 1
 |.ref _=>101
 |_=>0
def D.deps:List D->Nat
 | []=>0
 |a::as=>max (D.dep a) (D.deps as)
end
noncomputable def D.flat:D->Bool
 |.tup _=>false
 |.lst _=>false
 |.ref _=>false
 |_=>true
noncomputable def xM (i j:Str):Bool:= !(Builtin.Str.occurrences j i 0 j.length 1).isEmpty
def cU (a b:D):Bool:=a.flat==b.flat && decide (b.dep<=50)
noncomputable def mV (a b:D):Option Bool:=if cU a b=true/\a.dep<=50 then some (D.eq a b) else none
noncomputable def mX (a b:D):Option Bool:=if cU a b=true/\a.dep<=50 then some (!D.eq a b) else none
noncomputable def cI (f:Int->Int->Bool) (a b:D):Option Bool:=match a with
 |.int i=>(match b with |.int j=>some (f i j) |_=>none)
 |_=>none
noncomputable def mW (a b:D):Option Bool:=match b with
 |.str j=>(match a with |.str i=>some (xM i j) |_=>none)
 |.lst xs=>if (a.flat && xs.all D.flat)=true then some (xs.any fun y=>D.eq y a) else none
 |.tup xs=>if (a.flat && xs.all D.flat)=true then some (xs.any fun y=>D.eq y a) else none
 |_=>none
noncomputable def eH (a b:D):Option Bool:=match b with
 |.str j=>(match a with |.str i=>some (!xM i j) |_=>none)
 |.lst xs=>if (a.flat && xs.all D.flat)=true then some (!xs.any fun y=>D.eq y a) else none
 |.tup xs=>if (a.flat && xs.all D.flat)=true then some (!xs.any fun y=>D.eq y a) else none
 |_=>none
noncomputable def mZ (a b:D):Option Bool:=match b with
 |.bl b=>(match a with |.bl a=>some (a==b) |_=>some false)
 |.non=>(match a with |.non=>some true |_=>some false)
 |_=>none
noncomputable def mY (a b:D):Option Bool:=match b with
 |.bl b=>(match a with |.bl a=>some (!(a==b)) |_=>some true)
 |.non=>(match a with |.non=>some false |_=>some true)
 |_=>none
noncomputable def bM (c:Cp) (a b:D):Option Bool:=match c with
 |.eq=>mV a b
 |.ne=>mX a b
 |.lt=>cI (fun i j=>decide (i<j)) a b
 |.le=>cI (fun i j=>decide (i<=j)) a b
 |.gt=>cI (fun i j=>decide (j<i)) a b
 |.ge=>cI (fun i j=>decide (j<=i)) a b
 |.isin=>mW a b
 |.notin=>eH a b
 |.same=>mZ a b
 |.other=>mY a b
noncomputable def bL (K:Fgx) (P:Pl) (H:Hp):D->V->Prop
 |.lst ds,v=>∃a vs,v=.ref a/\Fd K P H a vs/\au K P H ds vs
 |d,v=>Is K P H d v
section
variable {X:Cx}{pins:Pnx}{σ:L2.St}{H:Hp}{s:Shared}
theorem Xb {K:Fgx}{P:Pl}{a:Addr}{xs:List V}(h:Fd K P H a xs):bw K H a xs:=h.imp (·.2) id
noncomputable def bF (K:Fgx) (P:Pl) (H:Hp):D->V->Prop
 |.lst ds,v=>∃a vs,v=.ref a/\bw K H a vs/\au K P H ds vs
 |d,v=>Is K P H d v
theorem bL.w {K:Fgx}{P:Pl}{d:D}{v:V}(h:bL K P H d v):bF K P H d v:=by
 cases d<;>first |exact h |(obtain⟨a,vs,e,r,q⟩:=h;exact⟨a,vs,e,Xb r,q⟩)
theorem Is.w {K:Fgx}{P:Pl}{d:D}{v:V}(h:Is K P H d v):bF K P H d v:=by
 cases d<;>first |exact h |(obtain⟨a,vs,e,r,q⟩:=h;exact⟨a,vs,e,r.imp (·.2) id,q⟩)
theorem sql (I:Inv X pins σ H s)(h:bw X.K H l xs):xs.length<=sizeLine/\∃its:List Value,Vals xs its/\s.heap.IsList l its.toArray:=by
 obtain⟨its,r,p,z⟩:=I.list h;exact⟨z,its,r,p.isList⟩
mutual
theorem Is.inj (I:Inv X pins σ H s):∀(d e:D) (v:V),bF X.K A H d v->bF X.K B H e v->d.dep<=100->e.dep<=100->d=e
  |.ref _,e,v,h,h',hd,he=>by simp[D.dep]at hd
  |.non,e,v,h,h',hd,he=>by
    have hv:v=.non:=h;subst hv;cases e<;>first |(simp[D.dep]at he;done) |(simp[bF,Is]at h'<;>rfl)
  |.bl b,e,v,h,h',hd,he=>by
    have hv:v=.bl b:=h;subst hv;cases e<;>first |(simp[D.dep]at he;done) |(simp[bF,Is]at h'<;>simp[h'])
  |.int b,e,v,h,h',hd,he=>by
    have hv:v=.int b:=h;subst hv;cases e<;>first |(simp[D.dep]at he;done) |(simp[bF,Is]at h'<;>simp[h'])
  |.str b,e,v,h,h',hd,he=>by
    have hv:v=.str b:=h;subst hv;cases e<;>first |(simp[D.dep]at he;done) |(simp[bF,Is]at h'<;>simp[h'])
  |.tup ds,e,v,h,h',hd,he=>by
    simp only[D.dep]at hd;simp only[bF,Is]at h;obtain⟨a,vs,rfl,t,r⟩:=h
    cases e with
    |tup es=>
      simp only[bF,Is]at h';obtain⟨b,ws,e1,t',r'⟩:=h';cases e1;have e2:=I.tuple_inj t t';subst e2;simp only[D.dep]at he;rw[au.inj I ds es vs r r' (by omega) (by omega)]
    |lst es=>
      obtain⟨b,ws,e1,t',r'⟩:=h';cases e1;obtain⟨_,its,_,o2,e2,c2,_⟩:=sql I t';obtain⟨its2,_,⟨o,e3,c3,_⟩,_⟩:=I.tuple t;rw[e2]at e3;cases e3;rw[c2]at c3;exact absurd c3 (by simp)
    |ref _=>simp[D.dep]at he
    |_=>simp[bF,Is]at h'
  |.lst ds,e,v,h,h',hd,he=>by
    simp only[D.dep]at hd;obtain⟨a,vs,rfl,t,r⟩:=h
    cases e with
    |lst es=>
      obtain⟨b,ws,e1,t',r'⟩:=h';cases e1;have e2:=I.list_inj (t) (t');subst e2;simp only[D.dep]at he;rw[au.inj I ds es vs r r' (by omega) (by omega)]
    |tup es=>
      simp only[bF,Is]at h';obtain⟨b,ws,e1,t',r'⟩:=h';cases e1;obtain⟨_,its,_,o2,e2,c2,_⟩:=sql I t;obtain⟨its2,_,⟨o,e3,c3,_⟩,_⟩:=I.tuple t';rw[e2]at e3;cases e3;rw[c2]at c3;exact absurd c3 (by simp)
    |ref _=>simp[D.dep]at he
    |_=>simp[bF,Is]at h'
theorem au.inj (I:Inv X pins σ H s):∀(ds es:List D) (vs:List V),au X.K A H ds vs->au X.K B H es vs->D.deps ds<=100->D.deps es<=100->ds=es
  | [],es,vs,h,h',hd,he=>by
    have hv:vs=[]:=h;subst hv
    cases es with
    |nil=>rfl
    |cons=>simp[au]at h'
  |d::ds,es,vs,h,h',hd,he=>by
    simp only[D.deps]at hd;obtain⟨v,r,rfl,p,q⟩:=h
    cases es with
    |nil=>simp[au]at h'
    |cons e es=>
      obtain⟨v',r',e1,p',q'⟩:=h';cases e1;simp only[D.deps]at he;rw[Is.inj I d e v p.w p'.w (by omega) (by omega),au.inj I ds es r q q' (by omega) (by omega)]
end
mutual
theorem D.eq_refl:∀d:D,D.eq d d=true
 |.non=>rfl
 |.bl b=>by simp[D.eq]
 |.int b=>by simp[D.eq]
 |.str b=>by simp[D.eq]
 |.tup ds=>by simp only[D.eq];exact D.eqs_refl ds
 |.lst ds=>by simp only[D.eq];exact D.eqs_refl ds
 |.ref n=>by simp[D.eq]
theorem D.eqs_refl:∀d:List D,D.eqs d d=true
 | []=>rfl
 |d::ds=>by simp only[D.eqs,D.eq_refl d,D.eqs_refl ds,xdl]
end
theorem D.eqs_len:∀(ds es:List D),ds.length≠es.length->D.eqs ds es=false
  | [],[],h=>absurd rfl h
  | [],_::_,_=>rfl
  |_::_,[],_=>rfl
  |d::ds,e::es,h=>by
    simp only[D.eqs,D.eqs_len ds es (by simpa using h),xcq]
theorem D.eqs_all:∀(ds es:List D),ds.length=es.length->D.eqs ds es=(List.range ds.length).all fun j=>D.eq (ds.getD j .non) (es.getD j .non)
  | [],[],_=>rfl
  |d::ds,e::es,h=>by
    rw[D.eqs,D.eqs_all ds es (by simpa using h),xar,List.range_succ_eq_map,xbm,List.all_map];rfl
mutual
theorem sS (I:Inv X pins σ H s):∀(d e:D) (v w:V) (u u':Value),bF X.K A H d v->bF X.K B H e w->RelV v u->RelV w u'->Ar.units + d.dep<cLine->d.dep<=100->e.dep<=100->SeqAt.EqAt Ar s u u' (D.eq d e)
  |.ref _,e,v,w,u,u',h1,h2,r1,r2,hu,hd,he=>by simp[D.dep]at hd
  |.non,e,v,w,u,u',h1,h2,r1,r2,hu,hd,he=>by
    have hv:v=.non:=h1;subst hv;cases r1;have hu':Ar.units<cLine:=by omega
    cases e with
    |ref _=>simp[D.dep]at he
    |non=>have hw:w=.non:=h2;subst hw;cases r2;exact xcl _
    |bl b=>have hw:w=.bl b:=h2;subst hw;cases r2;exact SeqAt.EqAt.none_bool _
    |int b=>have hw:w=.int b:=h2;subst hw;obtain⟨t,rfl⟩:=r2;exact SeqAt.EqAt.none_int _ _
    |str b=>have hw:w=.str b:=h2;subst hw;obtain⟨t,rfl⟩:=r2;exact SeqAt.EqAt.none_str _ _
    |tup es=>obtain⟨a,vs,rfl,t,_⟩:=h2;cases r2;obtain⟨its,_,p,_⟩:=I.tuple t;exact SeqAt.EqAt.none_tuple p hu'
    |lst es=>obtain⟨a,vs,rfl,t,_⟩:=h2;cases r2;obtain⟨_,its,_,p⟩:=sql I t;exact SeqAt.EqAt.none_list p hu'
  |.bl x,e,v,w,u,u',h1,h2,r1,r2,hu,hd,he=>by
    have hv:v=.bl x:=h1;subst hv;cases r1;have hu':Ar.units<cLine:=by omega
    cases e with
    |ref _=>simp[D.dep]at he
    |non=>have hw:w=.non:=h2;subst hw;cases r2;exact SeqAt.EqAt.bool_none _
    |bl b=>have hw:w=.bl b:=h2;subst hw;cases r2;exact SeqAt.EqAt.bool_bool _ _
    |int b=>have hw:w=.int b:=h2;subst hw;obtain⟨t,rfl⟩:=r2;exact SeqAt.EqAt.bool_int _ _ _
    |str b=>have hw:w=.str b:=h2;subst hw;obtain⟨t,rfl⟩:=r2;exact SeqAt.EqAt.bool_str _ _ _
    |tup es=>obtain⟨a,vs,rfl,t,_⟩:=h2;cases r2;obtain⟨its,_,p,_⟩:=I.tuple t;exact SeqAt.EqAt.bool_tuple _ p hu'
    |lst es=>obtain⟨a,vs,rfl,t,_⟩:=h2;cases r2;obtain⟨_,its,_,p⟩:=sql I t;exact SeqAt.EqAt.bool_list _ p hu'
  |.int x,e,v,w,u,u',h1,h2,r1,r2,hu,hd,he=>by
    have hv:v=.int x:=h1;subst hv;obtain⟨t0,rfl⟩:=r1;have hu':Ar.units<cLine:=by omega
    cases e with
    |ref _=>simp[D.dep]at he
    |non=>have hw:w=.non:=h2;subst hw;cases r2;exact SeqAt.EqAt.int_none _ _
    |bl b=>have hw:w=.bl b:=h2;subst hw;cases r2;exact SeqAt.EqAt.int_bool _ _ _
    |int b=>have hw:w=.int b:=h2;subst hw;obtain⟨t,rfl⟩:=r2;exact xb4 _ _ _ _
    |str b=>have hw:w=.str b:=h2;subst hw;obtain⟨t,rfl⟩:=r2;exact xcv _ _ _ _
    |tup es=>obtain⟨a,vs,rfl,t,_⟩:=h2;cases r2;obtain⟨its,_,p,_⟩:=I.tuple t;exact SeqAt.EqAt.int_tuple _ _ p hu'
    |lst es=>obtain⟨a,vs,rfl,t,_⟩:=h2;cases r2;obtain⟨_,its,_,p⟩:=sql I t;exact SeqAt.EqAt.int_list _ _ p hu'
  |.str x,e,v,w,u,u',h1,h2,r1,r2,hu,hd,he=>by
    have hv:v=.str x:=h1;subst hv;obtain⟨t0,rfl⟩:=r1;have hu':Ar.units<cLine:=by omega
    cases e with
    |ref _=>simp[D.dep]at he
    |non=>have hw:w=.non:=h2;subst hw;cases r2;exact SeqAt.EqAt.str_none _ _
    |bl b=>have hw:w=.bl b:=h2;subst hw;cases r2;exact SeqAt.EqAt.str_bool _ _ _
    |int b=>have hw:w=.int b:=h2;subst hw;obtain⟨t,rfl⟩:=r2;exact xcw _ _ _ _
    |str b=>have hw:w=.str b:=h2;subst hw;obtain⟨t,rfl⟩:=r2;exact xb5 _ _ _ _
    |tup es=>obtain⟨a,vs,rfl,t,_⟩:=h2;cases r2;obtain⟨its,_,p,_⟩:=I.tuple t;exact SeqAt.EqAt.str_tuple _ _ p hu'
    |lst es=>obtain⟨a,vs,rfl,t,_⟩:=h2;cases r2;obtain⟨_,its,_,p⟩:=sql I t;exact SeqAt.EqAt.str_list _ _ p hu'
  |.tup ds,e,v,w,u,u',h1,h2,r1,r2,hu,hd,he=>by
    have h1':=h1;have hd':=hd;simp only[D.dep]at hu hd;have hu':Ar.units<cLine:=by omega
    obtain⟨a,vs,rfl,t,q⟩:=h1;cases r1;obtain⟨its,rv,p,hz⟩:=I.tuple t
    cases e with
    |ref _=>simp[D.dep]at he
    |non=>have hw:w=.non:=h2;subst hw;cases r2;exact SeqAt.EqAt.tuple_none p hu'
    |bl b=>have hw:w=.bl b:=h2;subst hw;cases r2;exact SeqAt.EqAt.tuple_bool _ p hu'
    |int b=>have hw:w=.int b:=h2;subst hw;obtain⟨t,rfl⟩:=r2;exact SeqAt.EqAt.tuple_int _ _ p hu'
    |str b=>have hw:w=.str b:=h2;subst hw;obtain⟨t,rfl⟩:=r2;exact SeqAt.EqAt.tuple_str _ _ p hu'
    |tup es=>
      have h2':=h2;have he':=he;simp only[D.dep]at he;obtain⟨b,ws,rfl,t',q'⟩:=h2;cases r2
      by_cases hab:a=b
      · subst hab;rw[Is.inj I _ _ _ h1' h2' hd' he',D.eq_refl];exact xcl _
      · obtain⟨its',rv',p',hz'⟩:=I.tuple t';refine SeqAt.EqAt.of_refs hab ?_;have l1:its.toArray.size=ds.length:=by rw[Z8, <-rv.length,q.len]
        have l2:its'.toArray.size=es.length:=by rw[Z8, <-rv'.length,q'.len]
        have key:=SeqAt.RcAt.tuples (A:=Ar) (s:=s) (e:=fun j=>D.eq (ds.getD j .non) (es.getD j .non)) p p' hu' fun j j1 j2=>by
          simpa using nW I ds es vs ws its its' q q' rv rv' (Ar:=Ar.in1) (by show Ar.units + 1 + _<_;omega) (by omega) (by omega) j (by simpa using j1) (by simpa using j2)
        rw[l1,l2]at key
        by_cases hl:ds.length=es.length
        · rw[show D.eq (.tup ds) (.tup es)=D.eqs ds es from rfl,D.eqs_all ds es hl];rw[hl,xds,xaL,xcA]at key;rw[hl];exact key
        · rw[show D.eq (.tup ds) (.tup es)=D.eqs ds es from rfl,D.eqs_len ds es hl];rw[xaM.mpr hl,xcq]at key;exact key
    |lst es=>obtain⟨b,ws,rfl,t',_⟩:=h2;cases r2;obtain⟨_,its',_,p'⟩:=sql I t';exact SeqAt.EqAt.tuple_list p p' hu'
  |.lst ds,e,v,w,u,u',h1,h2,r1,r2,hu,hd,he=>by
    have h1':=h1;have hd':=hd;simp only[D.dep]at hu hd;have hu':Ar.units<cLine:=by omega
    obtain⟨a,vs,rfl,t,q⟩:=h1;cases r1;obtain⟨hz,its,rv,p⟩:=sql I t
    cases e with
    |ref _=>simp[D.dep]at he
    |non=>have hw:w=.non:=h2;subst hw;cases r2;exact SeqAt.EqAt.list_none p hu'
    |bl b=>have hw:w=.bl b:=h2;subst hw;cases r2;exact SeqAt.EqAt.list_bool _ p hu'
    |int b=>have hw:w=.int b:=h2;subst hw;obtain⟨t,rfl⟩:=r2;exact SeqAt.EqAt.list_int _ _ p hu'
    |str b=>have hw:w=.str b:=h2;subst hw;obtain⟨t,rfl⟩:=r2;exact SeqAt.EqAt.list_str _ _ p hu'
    |tup es=>obtain⟨b,ws,rfl,t',_⟩:=h2;cases r2;obtain⟨its',_,p',_⟩:=I.tuple t';exact SeqAt.EqAt.list_tuple p p' hu'
    |lst es=>
      have h2':=h2;have he':=he;simp only[D.dep]at he;obtain⟨b,ws,rfl,t',q'⟩:=h2;cases r2
      by_cases hab:a=b
      · subst hab;rw[Is.inj I _ _ _ h1' h2' hd' he',D.eq_refl];exact xcl _
      · obtain⟨hz',its',rv',p'⟩:=sql I t';refine SeqAt.EqAt.of_refs hab ?_;have l1:its.toArray.size=ds.length:=by rw[Z8, <-rv.length,q.len]
        have l2:its'.toArray.size=es.length:=by rw[Z8, <-rv'.length,q'.len]
        by_cases hl:ds.length=es.length
        · have key:=SeqAt.RcAt.lists (A:=Ar) (s:=s) (e:=fun j=>D.eq (ds.getD j .non) (es.getD j .non)) p p' (by rw[l1,l2,hl]) hu' fun j j1 j2=>by
            simpa using nW I ds es vs ws its its' q q' rv rv' (Ar:=Ar.in1) (by show Ar.units + 1 + _<_;omega) (by omega) (by omega) j (by simpa using j1) (by simpa using j2)
          rw[show D.eq (.lst ds) (.lst es)=D.eqs ds es from rfl,D.eqs_all ds es hl];rw[l1]at key;exact key
        · rw[show D.eq (.lst ds) (.lst es)=D.eqs ds es from rfl,D.eqs_len ds es hl];exact xcV p p' (by rw[l1,l2];simpa using hl) hu'
theorem nW (I:Inv X pins σ H s):∀(ds es:List D) (vs ws:List V) (its its':List Value),au X.K A H ds vs->au X.K B H es ws->Vals vs its->Vals ws its'->Ar.units + D.deps ds<cLine->D.deps ds<=100->D.deps es<=100->
    ∀(j:Nat) (h1:j<its.length) (h2:j<its'.length),SeqAt.EqAt Ar s its[j] its'[j] (D.eq (ds.getD j .non) (es.getD j .non))
  | [],es,vs,ws,its,its',h,h',r,r',hu,hd,he,j,j1,j2=>by
    have hv:vs=[]:=h;subst hv;cases r;exact absurd j1 (xbQ _)
  |d::ds,[],vs,ws,its,its',h,h',r,r',hu,hd,he,j,j1,j2=>by
    have hv:ws=[]:=h';subst hv;cases r';exact absurd j2 (xbQ _)
  |d::ds,e::es,vs,ws,its,its',h,h',r,r',hu,hd,he,j,j1,j2=>by
    obtain⟨v,vr,rfl,p,q⟩:=h;obtain⟨w,wr,rfl,p',q'⟩:=h';simp only[D.deps]at hu hd he
    cases r with
    |cons r1 r2=>
      cases r' with
      |cons r1' r2'=>
        cases j with
        |zero=>exact sS I d e v w _ _ p.w p'.w r1 r1' (by omega) (by omega) (by omega)
        |succ j=>exact nW I ds es vr wr _ _ q q' r2 r2' (by omega) (by omega) (by omega) j (by simpa using j1) (by simpa using j2)
end
theorem Jx {d e:D}{A B:Pl}{K:Fgx}{v w:V}(fd:d.flat=true)(fe:e.flat=true)(h1:bF K A H d v)(h2:bF K B H e w):
  (mH v w=true/\D.eq d e=decide (v=w))\/(∃a i,v=.bl a/\w=.int i/\D.eq d e=((if a then 1 else 0)==i))\/∃a i,v=.int i/\w=.bl a/\D.eq d e=(i==(if a then 1 else 0)):=by
 cases d<;>cases e<;>simp only[D.flat,xat]at fd fe<;>simp only[bF,Is]at h1 h2<;>subst h1 h2<;>simp[mH,D.eq]
 all_goals first |rfl |(rw[xa3];simp)
noncomputable def mj (K:Fgx) (neg:Bool):R2:=fun x y H Q=>∃(A B:Pl) (d e:D),bF K A H d x/\bF K B H e y/\cU d e=true/\d.dep<=50/\Q (.bl (if neg then !D.eq d e else D.eq d e)) H
theorem QW (hu:X.A.units + 60<cLine):bC X (compareOp .Eq) (mj X.K false):=by
  intro pins s σ H x y v u Q I rx ry h;obtain⟨A,B,d,e,h1,h2,hk,hd,q⟩:=h;have q:Q (.bl (D.eq d e)) H:=q;have fin:SeqAt.RcAt X.A s v u (D.eq d e)->wpAny (model X.prog X.w) X.A (compareOp .Eq v u) (EP X pins σ Q) X.xe s:=fun r=>EqBoolInt.of_rc r ⟨.bl _,H,I,rfl,q⟩;have hu':X.A.units<cLine:=by omega
  cases fd:d.flat with
  |true=>
    simp only[cU,xam,xa8,xcJ]at hk;have fe:e.flat=true:=hk.1.symm.trans fd;rcases Jx fd fe h1 h2 with⟨sc,eq⟩ |⟨a,i,rfl,rfl,eq⟩ |⟨a,i,rfl,rfl,eq⟩
    · exact QV pins s σ H x y v u Q I rx ry ⟨sc,by rw[<-eq];exact q⟩
    · cases rx;obtain⟨t,rfl⟩:=ry;exact EqBoolInt.eq_bool_int ⟨.bl _,H,I,rfl,by rw[<-eq];exact q⟩
    · cases ry;obtain⟨t,rfl⟩:=rx;exact EqBoolInt.eq_int_bool ⟨.bl _,H,I,rfl,by rw[<-eq];exact q⟩
  |false=>
    simp only[cU,xam,xa8,xcJ]at hk;have he:=hk.2;have fe:e.flat=false:=hk.1.symm.trans fd
    cases d with
    |tup ds=>
      obtain⟨a,vs,rfl,t,p⟩:=h1;cases rx;obtain⟨its,rv,pt,hz⟩:=I.tuple t;simp only[D.dep]at hd
      cases e with
      |tup es=>
        obtain⟨b,ws,rfl,t',p'⟩:=h2;cases ry;obtain⟨its',rv',pt',hz'⟩:=I.tuple t';have l1:its.toArray.size=ds.length:=by rw[Z8, <-rv.length,p.len]
        have l2:its'.toArray.size=es.length:=by rw[Z8, <-rv'.length,p'.len]
        have key:=SeqAt.RcAt.tuples (A:=X.A) (s:=s) (e:=fun j=>D.eq (ds.getD j .non) (es.getD j .non)) pt pt' hu' fun j j1 j2=>by
          simpa using nW I ds es vs ws its its' p p' rv rv' (Ar:=X.A.in1) (by show X.A.units + 1 + _<_;omega) (by omega) (by simp only[D.dep]at he;omega) j (by simpa using j1) (by simpa using j2)
        rw[l1,l2]at key;refine fin ?_
        by_cases hl:ds.length=es.length
        · rw[show D.eq (.tup ds) (.tup es)=D.eqs ds es from rfl,D.eqs_all ds es hl];rw[hl,xds,xaL,xcA]at key;rw[hl];exact key
        · rw[show D.eq (.tup ds) (.tup es)=D.eqs ds es from rfl,D.eqs_len ds es hl];rw[xaM.mpr hl,xcq]at key;exact key
      |lst es=>
        obtain⟨b,ws,rfl,t',p'⟩:=h2;cases ry;obtain⟨_,its',rv',e'⟩:=sql I t';exact fin (SeqAt.RcAt.tuple_list pt e' hu')
      |ref _=>simp[D.dep]at he
      |_=>cases fe
    |lst ds=>
      obtain⟨a,vs,rfl,t,p⟩:=h1;cases rx;obtain⟨hz,its,rv,pt⟩:=sql I t;simp only[D.dep]at hd
      cases e with
      |tup es=>
        obtain⟨b,ws,rfl,t',p'⟩:=h2;cases ry;obtain⟨its',rv',pt',hz'⟩:=I.tuple t';exact fin (SeqAt.RcAt.list_tuple pt pt' hu')
      |lst es=>
        obtain⟨b,ws,rfl,t',p'⟩:=h2;cases ry;obtain⟨_,its',rv',pt'⟩:=sql I t';have l1:its.toArray.size=ds.length:=by rw[Z8, <-rv.length,p.len]
        have l2:its'.toArray.size=es.length:=by rw[Z8, <-rv'.length,p'.len]
        refine fin ?_
        by_cases hl:ds.length=es.length
        · have key:=SeqAt.RcAt.lists (A:=X.A) (s:=s) (e:=fun j=>D.eq (ds.getD j .non) (es.getD j .non)) pt pt' (by rw[l1,l2,hl]) hu' fun j j1 j2=>by
            simpa using nW I ds es vs ws its its' p p' rv rv' (Ar:=X.A.in1) (by show X.A.units + 1 + _<_;omega) (by omega) (by simp only[D.dep]at he;omega) j (by simpa using j1) (by simpa using j2)
          rw[show D.eq (.lst ds) (.lst es)=D.eqs ds es from rfl,D.eqs_all ds es hl];rw[l1]at key;exact key
        · rw[show D.eq (.lst ds) (.lst es)=D.eqs ds es from rfl,D.eqs_len ds es hl];exact xcV pt pt' (by rw[l1,l2];simpa using hl) hu'
      |ref _=>simp[D.dep]at he
      |_=>cases fe
    |ref _=>simp[D.dep]at hd
    |_=>cases fd
theorem Rh (hu:X.A.units + 60<cLine):bC X (compareOp .NotEq) (mj X.K true):=by
  intro pins s σ H x y v u Q I rx ry h;obtain⟨A,B,d,e,h1,h2,hk,hd,q⟩:=h;have q:Q (.bl (!D.eq d e)) H:=q;have fin:SeqAt.RcNeAt X.A s v u (!D.eq d e)->wpAny (model X.prog X.w) X.A (compareOp .NotEq v u) (EP X pins σ Q) X.xe s:=fun r=>EqBoolInt.of_rcne r ⟨.bl _,H,I,rfl,q⟩;have hu':X.A.units<cLine:=by omega
  cases fd:d.flat with
  |true=>
    simp only[cU,xam,xa8,xcJ]at hk;have fe:e.flat=true:=hk.1.symm.trans fd;rcases Jx fd fe h1 h2 with⟨sc,eq⟩ |⟨a,i,rfl,rfl,eq⟩ |⟨a,i,rfl,rfl,eq⟩
    · exact Rg pins s σ H x y v u Q I rx ry ⟨sc,by rw[<-eq];exact q⟩
    · cases rx;obtain⟨t,rfl⟩:=ry;exact EqBoolInt.ne_bool_int ⟨.bl _,H,I,rfl,by rw[<-eq];exact q⟩
    · cases ry;obtain⟨t,rfl⟩:=rx;exact EqBoolInt.ne_int_bool ⟨.bl _,H,I,rfl,by rw[<-eq];exact q⟩
  |false=>
    simp only[cU,xam,xa8,xcJ]at hk;have he:=hk.2;have fe:e.flat=false:=hk.1.symm.trans fd
    cases d with
    |tup ds=>
      obtain⟨a,vs,rfl,t,p⟩:=h1;cases rx;obtain⟨its,rv,pt,hz⟩:=I.tuple t;simp only[D.dep]at hd
      cases e with
      |tup es=>
        obtain⟨b,ws,rfl,t',p'⟩:=h2;cases ry;obtain⟨its',rv',pt',hz'⟩:=I.tuple t';have l1:its.toArray.size=ds.length:=by rw[Z8, <-rv.length,p.len]
        have l2:its'.toArray.size=es.length:=by rw[Z8, <-rv'.length,p'.len]
        have key:=SeqAt.RcNeAt.tuples (A:=X.A) (s:=s) (e:=fun j=>D.eq (ds.getD j .non) (es.getD j .non)) pt pt' hu' fun j j1 j2=>by
          simpa using nW I ds es vs ws its its' p p' rv rv' (Ar:=X.A.in1) (by show X.A.units + 1 + _<_;omega) (by omega) (by simp only[D.dep]at he;omega) j (by simpa using j1) (by simpa using j2)
        rw[l1,l2]at key;refine fin ?_
        by_cases hl:ds.length=es.length
        · rw[show D.eq (.tup ds) (.tup es)=D.eqs ds es from rfl,D.eqs_all ds es hl];rw[hl,xds,xaL,xcA]at key;rw[hl];exact key
        · rw[show D.eq (.tup ds) (.tup es)=D.eqs ds es from rfl,D.eqs_len ds es hl];rw[xaM.mpr hl,xcq]at key;exact key
      |lst es=>
        obtain⟨b,ws,rfl,t',p'⟩:=h2;cases ry;obtain⟨_,its',rv',e'⟩:=sql I t';exact fin (SeqAt.RcNeAt.tuple_list pt e' hu')
      |ref _=>simp[D.dep]at he
      |_=>cases fe
    |lst ds=>
      obtain⟨a,vs,rfl,t,p⟩:=h1;cases rx;obtain⟨hz,its,rv,pt⟩:=sql I t;simp only[D.dep]at hd
      cases e with
      |tup es=>
        obtain⟨b,ws,rfl,t',p'⟩:=h2;cases ry;obtain⟨its',rv',pt',hz'⟩:=I.tuple t';exact fin (SeqAt.RcNeAt.list_tuple pt pt' hu')
      |lst es=>
        obtain⟨b,ws,rfl,t',p'⟩:=h2;cases ry;obtain⟨_,its',rv',pt'⟩:=sql I t';have l1:its.toArray.size=ds.length:=by rw[Z8, <-rv.length,p.len]
        have l2:its'.toArray.size=es.length:=by rw[Z8, <-rv'.length,p'.len]
        refine fin ?_
        by_cases hl:ds.length=es.length
        · have key:=SeqAt.RcNeAt.lists (A:=X.A) (s:=s) (e:=fun j=>D.eq (ds.getD j .non) (es.getD j .non)) pt pt' (by rw[l1,l2,hl]) hu' fun j j1 j2=>by
            simpa using nW I ds es vs ws its its' p p' rv rv' (Ar:=X.A.in1) (by show X.A.units + 1 + _<_;omega) (by omega) (by simp only[D.dep]at he;omega) j (by simpa using j1) (by simpa using j2)
          rw[show D.eq (.lst ds) (.lst es)=D.eqs ds es from rfl,D.eqs_all ds es hl];rw[l1]at key;exact key
        · rw[show D.eq (.lst ds) (.lst es)=D.eqs ds es from rfl,D.eqs_len ds es hl];exact SeqAt.RcNeAt.lists_lengths pt pt' (by rw[l1,l2];simpa using hl) hu'
      |ref _=>simp[D.dep]at he
      |_=>cases fe
    |ref _=>simp[D.dep]at hd
    |_=>cases fd
noncomputable def nU:Cp->CmpOp
 |.eq=>.Eq
 |.ne=>.NotEq
 |.lt=>.Lt
 |.le=>.LtE
 |.gt=>.Gt
 |.ge=>.GtE
 |.isin=>.In
 |.notin=>.NotIn
 |.same=>.Is
 |.other=>.IsNot
noncomputable def vJ (K:Fgx):Cp->R2
 |.eq=>mj K false
 |.ne=>mj K true
 |.lt=>fW fun i j=>.bl (decide (i<j))
 |.le=>fW fun i j=>.bl (decide (i<=j))
 |.gt=>fW fun i j=>.bl (decide (j<i))
 |.ge=>fW fun i j=>.bl (decide (j<=i))
 |.isin=>fun x y H Q=>(∃i j,x=.str i/\y=.str j/\Q (.bl (!(Builtin.Str.occurrences j i 0 j.length 1).isEmpty)) H)\/yr K false x y H Q
 |.notin=>fun x y H Q=>(∃i j,x=.str i/\y=.str j/\Q (.bl (!(!(Builtin.Str.occurrences j i 0 j.length 1).isEmpty))) H)\/yr K true x y H Q
 |.same=>fun x y H Q=>(y=.non/\Q (.bl (decide (x=.non))) H)\/(∃b,y=.bl b/\Q (.bl (decide (x=.bl b))) H)
 |.other=>fun x y H Q=>(y=.non/\Q (.bl (!decide (x=.non))) H)\/(∃b,y=.bl b/\Q (.bl (!decide (x=.bl b))) H)
theorem xg (hu:X.A.units + 60<cLine):∀c:Cp,bC X (compareOp (nU c)) (vJ X.K c)
 |.eq=>QW hu
 |.ne=>Rh hu
 |.lt=>Rf
 |.le=>Rb
 |.gt=>Q0
 |.ge=>QX
 |.isin=>Q6.or Q5
 |.notin=>Rm.or Rj
 |.same=>Q_.or Q9
 |.other=>Rk.or Ra
theorem sU {K:Fgx}{A:Pl}{d:D}{v:V}(f:d.flat=true)(h:Is K A H d v):kY v=true:=by
 cases d<;>simp only[D.flat,xat]at f<;>simp only[Is]at h<;>subst h<;>rfl
theorem Aw {K:Fgx}{A B:Pl}{d e:D}{v w:V}(f:d.flat=true)(g:e.flat=true)(h:Is K A H d v)(h':Is K B H e w):lN v w=D.eq d e:=by
 cases d<;>cases e<;>simp only[D.flat,xat]at f g<;>simp only[Is]at h h'<;>subst h h'<;>rfl
theorem sV {K:Fgx}{A:Pl}:∀{ds:List D} {vs:List V},ds.all D.flat=true->au K A H ds vs->vs.all kY=true
  | [],_,_,h=>by rw[show _=[] from h];rfl
  |d::ds,_,f,h=>by
    obtain⟨v,r,rfl,p,q⟩:=h;rw[xbm,xam]at f;rw[xbm,sU f.1 p,sV f.2 q];rfl
theorem i_ {K:Fgx}{A B:Pl}{e:D}{w:V}(g:e.flat=true)(h':Is K B H e w):∀{ds:List D} {vs:List V},ds.all D.flat=true->au K A H ds vs->inV w vs=ds.any fun y=>D.eq y e
  | [],_,_,h=>by rw[show _=[] from h];rfl
  |d::ds,_,f,h=>by
    obtain⟨v,r,rfl,p,q⟩:=h;rw[xbm,xam]at f;have:=i_ g h' f.2 q;unfold inV at this ⊢;rw[xba,xba,this,Aw f.1 g p h']
theorem w6 {K:Fgx}{A B:Pl}{c:Cp}{d e:D}{v w:V}{b:Bool}{Q:VK}(h:bM c d e=some b)(h1:bF K A H d v)(h2:bF K B H e w)(q:Q (.bl b) H):vJ K c v w H Q:=by
  cases c
  case eq=>
    simp only[bM,mV,mX]at h;split at h
    · rename_i hc;cases h;exact⟨A,B,d,e,h1,h2,hc.1,hc.2,q⟩
    · cases h
  case ne=>
    simp only[bM,mV,mX]at h;split at h
    · rename_i hc;cases h;exact⟨A,B,d,e,h1,h2,hc.1,hc.2,q⟩
    · cases h
  case isin=>
    cases e with
    |str j=>
      cases d<;>simp only[bM,cI,mW,eH,mZ,mY,reduceCtorEq]at h
      simp only[bF,Is]at h1 h2;subst h1 h2;cases h;exact .inl ⟨_,_,rfl,rfl,q⟩
    |lst xs=>
      have h':(if (d.flat && xs.all D.flat)=true then some (xs.any fun y=>D.eq y d) else none)=some b:=by cases d<;>exact h
      split at h'
      · rename_i hc;rw[xam]at hc;cases h';obtain⟨a,vs,rfl,t,p⟩:=h2;have h1':Is K A H d v:=by cases d<;>first |exact h1 |cases hc.1
        refine .inr ⟨a,vs,rfl,.inl (t),sU hc.1 h1',sV hc.2 p,?_⟩;rw[i_ hc.1 h1' hc.2 p];exact q
      · cases h'
    |tup xs=>
      have h':(if (d.flat && xs.all D.flat)=true then some (xs.any fun y=>D.eq y d) else none)=some b:=by cases d<;>exact h
      split at h'
      · rename_i hc;rw[xam]at hc;cases h';obtain⟨a,vs,rfl,t,p⟩:=h2;have h1':Is K A H d v:=by cases d<;>first |exact h1 |cases hc.1
        refine .inr ⟨a,vs,rfl,.inr t,sU hc.1 h1',sV hc.2 p,?_⟩;rw[i_ hc.1 h1' hc.2 p];exact q
      · cases h'
    |_=>cases d<;>simp only[bM,cI,mW,eH,mZ,mY,reduceCtorEq]at h
  case notin=>
    cases e with
    |str j=>
      cases d<;>simp only[bM,cI,mW,eH,mZ,mY,reduceCtorEq]at h
      simp only[bF,Is]at h1 h2;subst h1 h2;cases h;exact .inl ⟨_,_,rfl,rfl,q⟩
    |lst xs=>
      have h':(if (d.flat && xs.all D.flat)=true then some (!xs.any fun y=>D.eq y d) else none)=some b:=by cases d<;>exact h
      split at h'
      · rename_i hc;rw[xam]at hc;cases h';obtain⟨a,vs,rfl,t,p⟩:=h2;have h1':Is K A H d v:=by cases d<;>first |exact h1 |cases hc.1
        refine .inr ⟨a,vs,rfl,.inl (t),sU hc.1 h1',sV hc.2 p,?_⟩;rw[i_ hc.1 h1' hc.2 p];exact q
      · cases h'
    |tup xs=>
      have h':(if (d.flat && xs.all D.flat)=true then some (!xs.any fun y=>D.eq y d) else none)=some b:=by cases d<;>exact h
      split at h'
      · rename_i hc;rw[xam]at hc;cases h';obtain⟨a,vs,rfl,t,p⟩:=h2;have h1':Is K A H d v:=by cases d<;>first |exact h1 |cases hc.1
        refine .inr ⟨a,vs,rfl,.inr t,sU hc.1 h1',sV hc.2 p,?_⟩;rw[i_ hc.1 h1' hc.2 p];exact q
      · cases h'
    |_=>cases d<;>simp only[bM,cI,mW,eH,mZ,mY,reduceCtorEq]at h
  case same=>
    cases d<;>cases e<;>simp only[bM,cI,mW,eH,mZ,mY,reduceCtorEq]at h<;>cases h<;>simp only[bF,Is]at h1 h2
    all_goals first
      |(subst h1 h2;first |exact .inr ⟨_,rfl,by rw[xG];exact q⟩ |exact .inl ⟨rfl,by simpa using q⟩ |exact .inr ⟨_,rfl,by simpa using q⟩)
      |(obtain⟨a,vs,rfl,_⟩:=h1;subst h2;first |exact .inl ⟨rfl,by simpa using q⟩ |exact .inr ⟨_,rfl,by simpa using q⟩)
  case other=>
    cases d<;>cases e<;>simp only[bM,cI,mW,eH,mZ,mY,reduceCtorEq]at h<;>cases h<;>simp only[bF,Is]at h1 h2
    all_goals first
      |(subst h1 h2;first |exact .inr ⟨_,rfl,by rw[xG];exact q⟩ |exact .inl ⟨rfl,by simpa using q⟩ |exact .inr ⟨_,rfl,by simpa using q⟩)
      |(obtain⟨a,vs,rfl,_⟩:=h1;subst h2;first |exact .inl ⟨rfl,by simpa using q⟩ |exact .inr ⟨_,rfl,by simpa using q⟩)
  all_goals
    cases d<;>cases e<;>simp only[bM,cI,mW,eH,mZ,mY,reduceCtorEq]at h
    simp only[bF,Is]at h1 h2;subst h1 h2;cases h;exact⟨_,_,rfl,rfl,q⟩
end
inductive Mode where
 |val |bor
def wR (mg:Mgx)(H:Hp)(c:Str)(n:Int)(v:V):Prop:=∃a C dx,v=.ref a/\mg c=some (.ref C)/\H a=some (xo a C dx false)/\
 match dx with
 |none=>n=0
 |some d=>∃fs,H d=some (.xd fs)/\fs.lookup ("at":Str)=some (.int (n - 1))/\n≠0
theorem wR.lt (l:Lt P H P' H')(h:wR mg H c n v):wR mg H' c n v:=by
  obtain⟨a,C,dx,e,m,ea,q⟩:=h;refine⟨a,C,dx,e,m,l.keep _ _ ea (.inl (.inr (.inr (.inl ⟨_,rfl⟩)))),?_⟩
  cases dx with
  |none=>exact q
  |some d=>
    obtain⟨fs,ed,el⟩:=q;exact⟨fs,l.keep _ _ ed (.inl (.inr (.inr (.inr ⟨_,rfl⟩)))),el⟩
noncomputable def Fe (K:Fgx) (mg:Mgx) (P:Pl) (H:Hp) (o:Option Addr) (sv:Option V):Slot->Prop
 |.un=>True
 |.val d=>∃v,sv=some v/\Is K P H d v
 |.own ds=>∃a vs,o=some a/\sv=some (.ref a)/\H a=some (.lst vs)/\au K P H ds vs
 |.exc c n=>∃v,sv=some v/\wR mg H c n v
structure Ok (K:Fgx)(mg:Mgx)(P0:Pl)(H0:Hp)(P:Pl)(O:List (Option Addr))(H:Hp)(M:Mm)(st:L2.St)(env:Env):Prop where
 hk:Hk K mg P H M
 base:LtE P0 H0 P H
 b0:∀a,P0.bd a->H0 a≠none
 slot:∀(i:Nat) s,env[i]? =some s->Fe K mg P H (O[i]?).join (st[i]?).join s
 own:∀a,some a∈O->P.bd a/\(∀k,k<P.n->P.io k≠a)/\H0 a=none
 inj:∀(i j:Nat) a,O[i]? =some (some a)->O[j]? =some (some a)->i=j
 olen:O.length=env.length
 slen:st.length=env.length
def cD (K:Fgx)(P:Pl)(H:Hp)(m:Mode)(d:D)(v:V):Prop:=match m with
 |.val=>Is K P H d v
 |.bor=>bL K P H d v
inductive Res where
 |v (d:D) |x (c:Str) (n:Int)
abbrev O:=Option (Res×Mm)
abbrev E:=Env->Mm->O
noncomputable def bnd (o:O) (k:D->Mm->O):O:=match o with
 |some (.v d,M)=>k d M
 |some (.x c n,M)=>some (.x c n,M)
 |none=>none
theorem bV (h:bnd o k=some (r,M')):(∃d M,o=some (.v d,M)/\k d M=some (r,M'))\/∃c n,o=some (.x c n,M')/\r=.x c n:=by
 unfold bnd at h;split at h
 ·exact .inl ⟨_,_,rfl,h⟩
 ·cases h;exact .inr ⟨_,_,rfl,rfl⟩
 ·cases h
abbrev XW:=Pl->Hp->Mm->Str->Int->Prop
section
variable {K:Fgx}{mg:Mgx}{P0 P P':Pl}{H0 H H':Hp}{M M':Mm}{Os:List (Option Addr)}{st:L2.St}{env:Env}{d:D}{v:V}{m:Mode}
theorem Is.b (h:Hk K mg P H M)(i:Is K P H d v):bL K P H d v:=by
  cases d with
  |lst ds=>
    obtain⟨a,vs,e,r,q⟩:=i;exact⟨a,vs,e,r.imp (fun⟨n,r⟩=>⟨fun k hk z=>n (z ▸ h.bd k hk),r⟩) id,q⟩
  |_=>exact i
theorem cD.of (h:Hk K mg P H M)(i:Is K P H d v):cD K P H m d v:=by
 cases m with
 |val=>exact i
 |bor=>exact i.b h
theorem cD.b (h:Hk K mg P H M)(i:cD K P H m d v):bL K P H d v:=by
 cases m with
 |val=>exact Is.b h i
 |bor=>exact i
theorem LtE.nc (l:LtE P H P' H')(e:H a=some o)(n:∀k,k<P.n->P.io k≠a):∀k,k<P'.n->P'.io k≠a:=fun k hk z=>by
 rcases xas k P.n with q |q
 ·rw[l.io k q]at z;exact n k q z
 ·rw[<-z,l.nw k q hk]at e;cases e
theorem bL.lt (l:LtE P H P' H')(h:Hk K mg P H M)(i:bL K P H d v):bL K P' H' d v:=by
  cases d with
  |lst ds=>
    obtain⟨a,vs,e,r,q⟩:=i;refine⟨a,vs,e,r.imp (fun⟨n,r⟩=>?_) id,au.lt (l.lt h) q⟩;obtain⟨o,eo⟩:=IW r;refine⟨l.nc eo n,?_⟩;rcases r with r |⟨o',r⟩
    · exact .inl (l.keep _ _ r (.inr n))
    · exact .inr ⟨o',l.keep _ _ r (.inr n)⟩
  |_=>exact Is.lt (l.lt h) i
theorem Ok.next (k:Ok K mg P0 H0 P Os H M st env)(l:LtE P H P' H')(h:Hk K mg P' H' M'):Ok K mg P0 H0 P' Os H' M' st env where
  hk:=h
  base:=k.base.trans l
  b0:=k.b0
  slot:=fun i s e=>by
    have q:=k.slot i s e
    cases s with
    |un=>exact True.intro
    |val d=>
      obtain⟨v,e1,q⟩:=q;exact⟨v,e1,Is.lt (l.lt k.hk) q⟩
    |own ds=>
      obtain ⟨a, vs, e1, e2, e3, q⟩ := q;have ho := k.own a (by
        cases hx:Os[i]? with
        |none=>rw[hx]at e1;cases e1
        |some o=>rw[hx]at e1;cases o with
          |none=>cases e1
          |some b=>cases e1;exact xaw hx)
      exact⟨a,vs,e1,e2,l.keep _ _ e3 (.inr ho.2.1),au.lt (l.lt k.hk) q⟩
    |exc c n=>
      obtain⟨v,e1,q⟩:=q;exact⟨v,e1,q.lt (l.lt k.hk)⟩
  own:=fun a z=>by
    have ho:=k.own a z;refine⟨l.bm a ho.1,?_,ho.2.2⟩;obtain⟨o,eo⟩:∃o,H a=some o:=by
      cases e:H a with
      |none=>exact absurd e (k.hk.here a ho.1)
      |some o=>exact⟨o,rfl⟩
    exact l.nc eo ho.2.1
  inj:=k.inj
  olen:=k.olen
  slen:=k.slen
theorem Hk.same (h:Hk K mg P H M)(s:Same H H'):Hk K mg P H' M:=by
  have l:Lt P H P H':=(LtE.same s).lt h;refine⟨h.n,fun k c e=>?_,h.inj,h.bd,fun a z q=>h.here a z (s.free q)⟩;have:=h.cell k c e
  cases c with
  |lst ds=>
    obtain⟨vs,e1,q⟩:=this;exact⟨vs,s _ _ e1,au.lt l q⟩
  |obj c fs=>
    obtain⟨C,dx,gs,e1,e2,e3,q⟩:=this;exact⟨C,dx,gs,e1,s _ _ e2,e3,au.lt l q⟩
  |dct kvs=>
    obtain⟨vs,e1,e2,q⟩:=this;exact⟨vs,s _ _ e1,e2,au.lt l q⟩
  |dcf kvs=>
    obtain⟨vs,ob,es,ep,e1,eD,e2,q⟩:=this;exact⟨vs,ob,es,ep,s _ _ e1,eD,e2,au.lt l q⟩
end
noncomputable def RQ (K:Fgx) (mg:Mgx) (Wx:XW) (m:Mode) (P0:Pl) (H0:Hp) (P:Pl) (H:Hp) (M':Mm) (Q:VK):Res->Prop
 |.v d=>∀P' v H',LtE P H P' H'->Hk K mg P' H' M'->cD K P' H' m d v->Q v H'
 |.x c n=>Wx P0 H0 M' c n
theorem bZ (h:PE X e t)(i:∀st H Q,t' st H Q->t st H Q):PE X e t':=fun pins s σ H Q I z=>h pins s σ H Q I (i _ _ _ z)
noncomputable def tE (K:Fgx) (mg:Mgx) (Wx:XW) (m:Mode) (f:E):TE:=fun st H Q=>∃P0 H0 P Os env M r M',Ok K mg P0 H0 P Os H M st env/\f env M=some (r,M')/\RQ K mg Wx m P0 H0 P H M' Q r
structure Fit (X:Cx)(Wx:XW):Prop where
 calm:X.calm=true
 room:X.A.units + 60<cLine
section
variable {X:Cx}{Wx:XW}{m:Mode}
def SE (X:Cx)(Wx:XW)(m:Mode)(e:Expr)(f:E):Prop:=PE X e (tE X.K X.mg Wx m f)
theorem SE.bor (h : SE X Wx .val e f) : SE X Wx m e f := bZ h fun st H Q ⟨P0, H0, P, Os, env, M, r, M', k, e, q⟩ => ⟨P0,H0,P,Os,env,M,r,M',k,e,by
 cases r with
 |v d=>exact fun P' v H' l h i=>q P' v H' l h (cD.of h i)
 |x c n=>exact q⟩
theorem aX {f:E}{K:Fgx}{mg:Mgx}{P0 P:Pl}{H0 H:Hp}{Os:List (Option Addr)}{M M':Mm}{st:L2.St}{env:Env}{r:Res}{Q:VK}(k:Ok K mg P0 H0 P Os H M st env)(e:f env M=some (r,M'))
  (q:RQ K mg Wx m P0 H0 P H M' Q r):tE K mg Wx m f st H Q:=⟨P0,H0,P,Os,env,M,r,M',k,e,q⟩
noncomputable def aj (i:Nat):E:=fun env M=>match env[i]? with
 |some (.val d)=>some (.v d,M)
 |_=>none
noncomputable def nj (i:Nat):E:=fun env M=>match env[i]? with
 |some (.val d)=>some (.v d,M)
 |some (.own ds)=>some (.v (.lst ds),M)
 |_=>none
def ao (d:D):E:=fun _ M=>some (.v d,M)
theorem lR {α:Type}{l:List (Option α)}{i:Nat}{a:α}(h:(l[i]?).join=some a):l[i]? =some (some a):=by
  cases e:l[i]? with
  |none=>rw[e]at h;cases h
  |some o=>rw[e]at h;cases o with
    |none=>cases h
    |some b=>cases h;rfl
theorem JB {i:Nat}{x:Str}{pos:Pos}(hN:X.N[i]? =some x)(hv:pZ X.env.scope x)(hd:(x==("__debug__":Str))=false:=by x_go)(hcd:(x==("__classdict__":Str))=false:=by x_go):SE X Wx .val (.Name x pos) (aj i):=by
 refine bZ (Ce hN hv hd hcd) ?_;rintro st H Q ⟨P0,H0,P,Os,env,M,r,M',k,e,q⟩;unfold aj at e;split at e
 ·rename_i d hs;cases e;obtain⟨v,e1,i1⟩:=k.slot i _ hs;exact⟨v,lR e1,q P v H (LtE.refl P H) k.hk i1⟩
 ·cases e
theorem Ww {i:Nat}{x:Str}{pos:Pos}(hN:X.N[i]? =some x)(hv:pZ X.env.scope x)(hd:(x==("__debug__":Str))=false:=by x_go)(hcd:(x==("__classdict__":Str))=false:=by x_go):SE X Wx .bor (.Name x pos) (nj i):=by
 refine bZ (Ce hN hv hd hcd) ?_;rintro st H Q ⟨P0,H0,P,Os,env,M,r,M',k,e,q⟩;unfold nj at e;split at e
 ·rename_i d hs;cases e;obtain⟨v,e1,i1⟩:=k.slot i _ hs;exact⟨v,lR e1,q P v H (LtE.refl P H) k.hk (cD.of k.hk i1)⟩
 ·rename_i ds hs;cases e;obtain⟨a,vs,e1,e2,e3,i1⟩:=k.slot i _ hs;exact⟨.ref a,lR e2,q P _ H (LtE.refl P H) k.hk ⟨a,vs,rfl,.inl ⟨(k.own a (xaw (lR e1))).2.1,.inl e3⟩,i1⟩⟩
 ·cases e
theorem Dk (h:PE X e (tC v))(hd:∀P H,Is X.K P H d v):SE X Wx .val e (ao d):=by
 refine bZ h ?_;rintro st H Q ⟨P0,H0,P,Os,env,M,r,M',k,e,q⟩;cases e;exact q P v H (LtE.refl P H) k.hk (hd P H)
noncomputable def vw (M:Mm) (d:D):D:=match d with
  | .ref k => (match M[k]? with
    |some (.lst ds)=>.lst ds
    |_=>.ref k)
  |d=>d
theorem bL.vw {K:Fgx}{mg:Mgx}{P:Pl}{H:Hp}{M:Mm}{d:D}{v:V}(h:Hk K mg P H M)(i:bL K P H d v):bF K P H (vw M d) v:=by
  cases d with
  |ref k=>
    unfold E3.vw;dsimp only
    split
    · rename_i ds e;obtain⟨i1,i2⟩:k<P.n/\v=.ref (P.io k):=i;obtain⟨vs,e1,q⟩:=h.cell k _ e;exact⟨_,vs,i2,.inl (.inl e1),q⟩
    · exact i
  |lst ds=>exact i.w
  |_=>exact i
noncomputable def s1 (o:D->Option D) (f:E):E:=fun env M=>bnd (f env M) fun d M1=>(o (vw M1 d)).map fun z=>(.v z,M1)
noncomputable def s2 (o:D->D->Option D) (f g:E):E:=fun env M=>bnd (f env M) fun d M1=>bnd (g env M1) fun e M2=>(o (vw M2 d) (vw M2 e)).map fun z=>(.v z,M2)
def fj (K:Fgx)(r:R2)(o:D->D->Option D):Prop:=∀(P:Pl) (H:Hp) (d e z:D) (v w:V) (Q:VK),o d e=some z->bF K P H d v->bF K P H e w->(∀p,H p=none->¬ P.bd p)->(∀u H',Same H H'->Is K P H' z u->Q u H')->r v w H Q
def zG (K:Fgx)(r:V->Hp->VK->Prop)(o:D->Option D):Prop:=∀(P:Pl) (H:Hp) (d z:D) (v:V) (Q:VK),o d=some z->bF K P H d v->(∀p,H p=none->¬ P.bd p)->(∀u H',Same H H'->Is K P H' z u->Q u H')->r v H Q
theorem Hk.new {K:Fgx}{mg:Mgx}{P:Pl}{H:Hp}{M:Mm}(h:Hk K mg P H M):∀p,H p=none->¬ P.bd p:=fun p hp z=>h.here p z hp
theorem zj {f g:E}{o:D->D->Option D}{r:R2}{st:L2.St}{H:Hp}{Q:VK}(po:fj X.K r o)(h:tE X.K X.mg Wx m (s2 o f g) st H Q):wF r (tE X.K X.mg Wx .bor f) (tE X.K X.mg Wx .bor g) st H Q:=by
 obtain⟨P0,H0,P,Os,env,M,rr,M',k,e,q⟩:=h;unfold s2 at e;rcases bV e with⟨d,M1,e1,e⟩ |⟨c,n,e1,rfl⟩
 ·refine aX k e1 fun P1 v1 H1 l1 h1 i1=>?_;have k1:=k.next l1 h1
  rcases bV e with⟨d2,M2,e2,e⟩ |⟨c,n,e2,rfl⟩
  ·refine aX k1 e2 fun P2 v2 H2 l2 h2 i2=>?_;rw[xaa]at e;obtain⟨z,ez,e⟩:=e;cases e;exact po P2 H2 _ _ z v1 v2 Q ez (bL.vw h2 (bL.lt l2 h1 i1)) (bL.vw h2 i2) h2.new fun u H' s i=>q P2 u H' (l1.trans (l2.trans (LtE.same s))) (h2.same s) (cD.of (h2.same s) i)
  ·exact aX k1 e2 q
 ·exact aX k e1 q
theorem Xn {f:E}{o:D->Option D}{r:V->Hp->VK->Prop}{st:L2.St}{H:Hp}{Q:VK}(po:zG X.K r o)(h:tE X.K X.mg Wx m (s1 o f) st H Q):JX r (tE X.K X.mg Wx .bor f) st H Q:=by
 obtain⟨P0,H0,P,Os,env,M,rr,M',k,e,q⟩:=h;unfold s1 at e;rcases bV e with⟨d,M1,e1,e⟩ |⟨c,n,e1,rfl⟩
 ·refine aX k e1 fun P1 v1 H1 l1 h1 i1=>?_;rw[xaa]at e;obtain⟨z,ez,e⟩:=e;cases e;exact po P1 H1 _ z v1 Q ez (bL.vw h1 i1) h1.new fun u H' s i=>q P1 u H' (l1.trans (LtE.same s)) (h1.same s) (cD.of (h1.same s) i)
 ·exact aX k e1 q
theorem aL (ho:bC X (binaryOp op) r)(po:fj X.K r o)(ha:SE X Wx .bor a f)(hb:SE X Wx .bor b g):SE X Wx m (.BinOp a op b pos) (s2 o f g):=
 bZ (Ik ho ha hb) fun _ _ _ h=>zj po h
theorem Wm (ho:bC X (compareOp op) r)(po:fj X.K r o)(ha:SE X Wx .bor a f)(hb:SE X Wx .bor b g)(hm:behindInMarks op b=false:=by rfl):SE X Wx m (.Compare a [op] [b] pos) (s2 o f g):=
 bZ (Ru ho ha hb hm) fun _ _ _ h=>zj po h
theorem Wq (ho:kO X r)(po:fj X.K r o)(ha:SE X Wx .bor a f)(hb:SE X Wx .bor b g)(hs:zF b:=by exact fun _ _=>rfl):SE X Wx m (.Subscript a b pos) (s2 o f g):=
 bZ (Ry ho ha hb hs) fun _ _ _ h=>zj po h
noncomputable def TQ (K:Fgx) (mg:Mgx) (Wx:XW) (P0:Pl) (H0:Hp) (P:Pl) (H:Hp) (M':Mm) (Q:Bool->Hp->Prop):Res->Prop
 |.v d=>∃b,d=.bl b/\∀P' H',LtE P H P' H'->Hk K mg P' H' M'->Q b H'
 |.x c n=>Wx P0 H0 M' c n
noncomputable def nG (K:Fgx) (mg:Mgx) (Wx:XW) (f:E):TT:=fun st H Q=>∃P0 H0 P Os env M r M',Ok K mg P0 H0 P Os H M st env/\f env M=some (r,M')/\TQ K mg Wx P0 H0 P H M' Q r
def ST (X:Cx)(Wx:XW)(e:Expr)(f:E):Prop:=PT X e (nG X.K X.mg Wx f)
theorem yj (h:PT X e t)(i:∀st H Q,t' st H Q->t st H Q):PT X e t':=fun pins s σ H Q I z=>h pins s σ H Q I (i _ _ _ z)
theorem fX {f:E}{K:Fgx}{mg:Mgx}{P0 P:Pl}{H0 H:Hp}{Os:List (Option Addr)}{M M':Mm}{st:L2.St}{env:Env}{r:Res}{Q:Bool->Hp->Prop}(k:Ok K mg P0 H0 P Os H M st env)(e:f env M=some (r,M'))
  (q:TQ K mg Wx P0 H0 P H M' Q r):nG K mg Wx f st H Q:=⟨P0,H0,P,Os,env,M,r,M',k,e,q⟩
theorem J5 {f:E}{st:L2.St}{H:Hp}{Q:Bool->Hp->Prop}(h:nG X.K X.mg Wx f st H Q):Ec (tE X.K X.mg Wx .val f) st H Q:=by
  obtain⟨P0,H0,P,Os,env,M,r,M',k,e,q⟩:=h;refine aX k e ?_
  cases r with
  |v d=>
    obtain⟨b,rfl,q⟩:=q;exact fun P' v H' l h i=>⟨b,i,q P' H' l h⟩
  |x c n=>exact q
theorem DG (ho:bC X (compareOp op) r)(po:fj X.K r o)(ha:SE X Wx .bor a f)(hb:SE X Wx .bor b g)(hm:behindInMarks op b=false:=by rfl):ST X Wx (.Compare a [op] [b] pos) (s2 o f g):=
 yj (Sh ho ha hb hm) fun _ _ _ h=>zj po (J5 h)
noncomputable def gJ:D->Option Bool
 |.non=>some false
 |.bl b=>some b
 |.int i=>some (i !=0)
 |.str s=>if s.length<=sizeLine then some ((s.length:Int) !=0) else none
 |.lst ds=>some (!ds.isEmpty)
 |.tup ds=>some (!ds.isEmpty)
 |.ref _=>none
def cO (f:E):E:=s1 (fun d=>(gJ d).map .bl) f
noncomputable def dZ (f:E):E:=fun env M=>bnd (f env M) fun d M1=>match d with
 |.bl b=>some (.v (.bl (!b)),M1)
 |_=>none
noncomputable def cA (f g:E):E:=fun env M=>bnd (f env M) fun d M1=>match d with
 |.bl b=>if b=true then g env M1 else some (.v (.bl false),M1)
 |_=>none
noncomputable def ni (f g:E):E:=fun env M=>bnd (f env M) fun d M1=>match d with
 |.bl b=>if b=true then some (.v (.bl true),M1) else g env M1
 |_=>none
noncomputable def mz (c f g:E):E:=fun env M=>bnd (c env M) fun d M1=>match d with
 |.bl b=>if b=true then f env M1 else g env M1
 |_=>none
def SW (X:Cx)(Wx:XW)(e:Expr)(f:E):Prop:=PW X e (nG X.K X.mg Wx f)
theorem Iw (h:PW X e t)(i:∀st H Q,t' st H Q->t st H Q):PW X e t':=fun wh pins s σ H Q I z=>h wh pins s σ H Q I (i _ _ _ z)
theorem rG (ha:ST X Wx a f):ST X Wx (.UnaryOp .Not a pos) (dZ f):=by
 refine yj (Sq ha) ?_;rintro st H Q ⟨P0,H0,P,Os,env,M,r,M',k,e,q⟩;unfold dZ at e;rcases bV e with⟨d,M1,e1,e⟩ |⟨c,n,e1,rfl⟩
 ·cases d<;>simp only[reduceCtorEq]at e
  cases e;obtain⟨b,e2,q⟩:=q;cases e2;exact fX k e1 ⟨_,rfl,q⟩
 ·exact fX k e1 q
theorem wz (ha:ST X Wx a f):SW X Wx (.BoolOp .And [a] pos) f:=Td ha
theorem zf (ha:ST X Wx a f):SW X Wx (.BoolOp .Or [a] pos) f:=Tf ha
theorem rJ (ha:ST X Wx a f)(hb:SW X Wx (.BoolOp .And (b::rest) pos) g):SW X Wx (.BoolOp .And (a::b::rest) pos) (cA f g):=by
  refine Iw (Tc ha hb) ?_;rintro st H Q ⟨P0,H0,P,Os,env,M,r,M',k,e,q⟩;unfold cA at e;rcases bV e with⟨d,M1,e1,e⟩ |⟨c,n,e1,rfl⟩
  · cases d<;>simp only[reduceCtorEq]at e
    rename_i b;refine fX k e1 ⟨b,rfl,fun P1 H1 l1 h1=>?_⟩
    cases b with
    |true=>
      rw[Z7 rfl]at e ⊢;refine fX (k.next l1 h1) e ?_
      cases r with
      |v d=>obtain⟨b,e2,q⟩:=q;exact⟨b,e2,fun P' H' l h=>q P' H' (l1.trans l) h⟩
      |x c n=>exact q
    |false=>
      rw[xaf (by decide)]at e ⊢;cases e;obtain⟨b,e2,q⟩:=q;cases e2;exact q P1 H1 l1 h1
  · exact fX k e1 q
theorem wA (ha:ST X Wx a f)(hb:SW X Wx (.BoolOp .Or (b::rest) pos) g):SW X Wx (.BoolOp .Or (a::b::rest) pos) (ni f g):=by
  refine Iw (Te ha hb) ?_;rintro st H Q ⟨P0,H0,P,Os,env,M,r,M',k,e,q⟩;unfold ni at e;rcases bV e with⟨d,M1,e1,e⟩ |⟨c,n,e1,rfl⟩
  · cases d<;>simp only[reduceCtorEq]at e
    rename_i b;refine fX k e1 ⟨b,rfl,fun P1 H1 l1 h1=>?_⟩
    cases b with
    |false=>
      rw[xaf (by decide)]at e ⊢;refine fX (k.next l1 h1) e ?_
      cases r with
      |v d=>obtain⟨b,e2,q⟩:=q;exact⟨b,e2,fun P' H' l h=>q P' H' (l1.trans l) h⟩
      |x c n=>exact q
    |true=>
      rw[Z7 rfl]at e ⊢;cases e;obtain⟨b,e2,q⟩:=q;cases e2;exact q P1 H1 l1 h1
  · exact fX k e1 q
theorem SW.st (h:SW X Wx e f):ST X Wx e f:=h.pt
end
section
variable {X:Cx}{Wx:XW}{m:Mode}
theorem RQ.imp {K:Fgx}{mg:Mgx}{P0 P P1:Pl}{H0 H H1:Hp}{M':Mm}{Q:VK}{r:Res}(l:LtE P H P1 H1)(q:RQ K mg Wx m P0 H0 P H M' Q r):RQ K mg Wx m P0 H0 P1 H1 M' Q r:=by
 cases r with
 |v d=>exact fun P' v H' l' h i=>q P' v H' (l.trans l') h i
 |x c n=>exact q
theorem Wt (ha:SE X Wx m a f):SE X Wx m (.BoolOp op [a] pos) f:=RD ha
theorem Wl (ha:SE X Wx .val a f)(hb:SE X Wx m (.BoolOp .And (b::rest) pos) g):SE X Wx m (.BoolOp .And (a::b::rest) pos) (cA f g):=by
  refine bZ (Rp ha hb) ?_;rintro st H Q ⟨P0,H0,P,Os,env,M,r,M',k,e,q⟩;unfold cA at e;rcases bV e with⟨d,M1,e1,e⟩ |⟨c,n,e1,rfl⟩
  · cases d<;>simp only[reduceCtorEq]at e
    rename_i b;refine aX k e1 fun P1 v1 H1 l1 h1 i1=>⟨b,i1,?_⟩
    cases b with
    |true=>
      rw[Z7 rfl]at e ⊢;exact aX (k.next l1 h1) e (RQ.imp l1 q)
    |false=>
      rw[xaf (by decide)]at e ⊢;cases e;exact q P1 _ H1 l1 h1 (cD.of h1 (show Is _ _ _ (.bl false) _ from rfl))
  · exact aX k e1 q
theorem Wo (hc:ST X Wx c t)(ha:SE X Wx m a f)(hb:SE X Wx m b g):SE X Wx m (.IfExp c a b pos) (mz t f g):=by
  refine bZ (Rw hc ha hb) ?_;rintro st H Q ⟨P0,H0,P,Os,env,M,r,M',k,e,q⟩;unfold mz at e;rcases bV e with⟨d,M1,e1,e⟩ |⟨c,n,e1,rfl⟩
  · cases d<;>simp only[reduceCtorEq]at e
    rename_i b;refine fX k e1 ⟨b,rfl,fun P1 H1 l1 h1=>?_⟩
    cases b with
    |true=>
      rw[Z7 rfl]at e ⊢;exact aX (k.next l1 h1) e (RQ.imp l1 q)
    |false=>
      rw[xaf (by decide)]at e ⊢;exact aX (k.next l1 h1) e (RQ.imp l1 q)
  · exact fX k e1 q
theorem Yk {K:Fgx}{P:Pl}{H:Hp}{d:D}{v:V}{b:Bool}(h:gJ d=some b)(i:bF K P H d v):nP K v H b:=by
  cases d with
  |non=>have e:v=.non:=i;subst e;cases h;rfl
  |bl c=>have e:v=.bl c:=i;subst e;cases h;rfl
  |int c=>have e:v=.int c:=i;subst e;cases h;rfl
  |str c=>
    have e:v=.str c:=i;subst e;simp only[gJ]at h;split at h
    · rename_i hl;cases h;exact⟨hl,rfl⟩
    · cases h
  |lst ds=>
    obtain⟨a,vs,rfl,r,q⟩:=i;cases h;refine .inl ⟨vs,r,?_⟩
    cases ds with
    |nil=>rw[show vs=[] from q];rfl
    |cons d ds=>obtain⟨w,r',rfl,_⟩:=q;rfl
  |tup ds=>
    obtain⟨a,vs,rfl,r,q⟩:=i;cases h;refine .inr (.inl ⟨vs,r,?_⟩)
    cases ds with
    |nil=>rw[show vs=[] from q];rfl
    |cons d ds=>obtain⟨w,r',rfl,_⟩:=q;rfl
  |ref k=>cases h
theorem nF (ha:SE X Wx .bor a f)(he:∀whole,isTrue a X.env whole=(do let v <-whole;standAt a.pos;holding [v] (truthy v)):=by exact fun _=>rfl):ST X Wx a (cO f):=by
 refine yj (Ss ha he) ?_;rintro st H Q ⟨P0,H0,P,Os,env,M,r,M',k,e,q⟩;unfold cO s1 at e;rcases bV e with⟨d,M1,e1,e⟩ |⟨c,n,e1,rfl⟩
 ·rw[xaa]at e;obtain⟨z,ez,e⟩:=e;cases e;rw[xaa]at ez;obtain⟨b,eb,rfl⟩:=ez;obtain⟨b',e2,q⟩:=q;cases e2;exact aX k e1 fun P1 v1 H1 l1 h1 i1=>⟨b,Yk eb (bL.vw h1 i1),q P1 H1 l1 h1⟩
 ·exact aX k e1 q
inductive ResA where
 |v (ds:List D) |x (c:Str) (n:Int)
abbrev EA:=Env->Mm->Option (ResA×Mm)
def aC:EA:=fun _ M=>some (.v [],M)
noncomputable def aD (f:E) (fs:EA):EA:=fun env M=>match f env M with
  | some (.v d, M1) => (match fs env M1 with
    |some (.v ds,M2)=>some (.v (d::ds),M2)
    |some (.x c n,M2)=>some (.x c n,M2)
    |none=>none)
  |some (.x c n,M1)=>some (.x c n,M1)
  |none=>none
noncomputable def eG (o:Option (ResA×Mm)) (k:List D->Mm->O):O:=match o with
 |some (.v ds,M)=>k ds M
 |some (.x c n,M)=>some (.x c n,M)
 |none=>none
theorem p8 (h:eG o k=some (r,M')):(∃ds M,o=some (.v ds,M)/\k ds M=some (r,M'))\/∃c n,o=some (.x c n,M')/\r=.x c n:=by
 unfold eG at h;split at h
 ·exact .inl ⟨_,_,rfl,h⟩
 ·cases h;exact .inr ⟨_,_,rfl,rfl⟩
 ·cases h
noncomputable def cg (K:Fgx) (P:Pl) (H:Hp) (m:Mode):List D->List V->Prop
 | [],vs=>vs=[]
 |d::ds,vs=>∃v ws,vs=v::ws/\cD K P H m d v/\cg K P H m ds ws
theorem cg.iss {K:Fgx}{P:Pl}{H:Hp}:∀{ds:List D} {vs:List V},cg K P H .val ds vs->au K P H ds vs
  | [],_,h=>h
  |_::_,_,h=>by
    obtain⟨v,ws,e,p,q⟩:=h;exact⟨v,ws,e,p,cg.iss q⟩
noncomputable def AQ (K:Fgx) (mg:Mgx) (Wx:XW) (m:Mode) (P0:Pl) (H0:Hp) (P:Pl) (H:Hp) (M':Mm) (Q:List V->Hp->Prop):ResA->Prop
 |.v ds=>∀P' vs H',LtE P H P' H'->Hk K mg P' H' M'->cg K P' H' m ds vs->Q vs H'
 |.x c n=>Wx P0 H0 M' c n
noncomputable def Xp (K:Fgx) (mg:Mgx) (Wx:XW) (m:Mode) (fs:EA):TA:=fun st H Q=>∃P0 H0 P Os env M r M',Ok K mg P0 H0 P Os H M st env/\fs env M=some (r,M')/\AQ K mg Wx m P0 H0 P H M' Q r
def SA (X:Cx)(Wx:XW)(m:Mode)(es:List Expr)(fs:EA):Prop:=PA X es (Xp X.K X.mg Wx m fs)
theorem Ih (h:PA X es t)(w:∀σ H Q,t' σ H Q->t σ H Q):PA X es t':=fun pos pins s σ H Q I hw=>h pos pins s σ H Q I (w σ H Q hw)
theorem aN:SA X Wx m [] aC:=by
 refine Ih pF ?_;rintro st H Q ⟨P0,H0,P,Os,env,M,r,M',k,e,q⟩;cases e;exact q P [] H (LtE.refl P H) k.hk rfl
theorem aF (ha:SE X Wx m e f)(hr:SA X Wx m es fs)(hs:starEach (e::es) X.env=(false,eval e X.env)::starEach es X.env:=by rfl):SA X Wx m (e::es) (aD f fs):=by
 refine Ih (lY ha hr hs) ?_;rintro st H Q ⟨P0,H0,P,Os,env,M,r,M',k,e,q⟩;unfold aD at e;split at e
 ·rename_i d M1 e1;refine aX k e1 fun P1 v1 H1 l1 h1 i1=>?_;split at e
  ·rename_i ds M2 e2;cases e;refine⟨P0,H0,P1,Os,env,M1,_,_,k.next l1 h1,e2,fun P2 vs H2 l2 h2 i2=>q P2 _ H2 (l1.trans l2) h2 ⟨v1,vs,rfl,?_,i2⟩⟩
   cases m with
   |val=>exact Is.lt (l2.lt h1) i1
   |bor=>exact bL.lt l2 h1 i1
  ·rename_i c n M2 e2;cases e;exact⟨P0,H0,P1,Os,env,M1,_,_,k.next l1 h1,e2,q⟩
  ·cases e
 ·rename_i c n M1 e1;cases e;exact aX k e1 q
 ·cases e
noncomputable def sN (o:List D->Option D) (fs:EA):E:=fun env M=>eG (fs env M) fun ds M1=>(o (ds.map (vw M1))).map fun z=>(.v z,M1)
noncomputable def lD (K:Fgx) (P:Pl) (H:Hp):List D->List V->Prop
 | [],vs=>vs=[]
 |d::ds,vs=>∃v ws,vs=v::ws/\bF K P H d v/\lD K P H ds ws
theorem cg.w {K:Fgx}{mg:Mgx}{P:Pl}{H:Hp}{M:Mm}(h:Hk K mg P H M):∀{ds:List D} {vs:List V},cg K P H m ds vs->lD K P H (ds.map (vw M)) vs
  | [],_,q=>q
  |d::ds,_,q=>by
    obtain⟨v,ws,e,p,q⟩:=q;exact⟨v,ws,e,bL.vw h (p.b h),cg.w h q⟩
def gQ (K:Fgx)(r:List V->Hp->VK->Prop)(o:List D->Option D):Prop:=∀(P:Pl) (H:Hp) (ds:List D) (z:D) (vs:List V) (Q:VK),o ds=some z->lD K P H ds vs->(∀p,H p=none->¬ P.bd p)->(∀u H',Same H H'->Is K P H' z u->Q u H')->r vs H Q
theorem Jy (h:∀t,PA X (e::es) t->PE X ex (DP r t))(po:gQ X.K r o)(ha:SA X Wx .bor (e::es) fs):SE X Wx m ex (sN o fs):=by
 refine bZ (h _ ha) ?_;rintro st H Q ⟨P0,H0,P,Os,env,M,r,M',k,e,q⟩;unfold sN at e;rcases p8 e with⟨ds,M1,e1,e⟩ |⟨c,n,e1,rfl⟩
 ·rw[xaa]at e;obtain⟨z,ez,e⟩:=e;cases e;exact⟨P0,H0,P,Os,env,M,_,_,k,e1,fun P1 vs H1 l1 h1 i1=>po P1 H1 _ z vs Q ez (cg.w h1 i1) h1.new fun u H' s i=>q P1 u H' (l1.trans (LtE.same s)) (h1.same s) (cD.of (h1.same s) i)⟩
 ·exact⟨P0,H0,P,Os,env,M,_,_,k,e1,q⟩
noncomputable def bW (fs:EA):E:=fun env M=>eG (fs env M) fun ds M1=>if ds.length<=sizeLine then some (.v (.tup ds),M1) else none
theorem kI {es:List Expr}{x1:Nat}{pos:Pos}{fs:EA}(ha:SA X Wx .val es fs):SE X Wx m (.Tuple es x1 pos) (bW fs):=by
 refine bZ (RJ ha) ?_;rintro st H Q ⟨P0,H0,P,Os,env,M,r,M',k,e,q⟩;unfold bW at e;rcases p8 e with⟨ds,M1,e1,e⟩ |⟨c,n,e1,rfl⟩
 ·split at e
  ·rename_i hl;cases e;refine⟨P0,H0,P,Os,env,M,_,_,k,e1,fun P1 vs H1 l1 h1 i1=>⟨by rw[i1.iss.len];exact hl,fun p hp=>?_⟩⟩;have s:=mG (o:=.tup vs) hp;exact q P1 _ _ (l1.trans (LtE.same s)) (h1.same s) (cD.of (h1.same s) ⟨p,vs,rfl,.inl (.inl b_),au.lt ((LtE.same s).lt h1) i1.iss⟩)
  ·cases e
 ·exact⟨P0,H0,P,Os,env,M,_,_,k,e1,q⟩
noncomputable def NQ (K:Fgx) (mg:Mgx) (Wx:XW) (P0:Pl) (H0:Hp) (P:Pl) (H:Hp) (M':Mm) (Q:VK):Res->Prop
 |.v d=>∃ds,d=.lst ds/\∀P' a vs H',LtE P H P' H'->Hk K mg P' H' M'->H a=none->P'.bd a->(∀k,k<P'.n->P'.io k≠a)->H' a=some (.lst vs)->au K P' H' ds vs->Q (.ref a) H'
 |.x c n=>Wx P0 H0 M' c n
noncomputable def tN (K:Fgx) (mg:Mgx) (Wx:XW) (f:E):TE:=fun st H Q=>∃P0 H0 P Os env M r M',Ok K mg P0 H0 P Os H M st env/\f env M=some (r,M')/\NQ K mg Wx P0 H0 P H M' Q r
def SN (X:Cx)(Wx:XW)(e:Expr)(f:E):Prop:=PE X e (tN X.K X.mg Wx f)
def Pl.bar (P:Pl)(p:Addr):Pl:={P with bd:=fun a=>P.bd a\/a=p}
theorem p7 {K:Fgx}{mg:Mgx}{P:Pl}{H:Hp}{M:Mm}{p:Addr}{vs:List V}(h:Hk K mg P H M)(hp:H p=none):LtE P H (P.bar p) (upd H p (.lst vs))/\Hk K mg (P.bar p) (upd H p (.lst vs)) M/\∀k,k<P.n->P.io k≠p:=by
  have s:=mG (o:=.lst vs) hp;have nc:∀k,k<P.n->P.io k≠p:=fun k hk z=>h.here _ (h.bd k hk) (z ▸ hp);have l:LtE P H (P.bar p) (upd H p (.lst vs)):=⟨tG _,fun _ _=>rfl,fun a z=>Or.imp (fun q=>q) (fun(q:a=p)=>by rw[q];exact hp) z,fun a z=>.inl z,fun a o e _=>s a o e,fun a z=>s.free z,fun k h1 h2=>absurd h1 (xcK.mpr h2)⟩;have lt:=l.lt h;refine⟨l,⟨h.n,fun k c e=>?_,h.inj,fun k hk=>.inl (h.bd k hk),fun a z q=>?_⟩,nc⟩
  · have:=h.cell k c e
    cases c with
    |lst ds=>
      obtain⟨vs,e1,q⟩:=this;exact⟨vs,s _ _ e1,au.lt lt q⟩
    |obj c fs=>
      obtain⟨C,dx,gs,e1,e2,e3,q⟩:=this;exact⟨C,dx,gs,e1,s _ _ e2,e3,au.lt lt q⟩
    |dct kvs=>
      obtain⟨vs,e1,e2,q⟩:=this;exact⟨vs,s _ _ e1,e2,au.lt lt q⟩
    |dcf kvs=>
      obtain⟨vs,ob,es,ep,e1,eD,e2,q⟩:=this;exact⟨vs,ob,es,ep,s _ _ e1,eD,e2,au.lt lt q⟩
  · rcases z with z |z
    · exact h.here a z (s.free q)
    · subst z;rw[b_]at q;cases q
theorem SN.se (h:SN X Wx e f)(hf:∀env M r M',f env M=some (.v r,M')->∃ds,r=.lst ds):SE X Wx .val e f:=by
  refine bZ h ?_;rintro st H Q ⟨P0,H0,P,Os,env,M,r,M',k,e,q⟩;refine⟨P0,H0,P,Os,env,M,r,M',k,e,?_⟩
  cases r with
  |x c n=>exact q
  |v d=>
    obtain⟨ds,rfl⟩:=hf _ _ _ _ e;refine⟨ds,rfl,fun P' a vs H' l h ha ba nc ea is=>q (P'.less (· ≠a)) _ H' ?_ ?_ ⟨a,vs,rfl,.inl ⟨fun z=>z.2 rfl,.inl ea⟩,au.less is⟩⟩
    · exact⟨l.n,l.io,fun b z=>l.bd b z.1,fun b z=>⟨l.bm b z,fun q=>k.hk.here b z (q ▸ ha)⟩,l.keep,l.sure,l.nw⟩
    · refine⟨h.n,fun j c e=>?_,h.inj,fun j hj=>⟨h.bd j hj,nc j hj⟩,fun b z=>h.here b z.1⟩;have:=h.cell j c e
      cases c with
      |lst ds=>
        obtain⟨vs,e1,q⟩:=this;exact⟨vs,e1,au.less q⟩
      |obj c fs=>
        obtain⟨C,dx,gs,e1,e2,e3,q⟩:=this;exact⟨C,dx,gs,e1,e2,e3,au.less q⟩
      |dct kvs=>
        obtain⟨vs,e1,e2,q⟩:=this;exact⟨vs,e1,e2,au.less q⟩
      |dcf kvs=>
        obtain⟨vs,ob,es,ep,e1,eD,e2,q⟩:=this;exact⟨vs,ob,es,ep,e1,eD,e2,au.less q⟩
noncomputable def bB (fs:EA):E:=fun env M=>eG (fs env M) fun ds M1=>if ds.length<=sizeLine then some (.v (.lst ds),M1) else none
theorem gG {es:List Expr}{pos:Pos}{fs:EA}(ha:SA X Wx .val es fs):SN X Wx (.List es pos) (bB fs):=by
 refine bZ (RB ha) ?_;rintro st H Q ⟨P0,H0,P,Os,env,M,r,M',k,e,q⟩;unfold bB at e;rcases p8 e with⟨ds,M1,e1,e⟩ |⟨c,n,e1,rfl⟩
 ·split at e
  ·rename_i hl;cases e;obtain⟨ds',e',q⟩:=q;cases e';refine⟨P0,H0,P,Os,env,M,_,_,k,e1,fun P1 vs H1 l1 h1 i1=>⟨by rw[i1.iss.len];exact hl,fun p hp=>?_⟩⟩;obtain⟨l2,h2,nc⟩:=p7 (vs:=vs) h1 hp;exact q (P1.bar p) p vs _ (l1.trans l2) h2 (l1.sure p hp) (.inr rfl) nc b_ (au.lt (l2.lt h1) i1.iss)
  ·cases e
 ·exact⟨P0,H0,P,Os,env,M,_,_,k,e1,q⟩
theorem lst_is:∀env M r M',bB fs env M=some (.v r,M')->∃ds,r=.lst ds:=fun env M r M' e=>by
 unfold bB at e;rcases p8 e with⟨ds,M1,e1,e⟩ |⟨c,n,e1,e⟩
 ·split at e
  ·cases e;exact⟨_,rfl⟩
  ·cases e
 ·cases e
end
inductive Out where
 |nx (env:Env) |bk (env:Env) |ct (env:Env) |rt (d:D) |ex (c:Str) (n:Int)
abbrev OS:=Option (Out×Mm)
abbrev S:=Env->Mm->OS
noncomputable def Post (K:Fgx) (mg:Mgx) (Wx:XW) (P0:Pl) (H0:Hp) (P:Pl) (H:Hp) (M':Mm) (D:Ends):Out->Prop
 |.nx env=>∀P' Os' H' st',Lt P H P' H'->Ok K mg P0 H0 P' Os' H' M' st' env->D.nx st' H'
 |.bk env=>∀P' Os' H' st',Lt P H P' H'->Ok K mg P0 H0 P' Os' H' M' st' env->D.bk st' H'
 |.ct env=>∀P' Os' H' st',Lt P H P' H'->Ok K mg P0 H0 P' Os' H' M' st' env->D.ct st' H'
 |.rt d=>∀P' v H',LtE P0 H0 P' H'->Hk K mg P' H' M'->Is K P' H' d v->D.rt v H'
 |.ex c n=>Wx P0 H0 M' c n
noncomputable def tS (K:Fgx) (mg:Mgx) (Wx:XW) (f:S):TS:=fun D st H=>∃P0 H0 P Os env M out M',Ok K mg P0 H0 P Os H M st env/\f env M=some (out,M')/\Post K mg Wx P0 H0 P H M' D out
def SS (X:Cx)(Wx:XW)(s:Stmt)(f:S):Prop:=PS X s (tS X.K X.mg Wx f)
def SB (X:Cx)(Wx:XW)(s:List Stmt)(f:S):Prop:=fP X s (tS X.K X.mg Wx f)
noncomputable def bO (o:O) (k:D->Mm->OS):OS:=match o with
 |some (.v d,M)=>k d M
 |some (.x c n,M)=>some (.ex c n,M)
 |none=>none
theorem g_ (h:bO o k=some (r,M')):(∃d M,o=some (.v d,M)/\k d M=some (r,M'))\/∃c n,o=some (.x c n,M')/\r=.ex c n:=by
 unfold bO at h;split at h
 ·exact .inl ⟨_,_,rfl,h⟩
 ·cases h;exact .inr ⟨_,_,rfl,rfl⟩
 ·cases h
section
variable {K:Fgx}{mg:Mgx}{Wx:XW}{P0 P P' P1:Pl}{H0 H H' H1:Hp}{M M':Mm}{Os:List (Option Addr)}{st:L2.St}{env:Env}{d:D}{v:V}{i:Nat}
theorem vY (l:List (Option α))(i j:Nat)(x:Option α)(hi:i<l.length):((l.set i x)[j]?).join=if i=j then x else(l[j]?).join:=by
 rw[xaN]
 by_cases h:i=j
 ·subst h;rw[Z7 rfl,Z7 hi,Z7 rfl];rfl
 ·rw[xaf h,xaf h]
theorem Ok.asg (k:Ok K mg P0 H0 P Os H M st env)(hi:i<env.length)(h:Is K P H d v):Ok K mg P0 H0 P (Os.set i none) H M (st.set i (some v)) (env.set i (.val d)) where
 hk:=k.hk
 base:=k.base
 b0:=k.b0
 slot:=fun j s e=>by
  rw[vY _ _ _ _ (by rw[k.olen];exact hi),vY _ _ _ _ (by rw[k.slen];exact hi)];rw[xaN]at e;split at e
  ·rename_i ij;subst ij;cases e;rw[Z7 rfl,Z7 rfl];exact⟨v,rfl,h⟩
  ·rename_i ij;rw[xaf ij,xaf ij];exact k.slot j s e
 own := fun a h => k.own a (by
  rcases xcL h with h |h
  ·exact h
  ·cases h)
 inj:=fun j l a e1 e2=>by
  rw[xaN]at e1 e2;split at e1
  ·split at e1<;>cases e1
  ·split at e2
   ·split at e2<;>cases e2
   ·exact k.inj j l a e1 e2
 olen:=by rw[xaD,xaD,k.olen]
 slen:=by rw[xaD,xaD,k.slen]
theorem Ok.here (k:Ok K mg P0 H0 P Os H M st env)(h:some a∈Os):H a≠none:=k.hk.here a (k.own a h).1
theorem Ok.mine (k0:Ok K mg P0 H0 P Os H M st env)(l:LtE P H P' H')(hk:Hk K mg P' H' M')(hi:i<env.length)(ha:H a=none)(ba:P'.bd a)(nc:∀j,j<P'.n->P'.io j≠a)(e:H' a=some (.lst vs))(h:au K P' H' ds vs):
  Ok K mg P0 H0 P' (Os.set i (some a)) H' M' (st.set i (some (.ref a))) (env.set i (.own ds)):=by
 have k:=k0.next l hk
 have nO:∀j,Os[j]? ≠some (some a):=fun j z=>k0.here (xaw z) ha;exact {
  hk:=k.hk
  base:=k.base
  b0:=k.b0
  slot:=fun j s e'=>by
   rw[vY _ _ _ _ (by rw[k.olen];exact hi),vY _ _ _ _ (by rw[k.slen];exact hi)];rw[xaN]at e';split at e'
   ·rename_i ij;subst ij;cases e';rw[Z7 rfl,Z7 rfl];exact⟨a,vs,rfl,rfl,e,h⟩
   ·rename_i ij;rw[xaf ij,xaf ij];exact k.slot j s e'
  own:=fun b hb=>by
   rcases xcL hb with hb |hb
   ·exact k.own b hb
   ·cases hb;exact⟨ba,nc,k0.base.sure a ha⟩
  inj:=fun j l b e1 e2=>by
   rw[xaN]at e1 e2;split at e1
   ·split at e1
    ·cases e1;split at e2
     ·rename_i z1 _ z2;exact z1.symm.trans z2
     ·exact absurd e2 (nO l)
    ·cases e1
   ·split at e2
    ·split at e2
     ·cases e2;exact absurd e1 (nO j)
     ·cases e2
    ·exact k.inj j l b e1 e2
  olen:=by rw[xaD,xaD,k.olen]
  slen:=by rw[xaD,xaD,k.slen]}
theorem o_ (b : P.bd a) (e : H a = some o) (nf : ¬ Fx o) : Lt P H P (upd H a o') := ⟨tG _,fun _ _=>rfl,fun _ z=>.inl z,fun c u ec z=>by
  by_cases h:c=a
  ·subst h;rw[e]at ec;cases ec;exact(z.elim nf fun n=>n b).elim
  ·rw[aW h];exact ec,fun c z=>by
  by_cases h:c=a
  ·subst h;rw[b_]at z;cases z
  ·rw[aW h]at z;exact z⟩
theorem HY:¬ Fx (.lst vs):=fun z=>by rcases z with⟨_,z⟩ |⟨_,_,z⟩ |⟨_,z⟩ |⟨_,z⟩<;>cases z
theorem pW.lt (l:Lt P H P' H')(e:∀o,H a=some o->H' a=some o)(h:pW K mg P H a c):pW K mg P' H' a c:=by
  cases c with
  |lst ds=>
    obtain⟨vs,e1,q⟩:=h;exact⟨vs,e _ e1,au.lt l q⟩
  |obj c fs=>
    obtain⟨C,dx,gs,e1,e2,e3,q⟩:=h;exact⟨C,dx,gs,e1,e _ e2,e3,au.lt l q⟩
  |dct kvs=>
    obtain⟨vs,e1,e2,q⟩:=h;exact⟨vs,e _ e1,e2,au.lt l q⟩
  |dcf kvs=>
    obtain⟨vs,ob,es,ep,e1,eD,e2,q⟩:=h;exact⟨vs,ob,es,ep,e _ e1,eD,e2,au.lt l q⟩
theorem Ok.chg (k:Ok K mg P0 H0 P Os H M st env)(hi:env[i]? =some (.own ds))(ho:Os[i]? =some (some a))(e:H a=some (.lst vs))(h:au K P H ds' vs'):
    Lt P H P (upd H a (.lst vs'))/\Ok K mg P0 H0 P Os (upd H a (.lst vs')) M st (env.set i (.own ds')):=by
  obtain⟨b1,b2,b3⟩:=k.own a (xaw ho);have l:Lt P H P (upd H a (.lst vs')):=o_ b1 e HY;have ilt:i<env.length:=(Z5.mp hi).1;refine⟨l,?_⟩;exact {
    hk:=⟨k.hk.n,fun j c ej=>(k.hk.cell j c ej).lt l fun o eo=>by rw[aW (b2 j (by rw[k.hk.n];exact(Z5.mp ej).1))];exact eo,k.hk.inj,k.hk.bd,fun c z q=>k.hk.here c z (l.sure c q)⟩
    base := ⟨k.base.n,k.base.io,k.base.bd,k.base.bm,fun c o ec n=>by
      have:=k.base.keep c o ec n;rw[aW (fun z=>by subst z;rw[b3]at ec;cases ec)];exact this,fun c z=>k.base.sure c (l.sure c z),k.base.nw⟩
    b0:=k.b0
    slot:=fun j s ej=>by
      rw[xaN]at ej;split at ej
      · rename_i ij;subst ij;cases ej;obtain⟨a',vs0,e1,e2,e3,q⟩:=k.slot i _ hi;rw[ho]at e1;cases e1;exact⟨a,vs',by rw[ho];rfl,e2,b_,au.lt l h⟩
      · rename_i ij;have q:=k.slot j s ej
        cases s with
        |un=>exact True.intro
        |val d=>obtain⟨v,e1,q⟩:=q;exact⟨v,e1,Is.lt l q⟩
        |own es=>
          obtain⟨a',ws,e1,e2,e3,q⟩:=q;refine⟨a',ws,e1,e2,?_,au.lt l q⟩;rw[aW (fun z=>ij (k.inj i j a ho (by rw[<-z];exact lR e1)))];exact e3
        |exc c n=>obtain⟨v,e1,q⟩:=q;exact⟨v,e1,q.lt l⟩
    own:=k.own
    inj:=k.inj
    olen:=by rw[xaD,k.olen]
    slen:=by rw[xaD,k.slen]}
theorem Hk.set (h:Hk K mg P H M)(e:M[j]? =some c)(w:pW K mg P (upd H (P.io j) o') (P.io j) c')(nd:∀kvs,c≠ .dcf kvs:=by intro _ z;cases z):Lt P H P (upd H (P.io j) o')/\LtE P H P (upd H (P.io j) o')/\Hk K mg P (upd H (P.io j) o') (M.set j c'):=by
 have jl:j<P.n:=by rw[h.n];exact(Z5.mp e).1
 obtain ⟨o, eo, nf⟩ := h.cellAt e nd;have l : Lt P H P (upd H (P.io j) o') := o_ (h.bd j jl) eo nf;refine ⟨l, ⟨tG _,fun _ _=>rfl,fun _ z=>.inl z,fun _ z=>z,fun a u ea n=>by
  have ne:a≠P.io j:=by
   rintro rfl;rw[eo]at ea;cases ea;exact n.elim nf fun nc=>nc j jl rfl
  rw[aW ne];exact ea,l.sure,fun k h1 h2=>absurd h1 (xcK.mpr h2)⟩,⟨by rw[xaD,h.n],fun k b ek=>?_,h.inj,h.bd,fun a z q=>h.here a z (l.sure a q)⟩⟩
 rw[xaN]at ek;split at ek
 ·rename_i jk;subst jk;rw[Z7 (by rw[<-h.n];exact jl)]at ek;cases ek;exact w
 ·rename_i jk;have kl:k<P.n:=by rw[h.n];exact(Z5.mp ek).1
  exact(h.cell k b ek).lt l fun u eu=>by rw[aW (fun z=>jk (h.inj j k jl kl z.symm))];exact eu
theorem Ok.frz (k:Ok K mg P0 H0 P Os H M st env)(hi:env[i]? =some (.own ds)):∃P' Os',Lt P H P' H/\Ok K mg P0 H0 P' Os' H M st (env.set i (.val (.lst ds))):=by
 obtain⟨a,vs,e1,e2,e3,q⟩:=k.slot i _ hi;have ho:=lR e1;obtain⟨b1,b2,b3⟩:=k.own a (xaw ho);have ilt:i<env.length:=(Z5.mp hi).1;have nO:∀b,some b∈Os.set i none->some b∈Os/\b≠a:=fun b z=>by
  obtain⟨j,hj⟩:=xdd.mp z;rw[xaN]at hj;split at hj
  ·split at hj<;>cases hj
  ·rename_i ij;exact⟨xaw hj,fun z=>by subst z;exact ij (k.inj i j b ho hj)⟩
 have l : Lt P H (P.less (· ≠ a)) H := ⟨tG _, fun _ _ => rfl, fun c z => .inl z.1, fun _ _ e _ => e, fun _ z => z⟩;refine ⟨P.less (· ≠a),Os.set i none,l,{
  hk:=⟨k.hk.n,fun j c ej=>(k.hk.cell j c ej).lt l fun _ z=>z,k.hk.inj,fun j hj=>⟨k.hk.bd j hj,b2 j hj⟩,fun c z=>k.hk.here c z.1⟩
  base:=⟨k.base.n,k.base.io,fun c z=>k.base.bd c z.1,fun c z=>⟨k.base.bm c z,fun q=>k.b0 c z (q ▸ b3)⟩,k.base.keep,k.base.sure,k.base.nw⟩
  b0:=k.b0
  slot:=fun j s ej=>?_
  own:=fun c z=>?_
  inj:=fun j l b z1 z2=>?_
  olen:=by rw[xaD,xaD,k.olen]
  slen:=by rw[xaD,k.slen]}⟩
 ·rw[vY _ _ _ _ (by rw[k.olen];exact ilt)];rw[xaN]at ej;split at ej
  ·rename_i ij;subst ij;cases ej;exact⟨.ref a,e2,a,vs,rfl,.inl ⟨fun z=>z.2 rfl,.inl e3⟩,au.less q⟩
  ·rename_i ij;rw[xaf ij];have q:=k.slot j s ej
   cases s with
   |un=>exact True.intro
   |val d=>obtain⟨v,e1,q⟩:=q;exact⟨v,e1,Is.less q⟩
   |own es=>obtain⟨a',ws,e1,e2,e3,q⟩:=q;exact⟨a',ws,e1,e2,e3,au.less q⟩
   |exc c n=>obtain⟨v,e1,q⟩:=q;exact⟨v,e1,q.lt l⟩
 ·obtain⟨z1,z2⟩:=nO c z;obtain⟨c1,c2,c3⟩:=k.own c z1;exact⟨⟨c1,z2⟩,c2,c3⟩
 ·rw[xaN]at z1 z2;split at z1
  ·split at z1<;>cases z1
  ·split at z2
   ·split at z2<;>cases z2
   ·exact k.inj j l b z1 z2
end
section
variable {X:Cx}{Wx:XW}{pos:Pos}
theorem gA (h:PS X s t)(w:∀D σ H,t' D σ H->t D σ H):PS X s t':=fun pins s σ H D I hw=>h pins s σ H D I (w D σ H hw)
theorem Cq (h:fP X s t)(w:∀D σ H,t' D σ H->t D σ H):fP X s t':=fun pins s σ H D I hw=>h pins s σ H D I (w D σ H hw)
def aA:S:=fun env M=>some (.nx env,M)
noncomputable def aq (f g:S):S:=fun env M=>match f env M with
 |some (.nx e,M1)=>g e M1
 |o=>o
theorem aK:SB X Wx [] aA:=by
 refine Cq Sd ?_;rintro D st H ⟨P0,H0,P,Os,env,M,out,M',k,e,q⟩;cases e;exact q P Os H st (Lt.refl P H) k
theorem Post.lt {K:Fgx}{mg:Mgx}{P0 P P1:Pl}{H0 H H1:Hp}{M':Mm}{D:Ends}{o:Out}(l:Lt P H P1 H1)(q:Post K mg Wx P0 H0 P H M' D o):Post K mg Wx P0 H0 P1 H1 M' D o:=by
 cases o with
 |nx env=>exact fun P' Os' H' st' l' k=>q P' Os' H' st' (l.trans l') k
 |bk env=>exact fun P' Os' H' st' l' k=>q P' Os' H' st' (l.trans l') k
 |ct env=>exact fun P' Os' H' st' l' k=>q P' Os' H' st' (l.trans l') k
 |rt d=>exact q
 |ex c n=>exact q
theorem aG (h1:SS X Wx s f)(h2:SB X Wx ss g):SB X Wx (s::ss) (aq f g):=by
  refine Cq (R_ h1 h2) ?_;rintro D st H ⟨P0,H0,P,Os,env,M,out,M',k,e,q⟩;unfold aq at e;split at e
  · rename_i e1 M1 ef;refine⟨P0,H0,P,Os,env,M,_,_,k,ef,fun P1 Os1 H1 st1 l1 k1=>?_⟩;exact⟨P0,H0,P1,Os1,e1,M1,_,_,k1,e,q.lt l1⟩
  · rename_i o ho
    cases ef:f env M with
    |none=>rw[ef]at e;cases e
    |some om=>
      obtain⟨o1,M1⟩:=om;rw[ef]at e;cases e;refine⟨P0,H0,P,Os,env,M,_,_,k,ef,?_⟩
      cases out with
      |nx env'=>exact(ho _ _ ef).elim
      |bk env'=>exact q
      |ct env'=>exact q
      |rt d=>exact q
      |ex c n=>exact q
noncomputable def aQ (i:Nat) (f:E):S:=fun env M=>bO (f env M) fun d M1=>if i<env.length then some (.nx (env.set i (.val d)),M1) else none
theorem cY (hN:X.N.Nodup)(hi:X.N[i]? =some x)(hx:Loc X.env.scope x)(he:SE X Wx .val e f)(hs:swapsWith e (some (.Name x pos')) pos.line X.env=pure false:=by rfl)
  (hf:X.fn x=true\/X.env.scope.names.lookup x=some .local:=by first |exact .inl rfl |exact .inr rfl):SS X Wx (.Assign [.Name x pos'] e pos) (aQ i f):=by
 refine gA (Ir hN hi hx he hs hf) ?_;rintro D st H ⟨P0,H0,P,Os,env,M,out,M',k,e,q⟩;unfold aQ at e;rcases g_ e with⟨d,M1,e1,e⟩ |⟨c,n,e1,rfl⟩
 ·split at e
  ·rename_i hl;cases e;exact⟨P0,H0,P,Os,env,M,_,_,k,e1,fun P1 v1 H1 l1 h1 i1=>q _ _ _ _ (l1.lt k.hk) ((k.next l1 h1).asg hl i1)⟩
  ·cases e
 ·exact⟨P0,H0,P,Os,env,M,_,_,k,e1,q⟩
noncomputable def m9 (i:Nat) (f:E):S:=fun env M=>bO (f env M) fun d M1=>match d with
 |.lst ds=>if i<env.length then some (.nx (env.set i (.own ds)),M1) else none
 |_=>none
theorem wu (hN:X.N.Nodup)(hi:X.N[i]? =some x)(hx:Loc X.env.scope x)(he:SN X Wx e f)(hs:swapsWith e (some (.Name x pos')) pos.line X.env=pure false:=by rfl)
  (hf:X.fn x=true\/X.env.scope.names.lookup x=some .local:=by first |exact .inl rfl |exact .inr rfl):SS X Wx (.Assign [.Name x pos'] e pos) (m9 i f):=by
 refine gA (Ir hN hi hx he hs hf) ?_;rintro D st H ⟨P0,H0,P,Os,env,M,out,M',k,e,q⟩;unfold m9 at e;rcases g_ e with⟨d,M1,e1,e⟩ |⟨c,n,e1,rfl⟩
 ·cases d<;>simp only[reduceCtorEq]at e
  rename_i ds;split at e
  ·rename_i hl;cases e;exact⟨P0,H0,P,Os,env,M,_,_,k,e1,ds,rfl,fun P1 a vs H1 l1 h1 ha ba nc ea is=>q _ _ _ _ (l1.lt k.hk) (k.mine l1 h1 hl ha ba nc ea is)⟩
  ·cases e
 ·exact⟨P0,H0,P,Os,env,M,_,_,k,e1,q⟩
def aM (f:E):S:=fun env M=>bO (f env M) fun d M1=>some (.rt d,M1)
theorem bH (he:SE X Wx .val e f):SS X Wx (.Return (some e) pos) (aM f):=by
 refine gA (R8 he) ?_;rintro D st H ⟨P0,H0,P,Os,env,M,out,M',k,e,q⟩;unfold aM at e;rcases g_ e with⟨d,M1,e1,e⟩ |⟨c,n,e1,rfl⟩
 ·cases e;exact⟨P0,H0,P,Os,env,M,_,_,k,e1,fun P1 v1 H1 l1 h1 i1=>q P1 v1 H1 (k.base.trans l1) h1 i1⟩
 ·exact⟨P0,H0,P,Os,env,M,_,_,k,e1,q⟩
noncomputable def bR (c:E) (f g:S):S:=fun env M=>bO (c env M) fun d M1=>match d with
 |.bl b=>if b=true then f env M1 else g env M1
 |_=>none
theorem cC (hc:ST X Wx c t)(ha:SB X Wx a f)(hb:SB X Wx b g):SS X Wx (.If c a b pos) (bR t f g):=by
  refine gA (R7 hc ha hb) ?_;rintro D st H ⟨P0,H0,P,Os,env,M,out,M',k,e,q⟩;unfold bR at e;rcases g_ e with⟨d,M1,e1,e⟩ |⟨c,n,e1,rfl⟩
  · cases d<;>simp only[reduceCtorEq]at e
    rename_i b;refine fX k e1 ⟨b,rfl,fun P1 H1 l1 h1=>?_⟩
    cases b with
    |true=>
      rw[Z7 rfl]at e ⊢;exact⟨P0,H0,P1,Os,env,M1,_,_,k.next l1 h1,e,q.lt (l1.lt k.hk)⟩
    |false=>
      rw[xaf (by decide)]at e ⊢;exact⟨P0,H0,P1,Os,env,M1,_,_,k.next l1 h1,e,q.lt (l1.lt k.hk)⟩
  · exact fX k e1 q
noncomputable def eX (i:Nat):S:=fun env M=>match env[i]? with
 |some (.own ds)=>some (.nx (env.set i (.val (.lst ds))),M)
 |_=>none
theorem vW (h:SB X Wx ss g):SB X Wx ss (aq (eX i) g):=by
 refine Cq h ?_;rintro D st H ⟨P0,H0,P,Os,env,M,out,M',k,e,q⟩;unfold aq eX at e;split at e
 ·rename_i e1 M1 ef;split at ef
  ·rename_i ds es;cases ef;obtain⟨P1,Os1,l1,k1⟩:=k.frz es;exact⟨P0,H0,P1,Os1,_,_,_,_,k1,e,q.lt l1⟩
  ·cases ef
 ·rename_i ho;split at e
  ·rename_i es;exact(ho _ _ (by rw[es])).elim
  ·cases e
noncomputable def fK (i:Nat) (f:E):S:=fun env M=>match env[i]? with
 |some (.own ds)=>bO (f env M) fun d M1=>if ds.length<sizeLine then some (.nx (env.set i (.own (ds ++ [d]))),M1) else none
 |_=>none
theorem za (hN:X.N[i]? =some x)(hv:pZ X.env.scope x)(he:SE X Wx .val e f)(hd:(x==("__debug__":Str))=false:=by x_go)(hcd:(x==("__classdict__":Str))=false:=by x_go)
  (hfew:((backTo q (starEach [e] X.env)).all (fun x=> !x.1) && (backToKw q (keywordEach [] X.env)).all (fun x=>x.1.isSome) && decide ([e].length + ([]:List Keyword).length + (if ([]:List Keyword).isEmpty then 0 else 1)<30))=true:=by rfl)
  (hline:(p.endLine==q.line)=true:=by rfl) (hs:starEach [e] X.env=(false,eval e X.env)::starEach [] X.env:=by rfl) (hw:swapsWith (.Call (.Attribute (.Name x p0) "append" p) [e] [] q) none pos.line X.env=pure false:=by rfl):
  SS X Wx (.Expr (.Call (.Attribute (.Name x p0) "append" p) [e] [] q) pos) (fK i f):=by
 refine gA (Ip (yg xc2 xcW xcX Bq (Ce hN hv hd hcd) (lY he pF hs) rfl hfew hline hs rfl) hw) ?_;rintro D st H ⟨P0,H0,P,Os,env,M,out,M',k,e,q⟩;unfold fK at e;split at e
 ·rename_i ds es;obtain⟨a,vs,o1,o2,o3,o4⟩:=k.slot i _ es;refine⟨.ref a,lR o2,.inl ⟨rfl,vs,.inl (.inl o3)⟩,?_⟩;rcases g_ e with⟨d,M1,e1,e⟩ |⟨c,n,e1,rfl⟩
  ·split at e
   ·rename_i hz;cases e;refine aX k e1 fun P1 v1 H1 l1 h1 i1=>?_;have k1:=k.next l1 h1
    obtain⟨a',vs',o1',o2',o3',o4'⟩:=k1.slot i _ es;have ea:a'=a:=by
     have z:=o2'.symm.trans o2;cases z;rfl
    subst ea;refine⟨a',vs',v1,rfl,rfl,o3',by rw[o4'.len];exact hz,?_⟩;obtain⟨l2,k2⟩:=k1.chg es (lR o1') o3' (au.append o4' (au.one i1));exact q _ _ _ _ ((l1.lt k.hk).trans l2) k2
   ·cases e
  ·exact aX k e1 q
 ·cases e
def Wk (K:Fgx)(P1:Pl)(H1:Hp)(J:It)(ds:List D):Prop:=∀P H,Lt P1 H1 P H->(∀k,k<ds.length->J.go k H)/\(∀k,ds.length<=k->k<=ds.length->J.stop k H)/\∀k x H',J.yld k H x H'->k<ds.length->H'=H/\∃d,ds[k]? =some d/\Is K P H d x
noncomputable def IQ (K:Fgx) (mg:Mgx) (Wx:XW) (P0:Pl) (H0:Hp) (P:Pl) (H:Hp) (M':Mm) (R:It->Hp->Prop):ResA->Prop
 |.v ds=>∀P' H' J,LtE P H P' H'->Hk K mg P' H' M'->Wk K P' H' J ds->R J H'
 |.x c n=>Wx P0 H0 M' c n
noncomputable def tI (K:Fgx) (mg:Mgx) (Wx:XW) (fs:EA):TI:=fun st H R=>∃P0 H0 P Os env M r M',Ok K mg P0 H0 P Os H M st env/\fs env M=some (r,M')/\IQ K mg Wx P0 H0 P H M' R r
def SI (X:Cx)(Wx:XW)(tg iter:Expr)(fs:EA):Prop:=PI X tg iter (tI X.K X.mg Wx fs)
theorem Cj (h:PI X tg iter t)(w:∀σ H R,t' σ H R->t σ H R):PI X tg iter t':=fun pins s σ H R I hw=>h pins s σ H R I (w σ H R hw)
noncomputable def loopS (i:Nat) (body:S):List D->Env->Mm->OS
  | [],env,M=>some (.nx env,M)
  | d :: ds, env, M => if i < env.length then (match body (env.set i (.val d)) M with
    |some (.nx e,M1)=>loopS i body ds e M1
    |some (.ct e,M1)=>loopS i body ds e M1
    |some (.bk e,M1)=>some (.nx e,M1)
    |some (.rt d,M1)=>some (.rt d,M1)
    |some (.ex c n,M1)=>some (.ex c n,M1)
    |none=>none) else none
noncomputable def cX (i:Nat) (fs:EA) (body:S):S:=fun env M=>match fs env M with
 |some (.v ds,M1)=>loopS i body ds env M1
 |some (.x c n,M1)=>some (.ex c n,M1)
 |none=>none
theorem O9 {K:Fgx}{mg:Mgx}{P0 P1:Pl}{H0 H1:Hp}{Os:List (Option Addr)}{M M':Mm}{st:L2.St}{env:Env}{i:Nat}{b:S}{J:It}{ds:List D}{out:Out}{D:Ends}(k:Ok K mg P0 H0 P1 Os H1 M st env)(wk:Wk K P1 H1 J ds)
  (h:loopS i b ds env M=some (out,M')) (q:Post K mg Wx P0 H0 P1 H1 M' D out):
  ∃W:Nat->Nat->L2.St->Hp->Prop,(∃m,W 0 m st H1)/\∀j m σ H,W j m σ H->
   (J.stop j H/\D.nx σ H)\/(J.go j H/\∃Nn:L2.St->Hp->Prop,(∀σ' H',Nn σ' H'->∃m',m'<m/\W (j + 1) m' σ' H')/\∀x H',J.yld j H x H'->xH i x σ H' fun σ2 H2=>tS K mg Wx b {D with nx:=Nn,ct:=Nn,bk:=D.nx} σ2 H2):=by
 refine⟨fun j m σ H=>m=ds.length - j/\j<=ds.length/\∃P Os' M1 env',Lt P1 H1 P H/\Ok K mg P0 H0 P Os' H M1 σ env'/\loopS i b (ds.drop j) env' M1=some (out,M'),⟨ds.length,by simp,xaE _,P1,Os,M,env,Lt.refl _ _,k,h⟩,?_⟩;rintro j m σ H ⟨rfl,hj,P,Os',M1,env',lt,k',h'⟩;obtain⟨w1,w2,w3⟩:=wk P H lt
 by_cases hlt:j<ds.length
 ·refine .inr ⟨w1 j hlt,fun σ' H'=>∃P Os' M1 env',Lt P1 H1 P H'/\Ok K mg P0 H0 P Os' H' M1 σ' env'/\loopS i b (ds.drop (j + 1)) env' M1=some (out,M'),fun σ' H' z=>⟨ds.length - (j + 1),by omega,rfl,hlt,z⟩,fun x H' y=>?_⟩;obtain⟨e3,d,ed,iv⟩:=w3 j x H' y hlt;subst e3;have ed':ds.drop j=d::ds.drop (j + 1):=by
   rw[xa4 hlt];rw[Z6 hlt]at ed;rw[xan ed]
  rw[ed']at h';simp only[loopS]at h';split at h'
  ·rename_i hi;have k2:=k'.asg hi iv;split at h'
   ·rename_i e M2 eb;exact⟨P0,H0,P,_,_,M1,_,_,k2,eb,fun P' Os2 H2 st2 l2 k3=>⟨P',Os2,_,e,lt.trans l2,k3,h'⟩⟩
   ·rename_i e M2 eb;exact⟨P0,H0,P,_,_,M1,_,_,k2,eb,fun P' Os2 H2 st2 l2 k3=>⟨P',Os2,_,e,lt.trans l2,k3,h'⟩⟩
   ·rename_i e M2 eb;cases h';exact⟨P0,H0,P,_,_,M1,_,_,k2,eb,fun P' Os2 H2 st2 l2 k3=>q P' Os2 H2 st2 (lt.trans l2) k3⟩
   ·rename_i e M2 eb;cases h';exact⟨P0,H0,P,_,_,M1,_,_,k2,eb,q⟩
   ·rename_i c n M2 eb;cases h';exact⟨P0,H0,P,_,_,M1,_,_,k2,eb,q⟩
   ·cases h'
  ·cases h'
 ·have ej:j=ds.length:=by omega
  subst ej;rw[xbZ]at h';cases h';exact .inl ⟨w2 _ (tG _) (tG _),q P Os' H σ lt k'⟩
theorem nu (hp:PassesOwn (model X.prog X.w) X.A X.env X.xe)(hc:X.calm=true)(hN:X.N.Nodup)(hi:X.N[i]? =some x)(hx:Loc X.env.scope x)(hI:SI X Wx (.Name x p) iter fs)(hb:SB X Wx body b)
  (hf:X.fn x=true\/X.env.scope.names.lookup x=some .local:=by first |exact .inl rfl |exact .inr rfl) (hs:∀x,foldedSetIterable iter X.env x=pure x:=by intro _;rfl):SS X Wx (.For (.Name x p) iter body [] pos) (cX i fs b):=by
 refine gA (yh hp hc hI (Cg hN hi hx hf) hb hs) ?_;rintro D st H ⟨P0,H0,P,Os,env,M,out,M',k,e,q⟩;unfold cX at e;split at e
 ·rename_i ds M1 ef;exact⟨P0,H0,P,Os,env,M,_,_,k,ef,fun P1 H1 J l1 h1 wk=>O9 (k.next l1 h1) wk e (q.lt (l1.lt k.hk))⟩
 ·rename_i c n M1 ef;cases e;exact⟨P0,H0,P,Os,env,M,_,_,k,ef,q⟩
 ·cases e
noncomputable def dz (f:E):EA:=fun env M=>match f env M with
 |some (.v (.lst ds),M1)=>some (.v ds,M1)
 |some (.x c n,M1)=>some (.x c n,M1)
 |_=>none
theorem pO (h:SE X Wx .val e f):SI X Wx tg e (dz f):=by
 refine Cj (Ck h) ?_;rintro st H R ⟨P0,H0,P,Os,env,M,r,M',k,e,q⟩;unfold dz at e;split at e
 ·rename_i ds M1 ef;cases e;refine⟨P0,H0,P,Os,env,M,_,_,k,ef,fun P1 v1 H1 l1 h1 i1=>?_⟩;obtain⟨a,vs,rfl,ra,is⟩:=i1;refine⟨a,rfl,⟨vs,ra.imp (·.2) id⟩,q P1 H1 _ l1 h1 fun P2 H2 l2=>?_⟩;have ra2:=l2.rda ra;have is2:=au.lt l2 is;have sq:bw X.K H2 a vs:=ra2.imp (·.2) id;refine⟨fun j hj=>?_,fun j h1 h2=>⟨vs,sq,by rw[is2.len];exact h1⟩,fun j x H' y hj=>⟨y.1,?_⟩⟩
  ·obtain⟨v,ev,_⟩:=au.get is2 (Z6 hj);exact⟨vs,v,sq,ev⟩
  ·obtain⟨v,ev,iv⟩:=au.get is2 (Z6 hj);have:=y.2 vs sq;rw[ev]at this;cases this;exact⟨_,Z6 hj,iv⟩
 ·rename_i c n M1 ef;cases e;exact⟨P0,H0,P,Os,env,M,_,_,k,ef,q⟩
 ·cases e
end
abbrev G:=List D->Mm->O
noncomputable def mK (K:Fgx) (mg:Mgx) (n:Nat) (g:G):Sp:=fun vs H Q _=>vs.length=n/\∃P M ds d M',Hk K mg P H M/\au K P H ds vs/\g ds M=some (.v d,M')/\∀P' v H',LtE P H P' H'->Hk K mg P' H' M'->Is K P' H' d v->Q v H'
noncomputable def cT (o:OS):O:=match o with
 |some (.rt d,M)=>some (.v d,M)
 |some (.nx _,M)=>some (.v .non,M)
 |some (.ex c n,M)=>some (.x c n,M)
 |_=>none
noncomputable def cF (n:Nat) (b:S):G:=fun ds M=>cT (b (ds.map .val ++ List.replicate (n - ds.length) .un) M)
theorem Xk {K:Fgx}{mg:Mgx}{P:Pl}{H:Hp}{M:Mm}{N:List Str}{ds:List D}{vs:List V}(hk:Hk K mg P H M)(hl:vs.length<=N.length)(h:au K P H ds vs):
  Ok K mg P H P (List.replicate N.length none) H M (L2.start N vs) (ds.map .val ++ List.replicate (N.length - ds.length) .un):=by
 have hd:=h.len;refine⟨hk,LtE.refl P H,hk.here,fun i s e=>?_,fun a z=>?_,fun i j a e1 _=>?_,by simp;omega,by simp[L2.start];omega⟩
 ·have e0:((List.replicate N.length (none:Option Addr))[i]?).join=none:=by
   rw[xbK]
   split<;>rfl
  rw[e0]
  by_cases hi:i<ds.length
  ·rw[Z_ (by simpa using hi),xag,Z6 hi]at e;simp only[xa0,Option.some.injEq]at e;subst e;obtain⟨v,ev,p⟩:=h.get (Z6 hi);refine⟨v,?_,p⟩;unfold L2.start;rw[Z_ (by rw[xai];omega),xag,ev];rfl
  ·rw[xae (by simpa using hi),xbK]at e;split at e
   ·cases e;exact True.intro
   ·cases e
 ·exact absurd (List.eq_of_mem_replicate z) (by simp)
 ·rw[xbK]at e1;split at e1<;>cases e1
structure FunD (K:Fgx)(x qual:Str)(st:Stmt)(f:Addr)(fd:FuncData):Prop where
 ex:∃(oc:Value) (od:Option Addr) (dV kV doc pm:Value) (an:Option Addr) (cdv ct:Value) (osl:Array (Option Value)),
  fd=PySem.W.fnOf x qual (d9 st) (dw st) (bx st) dV kV doc pm an cdv ct/\K.lookup f=some ⟨oc,od,.func fd,osl⟩/\PySem.W.codeIn K cdv qual=true
 kp:PySem.W.keepIn K (.ref f)=true
theorem G4 {K:Fgx}{x qual:Str}{st:Stmt}{f:Addr}{oc:Value}{od an:Option Addr}{osl:Array (Option Value)}{dV kV doc pm cdv ct:Value}(l:K.lookup f=some ⟨oc,od,.func (PySem.W.fnOf x qual (d9 st) (dw st) (bx st) dV kV doc pm an cdv ct),osl⟩)
  (c:PySem.W.codeIn K cdv qual=true) (k:PySem.W.keepIn K (.ref f)=true):FunD K x qual st f (PySem.W.fnOf x qual (d9 st) (dw st) (bx st) dV kV doc pm an cdv ct):=⟨⟨oc,od,dV,kV,doc,pm,an,cdv,ct,osl,rfl,l,c⟩,k⟩
section
variable {P:Program}{w:World}{K:Fgx}{mg:Mgx}{base:Heap}{k:Nat}{x qual:Str}{st:Stmt}{f:Addr}{fd:FuncData}{N ps:List Str}{b:S}
def W0:XW:=fun _ _ _ _ _=>False
abbrev sI (P:Program)(w:World)(K:Fgx)(mg:Mgx)(base:Heap)(N:List Str)(qual:Str)(st:Stmt)(f:Addr)(cdv:Value)(A:Around)(outer:List PySem.Env)(s:Shared)(H:Hp)(E:XK):Cx:=(f9 fO P w K mg base N qual (bx st) f cdv A outer s H E).nox
theorem GR (F:FunD K x qual st f fd)(S:FnScope N ps (bx st))(hp:ps.length<=N.length)
  (hb:∀cdv A outer s H E,Room k (A.deeper (envOfC qual (bx st) s.heap.objs.size f cdv))->SB (sI P w K mg base N qual st f cdv A outer s H E) W0 (dw st) b):FnOk P w K mg base fO (k + 1) f fd ps (mK K mg ps.length (cF N.length b)):=by
 obtain⟨oc,od,dV,kV,doc,pm,an,cdv,ct,osl,rfl,lk,hcd⟩:=F.ex;refine Mz lk hcd S (fun vs H Q E h=>h.1) fun A outer s H vs Q E hr h=>?_;obtain⟨hl,Pl,M,ds,d,M',hk,is,e,q⟩:=h;refine⟨_,fP.nox (hb cdv A outer s H E hr),?_⟩;unfold cF cT at e;have st0:=Xk (N:=N) hk (by omega) is;split at e
 ·rename_i d' M2 eb;cases e;exact⟨Pl,H,Pl,_,_,M,_,_,st0,eb,fun P' v H' l h i=>q P' v H' l h i⟩
 ·rename_i env M2 eb;cases e;exact⟨Pl,H,Pl,_,_,M,_,_,st0,eb,fun P' Os' H' st' _ k'=>q P' .non H' k'.base k'.hk rfl⟩
 ·rename_i c n M2 eb;cases e
 ·cases e
def aZ (P:Program)(w:World)(K:Fgx)(mg:Mgx)(base:Heap)(k:Nat)(f:Str)(n:Nat)(g:G):Prop:=
 ∃fa fd ps ds dvs sp,mg f=some (.ref fa)/\PySem.W.keepIn K (.ref fa)=true/\FnOk P w K mg base fO k fa fd ps sp/\Binds K fd ps ds/\Vals dvs ds/\∀vs H Q E,mK K mg n g vs H Q E->sp (vs ++ dvs) H Q E
theorem Mx (F:FunD K x qual st f fd)(S:FnScope N ps (bx st))(hp:ps.length<=N.length)(hm:mg x=some (.ref f))(hd:Binds K fd ps [])
  (hb:∀cdv A outer s H E,Room k (A.deeper (envOfC qual (bx st) s.heap.objs.size f cdv))->SB (sI P w K mg base N qual st f cdv A outer s H E) W0 (dw st) b):aZ P w K mg base (k + 1) x ps.length (cF N.length b):=
 ⟨f,fd,ps,[],[],_,hm,F.kp,GR F S hp hb,hd,.nil,fun vs H Q E h=>by rw[xbg];exact h⟩
theorem aZ.mono (a:aZ P w K mg base j x n g)(h:j<=k):aZ P w K mg base k x n g:=by
 obtain⟨fa,fd,ps,ds,dvs,sp,h1,h2,h3,h4⟩:=a;exact⟨fa,fd,ps,ds,dvs,sp,h1,h2,h3.mono h,h4⟩
end
section
variable {X:Cx}{Wx:XW}{m:Mode}
noncomputable def bT (g:G) (fs:EA):E:=fun env M=>eG (fs env M) fun ds M1=>match g ds M1 with
 |some (.v d,M2)=>some (.v d,M2)
 |_=>none
theorem cg.len {K:Fgx}{P:Pl}{H:Hp}:∀{ds:List D} {vs:List V},cg K P H m ds vs->vs.length=ds.length
  | [],_,h=>by rw[show _=[] from h];rfl
  |d::ds,_,h=>by
    obtain⟨v,r,e,_,q⟩:=h;subst e
    simp[cg.len q]
def wM (n:Nat)(fs:EA):Prop:=∀env M ds M',fs env M=some (.v ds,M')->ds.length=n
theorem cnt_nil:wM 0 aC:=fun env M ds M' e=>by cases e;rfl
theorem cnt_cons (h:wM n fs):wM (n + 1) (aD f fs):=fun env M ds M' e=>by
 unfold aD at e;split at e
 ·split at e
  ·rename_i ef;cases e;rw[xar,h _ _ _ _ ef]
  ·cases e
  ·cases e
 ·cases e
 ·cases e
theorem cB {k n:Nat}{f:Str}{g:G}{e:Expr}{es:List Expr}{fs:EA}{p pos:Pos}(a:aZ X.prog X.w X.K X.mg X.base k f n g)(hr:Room k X.A)(hg:Gl X f)(ha:SA X Wx .val (e::es) fs)(hn:wM n fs)(hdb:(f==("__debug__":Str))=false:=by x_go)
  (he:starEach (e::es) X.env=(false,eval e X.env)::starEach es X.env:=by rfl) (hpl:(backTo pos (starEach es X.env)).any (·.1)=false:=by rfl):SE X Wx m (.Call (.Name f p) (e::es) [] pos) (bT g fs):=by
 obtain⟨fa,fd,ps,ds,dvs,sp,hm,hk,F,hb,hv,himp⟩:=a;refine bZ (Rt F hr hg hm hk hb hv Ro ha hdb he hpl) ?_;rintro st H Q ⟨P0,H0,P,Os,env,M,r,M',k,e,q⟩;unfold bT at e;rcases p8 e with⟨ds,M1,e1,e⟩ |⟨c,n,e1,rfl⟩
 ·split at e
  ·rename_i d M2 eg;cases e;exact⟨P0,H0,P,Os,env,M,_,_,k,e1,fun P1 vs H1 l1 h1 i1=>himp _ _ _ _ ⟨by rw[i1.len];exact hn _ _ _ _ e1,P1,M1,ds,d,_,h1,i1.iss,eg,fun P2 v H2 l2 h2 i2=>q P2 v H2 (l1.trans l2) h2 (cD.of h2 i2)⟩⟩
  ·cases e
 ·exact⟨P0,H0,P,Os,env,M,_,_,k,e1,q⟩
end
def rO (i j:Int):Prop:=lE i j\/(i.natAbs.log2<10000/\j.natAbs.log2<10000)
theorem Fz (h:i.natAbs.log2<10000):Builtin.Int.intBits i<=10001:=by
 unfold Builtin.Int.intBits
 split<;>omega
theorem rO.ok (h:rO i j):IntMulOk i j:=by
 rcases h with h |⟨h1,h2⟩
 ·exact h.ok
 ·exact mulOk_of_bits (Fz h1) (Fz h2) (by decide)
theorem lX:bC X (binaryOp .Mult) (rI rO fun i j=>.int (i * j)):=yd fun _ _ _ _ _ _ _ hc q=>mul_int q hc.ok
section
variable {X:Cx}{pins:Pnx}{σ:L2.St}{H:Hp}{s:Shared}{K:Fgx}
noncomputable def Iz (K:Fgx):R2:=fun x y H Q=>∃l b xs zs,x=.ref l/\y=.ref b/\bw K H l xs/\bw K H b zs/\xs.length + zs.length<=sizeLine/\∀p,H p=none->Q (.ref p) (upd H p (.lst (xs ++ zs)))
theorem Ig:bC X (binaryOp .Add) (Iz X.K):=by
 intro pins s σ H x y v u Q I rx ry h;obtain⟨l,b,xs,zs,rfl,rfl,hH,hB,hz,q⟩:=h;cases rx;cases ry;obtain⟨z,its,r,⟨cls,dd,data,sl⟩,ho,hc,n,hd⟩:=sql I hH;obtain⟨z2,its2,r2,⟨cls2,dd2,data2,sl2⟩,ho2,hc2,n2,hd2⟩:=sql I hB;simp only at hc hd hc2 hd2;subst hc hd hc2 hd2;have hl:=r.length;have hl2:=r2.length;refine concat_meets ⟨_,ho,rfl⟩ ⟨_,ho2,rfl⟩ noFill_list_add seq_list_add F.slot_list_add F.entry_list_add (F.args_list_add_2 _ _) (list_addW l b its.toArray its2.toArray n n2 dd dd2 sl sl2 (by rw[Z8,Z8];omega)) ⟨ho,ho2,?_⟩;have ea:its.toArray ++ its2.toArray=(its ++ its2).toArray:=by simp
 rw[ea];exact⟨.ref _,_,I.lnew (t':=s.toks) (r.append r2) (by rw[Z4];omega),rfl,q _ I.fresh⟩
theorem HX {P:Pl}{H:Hp}{ds:List D}{vs:List V}{Q:VK}(hn:∀p,H p=none->¬ P.bd p)(h:au K P H ds vs)(q:∀u H',Same H H'->Is K P H' (.lst ds) u->Q u H'):∀p,H p=none->Q (.ref p) (upd H p (.lst vs)):=fun p hp=>by
 have s:=mG (o:=.lst vs) hp;exact q _ _ s ⟨p,vs,rfl,.inl ⟨hn p hp,.inl b_⟩,au.lt ⟨tG _,fun _ _=>rfl,fun _ z=>.inl z,fun a o e _=>s a o e,fun a z=>s.free z⟩ h⟩
theorem Px {P:Pl}{H:Hp}{ds:List D}{vs:List V}{Q:VK}(h:au K P H ds vs)(q:∀u H',Same H H'->Is K P H' (.tup ds) u->Q u H'):∀p,H p=none->Q (.ref p) (upd H p (.tup vs)):=fun p hp=>by
 have s:=mG (o:=.tup vs) hp;exact q _ _ s ⟨p,vs,rfl,.inl (.inl b_),au.lt ⟨tG _,fun _ _=>rfl,fun _ z=>.inl z,fun a o e _=>s a o e,fun a z=>s.free z⟩ h⟩
noncomputable def aP:D->D->Option D
 |.int i,.int j=>some (.int (i + j))
 |.str i,.str j=>if i.length + j.length<=sizeLine then some (.str (i ++ j)) else none
 |.lst xs,.lst ys=>if xs.length + ys.length<=sizeLine then some (.lst (xs ++ ys)) else none
 |_,_=>none
noncomputable def pH (K:Fgx):R2:=fun x y H Q=>fW (fun i j=>.int (i + j)) x y H Q\/(∃i j,x=.str i/\y=.str j/\i.length + j.length<=sizeLine/\Q (.str (i ++ j)) H)\/Iz K x y H Q
theorem cP:bC X (binaryOp .Add) (pH X.K):=QS.or (QT.or Ig)
theorem cQ:fj K (pH K) aP:=fun P H d e z v w Q h h1 h2 hn q=>by
 unfold aP at h;split at h
 ·cases h;cases h1;cases h2;exact .inl ⟨_,_,rfl,rfl,q _ H (Same.refl H) rfl⟩
 ·split at h
  ·rename_i hl;cases h;cases h1;cases h2;exact .inr (.inl ⟨_,_,rfl,rfl,hl,q _ H (Same.refl H) rfl⟩)
  ·cases h
 ·split at h
  ·rename_i hl;cases h;obtain⟨a,vs,rfl,r1,s1⟩:=h1;obtain⟨b,ws,rfl,r2,s2⟩:=h2;exact .inr (.inr ⟨a,b,vs,ws,rfl,rfl,r1,r2,by rw[s1.len,s2.len];exact hl,HX hn (s1.append s2) q⟩)
  ·cases h
 ·cases h
noncomputable def oI (g:Int->Int->Option D):D->D->Option D
 |.int i,.int j=>g i j
 |_,_=>none
theorem vq (h:oI g d e=some z)(h1:bF K P H d v)(h2:bF K P H e w):∃i j,v=.int i/\w=.int j/\g i j=some z:=by
 unfold oI at h;split at h
 ·cases h1;cases h2;exact⟨_,_,rfl,rfl,h⟩
 ·cases h
def cu:=oI fun i j=>some (.int (i - j))
theorem lA:fj K (fW fun i j=>.int (i - j)) cu:=fun P H d e z v w Q h h1 h2 _ q=>by
 obtain⟨i,j,rfl,rfl,h⟩:=vq h h1 h2;cases h;exact⟨i,j,rfl,rfl,q _ H (Same.refl H) rfl⟩
noncomputable def cV:=oI fun i j=>if i.natAbs<18446744073709551616\/j.natAbs<18446744073709551616\/(i.natAbs.log2<10000/\j.natAbs.log2<10000) then some (.int (i * j)) else none
theorem lZ:fj K (rI rO fun i j=>.int (i * j)) cV:=fun P H d e z v w Q h h1 h2 _ q=>by
 obtain⟨i,j,rfl,rfl,h⟩:=vq h h1 h2;split at h
 ·rename_i hg;cases h;exact⟨i,j,rfl,rfl,by unfold rO lE;rw[show(2:Int) ^ 64=18446744073709551616 from rfl];exact hg.elim (fun z=>.inl (.inl ⟨by omega,by omega⟩)) (fun z=>z.elim (fun z=>.inl (.inr ⟨by omega,by omega⟩)) .inr),q _ H (Same.refl H) rfl⟩
 ·cases h
noncomputable def fH:=oI fun i j=>if 0<j/\j.natAbs<1073741824 then some (.int (i / j)) else none
theorem gB:fj K (rI rN fun i j=>.int (i / j)) fH:=fun P H d e z v w Q h h1 h2 _ q=>by
 obtain⟨i,j,rfl,rfl,h⟩:=vq h h1 h2;split at h
 ·rename_i hg;cases h;exact⟨i,j,rfl,rfl,⟨hg.1,by omega⟩,q _ H (Same.refl H) rfl⟩
 ·cases h
def oMod:=oI fun i j=>if 0<j then some (.int (i % j)) else none
theorem cM:fj K (rI (fun _ j=>0<j) fun i j=>.int (i % j)) oMod:=fun P H d e z v w Q h h1 h2 _ q=>by
 obtain⟨i,j,rfl,rfl,h⟩:=vq h h1 h2;split at h
 ·rename_i hg;cases h;exact⟨i,j,rfl,rfl,hg,q _ H (Same.refl H) rfl⟩
 ·cases h
noncomputable def fJ:=oI fun i j=>if 0<=j/\j.natAbs<=1000000/\i.natAbs<18446744073709551616 then some (.int (i ^ j.toNat)) else none
theorem vG:fj K (rI nM fun i j=>.int (i ^ j.toNat)) fJ:=fun P H d e z v w Q h h1 h2 _ q=>by
 obtain⟨i,j,rfl,rfl,h⟩:=vq h h1 h2;split at h
 ·rename_i hg;cases h;exact⟨i,j,rfl,rfl,by unfold nM;rw[show(2:Nat) ^ 64=18446744073709551616 from rfl];exact⟨hg.1,by omega,hg.2.2⟩,q _ H (Same.refl H) rfl⟩
 ·cases h
def aH (c:Cp)(a b:D):Option D:=(bM c a b).map .bl
theorem Iu:fj K (vJ K c) (aH c):=fun P H d e z v w Q h h1 h2 _ q=>by
 unfold aH at h;rw[xaa]at h;obtain⟨b,h,rfl⟩:=h;exact w6 h h1 h2 (q _ H (Same.refl H) rfl)
noncomputable def aV:D->D->Option D
 |.lst ds,.int i=>bI ds i
 |.tup ds,.int i=>bI ds i
 |.str z,.int i=>if z.length<=sizeLine then(bI z.cps.toList i).map fun c=>.str ⟨#[c]⟩ else none
 |_,_=>none
noncomputable def CG (K:Fgx):R2:=fun x y H Q=>pI K x y H Q\/pK K x y H Q\/pJ x y H Q
theorem Oc:kO X (CG X.K):=Od.or (Og.or Oe)
theorem Fl (h:bI ds i=some d)(q:au K P H ds vs):∃u,bI vs i=some u/\Is K P H d u:=by
 unfold bI at h ⊢;rw[q.len]
 cases e:k_ ds.length i with
 |none=>rw[e]at h;cases h
 |some j=>rw[e]at h;exact q.get h
theorem SM:fj K (CG K) aV:=fun P H d e z v w Q h h1 h2 _ q=>by
 unfold aV at h;split at h
 ·obtain⟨a,vs,rfl,r,s⟩:=h1;cases h2;obtain⟨u,e,p⟩:=Fl h s;exact .inl ⟨a,vs,_,u,rfl,rfl,r,e,q _ H (Same.refl H) p⟩
 ·obtain⟨a,vs,rfl,r,s⟩:=h1;cases h2;obtain⟨u,e,p⟩:=Fl h s;exact .inr (.inl ⟨a,vs,_,u,rfl,rfl,r,e,q _ H (Same.refl H) p⟩)
 ·split at h
  ·rename_i hl;rw[xaa]at h;obtain⟨c,h,e⟩:=h;cases e;cases h1;cases h2;exact .inr (.inr ⟨_,_,c,rfl,rfl,hl,h,q _ H (Same.refl H) rfl⟩)
  ·cases h
 ·cases h
noncomputable def cG:List D->Option D
 | [.lst ds]=>some (.int ds.length)
 | [.tup ds]=>some (.int ds.length)
 | [.str z]=>if z.length<=sizeLine then some (.int z.length) else none
 |_=>none
def vM (K:Fgx):List V->Hp->VK->Prop:=fun xs H Q=>(∃p ys,xs=[.ref p]/\(bw K H p ys\/dJ K H p ys)/\Q (.int ys.length) H)\/∃z,xs=[.str z]/\z.length<=sizeLine/\Q (.int z.length) H
theorem nR:cR X (.builtin "len") (vM X.K):=K4.or K5
theorem pG:gQ K (vM K) cG:=fun P H ds z vs Q h i _ q=>by
 unfold cG at h;split at h
 ·obtain⟨v,ws,rfl,p,rfl⟩:=i;cases h;obtain⟨a,us,rfl,r,s⟩:=p;exact .inl ⟨a,us,rfl,.inl r,q _ H (Same.refl H) (by rw[s.len];rfl)⟩
 ·obtain⟨v,ws,rfl,p,rfl⟩:=i;cases h;obtain⟨a,us,rfl,r,s⟩:=p;exact .inl ⟨a,us,rfl,.inr r,q _ H (Same.refl H) (by rw[s.len];rfl)⟩
 ·split at h
  ·rename_i hl;obtain⟨v,ws,rfl,p,rfl⟩:=i;cases h;cases p;exact .inr ⟨_,rfl,hl,q _ H (Same.refl H) rfl⟩
  ·cases h
 ·cases h
noncomputable def lJ:List D->Option D
 | [.int i,.int j]=>some (.int (if j<i then j else i))
 |_=>none
noncomputable def gY:List D->Option D
 | [.int i,.int j]=>some (.int (if j > i then j else i))
 |_=>none
theorem S6:gQ K (fun xs H Q=>∃i j,xs=[.int i,.int j]/\Q (.int (if j<i then j else i)) H) lJ:=fun P H ds z vs Q h i _ q=>by
 unfold lJ at h;split at h
 ·obtain⟨v,ws,rfl,p,v',ws',rfl,p',rfl⟩:=i;cases h;cases p;cases p';exact⟨_,_,rfl,q _ H (Same.refl H) rfl⟩
 ·cases h
theorem Iv:gQ K (fun xs H Q=>∃i j,xs=[.int i,.int j]/\Q (.int (if j > i then j else i)) H) gY:=fun P H ds z vs Q h i _ q=>by
 unfold gY at h;split at h
 ·obtain⟨v,ws,rfl,p,v',ws',rfl,p',rfl⟩:=i;cases h;cases p;cases p';exact⟨_,_,rfl,q _ H (Same.refl H) rfl⟩
 ·cases h
end
section
variable {X:Cx}{Wx:XW}{m:Mode}
noncomputable def wH:D->String
 |.non=>"NoneType"
 |.bl _=>"bool"
 |.int _=>"int"
 |.str _=>"str"
 |.tup _=>"tuple"
 |.lst _=>"list"
 |.ref _=>""
theorem K1:cR X (.builtin "isinstance") (fun xs H Q=>∃(x:V) (T:String) (d:D) (P:Pl) (b:Bool),xs=[x,.ty T]/\bF X.K P H d x/\wH d≠""/\PySem.W.kitOne X.K (.type (wH d)) (.type T)=some b/\Q (.bl b) H):=by
  intro pins s σ H xs us Q I r h;obtain⟨x,T,d,A,b,rfl,i,ne,e,q⟩:=h;obtain⟨u,w',rfl,rx,rT⟩:=vals2 r;cases rT;have fin:∀tk,EP X pins σ Q (.bool b) {s with toks:=tk}:=fun tk=>⟨.bl b,H,I.tok _,rfl,q⟩
  cases d with
  |non=>have hv:x=.non:=i;subst hv;exact xP I rx (TyOf.non) e fin
  |bl y=>have hv:x=.bl y:=i;subst hv;exact xP I rx (TyOf.bl y) e fin
  |int y=>have hv:x=.int y:=i;subst hv;exact xP I rx (TyOf.int y) e fin
  |str y=>have hv:x=.str y:=i;subst hv;exact xP I rx (TyOf.str y) e fin
  |ref n=>exact absurd rfl ne
  |tup ds=>
    obtain⟨a,vs,rfl,t,_⟩:=i;cases rx;obtain⟨its,_,p,_⟩:=I.tuple t;obtain⟨o,h1,h2,_⟩:=p;exact xaC xdr I.kIn ⟨o,h1,h2⟩ e (fun z=>nomatch z) fin
  |lst ds=>
    obtain⟨a,vs,rfl,t,_⟩:=i;cases rx;obtain⟨_,its,_,o,h1,h2,_⟩:=sql I t;exact xaC xcE I.kIn ⟨o,h1,h2⟩ e (fun z=>nomatch z) fin
theorem Y6 {K:Fgx}{P:Pl}{H:Hp}{lo:Int}{n:Nat}:Wk K P H (wN lo n) ((List.range n).map fun(k:Nat)=>.int (lo + k)):=fun P' H' l=>by
 rw[xai,xbk];refine⟨fun k hk=>hk,fun k h1 _=>h1,fun k x H2 y hk=>⟨y.1,.int (lo + k),?_,y.2⟩⟩;rw[xag,xbp hk];rfl
noncomputable def m6 (fs:EA):EA:=fun env M=>match fs env M with
 |some (.v [.int j],M1)=>if -1000000000<=j/\j<=1000000000 then some (.v ((List.range j.toNat).map fun(k:Nat)=>.int (0 + k)),M1) else none
 |some (.x c n,M1)=>some (.x c n,M1)
 |_=>none
theorem Dr (hg:Gl X "range")(hm:X.mg "range"=none)(ha:SA X Wx .val [a] fs)(hs:starEach [a] X.env=[(false,eval a X.env)]:=by rfl):SI X Wx tg (.Call (.Name "range" p) [a] [] pos) (m6 fs):=by
 refine Cj (RP hg hm ha hs) ?_;rintro st H R ⟨P0,H0,P,Os,env,M,r,M',k,e,q⟩;unfold m6 at e;split at e
 ·rename_i j M1 ef;split at e
  ·rename_i hj;cases e;refine⟨P0,H0,P,Os,env,M,_,_,k,ef,fun P1 vs H1 l1 h1 i1=>?_⟩;obtain⟨v,ws,rfl,p,rfl⟩:=i1;exact⟨j,by rw[show v=.int j from p],by omega,by omega,q P1 H1 _ l1 h1 Y6⟩
  ·cases e
 ·rename_i c n M1 ef;cases e;exact⟨P0,H0,P,Os,env,M,_,_,k,ef,q⟩
 ·cases e
def pC:Env->Mm->Option (Option Int×Mm):=fun _ M=>some (none,M)
noncomputable def m7 (f:E):Env->Mm->Option (Option Int×Mm):=fun env M=>match f env M with
 |some (.v (.int i),M1)=>some (some i,M1)
 |_=>none
noncomputable def tP (K:Fgx) (mg:Mgx) (f:Env->Mm->Option (Option Int×Mm)):TO:=fun st H Q=>∃P0 H0 P Os env M i M',Ok K mg P0 H0 P Os H M st env/\f env M=some (i,M')/\∀P' H',LtE P H P' H'->Hk K mg P' H' M'->Q i H'
def pY (X:Cx)(e:Option Expr)(f:Env->Mm->Option (Option Int×Mm)):Prop:=PO X e (tP X.K X.mg f)
theorem Io (h:PO X e t)(w:∀σ H Q,t' σ H Q->t σ H Q):PO X e t':=fun pins s σ H Q I hw=>h pins s σ H Q I (w σ H Q hw)
theorem wj:pY X none pC:=by
 refine Io R0 ?_;rintro st H Q ⟨P0,H0,P,Os,env,M,i,M',k,e,q⟩;cases e;exact q P H (LtE.refl P H) k.hk
theorem wg (h:SE X Wx .val e f):pY X (some e) (m7 f):=by
 refine Io (R3 h) ?_;rintro st H Q ⟨P0,H0,P,Os,env,M,i,M',k,e,q⟩;unfold m7 at e;split at e
 ·rename_i j M1 ef;cases e;exact⟨P0,H0,P,Os,env,M,_,_,k,ef,fun P1 v H1 l1 h1 i1=>⟨j,i1,q P1 H1 l1 h1⟩⟩
 ·cases e
noncomputable def dW {α:Type} (xs:List α) (lo hi:Option Int):List α:=(xs.drop (HT.aR xs.length 0 lo)).take (HT.aR xs.length xs.length hi - HT.aR xs.length 0 lo)
theorem Gq {K:Fgx}{P:Pl}{H:Hp}{ds:List D}{vs:List V}{lo hi:Option Int}(q:au K P H ds vs):au K P H (dW ds lo hi) (eN vs lo hi):=by
 unfold dW eN;rw[q.len];exact(q.drop _).take _
noncomputable def rE (d:D) (lo hi:Option Int):Option D:=match d with
 |.lst ds=>some (.lst (dW ds lo hi))
 |.str z=>if z.length<=sizeLine then some (.str (Txt.slice z lo hi)) else none
 |_=>none
noncomputable def pN (f:E) (l h:Env->Mm->Option (Option Int×Mm)):E:=fun env M=>bnd (f env M) fun d M1=>match l env M1 with
  | some (lo, M2) => (match h env M2 with
    |some (hi,M3)=>(rE (vw M3 d) lo hi).map fun z=>(.v z,M3)
    |none=>none)
  |none=>none
theorem yR {e:Expr}{lo hi:Option Expr}{p2 pos:Pos}{f:E}{l h:Env->Mm->Option (Option Int×Mm)}(he:SE X Wx .bor e f)(hl:pY X lo l)(hh:pY X hi h):SE X Wx m (.Subscript e (.Slice lo hi none p2) pos) (pN f l h):=by
 refine bZ (Il (Wz.or WD) he hl hh) ?_;rintro st H Q ⟨P0,H0,P,Os,env,M,r,M',k,e,q⟩;unfold pN at e;rcases bV e with⟨d,M1,e1,e⟩ |⟨c,n,e1,rfl⟩
 ·split at e
  ·rename_i lo' M2 el;split at e
   ·rename_i hi' M3 eh;rw[xaa]at e;obtain⟨z,ez,e⟩:=e;cases e;refine aX k e1 fun P1 v1 H1 l1 h1 i1=>⟨P0,H0,P1,Os,env,M1,_,_,k.next l1 h1,el,fun P2 H2 l2 h2=>⟨P0,H0,P2,Os,env,M2,_,_,(k.next l1 h1).next l2 h2,eh,fun P3 H3 l3 h3=>?_⟩⟩
    have i3:=bL.vw h3 (bL.lt l3 h2 (bL.lt l2 h1 i1));have fin:∀u H',Same H3 H'->Is X.K P3 H' z u->Q u H':=fun u H' s i=>q P3 u H' (l1.trans (l2.trans (l3.trans (LtE.same s)))) (h3.same s) (cD.of (h3.same s) i);generalize vw M' d=d' at i3 ez;unfold rE at ez;split at ez
    ·cases ez;obtain⟨a,vs,rfl,r,s⟩:=i3;exact .inl ⟨a,vs,rfl,r,HX h3.new (Gq s) fin⟩
    ·split at ez
     ·rename_i hz;cases ez;cases i3;exact .inr ⟨_,rfl,hz,fin _ _ (Same.refl _) rfl⟩
     ·cases ez
    ·cases ez
   ·cases e
  ·cases e
 ·exact aX k e1 q
noncomputable def lB (f:E):E:=fun env M=>bnd (f env M) fun d M1=>match d with
 |.lst ds=>some (.v (.ref M1.length),M1 ++ [.lst ds])
 |_=>none
theorem Dj (h:SN X Wx e f):SE X Wx m e (lB f):=by
  refine bZ h ?_;rintro st H Q ⟨P0,H0,P,Os,env,M,r,M',k,e,q⟩;unfold lB at e;rcases bV e with⟨d,M1,e1,e⟩ |⟨c,n,e1,rfl⟩
  · cases d<;>simp only[reduceCtorEq]at e
    rename_i ds;cases e;refine⟨P0,H0,P,Os,env,M,_,_,k,e1,ds,rfl,fun P1 a vs H1 l1 h1 ha ba nc ea is=>?_⟩;have hn:P1.n=M1.length:=h1.n
    let P2:Pl:={io:=fun j=>if j=P1.n then a else P1.io j,n:=P1.n + 1,bd:=P1.bd}
    have io : ∀ j, j < P1.n -> P2.io j = P1.io j := fun j hj => xaf (by omega);have ioN : P2.io P1.n = a := Z7 rfl;have l2 : Lt P1 H1 P2 H1 := ⟨xct _, io, fun _ z => .inl z, fun _ _ e _ => e, fun _ z => z⟩;have le : LtE P H P2 H1 := ⟨xcb l1.n,fun j hj=>(io j (xab hj l1.n)).trans (l1.io j hj),l1.bd,l1.bm,l1.keep,l1.sure,fun j h2 h3=>by
      rcases xas j P1.n with z |z
      · rw[io j z];exact l1.nw j h2 z
      · have:j=P1.n:=xaS (xaO h3) z;rw[this,ioN];exact ha⟩
    have hk2:Hk X.K X.mg P2 H1 (M1 ++ [.lst ds]):=by
      refine⟨by rw[Z4, <-hn];rfl,fun j c ej=>?_,fun i j hi hj e=>?_,fun j hj=>?_,h1.here⟩
      · rcases xas j P1.n with z |z
        · rw[Z_ (by rw[<-hn];exact z)]at ej;rw[io j z];exact(h1.cell j c ej).lt l2 fun _ z=>z
        · have jl:=(Z5.mp ej).1;rw[Z4,xay, <-hn]at jl;have:j=P1.n:=by omega
          subst this;rw[xae (by rw[hn];exact tG _),hn,xaP]at ej;cases ej;rw[ioN];exact⟨vs,ea,au.lt l2 is⟩
      · rcases xas i P1.n with z |z
        · rcases xas j P1.n with y |y
          · rw[io i z,io j y]at e;exact h1.inj i j z y e
          · have:j=P1.n:=xaS (xaO hj) y;rw[io i z,this,ioN]at e;exact absurd e (nc i z)
        · have iN:i=P1.n:=xaS (xaO hi) z;rcases xas j P1.n with y |y
          · rw[iN,ioN,io j y]at e;exact absurd e.symm (nc j y)
          · rw[iN];exact xaS y (xaO hj)
      · rcases xas j P1.n with z |z
        · rw[io j z];exact h1.bd j z
        · have:j=P1.n:=xaS (xaO hj) z;rw[this,ioN];exact ba
    exact q P2 _ H1 le hk2 (cD.of hk2 (show Is _ _ _ (.ref _) _ from⟨by show _<P1.n + 1;rw[hn];exact xbY _,by rw[<-hn,ioN]⟩))
  · exact⟨P0,H0,P,Os,env,M,_,_,k,e1,q⟩
noncomputable def gC (f g:E):S:=fun env M=>bO (f env M) fun d M1=>match d with
  | .ref j => (match M1[j]? with
    | some (.lst _) => bO (g env M1) fun y M2 => (match M2[j]? with
      |some (.lst ds)=>if ds.length<sizeLine then some (.nx env,M2.set j (.lst (ds ++ [y]))) else none
      |_=>none)
    |_=>none)
  |_=>none
theorem Dy (ho:SE X Wx .val o f)(he:SE X Wx .val e g)(hbase:attributeBase o "append" X.env (eval o X.env)=eval o X.env:=by rfl)
  (hfew:((backTo q (starEach [e] X.env)).all (fun x=> !x.1) && (backToKw q (keywordEach [] X.env)).all (fun x=>x.1.isSome) && decide ([e].length + ([]:List Keyword).length + (if ([]:List Keyword).isEmpty then 0 else 1)<30))=true:=by rfl)
  (hline:(p.endLine==q.line)=true:=by rfl) (hs:starEach [e] X.env=(false,eval e X.env)::starEach [] X.env:=by rfl) (hw:swapsWith (.Call (.Attribute o "append" p) [e] [] q) none pos.line X.env=pure false:=by rfl):
  SS X Wx (.Expr (.Call (.Attribute o "append" p) [e] [] q) pos) (gC f g):=by
 refine gA (Ip (yg xc2 xcW xcX Bq ho (lY he pF hs) hbase hfew hline hs rfl) hw) ?_;rintro D st H ⟨P0,H0,P,Os,env,M,out,M',k,e,q⟩;unfold gC at e;rcases g_ e with⟨d,M1,e1,e⟩ |⟨c,n,e1,rfl⟩
 ·cases d<;>simp only[reduceCtorEq]at e
  rename_i j;split at e
  rotate_left
  ·cases e
  rename_i ds0 em0;refine⟨P0,H0,P,Os,env,M,_,_,k,e1,fun P1 v1 H1 l1 h1 i1=>?_⟩;have k1:=k.next l1 h1
  obtain⟨jl,rfl⟩:j<P1.n/\v1=.ref (P1.io j):=i1;obtain⟨vs0,ev0,_⟩:=h1.cell j _ em0;refine⟨.inl ⟨rfl,vs0,.inl (.inl ev0)⟩,?_⟩;rcases g_ e with⟨y,M2,e2,e⟩ |⟨c,n,e2,rfl⟩
  ·split at e
   ·rename_i ds em;split at e
    ·rename_i hz;cases e;refine aX k1 e2 fun P2 v2 H2 l2 h2 i2=>?_;obtain⟨vs,ev,is⟩:=h2.cell j _ em;rw[l2.io j jl]at ev;have i3:=Is.lt (Lt.refl P2 H2) i2;refine⟨P1.io j,vs,v2,rfl,rfl,ev,by rw[is.len];exact hz,?_⟩;have eio:P2.io j=P1.io j:=l2.io j jl;have jl2:j<P2.n:=xab jl l2.n;obtain⟨o0,eo0,nf0⟩:=h2.cellAt em;have lc:Lt P2 H2 P2 (upd H2 (P2.io j) (.lst (vs ++ [v2]))):=o_ (h2.bd j jl2) eo0 nf0;obtain⟨l3,l3e,h3⟩:=h2.set (c':=.lst (ds ++ [y])) (o':=.lst (vs ++ [v2])) em ⟨vs ++ [v2],b_,au.append (au.lt lc is) (au.one (Is.lt lc i2))⟩;rw[eio]at l3 l3e h3;exact q _ _ _ _ ((l1.lt k.hk).trans ((l2.lt h1).trans l3)) ((k1.next l2 h2).next l3e h3)
    ·cases e
   ·cases e
  ·exact aX k1 e2 q
 ·exact⟨P0,H0,P,Os,env,M,_,_,k,e1,q⟩
end
section
variable {X:Cx}{Wx:XW}{m:Mode}{pos:Pos}
noncomputable def cW:D->Option D
 |.int i=>some (.int (-i))
 |_=>none
theorem yp {K:Fgx}:zG K (rU fun i=>.int (-i)) cW:=fun P H d z v Q h i _ q=>by
 unfold cW at h;split at h
 ·cases h;cases i;exact⟨_,rfl,q _ H (Same.refl H) rfl⟩
 ·cases h
theorem yS (ho:wQ X (unaryOp op) r)(po:zG X.K r o)(ha:SE X Wx .bor a f):SE X Wx m (.UnaryOp op a pos) (s1 o f):=
 bZ (RK ho ha) fun _ _ _ h=>Xn po h
noncomputable def fL (c c':Cp) (f g h:E):E:=fun env M=>bnd (f env M) fun x M1=>bnd (g env M1) fun y M2=>match bM c (vw M2 x) (vw M2 y) with
 |some true=>bnd (h env M2) fun z M3=>(bM c' (vw M3 y) (vw M3 z)).map fun b=>(.v (.bl b),M3)
 |some false=>some (.v (.bl false),M2)
 |none=>none
theorem Lh {c c':Cp}{f g h:E}{st:L2.St}{H:Hp}{Q:VK}(w:tE X.K X.mg Wx m (fL c c' f g h) st H Q):JW (vJ X.K c) (vJ X.K c') (tE X.K X.mg Wx .bor f) (tE X.K X.mg Wx .bor g) (tE X.K X.mg Wx .bor h) st H Q:=by
  obtain⟨P0,H0,P,Os,env,M,rr,M',k,e,q⟩:=w;unfold fL at e;rcases bV e with⟨x,M1,e1,e⟩ |⟨c,n,e1,rfl⟩
  · refine aX k e1 fun P1 v1 H1 l1 h1 i1=>?_;have k1:=k.next l1 h1
    rcases bV e with⟨y,M2,e2,e⟩ |⟨c,n,e2,rfl⟩
    · refine aX k1 e2 fun P2 v2 H2 l2 h2 i2=>?_;have k2:=k1.next l2 h2
      have w1:=bL.vw h2 (bL.lt l2 h1 i1);have w2:=bL.vw h2 i2;split at e
      · rename_i ec;refine w6 ec w1 w2 ⟨true,rfl,?_⟩;rw[Z7 rfl];rcases bV e with⟨z,M3,e3,e⟩ |⟨c,n,e3,rfl⟩
        · refine aX k2 e3 fun P3 v3 H3 l3 h3 i3=>?_;rw[xaa]at e;obtain⟨b,eb,e⟩:=e;cases e;exact w6 eb (bL.vw h3 (bL.lt l3 h2 i2)) (bL.vw h3 i3) (q P3 _ H3 (l1.trans (l2.trans l3)) h3 (cD.of h3 (show Is _ _ _ (.bl b) _ from rfl)))
        · exact aX k2 e3 q
      · rename_i ec;cases e;refine w6 ec w1 w2 ⟨false,rfl,?_⟩;rw[xaf (by decide)];exact q P2 _ H2 (l1.trans l2) h2 (cD.of h2 (show Is _ _ _ (.bl false) _ from rfl))
      · cases e
    · exact aX k1 e2 q
  · exact aX k e1 q
theorem Xi (hu:X.A.units + 60<cLine)(ha:SE X Wx .bor a f)(hb:SE X Wx .bor b g)(hc:SE X Wx .bor c h)(hm:lastMarks [nU c1,nU c2] [b,c]=false:=by with_unfolding_all rfl):ST X Wx (.Compare a [nU c1,nU c2] [b,c] pos) (fL c1 c2 f g h):=
 yj (Sg (xg hu c1) (xg hu c2) ha hb hc hm) fun _ _ _ w=>Lh (J5 w)
noncomputable def rC (f:E):E:=fun env M=>bnd (f env M) fun d M1=>match vw M1 d with
 |.lst ds=>some (.v (.lst ds),M1)
 |.tup ds=>some (.v (.lst ds),M1)
 |_=>none
theorem W2 (hg:Gl X "list")(hm:X.mg "list"=none)(he:SE X Wx .bor e f)(hs:starEach [e] X.env=(false,eval e X.env)::starEach [] X.env:=by rfl):SN X Wx (.Call (.Name "list" p) [e] [] pos) (rC f):=by
 refine bZ (Ii K6 hg hm boot_list (lY he pF hs) (by x_go) (by x_go) hs rfl) ?_;rintro st H Q ⟨P0,H0,P,Os,env,M,r,M',k,e,q⟩;unfold rC at e;rcases bV e with⟨d,M1,e1,e⟩ |⟨c,n,e1,rfl⟩
 ·refine aX k e1 ?_;have key:∀ds,r=.v (.lst ds)->M'=M1->(∀P1 v1 H1,bF X.K P1 H1 (vw M1 d) v1->∃a vs,v1=.ref a/\(bw X.K H1 a vs\/dJ X.K H1 a vs)/\au X.K P1 H1 ds vs)->∀P1 v1 H1,LtE P H P1 H1->Hk X.K X.mg P1 H1 M1->cD X.K P1 H1 .bor d v1->
    ∃p ys,[v1]=[V.ref p]/\(bw X.K H1 p ys\/dJ X.K H1 p ys)/\∀l,H1 l=none->Q (.ref l) (upd H1 l (.lst ys)):=by
   rintro ds rfl rfl hv P1 v1 H1 l1 h1 i1;obtain⟨ds',e',q⟩:=q;cases e';obtain⟨a,vs,rfl,sq,is⟩:=hv P1 v1 H1 (bL.vw h1 i1);refine⟨a,vs,rfl,sq,fun p hp=>?_⟩;obtain⟨l2,h2,nc⟩:=p7 (vs:=vs) h1 hp;exact q (P1.bar p) p vs _ (l1.trans l2) h2 (l1.sure p hp) (.inr rfl) nc b_ (au.lt (l2.lt h1) is)
  split at e
  ·rename_i ds ev;cases e;exact key ds rfl rfl fun P1 v1 H1 i=>by
    rw[ev]at i;obtain⟨a,vs,e,s,is⟩:=i;exact⟨a,vs,e,.inl s,is⟩
  ·rename_i ds ev;cases e;exact key ds rfl rfl fun P1 v1 H1 i=>by
    rw[ev]at i;obtain⟨a,vs,e,s,is⟩:=i;exact⟨a,vs,e,.inr s,is⟩
  ·cases e
 ·exact aX k e1 q
theorem O5:∀env M r M',rC f env M=some (.v r,M')->∃ds,r=.lst ds:=fun env M r M' e=>by
 unfold rC at e;rcases bV e with⟨ds,M1,e1,e⟩ |⟨c,n,e1,e⟩
 ·split at e
  ·cases e;exact⟨_,rfl⟩
  ·cases e;exact⟨_,rfl⟩
  ·cases e
 ·cases e
noncomputable def gM (i j:Nat) (body:S):Nat->Nat->Env->Mm->OS
  |0,_,_,_=>none
  |n + 1,t,env,M=>match M[j]? with
    | some (.lst ds) => (match ds[t]? with
      |none=>some (.nx env,M)
      | some d => if i < env.length then (match body (env.set i (.val d)) M with
        |some (.nx e,M1)=>gM i j body n (t + 1) e M1
        |some (.ct e,M1)=>gM i j body n (t + 1) e M1
        |some (.bk e,M1)=>some (.nx e,M1)
        |some (.rt d,M1)=>some (.rt d,M1)
        |some (.ex c k,M1)=>some (.ex c k,M1)
        |none=>none) else none)
    |_=>none
noncomputable def rB (n i:Nat) (f:E) (body:S):S:=fun env M=>bO (f env M) fun d M1=>match d with
 |.ref j=>gM i j body n 0 env M1
 |_=>none
theorem O8 {K:Fgx}{mg:Mgx}{P0 P1:Pl}{H0 H1:Hp}{Os:List (Option Addr)}{M M':Mm}{st:L2.St}{env:Env}{i j n:Nat}{b:S}{out:Out}{D:Ends}(k:Ok K mg P0 H0 P1 Os H1 M st env)(hj:j<P1.n)
    (h:gM i j b n 0 env M=some (out,M')) (q:Post K mg Wx P0 H0 P1 H1 M' D out):
    ∃W:Nat->Nat->L2.St->Hp->Prop,(∃m,W 0 m st H1)/\∀t m σ H,W t m σ H->
      ((rP K (P1.io j)).stop t H/\D.nx σ H)\/((rP K (P1.io j)).go t H/\∃Nn:L2.St->Hp->Prop,(∀σ' H',Nn σ' H'->∃m',m'<m/\W (t + 1) m' σ' H')/\∀x H',(rP K (P1.io j)).yld t H x H'->xH i x σ H' fun σ2 H2=>tS K mg Wx b {D with nx:=Nn,ct:=Nn,bk:=D.nx} σ2 H2):=by
  refine⟨fun t m σ H=>∃P Os' M1 env',Lt P1 H1 P H/\Ok K mg P0 H0 P Os' H M1 σ env'/\gM i j b m t env' M1=some (out,M'),⟨n,P1,Os,M,env,Lt.refl _ _,k,h⟩,?_⟩;rintro t m σ H ⟨P,Os',M1,env',lt,k',h'⟩
  cases m with
  |zero=>cases h'
  |succ m=>
    simp only[gM]at h';split at h'
    · rename_i ds em;obtain⟨vs,ev,is⟩:=k'.hk.cell j _ em;rw[lt.io j hj]at ev;have sq:bw K H (P1.io j) vs:=.inl (.inl ev);split at h'
      · rename_i et;cases h';refine .inl ⟨⟨vs,sq,by rw[is.len];exact xbf.mp et⟩,q P Os' H σ lt k'⟩
      · rename_i d et;obtain⟨v,evt,iv⟩:=is.get et;split at h'
        · rename_i hi;refine .inr ⟨⟨vs,v,sq,evt⟩,fun σ' H'=>∃P Os' M1 env',Lt P1 H1 P H'/\Ok K mg P0 H0 P Os' H' M1 σ' env'/\gM i j b m (t + 1) env' M1=some (out,M'),fun σ' H' z=>⟨m,xbY m,z⟩,fun x H' y=>?_⟩;obtain⟨rfl,y⟩:=y;have ex:=y vs sq;rw[evt]at ex;cases ex;have k2:=k'.asg hi iv;split at h'
          · rename_i e M2 eb;exact⟨P0,H0,P,_,_,M1,_,_,k2,eb,fun P' Os2 H2 st2 l2 k3=>⟨P',Os2,_,e,lt.trans l2,k3,h'⟩⟩
          · rename_i e M2 eb;exact⟨P0,H0,P,_,_,M1,_,_,k2,eb,fun P' Os2 H2 st2 l2 k3=>⟨P',Os2,_,e,lt.trans l2,k3,h'⟩⟩
          · rename_i e M2 eb;cases h';exact⟨P0,H0,P,_,_,M1,_,_,k2,eb,fun P' Os2 H2 st2 l2 k3=>q P' Os2 H2 st2 (lt.trans l2) k3⟩
          · rename_i e M2 eb;cases h';exact⟨P0,H0,P,_,_,M1,_,_,k2,eb,q⟩
          · rename_i c n M2 eb;cases h';exact⟨P0,H0,P,_,_,M1,_,_,k2,eb,q⟩
          · cases h'
        · cases h'
    · cases h'
theorem JQ (n:Nat)(hp:PassesOwn (model X.prog X.w) X.A X.env X.xe)(hc:X.calm=true)(hN:X.N.Nodup)(hi:X.N[i]? =some x)(hx:Loc X.env.scope x)(he:SE X Wx .val e f)(hb:SB X Wx body b)
    (hf:X.fn x=true\/X.env.scope.names.lookup x=some .local:=by first |exact .inl rfl |exact .inr rfl) (hs:∀x,foldedSetIterable e X.env x=pure x:=by intro _;rfl):SS X Wx (.For (.Name x p) e body [] pos) (rB n i f b):=by
  refine gA (yh hp hc (Ck he) (Cg hN hi hx hf) hb hs) ?_;rintro D st H ⟨P0,H0,P,Os,env,M,out,M',k,e,q⟩;unfold rB at e;rcases g_ e with⟨d,M1,e1,e⟩ |⟨c,n,e1,rfl⟩
  · cases d<;>simp only[reduceCtorEq]at e
    rename_i j;refine⟨P0,H0,P,Os,env,M,_,_,k,e1,fun P1 v1 H1 l1 h1 i1=>?_⟩;obtain⟨jl,rfl⟩:j<P1.n/\v1=.ref (P1.io j):=i1;have k1:=k.next l1 h1
    have hl:∃vs,bw X.K H1 (P1.io j) vs:=by
      cases n with
      |zero=>cases e
      |succ n=>
        simp only[gM]at e;split at e
        · rename_i ds em;obtain⟨vs,ev,is⟩:=h1.cell j _ em;exact⟨vs,.inl (.inl ev)⟩
        · cases e
    exact⟨P1.io j,rfl,hl,O8 k1 jl e (q.lt (l1.lt k.hk))⟩
  · exact⟨P0,H0,P,Os,env,M,_,_,k,e1,q⟩
end
noncomputable def v9 (K:Fgx) (g:G):Sp:=fun vs H Q E=>∀mg,mK K mg 1 g vs H Q E
theorem MF {P:Program}{w:World}{K:Fgx}{mg:Mgx}{base:Heap}{k:Nat}{f:Addr}{fd:FuncData}{ps:List Str}{g:G}(F:FnOk P w K mg base fO k f fd ps (mK K mg 1 g)):FnOk P w K mg base fO k f fd ps (v9 K g):=
 ⟨fun vs H Q E h=>F.len vs H Q E (h mg),fun A outer s H args us vs Q E hr he hb hv hs=>F.run A outer s H args us vs Q E hr he hb hv (hs mg)⟩
theorem Hq {K:Fgx}{P:Pl}{H:Hp}:∀ns:List Int,au K P H (ns.map D.int) (ns.map V.int)
 | []=>rfl
 |n::ns=>⟨.int n,_,rfl,rfl,Hq ns⟩
theorem O1 {K:Fgx}{g:G}{H:Hp}{a:Addr}{ns:List Int}(hg:∃M,g [.lst (ns.map D.int)] []=some (.v (.bl true),M))(hS:bw K H a (ns.map V.int)):v9 K g [.ref a] H (fun v _=>v=.bl true) fun _ _ _=>False:=by
 intro mg;obtain⟨M,e⟩:=hg;refine⟨rfl,⟨fun _=>0,0,fun _=>False⟩,[],[.lst (ns.map D.int)],.bl true,M,⟨rfl,fun k c e=>(by cases e),fun j k h=>absurd h (xbQ _),fun k h=>absurd h (xbQ _),fun a z=>z.elim⟩,⟨.ref a,[],rfl,⟨a,ns.map V.int,rfl,?_,Hq ns⟩,rfl⟩,e,fun P' v H' _ _ i=>i⟩;rcases hS with h |h
 ·exact .inl ⟨fun z=>z,h⟩
 ·exact .inr h
theorem Y0 {l:PySem.W.OpenLaw}{k:Nat}{q:Program}{loose:List Str}{XP:(Mgx)->Heap->Prop}{YP:World->Heap->Prop}{d:DefRec}{K:Params->Fgx}{x:Str}{g:G}
  (hn:l.most=some 63) (hdf:d.params.defaults=[]) (hr:Room k callerA) (hY:∀(w:World) (h:Heap),YP w h->(K w.params).In h)
  (F:∀(w:World) (mg:Mgx) (fa:Addr) (h:Heap),(K w.params).In h->h.Ns mainGlobals mg->mg d.name=some (.ref fa)->
   ∃fd:FuncData,(∀(s:Shared) (u:Value),BindsTo s fd ⟨[u],[]⟩ [(x,u)])/\
    ∀base:Heap,(K w.params).In base->base.Ns mainGlobals mg->FnOk l.prog w (K w.params) mg base fO k fa fd [x] (v9 (K w.params) g))
  (hg:∀ns:List Int,ns.length<=63->∃M,g [.lst (ns.map D.int)] []=some (.v (.bl true),M)):PySem.W.WalkO q loose XP YP l.row.toRowW d [] (fun f vs=>PySem.call f vs):=
 L2.Y5 (sp:=fun K=>v9 K g) hn (by decide) hdf hr hY F (fun K H a ns hl _ hS=>O1 (hg ns hl) hS) fun _ _ _ _ z=>z
section
variable {X:Cx}{Wx:XW}{m:Mode}{e:Expr}
theorem Dl (h:PE X e (tC (.int i))):SE X Wx m e (ao (.int i)):=(Dk (d:=.int i) h fun _ _=>rfl).bor
theorem Dm (h:PE X e (tC (.str z))):SE X Wx m e (ao (.str z)):=(Dk (d:=.str z) h fun _ _=>rfl).bor
theorem Di (h:PE X e (tC (.bl b))):SE X Wx m e (ao (.bl b)):=(Dk (d:=.bl b) h fun _ _=>rfl).bor
theorem Dp (hN:X.N[i]? =some x)(hv:X.env.scope.names.lookup x=some .local)(hd:(x==("__debug__":Str))=false:=by x_go)(hcd:(x==("__classdict__":Str))=false:=by x_go):SE X Wx m (.Name x pos) (aj i):=(JB hN (.inl hv) hd hcd).bor
theorem yU (hN:X.N[i]? =some x)(hv:X.env.scope.names.lookup x=some .local)(hd:(x==("__debug__":Str))=false:=by x_go)(hcd:(x==("__classdict__":Str))=false:=by x_go):SE X Wx .bor (.Name x pos) (nj i):=Ww hN (.inl hv) hd hcd
theorem SN.sem (h:SN X Wx e f)(hf:∀env M r M',f env M=some (.v r,M')->∃ds,r=.lst ds):SE X Wx m e f:=(SN.se h hf).bor
end
structure ClsOk (K:Fgx)(mg:Mgx)(c:Str)(C:Addr):Prop where
 mg:mg c=some (.ref C)
 cl:Cls K C
section
variable {X:Cx}{Wx:XW}{m:Mode}{pos:Pos}
def wL (P:Program)(w:World)(K:Fgx)(mg:Mgx)(base:Heap)(k:Nat)(C:Addr)(m:Str)(n:Nat)(g:G):Prop:=
 ∃f fd ps,Meth K C m f/\FnOk P w K mg base fO k f fd ps (mK K mg n g)/\Binds K fd ps []
theorem wL.mono {P:Program}{w:World}{K:Fgx}{mg:Mgx}{base:Heap}{j k:Nat}{C:Addr}{m:Str}{n:Nat}{g:G}(a:wL P w K mg base j C m n g)(h:j<=k):wL P w K mg base k C m n g:=by
 obtain⟨f,fd,ps,h1,h2,h3⟩:=a;exact⟨f,fd,ps,h1,h2.mono h,h3⟩
end
section
variable {X:Cx}{Wx:XW}{m:Mode}{pos:Pos}
def nH (P:Program)(w:World)(K:Fgx)(mg:Mgx)(base:Heap)(k:Nat)(C:Addr)(n:Nat)(g:G):Prop:=
 ∃f fd ps,Mk K C f/\FnOk P w K mg base fO k f fd ps (mK K mg n g)/\Binds K fd ps []
end
end E3
namespace E3
open PySem PySem.Spec PyProof.Rows L2 PySem.W
noncomputable def aY {α:Type} (lt:Nat->Nat->Option Bool):KasT α->Option α
  |.ret a=>some a
  |.ask i j k=>match lt i j with
    |some b=>aY lt (k b)
    |none=>none
theorem wp_run {α:Type}{cmp:Nat->Nat->(Bool->Shared->Prop)->Shared->Prop}{lt:Nat->Nat->Option Bool}{R:Shared->Prop}(hc:∀i j b s C,lt i j=some b->R s->(∀s',R s'->C b s')->cmp i j C s):∀(t:KasT α) (a:α) (s:Shared) (Q:α->Shared->Prop),aY lt t=some a->R s->(∀s',R s'->Q a s')->t.kasWp cmp Q s
  |.ret a',a,s,Q,e,r,q=>by
    cases e;exact q s r
  |.ask i j k,a,s,Q,e,r,q=>by
    unfold aY at e;split at e
    · rename_i b eb;exact hc i j b s _ eb r fun s' r'=>wp_run hc (k b) a s' Q e r' q
    · cases e
def fu (a:Addr)(h h':Heap):Prop:=∀b o,b≠a->h.get? b=some o->h'.get? b=some o
def Grows (h h':Heap):Prop:=∀b o,h.get? b=some o->h'.get? b=some o
noncomputable def fG (h:Heap) (a:Addr) (vs:List Value):Heap:=((h.update a (Obj.mapSeq fun _=> #[])).push (seqObj "tuple" vs.toArray 0)).push (seqObj "list" #[] 0)
noncomputable def dU (h:Heap) (vs:List Value):Heap:=((h.push (seqObj "list" #[] 0)).update h.objs.size (Obj.mapSeq (· ++ vs.toArray))).push (seqObj "list" vs.toArray 0)
theorem fu.upd (h:Heap)(a:Addr)(f:Obj->Obj):fu a h (h.update a f):=fun b o nb e=>by rw[(Heap.SameBut.update h a f).2 b nb];exact e
theorem fu.push (s:fu a h h')(o:Obj):fu a h (h'.push o):=fun b u nb e=>xac _ (s b u nb e)
theorem HF (h:Heap)(a:Addr)(vs:List Value):fu a h (fG h a vs):=((fu.upd h a _).push _).push _
theorem xu (h:Heap)(vs:List Value):((h.push (seqObj "list" #[] 0)).update h.objs.size (Obj.mapSeq (· ++ vs.toArray))).objs.size=h.objs.size + 1:=(Heap.size_update ..).trans (size_push' h _)
theorem Gn (h:Heap)(vs:List Value):Grows h (dU h vs):=fun b o e=>by
 have lt:=xad e;unfold dU;rw[Heap.get?_push_ne _ _ _ (by rw[xu];exact xap (xca lt)),Heap.get?_update_ne _ _ _ _ (xap lt),Heap.get?_push_ne _ _ _ (xap lt)];exact e
theorem xq (h:Heap)(vs:List Value):(dU h vs).get? (h.objs.size + 1)=some (seqObj "list" vs.toArray 0):=by
 rw[<-xu h vs];exact xau _ rfl
noncomputable def mU (vs:List Value) (p:Array Nat):Array Value:=List.toArray (p.toList.map fun i=>vs.getD i Value.none)
section
variable {prog:Program}{w:World}{A:Around}{E:Value->Shared->Prop}{s:Shared}
theorem W6 (ho:s.heap.get? a=some (seqObj "list" vs.toArray n))(h2:2<=vs.length)(h64:vs.length<64)
  (hk:∀(h':Heap) (Q':SortKind->Shared->Prop),fu a s.heap h'->Q' κ {s with heap:=h'}->wpAny (model prog w) A (keyKind' vs.toArray) Q' (fun _ _=>False) {s with heap:=h'})
  (hc:∀(h':Heap),fu a s.heap h'->∀i j b tk C,lt i j=some b->(∀tk,C b {s with heap:=h',toks:=tk})->kas_ask prog w A κ vs i j C {s with heap:=h',toks:=tk})
  (hr:aY lt (kas_sort vs.length)=some p)
  (q:∀(h':Heap) tk c,p.size=vs.length->fu a s.heap h'->h'.get? a=some (seqObj "list" (mU vs p) c)->P (.done (.ret .none)) {s with heap:=h',toks:=tk}):
  wpAny (model prog w) A (Builtin.«list.sort» ⟨[.ref a],[]⟩) P E s:=by
 have hz:vs.length<=sizeLine:=by rw[xaY];omega
 have st:=HF s.heap a vs;obtain⟨e1,z1⟩:∃e1,(s.heap.update a (Obj.mapSeq fun _=>(#[]:Array Value))).get? a=some (seqObj "list" #[] e1):=⟨_,xcn ho fun _=> #[]⟩;have z2:(fG s.heap a vs).get? a=some (seqObj "list" #[] e1):=xac _ (xac _ z1);rw[list_sort_plain];refine Z2 (listItems_at ho rfl (Z2 (xcB ho rfl (Z2 (seqEpoch_at z1 rfl (Z2 (wpAny_newTuple (Z2 (xcC (xcg ?_) (xaE _))) hz)))) (by simpa using hz) (xaE _))));show wpAny (model prog w) A _ P E {s with heap:=fG s.heap a vs};dsimp only;have two:¬ vs.toArray.size<2:=by simpa using h2
 rw [xaf two, xaf two];generalize fG s.heap a vs = h1 at st z2 ⊢;have kind := hk h1 (fun κ' s' => κ' = κ /\ s' = { s with heap := h1 }) st ⟨rfl, rfl⟩;refine Z2 (xbh kind (fun κ' s0 z => ?_) fun _ _ x => x.elim);obtain ⟨rfl, rfl⟩ := z;have tree := wp_run (cmp := kas_ask prog w A κ' vs) (R := fun s' => ∃ tk, s' = { s with heap := h1, toks := tk }) (fun i j b s' C el ⟨tk,es⟩ hC=>by
  subst es;exact hc h1 st i j b tk C el fun tk'=>hC _ ⟨tk',rfl⟩) (kas_sort vs.length) p {s with heap:=h1} (fun p' s'=>p'=p/\∃tk,s'={s with heap:=h1,toks:=tk}) hr ⟨s.toks,rfl⟩ fun s' r=>⟨rfl,r⟩
 have runs:=kat_run (E:=E) (Q:=fun st' s'=>p.size=vs.length/\arrOf st'=p.map (kas_item (vs.toArray.zip vs.toArray))/\failedOf st'=none/\∃tk,s'={s with heap:=h1,toks:=tk}) rfl h2 h64
  (fun p' st' s' a1 a2 a3 a4=>by obtain⟨rfl,a4⟩:=a4;exact⟨a1,a2,a3,a4⟩) tree
 refine Z2 (xbh runs ?_ fun _ _ e=>e);rintro⟨⟨⟩,st'⟩ s' ⟨hp,har,hf,tk,rfl⟩;dsimp only;have hsz:(mU vs p).size=vs.length:=by unfold mU;simp[hp]
 rw[kat_snds rfl har];obtain⟨c2,z3⟩:∃c2,(h1.update a (Obj.mapSeq fun _=>mU vs p)).get? a=some (seqObj "list" (mU vs p) c2):=⟨_,xcn z2 fun _=>mU vs p⟩;refine Z2 (seqEpoch_at z2 rfl (Z2 (xcB z2 rfl ?_ (xaE _) (by show(mU vs p).size<=sizeLine + 1;rw[hsz];exact xcb hz))));rw[hf];simp only[xdx,xat,xaF];exact Z9 (q _ tk c2 hp (fun b o nb e=>fu.upd h1 a _ b o nb (st b o nb e)) z3)
theorem W9 (hl:s.heap.IsList l vs.toArray)(h2:2<=vs.length)(h64:vs.length<64)
  (hk:∀(h':Heap) (Q':SortKind->Shared->Prop),Grows s.heap h'->Q' κ {s with heap:=h'}->wpAny (model prog w) A.in1.in1 (keyKind' vs.toArray) Q' (fun _ _=>False) {s with heap:=h'})
  (hc:∀(h':Heap),Grows s.heap h'->∀i j b tk C,lt i j=some b->(∀tk,C b {s with heap:=h',toks:=tk})->kas_ask prog w A.in1.in1 κ vs i j C {s with heap:=h',toks:=tk})
  (hr:aY lt (kas_sort vs.length)=some p)
  (q:∀(h':Heap) tk c a,p.size=vs.length->Grows s.heap h'->s.heap.objs.size<=a->h'.get? a=some (seqObj "list" (mU vs p) c)->Q (.ref a) {s with heap:=h',toks:=tk}):
  wpAny (model prog w) A (call (.builtin "sorted") [.ref l]) Q E s:=by
 have hz:vs.length<=sizeLine:=by rw[xaY];omega
 have up:∀h',fu (s.heap.objs.size + 1) (dU s.heap vs) h'->Grows s.heap h':=fun h' st b o e=>st b o (xap (xca (xad e))) (Gn s.heap vs b o e);refine xcM kind_sorted plain_sorted entry_sorted (args_sorted1 _) ?_;unfold Builtin.«sorted»;refine Z2 (m:=checkCount "sorted" 1 1 _) (Z9 (Z2 (collect_list hl (Z2 (xcC ?_ hz)) (by simpa using hz))));rw[xu];show wpAny _ _ _ _ _ {s with heap:=dU s.heap vs};refine Z2 (xcg (xbW slot_list_sort ⟨_,xq s.heap vs,rfl⟩ entry_list_sort (W6 (s:={s with heap:=dU s.heap vs}) (xq s.heap vs) h2 h64 (fun h' Q' st=>hk h' Q' (up h' st)) (fun h' st=>hc h' (up h' st)) hr fun h' tk c hp st e=>?_) (args_list_sort _)));exact⟨_,rfl,Z9 ⟨_,rfl,q h' tk c _ hp (up h' st) (xct _) e⟩⟩
end
noncomputable def lV:List D->List D->Option Bool
 | [],[]=>some false
 |.int i::ps,.int j::qs=>if i=j then lV ps qs else some (decide (i<j))
 |.str a::ps,.str b::qs=>if a=b then lV ps qs else some (decide (a.cps.toList<b.cps.toList))
 |_,_=>none
noncomputable def rA (ds:List D) (i j:Nat):Option Bool:=match ds.getD i .non with
  | .tup xs => (match ds.getD j .non with
    |.tup ys=>lV xs ys
    |_=>none)
  |_=>none
section
variable {prog:Program}{w:World}{A:Around}{s:Shared}{K:Fgx}{P:Pl}{H:Hp}
theorem Hu (hq:Q b s):∀(xs ys:List D) (vs ws:List V) (us zs:List Value) (n:Nat),au K P H xs vs->au K P H ys ws->Vals vs us->Vals ws zs->lV xs ys=some b->(us.length=zs.length->fin=false)->KatLex prog w A true fin Q (us.zip zs) n s
  | [],ys,vs,ws,us,zs,n,i1,i2,r1,r2,e,hf=>by
    cases ys with
    |cons y ys=>cases e
    |nil=>
      rw[show vs=[] from i1]at r1;rw[show ws=[] from i2]at r2;cases r1;cases r2;cases e;rw[hf rfl];exact hq
  |x::xs,[],vs,ws,us,zs,n,i1,i2,r1,r2,e,hf=>by cases x<;>cases e
  |x::xs,y::ys,vs,ws,us,zs,n,i1,i2,r1,r2,e,hf=>by
    obtain⟨v,vr,rfl,p,i1⟩:=i1;obtain⟨u,wr,rfl,p',i2⟩:=i2
    cases r1 with
    |cons a1 r1=>
      cases r2 with
      |cons a2 r2=>
        have rest:lV xs ys=some b->∀n,KatLex prog w A true fin Q (List.zip _ _) n s:=fun e n=>Hu hq xs ys _ _ _ _ n i1 i2 r1 r2 e fun z=>hf (by simp[z]);rw[xdt];cases x<;>cases y<;>simp only[lV,reduceCtorEq]at e
        · rename_i i j;cases p;cases p';obtain⟨t1,rfl⟩:=a1;obtain⟨t2,rfl⟩:=a2;refine kat_cons (xb4 _ _ _ _ prog w _ _ ?_);split at e
          · rename_i hij;subst hij;rw[show(i==i)=true from xaL i];exact kat_yes (rest e _)
          · rename_i hij;cases e;rw[show(i==j)=false from xaM.mpr hij];refine kat_no ?_
            cases n with
            |zero=>exact oneLt_int hq
            |succ n=>exact kat_one _ _ (lt_int (show PySem.W.BoolBack Q (.bool _) s from hq))
        · rename_i a c;cases p;cases p';obtain⟨t1,rfl⟩:=a1;obtain⟨t2,rfl⟩:=a2;refine kat_cons (xb5 _ _ _ _ prog w _ _ ?_);split at e
          · rename_i hij;subst hij;rw[show(a==a)=true from xaL a];exact kat_yes (rest e _)
          · rename_i hij;cases e;rw[show(a==c)=false from xaM.mpr hij];refine kat_no ?_
            cases n with
            |zero=>exact oneLt_str hq
            |succ n=>exact kat_one _ _ (lt_str (show PySem.W.BoolBack Q (.bool _) s from hq))
end
noncomputable def tupI:D->Bool
 |.tup (.int _::_)=>true
 |_=>false
def CP (K:Fgx):List V->Hp->VK->Prop:=fun xs H Q=>∃(P:Pl) (a:Addr) (vs:List V) (ds:List D) (p:Array Nat),xs=[.ref a]/\bw K H a vs/\au K P H ds vs/\2<=ds.length/\ds.length<64/\ds.all tupI=true/\aY (rA ds) (kas_sort ds.length)=some p/\
 ∀l,H l=none->Q (.ref l) (upd H l (.lst (p.toList.map fun i=>vs.getD i .non)))
section
variable {X:Cx}{pins:Pnx}{σ:L2.St}{H:Hp}{s:Shared}
theorem En (I:Inv X pins σ H s)(g:Grows s.heap h')(i:Is X.K P H (.tup xs) v)(r:RelV v u):∃a o its n ws,u=.ref a/\h'.get? a=some o/\o.cls=.type "tuple"/\o.data=.seq its n/\au X.K P H xs ws/\Vals ws its.toList:=by
 obtain⟨a,ws,rfl,t,is⟩:=i;cases r;obtain⟨its,rv,⟨o,e1,e2,n,e3⟩,_⟩:=I.tuple t;exact⟨a,o,its.toArray,n,ws,rfl,g _ _ e1,e2,e3,is,by simpa using rv⟩
theorem J6 (I:Inv X pins σ H s)(g:Grows s.heap h'):∀(ds:List D) (vs:List V) (us:List Value),ds.all tupI=true->au X.K P H ds vs->Vals vs us->∃fs,KatTups h' us fs/\fs.length=us.length/\∀f∈fs,∃i t,f=Value.int i t
  | [],vs,us,_,i,r=>by
    rw[show vs=[] from i]at r;cases r;exact⟨[],KatTups.nil,rfl,fun f h=>nomatch h⟩
  |d::ds,vs,us,hd,i,r=>by
    obtain⟨v,vr,rfl,p,i⟩:=i;rw[xbm,xam]at hd
    cases r with
    |cons a1 r=>
      obtain⟨fs,k,kl,kf⟩:=J6 I g ds _ _ hd.2 i r
      cases d with
      |tup xs=>
        cases xs with
        |nil=>cases (show false=true from hd.1)
        |cons x xs=>
          cases x with
          |int z=>
            obtain⟨a,o,its,n,ws,rfl,e1,e2,e3,is,rv⟩:=En I g p a1;obtain⟨w,wr,rfl,pw,is⟩:=is;cases pw;obtain⟨its⟩:=its
            cases rv with
            |cons b1 rv=>
              obtain⟨t,rfl⟩:=b1;refine⟨.int z t::fs,KatTups.cons e1 e2 e3 rfl k,by simp[kl],fun f hf=>?_⟩;rcases xah.mp hf with rfl |hf
              · exact⟨z,t,rfl⟩
              · exact kf f hf
          |_=>cases (show false=true from hd.1)
      |_=>cases (show false=true from hd.1)
theorem Et (r:Vals vs us)(i:Nat):RelV (vs.getD i .non) (us.getD i Value.none):=by
  induction r generalizing i with
  |nil=>exact rfl
  |cons a r ih=>cases i with
    |zero=>simpa using a
    |succ i=>simpa using ih i
theorem K_:cR X (.builtin "sorted") (CP X.K):=by
  intro pins s σ H xs us Q I r h;obtain⟨P,a,vs,ds,p,rfl,hl,is,h2,h64,ht,hr,q⟩:=h;obtain⟨u,rfl,rx⟩:=vals1 r;cases rx;obtain⟨its,rv,pl,hz⟩:=I.list hl;have l1:its.length=ds.length:=by rw[<-rv.length,is.len]
  refine W9 (κ:=tuples' true) (lt:=rA ds) (p:=p) pl.isList (by omega) (by omega) (fun h' Q' g hq=>?_) (fun h' g i j b tk C el hC=>?_) (by rw[l1];exact hr) fun h' tk c D hp g hD eD=>?_
  · obtain ⟨fs, k, kl, kf⟩ := J6 I g ds vs its ht is rv;exact kat_kind (T := .type "int") k (by omega) (fun f hf=>by
      obtain⟨i,t,rfl⟩:=kf f hf;intro A Q E s _ q;exact Z9 q) (by x_go) hq
  · unfold kas_ask;unfold rA at el;split at el
    · rename_i xs ei;split at el
      · rename_i ys ej;have gi:∀k zs,ds.getD k .non=.tup zs->Is X.K P H (.tup zs) (vs.getD k .non):=fun k zs ek=>by
          rw[xax]at ek
          cases e:ds[k]? with
          |none=>rw[e]at ek;cases ek
          |some d=>
            rw[e]at ek;obtain⟨v,ev,iv⟩:=is.get e;rw[xax,ev];simp only[xbX]at ek ⊢;rw[<-ek];exact iv
        obtain⟨a1,o1,t1,n1,w1,e1,f1,f2,f3,f4,f5⟩:=En I g (gi i xs ei) (Et rv i);obtain⟨a2,o2,t2,n2,w2,e2,g1,g2,g3,g4,g5⟩:=En I g (gi j ys ej) (Et rv j);rw[e1,e2];refine kat_lt (s:={s with heap:=h',toks:=tk}) f1 f3 g1 g3 (Hu (hC tk) xs ys w1 w2 _ _ 0 f4 g4 f5 g5 el fun z=>?_);simp only[xaz]at z
        simp[z]
      · cases el
    · cases el
  · have hv:Vals (p.toList.map fun i=>vs.getD i .non) (p.toList.map fun i=>its.getD i Value.none):=by
      induction p.toList with
      |nil=>exact .nil
      |cons i r ih=>exact .cons (Et rv i) ih
    have hlen:(p.toList.map fun i=>vs.getD i V.non).length<=sizeLine:=by
      rw[xai,xaz,hp, <-rv.length];exact hz
    exact⟨.ref D,_,I.laid (o:=.lst (p.toList.map fun i=>vs.getD i .non)) g hD ⟨hlen,_,c,hv,eD⟩,rfl,q D (I.hok.fresh hD)⟩
end
section
variable {prog:Program}{w:World}{A:Around}{E:Value->Shared->Prop}{s:Shared}
theorem W5 {a:Addr}{n:Nat}{vs:List Value}{P:PySem.Fin->Shared->Prop}(ho:s.heap.get? a=some (seqObj "list" vs.toArray n))(h2:vs.length<2)
  (q:∀(h':Heap) c,fu a s.heap h'->h'.get? a=some (seqObj "list" vs.toArray c)->P (.done (.ret .none)) {s with heap:=h'}):
  wpAny (model prog w) A (Builtin.«list.sort» ⟨[.ref a],[]⟩) P E s:=by
 have hz:vs.length<=sizeLine:=by rw[xaY];omega
 have st:=HF s.heap a vs;obtain⟨e1,z1⟩:∃e1,(s.heap.update a (Obj.mapSeq fun _=>(#[]:Array Value))).get? a=some (seqObj "list" #[] e1):=⟨_,xcn ho fun _=> #[]⟩;have z2:(fG s.heap a vs).get? a=some (seqObj "list" #[] e1):=xac _ (xac _ z1);rw[list_sort_plain];refine Z2 (listItems_at ho rfl (Z2 (xcB ho rfl (Z2 (seqEpoch_at z1 rfl (Z2 (wpAny_newTuple (Z2 (xcC (xcg ?_) (xaE _))) hz)))) (by simpa using hz) (xaE _))));show wpAny (model prog w) A _ P E {s with heap:=fG s.heap a vs};dsimp only;have two:vs.toArray.size<2:=by simpa using h2
 rw[Z7 two,Z7 two];generalize fG s.heap a vs=h1 at st z2 ⊢;refine Z2 (Z9 (Z2 (m:=(pure ():StateT SortSt Sem Unit).run _) (Z9 ?_)));dsimp only;have out:(arrOf (SortSt.mk' general' (vs.toArray.zip vs.toArray) #[] 7 none)).map (·.2)=vs.toArray:=by
  show(vs.toArray.zip vs.toArray).map (·.2)=vs.toArray;apply Array.toList_inj.mp;simp only[Array.toList_map,Array.toList_zip];exact List.map_snd_zip (tG _)
 rw[out];obtain⟨c2,z3⟩:∃c2,(h1.update a (Obj.mapSeq fun _=>vs.toArray)).get? a=some (seqObj "list" vs.toArray c2):=⟨_,xcn z2 fun _=>vs.toArray⟩;refine Z2 (seqEpoch_at z2 rfl (Z2 (xcB z2 rfl ?_ (xaE _) (by rw[Z8];exact xcb hz))));simp only[xdx,xat,xaF];exact Z9 (q _ c2 (fun b o nb e=>fu.upd h1 a _ b o nb (st b o nb e)) z3)
theorem W8 {l:Addr}{vs:List Value}{Q:Value->Shared->Prop}(hl:s.heap.IsList l vs.toArray)(h2:vs.length<2)
  (q:∀(h':Heap) c a,Grows s.heap h'->s.heap.objs.size<=a->h'.get? a=some (seqObj "list" vs.toArray c)->Q (.ref a) {s with heap:=h'}):
  wpAny (model prog w) A (call (.builtin "sorted") [.ref l]) Q E s:=by
 have hz:vs.length<=sizeLine:=by rw[xaY];omega
 have up:∀h',fu (s.heap.objs.size + 1) (dU s.heap vs) h'->Grows s.heap h':=fun h' st b o e=>st b o (xap (xca (xad e))) (Gn s.heap vs b o e);refine xcM kind_sorted plain_sorted entry_sorted (args_sorted1 _) ?_;unfold Builtin.«sorted»;refine Z2 (m:=checkCount "sorted" 1 1 _) (Z9 (Z2 (collect_list hl (Z2 (xcC ?_ hz)) (by simpa using hz))));rw[xu];show wpAny _ _ _ _ _ {s with heap:=dU s.heap vs};refine Z2 (xcg (xbW slot_list_sort ⟨_,xq s.heap vs,rfl⟩ entry_list_sort (W5 (s:={s with heap:=dU s.heap vs}) (xq s.heap vs) h2 fun h' c st e=>?_) (args_list_sort _)));exact⟨_,rfl,Z9 ⟨_,rfl,q h' c _ (up h' st) (xct _) e⟩⟩
end
section
variable {X:Cx}{Wx:XW}
def Cz (K:Fgx):List V->Hp->VK->Prop:=fun xs H Q=>∃(a:Addr) (vs:List V),xs=[.ref a]/\bw K H a vs/\vs.length<2/\∀l,H l=none->Q (.ref l) (upd H l (.lst vs))
theorem KY:cR X (.builtin "sorted") (Cz X.K):=by
 intro pins s σ H xs us Q I r h;obtain⟨a,vs,rfl,hl,h2,q⟩:=h;obtain⟨u,rfl,rx⟩:=vals1 r;cases rx;obtain⟨its,rv,pl,hz⟩:=I.list hl;refine W8 pl.isList (by rw[<-rv.length];exact h2) fun h' c D g hD eD=>?_;exact⟨.ref D,_,I.laid (t':=s.toks) (o:=.lst vs) g hD ⟨hz,its,c,rv,eD⟩,rfl,q D (I.hok.fresh hD)⟩
noncomputable def fM (ds:List D):Option (List D):=if ds.length<2 then some ds else if ds.length<64/\ds.all tupI=true then(aY (rA ds) (kas_sort ds.length)).map fun p=>p.toList.map fun i=>ds.getD i .non else none
theorem JM {K:Fgx}{P:Pl}{H:Hp}{ds:List D}{vs:List V}(is:au K P H ds vs):∀l:List Nat,au K P H (l.map fun i=>ds.getD i .non) (l.map fun i=>vs.getD i .non)
  | []=>rfl
  |i::l=>by
    refine⟨_,_,rfl,?_,JM is l⟩;dsimp only;rw[xax,xax]
    cases e:ds[i]? with
    |none=>
      have:vs[i]? =none:=xbf.mpr (by rw[is.len];exact xbf.mp e);rw[this];rfl
    |some d=>
      obtain⟨v,ev,iv⟩:=is.get e;rw[ev];exact iv
noncomputable def mD (f:E):E:=fun env M=>bnd (f env M) fun d M1=>match vw M1 d with
 |.lst ds=>(fM ds).map fun es=>(.v (.lst es),M1)
 |_=>none
theorem boot_sorted:bootBuiltins "sorted"=some (.builtin "sorted"):=by kernel_rfl
theorem Dt (hg:Gl X "sorted")(hm:X.mg "sorted"=none)(he:SE X Wx .bor e f)(hs:starEach [e] X.env=(false,eval e X.env)::starEach [] X.env:=by rfl):SN X Wx (.Call (.Name "sorted" p) [e] [] pos) (mD f):=by
 refine bZ (Cd (KY.or K_) hg hm boot_sorted (lY he pF hs) (by x_go) (by x_go) hs rfl) ?_;rintro st H Q ⟨P0,H0,P,Os,env,M,r,M',k,e,q⟩;unfold mD at e;rcases bV e with⟨d,M1,e1,e⟩ |⟨c,n,e1,rfl⟩
 ·refine aX k e1 fun P1 v1 H1 l1 h1 i1=>?_;have iw:=bL.vw h1 i1;split at e
  ·rename_i ds ev;rw[xaa]at e;obtain⟨es,ez,e⟩:=e;cases e;obtain⟨ds',e',q⟩:=q;cases e';rw[ev]at iw;obtain⟨a,vs,rfl,sq,is⟩:=iw;have fin:∀ws,au X.K P1 H1 es ws->∀l,H1 l=none->Q (.ref l) (upd H1 l (.lst ws)):=fun ws iws l hl=>by
    obtain⟨l2,h2,nc⟩:=p7 (vs:=ws) h1 hl;exact q (P1.bar l) l ws _ (l1.trans l2) h2 (l1.sure l hl) (.inr rfl) nc b_ (au.lt (l2.lt h1) iws)
   unfold fM at ez;split at ez
   ·rename_i hlt;cases ez;exact .inl ⟨a,vs,rfl,sq,by rw[is.len];exact hlt,fin vs is⟩
   ·split at ez
    ·rename_i h2 h3;rw[xaa]at ez;obtain⟨p,ep,rfl⟩:=ez;exact .inr ⟨P1,a,vs,ds,p,rfl,sq,is,by omega,h3.1,h3.2,ep,fin _ (JM is _)⟩
    ·cases ez
  ·cases e
 ·exact aX k e1 q
theorem Dw:∀env M r M',mD f env M=some (.v r,M')->∃ds,r=.lst ds:=fun env M r M' e=>by
 unfold mD at e;rcases bV e with⟨ds,M1,e1,e⟩ |⟨c,n,e1,e⟩
 ·split at e
  ·rw[xaa]at e;obtain⟨es,_,e⟩:=e;cases e;exact⟨_,rfl⟩
  ·cases e
 ·cases e
end
def Low (n:Nat)(p:Array Nat):Prop:=p.size=n/\∀x∈p.toList,x<n
theorem Low.get (h:Low n p)(hn:0<n)(i:Nat):p.getD i 0<n:=by
 rw[xa9]
 cases e:p[i]? with
 |none=>exact hn
 |some x=>exact h.2 x (by rw[xde];exact Array.mem_of_getElem? e)
theorem run_bind:∀t:KasT α,aY lt (t.bind f)=(aY lt t).bind fun a=>aY lt (f a)
  |.ret a=>rfl
  |.ask i j k=>by
    show aY lt (.ask i j fun b=>(k b).bind f)=_;simp only[aY]
    cases lt i j with
    |none=>rfl
    |some b=>exact run_bind (k b)
section
variable {n:Nat}{lt:Nat->Nat->Option Bool}(hn:0<n)(tot:∀i j,i<n->j<n->∃b,lt i j=some b)
include hn tot
end
end E3
namespace E3
open PySem L2
section
variable {env:Env}{M M1:Mm}{f g h c:E}{d e:D}{i j:Int}{n k:Nat}{z:Str}{b:Bool}{ds es:List D}{s t:S}{x:Str}
def dB (g:S):OS->OS
 |some (.nx e,M1)=>g e M1
 |o=>o
theorem vI:aq s t env M=dB t (s env M):=rfl
theorem vN {e:Env}:dB t (some (.nx e,M))=t e M:=rfl
theorem Dd:dB t (some (.rt d,M))=some (.rt d,M):=rfl
theorem CT {e:Env}:dB t (some (.bk e,M))=some (.bk e,M):=rfl
theorem CV {e:Env}:dB t (some (.ct e,M))=some (.ct e,M):=rfl
theorem CW {a:Int}:dB t (some (.ex x a,M))=some (.ex x a,M):=rfl
theorem TY:aA env M=some (.nx env,M):=rfl
noncomputable def wJ (M:Mm):Option Slot->O
 |some (.val d)=>some (.v d,M)
 |_=>none
noncomputable def pR (M:Mm):Option Slot->O
 |some (.val d)=>some (.v d,M)
 |some (.own ds)=>some (.v (.lst ds),M)
 |_=>none
theorem Ut:aj k env M=wJ M env[k]? :=rfl
theorem Cy:nj k env M=pR M env[k]? :=rfl
theorem V_:wJ M (some (.val d))=some (.v d,M):=rfl
theorem Df:pR M (some (.val d))=some (.v d,M):=rfl
theorem Dg:pR M (some (.own ds))=some (.v (.lst ds),M):=rfl
theorem TV:ao d env M=some (.v d,M):=rfl
def mapR (M:Mm)(o:Option D):O:=o.map fun z=>(.v z,M)
theorem VH:mapR M (some d)=some (.v d,M):=rfl
def pA (o:D->Option D)(r:O):O:=bnd r fun d M=>mapR M (o (vw M d))
theorem Ti {o:D->Option D}:s1 o f env M=pA o (f env M):=rfl
theorem Ux {o:D->Option D}:pA o (some (.v d,M))=mapR M (o (vw M d)):=rfl
noncomputable def pQ (o:D->D->Option D) (d:D) (r:O):O:=bnd r fun e M=>mapR M (o (vw M d) (vw M e))
noncomputable def wG (o:D->D->Option D) (k:Mm->O) (r:O):O:=bnd r fun d M=>pQ o d (k M)
theorem Tj {o:D->D->Option D}:s2 o f g env M=wG o (g env) (f env M):=rfl
theorem Uy {o:D->D->Option D}{q:Mm->O}:wG o q (some (.v d,M))=pQ o d (q M):=rfl
theorem CQ {o:D->D->Option D}:pQ o d (some (.v e,M))=mapR M (o (vw M d) (vw M e)):=rfl
theorem YQ:vw M (.int i)=.int i:=rfl
theorem YX:vw M (.str z)=.str z:=rfl
theorem Ey:vw M (.bl b)=.bl b:=rfl
theorem YT:vw M .non=.non:=rfl
theorem YZ:vw M (.tup ds)=.tup ds:=rfl
theorem YS:vw M (.lst ds)=.lst ds:=rfl
theorem wK (h:M[k]? =some (.lst ds)):vw M (.ref k)=.lst ds:=by unfold vw;simp only[h]
theorem Uq:cO f env M=pA (fun d=>(gJ d).map .bl) (f env M):=rfl
noncomputable def vp (r:O):O:=bnd r fun d M=>match d with
 |.bl b=>some (.v (.bl (!b)),M)
 |_=>none
theorem Ue:dZ f env M=vp (f env M):=rfl
theorem VP:vp (some (.v (.bl b),M))=some (.v (.bl (!b)),M):=rfl
noncomputable def lQ (k1 k2:Mm->O) (r:O):O:=bnd r fun d M=>match d with
 |.bl b=>if b=true then k1 M else k2 M
 |_=>none
theorem Tn:cA f g env M=lQ (g env) (fun M=>some (.v (.bl false),M)) (f env M):=rfl
theorem Cv:ni f g env M=lQ (fun M=>some (.v (.bl true),M)) (g env) (f env M):=rfl
theorem T8:mz c f g env M=lQ (f env) (g env) (c env M):=rfl
theorem VB {k1 k2:Mm->O}:lQ k1 k2 (some (.v (.bl b),M))=if b=true then k1 M else k2 M:=rfl
noncomputable def lM (d:D):Option (ResA×Mm)->Option (ResA×Mm)
 |some (.v ds,M2)=>some (.v (d::ds),M2)
 |some (.x c n,M2)=>some (.x c n,M2)
 |none=>none
noncomputable def Ao (k:Mm->Option (ResA×Mm)):O->Option (ResA×Mm)
 |some (.v d,M1)=>lM d (k M1)
 |some (.x c n,M1)=>some (.x c n,M1)
 |none=>none
theorem Ud:aC env M=some (.v [],M):=rfl
theorem TX {fs:EA}:aD f fs env M=Ao (fs env) (f env M):=rfl
theorem Vn {q:Mm->Option (ResA×Mm)}:Ao q (some (.v d,M))=lM d (q M):=rfl
theorem Vl:lM d (some (.v ds,M))=some (.v (d::ds),M):=rfl
noncomputable def lG (o:List D->Option D) (r:Option (ResA×Mm)):O:=eG r fun ds M=>mapR M (o (ds.map (vw M)))
theorem Uc {o:List D->Option D}{fs:EA}:sN o fs env M=lG o (fs env M):=rfl
theorem VN {o:List D->Option D}:lG o (some (.v ds,M))=mapR M (o (ds.map (vw M))):=rfl
noncomputable def gW (k:List D->Mm->O):Option (ResA×Mm)->O
 |some (.v ds,M)=>k ds M
 |some (.x c n,M)=>some (.x c n,M)
 |none=>none
theorem U_ {q:List D->Mm->O}:gW q (some (.v ds,M))=q ds M:=rfl
theorem Ur {fs:EA}:bW fs env M=gW (fun ds M1=>if ds.length<=sizeLine then some (.v (.tup ds),M1) else none) (fs env M):=rfl
theorem Ua {fs:EA}:bB fs env M=gW (fun ds M1=>if ds.length<=sizeLine then some (.v (.lst ds),M1) else none) (fs env M):=rfl
def FT:O->O
 |some (.v d,M)=>some (.v d,M)
 |_=>none
theorem Vf:FT (some (.v d,M))=some (.v d,M):=rfl
theorem Tt {u:G}{fs:EA}:bT u fs env M=gW (fun ds M1=>FT (u ds M1)) (fs env M):=rfl
noncomputable def dO (k:D->Mm->O):O->O
 |some (.v d,M)=>k d M
 |some (.x c n,M)=>some (.x c n,M)
 |none=>none
theorem Vb {q:D->Mm->O}:dO q (some (.v d,M))=q d M:=rfl
noncomputable def FZ (M:Mm):D->O
 |.lst ds=>some (.v (.ref M.length),M ++ [.lst ds])
 |_=>none
theorem Vg:FZ M (.lst ds)=some (.v (.ref M.length),M ++ [.lst ds]):=rfl
theorem Tz:lB f env M=dO (fun d M1=>FZ M1 d) (f env M):=rfl
noncomputable def Hv (M:Mm):D->O
 |.lst ds=>some (.v (.lst ds),M)
 |.tup ds=>some (.v (.lst ds),M)
 |_=>none
theorem VF:Hv M (.lst ds)=some (.v (.lst ds),M):=rfl
theorem T9:rC f env M=dO (fun d M1=>Hv M1 (vw M1 d)) (f env M):=rfl
noncomputable def eZ (M:Mm):D->O
 |.lst ds=>mapR M ((fM ds).map .lst)
 |_=>none
theorem Uo:mD f env M=dO (fun d M1=>eZ M1 (vw M1 d)) (f env M):=by
  unfold mD dO bnd
  cases f env M with
  |none=>rfl
  |some p=>obtain⟨r,M'⟩:=p;cases r with
    |x c n=>rfl
    |v d=>
      dsimp only;unfold eZ;cases vw M' d<;>try rfl
      dsimp only;cases fM _<;>rfl
noncomputable def Ds (d:D) (lo:Option Int):Option (Option Int×Mm)->O
 |some (hi,M3)=>mapR M3 (rE (vw M3 d) lo hi)
 |none=>none
noncomputable def JF (d:D) (k:Mm->Option (Option Int×Mm)):Option (Option Int×Mm)->O
 |some (lo,M2)=>Ds d lo (k M2)
 |none=>none
theorem Cw {l u:Env->Mm->Option (Option Int×Mm)}:pN f l u env M=dO (fun d M1=>JF d (u env) (l env M1)) (f env M):=rfl
theorem V1 {lo:Option Int}{q:Mm->Option (Option Int×Mm)}:JF d q (some (lo,M))=Ds d lo (q M):=rfl
theorem V0 {lo hi:Option Int}:Ds d lo (some (hi,M))=mapR M (rE (vw M d) lo hi):=rfl
theorem Uh:pC env M=some (none,M):=rfl
noncomputable def vC:O->Option (Option Int×Mm)
 |some (.v (.int i),M)=>some (some i,M)
 |_=>none
theorem Ug:m7 f env M=vC (f env M):=rfl
theorem VR:vC (some (.v (.int i),M))=some (some i,M):=rfl
noncomputable def cH (k:D->Mm->OS):O->OS
 |some (.v d,M)=>k d M
 |some (.x c n,M)=>some (.ex c n,M)
 |none=>none
theorem Vd {q:D->Mm->OS}:cH q (some (.v d,M))=q d M:=rfl
theorem Tr:aQ k f env M=cH (fun d M1=>if k<env.length then some (.nx (env.set k (.val d)),M1) else none) (f env M):=rfl
noncomputable def HJ (k:Nat) (env:Env) (M:Mm):D->OS
 |.lst ds=>if k<env.length then some (.nx (env.set k (.own ds)),M) else none
 |_=>none
theorem VL:HJ k env M (.lst ds)=if k<env.length then some (.nx (env.set k (.own ds)),M) else none:=rfl
theorem Ub:m9 k f env M=cH (fun d M1=>HJ k env M1 d) (f env M):=rfl
theorem Ui:aM f env M=cH (fun d M1=>some (.rt d,M1)) (f env M):=rfl
noncomputable def Hg (s t:Mm->OS) (M:Mm):D->OS
 |.bl b=>if b=true then s M else t M
 |_=>none
theorem CZ {q r:Mm->OS}:Hg q r M (.bl b)=if b=true then q M else r M:=rfl
theorem Cr:bR c s t env M=cH (fun d M1=>Hg (s env) (t env) M1 d) (c env M):=rfl
noncomputable def sW (k:Nat) (env:Env) (M:Mm):Option Slot->OS
 |some (.own ds)=>some (.nx (env.set k (.val (.lst ds))),M)
 |_=>none
theorem T4:eX k env M=sW k env M env[k]? :=rfl
theorem Vv:sW k env M (some (.own ds))=some (.nx (env.set k (.val (.lst ds))),M):=rfl
noncomputable def su (k:Nat) (env:Env) (o:O):Option Slot->OS
 |some (.own ds)=>cH (fun d M1=>if ds.length<sizeLine then some (.nx (env.set k (.own (ds ++ [d]))),M1) else none) o
 |_=>none
theorem Tp:fK k f env M=su k env (f env M) env[k]? :=rfl
theorem U8 {o:O}:su k env o (some (.own ds))=cH (fun d M1=>if ds.length<sizeLine then some (.nx (env.set k (.own (ds ++ [d]))),M1) else none) o:=rfl
theorem wU {ds0:List D}{M2:Mm}(h1:f env M=some (.v (.ref k),M1))(h2:M1[k]? =some (.lst ds0))(h3:g env M1=some (.v d,M2))(h4:M2[k]? =some (.lst ds))(hl:ds.length<sizeLine):gC f g env M=some (.nx env,M2.set k (.lst (ds ++ [d]))):=by
 simp only[gC,bO,h1,h2,h3,h4,hl,xaZ]
noncomputable def forR (k:Nat) (t:S) (env:Env):Option (ResA×Mm)->OS
 |some (.v ds,M1)=>loopS k t ds env M1
 |some (.x c n,M1)=>some (.ex c n,M1)
 |none=>none
theorem T3 {fs:EA}:cX k fs t env M=forR k t env (fs env M):=rfl
theorem Vu:forR k t env (some (.v ds,M))=loopS k t ds env M:=rfl
noncomputable def vh:O->Option (ResA×Mm)
 |some (.v (.lst ds),M1)=>some (.v ds,M1)
 |some (.x c n,M1)=>some (.x c n,M1)
 |_=>none
theorem T5:dz f env M=vh (f env M):=rfl
theorem Vx:vh (some (.v (.lst ds),M))=some (.v ds,M):=rfl
noncomputable def Ja:Option (ResA×Mm)->Option (ResA×Mm)
 |some (.v [.int j],M1)=>if -1000000000<=j/\j<=1000000000 then some (.v ((List.range j.toNat).map fun(k:Nat)=>.int (0 + k)),M1) else none
 |some (.x c n,M1)=>some (.x c n,M1)
 |_=>none
theorem Uj {fs:EA}:m6 fs env M=Ja (fs env M):=rfl
theorem Dc (h: -1000000000<=i/\i<=1000000000):Ja (some (.v [.int i],M))=some (.v ((List.range i.toNat).map fun(k:Nat)=>.int (0 + k)),M):=Z7 h
theorem vH {m:Nat}{t:S}:cF m t ds M=cT (t (ds.map .val ++ List.replicate (m - ds.length) .un) M):=rfl
theorem Vq:cT (some (.rt d,M))=some (.v d,M):=rfl
theorem Vp {e:Env}:cT (some (.nx e,M))=some (.v .non,M):=rfl
theorem PX:aP (.int i) (.int j)=some (.int (i + j)):=rfl
theorem P_:aP (.lst ds) (.lst es)=if ds.length + es.length<=sizeLine then some (.lst (ds ++ es)) else none:=rfl
theorem QF:cu (.int i) (.int j)=some (.int (i - j)):=rfl
theorem Qu:cV (.int i) (.int j)=if i.natAbs<18446744073709551616\/j.natAbs<18446744073709551616\/(i.natAbs.log2<10000/\j.natAbs.log2<10000) then some (.int (i * j)) else none:=rfl
theorem Qg:fH (.int i) (.int j)=if 0<j/\j.natAbs<1073741824 then some (.int (i / j)) else none:=rfl
theorem Qt:oMod (.int i) (.int j)=if 0<j then some (.int (i % j)) else none:=rfl
theorem QB:fJ (.int i) (.int j)=if 0<=j/\j.natAbs<=1000000/\i.natAbs<18446744073709551616 then some (.int (i ^ j.toNat)) else none:=rfl
theorem Qy:cW (.int i)=some (.int (-i)):=rfl
theorem B_:aH .lt (.int i) (.int j)=some (.bl (decide (i<j))):=rfl
theorem BZ:aH .le (.int i) (.int j)=some (.bl (decide (i<=j))):=rfl
theorem BW:aH .gt (.int i) (.int j)=some (.bl (decide (j<i))):=rfl
theorem BR:aH .ge (.int i) (.int j)=some (.bl (decide (j<=i))):=rfl
theorem Qd:aH .eq (.int i) (.int j)=some (.bl (decide (i=j))):=by
 show(mV _ _).map D.bl=_
 simp[mV,cU,D.flat,D.dep,D.eq]
 rw[xa3];simp
theorem Qv:aH .ne (.int i) (.int j)=some (.bl (!decide (i=j))):=by
 show(mX _ _).map D.bl=_
 simp[mX,cU,D.flat,D.dep,D.eq]
 rw[xa3];simp
theorem Qe (h:d.dep<=50):aH .eq d d=some (.bl true):=by
 show(mV d d).map D.bl=_;unfold mV;rw[Z7 ⟨by simp[cU,h],h⟩,D.eq_refl];rfl
theorem Qw (h:d.dep<=50):aH .ne d d=some (.bl false):=by
 show(mX d d).map D.bl=_;unfold mX;rw[Z7 ⟨by simp[cU,h],h⟩,D.eq_refl];rfl
theorem Ib:aV (.lst ds) (.int i)=bI ds i:=rfl
theorem Qm:aV (.tup ds) (.int i)=bI ds i:=rfl
theorem Qn:cG [.lst ds]=some (.int ds.length):=rfl
theorem Qp:cG [.tup ds]=some (.int ds.length):=rfl
theorem Qs:lJ [.int i,.int j]=some (.int (if j<i then j else i)):=rfl
theorem Qq:gY [.int i,.int j]=some (.int (if j > i then j else i)):=rfl
theorem QJ:gJ (.lst ds)=some (!ds.isEmpty):=rfl
theorem QG:gJ (.bl b)=some b:=rfl
theorem QD {lo hi:Option Int}:rE (.str z) lo hi=if z.length<=sizeLine then some (.str (Txt.slice z lo hi)) else none:=rfl
theorem QC {lo hi:Option Int}:rE (.lst ds) lo hi=some (.lst (dW ds lo hi)):=rfl
end
noncomputable def Step (J:Env->Mm->Prop) (Q:OS->Prop):OS->Prop
 |some (.nx e,M)=>J e M
 |some (.ct e,M)=>J e M
 |some (.bk e,M)=>Q (some (.nx e,M))
 |some (.rt d,M)=>Q (some (.rt d,M))
 |some (.ex c n,M)=>Q (some (.ex c n,M))
 |none=>False
theorem xV {i:Nat}{body:S}{ds:List D}{env:Env}{M:Mm}(Q:OS->Prop)(J:Nat->Env->Mm->Prop)(h0:J 0 env M)
    (hs:∀(k:Nat) d env M,ds[k]? =some d->J k env M->i<env.length/\Step (J (k + 1)) Q (body (env.set i (.val d)) M)) (hd:∀env M,J ds.length env M->Q (some (.nx env,M))):Q (loopS i body ds env M):=by
  have key:∀(m k:Nat) (env:Env) (M:Mm),m + k=ds.length->J k env M->Q (loopS i body (ds.drop k) env M):=by
    intro m
    induction m with
    |zero=>
      intro k env M hk hJ;have e:k=ds.length:=by omega
      subst e;rw[xbZ];exact hd env M hJ
    |succ m ih=>
      intro k env M hk hJ;have hlt:k<ds.length:=by omega
      obtain⟨hi,h1⟩:=hs k ds[k] env M (Z6 hlt) hJ;rw[xa4 hlt];simp only[loopS,hi,xaZ]
      cases e:body (env.set i (.val ds[k])) M with
      |none=>rw[e]at h1;exact h1.elim
      |some o=>
        rw[e]at h1;obtain⟨o,M'⟩:=o
        cases o with
        |nx e'=>exact ih (k + 1) e' M' (by omega) h1
        |ct e'=>exact ih (k + 1) e' M' (by omega) h1
        |bk e'=>exact h1
        |rt d=>exact h1
        |ex c n=>exact h1
  have:=key ds.length 0 env M (by omega) h0
  rwa [xcr]at this
theorem Hw {i j n:Nat}{body:S}{ds:List D}{env:Env}{M:Mm}(Q:OS->Prop)(J:Nat->Env->Mm->Prop)(h0:J 0 env M)(hn:ds.length<n)(hm:∀k env M,J k env M->M[j]? =some (.lst ds))
    (hs:∀(k:Nat) d env M,ds[k]? =some d->J k env M->i<env.length/\Step (J (k + 1)) Q (body (env.set i (.val d)) M)) (hd:∀env M,J ds.length env M->Q (some (.nx env,M))):Q (gM i j body n 0 env M):=by
  have key:∀(m k:Nat) (env:Env) (M:Mm),ds.length - k<m->k<=ds.length->J k env M->Q (gM i j body m k env M):=by
    intro m
    induction m with
    |zero=>intro k env M h;exact absurd h (xbQ _)
    |succ m ih=>
      intro k env M hk hle hJ;simp only[gM,hm k env M hJ]
      cases e:ds[k]? with
      |none=>
        have:k=ds.length:=xaS hle (xbf.mp e);subst this;exact hd env M hJ
      |some d=>
        obtain⟨hi,h1⟩:=hs k d env M e hJ;have hlt:=(Z5.mp e).1;simp only[hi,xaZ]
        cases eb:body (env.set i (.val d)) M with
        |none=>rw[eb]at h1;exact h1.elim
        |some o=>
          rw[eb]at h1;obtain⟨o,M'⟩:=o
          cases o with
          |nx e'=>exact ih (k + 1) e' M' (by omega) hlt h1
          |ct e'=>exact ih (k + 1) e' M' (by omega) hlt h1
          |bk e'=>exact h1
          |rt d=>exact h1
          |ex c n=>exact h1
  exact key n 0 env M (by omega) (xaE _) h0
end E3
namespace E3
open PySem PySem.Spec PyProof.Rows L2
noncomputable def XN (H:Hp) (n:Int):Option Addr->Prop
 |none=>n=0
 |some d=>∃fs,H d=some (.xd fs)/\fs.lookup ("at":Str)=some (.int (n - 1))/\n≠0
noncomputable def XQ (K:Fgx) (mg:Mgx) (P:Pl) (H:Hp) (M':Mm) (Q:VK) (E:XK):Res->Prop
 |.v d=>∀P' v H',LtE P H P' H'->Hk K mg P' H' M'->Is K P' H' d v->Q v H'
 |.x c n=>∀P' H' C dx,LtE P H P' H'->Hk K mg P' H' M'->mg c=some (.ref C)->XN H' n dx->E (.ref C) dx H'
noncomputable def yZ (K:Fgx) (mg:Mgx) (n:Nat) (g:G):Sp:=fun vs H Q E=>vs.length=n/\∃P M ds r M',Hk K mg P H M/\au K P H ds vs/\g ds M=some (r,M')/\XQ K mg P H M' Q E r
mutual
theorem Is.away {K:Fgx}{P:Pl}{H H':Hp}(s:∀b o,H b=some o->(∀g,o≠ .ext g)->H' b=some o):∀{d:D} {v:V},Is K P H d v->Is K P H' d v
  |.non,_,h=>h
  |.bl _,_,h=>h
  |.int _,_,h=>h
  |.str _,_,h=>h
  |.tup ds,_,h=>by
    obtain⟨a,vs,e,q,r⟩:=h;refine⟨a,vs,e,?_,au.away s r⟩;rcases q with(q |⟨o,q⟩) |q
    · exact .inl (.inl (s _ _ q fun _ z=>nomatch z))
    · exact .inl (.inr ⟨o,s _ _ q fun _ z=>nomatch z⟩)
    · exact .inr q
  |.lst ds,_,h=>by
    obtain⟨a,vs,e,q,r⟩:=h;refine⟨a,vs,e,?_,au.away s r⟩;rcases q with⟨n,q |⟨o,q⟩⟩ |q
    · exact .inl ⟨n,.inl (s _ _ q fun _ z=>nomatch z)⟩
    · exact .inl ⟨n,.inr ⟨o,s _ _ q fun _ z=>nomatch z⟩⟩
    · exact .inr q
  |.ref k,_,h=>h
theorem au.away {K:Fgx}{P:Pl}{H H':Hp}(s:∀b o,H b=some o->(∀g,o≠ .ext g)->H' b=some o):∀{ds:List D} {vs:List V},au K P H ds vs->au K P H' ds vs
  | [],_,h=>h
  |_::_,_,h=>by
    obtain⟨v,r,e,p,q⟩:=h;exact⟨v,r,e,Is.away s p,au.away s q⟩
end
theorem Hk.away {K:Fgx}{mg:Mgx}{P:Pl}{H H':Hp}{M:Mm}(h:Hk K mg P H M)(s:∀b o,H b=some o->(∀g,o≠ .ext g)->H' b=some o)(t:∀b,H' b=none->H b=none):Hk K mg P H' M:=by
  refine⟨h.n,fun k c e=>?_,h.inj,h.bd,fun a z q=>h.here a z (t a q)⟩;have:=h.cell k c e
  cases c with
  |lst ds=>
    obtain⟨vs,e1,q⟩:=this;exact⟨vs,s _ _ e1 (fun _ z=>nomatch z),au.away s q⟩
  |obj c fs=>
    obtain⟨C,dx,gs,e1,e2,e3,q⟩:=this;exact⟨C,dx,gs,e1,s _ _ e2 (fun _ z=>nomatch z),e3,au.away s q⟩
  |dct kvs=>
    obtain⟨vs,e1,e2,q⟩:=this;exact⟨vs,s _ _ e1 (fun _ z=>nomatch z),e2,au.away s q⟩
  |dcf kvs=>
    obtain⟨vs,ob,es,ep,e1,eD,e2,q⟩:=this;exact⟨vs,ob,es,ep,s _ _ e1 (fun _ z=>nomatch z),eD,e2,au.away s q⟩
structure XFit (X:Cx)(Wx:XW):Prop where
 xr:∀pins σ H s a C dx c n P0 H0 P M,Inv X pins σ H s->H a=some (xo a C dx true)->¬ P.bd a->H0 a=none->LtE P0 H0 P H->Hk X.K X.mg P H M->X.mg c=some (.ref C)->XN H n dx->Wx P0 H0 M c n->X.xe (.ref a) s
section
variable {P:Program}{w:World}{K:Fgx}{mg:Mgx}{base:Heap}{k:Nat}{x qual:Str}{st:Stmt}{f:Addr}{fd:FuncData}{N ps:List Str}{b:S}
theorem MJ (F:FnOk P w K mg base (pU P w) k f fd ps sp):FnOk P w K mg base fO k f fd ps (fun vs H Q _=>sp vs H Q E0):=
 ⟨fun vs H Q E h=>F.len vs H Q E0 h,fun A outer s H args us vs Q E hr he hb hv hs=>xcR (F.run A outer s H args us vs Q E0 hr he hb hv hs) fun r s' z=>by
  cases r with
  |error e=>obtain⟨_,_,_,_,_,_,_,_,_,_,_,_,_,_,z⟩:=z;exact z
  |ok fl=>cases fl<;>exact z⟩
theorem Ax (F:FnOk P w K mg base (pU P w) k f fd ps (yZ K mg n g)):FnOk P w K mg base fO k f fd ps (mK K mg n g):=by
 have F0:=MJ F;refine⟨fun vs H Q E h=>F0.len vs H Q E ?_,fun A outer s H args us vs Q E hr he hb hv hs=>F0.run A outer s H args us vs Q E hr he hb hv ?_⟩
 ·obtain⟨hl,P,M,ds,d,M',hk,is,e,q⟩:=h;exact⟨hl,P,M,ds,.v d,M',hk,is,e,q⟩
 ·obtain⟨hl,P,M,ds,d,M',hk,is,e,q⟩:=hs;exact⟨hl,P,M,ds,.v d,M',hk,is,e,q⟩
def rM (P:Program)(w:World)(K:Fgx)(mg:Mgx)(base:Heap)(k:Nat)(C:Addr)(m:Str)(n:Nat)(g:G):Prop:=
 ∃f fd ps,Meth K C m f/\FnOk P w K mg base (pU P w) k f fd ps (yZ K mg n g)/\Binds K fd ps []
def rK (P:Program)(w:World)(K:Fgx)(mg:Mgx)(base:Heap)(k:Nat)(C:Addr)(n:Nat)(g:G):Prop:=
 ∃f fd ps,Mk K C f/\FnOk P w K mg base (pU P w) k f fd ps (yZ K mg n g)/\Binds K fd ps []
def mL (P:Program)(w:World)(K:Fgx)(mg:Mgx)(base:Heap)(k:Nat)(f:Str)(n:Nat)(g:G):Prop:=
 ∃fa fd ps,mg f=some (.ref fa)/\PySem.W.keepIn K (.ref fa)=true/\FnOk P w K mg base (pU P w) k fa fd ps (yZ K mg n g)/\Binds K fd ps []
theorem rM.quiet (a:rM P w K mg base k C m n g):wL P w K mg base k C m n g:=by
 obtain⟨f,fd,ps,h1,h2,h3⟩:=a;exact⟨f,fd,ps,h1,Ax h2,h3⟩
theorem rK.quiet (a:rK P w K mg base k C n g):nH P w K mg base k C n g:=by
 obtain⟨f,fd,ps,h1,h2,h3⟩:=a;exact⟨f,fd,ps,h1,Ax h2,h3⟩
theorem mL.quiet (a:mL P w K mg base k x n g):aZ P w K mg base k x n g:=by
 obtain⟨fa,fd,ps,h1,h2,h3,h4⟩:=a;exact⟨fa,fd,ps,[],[],_,h1,h2,Ax h3,h4,.nil,fun vs H Q E h=>by rw[xbg];exact h⟩
theorem mL.mono (a:mL P w K mg base j x n g)(h:j<=k):mL P w K mg base k x n g:=by
 obtain⟨f,fd,ps,h1,h2,h3,h4⟩:=a;exact⟨f,fd,ps,h1,h2,h3.mono h,h4⟩
end
end E3
namespace L2
open PySem PySem.Spec PyProof.Rows
section
variable {X:Cx}{CX:d7}{k:Nat}{f C:Addr}{fd:FuncData}{ps:List Str}{sp:Sp}{x m:Str}{p pos apos:Pos}{e o:Expr}{es:List Expr}{ta:TE}{t:TA}{Ex:St->XK}
def Ks (CX:d7)(X:Cx)(Ex:St->XK):Prop:=∀pins σ H s e s',Inv X pins σ H s->CX X.stack H s (Ex σ) e s'->X.xe e s'
end
end L2
namespace E3
open PySem PySem.Spec PyProof.Rows L2
section
variable {X:Cx}{Wx:XW}{pos:Pos}
def SX (X:Cx)(e:Expr)(f:E):Prop:=∀Ex:L2.St->XK,Ks (pU X.prog X.w) X Ex->PE X e fun st H Q=>∃P0 H0 P Os env M r M',Ok X.K X.mg P0 H0 P Os H M st env/\f env M=some (r,M')/\XQ X.K X.mg P H M' Q (Ex st) r
noncomputable def Zb (K:Fgx) (mg:Mgx) (E:XK) (P0:Pl) (H0:Hp) (P:Pl) (H:Hp) (M':Mm) (D:Ends):Out->Prop
 |.ex c n=>∀P' H' C dx,LtE P H P' H'->Hk K mg P' H' M'->mg c=some (.ref C)->XN H' n dx->E (.ref C) dx H'
 |.nx env=>Post K mg W0 P0 H0 P H M' D (.nx env)
 |.bk env=>Post K mg W0 P0 H0 P H M' D (.bk env)
 |.ct env=>Post K mg W0 P0 H0 P H M' D (.ct env)
 |.rt d=>Post K mg W0 P0 H0 P H M' D (.rt d)
end
end E3
namespace L2
open PySem PySem.Spec PyProof.Rows
end L2
namespace E3
open PySem PySem.Spec PyProof.Rows L2
theorem Y7 {K:Fgx}{C:Addr}(h1:PySem.W.findIn K (.ref C) "__getattribute__"=some (some (.builtin "BaseException.__getattribute__")))(h2:PySem.W.findIn K (.ref C) "__getattr__"=some none)(h3:PySem.W.mroIn K C (.type "BaseException")=some true):zu K C=true:=by
 simp only[zu,h1,h2,h3,xaL,xdl]
theorem Y8 {K:Fgx}{C:Addr}(h1:zu K C=true)(h2:PySem.W.hasDictIn K C=true)(h3:PySem.W.findIn K (.ref C) "__class__"=some (some (.builtin "object.__class__")))(h4:PySem.W.specialIn K (.builtin "object.__class__") "__get__"=some (some (.builtin "getset_descriptor.__get__")))
  (h5:PySem.W.takesIn K (.builtin "object.__class__")=some true) (h6:PySem.W.mroIn K C (.type "object")=some true):zx K C=true:=by
 simp only[zx,h1,h2,h3,h4,h5,h6,xaL,xdl]
end E3
namespace E3
open PySem L2
section
variable {env:Env}{M M1 M2:Mm}{f g o v:E}{d e x:D}{i:Int}{k:Nat}{ds:List D}{s t:S}{c me fl:Str}{fs:List (Str×D)}{gg:G}{fa:EA}
theorem Vr {a:Int}:cT (some (.ex c a,M))=some (.x c a,M):=rfl
end
theorem nH.mono (a:nH P w K mg base j C n g)(h:j<=k):nH P w K mg base k C n g:=by
 obtain⟨f,fd,ps,h1,h2,h3⟩:=a;exact⟨f,fd,ps,h1,h2.mono h,h3⟩
end E3
namespace E3
open PySem PySem.Spec PyProof.Rows L2
theorem rD (hN:X.N[i]? =some x)(hv:pZ X.env.scope x)(hd:(x==("__debug__":Str))=false:=by x_go)(hcd:(x==("__classdict__":Str))=false:=by x_go):SE X Wx m (.Name x pos) (aj i):=(JB hN hv hd hcd).bor
noncomputable def bQ (cs:List (Str×Nat)) (env:Env):Env:=cs.map fun p=>(env[p.2]?).getD .un
noncomputable def fZ (cs:List (Str×Nat)) (Os:List (Option Addr)):List (Option Addr):=cs.map fun p=>(Os[p.2]?).join
section
variable {K:Fgx}{mg:Mgx}{P0 P:Pl}{H0 H:Hp}{M:Mm}{Os:List (Option Addr)}{st:L2.St}{env:Env}{d:D}{v:V}
theorem Af {cs:List (Str×Nat)}{i:Nat}{a:Addr}(h:(fZ cs Os)[i]? =some (some a)):∃p,cs[i]? =some p/\Os[p.2]? =some (some a):=by
 unfold fZ at h;rw[xag,xaa]at h;obtain⟨p,e,h⟩:=h;exact⟨p,e,lR h⟩
theorem Ok.cap {cs:List (Str×Nat)}(k:Ok K mg P0 H0 P Os H M st env)(nd:(cs.map (·.2)).Nodup)(h:Is K P H d v):Ok K mg P0 H0 P (none::fZ cs Os) H M (some v::d8 cs st) (.val d::bQ cs env) where
  hk:=k.hk
  base:=k.base
  b0:=k.b0
  slot:=fun i s e=>by
    cases i with
    |zero=>cases e;exact⟨v,rfl,h⟩
    |succ i=>
      rw[xa7]at e ⊢;rw[xa7];unfold bQ at e;rw[xag,xaa]at e;obtain⟨p,ep,e⟩:=e;have eo:((fZ cs Os)[i]?).join=(Os[p.2]?).join:=by unfold fZ;rw[xag,ep];rfl
      have es:((d8 cs st)[i]?).join=(st[p.2]?).join:=by unfold d8;rw[xag,ep];rfl
      rw[eo,es]
      cases e':env[p.2]? with
      |none=>rw[e']at e;cases e;exact True.intro
      |some s'=>rw[e']at e;cases e;exact k.slot _ _ e'
  own:=fun a h=>by
    rw[xah]at h;rcases h with h |h
    · cases h
    · obtain⟨i,hi⟩:=xdd.mp h;obtain⟨p,_,e⟩:=Af hi;exact k.own a (xaw e)
  inj:=fun i j a e1 e2=>by
    cases i with
    |zero=>cases e1
    |succ i=>
      cases j with
      |zero=>cases e2
      |succ j=>
        rw[xa7]at e1 e2;obtain⟨p,h1,h2⟩:=Af e1;obtain⟨q,h3,h4⟩:=Af e2;have e:=k.inj _ _ a h2 h4;congr 1;have hi:(cs.map (·.2))[i]? =some p.2:=by rw[xag,h1];rfl
        have hj:(cs.map (·.2))[j]? =some p.2:=by rw[xag,h3,e];rfl
        have il:=(Z5.mp hi).1;exact(List.getElem?_inj il nd).mp (hi.trans hj.symm)
  olen:=by simp[fZ,bQ]
  slen:=by simp[d8,bQ]
end
section
variable {X:Cx}{Wx:XW}{m:Mode}{pos:Pos}
noncomputable def fB (q e:E) (env:Env):List D->List D->Mm->Option (List D×Mm)
  | [],acc,M=>some (acc,M)
  |d::ds,acc,M=>match q (.val d::env) M with
    | some (.v (.bl true), M1) => (match e (.val d::env) M1 with
      |some (.v y,M2)=>if acc.length + 1<sizeLine then fB q e env ds (acc ++ [y]) M2 else none
      |_=>none)
    |some (.v (.bl false),M1)=>fB q e env ds acc M1
    |_=>none
noncomputable def mq (cs:List (Str×Nat)) (fs:EA) (q e:E):E:=fun env M=>match fs env M with
  | some (.v ds, M1) => (match fB q e (bQ cs env) ds [] M1 with
    |some (ys,M2)=>some (.v (.lst ys),M2)
    |none=>none)
  |some (.x c n,M1)=>some (.x c n,M1)
  |none=>none
theorem Gm:∀env M r M',mq cs fs q e env M=some (.v r,M')->∃ds,r=.lst ds:=fun env M r M' h=>by
 unfold mq at h;split at h
 ·split at h
  ·cases h;exact⟨_,rfl⟩
  ·cases h
 ·cases h
 ·cases h
theorem G_ {K:Fgx}{mg:Mgx}{P1 P:Pl}{H1 H:Hp}{M:Mm}{D:Addr}{vs vs':List V}(l:LtE P1 H1 P H)(h:Hk K mg P H M)(hD:H1 D=none)(bD:P.bd D)(nc:∀k,k<P.n->P.io k≠D)(e:H D=some (.lst vs)):
  Lt P H P (upd H D (.lst vs'))/\LtE P1 H1 P (upd H D (.lst vs'))/\Hk K mg P (upd H D (.lst vs')) M:=by
 have lc:Lt P H P (upd H D (.lst vs')):=o_ bD e HY;refine⟨lc,⟨l.n,l.io,l.bd,l.bm,fun c o ec n=>?_,fun c z=>l.sure c (lc.sure c z),l.nw⟩,⟨h.n,fun j c ej=>(h.cell j c ej).lt lc fun o eo=>?_,h.inj,h.bd,fun c z q=>h.here c z (lc.sure c q)⟩⟩
 ·rw[aW (fun z=>by subst z;rw[hD]at ec;cases ec)];exact l.keep c o ec n
 ·rw[aW (nc j (by rw[h.n];exact(Z5.mp ej).1))];exact eo
noncomputable def NR (K:Fgx) (mg:Mgx) (Wx:XW) (P0:Pl) (H0:Hp) (P:Pl) (H:Hp) (M':Mm) (R:Addr->Hp->Prop):Res->Prop
 |.v d=>∃ds,d=.lst ds/\∀P' a vs H',LtE P H P' H'->Hk K mg P' H' M'->H a=none->P'.bd a->(∀k,k<P'.n->P'.io k≠a)->H' a=some (.lst vs)->au K P' H' ds vs->R a H'
 |.x c n=>Wx P0 H0 M' c n
theorem Am {K:Fgx}{mg:Mgx}{cs:List (Str×Nat)}{fs:EA}{q e:E}{P0 P:Pl}{H0 H:Hp}{Os:List (Option Addr)}{M M':Mm}{st:L2.St}{env:Env}{r:Res}{R:Addr->Hp->Prop}(nd:(cs.map (·.2)).Nodup)
    (k:Ok K mg P0 H0 P Os H M st env) (h:mq cs fs q e env M=some (r,M')) (w:NR K mg Wx P0 H0 P H M' R r):wC (tI K mg Wx fs) (nG K mg W0 q) (tE K mg W0 .val e) cs st H R:=by
  unfold mq at h;split at h
  · rename_i ds M1 ef;split at h
    rotate_left
    · cases h
    rename_i ys M2 ec;cases h;obtain ⟨ds', e', w⟩ := w;cases e';refine ⟨P0, H0, P, Os, env, M, _, _, k, ef, fun P1 H1 J l1 h1 wk D hD => ?_⟩;obtain ⟨l2, h2, nc⟩ := p7 (vs := []) h1 hD;refine ⟨fun i m vs H2=>m=ds.length - i/\i<=ds.length/\∃P2 M3 acc,LtE P1 H1 P2 H2/\Hk K mg P2 H2 M3/\P2.bd D/\(∀k,k<P2.n->P2.io k≠D)/\H2 D=some (.lst vs)/\au K P2 H2 acc vs/\acc.length<sizeLine/\fB q e (bQ cs env) (ds.drop i) acc M3=some (ys,M'),
      ⟨ds.length,by simp,xaE _,P1.bar D,M1,[],l2,h2,.inr rfl,nc,b_,rfl,by x_go,by rw[xcr];exact ec⟩,?_⟩
    rintro i m vs H2 ⟨rfl,hi,P2,M3,acc,l3,h3,bD,nD,eD,is,hz,ec⟩;refine⟨eD,?_⟩;obtain⟨w1,w2,w3⟩:=wk P2 H2 (l3.lt h1)
    by_cases hlt:i<ds.length
    · refine .inr ⟨w1 i hlt,by rw[is.len];exact hz,fun vs' H'=>∃P2 M3 acc,LtE P1 H1 P2 H'/\Hk K mg P2 H' M3/\P2.bd D/\(∀k,k<P2.n->P2.io k≠D)/\H' D=some (.lst vs')/\au K P2 H' acc vs'/\acc.length<sizeLine/\fB q e (bQ cs env) (ds.drop (i + 1)) acc M3=some (ys,M'),
        fun vs' H' z=>⟨ds.length - (i + 1),by omega,rfl,hlt,z⟩,fun x H' y=>?_⟩
      obtain⟨e3,d,ed,iv⟩:=w3 i x H' y hlt;subst e3;have ed':ds.drop i=d::ds.drop (i + 1):=by
        rw[xa4 hlt];rw[Z6 hlt]at ed;rw[xan ed]
      rw[ed']at ec;have kk:=((k.next l1 h1).next l3 h3).cap (cs:=cs) nd iv
      simp only[fB]at ec;split at ec
      · rename_i M4 eq;refine fX kk eq ⟨true,rfl,fun P4 H4 l4 h4=>?_⟩;dsimp only;rw[Z7 rfl];split at ec
        · rename_i y' M5 ee;split at ec
          · rename_i hz';refine aX (kk.next l4 h4) ee fun P5 v5 H5 l5 h5 i5=>?_
            have l45:=l4.trans l5;have eD5:H5 D=some (.lst vs):=l45.keep D _ eD (.inr nD);have nD5:∀k,k<P5.n->P5.io k≠D:=l45.nc eD nD;obtain⟨g1,g2,g3⟩:=G_ (vs':=vs ++ [v5]) (l3.trans l45) h5 hD (l45.bm D bD) nD5 eD5;refine⟨eD5,P5,M5,acc ++ [y'],g2,g3,l45.bm D bD,nD5,b_,au.append (au.lt ((l45.lt h3).trans g1) is) (au.one (Is.lt g1 i5)),by rw[Z4];exact hz',ec⟩
          · cases ec
        · cases ec
      · rename_i M4 eq;refine fX kk eq ⟨false,rfl,fun P4 H4 l4 h4=>?_⟩;dsimp only;rw[xaf (by decide)];exact⟨P4,M4,acc,l3.trans l4,h4,l4.bm D bD,l4.nc eD nD,l4.keep D _ eD (.inr nD),au.lt (l4.lt h3) is,hz,ec⟩
      · cases ec
    · have ei:i=ds.length:=by omega
      subst ei;rw[xbZ]at ec;cases ec;exact .inl ⟨w2 _ (tG _) (tG _),w P2 D vs H2 (l1.trans l3) h3 (l1.sure D hD) bD nD eD is⟩
  · rename_i c n M1 ef;cases h;exact⟨P0,H0,P,Os,env,M,_,_,k,ef,w⟩
  · cases h
def SQ (X:Cx)(ifs:List Expr)(q:E):Prop:=fY X ifs (nG X.K X.mg W0 q)
theorem W_:SQ X [] (ao (.bl true)):=fun pins s σ H Q I h=>by
 obtain⟨P0,H0,P,Os,env,M,r,M',k,e,q⟩:=h;cases e;obtain⟨b,e2,q⟩:=q;cases e2;exact Im pins s σ H Q I (q P H (LtE.refl P H) k.hk)
theorem Xa (h:ST X W0 c q):SQ X [c] q:=RX h
section
variable {elt iter:Expr}{ifs:List Expr}{scope:Scope}{fs:EA}{q e:E}
theorem WX (x:Str)(cs:List (Str×Nat))(hc:X.calm=true)(nd:(cs.map (·.2)).Nodup)(hi:SI X Wx (.Name x px) iter fs)
  (hq:∀(cl:List (Str×Addr)) (C:Addr) (s₀:Shared) (H₀:Hp) (ex:List Addr) (pn:Pnx),SQ (dh X (x::cs.map (·.1)) scope cl C s₀ H₀ ex pn) ifs q)
  (he:∀(cl:List (Str×Addr)) (C:Addr) (s₀:Shared) (H₀:Hp) (ex:List Addr) (pn:Pnx),SE (dh X (x::cs.map (·.1)) scope cl C s₀ H₀ ex pn) W0 .val elt e)
  (ok:nT X.N X.env.scope x cs scope=true:=by kernel_rfl) (hs:∀x,foldedSetIterable iter X.env x=pure x:=by intro _;rfl):
  SN X Wx (.ListComp elt [⟨.Name x px,iter,ifs,0⟩] scope pos) (mq cs fs q e):=by
 refine bZ (Ij (tq:=nG X.K X.mg W0 q) (te:=tE X.K X.mg W0 .val e) x cs hc hi hq he ok hs) ?_;rintro st H Q ⟨P0,H0,P,Os,env,M,r,M',k,e,w⟩;refine Am nd k e ?_
 cases r with
 |v d=>exact w
 |x c n=>exact w
theorem M6 {K:Fgx}{mg:Mgx}{P P':Pl}{H H':Hp}{M M':Mm}{a:Addr}{vs:List V}{ds:List D}(k:Hk K mg P H M)(l:LtE P H P' H')(h:Hk K mg P' H' M')(ha:H a=none)(nc:∀j,j<P'.n->P'.io j≠a)(ea:H' a=some (.lst vs))(is:au K P' H' ds vs):
  LtE P H (P'.less (· ≠a)) H'/\Hk K mg (P'.less (· ≠a)) H' M'/\Is K (P'.less (· ≠a)) H' (.lst ds) (.ref a):=by
 have l2 : Lt P' H' (P'.less (· ≠ a)) H' := ⟨tG _, fun _ _ => rfl, fun c z => .inl z.1, fun _ _ e _ => e, fun _ z => z⟩;exact ⟨⟨l.n,l.io,fun b z=>l.bd b z.1,fun b z=>⟨l.bm b z,fun q=>k.here b z (q ▸ ha)⟩,l.keep,l.sure,l.nw⟩,
  ⟨h.n,fun j c e=>(h.cell j c e).lt l2 fun _ z=>z,h.inj,fun j hj=>⟨h.bd j hj,nc j hj⟩,fun b z=>h.here b z.1⟩,
  a,vs,rfl,.inl ⟨fun z=>z.2 rfl,.inl ea⟩,au.less is⟩
theorem Xc (x:Str)(cs:List (Str×Nat))(hN:X.N.Nodup)(hk:X.N[i]? =some y)(hy:Loc X.env.scope y)(hc:X.calm=true)(nd:(cs.map (·.2)).Nodup)(hi:SI X Wx (.Name x px) iter fs)
  (hq:∀(cl:List (Str×Addr)) (C:Addr) (s₀:Shared) (H₀:Hp) (ex:List Addr) (pn:Pnx),SQ (dh X (x::cs.map (·.1)) scope cl C s₀ H₀ ex pn) ifs q)
  (he:∀(cl:List (Str×Addr)) (C:Addr) (s₀:Shared) (H₀:Hp) (ex:List Addr) (pn:Pnx),SE (dh X (x::cs.map (·.1)) scope cl C s₀ H₀ ex pn) W0 .val elt e)
  (ok:nT X.N X.env.scope x cs scope=true:=by kernel_rfl) (hs:∀x,foldedSetIterable iter X.env x=pure x:=by intro _;rfl)
  (hsw:swapsWith (.ListComp elt [⟨.Name x px,iter,ifs,0⟩] scope pos) (some (.Name y py)) spos.line X.env=pure true:=by rfl)
  (hf:X.fn y=true\/X.env.scope.names.lookup y=some .local:=by first |exact .inl rfl |exact .inr rfl):
  SS X Wx (.Assign [.Name y py] (.ListComp elt [⟨.Name x px,iter,ifs,0⟩] scope pos) spos) (aQ i (mq cs fs q e)):=by
 refine gA (R9 (tq:=nG X.K X.mg W0 q) (te:=tE X.K X.mg W0 .val e) x cs hN hk hy hc hi hq he ok hs hsw hf) ?_;rintro D st H ⟨P0,H0,P,Os,env,M,out,M',k,ee,w⟩;unfold aQ at ee;rcases g_ ee with⟨d,M1,e1,ee⟩ |⟨c,n,e1,rfl⟩
 ·obtain⟨ds,rfl⟩:=Gm _ _ _ _ e1;split at ee
  ·rename_i hl;cases ee;refine Am nd k e1 ⟨ds,rfl,fun P1 a vs H1 l1 h1 ha ba nc ea is=>?_⟩;obtain⟨l2,h2,i2⟩:=M6 k.hk l1 h1 ha nc ea is;exact w _ _ _ _ (l2.lt k.hk) ((k.next l2 h2).asg hl i2)
  ·cases ee
 ·exact Am nd k e1 w
end
end
noncomputable def toKey:D->Option Key
 |.int i=>some (.inl i)
 |.str z=>some (.inr z)
 |_=>none
noncomputable def bY (kvs:List (Key×D)) (k:Key):Option D:=(kvs.find? fun kv=>decide (kv.1=k)).map (·.2)
noncomputable def eV (kvs:List (Key×D)) (k:Key) (v:D):List (Key×D):=
 if (kvs.any fun kv=>decide (kv.1=k))=true then kvs.map (fun kv=>if kv.1=k then(kv.1,v) else kv) else kvs ++ [(k,v)]
section
variable {K:Fgx}{mg:Mgx}{P:Pl}{H:Hp}{M:Mm}
def dM (K:Fgx)(P:Pl)(H:Hp)(kvs:List (Key×D))(vs:List (Key×V)):Prop:=vs.map (·.1)=kvs.map (·.1)/\au K P H (kvs.map (·.2)) (vs.map (·.2))
theorem key_is (h:toKey d=some k)(i:Is K P H d v):v=kV k:=by
 unfold toKey at h;split at h
 ·cases h;cases i;rfl
 ·cases h;cases i;rfl
 ·cases h
theorem Eh:dM K P H (p::kvs) (q::vs) ↔ q.1=p.1/\Is K P H p.2 q.2/\dM K P H kvs vs:=by
 constructor
 ·rintro⟨h1,v,r,e1,i,q⟩;simp only[xaV,xc7]at h1 e1;obtain⟨rfl,rfl⟩:=e1;exact⟨h1.1,i,h1.2,q⟩
 ·rintro⟨h1,i,h2,q⟩;exact⟨by simp[h1,h2],_,_,rfl,i,q⟩
theorem J0:∀{kvs:List (Key×D)} {vs:List (Key×V)},dM K P H kvs vs->match bY kvs k with
    |some d=>∃v,bN vs k=some v/\Is K P H d v
    |none=>bN vs k=none
  | [],[],_=>rfl
  | [],_::_,h=>by cases h.1
  |_::_,[],h=>by cases h.1
  |p::kvs,q::vs,h=>by
    obtain⟨h1,i,h2⟩:=Eh.mp h
    by_cases e:p.1=k
    · have e':q.1=k:=h1.trans e;have a:bY (p::kvs) k=some p.2:=by simp[bY,xbO,e]
      rw[a];exact⟨q.2,Er e',i⟩
    · have e':¬ q.1=k:=fun z=>e (h1.symm.trans z);have a:bY (p::kvs) k=bY kvs k:=by simp[bY,xbO,e]
      rw[a,Ep e'];exact J0 h2
theorem tb_any:∀{kvs:List (Key×D)} {vs:List (Key×V)},vs.map (·.1)=kvs.map (·.1)->(vs.any fun kv=>decide (kv.1=k))=(kvs.any fun kv=>decide (kv.1=k))
  | [],[],_=>rfl
  | [],_::_,h=>by cases h
  |_::_,[],h=>by cases h
  |p::kvs,q::vs,h=>by
    simp only[xaV,xc7]at h;rw[xba,xba,h.1,tb_any h.2]
theorem J1 (i:Is K P H d v):∀{kvs:List (Key×D)} {vs:List (Key×V)},dM K P H kvs vs->dM K P H (kvs.map fun kv=>if kv.1=k then(kv.1,d) else kv) (vs.map fun kv=>if kv.1=k then(kv.1,v) else kv)
  | [],[],h=>h
  | [],_::_,h=>by cases h.1
  |_::_,[],h=>by cases h.1
  |p::kvs,q::vs,h=>by
    obtain⟨h1,i1,h2⟩:=Eh.mp h;rw[xaV,xaV];refine Eh.mpr ⟨?_,?_,J1 i h2⟩
    · split<;>split<;>exact h1
    · rw[h1]
      split
      · exact i
      · exact i1
theorem Yc (i:Is K P H d v)(h:dM K P H kvs vs):dM K P H (eV kvs k d) (putK vs k v):=by
 unfold eV putK;rw[tb_any h.1]
 split
 ·exact J1 i h
 ·refine⟨by rw[xaB,xaB,h.1];rfl,?_⟩;rw[xaB,xaB];exact au.append h.2 (au.one i)
theorem Yb (h:dM K P H kvs vs):vs.length=kvs.length:=by
 have:=congrArg List.length h.1
 simpa using this
theorem BP:¬ Fx (.dK vs):=fun z=>by rcases z with⟨_,z⟩ |⟨_,_,z⟩ |⟨_,z⟩ |⟨_,z⟩<;>cases z
end
section
variable {X:Cx}{Wx:XW}{m:Mode}{pos:Pos}
noncomputable def h_ (M:Mm) (d:D):Option (Nat×List (Key×D)):=match d with
  | .ref k => (match M[k]? with
    |some (.dct kvs)=>some (k,kvs)
    |_=>none)
  |_=>none
theorem Av (h:h_ M d=some (k,kvs)):d=.ref k/\M[k]? =some (.dct kvs):=by
 unfold h_ at h;split at h
 ·split at h
  ·cases h;rename_i e;exact⟨rfl,e⟩
  ·cases h
 ·cases h
noncomputable def dk (M:Mm) (d y:D):Option (Nat×List (Key×D)×Key):=match h_ M d with
 |some p=>(toKey y).map fun k=>(p.1,p.2,k)
 |none=>none
theorem LQ (h:dk M d y=some (j,kvs,k)):d=.ref j/\M[j]? =some (.dct kvs)/\toKey y=some k:=by
 unfold dk at h;split at h
 ·rename_i p ep;rw[xaa]at h;obtain⟨k',ek,h⟩:=h;cases h;obtain⟨h1,h2⟩:=Av (k:=p.1) (kvs:=p.2) ep;exact⟨h1,h2,ek⟩
 ·cases h
inductive ResP where
 |v (ps:List (D×D)) |x (c:Str) (n:Int)
abbrev EY:=Env->Mm->Option (ResP×Mm)
def pB:EY:=fun _ M=>some (.v [],M)
noncomputable def keysOf:List (D×D)->Option (List (Key×D))
  | []=>some []
  |p::ps=>match toKey p.1,keysOf ps with
    |some k,some r=>some ((k,p.2)::r)
    |_,_=>none
noncomputable def Pg (kvs more:List (Key×D)):List (Key×D):=more.foldl (fun acc kv=>eV acc kv.1 kv.2) kvs
noncomputable def pL (ps:EY):E:=fun env M=>match ps env M with
  | some (.v ds, M1) => (match keysOf ds with
    |some kvs=>if kvs.length<=15 then some (.v (.ref M1.length),M1 ++ [.dct (Pg [] kvs)]) else none
    |none=>none)
  |some (.x c n,M1)=>some (.x c n,M1)
  |none=>none
theorem KJ {K:Fgx}{mg:Mgx}{P:Pl}{H:Hp}{M:Mm}{p:Addr}{o:HO}(h:Hk K mg P H M)(hp:H p=none):LtE P H (P.bar p) (upd H p o)/\Hk K mg (P.bar p) (upd H p o) M/\∀k,k<P.n->P.io k≠p:=by
 have s:=mG (o:=o) hp;have nc:∀k,k<P.n->P.io k≠p:=fun k hk z=>h.here _ (h.bd k hk) (z ▸ hp);have l:LtE P H (P.bar p) (upd H p o):=⟨tG _,fun _ _=>rfl,fun a z=>Or.imp (fun q=>q) (fun(q:a=p)=>by rw[q];exact hp) z,fun a z=>.inl z,fun a o e _=>s a o e,fun a z=>s.free z,fun k h1 h2=>absurd h1 (xcK.mpr h2)⟩;refine⟨l,⟨h.n,fun k c e=>(h.cell k c e).lt (l.lt h) fun u eu=>s _ _ eu,h.inj,fun k hk=>.inl (h.bd k hk),fun a z q=>?_⟩,nc⟩;rcases z with z |z
 ·exact h.here a z (s.free q)
 ·subst z;rw[b_]at q;cases q
theorem Lf {K:Fgx}{mg:Mgx}{P0 P:Pl}{H0 H:Hp}{M:Mm}{a:Addr}{o o':HO}{c:Cl}(l:LtE P0 H0 P H)(h:Hk K mg P H M)(ha:H0 a=none)(ba:P.bd a)(nc:∀k,k<P.n->P.io k≠a)(ea:H a=some o)(nf:¬ Fx o)(hc:∀P',Lt P H P' (upd H a o')->pW K mg P' (upd H a o') a c):
  ∃P',LtE P0 H0 P' (upd H a o')/\Hk K mg P' (upd H a o') (M ++ [c])/\Is K P' (upd H a o') (.ref M.length) (.ref a):=by
 have hn:P.n=M.length:=h.n
 let P2:Pl:={io:=fun j=>if j=P.n then a else P.io j,n:=P.n + 1,bd:=P.bd}
 have io:∀j,j<P.n->P2.io j=P.io j:=fun j hj=>xaf (by omega);have ioN:P2.io P.n=a:=Z7 rfl;have lc:Lt P H P (upd H a o'):=o_ ba ea nf;have l2:Lt P H P2 (upd H a o'):=⟨xct _,io,fun _ z=>.inl z,lc.keep,lc.sure⟩;refine⟨P2,⟨xcb l.n,fun j hj=>(io j (xab hj l.n)).trans (l.io j hj),l.bd,l.bm,fun b u e z=>?_,fun b z=>l.sure b (lc.sure b z),fun j h2 h3=>?_⟩,⟨by rw[Z4, <-hn];rfl,fun j d ej=>?_,fun i j hi hj e=>?_,fun j hj=>?_,fun b z q=>h.here b z (lc.sure b q)⟩,?_⟩
 ·rw[aW (fun z=>by subst z;rw[ha]at e;cases e)];exact l.keep b u e z
 ·rcases xas j P.n with z |z
  ·rw[io j z];exact l.nw j h2 z
  ·have:j=P.n:=xaS (xaO h3) z;rw[this,ioN];exact ha
 ·rcases xas j P.n with z |z
  ·rw[Z_ (by rw[<-hn];exact z)]at ej;rw[io j z];exact(h.cell j d ej).lt l2 fun u eu=>by rw[aW (nc j z)];exact eu
  ·have jl:=(Z5.mp ej).1;rw[Z4,xay, <-hn]at jl;have:j=P.n:=by omega
   subst this;rw[xae (by rw[hn];exact tG _),hn,xaP]at ej;cases ej;rw[ioN];exact hc P2 l2
 ·rcases xas i P.n with z |z
  ·rcases xas j P.n with y |y
   ·rw[io i z,io j y]at e;exact h.inj i j z y e
   ·have:j=P.n:=xaS (xaO hj) y;rw[io i z,this,ioN]at e;exact absurd e (nc i z)
  ·have iN:i=P.n:=xaS (xaO hi) z;rcases xas j P.n with y |y
   ·rw[iN,ioN,io j y]at e;exact absurd e.symm (nc j y)
   ·rw[iN];exact xaS y (xaO hj)
 ·rcases xas j P.n with z |z
  ·rw[io j z];exact h.bd j z
  ·have:j=P.n:=xaS (xaO hj) z;rw[this,ioN];exact ba
 ·exact⟨by show _<P.n + 1;rw[hn];exact xbY _,by rw[<-hn,ioN]⟩
theorem Wn:SE X Wx m (.Dict [] [] pos) (pL pB):=by
 refine bZ Rv ?_;rintro st H Q ⟨P0,H0,P,Os,env,M,r,M',k,e,q⟩;cases e;intro p hp;obtain⟨l1,h1,nc⟩:=KJ (o:=.dK []) k.hk hp;obtain⟨P2,l2,h2,i2⟩:=Lf (o':=.dK []) (c:=.dct []) l1 h1 hp (.inr rfl) nc b_ BP fun P' _=>⟨[],b_,rfl,rfl⟩;rw[J8]at l2 h2 i2;exact q P2 _ _ l2 h2 (cD.of h2 i2)
noncomputable def eE (M:Mm) (d:D):String:=match d with
  | .ref k => (match M[k]? with
    |some (.lst _)=>"list"
    |some (.dct _)=>"dict"
    |_=>"")
  |d=>wH d
noncomputable def eY (tb:String->String->Option Bool) (T:String) (f:E):E:=fun env M=>bnd (f env M) fun d M1=>if eE M1 d="" then none else(tb (eE M1 d) T).map fun b=>(.v (.bl b),M1)
theorem K3:cR X (.builtin "isinstance") (fun xs H Q=>∃(x:V) (T:String) (d:D) (P:Pl) (M:Mm) (b:Bool),xs=[x,.ty T]/\Hk X.K X.mg P H M/\bL X.K P H d x/\eE M d≠""/\PySem.W.kitOne X.K (.type (eE M d)) (.type T)=some b/\Q (.bl b) H):=by
  intro pins s σ H xs us Q I r h;obtain⟨x,T,d,P,M,b,rfl,hk,i,ne,e,q⟩:=h;have old:eE M d=wH (vw M d)->wpAny (model X.prog X.w) X.A (call (.builtin "isinstance") us) (EP X pins σ Q) X.xe s:=fun et=>by
    rw[et]at ne e;exact K1 pins s σ H _ us Q I r ⟨x,T,vw M d,P,b,rfl,bL.vw hk i,ne,e,q⟩
  cases d with
  |ref k=>
    cases em:M[k]? with
    |none=>simp[eE,em]at ne
    |some c=>
      cases c with
      |lst ds=>exact old (by simp[eE,vw,em,wH])
      |obj c fs=>simp[eE,em]at ne
      |dcf kvs=>simp[eE,em]at ne
      |dct kvs=>
        obtain⟨u,w',rfl,rx,rT⟩:=vals2 r;cases rT;obtain⟨kl,rfl⟩:k<P.n/\x=.ref (P.io k):=i;cases rx;obtain⟨vs,ev,_⟩:=hk.cell k _ em;obtain⟨_,_,vs',_,o,es,ep,h1,h2,_⟩:=I.hok _ _ ev;simp only[eE,em]at e;exact xaC xcF I.kIn ⟨o,h1,h2.1⟩ e (fun z=>nomatch z) fun tk=>⟨.bl b,H,I.tok _,rfl,q⟩
  |non=>exact old rfl
  |bl _=>exact old rfl
  |int _=>exact old rfl
  |str _=>exact old rfl
  |tup _=>exact old rfl
  |lst _=>exact old rfl
theorem vX (ht:∀t b,tb t T=some b->PySem.W.kitOne X.K (.type t) (.type T)=some b)(he:SE X Wx .bor e f)(hg:Gl X "isinstance")(hm:X.mg "isinstance"=none)(hg':Gl X (Str.ofString T))(hm':X.mg (Str.ofString T)=none)(hT:bootBuiltins (Str.ofString T)=some (.type T))
  (n1:Str.ofString T≠"__name__":=by x_go) (n2:(Str.ofString T==("__debug__":Str))=false:=by x_go) (hs:starEach [e,.Name (Str.ofString T) p'] X.env=(false,eval e X.env)::starEach [.Name (Str.ofString T) p'] X.env:=by rfl):
  SE X Wx m (.Call (.Name "isinstance" p) [e,.Name (Str.ofString T) p'] [] pos) (eY tb T f):=by
 have pT:PE X (.Name (Str.ofString T) p') (tC (.ty T)):=Rr hg' hm' hT rfl n1 n2;refine bZ (Cd K3 hg hm boot_isinstance (lY he (lY pT pF) hs) (by x_go) (by x_go) hs rfl) ?_;rintro st H Q ⟨P0,H0,P,Os,env,M,r,M',k,e,q⟩;unfold eY at e;rcases bV e with⟨d,M1,e1,e⟩ |⟨c,n,e1,rfl⟩
 ·split at e
  ·cases e
  ·rename_i hne;rw[xaa]at e;obtain⟨b,eb,e⟩:=e;cases e;exact aX k e1 fun P1 v1 H1 l1 h1 i1=>⟨v1,T,d,P1,_,b,rfl,h1,i1,hne,ht _ _ eb,q P1 _ H1 l1 h1 (cD.of h1 (show Is _ _ _ (.bl b) _ from rfl))⟩
 ·exact aX k e1 q
end
section
variable {X:Cx}{Wx:XW}{m:Mode}{pos:Pos}
noncomputable def dD:List Nat->List D->Env->Option Env
 | [],[],env=>some env
 |i::is,d::ds,env=>if i<env.length then dD is ds (env.set i (.val d)) else none
 |_,_,_=>none
def SG (X:Cx)(ts:List Expr)(is:List Nat):Prop:=∃t,rR X ts t/\∀P0 H0 P Os st H M env env' ds vs Q,Ok X.K X.mg P0 H0 P Os H M st env->au X.K P H ds vs->dD is ds env=some env'->(∀Os' st',Ok X.K X.mg P0 H0 P Os' H M st' env'->Q st' H)->t vs st H Q
theorem Dq : SG X [] [] := ⟨_,RM,fun P0 H0 P Os st H M env env' ds vs Q k is e q=>by
 cases ds with
 |nil=>cases e;exact⟨is,q _ _ k⟩
 |cons d ds=>cases e⟩
theorem nq (hN:X.N.Nodup)(hi:X.N[i]? =some x)(hx:Loc X.env.scope x)(hr:SG X ts is)(hf:X.fn x=true\/X.env.scope.names.lookup x=some .local:=by first |exact .inl rfl |exact .inr rfl)
    (hs:(assignEach (.Name x p::ts) X.env).map (·.2)=assign (.Name x p) X.env::(assignEach ts X.env).map (·.2):=by rfl):SG X (.Name x p::ts) (i::is):=by
  obtain⟨t,h1,h2⟩:=hr;refine⟨_,RL (Cg hN hi hx hf) h1 hs,fun P0 H0 P Os st H M env env' ds vs Q k is e q=>?_⟩
  cases ds with
  |nil=>cases e
  |cons d ds=>
    obtain⟨v,r,rfl,iv,is⟩:=is;simp only[dD]at e;split at e
    · rename_i hl;exact⟨v,r,rfl,h2 _ _ _ _ _ _ _ _ _ _ _ _ (k.asg hl iv) is e q⟩
    · cases e
noncomputable def mF (is:List Nat) (f:E):S:=fun env M=>bO (f env M) fun d M1=>match d with
 |.tup ds=>if ds.length=is.length then(dD is ds env).map fun e=>(.nx e,M1) else none
 |_=>none
theorem Xg (hc:X.calm=true)(hg:SG X ts is)(he:SE X Wx .val e f)(hn:(assignEach ts X.env).length=is.length:=by rfl)(hst:(assignEach ts X.env).findIdx? (·.1)=none:=by rfl)
  (hs:swapsWithSole [.Tuple ts n p] e pos.line X.env=pure false:=by rfl) (hw:swappedStores [.Tuple ts n p] e X.env=pure none:=by rfl) (h1:(assignEach [.Tuple ts n p] X.env).map (·.2)=[assign (.Tuple ts n p) X.env]:=by rfl):
  SS X Wx (.Assign [.Tuple ts n p] e pos) (mF is f):=by
 obtain⟨t,hp,ht⟩:=hg;refine gA (R5 he (Ci (n:=is.length) hc hp hn hst) hs hw h1) ?_;rintro D st H ⟨P0,H0,P,Os,env,M,out,M',k,e,q⟩;unfold mF at e;rcases g_ e with⟨d,M1,e1,e⟩ |⟨c,n,e1,rfl⟩
 ·cases d<;>simp only[reduceCtorEq]at e
  rename_i ds;split at e
  ·rename_i hl;rw[xaa]at e;obtain⟨env',ee,e⟩:=e;cases e;refine aX k e1 fun P1 v1 H1 l1 h1 i1=>?_;obtain⟨a,vs,rfl,sq,is'⟩:=i1;exact⟨a,vs,rfl,sq,by rw[is'.len];exact hl,ht _ _ _ _ _ _ _ _ _ _ _ _ (k.next l1 h1) is' ee fun Os' st' k'=>q _ _ _ _ (l1.lt k.hk) k'⟩
  ·cases e
 ·exact aX k e1 q
end
end E3
namespace E3
open PySem L2
section
variable {env:Env}{M M1 M2:Mm}{f g o v:E}{d e x:D}{i:Int}{k:Nat}{ds es:List D}{s t:S}{z:Str}{fa:EA}{b:Bool}
noncomputable def Aj:Option (List D×Mm)->O
 |some (ys,M)=>some (.v (.lst ys),M)
 |none=>none
noncomputable def Gh (q e:E) (env:Env):Option (ResA×Mm)->O
 |some (.v ds,M1)=>Aj (fB q e env ds [] M1)
 |some (.x c n,M1)=>some (.x c n,M1)
 |none=>none
theorem TF {cs:List (Str×Nat)}{q e:E}:mq cs fa q e env M=Gh q e (bQ cs env) (fa env M):=rfl
theorem Vj {q e:E}:Gh q e env (some (.v ds,M))=Aj (fB q e env ds [] M):=rfl
theorem Vk:Aj (some (ds,M))=some (.v (.lst ds),M):=rfl
theorem Ak {q e : E} (F : D -> Option D) : ∀ (ds acc : List D), (∀d∈ds,match F d with
    |some y=>q (.val d::env) M=some (.v (.bl true),M)/\e (.val d::env) M=some (.v y,M)
    |none=>q (.val d::env) M=some (.v (.bl false),M))->acc.length + ds.length<sizeLine->fB q e env ds acc M=some (acc ++ ds.filterMap F,M)
  | [],acc,_,_=>by simp[fB]
  |d::ds,acc,h,hl=>by
    have hd:=h d (by simp);have hr:∀acc',acc'.length + ds.length<sizeLine->fB q e env ds acc' M=some (acc' ++ ds.filterMap F,M):=fun acc' hl'=>Ak F ds acc' (fun d' hd'=>h d' (by simp[hd'])) hl';rw[xar]at hl
    cases hF:F d with
    |none=>
      rw[hF]at hd;simp only[fB,hd,xbo,hF];exact hr acc (by omega)
    |some y=>
      rw[hF]at hd;simp only[fB,hd.1,hd.2,xbo,hF];rw[Z7 (by omega),hr (acc ++ [y]) (by rw[Z4,xay];omega)]
      simp
theorem comp_map {e:E}(F:D->D)(ds:List D)(h:∀d∈ds,e (.val d::env) M=some (.v (F d),M))(hl:ds.length<sizeLine):fB (ao (.bl true)) e env ds [] M=some (ds.map F,M):=by
 rw[Ak (fun d=>some (F d)) ds [] (fun d hd=>⟨rfl,h d hd⟩) (by simpa using hl),List.filterMap_eq_map'];rfl
theorem Tw:bQ [] env=[]:=rfl
theorem Tv {x:Str}{n:Nat}{cs:List (Str×Nat)}:bQ ((x,n)::cs) env=(env[n]?).getD .un::bQ cs env:=rfl
noncomputable def dY (tb:String->String->Option Bool) (T:String) (M:Mm) (ty:String):O:=if ty="" then none else(tb ty T).map fun b=>(.v (.bl b),M)
noncomputable def tZ (tb:String->String->Option Bool) (T:String) (r:O):O:=bnd r fun d M=>dY tb T M (eE M d)
theorem T7 {tb:String->String->Option Bool}{T:String}:eY tb T f env M=tZ tb T (f env M):=rfl
theorem Vz {tb:String->String->Option Bool}{T:String}:tZ tb T (some (.v d,M))=dY tb T M (eE M d):=rfl
theorem ty_int:eE M (.int i)="int":=rfl
theorem ty_str:eE M (.str z)="str":=rfl
theorem Yt:eE M (.bl b)="bool":=rfl
theorem Yv:eE M .non="NoneType":=rfl
theorem Yw:eE M (.tup ds)="tuple":=rfl
theorem Yu:eE M (.lst ds)="list":=rfl
theorem YD {tb:String->String->Option Bool}{T:String}:dY tb T M "int"=(tb "int" T).map fun b=>(.v (.bl b),M):=rfl
theorem YH {tb:String->String->Option Bool}{T:String}:dY tb T M "str"=(tb "str" T).map fun b=>(.v (.bl b),M):=rfl
theorem Eo {tb:String->String->Option Bool}{T:String}:dY tb T M "bool"=(tb "bool" T).map fun b=>(.v (.bl b),M):=rfl
theorem YG {tb:String->String->Option Bool}{T:String}:dY tb T M "NoneType"=(tb "NoneType" T).map fun b=>(.v (.bl b),M):=rfl
theorem YJ {tb:String->String->Option Bool}{T:String}:dY tb T M "tuple"=(tb "tuple" T).map fun b=>(.v (.bl b),M):=rfl
theorem YF {tb:String->String->Option Bool}{T:String}:dY tb T M "list"=(tb "list" T).map fun b=>(.v (.bl b),M):=rfl
theorem YC {tb:String->String->Option Bool}{T:String}:dY tb T M "dict"=(tb "dict" T).map fun b=>(.v (.bl b),M):=rfl
theorem Lz {kvs:List (Key×D)}(h:M[k]? =some (.dct kvs)):h_ M (.ref k)=some (k,kvs):=by unfold h_;simp only[h]
noncomputable def wI (is:List Nat) (env:Env) (M:Mm):D->OS
 |.tup ds=>if ds.length=is.length then(dD is ds env).map fun e=>(.nx e,M) else none
 |_=>none
theorem Us {is:List Nat}:mF is f env M=cH (fun d M1=>wI is env M1 d) (f env M):=rfl
theorem V9 {is:List Nat}:wI is env M (.tup ds)=if ds.length=is.length then(dD is ds env).map fun e=>(.nx e,M) else none:=rfl
theorem Uk:dD [] [] env=some env:=rfl
theorem Ul {n:Nat}{is:List Nat}:dD (n::is) (d::ds) env=if n<env.length then dD is ds (env.set n (.val d)) else none:=rfl
end
end E3
namespace L2
open PySem PySem.Spec PyProof.Rows
end L2
namespace E3
open PySem PySem.Spec PyProof.Rows L2
section
variable {es:List Expr}{env:PySem.Env}{pos:Pos}
theorem dI:starEach (.Constant c k pos::es) env=(false,eval (.Constant c k pos) env)::starEach es env:=by rfl
theorem aO:starEach (.Name x pos::es) env=(false,eval (.Name x pos) env)::starEach es env:=by rfl
theorem gP:starEach (.BinOp a o b pos::es) env=(false,eval (.BinOp a o b pos) env)::starEach es env:=by rfl
theorem lC:starEach (.Call f as ks pos::es) env=(false,eval (.Call f as ks pos) env)::starEach es env:=by rfl
theorem nA:starEach (.Subscript a b pos::es) env=(false,eval (.Subscript a b pos) env)::starEach es env:=by rfl
theorem Dz:starEach (.Tuple as k pos::es) env=(false,eval (.Tuple as k pos) env)::starEach es env:=by rfl
theorem Xh:starEach (.ListComp a gs sc pos::es) env=(false,eval (.ListComp a gs sc pos) env)::starEach es env:=by rfl
end
end E3
namespace L2
open PySem PySem.Spec PyProof.Rows
end L2
namespace E3
open PySem PySem.Spec PyProof.Rows L2
structure XPass (X:Cx)(Wx:XW):Prop where
 xc:∀pins σ H s a C dx T c n P0 H0 P M,Caught X pins σ H s a C dx T->LtE P0 H0 P H->Hk X.K X.mg P H M->X.mg c=some (.ref C)->XN H n dx->Wx P0 H0 M c n->X.xe (.ref a) s
section
variable {K:Fgx}{P:Pl}{H:Hp}
noncomputable def lO:List D->Option (List Int)
 | []=>some []
 |.int i::ds=>(lO ds).map (i:: ·)
 |_::_=>none
theorem xO:∀{ds:List D} {is:List Int} {vs:List V},lO ds=some is->au K P H ds vs->vs=is.map V.int
  | [],_,_,e,h=>by cases e;exact h
  |d::ds,is,vs,e,h=>by
    obtain⟨v,r,rfl,i,h⟩:=h
    cases d with
    |int n=>
      simp only[lO,xaa]at e;obtain⟨is',e',rfl⟩:=e;cases i;rw[xO e' h];rfl
    |_=>simp[lO]at e
theorem ints_map:∀(is:List Int),lO (is.map D.int)=some is
 | []=>rfl
 |i::is=>by simp[lO,ints_map is]
noncomputable def gZ:List D->Option D
 | [.int i]=>if i.natAbs.log2<1920 then some (.str (toString i)) else none
 |_=>none
theorem S8:gQ K (fun xs H Q=>∃i,xs=[.int i]/\i.natAbs.log2<1920/\Q (.str (toString i)) H) gZ:=fun P H ds z vs Q h i _ q=>by
 unfold gZ at h;split at h
 ·split at h
  ·rename_i hl;obtain⟨v,ws,rfl,p,rfl⟩:=i;cases h;cases p;exact⟨_,rfl,hl,q _ H (Same.refl H) rfl⟩
  ·cases h
 ·cases h
noncomputable def dN:List D->Option D
 | [.str z]=>if z.length<=640 then(intText? z).map .int else none
 |_=>none
theorem SJ:gQ K (fun xs H Q=>∃z n,xs=[.str z]/\intText? z=some n/\z.length<=640/\Q (.int n) H) dN:=fun P H ds z vs Q h i _ q=>by
 unfold dN at h;split at h
 ·split at h
  ·rename_i hl;rw[xaa]at h;obtain⟨n,en,rfl⟩:=h;obtain⟨v,ws,rfl,p,rfl⟩:=i;cases p;exact⟨_,n,rfl,en,hl,q _ H (Same.refl H) rfl⟩
  ·cases h
 ·cases h
noncomputable def g8:List D->Option D
 | [.lst ds]=>(lO ds).map fun is=>.int is.sum
 |_=>none
theorem S9:gQ K (fun xs H Q=>∃(p:Addr) (is:List Int),xs=[.ref p]/\bw K H p (is.map V.int)/\Q (.int is.sum) H) g8:=fun P H ds z vs Q h i _ q=>by
 unfold g8 at h;split at h
 ·rw[xaa]at h;obtain⟨is,ei,rfl⟩:=h;obtain⟨v,ws,rfl,p,rfl⟩:=i;obtain⟨a,us,rfl,r,s⟩:=p;rw[xO ei s]at r;exact⟨a,is,rfl,r,q _ H (Same.refl H) rfl⟩
 ·cases h
end
section
variable {X:Cx}{Wx:XW}{m:Mode}{pos:Pos}
def Fb (K:Fgx)(r:V->List V->Hp->VK->Prop)(o:Str->List D->Option D):Prop:=∀(P:Pl) (H:Hp) (y:Str) (ds:List D) (z:D) (vs:List V) (Q:VK),o y ds=some z->lD K P H ds vs->(∀p,H p=none->¬ P.bd p)->(∀u H',Same H H'->Is K P H' z u->Q u H')->r (.str y) vs H Q
noncomputable def yu (o:Str->List D->Option D) (f:E) (fs:EA):E:=fun env M=>bnd (f env M) fun d M1=>match d with
 |.str y=>eG (fs env M1) fun ds M2=>(o y (ds.map (vw M2))).map fun z=>(.v z,M2)
 |_=>none
theorem Ws {a e:Expr}{es:List Expr}{name:Str}{id:String}{r:V->List V->Hp->VK->Prop}{o:Str->List D->Option D}{f:E}{fs:EA}{p:Pos}(slot:PySem.Slot "str" name id)(hty:typeOf (.builtin id)=pure (.type "method_descriptor"))(hm:wO X id r)(po:Fb X.K r o)(ha:SE X Wx .val a f)(hs:SA X Wx .bor (e::es) fs)
  (hbase:attributeBase a name X.env (eval a X.env)=eval a X.env:=by rfl)
  (hfew:((backTo pos (starEach (e::es) X.env)).all (fun x=> !x.1) && (backToKw pos (keywordEach [] X.env)).all (fun x=>x.1.isSome) && decide ((e::es).length + ([]:List Keyword).length + (if ([]:List Keyword).isEmpty then 0 else 1)<30))=true:=by rfl)
  (hline:(p.endLine==pos.line)=true:=by rfl) (hst:starEach (e::es) X.env=(false,eval e X.env)::starEach es X.env:=by rfl) (hplain:(backTo pos (starEach es X.env)).any (·.1)=false:=by rfl):
  SE X Wx m (.Call (.Attribute a name p) (e::es) [] pos) (yu o f fs):=by
 refine bZ (yg PySem.F.plainAttrs_str slot hty hm ha hs hbase hfew hline hst hplain) ?_;rintro st H Q ⟨P0,H0,P,Os,env,M,r,M',k,e,q⟩;unfold yu at e;rcases bV e with⟨d,M1,e1,e⟩ |⟨c,n,e1,rfl⟩
 ·cases d<;>simp only[reduceCtorEq]at e
  rename_i y;refine aX k e1 fun P1 v1 H1 l1 h1 i1=>?_;have k1:=k.next l1 h1
  cases i1;refine⟨rfl,?_⟩;rcases p8 e with⟨ds,M2,e2,e⟩ |⟨c,n,e2,rfl⟩
  ·rw[xaa]at e;obtain⟨z,ez,e⟩:=e;cases e;exact⟨P0,H0,P1,Os,env,M1,_,_,k1,e2,fun P2 vs H2 l2 h2 i2=>po P2 H2 y _ z vs Q ez (cg.w h2 i2) h2.new fun u H' s i=>q P2 u H' (l1.trans (l2.trans (LtE.same s))) (h2.same s) (cD.of (h2.same s) i)⟩
  ·exact⟨P0,H0,P1,Os,env,M1,_,_,k1,e2,q⟩
 ·exact aX k e1 q
noncomputable def wD (z:Str):List D->Option D
  | [.str y]=>match Builtin.Str.occurrences z y 0 z.length 1 with
    |i::_=>some (.int (i:Nat))
    | []=>none
  |_=>none
theorem Sy {K:Fgx}:Fb K IK wD:=fun P H y ds z vs Q h i _ q=>by
 unfold wD at h;split at h
 ·split at h
  ·rename_i eo;cases h;obtain⟨v,ws,rfl,p,rfl⟩:=i;cases p;exact⟨_,_,_,_,rfl,rfl,eo,q _ H (Same.refl H) rfl⟩
  ·cases h
 ·cases h
end
def m_:S:=fun _ _=>none
theorem Xf (h:PS X s fun _ _ _=>False):SS X Wx s m_:=gA h fun D st H ⟨_,_,_,_,_,_,_,_,_,e,_⟩=>by cases e
theorem R6:PS X s fun _ _ _=>False:=fun pins s σ H D I h=>h.elim
theorem rF:SS X Wx s m_:=Xf R6
inductive KRows (K:Fgx)(w:World):List (Str×D)->List DictEntry->List (Key×Value)->Prop
 |nil:KRows K w [] [] []
 |cons {z:Str} {d:D} {t:Tok} {u:Value} {v:V} {hs:Int} {tb:List (Str×D)} {es:List DictEntry} {vs:List (Key×Value)}:hs=hashStr w z->RelV v u->(∀P H,Is K P H d v)->KRows K w tb es vs->KRows K w ((z,d)::tb) (⟨hs,.str z t,u⟩::es) ((.inr z,u)::vs)
def KTab (K:Fgx)(w:World)(a:Addr)(tb:List (Str×D)):Prop:=∃o es ep vs,K.lookup a=some o/\o.ExactDict/\o.data=.dict es ep/\KRows K w tb es.toList vs/\(tb.map (·.1)).Nodup/\(a==sysModules)=false
section
variable {X:Cx}{Wx:XW}{pos:Pos}
noncomputable def xK (fs:EA):EA:=fun env M=>match fs env M with
 |some (.v [.lst ds],M1)=>some (.v ds.reverse,M1)
 |some (.x c n,M1)=>some (.x c n,M1)
 |_=>none
theorem Wy (hg:Gl X "reversed")(hm:X.mg "reversed"=none)(ha:SA X Wx .val [a] fs)(hs:starEach [a] X.env=[(false,eval a X.env)]:=by rfl):SI X Wx tg (.Call (.Name "reversed" p) [a] [] pos) (xK fs):=by
 refine Cj (RV hg hm ha hs) ?_;rintro st H R ⟨P0,H0,P,Os,env,M,r,M',k,e,q⟩;unfold xK at e;split at e
 ·rename_i ds M1 ef;cases e;refine⟨P0,H0,P,Os,env,M,_,_,k,ef,fun P1 vs H1 l1 h1 i1=>?_⟩;obtain⟨v,ws,rfl,i1,rfl⟩:=i1;obtain⟨a,us,rfl,ra,is⟩:=i1;refine⟨a,us,rfl,ra.imp (·.2) id,q P1 H1 _ l1 h1 fun P2 H2 l2=>?_⟩;have ra2:=l2.rda ra;have is2:=au.lt l2 is;have sq:bw X.K H2 a us:=ra2.imp (·.2) id;have hn:us.length=ds.length:=is2.len;rw[xcp];refine⟨fun j hj=>⟨by omega,us,sq,rfl⟩,fun j h1 h2=>by show j=us.length;omega,fun j x H' y hj=>⟨y.1,?_⟩⟩;have hj':ds.length - 1 - j<ds.length:=by omega
  obtain⟨v,ev,iv⟩:=au.get is2 (Z6 hj');have:=y.2 us sq;rw[hn,ev]at this;cases this;exact⟨_,by rw[List.getElem?_reverse hj,Z6 hj'],iv⟩
 ·rename_i c n M1 ef;cases e;exact⟨P0,H0,P,Os,env,M,_,_,k,ef,q⟩
 ·cases e
end
end E3
namespace L2
open PySem PySem.Spec PyProof.Rows
def Za (h:Heap)(a t:Addr)(i:Int):Prop:=∃o,h.get? a=some o/\o.cls=.type "reversed"/\o.data=.fields #[.ref t,rawInt i]
end L2
namespace E3
open PySem PySem.Spec PyProof.Rows L2
section
variable {X:Cx}{Wx:XW}{m:Mode}{pos:Pos}
noncomputable def kh:D->D->Option D
 |.lst xs,.lst ys=>if xs.length + ys.length<=sizeLine then some (.lst (xs ++ ys)) else none
 |_,_=>none
theorem PN {K:Fgx}{P:Pl}{H:Hp}{d e z:D}{v w:V}(h:kh d e=some z)(h1:bF K P H d v)(h2:bF K P H e w):∃ds a b vs ws,z=.lst ds/\v=.ref a/\w=.ref b/\bw K H a vs/\bw K H b ws/\vs.length + ws.length<=sizeLine/\au K P H ds (vs ++ ws):=by
 unfold kh at h;split at h
 ·split at h
  ·rename_i hl;cases h;obtain⟨a,vs,rfl,r1,s1⟩:=h1;obtain⟨b,ws,rfl,r2,s2⟩:=h2;exact⟨_,a,b,vs,ws,rfl,rfl,rfl,r1,r2,by rw[s1.len,s2.len];exact hl,s1.append s2⟩
  ·cases h
 ·cases h
theorem WW {a b:Expr}{f g:E}(ha:SE X Wx .bor a f)(hb:SE X Wx .bor b g):SN X Wx (.BinOp a .Add b pos) (s2 kh f g):=by
 refine bZ (Ik Ig ha hb) ?_;rintro st H Q ⟨P0,H0,P,Os,env,M,r,M',k,e,q⟩;unfold s2 at e;rcases bV e with⟨d,M1,e1,e⟩ |⟨c,n,e1,rfl⟩
 ·refine aX k e1 fun P1 v1 H1 l1 h1 i1=>?_;have k1:=k.next l1 h1
  rcases bV e with⟨d2,M2,e2,e⟩ |⟨c,n,e2,rfl⟩
  ·refine aX k1 e2 fun P2 v2 H2 l2 h2 i2=>?_;rw[xaa]at e;obtain⟨z,ez,e⟩:=e;cases e;obtain⟨ds',e',q⟩:=q;obtain⟨ds,a,b,vs,ws,ed,ea,eb,r1,r2,hl,is⟩:=PN ez (bL.vw h2 (bL.lt l2 h1 i1)) (bL.vw h2 i2);cases ed.symm.trans e';refine⟨a,b,vs,ws,ea,eb,r1,r2,hl,fun p hp=>?_⟩;obtain⟨l3,h3,nc⟩:=p7 (vs:=vs ++ ws) h2 hp;exact q (P2.bar p) p (vs ++ ws) _ (l1.trans (l2.trans l3)) h3 (l1.sure p (l2.sure p hp)) (.inr rfl) nc b_ (au.lt (l3.lt h2) is)
  ·exact aX k1 e2 q
 ·exact aX k e1 q
theorem Hl {K:Fgx}{a:Addr}{o:Obj}{its:Array Value}{n:Nat}{ds:List D}{vs:List V}(l:K.lookup a=some o)(c:o.cls=.type "tuple")(e:o.data=.seq its n)(z:its.size<=sizeLine)(r:Vals vs its.toList)(i:∀P H,au K P H ds vs):∀P H,Is K P H (.tup ds) (.ref a):=
 fun P H=>⟨a,vs,rfl,.inr ⟨o,its,n,l,c,e,z,r⟩,i P H⟩
def nJ (P:Program)(w:World)(K:Fgx)(mg:Mgx)(base:Heap)(k:Nat)(C:Addr)(m:Str)(n:Nat)(g:G):Prop:=
 ∃f fd ps ds dvs sp,Meth K C m f/\FnOk P w K mg base fO k f fd ps sp/\Binds K fd ps ds/\Vals dvs ds/\∀vs H Q E,mK K mg n g vs H Q E->sp (vs ++ dvs) H Q E
theorem nJ.mono {P:Program}{w:World}{K:Fgx}{mg:Mgx}{base:Heap}{j k:Nat}{C:Addr}{m:Str}{n:Nat}{g:G}(a:nJ P w K mg base j C m n g)(h:j<=k):nJ P w K mg base k C m n g:=by
 obtain⟨f,fd,ps,ds,dvs,sp,h1,h2,h3⟩:=a;exact⟨f,fd,ps,ds,dvs,sp,h1,h2.mono h,h3⟩
structure OwnIs (K:Fgx)(C:Addr):Prop where
 ca:PySem.W.findIn K (.ref C) "__class__"=some (some (.builtin "object.__class__"))
 gt:PySem.W.specialIn K (.builtin "object.__class__") "__get__"=some (some (.builtin "getset_descriptor.__get__"))
 tk:PySem.W.takesIn K (.builtin "object.__class__")=some true
 mr:PySem.W.mroIn K C (.type "object")=some true
 me:PySem.W.kitOne K (.ref C) (.ref C)=some true
end
end E3
namespace E3
open PySem L2
noncomputable def dg (n:Nat):List Nat:=(Nat.toDigits 10 n).map Char.toNat
theorem GC (n:Nat):NumText.AllDigits (dg n):=fun c hc=>by
 obtain⟨d,hd,rfl⟩:=xaW.mp hc;have h:=Nat.isDigit_of_mem_toDigits (by decide) (by decide) hd;simp only[Char.isDigit,xam,xa8]at h;exact⟨h.1,h.2⟩
theorem GF (n:Nat):dg n≠ []:=fun e=>Nat.toDigits_ne_nil (List.map_eq_nil_iff.mp e)
theorem GD (h1:1<=k)(h:n<10 ^ k):(dg n).length<=k:=by
 rw[dg,xai];exact toDigits_len_pow (by decide) h1 h
noncomputable def mJ (i:Int):Str:=Str.ofString (toString i)
theorem yW (h:0<=i):(mJ i).cps.toList=dg i.toNat:=by
 have:=W.KIN.signs_num i.toNat;rw[xdn h]at this;exact this
theorem JD (h:i<0):(mJ i).cps.toList=45::dg i.natAbs:=by
 obtain⟨m,rfl⟩:∃m,i=Int.negSucc m:=by
  cases i with
  |ofNat n=>exact absurd h (by simp)
  |negSucc m=>exact⟨m,rfl⟩
 unfold mJ dg;rw[PyProof.Rows.signs_ofString];show List.map Char.toNat ("-" ++ toString (m + 1)).toList=_;rw[String.toList_append,xaB,Nat.toString_eq_ofList_toDigits]
 simp
theorem JC (h1:1<=k)(h:i.natAbs<10 ^ k):(mJ i).length<=k + 1:=by
 show(mJ i).cps.size<=k + 1;rw[<-xaz]
 by_cases h0:0<=i
 ·rw[yW h0];have:=GD (n:=i.toNat) h1 (by rw[<-Int.natAbs_of_nonneg h0]at *;simpa using h);omega
 ·rw[JD (by omega),xar];have:=GD h1 h;omega
theorem Ny (h:i.natAbs<10 ^ 600):intText? (mJ i)=some i:=by
 have hl:=JC (by decide) h
 by_cases h0:0<=i
 ·rw[intText_digits (by rw[yW h0];exact GC _) (by rw[yW h0];exact GF _) (by omega),yW h0];have:=W.KIN.val_back i.toNat;unfold dg;rw[this,xdn h0]
 ·rw[intText_neg (JD (by omega)) (GC _) (GF _) (by omega)];have:=W.KIN.val_back i.natAbs;unfold dg;rw[this];congr 1;omega
noncomputable def cd (s:Str):List Nat:=s.cps.toList
theorem sH (a b:Str):cd (a ++ b)=cd a ++ cd b:=by
 unfold cd;rw[Str.cps_append,Array.toList_append]
theorem gj (x:Str):x.length=(cd x).length:=by
 show x.cps.size=x.cps.toList.length
 simp
theorem Ag (c:Nat):cd ⟨#[c]⟩=[c]:=rfl
theorem O6 (h:n<340282366920938463463374607431768211456):n.log2<1920:=by
 by_cases h0:n=0
 ·rw[h0];decide
 ·have:=(Nat.log2_lt h0 (k:=128)).mpr h;omega
section
variable {env:Env}{M M1:Mm}{f g h c:E}{d e:D}{i j:Int}{n k:Nat}{z:Str}{b:Bool}{ds es:List D}{s t:S}{x:Str}{fa:EA}{u:G}
theorem Ve {q:D->Mm->OS}:cH q (some (.x x i,M))=some (.ex x i,M):=rfl
theorem Vc {q:D->Mm->O}:dO q (some (.x x i,M))=some (.x x i,M):=rfl
theorem Va {q:List D->Mm->O}:gW q (some (.x x i,M))=some (.x x i,M):=rfl
theorem Vo {q:Mm->Option (ResA×Mm)}:Ao q (some (.x x i,M))=some (.x x i,M):=rfl
theorem Vm:lM d (some (.x x i,M))=some (.x x i,M):=rfl
noncomputable def vg (q:List D->OS):Option Cl->OS
 |some (.lst ds)=>q ds
 |_=>none
theorem VG {q:List D->OS}:vg q (some (.lst ds))=q ds:=rfl
noncomputable def rZ (env:Env) (g:Mm->O) (M:Mm):D->OS
 |.ref k=>vg (fun _=>cH (fun y M2=>vg (fun ds=>if ds.length<sizeLine then some (.nx env,M2.set k (.lst (ds ++ [y]))) else none) M2[k]?) (g M)) M[k]?
 |_=>none
theorem U9 {q:Mm->O}:rZ env q M (.ref k)=vg (fun _=>cH (fun y M2=>vg (fun ds=>if ds.length<sizeLine then some (.nx env,M2.set k (.lst (ds ++ [y]))) else none) M2[k]?) (q M)) M[k]? :=rfl
theorem Tq:gC f g env M=cH (fun d M1=>rZ env (g env) M1 d) (f env M):=rfl
theorem YW (h:M[k]? =some (.lst ds)):vw M (.ref k)=.lst ds:=by unfold vw;simp only[h]
noncomputable def Jb:Option (ResA×Mm)->Option (ResA×Mm)
 |some (.v [.lst ds],M1)=>some (.v ds.reverse,M1)
 |some (.x c n,M1)=>some (.x c n,M1)
 |_=>none
theorem T6:xK fa env M=Jb (fa env M):=rfl
theorem Vy:Jb (some (.v [.lst ds],M))=some (.v ds.reverse,M):=rfl
noncomputable def HW (o:Str->List D->Option D) (q:Mm->Option (ResA×Mm)) (M:Mm):D->O
 |.str y=>lG (o y) (q M)
 |_=>none
theorem C_ {o:Str->List D->Option D}{q:Mm->Option (ResA×Mm)}:HW o q M (.str z)=lG (o z) (q M):=rfl
theorem Cu {o:Str->List D->Option D}:yu o f fa env M=dO (fun d M1=>HW o (fa env) M1 d) (f env M):=rfl
theorem Qc:kh (.lst ds) (.lst es)=if ds.length + es.length<=sizeLine then some (.lst (ds ++ es)) else none:=rfl
theorem Qa {y:Str}:aP (.str z) (.str y)=if z.length + y.length<=sizeLine then some (.str (z ++ y)) else none:=rfl
theorem Ql:aV (.str z) (.int i)=if z.length<=sizeLine then(bI z.cps.toList i).map fun c=>.str ⟨#[c]⟩ else none:=rfl
theorem Qo:cG [.str z]=if z.length<=sizeLine then some (.int z.length) else none:=rfl
theorem Ca:gZ [.int i]=if i.natAbs.log2<1920 then some (.str (toString i)) else none:=rfl
theorem BX:dN [.str z]=if z.length<=640 then(intText? z).map .int else none:=rfl
theorem Qh {y:Str}:aH .isin (.str z) (.str y)=some (.bl (xM z y)):=rfl
theorem Qz {y:Str}:aH .notin (.str z) (.str y)=some (.bl (!xM z y)):=rfl
theorem Qf {y:Str}:aH .eq (.str z) (.str y)=some (.bl (decide (z=y))):=by
 unfold aH bM mV;rw[Z7 (by constructor<;>first |rfl |simp[D.dep])]
 have:(z==y)=decide (z=y):=by rw[xa3];simp
 simp[D.eq,this]
theorem Qx {y:Str}:aH .ne (.str z) (.str y)=some (.bl (!decide (z=y))):=by
 unfold aH bM mX;rw[Z7 (by constructor<;>first |rfl |simp[D.dep])]
 have:(z==y)=decide (z=y):=by rw[xa3];simp
 simp[D.eq,this]
theorem Qi:aH .same .non .non=some (.bl true):=rfl
theorem Qj:aH .other (.int i) .non=some (.bl true):=rfl
theorem Qk:aH .other .non .non=some (.bl false):=rfl
noncomputable def rH (k:Nat) (t:S) (ds:List D):OS->OS
 |some (.nx e,M1)=>loopS k t ds e M1
 |some (.ct e,M1)=>loopS k t ds e M1
 |some (.bk e,M1)=>some (.nx e,M1)
 |some (.rt d,M1)=>some (.rt d,M1)
 |some (.ex c n,M1)=>some (.ex c n,M1)
 |none=>none
theorem T_:loopS k t [] env M=some (.nx env,M):=rfl
theorem yq:loopS k t (d::ds) env M=if k<env.length then rH k t ds (t (env.set k (.val d)) M) else none:=rfl
theorem yt {e':Env}:rH k t ds (some (.nx e',M))=loopS k t ds e' M:=rfl
theorem V5 {e':Env}:rH k t ds (some (.ct e',M))=loopS k t ds e' M:=rfl
theorem V4 {e':Env}:rH k t ds (some (.bk e',M))=some (.nx e',M):=rfl
theorem IV:rH k t ds (some (.rt d,M))=some (.rt d,M):=rfl
theorem V6:rH k t ds (some (.ex x i,M))=some (.ex x i,M):=rfl
theorem Fo {α:Type}{xs:List α}{i:Int}(d:α)(h0:0<=i)(h1:i<xs.length):bI xs i=some (xs.getD i.toNat d):=by
 obtain⟨k,rfl⟩:∃k:Nat,i=k:=⟨i.toNat,by omega⟩;have hk:k<xs.length:=by omega
 exact lH (by simp[hk])
theorem at0 {α:Type}{a:α}{xs:List α}:bI (a::xs) 0=some a:=lH (j:=0) rfl
theorem at1 {α:Type}{a b:α}{xs:List α}:bI (a::b::xs) 1=some b:=lH (j:=1) rfl
theorem at2 {α:Type}{a b c:α}{xs:List α}:bI (a::b::c::xs) 2=some c:=lH (j:=2) rfl
theorem Kz {α:Type}{a b c d:α}{xs:List α}:bI (a::b::c::d::xs) 3=some d:=lH (j:=3) rfl
theorem G6 {M:Mm}{cl:Cl}:(M ++ [cl])[M.length]? =some cl:=List.getElem?_concat_length ..
theorem s_end {M:Mm}{cl cl':Cl}:(M ++ [cl]).set M.length cl'=M ++ [cl']:=by simp
theorem w_end {M:Mm}:vw (M ++ [.lst ds]) (.ref M.length)=.lst ds:=YW G6
theorem Ls {α:Type}(xs:List α){i:Int}(h:0<=i):dW xs none (some i)=xs.take i.toNat:=by
 obtain⟨k,rfl⟩:∃k:Nat,i=k:=⟨i.toNat,by omega⟩;unfold dW;rw[HT.Wh,HT.Wg,xcr,Nat.sub_zero,xcG]
 by_cases hk:k<=xs.length
 ·rw[Nat.min_eq_left hk]
 ·rw[Nat.min_eq_right (by omega),xcj,xcf (by omega)]
end
end E3
namespace L2
open PySem PySem.Spec PyProof.Rows
end L2
namespace E3
open PySem PySem.Spec PyProof.Rows L2
end E3
namespace L2
open PySem PySem.Spec PyProof.Rows
end L2
namespace E3
open PySem PySem.Spec PyProof.Rows L2
end E3
namespace L2
open PySem PySem.Spec PyProof.Rows
section
variable {X:Cx}{pins:Pnx}{σ:St}{H:Hp}{s:Shared}{a:Addr}{u u':HO}
theorem Inv.swap (I:Inv X pins σ H s)(ha:H a=some u)(h1:∀xs,u≠ .tup xs)(h2:∀b,u≠ .own b)(h3:∀ps,u≠ .tbl ps)(hf:∀o v,X.H₀ a≠some (.frz o v))
  (ok:cj X.prog X.w (upd H a u') s.heap a u'):Inv X pins σ (upd H a u') s:=by
 have ne:∀b,H b=none->b≠a:=fun b e z=>by rw[z,ha]at e;cases e
 refine⟨I.ok,I.os,I.bare,?_,I.loc,I.cell,?_,?_,?_,?_,I.len⟩
 ·refine⟨I.base.keep,I.base.slot,fun b o e1 e2 e3=>?_,I.base.there,fun b xs e=>?_,fun b o v e=>?_,fun b ps e=>?_⟩
  ·have:=I.base.free b o e1 e2 e3;rw[aW (ne b this)];exact this
  ·have:=I.base.tups b xs e
   by_cases z:b=a
   ·rw[z,ha]at this;cases this;exact absurd rfl (h1 xs)
   ·rw[aW z];exact this
  ·have:=I.base.frzs b o v e
   by_cases z:b=a
   ·rw[z]at e;exact absurd e (hf o v)
   ·rw[aW z];exact this
  ·obtain⟨more,this⟩:=I.base.tbls b ps e
   by_cases z:b=a
   ·rw[z,ha]at this;cases this;exact absurd rfl (h3 _)
   ·exact⟨more,by rw[aW z];exact this⟩
 ·rw[aW (ne _ I.free)];exact I.free
 ·intro x c e;have:=I.freeC x c e;rw[aW (ne _ this)];exact this
 ·intro p hp;obtain⟨q1,q2,q3⟩:=I.pin p hp;exact⟨q1,by rw[aW (ne _ q2)];exact q2,q3⟩
 ·intro b o e
  by_cases z:b=a
  ·rw[z]at e ⊢;rw[b_]at e;cases e;exact ok
  ·rw[aW z]at e;refine(I.hok b o e).stay (fun c v _ q=>q) (fun c q=>?_) (fun c xs q=>?_)
   ·by_cases y:c=a
    ·rw[y,ha]at q;cases q;exact absurd rfl (h2 _)
    ·rw[aW y];exact q
   ·by_cases y:c=a
    ·rw[y,ha]at q;cases q;exact absurd rfl (h1 _)
    ·rw[aW y];exact q
end
theorem wY (ok:bK P w H h)(e:H a=some (.frz ob (.dK kvs)))(hd:ob.data=.dict es0 ep):
  ∃vs,KV kvs vs/\h.DictAt (gO P w) a vs ep:=by
 obtain⟨g,_,_,vs,r,o,es,ep',ho,hx,hdat,rest⟩:=ok a _ e;rw[g]at ho;cases ho;rw[hd]at hdat;cases hdat;exact⟨vs,r,ob,es0,g,hx,hd,rest⟩
theorem Wc {k:Key}{v:Value}(h:n6 k v=true):RelV (kV k) v:=by
 rcases lg h with⟨i,t,rfl,rfl⟩ |⟨x,t,rfl,rfl⟩<;>exact⟨_,rfl⟩
section
variable {X:Cx}{tg:Expr}
theorem Rz {e:Expr}{t:TE}(h:PE X e t):PE X e fun σ H Q=>t σ H fun v H'=>∃a kvs,H' a=some (.dK kvs)/\∀ob es ep,ob.data=.dict es ep->Q v (upd H' a (.frz ob (.dK kvs))):=by
 intro pins s σ H Q I w;refine aU (h pins s σ H _ I w) fun v s1 ⟨x,H1,I1,r1,a,kvs,ha,q⟩=>?_;obtain⟨sz,sa,vs,rv,dd⟩:=I1.hok a _ ha;obtain⟨ob,es,ep,hob,hex,hdat,rest⟩:=id dd;have nf:∀o u,X.H₀ a≠some (.frz o u):=fun o u e=>by
  have:=I1.base.frzs a o u e;rw[ha]at this;cases this
 exact⟨x,_,I1.swap (u':=.frz ob (.dK kvs)) ha (fun _ z=>by cases z) (fun _ z=>by cases z) (fun _ z=>by cases z) nf ⟨hob,I1.hok a _ ha⟩,r1,q ob es ep hdat⟩
end
end L2
namespace E3
open PySem PySem.Spec PyProof.Rows L2
section
variable {X:Cx}{Wx:XW}{m:Mode}{pos:Pos}
open Classical in
end
end E3
namespace E3
open PySem PySem.Spec PyProof.Rows L2
section
variable {X:Cx}{Wx:XW}{pos:Pos}
noncomputable def kJ (is:List Nat) (d:D) (env:Env):Option Env:=match d with
 |.tup es=>if es.length=is.length then dD is es env else none
 |_=>none
noncomputable def eU (is:List Nat) (body:S):List D->Env->Mm->OS
  | [],env,M=>some (.nx env,M)
  |d::ds,env,M=>match kJ is d env with
    | some env1 => (match body env1 M with
      |some (.nx e,M1)=>eU is body ds e M1
      |some (.ct e,M1)=>eU is body ds e M1
      |some (.bk e,M1)=>some (.nx e,M1)
      |some (.rt d,M1)=>some (.rt d,M1)
      |some (.ex c n,M1)=>some (.ex c n,M1)
      |none=>none)
    |none=>none
noncomputable def vQ (is:List Nat) (fs:EA) (body:S):S:=fun env M=>match fs env M with
 |some (.v ds,M1)=>eU is body ds env M1
 |some (.x c n,M1)=>some (.ex c n,M1)
 |none=>none
theorem Xe (hp:PassesOwn (model X.prog X.w) X.A X.env X.xe)(hc:X.calm=true)(hG:SG X ts is)(hI:SI X Wx (.Tuple ts n tp) iter fs)(hb:SB X Wx body b)
    (hn:(assignEach ts X.env).length=is.length:=by rfl) (hst:(assignEach ts X.env).findIdx? (·.1)=none:=by rfl)
    (hfs:∀x,foldedSetIterable iter X.env x=pure x:=by intro _;rfl):SS X Wx (.For (.Tuple ts n tp) iter body [] pos) (vQ is fs b):=by
  obtain⟨t,hpg,ht⟩:=hG;refine gA (yh hp hc hI (Ci (n:=is.length) hc hpg hn hst) hb hfs) ?_;rintro D st H ⟨P0,H0,P,Os,env,M,out,M',k,e,q⟩;unfold vQ at e;split at e
  · rename_i ds M1 ef;refine⟨P0,H0,P,Os,env,M,_,_,k,ef,fun P1 H1 J l1 h1 wk=>?_⟩;have k1:=k.next l1 h1
    have q1:=q.lt (l1.lt k.hk);refine⟨fun j m σ H=>m=ds.length - j/\j<=ds.length/\∃P Os' M2 env',Lt P1 H1 P H/\Ok X.K X.mg P0 H0 P Os' H M2 σ env'/\eU is b (ds.drop j) env' M2=some (out,M'),⟨ds.length,by simp,xaE _,P1,Os,M1,env,Lt.refl _ _,k1,e⟩,?_⟩;rintro j m σ H2 ⟨rfl,hj,P2,Os',M2,env',lt,k',h'⟩;obtain⟨w1,w2,w3⟩:=wk P2 H2 lt
    by_cases hlt:j<ds.length
    · refine .inr ⟨w1 j hlt,fun σ' H'=>∃P Os' M2 env',Lt P1 H1 P H'/\Ok X.K X.mg P0 H0 P Os' H' M2 σ' env'/\eU is b (ds.drop (j + 1)) env' M2=some (out,M'),fun σ' H' z=>⟨ds.length - (j + 1),by omega,rfl,hlt,z⟩,fun x H3 y=>?_⟩;obtain⟨e3,d,ed,iv⟩:=w3 j x H3 y hlt;subst e3;have ed':ds.drop j=d::ds.drop (j + 1):=by
        rw[xa4 hlt];rw[Z6 hlt]at ed;rw[xan ed]
      rw[ed']at h';simp only[eU]at h';split at h'
      · rename_i env1 ee;unfold kJ at ee;split at ee
        · rename_i es;split at ee
          · rename_i hl;obtain⟨a,vs,rfl,sq,is'⟩:=iv;refine⟨a,vs,rfl,sq,by rw[is'.len];exact hl,ht _ _ _ _ _ _ _ _ _ _ _ _ k' is' ee fun Os2 st2 k4=>?_⟩;split at h'
            · rename_i e4 M4 eb;exact⟨P0,H0,P2,_,_,M2,_,_,k4,eb,fun P' Os2 H2 st2 l2 k5=>⟨P',Os2,_,e4,lt.trans l2,k5,h'⟩⟩
            · rename_i e4 M4 eb;exact⟨P0,H0,P2,_,_,M2,_,_,k4,eb,fun P' Os2 H2 st2 l2 k5=>⟨P',Os2,_,e4,lt.trans l2,k5,h'⟩⟩
            · rename_i e4 M4 eb;cases h';exact⟨P0,H0,P2,_,_,M2,_,_,k4,eb,fun P' Os2 H2 st2 l2 k5=>q1 P' Os2 H2 st2 (lt.trans l2) k5⟩
            · rename_i d4 M4 eb;cases h';exact⟨P0,H0,P2,_,_,M2,_,_,k4,eb,q1⟩
            · rename_i c4 n4 M4 eb;cases h';exact⟨P0,H0,P2,_,_,M2,_,_,k4,eb,q1⟩
            · cases h'
          · cases ee
        · cases ee
      · cases h'
    · have ej:j=ds.length:=by omega
      subst ej;rw[xbZ]at h';cases h';exact .inl ⟨w2 _ (tG _) (tG _),q1 P2 Os' H2 σ lt k'⟩
  · rename_i c n M1 ef;cases e;exact⟨P0,H0,P,Os,env,M,_,_,k,ef,q⟩
  · cases e
end
section
variable {X:Cx}{Wx:XW}{m:Mode}{pos:Pos}{K:Fgx}
noncomputable def vZ (d:D) (lo hi:Option Int):Option D:=match d with
 |.tup ds=>if HT.aR ds.length 0 lo=0/\HT.aR ds.length ds.length hi=ds.length then none else some (.tup (dW ds lo hi))
 |_=>none
noncomputable def mC (f:E) (l h:Env->Mm->Option (Option Int×Mm)):E:=fun env M=>bnd (f env M) fun d M1=>match l env M1 with
  | some (lo, M2) => (match h env M2 with
    |some (hi,M3)=>(vZ d lo hi).map fun z=>(.v z,M3)
    |none=>none)
  |none=>none
theorem Wv {e:Expr}{lo hi:Option Expr}{p2:Pos}{f:E}{l h:Env->Mm->Option (Option Int×Mm)}(he:SE X Wx .val e f)(hl:pY X lo l)(hh:pY X hi h):SE X Wx m (.Subscript e (.Slice lo hi none p2) pos) (mC f l h):=by
 refine bZ (Il WK he hl hh) ?_;rintro st H Q ⟨P0,H0,P,Os,env,M,r,M',k,e,q⟩;unfold mC at e;rcases bV e with⟨d,M1,e1,e⟩ |⟨c,n,e1,rfl⟩
 ·split at e
  ·rename_i lo' M2 el;split at e
   ·rename_i hi' M3 eh;rw[xaa]at e;obtain⟨z,ez,e⟩:=e;cases e;refine⟨P0,H0,P,Os,env,M,_,_,k,e1,fun P1 v1 H1 l1 h1 i1=>⟨P0,H0,P1,Os,env,M1,_,_,k.next l1 h1,el,fun P2 H2 l2 h2=>⟨P0,H0,P2,Os,env,M2,_,_,(k.next l1 h1).next l2 h2,eh,fun P3 H3 l3 h3=>?_⟩⟩⟩
    have i3:=Is.lt (l3.lt h2) (Is.lt (l2.lt h1) i1);have fin:∀u H',Same H3 H'->Is X.K P3 H' z u->Q u H':=fun u H' s i=>q P3 u H' (l1.trans (l2.trans (l3.trans (LtE.same s)))) (h3.same s) (cD.of (h3.same s) i);unfold vZ at ez;split at ez
    ·split at ez
     ·cases ez
     ·rename_i hw;cases ez;obtain⟨a,vs,rfl,r,s⟩:=i3;exact⟨a,vs,rfl,r,by rw[s.len];exact hw,Px (Gq s) fin⟩
    ·cases ez
   ·cases e
  ·cases e
 ·exact⟨P0,H0,P,Os,env,M,_,_,k,e1,q⟩
end
section
variable {env:Env}{M:Mm}{f g:E}{d:D}{i:Int}{ds es:List D}{fa:EA}{x:Str}{k:Nat}
noncomputable def pP (d:D) (lo:Option Int):Option (Option Int×Mm)->O
 |some (hi,M3)=>mapR M3 (vZ d lo hi)
 |none=>none
noncomputable def v8 (d:D) (k:Mm->Option (Option Int×Mm)):Option (Option Int×Mm)->O
 |some (lo,M2)=>pP d lo (k M2)
 |none=>none
theorem Um {l u:Env->Mm->Option (Option Int×Mm)}:mC f l u env M=dO (fun d M1=>v8 d (u env) (l env M1)) (f env M):=rfl
theorem V3 {lo:Option Int}{q:Mm->Option (Option Int×Mm)}:v8 d q (some (lo,M))=pP d lo (q M):=rfl
theorem V2 {lo hi:Option Int}:pP d lo (some (hi,M))=mapR M (vZ d lo hi):=rfl
end
end E3
namespace L2
open PySem PySem.Spec PyProof.Rows
section
variable {X:Cx}
theorem K7:X.calm=true->cR X (.builtin "max") (fun xs H Q=>∃(p:Addr) (is:List Int),xs=[.ref p]/\0<is.length/\bw X.K H p (is.map V.int)/\∀m,m∈is->(∀a∈is,a<=m)->Q (.int m) H):=by
 intro hc pins s σ H xs us Q I r h;obtain⟨p,is,rfl,hne,hq,q⟩:=h;obtain⟨u,rfl,rx⟩:=vals1 r;cases rx;obtain⟨its,rv,pl,hz⟩:=I.list hq;have hi:=Bc rv;have hn:=hi.numsOf;have hlen:=rv.length;rw[xai]at hlen;obtain⟨zs,hzs⟩:=hi.allInts.items;have hl:=pl.isList;have e1:numsOf its.toArray.toList=is:=hn;rw[hzs]at hl e1;have hs:0<zs.size:=by
  have:its.toArray.size=zs.size:=by rw[hzs];simp[intItems]
  rw[Z8]at this;omega
 rw[nums_intItems]at e1;refine max_intList (I.ok.hd hc) hl hs fun v h' tk hv hk=>?_;obtain⟨t,rfl⟩:=intItems_at hv;obtain⟨h1,h2⟩:=argBest_gt (numAt zs) (zs.size - 1);refine⟨.int _,H,I.kept hk,⟨t,rfl⟩,q _ ?_ fun a ha=>?_⟩
 ·rw[<-e1,numAt_eq];exact getD_mem (by rw[xai,xaz];omega)
 ·rw[<-e1]at ha;obtain⟨j,hj,rfl⟩:=mem_getD ha;rw[xai,xaz]at hj;rw[<-numAt_eq];exact h2 j (by omega)
end
end L2
namespace E3
open PySem PySem.Spec PyProof.Rows L2
section
variable {X:Cx}{Wx:XW}{pos:Pos}
noncomputable def dF:List Int->Int
 | []=>0
 | [a]=>a
 |a::b::r=>max a (dF (b::r))
theorem Em:∀{is:List Int} {m:Int},m∈is->(∀a∈is,a<=m)->dF is=m
  | [],_,h,_=>by cases h
  | [a],m,h,_=>by rw[xal]at h;exact h.symm
  |a::b::r,m,h,g=>by
    have ha:=g a (xaG ..);unfold dF;rcases xah.mp h with rfl |h
    · have:dF (b::r)<=m:=by
        have hb:∀(l:List Int),l≠ []->(∀a∈l,a<=m)->dF l<=m:=fun l=>by
          induction l with
          |nil=>exact fun z=>absurd rfl z
          |cons c l ih=>
            intro _ g
            cases l with
            |nil=>exact g c (by simp)
            |cons d l=>
              have h1:=g c (by simp);have h2:=ih (by simp) fun a ha=>g a (xak _ ha);unfold dF;omega
        exact hb (b::r) (by simp) fun a ha=>g a (xak _ ha)
      omega
    · have:=Em h fun a ha=>g a (xak _ ha);omega
noncomputable def sy:List D->Option D
  | [.lst ds]=>match lO ds with
    |some is=>if 0<is.length then some (.int (dF is)) else none
    |none=>none
  |_=>none
theorem S5 {K:Fgx}:gQ K (fun xs H Q=>∃(p:Addr) (is:List Int),xs=[.ref p]/\0<is.length/\bw K H p (is.map V.int)/\∀m,m∈is->(∀a∈is,a<=m)->Q (.int m) H) sy:=fun P H ds z vs Q h i _ q=>by
 unfold sy at h;split at h
 ·split at h
  ·rename_i is ei;split at h
   ·rename_i hl;cases h;obtain⟨v,ws,rfl,p,rfl⟩:=i;obtain⟨a,us,rfl,r,s⟩:=p;have eu:=xO ei s;subst eu;exact⟨a,is,rfl,hl,r,fun m h1 h2=>by rw[<-Em h1 h2];exact q _ H (Same.refl H) rfl⟩
   ·cases h
  ·cases h
 ·cases h
end
end E3
namespace E3
end E3
namespace E3
open PySem PySem.Spec PyProof.Rows L2
mutual
def D.nr:D->Bool
 |.tup xs=>D.nrs xs
 |.lst xs=>D.nrs xs
 |.ref _=>false
 |_=>true
def D.nrs:List D->Bool
 | []=>true
 |a::as=>D.nr a && D.nrs as
end
noncomputable def Pf:Pl:=⟨fun _=>0,0,fun _=>False⟩
section
variable {K:Fgx}{mg:Mgx}{P P':Pl}{H H':Hp}{M:Mm}
mutual
theorem Is.fre:∀{d:D} {v:V},D.nr d=true->Is K P H d v->Is K Pf H d v
 |.non,_,_,h=>h
 |.bl _,_,_,h=>h
 |.int _,_,_,h=>h
 |.str _,_,_,h=>h
 |.tup _,_,n,h=>by obtain⟨a,vs,e,s,q⟩:=h;exact⟨a,vs,e,s,au.fre n q⟩
 |.lst _,_,n,h=>by obtain⟨a,vs,e,s,q⟩:=h;exact⟨a,vs,e,s.imp (fun z=>⟨fun z=>z,z.2⟩) id,au.fre n q⟩
 |.ref _,_,n,_=>by cases n
theorem au.fre:∀{ds:List D} {vs:List V},D.nrs ds=true->au K P H ds vs->au K Pf H ds vs
  | [],_,_,h=>h
  |_::_,_,n,h=>by
    obtain⟨v,r,e,p,q⟩:=h;have n:=xdh.mp n;exact⟨v,r,e,Is.fre n.1 p,au.fre n.2 q⟩
end
mutual
theorem Is.lf_any:∀{d:D} {v:V},D.lf d=true->Is K P H d v->Is K P' H d v
 |.non,_,_,h=>h
 |.bl _,_,_,h=>h
 |.int _,_,_,h=>h
 |.str _,_,_,h=>h
 |.tup _,_,n,h=>by obtain⟨a,vs,e,s,q⟩:=h;exact⟨a,vs,e,s,au.lf_any n q⟩
 |.lst _,_,n,_=>by cases n
 |.ref _,_,n,_=>by cases n
theorem au.lf_any:∀{ds:List D} {vs:List V},D.lfs ds=true->au K P H ds vs->au K P' H ds vs
  | [],_,_,h=>h
  |_::_,_,n,h=>by
    obtain⟨v,r,e,p,q⟩:=h;have n:=xdh.mp n;exact⟨v,r,e,Is.lf_any n.1 p,au.lf_any n.2 q⟩
end
end
section
variable {X:Cx}{Wx:XW}{m:Mode}{pos:Pos}
theorem dG (hr:Room k X.A)(h:X.A.units + 60<cLine->SB X Wx ss b):SB X Wx ss b:=h (Nat.lt_of_le_of_lt (Nat.add_le_add_left (by decide) _) hr.units)
theorem gF {e:Expr}{es:List Expr}{x:Str}{id:String}{r:List V->Hp->VK->Prop}{o:List D->Option D}{fs:EA}{p:Pos}(hc:cR X (.builtin id) r)(hg:Gl X x)(hm:X.mg x=none)(hv:bootBuiltins x=some (.builtin id))(po:gQ X.K r o)(ha:SA X Wx .bor (e::es) fs)
  (hn:x≠"__name__":=by x_go) (hdb:(x==("__debug__":Str))=false:=by x_go) (he:starEach (e::es) X.env=(false,eval e X.env)::starEach es X.env:=by rfl) (hpl:(backTo pos (starEach es X.env)).any (·.1)=false:=by rfl):SE X Wx m (.Call (.Name x p) (e::es) [] pos) (sN o fs):=
 Jy (fun _ ha=>Cd hc hg hm hv ha hn hdb he hpl) po ha
theorem Jz (hc:cR X (.type T) r)(hg:Gl X x)(hm:X.mg x=none)(hv:bootBuiltins x=some (.type T))(po:gQ X.K r o)(ha:SA X Wx .bor (e::es) fs)
  (hn:x≠"__name__":=by x_go) (hdb:(x==("__debug__":Str))=false:=by x_go) (he:starEach (e::es) X.env=(false,eval e X.env)::starEach es X.env:=by rfl) (hpl:(backTo pos (starEach es X.env)).any (·.1)=false:=by rfl):SE X Wx m (.Call (.Name x p) (e::es) [] pos) (sN o fs):=
 Jy (fun _ ha=>Ii hc hg hm hv ha hn hdb he hpl) po ha
end
section
variable (P:Program)(w:World)(K:Fgx)(mg:Mgx)(base:Heap)(k:Nat)(f:Addr)(N:List Str)(q:Str)(st:Stmt)(b:S)
abbrev RT:Prop:=∀(cdv:Value) (A:Around) (outer:List PySem.Env) (s:Shared) (H:Hp) (E:XK),Room k (A.deeper (envOfC q (bx st) s.heap.objs.size f cdv))->SB (sI P w K mg base N q st f cdv A outer s H E) W0 (dw st) b
end
theorem dH (h1:sc.kind=.function:=by rfl)(h2:sc.isCoroutine=false:=by rfl)(h3:sc.isGenerator=false:=by rfl)(h4:N.Nodup:=by x_go)(h5:N.take P.length=P:=by rfl)
  (h6:∀x∈P,sc.names.lookup x=some .local\/sc.names.lookup x=some .cell:=by x_go) (h7:∀y∈sc.names,y.2≠ .free:=by x_go):FnScope N P sc:=⟨h1,h2,h3,h4,h5,h6,h7⟩
abbrev LV (st:Stmt)(x:Str):Prop:=(bx st).names.lookup x=some .local
structure DefAt (K:Fgx)(mg:Mgx)(x:Str)(st:Stmt)(ps:List Str)(f:Addr)(fd:FuncData):Prop where
 mg:mg x=some (.ref f)
 F:FunD K x x st f fd
 b:Binds K fd ps []
theorem DefAt.ok {P:Program}{w:World}{K:Fgx}{mg:Mgx}{base:Heap}{k:Nat}{x:Str}{st:Stmt}{f:Addr}{fd:FuncData}{N ps:List Str}{b:S}(D:DefAt K mg x st ps f fd)(S:FnScope N ps (bx st))(hr:RT P w K mg base k f N x st b)(hp:ps.length<=N.length:=by decide):aZ P w K mg base (k + 1) x ps.length (cF N.length b):=Mx D.F S hp D.mg D.b hr
def bA (K:Fgx)(x:Str)(st:Stmt):Prop:=∃(f:Addr) (oc kV dc pm cd ct:Value) (od an:Option Addr) (sl:Array (Option Value)),PySem.W.nsIn K mainGlobals x=some (some (.ref f))/\K.lookup f=some ⟨oc,od,.func (PySem.W.fnOf x x (d9 st) (dw st) (bx st) .none kV dc pm an cd ct),sl⟩/\PySem.W.codeIn K cd x=true/\PySem.W.keepIn K (.ref f)=true
theorem bA.mk {K:Fgx}{x:Str}{st:Stmt}{f:Addr}{oc kV dc pm cd ct:Value}{od an:Option Addr}{sl:Array (Option Value)}(a:PySem.W.nsIn K mainGlobals x=some (some (.ref f)))(l:K.lookup f=some ⟨oc,od,.func (PySem.W.fnOf x x (d9 st) (dw st) (bx st) .none kV dc pm an cd ct),sl⟩)(c:PySem.W.codeIn K cd x=true)(k:PySem.W.keepIn K (.ref f)=true):bA K x st:=⟨f,oc,kV,dc,pm,cd,ct,od,an,sl,a,l,c,k⟩
theorem bA.at {K:Fgx}{h:Heap}{mg:Mgx}{x:Str}{st:Stmt}{ps:List Str}(F:bA K x st)(X:K.In h)(G:h.Ns mainGlobals mg)
  (hb:∀(kV doc pm:Value) (an:Option Addr) (cdv ct:Value) (us:List Value),us.length=ps.length->bindArgs (PySem.W.fnOf x x (d9 st) (dw st) (bx st) .none kV doc pm an cdv ct) ⟨us,[]⟩=pure (ps.zip us)):∃f fd,DefAt K mg x st ps f fd:=by
 obtain⟨f,oc,kV,dc,pm,cd,ct,od,an,sl,a,l,c,k⟩:=F;exact⟨f,_,PySem.W.mg_of X G a,G4 l c k,(G5 (st:=st) l c k).binds hb⟩
end E3
namespace L2
open PySem PySem.Spec PyProof.Rows
abbrev TH:=Ends->Addr->Addr->Option Addr->St->Hp->Prop
def HB (X:Cx)(hs:List ExceptHandler)(t:TH):Prop:=∀(pins:Pnx) (s:Shared) (σ:St) (H:Hp) (a C:Addr) (dx:Option Addr) (T:Addr) (D:Ends),
 Caught X pins σ H s a C dx T->gK X.K C=true->X.A.handled=none->t D C a dx σ H->wpAny (model X.prog X.w) X.A (handleBy (.ref a) X.env hs) (SP X pins D) X.xe s
end L2
namespace E3
open PySem PySem.Spec PyProof.Rows L2
abbrev HE:=Str->Int->Env->Mm->OS
section
variable {X:Cx}{Wx:XW}{m:Mode}{pos:Pos}
noncomputable def tH (X:Cx) (hh:HE):TH:=fun D C a dx st H=>∃P0 H0 P Os env M c n out M',Ok X.K X.mg P0 H0 P Os H M st env/\X.mg c=some (.ref C)/\Fe X.K X.mg P H none (some (.ref a)) (.exc c n)/\hh c n env M=some (out,M')/\Post X.K X.mg W0 P0 H0 P H M' D out
def zE (out:Out):Prop:=(∃e,out=.nx e)\/∃d,out=.rt d
structure SH (X:Cx)(hs:List ExceptHandler)(hh:HE):Prop where
 hb:HB X hs (tH X hh)
 ok:∀c n env M out M',hh c n env M=some (out,M')->(∃C,X.mg c=some (.ref C)/\gK X.K C=true)/\zE out
variable {suite:List Stmt}{b0:Stmt}{cn n:Str}{np hp:Pos}{c:Addr}{i:Nat}{h:S}{hs:List ExceptHandler}{r:HE}{cat:Str->Option Bool}
end
end E3
namespace L2
open PySem PySem.Spec PyProof.Rows
section
variable {X:Cx}{e:Expr}{es:List Expr}{te:TE}{t:TA}{pos:Pos}
open Builtin Builtin.Str in
open Builtin Builtin.Str in
open Builtin Builtin.Str in
end
end L2
namespace E3
open PySem PySem.Spec PyProof.Rows L2
section
variable {X:Cx}{Wx:XW}{m:Mode}
theorem Sv {P:Program}{w:World}{K:Fgx}{mg:Mgx}{base:Heap}{N:List Str}{q:Str}{st:Stmt}{f:Addr}{cdv:Value}{A:Around}{outer:List PySem.Env}{s:Shared}{H:Hp}{E:XK}{i:Nat}{x:Str}{pos:Pos}(hN:N[i]? =some x:=by rfl)(hv:LV st x:=by kernel_rfl)(hd:(x==("__debug__":Str))=false:=by x_go)(hcd:(x==("__classdict__":Str))=false:=by x_go):SE (sI P w K mg base N q st f cdv A outer s H E) Wx m (.Name x pos) (aj i):=Dp hN hv hd hcd
theorem Lv {P:Program}{w:World}{K:Fgx}{mg:Mgx}{base:Heap}{N:List Str}{q:Str}{st:Stmt}{f:Addr}{cdv:Value}{A:Around}{outer:List PySem.Env}{s:Shared}{H:Hp}{E:XK}{x:Str}(hv:LV st x:=by kernel_rfl):Loc (sI P w K mg base N q st f cdv A outer s H E).env.scope x:=.inl hv
theorem Lu {a b:Prop}(h:a:=by kernel_rfl):a\/b:=.inl h
theorem Ei {i:Int}{j pos}:SE X Wx m (.Constant (.int i) j pos) (ao (.int i)):=Dl Rx
theorem Es {z:Str}{j pos}:SE X Wx m (.Constant (.str z) j pos) (ao (.str z)):=Dm RG
theorem Eb {b:Bool}{j pos}:SE X Wx m (.Constant (.bool b) j pos) (ao (.bl b)):=Di Rq
theorem Ek {a b:Expr}{pos:Pos}{f g:E}(ha:SE X Wx .bor a f)(hb:SE X Wx .bor b g)(hs:zF b:=by exact fun _ _=>rfl):SE X Wx m (.Subscript a b pos) (s2 aV f g):=Wq Oc SM ha hb hs
theorem Cm {a b:Expr}{op:CmpOp}{c:Cp}{pos:Pos}{f g:E}(hu:X.A.units + 60<cLine)(ha:SE X Wx .bor a f)(hb:SE X Wx .bor b g)(ho:op=nU c:=by rfl)(hm:behindInMarks op b=false:=by rfl):SE X Wx m (.Compare a [op] [b] pos) (s2 (aH c) f g):=by subst ho;exact Wm (xg hu c) Iu ha hb hm
theorem Ct {a b:Expr}{op:CmpOp}{c:Cp}{pos:Pos}{f g:E}(hu:X.A.units + 60<cLine)(ha:SE X Wx .bor a f)(hb:SE X Wx .bor b g)(ho:op=nU c:=by rfl)(hm:behindInMarks op b=false:=by rfl):ST X Wx (.Compare a [op] [b] pos) (s2 (aH c) f g):=by subst ho;exact DG (xg hu c) Iu ha hb hm
end
section
variable {P:Program}{w:World}{K:Fgx}{h base:Heap}{mg:Mgx}{k:Nat}{x:Str}{st:Stmt}{N ps:List Str}{b:S}
abbrev HB (x:Str)(st:Stmt)(ps:List Str):Prop:=∀(kV doc pm:Value) (an:Option Addr) (cdv ct:Value) (us:List Value),us.length=ps.length->bindArgs (PySem.W.fnOf x x (d9 st) (dw st) (bx st) .none kV doc pm an cdv ct) ⟨us,[]⟩=pure (ps.zip us)
theorem Kl {a0:Str}(h:∀{kV doc pm:Value} {an:Option Addr} {cdv ct u0:Value},bindArgs (PySem.W.fnOf x x (d9 st) (dw st) (bx st) .none kV doc pm an cdv ct) ⟨[u0],[]⟩=pure [(a0,u0)]):HB x st [a0]:=fun _ _ _ _ _ _ us hl=>match us,hl with | [_],_=>h
theorem Km {a0 a1:Str}(h:∀{kV doc pm:Value} {an:Option Addr} {cdv ct u0 u1:Value},bindArgs (PySem.W.fnOf x x (d9 st) (dw st) (bx st) .none kV doc pm an cdv ct) ⟨[u0,u1],[]⟩=pure [(a0,u0),(a1,u1)]):HB x st [a0,a1]:=fun _ _ _ _ _ _ us hl=>match us,hl with | [_,_],_=>h
theorem Ko {a0 a1 a2:Str}(h:∀{kV doc pm:Value} {an:Option Addr} {cdv ct u0 u1 u2:Value},bindArgs (PySem.W.fnOf x x (d9 st) (dw st) (bx st) .none kV doc pm an cdv ct) ⟨[u0,u1,u2],[]⟩=pure [(a0,u0),(a1,u1),(a2,u2)]):HB x st [a0,a1,a2]:=fun _ _ _ _ _ _ us hl=>match us,hl with | [_,_,_],_=>h
theorem Kp {a0 a1 a2 a3:Str}(h:∀{kV doc pm:Value} {an:Option Addr} {cdv ct u0 u1 u2 u3:Value},bindArgs (PySem.W.fnOf x x (d9 st) (dw st) (bx st) .none kV doc pm an cdv ct) ⟨[u0,u1,u2,u3],[]⟩=pure [(a0,u0),(a1,u1),(a2,u2),(a3,u3)]):HB x st [a0,a1,a2,a3]:=fun _ _ _ _ _ _ us hl=>match us,hl with | [_,_,_,_],_=>h
theorem Kq {a0 a1 a2 a3 a4:Str}(h:∀{kV doc pm:Value} {an:Option Addr} {cdv ct u0 u1 u2 u3 u4:Value},bindArgs (PySem.W.fnOf x x (d9 st) (dw st) (bx st) .none kV doc pm an cdv ct) ⟨[u0,u1,u2,u3,u4],[]⟩=pure [(a0,u0),(a1,u1),(a2,u2),(a3,u3),(a4,u4)]):HB x st [a0,a1,a2,a3,a4]:=fun _ _ _ _ _ _ us hl=>match us,hl with | [_,_,_,_,_],_=>h
theorem bA.ok (F:bA K x st)(X:K.In h)(G:h.Ns mainGlobals mg)(S:FnScope N ps (bx st))(hr:∀f,RT P w K mg base k f N x st b)
  (hb:HB x st ps:=by first |exact Kl rfl |exact Km rfl |exact Ko rfl |exact Kp rfl |exact Kq rfl) (hp:ps.length<=N.length:=by decide):aZ P w K mg base (k + 1) x ps.length (cF N.length b):=by
 obtain⟨f,d,D⟩:=F.at X G hb;exact D.ok S (hr f) hp
theorem aZ.up {j n:Nat}{g:G}(a:aZ P w K mg base j x n g)(h:j<=k:=by decide):aZ P w K mg base k x n g:=a.mono h
theorem mL.up {j n:Nat}{g:G}(a:mL P w K mg base j x n g)(h:j<=k:=by decide):mL P w K mg base k x n g:=a.mono h
theorem nH.up {j n:Nat}{C:Addr}{g:G}(a:nH P w K mg base j C n g)(h:j<=k:=by decide):nH P w K mg base k C n g:=a.mono h
theorem lq {K:Fgx}{t:Addr}{d m s j0 j1 j2}{a b:Str}{i:Int}(l:K.lookup t=some ⟨.type "tuple",d,.seq #[.str a j0,.str b j1,.int i j2] m,s⟩):∀P H,Is K P H (.tup [.str a,.str b,.int i]) (.ref t):=Hl (vs:=[.str a,.str b,.int i]) l rfl rfl (by show 3<=sizeLine;decide) (.cons ⟨_,rfl⟩ (.cons ⟨_,rfl⟩ (.cons ⟨_,rfl⟩ .nil))) (fun _ _=>⟨_,_,rfl,rfl,⟨_,_,rfl,rfl,⟨_,_,rfl,rfl,rfl⟩⟩⟩)
end
section
variable {X:Cx}{Wx:XW}{m:Mode}{pos:Pos}
noncomputable def sJ (M:Mm) (d:D):Option (Nat×List (Key×D)):=match d with
  | .ref k => (match M[k]? with
    |some (.dcf kvs)=>some (k,kvs)
    |_=>none)
  |_=>none
theorem Ly {M:Mm}{d:D}{k:Nat}{kvs:List (Key×D)}(h:sJ M d=some (k,kvs)):d=.ref k/\M[k]? =some (.dcf kvs):=by
 unfold sJ at h;split at h
 ·split at h
  ·cases h;rename_i e;exact⟨rfl,e⟩
  ·cases h
 ·cases h
noncomputable def gD (f:E):E:=fun env M=>bnd (f env M) fun d M1=>match h_ M1 d with
 |some (j,kvs)=>some (.v d,M1.set j (.dcf kvs))
 |none=>none
theorem Wr {e:Expr}{f:E}(h:SE X Wx .val e f):SE X Wx m e (gD f):=by
 refine bZ (Rz h) ?_;rintro st H Q ⟨P0,H0,P,Os,env,M,r,M',k,e,q⟩;unfold gD at e;rcases bV e with⟨d,M1,e1,e⟩ |⟨c,n,e1,rfl⟩
 ·refine aX k e1 fun P1 v1 H1 l1 h1 i1=>?_;split at e
  ·rename_i j kvs ed;cases e;obtain⟨rfl,em⟩:=Av ed;obtain⟨jl,rfl⟩:j<P1.n/\v1=.ref (P1.io j):=i1;obtain⟨vs,ev,en,is⟩:=h1.cell j _ em;refine⟨P1.io j,vs,ev,fun ob es ep hd=>?_⟩;have lc:Lt P1 H1 P1 (upd H1 (P1.io j) (.frz ob (.dK vs))):=o_ (h1.bd j jl) ev BP;obtain⟨l2,l2e,h2⟩:=h1.set (c':=.dcf kvs) (o':=.frz ob (.dK vs)) em ⟨vs,ob,es,ep,b_,hd,en,au.lt lc is⟩;exact q P1 _ _ (l1.trans l2e) h2 (cD.of h2 (show Is _ _ _ (.ref j) _ from⟨jl,rfl⟩))
  ·cases e
 ·exact aX k e1 q
def lU:Key->D
 |.inl i=>.int i
 |.inr x=>.str x
theorem is_key {K:Fgx}{P:Pl}{H:Hp}(k:Key):Is K P H (lU k) (kV k):=by
 cases k<;>rfl
end
end E3
namespace L2
open PySem PySem.Spec PyProof.Rows
noncomputable def Zc (N:List Str) (psc:Scope) (xs:List Str) (cs:List (Str×Nat)) (scope:Scope):Bool:=
 scope.kind==.function && xs.all (fun x=>scope.names.lookup x==some .local) && decide ((xs ++ cs.map (·.1)).Nodup) &&
 scope.names.all (fun y=>y.2 !=.cell && (y.2 !=.local || scope.names.lookup y.1==some .local) && (y.2 !=.free || (psc.names.lookup y.1==some .cell || psc.names.lookup y.1==some .free))) &&
 cs.all (fun p=>N[p.2]? ==some p.1 && (psc.names.lookup p.1==some .cell || psc.names.lookup p.1==some .free) && ((cN psc scope.names).lookup p.1==some .cell || (cN psc scope.names).lookup p.1==some .free))
structure CompOkT (N:List Str)(psc:Scope)(xs:List Str)(cs:List (Str×Nat))(scope:Scope):Prop where
 kind:scope.kind=.function
 own:∀x∈xs,scope.names.lookup x=some .local
 nd:(xs ++ cs.map (·.1)).Nodup
 cell:∀y∈scope.names,y.2≠ .cell
 names:∀y∈scope.names,y.2=.local->scope.names.lookup y.1=some .local
 has:∀y∈scope.names,y.2=.free->psc.names.lookup y.1=some .cell\/psc.names.lookup y.1=some .free
 cap:∀p∈cs,N[p.2]? =some p.1/\(psc.names.lookup p.1=some .cell\/psc.names.lookup p.1=some .free)/\((cN psc scope.names).lookup p.1=some .cell\/(cN psc scope.names).lookup p.1=some .free)
noncomputable def zB (a:Addr) (ob:Obj) (kvs:List (Key×V)):It:=
 ⟨fun i H=>i<kvs.length/\H a=some (.frz ob (.dK kvs)),fun i H x H'=>∃(T:Addr) (p:Key×V),H T=none/\x=.ref T/\kvs[i]? =some p/\H'=upd H T (.tup [kV p.1,p.2]),fun i H=>i=kvs.length/\H a=some (.frz ob (.dK kvs))⟩
theorem KV.both {κ:Type}:∀{kvs:List (κ×V)} {vs:List (κ×Value)} {i:Nat} {p:κ×V},KV kvs vs->kvs[i]? =some p->∃q,vs[i]? =some q/\p.1=q.1/\RelV p.2 q.2:=by
  intro kvs vs i p r;unfold KV at r
  induction r generalizing i with
  |nil=>intro e;simp at e
  |cons h t ih=>
    intro e
    cases i with
    |zero=>simp only[List.getElem?_cons_zero]at e;cases e;exact⟨_,rfl,h.1,h.2⟩
    |succ n=>simp only[xa7]at e ⊢;exact ih e
theorem N8:entryFor table "dict_itemiterator.__iter__"=some Builtin.«dict_keyiterator.__iter__» :=
 entryFor_alias (id':="dict_keyiterator.__iter__") (by kernel_rfl) rfl (by x_go) (by kernel_rfl)
theorem N_ {prog:Program}{w:World}{A:Around}{E:Value->Shared->Prop}{s:Shared}{it d:Addr}{i n ep:Nat}{ok ov:Value}{Q:Value->Shared->Prop}(hit:IsItemIter s.heap it d i n ep ok ov)(h:Q (.ref it) s):wpAny (model prog w) A (pyIter (.ref it)) Q E s:=by
 have hT:s.TypeIs (.ref it) "dict_itemiterator":=⟨_,hit,rfl⟩;refine wpAny_pyIter_slot hT xb7 (xbW xb7 hT N8 ?_ (PySem.F.args_dict_itemiterator_iter_1 _));exact Z9 ⟨_,rfl,"dict_itemiterator",_,hT,PySem.F.slot_dict_itemiterator_next.lookup,h⟩
theorem Yo {P:Program}{w:World}{K:Fgx}{ts:List Expr}{k:Nat}{pos:Pos}(a it:Addr)(ob:Obj)(kvs:List (Key×V)){es:Array DictEntry}{ep:Nat}(hd:ob.data=.dict es ep):
  Turn P w K (.Tuple ts k pos) (zB a ob kvs) [it] it (fun i h=>∃ok ov,IsItemIter h it a i kvs.length ep ok ov) where
 mem:=by simp
 obj:=fun i h st b hb=>by
  have e:b=it:=by simpa using hb
  subst e;obtain⟨ok,ov,e⟩:=st;exact⟨_,e,fun v z=>by cases z⟩
 keep:=fun i h h' st k=>by
  obtain⟨ok,ov,e⟩:=st;exact⟨ok,ov,k it (by simp) _ e⟩
 item:=by
  intro X hP hw hK hc i pins s σ H E I hf st hg;subst hP hw hK;obtain⟨hi,hq⟩:=hg;obtain⟨vs,rv,dat⟩:=wY I.hok hq hd;have hx:kvs[i]? =some (kvs[i]'hi):=Z6 hi;obtain⟨⟨kk,u⟩,hu,ek,ru⟩:=rv.both hx;obtain⟨ok,ov,st⟩:=st;have st0:IsItemIter s.heap it a i vs.length ep ok ov:=by rw[<-rv.length];exact st
  refine wpAny_pyNext_items_item st0 dat hu fun key h' hk so t1 hsz kp=>?_;refine⟨_,rfl,wpAny_letOwnedTupleGo_items so fun h2 s2 sb=>?_⟩;rw[<-rv.length]at s2;have its:it<s.heap.objs.size:=xad st;have kk':∀c o,c∉ [it]->s.heap.get? c=some o->h2.get? c=some o:=fun c o hc e=>by
   have hc':c≠it:=by simpa using hc
   exact sb.extBut _ _ hc' (kp c o hc' e)
  have tT:h2.IsTuple s.heap.objs.size #[key,u]:=⟨_,sb.extBut _ _ (xcQ its) t1,rfl,_,rfl⟩;have ek':(kvs[i]'hi).1=kk:=ek;have rk:RelV (kV (kvs[i]'hi).1) key:=by rw[ek'];exact Wc hk
  have I2:Inv X pins σ (upd H s.heap.objs.size (.tup [kV (kvs[i]'hi).1,(kvs[i]'hi).2])) {s with heap:=h2,toks:=s.toks}:=I.turnLaid kk' hf (tG _) ⟨by show 2<=sizeLine;decide,[key,u],.cons rk (.cons ru .nil),tT⟩;refine⟨.ref s.heap.objs.size,_,I2,rfl,⟨s.heap.objs.size,_,I.hok.fresh (tG _),rfl,hx,rfl⟩,⟨_,_,s2⟩,fun c hc=>?_⟩;have ec:c=it:=by simpa using hc
  rw[aW (by rw[ec];exact xap its)];exact(hf c hc).1
 done:=by
  intro X hP hw hK hc i pins s σ H E I hf st hg;subst hP hw hK;obtain⟨hi,hq⟩:=hg;obtain⟨vs,rv,dat⟩:=wY I.hok hq hd;obtain⟨f0,f1,f2,f3,f4,f5⟩:=hf it (by simp);obtain⟨ok,ov,st⟩:=st;have st0:IsItemIter s.heap it a i vs.length ep ok ov:=by rw[<-rv.length];exact st
  exact wpAny_pyNext_items_end (I.ok.hd hc) st0 dat (xaQ (by rw[hi,rv.length];exact tG _)) fun h' eb=>⟨rfl,I.turned (t':=s.toks) (fun b o hb e=>eb b o hb e) f0 f1 f3 f4 f5⟩
 self:=fun _ _ _ _ _ st h=>by
  obtain⟨ok,ov,st⟩:=st;exact N_ st h
section
variable {X:Cx}{ts:List Expr}{k:Nat}{tp:Pos}
noncomputable def Nm (td:TE):TI:=fun σ H R=>td σ H fun v H1=>∃a ob kvs es ep,v=.ref a/\H1 a=some (.frz ob (.dK kvs))/\ob.data=.dict es ep/\R (zB a ob kvs) H1
theorem RN {o:Expr}{td:TE}{p q:Pos}(ho:PE X o td)(hbase:attributeBase o "items" X.env (eval o X.env)=eval o X.env:=by rfl)(hline:(p.endLine==q.line)=true:=by rfl):PI X (.Tuple ts k tp) (.Call (.Attribute o "items" p) [] [] q) (Nm td):=by
 intro pins s σ H R I h;refine wpAny_Call_method0_late hbase hline (aU (ho pins s σ H _ I h) fun v s1 ⟨x,H1,I1,r1,a,ob,kvs,es,ep,ex,ha,hd,q1⟩=>?_);subst ex;obtain rfl:v=Value.ref a:=r1;obtain⟨g,sz,sa,vs,rv,dd⟩:=I1.hok a _ ha;obtain⟨vs',rv',dat⟩:=wY I1.hok ha hd;have hex:ob.dict=none:=by
  obtain⟨ob',_,_,hob',hex,_⟩:=id dd;rw[g]at hob';cases hob';exact hex.2.1
 refine⟨"dict","dict.items",xc3,xc4,PySem.F.type_dict_items,dd.typeIs,fun b e=>by cases e;exact⟨ob,g,hex⟩,Calls.callWith_builtin rfl (PySem.evalArgs_none ?_)⟩;refine call_meetsIn xc4 dd.typeIs PySem.F.entry_dict_items (PySem.F.args_dict_items_1 _) (meets_dict_items (gO X.prog X.w) a sa) ⟨⟨vs,dd⟩,?_⟩;have I2:Inv X pins σ H1 {s1 with heap:=s1.heap.push {cls:=.type "dict_items",data:=.fields #[.ref a]}}:=I1.kept (t':=s1.toks) fun b o e=>xac _ e;obtain⟨vs2,rv2,da⟩:=wY I2.hok ha hd;refine wpAny_pyIter_items (s:={s1 with heap:=s1.heap.push {cls:=.type "dict_items",data:=.fields #[.ref a]}}) (v:=s1.heap.objs.size) ⟨_,xau _ rfl,rfl,rfl⟩ da ?_;have I3:Inv X pins σ H1 {s1 with heap:=(s1.heap.push {cls:=.type "dict_items",data:=.fields #[.ref a]}).push {cls:=.type "dict_itemiterator",data:=.fields #[.none,.bool false,.ref a,.int 0 0,.int vs2.length 0,.int ep 0,.none,.none]}}:=I2.kept (t':=s1.toks) fun b o e=>xac _ e;refine⟨_,[(s1.heap.push {cls:=.type "dict_items",data:=.fields #[.ref a]}).objs.size],_,zB a ob kvs,_,rfl,I3,Yo a _ ob kvs hd,?_,fun c hc=>?_,q1⟩
 ·rw[rv2.length];exact⟨.none,.none,xau _ rfl⟩
 ·have e:c=(s1.heap.push {cls:=.type "dict_items",data:=.fields #[.ref a]}).objs.size:=by simpa using hc
  subst e;exact I2.fpOk (tG _) (I2.hok.fresh (tG _))
end
end L2
namespace E3
open PySem PySem.Spec PyProof.Rows L2
section
variable {X:Cx}{Wx:XW}{m:Mode}{pos:Pos}
open Classical in
end
end E3
namespace E3
open PySem PySem.Spec PyProof.Rows L2
end E3
namespace L2
open PySem PySem.Spec PyProof.Rows
end L2
namespace E3
open PySem PySem.Spec PyProof.Rows L2
end E3
namespace L2
open PySem PySem.Spec PyProof.Rows
end L2
namespace E3
open PySem PySem.Spec PyProof.Rows L2
section
variable {X:Cx}{Wx:XW}{m:Mode}{pos:Pos}
noncomputable def lK (j:Nat) (e:E) (env:Env):Nat->Nat->List D->Mm->Option (List D×Mm)
  |0,_,_,_=>none
  |n + 1,t,acc,M=>match M[j]? with
    | some (.lst ds) => (match ds[t]? with
      |none=>some (acc,M)
      | some d => (match e (.val d::env) M with
        |some (.v y,M2)=>if acc.length + 1<sizeLine then lK j e env n (t + 1) (acc ++ [y]) M2 else none
        |_=>none))
    |_=>none
noncomputable def kj (n:Nat) (cs:List (Str×Nat)) (f e:E):E:=fun env M=>bnd (f env M) fun d M1=>match d with
  | .ref j => (match lK j e (bQ cs env) n 0 [] M1 with
    |some (ys,M2)=>some (.v (.lst ys),M2)
    |none=>none)
  |_=>none
theorem Lp {n:Nat}{cs:List (Str×Nat)}{f e:E}:∀env M r M',kj n cs f e env M=some (.v r,M')->∃ds,r=.lst ds:=fun env M r M' h=>by
 unfold kj at h;rcases bV h with⟨d,M1,e1,h⟩ |⟨c,n,e1,h⟩
 ·split at h
  ·split at h
   ·cases h;exact⟨_,rfl⟩
   ·cases h
  ·cases h
 ·cases h
theorem Lq {K:Fgx}{mg:Mgx}{n:Nat}{cs:List (Str×Nat)}{f e:E}{P0 P:Pl}{H0 H:Hp}{Os:List (Option Addr)}{M M':Mm}{st:L2.St}{env:Env}{r:Res}{R:Addr->Hp->Prop}(nd:(cs.map (·.2)).Nodup)
    (k:Ok K mg P0 H0 P Os H M st env) (ee:kj n cs f e env M=some (r,M')) (w:NR K mg Wx P0 H0 P H M' R r):wC (Hf K (tE K mg Wx .val f)) gH (tE K mg W0 .val e) cs st H R:=by
  unfold kj at ee;rcases bV ee with⟨d,M1,e1,ee⟩ |⟨c,n,e1,rfl⟩
  · split at ee
    · rename_i j;split at ee
      · rename_i ys M2 ec;cases ee;obtain⟨ds',e',w⟩:=w;cases e';refine⟨P0,H0,P,Os,env,M,_,_,k,e1,fun P1 v1 H1 l1 h1 i1=>?_⟩;obtain⟨jl,rfl⟩:j<P1.n/\v1=.ref (P1.io j):=i1;have hl:∃vs,bw K H1 (P1.io j) vs:=by
          cases n with
          |zero=>cases ec
          |succ n=>
            simp only[lK]at ec;split at ec
            · rename_i ds em;obtain⟨vs,ev,is⟩:=h1.cell j _ em;exact⟨vs,.inl (.inl ev)⟩
            · cases ec
        refine ⟨P1.io j, rfl, hl, fun D hD => ?_⟩;obtain ⟨l2, h2, nc⟩ := p7 (vs := []) h1 hD;refine ⟨fun i m vs H2=>∃P2 M3 acc,LtE P1 H1 P2 H2/\Hk K mg P2 H2 M3/\P2.bd D/\(∀k,k<P2.n->P2.io k≠D)/\H2 D=some (.lst vs)/\au K P2 H2 acc vs/\acc.length<sizeLine/\lK j e (bQ cs env) m i acc M3=some (ys,M'),
          ⟨n,P1.bar D,M1,[],l2,h2,.inr rfl,nc,b_,rfl,by x_go,ec⟩,?_⟩
        rintro i m vs H2 ⟨P2,M3,acc,l3,h3,bD,nD,eD,is,hz,ec⟩;refine⟨eD,?_⟩
        cases m with
        |zero=>cases ec
        |succ m=>
          simp only[lK]at ec;split at ec
          · rename_i ds em;obtain⟨us,ev,iu⟩:=h3.cell j _ em;rw[l3.io j jl]at ev;have sq:bw K H2 (P1.io j) us:=.inl (.inl ev);split at ec
            · rename_i et;cases ec;exact .inl ⟨⟨us,sq,by rw[iu.len];exact xbf.mp et⟩,w P2 D vs H2 (l1.trans l3) h3 (l1.sure D hD) bD nD eD is⟩
            · rename_i d et;obtain⟨v,evt,iv⟩:=iu.get et;split at ec
              · rename_i y' M5 ey;split at ec
                · rename_i hz';refine .inr ⟨⟨us,v,sq,evt⟩,by rw[is.len];exact hz,fun vs' H'=>∃P2 M3 acc,LtE P1 H1 P2 H'/\Hk K mg P2 H' M3/\P2.bd D/\(∀k,k<P2.n->P2.io k≠D)/\H' D=some (.lst vs')/\au K P2 H' acc vs'/\acc.length<sizeLine/\lK j e (bQ cs env) m (i + 1) acc M3=some (ys,M'),
                    fun vs' H' z=>⟨m,xbY _,z⟩,fun x' H' y=>?_⟩
                  obtain⟨rfl,hy⟩:=y;have ex':v=x':=xan (evt.symm.trans (hy us sq));subst ex';have kk:=((k.next l1 h1).next l3 h3).cap (cs:=cs) nd iv
                  unfold gH;dsimp only;rw[Z7 rfl];refine aX kk ey fun P5 v5 H5 l5 h5 i5=>?_;have eD5:H5 D=some (.lst vs):=l5.keep D _ eD (.inr nD);have nD5:∀k,k<P5.n->P5.io k≠D:=l5.nc eD nD;obtain⟨g1,g2,g3⟩:=G_ (vs':=vs ++ [v5]) (l3.trans l5) h5 hD (l5.bm D bD) nD5 eD5;exact⟨eD5,P5,M5,acc ++ [y'],g2,g3,l5.bm D bD,nD5,b_,au.append (au.lt ((l5.lt h3).trans g1) is) (au.one (Is.lt g1 i5)),by rw[Z4];exact hz',ec⟩
                · cases ec
              · cases ec
          · cases ec
      · cases ee
    · cases ee
  · exact⟨P0,H0,P,Os,env,M,_,_,k,e1,w⟩
theorem WY (n:Nat)(x:Str)(cs:List (Str×Nat)){px:Pos}{iter elt:Expr}{scope:Scope}{f e:E}(hc:X.calm=true)(nd:(cs.map (·.2)).Nodup)(hi:SE X Wx .val iter f)
  (he:∀(cl:List (Str×Addr)) (C:Addr) (s₀:Shared) (H₀:Hp) (ex:List Addr) (pn:Pnx),SE (dh X (x::cs.map (·.1)) scope cl C s₀ H₀ ex pn) W0 .val elt e)
  (ok:nT X.N X.env.scope x cs scope=true:=by kernel_rfl) (hs:∀x,foldedSetIterable iter X.env x=pure x:=by intro _;rfl):
  SN X Wx (.ListComp elt [⟨.Name x px,iter,[],0⟩] scope pos) (kj n cs f e):=by
 refine bZ (Ij (tq:=gH) (te:=tE X.K X.mg W0 .val e) x cs hc (Ck hi) (fun _ _ _ _ _ _=>Im) he ok hs) ?_;rintro st H Q ⟨P0,H0,P,Os,env,M,r,M',k,ee,w⟩;refine Lq nd k ee ?_
 cases r with
 |v d=>exact w
 |x c n=>exact w
end
end E3
namespace E3
open PySem L2
section
variable {env:Env}{M M1 M2 M3 M4:Mm}{f g h v:E}{d e x y:D}{i:Int}{n k:Nat}{ds es:List D}{kvs:List (Key×D)}{key:Key}
theorem Ow (h1:f env M=some (.v (.ref k),M1))(h2:M1[k]? =some (.dct kvs)):gD f env M=some (.v (.ref k),M1.set k (.dcf kvs)):=by
 simp only[gD,bnd,h1,Lz h2]
theorem Gj {j:Nat}{e:E}(F:D->D)(hM:M[j]? =some (.lst ds))(he:∀d∈ds,e (.val d::env) M=some (.v (F d),M)):∀(n t:Nat) (acc:List D),ds.length - t<n->t<=ds.length->acc.length + (ds.length - t)<sizeLine->lK j e env n t acc M=some (acc ++ (ds.drop t).map F,M)
  |0,t,acc,h,_,_=>absurd h (xbQ _)
  |n + 1,t,acc,h,ht,hl=>by
    by_cases q:t<ds.length
    · simp only[lK,hM,Z6 q,he _ (xaT q)];rw[Z7 (by omega),Gj F hM he n (t + 1) (acc ++ [F ds[t]]) (by omega) q (by rw[Z4,xay];omega),xa4 q,xaV,xbB];rfl
    · simp only[lK,hM,xaQ (xcS q)];rw[List.drop_of_length_le (xcS q)]
      simp
theorem KQ {cs:List (Str×Nat)}{j:Nat}{e:E}(F:D->D)(h1:f env M=some (.v (.ref j),M1))(hM:M1[j]? =some (.lst ds))(he:∀d∈ds,e (.val d::bQ cs env) M1=some (.v (F d),M1))(hn:ds.length<n)(hl:ds.length<sizeLine):
  kj n cs f e env M=some (.v (.lst (ds.map F)),M1):=by
 simp only[kj,bnd,h1,Gj F hM he n 0 [] (by omega) (xaE _) (by simpa using hl),xcr,xbj]
end
end E3
namespace L2
open PySem PySem.Spec PyProof.Rows
section
variable {X:Cx}
theorem Pu:wO X "dict.setdefault" (fun x xs H Q=>∃a kvs k v,x=.ref a/\xs=[kV k,v]/\H a=some (.dK kvs)/\kvs.length<sizeLine/\(∀y,bN kvs k=some y->Q y H)/\(bN kvs k=none->Q v (upd H a (.dK (putK kvs k v))))):=by
  intro pins s σ H x xs v us Q I rx r h;obtain⟨a,kvs,k,w,rfl,rfl,e,l,q1,q2⟩:=h;cases rx;obtain⟨u1,u2,rfl,r1,r2⟩:=vals2 r;obtain⟨z,hd,vs,rel,dd⟩:=L_ I.hok e;have hz:vs.length<=sizeLine:=by rw[<-rel.length];exact z
  have rv:=rel.val k;refine call_meetsIn xcs dd.typeIs PySem.F.entry_dict_setdefault (PySem.F.args_dict_setdefault_3 _ _ _) (kt_meets_setdefault (gO X.prog X.w) a (Oh r1) hd u2) ⟨vs,dd,hz,fun y hy=>?_,fun hn h' dd' hs=>?_⟩
  · rw[hy]at rv
    cases hv:bN kvs k with
    |none=>rw[hv]at rv;exact(show False from rv).elim
    |some y'=>rw[hv]at rv;exact⟨y',H,I.tok _,rv,q1 y' hv⟩
  · rw[hn]at rv
    cases hv:bN kvs k with
    |some y'=>rw[hv]at rv;exact(show False from rv).elim
    |none=>
      have hl:(putK kvs k w).length<=sizeLine:=by have:=O4 kvs k w;omega
      have he:∃q,h'.get? a=some q:=let ⟨q,_,_,hq,_⟩:=dd';⟨q,hq⟩
      exact⟨w,_,Lx I (by rw[e];exact True.intro) hs he (LR hl hd (rel.put k r2) dd'),r2,q2 hv⟩
end
end L2
namespace E3
open PySem PySem.Spec PyProof.Rows L2
section
variable {X:Cx}{Wx:XW}{m:Mode}{pos:Pos}
noncomputable def Dh (x:D) (M:Mm):Option (Nat×List (Key×D)×Key)->O
  | some (j, kvs, key) => if kvs.length < sizeLine then (match bY kvs key with
    |some z=>some (.v z,M)
    |none=>some (.v x,M.set j (.dct (eV kvs key x)))) else none
  |none=>none
noncomputable def vR (f g h:E):E:=fun env M=>bnd (f env M) fun d M1=>match h_ M1 d with
 |some _=>bnd (g env M1) fun y M2=>bnd (h env M2) fun x M3=>Dh x M3 (dk M3 d y)
 |none=>none
theorem Wu {o e e':Expr}{f g h:E}{p:Pos}(ho:SE X Wx .val o f)(he:SE X Wx .val e g)(he':SE X Wx .val e' h)
    (hbase:attributeBase o "setdefault" X.env (eval o X.env)=eval o X.env:=by rfl)
    (hfew:((backTo pos (starEach [e,e'] X.env)).all (fun x=> !x.1) && (backToKw pos (keywordEach [] X.env)).all (fun x=>x.1.isSome) && decide ([e,e'].length + ([]:List Keyword).length + (if ([]:List Keyword).isEmpty then 0 else 1)<30))=true:=by rfl)
    (hline:(p.endLine==pos.line)=true:=by rfl) (hs:starEach [e,e'] X.env=(false,eval e X.env)::starEach [e'] X.env:=by rfl) (hs':starEach [e'] X.env=(false,eval e' X.env)::starEach [] X.env:=by rfl):
    SE X Wx m (.Call (.Attribute o "setdefault" p) [e,e'] [] pos) (vR f g h):=by
  refine bZ (yg xc3 xcs PySem.F.type_dict_setdefault Pu ho (lY he (lY he' pF hs') hs) hbase hfew hline hs (by rw[hs'];rfl)) ?_;rintro st H Q ⟨P0,H0,P,Os,env,M,r,M',k,ee,q⟩;unfold vR at ee;rcases bV ee with⟨d,N1,e1,ea⟩ |⟨c,n,e1,rfl⟩
  · split at ea
    · rename_i pr ed;obtain⟨j,bJ⟩:=pr;obtain⟨rfl,em0⟩:=Av ed;refine aX k e1 fun P1 v1 H1 l1 h1 i1=>?_;have k1:=k.next l1 h1
      obtain⟨jl,rfl⟩:j<P1.n/\v1=.ref (P1.io j):=i1;obtain⟨vs0,ev0,_,_⟩:=h1.cell j _ em0;refine⟨.inr (.inr (.inl ⟨rfl,.inl ⟨vs0,ev0⟩⟩)),?_⟩;rcases bV ea with⟨y,N2,e2,eb⟩ |⟨c,n,e2,rfl⟩
      · refine aX k1 e2 fun P2 v2 H2 l2 h2 i2=>?_;have k2:=k1.next l2 h2
        rcases bV eb with⟨x,N3,e3,ec⟩ |⟨c,n,e3,rfl⟩
        · refine aX k2 e3 fun P3 v3 H3 l3 h3 i3=>?_;unfold Dh at ec;split at ec
          · rename_i j' kvs key ek;split at ec
            · rename_i hl;obtain⟨ej,em,et⟩:=LQ ek;cases ej;obtain⟨vs,ev,en,is⟩:=h3.cell j _ em;have g:=J0 (k:=key) (kvs:=kvs) (vs:=vs) ⟨en,is⟩;have jl3:j<P3.n:=xab jl (xav l2.n l3.n);have eio:P3.io j=P1.io j:=(l3.io j (xab jl l2.n)).trans (l2.io j jl);have i2':=Is.lt (l3.lt h2) i2;have hl':vs.length<sizeLine:=by rw[Yb ⟨en,is⟩];exact hl
              have lc:Lt P3 H3 P3 (upd H3 (P3.io j) (.dK (putK vs key v3))):=o_ (h3.bd j jl3) ev BP
              cases hd:bY kvs key with
              |some z=>
                rw[hd]at g ec;cases ec;obtain⟨v,gv,iv⟩:=g;refine⟨P1.io j,vs,key,v3,rfl,by rw[key_is et i2'],by rw[<-eio];exact ev,hl',fun y' hy=>?_,fun hn=>(by rw[gv]at hn;cases hn)⟩;rw[gv]at hy;cases hy;exact q P3 _ H3 (l1.trans (l2.trans l3)) h3 (cD.of h3 iv)
              |none=>
                rw[hd]at g ec;cases ec;have g':bN vs key=none:=g;have tp:=Yc (k:=key) i3 (⟨en,is⟩:dM X.K P3 H3 kvs vs);obtain⟨l4,l4e,h4⟩:=h3.set (c':=.dct (eV kvs key x)) (o':=.dK (putK vs key v3)) em ⟨_,b_,tp.1,au.lt lc tp.2⟩;refine⟨P1.io j,vs,key,v3,rfl,by rw[key_is et i2'],by rw[<-eio];exact ev,hl',fun y' hy=>(by rw[g']at hy;cases hy),fun _=>?_⟩;rw[<-eio];exact q P3 _ _ (l1.trans (l2.trans (l3.trans l4e))) h4 (cD.of h4 (Is.lt lc i3))
            · cases ec
          · cases ec
        · exact aX k2 e3 q
      · exact aX k1 e2 q
    · cases ea
  · exact aX k e1 q
end
section
variable {X:Cx}{Wx:XW}{pos:Pos}
noncomputable def gh (kvs:List (Key×D)):List D:=kvs.map fun p=>.tup [lU p.1,p.2]
noncomputable def vP (is:List Nat) (f:E) (body:S):S:=fun env M=>bO (f env M) fun d M1=>match sJ M1 d with
 |some p=>eU is body (gh p.2) env M1
 |none=>none
theorem Xd {ts:List Expr}{is:List Nat}{o:Expr}{body:List Stmt}{f:E}{b:S}{n:Nat}{p tp q:Pos}(hp:PassesOwn (model X.prog X.w) X.A X.env X.xe)(hc:X.calm=true)(hG:SG X ts is)(ho:SE X Wx .val o f)(hb:SB X Wx body b)
    (hn:(assignEach ts X.env).length=2:=by rfl) (hst:(assignEach ts X.env).findIdx? (·.1)=none:=by rfl) (hbase:attributeBase o "items" X.env (eval o X.env)=eval o X.env:=by rfl) (hline:(p.endLine==q.line)=true:=by rfl)
    (hfs:∀x,foldedSetIterable (.Call (.Attribute o "items" p) [] [] q) X.env x=pure x:=by intro _;rfl):
    SS X Wx (.For (.Tuple ts n tp) (.Call (.Attribute o "items" p) [] [] q) body [] pos) (vP is f b):=by
  obtain⟨t,hpg,ht⟩:=hG;refine gA (yh hp hc (RN ho hbase hline) (Ci (n:=2) hc hpg hn hst) hb hfs) ?_;rintro D st H ⟨P0,H0,P,Os,env,M,out,M',k,e,q⟩;unfold vP at e;rcases g_ e with⟨d,M1,e1,e⟩ |⟨c,n,e1,rfl⟩
  · split at e
    · rename_i pr ed;obtain⟨jj,kvs⟩:=pr;obtain⟨rfl,em⟩:=Ly ed;refine⟨P0,H0,P,Os,env,M,_,_,k,e1,fun P1 v1 H1 l1 h1 i1=>?_⟩;obtain⟨jl,rfl⟩:jj<P1.n/\v1=.ref (P1.io jj):=i1;obtain⟨vs,ob,es,ep,ev,hd,en,is0⟩:=h1.cell jj _ em;have hl:vs.length=kvs.length:=by simpa using congrArg List.length en
      refine⟨P1.io jj,ob,vs,es,ep,rfl,ev,hd,?_⟩;have k1:=k.next l1 h1
      have q1:=q.lt (l1.lt k.hk);generalize hz:gh kvs=zs at e;have zl:zs.length=kvs.length:=by rw[<-hz];exact xai ..
      refine⟨fun j m σ H=>m=zs.length - j/\j<=zs.length/\∃P Os' M2 env',Lt P1 H1 P H/\Ok X.K X.mg P0 H0 P Os' H M2 σ env'/\eU is b (zs.drop j) env' M2=some (out,M'),⟨zs.length,by simp,xaE _,P1,Os,M1,env,Lt.refl _ _,k1,e⟩,?_⟩;rintro j m σ H2 ⟨rfl,hj,P2,Os',M2,env',lt,k',h'⟩;have ef:H2 (P1.io jj)=some (.frz ob (.dK vs)):=lt.keep _ _ ev (.inl (.inr (.inl ⟨_,_,rfl⟩)))
      by_cases hlt:j<zs.length
      · have h1':j<kvs.length:=by omega
        refine .inr ⟨⟨by rw[hl];exact h1',ef⟩,fun σ' H'=>∃P Os' M2 env',Lt P1 H1 P H'/\Ok X.K X.mg P0 H0 P Os' H' M2 σ' env'/\eU is b (zs.drop (j + 1)) env' M2=some (out,M'),fun σ' H' z=>⟨zs.length - (j + 1),by omega,rfl,hlt,z⟩,?_⟩;rintro v H3 ⟨T,pv,hT,rfl,epv,rfl⟩;have hg:kvs[j]? =some kvs[j]:=Z6 h1';have ek:pv.1=kvs[j].1:=by
          have e2:(vs.map (·.1))[j]? =some pv.1:=by rw[xag,epv];rfl
          rw[en,xag,hg]at e2;exact(xan e2).symm
        obtain⟨v',ev',iv'⟩:=au.get is0 (i:=j) (d:=kvs[j].2) (by rw[xag,hg];rfl);rw[xag,epv]at ev';cases ev';have ez:zs[j]=E3.D.tup [lU kvs[j].1,kvs[j].2]:=by simp only[<-hz,gh,List.getElem_map]
        rw[xa4 hlt,ez]at h';simp only[eU]at h';have sm:Same H2 (upd H2 T (.tup [kV pv.1,pv.2])):=mG hT;have l3:LtE P2 H2 P2 (upd H2 T (.tup [kV pv.1,pv.2])):=LtE.same sm;have h3:=k'.hk.same sm;have k3:=k'.next l3 h3
        have lt3:=lt.trans (l3.lt k'.hk);split at h'
        · rename_i env1 ee;unfold kJ at ee;dsimp only at ee;split at ee
          · have isx:au X.K P2 (upd H2 T (.tup [kV pv.1,pv.2])) [lU kvs[j].1,kvs[j].2] [kV pv.1,pv.2]:=⟨kV pv.1,[pv.2],rfl,by rw[ek];exact is_key _,pv.2,[],rfl,Is.lt lt3 iv',rfl⟩;refine⟨T,[kV pv.1,pv.2],rfl,.inl (.inl b_),rfl,ht _ _ _ _ _ _ _ _ _ _ _ _ k3 isx ee fun Os2 st2 k4=>?_⟩;split at h'
            · rename_i e4 M4 eb;exact⟨P0,H0,P2,_,_,M2,_,_,k4,eb,fun P' Os2 H2 st2 l2 k5=>⟨P',Os2,_,e4,lt3.trans l2,k5,h'⟩⟩
            · rename_i e4 M4 eb;exact⟨P0,H0,P2,_,_,M2,_,_,k4,eb,fun P' Os2 H2 st2 l2 k5=>⟨P',Os2,_,e4,lt3.trans l2,k5,h'⟩⟩
            · rename_i e4 M4 eb;cases h';exact⟨P0,H0,P2,_,_,M2,_,_,k4,eb,fun P' Os2 H2 st2 l2 k5=>q1 P' Os2 H2 st2 (lt3.trans l2) k5⟩
            · rename_i d4 M4 eb;cases h';exact⟨P0,H0,P2,_,_,M2,_,_,k4,eb,q1⟩
            · rename_i c4 n4 M4 eb;cases h';exact⟨P0,H0,P2,_,_,M2,_,_,k4,eb,q1⟩
            · cases h'
          · cases ee
        · cases h'
      · have ej:j=zs.length:=by omega
        subst ej;rw[xbZ]at h';cases h';exact .inl ⟨⟨by rw[hl];exact zl,ef⟩,q1 P2 Os' H2 σ lt k'⟩
    · cases e
  · exact⟨P0,H0,P,Os,env,M,_,_,k,e1,q⟩
end
end E3
namespace E3
open PySem PySem.Spec PyProof.Rows L2 PySem.W
section
variable {n:Nat}{lt:Nat->Nat->Option Bool}{le:Nat->Nat->Prop}
def Pm (n:Nat)(p:Array Nat):Prop:=p.Perm (List.range n).toArray
theorem Pm.size {p:Array Nat}(h:Pm n p):p.size=n:=by
 have:=Array.Perm.size_eq h
 simpa using this
theorem Pm.low {p : Array Nat} (h : Pm n p) : Low n p := ⟨h.size,fun x hx=>by
 have:=(xdy h).mem_iff.mp hx
 simpa using this⟩
theorem Pm.rev {p:Array Nat}{i j:Nat}(h:Pm n p):Pm n (kas_rev p i j):=(mirror_perm _ _ _ _).trans h
theorem Pm.bub {p:Array Nat}{i j:Nat}(h:Pm n p):Pm n (bubble p i j):=(bubble_perm _ _ _).trans h
theorem tY {p q:Array Nat}{i j:Nat}(h:p[i]? =q[j]?):p.getD i 0=q.getD j 0:=by
 rw[xa9,xa9,h]
theorem m8 {p:Array Nat}{i j:Nat}(hj:j<=p.size)(k:Nat):(kas_rev p i j).getD k 0=if i<=k/\k<j then p.getD (i + j - 1 - k) 0 else p.getD k 0:=by
 have:=getElem?_mirror_all (xs:=p) (i:=i) hj k
 split
 ·rename_i h;rw[Z7 h]at this;exact tY this
 ·rename_i h;rw[xaf h]at this;exact tY this
theorem FQ {p:Array Nat}{s d:Nat}(hs:s<p.size)(hd:d<=s)(k:Nat):(bubble p s d).getD k 0=if k=s - d then p.getD s 0 else if s - d<k/\k<=s then p.getD (k - 1) 0 else p.getD k 0:=by
 have:=getElem?_bubble hs d hd k
 by_cases h:k=s - d
 ·rw[Z7 h]at this ⊢;exact tY this
 ·rw[xaf h]at this ⊢
  by_cases h':s - d<k/\k<=s
  ·rw[Z7 h']at this ⊢;exact tY this
  ·rw[xaf h']at this ⊢;exact tY this
def Up (le:Nat->Nat->Prop)(p:Array Nat)(m:Nat):Prop:=∀i j,i<=j->j<m->le (p.getD i 0) (p.getD j 0)
def Dn (le:Nat->Nat->Prop)(p:Array Nat)(m:Nat):Prop:=∀i j,i<=j->j<m->le (p.getD j 0) (p.getD i 0)
def Al (le:Nat->Nat->Prop)(p:Array Nat)(m q:Nat):Prop:=∀i j,m - (q + 1)<=i->i<m->m - (q + 1)<=j->j<m->le (p.getD i 0) (p.getD j 0)
variable (hn:0<n)(rf:∀i,le i i)(tr:∀i j k,le i j->le j k->le i k)(H:∀i j,i<n->j<n->∃b,lt i j=some b/\(b=true->le i j)/\(b=false->le j i))
include rf tr
theorem Dn.al {p:Array Nat}{m q:Nat}(hm:m<=p.size)(hq:q + 1<=m)(h:Dn le p m)(ha:Al le p m q):Dn le (kas_rev p (m - (q + 1)) m) m:=by
 intro i j hij hj;rw[m8 hm,m8 hm]
 split
 ·split
  ·exact ha _ _ (by omega) (by omega) (by omega) (by omega)
  ·exact h _ _ (by omega) (by omega)
 ·split
  ·exact(by omega:False).elim
  ·exact h _ _ hij hj
theorem Dn.succ {p:Array Nat}{m:Nat}(hm:0<m)(h:Dn le p m)(hl:le (p.getD m 0) (p.getD (m - 1) 0)):Dn le p (m + 1):=by
 intro i j hij hj
 by_cases hjm:j<m
 ·exact h i j hij hjm
 ·obtain rfl:j=m:=by omega
  by_cases hi:i=j
  ·subst hi;exact rf _
  ·exact tr _ _ _ hl (h i (j - 1) (by omega) (by omega))
theorem Up.succ {p:Array Nat}{m:Nat}(hm:0<m)(h:Up le p m)(hl:le (p.getD (m - 1) 0) (p.getD m 0)):Up le p (m + 1):=by
 intro i j hij hj
 by_cases hjm:j<m
 ·exact h i j hij hjm
 ·obtain rfl:j=m:=by omega
  by_cases hi:i=j
  ·subst hi;exact rf _
  ·exact tr _ _ _ (h i (j - 1) (by omega) (by omega)) hl
include hn H
theorem Du {p:Array Nat}(h:Pm n p):∀f m,1<=m->Up le p m->∃r,aY lt (kas_asc p f m)=some r/\m<=r/\r<=m + f/\Up le p r/\(r=m + f\/le (p.getD r 0) (p.getD (r - 1) 0))
  |0,m,_,hu=>⟨m,rfl,tG _,tG _,hu,.inl rfl⟩
  |f + 1,m,h1,hu=>by
    obtain⟨b,eb,b1,b0⟩:=H _ _ (h.low.get hn m) (h.low.get hn (m - 1));simp only[kas_asc,aY,eb];cases b
    · obtain⟨r,er,l1,l2,u,z⟩:=Du h f (m + 1) (by omega) (Up.succ rf tr (by omega) hu (b0 rfl));exact⟨r,er,by omega,by omega,u,z.imp (fun e=>by omega) id⟩
    · exact⟨m,rfl,tG _,by omega,hu,.inr (b1 rfl)⟩
theorem yX:∀f {p:Array Nat} m q,Pm n p->1<=m->m + f<=n->q + 1<=m->Dn le p m->Al le p m q->
    ∃r,aY lt (kas_desc f p m q)=some r/\Pm n r.1/\m<=r.2.1/\r.2.1<=m + f/\r.2.2 + 1<=r.2.1/\Dn le r.1 r.2.1/\Al le r.1 r.2.1 r.2.2
  |0,p,m,q,h,h1,hf,hq,hd,ha=>⟨_,rfl,h,tG _,tG _,hq,hd,ha⟩
  |f + 1,p,m,q,h,h1,hf,hq,hd,ha=>by
    obtain⟨b,eb,b1,b0⟩:=H _ _ (h.low.get hn m) (h.low.get hn (m - 1));obtain⟨c,ec,c1,c0⟩:=H _ _ (h.low.get hn (m - 1)) (h.low.get hn m);have hs:=h.size;have one:∀p':Array Nat,Al le p' (m + 1) 0:=fun p' i j a1 a2 a3 a4=>by
      obtain rfl:i=j:=by omega
      exact rf _
    simp only[kas_desc,aY,eb];cases b
    · simp only[xat,xaF,aY,ec];cases c
      · have e1 := b0 rfl;have e2 := c0 rfl;obtain ⟨r, er, g1, g2, g3, g4⟩ := yX f (m + 1) (q + 1) h (by omega) (by omega) (by omega) (Dn.succ rf tr (by omega) hd e2) (fun i j a1 a2 a3 a4=>by
          have k1:∀x,m - (q + 1)<=x->x<m->le (p.getD x 0) (p.getD m 0):=fun x y1 y2=>tr _ _ _ (ha x (m - 1) y1 y2 (by omega) (by omega)) e1;have k2:∀x,m - (q + 1)<=x->x<m->le (p.getD m 0) (p.getD x 0):=fun x y1 y2=>tr _ _ _ e2 (ha (m - 1) x (by omega) (by omega) y1 y2)
          by_cases hi:i=m
          · subst hi
            by_cases hj:j=i
            · subst hj;exact rf _
            · exact k2 j (by omega) (by omega)
          · by_cases hj:j=m
            · subst hj;exact k1 i (by omega) (by omega)
            · exact ha i j (by omega) (by omega) (by omega) (by omega))
        exact⟨r,er,g1,by omega,by omega,g4⟩
      · exact⟨_,rfl,h,tG _,Nat.le_add_right m (f + 1),hq,hd,ha⟩
    · simp only[xaZ];have e1:=b1 rfl
      split
      · have hd':=Dn.al rf tr (by omega) hq hd ha;have hl:le ((kas_rev p (m - (q + 1)) m).getD m 0) ((kas_rev p (m - (q + 1)) m).getD (m - 1) 0):=by
          rw[m8 (by omega),m8 (by omega),xaf (by omega),Z7 (by omega)];exact tr _ _ _ e1 (ha (m - 1) _ (by omega) (by omega) (by omega) (by omega))
        obtain⟨r,er,g1,g2,g3,g4⟩:=yX f (m + 1) 0 h.rev (by omega) (by omega) (by omega) (Dn.succ rf tr (by omega) hd' hl) (one _);exact⟨r,er,g1,by omega,by omega,g4⟩
      · obtain⟨r,er,g1,g2,g3,g4⟩:=yX f (m + 1) 0 h (by omega) (by omega) (by omega) (Dn.succ rf tr (by omega) hd e1) (one _);exact⟨r,er,g1,by omega,by omega,g4⟩
theorem JL {p:Array Nat}{a:Nat}(h:Pm n p)(h1:1<=a)(ha:a<=n)(hd:Dn le p a):∃r,aY lt (kas_tail3 a n p)=some r/\Pm n r.2/\1<=r.1/\r.1<=n/\Up le r.2 r.1:=by
 unfold kas_tail3;have hs := h.size;obtain ⟨r, er, l1, l2, u, -⟩ := Du hn rf tr H (p := kas_rev p 0 a) h.rev (n - a) a h1 (fun i j hij hj=>by
  rw[m8 (by omega),m8 (by omega),Z7 (by omega),Z7 (by omega)];exact hd _ _ (by omega) (by omega))
 rw[run_bind,er];exact⟨_,rfl,h.rev,by omega,by omega,u⟩
theorem JK {p:Array Nat}{a:Nat}(h:Pm n p)(ha:a + 1<=n)(hd:Dn le p (a + 1)):∃r,aY lt (kas_descPart a n p)=some r/\Pm n r.2/\1<=r.1/\r.1<=n/\Up le r.2 r.1:=by
 unfold kas_descPart;have hs := h.size;obtain ⟨r, er, g1, g2, g3, g4, g5, g6⟩ := yX hn rf tr H (n - (a + 1)) (a + 1) 0 h (by omega) (by omega) (by omega) hd (fun i j a1 a2 a3 a4=>by
  obtain rfl:i=j:=by omega
  exact rf _)
 rw[run_bind,er,Option.bind_some];have gs:=g1.size
 split
 ·exact JL hn rf tr H g1.rev (by omega) (by omega) (Dn.al rf tr (by omega) g4 g5 g6)
 ·exact JL hn rf tr H g1 (by omega) (by omega) g5
theorem W3 {p:Array Nat}(h:Pm n p):∃r,aY lt (kas_count n p)=some r/\Pm n r.2/\1<=r.1/\r.1<=n/\Up le r.2 r.1:=by
  unfold kas_count;have hs := h.size;obtain ⟨r, er, l1, l2, u, z⟩ := Du hn rf tr H h (n - 1) 1 (tG _) (fun i j hij hj=>by
    obtain rfl:i=j:=by omega
    exact rf _)
  rw[run_bind,er,Option.bind_some]
  split
  · exact⟨_,rfl,h,l1,by omega,u⟩
  · rename_i hr;have hrn:r≠n:=fun e=>hr (by simp[e]);have hl:=z.resolve_left (by omega)
    split
    · obtain⟨c,ec,c1,c0⟩:=H _ _ (h.low.get hn 0) (h.low.get hn (r - 1));simp only[aY,ec];cases c
      · have e0:=c0 rfl;have all:∀i j,i<r->j<r->le (p.getD i 0) (p.getD j 0):=fun i j hi hj=>tr _ _ _ (u i (r - 1) (by omega) (by omega)) (tr _ _ _ e0 (u 0 j (by omega) hj));refine JK hn rf tr H h.rev (by omega) ?_;intro i j hij hj;rw[m8 (by omega),m8 (by omega)]
        split
        · rw[Z7 (by omega)];exact all _ _ (by omega) (by omega)
        · obtain rfl:j=r:=by omega
          split
          · exact tr _ _ _ hl (all _ _ (by omega) (by omega))
          · obtain rfl:i=j:=by omega
            exact rf _
      · exact⟨_,rfl,h,l1,by omega,u⟩
    · obtain rfl:r=1:=by omega
      refine JK hn rf tr H h (by omega) ?_;intro i j hij hj
      by_cases hi:i=j
      · subst hi;exact rf _
      · obtain rfl:i=0:=by omega
        obtain rfl:j=1:=by omega
        exact hl
theorem Dv {p:Array Nat}{k:Nat}(h:Pm n p)(hk:k<n)(u:Up le p k):∀f l r,l<=r->r<=k->r - l<=f->(∀i,i<l->le (p.getD i 0) (p.getD k 0))->(∀i,r<=i->i<k->le (p.getD k 0) (p.getD i 0))->
    ∃x,aY lt (kas_place p k f l r)=some x/\x<=k/\(∀i,i<x->le (p.getD i 0) (p.getD k 0))/\(∀i,x<=i->i<k->le (p.getD k 0) (p.getD i 0))
  |0,l,r,h1,h2,h3,lo,hi=>by
    obtain rfl:l=r:=by omega
    exact⟨l,rfl,h2,lo,hi⟩
  |f + 1,l,r,h1,h2,h3,lo,hi=>by
    unfold kas_place
    split
    · obtain rfl:l=r:=by omega
      exact⟨l,rfl,h2,lo,hi⟩
    · obtain⟨c,ec,c1,c0⟩:=H _ _ (h.low.get hn k) (h.low.get hn ((l + r) / 2));simp only[aY,ec];cases c
      · simp only[xat,xaF];exact Dv h hk u f _ _ (by omega) h2 (by omega) (fun i hi'=>tr _ _ _ (u i ((l + r) / 2) (by omega) (by omega)) (c0 rfl)) hi
      · simp only[xaZ];exact Dv h hk u f _ _ (by omega) (by omega) (by omega) lo (fun i h1' h2'=>tr _ _ _ (c1 rfl) (u _ _ h1' h2'))
theorem JH:∀f {p:Array Nat} k,Pm n p->k + f=n->Up le p k->∃r,aY lt (kas_bin f p k)=some r/\Pm n r/\Up le r n
  |0,p,k,h,e,u=>⟨p,rfl,h,by rw[<-e];exact u⟩
  |f + 1,p,k,h,e,u=>by
    unfold kas_bin;have hs:=h.size;obtain⟨x,ex,xk,lo,hi⟩:=Dv hn rf tr H h (by omega) u k 0 k (by omega) (by omega) (by omega) (fun i hi=>by omega) (fun i h1 h2=>by omega);rw[run_bind,ex,Option.bind_some];refine JH f (k + 1) h.bub (by omega) ?_;intro i j hij hj;rw[FQ (by omega) (by omega),FQ (by omega) (by omega),show k - (k - x)=x by omega]
    repeat' split
    all_goals first
      |(exfalso;omega)
      |exact rf _
      |exact lo _ (by omega)
      |exact hi _ (by omega) (by omega)
      |exact u _ _ (by omega) (by omega)
theorem W4:∃p,aY lt (kas_sort n)=some p/\Pm n p/\Up le p n:=by
 unfold kas_sort;obtain⟨r,er,g1,g2,g3,g4⟩:=W3 hn rf tr H (p:=(List.range n).toArray) (Array.Perm.refl _);rw[run_bind,er,Option.bind_some]
 split
 ·rw[show max r.1 1=r.1 by omega];exact JH hn rf tr H _ _ g1 (by omega) g4
 ·exact⟨_,rfl,g1,by rw[show n=r.1 by omega];exact g4⟩
end
theorem W7 {ds:List D}{le:D->D->Prop}(h64:ds.length<64)(ht:ds.all tupI=true)(rf:∀d,le d d)(tr:∀a b c,le a b->le b c->le a c)
    (H:∀xs ys,.tup xs∈ds->.tup ys∈ds->∃b,lV xs ys=some b/\(b=true->le (.tup xs) (.tup ys))/\(b=false->le (.tup ys) (.tup xs))):∃es,fM ds=some es/\es.Perm ds/\es.Pairwise le:=by
  unfold fM
  split
  · rename_i h2;refine⟨ds,rfl,List.Perm.refl _,?_⟩
    match ds,h2 with
    | [],_=>exact .nil
    | [d],_=>exact List.pairwise_singleton _ _
  · rename_i h2;rw [Z7 ⟨h64, ht⟩];obtain ⟨p, ep, hp, hu⟩ := W4 (n := ds.length) (lt := rA ds) (le := fun i j => le (ds.getD i .non) (ds.getD j .non)) (by omega) (fun i => rf _) (fun i j k => tr _ _ _) (fun i j hi hj=>by
      have m1:=xaT hi;have m2:=xaT hj;have t1:=xbc.mp ht _ m1;have t2:=xbc.mp ht _ m2;have g1:ds.getD i .non=ds[i]:=by rw[xax,Z6 hi,xbX]
      have g2:ds.getD j .non=ds[j]:=by rw[xax,Z6 hj,xbX]
      unfold rA;rw[g1,g2];generalize ds[i]=a at *;generalize ds[j]=b at *;cases a<;>try cases t1
      cases b<;>try cases t2
      exact H _ _ m1 m2)
    have hl:=xdy hp;refine⟨_,by rw[ep];rfl,?_,?_⟩
    · have:=List.Perm.map (fun i=>ds.getD i .non) hl;refine this.trans ?_;rw[show(List.range ds.length).toArray.toList=List.range ds.length from rfl];have e:(List.range ds.length).map (fun i=>ds.getD i .non)=ds:=by
        apply List.ext_getElem?;intro k;rw[xag]
        by_cases hk:k<ds.length
        · rw[xbp hk,Z6 hk,xa0,xax,Z6 hk,xbX]
        · rw[xaQ (by simpa using hk),xaQ (by omega)];rfl
      rw[e]
    · rw[xcc,xcN];intro i j hi hj hij;have sz:=hp.size;have:=hu i j (by omega) (by rw[xaz]at hj;omega);rw[xa9,xa9]at this;rw[xaz]at hi hj;rw[xcO hi,xcO hj]at this;exact this
noncomputable def kZ:List D->List D->Option Bool
 | [],[]=>some true
 |.int i::ps,.int j::qs=>if i=j then kZ ps qs else some (decide (j<=i))
 |.str a::ps,.str b::qs=>if a=b then kZ ps qs else some (!decide (a.cps.toList<b.cps.toList))
 |_,_=>none
noncomputable def gq:D->D->Option D
 |.tup xs,.tup ys=>(kZ xs ys).map .bl
 |_,_=>none
section
variable {prog:Program}{w:World}{A:Around}{E:Value->Shared->Prop}{s:Shared}{K:Fgx}{P:Pl}{H:Hp}
theorem Yn {a b:Addr}{oa ob:Obj}{xs ys:Array Value}{na nb:Nat}{ds es:List D}{vs ws:List V}{r:Bool}{Q:PySem.Fin->Shared->Prop}
    (hoa:s.heap.get? a=some oa) (hda:oa.data=.seq xs na) (hob:s.heap.get? b=some ob) (hcb:s.TypeIs (.ref b) "tuple") (hdb:ob.data=.seq ys nb)
    (i1:au K P H ds vs) (i2:au K P H es ws) (r1:Vals vs xs.toList) (r2:Vals ws ys.toList) (e:kZ ds es=some r) (h:Q (.done (.ret (.bool r))) s):
    wpAny (model prog w) A (Builtin.«tuple.__ge__» ⟨[.ref a,.ref b],[]⟩) Q E s:=by
  show wpAny _ _ (isInstance (.ref b) (.type "tuple") >>=_) _ _ s;refine Z2 (wpAny_isInstance hcb isSubtype_tuple_tuple ?_);simp only[xdm,xat,xaF];refine Z2 (wpAny_tupleItemsOf hoa hda ?_);refine Z2 (wpAny_tupleItemsOf hob hdb ?_);refine Z2 ?_;refine wpAny_forIn_list _
    (fun rest c s'=>c.1=none/\s'=s/\∃(ds' es':List D) (vs' ws':List V) (xs' ys':List Value),rest=List.zip xs' ys'/\au K P H ds' vs'/\au K P H es' ws'/\Vals vs' xs'/\Vals ws' ys'/\kZ ds' es'=some r/\xs.size + ys'.length=ys.size + xs'.length)
    _ ?_ ?_ _ _ ⟨rfl,rfl,ds,es,vs,ws,xs.toList,ys.toList,rfl,i1,i2,r1,r2,e,by simp[Nat.add_comm]⟩
  · rintro⟨u,v⟩ rest c s' ⟨hr,rfl,ds',es',vs',ws',xs',ys',hz,j1,j2,q1,q2,e',hl⟩
    cases q1 with
    |nil=>simp at hz
    |cons a1 q1=>
      cases q2 with
      |nil=>simp at hz
      |cons a2 q2=>
        simp only[xdt,xc7,Prod.mk.injEq]at hz;obtain⟨⟨rfl,rfl⟩,rfl⟩:=hz
        cases ds' with
        |nil=>cases (show _=[] from j1)
        |cons x ds'=>
          cases es' with
          |nil=>cases (show _=[] from j2)
          |cons y es'=>
            obtain⟨v,vr,ev,p,j1⟩:=j1;obtain⟨z,wr,ew,p',j2⟩:=j2;cases ev;cases ew;simp only[xar]at hl;cases x<;>cases y<;>simp only[kZ,reduceCtorEq]at e'
            · rename_i i j;cases p;cases p';obtain⟨t1,rfl⟩:=a1;obtain⟨t2,rfl⟩:=a2;refine Z2 (xb4 _ _ _ _ prog w _ _ ?_);split at e'
              · rename_i hij;subst hij;rw[show(i==i)=true from xaL i];simp only[xdm,xat,xaF];exact Z9 ⟨rfl,rfl,ds',es',_,_,_,_,rfl,j1,j2,q1,q2,e',by omega⟩
              · rename_i hij;cases e';rw[show(i==j)=false from xaM.mpr hij];simp only[Bool.not_false,xaZ];refine Z2 (wpAny_rule (Z2 ?_));refine(show wpAny _ _ (compareOp .GtE (.int i t1) (.int j t2)) _ _ _ from _root_.PySem.P.ge_int ?_);exact Z9 (Z9 h)
            · rename_i i j;cases p;cases p';obtain⟨t1,rfl⟩:=a1;obtain⟨t2,rfl⟩:=a2;refine Z2 (xb5 _ _ _ _ prog w _ _ ?_);split at e'
              · rename_i hij;subst hij;rw[show(i==i)=true from xaL i];simp only[xdm,xat,xaF];exact Z9 ⟨rfl,rfl,ds',es',_,_,_,_,rfl,j1,j2,q1,q2,e',by omega⟩
              · rename_i hij;cases e';rw[show(i==j)=false from xaM.mpr hij];simp only[Bool.not_false,xaZ];refine Z2 (wpAny_rule (Z2 ?_));refine(show wpAny _ _ (compareOp .GtE (.str i t1) (.str j t2)) _ _ _ from _root_.PySem.P.ge_str ?_);exact Z9 (Z9 h)
  · rintro⟨c1,c2⟩ s' ⟨hr,rfl,ds',es',vs',ws',xs',ys',hz,j1,j2,q1,q2,e',hl⟩;simp only at hr;subst hr;refine Z9 ?_;have hx:xs.size=ys.size/\r=true:=by
      cases q1 with
      |nil=>
        cases q2 with
        |nil=>
          cases ds' with
          |nil=>
            cases es' with
            |nil=>cases e';exact⟨by simpa using hl,rfl⟩
            |cons y es'=>obtain⟨_,_,ev,_⟩:=j2;cases ev
          |cons x ds'=>obtain⟨_,_,ev,_⟩:=j1;cases ev
        |cons a2 q2=>
          cases ds' with
          |nil=>
            cases es' with
            |nil=>cases (show _=[] from j2)
            |cons y es'=>cases e'
          |cons x ds'=>obtain⟨_,_,ev,_⟩:=j1;cases ev
      |cons a1 q1=>
        cases q2 with
        |nil=>
          cases es' with
          |nil=>
            cases ds' with
            |nil=>cases (show _=[] from j1)
            |cons x ds'=>cases x<;>cases e'
          |cons y es'=>obtain⟨_,_,ev,_⟩:=j2;cases ev
        |cons a2 q2=>simp at hz
    show Q (.done (.ret (.bool (decide (xs.size >=ys.size))))) s';rw[hx.1,xbE (tG _), <-hx.2];exact h
end
section
variable {X:Cx}{Wx:XW}{m:Mode}
noncomputable def vK (K:Fgx):R2:=fun x y H Q=>∃(P:Pl) (a b:Addr) (vs ws:List V) (ds es:List D) (r:Bool),x=.ref a/\y=.ref b/\dJ K H a vs/\dJ K H b ws/\au K P H ds vs/\au K P H es ws/\kZ ds es=some r/\Q (.bl r) H
theorem QZ (hu:X.A.units + 60<cLine):bC X (compareOp .GtE) (vK X.K):=by
 intro pins s σ H x y v u Q I rx ry h;obtain⟨P,a,b,vs,ws,ds,es,r,rfl,rfl,t1,t2,i1,i2,e,q⟩:=h;cases rx;cases ry;obtain⟨its,rv,pt,_⟩:=I.tuple t1;obtain⟨its',rv',pt',_⟩:=I.tuple t2;obtain⟨o,e1,e2,n,e3⟩:=pt;obtain⟨o',e1',e2',n',e3'⟩:=pt';have ty:s.TypeIs (.ref a) "tuple":=⟨o,e1,e2⟩;have ty':s.TypeIs (.ref b) "tuple":=⟨o',e1',e2'⟩;show wpAny _ _ (richCompare .GtE _ _) _ _ _;exact wpAny_richCompare_same_room (op:=.GtE) ty ty' F.slot_tuple_ge (xbW F.slot_tuple_ge ty F.entry_tuple_ge (Yn e1 e3 e1' ty' e3' i1 i2 (by simpa using rv) (by simpa using rv') e ⟨_,rfl,(fun z=>nomatch z),⟨.bl _,H,I,rfl,q⟩⟩) (F.args_tuple_ge_2 _ _)) (by omega)
theorem Sw {K:Fgx}:fj K (vK K) gq:=fun P H d e z v w Q h h1 h2 _ q=>by
 cases d<;>cases e<;>simp only[gq,reduceCtorEq]at h
 rename_i ds es;rw[xaa]at h;obtain⟨r,h,rfl⟩:=h;obtain⟨a,vs,rfl,t1,i1⟩:=h1;obtain⟨b,ws,rfl,t2,i2⟩:=h2;exact⟨P,a,b,vs,ws,ds,es,r,rfl,rfl,t1,t2,i1,i2,h,q _ H (Same.refl H) rfl⟩
theorem Xj {a b:Expr}{pos:Pos}{f g:E}(hu:X.A.units + 60<cLine)(ha:SE X Wx .bor a f)(hb:SE X Wx .bor b g)(hm:behindInMarks .GtE b=false:=by rfl):ST X Wx (.Compare a [.GtE] [b] pos) (s2 gq f g):=DG (QZ hu) Sw ha hb hm
end
end E3
namespace L2
open PySem PySem.Spec PyProof.Rows
section
variable {X:Cx}
theorem K9:X.calm=true->cR X (.builtin "min") (fun xs H Q=>∃(p:Addr) (is:List Int),xs=[.ref p]/\0<is.length/\bw X.K H p (is.map V.int)/\∀m,m∈is->(∀a∈is,m<=a)->Q (.int m) H):=by
 intro hc pins s σ H xs us Q I r h;obtain⟨p,is,rfl,hne,hq,q⟩:=h;obtain⟨u,rfl,rx⟩:=vals1 r;cases rx;obtain⟨its,rv,pl,hz⟩:=I.list hq;have hi:=Bc rv;have hn:=hi.numsOf;have hlen:=rv.length;rw[xai]at hlen;obtain⟨zs,hzs⟩:=hi.allInts.items;have hl:=pl.isList;have e1:numsOf its.toArray.toList=is:=hn;rw[hzs]at hl e1;have hs:0<zs.size:=by
  have:its.toArray.size=zs.size:=by rw[hzs];simp[intItems]
  rw[Z8]at this;omega
 rw[nums_intItems]at e1;refine min_intList (I.ok.hd hc) hl hs fun v h' tk hv hk=>?_;obtain⟨t,rfl⟩:=intItems_at hv;obtain⟨h1,h2⟩:=argBest_lt (numAt zs) (zs.size - 1);refine⟨.int _,H,I.kept hk,⟨t,rfl⟩,q _ ?_ fun a ha=>?_⟩
 ·rw[<-e1,numAt_eq];exact getD_mem (by rw[xai,xaz];omega)
 ·rw[<-e1]at ha;obtain⟨j,hj,rfl⟩:=mem_getD ha;rw[xai,xaz]at hj;rw[<-numAt_eq];exact h2 j (by omega)
end
end L2
namespace E3
open PySem PySem.Spec PyProof.Rows L2
noncomputable def dR:List Int->Int
 | []=>0
 | [a]=>a
 |a::b::r=>min a (dR (b::r))
theorem FP {m:Int}:∀(l:List Int),l≠ []->(∀a∈l,m<=a)->m<=dR l
  | [],z,_=>absurd rfl z
  | [c],_,g=>g c (by simp)
  |c::d::l,_,g=>by
    have h1:=g c (by simp);have h2:=FP (d::l) (by simp) fun a ha=>g a (xak _ ha);unfold dR;omega
theorem Ac:∀{is:List Int} {m:Int},m∈is->(∀a∈is,m<=a)->dR is=m
  | [],_,h,_=>by cases h
  | [a],m,h,_=>by rw[xal]at h;exact h.symm
  |a::b::r,m,h,g=>by
    have ha:=g a (xaG ..);have hb:=FP (b::r) (by simp) fun a ha=>g a (xak _ ha);unfold dR;rcases xah.mp h with rfl |h
    · omega
    · have:=Ac h fun a ha=>g a (xak _ ha);omega
noncomputable def sE:List D->Option D
  | [.lst ds]=>match lO ds with
    |some is=>if 0<is.length then some (.int (dR is)) else none
    |none=>none
  |_=>none
theorem S7 {K:Fgx}:gQ K (fun xs H Q=>∃(p:Addr) (is:List Int),xs=[.ref p]/\0<is.length/\bw K H p (is.map V.int)/\∀m,m∈is->(∀a∈is,m<=a)->Q (.int m) H) sE:=fun P H ds z vs Q h i _ q=>by
 unfold sE at h;split at h
 ·split at h
  ·rename_i is ei;split at h
   ·rename_i hl;cases h;obtain⟨v,ws,rfl,p,rfl⟩:=i;obtain⟨a,us,rfl,r,s⟩:=p;have eu:=xO ei s;subst eu;exact⟨a,is,rfl,hl,r,fun m h1 h2=>by rw[<-Ac h1 h2];exact q _ H (Same.refl H) rfl⟩
   ·cases h
  ·cases h
 ·cases h
noncomputable def gb:D->Bool
 |.int _=>true
 |.str _=>true
 |_=>false
def fU:D->Bool
 |.tup xs=>xs.all gb
 |_=>false
section
variable {X:Cx}{pins:Pnx}{σ:L2.St}{H:Hp}{s:Shared}
theorem Ho {K:Fgx}{P P':Pl}:∀{xs ys:List D} {vs:List V},xs.all gb=true->ys.all gb=true->au K P H xs vs->au K P' H ys vs->xs=ys
  | [],ys,vs,_,_,h1,h2=>by
    have:vs=[]:=h1;subst this
    cases ys with
    |nil=>rfl
    |cons y ys=>obtain⟨_,_,e,_⟩:=h2;cases e
  |x::xs,[],vs,_,_,h1,h2=>by
    have:vs=[]:=h2;subst this;obtain⟨_,_,e,_⟩:=h1;cases e
  |x::xs,y::ys,vs,a1,a2,h1,h2=>by
    obtain⟨v,r,rfl,p,h1⟩:=h1;obtain⟨v',r',e,p',h2⟩:=h2;cases e;rw[xbm,xam]at a1 a2;rw[Ho a1.2 a2.2 h1 h2];have:x=y:=by
      cases x<;>cases y<;>simp only[gb,xat,xdu]at a1 a2<;>simp only[Is]at p p'<;>rw[p]at p'<;>cases p'<;>rfl
    rw[this]
theorem Ym (I:Inv X pins σ H s){P P':Pl}{d e:D}{v:V}(f1:fU d=true)(f2:fU e=true)(h1:Is X.K P H d v)(h2:Is X.K P' H e v):d=e:=by
 cases d<;>try cases f1
 cases e<;>try cases f2
 obtain⟨a,vs,rfl,t,p⟩:=h1;obtain⟨b,ws,e,t',p'⟩:=h2;cases e;obtain⟨its,rv,⟨o,e1,e2,n,e3⟩,_⟩:=I.tuple t;obtain⟨its',rv',⟨o',e1',e2',n',e3'⟩,_⟩:=I.tuple t';rw[e1]at e1';cases e1';rw[e3]at e3';have ei:its=its':=by
  have:=(Data.seq.inj e3').1;exact congrArg Array.toList this
 subst ei;have ev:=Vals.inj rv rv';subst ev;rw[Ho f1 f2 p p']
theorem Gy:∀{xs:List D},xs.all gb=true->D.deps xs=0
  | [],_=>rfl
  |x::xs,h=>by
    rw[xbm,xam]at h;have:=Gy h.2;cases x<;>simp only[gb,xat,xdu]at h<;>simp[D.deps,D.dep,this]
theorem Gx {d:D}(h:fU d=true):d.dep<=1:=by
 cases d<;>try cases h
 rename_i xs;simp only[D.dep,Gy h];omega
noncomputable def vL (K:Fgx) (neg:Bool):R2:=fun x y H Q=>∃(P:Pl) (a:Addr) (vs:List V) (ds:List D) (d:D),y=.ref a/\bw K H a vs/\au K P H ds vs/\Is K P H d x/\fU d=true/\ds.all fU=true/\Q (.bl (if neg then !ds.any fun y=>D.eq y d else ds.any fun y=>D.eq y d)) H
open Classical in
theorem Nq {P:Pl}(I:Inv X pins σ H s)(hu:X.A.units + 60<cLine){ds:List D}{vs:List V}{its:List Value}{d:D}{x:V}{u:Value}(is:au X.K P H ds vs)(rv:Vals vs its)(ix:Is X.K P H d x)(rx:RelV x u)(fd:fU d=true)(fs:ds.all fU=true):
  ∃e:Value->Bool,(∀y,y∈its->SeqAt.EqAt X.A.in1 s y u (e y))/\its.any e=ds.any fun y=>D.eq y d:=by
 have len:its.length=ds.length:=by rw[<-rv.length,is.len]
 have at1:∀(i:Nat) y,its[i]? =some y->∃di vi,ds[i]? =some di/\fU di=true/\Is X.K P H di vi/\RelV vi y:=fun i y hy=>by
  have hi:i<ds.length:=by rw[<-len];exact(Z5.mp hy).1
  obtain⟨vi,ev,pi⟩:=is.get (Z6 hi);obtain⟨u',eu,ru⟩:=rv.get ev;rw[hy]at eu;cases eu;exact⟨ds[i],vi,Z6 hi,xbc.mp fs _ (xaT hi),pi,ru⟩
 have key:∀(i:Nat) y di,its[i]? =some y->ds[i]? =some di->decide (∃(j:Nat) (dj:D),its[j]? =some y/\ds[j]? =some dj/\D.eq dj d=true)=D.eq di d:=fun i y di hy hd=>by
  obtain⟨di',vi,e1,f1,p1,r1⟩:=at1 i y hy;rw[hd]at e1;cases e1
  by_cases h:D.eq di d=true
  ·rw[h];exact xbE ⟨i,di,hy,hd,h⟩
  ·rw[Bool.not_eq_true]at h;rw[h];refine xaR ?_;rintro⟨j,dj,hy2,hd2,h2⟩;obtain⟨dj',vj,e2,f2,p2,r2⟩:=at1 j y hy2;rw[hd2]at e2;cases e2;have ev:=r1.inj r2;subst ev;rw[Ym I f1 f2 p1 p2,h2]at h;cases h
 refine⟨fun y=>decide (∃(j:Nat) (dj:D),its[j]? =some y/\ds[j]? =some dj/\D.eq dj d=true),fun y hy=>?_,?_⟩
 ·obtain⟨i,hi⟩:=xdi hy;obtain⟨di,vi,e1,f1,p1,r1⟩:=at1 i y hi;show SeqAt.EqAt X.A.in1 s y u (decide (∃(j:Nat) (dj:D),its[j]? =some y/\ds[j]? =some dj/\D.eq dj d=true));rw[key i y di hi e1];have:=Gx f1;have:=Gx fd;exact sS I di d vi x y u p1.w ix.w r1 rx (by show X.A.units + 1 + _<_;omega) (by omega) (by omega)
 ·rw[xa3,xcY,xcY]
  constructor
  ·rintro⟨y,hy,h⟩;obtain⟨j,dj, -,hd,h⟩:=xcd h;exact⟨dj,xaw hd,h⟩
  ·rintro⟨dj,hd,h⟩;obtain⟨j,hj⟩:=xdi hd;have jl:j<its.length:=by rw[len];exact(Z5.mp hj).1
   exact⟨its[j],xaT jl,xbE ⟨j,dj,Z6 jl,hj,h⟩⟩
theorem Ri (hu:X.A.units + 60<cLine):bC X (compareOp .NotIn) (vL X.K true):=by
 intro pins s σ H x y v u Q I rx ry h;obtain⟨P,a,vs,ds,d,rfl,t,is,ix,fd,fs,q⟩:=h;cases ry;obtain⟨its,rv,pl,hz⟩:=I.list t;obtain⟨e,h1,h2⟩:=Nq I hu is rv ix rx fd fs;refine SeqAt.notIn_listAt e pl.isList (fun y hy=>h1 y (by simpa using hy)) ⟨.bl _,H,I,rfl,?_⟩;rw[List.any_toArray,h2];exact q
noncomputable def cJ (neg:Bool):D->D->Option D
 |d,.lst ds=>if fU d=true/\ds.all fU=true then some (.bl (if neg then !ds.any fun y=>D.eq y d else ds.any fun y=>D.eq y d)) else none
 |_,_=>none
theorem Sx {K:Fgx}{neg:Bool}:fj K (vL K neg) (cJ neg):=fun P H d e z v w Q h h1 h2 _ q=>by
 cases e<;>simp only[cJ,reduceCtorEq]at h
 rename_i ds;split at h
 ·rename_i f;cases h;cases d<;>try cases f.1
  obtain⟨a,vs,rfl,t,is⟩:=h2;exact⟨P,a,vs,ds,_,rfl,t,is,h1,f.1,f.2,q _ H (Same.refl H) rfl⟩
 ·cases h
theorem JR {Wx:XW}{a b:Expr}{pos:Pos}{f g:E}(hu:X.A.units + 60<cLine)(ha:SE X Wx .bor a f)(hb:SE X Wx .bor b g)(hm:behindInMarks .NotIn b=false:=by rfl):ST X Wx (.Compare a [.NotIn] [b] pos) (s2 (cJ true) f g):=DG (Ri hu) Sx ha hb hm
end
end E3
namespace E3
open PySem PySem.Spec PyProof.Rows L2
end E3
namespace My
open PySem PySem.Spec PyProof.Rows L2 E3
noncomputable def Yd:List (Str×D):=[("+",(.tup [(.str "number"),(.str "number"),(.int 2)])),("-",(.tup [(.str "number"),(.str "number"),(.int 2)])),("*",(.tup [(.str "number"),(.str "number"),(.int 2)])),("least",(.tup [(.str "number"),(.str "number"),(.int 2)])),("most",(.tup [(.str "number"),(.str "number"),(.int 2)])),("<",(.tup [(.str "truth"),(.str "number"),(.int 2)])),("=",(.tup [(.str "truth"),(.str "number"),(.int 2)])),("not",(.tup [(.str "truth"),(.str "truth"),(.int 1)])),("and",(.tup [(.str "truth"),(.str "truth"),(.int 2)])),("or",(.tup [(.str "truth"),(.str "truth"),(.int 2)]))]
noncomputable def top (i:Nat):Stmt:=PySem.Challenge.pw_rowdam_k28_gaps_told.main.body.getD i (.Pass ⟨0,0,0,0⟩)
noncomputable def sG:List Str:=["min","max","int","sorted","len","range","sum","isinstance","bool","str","tuple","reversed","list"]
structure Ad where
 DamError:Addr
 NoExpr:Addr
structure Txt (K:Fgx)(mg:Mgx)(C:Ad)(w:World):Prop where
 blt:∀b∈sG,mg b=none
 xm_DamError:mg "DamError"=some (.ref C.DamError)
 xc_DamError:gK K C.DamError=true
 xm_NoExpr:mg "NoExpr"=some (.ref C.NoExpr)
 xc_NoExpr:gK K C.NoExpr=true
 xn_NoExpr:Ke K C.NoExpr=true
 xk_NoExpr:PySem.W.keepIn K (.ref C.NoExpr)=true
 xs_NoExpr:zx K C.NoExpr=true
 k_ALL_LETTERS:∃a,mg "ALL_LETTERS"=some (.ref a)/\∀P H,Is K P H (.tup [(.str "t"),(.str "v"),(.str "w")]) (.ref a)
 k_NEEDS:∃a,mg "NEEDS"=some (.ref a)/\KTab K w a Yd
 k_FIGURES:∃t,mg "FIGURES"=some (.str "0123456789" t)
 k_MOST_FIGURES:∃t,mg "MOST_FIGURES"=some (.int 20 t)
 k_MOST_VALUE:∃t,mg "MOST_VALUE"=some (.int 1000000000000000000000000000000000000000000000000000000000000 t)
 k_LETTERS:∃t,mg "LETTERS"=some (.str "abcdefghijklmnopqrstuvwxyz" t)
 k_COND_LETTERS:∃t,mg "COND_LETTERS"=some (.str "tv" t)
structure MetAt (K:Fgx)(C:Addr)(x q:Str)(st:Stmt)(ps:List Str)(f:Addr)(fd:FuncData):Prop where
 M:Meth K C x f
 F:FunD K x q st f fd
 b:Binds K fd ps []
structure IniAt (K:Fgx)(C:Addr)(q:Str)(st:Stmt)(ps:List Str)(f:Addr)(fd:FuncData):Prop where
 M:Mk K C f
 F:FunD K "__init__" q st f fd
 b:Binds K fd ps []
structure MetAtD (K:Fgx)(C:Addr)(x q:Str)(st:Stmt)(ps:List Str)(dd:List D)(f:Addr)(fd:FuncData):Prop where
 M:Meth K C x f
 F:FunD K x q st f fd
 b:Binds K fd ps []
 bd:∃(dv:List V) (du:List Value),Binds K fd ps du/\Vals dv du/\(∀P H,au K P H dd dv)/\dv.length=dd.length
noncomputable def Bd (t:String):Option Bool:=if t="int" then some false else if t="bool" then some true else if t="str" then some false else if t="list" then some false else if t="tuple" then some false else if t="NoneType" then some false else if t="dict" then some false else none
theorem NT {K:Fgx}:∀t b,Bd t=some b->PySem.W.kitOne K (.type t) (.type "bool")=some b:=by
 intro t b h;unfold Bd at h;split at h
 ·rename_i e;subst e;cases h;kernel_rfl
 split at h
 ·rename_i e;subst e;cases h;kernel_rfl
 split at h
 ·rename_i e;subst e;cases h;kernel_rfl
 split at h
 ·rename_i e;subst e;cases h;kernel_rfl
 split at h
 ·rename_i e;subst e;cases h;kernel_rfl
 split at h
 ·rename_i e;subst e;cases h;kernel_rfl
 split at h
 ·rename_i e;subst e;cases h;kernel_rfl
 cases h
noncomputable def Bf (t:String):Option Bool:=if t="int" then some true else if t="bool" then some true else if t="str" then some false else if t="list" then some false else if t="tuple" then some false else if t="NoneType" then some false else if t="dict" then some false else none
theorem NZ {K:Fgx}:∀t b,Bf t=some b->PySem.W.kitOne K (.type t) (.type "int")=some b:=by
 intro t b h;unfold Bf at h;split at h
 ·rename_i e;subst e;cases h;kernel_rfl
 split at h
 ·rename_i e;subst e;cases h;kernel_rfl
 split at h
 ·rename_i e;subst e;cases h;kernel_rfl
 split at h
 ·rename_i e;subst e;cases h;kernel_rfl
 split at h
 ·rename_i e;subst e;cases h;kernel_rfl
 split at h
 ·rename_i e;subst e;cases h;kernel_rfl
 split at h
 ·rename_i e;subst e;cases h;kernel_rfl
 cases h
noncomputable def Bg (t:String):Option Bool:=if t="int" then some false else if t="bool" then some false else if t="str" then some false else if t="list" then some true else if t="tuple" then some false else if t="NoneType" then some false else if t="dict" then some false else none
theorem N5 {K:Fgx}:∀t b,Bg t=some b->PySem.W.kitOne K (.type t) (.type "list")=some b:=by
 intro t b h;unfold Bg at h;split at h
 ·rename_i e;subst e;cases h;kernel_rfl
 split at h
 ·rename_i e;subst e;cases h;kernel_rfl
 split at h
 ·rename_i e;subst e;cases h;kernel_rfl
 split at h
 ·rename_i e;subst e;cases h;kernel_rfl
 split at h
 ·rename_i e;subst e;cases h;kernel_rfl
 split at h
 ·rename_i e;subst e;cases h;kernel_rfl
 split at h
 ·rename_i e;subst e;cases h;kernel_rfl
 cases h
noncomputable def Bh (t:String):Option Bool:=if t="int" then some false else if t="bool" then some false else if t="str" then some true else if t="list" then some false else if t="tuple" then some false else if t="NoneType" then some false else if t="dict" then some false else none
theorem N6 {K:Fgx}:∀t b,Bh t=some b->PySem.W.kitOne K (.type t) (.type "str")=some b:=by
 intro t b h;unfold Bh at h;split at h
 ·rename_i e;subst e;cases h;kernel_rfl
 split at h
 ·rename_i e;subst e;cases h;kernel_rfl
 split at h
 ·rename_i e;subst e;cases h;kernel_rfl
 split at h
 ·rename_i e;subst e;cases h;kernel_rfl
 split at h
 ·rename_i e;subst e;cases h;kernel_rfl
 split at h
 ·rename_i e;subst e;cases h;kernel_rfl
 split at h
 ·rename_i e;subst e;cases h;kernel_rfl
 cases h
noncomputable def Bj (t:String):Option Bool:=if t="int" then some false else if t="bool" then some false else if t="str" then some false else if t="list" then some false else if t="tuple" then some true else if t="NoneType" then some false else if t="dict" then some false else none
theorem N7 {K:Fgx}:∀t b,Bj t=some b->PySem.W.kitOne K (.type t) (.type "tuple")=some b:=by
 intro t b h;unfold Bj at h;split at h
 ·rename_i e;subst e;cases h;kernel_rfl
 split at h
 ·rename_i e;subst e;cases h;kernel_rfl
 split at h
 ·rename_i e;subst e;cases h;kernel_rfl
 split at h
 ·rename_i e;subst e;cases h;kernel_rfl
 split at h
 ·rename_i e;subst e;cases h;kernel_rfl
 split at h
 ·rename_i e;subst e;cases h;kernel_rfl
 split at h
 ·rename_i e;subst e;cases h;kernel_rfl
 cases h
noncomputable def aJ (t T:String):Option Bool:=if T="bool" then Bd t else if T="int" then Bf t else if T="list" then Bg t else if T="str" then Bh t else if T="tuple" then Bj t else none
theorem Zv:aJ "int" "bool"=some false:=by x_go
theorem Zw:aJ "int" "int"=some true:=by x_go
theorem Zx:aJ "int" "list"=some false:=by x_go
theorem Zy:aJ "int" "str"=some false:=by x_go
theorem Zz:aJ "int" "tuple"=some false:=by x_go
theorem Zi:aJ "bool" "bool"=some true:=by x_go
theorem Zj:aJ "bool" "int"=some true:=by x_go
theorem Zk:aJ "bool" "list"=some false:=by x_go
theorem Zm:aJ "bool" "str"=some false:=by x_go
theorem Zn:aJ "bool" "tuple"=some false:=by x_go
theorem ZK:aJ "str" "bool"=some false:=by x_go
theorem ZL:aJ "str" "int"=some false:=by x_go
theorem ZM:aJ "str" "list"=some false:=by x_go
theorem ZP:aJ "str" "str"=some true:=by x_go
theorem ZQ:aJ "str" "tuple"=some false:=by x_go
theorem ZC:aJ "list" "bool"=some false:=by x_go
theorem ZD:aJ "list" "int"=some false:=by x_go
theorem ZF:aJ "list" "list"=some true:=by x_go
theorem ZG:aJ "list" "str"=some false:=by x_go
theorem ZJ:aJ "list" "tuple"=some false:=by x_go
theorem ZR:aJ "tuple" "bool"=some false:=by x_go
theorem ZS:aJ "tuple" "int"=some false:=by x_go
theorem ZV:aJ "tuple" "list"=some false:=by x_go
theorem ZW:aJ "tuple" "str"=some false:=by x_go
theorem ZX:aJ "tuple" "tuple"=some true:=by x_go
theorem Zd:aJ "NoneType" "bool"=some false:=by x_go
theorem Ze:aJ "NoneType" "int"=some false:=by x_go
theorem Zf:aJ "NoneType" "list"=some false:=by x_go
theorem Zg:aJ "NoneType" "str"=some false:=by x_go
theorem Zh:aJ "NoneType" "tuple"=some false:=by x_go
theorem Zo:aJ "dict" "bool"=some false:=by x_go
theorem Zq:aJ "dict" "int"=some false:=by x_go
theorem Zr:aJ "dict" "list"=some false:=by x_go
theorem Zt:aJ "dict" "str"=some false:=by x_go
theorem Zu:aJ "dict" "tuple"=some false:=by x_go
theorem t_ {K:Fgx}:∀t T b,aJ t T=some b->PySem.W.kitOne K (.type t) (.type T)=some b:=by
 intro t T b h;unfold aJ at h;split at h
 ·rename_i e;subst e;exact NT t b h
 split at h
 ·rename_i e;subst e;exact NZ t b h
 split at h
 ·rename_i e;subst e;exact N5 t b h
 split at h
 ·rename_i e;subst e;exact N6 t b h
 split at h
 ·rename_i e;subst e;exact N7 t b h
 cases h
abbrev yL:Stmt:=top 31
theorem Jq:FnScope ["fold","value"] ["fold","value"] (bx yL):=dH
noncomputable def z6:S:=(aq (aM (mz (s2 (aH .eq) (aj 0) (ao (.str "count"))) (ao (.int 1)) (aj 1))) aA)
def tR:G:=cF 2 z6
abbrev yO:Stmt:=top 32
theorem Ju:FnScope ["fold","one","other"] ["fold","one","other"] (bx yO):=dH
noncomputable def z9:S:=(aq (bR (s2 (aH .eq) (aj 0) (ao (.str "most"))) (aq (aM (sN gY (aD (aj 1) (aD (aj 2) aC)))) aA) aA) (aq (bR (s2 (aH .eq) (aj 0) (ao (.str "least"))) (aq (aM (sN lJ (aD (aj 1) (aD (aj 2) aC)))) aA) aA) (aq (aM (s2 aP (aj 1) (aj 2))) aA)))
def tV:G:=cF 3 z9
abbrev yM:Stmt:=top 33
theorem Jr:FnScope ["fold","values","parts","total","part"] ["fold","values"] (bx yM):=dH
noncomputable def Bo:S:=(aq (aQ 3 (bT tV (aD (aj 0) (aD (aj 3) (aD (aj 4) aC))))) aA)
def GJ:E:=(bT tR (aD (aj 1) (aD (aj 0) aC)))
noncomputable def z7:S:=(aq (aQ 2 (mq [("fold",0)] (dz (aj 1)) (ao (.bl true)) GJ)) (aq (aQ 3 (s2 aV (aj 2) (ao (.int 0)))) (aq (cX 4 (dz (pN (aj 2) (m7 (ao (.int 1))) pC)) Bo) (aq (aM (aj 3)) aA))))
def q_:G:=cF 5 z7
abbrev yJ:Stmt:=top 35
theorem Jo:FnScope ["things","gap","found","thing"] ["things","gap"] (bx yJ):=dH
noncomputable def u_:S:=(aq (bR (cA (cO (aj 2)) (s2 (aH .lt) (s2 cu (s2 aV (aj 3) (ao (.int 0))) (s2 aV (s2 aV (s2 aV (aj 2) (s1 cW (ao (.int 1)))) (s1 cW (ao (.int 1)))) (ao (.int 0)))) (aj 1))) (aq (gC (s2 aV (aj 2) (s1 cW (ao (.int 1)))) (aj 3)) aA) (aq (gC (aj 2) (lB (bB (aD (aj 3) aC)))) aA)) aA)
noncomputable def zY:S:=(aq (aQ 2 (lB (bB aC))) (aq (rB 1000 3 (aj 0) u_) (aq (aM (aj 2)) aA)))
def tO:G:=cF 4 zY
abbrev yN:Stmt:=top 38
theorem Js:FnScope ["row"] ["row"] (bx yN):=dH
noncomputable def z8:S:=(aq (aM (bW (aD (sN dN (aD (s2 aV (s2 aV (aj 0) (ao (.int 3))) (ao (.int 0))) aC)) (aD (s2 aV (s2 aV (aj 0) (ao (.int 3))) (ao (.int 1))) aC)))) aA)
def tU:G:=cF 1 z8
abbrev yK:Stmt:=top 49
theorem Jp:FnScope ["row","things","mark","rest","by_key","thing","told","key","own","chain","end"] ["row","things","mark"] (bx yK):=dH
def sO:E:=(s2 aV (aj 0) (ao (.int 2)))
noncomputable def Bm:S:=(aq (aQ 10 (s2 aP (s2 aV (s2 aV (aj 9) (s1 cW (ao (.int 1)))) (ao (.int 0))) (s2 aV (aj 3) (ao (.int 0))))) (aq (bR (s2 (aH .le) (aj 10) (aj 2)) (aq (fK 6 (bW (aD (s2 cu (aj 10) (ao (.int 1))) (aD (aj 7) (aD (bT q_ (aD (s2 aV (aj 3) (ao (.int 1))) (aD (kj 1000 [] (aj 9) sO) aC))) aC))))) aA) aA) aA))
noncomputable def vd:S:=(aq (rB 1000 9 (bT tO (aD (aj 8) (aD (s2 aV (aj 3) (ao (.int 0))) aC))) Bm) aA)
noncomputable def xU:S:=(aq (gC (vR (aj 4) (s2 aV (aj 5) (ao (.int 1))) (lB (bB aC))) (aj 5)) aA)
noncomputable def zZ:S:=(aq (aQ 3 (bT tU (aD (aj 0) aC))) (aq (aQ 4 (pL pB)) (aq (cX 5 (dz (mD (aj 1))) xU) (aq (m9 6 (bB aC)) (aq (vP [7,8] (gD (aj 4)) vd) (aq (eX 6) (aq (aM (aj 6)) aA)))))))
def tQ:G:=cF 11 zZ
abbrev yP:Stmt:=top 51
theorem Jv:FnScope ["row","feeds","mark"] ["row","feeds","mark"] (bx yP):=dH
noncomputable def z_:S:=(aq (bR (s2 (aH .eq) (s2 aV (aj 0) (ao (.int 0))) (ao (.str "keep"))) (aq m_ aA) aA) (aq (bR (s2 (aH .eq) (s2 aV (aj 0) (ao (.int 0))) (ao (.str "turn"))) (aq m_ aA) aA) (aq (bR (s2 (aH .eq) (s2 aV (aj 0) (ao (.int 0))) (ao (.str "share"))) (aq m_ aA) aA) (aq (bR (s2 (aH .isin) (s2 aV (aj 0) (ao (.int 0))) (bW (aD (ao (.str "fixed")) (aD (ao (.str "slide")) aC)))) (aq m_ aA) aA) (aq (bR (s2 (aH .eq) (s2 aV (aj 0) (ao (.int 0))) (ao (.str "gap"))) (aq (aM (bT tQ (aD (aj 0) (aD (s2 aV (aj 1) (ao (.int 0))) (aD (aj 2) aC))))) aA) aA) (aq (bR (s2 (aH .eq) (s2 aV (aj 0) (ao (.int 0))) (ao (.str "join"))) (aq m_ aA) aA) (aq m_ aA)))))))
def tW:G:=cF 3 z_
abbrev yQ:Stmt:=top 52
theorem Jw:FnScope ["row","feeds","mark"] ["row","feeds","mark"] (bx yQ):=dH
noncomputable def Aa:S:=(aq (aM (mD (bT tW (aD (aj 0) (aD (aj 1) (aD (aj 2) aC)))))) aA)
def tX:G:=cF 3 Aa
abbrev yx:Stmt:=top 54
theorem Jd:FnScope ["_law_script","_law_k"] ["_law_script","_law_k"] (bx yx):=dH
noncomputable def zO:S:=(aq (bR (s2 (aH .lt) (aj 1) (sN cG (aD (aj 0) aC))) (aq (aM (s2 aV (aj 0) (aj 1))) aA) aA) (aq (aM (ao (.int 0))) aA))
def fV:G:=cF 2 zO
abbrev yF:Stmt:=top 55
theorem Jh:FnScope ["_law_cell","_law_k","_law_number"] ["_law_cell","_law_k"] (bx yF):=dH
noncomputable def zT:S:=(aq (aQ 2 (s2 oMod (s2 cV (s2 aP (s2 aP (aj 0) (s2 cV (ao (.int 7919)) (aj 1))) (ao (.int 1))) (ao (.int 48271))) (ao (.int 2147483647)))) (aq (aM (s2 oMod (s2 cV (aj 2) (s2 aP (s2 fH (aj 2) (ao (.int 1009))) (ao (.int 69621)))) (ao (.int 2147483647)))) aA))
def tB:G:=cF 3 zT
abbrev yD:Stmt:=top 56
theorem Jf:FnScope ["_law_number","_law_which","_law_some","_law_word","_law_k","_law_at","_law_sign"] ["_law_number","_law_which"] (bx yD):=dH
noncomputable def xQ:S:=(aq (aQ 3 (s2 aP (aj 3) (s2 aV (aj 2) (s2 oMod (s2 fH (aj 0) (s2 aP (ao (.int 8)) (s2 cV (ao (.int 25)) (aj 4)))) (ao (.int 26)))))) aA)
noncomputable def zQ:S:=(aq (aQ 2 (ao (.str "abcdefghijklmnopqrstuvwxyz"))) (aq (aQ 3 (ao (.str ""))) (aq (cX 4 (m6 (aD (s2 aP (ao (.int 1)) (s2 oMod (aj 0) (ao (.int 8)))) aC)) xQ) (aq (aQ 5 (s2 oMod (s2 fH (aj 0) (ao (.int 8))) (sN cG (aD (aj 3) aC)))) (aq (aQ 6 (s2 aV (aj 2) (s2 oMod (s2 aP (yu wD (aj 2) (aD (s2 aV (aj 3) (aj 5)) aC)) (aj 1)) (ao (.int 26))))) (aq (aM (s2 aP (s2 aP (pN (aj 3) pC (m7 (aj 5))) (aj 6)) (pN (aj 3) (m7 (s2 aP (aj 5) (ao (.int 1)))) pC))) aA))))))
def sZ:G:=cF 7 zQ
abbrev yI:Stmt:=top 57
theorem Jm:FnScope ["_law_number"] ["_law_number"] (bx yI):=dH
noncomputable def zX:S:=(aq (bR (s2 (aH .eq) (s2 oMod (aj 0) (ao (.int 4))) (ao (.int 3))) (aq (aM (s2 cu (s2 oMod (s2 fJ (aj 0) (ao (.int 10))) (s2 aP (s2 cV (ao (.int 2)) (s2 fJ (ao (.int 10)) (ao (.int 60)))) (ao (.int 1)))) (s2 fJ (ao (.int 10)) (ao (.int 60))))) aA) aA) (aq (aM (s2 cu (s2 oMod (s2 fH (aj 0) (ao (.int 4))) (ao (.int 41))) (ao (.int 20)))) aA))
def tM:G:=cF 1 zX
abbrev vV:Stmt:=top 58
theorem Jl:FnScope ["_law_script","_law_far","_law_found","_law_k","_law_number","_law_key_here"] ["_law_script","_law_far"] (bx vV):=dH
theorem J_:LV vV "_law_found":=by kernel_rfl
noncomputable def Bl:S:=(aq (aQ 4 (bT tB (aD (bT fV (aD (aj 0) (aD (s2 aP (ao (.int 5)) (aj 3)) aC))) (aD (aj 3) aC)))) (aq (aQ 5 (bT sZ (aD (s2 oMod (bT fV (aD (aj 0) (aD (ao (.int 1)) aC))) (ao (.int 1000003))) (aD (s2 oMod (s2 fH (aj 4) (ao (.int 120))) (ao (.int 3))) aC)))) (aq (fK 2 (bW (aD (s2 aP (s2 cV (s2 oMod (aj 4) (ao (.int 40))) (aj 1)) (s2 oMod (s2 fH (aj 4) (ao (.int 40))) (ao (.int 3)))) (aD (aj 5) (aD (bT tM (aD (s2 fH (aj 4) (ao (.int 360))) aC)) aC))))) aA)))
noncomputable def zW:S:=(aq (m9 2 (bB aC)) (aq (cX 3 (m6 (aD (s2 oMod (s2 fH (bT fV (aD (aj 0) (aD (ao (.int 0)) aC))) (ao (.int 3))) (ao (.int 10))) aC)) Bl) (aq (bR (s2 (aH .eq) (s2 oMod (bT fV (aD (aj 0) (aD (ao (.int 1)) aC))) (ao (.int 3))) (ao (.int 2))) (aq (m9 2 (s2 kh (nj 2) (pN (nj 2) pC (m7 (ao (.int 1)))))) aA) aA) (aq (eX 2) (aq (aM (aj 2)) aA)))))
def tL:G:=cF 6 zW
abbrev yE:Stmt:=top 59
theorem Jg:FnScope ["_law_cell","_law_gap","_law_far"] ["_law_cell","_law_gap","_law_far"] (bx yE):=dH
noncomputable def zR:S:=(aq (bR (s2 (aH .eq) (s2 oMod (aj 0) (ao (.int 4))) (ao (.int 0))) (aq (aM (s2 fJ (ao (.int 10)) (ao (.int 15)))) aA) aA) (aq (bR (s2 (aH .eq) (s2 oMod (aj 0) (ao (.int 4))) (ao (.int 3))) (aq (aM (s2 oMod (s2 fH (aj 0) (ao (.int 4))) (s2 cV (ao (.int 60)) (aj 2)))) aA) aA) (aq (aM (s2 cu (s2 aP (s2 aP (s2 cV (s2 oMod (s2 fH (aj 0) (ao (.int 4))) (ao (.int 40))) (aj 2)) (s2 oMod (s2 fH (aj 0) (ao (.int 160))) (ao (.int 3)))) (aj 1)) (s2 oMod (s2 fH (aj 0) (ao (.int 480))) (ao (.int 2))))) aA)))
def tu:G:=cF 3 zR
abbrev yC:Stmt:=top 60
theorem Je:FnScope ["_law_fold_here","_law_values"] ["_law_fold_here","_law_values"] (bx yC):=dH
noncomputable def zP:S:=(aq (bR (s2 (aH .eq) (aj 0) (ao (.str "sum"))) (aq (aM (sN g8 (aD (aj 1) aC))) aA) aA) (aq (bR (s2 (aH .eq) (aj 0) (ao (.str "count"))) (aq (aM (sN cG (aD (aj 1) aC))) aA) aA) (aq (bR (s2 (aH .eq) (aj 0) (ao (.str "most"))) (aq (aM (sN sy (aD (aj 1) aC))) aA) aA) (aq (aM (sN sE (aD (aj 1) aC))) aA))))
def sY:G:=cF 2 zP
abbrev yH:Stmt:=top 61
theorem Jk:FnScope ["_law_found","_law_number"] ["_law_found"] (bx yH):=dH
noncomputable def Ov:S:=(aq (bR (ni (dZ (cO (eY aJ "int" (aj 1)))) (cO (eY aJ "bool" (aj 1)))) (aq (aM (ao (.bl false))) aA) aA) aA)
noncomputable def Fq:S:=(aq (bR (ni (dZ (cO (eY aJ "tuple" (aj 0)))) (ni (s2 (aH .ne) (sN cG (aD (aj 0) aC)) (ao (.int 3))) (dZ (cO (eY aJ "str" (s2 aV (aj 0) (ao (.int 1)))))))) (aq (aM (ao (.bl false))) aA) aA) (aq (cX 1 (dz (bB (aD (s2 aV (aj 0) (ao (.int 0))) (aD (s2 aV (aj 0) (ao (.int 2))) aC)))) Ov) (aq (aM (ao (.bl true))) aA)))
def xJ:G:=cF 2 Fq
abbrev yG:Stmt:=top 62
theorem Ji:FnScope ["_law_things_here","_law_time","_law_key_here","_law_gap","_law_other"] ["_law_things_here","_law_time","_law_key_here","_law_gap"] (bx yG):=dH
noncomputable def xR:S:=(aq (bR (cA (s2 (aH .eq) (s2 aV (aj 4) (ao (.int 1))) (aj 2)) (fL .lt .lt (aj 1) (s2 aV (aj 4) (ao (.int 0))) (s2 aP (aj 1) (aj 3)))) (aq (aM (ao (.bl true))) aA) aA) aA)
noncomputable def zU:S:=(aq (cX 4 (dz (aj 0)) xR) (aq (aM (ao (.bl false))) aA))
def tD:G:=cF 5 zU
abbrev yw:Stmt:=top 63
theorem Jc:FnScope ["_law_things_here","_law_last","_law_key_here","_law_gap","_law_own","_law_first","_law_thing_here"] ["_law_things_here","_law_last","_law_key_here","_law_gap"] (bx yw):=dH
noncomputable def u5:S:=(aq (bR (cA (s2 (aH .eq) (s2 aV (aj 6) (ao (.int 1))) (aj 2)) (s2 (aH .le) (s2 aV (aj 6) (ao (.int 0))) (aj 1))) (aq (bR (s2 (aH .ge) (s2 cu (aj 5) (s2 aV (aj 6) (ao (.int 0)))) (aj 3)) (aq (eX 4) (aq (aM (aj 4)) aA)) aA) (aq (aQ 5 (s2 aV (aj 6) (ao (.int 0)))) (aq (fK 4 (s2 aV (aj 6) (ao (.int 2)))) aA))) aA) aA)
noncomputable def zN:S:=(aq (m9 4 (bB aC)) (aq (aQ 5 (aj 1)) (aq (cX 6 (xK (aD (mD (aj 0)) aC)) u5) (aq (eX 4) (aq (aM (aj 4)) aA)))))
def sX:G:=cF 7 zN
abbrev vU:Stmt:=top 64
theorem Jj:FnScope ["_law_found","_law_things_here","_law_gap","_law_fold_here","_law_mark_here","_law_lasts","_law_time","_law_key_here","_law_value_here","_law_k"] ["_law_found","_law_things_here","_law_gap","_law_fold_here","_law_mark_here"] (bx vU):=dH
theorem J9:LV vU "_law_lasts":=by kernel_rfl
noncomputable def Bt:S:=(aq (eX 5) (aq (aM (s2 (aH .eq) (sN cG (aD (aj 0) aC)) (sN cG (aD (aj 5) aC)))) aA))
noncomputable def xX:S:=(aq (bR (s2 (aH .ne) (aj 8) (bT sY (aD (aj 3) (aD (bT sX (aD (aj 1) (aD (s2 cu (s2 aP (aj 6) (ao (.int 1))) (aj 2)) (aD (aj 7) (aD (aj 2) aC))))) aC)))) (aq (aM (ao (.bl false))) aA) aA) aA)
noncomputable def Hz:S:=(aq (bR (ni (cA (s2 (aH .gt) (aj 9) (ao (.int 0))) (s2 gq (mC (s2 aV (aj 0) (s2 cu (aj 9) (ao (.int 1)))) pC (m7 (ao (.int 2)))) (bW (aD (aj 6) (aD (aj 7) aC))))) (s2 (cJ true) (bW (aD (s2 cu (s2 aP (aj 6) (ao (.int 1))) (aj 2)) (aD (aj 7) aC))) (nj 5))) (aq (aM (ao (.bl false))) aA) aA) xX)
noncomputable def xT:S:=(aq (mF [6,7,8] (s2 aV (aj 0) (aj 9))) Hz)
noncomputable def Bs:S:=(aq (cX 9 (m6 (aD (sN cG (aD (aj 0) aC)) aC)) xT) Bt)
noncomputable def u6:S:=(aq (bR (cA (dZ (cO (bT tD (aD (aj 1) (aD (aj 6) (aD (aj 7) (aD (aj 2) aC))))))) (cA (s2 (aH .le) (s2 aP (aj 6) (aj 2)) (aj 4)) (s2 (cJ true) (bW (aD (aj 6) (aD (aj 7) aC))) (nj 5)))) (aq (fK 5 (bW (aD (aj 6) (aD (aj 7) aC)))) aA) aA) aA)
noncomputable def Br:S:=(aq (vQ [6,7,8] (dz (aj 1)) u6) Bs)
def zV:S:=(aq (m9 5 (bB aC)) Br)
def tK:G:=cF 10 zV
abbrev kE:Stmt:=top 65
theorem Jt:FnScope ["_law_script","_law_far","_law_things_here","_law_fold_here","_law_gap","_law_mark_here","_law_handed","_law_found"] ["_law_script"] (bx kE):=dH
noncomputable def yc:S:=(aq (aM (cA (s2 (aH .eq) (aj 6) (bB (aD (aj 2) aC))) (bT tK (aD (aj 7) (aD (aj 2) (aD (aj 4) (aD (aj 3) (aD (aj 5) aC)))))))) aA)
def Ae:E:=(dZ (cO (bT xJ (aD (aj 0) aC))))
def GK:E:=(aj 0)
noncomputable def xZ:S:=(aq (bR (ni (dZ (cO (eY aJ "list" (aj 7)))) (s2 (aH .ne) (mq [] (dz (aj 7)) Ae GK) (bB aC))) (aq (aM (ao (.bl false))) aA) aA) yc)
noncomputable def BK:S:=(aq (aQ 7 (bT tX (aD (bW (aD (ao (.str "gap")) (aD (ao (.str "g")) (aD (bW (aD (ao (.str "a")) aC)) (aD (bW (aD (sN gZ (aD (aj 4) aC)) (aD (aj 3) aC))) aC))))) (aD (aj 6) (aD (aj 5) aC))))) xZ)
def BJ:S:=(aq (aQ 6 (bB (aD (rC (aj 2)) aC))) BK)
noncomputable def Bx:S:=(aq (aQ 5 (bT tu (aD (bT fV (aD (aj 0) (aD (ao (.int 4)) aC))) (aD (aj 4) (aD (aj 1) aC))))) BJ)
noncomputable def Bw:S:=(aq (aQ 4 (sN gY (aD (ao (.int 1)) (aD (s2 cu (s2 aP (s2 cV (s2 aP (ao (.int 1)) (s2 oMod (s2 fH (bT fV (aD (aj 0) (aD (ao (.int 2)) aC))) (ao (.int 4))) (ao (.int 16)))) (aj 1)) (s2 oMod (bT fV (aD (aj 0) (aD (ao (.int 3)) aC))) (ao (.int 5)))) (ao (.int 2))) aC)))) Bx)
noncomputable def Bv:S:=(aq (aQ 3 (s2 aV (bB (aD (ao (.str "sum")) (aD (ao (.str "count")) (aD (ao (.str "most")) (aD (ao (.str "least")) aC))))) (s2 oMod (bT fV (aD (aj 0) (aD (ao (.int 2)) aC))) (ao (.int 4))))) Bw)
noncomputable def Bu:S:=(aq (aQ 2 (bT tL (aD (aj 0) (aD (aj 1) aC)))) Bv)
noncomputable def wZ:S:=(aq (aQ 1 (s2 aV (bB (aD (ao (.int 1)) (aD (ao (.int 1)) (aD (s2 aP (s2 fJ (ao (.int 10)) (ao (.int 9))) (ao (.int 7))) aC)))) (s2 oMod (bT fV (aD (aj 0) (aD (ao (.int 0)) aC))) (ao (.int 3))))) Bu)
def G7:G:=cF 8 wZ
section
variable {P:Program}{w:World}{K:Fgx}{mg:Mgx}{C:Ad}{base:Heap}{k k0:Nat}{f:Addr}
theorem Vs (T:Txt K mg C w):RT P w K mg base k f ["fold","value"] "first_of" yL z6:=fun cdv A outer s H E hr=>by
 refine dG hr fun hu=>?_;have nd:=(Jq).nd;exact aG (bH (Wo (Ct hu Sv Es) Ei Sv)) aK
theorem VJ (T:Txt K mg C w):RT P w K mg base k f ["fold","one","other"] "merged" yO z9:=fun cdv A outer s H E hr=>by
 refine dG hr fun hu=>?_;have nd:=(Ju).nd;have B_max:=T.blt "max" (by x_go);have B_min:=T.blt "min" (by x_go);refine aG (cC (Ct hu Sv Es) (aG (bH (gF (FW rfl) rfl B_max boot_max Iv (aF Sv (aF Sv aN aO) aO))) aK) aK) ?_;refine aG (cC (Ct hu Sv Es) (aG (bH (gF (K8 rfl) rfl B_min boot_min S6 (aF Sv (aF Sv aN aO) aO))) aK) aK) ?_;exact aG (bH (aL cP cQ Sv Sv)) aK
theorem Vt (T:Txt K mg C w)(a_first_of:aZ P w K mg base k "first_of" 2 tR)(a_merged:aZ P w K mg base k "merged" 3 tV):RT P w K mg base k f ["fold","values","parts","total","part"] "folded" yM z7:=fun cdv A outer s H E hr=>by
 refine dG hr fun hu=>?_;have nd:=(Jr).nd;refine aG (Xc "value" [("fold",0)] (i:=2) nd rfl Lv rfl (by x_go) (pO Sv) (fun _ _ _ _ _ _=>W_) (fun _ _ _ _ _ _=>(cB a_first_of hr rfl (aF (rD rfl (.inr (.inl (by kernel_rfl)))) (aF (rD rfl (.inl (by kernel_rfl))) aN aO) aO) (cnt_cons (cnt_cons cnt_nil))))) ?_;refine aG (cY (i:=3) nd rfl Lv (Ek Sv Ei)) ?_;refine aG (nu xaH rfl nd rfl Lv (pO (yR Sv (wg (Wx:=W0) Ei) wj)) (aG (cY (i:=3) nd rfl Lv (cB a_merged hr rfl (aF (rD rfl (.inr Lu)) (aF Sv (aF Sv aN aO) aO) aO) (cnt_cons (cnt_cons (cnt_cons cnt_nil))))) aK)) ?_;exact aG (bH Sv) aK
theorem Vh (T:Txt K mg C w):RT P w K mg base k f ["things","gap","found","thing"] "chains" yJ zY:=fun cdv A outer s H E hr=>by
 refine dG hr fun hu=>?_;have nd:=(Jo).nd;refine aG (cY (i:=2) nd rfl Lv (Dj (gG aN))) ?_;refine aG (JQ 1000 xaH rfl nd rfl Lv Sv (aG (cC (SW.st (rJ (nF Sv) (wz (Ct hu (aL lu lA (Ek Sv Ei) (Ek (Ek (Ek Sv (yS zp yp Ei)) (yS zp yp Ei)) Ei)) Sv)))) (aG (Dy (Ek Sv (yS zp yp Ei)) Sv) aK) (aG (Dy Sv (Dj (gG (aF Sv aN aO)))) aK)) aK)) ?_;exact aG (bH Sv) aK
theorem Vw (T:Txt K mg C w):RT P w K mg base k f ["row"] "gap_of" yN z8:=fun cdv A outer s H E hr=>by
 refine dG hr fun hu=>?_;have nd:=(Js).nd;have B_int:=T.blt "int" (by x_go);exact aG (bH (kI (aF (Jz KZ rfl B_int boot_int SJ (aF (Ek (Ek Sv Ei) Ei) aN nA)) (aF (Ek (Ek Sv Ei) Ei) aN nA) lC))) aK
theorem Vi (T:Txt K mg C w)(a_folded:aZ P w K mg base k "folded" 2 q_)(a_chains:aZ P w K mg base k "chains" 2 tO)(a_gap_of:aZ P w K mg base k "gap_of" 1 tU):RT P w K mg base k f ["row","things","mark","rest","by_key","thing","told","key","own","chain","end"] "closed_chains" yK zZ:=fun cdv A outer s H E hr=>by
 refine dG hr fun hu=>?_;have nd:=(Jp).nd;have B_sorted:=T.blt "sorted" (by x_go);refine aG (cY (i:=3) nd rfl Lv (cB a_gap_of hr rfl (aF Sv aN aO) (cnt_cons cnt_nil))) ?_;refine aG (cY (i:=4) nd rfl Lv Wn) ?_;refine aG (nu xaH rfl nd rfl Lv (pO (SN.sem (Dt rfl B_sorted Sv) Dw)) (aG (Dy (Wu Sv (Ek Sv Ei) (Dj (gG aN))) Sv) aK)) ?_;refine aG (wu (i:=6) nd rfl Lv (gG aN)) ?_;refine aG (Xd xaH rfl (nq (i:=7) nd rfl Lv (nq (i:=8) nd rfl Lv Dq)) (Wr Sv) (aG (JQ 1000 xaH rfl nd rfl Lv (cB a_chains hr rfl (aF Sv (aF (Ek Sv Ei) aN nA) aO) (cnt_cons (cnt_cons cnt_nil))) (aG (cY (i:=10) nd rfl Lv (aL cP cQ (Ek (Ek Sv (yS zp yp Ei)) Ei) (Ek Sv Ei))) (aG (cC (Ct hu Sv Sv) (aG (za rfl Lu (kI (aF (aL lu lA Sv Ei) (aF Sv (aF (cB a_folded hr rfl (aF (Ek Sv Ei) (aF (SN.sem (WY 1000 "thing" [] rfl (by x_go) Sv (fun _ _ _ _ _ _=>(Ek (rD rfl (.inl (by kernel_rfl))) Ei))) Lp) aN Xh) nA) (cnt_cons (cnt_cons cnt_nil))) aN lC) aO) gP))) aK) aK) aK))) aK)) ?_;refine vW ?_;exact aG (bH Sv) aK
theorem V7 (T:Txt K mg C w)(a_closed_chains:aZ P w K mg base k "closed_chains" 3 tQ):RT P w K mg base k f ["row","feeds","mark"] "told_in_any_order" yP z_:=fun cdv A outer s H E hr=>by
 refine dG hr fun hu=>?_;have nd:=(Jv).nd;refine aG (cC (Ct hu (Ek Sv Ei) Es) (aG rF aK) aK) ?_;refine aG (cC (Ct hu (Ek Sv Ei) Es) (aG rF aK) aK) ?_;refine aG (cC (Ct hu (Ek Sv Ei) Es) (aG rF aK) aK) ?_;refine aG (cC (Ct hu (Ek Sv Ei) (kI (aF Es (aF Es aN dI) dI))) (aG rF aK) aK) ?_;refine aG (cC (Ct hu (Ek Sv Ei) Es) (aG (bH (cB a_closed_chains hr rfl (aF Sv (aF (Ek Sv Ei) (aF Sv aN aO) nA) aO) (cnt_cons (cnt_cons (cnt_cons cnt_nil))))) aK) aK) ?_;refine aG (cC (Ct hu (Ek Sv Ei) Es) (aG rF aK) aK) ?_;refine aG ?_ ?_
 ·exact rF
 exact aK
theorem V8 (T:Txt K mg C w)(a_told_in_any_order:aZ P w K mg base k "told_in_any_order" 3 tW):RT P w K mg base k f ["row","feeds","mark"] "told_of" yQ Aa:=fun cdv A outer s H E hr=>by
 refine dG hr fun hu=>?_;have nd:=(Jw).nd;have B_sorted:=T.blt "sorted" (by x_go);exact aG (bH (SN.sem (Dt rfl B_sorted (cB a_told_in_any_order hr rfl (aF Sv (aF Sv (aF Sv aN aO) aO) aO) (cnt_cons (cnt_cons (cnt_cons cnt_nil))))) Dw)) aK
theorem UG (T:Txt K mg C w):RT P w K mg base k f ["_law_script","_law_k"] "_law_cell_at" yx zO:=fun cdv A outer s H E hr=>by
 refine dG hr fun hu=>?_;have nd:=(Jd).nd;have B_len:=T.blt "len" (by x_go);refine aG (cC (Ct hu Sv (gF nR rfl B_len xbF pG (aF Sv aN aO))) (aG (bH (Ek Sv Sv)) aK) aK) ?_;exact aG (bH Ei) aK
theorem U0 (T:Txt K mg C w):RT P w K mg base k f ["_law_cell","_law_k","_law_number"] "_law_mixed" yF zT:=fun cdv A outer s H E hr=>by
 refine dG hr fun hu=>?_;have nd:=(Jh).nd;refine aG (cY (i:=2) nd rfl Lv (aL cL cM (aL lX lZ (aL cP cQ (aL cP cQ Sv (aL lX lZ Ei Sv)) Ei) Ei) Ei)) ?_;exact aG (bH (aL cL cM (aL lX lZ Sv (aL cP cQ (aL gw gB Sv Ei) Ei)) Ei)) aK
theorem UL (T:Txt K mg C w):RT P w K mg base k f ["_law_number","_law_which","_law_some","_law_word","_law_k","_law_at","_law_sign"] "_law_key" yD zQ:=fun cdv A outer s H E hr=>by
 refine dG hr fun hu=>?_;have nd:=(Jf).nd;have B_len:=T.blt "len" (by x_go);have B_range:=T.blt "range" (by x_go);refine aG (cY (i:=2) nd rfl Lv Es) ?_;refine aG (cY (i:=3) nd rfl Lv Es) ?_;refine aG (nu xaH rfl nd rfl Lv (Dr rfl B_range (aF (aL cP cQ Ei (aL cL cM Sv Ei)) aN gP)) (aG (cY (i:=3) nd rfl Lv (aL cP cQ Sv (Ek Sv (aL cL cM (aL gw gB Sv (aL cP cQ Ei (aL lX lZ Ei Sv))) Ei)))) aK)) ?_;refine aG (cY (i:=5) nd rfl Lv (aL cL cM (aL gw gB Sv Ei) (gF nR rfl B_len xbF pG (aF Sv aN aO)))) ?_;refine aG (cY (i:=6) nd rfl Lv (Ek Sv (aL cL cM (aL cP cQ (Ws PySem.F.slot_str_index PySem.F.type_str_index Pr Sy Sv (aF (Ek Sv Sv) aN nA)) Sv) Ei))) ?_;exact aG (bH (aL cP cQ (aL cP cQ (yR Sv wj (wg (Wx:=W0) Sv)) Sv) (yR Sv (wg (Wx:=W0) (aL cP cQ Sv Ei)) wj))) aK
theorem U7 (T:Txt K mg C w):RT P w K mg base k f ["_law_number"] "_law_value" yI zX:=fun cdv A outer s H E hr=>by
 refine dG hr fun hu=>?_;have nd:=(Jm).nd;refine aG (cC (Ct hu (aL cL cM Sv Ei) Ei) (aG (bH (aL lu lA (aL cL cM (aL vB vG Sv Ei) (aL cP cQ (aL lX lZ Ei (aL vB vG Ei Ei)) Ei)) (aL vB vG Ei Ei))) aK) aK) ?_;exact aG (bH (aL lu lA (aL cL cM (aL gw gB Sv Ei) Ei) Ei)) aK
theorem U6 (T:Txt K mg C w)(a__cell_at:aZ P w K mg base k "_law_cell_at" 2 fV)(a__mixed:aZ P w K mg base k "_law_mixed" 2 tB)(a__key:aZ P w K mg base k "_law_key" 2 sZ)(a__value:aZ P w K mg base k "_law_value" 1 tM):RT P w K mg base k f ["_law_script","_law_far","_law_found","_law_k","_law_number","_law_key_here"] "_law_things" vV zW:=fun cdv A outer s H E hr=>by
 refine dG hr fun hu=>?_;have nd:=(Jl).nd;have B_range:=T.blt "range" (by x_go);refine aG (wu (i:=2) nd rfl Lv (gG aN)) ?_;refine aG (nu xaH rfl nd rfl Lv (Dr rfl B_range (aF (aL cL cM (aL gw gB (cB a__cell_at hr rfl (aF Sv (aF Ei aN dI) aO) (cnt_cons (cnt_cons cnt_nil))) Ei) Ei) aN gP)) (aG (cY (i:=4) nd rfl Lv (cB a__mixed hr rfl (aF (cB a__cell_at hr rfl (aF Sv (aF (aL cP cQ Ei Sv) aN gP) aO) (cnt_cons (cnt_cons cnt_nil))) (aF Sv aN aO) lC) (cnt_cons (cnt_cons cnt_nil)))) (aG (cY (i:=5) nd rfl Lv (cB a__key hr rfl (aF (aL cL cM (cB a__cell_at hr rfl (aF Sv (aF Ei aN dI) aO) (cnt_cons (cnt_cons cnt_nil))) Ei) (aF (aL cL cM (aL gw gB Sv Ei) Ei) aN gP) gP) (cnt_cons (cnt_cons cnt_nil)))) (aG (za rfl Lu (kI (aF (aL cP cQ (aL lX lZ (aL cL cM Sv Ei) Sv) (aL cL cM (aL gw gB Sv Ei) Ei)) (aF Sv (aF (cB a__value hr rfl (aF (aL gw gB Sv Ei) aN gP) (cnt_cons cnt_nil)) aN lC) aO) gP))) aK)))) ?_;refine aG (cC (Ct hu (aL cL cM (cB a__cell_at hr rfl (aF Sv (aF Ei aN dI) aO) (cnt_cons (cnt_cons cnt_nil))) Ei) Ei) (aG (wu (i:=2) nd rfl Lv (WW (yU rfl (J_)) (yR (yU rfl (J_)) wj (wg (Wx:=W0) Ei)))) aK) aK) ?_;refine vW ?_;exact aG (bH Sv) aK
theorem UW (T:Txt K mg C w):RT P w K mg base k f ["_law_cell","_law_gap","_law_far"] "_law_mark" yE zR:=fun cdv A outer s H E hr=>by
 refine dG hr fun hu=>?_;have nd:=(Jg).nd;refine aG (cC (Ct hu (aL cL cM Sv Ei) Ei) (aG (bH (aL vB vG Ei Ei)) aK) aK) ?_;refine aG (cC (Ct hu (aL cL cM Sv Ei) Ei) (aG (bH (aL cL cM (aL gw gB Sv Ei) (aL lX lZ Ei Sv))) aK) aK) ?_;exact aG (bH (aL lu lA (aL cP cQ (aL cP cQ (aL lX lZ (aL cL cM (aL gw gB Sv Ei) Ei) Sv) (aL cL cM (aL gw gB Sv Ei) Ei)) Sv) (aL cL cM (aL gw gB Sv Ei) Ei))) aK
theorem UJ (T:Txt K mg C w):RT P w K mg base k f ["_law_fold_here","_law_values"] "_law_fold" yC zP:=fun cdv A outer s H E hr=>by
 refine dG hr fun hu=>?_;have nd:=(Je).nd;have B_len:=T.blt "len" (by x_go);have B_max:=T.blt "max" (by x_go);have B_min:=T.blt "min" (by x_go);have B_sum:=T.blt "sum" (by x_go);refine aG (cC (Ct hu Sv Es) (aG (bH (gF (Lb rfl) rfl B_sum boot_sum S9 (aF Sv aN aO))) aK) aK) ?_;refine aG (cC (Ct hu Sv Es) (aG (bH (gF nR rfl B_len xbF pG (aF Sv aN aO))) aK) aK) ?_;refine aG (cC (Ct hu Sv Es) (aG (bH (gF (K7 rfl) rfl B_max boot_max S5 (aF Sv aN aO))) aK) aK) ?_;exact aG (bH (gF (K9 rfl) rfl B_min boot_min S7 (aF Sv aN aO))) aK
theorem U5 (T:Txt K mg C w):RT P w K mg base k f ["_law_found","_law_number"] "_law_thing" yH Fq:=fun cdv A outer s H E hr=>by
 refine dG hr fun hu=>?_;have nd:=(Jk).nd;have B_bool:=T.blt "bool" (by x_go);have B_int:=T.blt "int" (by x_go);have B_isinstance:=T.blt "isinstance" (by x_go);have B_len:=T.blt "len" (by x_go);have B_str:=T.blt "str" (by x_go);have B_tuple:=T.blt "tuple" (by x_go);refine aG (cC (SW.st (wA (rG (nF (vX (T:="tuple") (fun t b h=>t_ t "tuple" b h) Sv rfl B_isinstance rfl B_tuple boot_tuple))) (wA (Ct hu (gF nR rfl B_len xbF pG (aF Sv aN aO)) Ei) (zf (rG (nF (vX (T:="str") (fun t b h=>t_ t "str" b h) (Ek Sv Ei) rfl B_isinstance rfl B_str boot_str))))))) (aG (bH Eb) aK) aK) ?_;refine aG (nu xaH rfl nd rfl Lv (pO (SN.sem (gG (aF (Ek Sv Ei) (aF (Ek Sv Ei) aN nA) nA)) lst_is)) (aG (cC (SW.st (wA (rG (nF (vX (T:="int") (fun t b h=>t_ t "int" b h) Sv rfl B_isinstance rfl B_int boot_int))) (zf (nF (vX (T:="bool") (fun t b h=>t_ t "bool" b h) Sv rfl B_isinstance rfl B_bool boot_bool))))) (aG (bH Eb) aK) aK) aK)) ?_;exact aG (bH Eb) aK
theorem U3 (T:Txt K mg C w):RT P w K mg base k f ["_law_things_here","_law_time","_law_key_here","_law_gap","_law_other"] "_law_next" yG zU:=fun cdv A outer s H E hr=>by
 refine dG hr fun hu=>?_;have nd:=(Ji).nd;refine aG (nu xaH rfl nd rfl Lv (pO Sv) (aG (cC (SW.st (rJ (Ct hu (Ek Sv Ei) Sv) (wz (Xi (c1:=.lt) (c2:=.lt) hu Sv (Ek Sv Ei) (aL cP cQ Sv Sv))))) (aG (bH Eb) aK) aK) aK)) ?_;exact aG (bH Eb) aK
theorem Uz (T:Txt K mg C w):RT P w K mg base k f ["_law_things_here","_law_last","_law_key_here","_law_gap","_law_own","_law_first","_law_thing_here"] "_law_back" yw zN:=fun cdv A outer s H E hr=>by
 refine dG hr fun hu=>?_;have nd:=(Jc).nd;have B_reversed:=T.blt "reversed" (by x_go);have B_sorted:=T.blt "sorted" (by x_go);refine aG (wu (i:=4) nd rfl Lv (gG aN)) ?_;refine aG (cY (i:=5) nd rfl Lv Sv) ?_;refine aG (nu xaH rfl nd rfl Lv (Wy rfl B_reversed (aF (SN.sem (Dt rfl B_sorted Sv) Dw) aN lC)) (aG (cC (SW.st (rJ (Ct hu (Ek Sv Ei) Sv) (wz (Ct hu (Ek Sv Ei) Sv)))) (aG (cC (Ct hu (aL lu lA Sv (Ek Sv Ei)) Sv) (vW (aG (bH Sv) aK)) aK) (aG (cY (i:=5) nd rfl Lv (Ek Sv Ei)) (aG (za rfl Lu (Ek Sv Ei)) aK))) aK) aK)) ?_;refine vW ?_;exact aG (bH Sv) aK
theorem U4 (T:Txt K mg C w)(a__fold:aZ P w K mg base k "_law_fold" 2 sY)(a__next:aZ P w K mg base k "_law_next" 4 tD)(a__back:aZ P w K mg base k "_law_back" 4 sX):RT P w K mg base k f ["_law_found","_law_things_here","_law_gap","_law_fold_here","_law_mark_here","_law_lasts","_law_time","_law_key_here","_law_value_here","_law_k"] "_law_right" vU zV:=fun cdv A outer s H E hr=>by
 refine dG hr fun hu=>?_;have nd:=(Jj).nd;have B_len:=T.blt "len" (by x_go);have B_range:=T.blt "range" (by x_go);refine aG (wu (i:=5) nd rfl Lv (gG aN)) ?_;refine aG (Xe xaH rfl (nq (i:=6) nd rfl Lv (nq (i:=7) nd rfl Lv (nq (i:=8) nd rfl Lv Dq))) (pO Sv) (aG (cC (SW.st (rJ (rG (nF (cB a__next hr rfl (aF Sv (aF Sv (aF Sv (aF Sv aN aO) aO) aO) aO) (cnt_cons (cnt_cons (cnt_cons (cnt_cons cnt_nil))))))) (rJ (Ct hu (aL cP cQ Sv Sv) Sv) (wz (JR hu (kI (aF Sv (aF Sv aN aO) aO)) (yU rfl (J9))))))) (aG (za rfl Lu (kI (aF Sv (aF Sv aN aO) aO))) aK) aK) aK)) ?_;refine aG (nu xaH rfl nd rfl Lv (Dr rfl B_range (aF (gF nR rfl B_len xbF pG (aF Sv aN aO)) aN lC)) (aG (Xg rfl (nq (i:=6) nd rfl Lv (nq (i:=7) nd rfl Lv (nq (i:=8) nd rfl Lv Dq))) (Ek Sv Sv)) (aG (cC (SW.st (wA (SW.st (rJ (Ct hu Sv Ei) (wz (Xj hu (Wv (Ek Sv (aL lu lA Sv Ei)) wj (wg (Wx:=W0) Ei)) (kI (aF Sv (aF Sv aN aO) aO)))))) (zf (JR hu (kI (aF (aL lu lA (aL cP cQ Sv Ei) Sv) (aF Sv aN aO) gP)) (yU rfl (J9)))))) (aG (bH Eb) aK) aK) (aG (cC (Ct hu Sv (cB a__fold hr rfl (aF Sv (aF (cB a__back hr rfl (aF Sv (aF (aL lu lA (aL cP cQ Sv Ei) Sv) (aF Sv (aF Sv aN aO) aO) gP) aO) (cnt_cons (cnt_cons (cnt_cons (cnt_cons cnt_nil))))) aN lC) aO) (cnt_cons (cnt_cons cnt_nil)))) (aG (bH Eb) aK) aK) aK)))) ?_;refine vW ?_;exact aG (bH (Cm hu (gF nR rfl B_len xbF pG (aF Sv aN aO)) (gF nR rfl B_len xbF pG (aF Sv aN aO)))) aK
theorem VD (T:Txt K mg C w)(a_told_of:aZ P w K mg base k "told_of" 3 tX)(a__cell_at:aZ P w K mg base k "_law_cell_at" 2 fV)(a__things:aZ P w K mg base k "_law_things" 2 tL)(a__mark:aZ P w K mg base k "_law_mark" 3 tu)(a__thing:aZ P w K mg base k "_law_thing" 1 xJ)(a__right:aZ P w K mg base k "_law_right" 5 tK):RT P w K mg base k f ["_law_script","_law_far","_law_things_here","_law_fold_here","_law_gap","_law_mark_here","_law_handed","_law_found"] "law" kE wZ:=fun cdv A outer s H E hr=>by
 refine dG hr fun hu=>?_;have nd:=(Jt).nd;have B_isinstance:=T.blt "isinstance" (by x_go);have B_list:=T.blt "list" (by x_go);have B_max:=T.blt "max" (by x_go);have B_str:=T.blt "str" (by x_go);refine aG (cY (i:=1) nd rfl Lv (Ek (SN.sem (gG (aF Ei (aF Ei (aF (aL cP cQ (aL vB vG Ei Ei) Ei) aN gP) dI) dI)) lst_is) (aL cL cM (cB a__cell_at hr rfl (aF Sv (aF Ei aN dI) aO) (cnt_cons (cnt_cons cnt_nil))) Ei))) ?_;refine aG (cY (i:=2) nd rfl Lv (cB a__things hr rfl (aF Sv (aF Sv aN aO) aO) (cnt_cons (cnt_cons cnt_nil)))) ?_;refine aG (cY (i:=3) nd rfl Lv (Ek (SN.sem (gG (aF Es (aF Es (aF Es (aF Es aN dI) dI) dI) dI)) lst_is) (aL cL cM (cB a__cell_at hr rfl (aF Sv (aF Ei aN dI) aO) (cnt_cons (cnt_cons cnt_nil))) Ei))) ?_;refine aG (cY (i:=4) nd rfl Lv (gF (FW rfl) rfl B_max boot_max Iv (aF Ei (aF (aL lu lA (aL cP cQ (aL lX lZ (aL cP cQ Ei (aL cL cM (aL gw gB (cB a__cell_at hr rfl (aF Sv (aF Ei aN dI) aO) (cnt_cons (cnt_cons cnt_nil))) Ei) Ei)) Sv) (aL cL cM (cB a__cell_at hr rfl (aF Sv (aF Ei aN dI) aO) (cnt_cons (cnt_cons cnt_nil))) Ei)) Ei) aN gP) dI))) ?_;refine aG (cY (i:=5) nd rfl Lv (cB a__mark hr rfl (aF (cB a__cell_at hr rfl (aF Sv (aF Ei aN dI) aO) (cnt_cons (cnt_cons cnt_nil))) (aF Sv (aF Sv aN aO) aO) lC) (cnt_cons (cnt_cons (cnt_cons cnt_nil))))) ?_;refine aG (cY (i:=6) nd rfl Lv (SN.sem (gG (aF (SN.sem (W2 rfl B_list Sv) O5) aN lC)) lst_is)) ?_;refine aG (cY (i:=7) nd rfl Lv (cB a_told_of hr rfl (aF (kI (aF Es (aF Es (aF (kI (aF Es aN dI)) (aF (kI (aF (Jz La rfl B_str boot_str S8 (aF Sv aN aO)) (aF Sv aN aO) lC)) aN Dz) Dz) dI) dI)) (aF Sv (aF Sv aN aO) aO) Dz) (cnt_cons (cnt_cons (cnt_cons cnt_nil))))) ?_;refine aG (cC (SW.st (wA (rG (nF (vX (T:="list") (fun t b h=>t_ t "list" b h) Sv rfl B_isinstance rfl B_list boot_list))) (zf (Ct hu (SN.sem (WX "_law_one" [] rfl (by x_go) (pO Sv) (fun _ _ _ _ _ _=>(Xa (rG (nF (cB a__thing hr rfl (aF (rD rfl (.inl (by kernel_rfl))) aN aO) (cnt_cons cnt_nil)))))) (fun _ _ _ _ _ _=>(rD rfl (.inl (by kernel_rfl))))) Gm) (SN.sem (gG aN) lst_is))))) (aG (bH Eb) aK) aK) ?_;exact aG (bH (Wl (Cm hu Sv (SN.sem (gG (aF Sv aN aO)) lst_is)) (Wt (cB a__right hr rfl (aF Sv (aF Sv (aF Sv (aF Sv (aF Sv aN aO) aO) aO) aO) aO) (cnt_cons (cnt_cons (cnt_cons (cnt_cons (cnt_cons cnt_nil))))))))) aK
end
noncomputable def n_:Nat:=6
def j5:G:=G7
abbrev YM:String:="vI vN Dd CT CV CW TY Ut Cy V_ Df Dg TV VH Ti Ux Tj Uy CQ YQ YX Ey YT YZ YS Uq Ue VP Tn Cv T8 VB Ud TX Vn Vl Uc VN U_ Ur Ua Vf Tt Vb Vg Tz VF T9 Uo Cw V1 V0 Uh Ug VR Vd Tr VL Ub Ui CZ Cr T4 Vv Tp U8 T3 Vu T5 Vx Uj vH Vq Vp PX P_ QF Qg Qt QB Qy B_ BZ BW BR Qd Qv Ib Qm Qn Qp Qs Qq QJ QG QD QC sizeLine_eq Option.map_some Option.map_none List.getElem?_cons_zero List.getElem?_cons_succ List.set_cons_zero List.set_cons_succ List.map_cons List.map_nil List.length_cons List.length_nil List.length_map List.replicate List.cons_append List.nil_append List.append_nil reduceCtorEq if_true if_false reduceIte Bool.not_true Bool.not_false Nat.reduceSub Nat.reduceAdd Nat.reduceLeDiff Nat.reduceLT Int.reduceLT Int.reduceLE Int.reduceAdd Int.reduceSub Int.reduceMul Int.reduceNeg Int.reduceAbs Int.reduceEq Int.reducePow Int.reduceMod Int.reduceDiv Int.reduceToNat Nat.zero_le and_true true_and and_self or_true true_or Bool.false_eq_true decide_eq_true_eq decide_true decide_false Bool.not_eq_true' decide_eq_false_iff_not not_true_eq_false not_false_eq_true eq_self TF Vj Vk Tw Tv Option.getD_some T7 Vz ty_int ty_str Yt Yv Yw Yu YD YH Eo YG YJ YF YC Us V9 Uk Ul Vr Qu List.isEmpty_cons List.isEmpty_nil Bool.true_eq_false Bool.and_self Bool.and_true Bool.true_and Bool.and_false Bool.false_and Ve Vc Va Vo Vm VG U9 Tq T6 Vy C_ Cu Qc Qa Ql Qo Ca BX Qh Qz Qf Qx Qi Qj Qk Bool.true_or Bool.false_or Bool.or_true Bool.or_false at0 at1 at2 Kz G6 s_end w_end T_ yq yt V5 V4 IV V6 Um V3 V2"
local macro_rules | `(tactic| z_go)=>do
 let l <-(YM.splitOn " ").toArray.mapM fun n=> `(Lean.Parser.Tactic.simpLemma| $(Lean.mkIdent n.toName):term)
 `(tactic| try simp only[$l,*])
noncomputable def tm:D->Int
 |.tup (.int t::_)=>t
 |_=>0
noncomputable def refs (b n:Nat):List D:=(List.range n).map fun i=>.ref (b + 1 + i)
noncomputable def mk (M:Mm) (chs:List (List D)):Mm:=M ++ .lst (refs M.length chs.length)::chs.map .lst
theorem HN (M:Mm)(chs:List (List D)):(mk M chs).length=M.length + 1 + chs.length:=by
 simp only[mk,Z4,xar,xai];omega
theorem gn (M:Mm)(chs:List (List D)):(mk M chs)[M.length]? =some (.lst (refs M.length chs.length)):=by
 unfold mk;rw[xae (tG _),xaP];rfl
theorem pq {M:Mm}{chs:List (List D)}{i:Nat}{c:List D}(h:chs[i]? =some c):(mk M chs)[M.length + 1 + i]? =some (.lst c):=by
 unfold mk;rw[xae (by omega),show M.length + 1 + i - M.length=i + 1 by omega,xa7,xag,h];rfl
theorem Pq (M:Mm)(chs:List (List D))(c:List D):(mk M chs ++ [Cl.lst c]).set M.length (Cl.lst (refs M.length chs.length ++ [D.ref (M.length + 1 + chs.length)]))=mk M (chs ++ [c]):=by
 unfold mk;rw[xbB,xaU,xbx _ _ (tG _),xaP,xaI,xaB,Z4];congr 1;congr 1;unfold refs
 simp[xb2]
theorem Pn (M:Mm)(pre:List (List D))(c c':List D):(mk M (pre ++ [c])).set (M.length + 1 + pre.length) (Cl.lst c')=mk M (pre ++ [c']):=by
 unfold mk;rw[xbx _ _ (by omega),show M.length + 1 + pre.length - M.length=pre.length + 1 by omega,xaJ,xaB,xbx _ _ (by simp),xai,xaP,xaB]
 simp
theorem wX {α:Type}(l:List α)(x:α):bI (l ++ [x]) (-1)=some x:=by
 unfold bI k_;rw[xaf (by decide)];simp only[Z4,xar,xbP,Nat.zero_add,Int.natCast_add,Int.natCast_one];rw[Z7 (by omega),Option.bind_some,show((-1:Int) + ((l.length:Int) + 1)).toNat=l.length by omega]
 simp
theorem I_ (b n:Nat):bI (refs b (n + 1)) (-1)=some (.ref (b + 1 + n)):=by
 unfold refs;rw[xb2,xaB];exact wX _ _
def mQ (gap:Int)(c:List D):Prop:=∀(i:Nat) x y,c[i]? =some x->c[i + 1]? =some y->tm y - tm x<gap
def Kf (gap:Int)(chs:List (List D)):Prop:=∀(i:Nat) c c' x y,chs[i]? =some c->chs[i + 1]? =some c'->c.getLast? =some x->c'.head? =some y->gap<=tm y - tm x
structure Chs (gap:Int)(chs:List (List D))(ds:List D):Prop where
 fl:chs.flatten=ds
 ne:∀c∈chs,c≠ []
 inn:∀c∈chs,mQ gap c
 bt:Kf gap chs
theorem Lj (gap:Int):Chs gap [] []:=⟨rfl,fun c h=>(nomatch h),fun c h=>(nomatch h),fun i c c' x y h=>by simp at h⟩
theorem Nu (gap:Int)(x:D):mQ gap [x]:=fun i a b h1 h2=>by
 simp at h2
theorem Gb {gap:Int}{chs:List (List D)}{ds:List D}{x:D}(h:Chs gap chs ds)(hx:∀pre c' y,chs=pre ++ [c' ++ [y]]->gap<=tm x - tm y):Chs gap (chs ++ [[x]]) (ds ++ [x]):=by
 refine⟨by rw[xbq,h.fl];rfl,fun c hc=>?_,fun c hc=>?_,fun i c c' a b e1 e2 l1 l2=>?_⟩
 ·rcases xaq.mp hc with hc |hc
  ·exact h.ne c hc
  ·rw[xal.mp hc];simp
 ·rcases xaq.mp hc with hc |hc
  ·exact h.inn c hc
  ·rw[xal.mp hc];exact Nu gap x
 ·rcases xas (i + 1) chs.length with hi |hi
  ·rw[Z_ (by omega)]at e1;rw[Z_ hi]at e2;exact h.bt i c c' a b e1 e2 l1 l2
  ·have hl:=(Z5.mp e2).1;rw[Z4,xay]at hl;have hi':i + 1=chs.length:=by omega
   rw[Z_ (by omega)]at e1;rw[xae (by omega),hi',xaP]at e2;cases e2;cases l2;obtain⟨c0,rfl⟩:=xcP.mp l1;have:chs=chs.take i ++ [c0 ++ [a]]:=by
    have hlt:i<chs.length:=by omega
    rw[Z6 hlt]at e1;have e3:=List.take_append_getElem hlt;rw[xan e1]at e3;rw[e3,xcf (by omega)]
   exact hx _ _ _ this
theorem Li {gap:Int}{pre:List (List D)}{c:List D}{ds:List D}{x y:D}(h:Chs gap (pre ++ [c ++ [y]]) ds)(hx:tm x - tm y<gap):Chs gap (pre ++ [c ++ [y] ++ [x]]) (ds ++ [x]):=by
 refine⟨by rw[<-h.fl];simp,fun d hd=>?_,fun d hd=>?_,fun i d d' a b e1 e2 l1 l2=>?_⟩
 ·rcases xaq.mp hd with hd |hd
  ·exact h.ne d (xbU _ hd)
  ·rw[xal.mp hd];simp
 ·rcases xaq.mp hd with hd |hd
  ·exact h.inn d (xbU _ hd)
  ·rw[xal.mp hd];have h0:=h.inn (c ++ [y]) (xao _ (xal.mpr rfl));intro i a b e1 e2;rcases xas (i + 1) (c ++ [y]).length with hi |hi
   ·rw[Z_ (by omega)]at e1;rw[Z_ hi]at e2;exact h0 i a b e1 e2
   ·have hl:=(Z5.mp e2).1;rw[Z4,xay]at hl;have hi':i + 1=(c ++ [y]).length:=by omega
    have hc:i=c.length:=by rw[Z4,xay]at hi';omega
    rw[Z_ (by omega),hc,xae (tG _),xaP]at e1;rw[xae (by omega),hi',xaP]at e2;cases e1;cases e2;exact hx
 ·rcases xas (i + 1) pre.length with hi |hi
  ·rw[Z_ (by omega)]at e1 e2;exact h.bt i d d' a b (by rw[Z_ (by omega)];exact e1) (by rw[Z_ hi];exact e2) l1 l2
  ·have hl:=(Z5.mp e2).1;rw[Z4,xay]at hl;have hi':i + 1=pre.length:=by omega
   rw[Z_ (by omega)]at e1;rw[xae (by omega),hi',xaP]at e2;cases e2;refine h.bt i d (c ++ [y]) a b (by rw[Z_ (by omega)];exact e1) (by rw[xae (by omega),hi',xaP];rfl) l1 ?_
   cases c with
   |nil=>exact l2
   |cons z c=>exact l2
theorem at0 {α:Type}{a:α}{xs:List α}:bI (a::xs) 0=some a:=lH (j:=0) rfl
noncomputable def ky:D->Str
 |.tup (_::.str z::_)=>z
 |_=>""
noncomputable def vl:D->Int
 |.tup (_::_::.int v::_)=>v
 |_=>0
def Tg (d:D):Prop:=d=.tup [.int (tm d),.str (ky d),.int (vl d)]
def cZ (ds:List D):Prop:=ds.Pairwise fun a b=>tm a<=tm b
def Sep (gap:Int)(chs:List (List D)):Prop:=chs.Pairwise fun c c'=>∀x∈c,∀y∈c',tm x + gap<=tm y
theorem wW {c:List D}{l:D}(h:cZ c)(hl:c.getLast? =some l):∀x∈c,tm x<=tm l:=by
 intro x hx;obtain⟨c',rfl⟩:=xcP.mp hl;rcases xaq.mp hx with h1 |h1
 ·exact(xa6.mp h).2.2 x h1 l (by simp)
 ·rw[xal.mp h1];exact xcu _
theorem Ky {c:List D}{a:D}(h:cZ (a::c)):∀x∈a::c,tm a<=tm x:=by
 intro x hx;rcases xah.mp hx with rfl |h1
 ·exact xcu _
 ·exact(xbv.mp h).1 x h1
theorem Lk {gap:Int}{c:List D}{cs:List (List D)}{ds:List D}(h:Chs gap (c::cs) ds):Chs gap cs cs.flatten:=
 ⟨rfl,fun x hx=>h.ne x (xak _ hx),fun x hx=>h.inn x (xak _ hx),fun i a b x y e1 e2=>h.bt (i + 1) a b x y (by simpa using e1) (by simpa using e2)⟩
theorem yV {gap:Int}:∀(chs:List (List D)) {ds:List D},Chs gap chs ds->cZ ds->Sep gap chs
  | [],ds,_,_=>.nil
  |c::cs,ds,h,ha=>by
    have hf:=h.fl;rw[xbl]at hf;rw[<-hf]at ha;have h2:=xa6.mp ha;refine xbv.mpr ⟨fun c' hc' x hx y hy=>?_,yV cs (Lk h) h2.2.1⟩
    cases cs with
    |nil=>cases hc'
    |cons e es=>
      have ne:=h.ne c (by simp);have ne':=h.ne e (by simp);obtain⟨l,hl⟩:∃l,c.getLast? =some l:=⟨c.getLast ne,xbn ne⟩
      cases e with
      |nil=>exact absurd rfl ne'
      |cons a e=>
        have g := h.bt 0 c (a :: e) l a rfl rfl hl rfl;have u := wW h2.1 hl x hx;have v := Ky (a := a) (c := e ++ es.flatten) h2.2.1 y (by
          rw[<-xaU, <-xbl];exact xbH.mpr ⟨c',hc',hy⟩)
        omega
theorem near {gap:Int}:∀{c:List D} {x l:D},cZ (x::c)->mQ gap (x::c)->(x::c).getLast? =some l->tm x<tm l->∃y∈c,tm x<tm y/\tm y<tm x + gap
  | [],x,l,_,_,hl,h=>by
    cases hl;exact absurd h (Int.lt_irrefl _)
  |y::c,x,l,ha,hi,hl,h=>by
    have g:=hi 0 x y rfl rfl;have xy:=(xbv.mp ha).1 y (by simp)
    by_cases e:tm x<tm y
    · exact⟨y,by simp,e,by omega⟩
    · obtain⟨z,hz,z1,z2⟩:=near (c:=c) (x:=y) (l:=l) (xbv.mp ha).2 (fun i a b e1 e2=>hi (i + 1) a b (by simpa using e1) (by simpa using e2)) (by simpa using hl) (by omega);exact⟨z,xak _ hz,by omega,by omega⟩
theorem Nv {gap:Int}{a b:List D}(h:mQ gap (a ++ b)):mQ gap b:=fun i x y e1 e2=>h (a.length + i) x y (by rw[xae (by omega),xc5];exact e1) (by rw[Nat.add_assoc,xae (by omega),xc5];exact e2)
theorem Nr {gap:Int}{a b:List D}(h:mQ gap (a ++ b)):mQ gap a:=fun i x y e1 e2=>h i x y (by rw[Z_ (Z5.mp e1).1];exact e1) (by rw[Z_ (Z5.mp e2).1];exact e2)
theorem zL {chs:List (List D)}{c:List D}(h:cZ chs.flatten)(hc:c∈chs):cZ c:=by
 obtain⟨a,b,rfl⟩:=xbw hc;rw[xbq,xbl]at h;exact(xa6.mp (xa6.mp h).2.1).1
theorem Ox {gap:Int}{chs:List (List D)}{ds:List D}{x:D}(h:Chs gap chs ds)(ha:cZ ds)(hx:x∈ds)(hn:∀y∈ds,¬ (tm x<tm y/\tm y<tm x + gap)):∃c∈chs,∃l,c.getLast? =some l/\tm l=tm x:=by
 rw[<-h.fl]at hx;obtain⟨c,hc,hxc⟩:=xbH.mp hx;have ne:=h.ne c hc;have hl:=xbn ne;refine⟨c,hc,_,hl,?_⟩;have ac:cZ c:=zL (by rw[h.fl];exact ha) hc;have le:=wW ac hl x hxc
 by_cases e:tm x<tm (c.getLast ne)
 ·obtain ⟨a, b, rfl⟩ := xbw hxc;obtain ⟨y, hy, y1, y2⟩ := near (gap := gap) (c := b) (x := x) (l := (a ++ x :: b).getLast ne) (xa6.mp ac).2.1 (Nv (h.inn _ hc)) (by
   rw[<-hl];simp[List.getLast?_cons]) e
  exact absurd ⟨y1,y2⟩ (hn y (by rw[<-h.fl];exact xbH.mpr ⟨_,hc,by simp[hy]⟩))
 ·omega
theorem none_of {gap:Int}{chs:List (List D)}{ds c:List D}{l:D}(h:Chs gap chs ds)(ha:cZ ds)(hg:1<=gap)(hc:c∈chs)(hl:c.getLast? =some l):∀y∈ds,¬ (tm l<tm y/\tm y<tm l + gap):=by
 rintro y hy ⟨y1,y2⟩;have sp:=yV chs h ha;have ac:cZ c:=zL (by rw[h.fl];exact ha) hc;have lc:l∈c:=xbD hl;rw[<-h.fl]at hy;obtain⟨c',hc',hyc⟩:=xbH.mp hy;obtain⟨a,b,rfl⟩:=xbw hc;have s:=xa6.mp sp;rcases xaq.mp hc' with h1 |h1
 ·have:=s.2.2 c' h1 c (by simp) y hyc l lc;omega
 ·rcases xah.mp h1 with rfl |h1
  ·have:=wW ac hl y hyc;omega
  ·have:=(xbv.mp s.2.1).1 c' h1 l lc y hyc;omega
noncomputable def bk (z:Str) (last gap:Int):Int->List D->List D->List D
 |_,acc,[]=>acc
 |first,acc,d::ds=>if ky d=z/\tm d<=last then(if gap<=first - tm d then acc else bk z last gap (tm d) (acc ++ [.int (vl d)]) ds) else bk z last gap first acc ds
def nY (f:Int):List D->Int
 | []=>f
 |d::_=>tm d
theorem w5 {z:Str}{last gap:Int}:∀(ds:List D) (f:Int) (acc:List D),bk z last gap f acc ds=bk z last gap f acc (ds.filter fun d=>ky d==z)
  | [],f,acc=>rfl
  |d::ds,f,acc=>by
    by_cases e:ky d=z
    · rw[List.filter_cons_of_pos (by simpa using e)];simp only[bk,e,true_and];rw[w5 ds,w5 ds]
    · rw[xb8 (by simpa using e)];simp only[bk,e,xdu,xaF];exact w5 ds f acc
theorem FJ {z:Str}{last gap f:Int}{acc:List D}{rest:List D}:∀(ds:List D),(∀d∈ds,last<tm d)->bk z last gap f acc (ds ++ rest)=bk z last gap f acc rest
  | [],_=>rfl
  |d::ds,h=>by
    have:=h d (by simp);rw[xaU,bk,xaf (by omega)];exact FJ ds fun x hx=>h x (by simp[hx])
theorem FN {z:Str}{last gap:Int}{rest:List D}:∀(rs:List D) (f:Int) (acc:List D),(∀d∈rs,ky d=z/\tm d<=last)->mQ gap rs.reverse->(∀y,rs.head? =some y->f - tm y<gap)->
    bk z last gap f acc (rs ++ rest)=bk z last gap (nY f rs.reverse) (acc ++ rs.map fun d=>.int (vl d)) rest
  | [],f,acc,_,_,_=>by simp[nY]
  |d::rs,f,acc,h,hi,hf=>by
    have hd:=h d (by simp);have hg:=hf d rfl;rw[xaU,bk,Z7 hd,xaf (by omega),FN rs (tm d) _ (fun x hx=>h x (by simp[hx])) (Nr (b:=[d]) (by rw[<-xdz];exact hi)) (fun y hy=>?_)]
    · congr 1
      · rcases xbd rs with rfl |⟨rs',a,rfl⟩
        · rfl
        · simp[nY]
      · simp
    · cases rs with
      |nil=>cases hy
      |cons a rs=>
        cases hy;exact hi rs.length y d (by simp) (by simp)
theorem KN {z:Str}{gap:Int}{pre post:List (List D)}{c ds:List D}{l:D}(hg:1<=gap)(h:Chs gap (pre ++ c::post) ds)(ha:cZ ds)(hz:∀d∈ds,ky d=z)(hl:c.getLast? =some l):bk z (tm l) gap (tm l) [] ds.reverse=c.reverse.map fun d=>.int (vl d):=by
  have sp:=yV _ h ha;have s:=xa6.mp sp;have s2:=xbv.mp s.2.1;have lc:l∈c:=xbD hl;have ac:cZ c:=zL (by rw[h.fl];exact ha) (by simp);have hf:=h.fl;rw[xbq,xbl]at hf;rw[<-hf,xb1,xb1,xbB,FJ _ (fun d hd=>?_),FN c.reverse _ _ (fun d hd=>?_) (by rw[xdj];exact h.inn c (by simp)) (fun y hy=>?_),xbj,xdj]
  · rcases xbd pre with rfl |⟨p,e,rfl⟩
    · rfl
    · rw[xby]at *;have ne:=h.ne e (by simp);rcases xbd e with rfl |⟨e',y,rfl⟩
      · exact absurd rfl ne
      · rw[xby]at *;rw[xbq,List.flatten_singleton,xb1,xb1,List.reverse_singleton,List.singleton_append,xaU,bk]
        cases c with
        |nil=>cases lc
        |cons a c=>
          have g:=s.2.2 (e' ++ [y]) (by simp) (a::c) (by simp) y (by simp);have g1:=g a (by simp);have g2:=g l lc;rw[Z7 ⟨hz y (by rw[<-hf];simp),by omega⟩,Z7 (by show gap<=tm a - tm y;omega)]
  · rw[xbs]at hd;exact⟨hz d (by rw[<-hf];simp[hd]),wW ac hl d hd⟩
  · rw[List.head?_reverse,hl]at hy;cases hy;omega
  · rw[xbs]at hd;obtain⟨c',hc',hd⟩:=xbH.mp hd;have:=s2.1 c' hc' l lc d hd;omega
def ks (d:D):List Nat:=(ky d).cps.toList
def eO (d e:D):Prop:=tm d<tm e\/tm d=tm e/\(ks d<ks e\/ks d=ks e/\vl d<=vl e)
theorem Hs (d:D):eO d d:=.inr ⟨rfl,.inr ⟨rfl,xcu _⟩⟩
theorem O3 (a b c:D)(h1:eO a b)(h2:eO b c):eO a c:=by
 rcases h1 with h1 |⟨e1,h1⟩
 ·rcases h2 with h2 |⟨e2,h2⟩
  ·exact .inl (by omega)
  ·exact .inl (by omega)
 ·rcases h2 with h2 |⟨e2,h2⟩
  ·exact .inl (by omega)
  ·refine .inr ⟨by omega,?_⟩;rcases h1 with h1 |⟨k1,h1⟩
   ·rcases h2 with h2 |⟨k2,h2⟩
    ·exact .inl (List.lt_trans h1 h2)
    ·exact .inl (by rw[<-k2];exact h1)
   ·rcases h2 with h2 |⟨k2,h2⟩
    ·exact .inl (by rw[k1];exact h2)
    ·exact .inr ⟨k1.trans k2,by omega⟩
theorem Hr {a b:Str}(h:a.cps.toList=b.cps.toList):a=b:=PySem.Str.ext' (Array.toList_inj.mp h)
theorem Pa {t t' v v':Int}{z z':Str}:∃b,lV [.int t,.str z,.int v] [.int t',.str z',.int v']=some b/\(b=true->eO (.tup [.int t,.str z,.int v]) (.tup [.int t',.str z',.int v']))/\(b=false->eO (.tup [.int t',.str z',.int v']) (.tup [.int t,.str z,.int v])):=by
 simp only[lV]
 by_cases e:t=t'
 ·subst e;rw[Z7 rfl]
  by_cases e:z=z'
  ·subst e;rw[Z7 rfl]
   by_cases e:v=v'
   ·subst e;rw[Z7 rfl];exact⟨false,rfl,(fun h=>Bool.noConfusion h),fun _=>Hs _⟩
   ·rw[xaf e];refine⟨_,rfl,fun h=>.inr ⟨rfl,.inr ⟨rfl,?_⟩⟩,fun h=>.inr ⟨rfl,.inr ⟨rfl,?_⟩⟩⟩
    ·have:=xcd h;show v<=v';omega
    ·have:=xcy h;show v'<=v;omega
  ·rw[xaf e];refine⟨_,rfl,fun h=>.inr ⟨rfl,.inl (xcd h)⟩,fun h=>.inr ⟨rfl,.inl ?_⟩⟩;have h:=xcy h;show z'.cps.toList<z.cps.toList
   by_cases g:z'.cps.toList<z.cps.toList
   ·exact g
   ·exact absurd (Hr (List.le_antisymm (List.not_lt.mp g) (List.not_lt.mp h))) e
 ·rw[xaf e];refine⟨_,rfl,fun h=>.inl (xcd h),fun h=>.inl ?_⟩;have:=xcy h;show t'<t;omega
theorem JN {ds:List D}(hT:∀d∈ds,Tg d)(hl:ds.length<64):∃es,fM ds=some es/\es.Perm ds/\es.Pairwise eO:=
 W7 hl (xbc.mpr fun d hd=>by rw[hT d hd];rfl) Hs O3 fun xs ys hx hy=>by
  have e1:=hT _ hx;have e2:=hT _ hy;unfold Tg at e1 e2;have f1:=D.tup.inj e1;have f2:=D.tup.inj e2;generalize tm (D.tup xs)=t at f1;generalize ky (D.tup xs)=z at f1;generalize vl (D.tup xs)=v at f1;generalize tm (D.tup ys)=t' at f2;generalize ky (D.tup ys)=z' at f2;generalize vl (D.tup ys)=v' at f2;rw[f1,f2];exact Pa
theorem Bp {es:List D}(h:es.Pairwise eO):cZ es:=h.imp fun {a b} h=>by
 rcases h with h |⟨h, -⟩<;>omega
theorem Nb {t t':Int}{z z':Str}(h:t<t'\/t=t'/\z.cps.toList<z'.cps.toList):kZ [.int t,.str z] [.int t',.str z']=some false:=by
 simp only[kZ];rcases h with h |⟨rfl,h⟩
 ·rw[xaf (by omega),xaR (by omega)]
 ·rw[Z7 rfl,xaf (fun e=>by subst e;exact List.lt_irrefl _ h),xbE h];rfl
noncomputable def fi (f:Str) (v:Int):Int:=if f="count" then 1 else v
noncomputable def gk (f:Str) (a b:Int):Int:=if f="most" then(if b > a then b else a) else if f="least" then(if b<a then b else a) else a + b
noncomputable def fo (f:Str):List Int->Int
 | []=>0
 |a::r=>(r.map (fi f)).foldl (gk f) (fi f a)
noncomputable def lf (f:Str) (is:List Int):Int:=if f="sum" then is.sum else if f="count" then is.length else if f="most" then dF is else dR is
theorem fold_max:∀(r:List Int) (a:Int),(r.foldl (fun x y=>if y > x then y else x) a=a\/r.foldl (fun x y=>if y > x then y else x) a∈r)/\a<=r.foldl (fun x y=>if y > x then y else x) a/\∀y∈r,y<=r.foldl (fun x y=>if y > x then y else x) a
  | [],a=>⟨.inl rfl,xcu _,fun y h=>nomatch h⟩
  |b::r,a=>by
    obtain⟨h1,h2,h3⟩:=fold_max r (if b > a then b else a)
    rw[xbi];generalize r.foldl (fun x y=>if y > x then y else x) (if b > a then b else a)=m at *
    have hb:a<=(if b > a then b else a)/\b<=(if b > a then b else a):=by split<;>omega
    refine⟨?_,by omega,fun y hy=>?_⟩
    · rcases h1 with h1 |h1
      · rw[h1]
        split
        · exact .inr (by simp)
        · exact .inl rfl
      · exact .inr (by simp[h1])
    · rcases xah.mp hy with rfl |hy
      · omega
      · exact h3 y hy
theorem fold_min:∀(r:List Int) (a:Int),(r.foldl (fun x y=>if y<x then y else x) a=a\/r.foldl (fun x y=>if y<x then y else x) a∈r)/\r.foldl (fun x y=>if y<x then y else x) a<=a/\∀y∈r,r.foldl (fun x y=>if y<x then y else x) a<=y
  | [],a=>⟨.inl rfl,xcu _,fun y h=>nomatch h⟩
  |b::r,a=>by
    obtain⟨h1,h2,h3⟩:=fold_min r (if b<a then b else a)
    rw[xbi];generalize r.foldl (fun x y=>if y<x then y else x) (if b<a then b else a)=m at *
    have hb:(if b<a then b else a)<=a/\(if b<a then b else a)<=b:=by split<;>omega
    refine⟨?_,by omega,fun y hy=>?_⟩
    · rcases h1 with h1 |h1
      · rw[h1]
        split
        · exact .inr (by simp)
        · exact .inl rfl
      · exact .inr (by simp[h1])
    · rcases xah.mp hy with rfl |hy
      · omega
      · exact h3 y hy
theorem fold_add:∀(r:List Int) (a:Int),r.foldl (fun x y=>x + y) a=a + r.sum
 | [],a=>by simp
 |b::r,a=>by rw[xbi,fold_add r,xch];omega
theorem JT:∀r:List Int,(r.map fun _=>(1:Int)).sum=r.length
 | []=>rfl
 |b::r=>by rw[xaV,xch,JT r,xar];omega
theorem JV:∀r:List Int,r.reverse.sum=r.sum
 | []=>rfl
 |b::r=>by rw[xdz,List.sum_append,JV r,xch,xch,List.sum_nil];omega
theorem MK {f:Str}{is:List Int}(hf:f="sum"\/f="count"\/f="most"\/f="least")(hn:is≠ []):fo f is=lf f is.reverse:=by
  cases is with
  |nil=>exact absurd rfl hn
  |cons a r=>
    rcases hf with rfl |rfl |rfl |rfl
    · have e1:fi "sum"=id:=by funext v;rfl
      have e2:gk "sum"=fun x y=>x + y:=by funext x y;rfl
      show(r.map (fi "sum")).foldl (gk "sum") (fi "sum" a)=(a::r).reverse.sum;rw[e1,e2,xdA,fold_add,JV,xch];rfl
    · have e1:fi "count"=fun _=>1:=by funext v;rfl
      have e2:gk "count"=fun x y=>x + y:=by funext x y;rfl
      show(r.map (fi "count")).foldl (gk "count") (fi "count" a)=((a::r).reverse.length:Int);rw[e1,e2,fold_add,JT,xcp,xar];show(1:Int) + r.length=_;omega
    · have e1:fi "most"=id:=by funext v;rfl
      have e2:gk "most"=fun x y=>if y > x then y else x:=by funext x y;rfl
      show(r.map (fi "most")).foldl (gk "most") (fi "most" a)=dF (a::r).reverse;rw[e1,e2,xdA];obtain⟨h1,h2,h3⟩:=fold_max r a;refine(Em ?_ fun y hy=>?_).symm
      · rw[xbs];rcases h1 with h1 |h1
        · exact xah.mpr (.inl h1)
        · exact xah.mpr (.inr h1)
      · rw[xbs]at hy;rcases xah.mp hy with rfl |hy
        · exact h2
        · exact h3 y hy
    · have e1:fi "least"=id:=by funext v;rfl
      have e2:gk "least"=fun x y=>if y<x then y else x:=by funext x y;rfl
      show(r.map (fi "least")).foldl (gk "least") (fi "least" a)=dR (a::r).reverse;rw[e1,e2,xdA];obtain⟨h1,h2,h3⟩:=fold_min r a;refine(Ac ?_ fun y hy=>?_).symm
      · rw[xbs];rcases h1 with h1 |h1
        · exact xah.mpr (.inl h1)
        · exact xah.mpr (.inr h1)
      · rw[xbs]at hy;rcases xah.mp hy with rfl |hy
        · exact h2
        · exact h3 y hy
noncomputable def lastOf (c:List D):D:=c.getLastD .non
theorem last_eq {c:List D}(h:c≠ []):c.getLast? =some (lastOf c):=by
 unfold lastOf;rw[xbn h,List.getLastD_eq_getLast?,xbn h];rfl
noncomputable def tl1 (f:Str) (gap mark:Int) (z:Str) (c:List D):Option D:=if tm (lastOf c) + gap<=mark then some (.tup [.int (tm (lastOf c) + gap - 1),.str z,.int (fo f (c.map vl))]) else none
noncomputable def tl (f:Str) (gap mark:Int) (z:Str) (chs:List (List D)):List D:=chs.filterMap (tl1 f gap mark z)
noncomputable def bU (f:Str) (gap mark:Int) (gs:List (Str×List (List D))):List D:=gs.flatMap fun g=>tl f gap mark g.1 g.2
structure Gs (gap:Int)(S:List D)(gs:List (Str×List (List D))):Prop where
 nd:(gs.map (·.1)).Nodup
 ch:∀g∈gs,Chs gap g.2 (S.filter fun d=>ky d==g.1)
 al:∀d∈S,∃g∈gs,g.1=ky d
theorem wV {S:List D}(h:cZ S)(p:D->Bool):cZ (S.filter p):=List.Pairwise.filter p h
theorem El {f:Str}{gap mark:Int}{gs:List (Str×List (List D))}{e:D}(h:e∈bU f gap mark gs):∃g∈gs,∃c∈g.2,tm (lastOf c) + gap<=mark/\e=.tup [.int (tm (lastOf c) + gap - 1),.str g.1,.int (fo f (c.map vl))]:=by
 obtain⟨g,hg,h⟩:=List.mem_flatMap.mp h;obtain⟨c,hc,h⟩:=xa5.mp h;unfold tl1 at h;split at h
 ·rename_i hm;cases h;exact⟨g,hg,c,hc,hm,rfl⟩
 ·cases h
def pr (gap:Int)(e:D):Int×Str:=(tm e + 1 - gap,ky e)
theorem J3 {f:Str}{gap mark:Int}{S:List D}{gs:List (Str×List (List D))}(hg:1<=gap)(hG:Gs gap S gs)(ha:cZ S):((bU f gap mark gs).map (pr gap)).Nodup:=by
 rw[List.Nodup,xcc];unfold bU;rw[List.pairwise_flatMap];refine⟨fun g hgs=>?_,?_⟩
 ·have hc:=hG.ch g hgs;have sp:=yV _ hc (wV ha _);unfold tl;rw[List.pairwise_filterMap];have ne:∀c∈g.2,lastOf c∈c:=fun c h=>xbD (last_eq (hc.ne c h));refine List.Pairwise.imp_of_mem (fun {c c'} h1 h2 h e he e' he'=>?_) sp;have:=h _ (ne c h1) _ (ne c' h2);unfold tl1 at he he';split at he
  ·split at he'
   ·cases he;cases he';intro z;have z:tm (lastOf c) + gap - 1 + 1 - gap=tm (lastOf c') + gap - 1 + 1 - gap:=congrArg Prod.fst z;omega
   ·cases he'
  ·cases he
 ·have nd:=hG.nd;rw[List.Nodup,xcc]at nd;refine nd.imp fun {g g'} hne e he e' he'=>?_;intro z;have z:=congrArg Prod.snd z;obtain⟨c, -,hc⟩:=xa5.mp he;obtain⟨c', -,hc'⟩:=xa5.mp he';unfold tl1 at hc hc';split at hc
  ·split at hc'
   ·cases hc;cases hc';exact hne z
   ·cases hc'
  ·cases hc
def mO (gap mark:Int)(T:List D)(d:D):Prop:=(∀y∈T,ky y=ky d->¬ (tm d<tm y/\tm y<tm d + gap))/\tm d + gap<=mark
theorem J2 {f:Str}{gap mark:Int}{S:List D}{gs:List (Str×List (List D))}(hg:1<=gap)(hG:Gs gap S gs)(ha:cZ S)(p:Int×Str):p∈(bU f gap mark gs).map (pr gap) ↔ ∃d∈S,mO gap mark S d/\p=(tm d,ky d):=by
 constructor
 ·intro h;obtain⟨e,he,rfl⟩:=xaW.mp h;obtain⟨g,hgs,c,hc,hm,rfl⟩:=El he;have hC:=hG.ch g hgs;have hl:=last_eq (hC.ne c hc);have lc:lastOf c∈c:=xbD hl;have lo:lastOf c∈S.filter fun d=>ky d==g.1:=by rw[<-hC.fl];exact xbH.mpr ⟨c,hc,lc⟩
  have lk:ky (lastOf c)=g.1:=by simpa using (xa2.mp lo).2
  have nn:=none_of hC (wV ha _) hg hc hl;refine⟨lastOf c,(xa2.mp lo).1,⟨fun y hy hk=>nn y (xa2.mpr ⟨hy,by rw[hk,lk];simp⟩),hm⟩,?_⟩;rw[lk];show(tm (lastOf c) + gap - 1 + 1 - gap,g.1)=_;rw[show tm (lastOf c) + gap - 1 + 1 - gap=tm (lastOf c) by omega]
 ·rintro⟨d,hd,⟨h1,h2⟩,rfl⟩;obtain⟨g,hgs,hk⟩:=hG.al d hd;have hC:=hG.ch g hgs;obtain⟨c,hc,l,hl,e⟩:=Ox hC (wV ha _) (x:=d) (xa2.mpr ⟨hd,by simp[hk]⟩) (fun y hy=>h1 y (xa2.mp hy).1 (by have:=(xa2.mp hy).2;simp at this;rw[this,hk]));have el:l=lastOf c:=by rw[last_eq (hC.ne c hc)]at hl;exact(xan hl).symm
  subst el;refine xaW.mpr ⟨.tup [.int (tm (lastOf c) + gap - 1),.str g.1,.int (fo f (c.map vl))],List.mem_flatMap.mpr ⟨g,hgs,xa5.mpr ⟨c,hc,Z7 (by omega)⟩⟩,?_⟩;show(tm (lastOf c) + gap - 1 + 1 - gap,g.1)=_;rw[show tm (lastOf c) + gap - 1 + 1 - gap=tm d by omega,hk]
theorem Yi {f:Str}{gap mark:Int}{S:List D}{gs:List (Str×List (List D))}{ls:List (Int×Str)}(hg:1<=gap)(hG:Gs gap S gs)(ha:cZ S)(nd:ls.Nodup)(hm:∀p,p∈ls ↔ ∃d∈S,mO gap mark S d/\p=(tm d,ky d)):(bU f gap mark gs).length=ls.length:=by
 have:=(List.perm_ext_iff_of_nodup (J3 (f:=f) (mark:=mark) hg hG ha) nd).mpr fun p=>(J2 hg hG ha p).trans (hm p).symm;rw[<-xai (f:=pr gap)];exact this.length_eq
theorem Yh {gap:Int}{S:List D}{gs:List (Str×List (List D))}{g:Str×List (List D)}{c:List D}(hg:1<=gap)(hG:Gs gap S gs)(ha:cZ S)(hgs:g∈gs)(hc:c∈g.2):bk g.1 (tm (lastOf c)) gap (tm (lastOf c)) [] S.reverse=((c.map vl).reverse).map .int:=by
 have hC:=hG.ch g hgs;obtain⟨a,b,e⟩:=xbw hc;rw[e]at hC;rw[w5,List.filter_reverse];rw[KN hg hC (wV ha _) (fun d hd=>by simpa using (xa2.mp hd).2) (last_eq (hC.ne c (by simp)))];rw[<-List.map_reverse,xcZ];rfl
variable {M:Mm}
theorem Mi {f:Str}{v:Int}:tR [.str f,.int v] M=some (.v (.int (fi f v)),M):=by
 unfold tR z6;z_go;unfold fi
 by_cases h:f="count"
 ·subst h;z_go
 ·simp only[h,xaA,xaF];z_go
theorem Mq {f:Str}{a b:Int}:tV [.str f,.int a,.int b] M=some (.v (.int (gk f a b)),M):=by
 unfold tV z9;z_go;unfold gk
 by_cases h:f="most"
 ·subst h;z_go
 ·simp only[h,xaA,xaF];z_go
  by_cases h:f="least"
  ·subst h;z_go
  ·simp only[h,xaA,xaF];z_go
theorem Aq {α:Type}(a:α)(r:List α):dW (a::r) (some 1) none=r:=by
 unfold dW
 simp[HT.aR]
theorem GQ {f:Str}{s1 s2:Slot}:∀(r:List Int) (a:Int) (s4:Slot),∃s4',loopS 4 Bo (r.map .int) [.val (.str f),s1,s2,.val (.int a),s4] M=some (.nx [.val (.str f),s1,s2,.val (.int (r.foldl (gk f) a)),s4'],M)
  | [],a,s4=>⟨s4,rfl⟩
  |b::r,a,s4=>by
    obtain⟨s',h⟩:=GQ r (gk f a b) (.val (.int b));refine⟨s',?_⟩;rw[xaV,yq,Z7 (by simp)];unfold Bo;z_go;rw[Mq];z_go;exact h
theorem Mj {f:Str}{is:List Int}(hn:is≠ [])(hl:is.length<=1000):q_ [.str f,.lst (is.map .int)] M=some (.v (.int (fo f is)),M):=by
  unfold q_ z7;z_go;rw[comp_map (fun d=>match d with |.int v=>.int (fi f v) |d=>d) _ (fun d hd=>?_) (by rw[xai,xaY];omega)]
  · cases is with
    |nil=>exact absurd rfl hn
    |cons a r=>
      z_go;have e:(r.map D.int).map (fun d=>match d with |.int v=>D.int (fi f v) |d=>d)=(r.map (fi f)).map D.int:=by
        rw[xcZ,xcZ];rfl
      rw[Aq,e];obtain⟨s',h⟩:=GQ (M:=M) (f:=f) (s1:=.val (.lst (.int a::r.map .int))) (s2:=.val (.lst (.int (fi f a)::(r.map (fi f)).map .int))) (r.map (fi f)) (fi f a) .un;rw[h];z_go;rfl
  · obtain⟨v, -,rfl⟩:=xaW.mp hd;unfold GJ;z_go;rw[Mi];z_go
theorem Mp {f:Str}{is:List Int}(hn:is≠ []):sY [.str f,.lst (is.map .int)] M=some (.v (.int (lf f is)),M):=by
 unfold sY zP;z_go;unfold lf;have hp:0<is.length:=xdo.mpr hn
 by_cases h:f="sum"
 ·subst h;z_go;rw[show g8 [.lst (is.map .int)]=some (.int is.sum) by simp only[g8,E3.ints_map,xa0]];z_go
 ·simp only[h,xaA,xaF];z_go
  by_cases h:f="count"
  ·subst h;z_go
  ·simp only[h,xaA,xaF];z_go
   by_cases h:f="most"
   ·subst h;z_go;rw[show sy [.lst (is.map .int)]=some (.int (dF is)) by simp only[sy,E3.ints_map,hp,xaZ]];z_go
   ·simp only[h,xaA,xaF];z_go;rw[show sE [.lst (is.map .int)]=some (.int (dR is)) by simp only[sE,E3.ints_map,hp,xaZ]];z_go
variable {M:Mm}
def Tk (d:D):Prop:=∃(t:Int) (z:Str) (v:Int),d=.tup [.int t,.str z,.int v]
theorem Kw {s0:Slot}{gap:Int}{x:D}{M:Mm}{chs:List (List D)}(hl:chs.length<=1000):gC (aj 2) (lB (bB (aD (aj 3) aC))) [s0,.val (.int gap),.val (.ref M.length),.val x] (mk M chs)=some (.nx [s0,.val (.int gap),.val (.ref M.length),.val x],mk M (chs ++ [[x]])):=by
 have rl:(refs M.length chs.length).length=chs.length:=by simp[refs]
 rw[wU (k:=M.length) (M1:=mk M chs) (ds0:=refs M.length chs.length) (d:=.ref (M.length + 1 + chs.length)) (M2:=mk M chs ++ [.lst [x]]) (ds:=refs M.length chs.length) (by z_go) (gn M chs) (by z_go;rw[HN]) (by rw[Z_ (by rw[HN];omega)];exact gn M chs) (by rw[rl,xaY];omega),Pq]
theorem Kv {s0:Slot}{gap:Int}{x:D}{M:Mm}{pre:List (List D)}{c:List D}(hl:c.length<=1000):gC (s2 aV (aj 2) (s1 cW (ao (.int 1)))) (aj 3) [s0,.val (.int gap),.val (.ref M.length),.val x] (mk M (pre ++ [c]))=some (.nx [s0,.val (.int gap),.val (.ref M.length),.val x],mk M (pre ++ [c ++ [x]])):=by
 have hc := pq (M := M) (chs := pre ++ [c]) (i := pre.length) (c := c) (by rw [xae (tG _), xaP]; rfl);rw [wU (k := M.length + 1 + pre.length) (M1 := mk M (pre ++ [c])) (ds0 := c) (d := x) (M2 := mk M (pre ++ [c])) (ds := c) (by
  z_go;rw[wK (gn M _),Ib,Z4,xay,I_];rfl) hc (by z_go) hc (by rw[xaY];omega),Pn]
theorem X3 {s0:Slot}{gap:Int}{x:D}{M:Mm}{chs:List (List D)}{ds:List D}(hx:Tk x)(hds:∀d∈ds,Tk d)(h:Chs gap chs ds)(hl:chs.length<=1000)(hl2:ds.length<=1000):∃chs',Chs gap chs' (ds ++ [x])/\chs'.length<=chs.length + 1/\
    u_ [s0,.val (.int gap),.val (.ref M.length),.val x] (mk M chs)=some (.nx [s0,.val (.int gap),.val (.ref M.length),.val x],mk M chs'):=by
  obtain⟨t,z,v,rfl⟩:=hx;have new:=Kw (s0:=s0) (gap:=gap) (x:=.tup [.int t,.str z,.int v]) (M:=M) hl;rcases xbd chs with rfl |⟨pre,c,rfl⟩
  · refine⟨_,Gb h (fun pre c' y e=>by simp at e),by simp,?_⟩;unfold u_;generalize gC (aj 2) (lB (bB (aD (aj 3) aC)))=A1 at new ⊢;z_go;rw[wK (gn M [])];z_go;simp only[refs,xbP,List.range_zero,List.map_nil,List.isEmpty_nil];z_go;rw[new];z_go
  · rw[xby]at *;have hc:=pq (M:=M) (chs:=pre ++ [c]) (i:=pre.length) (c:=c) (by rw[xae (tG _),xaP];rfl);rcases xbd c with rfl |⟨c',y,rfl⟩
    · exact absurd rfl (h.ne [] (by simp))
    · rw[xby]at *;have hy:y∈ds:=by rw[<-h.fl];simp
      obtain⟨t',z',v',rfl⟩:=hds y hy;have hcl:(c' ++ [D.tup [.int t',.str z',.int v']]).length<=1000:=by
        have:=congrArg List.length h.fl
        simp at this
        simp
        omega
      have app:=Kv (s0:=s0) (gap:=gap) (x:=.tup [.int t,.str z,.int v]) (M:=M) (pre:=pre) hcl;have ev:∀(k1 k2:S),bR (cA (cO (aj 2)) (s2 (aH .lt) (s2 cu (s2 aV (aj 3) (ao (.int 0))) (s2 aV (s2 aV (s2 aV (aj 2) (s1 cW (ao (.int 1)))) (s1 cW (ao (.int 1)))) (ao (.int 0)))) (aj 1))) k1 k2 [s0,.val (.int gap),.val (.ref M.length),.val (.tup [.int t,.str z,.int v])] (mk M (pre ++ [c' ++ [D.tup [.int t',.str z',.int v']]]))=
          if t - t'<gap then k1 [s0,.val (.int gap),.val (.ref M.length),.val (.tup [.int t,.str z,.int v])] (mk M (pre ++ [c' ++ [D.tup [.int t',.str z',.int v']]])) else k2 [s0,.val (.int gap),.val (.ref M.length),.val (.tup [.int t,.str z,.int v])] (mk M (pre ++ [c' ++ [D.tup [.int t',.str z',.int v']]])):=fun k1 k2=>by
        have mb:=wK (gn M (pre ++ [c' ++ [D.tup [.int t',.str z',.int v']]]));rw[Z4,xay]at mb;have mc:=wK hc;have rl:=I_ M.length pre.length;have re:(refs M.length (pre.length + 1)).isEmpty=false:=by simp[refs,xb2]
        generalize mk M (pre ++ [c' ++ [D.tup [.int t',.str z',.int v']]])=MM at mb mc ⊢;generalize refs M.length (pre.length + 1)=RR at mb rl re;z_go;simp only[mb];z_go;simp only[re];z_go
        try simp only[at0]
        z_go;simp only[mb];z_go;simp only[rl];z_go;simp only[mc];z_go;simp only[wX];z_go
        try simp only[at0]
        z_go
      by_cases hlt:t - t'<gap
      · refine⟨_,Li h hlt,by simp,?_⟩;unfold u_;generalize gC (s2 aV (aj 2) (s1 cW (ao (.int 1)))) (aj 3)=A2 at app ⊢;rw[vI,ev,Z7 hlt];z_go;rw[app];z_go
      · refine⟨_,Gb h (fun pre2 c2 y2 e=>?_),by simp,?_⟩
        · have e1:=List.append_inj' e rfl;have e2:=List.append_inj' (List.cons.inj e1.2).1 rfl;rw[<-(List.cons.inj e2.2).1];show gap<=t - t';omega
        · unfold u_;generalize gC (aj 2) (lB (bB (aD (aj 3) aC)))=A1 at new ⊢;rw[vI,ev,xaf hlt];z_go;rw[new];z_go
theorem HS {M:Mm}{chs:List (List D)}{n:Nat}{c:Cl}(h:M[n]? =some c):(mk M chs)[n]? =some c:=by
 unfold mk;rw[Z_ (Z5.mp h).1];exact h
theorem M8 {gap:Int}{n:Nat}{ds:List D}{M:Mm}(hM:M[n]? =some (.lst ds))(hds:∀d∈ds,Tk d)(hl:ds.length<=100):∃chs,Chs gap chs ds/\chs.length<=100/\tO [.ref n,.int gap] M=some (.v (.ref M.length),mk M chs):=by
 unfold tO zY;z_go;have e0:M ++ [Cl.lst []]=mk M []:=rfl;rw[e0];refine Hw (Q:=fun o=>∃chs,Chs gap chs ds/\chs.length<=100/\cT (dB _ o)=some (.v (.ref M.length),mk M chs)) (fun k env M'=>∃(s3:E3.Slot) (chs:List (List D)),env=[.val (.ref n),.val (.int gap),.val (.ref M.length),s3]/\M'=mk M chs/\chs.length<=k/\Chs gap chs (ds.take k)) (ds:=ds) ?_ (by omega) ?_ ?_ ?_
 ·exact⟨_,[],rfl,rfl,xaE _,by rw[List.take_zero];exact Lj gap⟩
 ·rintro k env M' ⟨s3,chs,rfl,rfl,hk,hC⟩;exact HS hM
 ·rintro k d env M' hd ⟨s3,chs,rfl,rfl,hk,hC⟩;refine⟨by simp,?_⟩;have kl:=(Z5.mp hd).1;obtain⟨chs',h1,h2,h3⟩:=X3 (s0:=.val (.ref n)) (gap:=gap) (x:=d) (M:=M) (hds d (xaw hd)) (fun y hy=>hds y (xco hy)) hC (by omega) (by rw[xbb];omega);simp only[xaI,xaJ];rw[h3];refine⟨_,chs',rfl,rfl,by omega,?_⟩;rw[xcH,hd];exact h1
 ·rintro env M' ⟨s3,chs,rfl,rfl,hk,hC⟩;z_go;rw[xcj]at hC;exact⟨chs,hC,by omega,rfl⟩
variable {M:Mm}
theorem Z1 {d:D}(h:Tk d):d=.tup [.int (tm d),.str (ky d),.int (vl d)]:=by
 obtain⟨t,z,v,rfl⟩:=h;rfl
theorem Le {n:Nat}{c:List D}{env:E3.Env}(hv:aj 9 env M=some (.v (.ref n),M))(hM:M[n]? =some (.lst c))(hc:∀d∈c,Tk d)(hl:c.length<=100):kj 1000 [] (aj 9) sO env M=some (.v (.lst ((c.map vl).map .int)),M):=by
 rw[KQ (fun d=>.int (vl d)) hv hM (fun d hd=>?_) (by omega) (by rw[xaY];omega),xcZ]
 ·rfl
 ·obtain⟨t,z,v,rfl⟩:=hc d hd;unfold sO;z_go;rfl
theorem XR {s0 s1 s4 s5 s8 s10:E3.Slot}{f z:Str}{gap mark:Int}{told c:List D}{n:Nat}(hM:M[n]? =some (.lst c))(hne:c≠ [])(hc:∀d∈c,Tk d)(hl:c.length<=100)(ht:told.length<=1000):
  ∃s10',Bm [s0,s1,.val (.int mark),.val (.tup [.int gap,.str f]),s4,s5,.own told,.val (.str z),s8,.val (.ref n),s10] M=some (.nx [s0,s1,.val (.int mark),.val (.tup [.int gap,.str f]),s4,s5,.own (told ++ (tl1 f gap mark z c).toList),.val (.str z),s8,.val (.ref n),s10'],M):=by
 have w:=wK hM;obtain⟨l,hl1,hl2⟩:∃l,bI c (-1)=some l/\l=lastOf c:=by
  rcases xbd c with rfl |⟨c',y,rfl⟩
  ·exact absurd rfl hne
  ·rw[xby];exact⟨y,wX c' y,by simp[lastOf]⟩
 have lc:l∈c:=by rw[hl2];exact xbD (last_eq hne)
 obtain⟨t,z',v,rfl⟩:=hc l lc;have tl:tm (lastOf c)=t:=by rw[<-hl2];rfl
 have cc:∀x,kj 1000 [] (aj 9) sO [s0,s1,.val (.int mark),.val (.tup [.int gap,.str f]),s4,s5,.own told,.val (.str z),s8,.val (.ref n),.val x] M=some (.v (.lst ((c.map vl).map .int)),M):=fun x=>Le (by z_go) hM hc hl;have fd:q_ [.str f,.lst ((c.map vl).map .int)] M=_:=Mj (M:=M) (f:=f) (is:=c.map vl) (by simpa using hne) (by simp;omega);unfold Bm;generalize kj 1000 [] (aj 9) sO=CC at cc ⊢;z_go;simp only[w];z_go;rw[hl1];z_go;unfold tl1;rw[tl]
 by_cases hm:t + gap<=mark
 ·rw[Z7 hm];z_go;rw[cc];z_go;rw[fd];z_go;rw[Z7 (by omega)];z_go;exact⟨.val (.int (t + gap)),by rw[Z7 hm];rfl⟩
 ·rw[xaf hm];z_go;exact⟨.val (.int (t + gap)),by rw[xaf hm,Option.toList_none,xbg]⟩
theorem KR {n i j:Nat}{f:E}{b:S}{env:E3.Env}{M1:Mm}(h:f env M=some (.v (.ref j),M1)):rB n i f b env M=gM i j b n 0 env M1:=by
 simp only[rB,bO,h]
theorem XS {s0 s1 s4 s5 s9 s10:E3.Slot}{f z:Str}{gap mark:Int}{told ds:List D}{n:Nat}(hM:M[n]? =some (.lst ds))(hds:∀d∈ds,Tk d)(hl:ds.length<=100)(ht:told.length<=800):
    ∃chs s9' s10',Chs gap chs ds/\chs.length<=ds.length/\vd [s0,s1,.val (.int mark),.val (.tup [.int gap,.str f]),s4,s5,.own told,.val (.str z),.val (.ref n),s9,s10] M=
      some (.nx [s0,s1,.val (.int mark),.val (.tup [.int gap,.str f]),s4,s5,.own (told ++ tl f gap mark z chs),.val (.str z),.val (.ref n),s9',s10'],mk M chs):=by
  obtain⟨chs,hC,hl2,hg⟩:=M8 (gap:=gap) hM hds hl;have fl:∀c∈chs,c.length<=100/\∀d∈c,Tk d:=fun c hc=>by
    obtain⟨a,b,rfl⟩:=xbw hc;have e:=hC.fl;rw[xbq,xbl]at e;have e2:=congrArg List.length e;rw[Z4,Z4]at e2;exact⟨by omega,fun d hd=>hds d (by rw[<-e];simp[hd])⟩
  have cl:chs.length<=ds.length:=by
    have key:∀xs:List (List D),(∀c∈xs,c≠ [])->xs.length<=xs.flatten.length:=fun xs=>by
      induction xs with
      |nil=>exact fun _=>tG _
      |cons a r ih=>
        intro h;have h1:=ih fun c hc=>h c (by simp[hc]);have h2:=xdo.mpr (h a (by simp));rw[xbl,Z4,xar];omega
    have:=key chs hC.ne;rw[hC.fl]at this;exact this
  unfold vd;z_go;rw[KR (j:=M.length) (M1:=mk M chs) (by z_go;rw[hg];z_go)];refine Hw (Q:=fun o=>∃chs' s9' s10',Chs gap chs' ds/\chs'.length<=ds.length/\dB aA o=some (.nx [s0,s1,.val (.int mark),.val (.tup [.int gap,.str f]),s4,s5,.own (told ++ tl f gap mark z chs'),.val (.str z),.val (.ref n),s9',s10'],mk M chs'))
    (fun k env M'=>∃s9' s10',env=[s0,s1,.val (.int mark),.val (.tup [.int gap,.str f]),s4,s5,.own (told ++ tl f gap mark z (chs.take k)),.val (.str z),.val (.ref n),s9',s10']/\M'=mk M chs) (ds:=refs M.length chs.length) ?_ (by simp[refs];omega) ?_ ?_ ?_
  · exact⟨s9,s10,by simp[tl],rfl⟩
  · rintro k env M' ⟨s9',s10',rfl,rfl⟩;exact gn M chs
  · rintro k d env M' hd ⟨s9',s10',rfl,rfl⟩;refine⟨by simp,?_⟩;have kl:k<chs.length:=by have:=(Z5.mp hd).1;simpa [refs] using this
    have hk:chs[k]? =some chs[k]:=Z6 kl;have ed:d=.ref (M.length + 1 + k):=by
      unfold refs at hd;rw[xag,xbp kl]at hd;exact(xan hd).symm
    subst ed;have mem:=xaT kl;have tln:(tl f gap mark z (chs.take k)).length<=100:=by
      have:=xc1 (tl1 f gap mark z) (chs.take k);rw[xbb]at this;unfold tl;omega
    obtain⟨s',h⟩:=XR (s0:=s0) (s1:=s1) (s4:=s4) (s5:=s5) (s8:=.val (.ref n)) (s10:=s10') (f:=f) (z:=z) (gap:=gap) (mark:=mark) (told:=told ++ tl f gap mark z (chs.take k)) (pq (M:=M) hk) (hC.ne _ mem) (fl _ mem).2 (fl _ mem).1 (by rw[Z4];omega);simp only[xaI,xaJ];rw[h];refine⟨.val (.ref (M.length + 1 + k)),s',?_,rfl⟩;rw[xcH,hk,xbB];unfold tl;rw[List.filterMap_append];simp only[Option.toList_some,xbo,List.filterMap_nil];cases tl1 f gap mark z chs[k]<;>rfl
  · rintro env M' ⟨s9',s10',rfl,rfl⟩;refine⟨chs,s9',s10',hC,cl,?_⟩;z_go;rw[show(refs M.length chs.length).length=chs.length by simp[refs],xcj]
variable {M:Mm}
noncomputable def bJ (b:Nat) (gs:List (Str×Nat)):List (Key×D):=gs.map fun p=>(.inr p.1,.ref (b + 1 + p.2))
noncomputable def gm (M:Mm) (gs:List (Str×Nat)) (cells:List (List D)):Mm:=M ++ .dct (bJ M.length gs)::cells.map .lst
theorem G8 (gs:List (Str×Nat))(cells:List (List D)):(gm M gs cells).length=M.length + 1 + cells.length:=by
 simp only[gm,Z4,xar,xai];omega
theorem nZ (gs:List (Str×Nat))(cells:List (List D)):(gm M gs cells)[M.length]? =some (.dct (bJ M.length gs)):=by
 unfold gm;rw[xae (tG _),xaP];rfl
theorem iB {gs:List (Str×Nat)}{cells:List (List D)}{i:Nat}{c:List D}(h:cells[i]? =some c):(gm M gs cells)[M.length + 1 + i]? =some (.lst c):=by
 unfold gm;rw[xae (by omega),show M.length + 1 + i - M.length=i + 1 by omega,xa7,xag,h];rfl
theorem Nh (gs:List (Str×Nat))(cells:List (List D))(c:List D):gm M gs cells ++ [.lst c]=gm M gs (cells ++ [c]):=by
 simp[gm]
theorem G9 (gs:List (Str×Nat))(cells:List (List D))(i:Nat)(c:List D):(gm M gs cells).set (M.length + 1 + i) (.lst c)=gm M gs (cells.set i c):=by
 unfold gm;rw[xbx _ _ (by omega),show M.length + 1 + i - M.length=i + 1 by omega,xaJ,List.map_set]
theorem Ng (gs gs':List (Str×Nat))(cells:List (List D)):(gm M gs cells).set M.length (.dct (bJ M.length gs'))=gm M gs' cells:=by
 unfold gm;rw[xbx _ _ (tG _),xaP,xaI]
theorem Ka {b:Nat}{z:Str}{j:Nat}:∀{gs:List (Str×Nat)},(gs.map (·.1)).Nodup->(z,j)∈gs->bY (bJ b gs) (.inr z)=some (.ref (b + 1 + j))
  | [],_,h=>nomatch h
  |p::gs,nd,h=>by
    have nd':=xbN.mp nd;unfold bY bJ;rw[xaV]
    by_cases e:p.1=z
    · rw[List.find?_cons_of_pos (by simp[e])];rcases xah.mp h with rfl |h
      · rfl
      · exact absurd (xaW.mpr ⟨_,h,rfl⟩) (by rw[<-e]at *;exact nd'.1)
    · rw[xc9 (by simpa using e)];rcases xah.mp h with rfl |h
      · exact absurd rfl e
      · exact Ka nd'.2 h
theorem Kc {b:Nat}{z:Str}:∀{gs:List (Str×Nat)},(∀p∈gs,p.1≠z)->bY (bJ b gs) (.inr z)=none
  | [],_=>rfl
  |p::gs,h=>by
    unfold bY bJ;rw[xaV,xc9 (by simpa using h p (by simp))];exact Kc fun q hq=>h q (by simp[hq])
theorem S_ {b k:Nat}{z:Str}{gs:List (Str×Nat)}(h:∀p∈gs,p.1≠z):eV (bJ b gs) (.inr z) (.ref (b + 1 + k))=bJ b (gs ++ [(z,k)]):=by
 unfold eV;rw [xaf (by
  rw[Bool.not_eq_true,xb9];intro kv hkv;obtain⟨p,hp,rfl⟩:=xaW.mp hkv
  simpa using h p hp)]
 simp[bJ]
theorem Wj {f g h:E}{env:E3.Env}{j:Nat}{kvs:List (Key×D)}{z:Str}{x:D}{M3:Mm}(h1:f env M=some (.v (.ref j),M))(hd:M[j]? =some (.dct kvs))(h2:g env M=some (.v (.str z),M))(h3:h env M=some (.v x,M3))(hd3:M3[j]? =some (.dct kvs))(hl:kvs.length<sizeLine):
  vR f g h env M=match bY kvs (.inr z) with |some y=>some (.v y,M3) |none=>some (.v x,M3.set j (.dct (eV kvs (.inr z) x))):=by
 have e1:h_ M (.ref j)=some (j,kvs):=by simp only[h_,hd]
 have e3:h_ M3 (.ref j)=some (j,kvs):=by simp only[h_,hd3]
 simp only[vR,bnd,h1,e1,h2,h3,dk,e3,toKey,xa0,Dh,hl,xaZ]
 all_goals (cases bY kvs (.inr z)<;>rfl)
structure Gi (P:List D)(gs:List (Str×Nat))(cells:List (List D)):Prop where
 n1:(gs.map (·.1)).Nodup
 n2:(gs.map (·.2)).Nodup
 ce:∀p∈gs,cells[p.2]? =some (P.filter fun d=>ky d==p.1)
 al:∀d∈P,∃p∈gs,p.1=ky d
 cl:cells.length=P.length
 gl:gs.length<=P.length
theorem BL {α:Type}(f:Str×Nat->α):∀{gs:List (Str×Nat)} {p q:Str×Nat},(gs.map f).Nodup->p∈gs->q∈gs->f p=f q->p=q
  | [],_,_,_,h,_,_=>nomatch h
  |a::gs,p,q,nd,hp,hq,e=>by
    have nd':=xbN.mp nd;rcases xah.mp hp with h1 |h1
    · rcases xah.mp hq with h2 |h2
      · rw[h1,h2]
      · exact absurd (xaW.mpr ⟨q,h2,by rw[<-e,h1]⟩) nd'.1
    · rcases xah.mp hq with h2 |h2
      · exact absurd (xaW.mpr ⟨p,h1,by rw[e,h2]⟩) nd'.1
      · exact BL f nd'.2 h1 h2 e
theorem X4 {a0 a1 a2 a3:E3.Slot}{es:List E3.Slot}{P:List D}{gs:List (Str×Nat)}{cells:List (List D)}{d:D}(h:Gi P gs cells)(hd:Tk d)(hl:P.length<=100):
    ∃gs' cells',Gi (P ++ [d]) gs' cells'/\xU ([a0,a1,a2,a3,.val (.ref M.length),.val d] ++ es) (gm M gs cells)=some (.nx ([a0,a1,a2,a3,.val (.ref M.length),.val d] ++ es),gm M gs' cells'):=by
  obtain⟨t,z,v,rfl⟩:=hd;have kl:(bJ M.length gs).length=gs.length:=xai ..;have gl:=h.gl;have cl:=h.cl;have sd:=Wj (f:=aj 4) (g:=s2 aV (aj 5) (ao (.int 1))) (h:=lB (bB aC)) (env:=[a0,a1,a2,a3,.val (.ref M.length),.val (.tup [.int t,.str z,.int v])] ++ es) (M:=gm M gs cells) (j:=M.length) (kvs:=bJ M.length gs) (z:=z) (x:=.ref (M.length + 1 + cells.length)) (M3:=gm M gs (cells ++ [[]]))
    (by simp only[xaU,xbj];z_go) (nZ gs cells) (by simp only[xaU,xbj];z_go) (by rw[<-Nh, <-G8 gs cells];z_go) (nZ gs _) (by rw[kl,xaY];omega)
  by_cases hz:∃p∈gs,p.1=z
  · obtain⟨⟨z',j⟩,hp,rfl⟩:=hz;have hc:=h.ce _ hp;have jl:j<cells.length:=(Z5.mp hc).1;have hc':(cells ++ [[]])[j]? =some (P.filter fun d=>ky d==z'):=by rw[Z_ jl];exact hc
    rw[Ka h.n1 hp]at sd;refine⟨gs,(cells ++ [[]]).set j ((P.filter fun d=>ky d==z') ++ [D.tup [.int t,.str z',.int v]]),⟨h.n1,h.n2,fun p hp'=>?_,fun d hd=>?_,by simp[cl],by rw[Z4];exact xav gl (Nat.le_add_right _ _)⟩,?_⟩
    · by_cases e:p.2=j
      · have ep:p=(z',j):=BL (·.2) h.n2 hp' hp e;subst ep;rw[xbR (by rw[Z4];omega),xb6];congr 2
        simp[ky]
      · have hc2:=h.ce p hp';have ne:z'≠p.1:=fun e2=>e (congrArg Prod.snd (BL (·.1) h.n1 hp' hp e2.symm));rw[xbV (xbr e),Z_ (Z5.mp hc2).1,hc2,xb6,xb8 (by simpa [ky] using ne),List.filter_nil,xbg]
    · rcases xaq.mp hd with hd |hd
      · exact h.al d hd
      · rw[xal.mp hd];exact⟨_,hp,rfl⟩
    · unfold xU;rw [vI, wU (k := M.length + 1 + j) (M1 := gm M gs (cells ++ [[]])) (ds0 := P.filter fun d => ky d == z') (d := .tup [.int t, .str z', .int v]) (M2 := gm M gs (cells ++ [[]])) (ds := P.filter fun d => ky d == z') sd (iB hc') (by simp only [xaU, xbj]; z_go) (iB hc') (by
        have:=xck (fun d=>ky d==z') P;rw[xaY];omega),G9]
      z_go
  · have hz:∀p∈gs,p.1≠z:=fun p hp e=>hz ⟨p,hp,e⟩;have hno:∀d∈P,ky d≠z:=fun d hd e=>by
      obtain⟨p,hp,e2⟩:=h.al d hd;exact hz p hp (e2.trans e)
    rw[Kc hz]at sd;simp only[S_ hz,Ng]at sd;have hc':(cells ++ [([]:List D)])[cells.length]? =some []:=by simp
    refine⟨gs ++ [(z,cells.length)],cells ++ [[D.tup [.int t,.str z,.int v]]],⟨?_,?_,fun p hp'=>?_,fun d hd=>?_,by simp[cl],by simp;omega⟩,?_⟩
    · rw[xaB,xcI];refine⟨h.n1,by simp,fun a ha b hb=>?_⟩;obtain⟨p,hp,rfl⟩:=xaW.mp ha;rw[xdv,xal]at hb;rw[hb];exact hz p hp
    · rw[xaB,xcI];refine⟨h.n2,by simp,fun a ha b hb=>?_⟩;obtain⟨p,hp,rfl⟩:=xaW.mp ha;rw[xdv,xal]at hb;rw[hb];exact xap (Z5.mp (h.ce p hp)).1
    · rcases xaq.mp hp' with hp' |hp'
      · have hc2:=h.ce p hp';rw[Z_ (Z5.mp hc2).1,hc2,xb6,xb8 (by simpa [ky] using xbr (hz p hp')),List.filter_nil,xbg]
      · rw[xal.mp hp',xb6,List.filter_eq_nil_iff.mpr (fun d hd=>by simpa using hno d hd)]
        simp[ky]
    · rcases xaq.mp hd with hd |hd
      · obtain⟨p,hp,e⟩:=h.al d hd;exact⟨p,by simp[hp],e⟩
      · rw[xal.mp hd];exact⟨(z,cells.length),by simp,rfl⟩
    · unfold xU;rw[vI,wU (k:=M.length + 1 + cells.length) (M1:=gm M (gs ++ [(z,cells.length)]) (cells ++ [[]])) (ds0:=[]) (d:=.tup [.int t,.str z,.int v]) (M2:=gm M (gs ++ [(z,cells.length)]) (cells ++ [[]])) (ds:=[]) sd (iB hc') (by simp only[xaU,xbj];z_go) (iB hc') (by rw[xaY,xbP];omega),G9];z_go
      simp
variable {M:Mm}
theorem Z0 (M:Mm)(chs:List (List D)):∃X,mk M chs=M ++ X:=⟨_,rfl⟩
theorem JZ {a0 a1 a4 a5:E3.Slot}{f:Str}{gap mark:Int}{b:Nat}{S:List D}(hS:∀d∈S,Tk d)(hl:S.length<=10):∀(gs:List (Str×Nat)) (M:Mm) (told:List D) (a7 a8 a9 a10:E3.Slot),(∀p∈gs,M[b + 1 + p.2]? =some (.lst (S.filter fun d=>ky d==p.1)))->told.length + 10 * gs.length<=800->
    ∃(hs:List (Str×List (List D))) (M':Mm) (a7' a8' a9' a10':E3.Slot),hs.map (·.1)=gs.map (·.1)/\(∀g∈hs,Chs gap g.2 (S.filter fun d=>ky d==g.1))/\(told ++ bU f gap mark hs).length<=told.length + 10 * gs.length/\
      eU [7,8] vd (gh (bJ b gs)) [a0,a1,.val (.int mark),.val (.tup [.int gap,.str f]),a4,a5,.own told,a7,a8,a9,a10] M=some (.nx [a0,a1,.val (.int mark),.val (.tup [.int gap,.str f]),a4,a5,.own (told ++ bU f gap mark hs),a7',a8',a9',a10'],M')
  | [],M,told,a7,a8,a9,a10,_,_=>⟨[],M,a7,a8,a9,a10,rfl,(fun g h=>nomatch h),by simp[bU],by simp only[bU,List.flatMap_nil,xbg];rfl⟩
  |p::gs,M,told,a7,a8,a9,a10,hp,hn=>by
    have h0:=hp p (by simp);have fl:=xck (fun d=>ky d==p.1) S;rw[xar]at hn;obtain⟨chs,s9,s10,hC,cl,e⟩:=XS (s0:=a0) (s1:=a1) (s4:=a4) (s5:=a5) (s9:=a9) (s10:=a10) (f:=f) (z:=p.1) (gap:=gap) (mark:=mark) (told:=told) h0 (fun d hd=>hS d (xa2.mp hd).1) (by omega) (by omega);have tn:(tl f gap mark p.1 chs).length<=10:=by
      have:=xc1 (tl1 f gap mark p.1) chs;unfold tl;omega
    obtain⟨hs,M',b7,b8,b9,b10,k1,k2,k3,k4⟩:=JZ (a0:=a0) (a1:=a1) (a4:=a4) (a5:=a5) (f:=f) (gap:=gap) (mark:=mark) (b:=b) hS hl gs (mk M chs) (told ++ tl f gap mark p.1 chs) (.val (.str p.1)) (.val (.ref (b + 1 + p.2))) s9 s10 (fun q hq=>HS (hp q (by simp[hq]))) (by rw[Z4];omega);have et:told ++ bU f gap mark ((p.1,chs)::hs)=told ++ tl f gap mark p.1 chs ++ bU f gap mark hs:=by
      unfold bU;rw[List.flatMap_cons,xbB]
    refine⟨(p.1,chs)::hs,M',b7,b8,b9,b10,by simp[k1],fun g hg=>?_,?_,?_⟩
    · rcases xah.mp hg with rfl |hg
      · exact hC
      · exact k2 g hg
    · rw[et,xar];rw[Z4]at k3 ⊢;rw[Z4]at k3 ⊢;omega
    · rw[et];show eU [7,8] vd (.tup [.str p.1,.ref (b + 1 + p.2)]::gh (bJ b gs)) _ _=_;have ht:kJ [7,8] (.tup [.str p.1,.ref (b + 1 + p.2)]) [a0,a1,.val (.int mark),.val (.tup [.int gap,.str f]),a4,a5,.own told,a7,a8,a9,a10]=some [a0,a1,.val (.int mark),.val (.tup [.int gap,.str f]),a4,a5,.own told,.val (.str p.1),.val (.ref (b + 1 + p.2)),a9,a10]:=rfl;simp only[eU,ht,e];exact k4
variable {M:Mm}
theorem Ml {f w:Str}{gap:Int}{x0 x1 x2:D}(hw:dN [.str w]=some (.int gap)):tU [.tup [x0,x1,x2,.tup [.str w,.str f]]] M=some (.v (.tup [.int gap,.str f]),M):=by
 unfold tU z8;simp only[vH];z_go;rw[<-BX,hw];z_go
theorem Lw {env:E3.Env}:pL pB env M=some (.v (.ref M.length),M ++ [.dct []]):=rfl
theorem Np {is:List Nat}{f:E}{b:S}{env:E3.Env}{M1:Mm}{j:Nat}{kvs:List (Key×D)}(h:f env M=some (.v (.ref j),M1))(h2:M1[j]? =some (.dcf kvs)):vP is f b env M=eU is b (gh kvs) env M1:=by
 have e:sJ M1 (.ref j)=some (j,kvs):=by simp only[sJ,h2]
 simp only[vP,bO,h,e]
theorem Mh {T S:List D}{f w:Str}{gap mark:Int}{x0 x1 x2:D}(hw:dN [.str w]=some (.int gap))(hs:fM T=some S)(hS:∀d∈S,Tk d)(hl:S.length<=10):
  ∃hs M',Gs gap S hs/\(bU f gap mark hs).length<=100/\tQ [.tup [x0,x1,x2,.tup [.str w,.str f]],.lst T,.int mark] M=some (.v (.lst (bU f gap mark hs)),M'):=by
 unfold tQ zZ;z_go;rw[Ml hw];z_go;rw[Lw];z_go;rw[show eZ (M ++ [Cl.dct []]) (.lst T)=some (.v (.lst S),M ++ [Cl.dct []]) by simp only[eZ,hs,xa0];rfl];z_go;refine xV (Q:=fun o=>∃hs M',Gs gap S hs/\(bU f gap mark hs).length<=100/\cT (dB _ o)=some (.v (.lst (bU f gap mark hs)),M')) (fun k env M'=>∃(s5:E3.Slot) (gs:List (Str×Nat)) (cells:List (List D)),env=[.val (.tup [x0,x1,x2,.tup [.str w,.str f]]),.val (.lst T),.val (.int mark),.val (.tup [.int gap,.str f]),.val (.ref M.length),s5,.un,.un,.un,.un,.un]/\M'=gm M gs cells/\Gi (S.take k) gs cells) ?_ ?_ ?_
 ·exact⟨.un,[],[],rfl,rfl,⟨.nil,.nil,(fun p h=>nomatch h),(fun d h=>by simp at h),by simp,by simp⟩⟩
 ·rintro k d env M' hd ⟨s5,gs,cells,rfl,rfl,hG⟩;refine⟨by simp,?_⟩;obtain⟨gs',cells',h1,h2⟩:=X4 (M:=M) (a0:=.val (.tup [x0,x1,x2,.tup [.str w,.str f]])) (a1:=.val (.lst T)) (a2:=.val (.int mark)) (a3:=.val (.tup [.int gap,.str f])) (es:=[.un,.un,.un,.un,.un]) hG (hS d (xaw hd)) (by rw[xbb];omega);simp only[xaI,xaJ];simp only[xaU,xbj]at h2;rw[h2];refine⟨_,gs',cells',rfl,rfl,?_⟩;rw[xcH,hd];exact h1
 ·rintro env M' ⟨s5, gs, cells, rfl, rfl, hG⟩;rw [xcj] at hG;z_go;have gl := hG.gl;have ly : ∀ env : E3.Env, env[4]? = some (.val (.ref M.length)) -> gD (aj 4) env (gm M gs cells) = some (.v (.ref M.length), (gm M gs cells).set M.length (.dcf (bJ M.length gs))) := fun env he => Ow (by simp only [aj, he]) (nZ gs cells);rw [Np (ly _ rfl) (by rw [xbR (by rw [G8]; omega)])];obtain ⟨hs, M', b7, b8, b9, b10, k1, k2, k3, k4⟩ := JZ (a0 := .val (.tup [x0, x1, x2, .tup [.str w, .str f]])) (a1 := .val (.lst T)) (a4 := .val (.ref M.length)) (a5 := s5) (f := f) (gap := gap) (mark := mark) (b := M.length) hS hl gs ((gm M gs cells).set M.length (.dcf (bJ M.length gs))) [] .un .un .un .un (fun p hp=>by
   rw[xbV (by omega)];exact iB (hG.ce p hp)) (by simp;omega)
  rw[k4];refine⟨hs,M',⟨by rw[k1];exact hG.n1,k2,fun d hd=>?_⟩,?_,?_⟩
  ·obtain⟨p,hp,e⟩:=hG.al d hd;have:p.1∈hs.map (·.1):=by rw[k1];exact xaW.mpr ⟨p,hp,rfl⟩
   obtain⟨g,hg,e2⟩:=xaW.mp this;exact⟨g,hg,e2.trans e⟩
  ·rw[xbj,xbP]at k3;omega
  ·z_go
variable {M:Mm}
theorem Mg {T S:List D}{f w:Str}{gap mark:Int}{x1 x2:D}(hw:dN [.str w]=some (.int gap))(hs:fM T=some S)(hS:∀d∈S,Tk d)(hl:S.length<=10):
  ∃hs M',Gs gap S hs/\(bU f gap mark hs).length<=100/\tW [.tup [.str "gap",x1,x2,.tup [.str w,.str f]],.lst [.lst T],.int mark] M=some (.v (.lst (bU f gap mark hs)),M'):=by
 obtain⟨gs,M',h1,h2,h3⟩:=Mh (M:=M) (f:=f) (mark:=mark) (x0:=.str "gap") (x1:=x1) (x2:=x2) hw hs hS hl;refine⟨gs,M',h1,h2,?_⟩;have k1:(Str.ofString "gap"=Str.ofString "keep")=False:=eq_false (by x_go);have k2:(Str.ofString "gap"=Str.ofString "turn")=False:=eq_false (by x_go);have k3:(Str.ofString "gap"=Str.ofString "share")=False:=eq_false (by x_go);have k4:aH .isin (.str (Str.ofString "gap")) (.tup [.str (Str.ofString "fixed"),.str (Str.ofString "slide")])=some (.bl false):=by kernel_rfl
 unfold tW z_;z_go;simp only[k1,xaA];z_go;simp only[k2,xaA];z_go;simp only[k3,xaA];z_go;rw[k4];z_go;rw[h3];z_go
theorem Ye {t v:Int}{z:Str}:Tg (.tup [.int t,.str z,.int v]):=rfl
theorem J4 {f:Str}{gap mark:Int}{gs:List (Str×List (List D))}:∀e∈bU f gap mark gs,Tg e:=fun e he=>by
 obtain⟨g, -,c, -, -,rfl⟩:=El he;exact Ye
theorem Mu {T S:List D}{f w:Str}{gap mark:Int}{x1 x2:D}(hw:dN [.str w]=some (.int gap))(hs:fM T=some S)(hS:∀d∈S,Tk d)(hl:S.length<=10)(hn:∀hs,Gs gap S hs->(bU f gap mark hs).length<64):
  ∃hs es M',Gs gap S hs/\es.Perm (bU f gap mark hs)/\es.Pairwise eO/\tX [.tup [.str "gap",x1,x2,.tup [.str w,.str f]],.lst [.lst T],.int mark] M=some (.v (.lst es),M'):=by
 obtain⟨gs,M',h1,h2,h3⟩:=Mg (M:=M) (f:=f) (mark:=mark) (x1:=x1) (x2:=x2) hw hs hS hl;obtain⟨es,e1,e2,e3⟩:=JN (ds:=bU f gap mark gs) J4 (hn gs h1);refine⟨gs,es,M',h1,e2,e3,?_⟩;unfold tX Aa;z_go;rw[h3];z_go;rw[show eZ M' (.lst (bU f gap mark gs))=some (.v (.lst es),M') by simp only[eZ,e1,xa0];rfl];z_go
variable {M:Mm}
theorem Lg {i j k:Int}{f g h:E}{env:E3.Env}(hf:f env M=some (.v (.int i),M))(hg:g env M=some (.v (.int j),M))(hh:h env M=some (.v (.int k),M)):fL .lt .lt f g h env M=some (.v (.bl (decide (i<j) && decide (j<k))),M):=by
 unfold fL;simp only[bnd,hf,hg,hh,vw,bM,cI]
 by_cases h1:i<j
 ·simp only[h1,xbt,Bool.true_and,xa0]
 ·simp only[h1,xaA,xdb]
noncomputable def nxt (z:Str) (t gap:Int) (y:D):Bool:=decide (ky y=z) && (decide (t<tm y) && decide (tm y<t + gap))
theorem X7 {s0:Slot}{t gap:Int}{z:Str}{d:D}(h:Tk d):xR [s0,.val (.int t),.val (.str z),.val (.int gap),.val d] M=if nxt z t gap d=true then some (.rt (.bl true),M) else some (.nx [s0,.val (.int t),.val (.str z),.val (.int gap),.val d],M):=by
 obtain⟨t',z',v',rfl⟩:=h;have ch:=Lg (M:=M) (f:=aj 1) (g:=s2 aV (aj 4) (ao (.int 0))) (h:=s2 aP (aj 1) (aj 3)) (env:=[s0,.val (.int t),.val (.str z),.val (.int gap),.val (.tup [.int t',.str z',.int v'])]) (i:=t) (j:=t') (k:=t + gap) (by z_go) (by z_go) (by z_go);unfold xR;generalize fL .lt .lt (aj 1) (s2 aV (aj 4) (ao (.int 0))) (s2 aP (aj 1) (aj 3))=CH at ch ⊢;z_go
 by_cases hz:z'=z
 ·have hn:nxt z t gap (.tup [.int t',.str z',.int v'])=(decide (t<t') && decide (t'<t + gap)):=by
   show(decide (z'=z) && (decide (t<t') && decide (t'<t + gap)))=_;rw[xbE hz,Bool.true_and]
  rw[hn];subst hz;z_go;rw[ch];cases decide (t<t') && decide (t'<t + gap)
  ·z_go
  ·z_go
 ·have hn:nxt z t gap (.tup [.int t',.str z',.int v'])=false:=by
   show(decide (z'=z) && (decide (t<t') && decide (t'<t + gap)))=_;rw[xaR hz,xdb]
  rw[hn];simp only[hz,xaA];z_go
theorem Ia {s0:Slot}{t gap:Int}{z:Str}:∀(T:List D) (s4:Slot),(∀d∈T,Tk d)->∃s4',loopS 4 xR T [s0,.val (.int t),.val (.str z),.val (.int gap),s4] M=if T.any (nxt z t gap)=true then some (.rt (.bl true),M) else some (.nx [s0,.val (.int t),.val (.str z),.val (.int gap),s4'],M)
  | [],s4,_=>⟨s4,rfl⟩
  |d::T,s4,h=>by
    obtain⟨s',e⟩:=Ia (s0:=s0) (t:=t) (gap:=gap) (z:=z) T (.val d) (fun y hy=>h y (by simp[hy]));rw[yq,Z7 (by simp)];simp only[xaI,xaJ];rw[X7 (h d (by simp)),xba];cases nxt z t gap d
    · simp only[xat,xaF,Bool.false_or,yt];exact⟨s',e⟩
    · simp only[xaZ,Bool.true_or,IV];exact⟨s',trivial⟩
theorem Mr {T:List D}{t gap:Int}{z:Str}(h:∀d∈T,Tk d):tD [.lst T,.int t,.str z,.int gap] M=some (.v (.bl (T.any (nxt z t gap))),M):=by
 unfold tD zU;z_go;obtain⟨s',e⟩:=Ia (M:=M) (s0:=.val (.lst T)) (t:=t) (gap:=gap) (z:=z) T .un h;rw[e];cases T.any (nxt z t gap)
 ·simp only[xat,xaF];z_go
 ·simp only[xaZ];z_go
variable {M:Mm}
theorem XM {a0:Slot}{last gap first:Int}{z:Str}{acc:List D}{d:D}(h:Tk d)(hl:acc.length<=100):u5 [a0,.val (.int last),.val (.str z),.val (.int gap),.own acc,.val (.int first),.val d] M=
  if ky d=z/\tm d<=last then(if gap<=first - tm d then some (.rt (.lst acc),M) else some (.nx [a0,.val (.int last),.val (.str z),.val (.int gap),.own (acc ++ [.int (vl d)]),.val (.int (tm d)),.val d],M)) else some (.nx [a0,.val (.int last),.val (.str z),.val (.int gap),.own acc,.val (.int first),.val d],M):=by
 obtain⟨t',z',v',rfl⟩:=h;show _=if z'=z/\t'<=last then(if gap<=first - t' then some (Out.rt (.lst acc),M) else some (Out.nx [a0,.val (.int last),.val (.str z),.val (.int gap),.own (acc ++ [.int v']),.val (.int t'),.val (.tup [.int t',.str z',.int v'])],M)) else some (Out.nx [a0,.val (.int last),.val (.str z),.val (.int gap),.own acc,.val (.int first),.val (.tup [.int t',.str z',.int v'])],M)
 unfold u5;z_go
 by_cases hz:z'=z
 ·subst hz;z_go
  by_cases ht:t'<=last
  ·rw[Z7 ht];simp only[ht,xaZ,true_and,and_self];z_go
   by_cases hg:gap<=first - t'
   ·simp only[hg,xaZ];z_go
   ·simp only[hg,xaF];z_go;rw[Z7 (by omega)];z_go
  ·simp only[ht,xaF,and_false];z_go
 ·simp only[hz,xaA,xdu,xaF];z_go
theorem Ab {a0:Slot}{last gap:Int}{z:Str}:∀(R acc:List D) (first:Int) (s6:Slot),(∀d∈R,Tk d)->acc.length + R.length<=100->(∃f' s6',loopS 6 u5 R [a0,.val (.int last),.val (.str z),.val (.int gap),.own acc,.val (.int first),s6] M=some (.nx [a0,.val (.int last),.val (.str z),.val (.int gap),.own (bk z last gap first acc R),.val (.int f'),s6'],M))\/loopS 6 u5 R [a0,.val (.int last),.val (.str z),.val (.int gap),.own acc,.val (.int first),s6] M=some (.rt (.lst (bk z last gap first acc R)),M)
  | [],acc,first,s6,_,_=>.inl ⟨first,s6,rfl⟩
  |d::R,acc,first,s6,h,hl=>by
    rw[xar]at hl;rw[yq,Z7 (by simp)];simp only[xaI,xaJ];rw[XM (h d (by simp)) (by omega)];simp only[bk]
    by_cases hk:ky d=z/\tm d<=last
    · rw[Z7 hk,Z7 hk]
      by_cases hg:gap<=first - tm d
      · rw[Z7 hg,Z7 hg];exact .inr rfl
      · rw[xaf hg,xaf hg];simp only[yt];exact Ab R _ _ _ (fun y hy=>h y (by simp[hy])) (by simp;omega)
    · rw[xaf hk,xaf hk];simp only[yt];exact Ab R _ _ _ (fun y hy=>h y (by simp[hy])) (by omega)
theorem f_back {T S:List D}{last gap:Int}{z:Str}(hs:fM T=some S)(hS:∀d∈S,Tk d)(hl:S.length<=10):sX [.lst T,.int last,.str z,.int gap] M=some (.v (.lst (bk z last gap last [] S.reverse)),M):=by
 unfold sX zN;z_go;rw[show eZ M (.lst T)=some (.v (.lst S),M) by simp only[eZ,hs,xa0];rfl];z_go;rcases Ab (M:=M) (a0:=.val (.lst T)) (last:=last) (gap:=gap) (z:=z) S.reverse [] last .un (fun d hd=>hS d (xbs.mp hd)) (by simp;omega) with⟨f',s',h⟩ |h
 ·rw[h];z_go
 ·rw[h];z_go
variable {M:Mm}
theorem Mt {d:D}(h:Tk d):xJ [d] M=some (.v (.bl true),M):=by
 obtain⟨t,z,v,rfl⟩:=h
 kernel_rfl
noncomputable def pD (p:Int×Str):D:=.tup [.int p.1,.str p.2]
theorem Rn (p q:Int×Str):D.eq (pD p) (pD q)=decide (p=q):=by
 obtain⟨a,b⟩:=p;obtain⟨c,d⟩:=q;simp only[pD,D.eq,D.eqs,xcA]
 by_cases h1:a=c
 ·by_cases h2:b=d
  ·subst h1 h2
   simp
  ·simp[h2]
 ·simp[h1]
open Classical in
noncomputable def bG (gap mark:Int) (T:List D) (acc:List (Int×Str)) (d:D):List (Int×Str):=if T.any (nxt (ky d) (tm d) gap)=false/\tm d + gap<=mark/\(tm d,ky d)∉acc then acc ++ [(tm d,ky d)] else acc
theorem Gd {gap mark:Int}{T:List D}{d:D}:mO gap mark T d ↔ T.any (nxt (ky d) (tm d) gap)=false/\tm d + gap<=mark:=by
 unfold mO;rw[xb9]
 constructor
 ·rintro⟨h1,h2⟩;refine⟨fun y hy h=>?_,h2⟩;simp only[nxt,xam,xa8]at h;exact h1 y hy h.1 h.2
 ·rintro⟨h1,h2⟩;refine⟨fun y hy hk h=>h1 y hy ?_,h2⟩;simp only[nxt,xam,xa8];exact⟨hk,h⟩
theorem xW {gap mark:Int}{T:List D}:∀(R:List D) (acc:List (Int×Str)),acc.Nodup->(R.foldl (bG gap mark T) acc).Nodup/\(R.foldl (bG gap mark T) acc).length<=acc.length + R.length/\∀p,p∈R.foldl (bG gap mark T) acc ↔ p∈acc\/∃d∈R,mO gap mark T d/\p=(tm d,ky d)
  | [],acc,nd=>⟨nd,tG _,fun p=>by simp⟩
  |d::R,acc,nd=>by
    rw[xbi]
    by_cases h:T.any (nxt (ky d) (tm d) gap)=false/\tm d + gap<=mark/\(tm d,ky d)∉acc
    · have e : bG gap mark T acc d = acc ++ [(tm d, ky d)] := Z7 h;rw [e];obtain ⟨h1, h2, h3⟩ := xW (gap := gap) (mark := mark) (T := T) R (acc ++ [(tm d, ky d)]) (by
        rw[xcI];exact⟨nd,by simp,fun a ha b hb=>by rw[xal.mp hb];exact fun z=>h.2.2 (z ▸ ha)⟩)
      refine⟨h1,by rw[Z4]at h2;simp at h2 ⊢;omega,fun p=>(h3 p).trans ?_⟩;rw[xaq,xal,or_assoc];refine or_congr Iff.rfl ⟨fun z=>?_,fun z=>?_⟩
      · rcases z with z |⟨y,hy,z⟩
        · exact⟨d,by simp,Gd.mpr ⟨h.1,h.2.1⟩,z⟩
        · exact⟨y,by simp[hy],z⟩
      · obtain⟨y,hy,z⟩:=z;rcases xah.mp hy with rfl |hy
        · exact .inl z.2
        · exact .inr ⟨y,hy,z⟩
    · have e:bG gap mark T acc d=acc:=xaf h;rw[e];obtain⟨h1,h2,h3⟩:=xW (gap:=gap) (mark:=mark) (T:=T) R acc nd;refine⟨h1,by rw[xar];omega,fun p=>(h3 p).trans ⟨fun z=>?_,fun z=>?_⟩⟩
      · rcases z with z |⟨y,hy,z⟩
        · exact .inl z
        · exact .inr ⟨y,by simp[hy],z⟩
      · rcases z with z |⟨y,hy,z⟩
        · exact .inl z
        · rcases xah.mp hy with rfl |hy
          · refine .inl ?_;have c:=Gd.mp z.1;rw[z.2]
            by_cases m:(tm y,ky y)∈acc
            · exact m
            · exact absurd ⟨c.1,c.2,m⟩ h
          · exact .inr ⟨y,hy,z⟩
theorem Ah {gap mark:Int}{S T:List D}(h:S.Perm T){d:D}:mO gap mark S d ↔ mO gap mark T d:=by
 unfold mO
 constructor
 ·exact fun z=>⟨fun y hy=>z.1 y (h.mem_iff.mpr hy),z.2⟩
 ·exact fun z=>⟨fun y hy=>z.1 y (h.mem_iff.mp hy),z.2⟩
theorem Ej {f:Str}{gap mark:Int}{S T:List D}{gs:List (Str×List (List D))}(hg:1<=gap)(hp:S.Perm T)(hG:Gs gap S gs)(ha:cZ S):(bU f gap mark gs).length=(T.foldl (bG gap mark T) []).length/\(bU f gap mark gs).length<=T.length:=by
 obtain⟨h1,h2,h3⟩:=xW (gap:=gap) (mark:=mark) (T:=T) T [] .nil;have e:=Yi (f:=f) (mark:=mark) hg hG ha h1 (fun p=>(h3 p).trans ⟨fun z=>?_,fun z=>?_⟩)
 ·refine⟨e,?_⟩;rw[e]
  simpa using h2
 ·rcases z with z |⟨d,hd,c,e⟩
  ·cases z
  ·exact⟨d,hp.mem_iff.mpr hd,(Ah hp).mpr c,e⟩
 ·obtain⟨d,hd,c,e⟩:=z;exact .inr ⟨d,hp.mem_iff.mp hd,(Ah hp).mp c,e⟩
theorem rise {gap:Int}{es:List D}(h:es.Pairwise eO)(nd:(es.map (pr gap)).Nodup):es.Pairwise fun a b=>tm a<tm b\/tm a=tm b/\ks a<ks b:=by
 rw[List.Nodup,xcc]at nd;refine(List.Pairwise.and h nd).imp fun {a b} z=>?_;obtain⟨z,n⟩:=z;rcases z with z |⟨e,z⟩
 ·exact .inl z
 ·rcases z with z |⟨k, -⟩
  ·exact .inr ⟨e,z⟩
  ·refine absurd ?_ n;unfold pr;rw[e,Hr k]
theorem Yj {f:Str}{gap mark:Int}{S es:List D}{gs:List (Str×List (List D))}(hg:1<=gap)(hG:Gs gap S gs)(ha:cZ S)(hp:es.Perm (bU f gap mark gs))(h:es.Pairwise eO):es.Pairwise fun a b=>tm a<tm b\/tm a=tm b/\ks a<ks b:=
 rise (gap:=gap) h ((hp.map (pr gap)).nodup_iff.mpr (J3 hg hG ha))
theorem Ie {f:Str}{gap mark:Int}{S T:List D}{gs:List (Str×List (List D))}{e:D}(hf:f="sum"\/f="count"\/f="most"\/f="least")(hg:1<=gap)(hp:S.Perm T)(hG:Gs gap S gs)(ha:cZ S)(he:e∈bU f gap mark gs):
  Tg e/\(tm e + 1 - gap,ky e)∈T.foldl (bG gap mark T) []/\∃is:List Int,is≠ []/\is.length<=S.length/\bk (ky e) (tm e + 1 - gap) gap (tm e + 1 - gap) [] S.reverse=is.map .int/\vl e=lf f is:=by
 have hm:=(J2 hg hG ha (pr gap e)).mp (xaW.mpr ⟨e,he,rfl⟩);obtain⟨g,hgs,c,hc,hm2,rfl⟩:=El he;refine⟨rfl,?_,(c.map vl).reverse,?_,?_,?_,?_⟩
 ·obtain⟨d,hd,cl,e⟩:=hm;exact((xW T [] .nil).2.2 _).mpr (.inr ⟨d,hp.mem_iff.mp hd,(Ah hp).mp cl,e⟩)
 ·have:=(hG.ch g hgs).ne c hc
  simpa using this
 ·have hC:=hG.ch g hgs;obtain⟨a,b,e⟩:=xbw hc;have fl:=congrArg List.length hC.fl;rw[e,xbq,xbl,Z4,Z4]at fl;have:=xck (fun d=>ky d==g.1) S;rw[xcp,xai];omega
 ·show bk g.1 (tm (lastOf c) + gap - 1 + 1 - gap) gap (tm (lastOf c) + gap - 1 + 1 - gap) [] S.reverse=_;rw[show tm (lastOf c) + gap - 1 + 1 - gap=tm (lastOf c) by omega];exact Yh hg hG ha hgs hc
 ·exact MK hf (by have:=(hG.ch g hgs).ne c hc;simpa using this)
variable {M:Mm}
noncomputable def ABC:Str:=Str.ofString "abcdefghijklmnopqrstuvwxyz"
theorem Fg:ABC.length=26:=by x_go
def pX (z:Str):Prop:=∀c∈cd z,97<=c/\c<=122
theorem Fp {i:Int}(h0:0<=i)(h1:i<26):∃c,(97<=c/\c<=122)/\bI ABC.cps.toList i=some c:=by
 have hl:ABC.cps.toList.length=26:=by x_go
 refine⟨_,?_,Fo 0 h0 (by rw[hl];exact h1)⟩;have all:ABC.cps.toList.all (fun c=>decide (97<=c/\c<=122))=true:=by x_go
 have m:ABC.cps.toList.getD i.toNat 0∈ABC.cps.toList:=by
  rw[xax,Z6 (by rw[hl];omega)];exact xaT _
 simpa using xbc.mp all _ m
theorem Ob {c:Nat}(h:97<=c/\c<=122):∃i:Int,wD ABC [.str ⟨#[c]⟩]=some (.int i):=by
 have all:(List.range 26).all (fun j=>match wD ABC [.str ⟨#[97 + j]⟩] with |some (.int _)=>true |_=>false)=true:=by x_go
 have:=xbc.mp all (c - 97) (xda.mpr (by omega));rw[show 97 + (c - 97)=c by omega]at this;split at this
 ·rename_i i e;exact⟨i,e⟩
 ·cases this
theorem WT {x:Str}{j:Int}(h:0<=j/\j<=x.length):cd (Txt.slice x none (some j))=(cd x).take j.toNat:=by
 have:=PyProof.Rows.slice_closes_to (x:=x) (j:=j) ⟨h.1,by show j<=((cd x).length:Int);rw[<-gj];exact h.2⟩;rw[eq_of_beq this];show List.take (j - 0).toNat (List.drop (0:Int).toNat (cd x))=_;rw[Int.sub_zero];rfl
theorem WR {x:Str}{j:Int}(h:0<=j/\j<=x.length):cd (Txt.slice x (some j) none)=(cd x).drop j.toNat:=by
 have:=PyProof.Rows.slice_closes_from (x:=x) (i:=j) ⟨h.1,by show j<=((cd x).length:Int);rw[<-gj];exact h.2⟩;rw[eq_of_beq this];show List.take (((cd x).length:Int) - j).toNat (List.drop j.toNat (cd x))=_;rw[xcf];rw[xci];omega
theorem Pb {w:Str}{c:Nat}(h:pX w)(hc:97<=c/\c<=122):pX (w ++ ⟨#[c]⟩):=fun x hx=>by
 rw[sH,xaq]at hx;rcases hx with hx |hx
 ·exact h x hx
 ·rw[Ag,xal]at hx;rw[hx];exact hc
theorem Ht {w:Str}{c:Nat}:(w ++ ⟨#[c]⟩:Str).length=w.length + 1:=by
 rw[gj,sH,Ag,Z4, <-gj];rfl
theorem X5 {n:Int}{s1:Slot}{w:Str}{p:Nat}(hp:p<=8)(hw:w.length<=100):∃c:Nat,(97<=c/\c<=122)/\xQ [.val (.int n),s1,.val (.str ABC),.val (.str w),.val (.int (0 + (p:Int))),.un,.un] M=some (.nx [.val (.int n),s1,.val (.str ABC),.val (.str (w ++ ⟨#[c]⟩)),.val (.int (0 + (p:Int))),.un,.un],M):=by
 have p0:=xbz (n / (8 + 25 * (p:Int))) (show(26:Int)≠0 by decide);have p1:=xbe (n / (8 + 25 * (p:Int))) (show(0:Int)<26 by decide);obtain⟨c,hc,ec⟩:=Fp p0 p1;refine⟨c,hc,?_⟩;have e:(0:Int) + (p:Int)=(p:Int):=xdw _;rw[e];unfold xQ;z_go;rw[Z7 ⟨by omega,by omega⟩];z_go;rw[Z7 (by rw[Fg];decide),ec];z_go;rw[Z7 (by rw[show(⟨#[c]⟩:Str).length=1 from rfl];omega)];z_go
theorem Om {n:Int}{s1:Slot}{m:Nat}(hm:m<=8):∃(w:Str) (s4:Slot),pX w/\w.length=m/\loopS 4 xQ ((List.range m).map fun(k:Nat)=>D.int (0 + (k:Int))) [.val (.int n),s1,.val (.str ABC),.val (.str (Str.ofString "")),.un,.un,.un] M=some (.nx [.val (.int n),s1,.val (.str ABC),.val (.str w),s4,.un,.un],M):=by
 refine xV (fun o=>∃(w:Str) (s4:Slot),pX w/\w.length=m/\o=some (.nx [.val (.int n),s1,.val (.str ABC),.val (.str w),s4,.un,.un],M)) (fun j env N=>N=M/\∃(w:Str) (s4:Slot),pX w/\w.length=j/\env=[.val (.int n),s1,.val (.str ABC),.val (.str w),s4,.un,.un]) ⟨rfl,_,_,(fun c h=>by rw[show cd (Str.ofString "")=[] by x_go]at h;cases h),by x_go,rfl⟩ ?_ ?_
 ·rintro j d env N hd ⟨rfl,w,s4,hw,hl,rfl⟩;rw[xag]at hd;have hn:j<m:=by
   rcases xas j m with h |h
   ·exact h
   ·rw[xaQ (by rw[xbk];exact h)]at hd;cases hd
  rw[xbp hn]at hd;cases hd;refine⟨by simp,?_⟩;simp only[xaJ,xaI];obtain⟨c,hc,e⟩:=X5 (M:=N) (n:=n) (s1:=s1) (w:=w) (p:=j) (by omega) (by omega);rw[e];exact⟨rfl,_,_,Pb hw hc,by rw[Ht,hl],rfl⟩
 ·rintro env N ⟨rfl,w,s4,hw,hl,rfl⟩;rw[xai,xbk]at hl;exact⟨w,s4,hw,hl,rfl⟩
theorem Oq {n q:Int}:∃z:Str,pX z/\1<=z.length/\z.length<=8/\sZ [.int n,.int q] M=some (.v (.str z),M):=by
 have m0:=xbz n (show(8:Int)≠0 by decide);have m1:=xbe n (show(0:Int)<8 by decide);obtain⟨w,s4,hw,hl,lp⟩:=Om (M:=M) (n:=n) (s1:=.val (.int q)) (m:=(1 + n % 8).toNat) (by omega);have wl:(w.length:Int)=1 + n % 8:=by rw[hl];omega
 have a0:=xbz (n / 8) (show((w.length:Nat):Int)≠0 by omega);have a1:=xbe (n / 8) (show(0:Int)<((w.length:Nat):Int) by omega);generalize ea:n / 8 % ((w.length:Nat):Int)=at_ at a0 a1;have hc:∃c,(97<=c/\c<=122)/\bI w.cps.toList at_=some c:=by
  refine⟨_,?_,Fo 0 a0 (by show at_<((cd w).length:Int);rw[<-gj];exact a1)⟩;refine hw _ ?_;show(cd w).getD at_.toNat 0∈cd w;rw[xax,Z6 (by rw[<-gj];omega)];exact xaT _
 obtain⟨c,hc,ec⟩:=hc;obtain⟨i,ei⟩:=Ob hc;have p0:=xbz (i + q) (show(26:Int)≠0 by decide);have p1:=xbe (i + q) (show(0:Int)<26 by decide);obtain⟨c',hc',ec'⟩:=Fp p0 p1;have t1:=WT (x:=w) (j:=at_) ⟨a0,by omega⟩;have t2:=WR (x:=w) (j:=at_ + 1) ⟨by omega,by omega⟩;have l1:(Txt.slice w none (some at_)).length=at_.toNat:=by rw[gj,t1,xbb, <-gj];omega
 have l2:(Txt.slice w (some (at_ + 1)) none).length=w.length - (at_ + 1).toNat:=by rw[gj,t2,xci, <-gj]
 have l3:(Txt.slice w none (some at_) ++ ⟨#[c']⟩:Str).length=at_.toNat + 1:=by rw[Ht,l1]
 have l4:(Txt.slice w none (some at_) ++ ⟨#[c']⟩ ++ Txt.slice w (some (at_ + 1)) none:Str).length=w.length:=by
  rw[gj,sH,Z4, <-gj, <-gj,l2,l3];omega
 refine⟨Txt.slice w none (some at_) ++ ⟨#[c']⟩ ++ Txt.slice w (some (at_ + 1)) none,fun x hx=>?_,by omega,by omega,?_⟩
 ·rw[sH,xaq,sH,xaq,t1,t2,Ag,xal]at hx;rcases hx with(hx |hx) |hx
  ·exact hw x (xco hx)
  ·rw[hx];exact hc'
  ·exact hw x (List.mem_of_mem_drop hx)
 ·unfold sZ zQ;z_go;rw[Dc (by omega)];z_go;rw[show Str.ofString "abcdefghijklmnopqrstuvwxyz"=ABC from rfl,lp];z_go;rw[Z7 (show w.length<=16777216 by omega)];z_go;rw[Z7 (show(0:Int)<((w.length:Nat):Int) by omega)];z_go;rw[ea]
  try rw[Z7 (show w.length<=16777216 by omega)]
  z_go;rw[ec];z_go;rw[ei];z_go;rw[Z7 (by rw[Fg];decide),ec'];z_go
  try rw[Z7 (show w.length<=16777216 by omega)]
  z_go;rw[Z7 (by rw[l1,show(⟨#[c']⟩:Str).length=1 from rfl];omega)];z_go
  try rw[Z7 (show w.length<=16777216 by omega)]
  z_go;rw[Z7 (by rw[l2,l3];omega)];z_go
theorem Pk {c k:Int}(hk:k.natAbs<18446744073709551616):∃x:Int,0<=x/\x<2147483647/\tB [.int c,.int k] M=some (.v (.int x),M):=by
 have a0:=xbz ((c + 7919 * k + 1) * 48271) (show(2147483647:Int)≠0 by decide);have a1:=xbe ((c + 7919 * k + 1) * 48271) (show(0:Int)<2147483647 by decide);unfold tB zT;z_go;rw[Z7 (.inl (by omega))];z_go;exact⟨_,xbz _ (by decide),xbe _ (by decide),rfl⟩
theorem YL {n:Int}(h0:0<=n)(h1:n<2147483647):∃v:Int,tM [.int n] M=some (.v (.int v),M):=by
 unfold tM zX;z_go
 by_cases h:n % 4=3
 ·simp only[h,xbt];z_go;rw[Z7 (by omega)];z_go;exact⟨_,rfl⟩
 ·simp only[h,xaA];z_go;exact⟨_,rfl⟩
variable {M:Mm}
theorem m5 {ns:List Int}{k:Int}(hk:0<=k):fV [.lst (ns.map .int),.int k] M=some (.v (.int (ns.getD k.toNat 0)),M):=by
 unfold fV zO;z_go
 by_cases h:k<(ns.length:Int)
 ·simp only[h,xbt];z_go;have e:bI (ns.map D.int) k=some (.int (ns.getD k.toNat 0)):=by
   obtain⟨j,rfl⟩:∃j:Nat,k=j:=⟨k.toNat,by omega⟩;refine lH ?_;have:j<ns.length:=by omega
   rw[xag,Z6 this]
   simp[List.getD,this]
  rw[e];z_go
 ·simp only[h,xaA];z_go
  simp[List.getD,xaQ (show ns.length<=k.toNat by omega)]
theorem X_ {ns:List Int}{far:Int}{ds:List D}{k:Nat}{s4 s5:Slot}(hk:k<=10)(hl:ds.length<=100):∃d s4' s5',Tk d/\Bl [.val (.lst (ns.map .int)),.val (.int far),.own ds,.val (.int (0 + (k:Int))),s4,s5] M=some (.nx [.val (.lst (ns.map .int)),.val (.int far),.own (ds ++ [d]),.val (.int (0 + (k:Int))),s4',s5'],M):=by
 have e:(0:Int) + (k:Int)=(k:Int):=xdw _;rw[e];unfold Bl;z_go;have c1:=m5 (M:=M) (ns:=ns) (k:=5 + (k:Int)) (by omega);have c2:=m5 (M:=M) (ns:=ns) (k:=1) (by omega);generalize ns.getD (5 + (k:Int)).toNat 0=v5 at c1;generalize ns.getD (1:Int).toNat 0=v1 at c2;obtain⟨x,x0,x1,ex⟩:=Pk (M:=M) (c:=v5) (k:=(k:Int)) (by omega);obtain⟨z, -, -, -,ez⟩:=Oq (M:=M) (n:=v1 % 1000003) (q:=x / 120 % 3);obtain⟨v,ev⟩:=YL (M:=M) (n:=x / 360) (by omega) (by omega);rw[c1];z_go;rw[ex];z_go;rw[c2];z_go;rw[ez];z_go;rw[Z7 (.inl (by omega))];z_go;rw[ev];z_go;rw[Z7 (by omega)];z_go;exact⟨_,_,_,⟨_,_,_,rfl⟩,rfl⟩
theorem M_ {ns:List Int}{far:Int}:∃T:List D,T.length<=10/\(∀d∈T,Tk d)/\tL [.lst (ns.map .int),.int far] M=some (.v (.lst T),M):=by
 have c0:=m5 (M:=M) (ns:=ns) (k:=0) (by omega);have c1:=m5 (M:=M) (ns:=ns) (k:=1) (by omega);generalize ns.getD (0:Int).toNat 0=a at c0;generalize ns.getD (1:Int).toNat 0=v1 at c1;unfold tL zW;z_go;rw[c0];z_go;have m0:=xbz (a / 3) (show(10:Int)≠0 by decide);have m1:=xbe (a / 3) (show(0:Int)<10 by decide);rw[Dc (by omega)];z_go;refine xV (Q:=fun o=>∃T:List D,T.length<=10/\(∀d∈T,Tk d)/\cT (dB _ o)=some (.v (.lst T),M)) (fun j env N=>N=M/\∃(ds:List D) (s3 s4 s5:Slot),ds.length=j/\(∀d∈ds,Tk d)/\env=[.val (.lst (ns.map .int)),.val (.int far),.own ds,s3,s4,s5]) ⟨rfl,[],_,_,_,rfl,(fun d h=>nomatch h),rfl⟩ ?_ ?_
 ·rintro j d env N hd ⟨rfl,ds,s3,s4,s5,hl,hT,rfl⟩;rw[xag]at hd;have hn:j<(a / 3 % 10).toNat:=by
   rcases xas j (a / 3 % 10).toNat with h |h
   ·exact h
   ·rw[xaQ (by rw[xbk];exact h)]at hd;cases hd
  rw[xbp hn]at hd;cases hd;refine⟨by simp,?_⟩;simp only[xaJ,xaI];obtain⟨d,s4',s5',hd,e⟩:=X_ (M:=N) (ns:=ns) (far:=far) (ds:=ds) (k:=j) (s4:=s4) (s5:=s5) (by omega) (by omega);rw[e];refine⟨rfl,_,_,_,_,by rw[Z4,hl];rfl,fun y hy=>?_,rfl⟩;rcases xaq.mp hy with h |h
  ·exact hT y h
  ·rw[xal.mp h];exact hd
 ·rintro env N ⟨rfl,ds,s3,s4,s5,hl,hT,rfl⟩;rw[xai,xbk]at hl;z_go;rw[c1];z_go
  by_cases h:v1 % 3=2
  ·simp only[h,xbt];z_go;rw[Ls _ (by omega)];simp only[Int.reduceToNat];have tl:(ds.take 1).length<=1:=by rw[xbb];exact Nat.min_le_left _ _
   rw[Z7 (by omega)];z_go;refine⟨_,?_,fun y hy=>?_,rfl⟩
   ·rw[Z4];omega
   ·rcases xaq.mp hy with h |h
    ·exact hT y h
    ·exact hT y (xco h)
  ·simp only[h,xaA];z_go;exact⟨ds,by omega,hT,rfl⟩
theorem M9 {c gap far:Int}(hf:0<far):∃m:Int,tu [.int c,.int gap,.int far] M=some (.v (.int m),M):=by
 unfold tu zR;z_go
 by_cases h:c % 4=0
 ·simp only[h,xbt];z_go;exact⟨_,rfl⟩
 ·simp only[h,xaA];z_go
  by_cases h:c % 4=3
  ·simp only[h,xbt];z_go;rw[Z7 (by omega)];z_go;exact⟨_,rfl⟩
  ·simp only[h,xaA];z_go;rw[Z7 (.inl (by omega))];z_go;exact⟨_,rfl⟩
variable {M:Mm}
theorem Hh {p:Int×Str}{acc:List (Int×Str)}:cJ true (pD p) (.lst (acc.map pD))=some (.bl (!acc.any fun q=>decide (q=p))):=by
 unfold cJ;have h1:fU (pD p)=true:=rfl;have h2:(acc.map pD).all fU=true:=by
  rw[List.all_map];exact xbc.mpr fun q _=>rfl
 show(if fU (pD p)=true/\(acc.map pD).all fU=true then some (D.bl (!(acc.map pD).any fun y=>D.eq y (pD p))) else none)=_
 rw[Z7 ⟨h1,h2⟩,List.any_map];have:((fun y=>D.eq y (pD p)) ∘ pD)=fun q=>decide (q=p):=by
  funext q;exact Rn q p
 rw[this]
theorem Nt {p:Int×Str}{acc:List (Int×Str)}(h:p∉acc):cJ true (pD p) (.lst (acc.map pD))=some (.bl true):=by
 rw[Hh,xb9.mpr fun q hq=>by simpa using fun e:q=p=>h (e ▸ hq)];rfl
theorem Hi {p:Int×Str}{acc:List (Int×Str)}(h:p∈acc):cJ true (pD p) (.lst (acc.map pD))=some (.bl false):=by
 rw[Hh,xcY.mpr ⟨p,h,by simp⟩];rfl
theorem X6 {a0 a3 s9:Slot}{T:List D}{gap mark t v:Int}{z:Str}{acc:List (Int×Str)}(hT:∀d∈T,Tk d)(hl:acc.length<=100):
    u6 [a0,.val (.lst T),.val (.int gap),a3,.val (.int mark),.own (acc.map pD),.val (.int t),.val (.str z),.val (.int v),s9] M=some (.nx [a0,.val (.lst T),.val (.int gap),a3,.val (.int mark),.own ((bG gap mark T acc (.tup [.int t,.str z,.int v])).map pD),.val (.int t),.val (.str z),.val (.int v),s9],M):=by
  have fn:=Mr (M:=M) (t:=t) (gap:=gap) (z:=z) hT;have lm:(acc.map pD).length<=100:=by rw[xai];exact hl
  have in1:∀h:(t,z)∉acc,cJ true (.tup [.int t,.str z]) (.lst (acc.map pD))=some (.bl true):=fun h=>Nt h;have in2:∀h:(t,z)∈acc,cJ true (.tup [.int t,.str z]) (.lst (acc.map pD))=some (.bl false):=fun h=>Hi h
  by_cases hc:T.any (nxt z t gap)=false/\t + gap<=mark/\(t,z)∉acc
  · have e:bG gap mark T acc (.tup [.int t,.str z,.int v])=acc ++ [(t,z)]:=Z7 hc;rw[e,xaB];have i:=in1 hc.2.2;generalize acc.map pD=A at lm i ⊢;unfold u6;z_go;rw[fn,hc.1];z_go;simp only[hc.2.1,xbt];z_go;rw[i];z_go;rw[Z7 (by omega)];z_go;rfl
  · have e:bG gap mark T acc (.tup [.int t,.str z,.int v])=acc:=xaf hc;rw[e];unfold u6
    cases h1:T.any (nxt z t gap) with
    |true=>
      rw[h1]at fn;z_go;rw[fn];z_go
    |false=>
      rw[h1]at fn
      by_cases h2:t + gap<=mark
      · have h3:(t,z)∈acc:=Classical.not_not.mp fun h3=>hc ⟨h1,h2,h3⟩;have i:=in2 h3;generalize acc.map pD=A at lm i ⊢;z_go;rw[fn];z_go;simp only[h2,xbt];z_go;rw[i];z_go
      · z_go;rw[fn];z_go;simp only[h2,xaA];z_go
theorem O_ {gap mark:Int}{T acc}{d:D}:(bG gap mark T acc d).length<=acc.length + 1:=by
 unfold bG
 split
 ·rw[Z4];exact tG _
 ·omega
theorem Hy {a0 a3 s9:Slot}{T:List D}{gap mark:Int}(hT:∀d∈T,Tk d):∀(R:List D) (acc:List (Int×Str)) (s6 s7 s8:Slot),(∀d∈R,Tk d)->acc.length + R.length<=100->∃s6' s7' s8',
    eU [6,7,8] u6 R [a0,.val (.lst T),.val (.int gap),a3,.val (.int mark),.own (acc.map pD),s6,s7,s8,s9] M=some (.nx [a0,.val (.lst T),.val (.int gap),a3,.val (.int mark),.own ((R.foldl (bG gap mark T) acc).map pD),s6',s7',s8',s9],M)
  | [],acc,s6,s7,s8,_,_=>⟨s6,s7,s8,rfl⟩
  |d::R,acc,s6,s7,s8,hR,hl=>by
    obtain⟨t,z,v,rfl⟩:=hR d (by simp);rw[xar]at hl;have ll:=O_ (gap:=gap) (mark:=mark) (T:=T) (acc:=acc) (d:=.tup [.int t,.str z,.int v]);obtain⟨s6',s7',s8',ih⟩:=Hy (a0:=a0) (a3:=a3) (s9:=s9) (gap:=gap) (mark:=mark) hT R (bG gap mark T acc (.tup [.int t,.str z,.int v])) (.val (.int t)) (.val (.str z)) (.val (.int v)) (fun y hy=>hR y (by simp[hy])) (by omega);refine⟨s6',s7',s8',?_⟩;have e:=X6 (M:=M) (a0:=a0) (a3:=a3) (s9:=s9) (T:=T) (gap:=gap) (mark:=mark) (t:=t) (v:=v) (z:=z) (acc:=acc) hT (by omega);have ht:kJ [6,7,8] (.tup [.int t,.str z,.int v]) [a0,.val (.lst T),.val (.int gap),a3,.val (.int mark),.own (acc.map pD),s6,s7,s8,s9]=some [a0,.val (.lst T),.val (.int gap),a3,.val (.int mark),.own (acc.map pD),.val (.int t),.val (.str z),.val (.int v),s9]:=rfl;rw[xbi];simp only[eU,ht,e];exact ih
theorem sl2 {t v:Int}{z:Str}:vZ (.tup [.int t,.str z,.int v]) none (some 2)=some (.tup [.int t,.str z]):=rfl
theorem X8 {T S es:List D}{gap mark t v:Int}{z f:Str}{L:List (Int×Str)}{k:Nat}{is:List Int}{s6 s7 s8:Slot}(hs:fM T=some S)(hS:∀d∈S,Tk d)(hl:S.length<=10)
  (hk:es[k]? =some (.tup [.int t,.str z,.int v])) (hp:0<k->∃t' z' v',es[k - 1]? =some (.tup [.int t',.str z',.int v'])/\kZ [.int t',.str z'] [.int t,.str z]=some false) (hL:(t + 1 - gap,z)∈L) (hb:bk z (t + 1 - gap) gap (t + 1 - gap) [] S.reverse=is.map .int) (hi:is≠ []) (hv:v=lf f is):
  xT [.val (.lst es),.val (.lst T),.val (.int gap),.val (.str f),.val (.int mark),.own (L.map pD),s6,s7,s8,.val (.int (k:Int))] M=some (.nx [.val (.lst es),.val (.lst T),.val (.int gap),.val (.str f),.val (.int mark),.own (L.map pD),.val (.int t),.val (.str z),.val (.int v),.val (.int (k:Int))],M):=by
 have i:cJ true (.tup [.int (t + 1 - gap),.str z]) (.lst (L.map pD))=some (.bl false):=Hi hL;have bk:=f_back (M:=M) (last:=t + 1 - gap) (gap:=gap) (z:=z) hs hS hl;rw[hb]at bk;have lf:=Mp (M:=M) (f:=f) hi;rw[<-hv]at lf;have ak:bI es (k:Int)=some (.tup [.int t,.str z,.int v]):=lH hk;generalize L.map pD=A at i ⊢;have m2:xX [.val (.lst es),.val (.lst T),.val (.int gap),.val (.str f),.val (.int mark),.own A,.val (.int t),.val (.str z),.val (.int v),.val (.int (k:Int))] M=some (.nx [.val (.lst es),.val (.lst T),.val (.int gap),.val (.str f),.val (.int mark),.own A,.val (.int t),.val (.str z),.val (.int v),.val (.int (k:Int))],M):=by
  unfold xX;z_go;rw[bk];z_go;rw[lf];z_go
  try simp only[xbt]
  z_go
 unfold xT;z_go;rw[ak];z_go;unfold Hz;generalize xX=m2' at m2 ⊢
 by_cases h0:0<k
 ·obtain⟨t',z',v',e1,e2⟩:=hp h0;have ak1:bI es ((k:Int) - 1)=some (.tup [.int t',.str z',.int v']):=by
   rw[show(k:Int) - 1=((k - 1:Nat):Int) by omega];exact lH e1
  have g:gq (.tup [.int t',.str z']) (.tup [.int t,.str z])=some (.bl false):=by simp only[gq,e2,xa0]
  z_go;simp only[show(k:Int) > 0 by omega,show(0:Int)<(k:Int) by omega,xbt];z_go;rw[ak1];z_go;rw[sl2];z_go;rw[g];z_go;rw[i];z_go;exact m2
 ·obtain rfl:k=0:=by omega
  z_go;simp only[show ¬ (((0:Nat):Int) > 0) by decide,show ¬ ((0:Int)<((0:Nat):Int)) by decide,xaA];z_go;rw[i];z_go;exact m2
theorem Yx {is:List Nat}{fs:EA}{b:S}{env:E3.Env}{ds:List D}(h:fs env M=some (.v ds,M)):vQ is fs b env M=eU is b ds env M:=by simp only[vQ,h]
theorem Ms {T S es:List D}{gs:List (Str×List (List D))}{gap mark:Int}{f:Str}(hf:f="sum"\/f="count"\/f="most"\/f="least")(hg:1<=gap)(hs:fM T=some S)(hp:S.Perm T)(ho:S.Pairwise eO)(hT:∀d∈T,Tk d)(hl:T.length<=10)(hG:Gs gap S gs)(he:es.Perm (bU f gap mark gs))(hle:es.Pairwise eO):
  tK [.lst es,.lst T,.int gap,.str f,.int mark] M=some (.v (.bl true),M):=by
 have ha:=Bp ho;have hS:∀d∈S,Tk d:=fun d hd=>hT d (hp.mem_iff.mp hd);have sl:S.length<=10:=by rw[hp.length_eq];exact hl
 obtain⟨n1,n2⟩:=Ej (f:=f) (mark:=mark) hg hp hG ha;have rs:=Yj hg hG ha he hle;have ln:es.length=(T.foldl (bG gap mark T) []).length:=by rw[he.length_eq,n1]
 have el:es.length<=10:=by rw[he.length_eq];omega
 obtain⟨s6,s7,s8,lp⟩:=Hy (M:=M) (a0:=.val (.lst es)) (a3:=.val (.str f)) (s9:=.un) (gap:=gap) (mark:=mark) hT T [] .un .un .un hT (by simp;omega);have lp2:∃s6' s7' s8' s9',loopS 9 xT ((List.range es.length).map fun(k:Nat)=>D.int (0 + (k:Int))) [.val (.lst es),.val (.lst T),.val (.int gap),.val (.str f),.val (.int mark),.own ((T.foldl (bG gap mark T) []).map pD),s6,s7,s8,.un] M=some (.nx [.val (.lst es),.val (.lst T),.val (.int gap),.val (.str f),.val (.int mark),.own ((T.foldl (bG gap mark T) []).map pD),s6',s7',s8',s9'],M):=by
  refine xV (fun o=>∃s6' s7' s8' s9',o=some (.nx [.val (.lst es),.val (.lst T),.val (.int gap),.val (.str f),.val (.int mark),.own ((T.foldl (bG gap mark T) []).map pD),s6',s7',s8',s9'],M)) (fun j env N=>N=M/\∃s6' s7' s8' s9',env=[.val (.lst es),.val (.lst T),.val (.int gap),.val (.str f),.val (.int mark),.own ((T.foldl (bG gap mark T) []).map pD),s6',s7',s8',s9']) ⟨rfl,_,_,_,_,rfl⟩ ?_ ?_
  ·rintro j d env N hd ⟨rfl,s6,s7,s8,s9,rfl⟩;rw[xag]at hd;have hn:j<es.length:=by
    rcases xas j es.length with h |h
    ·exact h
    ·rw[xaQ (by rw[xbk];exact h)]at hd;cases hd
   rw [xbp hn] at hd;cases hd;refine ⟨by simp, ?_⟩;simp only [xaJ, xaI];have ek : es[j]? = some es[j] := Z6 hn;obtain ⟨g1, g2, is, i1, i2, i3, i4⟩ := Ie (e := es[j]) hf hg hp hG ha (he.mem_iff.mp (xaT hn));have e := X8 (M := N) (mark := mark) (s6 := s6) (s7 := s7) (s8 := s8) (k := j) (v := vl es[j]) hs hS sl (by rw [ek]; exact congrArg some g1) (fun h0=>by
    have hn1:j - 1<es.length:=by omega
    have h1:=(Ie (e:=es[j - 1]) hf hg hp hG ha (he.mem_iff.mp (xaT hn1))).1;refine⟨tm es[j - 1],ky es[j - 1],vl es[j - 1],by rw[Z6 hn1];exact congrArg some h1,Nb ?_⟩;exact xcN.mp rs (j - 1) j hn1 hn (by omega)) g2 i3 i1 i4
   rw[xdw,e];exact⟨rfl,_,_,_,_,rfl⟩
  ·rintro env N ⟨rfl,s6,s7,s8,s9,rfl⟩;exact⟨s6,s7,s8,s9,rfl⟩
 obtain⟨s6',s7',s8',s9',lp2⟩:=lp2;unfold tK zV;generalize hn1:Br=nx1;z_go;rw[<-hn1];unfold Br;generalize hn2:Bs=nx2;z_go;rw[Yx (ds:=T) (by z_go),show([]:List D)=([]:List (Int×Str)).map pD from rfl,lp];simp only[vN];rw[<-hn2];unfold Bs;generalize hn3:Bt=nx3;z_go;rw[Dc (by omega),xcG];z_go;rw[lp2];z_go;rw[<-hn3];unfold Bt;z_go;rw[<-ln]
 simp
variable {M:Mm}
theorem Yg {d:D}(h:Tk d):Tg d:=by
 obtain⟨t,z,v,rfl⟩:=h;rfl
theorem Gz {n:Nat}:∀l:List D,(∀d∈l,d.dep<=n)->D.deps l<=n
  | [],_=>xaE _
  |d::l,h=>by
    have h1:=h d (by simp);have h2:=Gz l fun x hx=>h x (by simp[hx]);show max d.dep (D.deps l)<=n;omega
theorem LC {T:List D}(h:∀d∈T,Tk d):D.deps T<=1:=Gz T fun d hd=>by
 obtain⟨t,z,v,rfl⟩:=h d hd;exact tG 1
theorem Mv {x:Int}:∃far:Int,0<far/\far<=1000000007/\bI [D.int 1,.int 1,.int 1000000007] (x % 3)=some (.int far):=by
 have h:x % 3=0\/x % 3=1\/x % 3=2:=by omega
 rcases h with h |h |h<;>rw[h]
 ·exact⟨1,by decide,by decide,rfl⟩
 ·exact⟨1,by decide,by decide,rfl⟩
 ·exact⟨1000000007,by decide,by decide,rfl⟩
theorem MN {x:Int}:∃f:Str,(f="sum"\/f="count"\/f="most"\/f="least")/\bI [D.str "sum",.str "count",.str "most",.str "least"] (x % 4)=some (.str f):=by
 have h:x % 4=0\/x % 4=1\/x % 4=2\/x % 4=3:=by omega
 rcases h with h |h |h |h<;>rw[h]
 ·exact⟨_,.inl rfl,rfl⟩
 ·exact⟨_,.inr (.inl rfl),rfl⟩
 ·exact⟨_,.inr (.inr (.inl rfl)),rfl⟩
 ·exact⟨_,.inr (.inr (.inr rfl)),rfl⟩
theorem str_int {gap:Int}(h0:1<=gap)(h1:gap<=100000000000):gZ [.int gap]=some (.str (mJ gap))/\dN [.str (mJ gap)]=some (.int gap):=by
 refine⟨?_,?_⟩
 ·rw[Ca,Z7 (O6 (by omega))];rfl
 ·have hl:(mJ gap).length<=640:=by
   have:=JC (i:=gap) (k:=12) (by decide) (by omega);omega
  rw[BX,Z7 hl,Ny (xab (show gap.natAbs<100000000001 by omega) (by x_go))];rfl
theorem Q8 {a0 a1:Slot}{T S es:List D}{gs:List (Str×List (List D))}{gap mark:Int}{f:Str}(hf:f="sum"\/f="count"\/f="most"\/f="least")(hg:1<=gap)(hs:fM T=some S)(hp:S.Perm T)(ho:S.Pairwise eO)(hT:∀d∈T,Tk d)(hl:T.length<=10)(hG:Gs gap S gs)(he:es.Perm (bU f gap mark gs))(hle:es.Pairwise eO):
  cT (yc [a0,a1,.val (.lst T),.val (.str f),.val (.int gap),.val (.int mark),.val (.lst [.lst T]),.val (.lst es)] M)=some (.v (.bl true),M):=by
 have fr:=Ms (M:=M) hf hg hs hp ho hT hl hG he hle;have dT:=LC hT;unfold yc;z_go;rw[Qe (by show D.deps [.lst T] + 1<=50;show max (D.deps T + 1) 0 + 1<=50;omega)];z_go;rw[fr];z_go
theorem Q7 {a0 a1:Slot}{T S es:List D}{gs:List (Str×List (List D))}{gap mark:Int}{f:Str}(hf:f="sum"\/f="count"\/f="most"\/f="least")(hg:1<=gap)(hs:fM T=some S)(hp:S.Perm T)(ho:S.Pairwise eO)(hT:∀d∈T,Tk d)(hl:T.length<=10)(hG:Gs gap S gs)(he:es.Perm (bU f gap mark gs))(hle:es.Pairwise eO):
  cT (xZ [a0,a1,.val (.lst T),.val (.str f),.val (.int gap),.val (.int mark),.val (.lst [.lst T]),.val (.lst es)] M)=some (.v (.bl true),M):=by
 have q8:=Q8 (M:=M) (a0:=a0) (a1:=a1) hf hg hs hp ho hT hl hG he hle;obtain⟨n1,n2⟩:=Ej (f:=f) (mark:=mark) hg hp hG (Bp ho);have el:es.length<=10:=by rw[he.length_eq];omega
 have cn:fB Ae GK [] es [] M=some ([],M):=by
  rw[Ak (fun _=>none) es [] (fun d hd=>?_) (by rw[xaY,xbP];omega)]
  ·rw[List.filterMap_eq_nil_iff.mpr fun _ _=>rfl];rfl
  ·have tg:=J4 d (he.mem_iff.mp hd);have ft:=Mt (M:=M) (d:=d) ⟨_,_,_,tg⟩;dsimp only;unfold Ae;z_go;rw[ft];z_go
 unfold xZ;generalize yc=nx at q8 ⊢;z_go;rw[show aJ "list" "list"=some true from rfl];z_go;rw[cn];z_go;rw[Qw (by decide)];z_go;exact q8
theorem Oz:∀ns:List Int,ns.length<=63->∃M,j5 [.lst (ns.map D.int)] []=some (.v (.bl true),M):=by
 intro ns hl;have c0:=m5 (M:=[]) (ns:=ns) (k:=0) (by decide);generalize ns.getD (0:Int).toNat 0=v0 at c0;have c2:=m5 (M:=[]) (ns:=ns) (k:=2) (by decide);generalize ns.getD (2:Int).toNat 0=v2 at c2;have c3:=m5 (M:=[]) (ns:=ns) (k:=3) (by decide);generalize ns.getD (3:Int).toNat 0=v3 at c3;have c4:=m5 (M:=[]) (ns:=ns) (k:=4) (by decide);generalize ns.getD (4:Int).toNat 0=v4 at c4;obtain⟨far,f0,f1,ef⟩:=Mv (x:=v0);obtain⟨T,tl,hT,eT⟩:=M_ (M:=[]) (ns:=ns) (far:=far);obtain⟨f,hf,eF⟩:=MN (x:=v2);obtain⟨S,hs,hp,ho⟩:=JN (ds:=T) (fun d hd=>Yg (hT d hd)) (by omega);have hS:∀d∈S,Tk d:=fun d hd=>hT d (hp.mem_iff.mp hd);have sl:S.length<=10:=by rw[hp.length_eq];exact tl
 generalize hgap:(if (1 + v2 / 4 % 16) * far + v3 % 5 - 2 > 1 then(1 + v2 / 4 % 16) * far + v3 % 5 - 2 else 1)=gap
 have g0:1<=gap:=by rw[<-hgap];split<;>omega
 have g1:gap<=100000000000:=by
  have a0:0<=1 + v2 / 4 % 16:=by omega
  have a1:1 + v2 / 4 % 16<=16:=by omega
  have:=Int.mul_le_mul a1 f1 (by omega) (by decide:(0:Int)<=16);rw[<-hgap]
  split<;>omega
 obtain ⟨s1, s2⟩ := str_int g0 g1;obtain ⟨mark, em⟩ := M9 (M := []) (c := v4) (gap := gap) f0;obtain ⟨gs, es, M', hG, he, hle, et⟩ := Mu (M := []) (f := f) (mark := mark) (x1 := .str "g") (x2 := .tup [.str "a"]) s2 hs hS sl (fun hs' hG=>by
  have:=(Ej (f:=f) (mark:=mark) g0 hp hG (Bp ho)).2;omega)
 have q7:=Q7 (M:=M') (a0:=.val (.lst (ns.map .int))) (a1:=.val (.int far)) hf g0 hs hp ho hT tl hG he hle;refine⟨M',?_⟩;unfold j5 G7 wZ;generalize h1:Bu=nx1;z_go;rw[c0];z_go;rw[ef];z_go;rw[<-h1];unfold Bu;generalize h2:Bv=nx2;z_go;rw[eT];z_go;rw[<-h2];unfold Bv;generalize h3:Bw=nx3;z_go;rw[c2];z_go;rw[eF];z_go;rw[<-h3];unfold Bw;generalize h4:Bx=nx4;z_go;rw[c2];z_go;rw[Z7 (.inr (.inl (by omega)))];z_go;rw[c3];z_go;rw[hgap];rw[<-h4];unfold Bx;generalize h5:BJ=nx5;z_go;rw[c4];z_go;rw[em];z_go;rw[<-h5];unfold BJ;generalize h6:BK=nx6;z_go;rw[<-h6];unfold BK;generalize h7:xZ=nx7 at q7 ⊢;z_go;rw[<-Ca,s1];z_go;rw[et];z_go;exact q7
theorem OD {l:PySem.W.OpenLaw}{w:World}{K:Fgx}{mg:Mgx}{C:Ad}{h base:Heap}{f19:Addr}{d19:FuncData}(X:K.In h)(G:h.Ns mainGlobals mg)(T:Txt K mg C w)
  (F0:bA K "first_of" yL)
  (F1:bA K "merged" yO)
  (F2:bA K "folded" yM)
  (F3:bA K "chains" yJ)
  (F4:bA K "gap_of" yN)
  (F5:bA K "closed_chains" yK)
  (F6:bA K "told_in_any_order" yP)
  (F7:bA K "told_of" yQ)
  (F8:bA K "_law_cell_at" yx)
  (F9:bA K "_law_mixed" yF)
  (F10:bA K "_law_key" yD)
  (F11:bA K "_law_value" yI)
  (F12:bA K "_law_things" vV)
  (F13:bA K "_law_mark" yE)
  (F14:bA K "_law_fold" yC)
  (F15:bA K "_law_thing" yH)
  (F16:bA K "_law_next" yG)
  (F17:bA K "_law_back" yw)
  (F18:bA K "_law_right" vU)
  (D19:DefAt K mg "law" kE ["_law_script"] f19 d19)
  :FnOk l.prog w K mg base fO n_ f19 d19 ["_law_script"] (mK K mg 1 j5):=by
 have A0:aZ l.prog w K mg base 1 "first_of" 2 tR:=(F0.ok X G Jq (fun _=>Vs (k:=0) T) :);have A1:aZ l.prog w K mg base 1 "merged" 3 tV:=(F1.ok X G Ju (fun _=>VJ (k:=0) T) :);have A2:aZ l.prog w K mg base 2 "folded" 2 q_:=(F2.ok X G Jr (fun _=>Vt (k:=1) T A0.up A1.up) :);have A3:aZ l.prog w K mg base 1 "chains" 2 tO:=(F3.ok X G Jo (fun _=>Vh (k:=0) T) :);have A4:aZ l.prog w K mg base 1 "gap_of" 1 tU:=(F4.ok X G Js (fun _=>Vw (k:=0) T) :);have A5:aZ l.prog w K mg base 3 "closed_chains" 3 tQ:=(F5.ok X G Jp (fun _=>Vi (k:=2) T A2.up A3.up A4.up) :);have A6:aZ l.prog w K mg base 4 "told_in_any_order" 3 tW:=(F6.ok X G Jv (fun _=>V7 (k:=3) T A5.up) :);have A7:aZ l.prog w K mg base 5 "told_of" 3 tX:=(F7.ok X G Jw (fun _=>V8 (k:=4) T A6.up) :);have A8:aZ l.prog w K mg base 1 "_law_cell_at" 2 fV:=(F8.ok X G Jd (fun _=>UG (k:=0) T) :);have A9:aZ l.prog w K mg base 1 "_law_mixed" 2 tB:=(F9.ok X G Jh (fun _=>U0 (k:=0) T) :);have A10:aZ l.prog w K mg base 1 "_law_key" 2 sZ:=(F10.ok X G Jf (fun _=>UL (k:=0) T) :);have A11:aZ l.prog w K mg base 1 "_law_value" 1 tM:=(F11.ok X G Jm (fun _=>U7 (k:=0) T) :);have A12:aZ l.prog w K mg base 2 "_law_things" 2 tL:=(F12.ok X G Jl (fun _=>U6 (k:=1) T A8.up A9.up A10.up A11.up) :);have A13:aZ l.prog w K mg base 1 "_law_mark" 3 tu:=(F13.ok X G Jg (fun _=>UW (k:=0) T) :);have A14:aZ l.prog w K mg base 1 "_law_fold" 2 sY:=(F14.ok X G Je (fun _=>UJ (k:=0) T) :);have A15:aZ l.prog w K mg base 1 "_law_thing" 1 xJ:=(F15.ok X G Jk (fun _=>U5 (k:=0) T) :);have A16:aZ l.prog w K mg base 1 "_law_next" 4 tD:=(F16.ok X G Ji (fun _=>U3 (k:=0) T) :);have A17:aZ l.prog w K mg base 1 "_law_back" 4 sX:=(F17.ok X G Jc (fun _=>Uz (k:=0) T) :);have A18:aZ l.prog w K mg base 2 "_law_right" 5 tK:=(F18.ok X G Jj (fun _=>U4 (k:=1) T A14.up A16.up A17.up) :);exact GR (b:=wZ) D19.F Jt (by decide) (VD (k:=5) T A7.up A8.up A12.up A13.up A15.up A18.up)
theorem all_mk {l:W.OpenLaw}{w:World}{K:W.Frag}{h:Heap}{mg:Mgx}{fa:Addr}(X:K.In h)(G:h.Ns mainGlobals mg)(hfa:mg "law"=some (.ref fa))
  (j4:W.nsIn K mainGlobals "DamError"=some (some (.ref j6)))
  (j7:W.nsIn K mainGlobals "NoExpr"=some (some (.ref j8)))
  (j9:gK K j6=true)
  (jc:gK K j8=true)
  (jd:Ke K j8=true) (je:W.keepIn K (.ref j8)=true) (jf:zx K j8=true)
  (F0:bA K "first_of" yL)
  (F1:bA K "merged" yO)
  (F2:bA K "folded" yM)
  (F3:bA K "chains" yJ)
  (F4:bA K "gap_of" yN)
  (F5:bA K "closed_chains" yK)
  (F6:bA K "told_in_any_order" yP)
  (F7:bA K "told_of" yQ)
  (F8:bA K "_law_cell_at" yx)
  (F9:bA K "_law_mixed" yF)
  (F10:bA K "_law_key" yD)
  (F11:bA K "_law_value" yI)
  (F12:bA K "_law_things" vV)
  (F13:bA K "_law_mark" yE)
  (F14:bA K "_law_fold" yC)
  (F15:bA K "_law_thing" yH)
  (F16:bA K "_law_next" yG)
  (F17:bA K "_law_back" yw)
  (F18:bA K "_law_right" vU)
  (a19:W.nsIn K mainGlobals "law"=some (some (.ref f19))) (l19:K.lookup f19=some ⟨oc19,od19,.func (W.fnOf "law" "law" (d9 kE) (dw kE) (bx kE) .none kV19 dc19 pm19 an19 cd19 ct19),sl19⟩) (c19:W.codeIn K cd19 "law"=true) (k19:W.keepIn K (.ref f19)=true)
  (jg:W.nsIn K mainGlobals "min"=some none)
  (jh:W.nsIn K mainGlobals "max"=some none)
  (ji:W.nsIn K mainGlobals "int"=some none)
  (jm:W.nsIn K mainGlobals "sorted"=some none)
  (jo:W.nsIn K mainGlobals "len"=some none)
  (jq:W.nsIn K mainGlobals "range"=some none)
  (jr:W.nsIn K mainGlobals "sum"=some none)
  (jt:W.nsIn K mainGlobals "isinstance"=some none)
  (ju:W.nsIn K mainGlobals "bool"=some none)
  (jw:W.nsIn K mainGlobals "str"=some none)
  (jx:W.nsIn K mainGlobals "tuple"=some none)
  (jy:W.nsIn K mainGlobals "reversed"=some none)
  (jz:W.nsIn K mainGlobals "list"=some none)
  (jA:W.nsIn K mainGlobals "ALL_LETTERS"=some (some (.ref jB))) (jC:K.lookup jB=some ⟨.type "tuple",jD,.seq #[.str "t" jE,.str "v" jF,.str "w" jG] jH,jJ⟩)
  (jK:W.nsIn K mainGlobals "NEEDS"=some (some (.ref jL)))
  (jM:K.lookup jL=some ⟨.type "dict",none,.dict #[⟨jN,.str "+" jO,.ref jP⟩,⟨jQ,.str "-" jR,.ref jT⟩,⟨jU,.str "*" jV,.ref jW⟩,⟨jX,.str "least" jY,.ref jZ⟩,⟨qb,.str "most" qe,.ref qg⟩,⟨qj,.str "<" ql,.ref qm⟩,⟨qp,.str "=" qt,.ref qu⟩,⟨qw,.str "not" qx,.ref qy⟩,⟨qz,.str "and" qC,.ref qD⟩,⟨qF,.str "or" qG,.ref qH⟩] qI, #[]⟩) (qJ:(jL==sysModules)=false)
  (qK:jN=hashStr w "+")
  (qL:K.lookup jP=some ⟨.type "tuple",qM,.seq #[.str "number" qN,.str "number" qO,.int 2 qP] qQ,qR⟩)
  (qT:jQ=hashStr w "-")
  (qU:K.lookup jT=some ⟨.type "tuple",qW,.seq #[.str "number" qX,.str "number" qY,.int 2 qZ] o7,o8⟩)
  (o9:jU=hashStr w "*")
  (oh:K.lookup jW=some ⟨.type "tuple",ou,.seq #[.str "number" oA,.str "number" oE,.int 2 oF] oG,oH⟩)
  (oJ:jX=hashStr w "least")
  (oK:K.lookup jZ=some ⟨.type "tuple",oM,.seq #[.str "number" oN,.str "number" oO,.int 2 oR] oU,oV⟩)
  (oW:qb=hashStr w "most")
  (oX:K.lookup qg=some ⟨.type "tuple",oY,.seq #[.str "number" oZ,.str "number" iy,.int 2 iz] iC,iD⟩)
  (iG:qj=hashStr w "<")
  (iH:K.lookup qm=some ⟨.type "tuple",iI,.seq #[.str "truth" iJ,.str "number" iK,.int 2 iM] iQ,iR⟩)
  (iT:qp=hashStr w "=")
  (iU:K.lookup qu=some ⟨.type "tuple",iV,.seq #[.str "truth" iW,.str "number" iY,.int 2 iZ] u9,uc⟩)
  (ud:qw=hashStr w "not")
  (uf:K.lookup qy=some ⟨.type "tuple",ug,.seq #[.str "truth" uh,.str "truth" uo,.int 1 uq] ur,uw⟩)
  (ux:qz=hashStr w "and")
  (uy:K.lookup qD=some ⟨.type "tuple",uz,.seq #[.str "truth" uD,.str "truth" uE,.int 2 uF] uG,uH⟩)
  (uI:qF=hashStr w "or")
  (uJ:K.lookup qH=some ⟨.type "tuple",uK,.seq #[.str "truth" uL,.str "truth" uM,.int 2 uN] uO,uP⟩)
  (uQ:W.nsIn K mainGlobals "FIGURES"=some (some (.str "0123456789" uR)))
  (uT:W.nsIn K mainGlobals "MOST_FIGURES"=some (some (.int 20 uU)))
  (uV:W.nsIn K mainGlobals "MOST_VALUE"=some (some (.int 1000000000000000000000000000000000000000000000000000000000000 uW)))
  (uX:W.nsIn K mainGlobals "LETTERS"=some (some (.str "abcdefghijklmnopqrstuvwxyz" uY)))
  (uZ:W.nsIn K mainGlobals "COND_LETTERS"=some (some (.str "tv" v7)))
  :∃fd:FuncData,(∀(s:Shared) (v:Value),BindsTo s fd ⟨[v],[]⟩ [("_law_script",v)])/\∀base:Heap,K.In base->base.Ns mainGlobals mg->FnOk l.prog w K mg base fO n_ fa fd ["_law_script"] (v9 K j5):=by
 have e:=hfa.symm.trans (xb0 X G a19);cases e;have T:Txt (w:=w) K mg ⟨j6,j8⟩:=⟨by simp only[sG,xah,List.not_mem_nil,or_false,forall_eq_or_imp,forall_eq];exact⟨xaX X G jg,xaX X G jh,xaX X G ji,xaX X G jm,xaX X G jo,xaX X G jq,xaX X G jr,xaX X G jt,xaX X G ju,xaX X G jw,xaX X G jx,xaX X G jy,xaX X G jz⟩,xb0 X G j4,j9,xb0 X G j7,jc,jd,je,jf,⟨_,xb0 X G jA,Hl (vs:=[(.str "t"),(.str "v"),(.str "w")]) (its:= #[.str "t" _,.str "v" _,.str "w" _]) (o:=⟨.type "tuple",_,.seq #[.str "t" _,.str "v" _,.str "w" _] _,_⟩) jC rfl rfl (by show 3<=sizeLine;decide) (.cons ⟨_,rfl⟩ (.cons ⟨_,rfl⟩ (.cons ⟨_,rfl⟩ (.nil)))) (fun _ _=>⟨_,_,rfl,rfl,⟨_,_,rfl,rfl,⟨_,_,rfl,rfl,rfl⟩⟩⟩)⟩,⟨_,xb0 X G jK,_,_,_,_,jM,⟨rfl,rfl,rfl⟩,rfl,.cons (v:=.ref jP) qK rfl (lq qL) (.cons (v:=.ref jT) qT rfl (lq qU) (.cons (v:=.ref jW) o9 rfl (lq oh) (.cons (v:=.ref jZ) oJ rfl (lq oK) (.cons (v:=.ref qg) oW rfl (lq oX) (.cons (v:=.ref qm) iG rfl (lq iH) (.cons (v:=.ref qu) iT rfl (lq iU) (.cons (v:=.ref qy) ud rfl (lq uf) (.cons (v:=.ref qD) ux rfl (lq uy) (.cons (v:=.ref qH) uI rfl (lq uJ) (.nil)))))))))),by x_go,qJ⟩,⟨_,xb0 X G uQ⟩,⟨_,xb0 X G uT⟩,⟨_,xb0 X G uV⟩,⟨_,xb0 X G uX⟩,⟨_,xb0 X G uZ⟩⟩;have D19:DefAt K mg "law" kE ["_law_script"] _ _:=⟨xb0 X G a19,G4 l19 c19 k19,(G5 (st:=kE) l19 c19 k19).binds (ps:=["_law_script"]) fun _ _ _ _ _ _ us hl=>match us,hl with | [_],_=>rfl⟩
 refine⟨W.fnOf "law" "law" (d9 kE) (dw kE) (bx kE) .none kV19 dc19 pm19 an19 cd19 ct19,fun s v=>.of_eq rfl,fun base _ _=>MF ?_⟩;exact OD X G T F0 F1 F2 F3 F4 F5 F6 F7 F8 F9 F10 F11 F12 F13 F14 F15 F16 F17 F18 D19
end My
open PySem PySem.W PyProof.Rows
set_option maxRecDepth 100000 in
set_option maxHeartbeats 0 in
theorem PySem.Challenge.cw_rowdam_k28_gaps_told_holds : PySem.Challenge.rw_rowdam_k28_gaps_told.Holds := by
 w_on;refine HQ.two "special-get-raises" My.he My.hAf My.hBf My.hAt My.hBt ?_
 k_fill
 refine E3.Y0 (l:=PySem.Challenge.rw_rowdam_k28_gaps_told) (k:=My.n_) (g:=My.j5) (x:="_law_script") rfl rfl ⟨rfl,by decide,by decide⟩ (fun w h Y=>by first |exact PySem.W.kIn_of Y |exact PySem.W.km_in_of Y) ?F My.Oz
 case F=>
  intro w mg fa h KX G hmg
  refine' My.all_mk KX G hmg ?j4 ?j7 ?j9 ?jc ?jd ?je ?jf ?F0 ?F1 ?F2 ?F3 ?F4 ?F5 ?F6 ?F7 ?F8 ?F9 ?F10 ?F11 ?F12 ?F13 ?F14 ?F15 ?F16 ?F17 ?F18 ?a19 ?l19 ?c19 ?k19 ?jg ?jh ?ji ?jm ?jo ?jq ?jr ?jt ?ju ?jw ?jx ?jy ?jz ?jA ?jC ?jK ?jM ?qJ ?qK ?qL ?qT ?qU ?o9 ?oh ?oJ ?oK ?oW ?oX ?iG ?iH ?iT ?iU ?ud ?uf ?ux ?uy ?uI ?uJ ?uQ ?uT ?uV ?uX ?uZ
  (case j4 |j7=>k_is);(case j9 |jc |jd=>kernel_rfl);(case je=>k_is);(case jf=>refine E3.Y8 (E3.Y7 ?_ ?_ ?_) ?_ ?_ ?_ ?_ ?_<;>k_is);(case a19 |l19 |c19 |k19 |jg |jh |ji |jm |jo |jq |jr |jt |ju |jw |jx |jy |jz |jA |jC |jK |jM=>k_is);(case qJ=>first |decide +kernel |kernel_rfl);(case qK=>rfl);(case qL=>k_is);(case qT=>rfl);(case qU=>k_is);(case o9=>rfl);(case oh=>k_is);(case oJ=>rfl);(case oK=>k_is);(case oW=>rfl);(case oX=>k_is);(case iG=>rfl);(case iH=>k_is);(case iT=>rfl);(case iU=>k_is);(case ud=>rfl);(case uf=>k_is);(case ux=>rfl);(case uy=>k_is);(case uI=>rfl);(case uJ |uQ |uT |uV |uX |uZ=>k_is);all_goals (refine' E3.bA.mk ?a ?l ?c ?k;(case a=>k_is);(case l=>k_is);(case c=>k_is);(case k=>k_is))
