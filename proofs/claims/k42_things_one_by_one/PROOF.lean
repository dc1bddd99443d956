import PyProof.Rows.All
import Wide.All
import OpenK.AllK
import Wide.FinOn
import Lean
import PyProof.EqAt
import PyProof.EqKinds
import PyProof.TupleCall
import KE.KIsAll
import KE.KMinKey
import KE.KTupSum
import KE.KxSplit
import KE.KxAffix
import KE.KIntText
import PyProof.NeKinds
import PyProof.Rows.EqBoolInt
import KE.KSortTup
import KE.KDictLaws
import KE.KNestM
import PyProof.Conv_int_bool
import PySem.Challenge.RW_rowdam_k42_things_one_by_one
noncomputable section
set_option Elab.async false
set_option linter.all false
set_option compiler.extract_closed false
set_option maxRecDepth 100000
def tG:=@PySem.wpAny_bind
def xaa:=@PySem.Heap.get?_push_of_some
def xab:=@if_pos
def xac:=@Option.map_eq_some_iff
def xad:=@Nat.lt_of_lt_of_le
def xae:=@List.size_toArray
def xaf:=@PySem.wpAny_pure
def xag:=@Nat.le_refl
def xah:=@if_neg
def xai:=@List.getElem?_eq_getElem
def xaj:=@decide_false
def xak:=@List.getElem?_eq_some_iff
def xal:=@Bool.and_eq_true
def xam:=@List.getElem?_map
def xan:=@PySem.Heap.lt_size
def xao:=@List.length_map
def xap:=@List.mem_cons_of_mem
def xaq:=@Bool.false_ne_true
theorem xar:type_of%@List.length_cons:=by intros;rfl
def xas:=@PySem.Heap.get?_push_size
def xat:=@List.length_append
def xau:=@Option.some.inj
def xav:=@Nat.le_trans
def xaw:=@Nat.ne_of_lt
def xax:=@List.mem_of_getElem?
def xay:=@List.mem_append_right
def xaz:=@Int.emod_lt_of_pos
def xaA:=@List.map_cons
def xaB:=@List.getElem?_append_left
def xaC:=@List.getElem?_append_right
def xaD:=@Int.emod_nonneg
def xaE:=@List.append_assoc
def xaF:=@List.mem_cons_self
def xaG:=@List.length_reverse
def xaH:=@Bool.eq_iff_iff
def xaI:=@List.mem_cons
def xaJ:=@PySem.wpAny_newObj_type
def xaK:=@List.reverse_cons
def xaL:=@PySem.W.kia_one
def xaM:=@List.length_set
def xaN:=@decide_eq_true_eq
def xaO:=@Nat.lt_or_ge
def xaP:=@List.pairwise_append
def xaQ:=@decide_eq_false
theorem xaR:type_of%@List.cons_append:=by intros;rfl
def xaS:=@PySem.wpAny_mono
def xaT:=@PySem.mem_of_lookup
def xaU:=@List.getElem?_replicate
def xaV:=@List.append_nil
theorem xaW:type_of%@List.nil_append:=by intros;rfl
def xaX:=@PySem.Obj.data_mapFields
def xaY:=@PySem.sizeLine_eq
def xaZ:=@PySem.Heap.get?_update_other
theorem xa0:type_of%@List.reverse_nil:=by intros;rfl
def xa2:=@List.getElem?_set
def xa3:=@Nat.le_of_lt_succ
def xa4:=@Nat.lt_irrefl
def xa5:=@Nat.le_antisymm
def xa6:=@if_true
def xa7:=@List.all_eq_true
def xa8:=@PySem.W.mg_none_of
def xa9:=@beq_eq_false_iff_ne
theorem xba:type_of%@Option.map_some:=by intros;rfl
def xbb:=@beq_iff_eq
def xbc:=@List.length_replicate
def xbd:=@PySem.wpAny_field
def xbe:=@List.mem_append
theorem xbf:type_of%@Array.length_toList:=by intros;rfl
theorem xbg:type_of%@List.replicate_succ:=by intros;rfl
def xbh:=@PySem.W.mg_of
def xbi:=@List.mem_map
def xbj:=@Array.getElem?_eq_some_iff
def xbk:=@beq_self_eq_true
def xbl:=@PySem.boot_len
def xbm:=@List.nodup_cons
def xbn:=@List.length_range
def xbo:=@Nat.lt_succ_self
theorem xbp:type_of%@List.lookup_cons:=by intros;rfl
def xbq:=@PySem.wpAny_Call_Name_kw
def xbr:=@PySem.W.callWith_K
def xbs:=@Ne.symm
def xbt:=@PySem.W.methodCall_KW
theorem xbu:type_of%@List.length_singleton:=by intros;rfl
theorem xbv:type_of%@List.all_cons:=by intros;rfl
def xbw:=@PySem.wpAny_truthy_bool
theorem xbx:type_of%@List.flatten_cons:=by intros;rfl
def xby:=@List.getElem?_set_ne
def xbz:=@List.drop_eq_getElem_cons
def xbA:=@decide_true
def xbB:=@decide_eq_true
def xbC:=@PySem.codeAny_mono
theorem xbD:type_of%@List.filterMap_cons:=by intros;rfl
def xbE:=@PySem.W.plainGet_of
def xbF:=@PyProof.Rows.slot_tuple_getitem
def xbG:=@PySem.wpAny_getItem_str_slice
theorem xbH:type_of%@List.any_cons:=by intros;rfl
theorem xbI:type_of%@List.find?_cons:=by intros;rfl
def xbJ:=@Bool.or_eq_true
def xbK:=@List.mem_singleton
def xbL:=@Bool.false_eq_true
def xbM:=@PySem.PassesOwn.never
def xbN:=@List.getElem?_set_self
def xbO:=@Nat.le_succ
def xbP:=@if_false
def xbQ:=@of_decide_eq_true
def xbR:=@List.mem_range
def xbS:=@PySem.Heap.size_push
def xbT:=@List.map_nil
def xbU:=@PySem.wpAny_setField
def xbV:=@PySem.Obj.isFreed_of_fields
def xbW:=@PySem.Heap.get?_update_self
def xbX:=@PySem.builtinLookup_eq_fast
def xbY:=@PyProof.Rows.callWith_type1
def xbZ:=@List.length_take
def xb0:=@List.length_drop
def xb1:=@PyProof.Rows.boot_min
def xb2:=@Nat.pow_le_pow_right
def xb3:=@PySem.F.excBase_ValueError
def xb4:=@PySem.strLen_append
def xb5:=@PySem.wpAny_of_eq
def xb6:=@PySem.wpAny_passesOwn
def xb7:=@List.of_mem_zip
theorem xb8:type_of%@List.foldl_cons:=by intros;rfl
def xb9:=@List.cons.injEq
def xca:=@Nat.le_of_lt
theorem xcb:type_of%@Option.isSome_some:=by intros;rfl
def xcc:=@PySem.W.callWith_F
theorem xcd:type_of%@List.set_cons_zero:=by intros;rfl
theorem xce:type_of%@List.set_cons_succ:=by intros;rfl
def xcf:=@PySem.wpAny_callSpecial?_slot
def xcg:=@PySem.F.plainAttrs_list
theorem xch:type_of%@List.getElem?_cons_succ:=by intros;rfl
def xci:=@Nat.zero_le
def xcj:=@PySem.W.cellsFrom_some
def xck:=@PySem.wpAny_standAt
def xcl:=@PySem.wpAny_execs_cons
def xcm:=@PySem.wpAny_call_entry
def xcn:=@List.drop_length
def xco:=@List.map_reverse
def xcp:=@PySem.codeAny_call_function
def xcq:=@List.getElem?_eq_none
def xcr:=@List.map_append
def xcs:=@PySem.Heap.get?_none_of_le
def xct:=@List.mem_append_left
def xcu:=@Nat.le_of_eq
def xcv:=@PySem.SeqAt.EqAt.same
def xcw:=@PySem.wpAny_specialOf
def xcx:=@PySem.post_val_or_str
def xcy:=@PySem.typeLookup_type
def xcz:=@Bool.and_eq_true_iff
def xcA:=@PySem.Heap.SameBut.update
def xcB:=@Bool.and_false
def xcC:=@PySem.isSubtype_type
def xcD:=@PySem.SeqAt.EqAt.int_str
def xcE:=@PySem.SeqAt.EqAt.str_int
def xcF:=@PyProof.Rows.slot_tuple_getitem
def xcG:=@PySem.wpAny_newTextTuple
theorem xcH:type_of%@Option.isSome_none:=by intros;rfl
def xcI:=@PySem.Calls.Name_function_global
def xcJ:=@PySem.wpAny_newFunctionEnv_cells
def xcK:=@PySem.wpAny_holding
def xcL:=@Bool.and_self
def xcM:=@PySem.W.kitx_list
def xcN:=@PySem.W.kitx_dict
def xcO:=@Bool.not_eq_true'
def xcP:=@Option.some.injEq
def xcQ:=@PySem.wpAny_call
def xcR:=@List.mem_or_eq_of_mem_set
def xcS:=@PyProof.Rows.boot_tuple
def xcT:=@Nat.ne_of_gt
def xcU:=@List.getElem?_take_of_lt
def xcV:=@PySem.Txt.slice_le
def xcW:=@List.getElem_mem
def xcX:=@PySem.SeqAt.RcAt.lists_lengths
def xcY:=@PySem.F.slot_list_append
def xcZ:=@PySem.F.type_list_append
def xc1:=@List.eq_of_mem_replicate
def xc2:=@List.not_mem_nil
def xc3:=@Option.bind_eq_some_iff
def xc4:=@Nat.not_lt_zero
theorem xc5:type_of%@Option.map_none:=by intros;rfl
def xc6:=@Array.getElem?_toList
def xc7:=@List.mem_iff_getElem?
def xc8:=@List.dropLast_eq_take
theorem xc9:type_of%@List.tail_cons:=by intros;rfl
def xda:=@List.take_append_drop
theorem xdb:type_of%@PySem.typeIs_str:=by intros;rfl
def xdc:=@PySem.call_meets
def xdd:=@Nat.not_le
def xde:=@Prod.mk.injEq
def xdf:=@Bool.and_true
def xdh:=@PySem.wpAny_attempt
def xdi:=@List.getElem?_range
def xdj:=@List.map_eq_nil_iff
def xdk:=@Int.toNat_of_nonneg
def xdl:=@List.takeWhile_cons
def xdm:=@Nat.add_le_add_left
def xdn:=@PySem.W.codeHd_of_K
def xdo:=@Array.append_assoc
def xdp:=@List.mem_filterMap
def xdq:=@Array.find?_toList
def xdr:=@PySem.W.kitx_tuple
def xds:=@PySem.W.codeRec_of
def xdt:=@Nat.min_self
def xdu:=@Nat.lt_of_le_of_lt
theorem xdv:type_of%@List.zip_cons_cons:=by intros;rfl
def xdw:=@of_decide_eq_false
def xdx:=@List.take_sublist
theorem xdy:type_of%@Int.toNat_natCast:=by intros;rfl
def xdz:=@eq_false
abbrev Fgx:=PySem.W.Frag
abbrev Mgx:=PySem.Str->Option PySem.Value
abbrev Pnx:=List (PySem.Addr×PySem.Obj)
local macro_rules | `(tactic| x_go)=> `(tactic| decide +kernel)
namespace HQ
open PySem PySem.W PySem.Calls PyProof.Rows
noncomputable def Vu {α:Type} (t:BT):(BT->α)->α:= @BT.rec (fun _=>(BT->α)->α) (fun k=>k .nil) (fun v _ _ a b k=>a fun l=>b fun r=>k (.node v l r)) t
theorem N5 {α:Type}:∀(t:BT) (k:BT->α),Vu t k=k t
 |.nil,_=>rfl
 |.node _ l r,_=>(N5 l _).trans (N5 r _)
noncomputable def vm {α:Type} (n:Nat) (k:Nat->α):α:= @Nat.rec (fun _=>α) (k 0) (fun n _=>k (Nat.succ n)) n
theorem Vv {α:Type}(n:Nat)(k:Nat->α):vm n k=k n:=by cases n<;>rfl
def frs {α:Type}(s:SharedT)(k:SharedT->α):α:= @SharedT.rec (fun _=>α) (fun T n l g d i o=>Vu T fun T=>vm n fun n=>vm i fun i=>k ⟨T,n,l,g,d,i,o⟩) s
theorem zfT {α:Type}(s:SharedT)(k:SharedT->α):frs s k=k s:=(N5 _ _).trans ((Vv _ _).trans (Vv _ _))
abbrev qd:Code->Sem Fin:=Fast.tw11892475500146522536 Fast.tw14364793385576792824
noncomputable def Sy (p:Program) (w:World):SharedT->Thread->Option (SharedT×Thread)
  |⟨T,n,l,g,d,i,o⟩,⟨c,cd,q,fs⟩=>match c with
    |.load .. |.update .. |.alloc .. |.loadIfAlive .. =>Fast.tw10156331382660048174 qd p w ⟨T,n,l,g,d,i,o⟩ ⟨c,cd,q,fs⟩
    |c=>match Fast.tw8437177126325714943 qd p w ⟨{},g,d,i,o⟩ ⟨c,cd,q,fs⟩ with
      |.go ⟨_,g,d,i,o⟩ t=>some (⟨T,n,l,g,d,i,o⟩,t)
      |.halt _ _=>none
theorem zfh {p:Program}{w:World}(s:SharedT)(t:Thread):Sy p w s t=stepT (denote treeTable) p w s t:=by
 obtain⟨T,n,l,g,d,i,o⟩:=s;obtain⟨c,cd,q,fs⟩:=t;rw[show denote treeTable=qd by unfold qd;rw[<-Fast.te11892475500146522536, <-Fast.te14364793385576792824]];cases c<;>(unfold Sy;dsimp only;first |rw[<-Fast.te10156331382660048174] |(unfold stepT;dsimp only;rw[<-Fast.te8437177126325714943];cases step qd p w _ _<;>rfl))
abbrev OS:=Option SharedT
noncomputable def bd (p:Program) (w:World) (n:Nat) (ih:SharedT->Thread->OS) (s:SharedT) (t:Thread):OS:=
 @Bool.rec (fun _=>OS) (@Bool.rec (fun _=>OS) none (@Option.rec _ (fun _=>OS) none (fun r=> @Prod.rec _ _ (fun _=>OS) (fun s t=> @Bool.rec (fun _=>OS) (ih s t) (frs s fun s=>ih s t) (Nat.beq (n % 64) 0)) r) (Sy p w s t)) (Fast.tw6613529449190102663 11 (some (.ref 6)) t)) (some s) (through t)
noncomputable def go (p:Program) (w:World) (n:Nat):SharedT->Thread->OS:= @Nat.rec (fun _=>SharedT->Thread->OS) (fun _ _=>none) (bd p w) n
theorem CK {p:Program}{w:World}:∀{n:Nat} {s s':SharedT} {t:Thread},go p w n s t=some s'->topRun treeTable p w 11 (some (.ref 6)) n s.abs t=some s'.abs
  |0,_,_,_,h=>by cases h
  |n + 1,s,s',t,h=>by
    rw[show go p w (n + 1) s t=bd p w n (go p w n) s t from rfl]at h;unfold bd at h;rw[zfh, <-Fast.te6613529449190102663]at h;unfold topRun
    cases ht:through t with
    |true=>rw[ht]at h;cases h;rfl
    |false=>
      rw[ht]at h
      cases hk:stepOk 11 (some (.ref 6)) t with
      |false=>rw[hk]at h;cases h
      |true=>
        rw[hk]at h
        cases hs:stepT (denote treeTable) p w s t with
        |none=>rw[hs]at h;cases h
        |some r=>
          obtain⟨s₂,t₂⟩:=r;rw[hs]at h;dsimp only at h ⊢;rw[stepT_spec hs];rw[zfT]at h;exact CK (by revert h;cases Nat.beq (n % 64) 0<;>exact id)
noncomputable def mkT:List Obj->Nat->BT->BT
 | [],_,t=>t
 |o::l,i,t=>mkT l (i + 1) (t.ins i o)
noncomputable def bS (w:World) (o:OsState):SharedT:=⟨mkT (boot_heap w.params).objs.toList 0 .nil,11,{},⟨[]⟩,boot_drawn,boot_toks,o⟩
theorem zgx (w:World)(o:OsState):(bS w o).abs=⟨boot_heap w.params,⟨[]⟩,boot_drawn,boot_toks,o⟩:=by kernel_rfl
theorem zgn (P:Params):((boot_heap P).isNs mainGlobals && (Array.mk []:Array GenState).size==0,(boot_heap P).objs.size,(boot_heap P).nsMap mainGlobals "__annotations__")=(true,11,some (.ref 6)):=by kernel_rfl
noncomputable def lst {α:Type} (T:BT) (n:Nat):List Obj->(List Obj->α)->α:=
 @Nat.rec (fun _=>List Obj->(List Obj->α)->α) (fun a k=>k a) (fun i ih a k=> @Option.rec Obj (fun _=>α) (ih (default::a) k) (fun o=> @Obj.rec (fun _=>α) (fun c d t l=>ih (⟨c,d,t,l⟩::a) k) o) (T.get i)) n
theorem Wl {α:Type}(T:BT):∀(n:Nat) (a:List Obj) (k:List Obj->α),lst T n a k=k (T.list n ++ a)
  |0,_,_=>rfl
  |n + 1,a,k=>by
    rw[show T.list (n + 1)=T.list n ++ [(T.get n).getD default] by unfold BT.list;rw[List.range_succ,xcr];rfl,xaE];unfold lst;dsimp only;cases T.get n<;>exact Wl T n _ k
noncomputable def Ui {α:Type} (s:SharedT) (k:Shared->α):α:= @SharedT.rec (fun _=>α) (fun T n l g d i o=>lst T n [] fun a=>k ⟨⟨⟨a⟩,l⟩,g,d,i,o⟩) s
theorem Uj {α:Type}(s:SharedT)(k:Shared->α):Ui s k=k s.abs:=(Wl _ _ _ _).trans (by rw[xaV];rfl)
section
variable {p q:Program}{lo:List Str}{Xt:Shared->Bool}{α:Type}{Yf:Shared->α}{Ya:World->α}{N:Nat}{g0:Bool}{B C:Prop}
abbrev Pre (_:LeftO p q lo Xt Yf Ya N g0/\B->C):Prop:=(opening p=plainProg p.main.scope.names/\∀s,fenceModules? p s=some s)/\Nat.ble 600 N=true
abbrev See {β:Type}(p:Program)(N:Nat)(v:World->World)(f:World->Shared->β)(y:World->β):Prop:=∀w o,(go p (v w) N (bS (v w) o) (topStub p)).map (fun s=>Ui s (f (v w)))=some (y (v w))
abbrev sJ (v:World->World)(_:LeftO p q lo Xt Yf Ya N g0/\B->C):Prop:=
 See p N v (fun w s=>(staticsOk (importedModules p.main.body) (boot_heap w.params) s.heap && namesBound p s.heap && gensDone s && laidKept (boot_heap w.params) s.heap,Yf s)) fun w=>(true,Ya w)
abbrev sO (v:World->World)(_:LeftO p q lo Xt Yf Ya N g0/\B->C):Prop:=See p N v (fun _ s=>Fast.tw4187177175401517315 q lo (importedModules p.main.body) Xt g0 s) fun _=>openGood q lo
theorem left {v:World->World}{H:LeftO p q lo Xt Yf Ya N g0/\B->C}(e:Pre H)(a:sJ v H)(b:sO v H)(w:World):
  (openEnds treeTable p (v w) N).map (fun s=>(openSeen q lo (importedModules p.main.body) Xt g0 s,Yf s))=some (openGood q lo,Ya (v w)):=by
 obtain⟨⟨h,gs,d,k,o⟩,e1,e2⟩:=xac.mp (boot_open e.1.1 e.2 e.1.2 (v w));obtain⟨rfl,rfl,rfl,rfl⟩:h=boot_heap (v w).params/\gs=⟨[]⟩/\d=boot_drawn/\k=boot_toks:=by simpa using e2
 obtain⟨s,hs,hv⟩:=xac.mp (a w o);have hb:=b w o;rw[hs,xba,Uj, <-Fast.te4187177175401517315]at hb;rw[Uj]at hv;obtain⟨l1,l3⟩:=Prod.mk.inj hv;obtain⟨z1,z2,z3⟩:_/\_/\_:=by simpa only[xde] using zgn (v w).params
 have hr:=CK hs;rw[zgx]at hr;have t:topFrom treeTable p (v w) N ⟨boot_heap (v w).params,⟨[]⟩,boot_drawn,boot_toks,o⟩=some s.abs:=by
  unfold topFrom;dsimp only;rw[z1,z2,z3,hr];dsimp only[Option.bind_some];rw[l1]
 unfold openEnds;rw[e1,Option.bind_some,t];exact congrArg some (Prod.ext (xau hb) l3)
theorem two (row:String){H:LeftO p q lo Xt Yf Ya N g0/\B->C}(e:Pre H)(a:sJ (·.withFollow row false) H)(b:sO (·.withFollow row false) H)(c:sJ (·.withFollow row true) H)(d:sO (·.withFollow row true) H)(hB:B):C:=
 H ⟨fun w=>by
  have x:=left e a b w;have y:=left e c d w;have z:=World.withFollow_self w row;cases h:w.params.followText row<;>rw[h]at z<;>simp only[z]at x y<;>assumption,hB⟩
end
end HQ
section
local macro_rules
  | `(tactic| refine $f:term $as:term*)=>do
    let mut bs:= #[]
    let mut hit:=false
    for a in as do
      if a.raw.isOfKind ``Lean.Parser.Term.syntheticHole && a.raw[1].getId== `hl then
        hit:=true
        bs:=bs.push (<- `((And.left ?hx)))
      else if a.raw.isOfKind ``Lean.Parser.Term.syntheticHole && a.raw[1].getId== `hc then
        bs:=bs.push (<- `((And.right ?hx)))
      else bs:=bs.push a
    if hit then `(tactic| refine $f $bs*) else Lean.Macro.throwUnsupported
set_option maxHeartbeats 0 in
open_top My.hdAll for PySem.Challenge.rw_rowdam_k42_things_one_by_one
theorem My.he:HQ.Pre My.hdAll:=⟨⟨by kernel_rfl,fun _=>by kernel_rfl⟩,by kernel_rfl⟩
theorem My.hBf:HQ.sO (·.withFollow "special-get-raises" false) My.hdAll:=fun _ _=>by kernel_rfl
theorem My.hBt:HQ.sO (·.withFollow "special-get-raises" true) My.hdAll:=fun _ _=>by kernel_rfl
theorem My.hAf:HQ.sJ (·.withFollow "special-get-raises" false) My.hdAll:=fun _ _=>by kernel_rfl
theorem My.hAt:HQ.sJ (·.withFollow "special-get-raises" true) My.hdAll:=fun _ _=>by kernel_rfl
end
namespace L2
open PySem PySem.Spec PyProof.Rows
abbrev Key:=Sum Int Str
noncomputable def CQ:Key->Value->Bool
 |.inl k,v=>Value.isInt k v
 |.inr x,v=>Value.isStrOf x v
def Oo (w:World):Key->Int
 |.inl k=>hashInt k
 |.inr x=>hashStr w x
theorem wV:∀{k:Key} {v:Value},CQ k v=true->(∃i t,k=Sum.inl i/\v=Value.int i t)\/(∃x t,k=Sum.inr x/\v=Value.str x t)
  |.inl i,v,h=>by
    obtain⟨t,e⟩:=Value.isInt_shape (k:=i) (v:=v) h;exact .inl ⟨i,t,rfl,e⟩
  |.inr x,v,h=>by
    obtain⟨t,e⟩:=Value.isStrOf_shape (x:=x) (v:=v) h;exact .inr ⟨x,t,rfl,e⟩
theorem zcH (i:Int)(t:Tok):CQ (.inl i) (.int i t)=true:=by simp[CQ,Value.isInt]
theorem zcN (x:Str)(t:Tok):CQ (.inr x) (.str x t)=true:=by simp[CQ,Value.isStrOf]
theorem zgB (a b:Int):decide ((Sum.inl a:Key)=Sum.inl b)=(a==b):=by
 by_cases e:a=b
 ·subst e;simp
 ·have h:¬ (Sum.inl a:Key)=Sum.inl b:=fun q=>e (Sum.inl.inj q);rw[xaQ h];exact(xa9.mpr e).symm
theorem zg0 (a b:Str):decide ((Sum.inr a:Key)=Sum.inr b)=decide (a=b):=by
 by_cases e:a=b
 ·subst e;simp
 ·have h:¬ (Sum.inr a:Key)=Sum.inr b:=fun q=>e (Sum.inr.inj q);rw[xaQ h,xaQ e]
theorem zf5 (a:Int)(b:Str):decide ((Sum.inl a:Key)=Sum.inr b)=false:=xaQ (fun q=>nomatch q)
theorem zgR (a:Str)(b:Int):decide ((Sum.inr a:Key)=Sum.inl b)=false:=xaQ (fun q=>nomatch q)
noncomputable def wg (prog:Program) (w:World):PySem.KeyKind prog w Key where
 is:=CQ
 hash:=Oo w
 inj:=fun v a b ha hb=>by
  rcases wV ha with⟨i,t,rfl,rfl⟩ |⟨x,t,rfl,rfl⟩
  ·rcases wV hb with⟨j,u,rfl,e⟩ |⟨y,u,rfl,e⟩
   ·injection e with e1 _;rw[e1]
   ·exact nomatch e
  ·rcases wV hb with⟨j,u,rfl,e⟩ |⟨y,u,rfl,e⟩
   ·exact nomatch e
   ·injection e with e1 _;rw[e1]
 byValue:=fun k v h=>by
  rcases wV h with⟨i,t,rfl,rfl⟩ |⟨x,t,rfl,rfl⟩<;>rfl
 pyHash:=fun hv h=>by
  rcases wV hv with⟨i,t,rfl,rfl⟩ |⟨x,t,rfl,rfl⟩
  ·exact wpAny_pyHash_int h
  ·exact wpAny_pyHash_str h
 eqBool:=fun hu hv h=>by
  rcases wV hu with⟨i,t,rfl,rfl⟩ |⟨x,t,rfl,rfl⟩
  ·rcases wV hv with⟨j,u,rfl,rfl⟩ |⟨y,u,rfl,rfl⟩
   ·rw[zgB]at h;exact wpAny_eqBool_int h
   ·rw[zf5]at h;exact xcD i t y u _ _ _ _ h
  ·rcases wV hv with⟨j,u,rfl,rfl⟩ |⟨y,u,rfl,rfl⟩
   ·rw[zgR]at h;exact xcE x t j u _ _ _ _ h
   ·rw[zg0]at h;exact wpAny_eqBool_str h
 «strs» :=fun k x t v h=>by
  rcases wV h with⟨i,u,rfl,e⟩ |⟨y,u,rfl,e⟩
  ·exact nomatch e
  ·injection e with e1 _
   subst e1;cases v<;>rfl
theorem zbS (prog:Program)(w:World)(i:Int)(t:Tok):(wg prog w).is (.inl i) (.int i t)=true:=zcH i t
theorem OD (prog:Program)(w:World)(x:Str)(t:Tok):(wg prog w).is (.inr x) (.str x t)=true:=zcN x t
inductive V where
 |non |bl (b:Bool) |int (i:Int) |str (x:Str) |byt (b:Array UInt8) |flt (b:UInt64) |ref (a:Addr) |ty (n:String)
 deriving DecidableEq
noncomputable def RelV:V->Value->Prop
 |.non,u=>u=Value.none
 |.bl b,u=>u=Value.bool b
 |.int i,u=>∃t,u=Value.int i t
 |.str x,u=>∃t,u=Value.str x t
 |.byt b,u=>∃t,u=Value.bytes b t
 |.flt b,u=>∃t,u=Value.float b t
 |.ref a,u=>u=Value.ref a
 |.ty n,u=>u=Value.type n
abbrev Vals:List V->List Value->Prop:=Paired RelV
theorem Vals.length (r:Vals xs us):xs.length=us.length:=Paired.length r
theorem Vals.get:∀{xs:List V} {us:List Value} {i:Nat} {x:V},Vals xs us->xs[i]? =some x->∃u,us[i]? =some u/\RelV x u
  |_,_,_,_,.nil,e=>by simp at e
  |_,_,0,_,.cons r _,e=>by simp at e;subst e;exact⟨_,rfl,r⟩
  |_,_,i + 1,x,.cons _ t,e=>by
    obtain⟨u,h1,h2⟩:=Vals.get (i:=i) (x:=x) t (by simpa using e);exact⟨u,by simpa using h1,h2⟩
theorem Vals.append:∀{xs ys:List V} {us ws:List Value},Vals xs us->Vals ys ws->Vals (xs ++ ys) (us ++ ws)
 |_,_,_,_,.nil,s=>s
 |_,_,_,_,.cons r t,s=>.cons r (Vals.append t s)
theorem Vals.take:∀{xs:List V} {us:List Value} (n:Nat),Vals xs us->Vals (xs.take n) (us.take n)
 |_,_,0,_=>.nil
 |_,_,_ + 1,.nil=>.nil
 |_,_,n + 1,.cons r t=>.cons r (Vals.take n t)
theorem Vals.drop:∀{xs:List V} {us:List Value} (n:Nat),Vals xs us->Vals (xs.drop n) (us.drop n)
 |_,_,0,r=>r
 |_,_,_ + 1,.nil=>.nil
 |_,_,n + 1,.cons _ t=>Vals.drop n t
noncomputable def kO:Option V->Option Value->Prop
 |some v,some u=>RelV v u
 |none,none=>True
 |_,_=>False
def KV {κ:Type}:List (κ×V)->List (κ×Value)->Prop:=Paired fun(p:κ×V) (q:κ×Value)=>p.1=q.1/\RelV p.2 q.2
def kV:Key->V
 |.inl i=>.int i
 |.inr x=>.str x
inductive HO where
  |lst (xs:List V)
  |tup (xs:List V)
  |dK (kvs:List (Key×V)) |dT (kvs:List (List Key×V))
  |set (S:Int->Bool) (n:Nat)
  |ins (C dx:Addr) (fs:List (Str×V))
  |own (x:Addr)
  |xd (fs:List (Str×V))
  |met (f x:Addr)
  |rng (lo hi:Int)
  |frz (o:Obj) (u:HO)
  |tbl (ps:Array Value)
  |ext (φ:Heap->Prop)
abbrev Hp:=Addr->Option HO
noncomputable def upd (H:Hp) (a:Addr) (o:HO):Hp:=fun b=>if b=a then some o else H b
theorem fP:upd H a o a=some o:=by unfold upd;rw[xab rfl]
theorem dD (h:b≠a):upd H a o b=H b:=by unfold upd;rw[xah h]
theorem zer:upd (upd H a o) a u=upd H a u:=by
 funext b;unfold upd;split<;>rfl
theorem pR {H:Hp}{a b:Addr}{o:HO}(h:H a=some o)(h':H b=none):a≠b:=by
 intro e;subst e;rw[h]at h';cases h'
section
variable (P:Program)(w:World)
noncomputable def iu (H:Hp) (h:Heap) (a:Addr):HO->Prop
 |.lst xs=>xs.length<=sizeLine/\∃(its:List Value) (n:Nat),Vals xs its/\h.get? a=some {cls:=.type "list",data:=.seq its.toArray n}
 |.tup xs=>xs.length<=sizeLine/\∃its:List Value,Vals xs its/\IsTup h a its.toArray
 |.dK kvs=>kvs.length<=sizeLine/\(a==sysModules)=false/\∃vs,KV kvs vs/\h.DictOf (wg P w) a vs
 |.dT kvs=>kvs.length<=sizeLine/\(a==sysModules)=false/\∃xs:List (List Key×Addr×Value),
   Paired (fun(p:List Key×V) (q:List Key×Addr×Value)=>p.1=q.1/\H q.2.1=some (.tup (p.1.map kV))/\RelV p.2 q.2.2) kvs xs/\
   ∃o es ep,h.get? a=some o/\o.ExactDict/\o.data=.dict es ep/\es.toList=xs.map (entryOfKey (tupleKind (wg P w)))/\(xs.map (·.1)).Nodup
 |.set S n=>h.SetOf (intKind P w) a S n
 |.ins C dx fs=>H dx=some (.own a)/\fs.length<=1000/\dx≠a/\h.get? a=some (PySem.W.instObj C dx)/\
   ∃mA,h.Ns1 dx mA/\(∀f,kO (fs.lookup f) (mA f))/\PySem.Within mA (fs.map (·.1))
 |.own _=>∃o,h.get? a=some o
 |.xd fs=>∃mA,h.Ns1 a mA/\∀f,kO (fs.lookup f) (mA f)
 |.rng lo hi=>∃t u v,h.get? a=some {cls:=.type "range",data:=.fields #[.int lo t,.int hi u,.int 1 v]}
 |.frz o u=>h.get? a=some o/\iu H h a u
 |.tbl ps=>h.get? a=some {cls:=.none,data:=.fields ps}
 |.met f x=>h.get? a=some (PySem.W.methodObj (.ref f) (.ref x))
 |.ext φ=>φ h/\(∃o,h.get? a=some o)/\∀h1 h2:Heap,φ h1->(∀o,h1.get? a=some o->h2.get? a=some o)->φ h2
def gh (H:Hp)(h:Heap):Prop:=∀a o,H a=some o->iu P w H h a o
end
section
variable {P:Program}{w:World}{H H':Hp}{h h':Heap}{a:Addr}{o:HO}
theorem iu.lt (x:iu P w H h a o):a<h.objs.size:=by
 cases o with
 |lst xs=>obtain⟨_,_,_,_,e⟩:=x;exact xan e
 |tup xs=>obtain⟨_,_,_,p⟩:=x;exact p.lt
 |dK kvs=>obtain⟨_,_,_,_,o,_,_,e,_⟩:=x;exact xan e
 |dT kvs=>obtain⟨_,_,_,_,o,_,_,e,_⟩:=x;exact xan e
 |set S n=>obtain⟨o,_,_,_,e,_⟩:=x;exact xan e
 |ins C dx fs=>obtain⟨_,_,_,e,_⟩:=x;exact xan e
 |own y=>obtain⟨_,e⟩:=x;exact xan e
 |xd fs=>obtain⟨_,⟨_,_,_,e,_⟩,_⟩:=x;exact xan e
 |rng lo hi=>obtain⟨_,_,_,e⟩:=x;exact xan e
 |frz ob u=>obtain⟨e,_⟩:=x;exact xan e
 |tbl ps=>exact xan (show h.get? a=some _ from x)
 |met f y=>exact xan (show h.get? a=some _ from x)
 |ext φ=>obtain⟨_,⟨_,e⟩,_⟩:=x;exact xan e
theorem Paired.mapP:∀{l₁:List α} {l₂:List β},Paired F l₁ l₂->(∀a b,F a b->G a b)->Paired G l₁ l₂
 |_,_,.nil,_=>.nil
 |_,_,.cons r t,f=>.cons (f _ _ r) (Paired.mapP t f)
theorem iu.stay (x:iu P w H h a o)(k:∀b u,(b=a\/H b=some (.own a))->h.get? b=some u->h'.get? b=some u)
    (ho:∀b,H b=some (.own a)->H' b=some (.own a)) (ht:∀b xs,H b=some (.tup xs)->H' b=some (.tup xs)):iu P w H' h' a o:=by
  induction o with
  |lst xs=>obtain⟨z,its,n,r,e⟩:=x;exact⟨z,its,n,r,k _ _ (.inl rfl) e⟩
  |tup xs=>obtain⟨z,its,r,ob,e,c⟩:=x;exact⟨z,its,r,ob,k _ _ (.inl rfl) e,c⟩
  |dK kvs=>obtain⟨z,y,vs,r,ob,es,ep,e,c⟩:=x;exact⟨z,y,vs,r,ob,es,ep,k _ _ (.inl rfl) e,c⟩
  |dT kvs=>
    obtain⟨z,y,xs,r,ob,es,ep,e,c⟩:=x;exact⟨z,y,xs,Paired.mapP r fun p q z=>⟨z.1,ht _ _ z.2.1,z.2.2⟩,ob,es,ep,k _ _ (.inl rfl) e,c⟩
  |set S n=>obtain⟨ob,es,ep,t,e,c⟩:=x;exact⟨ob,es,ep,t,k _ _ (.inl rfl) e,c⟩
  |ins C dx fs=>
    obtain⟨d,z,ne,e,mA,⟨od,es,ep,e2,c⟩,r⟩:=x;exact⟨ho _ d,z,ne,k _ _ (.inl rfl) e,mA,⟨od,es,ep,k _ _ (.inr d) e2,c⟩,r⟩
  |own y=>obtain⟨ob,e⟩:=x;exact⟨ob,k _ _ (.inl rfl) e⟩
  |xd fs=>obtain⟨mA,⟨od,es,ep,e,c⟩,r⟩:=x;exact⟨mA,⟨od,es,ep,k _ _ (.inl rfl) e,c⟩,r⟩
  |rng lo hi=>obtain⟨t,u,v,e⟩:=x;exact⟨t,u,v,k _ _ (.inl rfl) e⟩
  |frz ob u ih=>obtain⟨e,q⟩:=x;exact⟨k _ _ (.inl rfl) e,ih q⟩
  |tbl ps=>
    have e:h.get? a=some {cls:=.none,data:=.fields ps}:=x;show h'.get? a=some {cls:=.none,data:=.fields ps};exact k a _ (.inl rfl) e
  |met f y=>
    have e:h.get? a=some (PySem.W.methodObj (.ref f) (.ref y)):=x;show h'.get? a=some (PySem.W.methodObj (.ref f) (.ref y));exact k a _ (.inl rfl) e
  |ext φ=>obtain⟨p,⟨o,e⟩,st⟩:=x;exact⟨st _ _ p fun o q=>k _ _ (.inl rfl) q,⟨o,k _ _ (.inl rfl) e⟩,st⟩
theorem gh.lt (x:gh P w H h)(e:H a=some o):a<h.objs.size:=(x a o e).lt
theorem gh.fresh (x:gh P w H h)(e:h.objs.size<=a):H a=none:=by
 cases q:H a with
 |none=>rfl
 |some u=>exact absurd (xad (x.lt q) e) (xa4 _)
theorem gh.kept (x:gh P w H h)(k:∀b u,h.get? b=some u->h'.get? b=some u):gh P w H h':=fun a o e=>
 (x a o e).stay (fun b u _ q=>k b u q) (fun _ q=>q) fun _ _ q=>q
theorem gh.laid (x:gh P w H h)(k:∀b u,h.get? b=some u->h'.get? b=some u)(hp:h.objs.size<=a)(new:iu P w (upd H a o) h' a o):gh P w (upd H a o) h':=fun b u e=>by
 have hn:=x.fresh hp
 by_cases hb:b=a
 ·subst hb;rw[fP]at e;cases e;exact new
 ·rw[dD hb]at e;exact(x b u e).stay (fun c v _ q=>k c v q) (fun c q=>by rw[dD (pR q hn)];exact q) fun c xs q=>by rw[dD (pR q hn)];exact q
end
def Rd (H:Hp)(a:Addr)(u:HO):Prop:=H a=some u\/∃o,H a=some (.frz o u)
theorem Rd.ok (r:Rd H a u)(x:gh P w H h):iu P w H h a u:=by
 rcases r with r |⟨o,r⟩
 ·exact x a u r
 ·obtain⟨_,q⟩:=x a _ r;exact q
noncomputable def Ho:Option HO->Prop
 |some (.lst _)=>True
 |some (.dK _)=>True
 |some (.dT _)=>True
 |some (.set _ _)=>True
 |some (.ins _ _ _)=>True
 |some (.ext _)=>True
 |_=>False
section
variable {P:Program}{w:World}{H:Hp}{h h':Heap}{x e:Addr}{o':HO}
theorem gh.write (ok:gh P w H h)(mu:Ho (H x))(he:e=x\/H e=some (.own x))(k:∀b u,b≠e->h.get? b=some u->h'.get? b=some u)(heo:∃u,h'.get? e=some u)
  (new:iu P w (upd H x o') h' x o'):gh P w (upd H x o') h':=fun b u q=>by
 have nown:∀c y,H c=some (.own y)->c≠x:=fun c y r z=>by subst z;rw[r]at mu;exact mu
 have ntup:∀c xs,H c=some (.tup xs)->c≠x:=fun c xs r z=>by subst z;rw[r]at mu;exact mu
 by_cases hb:b=x
 ·subst hb;rw[fP]at q;cases q;exact new
 ·rw[dD hb]at q
  by_cases hbe:b=e
  ·have q':H b=some (.own x):=by
    rcases he with z |z
    ·exact absurd (hbe.trans z) hb
    ·rw[hbe];exact z
   rw[q]at q';cases q';obtain⟨v,hv⟩:=heo;exact⟨v,by rw[hbe];exact hv⟩
  ·refine(ok b u q).stay (fun c v hc r=>k c v ?_ r) (fun c r=>by rw[dD (nown c b r)];exact r) fun c xs r=>by rw[dD (ntup c xs r)];exact r
   rcases hc with rfl |hc
   ·exact hbe
   ·rintro rfl;rcases he with z |z
    ·exact nown c b hc z
    ·rw[hc]at z;cases z;exact hb rfl
end
structure Un (fs ex:List Addr)(H H':Hp)(h h':Heap):Prop where
 keep:∀b o,h.get? b=some o->H b=none->b∉fs->b∉ex->h'.get? b=some o
 slot:∀b o,h.get? b=some o->H b=none->b∈fs->b∉ex->∃sl,h'.get? b=some {o with slots:=sl}
 free:∀b o,h.get? b=some o->H b=none->b∉ex->H' b=none
 there:∀b o,h.get? b=some o->b∉ex->∃o',h'.get? b=some o'
 tups:∀b xs,H b=some (.tup xs)->H' b=some (.tup xs)
 frzs:∀b o u,H b=some (.frz o u)->H' b=some (.frz o u)
 tbls:∀b ps,H b=some (.tbl ps)->∃more,H' b=some (.tbl (ps ++ more))
section
variable {fs fs' ex ex':List Addr}{H H1 H2:Hp}{h h1 h2 h':Heap}{a x e:Addr}{o:HO}
theorem Un.any (u:Un fs ex H H1 h h1)(q:h.get? b=some ob)(n:H b=none)(hx:b∉ex):∃sl,h1.get? b=some {ob with slots:=sl}:=by
 by_cases hb:b∈fs
 ·exact u.slot b ob q n hb hx
 ·exact⟨ob.slots,u.keep b ob q n hb hx⟩
theorem Un.trans (a:Un fs ex H H1 h h1)(b:Un fs ex H1 H2 h1 h2):Un fs ex H H2 h h2 where
 keep:=fun c ob q n hc hx=>b.keep c ob (a.keep c ob q n hc hx) (a.free c ob q n hx) hc hx
 slot:=fun c ob q n hc hx=>by
  obtain⟨sl,e1⟩:=a.slot c ob q n hc hx;obtain⟨sl',e2⟩:=b.slot c _ e1 (a.free c ob q n hx) hc hx;exact⟨sl',e2⟩
 free:=fun c ob q n hx=>by
  obtain⟨o',e1⟩:=a.there c ob q hx;exact b.free c o' e1 (a.free c ob q n hx) hx
 there:=fun c ob q hx=>by
  obtain⟨o',e1⟩:=a.there c ob q hx;exact b.there c o' e1 hx
 tups:=fun c xs q=>b.tups c xs (a.tups c xs q)
 frzs:=fun c ob xs q=>b.frzs c ob xs (a.frzs c ob xs q)
 tbls:=fun c ps q=>by
  obtain⟨m1,e1⟩:=a.tbls c ps q;obtain⟨m2,e2⟩:=b.tbls c _ e1;exact⟨m1 ++ m2,by rw[e2,xdo]⟩
theorem Un.kept (k:∀b u,h.get? b=some u->h'.get? b=some u):Un fs ex H H h h':=
 ⟨fun b ob q _ _ _=>k b ob q,fun b ob q _ _ _=>⟨ob.slots,k b ob q⟩,fun _ _ _ n _=>n,fun b ob q _=>⟨ob,k b ob q⟩,fun _ _ q=>q,fun _ _ _ q=>q,fun _ ps q=>⟨#[],by rw[q];simp⟩⟩
theorem Un.refl:Un fs ex H H h h:=Un.kept fun _ _ q=>q
theorem Un.laid (k:∀b u,h.get? b=some u->h'.get? b=some u)(hp:h.objs.size<=a)(hn:H a=none):Un fs ex H (upd H a o) h h' where
 keep:=fun b u q _ _ _=>k b u q
 slot:=fun b u q _ _ _=>⟨u.slots,k b u q⟩
 free:=fun b u q n _=>by rw[dD (xaw (xad (xan q) hp))];exact n
 there:=fun b u q _=>⟨u,k b u q⟩
 tups:=fun b xs q=>by rw[dD (pR q hn)];exact q
 frzs:=fun b u xs q=>by rw[dD (pR q hn)];exact q
 tbls:=fun b ps q=>⟨#[],by rw[dD (pR q hn),q];simp⟩
theorem Un.write (mu:Ho (H x))(he:e=x\/H e=some (.own x))(k:∀b u,b≠e->h.get? b=some u->h'.get? b=some u)(heo:∃u,h'.get? e=some u):Un fs ex H (upd H x o) h h':=by
 have hx:∀b,H b=none->b≠x:=fun b n z=>by subst z;rw[n]at mu;exact mu
 have hb:∀b,H b=none->b≠e:=fun b n z=>by
  subst z;rcases he with r |r
  ·exact hx b n r
  ·rw[n]at r;cases r
 have hm:∀b u,H b=some u->¬ Ho (some u)->b≠x:=fun b u q nm z=>by subst z;rw[q]at mu;exact nm mu
 refine ⟨fun b u q n _ _=>k b u (hb b n) q,fun b u q n _ _=>⟨u.slots,k b u (hb b n) q⟩,fun b u q n _=>by rw[dD (hx b n)];exact n,fun b u q _=>?_,
  fun b xs q=>by rw[dD (hm b _ q fun z=>z)];exact q,fun b u xs q=>by rw[dD (hm b _ q fun z=>z)];exact q,fun b ps q=>⟨#[],by rw[dD (hm b _ q fun z=>z),q];simp⟩⟩
 by_cases hbe:b=e
 ·subst hbe;exact heo
 ·exact⟨u,k b u hbe q⟩
theorem Un.mono (u:Un fs ex H H1 h h1)(hs:∀b∈fs,b∈fs')(hx:∀b∈ex,b∈ex'):Un fs' ex' H H1 h h1:=
 ⟨fun b ob q n hb he=>u.keep b ob q n (fun z=>hb (hs b z)) fun z=>he (hx b z),fun _ _ q n _ he=>u.any q n fun z=>he (hx _ z),fun b ob q n he=>u.free b ob q n fun z=>he (hx b z),fun b ob q he=>u.there b ob q fun z=>he (hx b z),u.tups,u.frzs,u.tbls⟩
end
noncomputable def K5 (h:Heap) (H:Hp):List Addr:=(List.range h.objs.size).filter fun a=>(H a).isSome
def kY (h:Heap)(H:Hp):Heap:=PySem.W.hideAll h (K5 h H)
theorem zcB (h:Heap)(H:Hp):(kY h H).objs.size=h.objs.size:=PySem.W.hideAll_size _ _
theorem zc4 (e:h.get? b=some o)(n:H b=none):(kY h H).get? b=some o:=
 PySem.W.hideAll_get _ e fun hm=>by
  have q:(H b).isSome=true:=(List.mem_filter.mp hm).2;rw[n]at q;simp at q
theorem zeK (e:(kY h H).get? b=some o):h.get? b=some o/\H b=none:=by
  have e':h.get? b=some o:=PySem.W.of_hideAll (K5 h H) e;refine⟨e',?_⟩
  cases q:H b with
  |none=>rfl
  |some x=>
    have hm:b∈K5 h H:=List.mem_filter.mpr ⟨xbR.mpr (xan e'),by simp[q]⟩;have z:(kY h H).get? b=none:=PySem.W.hideAll_none (K5 h H) hm;rw[z]at e;cases e
structure Mod (K:Fgx)(mg:Mgx)(base:Heap):Prop where
 kin:K.In base
 glob:base.Ns mainGlobals mg
 blt:∃mb,base.Ns builtinsNs mb/\∀x:Str,x≠"__name__"->mb x=bootBuiltins x
 nolimit:base.NoLimit
structure Cx where
 prog:Program
 w:World
 K:Fgx
 mg:Mgx
 base:Heap
 A:Around
 N:List Str
 s₀:Shared
 H₀:Hp
 env:Env
 outer:List Env
 stack:List Env
 ex:List Addr
 fn:Str->Bool
 calm:Bool
 pn:Pnx
 xe:Value->Shared->Prop
def frs (l:List Env):List Addr:=l.filterMap (·.frame)
abbrev Cx.fs (X:Cx):List Addr:=frs X.outer
def Du (sc:Scope)(x:Str):Prop:=sc.names.lookup x=some .local\/sc.names.lookup x=some .cell\/sc.names.lookup x=some .free
def Loc (sc:Scope)(x:Str):Prop:=sc.names.lookup x=some .local\/sc.names.lookup x=some .cell
def Look (env:Env)(h:Heap)(m:Mgx)(x:Str)(u:Value):Prop:=
 (env.kindOf x=some .local/\m x=some u)\/((env.kindOf x=some .cell\/env.kindOf x=some .free)/\∃c,env.cells.lookup x=some c/\h.IsCell c (some u))
structure Cx.Ok (X:Cx):Prop where
 mod:Mod X.K X.mg X.base
 kind:X.env.scope.kind=.function
 glob:X.env.globals=mainGlobals
 blt:X.env.builtins=builtinsNs
 above:X.s₀.heap.objs.size<=X.env.locals
 inj:∀x y c,X.env.cells.lookup x=some c->X.env.cells.lookup y=some c->x=y
 has:∀x,(X.env.kindOf x=some .cell\/X.env.kindOf x=some .free)->∃c,X.env.cells.lookup x=some c
 cab:∀x c,X.fn x=true->X.env.cells.lookup x=some c->X.s₀.heap.objs.size<=c
 hd:X.calm=true->X.A.handled=none
 frames:X.A.frames=some X.stack
 stk:X.stack=X.outer\/(X.stack=X.env::X.outer/\X.env.frame=some X.env.locals)
 exf:∀b∈X.ex,b≠X.env.locals/\∀x c,X.env.cells.lookup x=some c->c≠b
 bs:∀b o,X.base.get? b=some o->X.s₀.heap.get? b=some o/\X.H₀ b=none
 bsz:X.base.objs.size<=X.s₀.heap.objs.size
 noex:∀b o,X.base.get? b=some o->b∉X.ex
 exfs:∀b∈X.ex,b∉X.fs
 funs:X.s₀.heap.FunFrames X.base X.outer
 frf:∀b∈X.fs,X.H₀ b=none
structure Inv (X:Cx)(pins:Pnx)(σ:List (Option V))(H:Hp)(s:Shared):Prop where
 ok:X.Ok
 os:s.os=X.s₀.os
 bare:AllBare s.gens
 base:Un X.fs X.ex X.H₀ H X.s₀.heap s.heap
 loc:∃m,s.heap.Ns X.env.locals m/\∀(i:Nat) (x:Str) (v:V),X.N[i]? =some x->σ[i]? =some (some v)->Du X.env.scope x->∃u,RelV v u/\Look X.env s.heap m x u
 cell:∀x c,X.env.cells.lookup x=some c->∃v,s.heap.IsCell c v
 free:H X.env.locals=none
 freeC:∀x c,X.env.cells.lookup x=some c->H c=none\/(X.fn x=false/\∃o u,H c=some (.frz o u))
 pin:∀p∈X.pn ++ pins,s.heap.get? p.1=some p.2/\H p.1=none/\p.1≠X.env.locals/\p.1∉X.fs/\∀v,p.2.data≠ .cell v
 hok:gh X.prog X.w H s.heap
 len:σ.length=X.N.length
section
variable {X:Cx}{pins:Pnx}{σ:List (Option V)}{H H':Hp}{s:Shared}{h':Heap}
theorem Cx.Ok.nofr (ok:X.Ok)(e:X.base.get? b=some o):b∉X.fs:=fun hb=>by
 have:=(ok.funs.mem hb).1;rw[e]at this;cases this
theorem Inv.bs (I:Inv X pins σ H s):∀b o,X.base.get? b=some o->s.heap.get? b=some o/\H b=none:=fun b o e=>
 ⟨I.base.keep b o (I.ok.bs b o e).1 (I.ok.bs b o e).2 (I.ok.nofr e) (I.ok.noex b o e),I.base.free b o (I.ok.bs b o e).1 (I.ok.bs b o e).2 (I.ok.noex b o e)⟩
theorem Inv.bk (I:Inv X pins σ H s):∀b o,X.base.get? b=some o->s.heap.get? b=some o:=fun b o e=>(I.bs b o e).1
theorem Inv.mod (I:Inv X pins σ H s):Mod X.K X.mg X.base:=I.ok.mod
theorem Inv.kIn (I:Inv X pins σ H s):X.K.In s.heap:=I.ok.mod.kin.keeps I.bk
theorem Inv.lt (I:Inv X pins σ H s):X.env.locals<s.heap.objs.size:=let ⟨_,hn,_⟩:=I.loc;hn.lt
theorem Inv.sz (I:Inv X pins σ H s):X.s₀.heap.objs.size<=s.heap.objs.size:=xav I.ok.above (xca I.lt)
theorem Inv.nofs (I:Inv X pins σ H s)(h:s.heap.objs.size<=a):a∉X.fs:=fun hb=>by
 obtain⟨_,o,ho,_⟩:=I.ok.funs.mem hb;exact absurd (xad (xan ho) (xav I.sz h)) (xa4 _)
theorem Inv.eN (I:Inv X pins σ H s):∀x c,X.env.cells.lookup x=some c->c≠X.env.locals:=fun x c e z=>by
 obtain⟨v,o,ho,hd⟩:=I.cell x c e;obtain⟨m,⟨o',es,ep,ho',hd',_⟩,_⟩:=I.loc;rw[z,ho']at ho;cases ho;rw[hd']at hd;cases hd
theorem Inv.funs (I:Inv X pins σ H s):s.heap.FunFrames X.base X.outer:=by
  have all:∀(l:List Env),(∀b∈frs l,b∈X.fs)->X.s₀.heap.FunFrames X.base l->s.heap.FunFrames X.base l:=by
    intro l
    induction l with
    |nil=>intro _ _;trivial
    |cons env r ih=>
      intro hs hl;obtain⟨hk,⟨L,o,hf,hn,ho,hd⟩,hr⟩:=hl;have hL:L∈X.fs:=hs L (by unfold frs;rw[xbD,hf];exact xaF);obtain⟨sl,e⟩:=I.base.slot L o ho (I.ok.frf L hL) hL fun z=>I.ok.exfs L z hL;exact⟨hk,⟨L,_,hf,hn,e,hd⟩,ih (fun b hb=>hs b (by unfold frs;rw[xbD,hf];exact xap _ hb)) hr⟩
  exact all X.outer (fun _ hb=>hb) I.ok.funs
theorem Inv.stack (I:Inv X pins σ H s):s.heap.FunFrames X.base X.stack:=by
 rcases I.ok.stk with e |⟨e,hf⟩
 ·rw[e];exact I.funs
 ·rw[e];obtain⟨m,hn,_⟩:=I.loc;refine .cons (by rw[I.ok.kind];decide) hf hn ?_ I.funs;exact xcs (xav I.ok.bsz I.ok.above)
theorem Inv.stkSub (I:Inv X pins σ H s):∀b∈frs X.stack,b∈X.env.locals::X.fs:=fun b hb=>by
 rcases I.ok.stk with e |⟨e,hf⟩
 ·rw[e]at hb;exact xap _ hb
 ·rw[e]at hb;unfold frs at hb;rw[xbD,hf]at hb;exact hb
theorem Inv.stkFree (I:Inv X pins σ H s):∀b∈frs X.stack,H b=none:=fun b hb=>by
 rcases xaI.mp (I.stkSub b hb) with e |hb
 ·rw[e];exact I.free
 ·obtain⟨_,o,ho,_⟩:=I.ok.funs.mem hb;exact I.base.free b o ho (I.ok.frf b hb) fun z=>I.ok.exfs b z hb
theorem Inv.step {g':Array GenState}{t':Nat}{d':Drawn}{ch:List Addr}(I:Inv X pins σ H s)
  (hch:∀b∈ch,(b∈X.ex\/X.s₀.heap.objs.size<=b)/\b≠X.env.locals/\(∀x c,X.env.cells.lookup x=some c->c≠b)/\∀p∈X.pn ++ pins,p.1≠b)
  (keep:∀b o,b≠X.env.locals->b∉X.fs->b∉ch->s.heap.get? b=some o->H b=none->h'.get? b=some o)
  (slot:∀b o,b≠X.env.locals->b∈X.fs->b∉ch->s.heap.get? b=some o->H b=none->∃sl,h'.get? b=some {o with slots:=sl}) (free:∀b o,b∉ch->s.heap.get? b=some o->H b=none->H' b=none)
  (there:∀b o,b∉ch->s.heap.get? b=some o->∃o',h'.get? b=some o')
  (tups:∀b xs,H b=some (.tup xs)->H' b=some (.tup xs)) (frzs:∀b o u,H b=some (.frz o u)->H' b=some (.frz o u)) (tbls:∀b ps,H b=some (.tbl ps)->∃more,H' b=some (.tbl (ps ++ more)))
  (ns:∀m,s.heap.Ns X.env.locals m->h'.Ns X.env.locals m) (hok:gh X.prog X.w H' h') (hg:AllBare g'):
  Inv X pins σ H' {s with heap:=h',gens:=g',drawn:=d',toks:=t'}:=by
 have neL:∀b o,X.s₀.heap.get? b=some o->b≠X.env.locals:=fun b o e=>xaw (xad (xan e) I.ok.above);have neC:∀b o,X.s₀.heap.get? b=some o->b∉X.ex->b∉ch:=fun b o e hx hb=>by
  rcases(hch b hb).1 with z |z
  ·exact hx z
  ·exact absurd (xad (xan e) z) (xa4 _)
 have cellK:∀x c,X.env.cells.lookup x=some c->∀v,s.heap.IsCell c v->h'.IsCell c v:=fun x c e v ⟨o,ho,hd⟩=>by
  have nch:c∉ch:=fun z=>(hch c z).2.2.1 x c e rfl;rcases I.freeC x c e with fc |⟨_,o',u',fc⟩
  ·by_cases hc:c∈X.fs
   ·obtain⟨sl,q⟩:=slot c o (I.eN x c e) hc nch ho fc;exact⟨_,q,hd⟩
   ·exact⟨o,keep c o (I.eN x c e) hc nch ho fc,hd⟩
  ·obtain⟨e1,_⟩:=I.hok c _ fc;obtain⟨e2,_⟩:=hok c _ (frzs c _ _ fc);rw[ho]at e1;cases e1;exact⟨o,e2,hd⟩
 refine⟨I.ok,I.os,hg,⟨fun b o e n hb hx=>?_,fun b o e n hb hx=>?_,fun b o e n hx=>?_,fun b o e hx=>?_,fun b xs e=>tups b xs (I.base.tups b xs e),fun b o xs e=>frzs b o xs (I.base.frzs b o xs e),fun b ps e=>?_⟩,?_,fun x c e=>?_,?_,fun x c e=>?_,fun p hp=>?_,hok,I.len⟩
 ·exact keep b o (neL b o e) hb (neC b o e hx) (I.base.keep b o e n hb hx) (I.base.free b o e n hx)
 ·obtain⟨sl,e1⟩:=I.base.slot b o e n hb hx;obtain⟨sl',e2⟩:=slot b _ (neL b o e) hb (neC b o e hx) e1 (I.base.free b o e n hx);exact⟨sl',e2⟩
 ·obtain⟨o',e1⟩:=I.base.there b o e hx;exact free b o' (neC b o e hx) e1 (I.base.free b o e n hx)
 ·obtain⟨o',e1⟩:=I.base.there b o e hx;exact there b o' (neC b o e hx) e1
 ·obtain⟨m1,e1⟩:=I.base.tbls b ps e;obtain⟨m2,e2⟩:=tbls b _ e1;exact⟨m1 ++ m2,by rw[e2,xdo]⟩
 ·obtain⟨m,hn,hl⟩:=I.loc;refine⟨m,ns m hn,fun i x v e1 e2 e3=>?_⟩;obtain⟨u,r,l⟩:=hl i x v e1 e2 e3;refine⟨u,r,?_⟩;rcases l with l |⟨k,c,e,z⟩
  ·exact .inl l
  ·exact .inr ⟨k,c,e,cellK x c e _ z⟩
 ·obtain⟨v,z⟩:=I.cell x c e;exact⟨v,cellK x c e v z⟩
 ·obtain⟨m,⟨o,_,_,ho,_⟩,_⟩:=I.loc;exact free _ o (fun z=>(hch _ z).2.1 rfl) ho I.free
 ·obtain⟨v,o,ho,hd⟩:=I.cell x c e;rcases I.freeC x c e with fc |⟨fn,o',u',fc⟩
  ·exact .inl (free c o (fun z=>(hch c z).2.2.1 x c e rfl) ho fc)
  ·exact .inr ⟨fn,o',u',frzs c _ _ fc⟩
 ·obtain⟨e,n,ne,nf,d⟩:=I.pin p hp;have nch:p.1∉ch:=fun z=>(hch p.1 z).2.2.2 p hp rfl;exact⟨keep p.1 p.2 ne nf nch e n,free p.1 p.2 nch e n,ne,nf,d⟩
theorem Inv.un {t':Nat}(I:Inv X pins σ H s)(u:Un X.fs [] H H' s.heap h')(hok:gh X.prog X.w H' h'):Inv X pins σ H' {s with heap:=h',toks:=t'}:=by
 obtain ⟨m, ⟨o, es, ep, ho, r⟩, _⟩ := id I.loc;obtain ⟨sl, hL⟩ := u.any ho I.free (by simp);exact I.step (g' := s.gens) (d' := s.drawn) (ch := []) (fun _ z => nomatch z) (fun b o _ hb _ e n => u.keep b o e n hb (by simp)) (fun b o _ hb _ e n => u.slot b o e n hb (by simp)) (fun b o _ e n => u.free b o e n (by simp)) (fun b o _ e => u.there b o e (by simp)) u.tups u.frzs u.tbls (fun m' hm=>by
  obtain⟨o',es',ep',ho',r'⟩:=hm;rw[ho]at ho';cases ho';exact⟨_,es',ep',hL,r'⟩) hok I.bare
theorem Inv.call {g':Array GenState}{t':Nat}{d':Drawn}{ch:List Addr}(I:Inv X pins σ H s)(u:Un (frs X.stack) ch H H' s.heap h')(hok:gh X.prog X.w H' h')(hg:AllBare g')
  (hch:∀b∈ch,(b∈X.ex\/X.s₀.heap.objs.size<=b)/\b≠X.env.locals/\(∀x c,X.env.cells.lookup x=some c->c≠b)/\∀p∈X.pn ++ pins,p.1≠b):
  Inv X pins σ H' {s with heap:=h',gens:=g',drawn:=d',toks:=t'}:=by
 obtain ⟨m, ⟨o, es, ep, ho, r⟩, _⟩ := id I.loc;obtain ⟨sl, hL⟩ := u.any ho I.free fun z => (hch _ z).2.1 rfl;exact I.step (ch := ch) hch (fun b o hL hb hc e n => u.keep b o e n (fun z => (xaI.mp (I.stkSub b z)).elim hL hb) hc) (fun b o _ _ hc e n => u.any e n hc) (fun b o hc e n => u.free b o e n hc) (fun b o hc e => u.there b o e hc) u.tups u.frzs u.tbls (fun m' hm=>by
  obtain⟨o',es',ep',ho',r'⟩:=hm;rw[ho]at ho';cases ho';exact⟨_,es',ep',hL,r'⟩) hok hg
theorem Inv.turned {t':Nat}{it:Addr}(I:Inv X pins σ H s)(k:∀b o,b≠it->s.heap.get? b=some o->h'.get? b=some o)(hn:H it=none)(hL:it≠X.env.locals)
  (h1:it∈X.ex\/X.s₀.heap.objs.size<=it) (h2:∀x c,X.env.cells.lookup x=some c->c≠it) (h3:∀p∈X.pn ++ pins,p.1≠it):Inv X pins σ H {s with heap:=h',toks:=t'}:=by
 have nit:∀b u,H b=some u->b≠it:=fun b u e z=>by rw[z,hn]at e;cases e
 refine I.step (g':=s.gens) (d':=s.drawn) (ch:=[it]) (fun b hb=>?_) (fun b o _ _ hc e _=>k b o (fun z=>hc (by simp[z])) e) (fun b o _ _ hc e _=>⟨o.slots,k b o (fun z=>hc (by simp[z])) e⟩) (fun _ _ _ _ n=>n)
  (fun b o hc e=>⟨o,k b o (fun z=>hc (by simp[z])) e⟩) (fun _ _ e=>e) (fun _ _ _ e=>e) (fun b ps e=>⟨#[],by rw[e];simp⟩) (fun m hm=>?_) (fun b u e=>?_) I.bare
 ·have e:b=it:=by simpa using hb
  subst e;exact⟨h1,hL,h2,h3⟩
 ·obtain⟨o,es,ep,ho,r⟩:=hm;exact⟨o,es,ep,k _ o (xbs hL) ho,r⟩
 ·refine(I.hok b u e).stay (fun c v hc q=>k c v ?_ q) (fun _ q=>q) fun _ _ q=>q;rcases hc with z |z
  ·rw[z];exact nit b u e
  ·exact nit c _ z
theorem Inv.tok (I:Inv X pins σ H s)(t:Nat):Inv X pins σ H {s with toks:=t}:=I.un (h':=s.heap) (t':=t) Un.refl I.hok
theorem Inv.kept (I:Inv X pins σ H s)(k:∀b u,s.heap.get? b=some u->h'.get? b=some u):Inv X pins σ H {s with heap:=h',toks:=t'}:=I.un (Un.kept k) (I.hok.kept k)
theorem Inv.laid (I:Inv X pins σ H s)(k:∀b u,s.heap.get? b=some u->h'.get? b=some u)(hp:s.heap.objs.size<=a)(new:iu X.prog X.w (upd H a o) h' a o):
  Inv X pins σ (upd H a o) {s with heap:=h',toks:=t'}:=I.un (Un.laid k hp (I.hok.fresh hp)) (I.hok.laid k hp new)
theorem Inv.write (I:Inv X pins σ H s)(mu:Ho (H x))(he:e=x\/H e=some (.own x))(k:∀b u,b≠e->s.heap.get? b=some u->h'.get? b=some u)(heo:∃u,h'.get? e=some u)
  (new:iu X.prog X.w (upd H x o) h' x o):Inv X pins σ (upd H x o) {s with heap:=h',toks:=t'}:=I.un (Un.write mu he k heo) (I.hok.write mu he k heo new)
theorem Inv.pins_of (I:Inv X pins σ H s)(h:∀p∈pins',s.heap.get? p.1=some p.2/\H p.1=none/\p.1≠X.env.locals/\p.1∉X.fs/\∀v,p.2.data≠ .cell v):Inv X pins' σ H s:=
 ⟨I.ok,I.os,I.bare,I.base,I.loc,I.cell,I.free,I.freeC,fun p hp=>(xbe.mp hp).elim (fun z=>I.pin p (xct _ z)) (h p),I.hok,I.len⟩
theorem Wv {N:List Str}(hN:N.Nodup){i j:Nat}{x:Str}(a:N[i]? =some x)(b:N[j]? =some x):i=j:=by
 obtain⟨h1,e1⟩:=xak.mp a;obtain⟨h2,e2⟩:=xak.mp b;exact(List.getElem_inj hN).mp (e1.trans e2.symm)
theorem zcr {M:Model}{A:Around}{E:Value->Shared->Prop}{i:Nat}{x:Str}{v:V}{u:Value}{Q:Unit->Shared->Prop}(I:Inv X pins σ H s)(hN:X.N.Nodup)(hi:X.N[i]? =some x)(hx:Loc X.env.scope x)(r:RelV v u)
    (h:∀s',Inv X pins (σ.set i (some v)) H s'->(∃a,Heap.SameBut a s.heap s'.heap/\(a=X.env.locals\/X.env.cells.lookup x=some a))->Q () s') (hf:X.fn x=true\/X.env.scope.names.lookup x=some .local:=by first |exact .inl rfl |exact .inr rfl |assumption):wpAny M A (storeName X.env x u) Q E s:=by
  obtain⟨m,hn,hl⟩:=id I.loc;have hcls:(X.env.scope.kind==.class || (X.env.scope.kind==.module && X.env.locals !=X.env.globals))=false:=by rw[I.ok.kind];rfl
  have hiσ:i<σ.length:=by rw[I.len];exact(xak.mp hi).1
  have eN:=I.eN;have tracked:∀{a:Addr} {h':Heap},(∃o,s.heap.get? a=some o/\H a=none)->Heap.SameBut a s.heap h'->gh X.prog X.w H h':=fun {a h'} ha hs b ob e=>by
    obtain⟨_,_,hfree⟩:=ha;refine(I.hok b ob e).stay (fun c w' hc q=>(hs.2 c ?_).trans q) (fun _ q=>q) fun _ _ q=>q;rintro rfl;rcases hc with rfl |hc
    · rw[hfree]at e;cases e
    · rw[hfree]at hc;cases hc
  rcases hx with hk |hk
  · refine wpAny_storeName_local hk hn (fun h' hn' hs=>?_) hcls;obtain⟨oL,_,_,hoL,_⟩:=id hn;refine h _ ⟨I.ok,I.os,I.bare,⟨fun b o e n hb hx=>?_,fun b o e n hb hx=>?_,I.base.free,fun b o e hx=>?_,I.base.tups,I.base.frzs,I.base.tbls⟩,⟨_,hn',fun j y v' e1 e2 e3=>?_⟩,fun y c e=>?_,I.free,I.freeC,fun p hp=>?_,tracked ⟨oL,hoL,I.free⟩ hs,by simpa using I.len⟩ ⟨_,hs,.inl rfl⟩
    · exact(hs.2 b (xaw (xad (xan e) I.ok.above))).trans (I.base.keep b o e n hb hx)
    · obtain⟨sl,e1⟩:=I.base.slot b o e n hb hx;exact⟨sl,(hs.2 b (xaw (xad (xan e) I.ok.above))).trans e1⟩
    · obtain⟨o',e1⟩:=I.base.there b o e hx;exact⟨o',(hs.2 b (xaw (xad (xan e) I.ok.above))).trans e1⟩
    · by_cases hj:j=i
      · subst hj;rw[hi]at e1;cases e1;rw[xbN hiσ]at e2;cases e2;exact⟨u,r,.inl ⟨hk,by simp⟩⟩
      · rw[xby (xbs hj)]at e2;obtain⟨u',r',q⟩:=hl j y v' e1 e2 e3;refine⟨u',r',?_⟩;rcases q with⟨k,e⟩ |⟨k,c,e,z⟩
        · refine .inl ⟨k,?_⟩;have:y≠x:=fun e=>hj (Wv hN e1 (e ▸ hi))
          simp[this,e]
        · exact .inr ⟨k,c,e,z.sameBut hs (eN y c e)⟩
    · obtain⟨w',z⟩:=I.cell y c e;exact⟨w',z.sameBut hs (eN y c e)⟩
    · obtain⟨e,n,ne,nf,d⟩:=I.pin p hp;exact⟨(hs.2 p.1 ne).trans e,n,ne,nf,d⟩
  · have hfn:X.fn x=true:=by
      rcases hf with z |z
      · exact z
      · rw[z]at hk;cases hk
    obtain⟨c,hc⟩:=I.ok.has x (.inl hk);obtain⟨w',z⟩:=I.cell x c hc;refine wpAny_storeName_cell I.ok.kind hk hc z (fun h' hc' hs=>?_);obtain⟨oc,hoc,hocd⟩:=id z;refine h {s with heap:=h'} ⟨I.ok,I.os,I.bare,⟨fun b o e n hb hx=>?_,fun b o e n hb hx=>?_,I.base.free,fun b o e hx=>?_,I.base.tups,I.base.frzs,I.base.tbls⟩,⟨m,hn.sameBut hs (xbs (eN x c hc)),fun j y v' e1 e2 e3=>?_⟩,fun y c' e=>?_,I.free,I.freeC,fun p hp=>?_,tracked ⟨oc,hoc,(I.freeC x c hc).resolve_right fun z=>by rw[z.1]at hfn;cases hfn⟩ hs,by simpa using I.len⟩ ⟨c,hs,.inr hc⟩
    · exact(hs.2 b (xaw (xad (xan e) (I.ok.cab x c hfn hc)))).trans (I.base.keep b o e n hb hx)
    · obtain⟨sl,e1⟩:=I.base.slot b o e n hb hx;exact⟨sl,(hs.2 b (xaw (xad (xan e) (I.ok.cab x c hfn hc)))).trans e1⟩
    · obtain⟨o',e1⟩:=I.base.there b o e hx;exact⟨o',(hs.2 b (xaw (xad (xan e) (I.ok.cab x c hfn hc)))).trans e1⟩
    · by_cases hj:j=i
      · subst hj;rw[hi]at e1;cases e1;rw[xbN hiσ]at e2;cases e2;exact⟨u,r,.inr ⟨.inl hk,c,hc,hc'⟩⟩
      · rw[xby (xbs hj)]at e2;obtain⟨u',r',q⟩:=hl j y v' e1 e2 e3;refine⟨u',r',?_⟩;rcases q with q |⟨k,c',e,z'⟩
        · exact .inl q
        · refine .inr ⟨k,c',e,z'.sameBut hs ?_⟩;rintro rfl;exact hj (Wv hN e1 (I.ok.inj _ _ _ e hc ▸ hi))
    · by_cases hcc:c'=c
      · subst hcc;exact⟨_,hc'⟩
      · obtain⟨w2,z2⟩:=I.cell y c' e;exact⟨w2,z2.sameBut hs hcc⟩
    · obtain⟨e,n,ne,nf,d⟩:=I.pin p hp;refine⟨(hs.2 p.1 ?_).trans e,n,ne,nf,d⟩;intro q;rw[q,hoc]at e;have q':oc=p.2:=xau e;exact d w' (by rw[<-q'];exact hocd)
theorem KQ (I:Inv X pins σ H s)(hN:X.N.Nodup)(hi:X.N[i]? =some x)(hx:Loc X.env.scope x)(r:RelV v u)
  (h:∀s',Inv X pins (σ.set i (some v)) H s'->Q () s') (hf:X.fn x=true\/X.env.scope.names.lookup x=some .local:=by first |exact .inl rfl |exact .inr rfl |assumption):wpAny M A (storeName X.env x u) Q E s:=
 zcr I hN hi hx r (fun s' I' _=>h s' I') hf
theorem Inv.call' (I:Inv X pins σ H s)(ho:s'.os=s.os)(u:Un (frs X.stack) ch H H' s.heap s'.heap)(hok:gh X.prog X.w H' s'.heap)(hg:AllBare s'.gens)
  (hch:∀b∈ch,(b∈X.ex\/X.s₀.heap.objs.size<=b)/\b≠X.env.locals/\(∀x c,X.env.cells.lookup x=some c->c≠b)/\∀p∈X.pn ++ pins,p.1≠b):Inv X pins σ H' s':=by
 obtain⟨h',g',d',t',o'⟩:=s';have e:o'=s.os:=ho;subst e;exact I.call (g':=g') (t':=t') (d':=d') u hok hg hch
end
abbrev XK:=Value->Option Addr->Hp->Prop
abbrev St:=List (Option V)
abbrev VK:=V->Hp->Prop
abbrev TE:=St->Hp->VK->Prop
abbrev TT:=St->Hp->(Bool->Hp->Prop)->Prop
abbrev TA:=St->Hp->(List V->Hp->Prop)->Prop
structure Ends where
 nx:St->Hp->Prop
 rt:VK
 bk:St->Hp->Prop:=fun _ _=>False
 ct:St->Hp->Prop:=fun _ _=>False
abbrev TS:=Ends->St->Hp->Prop
def EP (X:Cx)(pins:Pnx)(σ:St)(Q:VK)(u:Value)(s':Shared):Prop:=∃v H',Inv X pins σ H' s'/\RelV v u/\Q v H'
def TP (X:Cx)(pins:Pnx)(σ:St)(Q:Bool->Hp->Prop)(b:Bool)(s':Shared):Prop:=∃H',Inv X pins σ H' s'/\Q b H'
def AP (X:Cx)(pins:Pnx)(σ:St)(Q:List V->Hp->Prop)(us:List Value)(s':Shared):Prop:=∃vs H',Inv X pins σ H' s'/\Vals vs us/\Q vs H'
def SP (X:Cx)(pins:Pnx)(D:Ends)(f:Flow)(s':Shared):Prop:=
 match f with
 |.next=>∃σ' H',Inv X pins σ' H' s'/\D.nx σ' H'
 |.brk=>∃σ' H',Inv X pins σ' H' s'/\D.bk σ' H'
 |.cont=>∃σ' H',Inv X pins σ' H' s'/\D.ct σ' H'
 |.ret u=>∃v σ' H',Inv X pins σ' H' s'/\RelV v u/\D.rt v H'
def PE (X:Cx)(e:Expr)(t:TE):Prop:=
 ∀(pins:Pnx) (s:Shared) (σ:St) (H:Hp) (Q:VK),Inv X pins σ H s->t σ H Q->wpAny (model X.prog X.w) X.A (eval e X.env) (EP X pins σ Q) X.xe s
def PT (X:Cx)(e:Expr)(t:TT):Prop:=
 ∀(pins:Pnx) (s:Shared) (σ:St) (H:Hp) (Q:Bool->Hp->Prop),Inv X pins σ H s->t σ H Q->wpAny (model X.prog X.w) X.A (isTrue e X.env (eval e X.env)) (TP X pins σ Q) X.xe s
def PW (X:Cx)(e:Expr)(t:TT):Prop:=
 ∀(whole:Sem Value) (pins:Pnx) (s:Shared) (σ:St) (H:Hp) (Q:Bool->Hp->Prop),Inv X pins σ H s->t σ H Q->wpAny (model X.prog X.w) X.A (isTrue e X.env whole) (TP X pins σ Q) X.xe s
theorem PW.pt (h:PW X e t):PT X e t:=h _
def PA (X:Cx)(es:List Expr)(t:TA):Prop:=
 ∀(pos:Pos) (pins:Pnx) (s:Shared) (σ:St) (H:Hp) (Q:List V->Hp->Prop),Inv X pins σ H s->t σ H Q->wpAny (model X.prog X.w) X.A (spliced (backTo pos (starEach es X.env))) (AP X pins σ Q) X.xe s
def PS (X:Cx)(st:Stmt)(t:TS):Prop:=
 ∀(pins:Pnx) (s:Shared) (σ:St) (H:Hp) (D:Ends),Inv X pins σ H s->t D σ H->wpAny (model X.prog X.w) X.A (exec st X.env) (SP X pins D) X.xe s
def nQ (X:Cx)(st:List Stmt)(t:TS):Prop:=
 ∀(pins:Pnx) (s:Shared) (σ:St) (H:Hp) (D:Ends),Inv X pins σ H s->t D σ H->wpAny (model X.prog X.w) X.A (execs st X.env) (SP X pins D) X.xe s
theorem aX (h:wpAny M A t Q E s)(hQ:∀a s,Q a s->Q' a s):wpAny M A t Q' E s:=xaS h hQ fun _ _ x=>x
section
variable {X:Cx}
def Tj (i:Nat):TE:=fun σ H Q=>∃v,σ[i]? =some (some v)/\Q v H
def tC (v:V):TE:=fun _ H Q=>Q v H
theorem QT (hN:X.N[i]? =some x)(hv:Du X.env.scope x)(hd:(x==("__debug__":Str))=false:=by decide)(hcd:(x==("__classdict__":Str))=false:=by decide):PE X (.Name x pos) (Tj i):=by
 intro pins s σ H Q I h;obtain⟨v,e,h⟩:=h;obtain⟨m,hn,hl⟩:=I.loc;obtain⟨u,r,l⟩:=hl i x v hN e hv;have fin:EP X pins σ Q u s:=⟨v,H,I,r,h⟩;rcases l with⟨hk,hm⟩ |⟨hk,c,hc,hcell⟩
 ·exact wpAny_Name (wpAny_loadName_local I.ok.kind hk hn hm fin) hd
 ·rcases hk with hk |hk
  ·exact wpAny_Name (wpAny_loadName_cell I.ok.kind hk hc hcell fin) hd
  ·exact wpAny_Name (wpAny_loadName_free I.ok.kind hk hc hcell fin hcd) hd
theorem zgk {i j pos}:PE X (.Constant (.int i) j pos) (tC (.int i)):=fun _ _ _ H _ I h=>wpAny_Constant_int ⟨.int i,H,I.tok _,⟨_,rfl⟩,h⟩
theorem zhO {b j pos}:PE X (.Constant (.bool b) j pos) (tC (.bl b)):=fun _ _ _ H _ I h=>Constant_bool ⟨.bl b,H,I,rfl,h⟩
theorem zhr {x j pos}:PE X (.Constant (.str x) j pos) (tC (.str x)):=fun _ _ _ H _ I h=>Calls.Constant_str ⟨.str x,H,I.tok _,⟨_,rfl⟩,h⟩
def Gl (X:Cx)(x:Str):Prop:=X.env.kindOf x=some .globalImplicit
theorem yC (I:Inv X pins σ H s)(hg:Gl X x)(hm:X.mg x=some u)(h:Q u s)
  (hd:(x==("__debug__":Str))=false:=by decide):wpAny (model X.prog X.w) X.A (eval (.Name x pos) X.env) Q E s:=
 xcI I.ok.kind hg (Calls.loadGlobal_global (by rw[I.ok.glob];exact I.mod.glob.keeps I.bk) hm h) hd
theorem FP (I:Inv X pins σ H s)(hg:Gl X x)(hm:X.mg x=none)(hv:bootBuiltins x=some u)(h:Q u s)
  (hn:x≠"__name__":=by decide) (hd:(x==("__debug__":Str))=false:=by decide):wpAny (model X.prog X.w) X.A (eval (.Name x pos) X.env) Q E s:=by
 obtain⟨mb,h1,h2⟩:=I.mod.blt;exact xcI I.ok.kind hg (Calls.loadGlobal_builtin (by rw[I.ok.glob];exact I.mod.glob.keeps I.bk) hm (by rw[I.ok.blt];exact h1.keeps I.bk) ((h2 x hn).trans hv) h) hd
theorem w5 (hg:Gl X x)(hm:X.mg x=some u)(r:RelV v u)(hd:(x==("__debug__":Str))=false:=by decide):PE X (.Name x pos) (tC v):=
 fun _ _ _ H _ I h=>yC I hg hm ⟨v,H,I,r,h⟩ hd
theorem zeS (hg:Gl X x)(hm:X.mg x=none)(hv:bootBuiltins x=some u)(r:RelV v u)(hn:x≠"__name__":=by decide)(hd:(x==("__debug__":Str))=false:=by decide):PE X (.Name x pos) (tC v):=
 fun _ _ _ H _ I h=>FP I hg hm hv ⟨v,H,I,r,h⟩ hn hd
variable {a b:Expr}{ta tb:TE}{pos:Pos}
def PC (X:Cx)(op:CmpOp)(a b:Expr)(t:TE):Prop:=
 ∀(pins:Pnx) (s:Shared) (σ:St) (H:Hp) (Q:VK),Inv X pins σ H s->t σ H Q->
  wpAny (model X.prog X.w) X.A (eval a X.env) (fun v s₁=>wpAny (model X.prog X.w) X.A (eval b X.env) (fun u s₂=>wpAny (model X.prog X.w) X.A (compareOp op v u) (EP X pins σ Q) X.xe s₂) X.xe s₁) X.xe s
def tB (t:TE):TT:=fun σ H Q=>t σ H fun x H1=>∃c,x=.bl c/\Q c H1
theorem zgl (h:PC X op a b t)(h1:behindInMarks op b=false:=by first |exact nobehind _ (by decide) (by decide) |rfl):PT X (.Compare a [op] [b] pos) (tB t):=by
 intro pins s σ H Q I hw;refine wpAny_isTrue_Compare1 (aX (h pins s σ H _ I hw) fun v s1 h1=>aX h1 fun u s2 h2=>aX h2 fun c s3 ⟨x,H1,I1,r1,q1⟩=>?_) h1;obtain⟨d,rfl,q⟩:=q1;cases r1;exact xbw ⟨H1,I1,q⟩
variable {tA tB':TT}{rest:List Expr}
noncomputable def SM (t u:TT):TT:=fun σ H Q=>t σ H fun c H1=>if c=true then u σ H1 Q else Q false H1
noncomputable def tOr (t u:TT):TT:=fun σ H Q=>t σ H fun c H1=>if c=true then Q true H1 else u σ H1 Q
def Te (t:TT):TT:=fun σ H Q=>t σ H fun c H1=>Q (!c) H1
theorem zdP (ha:PT X a tA):PW X (.BoolOp .And [a] pos) tA:=by
 intro wh pins s σ H Q I h;refine isTrue_and (aX (ha pins s σ H Q I h) fun c s1 e=>?_)
 cases c with
 |true=>exact isTrue_and_nil e
 |false=>exact e
theorem zhn (ha:PT X a tA):PW X (.BoolOp .Or [a] pos) tA:=by
 intro wh pins s σ H Q I h;refine isTrue_or (aX (ha pins s σ H Q I h) fun c s1 e=>?_)
 cases c with
 |false=>exact isTrue_or_nil e
 |true=>exact e
theorem zgJ (ha:PT X a tA)(hb:PW X (.BoolOp .And (b::rest) pos) tB'):PW X (.BoolOp .And (a::b::rest) pos) (SM tA tB'):=by
 intro wh pins s σ H Q I h;refine isTrue_and (aX (ha pins s σ H _ I h) fun c s1 ⟨H1,I1,q1⟩=>?_)
 cases c with
 |true=>exact hb wh pins s1 σ H1 Q I1 q1
 |false=>exact⟨H1,I1,q1⟩
theorem ziJ (ha:PT X a tA)(hb:PW X (.BoolOp .Or (b::rest) pos) tB'):PW X (.BoolOp .Or (a::b::rest) pos) (tOr tA tB'):=by
 intro wh pins s σ H Q I h;refine isTrue_or (aX (ha pins s σ H _ I h) fun c s1 ⟨H1,I1,q1⟩=>?_)
 cases c with
 |true=>exact⟨H1,I1,q1⟩
 |false=>exact hb wh pins s1 σ H1 Q I1 q1
theorem zfB (ha:PT X a tA):PT X (.UnaryOp .Not a pos) (Te tA):=by
 intro pins s σ H Q I h;exact isTrue_not (ha pins s σ H (fun c H1=>Q (!c) H1) I h)
noncomputable def ziw (ta tb:TE):TE:=fun σ H Q=>ta σ H fun x H1=>∃c,x=.bl c/\if c=true then tb σ H1 Q else Q (.bl false) H1
noncomputable def Tf (ta tb:TE):TE:=fun σ H Q=>ta σ H fun x H1=>∃c,x=.bl c/\if c=true then Q (.bl true) H1 else tb σ H1 Q
theorem zgD {op}(h:PE X a t):PE X (.BoolOp op [a] pos) t:=fun pins s σ H Q I hw=>BoolOp_one (h pins s σ H Q I hw)
theorem zf1 (ha:PE X a ta)(hb:PE X (.BoolOp .And (b::rest) pos) tb):PE X (.BoolOp .And (a::b::rest) pos) (ziw ta tb):=by
 intro pins s σ H Q I h;refine BoolOp_and (aX (ha pins s σ H _ I h) fun v s1 ⟨x,H1,I1,r1,q1⟩=>?_);obtain⟨c,rfl,q1⟩:=q1;cases r1;refine xbw ?_
 cases c with
 |true=>exact hb pins s1 σ H1 Q I1 q1
 |false=>exact⟨.bl false,H1,I1,rfl,q1⟩
theorem zh4 (ha:PE X a ta)(hb:PE X (.BoolOp .Or (b::rest) pos) tb):PE X (.BoolOp .Or (a::b::rest) pos) (Tf ta tb):=by
 intro pins s σ H Q I h;refine BoolOp_or (aX (ha pins s σ H _ I h) fun v s1 ⟨x,H1,I1,r1,q1⟩=>?_);obtain⟨c,rfl,q1⟩:=q1;cases r1;refine xbw ?_
 cases c with
 |false=>exact hb pins s1 σ H1 Q I1 q1
 |true=>exact⟨.bl true,H1,I1,rfl,q1⟩
noncomputable def tIf (t:TT) (ta tb:TE):TE:=fun σ H Q=>t σ H fun c H1=>if c=true then ta σ H1 Q else tb σ H1 Q
theorem zcX (hc:PT X c tA)(ha:PE X a ta)(hb:PE X b tb):PE X (.IfExp c a b pos) (tIf tA ta tb):=by
 intro pins s σ H Q I h;refine wpAny_IfExp (aX (hc pins s σ H _ I h) fun d s1 ⟨H1,I1,q1⟩=>?_)
 cases d with
 |true=>exact ha pins s1 σ H1 Q I1 q1
 |false=>exact hb pins s1 σ H1 Q I1 q1
end
def fW (K:Fgx)(H:Hp)(a:Addr)(xs:List V):Prop:=
 Rd H a (.lst xs)\/
  ∃(o:Obj) (its:Array Value) (n:Nat),K.lookup a=some o/\o.cls=.type "list"/\o.dict=none/\o.data=.seq its n/\its.size<=sizeLine/\Vals xs its.toList
def kW (K:Fgx)(H:Hp)(a:Addr)(xs:List V):Prop:=
 Rd H a (.tup xs)\/
  ∃(o:Obj) (its:Array Value) (n:Nat),K.lookup a=some o/\o.cls=.type "tuple"/\o.data=.seq its n/\its.size<=sizeLine/\Vals xs its.toList
noncomputable def Lx:Value->Option V
 |.none=>some .non
 |.bool b=>some (.bl b)
 |.int i _=>some (.int i)
 |.str x _=>some (.str x)
 |.bytes b _=>some (.byt b)
 |.float b _=>some (.flt b)
 |.ref a=>some (.ref a)
 |.type n=>some (.ty n)
 |_=>none
theorem RelV.abs (r:RelV x u):Lx u=some x:=by
 cases x with
 |non=>cases r;rfl
 |bl _=>cases r;rfl
 |int _=>obtain⟨t,rfl⟩:=r;rfl
 |str _=>obtain⟨t,rfl⟩:=r;rfl
 |byt _=>obtain⟨t,rfl⟩:=r;rfl
 |flt _=>obtain⟨t,rfl⟩:=r;rfl
 |ref _=>cases r;rfl
 |ty _=>cases r;rfl
theorem RelV.inj (r:RelV x u)(q:RelV y u):x=y:=xau (r.abs.symm.trans q.abs)
theorem Vals.inj:∀{xs ys:List V} {us:List Value},Vals xs us->Vals ys us->xs=ys
 |_,_,_,.nil,.nil=>rfl
 |_,_,_,.cons r t,.cons r' t'=>by rw[r.inj r',Vals.inj t t']
section
variable {X:Cx}{pins:Pnx}{σ:St}{H:Hp}{s:Shared}{a:Addr}{xs ys:List V}
theorem Inv.list (I:Inv X pins σ H s)(h:fW X.K H a xs):∃its:List Value,Vals xs its/\PlainL s.heap a its.toArray/\xs.length<=sizeLine:=by
 rcases h with h |⟨o,its,n,hk,hc,hd,hs,hz,r⟩
 ·obtain⟨z,its,n,r,e⟩:=h.ok I.hok;exact⟨its,r,⟨_,n,e,rfl,rfl,rfl⟩,z⟩
 ·refine⟨its.toList,r,⟨o,n,I.kIn a o hk,hc,hd,by simpa using hs⟩,?_⟩;have e:=r.length;simp only[xbf]at e;omega
theorem Inv.tuple (I:Inv X pins σ H s)(h:kW X.K H a xs):∃its:List Value,Vals xs its/\IsTup s.heap a its.toArray/\xs.length<=sizeLine:=by
 rcases h with h |⟨o,its,n,hk,hc,hs,hz,r⟩
 ·obtain⟨z,its,r,p⟩:=h.ok I.hok;exact⟨its,r,p,z⟩
 ·refine⟨its.toList,r,⟨o,I.kIn a o hk,hc,n,by simpa using hs⟩,?_⟩;have e:=r.length;simp only[xbf]at e;omega
theorem Inv.list_inj (I:Inv X pins σ H s)(h:fW X.K H a xs)(h':fW X.K H a ys):xs=ys:=by
 obtain⟨its,r,⟨o,n,e,_,_,d⟩,_⟩:=I.list h;obtain⟨its',r',⟨o',n',e',_,_,d'⟩,_⟩:=I.list h';rw[e]at e';cases e';rw[d]at d'
 injection d' with d1 _
 have:its=its':=by simpa using congrArg Array.toList d1
 subst this;exact r.inj r'
theorem Inv.tuple_inj (I:Inv X pins σ H s)(h:kW X.K H a xs)(h':kW X.K H a ys):xs=ys:=by
 obtain⟨its,r,⟨o,e,_,n,d⟩,_⟩:=I.tuple h;obtain⟨its',r',⟨o',e',_,n',d'⟩,_⟩:=I.tuple h';rw[e]at e';cases e';rw[d]at d'
 injection d' with d1 _
 have:its=its':=by simpa using congrArg Array.toList d1
 subst this;exact r.inj r'
end
abbrev Cx.wish (X:Cx)(E:Value->Shared->Prop):Cx:={X with xe:=E}
abbrev Cx.nox (X:Cx):Cx:=X.wish fun _ _=>False
theorem Cx.Ok.wish {X:Cx}(ok:X.Ok)(E:Value->Shared->Prop):(X.wish E).Ok:=
 ⟨ok.mod,ok.kind,ok.glob,ok.blt,ok.above,ok.inj,ok.has,ok.cab,ok.hd,ok.frames,ok.stk,ok.exf,ok.bs,ok.bsz,ok.noex,ok.exfs,ok.funs,ok.frf⟩
theorem Cx.Ok.unwish {X:Cx}{E:Value->Shared->Prop}(ok:(X.wish E).Ok):X.Ok:=
 ⟨ok.mod,ok.kind,ok.glob,ok.blt,ok.above,ok.inj,ok.has,ok.cab,ok.hd,ok.frames,ok.stk,ok.exf,ok.bs,ok.bsz,ok.noex,ok.exfs,ok.funs,ok.frf⟩
section
variable {X:Cx}{pins:Pnx}{σ:St}{H:Hp}{s:Shared}{E:Value->Shared->Prop}
theorem Inv.wish (I:Inv X pins σ H s)(E:Value->Shared->Prop):Inv (X.wish E) pins σ H s:=⟨I.ok.wish E,I.os,I.bare,I.base,I.loc,I.cell,I.free,I.freeC,I.pin,I.hok,I.len⟩
theorem Inv.unwish (I:Inv (X.wish E) pins σ H s):Inv X pins σ H s:=⟨I.ok.unwish,I.os,I.bare,I.base,I.loc,I.cell,I.free,I.freeC,I.pin,I.hok,I.len⟩
theorem SP.unwish (h:SP (X.wish E) pins D f s'):SP X pins D f s':=by
 cases f with
 |next=>obtain⟨σ',H',I,q⟩:=h;exact⟨σ',H',I.unwish,q⟩
 |brk=>obtain⟨σ',H',I,q⟩:=h;exact⟨σ',H',I.unwish,q⟩
 |cont=>obtain⟨σ',H',I,q⟩:=h;exact⟨σ',H',I.unwish,q⟩
 |ret u=>obtain⟨v,σ',H',I,r,q⟩:=h;exact⟨v,σ',H',I.unwish,r,q⟩
theorem nQ.nox {st:List Stmt}{t:TS}(h:nQ X.nox st t):nQ X st t:=fun pins s σ H D I hw=>
 xaS (h pins s σ H D (I.wish _) hw) (fun _ _ q=>q.unwish) fun _ _ z=>False.elim z
end
section
variable {X:Cx}{st:Stmt}{rest:List Stmt}{t u:TS}{e:Expr}{te:TE}{pos:Pos}
def zjy:TS:=fun D σ H=>D.nx σ H
def G8 (t u:TS):TS:=fun D σ H=>t {D with nx:=u D} σ H
theorem zd7:nQ X [] zjy:=fun _ _ σ H _ I h=>wpAny_execs_nil ⟨σ,H,I,h⟩
theorem zdm (h1:PS X st t)(h2:nQ X rest u):nQ X (st::rest) (G8 t u):=by
  intro pins s σ H D I h;refine xcl (aX (h1 pins s σ H {D with nx:=u D} I h) fun f s1 q=>?_)
  cases f with
  |next=>
    obtain⟨σ',H',I',q⟩:=q;exact h2 pins s1 σ' H' D I' q
  |ret v=>exact q
  |brk=>exact q
  |cont=>exact q
theorem Inv.quiet (I:Inv X pins σ H s):interactive X.env=false:=by simp[interactive,I.ok.kind]
def zjq (te:TE):TS:=fun D σ H=>te σ H fun _ H1=>D.nx σ H1
theorem QV (he:PE X e te)(hs:swapsWith e none pos.line X.env=pure false:=by rfl):PS X (.Expr e pos) (zjq te):=by
 intro pins s σ H D I h;exact wpAny_Expr_any (aX (he pins s σ H _ I h) fun v s1 ⟨x,H1,I1,r1,q1⟩=>⟨σ,H1,I1,q1⟩) I.quiet hs
def Tg (te:TE):TS:=fun D σ H=>te σ H D.rt
theorem zfE (he:PE X e te):PS X (.Return (some e) pos) (Tg te):=by
 intro pins s σ H D I h;exact wpAny_Return_some (aX (he pins s σ H _ I h) fun v s1 ⟨x,H1,I1,r1,q1⟩=>⟨x,σ,H1,I1,r1,q1⟩)
noncomputable def Tc (c:TT) (t u:TS):TS:=fun D σ H=>c σ H fun b H1=>if b=true then t D σ H1 else u D σ H1
theorem zir (hc:PT X c tc)(ha:nQ X a t)(hb:nQ X b u):PS X (.If c a b pos) (Tc tc t u):=by
 intro pins s σ H D I h;refine wpAny_If (aX (hc pins s σ H _ I h) fun d s1 ⟨H1,I1,q1⟩=>?_)
 cases d with
 |true=>exact ha pins s1 σ H1 D I1 q1
 |false=>exact hb pins s1 σ H1 D I1 q1
end
abbrev TG:=V->St->Hp->(St->Hp->Prop)->Prop
def PG (X:Cx)(target:Expr)(t:TG):Prop:=
 ∀(pins:Pnx) (s:Shared) (σ:St) (H:Hp) (v:V) (u:Value) (Q:St->Hp->Prop),Inv X pins σ H s->RelV v u->t v σ H Q->
  wpAny (model X.prog X.w) X.A (assign target X.env u) (fun _ s'=>∃σ' H',Inv X pins σ' H' s'/\Q σ' H') X.xe s
section
variable {X:Cx}{pos:Pos}
def N8 (i:Nat):TG:=fun v σ H Q=>Q (σ.set i (some v)) H
theorem zeG (hN:X.N.Nodup)(hi:X.N[i]? =some x)(hx:Loc X.env.scope x)(hf:X.fn x=true\/X.env.scope.names.lookup x=some .local:=by first |exact .inl rfl |exact .inr rfl |assumption):PG X (.Name x pos) (N8 i):=by
 intro pins s σ H v u Q I r h;exact wpAny_assign_Name (KQ I hN hi hx r (fun s' I'=>⟨_,H,I',h⟩) hf)
noncomputable def S5 (te:TE) (g:TG):TS:=fun D σ H=>te σ H fun x H1=>g x σ H1 D.nx
theorem WT (hN:X.N.Nodup)(hi:X.N[i]? =some x)(hx:Loc X.env.scope x)(he:PE X e te)(hs:swapsWith e (some (.Name x pos')) pos.line X.env=pure false:=by rfl)(hf:X.fn x=true\/X.env.scope.names.lookup x=some .local:=by first |exact .inl rfl |exact .inr rfl |assumption):
  PS X (.Assign [.Name x pos'] e pos) (S5 te (N8 i)):=by
 intro pins s σ H D I h;refine wpAny_Assign_Name (aX (he pins s σ H _ I h) fun v s1 ⟨y,H1,I1,r1,q1⟩=>?_) hs;exact KQ I1 hN hi hx r1 (fun s2 I2=>⟨_,H1,I2,q1⟩) hf
end
structure It where
 go:Nat->Hp->Prop
 yld:Nat->Hp->V->Hp->Prop
 stop:Nat->Hp->Prop
def kI (X:Cx)(pins:Pnx)(H:Hp)(b:Addr):Prop:=
 H b=none/\b≠X.env.locals/\b∉X.fs/\(b∈X.ex\/X.s₀.heap.objs.size<=b)/\(∀x c,X.env.cells.lookup x=some c->c≠b)/\∀p∈X.pn ++ pins,p.1≠b
theorem Inv.fpOk (I:Inv X pins σ H s)(hb:s.heap.objs.size<=b)(hn:H' b=none):kI X pins H' b:=by
 refine⟨hn,xcT (xad I.lt hb),I.nofs hb,.inr (xav I.sz hb),fun x c e z=>?_,fun p hp z=>?_⟩
 ·obtain⟨v,q⟩:=I.cell x c e;exact absurd (xad q.lt (by rw[z];exact hb)) (xa4 _)
 ·exact absurd (xad (xan (I.pin p hp).1) (by rw[z];exact hb)) (xa4 _)
structure Turn (P:Program)(w:World)(K:Fgx)(tg:Expr)(J:It)(fp:List Addr)(it:Addr)(tn:Nat->Heap->Prop):Prop where
 mem:it∈fp
 obj:∀i h,tn i h->∀b∈fp,∃o,h.get? b=some o/\∀v,o.data≠ .cell v
 keep:∀i h h',tn i h->(∀b∈fp,∀o,h.get? b=some o->h'.get? b=some o)->tn i h'
 item:∀(X:Cx),X.prog=P->X.w=w->X.K=K->X.calm=true->∀(i:Nat) (pins:Pnx) (s:Shared) (σ:St) (H:Hp) (E:Value->Shared->Prop),Inv X pins σ H s->(∀b∈fp,kI X pins H b)->tn i s.heap->J.go i H->
  wpAny (model P w) X.A (pyNext (.ref it)) (fun r s1=>∃u,r=some u/\
   wpAny (model P w) X.A (letOwnedTupleGo tg (.ref it) u) (fun _ s2=>∃x H',Inv X pins σ H' s2/\RelV x u/\J.yld i H x H'/\tn (i + 1) s2.heap/\∀b∈fp,H' b=none) E s1) E s
 done:∀(X:Cx),X.prog=P->X.w=w->X.K=K->X.calm=true->∀(i:Nat) (pins:Pnx) (s:Shared) (σ:St) (H:Hp) (E:Value->Shared->Prop),Inv X pins σ H s->(∀b∈fp,kI X pins H b)->tn i s.heap->J.stop i H->
  wpAny (model P w) X.A (pyNext (.ref it)) (fun r s1=>r=none/\Inv X pins σ H s1) E s
 self:∀(A:Around) (i:Nat) (s:Shared) (Q:Value->Shared->Prop) (E:Value->Shared->Prop),tn i s.heap->Q (.ref it) s->wpAny (model P w) A (pyIter (.ref it)) Q E s
abbrev TI:=St->Hp->(It->Hp->Prop)->Prop
def PIE (X:Cx)(pins:Pnx)(σ:St)(tg:Expr)(R:It->Hp->Prop)(itv:Value)(s2:Shared):Prop:=
 ∃(it:Addr) (fp:List Addr) (tn:Nat->Heap->Prop) (J:It) (H':Hp),itv=.ref it/\Inv X pins σ H' s2/\Turn X.prog X.w X.K tg J fp it tn/\tn 0 s2.heap/\(∀b∈fp,kI X pins H' b)/\R J H'
def PI (X:Cx)(tg iter:Expr)(wi:TI):Prop:=
 ∀(pins:Pnx) (s:Shared) (σ:St) (H:Hp) (R:It->Hp->Prop),Inv X pins σ H s->wi σ H R->
  wpAny (model X.prog X.w) X.A (eval iter X.env) (fun v s1=>wpAny (model X.prog X.w) X.A (pyIter v) (PIE X pins σ tg R) X.xe s1) X.xe s
theorem CK {M:Model}{A:Around}{E:Value->Shared->Prop}{s:Shared}{tg:Expr}{it:Addr}{u:Value}{o:Obj}{n:String}{vs:Array Value}{Q:Unit->Shared->Prop}(ho:s.heap.get? it=some o)(hc:o.cls=.type n)(hd:o.data=.fields vs)
    (hn:["enumerate","zip","dict_itemiterator","dict_reverseitemiterator","odict_iterator","itertools.zip_longest","itertools.pairwise"].contains n=false) (hQ:Q () s):wpAny M A (letOwnedTupleGo tg (.ref it) u) Q E s:=by
  unfold letOwnedTupleGo;cases tg<;>first
    |exact xaf hQ
    | (cases u<;>first
        |exact xaf hQ
        | (refine tG (wpAny_load ho ?_)
           rw[hc,hd];show wpAny M A (if (["enumerate","zip","dict_itemiterator","dict_reverseitemiterator","odict_iterator","itertools.zip_longest","itertools.pairwise"].contains n && vs[0]? ==some (rawInt _))=true then _ else _) Q E s
           rw[xah (by intro h;rw[hn,Bool.false_and]at h;cases h)];exact xaf hQ))
noncomputable def Uc (K:Fgx) (a:Addr):It:=
 ⟨fun i H=>∃xs x,fW K H a xs/\xs[i]? =some x,fun i H x H'=>H'=H/\∀xs,fW K H a xs->xs[i]? =some x,fun i H=>∃xs,fW K H a xs/\xs.length<=i⟩
noncomputable def Hl (lo:Int) (n:Nat):It:=⟨fun i _=>i<n,fun i H x H'=>H'=H/\x=.int (lo + i),fun i _=>n<=i⟩
theorem zcR {P:Program}{w:World}{K:Fgx}{tg:Expr}(a it:Addr):Turn P w K tg (Uc K a) [it] it (fun i h=>h.IsListIter it a i) where
 mem:=by simp
 obj:=fun i h st b hb=>by
  have e:b=it:=by simpa using hb
  subst e;obtain⟨o,e,c,d⟩:=st;exact⟨o,e,fun v z=>by rw[d]at z;cases z⟩
 keep:=fun i h h' st k=>st.at fun o e=>k it (by simp) o e
 item:=by
  intro X hP hw hK hc i pins s σ H E I hf st hg;subst hP hw hK;obtain⟨xs,x,hq,hx⟩:=hg;obtain⟨its,rv,p,hz⟩:=I.list hq;obtain⟨u,hu,ru⟩:=rv.get hx;obtain⟨f0,f1,f2,f3,f4,f5⟩:=hf it (by simp);refine wpAny_pyNext_list_item st p.isList (x:=u) (by simpa using hu) fun h' st' sb=>?_;have I1:Inv X pins σ H {s with heap:=h'}:=I.turned (t':=s.toks) (fun b o hb e=>(sb.2 b hb).trans e) f0 f1 f3 f4 f5;obtain⟨o,e,c,d⟩:=id st';exact⟨u,rfl,CK (s:={s with heap:=h'}) e c d (by decide) ⟨x,H,I1,ru,⟨rfl,fun ys hy=>by rw[I.list_inj hy hq];exact hx⟩,st',fun b hb=>(hf b hb).1⟩⟩
 done:=by
  intro X hP hw hK hc i pins s σ H E I hf st hg;subst hP hw hK;obtain⟨xs,hq,hx⟩:=hg;obtain⟨its,rv,p,hz⟩:=I.list hq;obtain⟨f0,f1,f2,f3,f4,f5⟩:=hf it (by simp);have hl:=rv.length;exact wpAny_pyNext_list_end (I.ok.hd hc) st p.isList (by simp;omega) fun h' eb=>⟨rfl,I.turned (t':=s.toks) (fun b o hb e=>eb b o hb e) f0 f1 f3 f4 f5⟩
 self:=fun _ _ _ _ _ st h=>wpAny_pyIter_listiter st h
theorem zbW {P:Program}{w:World}{K:Fgx}{tg:Expr}(it:Addr)(lo:Int)(n:Nat):Turn P w K tg (Hl lo n) [it] it (fun i h=>IsRangeIter h it (lo + (i:Nat) * 1) ((n:Int) - (i:Nat)) 1) where
 mem:=by simp
 obj:=fun i h st b hb=>by
  have e:b=it:=by simpa using hb
  subst e;exact ⟨_,st,fun v z=>by
   have z':Data.fields _=Data.cell v:=z;cases z'⟩
 keep:=fun i h h' st k=>k it (by simp) _ st
 item:=by
  intro X hP hw hK hc i pins s σ H E I hf st hg;subst hP hw hK;obtain⟨f0,f1,f2,f3,f4,f5⟩:=hf it (by simp);have W:=Walks.range (prog:=X.prog) (w:=X.w) (I.ok.hd hc) it lo 1 n;refine W.item i s _ _ hg st fun v h' tk hv st' kk=>?_;obtain⟨t,rfl⟩:=hv;have I1:Inv X pins σ H {s with heap:=h',toks:=tk}:=I.turned (fun b o hb e=>kk b o (by simpa using hb) e) f0 f1 f3 f4 f5;refine⟨_,rfl,CK (s:={s with heap:=h',toks:=tk}) (n:="range_iterator") st' rfl rfl (by decide) ⟨.int (lo + i),H,I1,⟨t,?_⟩,⟨rfl,rfl⟩,st',fun b hb=>(hf b hb).1⟩⟩;rw[Int.mul_one]
 done:=by
  intro X hP hw hK hc i pins s σ H E I hf st hg;subst hP hw hK;obtain⟨f0,f1,f2,f3,f4,f5⟩:=hf it (by simp);exact wpAny_pyNext_range_end (I.ok.hd hc) st (by have:n<=i:=hg;omega) fun h' eb=>⟨rfl,I.turned (t':=s.toks) (fun b o hb e=>eb b o hb e) f0 f1 f3 f4 f5⟩
 self:=fun _ _ _ _ _ st h=>wpAny_pyIter_rangeiter st h
section
variable {X:Cx}{tg:Expr}
noncomputable def zhS (K:Fgx) (tl:TE):TI:=fun σ H R=>tl σ H fun x H1=>∃a,x=.ref a/\(∃xs,fW K H1 a xs)/\R (Uc K a) H1
theorem zeM {l:Expr}{tl:TE}(hl:PE X l tl):PI X tg l (zhS X.K tl):=by
 intro pins s σ H R I h;refine aX (hl pins s σ H _ I h) fun v s1 ⟨x,H1,I1,r1,q1⟩=>?_;obtain⟨a,e,⟨xs,hq⟩,q⟩:=q1;subst e;cases r1;obtain⟨its,rv,p,hz⟩:=I1.list hq;refine wpAny_pyIter_list p.isList ?_;refine⟨s1.heap.objs.size,[s1.heap.objs.size],_,_,H1,rfl,I1.kept (t':=s1.toks) fun b o e=>xaa _ e,zcR a _,⟨_,xas _ rfl,rfl,rfl⟩,fun b hb=>?_,q⟩;have e:b=s1.heap.objs.size:=by simpa using hb
 subst e;exact I1.fpOk (xag _) (I1.hok.fresh (xag _))
theorem zde {pins:Pnx}{σ:St}{H:Hp}{s:Shared}{R:It->Hp->Prop}{E:Value->Shared->Prop}{lo hi:Int}{t u v:Tok}{tk:Nat}(I:Inv X pins σ H s)(h1: -(2 ^ 62)<=lo)(h2:lo<2 ^ 62)(h3: -(2 ^ 62)<=hi)(h4:hi<2 ^ 62)
  (q:R (Hl lo (hi - lo).toNat) H):wpAny (model X.prog X.w) X.A (pyIter (.ref s.heap.objs.size)) (PIE X pins σ tg R) E {s with heap:=s.heap.push {cls:=.type "range",data:=.fields #[.int lo t,.int hi u,.int 1 v]},toks:=tk}:=by
 refine wpAny_pyIter_range (IsRange.new ..) (small_one h1 h2 h3 h4) ?_;have I1 : Inv X pins σ H { s with heap := s.heap.push { cls := .type "range", data := .fields #[.int lo t, .int hi u, .int 1 v] }, toks := tk } := I.kept fun b o e => xaa _ e;refine ⟨(s.heap.push {cls:=.type "range",data:=.fields #[.int lo t,.int hi u,.int 1 v]}).objs.size,[(s.heap.push {cls:=.type "range",data:=.fields #[.int lo t,.int hi u,.int 1 v]}).objs.size],_,_,H,rfl,
  I1.kept (t':=tk) fun b o e=>xaa _ e,zbW _ lo (hi - lo).toNat,?_,fun b hb=>?_,q⟩
 ·have e1:lo + ((0:Nat):Int) * 1=lo:=by simp
  have e2:(((hi - lo).toNat:Nat):Int) - ((0:Nat):Int)=Builtin.Range.rangeSize lo hi 1:=by rw[rangeSize_one];split<;>omega
  show IsRangeIter _ _ (lo + ((0:Nat):Int) * 1) ((((hi - lo).toNat:Nat):Int) - ((0:Nat):Int)) 1;rw[e1,e2];exact xas _ rfl
 ·have e:b=(s.heap.push {cls:=.type "range",data:=.fields #[.int lo t,.int hi u,.int 1 v]}).objs.size:=by simpa using hb
  subst e;exact I1.fpOk (xag _) (I1.hok.fresh (xag _))
noncomputable def yt (ta:TA):TI:=fun σ H R=>ta σ H fun vs H1=>∃j:Int,vs=[.int j]/\ -(2 ^ 62)<=j/\j<2 ^ 62/\R (Hl 0 j.toNat) H1
theorem zcm {a:Expr}{ta:TA}{p pos:Pos}(hg:Gl X "range")(hm:X.mg "range"=none)(ha:PA X [a] ta)(hs:starEach [a] X.env=[(false,eval a X.env)]:=by rfl):PI X tg (.Call (.Name "range" p) [a] [] pos) (yt ta):=by
  intro pins s σ H R I h;refine Call_ (FP I hg hm boot_range (xbY (aX (ha pos pins s σ H _ I h) fun us s1 ⟨vs,H1,I1,r1,q1⟩=>?_) hs rfl));obtain⟨j,e,q1,q2,q⟩:=q1;subst e
  cases r1 with
  |cons r rr=>
    cases rr;obtain⟨t,rfl⟩:=r;exact call_range_1 (zde I1 (by omega) (by omega) q1 q2 (by simpa using q))
noncomputable def S_ (wi:TI) (g:TG) (tb:TS):TS:=fun D σ H=>wi σ H fun J H1=>∃W:Nat->Nat->St->Hp->Prop,(∃m,W 0 m σ H1)/\∀i m σ H,W i m σ H->
 (J.stop i H/\D.nx σ H)\/(J.go i H/\∃N:St->Hp->Prop,(∀σ' H',N σ' H'->∃m',m'<m/\W (i + 1) m' σ' H')/\∀x H',J.yld i H x H'->g x σ H' fun σ2 H2=>tb {D with nx:=N,ct:=N,bk:=D.nx} σ2 H2)
noncomputable def Gh (fp:List Addr) (h:Heap):Pnx:=fp.filterMap fun b=>(h.get? b).map fun o=>(b,o)
theorem Jv (hb:b∈fp)(e:h.get? b=some o):(b,o)∈Gh fp h:=xdp.mpr ⟨b,hb,by rw[e];rfl⟩
theorem zcs (hp:p∈Gh fp h):p.1∈fp/\h.get? p.1=some p.2:=by
  obtain⟨b,hb,e⟩:=xdp.mp hp
  cases q:h.get? b with
  |none=>rw[q]at e;cases e
  |some o=>
    rw[q]at e;have e':(b,o)=p:=xau e;subst e';exact⟨hb,q⟩
theorem Inv.pinned (I:Inv X pins σ H s)(hf:∀b∈fp,kI X pins H b)(ho:∀b∈fp,∃o,s.heap.get? b=some o/\∀v,o.data≠ .cell v):Inv X (pins ++ Gh fp s.heap) σ H s:=
 I.pins_of fun p hp=>(xbe.mp hp).elim (fun z=>I.pin p (xay _ z)) fun z=>by
  obtain⟨hb,e⟩:=zcs z;obtain⟨f0,f1,f2,_⟩:=hf p.1 hb;obtain⟨o,e',d⟩:=ho p.1 hb;rw[e]at e';cases e';exact⟨e,f0,f1,f2,d⟩
theorem Inv.unpinned (I:Inv X (pins ++ pl) σ H s):Inv X pins σ H s:=I.pins_of fun p hp=>I.pin p (xay _ (xct _ hp))
theorem zgb (hp:PassesOwn (model X.prog X.w) X.A X.env X.xe)(hc:X.calm=true)(hi:PI X tg iter wi)(hg:PG X tg g)(hb:nQ X body tb)
  (hs:∀x,foldedSetIterable iter X.env x=pure x:=by intro _;rfl):PS X (.For tg iter body [] pos) (S_ wi g tb):=by
 intro pins s σ H D I h;refine wpAny_For (aX (hi pins s σ H _ I h) fun v s1 h1=>aX h1 fun itv s2 h2=>?_) hs;obtain⟨it,fp,tn,J,H2,e,I2,T,st2,f2,W,⟨m0,w0⟩,turn⟩:=h2;subst e
 -- what stays true of the iterator's objects through the loop
 have stat:∀{H':Hp},(∀b∈fp,H' b=none)->∀b∈fp,kI X pins H' b:=fun hn b hb=>⟨hn b hb,(f2 b hb).2⟩;refine codeAny_forLoop_any (fun n s'=>∃i σ' H',Inv X pins σ' H' s'/\tn i s'.heap/\(∀b∈fp,H' b=none)/\W i n σ' H') ?_ m0 ⟨0,σ,H2,I2,st2,fun b hb=>(f2 b hb).1,w0⟩;rintro n s3 ⟨i,σ3,H3,I3,st3,fr3,w3⟩;rcases turn i n σ3 H3 w3 with⟨stop,qn⟩ |⟨go,N,hN,step⟩
 ·refine xb6 hp (aX (T.done X rfl rfl rfl hc i pins s3 σ3 H3 X.xe I3 (stat fr3) st3 stop) fun r s4 ⟨hr,I4⟩=>?_);subst hr;exact wpAny_execs_nil ⟨σ3,H3,I4,qn⟩
 ·refine xb6 hp (aX (T.item X rfl rfl rfl hc i pins s3 σ3 H3 X.xe I3 (stat fr3) st3 go) fun r s4 ⟨u,hr,h4⟩=>?_);subst hr;refine xb6 hp (aX h4 fun _ s5 ⟨x,H5,I5,r5,y5,st5,fr5⟩=>?_);have I5':=I5.pinned (stat fr5) (T.obj _ _ st5);refine xb6 hp (aX (hg _ s5 σ3 H5 x u _ I5' r5 (step x H5 y5)) fun _ s6 ⟨σ6,H6,I6,q6⟩=>?_);refine xb6 hp (aX (hb _ s6 σ6 H6 _ I6 q6) fun f s7 q7=>?_);have again:∀{σ7:St} {H7:Hp},Inv X (pins ++ Gh fp s5.heap) σ7 H7 s7->N σ7 H7->∃m,m<n/\∃i σ' H',Inv X pins σ' H' s7/\tn i s7.heap/\(∀b∈fp,H' b=none)/\W i m σ' H':=fun {σ7 H7} I7 n7=>by
   obtain⟨m',hm,w7⟩:=hN σ7 H7 n7;refine⟨m',hm,i + 1,σ7,H7,I7.unpinned,T.keep _ _ _ st5 fun b hb o e=>(I7.pin (b,o) (xay _ (xay _ (Jv hb e)))).1,fun b hb=>?_,w7⟩;obtain⟨o,e,d⟩:=T.obj _ _ st5 b hb;exact(I7.pin (b,o) (xay _ (xay _ (Jv hb e)))).2.1
  cases f with
  |next=>obtain⟨σ7,H7,I7,n7⟩:=q7;exact again I7 n7
  |cont=>obtain⟨σ7,H7,I7,n7⟩:=q7;exact again I7 n7
  |brk=>obtain⟨σ7,H7,I7,q7⟩:=q7;exact⟨σ7,H7,I7.unpinned,q7⟩
  |ret v=>obtain⟨x7,σ7,H7,I7,r7,q7⟩:=q7;exact⟨x7,σ7,H7,I7.unpinned,r7,q7⟩
end
abbrev R2:=V->V->Hp->VK->Prop
def eX (X:Cx)(f:Value->Value->Sem Value)(r:R2):Prop:=
 ∀(pins:Pnx) (s:Shared) (σ:St) (H:Hp) (x y:V) (v u:Value) (Q:VK),Inv X pins σ H s->RelV x v->RelV y u->r x y H Q->
  wpAny (model X.prog X.w) X.A (f v u) (EP X pins σ Q) X.xe s
def Hr (X:Cx)(f:Value->Sem Value)(r:V->Hp->VK->Prop):Prop:=
 ∀(pins:Pnx) (s:Shared) (σ:St) (H:Hp) (x:V) (v:Value) (Q:VK),Inv X pins σ H s->RelV x v->r x H Q->
  wpAny (model X.prog X.w) X.A (f v) (EP X pins σ Q) X.xe s
def iB (X:Cx)(f:Value)(r:List V->Hp->VK->Prop):Prop:=
 ∀(pins:Pnx) (s:Shared) (σ:St) (H:Hp) (xs:List V) (us:List Value) (Q:VK),Inv X pins σ H s->Vals xs us->r xs H Q->
  wpAny (model X.prog X.w) X.A (call f us) (EP X pins σ Q) X.xe s
def Lr (X:Cx)(r:V->Hp->(Bool->Hp->Prop)->Prop):Prop:=
 ∀(pins:Pnx) (s:Shared) (σ:St) (H:Hp) (x:V) (v:Value) (Q:Bool->Hp->Prop),Inv X pins σ H s->RelV x v->r x H Q->
  wpAny (model X.prog X.w) X.A (truthy v) (TP X pins σ Q) X.xe s
noncomputable def G7 (r:R2) (ta tb:TE):TE:=fun σ H Q=>ta σ H fun x H1=>tb σ H1 fun y H2=>r x y H2 Q
noncomputable def ZG (r:V->Hp->VK->Prop) (ta:TE):TE:=fun σ H Q=>ta σ H fun x H1=>r x H1 Q
noncomputable def rI (C:Int->Int->Prop) (g:Int->Int->V):R2:=fun x y H Q=>∃i j,x=.int i/\y=.int j/\C i j/\Q (g i j) H
noncomputable def nZ (g:Int->Int->V):R2:=fun x y H Q=>∃i j,x=.int i/\y=.int j/\Q (g i j) H
def rU (g:Int->V):V->Hp->VK->Prop:=fun x H Q=>∃i,x=.int i/\Q (g i) H
section
variable {X:Cx}{a b c:Expr}{ta tb tc:TE}{pos:Pos}
theorem z7 (ha:PE X a ta)(hb:PE X b tb){pins:Pnx}{s:Shared}{σ:St}{H:Hp}{R:V->V->Hp->Prop}(I:Inv X pins σ H s)
  (h:ta σ H fun x H1=>tb σ H1 fun y H2=>R x y H2) {Q:Value->Shared->Prop} {f:Value->Value->Sem Value}
  (hf:∀v u s2 x y H2,Inv X pins σ H2 s2->RelV x v->RelV y u->R x y H2->wpAny (model X.prog X.w) X.A (f v u) Q X.xe s2):
  wpAny (model X.prog X.w) X.A (eval a X.env) (fun v s₁=>wpAny (model X.prog X.w) X.A (eval b X.env) (fun u s₂=>wpAny (model X.prog X.w) X.A (f v u) Q X.xe s₂) X.xe s₁) X.xe s:=by
 refine aX (ha pins s σ H _ I h) fun v s1 ⟨x,H1,I1,r1,q1⟩=>?_;refine aX (hb pins s1 σ H1 _ I1 q1) fun u s2 ⟨y,H2,I2,r2,q2⟩=>?_;exact hf v u s2 x y H2 I2 r1 r2 q2
theorem QS {op:Operator}{r:R2}(ho:eX X (binaryOp op) r)(ha:PE X a ta)(hb:PE X b tb):PE X (.BinOp a op b pos) (G7 r ta tb):=by
 intro pins s σ H Q I h;exact wpAny_BinOp (z7 ha hb I h fun v u s2 x y H2 I2 rx ry q=>ho pins s2 σ H2 x y v u Q I2 rx ry q)
theorem ziz (ho:Hr X (unaryOp op) r)(ha:PE X a ta):PE X (.UnaryOp op a pos) (ZG r ta):=by
 intro pins s σ H Q I h;exact UnaryOp_ (aX (ha pins s σ H _ I h) fun v s1 ⟨x,H1,I1,r1,q1⟩=>ho pins s1 σ H1 x v Q I1 r1 q1)
theorem JD {f:Value->Value->Sem Value}{C:Int->Int->Prop}{g:Int->Int->Int}
  (rule:∀(i j:Int) (t u:Tok) (s:Shared) (Q:Value->Shared->Prop) (E:Value->Shared->Prop),C i j->Q (.int (g i j) s.toks) {s with toks:=s.toks + 1}->wpAny (model X.prog X.w) X.A (f (.int i t) (.int j u)) Q E s):
  eX X f (rI C fun i j=>.int (g i j)):=by
 intro pins s σ H x y v u Q I rx ry h;obtain⟨i,j,rfl,rfl,hc,q⟩:=h;obtain⟨t,rfl⟩:=rx;obtain⟨t',rfl⟩:=ry;exact rule i j t t' s _ _ hc ⟨.int (g i j),H,I.tok _,⟨_,rfl⟩,q⟩
theorem Ge {f:Value->Value->Sem Value}{g:Int->Int->Int}
  (rule:∀(i j:Int) (t u:Tok) (s:Shared) (Q:Value->Shared->Prop) (E:Value->Shared->Prop),Q (.int (g i j) s.toks) {s with toks:=s.toks + 1}->wpAny (model X.prog X.w) X.A (f (.int i t) (.int j u)) Q E s):
  eX X f (nZ fun i j=>.int (g i j)):=by
 intro pins s σ H x y v u Q I rx ry h;obtain⟨i,j,rfl,rfl,q⟩:=h;obtain⟨t,rfl⟩:=rx;obtain⟨t',rfl⟩:=ry;exact rule i j t t' s _ _ ⟨.int (g i j),H,I.tok _,⟨_,rfl⟩,q⟩
theorem wY {f:Value->Value->Sem Value}{g:Int->Int->Bool}
  (rule:∀(i j:Int) (t u:Tok) (s:Shared) (Q:Value->Shared->Prop) (E:Value->Shared->Prop),Q (.bool (g i j)) s->wpAny (model X.prog X.w) X.A (f (.int i t) (.int j u)) Q E s):
  eX X f (nZ fun i j=>.bl (g i j)):=by
 intro pins s σ H x y v u Q I rx ry h;obtain⟨i,j,rfl,rfl,q⟩:=h;obtain⟨t,rfl⟩:=rx;obtain⟨t',rfl⟩:=ry;exact rule i j t t' s _ _ ⟨.bl (g i j),H,I,rfl,q⟩
def Dq (i j:Int):Prop:=0<j/\j<1073741824
def zY (i j:Int):Prop:=0<=j/\j<=1000000/\i.natAbs<2 ^ 64
def wC (i j:Int):Prop:=(-(2 ^ 64)<i/\i<2 ^ 64)\/(-(2 ^ 64)<j/\j<2 ^ 64)
theorem wC.ok (h:wC i j):IntMulOk i j:=by
 rcases h with⟨h1,h2⟩ |⟨h1,h2⟩
 ·exact .of_left (intBits_le_64 h1 h2)
 ·exact .of_right (intBits_le_64 h1 h2)
theorem zg3:eX X (binaryOp .Add) (nZ fun i j=>.int (i + j)):=Ge fun _ _ _ _ _ _ _ q=>add_int q
theorem tQ:eX X (binaryOp .Sub) (nZ fun i j=>.int (i - j)):=Ge fun _ _ _ _ _ _ _ q=>sub_int q
theorem rD:eX X (binaryOp .FloorDiv) (rI Dq fun i j=>.int (i / j)):=JD fun i j _ _ _ _ _ hc q=>by
 have h1:(0:Int)<j:=hc.1;have h2:j<1073741824:=hc.2;exact floordiv_int (by omega) (by rw[Int.fdiv_eq_ediv_of_nonneg i (by omega)];exact q) (.inl (PyProof.noPylong_small (by omega)))
theorem gP:eX X (binaryOp .Mod) (rI (fun _ j=>0<j) fun i j=>.int (i % j)):=JD fun i j _ _ _ _ _ hc q=>by
 have h1:(0:Int)<j:=hc;exact mod_int' (by omega) (by rw[Int.fmod_eq_emod_of_nonneg i (by omega)];exact q)
theorem tO:eX X (binaryOp .Pow) (rI zY fun i j=>.int (i ^ j.toNat)):=JD fun _ _ _ _ _ _ _ hc q=>pow_int_small hc.1 hc.2.1 hc.2.2 q
theorem unI {f:Value->Sem Value}{g:Int->Int}
  (rule:∀(i:Int) (t:Tok) (s:Shared) (Q:Value->Shared->Prop) (E:Value->Shared->Prop),Q (.int (g i) s.toks) {s with toks:=s.toks + 1}->wpAny (model X.prog X.w) X.A (f (.int i t)) Q E s):
  Hr X f (rU fun i=>.int (g i)):=by
 intro pins s σ H x v Q I rx h;obtain⟨i,rfl,q⟩:=h;obtain⟨t,rfl⟩:=rx;exact rule i t s _ _ ⟨.int (g i),H,I.tok _,⟨_,rfl⟩,q⟩
theorem ZX:Hr X (unaryOp .USub) (rU fun i=>.int (-i)):=unI fun _ _ _ _ _ q=>neg_int q
end
noncomputable def xJ:V->V->Bool
 |.non,.non=>true |.non,.int _=>true |.int _,.non=>true |.non,.bl _=>true |.bl _,.non=>true |.non,.str _=>true |.str _,.non=>true
 |.int _,.int _=>true |.bl _,.bl _=>true |.str _,.str _=>true |.byt _,.byt _=>true
 |.int _,.str _=>true |.str _,.int _=>true |.bl _,.str _=>true |.str _,.bl _=>true
 |_,_=>false
def rEq:R2:=fun x y H Q=>xJ x y=true/\Q (.bl (decide (x=y))) H
def rNe:R2:=fun x y H Q=>xJ x y=true/\Q (.bl (!decide (x=y))) H
theorem Ve:decide (V.int i=V.int j)=(i==j):=by
 rw[xaH]
 simp
theorem Jj:decide (V.bl i=V.bl j)=(i==j):=by
 rw[xaH]
 simp
theorem Vf:decide (V.str i=V.str j)=(i==j):=by
 rw[xaH]
 simp
theorem Vd:decide (V.byt i=V.byt j)=(i.toList==j.toList):=by
 rw[xaH];cases i;cases j
 simp
section
variable {X:Cx}{a b c:Expr}{ta tb tc:TE}{pos:Pos}
theorem dZ (I:Inv X pins σ H s)(q:Q (.bl k) H)(e:k=k'):EP X pins σ Q (.bool k') s:=by
 subst e;exact⟨.bl k,H,I,rfl,q⟩
theorem QK:eX X (compareOp .Eq) rEq:=by
  intro pins s σ H x y v u Q I rx ry h;obtain⟨hs,q⟩:=h
  cases x with
  |non=>
    cases rx
    cases y with
    |non=>cases ry;exact PySem.EqNone.eq_none_none (dZ I q (by simp))
    |bl j=>cases ry;exact PySem.EqNone.eq_none_bool (dZ I q (by simp))
    |int j=>obtain⟨t',rfl⟩:=ry;exact PySem.EqNone.eq_none_int (dZ I q (by simp))
    |str j=>obtain⟨t',rfl⟩:=ry;exact PySem.EqNone.eq_none_str (dZ I q (by simp))
    |_=>exact absurd (show false=true from hs) xaq
  |bl i=>
    cases rx
    cases y with
    |non=>cases ry;exact PySem.EqNone.eq_bool_none (dZ I q (by simp))
    |bl j=>cases ry;exact eq_bool (dZ I q Jj)
    |str j=>obtain⟨t',rfl⟩:=ry;exact PySem.EqMixed.eq_bool_str (dZ I q (by simp))
    |_=>exact absurd (show false=true from hs) xaq
  |int i=>
    obtain⟨t,rfl⟩:=rx
    cases y with
    |non=>cases ry;exact PySem.EqNone.eq_int_none (dZ I q (by simp))
    |int j=>obtain⟨t',rfl⟩:=ry;exact eq_int (dZ I q Ve)
    |str j=>obtain⟨t',rfl⟩:=ry;exact PySem.EqMixed.eq_int_str (dZ I q (by simp))
    |_=>exact absurd (show false=true from hs) xaq
  |str i=>
    obtain⟨t,rfl⟩:=rx
    cases y with
    |non=>cases ry;exact PySem.EqNone.eq_str_none (dZ I q (by simp))
    |bl j=>cases ry;exact PySem.EqMixed.eq_str_bool (dZ I q (by simp))
    |int j=>obtain⟨t',rfl⟩:=ry;exact PySem.EqMixed.eq_str_int (dZ I q (by simp))
    |str j=>obtain⟨t',rfl⟩:=ry;exact eq_str (dZ I q Vf)
    |_=>exact absurd (show false=true from hs) xaq
  |byt i=>
    obtain⟨t,rfl⟩:=rx
    cases y with
    |byt j=>obtain⟨t',rfl⟩:=ry;exact PySem.W.eq_bytes (dZ I q Vd)
    |_=>exact absurd (show false=true from hs) xaq
  |_=>cases y<;>exact absurd (show false=true from hs) xaq
theorem zjm:eX X (compareOp .NotEq) rNe:=by
  intro pins s σ H x y v u Q I rx ry h;obtain⟨hs,q⟩:=h
  cases x with
  |non=>
    cases rx
    cases y with
    |non=>cases ry;exact PySem.EqNone.ne_none_none (dZ I q (by simp))
    |bl j=>cases ry;exact PySem.EqNone.ne_none_bool (dZ I q (by simp))
    |int j=>obtain⟨t',rfl⟩:=ry;exact PySem.EqNone.ne_none_int (dZ I q (by simp))
    |str j=>obtain⟨t',rfl⟩:=ry;exact PySem.EqNone.ne_none_str (dZ I q (by simp))
    |_=>exact absurd (show false=true from hs) xaq
  |bl i=>
    cases rx
    cases y with
    |non=>cases ry;exact PySem.EqNone.ne_bool_none (dZ I q (by simp))
    |bl j=>cases ry;exact ne_bool (dZ I q (congrArg not Jj))
    |str j=>obtain⟨t',rfl⟩:=ry;exact PySem.EqMixed.ne_bool_str (dZ I q (by simp))
    |_=>exact absurd (show false=true from hs) xaq
  |int i=>
    obtain⟨t,rfl⟩:=rx
    cases y with
    |non=>cases ry;exact PySem.EqNone.ne_int_none (dZ I q (by simp))
    |int j=>obtain⟨t',rfl⟩:=ry;exact ne_int (dZ I q (congrArg not Ve))
    |str j=>obtain⟨t',rfl⟩:=ry;exact PySem.EqMixed.ne_int_str (dZ I q (by simp))
    |_=>exact absurd (show false=true from hs) xaq
  |str i=>
    obtain⟨t,rfl⟩:=rx
    cases y with
    |non=>cases ry;exact PySem.EqNone.ne_str_none (dZ I q (by simp))
    |bl j=>cases ry;exact PySem.EqMixed.ne_str_bool (dZ I q (by simp))
    |int j=>obtain⟨t',rfl⟩:=ry;exact PySem.EqMixed.ne_str_int (dZ I q (by simp))
    |str j=>obtain⟨t',rfl⟩:=ry;exact ne_str (dZ I q (congrArg not Vf))
    |_=>exact absurd (show false=true from hs) xaq
  |byt i=>
    obtain⟨t,rfl⟩:=rx
    cases y with
    |byt j=>obtain⟨t',rfl⟩:=ry;exact PySem.W.ne_bytes (dZ I q (congrArg not Vd))
    |_=>exact absurd (show false=true from hs) xaq
  |_=>cases y<;>exact absurd (show false=true from hs) xaq
theorem JF:eX X (compareOp .Lt) (nZ fun i j=>.bl (decide (i<j))):=wY fun _ _ _ _ _ _ _ q=>lt_int q
theorem zju:eX X (compareOp .LtE) (nZ fun i j=>.bl (decide (i<=j))):=wY fun _ _ _ _ _ _ _ q=>le_int q
theorem ziU:eX X (compareOp .Gt) (nZ fun i j=>.bl (decide (j<i))):=wY fun _ _ _ _ _ _ _ q=>gt_int q
theorem zid:eX X (compareOp .GtE) (nZ fun i j=>.bl (decide (j<=i))):=wY fun _ _ _ _ _ _ _ q=>ge_int q
theorem zcA:eX X (compareOp .In) (fun x y H Q=>∃i j,x=.str i/\y=.str j/\Q (.bl (!(Builtin.Str.occurrences j i 0 j.length 1).isEmpty)) H):=by
 intro pins s σ H x y v u Q I rx ry h;obtain⟨i,j,rfl,rfl,q⟩:=h;obtain⟨t,rfl⟩:=rx;obtain⟨t',rfl⟩:=ry;exact in_str (dZ I q rfl)
theorem zfJ:eX X (compareOp .Is) (fun x y H Q=>y=.non/\Q (.bl (decide (x=.non))) H):=by
 intro pins s σ H x y v u Q I rx ry h;obtain⟨rfl,q⟩:=h;cases ry;refine is_none_gen (dZ I q ?_);cases x<;>first
  |(cases rx;rfl)
  |(obtain⟨t,rfl⟩:=rx;rfl)
theorem zeY:eX X (compareOp .IsNot) (fun x y H Q=>y=.non/\Q (.bl (!decide (x=.non))) H):=by
 intro pins s σ H x y v u Q I rx ry h;obtain⟨rfl,q⟩:=h;cases ry;refine isnot_none_gen (dZ I q ?_);cases x<;>first
  |(cases rx;rfl)
  |(obtain⟨t,rfl⟩:=rx;rfl)
theorem zbE:eX X (compareOp .NotIn) (fun x y H Q=>∃i j,x=.str i/\y=.str j/\Q (.bl (!(!(Builtin.Str.occurrences j i 0 j.length 1).isEmpty))) H):=by
 intro pins s σ H x y v u Q I rx ry h;obtain⟨i,j,rfl,rfl,q⟩:=h;obtain⟨t,rfl⟩:=rx;obtain⟨t',rfl⟩:=ry;exact notIn_str (dZ I q rfl)
theorem eX.or (h:eX X f r)(h':eX X f r'):eX X f (fun x y H Q=>r x y H Q\/r' x y H Q):=by
 intro pins s σ H x y v u Q I rx ry q;rcases q with q |q
 ·exact h pins s σ H x y v u Q I rx ry q
 ·exact h' pins s σ H x y v u Q I rx ry q
theorem zeE {op:CmpOp}{r:R2}(ho:eX X (compareOp op) r)(ha:PE X a ta)(hb:PE X b tb)(hm:behindInMarks op b=false):PE X (.Compare a [op] [b] pos) (G7 r ta tb):=by
 intro pins s σ H Q I h;exact wpAny_Compare1 (z7 ha hb I h fun v u s2 x y H2 I2 rx ry q=>ho pins s2 σ H2 x y v u Q I2 rx ry q) hm
noncomputable def ZF (t:TE):TT:=fun σ H Q=>t σ H fun x H'=>∃k,x=.bl k/\Q k H'
theorem zem (ho:eX X (compareOp op) r)(ha:PE X a ta)(hb:PE X b tb)(hm:behindInMarks op b=false):PT X (.Compare a [op] [b] pos) (ZF (G7 r ta tb)):=by
 intro pins s σ H Q I h;refine wpAny_isTrue_Compare1 (aX (ha pins s σ H _ I h) fun v s1 ⟨x,H1,I1,r1,q1⟩=>aX (hb pins s1 σ H1 _ I1 q1) fun u s2 ⟨y,H2,I2,r2,q2⟩=>
  aX (ho pins s2 σ H2 x y v u _ I2 r1 r2 q2) fun c s3 ⟨z,H3,I3,r3,k,e,q3⟩=>?_) hm
 subst e;cases r3;exact xbw ⟨H3,I3,q3⟩
def wG (K:Fgx)(x:V)(H:Hp)(k:Bool):Prop:=
 match x with
 |.non=>k=false
 |.bl b=>k=b
 |.int i=>k=(i !=0)
 |.str y=>y.length<=sizeLine/\k=((y.length:Int) !=0)
 |.byt y=>y.size<=sizeLine/\k=((y.size:Int) !=0)
 |.ref p=>(∃xs,fW K H p xs/\k= !xs.isEmpty)\/(∃xs,kW K H p xs/\k= !xs.isEmpty)\/∃kvs,H p=some (.dK kvs)/\k= !kvs.isEmpty
 |_=>False
theorem zbY (r:KV kvs vs):(!vs.isEmpty)= !kvs.isEmpty:=by
 cases r<;>rfl
theorem V0 (r:Vals xs its):(!its.toArray.isEmpty)= !xs.isEmpty:=by
 cases r<;>simp
theorem yD:(sizeLine:Nat)<2 ^ 63:=by rw[xaY];decide
theorem ZQ:Lr X (fun x H Q=>∃k,wG X.K x H k/\Q k H):=by
  intro pins s σ H x v Q I rx h;obtain⟨k,e,q⟩:=h;have hl:=yD;have hs:sizeLine=16777216:=xaY
  cases x with
  |non=>
    cases rx;have e':k=false:=e;subst e';exact truthy_none ⟨H,I,q⟩
  |bl b=>
    cases rx;have e':k=b:=e;subst e';exact xbw ⟨H,I,q⟩
  |int i=>
    obtain⟨t,rfl⟩:=rx;have e':k=(i !=0):=e;subst e';exact PySem.P.truthy_int ⟨H,I,q⟩
  |str y=>
    obtain⟨t,rfl⟩:=rx;obtain⟨hy,e'⟩:y.length<=sizeLine/\k=((y.length:Int) !=0):=e;subst e';exact PySem.P.truthy_str (by omega) ⟨H,I.tok _,q⟩
  |byt y=>
    obtain⟨t,rfl⟩:=rx;obtain⟨hy,e'⟩:y.size<=sizeLine/\k=((y.size:Int) !=0):=e;subst e';exact PySem.W.truthy_bytes (by omega) ⟨H,I.tok _,q⟩
  |ref p=>
    cases rx;have e':(∃xs,fW X.K H p xs/\k= !xs.isEmpty)\/(∃xs,kW X.K H p xs/\k= !xs.isEmpty)\/∃kvs,H p=some (.dK kvs)/\k= !kvs.isEmpty:=e;rcases e' with⟨xs,hx,e'⟩ |⟨xs,hx,e'⟩ |⟨kvs,hx,e'⟩
    · subst e';obtain⟨its,r,pl,hz⟩:=I.list hx;have hlen:=r.length;exact wpAny_truthy_list pl.isList (by simp only[xae];omega) ⟨H,I.tok _,by rw[V0 r];exact q⟩
    · subst e';obtain⟨its,r,pl,hz⟩:=I.tuple hx;have hlen:=r.length;exact truthy_tuple pl (by simp only[xae];omega) ⟨H,I.tok _,by rw[V0 r];exact q⟩
    · subst e';obtain⟨hz,hS,vs,r,m⟩:kvs.length<=sizeLine/\(p==sysModules)=false/\∃vs,KV kvs vs/\s.heap.DictOf (wg X.prog X.w) p vs:=I.hok p _ hx;have hlen:kvs.length=vs.length:=Paired.length r;exact wpAny_truthy_dict hS m (by omega) ⟨H,I.tok _,by rw[zbY r];exact q⟩
  |_=>exact(show False from e).elim
theorem zdn (ha:PE X a ta)(he:∀whole,isTrue a X.env whole=(do let v <-whole;standAt a.pos;holding [v] (truthy v))):
  PT X a (fun σ H Q=>ta σ H fun x H'=>∃k,wG X.K x H' k/\Q k H'):=by
 intro pins s σ H Q I h;exact isTrue_plain (aX (ha pins s σ H _ I h) fun v s1 ⟨x,H1,I1,r1,q1⟩=>ZQ pins s1 σ H1 x v Q I1 r1 q1) (he _)
theorem zbZ:eX X (binaryOp .Add) (fun x y H Q=>∃i j,x=.str i/\y=.str j/\i.length + j.length<=sizeLine/\Q (.str (i ++ j)) H):=by
 intro pins s σ H x y v u Q I rx ry h;obtain⟨i,j,rfl,rfl,hz,q⟩:=h;obtain⟨t,rfl⟩:=rx;obtain⟨t',rfl⟩:=ry;exact add_str (fun t' tk=>⟨.str (i ++ j),H,I.tok _,⟨_,rfl⟩,q⟩) hz
theorem vals1 (r:Vals [x] us):∃u,us=[u]/\RelV x u:=by
 cases r with
 |cons r1 r2=>cases r2;exact⟨_,rfl,r1⟩
theorem vals2 (r:Vals [x,y] us):∃u w',us=[u,w']/\RelV x u/\RelV y w':=by
  cases r with
  |cons r1 r2=>
    cases r2 with
    |cons r3 r4=>cases r4;exact⟨_,_,rfl,r1,r3⟩
theorem Jf (hc:X.calm=true):iB X (.builtin "max") (fun xs H Q=>∃i j,xs=[.int i,.int j]/\Q (.int (if j > i then j else i)) H):=by
 intro pins s σ H xs us Q I r h;obtain⟨i,j,rfl,q⟩:=h;obtain⟨u,w',rfl,⟨t,rfl⟩,⟨t',rfl⟩⟩:=vals2 r;refine max_two_ints (I.ok.hd hc) fun h' tk k=>⟨_,H,I.kept k,?_,q⟩
 by_cases hj:j > i
 ·rw[xab hj,xab hj];exact⟨_,rfl⟩
 ·rw[xah hj,xah hj];exact⟨_,rfl⟩
theorem DR (hc:X.calm=true):iB X (.builtin "min") (fun xs H Q=>∃i j,xs=[.int i,.int j]/\Q (.int (if j<i then j else i)) H):=by
 intro pins s σ H xs us Q I r h;obtain⟨i,j,rfl,q⟩:=h;obtain⟨u,w',rfl,⟨t,rfl⟩,⟨t',rfl⟩⟩:=vals2 r;refine min_two_ints (I.ok.hd hc) fun h' tk k=>⟨_,H,I.kept k,?_,q⟩
 by_cases hj:j<i
 ·rw[xab hj,xab hj];exact⟨_,rfl⟩
 ·rw[xah hj,xah hj];exact⟨_,rfl⟩
theorem Jg:iB X (.type "str") (fun xs H Q=>∃i,xs=[.int i]/\i.natAbs.log2<1920/\Q (.str (toString i)) H):=by
 intro pins s σ H xs us Q I r h;obtain⟨i,rfl,hz,q⟩:=h;obtain⟨u,rfl,t,rfl⟩:=vals1 r;exact PySem.P.str_of_int hz ⟨.str _,H,I.tok _,⟨_,rfl⟩,q⟩
end
structure ObjM (h:Heap)(x dx C:Addr)(mA:Mgx):Prop where
 obj:h.get? x=some (PySem.W.instObj C dx)
 ns:h.Ns1 dx mA
 ne:dx≠x
theorem zcu {h:Heap}{dx:Addr}{mA:Mgx}(n:h.Ns1 dx mA):∃od,h.get? dx=some od/\∀name,PySem.W.lookIn name od=some (mA name):=by
 obtain⟨o,es,ep,ho,hd,hk,_,hm⟩:=n;refine⟨o,ho,fun name=>?_⟩;have e:=hm name;unfold nsFind findBy at e;rw[<-xdq]at e;unfold PySem.W.lookIn;rw[hd];dsimp only
 split
 ·rename_i y q;rw[q]at e;exact congrArg some e
 ·rename_i q;rw[q]at e;have a:es.toList.any (·.refKey)=false:=by
   rw[List.any_eq_false];intro y hy;obtain⟨z,t,hkey⟩:=hk y (Array.mem_toList_iff.mp hy)
   simp[DictEntry.refKey,hkey]
  have a':¬ es.toList.any (·.refKey)=true:=by rw[a];exact xaq
  rw[xah a'];exact congrArg some e
theorem ObjM.look (I:ObjM h x dx C mA):∃od,PySem.W.InstAt h x (PySem.W.instObj C dx) C (some od)/\∀name,PySem.W.lookIn name od=some (mA name):=
 let ⟨od,ho,hl⟩:=zcu I.ns
 ⟨od,⟨I.obj,rfl,rfl,ho⟩,hl⟩
section
variable {prog:Program}{w:World}{A:Around}{E:Value->Shared->Prop}{s:Shared}{K:Fgx}{x dx C f:Addr}{mA:Mgx}{name:Str}{v:Value}
theorem get_map (X:K.In s.heap)(I:ObjM s.heap x dx C mA)(hg:PySem.W.plainGet K C name=true)(hh:PySem.W.hasDictIn K C=true)
  (ha:PySem.W.findIn K (.ref C) name=some none) (hv:mA name=some v) (hv':PySem.W.handedIn v=true) (h:Q v {s with toks:=s.toks + 1}):
  wpAny (model prog w) A (getAttr (.ref x) name expr) Q E s:=by
 obtain⟨od,J,hl⟩:=I.look;exact PySem.W.get_value X J (xbE hg).1 (PySem.W.findObj_own hh ha rfl (by rw[hl,hv])) hv' h
theorem zdb (X:K.In s.heap)(I:ObjM s.heap x dx C mA)(hg:PySem.W.plainGet K C name=true)
  (hf:PySem.W.findIn K (.ref C) name=some (some (.ref f))) (ht:PySem.W.isFn K (.ref f)=true) (hv:mA name=none) (h:Q (.ref f,[.ref x]) s):
  wpAny (model prog w) A (getMethod (.ref x) name pl) Q E s:=by
 obtain⟨od,J,hl⟩:=I.look;exact PySem.W.method_fn X J (xbE hg).1 (xbE hg).2 hf (xbb.mp ht) (by show(PySem.W.lookIn name od).map (·.isSome)=some false;rw[hl,hv];rfl) h
theorem zdK (X:K.In s.heap)(I:ObjM s.heap x dx C mA)
  (hs:PySem.W.findIn K (.ref C) "__setattr__"=some (some (.builtin "object.__setattr__"))) (hp:PySem.W.plainOver K C=true) (ht:PySem.W.takerIn K C name=some none) (hh:PySem.W.hasDictIn K C=true)
  (hw:PySem.Within mA ns) (hsz:ns.length<=sizeLine)
  (h:∀h',ObjM h' x dx C (fun y=>if y=name then some v else mA y)->Heap.SameBut dx s.heap h'->Q () {s with heap:=h',toks:=s.toks + 2}):
  wpAny (model prog w) A (setAttr (.ref x) name v) Q E s:=by
 obtain⟨od,J,hl⟩:=I.look;refine PySem.W.set_plain X J hs (PySem.W.osa_open (s:={s with toks:=s.toks + 1}) (r:=none) X J hp ht fun b=>?_);obtain⟨cd,hc,hd'⟩:=PySem.W.any_some hh;have hx:s.heap.get? x=some ⟨.ref C,some dx,.plain, #[]⟩:=I.obj;refine tG (xaf (tG (tG (wpAny_loadPart hx (tG (PySem.W.Looks.here (s:={s with toks:=s.toks + 1}) (PySem.W.looks_clsIn X hc) ?_))))));rw[hd'];refine xaf (a:=some dx) (tG (xaf (tG ?_)));refine wpAny_nsSet1 (s:={s with toks:=s.toks + 1}) I.ns fun h' hn2 hs2=>?_;obtain⟨oD,esD,epD,hoD,hdD,hcD⟩:=hn2.count (PySem.Within.cons name v hw);refine tG (wpAny_lookBehind hoD (by rw[hdD];exact pastItsLine_dict (xav hcD (by rw[xar];omega))) ?_);exact xaf (h _ ⟨(hs2.2 _ (xbs I.ne)).trans I.obj,hn2,I.ne⟩ hs2)
theorem zdA (X:K.In s.heap)(hm:PySem.W.makesIn K C=true)
  (hi:PySem.W.findIn K (.ref C) "__init__"=some (some (.ref f))) (hf:PySem.W.typeIn K (.ref f)=some (.type "function"))
  (h:codeAny (model prog w) (A.under (.builtin "type.__call__" ⟨.ref C::vs,kw⟩)) (.call (.ref f) ⟨.ref (s.heap.objs.size + 1)::vs,kw⟩) (PySem.W.InitBack (s.heap.objs.size + 1) R)
   {s with heap:=(s.heap.push PySem.W.emptyDict).push (PySem.W.instObj C s.heap.objs.size)}):
  codeAny (model prog w) A (.call (.ref C) ⟨vs,kw⟩) R s:=by
 obtain⟨hh,g,d,t,os⟩:=s;exact PySem.W.make_core (PySem.W.makes_of X hm) (PySem.W.looks_findIn X hi) (fun self=>PySem.W.bind_fn X self hf) (.inl rfl) h
end
noncomputable def eF (f:Str) (v:V):List (Str×V)->List (Str×V)
 | []=>[(f,v)]
 |(g,x)::r=>if g=f then(g,v)::r else(g,x)::eF f v r
theorem Wj (f g:Str)(v:V):∀fs:List (Str×V),(eF f v fs).lookup g=if g=f then some v else fs.lookup g
  | []=>by
    show List.lookup g [(f,v)]=_
    by_cases h:g=f
    · have hb:(g==f)=true:=xbb.mpr h;simp only[List.lookup,hb,xab h]
    · have hb:(g==f)=false:=xa9.mpr h;simp only[List.lookup,hb,xah h]
  |(k,x)::r=>by
    have ih:=Wj f g v r;rw[show eF f v ((k,x)::r)=(if k=f then(k,v)::r else(k,x)::eF f v r) from rfl]
    by_cases hk:k=f
    · rw[xab hk]
      by_cases h:g=k
      · have hb:(g==k)=true:=xbb.mpr h;simp only[List.lookup,hb,xab (h.trans hk)]
      · have hb:(g==k)=false:=xa9.mpr h;simp only[List.lookup,hb,xah (fun e:g=f=>h (e.trans hk.symm))]
    · rw[xah hk]
      by_cases h:g=k
      · have hb:(g==k)=true:=xbb.mpr h;simp only[List.lookup,hb,xah (fun e:g=f=>hk (h.symm.trans e))]
      · have hb:(g==k)=false:=xa9.mpr h;simp only[List.lookup,hb];exact ih
theorem Oq (f:Str)(v:V):∀fs:List (Str×V),f∈(eF f v fs).map (·.1)/\∀g,g∈fs.map (·.1)->g∈(eF f v fs).map (·.1)
  | []=>⟨by simp[eF],fun g h=>by simp at h⟩
  |(k,x)::r=>by
    obtain⟨i1,i2⟩:=Oq f v r;rw[show eF f v ((k,x)::r)=(if k=f then(k,v)::r else(k,x)::eF f v r) from rfl]
    by_cases hk:k=f
    · rw[xab hk];subst hk;exact⟨by simp,fun g h=>by simpa using h⟩
    · rw[xah hk];refine⟨?_,fun g h=>?_⟩
      · rw[xaA];exact xap _ i1
      · rw[xaA]at h ⊢;rcases xaI.mp h with e |e
        · exact xaI.mpr (.inl e)
        · exact xap _ (i2 g e)
theorem Wf (f:Str)(v:V):∀fs:List (Str×V),(eF f v fs).length<=fs.length + 1
  | []=>by simp[eF]
  |(k,x)::r=>by
    have ih:=Wf f v r;rw[show eF f v ((k,x)::r)=(if k=f then(k,v)::r else(k,x)::eF f v r) from rfl]
    by_cases hk:k=f
    · rw[xab hk,xar,xar];omega
    · rw[xah hk,xar,xar];omega
theorem kO.some_of (r:kO (some v) o):∃u,o=some u/\RelV v u:=by
 cases o with
 |none=>exact(show False from r).elim
 |some u=>exact⟨u,rfl,r⟩
theorem kO.none_of (r:kO none o):o=none:=by
 cases o with
 |none=>rfl
 |some u=>exact(show False from r).elim
theorem zch (r:RelV v u):PySem.W.handedIn u=true:=by
 cases v with
 |non=>cases (show u=Value.none from r);rfl
 |bl b=>cases (show u=Value.bool b from r);rfl
 |int i=>obtain⟨t,e⟩:=(show ∃t,u=Value.int i t from r);cases e;rfl
 |str x=>obtain⟨t,e⟩:=(show ∃t,u=Value.str x t from r);cases e;rfl
 |byt b=>obtain⟨t,e⟩:=(show ∃t,u=Value.bytes b t from r);cases e;rfl
 |flt b=>obtain⟨t,e⟩:=(show ∃t,u=Value.float b t from r);cases e;rfl
 |ref a=>cases (show u=Value.ref a from r);rfl
 |ty n=>cases (show u=Value.type n from r);rfl
section
variable {P:Program}{w:World}{H H':Hp}{h h':Heap}{a C dx:Addr}{fs fs':List (Str×V)}
theorem Fp (hok:gh P w H h)(e:H a=some (.ins C dx fs)):∃mA,ObjM h a dx C mA/\(∀f,kO (fs.lookup f) (mA f))/\PySem.Within mA (fs.map (·.1))/\fs.length<=1000/\H dx=some (.own a):=by
 obtain⟨d,z,ne,ob,mA,n,r,q⟩:=(show iu P w H h a (.ins C dx fs) from hok a _ e);exact⟨mA,⟨ob,n,ne⟩,r,q,z,d⟩
end
structure Cls (K:Fgx)(C:Addr):Prop where
 pg:PySem.W.plainGet K C Str.empty=true
 hd:PySem.W.hasDictIn K C=true
 po:PySem.W.plainOver K C=true
 sa:PySem.W.findIn K (.ref C) "__setattr__"=some (some (.builtin "object.__setattr__"))
theorem Cls.get {K:Fgx}{C:Addr}(c:Cls K C)(f:Str):PySem.W.plainGet K C f=true:=c.pg
def kJ (K:Fgx)(C:Addr)(f:Str):Prop:=PySem.W.findIn K (.ref C) f=some none
theorem kJ.taker {K:Fgx}{C:Addr}{f:Str}(n:kJ K C f):PySem.W.takerIn K C f=some none:=by
 unfold PySem.W.takerIn;rw[show PySem.W.findIn K (.ref C) f=some none from n];rfl
structure Con (K:Fgx)(C:Addr)(f:Str)(v:V)(u:Value):Prop where
 at_:PySem.W.findIn K (.ref C) f=some (some u)
 rel:RelV v u
 get:PySem.W.specialIn K u "__get__"=some none
 cp:PySem.W.copiedNames.contains f=false
structure Meth (K:Fgx)(C:Addr)(m:Str)(f:Addr):Prop where
 at_:PySem.W.findIn K (.ref C) m=some (some (.ref f))
 fn:PySem.W.isFn K (.ref f)=true
 kp:PySem.W.keepIn K (.ref f)=true
section
variable {X:Cx}{pins:Pnx}{σ:St}{H:Hp}{s:Shared}{a C dx:Addr}{fs:List (Str×V)}{f:Str}{v:V}{A:Around}{E:Value->Shared->Prop}
theorem VD (I:Inv X pins σ H s)(e:H a=some (.ins C dx fs))(c:Cls X.K C)(n:kJ X.K C f)(l:fs.lookup f=some v)
  (h:∀u s',Inv X pins σ H s'->RelV v u->Q u s'):wpAny (model X.prog X.w) A (getAttr (.ref a) f b) Q E s:=by
 obtain⟨mA,O,r,_,_,_⟩:=Fp I.hok e;obtain⟨u,hu,ru⟩:=kO.some_of (v:=v) (o:=mA f) (by rw[<-l];exact r f);exact get_map I.kIn O (c.get f) c.hd n hu (zch ru) (h u _ (I.tok _) ru)
theorem VF (I:Inv X pins σ H s)(e:H a=some (.ins C dx fs))(c:Cls X.K C)(k:Meth X.K C m g)(l:fs.lookup m=none)
  (h:Q (.ref g,[.ref a]) s):wpAny (model X.prog X.w) A (getMethod (.ref a) m pl) Q E s:=by
 obtain⟨mA,O,r,_,_,_⟩:=Fp I.hok e;have hn:mA m=none:=kO.none_of (by rw[<-l];exact r m);exact zdb I.kIn O (c.get m) k.at_ k.fn hn h
theorem zcd (I:Inv X pins σ H s)(e:H a=some (.ins C dx fs))(c:Cls X.K C)(n:kJ X.K C f)(hl:fs.length<1000)(ry:RelV y u)
  (h:∀s',Inv X pins σ (upd H a (.ins C dx (eF f y fs))) s'->Q () s'):wpAny (model X.prog X.w) A (setAttr (.ref a) f u) Q E s:=by
 obtain⟨mA,O,r,wi,_,ho⟩:=Fp I.hok e;have hz:(fs.map (·.1)).length<=sizeLine:=by rw[xao,xaY];omega
 refine zdK I.kIn O c.sa c.po n.taker c.hd wi hz fun h' O' sb=>h _ ?_;have hd:∃o,h'.get? dx=some o:=let ⟨o,_,_,e',_⟩:=O'.ns;⟨o,e'⟩
 refine I.write (x:=a) (e:=dx) (by rw[e];exact True.intro) (.inr ho) (fun b q hb z=>(sb.2 b hb).trans z) hd ?_;refine⟨by rw[dD O.ne];exact ho,?_,O.ne,O'.obj,_,O'.ns,fun g=>?_,fun g hg=>?_⟩
 ·have:=Wf f y fs;omega
 ·show kO ((eF f y fs).lookup g) (if g=f then some u else mA g)
  rw[Wj]
  by_cases q:g=f
  ·rw[xab q,xab q];exact ry
  ·rw[xah q,xah q];exact r g
 ·by_cases q:g=f
  ·rw[q];exact(Oq f y fs).1
  ·refine(Oq f y fs).2 g (wi g fun z=>hg ?_);show(if g=f then some u else mA g)=none
   rw[xah q];exact z
theorem Inv.made (I:Inv X pins σ H s):Inv X pins σ (upd (upd H s.heap.objs.size (.own (s.heap.objs.size + 1))) (s.heap.objs.size + 1) (.ins C s.heap.objs.size []))
  {s with heap:=(s.heap.push PySem.W.emptyDict).push (PySem.W.instObj C s.heap.objs.size)}:=by
 have e1:(s.heap.push PySem.W.emptyDict).get? s.heap.objs.size=some PySem.W.emptyDict:=xas s.heap rfl;have e2:((s.heap.push PySem.W.emptyDict).push (PySem.W.instObj C s.heap.objs.size)).get? (s.heap.objs.size + 1)=some (PySem.W.instObj C s.heap.objs.size):=by
  have:=xas (s.heap.push PySem.W.emptyDict) (o:=PySem.W.instObj C s.heap.objs.size) rfl
  rwa [xbS]at this
 have e3:(s.heap.push PySem.W.emptyDict).Ns s.heap.objs.size (fun _=>none):=⟨PySem.W.emptyDict, #[],_,e1,rfl,(fun e he=>absurd he (by simp)),fun _=>rfl⟩;have I1:=I.laid (a:=s.heap.objs.size) (o:=.own (s.heap.objs.size + 1)) (h':=s.heap.push PySem.W.emptyDict) (t':=s.toks) (fun b u q=>xaa _ q) (xag _) ⟨_,e1⟩;refine I1.laid (a:=s.heap.objs.size + 1) (o:=.ins C s.heap.objs.size []) (t':=s.toks) (fun b u q=>xaa _ q) (xcu (xbS _ _)) ?_;have ne:s.heap.objs.size≠s.heap.objs.size + 1:=xaw (xbo _);refine⟨by rw[dD ne,fP],xci _,ne,e2,fun _=>none,(Heap.Ns1.of_empty e3).at fun o q=>xaa _ q,fun _=>True.intro,fun y hy=>absurd rfl hy⟩
theorem zec (hb:attributeBase e f env (eval e env)=eval e env)
  (h:wpAny (model prog w) A (eval e env) (fun o s₁=>wpAny (model prog w) A (getAttr o f true) Q E s₁) E s):wpAny (model prog w) A (eval (.Attribute e f pos) env) Q E s:=
 Attribute_any_ h (by rw[arm_eval_Attribute,hb])
end
noncomputable def S9 (K:Fgx) (ta:TE) (f:Str):TE:=fun σ H Q=>ta σ H fun x H1=>∃a C dx fs v,x=.ref a/\H1 a=some (.ins C dx fs)/\Cls K C/\kJ K C f/\fs.lookup f=some v/\Q v H1
noncomputable def RN (K:Fgx) (ta tv:TE) (f:Str):TS:=fun D σ H=>tv σ H fun y H1=>ta σ H1 fun x H2=>∃a C dx fs,x=.ref a/\H2 a=some (.ins C dx fs)/\Cls K C/\kJ K C f/\fs.length<1000/\
 D.nx σ (upd H2 a (.ins C dx (eF f y fs)))
section
variable {X:Cx}{o e value:Expr}{f:Str}{pos pos' tpos:Pos}{ta tv:TE}
theorem zgM (he:PE X e ta)(hb:attributeBase e f X.env (eval e X.env)=eval e X.env):PE X (.Attribute e f pos) (S9 X.K ta f):=by
 intro pins s σ H Q I h;refine zec hb (aX (he pins s σ H _ I h) fun u s1 ⟨x,H1,I1,rx,a,C,dx,fs,v,ex,ea,c,n,l,q⟩=>?_);subst ex;obtain rfl:u=Value.ref a:=rx;exact VD I1 ea c n l fun u' s2 I2 ru=>⟨v,H1,I2,ru,q⟩
theorem zgr (ha:PE X o ta)(hv:PE X value tv)(hs:swapsWith value (some (.Attribute o f pos')) pos.line X.env=pure false):PS X (.Assign [.Attribute o f pos'] value pos) (RN X.K ta tv f):=by
 intro pins s σ H D I h;refine plainObj_wpAny_Assign_Attribute (aX (hv pins s σ H _ I h) fun u s1 ⟨y,H1,I1,ry,q⟩=>aX (ha pins s1 σ H1 _ I1 q) fun ov s2 ⟨x,H2,I2,rx,a,C,dx,fs,ex,ea,c,n,l,q2⟩=>?_) hs;subst ex;obtain rfl:ov=Value.ref a:=rx;exact zcd I2 ea c n l ry fun s3 I3=>⟨σ,_,I3,q2⟩
noncomputable def Bg:V->V->Hp->VK->Prop:=fun x y H Q=>∃i j,x=.int i/\y=.int j/\Q (.int (i + j)) H
end
section
variable {X:Cx}{pins:Pnx}{σ:St}{H:Hp}{s:Shared}{A:Around}{E:Value->Shared->Prop}{Q:Value->Shared->Prop}{c:Value}{b:Bool}
inductive TyOf (K:Fgx)(H:Hp):V->Value->Prop where
 |non:TyOf K H .non (.type "NoneType")
 |bl (x:Bool):TyOf K H (.bl x) (.type "bool")
 |int (i:Int):TyOf K H (.int i) (.type "int")
 |str (x:Str):TyOf K H (.str x) (.type "str")
 |flt (x:UInt64):TyOf K H (.flt x) (.type "float")
 |lst {a:Addr} {xs:List V} (e:H a=some (.lst xs)):TyOf K H (.ref a) (.type "list")
 |frz {a:Addr} {o:Obj} {xs:List V} (e:H a=some (.frz o (.lst xs))):TyOf K H (.ref a) (.type "list")
 |tup {a:Addr} {xs:List V} (e:H a=some (.tup xs)):TyOf K H (.ref a) (.type "tuple")
 |dK {a:Addr} {kvs:List (Key×V)} (e:H a=some (.dK kvs)):TyOf K H (.ref a) (.type "dict")
 |dT {a:Addr} {kvs:List (List Key×V)} (e:H a=some (.dT kvs)):TyOf K H (.ref a) (.type "dict")
 |ins {a C dx:Addr} {fs:List (Str×V)} (e:H a=some (.ins C dx fs)) (cl:Cls K C) (ha:PySem.W.findIn K (.ref C) "__class__"=some (some (.builtin "object.__class__")))
   (hn:PySem.W.specialIn K (.builtin "object.__class__") "__get__"=some (some (.builtin "getset_descriptor.__get__"))) (htk:PySem.W.takesIn K (.builtin "object.__class__")=some true)
   (hm:PySem.W.mroIn K C (.type "object")=some true):TyOf K H (.ref a) (.ref C)
theorem Fw (I:Inv X pins σ H s)(rx:RelV x u)(ty:TyOf X.K H x t)(e:PySem.W.kitOne X.K t c=some b)(h:∀tk,Q (.bool b) {s with toks:=tk}):
    wpAny (model X.prog X.w) A (call (.builtin "isinstance") [u,c]) Q E s:=by
  cases ty with
  |non=>cases (show u=Value.none from rx);exact xaL PySem.W.kitx_none I.kIn True.intro e (fun z=>nomatch z) h
  |bl y=>cases (show u=Value.bool y from rx);exact xaL PySem.W.kitx_bool I.kIn True.intro e (fun z=>nomatch z) h
  |int i=>obtain⟨t,q⟩:=(show ∃t,u=Value.int i t from rx);cases q;exact xaL PySem.W.kitx_int I.kIn True.intro e (fun z=>nomatch z) h
  |str y=>obtain⟨t,q⟩:=(show ∃t,u=Value.str y t from rx);cases q;exact xaL PySem.W.kitx_str I.kIn True.intro e (fun z=>nomatch z) h
  |flt y=>obtain⟨t,q⟩:=(show ∃t,u=Value.float y t from rx);cases q;exact xaL PySem.W.kitx_float I.kIn True.intro e (fun z=>nomatch z) h
  | @lst a xs ea=>
    cases (show u=Value.ref a from rx);obtain⟨_,_,n,_,h1⟩:=(show iu X.prog X.w H s.heap a (.lst xs) from I.hok a _ ea);exact xaL xcM I.kIn ⟨_,h1,rfl⟩ e (fun z=>nomatch z) h
  | @frz a ob xs ea=>
    cases (show u=Value.ref a from rx);obtain⟨_,_,_,n,_,h1⟩:=(show iu X.prog X.w H s.heap a (.frz ob (.lst xs)) from I.hok a _ ea);exact xaL xcM I.kIn ⟨_,h1,rfl⟩ e (fun z=>nomatch z) h
  | @tup a xs ea=>
    cases (show u=Value.ref a from rx);obtain⟨_,_,_,p⟩:=(show iu X.prog X.w H s.heap a (.tup xs) from I.hok a _ ea);obtain⟨o,h1,h2,_⟩:=p;exact xaL xdr I.kIn ⟨o,h1,h2⟩ e (fun z=>nomatch z) h
  | @dK a kvs ea=>
    cases (show u=Value.ref a from rx);obtain⟨_,_,vs,_,p⟩:=(show iu X.prog X.w H s.heap a (.dK kvs) from I.hok a _ ea);obtain⟨o,es,ep,h1,h2,_⟩:=p;exact xaL xcN I.kIn ⟨o,h1,h2.1⟩ e (fun z=>nomatch z) h
  | @dT a kvs ea=>
    cases (show u=Value.ref a from rx);obtain⟨_,_,xs,_,o,es,ep,h1,h2,_⟩:=(show iu X.prog X.w H s.heap a (.dT kvs) from I.hok a _ ea);exact xaL xcN I.kIn ⟨o,h1,h2.1⟩ e (fun z=>nomatch z) h
  | @ins a C dx fs ea cl ha hn htk hm=>
    cases (show u=Value.ref a from rx);obtain⟨mA,O,_⟩:=Fp I.hok ea;obtain⟨od,J,_⟩:=O.look;exact xaL (PySem.W.kitx_own (cl.get _) cl.hd ha hn htk hm) I.kIn J e (fun z=>nomatch z) h
end
structure Room (k:Nat)(A:Around):Prop where
 hd:A.handled=none
 dp:A.depth + 3 * k + 5<recursionLimit
 un:A.units + 16 * k + 200<cLine
theorem Room.mono (r:Room k A)(h:j<=k):Room j A:=⟨r.hd,by have:=r.dp;omega,by have:=r.un;omega⟩
theorem Room.deeper (r:Room (k + 1) A)(env:Env):Room k (A.deeper env):=
 ⟨r.hd,by have:=r.dp;show A.depth + 1 + 3 * k + 5<_;omega,by have:=r.un;show A.units + 3 + 16 * k + 200<_;omega⟩
theorem zb2 {A:Around}{C:Addr}{us:List Value}{kw:List (Str×Value)}:(A.under (.builtin "type.__call__" ⟨.ref C::us,kw⟩)).depth=A.depth + 1:=by
 first |rfl |simp[Around.under,Code.weight,Code.isCreation,Code.isGuard,Code.isCaller,Code.frames,Code.isFrame,guardIds]
theorem zb3 {A:Around}{C:Addr}{us:List Value}{kw:List (Str×Value)}:(A.under (.builtin "type.__call__" ⟨.ref C::us,kw⟩)).units=A.units + 1:=by
 first |rfl |simp[Around.under,Code.cUnits,Code.frames,Code.isFrame]
theorem Room.make (r:Room (k + 1) A)(C:Addr)(us:List Value)(kw:List (Str×Value)):Room k (A.under (.builtin "type.__call__" ⟨.ref C::us,kw⟩)):=
 ⟨r.hd,by have:=r.dp;rw[zb2];omega,by have:=r.un;rw[zb3];omega⟩
theorem Room.depth (r:Room k A):A.depth<recursionLimit:=by have:=r.dp;omega
theorem Room.units (r:Room k A):A.units + 64<cLine:=by have:=r.un;omega
def G6:TA:=fun _ H Q=>Q [] H
noncomputable def zij (ta:TE) (tr:TA):TA:=fun σ H Q=>ta σ H fun x H1=>tr σ H1 fun xs H2=>Q (x::xs) H2
section
variable {X:Cx}{e:Expr}{es:List Expr}{te:TE}{t:TA}{pos:Pos}
theorem Bf:PA X [] G6:=fun _ _ _ _ H Q I h=>Calls.spliced_nil ⟨[],H,I,.nil,h⟩
theorem wZ (ha:PE X e te)(hr:PA X es t)(hs:starEach (e::es) X.env=(false,eval e X.env)::starEach es X.env:=by rfl):PA X (e::es) (zij te t):=by
 intro pos pins s σ H Q I h;rw[hs];show wpAny _ _ (spliced ((false,eval e X.env)::backTo pos (starEach es X.env))) _ _ s;refine Calls.spliced_cons (aX (ha pins s σ H _ I h) fun u s1 ⟨x,H1,I1,r1,q1⟩=>?_);exact aX (hr pos pins s1 σ H1 _ I1 q1) fun us s2 ⟨xs,H2,I2,r2,q2⟩=>⟨x::xs,H2,I2,.cons r1 r2,q2⟩
noncomputable def Ti (t:TA):TE:=fun σ H Q=>t σ H fun xs H1=>xs.length<=sizeLine/\∀p,H1 p=none->Q (.ref p) (upd H1 p (.tup xs))
noncomputable def Td (t:TA):TE:=fun σ H Q=>t σ H fun xs H1=>xs.length<=sizeLine/\∀p,H1 p=none->Q (.ref p) (upd H1 p (.lst xs))
theorem zgy {x1}(h:PA X es t):PE X (.Tuple es x1 pos) (Ti t):=by
 intro pins s σ H Q I hq;refine wpAny_Tuple_spliced (aX (h pos pins s σ H _ I hq) fun us s1 ⟨xs,H1,I1,r,z,q⟩=>⟨by rw[<-r.length];exact z,?_⟩);have hf:H1 s1.heap.objs.size=none:=I1.hok.fresh (xag _);refine⟨.ref s1.heap.objs.size,upd H1 s1.heap.objs.size (.tup xs),I1.laid (t':=s1.toks) (fun b u e=>xaa _ e) (xag _) ?_,rfl,q _ hf⟩;exact⟨z,us,r,⟨_,xas _ rfl,rfl,_,rfl⟩⟩
theorem zf4 (h:PA X es t):PE X (.List es pos) (Td t):=by
 intro pins s σ H Q I hq;refine wpAny_List_spliced (aX (h pos pins s σ H _ I hq) fun us s1 ⟨xs,H1,I1,r,z,q⟩=>⟨by rw[<-r.length];exact z,?_⟩);have hf:H1 s1.heap.objs.size=none:=I1.hok.fresh (xag _);refine⟨.ref s1.heap.objs.size,upd H1 s1.heap.objs.size (.lst xs),I1.laid (t':=s1.toks) (fun b u e=>xaa _ e) (xag _) ?_,rfl,q _ hf⟩;exact⟨z,us,0,r,xas _ rfl⟩
end
abbrev Sp:=List V->Hp->VK->XK->Prop
abbrev lM:=List Env->Hp->Shared->XK->Value->Shared->Prop
structure Env0 (P:Program)(w:World)(K:Fgx)(mg:Mgx)(base:Heap)(A:Around)(outer:List Env)(s:Shared)(H:Hp):Prop where
 frames:A.frames=some outer
 mod:Mod K mg base
 bs:∀b o,base.get? b=some o->s.heap.get? b=some o/\H b=none
 bsz:base.objs.size<=s.heap.objs.size
 funs:s.heap.FunFrames base outer
 frf:∀b∈frs outer,H b=none
 hok:gh P w H s.heap
 bare:AllBare s.gens
def CE (outer:List Env)(P:Program)(w:World)(H:Hp)(s:Shared)(Q:VK)(u:Value)(s':Shared):Prop:=
 ∃v H',s'.os=s.os/\AllBare s'.gens/\Un (frs outer) [] H H' s.heap s'.heap/\gh P w H' s'.heap/\RelV v u/\Q v H'
def CR (CX:lM)(outer:List Env)(P:Program)(w:World)(H:Hp)(s:Shared)(Q:VK)(E:XK)(r:Result)(s':Shared):Prop:=
 match r with
 |.ok (.ret u)=>CE outer P w H s Q u s'
 |.ok _=>False
 |.error e=>CX outer H s E e s'
structure FnOk (P:Program)(w:World)(K:Fgx)(mg:Mgx)(base:Heap)(CX:lM)(k:Nat)(f:Addr)(fd:FuncData)(ps:List Str)(sp:Sp):Prop where
 len:∀vs H Q E,sp vs H Q E->vs.length=ps.length
 run:∀(A:Around) (outer:List Env) (s:Shared) (H:Hp) (args:Args) (us:List Value) (vs:List V) (Q:VK) (E:XK),Room k A->Env0 P w K mg base A outer s H->BindsTo s fd args (ps.zip us)->Vals vs us->sp vs H Q E->
  codeAny (model P w) A (.call (.ref f) args) (CR CX outer P w H s Q E) s
theorem FnOk.mono {P:Program}{w:World}{K:Fgx}{mg:Mgx}{base:Heap}{CX:lM}{j k:Nat}{f:Addr}{fd:FuncData}{ps:List Str}{sp:Sp}(F:FnOk P w K mg base CX j f fd ps sp)(h:j<=k):
  FnOk P w K mg base CX k f fd ps sp:=⟨F.len,fun A outer s H args us vs Q E hr=>F.run A outer s H args us vs Q E (hr.mono h)⟩
theorem Env0.make {P:Program}{w:World}{K:Fgx}{mg:Mgx}{base:Heap}{A:Around}{outer:List Env}{s:Shared}{H:Hp}(e:Env0 P w K mg base A outer s H)(C:Addr)(us:List Value)(kw:List (Str×Value)):
  Env0 P w K mg base (A.under (.builtin "type.__call__" ⟨.ref C::us,kw⟩)) outer s H:=⟨by first |exact e.frames |(simpa [Around.under,Code.envs,Code.isFrame,pushEnvs] using e.frames),e.mod,e.bs,e.bsz,e.funs,e.frf,e.hok,e.bare⟩
section
variable {X:Cx}{pins:Pnx}{σ:St}{H:Hp}{s s':Shared}
theorem Inv.env0 (I:Inv X pins σ H s):Env0 X.prog X.w X.K X.mg X.base X.A X.stack s H:=
 ⟨I.ok.frames,I.ok.mod,I.bs,xav I.ok.bsz I.sz,I.stack,I.stkFree,I.hok,I.bare⟩
theorem Inv.after (I:Inv X pins σ H s)(h:CE X.stack X.prog X.w H s Q u s'):EP X pins σ Q u s':=by
 obtain⟨v,H',os,bare,un,hok,r,q⟩:=h;obtain⟨hh,g,d,t,os'⟩:=s';obtain rfl:os'=s.os:=os;exact⟨v,H',I.call (h':=hh) (g':=g) (d':=d) (t':=t) (ch:=[]) un hok bare (fun b z=>absurd z (by simp)),r,q⟩
end
noncomputable def ZC (sp:Sp) (dvs:List V) (E:XK) (t:TA):TE:=fun σ H Q=>t σ H fun vs H1=>sp (vs ++ dvs) H1 Q E
noncomputable def ZD (C:Addr) (m:Str) (sp:Sp) (dvs:List V) (E:XK) (ta:TE) (t:TA):TE:=fun σ H Q=>ta σ H fun x H1=>∃a dx fs,x=.ref a/\H1 a=some (.ins C dx fs)/\fs.lookup m=none/\
 t σ H1 fun vs H2=>sp (x::(vs ++ dvs)) H2 Q E
noncomputable def zjd (C:Addr) (sp:Sp) (dvs:List V) (E:XK) (t:TA):TE:=fun σ H Q=>t σ H fun vs H1=>∀x dx,H1 x=none->H1 dx=none->dx≠x->
 sp (.ref x::(vs ++ dvs)) (upd (upd H1 dx (.own x)) x (.ins C dx [])) (fun v H2=>v=.non/\Q (.ref x) H2) E
def Binds (K:Fgx)(fd:FuncData)(ps:List Str)(ds:List Value):Prop:=
 ∀(s:Shared) (us:List Value),K.In s.heap->(us ++ ds).length=ps.length->BindsTo s fd ⟨us,[]⟩ (ps.zip (us ++ ds))
theorem Binds.all {K:Fgx}{fd:FuncData}{ps:List Str}(h:∀us:List Value,us.length=ps.length->bindArgs fd ⟨us,[]⟩=pure (ps.zip us)):Binds K fd ps []:=fun s us _ hl=>by
 rw[xaV]at hl ⊢;exact .of_eq (h us hl)
def Passes (CX:lM)(X:Cx)(E:XK):Prop:=∀(pins:Pnx) (σ:St) (H:Hp) (s:Shared) (e:Value) (s':Shared),Inv X pins σ H s->CX X.stack H s E e s'->X.xe e s'
section
variable {X:Cx}{CX:lM}{k:Nat}{f C:Addr}{fd:FuncData}{ps:List Str}{sp:Sp}{dvs:List V}{ds:List Value}{E:XK}{x m:Str}{p pos apos:Pos}{e o:Expr}{es:List Expr}{ta:TE}{t:TA}
theorem JT (F:FnOk X.prog X.w X.K X.mg X.base CX k f fd ps sp)(hr:Room k X.A)(hb:Binds X.K fd ps ds)(hd:Vals dvs ds)(hx:Passes CX X E)
    (I:Inv X pins σ H s) (r:Vals vs us) (h:sp (vs ++ dvs) H Q E):wpAny (model X.prog X.w) X.A (call (.ref f) us) (EP X pins σ Q) X.xe s:=by
  have r2:Vals (vs ++ dvs) (us ++ ds):=r.append hd;have hl:(us ++ ds).length=ps.length:=by rw[<-r2.length];exact F.len _ _ _ _ h
  refine xcQ (xbC (F.run X.A X.stack s H ⟨us,[]⟩ (us ++ ds) (vs ++ dvs) Q E hr I.env0 (hb s us I.kIn hl) r2 h) fun r s' hq=>?_)
  cases r with
  |error e=>exact hx pins σ H s e s' I hq
  |ok fl=>
    cases fl with
    |ret u=>exact I.after hq
    |next=>exact False.elim hq
    |brk=>exact False.elim hq
    |cont=>exact False.elim hq
theorem zey (F:FnOk X.prog X.w X.K X.mg X.base CX k f fd ps sp)(hr:Room k X.A)(hg:Gl X x)(hm:X.mg x=some (.ref f))(hk:PySem.W.keepIn X.K (.ref f)=true)(hb:Binds X.K fd ps ds)(hd:Vals dvs ds)(hx:Passes CX X E)
  (ha:PA X (e::es) t) (hdb:(x==("__debug__":Str))=false:=by decide) (he:starEach (e::es) X.env=(false,eval e X.env)::starEach es X.env:=by rfl) (hpl:(backTo pos (starEach es X.env)).any (·.1)=false:=by rfl):
  PE X (.Call (.Name x p) (e::es) [] pos) (ZC sp dvs E t):=by
 intro pins s σ H Q I h;refine xbq (yC I hg hm ?_ hdb);refine xbr (h₀:=X.base) I.ok.mod.kin hk (aX (ha pos pins s σ H _ I h) fun us s1 ⟨vs,H1,I1,r,q⟩=>⟨I1.kIn,?_⟩) he hpl;exact JT F hr hb hd hx I1 r q
theorem zeq (he:PE X o ta)(c:Cls X.K C)(hm:Meth X.K C m f)(F:FnOk X.prog X.w X.K X.mg X.base CX k f fd ps sp)(hr:Room k X.A)(hb:Binds X.K fd ps ds)(hd:Vals dvs ds)(hx:Passes CX X E)(ha:PA X (e::es) t)
  (hst:starEach (e::es) X.env=(false,eval e X.env)::starEach es X.env:=by rfl) (hpl:(backTo pos (starEach es X.env)).any (·.1)=false:=by rfl)
  (ht : eval (.Call (.Attribute o m apos) (e :: es) [] pos) X.env = (do
   let ov <-eval o X.env
   standAt apos.atName
   let (f,first) <-holding [ov] (getMethod ov m pl)
   callWith pos f first (backTo pos (starEach (e::es) X.env)) (backToKw pos (keywordEach [] X.env))):=by rfl):
  PE X (.Call (.Attribute o m apos) (e::es) [] pos) (ZD C m sp dvs E ta t):=by
 intro pins s σ H Q I h;refine xbt (pl:=pl) (aX (he pins s σ H _ I h) fun u s1 ⟨x,H1,I1,rx,a,dx,fs,ex,ea,l,q⟩=>?_) ht;subst ex;obtain rfl:u=Value.ref a:=rx;refine VF I1 ea c hm l ?_;refine xbr (first:=[.ref a]) (h₀:=X.base) I.ok.mod.kin hm.kp (aX (ha pos pins s1 σ H1 _ I1 q) fun us s2 ⟨vs,H2,I2,r,q2⟩=>⟨I2.kIn,?_⟩) hst hpl
 exact JT (us:=.ref a::us) (vs:=.ref a::vs) F hr hb hd hx I2 (.cons rfl r) q2
theorem zdi (he:PE X o ta)(c:Cls X.K C)(hm:Meth X.K C m f)(F:FnOk X.prog X.w X.K X.mg X.base CX k f fd ps sp)(hr:Room k X.A)(hb:Binds X.K fd ps ds)(hd:Vals dvs ds)(hx:Passes CX X E)
  (ht : eval (.Call (.Attribute o m apos) [] [] pos) X.env = (do
   let ov <-eval o X.env
   standAt apos.atName
   let (f,first) <-holding [ov] (getMethod ov m pl)
   callWith pos f first (backTo pos (starEach [] X.env)) (backToKw pos (keywordEach [] X.env))):=by rfl):
  PE X (.Call (.Attribute o m apos) [] [] pos) (ZD C m sp dvs E ta G6):=by
 intro pins s σ H Q I h;refine xbt (pl:=pl) (aX (he pins s σ H _ I h) fun u s1 ⟨x,H1,I1,rx,a,dx,fs,ex,ea,l,q⟩=>?_) ht;subst ex;obtain rfl:u=Value.ref a:=rx;refine VF I1 ea c hm l ?_;exact PySem.W.callWith_K0 (first:=[.ref a]) I1.kIn hm.kp (JT (us:=[.ref a]) (vs:=[.ref a]) F hr hb hd hx I1 (.cons rfl .nil) q)
structure Mk (K:Fgx)(C f:Addr):Prop where
 makes:PySem.W.makesIn K C=true
 init:PySem.W.findIn K (.ref C) "__init__"=some (some (.ref f))
 fn:PySem.W.isFn K (.ref f)=true
 kp:PySem.W.keepIn K (.ref C)=true
theorem zdc (M:Mk X.K C f)(F:FnOk X.prog X.w X.K X.mg X.base CX k f fd ps sp)(hr:Room (k + 1) X.A)(hb:Binds X.K fd ps ds)(hd:Vals dvs ds)
    (hx:Passes CX X E) (I:Inv X pins σ H s) (r:Vals vs us)
    (h:∀x dx,H x=none->H dx=none->dx≠x->sp (.ref x::(vs ++ dvs)) (upd (upd H dx (.own x)) x (.ins C dx [])) (fun v H2=>v=.non/\Q (.ref x) H2) E):
    wpAny (model X.prog X.w) X.A (call (.ref C) us) (EP X pins σ Q) X.xe s:=by
  have hq:=h (s.heap.objs.size + 1) s.heap.objs.size (I.hok.fresh (xbO _)) (I.hok.fresh (xag _)) (xaw (xbo _));have I2:=Inv.made (C:=C) I;have r2:Vals (V.ref (s.heap.objs.size + 1)::(vs ++ dvs)) (Value.ref (s.heap.objs.size + 1)::(us ++ ds)):=.cons rfl (r.append hd);have hl:(Value.ref (s.heap.objs.size + 1)::us ++ ds).length=ps.length:=by
    have e:=r2.length;rw[F.len _ _ _ _ hq]at e;exact e.symm
  refine xcQ (zdA (f := f) I.kIn M.makes M.init (xbb.mp M.fn) (xbC (F.run _ X.stack _ _ ⟨Value.ref (s.heap.objs.size + 1)::us,[]⟩ (Value.ref (s.heap.objs.size + 1)::(us ++ ds)) _ _ E (hr.make C us [])
    (I2.env0.make C us []) (hb _ (Value.ref (s.heap.objs.size + 1)::us) I2.kIn hl) r2 hq) fun r s' hq'=>?_))
  cases r with
  |error e=>exact hx pins σ _ _ e s' I2 hq'
  |ok fl=>
    cases fl with
    |ret u=>
      obtain⟨v,H',I3,rv,ev,q3⟩:=I2.after hq';subst ev;exact⟨rv,⟨V.ref (s.heap.objs.size + 1),H',I3,rfl,q3⟩⟩
    |next=>exact False.elim hq'
    |brk=>exact False.elim hq'
    |cont=>exact False.elim hq'
theorem zd2 (M:Mk X.K C f)(F:FnOk X.prog X.w X.K X.mg X.base CX k f fd ps sp)(hr:Room (k + 1) X.A)(hg:Gl X x)(hm:X.mg x=some (.ref C))(hb:Binds X.K fd ps ds)(hd:Vals dvs ds)(hx:Passes CX X E)
  (ha:PA X (e::es) t) (hdb:(x==("__debug__":Str))=false:=by decide) (he:starEach (e::es) X.env=(false,eval e X.env)::starEach es X.env:=by rfl) (hpl:(backTo pos (starEach es X.env)).any (·.1)=false:=by rfl):
  PE X (.Call (.Name x p) (e::es) [] pos) (zjd C sp dvs E t):=by
 intro pins s σ H Q I h;refine xbq (yC I hg hm ?_ hdb);refine xbr (h₀:=X.base) I.ok.mod.kin M.kp (aX (ha pos pins s σ H _ I h) fun us s1 ⟨vs,H1,I1,r,q⟩=>⟨I1.kIn,?_⟩) he hpl;exact zdc M F hr hb hd hx I1 r q
end
section
variable {X:Cx}{CX:lM}{k:Nat}{f C:Addr}{fd:FuncData}{ps ks:List Str}{sp:Sp}{E:XK}{x m:Str}{p pos apos kpos:Pos}{e o:Expr}{es:List Expr}{kws:List Keyword}{te ta:TE}{t tk:TA}{nm:Option Str}
structure KBinds (K:Fgx)(fd:FuncData)(ps ks:List Str)(g:List Value->List Value->List Value)(gV:List V->List V->List V):Prop where
 to:∀(s:Shared) (us ws:List Value),K.In s.heap->(g us ws).length=ps.length->BindsTo s fd ⟨us,ks.zip ws⟩ (ps.zip (g us ws))
 rel:∀{vs:List V} {us:List Value} {zs:List V} {ws:List Value},Vals vs us->Vals zs ws->Vals (gV vs zs) (g us ws)
variable {g:List Value->List Value->List Value}{gV:List V->List V->List V}
end
structure FnScope (N P:List Str)(sc:Scope):Prop where
 kind:sc.kind=.function
 co:sc.isCoroutine=false
 gen:sc.isGenerator=false
 nd:N.Nodup
 pre:N.take P.length=P
 par:∀x∈P,sc.names.lookup x=some .local\/sc.names.lookup x=some .cell
 nofree:∀y∈sc.names,y.2≠ .free
theorem Us {kindOf:Str->Option NameKind}{x:Str}:∀{binds:List (Str×Value)} {m:Mgx},(∀v,(x,v)∉binds)->bindL kindOf binds m x=m x
  | [],_,_=>rfl
  |(n,v)::r,m,h=>by
    unfold bindL;rw[Us fun w hw=>h w (xap _ hw)]
    split
    · have:x≠n:=by rintro rfl;exact h v xaF
      simp[this]
    · rfl
theorem Uq {kindOf:Str->Option NameKind}{x:Str}:∀{binds:List (Str×Value)} {m:Mgx},(∀v,(x,v)∉binds)->bindC kindOf binds m x=m x
  | [],_,_=>rfl
  |(n,v)::r,m,h=>by
    unfold bindC;rw[Uq fun w hw=>h w (xap _ hw)]
    split
    · rfl
    · have:x≠n:=by rintro rfl;exact h v xaF
      simp[this]
theorem Ur {kindOf:Str->Option NameKind}{x:Str}{v:Value}:∀{P:List Str} {vs:List Value} {i:Nat} {m:Mgx},P.Nodup->P[i]? =some x->vs[i]? =some v->kindOf x=some .local->
    bindL kindOf (P.zip vs) m x=some v
  | [],_,_,_,_,h,_,_=>by simp at h
  |_::_,[],_,_,_,_,h,_=>by simp at h
  |p::P,w::vs,0,m,nd,h1,h2,hk=>by
    simp at h1 h2;subst h1;subst h2
    show bindL kindOf ((p,w)::P.zip vs) m p=_;unfold bindL;rw[Us fun v hv=>(xbm.mp nd).1 (xb7 hv).1,xab hk]
    simp
  |p::P,w::vs,i + 1,m,nd,h1,h2,hk=>by
    show bindL kindOf ((p,w)::P.zip vs) m x=_;unfold bindL;exact Ur (i:=i) (xbm.mp nd).2 (by simpa using h1) (by simpa using h2) hk
theorem Uo {kindOf:Str->Option NameKind}{x:Str}{v:Value}:∀{P:List Str} {vs:List Value} {i:Nat} {m:Mgx},P.Nodup->P[i]? =some x->vs[i]? =some v->kindOf x≠some .local->
    bindC kindOf (P.zip vs) m x=some v
  | [],_,_,_,_,h,_,_=>by simp at h
  |_::_,[],_,_,_,_,h,_=>by simp at h
  |p::P,w::vs,0,m,nd,h1,h2,hk=>by
    simp at h1 h2;subst h1;subst h2
    show bindC kindOf ((p,w)::P.zip vs) m p=_;unfold bindC;rw[Uq fun v hv=>(xbm.mp nd).1 (xb7 hv).1,xah hk]
    simp
  |p::P,w::vs,i + 1,m,nd,h1,h2,hk=>by
    show bindC kindOf ((p,w)::P.zip vs) m x=_;unfold bindC;exact Uo (i:=i) (xbm.mp nd).2 (by simpa using h1) (by simpa using h2) hk
noncomputable def start (N:List Str) (vs:List V):St:=vs.map some ++ List.replicate (N.length - vs.length) none
noncomputable def gA (CX:lM) (P:Program) (w:World) (K:Fgx) (mg:Mgx) (base:Heap) (N:List Str) (qual:Str) (scope:Scope) (f:Addr) (cd:Value) (A:Around) (outer:List Env) (s:Shared) (H:Hp) (E:XK):Cx where
 prog:=P
 w:=w
 K:=K
 mg:=mg
 base:=base
 A:=A.deeper (envOfC qual scope s.heap.objs.size f cd)
 N:=N
 s₀:=s
 H₀:=H
 env:=envOfC qual scope s.heap.objs.size f cd
 outer:=outer
 stack:=envOfC qual scope s.heap.objs.size f cd::outer
 ex:=[]
 calm:=true
 fn:=fun _=>true
 pn:=[]
 xe:=fun e s'=>wpAny (model P w) (A.deeper (envOfC qual scope s.heap.objs.size f cd)) (leaving (envOfC qual scope s.heap.objs.size f cd) e) (fun _ s''=>CX outer H s E e s'') (fun e' s''=>CX outer H s E e' s'') s'
theorem Nm {sc:Scope}{n:Nat}{x:Str}(h:sc.names.lookup x=some .cell):∃c,(cellsFrom n sc.names []).lookup x=some c:=by
 have q:=xcj sc.names n [] (.inl h);exact Option.isSome_iff_exists.mp q
theorem VR {CX:lM}{P:Program}{w:World}{K:Fgx}{mg:Mgx}{base:Heap}{N ps:List Str}{qual:Str}{scope:Scope}{f:Addr}{cd:Value}{A:Around}{outer:List Env}{s s1:Shared}{H:Hp}{E:XK}{us:List Value}{vs:List V}
  (S:FnScope N ps scope) (hd:A.handled=none) (e0:Env0 P w K mg base A outer s H) (hl:vs.length=ps.length) (r:Vals vs us)
  (x:InCallC s s.heap.objs.size (bindL (envOfC qual scope s.heap.objs.size f cd).kindOf (ps.zip us) fun _=>none) (cellsFrom (s.heap.objs.size + 1) scope.names []) (bindC (envOfC qual scope s.heap.objs.size f cd).kindOf (ps.zip us) fun _=>none) s1):
  Inv (gA CX P w K mg base N qual scope f cd A outer s H E) [] (start N vs) H s1:=by
 have hpl:ps.length<=N.length:=by have:=congrArg List.length S.pre;rw[xbZ]at this;omega
 obtain ⟨h1, tk, rfl, hk⟩ := x.done;have noA : ∀ b : Addr, b ∉ (gA CX P w K mg base N qual scope f cd A outer s H E).ex := fun b z => absurd (show b ∈ ([] : List Addr) from z) (by simp);refine ⟨⟨e0.mod,S.kind,rfl,rfl,xag _,fun y z c h1 h2=>?_,fun y hy=>?_,fun y c _ h=>?_,fun _=>hd,Around.frames_deeper e0.frames,.inr ⟨rfl,rfl⟩,fun b z=>absurd z (noA b),e0.bs,e0.bsz,fun b _ _=>noA b,fun b z=>absurd z (noA b),e0.funs,e0.frf⟩,
  rfl,e0.bare,Un.kept hk,⟨_,x.toInCall.ns,fun i y v h1 h2 h3=>?_⟩,fun y c h=>⟨_,x.cell y c h⟩,e0.hok.fresh (xag _),fun y c h=>?_,fun p hp=>absurd (show p∈([]:Pnx) from hp) (by simp),e0.hok.kept hk,?_⟩
 ·exact name_of_addr x.apart (xaT h1) (xaT h2)
 ·have hy:scope.names.lookup y=some .cell\/scope.names.lookup y=some .free:=hy;rcases hy with hy |hy
  ·exact Nm hy
  ·exact absurd rfl (S.nofree _ (xaT hy))
 ·exact xca (x.above y c (xaT h))
 ·have hi:i<vs.length:=by
   unfold start at h2
   by_cases hi:i<vs.length
   ·exact hi
   ·rw[xaC (by simpa using hi)]at h2;rw[xaU]at h2;split at h2<;>cases h2
  have ha:vs[i]? =some v:=by
   unfold start at h2;rw[xaB (by simpa using hi),xam]at h2
   cases e:vs[i]? with
   |none=>rw[e]at h2;cases h2
   |some a=>rw[e]at h2;cases h2;rfl
  obtain⟨u,hu,rv⟩:=r.get ha;have hp:ps[i]? =some y:=by
   rw[<-S.pre,xcU (by omega)];exact h1
  have ndP:ps.Nodup:=by rw[<-S.pre];exact S.nd.sublist (xdx _ _)
  refine⟨u,rv,?_⟩;rcases S.par y (xax hp) with k |k
  ·exact .inl ⟨k,Ur ndP hp hu k⟩
  ·obtain⟨c,e⟩:=Nm (n:=s.heap.objs.size + 1) k;refine .inr ⟨.inl k,c,e,?_⟩;have q:=x.cell y c e;rw[Uo ndP hp hu (by show scope.names.lookup y≠_;rw[k];decide)]at q;exact q
 ·exact .inl (e0.hok.fresh (xca (x.above y c (xaT h))))
 ·unfold start;show _=N.length;rw[xat,xao,xbc];omega
theorem Vr {CX:lM}{P:Program}{w:World}{K:Fgx}{mg:Mgx}{base:Heap}{k:Nat}{f:Addr}{name qual:Str}{params:Arguments}{body:List Stmt}{scope:Scope}{dV kV doc pm cdv ct oc:Value}{an od:Option Addr}
    {osl:Array (Option Value)} {N ps:List Str} {sp:Sp} (lk:K.lookup f=some ⟨oc,od,.func (PySem.W.fnOf name qual params body scope dV kV doc pm an cdv ct),osl⟩) (hcd:PySem.W.codeIn K cdv qual=true) (S:FnScope N ps scope)
    (len:∀vs H Q E,sp vs H Q E->vs.length=ps.length)
    (hbody:∀(A:Around) (outer:List Env) (s:Shared) (H:Hp) (vs:List V) (Q:VK) (E:XK),Room k (A.deeper (envOfC qual scope s.heap.objs.size f cdv))->sp vs H Q E->
      ∃t,nQ (gA CX P w K mg base N qual scope f cdv A outer s H E) body t/\t {nx:=fun _ H'=>Q .non H',rt:=Q} (start N vs) H):
    FnOk P w K mg base CX (k + 1) f (PySem.W.fnOf name qual params body scope dV kV doc pm an cdv ct) ps sp:=by
  refine⟨len,fun A outer s H args us vs Q E hr e0 hb r hsp=>?_⟩;have hl:=len _ _ _ _ hsp;have KX:K.In s.heap:=e0.mod.kin.keeps fun b o e=>(e0.bs b o e).1;have lim:s.heap.NoLimit:=e0.mod.nolimit.keeps fun b o e=>(e0.bs b o e).1;have hkind:∀y∈ps.zip us,scope.names.lookup y.1=some .local\/(scope.names.lookup y.1=some .cell/\((cellsFrom (s.heap.objs.size + 1) scope.names []).lookup y.1).isSome=true):=fun⟨n,v⟩ hy=>by
    rcases S.par n (xb7 hy).1 with q |q
    · exact .inl q
    · exact .inr ⟨q,xcj _ _ _ (.inl q)⟩
  refine xcp hr.depth (KX _ _ lk) rfl S.co S.gen rfl (xds KX hcd) (hb _ _ _ _ ?_);refine xcJ S.kind hkind fun env he s1 x=>?_;subst he;refine⟨lim.keeps x.toInCall.keep,codeAny_func ?_⟩;obtain⟨t,ht,hq⟩:=hbody A outer s H vs Q E (hr.deeper _) hsp;have I:Inv (gA CX P w K mg base N qual scope f cdv A outer s H E) [] (start N vs) H s1:=VR S hr.hd e0 hl r x;refine xaS (ht [] s1 (start N vs) H _ I hq) (fun fl s' hs=>?_) fun e s' hs=>hs;have fin:∀{σ':St} {H':Hp} {v:V} {u:Value},Inv (gA CX P w K mg base N qual scope f cdv A outer s H E) [] σ' H' s'->RelV v u->Q v H'->CE outer P w H s Q u s':=
    fun {σ' H' v u} J rv q=>⟨v,H',J.os,J.bare,J.base,J.hok,rv,q⟩
  cases fl with
  |ret u=>
    obtain⟨v,σ',H',J,rv,q⟩:=hs;exact fin J rv q
  |next=>
    obtain⟨σ',H',J,q⟩:=hs;exact fin (v:=V.non) (u:=Value.none) J rfl q
  |brk=>
    obtain⟨_,_,_,q⟩:=hs;exact False.elim q
  |cont=>
    obtain⟨_,_,_,q⟩:=hs;exact False.elim q
section
variable {X:Cx}{x:Str}{p pos:Pos}{e:Expr}{es:List Expr}{t:TA}{id T:String}{r:List V->Hp->VK->Prop}
noncomputable def S7 (r:List V->Hp->VK->Prop) (t:TA):TE:=fun σ H Q=>t σ H fun vs H1=>r vs H1 Q
theorem QM (hc:iB X (.builtin id) r)(hg:Gl X x)(hm:X.mg x=none)(hv:bootBuiltins x=some (.builtin id))(ha:PA X (e::es) t)(hn:x≠"__name__":=by decide)(hdb:(x==("__debug__":Str))=false:=by decide)
  (he:starEach (e::es) X.env=(false,eval e X.env)::starEach es X.env:=by rfl) (hpl:(backTo pos (starEach es X.env)).any (·.1)=false:=by rfl):PE X (.Call (.Name x p) (e::es) [] pos) (S7 r t):=by
 intro pins s σ H Q I h;refine xbq (FP I hg hm hv ?_ hn hdb);exact PyProof.Rows.callWith_builtin1 (aX (ha pos pins s σ H _ I h) fun us s1 ⟨vs,H1,I1,r1,q1⟩=>hc pins s1 σ H1 vs us Q I1 r1 q1) he hpl
theorem WM (hc:iB X (.type T) r)(hg:Gl X x)(hm:X.mg x=none)(hv:bootBuiltins x=some (.type T))(ha:PA X (e::es) t)(hn:x≠"__name__":=by decide)(hdb:(x==("__debug__":Str))=false:=by decide)
  (he:starEach (e::es) X.env=(false,eval e X.env)::starEach es X.env:=by rfl) (hpl:(backTo pos (starEach es X.env)).any (·.1)=false:=by rfl):PE X (.Call (.Name x p) (e::es) [] pos) (S7 r t):=by
 intro pins s σ H Q I h;refine xbq (FP I hg hm hv ?_ hn hdb);exact xbY (aX (ha pos pins s σ H _ I h) fun us s1 ⟨vs,H1,I1,r1,q1⟩=>hc pins s1 σ H1 vs us Q I1 r1 q1) he hpl
end
end L2
namespace HT
open PySem PyProof.Rows
section
open PySem.SeqAt
open PySem.AutoSeq1 (wpAny_loadPart')
open PySem.MeetsSeq PySem.MeetsSeq2 PySem.MeetsSeq3
end
section
variable {prog:Program}{w:World}{A:Around}{E:Value->Shared->Prop}{s:Shared}
noncomputable def dN (n d:Nat):Option Int->Nat
 |none=>d
 |some v=>if v<0 then(v + (n:Int)).toNat else min v.toNat n
theorem zc2 (n d:Nat):dN n d none=d:=rfl
theorem ze1 (n d k:Nat):dN n d (some (k:Int))=min k n:=by
 show(if (k:Int)<0 then((k:Int) + (n:Int)).toNat else min (k:Int).toNat n)=min k n
 rw[xah (by omega),xdy]
theorem zg8 (n d:Nat)(hd:d<=n)(o:Option Int):dN n d o<=n:=by
  cases o with
  |none=>exact hd
  |some v=>
    show(if v<0 then(v + (n:Int)).toNat else min v.toNat n)<=n
    by_cases hv:v<0
    · rw[xab hv];omega
    · rw[xah hv];exact Nat.min_le_right _ _
theorem U4 (v:Int)(n d:Nat):(if v<0 then max (v + (n:Int)) 0 else min v (n:Int))=((dN n d (some v):Nat):Int):=by
 show(if v<0 then max (v + (n:Int)) 0 else min v (n:Int))=(((if v<0 then(v + (n:Int)).toNat else min v.toNat n):Nat):Int)
 by_cases hv:v<0
 ·simp only[xab hv];omega
 ·simp only[xah hv];omega
theorem zb1 (lo hi:Option Int)(n:Nat):Builtin.Slice.sliceAdjust lo hi 1 (n:Int)=(((dN n 0 lo:Nat):Int),((dN n n hi:Nat):Int)):=by
 have h1:¬ ((1:Int)<0):=by omega
 unfold Builtin.Slice.sliceAdjust;simp only[h1,xbP];refine Prod.ext ?_ ?_
 ·cases lo with
  |none=>rfl
  |some v=>exact U4 v n 0
 ·cases hi with
  |none=>rfl
  |some v=>exact U4 v n n
theorem zb4 (i j:Nat):Builtin.Slice.slicePlaces (i:Int) (j:Int) 1=j - i:=by
 unfold Builtin.Slice.slicePlaces;have h1:(1:Int) > 0:=by omega
 simp only[h1,xa6,Int.ediv_one]
 split<;>omega
theorem Zm (p:IsPart v o)(h:Q o s):wpAny (model prog w) A (Builtin.Slice.slicePartIndex v) Q E s:=by
 cases p with
 |none=>exact slicePart_none h
 |int i t=>exact slicePart_int h
theorem zaW {sl:Addr}{vl vu:Value}{lo hi:Option Int}{n:Nat}{Q:Int×Int×Nat->Shared->Prop}(hs:s.heap.IsSliceOf sl vl vu .none)(pl:IsPart vl lo)(pu:IsPart vu hi)
  (h:Q (((dN n 0 lo:Nat):Int),1,dN n n hi - dN n 0 lo) s):wpAny (model prog w) A (Builtin.Slice.sliceApplied (.ref sl) (pure (n:Int))) Q E s:=by
 obtain⟨os,hos,hcs,hds⟩:=id hs;unfold Builtin.Slice.sliceApplied Builtin.Slice.sliceFields;refine tG (tG (xbd hos hds (x:=vl) rfl (tG (xbd hos hds (x:=vu) rfl (tG (xbd hos hds (x:=.none) rfl (xaf ?_)))))));refine tG (slicePart_none ?_);show wpAny _ _ (if ((1:Int)==0)=true then _ else _) _ _ s
 rw[xah (by decide)];refine tG (Zm pl (tG (Zm pu (tG (xaf ?_)))));show wpAny _ _ (match Builtin.Slice.sliceAdjust lo hi 1 (n:Int) with |(lo,hi)=>pure (lo,(1:Int),Builtin.Slice.slicePlaces lo hi 1)) _ _ s
 rw[zb1 lo hi n];show wpAny _ _ (pure (((dN n 0 lo:Nat):Int),(1:Int),Builtin.Slice.slicePlaces ((dN n 0 lo:Nat):Int) ((dN n n hi:Nat):Int) 1)) _ _ s;rw[zb4];exact xaf h
theorem zda (xs:Array Value)(i k:Nat):((List.range k).filterMap fun(m:Nat)=>xs[((i:Int) + (m:Int) * 1).toNat]?).toArray=((xs.toList.drop i).take k).toArray:=by
 have e:(fun(m:Nat)=>xs[((i:Int) + (m:Int) * 1).toNat]?)=fun m=>xs[i + m]? :=by
  funext m;have:((i:Int) + (m:Int) * 1).toNat=i + m:=by omega
  rw[this]
 rw[e];have:=pick_run xs i k;rw[List.filterMap_map]at this;have e2:((fun x=>xs[x]?) ∘ fun x=>i + x)=fun m=>xs[i + m]? :=rfl;rw[e2]at this;rw[this]
theorem zaQ {t sl:Addr}{items:Array Value}{vl vu:Value}{lo hi:Option Int}{Q:Value->Shared->Prop}(ht:IsTup s.heap t items)(hs:s.heap.IsSliceOf sl vl vu .none)(pl:IsPart vl lo)(pu:IsPart vu hi)
  (hw:¬ (dN items.size 0 lo=0/\dN items.size items.size hi=items.size))
  (h:Q (.ref s.heap.objs.size) {s with heap:=s.heap.push {cls:=.type "tuple",data:=.seq ((items.toList.drop (dN items.size 0 lo)).take (dN items.size items.size hi - dN items.size 0 lo)).toArray}})
  (hsz:items.size<=sizeLine):wpAny (model prog w) A (getItem (.ref t) (.ref sl)) Q E s:=by
 have htake:sizeOk (.seq ((items.toList.drop (dN items.size 0 lo)).take (dN items.size items.size hi - dN items.size 0 lo)).toArray):=by
  show((items.toList.drop (dN items.size 0 lo)).take (dN items.size items.size hi - dN items.size 0 lo)).toArray.size<=sizeLine;rw[xae,xbZ,xb0,xbf];omega
 have hj:dN items.size items.size hi<=items.size:=zg8 _ _ (xag _) hi;obtain⟨os,hos,hcs,hds⟩:=id hs;have hTs:s.TypeIs (.ref sl) "slice":=⟨os,hos,hcs⟩;unfold getItem
 try with_reducible refine xcK ?_
 first |refine tG (xaf ?_) |skip
 refine tG (wpAny_sequenceKey ht.typeIs (by decide) ?_);refine tG (xcf (name:=Str.ofString "__getitem__") ht.typeIs xbF
  (xcm xbF ht.typeIs entry_tuple_getitem ?_ (args_tuple_getitem _ _)))
 show wpAny _ _ (Builtin.Tuple.tupleItemsOf (.ref t) >>=_) _ _ s;refine tG (tupleItemsOf_ ht ?_);refine tG (wpAny_typeOf hTs ?_);rw[xab (by decide)];refine tG (zaW hs pl pu ?_);have hno:¬ ((((dN items.size 0 lo:Nat):Int)==0 && (1:Int)==1 && (dN items.size items.size hi - dN items.size 0 lo)==items.size)=true):=by
  intro q;rw[xal,xal]at q;have q1:((dN items.size 0 lo:Nat):Int)=0:=eq_of_beq q.1.1;have q2:dN items.size items.size hi - dN items.size 0 lo=items.size:=eq_of_beq q.2;exact hw ⟨by omega,by omega⟩
 show wpAny _ _ (if (((dN items.size 0 lo:Nat):Int)==0 && (1:Int)==1 && (dN items.size items.size hi - dN items.size 0 lo)==items.size)=true then _ else _) _ _ s
 rw[xah hno,zda]
 first
  |exact tG (m:=Builtin.Tuple.tupleExact _) (xaJ (xaf ⟨_,rfl,xaf h⟩) htake)
  |exact tG (m:=Builtin.Tuple.tupleExact _) (xaJ (tG (xaf (xaf ⟨_,rfl,xaf h⟩))) htake)
  |exact tG (tG (m:=Builtin.Tuple.tupleExact _) (xaJ (xaf (xaf ⟨_,rfl,xaf h⟩)) htake))
  |exact tG (tG (m:=Builtin.Tuple.tupleExact _) (xaJ (xaf ⟨_,rfl,xaf h⟩) htake))
end
end HT
namespace L2
open PySem PySem.Spec PyProof.Rows
abbrev TO:=St->Hp->(Option Int->Hp->Prop)->Prop
def PO (X:Cx)(e:Option Expr)(t:TO):Prop:=
 ∀(pins:Pnx) (s:Shared) (σ:St) (H:Hp) (Q:Option Int->Hp->Prop),Inv X pins σ H s->t σ H Q->
  wpAny (model X.prog X.w) X.A (evalPart e X.env) (fun u s'=>∃o H',Inv X pins σ H' s'/\IsPart u o/\Q o H') X.xe s
def zeI:TO:=fun _ H Q=>Q none H
noncomputable def zif (t:TE):TO:=fun σ H Q=>t σ H fun x H1=>∃i,x=.int i/\Q (some i) H1
section
variable {X:Cx}{e:Expr}{te:TE}{lo hi:Option Expr}{tl th:TO}{pos p2:Pos}
theorem zdW:PO X none zeI:=by
 intro pins s σ H Q I h;rw[evalPart_none];exact xaf ⟨none,H,I,.none,h⟩
theorem zex (h:PE X e te):PO X (some e) (zif te):=by
 intro pins s σ H Q I hw;rw[evalPart_some];refine aX (h pins s σ H _ I hw) fun u s1 ⟨x,H1,I1,r1,q1⟩=>?_;obtain⟨i,rfl,q⟩:=q1;obtain⟨t,rfl⟩:=r1;exact⟨some i,H1,I1,.int i t,q⟩
def xR (X:Cx)(r:V->Option Int->Option Int->Hp->VK->Prop):Prop:=
 ∀(pins:Pnx) (s:Shared) (σ:St) (H:Hp) (x:V) (v vl vu:Value) (lo hi:Option Int) (sl:Addr) (Q:VK),Inv X pins σ H s->RelV x v->s.heap.IsSliceOf sl vl vu .none->IsPart vl lo->IsPart vu hi->r x lo hi H Q->
  ∃T id,typeLookup (.type T) "__getitem__"=pure (some (.builtin id))/\s.TypeIs v T/\wpAny (model X.prog X.w) X.A (getItem v (.ref sl)) (EP X pins σ Q) X.xe s
theorem xR.or (h:xR X r)(h':xR X r'):xR X (fun x lo hi H Q=>r x lo hi H Q\/r' x lo hi H Q):=by
 intro pins s σ H x v vl vu lo hi sl Q I rx hs pl pu q;rcases q with q |q
 ·exact h pins s σ H x v vl vu lo hi sl Q I rx hs pl pu q
 ·exact h' pins s σ H x v vl vu lo hi sl Q I rx hs pl pu q
noncomputable def tSl (r:V->Option Int->Option Int->Hp->VK->Prop) (te:TE) (tl th:TO):TE:=fun σ H Q=>te σ H fun x H1=>tl σ H1 fun l H2=>th σ H2 fun u H3=>r x l u H3 Q
theorem WQ (hr:xR X r)(he:PE X e te)(hl:PO X lo tl)(hu:PO X hi th):PE X (.Subscript e (.Slice lo hi none p2) pos) (tSl r te tl th):=by
 intro pins s σ H Q I h;refine Subscript_ (aX (he pins s σ H _ I h) fun v s1 ⟨x,H1,I1,r1,q1⟩=>?_);refine wpAny_Slice (aX (hl pins s1 σ H1 _ I1 q1) fun vl s2 ⟨l,H2,I2,pl,q2⟩=>aX (hu pins s2 σ H2 _ I2 q2) fun vu s3 ⟨u,H3,I3,pu,q3⟩=>?_);rw[evalPart_none];refine xaf ?_;have I4:Inv X pins σ H3 {s3 with heap:=s3.heap.push {cls:=.type "slice",data:=.fields #[vl,vu,.none]}}:=I3.kept (t':=s3.toks) fun b ob q=>xaa _ q;obtain⟨T,id,hT,ht,hg⟩:=hr pins {s3 with heap:=s3.heap.push {cls:=.type "slice",data:=.fields #[vl,vu,.none]}} σ H3 x v vl vu l u s3.heap.objs.size Q I4 r1 (Heap.IsSliceOf.new ..) pl pu q3;show wpAny (model X.prog X.w) X.A (subscriptTail e (.Slice lo hi none p2) v (.ref s3.heap.objs.size)) (EP X pins σ Q) X.xe {s3 with heap:=s3.heap.push {cls:=.type "slice",data:=.fields #[vl,vu,.none]}};exact tail_any (ops:=[.ref s3.heap.objs.size,v]) ht hT hg (by with_unfolding_all rfl)
noncomputable def mz (xs:List V) (lo hi:Option Int):List V:=(xs.drop (HT.dN xs.length 0 lo)).take (HT.dN xs.length xs.length hi - HT.dN xs.length 0 lo)
theorem Vb (xs:List V)(lo hi:Option Int):(mz xs lo hi).length<=xs.length:=by
 unfold mz;rw[xbZ,xb0];omega
def Rp (K:Fgx):V->Option Int->Option Int->Hp->VK->Prop:=fun x lo hi H Q=>∃a xs,x=.ref a/\kW K H a xs/\
 ¬ (HT.dN xs.length 0 lo=0/\HT.dN xs.length xs.length hi=xs.length)/\∀p,H p=none->Q (.ref p) (upd H p (.tup (mz xs lo hi)))
theorem zgz:xR X (Rp X.K):=by
 intro pins s σ H x v vl vu lo hi sl Q I rx hs pl pu h;obtain⟨a,xs,rfl,hx,hw,q⟩:=h;cases rx;obtain⟨its,r,ht,hz⟩:=I.tuple hx;have hlen:its.toArray.size=xs.length:=by rw[xae];exact r.length.symm
 refine⟨"tuple",_,xbF.lookup,ht.typeIs,?_⟩;refine HT.zaQ ht hs pl pu (by rw[hlen];exact hw) ?_ (by rw[hlen];exact hz);rw[hlen];refine⟨.ref s.heap.objs.size,_,I.laid (t':=s.toks) (o:=.tup (mz xs lo hi)) (fun b ob q=>xaa _ q) (xag _) ?_,rfl,q _ (I.hok.fresh (xag _))⟩;exact⟨xav (Vb xs lo hi) hz,_,(r.drop (HT.dN xs.length 0 lo)).take (HT.dN xs.length xs.length hi - HT.dN xs.length 0 lo),IsTup.new _ _⟩
end
noncomputable def yw (n:Nat) (i:Int):Option Nat:=if 0<=i then(if i<n then some i.toNat else none) else if -(n:Int)<=i then some (i + n).toNat else none
noncomputable def gG {α:Type} (xs:List α) (i:Int):Option α:=(yw xs.length i).bind fun j=>xs[j]?
theorem zeA (h:yw n i=some j):seqIndex? i n=some j/\j<n/\ -(n:Int)<=i/\i<n:=by
 unfold yw at h
 by_cases h0:0<=i
 ·rw[xab h0]at h
  by_cases h1:i<n
  ·rw[xab h1]at h;have e:i.toNat=j:=xau h;exact⟨by rw[seqIndex_of h0 h1,e],by omega,by omega,h1⟩
  ·rw[xah h1]at h;cases h
 ·rw[xah h0]at h
  by_cases h1: -(n:Int)<=i
  ·rw[xab h1]at h;have e:(i + n).toNat=j:=xau h;exact⟨by rw[seqIndex_neg (by omega) h1,e],by omega,h1,by omega⟩
  ·rw[xah h1]at h;cases h
theorem Ly (h:gG xs i=some v):∃j,seqIndex? i xs.length=some j/\xs[j]? =some v/\j<xs.length/\ -(xs.length:Int)<=i/\i<xs.length:=by
  unfold gG at h
  cases e:yw xs.length i with
  |none=>rw[e]at h;cases h
  |some j=>
    rw[e]at h;obtain⟨h1,h2,h3,h4⟩:=zeA e;exact⟨j,h1,h,h2,h3,h4⟩
theorem BX {α:Type}{xs:List α}{j:Nat}{v:α}(h:xs[j]? =some v):gG xs (j:Int)=some v:=by
 have hj:j<xs.length:=(xak.mp h).1;have e:yw xs.length (j:Int)=some j:=by
  unfold yw;rw[xab (by omega),xab (by omega)];simp
 unfold gG;rw[e];exact h
def Lk (b:Expr):Prop:=∀o i,subscripted b false o i=operate [o,i] (getItem o i)
def u6 (X:Cx)(r:R2):Prop:=
 ∀(value slice:Expr) (pins:Pnx) (s:Shared) (σ:St) (H:Hp) (x y:V) (v u:Value) (Q:VK),Inv X pins σ H s->RelV x v->RelV y u->r x y H Q->
  subscripted slice false v u=operate [v,u] (getItem v u)->wpAny (model X.prog X.w) X.A (subscriptTail value slice v u) (EP X pins σ Q) X.xe s
def BR (X:Cx)(id:String)(r:V->List V->Hp->VK->Prop):Prop:=
 ∀(pins:Pnx) (s:Shared) (σ:St) (H:Hp) (x:V) (xs:List V) (v:Value) (us:List Value) (Q:VK),Inv X pins σ H s->RelV x v->Vals xs us->r x xs H Q->
  wpAny (model X.prog X.w) X.A (call (.builtin id) (v::us)) (EP X pins σ Q) X.xe s
section
variable {X:Cx}{a b:Expr}{ta tb:TE}{pos:Pos}
theorem u6.or (h:u6 X r)(h':u6 X r'):u6 X (fun x y H Q=>r x y H Q\/r' x y H Q):=by
 intro value slice pins s σ H x y v u Q I rx ry q hs;rcases q with q |q
 ·exact h value slice pins s σ H x y v u Q I rx ry q hs
 ·exact h' value slice pins s σ H x y v u Q I rx ry q hs
theorem zjF (hr:u6 X r)(ha:PE X a ta)(hb:PE X b tb)(hs:Lk b):PE X (.Subscript a b pos) (G7 r ta tb):=by
 intro pins s σ H Q I h;exact Subscript_ (z7 ha hb I h fun v u s2 x y H2 I2 rx ry q=>hr a b pins s2 σ H2 x y v u Q I2 rx ry q (hs _ _))
noncomputable def Bh (K:Fgx):R2:=fun x y H Q=>∃p xs i v,x=.ref p/\y=.int i/\fW K H p xs/\gG xs i=some v/\Q v H
noncomputable def Bk (K:Fgx):R2:=fun x y H Q=>∃p xs i v,x=.ref p/\y=.int i/\kW K H p xs/\gG xs i=some v/\Q v H
noncomputable def Bj:R2:=fun x y H Q=>∃z i c,x=.str z/\y=.int i/\z.length<=sizeLine/\gG z.cps.toList i=some c/\Q (.str ⟨#[c]⟩) H
theorem zdV:u6 X (Bh X.K):=by
 intro value slice pins s σ H x y v u Q I rx ry h hs;obtain⟨p,xs,i,z,rfl,rfl,hq,he,q⟩:=h;cases rx;obtain⟨t,rfl⟩:=ry;obtain⟨its,r,pl,hz⟩:=I.list hq;obtain⟨j,h1,h2,h3,h4,h5⟩:=Ly he;obtain⟨w,ew,rw'⟩:=r.get h2;have hl:=r.length;have hn:=yD;have fin:EP X pins σ Q w s:=⟨z,H,I,rw',q⟩
 by_cases h0:0<=i
 ·have hj:i.toNat=j:=by
   rw[seqIndex_of h0 h5]at h1;exact xau h1
  exact item_listR pl.isList h0 (by omega) (by rw[hj];simpa using ew) fin hs
 ·have hj:(i + (its.toArray.size:Int)).toNat=j:=by
   rw[seqIndex_neg (by omega) h4]at h1;rw[xae, <-hl];exact xau h1
  exact subscriptTail_builtinR (x:=w) pl.isList.typeIs slot_list_getitem.lookup
   (wpAny_getItem_list_neg (Q:=fun r s'=>r=w/\EP X pins σ Q r s') pl.isList (by omega) (by rw[xae]<;>omega) (by omega) (by rw[hj];simpa using ew) ⟨rfl,fin⟩) hs
theorem zgQ:u6 X (Bk X.K):=by
 intro value slice pins s σ H x y v u Q I rx ry h hs;obtain⟨p,xs,i,z,rfl,rfl,hq,he,q⟩:=h;cases rx;obtain⟨t,rfl⟩:=ry;obtain⟨its,r,pl,hz⟩:=I.tuple hq;obtain⟨j,h1,h2,h3,h4,h5⟩:=Ly he;obtain⟨w,ew,rw'⟩:=r.get h2;have hl:=r.length;have hn:=yD;have fin:EP X pins σ Q w s:=⟨z,H,I,rw',q⟩;exact subscriptTail_builtinR (x:=w) pl.typeIs xcF.lookup
  (getItem_tuple (j:=j) (Q:=fun r s'=>r=w/\EP X pins σ Q r s') pl (by omega) (by omega) (by rw[xae, <-hl];exact h1) (by simpa using ew) ⟨rfl,fin⟩) hs
theorem zgW:u6 X Bj:=by
 intro value slice pins s σ H x y v u Q I rx ry h hs;obtain⟨z,i,c,rfl,rfl,hz,he,q⟩:=h;obtain⟨t,rfl⟩:=rx;obtain⟨t',rfl⟩:=ry;obtain⟨j,h1,h2,h3,h4,h5⟩:=Ly he;have hl:z.cps.toList.length=z.length:=by simp[Str.length]
 rw [hl] at h1 h4 h5;have hn := yD;exact tail_any (xdb s z t) slot_str_getitem.lookup (getItem_str (c := c) (by
  have e1:decide (i< -(2 ^ 63:Int))=false:=xaQ (by omega);have e2:decide (i >=2 ^ 63)=false:=xaQ (by omega);rw[e1,e2,Bool.or_false]) (by rw[h1];simpa using h2) ⟨.str ⟨#[c]⟩,H,I.tok _,⟨_,rfl⟩,q⟩) hs
noncomputable def Ri (K:Fgx):R2:=fun x y H Q=>Bh K x y H Q\/Bk K x y H Q\/Bj x y H Q
theorem zbz (lo hi:Option Int)(n:Nat):(sliceBounds lo hi none n).1=((HT.dN n 0 lo:Nat):Int)/\(sliceBounds lo hi none n).2.1=((HT.dN n n hi:Nat):Int)/\(sliceBounds lo hi none n).2.2=1:=by
  refine⟨?_,?_,rfl⟩
  · cases lo with
    |none=>simp[sliceBounds,HT.dN]
    |some i=>
      simp only[sliceBounds,HT.dN,Option.getD_none,show(1:Int) > 0 by decide,xa6]
      by_cases h:i<0
      · simp only[h,xa6]<;>omega
      · simp only[h,xbP]<;>omega
  · cases hi with
    |none=>simp[sliceBounds,HT.dN]
    |some i=>
      simp only[sliceBounds,HT.dN,Option.getD_none,show(1:Int) > 0 by decide,xa6]
      by_cases h:i<0
      · simp only[h,xa6]<;>omega
      · simp only[h,xbP]<;>omega
theorem zbr (its:List Value)(lo hi:Option Int):slicePick its.toArray lo hi none=((its.drop (HT.dN its.length 0 lo)).take (HT.dN its.length its.length hi - HT.dN its.length 0 lo)).toArray:=by
 obtain⟨h1,h2,h3⟩:=zbz lo hi its.toArray.size;unfold slicePick;rw[h1,h2,h3];simp only[sliceRange_one,pick_run,xae]<;>rfl
def Rn (K:Fgx):V->Option Int->Option Int->Hp->VK->Prop:=fun x lo hi H Q=>∃a xs,x=.ref a/\fW K H a xs/\∀p,H p=none->Q (.ref p) (upd H p (.lst (mz xs lo hi)))
theorem zdU:xR X (Rn X.K):=by
 intro pins s σ H x v vl vu lo hi sl Q I rx hs pl pu h;obtain⟨a,xs,rfl,hx,q⟩:=h;cases rx;obtain⟨its,r,ht,hz⟩:=I.list hx;have hlen:=r.length;refine⟨"list",_,slot_list_getitem.lookup,ht.isList.typeIs,?_⟩;refine wpAny_getItem_list_slice ht.isList hs pl pu .none (by simp) ?_ (by rw[xae]<;>omega)
 rw[zbr, <-hlen];refine⟨.ref s.heap.objs.size,_,I.laid (t':=s.toks) (o:=.lst (mz xs lo hi)) (fun b ob q=>xaa _ q) (xag _) ?_,rfl,q _ (I.hok.fresh (xag _))⟩;exact⟨xav (Vb xs lo hi) hz,_,0,(r.drop (HT.dN xs.length 0 lo)).take (HT.dN xs.length xs.length hi - HT.dN xs.length 0 lo),xas _ rfl⟩
noncomputable def vg:V->Bool
 |.non=>true
 |.bl _=>true
 |.int _=>true
 |.str _=>true
 |_=>false
noncomputable def wR:V->V->Bool
 |.non,.non=>true
 |.bl a,.bl b=>a==b
 |.bl a,.int b=>(if a then 1 else 0)==b
 |.int a,.bl b=>a==(if b then 1 else 0)
 |.int a,.int b=>a==b
 |.str a,.str b=>a==b
 |_,_=>false
theorem zgT (ry:RelV y u)(rx:RelV x v)(fy:vg y=true)(fx:vg x=true):SeqAt.EqAt A s u v (wR y x):=by
  cases y with
  |non=>
    cases ry
    cases x with
    |non=>cases rx;exact xcv _
    |bl b=>cases rx;exact SeqAt.EqAt.none_bool b
    |int b=>obtain⟨t,rfl⟩:=rx;exact SeqAt.EqAt.none_int b t
    |str b=>obtain⟨t,rfl⟩:=rx;exact SeqAt.EqAt.none_str b t
    |_=>exact absurd (show false=true from fx) xaq
  |bl a=>
    cases ry
    cases x with
    |non=>cases rx;exact SeqAt.EqAt.bool_none a
    |bl b=>cases rx;exact SeqAt.EqAt.bool_bool a b
    |int b=>obtain⟨t,rfl⟩:=rx;exact SeqAt.EqAt.bool_int a b t
    |str b=>obtain⟨t,rfl⟩:=rx;exact SeqAt.EqAt.bool_str a b t
    |_=>exact absurd (show false=true from fx) xaq
  |int a=>
    obtain⟨t',rfl⟩:=ry
    cases x with
    |non=>cases rx;exact SeqAt.EqAt.int_none a t'
    |bl b=>cases rx;exact SeqAt.EqAt.int_bool a t' b
    |int b=>obtain⟨t,rfl⟩:=rx;exact SeqAt.EqAt.int_int a t' b t
    |str b=>obtain⟨t,rfl⟩:=rx;exact xcD a t' b t
    |_=>exact absurd (show false=true from fx) xaq
  |str a=>
    obtain⟨t',rfl⟩:=ry
    cases x with
    |non=>cases rx;exact SeqAt.EqAt.str_none a t'
    |bl b=>cases rx;exact SeqAt.EqAt.str_bool a t' b
    |int b=>obtain⟨t,rfl⟩:=rx;exact xcE a t' b t
    |str b=>obtain⟨t,rfl⟩:=rx;exact SeqAt.EqAt.str_str a t' b t
    |_=>exact absurd (show false=true from fx) xaq
  |_=>exact absurd (show false=true from fy) xaq
noncomputable def m9 (x:V) (u:Value):Bool:=match u with
 |.none=>wR .non x
 |.bool b=>wR (.bl b) x
 |.int i _=>wR (.int i) x
 |.str z _=>wR (.str z) x
 |_=>false
theorem Vm (r:RelV y u)(f:vg y=true):m9 x u=wR y x:=by
 cases y with
 |non=>cases r;rfl
 |bl b=>cases r;rfl
 |int i=>obtain⟨t,rfl⟩:=r;rfl
 |str z=>obtain⟨t,rfl⟩:=r;rfl
 |_=>exact absurd (show false=true from f) xaq
theorem Dv:∀{xs:List V} {us:List Value},Vals xs us->xs.all vg=true->us.any (m9 x)=xs.any fun y=>wR y x
  |_,_,.nil,_=>rfl
  |y::xs,u::us,.cons r t,f=>by
    rw[xbv,xal]at f;rw[xbH,xbH,Vm r f.1,Dv t f.2]
theorem FZ (rx:RelV x v)(fx:vg x=true):∀{xs:List V} {us:List Value},Vals xs us->xs.all vg=true->∀u∈us,SeqAt.EqAt A s u v (m9 x u)
  |_,_,.nil,_=>fun u hu=>by cases hu
  |y::xs,u::us,.cons r t,f=>fun u' hu=>by
    rw[xbv,xal]at f;rcases xaI.mp hu with rfl |hu
    · rw[Vm r f.1];exact zgT r rx f.1 fx
    · exact FZ rx fx t f.2 u' hu
def inV (x:V)(xs:List V):Bool:=xs.any fun y=>wR y x
noncomputable def JQ (K:Fgx) (neg:Bool):R2:=fun x y H Q=>∃p xs,y=.ref p/\(fW K H p xs\/kW K H p xs)/\vg x=true/\xs.all vg=true/\Q (.bl (if neg then !inV x xs else inV x xs)) H
theorem zcC:eX X (compareOp .In) (JQ X.K false):=by
 intro pins s σ H x y v u Q I rx ry h;obtain⟨p,xs,rfl,hq,fx,fs,q⟩:=h;cases ry;rcases hq with hq |hq
 ·obtain⟨its,r,pl,hz⟩:=I.list hq;refine SeqAt.in_listAt (m9 x) pl.isList (fun w hw=>FZ rx fx r fs w (by simpa using hw)) ⟨.bl _,H,I,rfl,?_⟩;rw[show its.toArray.any (m9 x)=its.any (m9 x) by simp,Dv r fs];exact q
 ·obtain⟨its,r,pl,hz⟩:=I.tuple hq;refine SeqAt.in_tupleAt (m9 x) pl (fun w hw=>FZ rx fx r fs w (by simpa using hw)) ⟨.bl _,H,I,rfl,?_⟩;rw[show its.toArray.any (m9 x)=its.any (m9 x) by simp,Dv r fs];exact q
theorem zbt:eX X (compareOp .NotIn) (JQ X.K true):=by
 intro pins s σ H x y v u Q I rx ry h;obtain⟨p,xs,rfl,hq,fx,fs,q⟩:=h;cases ry;rcases hq with hq |hq
 ·obtain⟨its,r,pl,hz⟩:=I.list hq;refine SeqAt.notIn_listAt (m9 x) pl.isList (fun w hw=>FZ rx fx r fs w (by simpa using hw)) ⟨.bl _,H,I,rfl,?_⟩;rw[show its.toArray.any (m9 x)=its.any (m9 x) by simp,Dv r fs];exact q
 ·obtain⟨its,r,pl,hz⟩:=I.tuple hq;refine SeqAt.notIn_tupleAt (m9 x) pl (fun w hw=>FZ rx fx r fs w (by simpa using hw)) ⟨.bl _,H,I,rfl,?_⟩;rw[show its.toArray.any (m9 x)=its.any (m9 x) by simp,Dv r fs];exact q
theorem zby:iB X (.builtin "len") (fun xs H Q=>∃p ys,xs=[.ref p]/\(fW X.K H p ys\/kW X.K H p ys)/\Q (.int ys.length) H):=by
 intro pins s σ H xs us Q I r h;obtain⟨p,ys,rfl,hq,q⟩:=h;obtain⟨u,rfl,rx⟩:=vals1 r;cases rx;have hn:=yD;rcases hq with hq |hq
 ·obtain⟨its,r',pl,hz⟩:=I.list hq;have hlen:=r'.length;exact Calls.call_len_list pl.isList (by simp only[xae]<;>omega) ⟨.int ys.length,H,I.tok _,⟨s.toks + 1,by rw[xae,hlen]⟩,q⟩
 ·obtain⟨its,r',pl,hz⟩:=I.tuple hq;have hlen:=r'.length;exact len_tuple pl (by simp only[xae]<;>omega) ⟨.int ys.length,H,I.tok _,⟨s.toks + 1,by rw[xae,hlen]⟩,q⟩
theorem zbx:iB X (.builtin "len") (fun xs H Q=>∃z,xs=[.str z]/\z.length<=sizeLine/\Q (.int z.length) H):=by
 intro pins s σ H xs us Q I r h;obtain⟨z,rfl,hz,q⟩:=h;obtain⟨u,rfl,t,rfl⟩:=vals1 r;have hn:=yD;exact len_str (by omega) ⟨.int z.length,H,I.tok _,⟨_,rfl⟩,q⟩
theorem iB.or (h:iB X f r)(h':iB X f r'):iB X f (fun xs H Q=>r xs H Q\/r' xs H Q):=by
 intro pins s σ H xs us Q I rs q;rcases q with q |q
 ·exact h pins s σ H xs us Q I rs q
 ·exact h' pins s σ H xs us Q I rs q
theorem zbs:iB X (.type "list") (fun xs H Q=>∃p ys,xs=[.ref p]/\(fW X.K H p ys\/kW X.K H p ys)/\∀l,H l=none->Q (.ref l) (upd H l (.lst ys))):=by
 intro pins s σ H xs us Q I r h;obtain⟨p,ys,rfl,hq,q⟩:=h;obtain⟨u,rfl,rx⟩:=vals1 r;cases rx;have fin:∀(its:List Value),Vals ys its->ys.length<=sizeLine->∀(h':Heap) (c':Nat),(∀b o',s.heap.get? b=some o'->h'.get? b=some o')->
   h'.get? s.heap.objs.size=some {cls:=.type "list",dict:=none,data:=.seq its.toArray c',slots:= #[]}->EP X pins σ Q (.ref s.heap.objs.size) {s with heap:=h'}:=fun its r' hz h' c' kp e=>
  ⟨.ref s.heap.objs.size,_,I.laid (t':=s.toks) kp (xag _) (show iu X.prog X.w _ h' _ (.lst ys) from⟨hz,its,c',r',e⟩),rfl,q _ (I.hok.fresh (xag _))⟩
 rcases hq with hq |hq
 ·obtain⟨its,r',pl,hz⟩:=I.list hq;have hlen:=r'.length;obtain⟨o,ho,hc,n,hd⟩:=pl.isList;exact call_list_seq p (.inl rfl) ho hc hd (fun h' c' kp e=>fin its r' hz h' c' kp e) (by simp only[xae]<;>omega)
 ·obtain⟨its,r',pl,hz⟩:=I.tuple hq;have hlen:=r'.length;obtain⟨o,ho,hc,n,hd⟩:=pl;exact call_list_seq p (.inr rfl) ho hc hd (fun h' c' kp e=>fin its r' hz h' c' kp e) (by simp only[xae]<;>omega)
theorem Nh:iB X (.type "tuple") (fun xs H Q=>∃p ys,xs=[.ref p]/\((fW X.K H p ys/\∀l,H l=none->Q (.ref l) (upd H l (.tup ys)))\/(kW X.K H p ys/\Q (.ref p) H))):=by
 intro pins s σ H xs us Q I r h;obtain⟨p,ys,rfl,h⟩:=h;obtain⟨u,rfl,rx⟩:=vals1 r;cases rx;rcases h with⟨hq,q⟩ |⟨hq,q⟩
 ·obtain⟨its,r',pl,hz⟩:=I.list hq;have hlen:=r'.length;refine call_tuple_list pl.isList (fun h' kp=>?_) (by simp only[xae]<;>omega)
  have I1:Inv X pins σ H {s with heap:=h'}:=I.kept (t':=s.toks) kp;have I2:Inv X pins σ (upd H h'.objs.size (.tup ys)) {s with heap:=h'.push {cls:=.type "tuple",data:=.seq its.toArray}}:=
   I1.laid (t':=s.toks) (fun b o e=>xaa _ e) (xag _) (show iu X.prog X.w _ _ _ (.tup ys) from⟨hz,its,r',IsTup.new _ _⟩)
  exact⟨.ref h'.objs.size,_,I2,rfl,q _ (I1.hok.fresh (xag _))⟩
 ·obtain⟨its,r',pl,hz⟩:=I.tuple hq;exact call_tuple_same pl ⟨.ref p,H,I,rfl,q⟩
def TX (K:Fgx)(T:String)(x:V)(H:Hp):Prop:=match x with
 |.str _=>T="str"
 |.int _=>T="int"
 |.ref p=>(T="list"/\∃xs,fW K H p xs)\/(T="tuple"/\∃o,K.lookup p=some o/\o.cls=.type "tuple"/\o.dict=none)\/
   (T="dict"/\((∃kvs,H p=some (.dK kvs))\/∃kvs,H p=some (.dT kvs)))\/(T="set"/\∃S n,H p=some (.set S n))
 |_=>False
theorem ZW (I:Inv X pins σ H s)(r:RelV x v)(ty:TX X.K T x H):
    s.TypeIs v T/\∀a,v=.ref a->∃ob,s.heap.get? a=some ob/\ob.dict=none:=by
  cases x with
  |str z=>
    obtain⟨t,rfl⟩:=r;cases (show T="str" from ty);exact⟨xdb s z t,fun _ e=>nomatch e⟩
  |int i=>
    obtain⟨t,rfl⟩:=r;cases (show T="int" from ty);exact⟨typeIs_int s i t,fun _ e=>nomatch e⟩
  |ref p=>
    cases r;rcases ty with⟨rfl,xs,hq⟩ |⟨rfl,o,hk,hc,hd⟩ |⟨rfl,hk⟩ |⟨rfl,S,n,hk⟩
    · obtain⟨its,_,pl,_⟩:=I.list hq;refine⟨pl.isList.typeIs,fun a e=>?_⟩;cases e;obtain⟨o,n,e,c,hd,_⟩:=pl;exact⟨o,e,hd⟩
    · refine⟨⟨o,I.kIn p o hk,hc⟩,fun a e=>?_⟩;cases e;exact⟨o,I.kIn _ o hk,hd⟩
    · have z:∃o,s.heap.get? p=some o/\o.ExactDict:=by
        rcases hk with⟨kvs,hk⟩ |⟨kvs,hk⟩
        · obtain⟨_,_,_,_,o,_,_,e,ex,_⟩:=I.hok p _ hk;exact⟨o,e,ex⟩
        · obtain⟨_,_,_,_,o,_,_,e,ex,_⟩:=I.hok p _ hk;exact⟨o,e,ex⟩
      obtain⟨o,e,ex⟩:=z;refine⟨⟨o,e,ex.1⟩,fun a e2=>?_⟩;cases e2;exact⟨o,e,ex.2.1⟩
    · obtain⟨o,_,_,_,e,ex,_⟩:=I.hok p _ hk;refine⟨⟨o,e,ex.1⟩,fun a e2=>?_⟩;cases e2;exact⟨o,e,ex.2.1⟩
  |_=>exact False.elim ty
noncomputable def S6 (K:Fgx) (T:String) (r:V->List V->Hp->VK->Prop) (to:TE):TE:=fun σ H Q=>to σ H fun x H1=>TX K T x H1/\r x [] H1 Q
noncomputable def tBM (K:Fgx) (T:String) (r:V->List V->Hp->VK->Prop) (to:TE) (t:TA):TE:=fun σ H Q=>to σ H fun x H1=>TX K T x H1/\t σ H1 fun xs H2=>r x xs H2 Q
variable {o e:Expr}{es:List Expr}{to:TE}{t:TA}{name:Str}{apos cpos:Pos}{T id:String}{r:V->List V->Hp->VK->Prop}
theorem zgg (pa:PlainAttrs T)(slot:Slot T name id)(hty:typeOf (.builtin id)=pure (.type "method_descriptor"))(hm:BR X id r)(ho:PE X o to)
  (hbase:attributeBase o name X.env (eval o X.env)=eval o X.env:=by rfl) (hline:(apos.endLine==cpos.line)=true:=by rfl):PE X (.Call (.Attribute o name apos) [] [] cpos) (S6 X.K T r to):=by
 intro pins s σ H Q I h;refine wpAny_Call_method0_late hbase hline (aX (ho pins s σ H _ I h) fun v s1 ⟨x,H1,I1,r1,ty,q1⟩=>?_);obtain⟨h1,h2⟩:=ZW I1 r1 ty;exact⟨T,id,pa,slot,hty,h1,h2,Calls.callWith_builtin rfl (PySem.evalArgs_none (hm pins s1 σ H1 x [] v [] Q I1 r1 .nil q1))⟩
theorem QL (pa:PlainAttrs T)(slot:Slot T name id)(hty:typeOf (.builtin id)=pure (.type "method_descriptor"))(hm:BR X id r)(ho:PE X o to)(ha:PA X (e::es) t)
  (hbase:attributeBase o name X.env (eval o X.env)=eval o X.env:=by rfl)
  (hfew : ((backTo cpos (starEach (e::es) X.env)).all (fun x=> !x.1) && (backToKw cpos (keywordEach [] X.env)).all (fun x=>x.1.isSome)
   && decide ((e::es).length + ([]:List Keyword).length + (if ([]:List Keyword).isEmpty then 0 else 1)<30))=true:=by rfl)
  (hline:(apos.endLine==cpos.line)=true:=by rfl) (hs:starEach (e::es) X.env=(false,eval e X.env)::starEach es X.env:=by rfl) (hplain:(backTo cpos (starEach es X.env)).any (·.1)=false:=by rfl):
  PE X (.Call (.Attribute o name apos) (e::es) [] cpos) (tBM X.K T r to t):=by
 intro pins s σ H Q I h;refine wpAny_Call_method_late hbase hfew hline rfl (aX (ho pins s σ H _ I h) fun v s1 ⟨x,H1,I1,r1,ty,q1⟩=>?_);obtain⟨h1,h2⟩:=ZW I1 r1 ty;refine⟨T,id,pa,slot,hty,h1,h2,?_⟩;have hA:=ha cpos pins s1 σ H1 _ I1 q1;rw[hs]at hA ⊢;refine Calls.callWith_builtin (by show(false || (backTo cpos (starEach es X.env)).any (·.1))=false;rw[hplain]<;>rfl) (Calls.evalArgs_plain ?_)
 exact aX hA fun us s2 ⟨vs,H2,I2,r2,q2⟩=>hm pins s2 σ H2 x vs v us Q I2 r1 r2 q2
end
def Ue (X:Cx)(id:String)(r:V->List V->Hp->VK->Prop):Prop:=
 ∀(pins:Pnx) (s:Shared) (σ:St) (H:Hp) (x:V) (xs:List V) (v:Value) (us:List Value) (Q:VK),Inv X pins σ H s->RelV x v->Vals xs us->r x xs H Q->
  wpAny (model X.prog X.w) X.A (call (.builtin id) (v::us)) (EP X pins σ Q) X.xe s
theorem Vals.one:∀{x:V} {us:List Value},Vals [x] us->∃u,us=[u]/\RelV x u
 |_,_,.cons r .nil=>⟨_,rfl,r⟩
theorem Vals.zero:∀{us:List Value},Vals [] us->us=[]
 |_,.nil=>rfl
theorem Vals.dropLast (h:Vals xs us):Vals xs.dropLast us.dropLast:=by
  induction h with
  |nil=>exact .nil
  |cons r t ih=>
    cases t with
    |nil=>exact .nil
    |cons q t'=>exact .cons r ih
theorem Vals.rep (h:Vals xs us):∀k:Nat,Vals (List.replicate k xs).flatten (List.replicate k us).flatten
  |0=>.nil
  |k + 1=>by
    rw[xbg,xbg,xbx,xbx];exact Vals.append h (Vals.rep h k)
theorem zbV (l:List α):l.eraseIdx (l.length - 1)=l.dropLast:=by
  induction l with
  |nil=>rfl
  |cons a r ih=>
    cases r with
    |nil=>rfl
    |cons b r=>
      have e:(a::b::r).length - 1=((b::r).length - 1) + 1:=by
        have h1:(a::b::r).length=r.length + 2:=rfl;have h2:(b::r).length=r.length + 1:=rfl;omega
      rw[e,List.eraseIdx_cons_succ,ih]
      all_goals rfl
theorem foldl_rep (its:List Value):∀(k:Nat) (acc:List Value),
    List.foldl (fun x1 x2=>x1 ++ x2) acc.toArray (List.replicate k its.toArray)=(acc ++ (List.replicate k its).flatten).toArray
  |0,acc=>by simp
  |k + 1,acc=>by
    have e:acc.toArray ++ its.toArray=(acc ++ its).toArray:=by simp
    have e2:(acc ++ its) ++ (List.replicate k its).flatten=acc ++ (List.replicate (k + 1) its).flatten:=by
      rw[xbg,xbx,xaE]
    rw[<-e2, <-foldl_rep its k (acc ++ its), <-e,xbg,xb8]
section
variable {X:Cx}{pins:Pnx}{σ:St}{H:Hp}{s:Shared}{l b:Addr}{xs ys zs:List V}
theorem Inv.lset {its its':List Value}{n:Nat}{f:Array Value->Array Value}{t':Nat}(I:Inv X pins σ H s)(hH:H l=some (.lst xs))
  (e:s.heap.get? l=some {cls:=.type "list",data:=.seq its.toArray n}) (hf:f its.toArray=its'.toArray) (hv:Vals ys its') (hz:ys.length<=sizeLine):
  Inv X pins σ (upd H l (.lst ys)) {s with heap:=s.heap.update l (Obj.mapSeq f),toks:=t'}:=by
 have q:=PySem.IsL.update e f;rw[hf]at q;refine I.write (x:=l) (e:=l) (by rw[hH];exact trivial) (.inl rfl) (fun b' u hb hu=>(xaZ s.heap (Obj.mapSeq f) (xbs hb)).trans hu) ⟨_,q⟩ ?_;exact⟨hz,its',_,hv,q⟩
theorem Inv.lnew (I:Inv X pins σ H s)(hv:Vals ys its)(hz:ys.length<=sizeLine):
  Inv X pins σ (upd H s.heap.objs.size (.lst ys)) {s with heap:=s.heap.push {cls:=.type "list",data:=.seq its.toArray},toks:=t'}:=
 I.laid (fun _ _ q=>xaa _ q) (xag _) ⟨hz,its,0,hv,xas _ rfl⟩
theorem Inv.fresh (I:Inv X pins σ H s):H s.heap.objs.size=none:=I.hok.fresh (xag _)
theorem Inv.lstM (I:Inv X pins σ H s)(hH:H l=some (.lst xs)):xs.length<=sizeLine/\∃(its:List Value) (n:Nat),Vals xs its/\xs.length=its.length/\s.heap.get? l=some {cls:=.type "list",data:=.seq its.toArray n}:=by
 obtain⟨z,its,n,r,e⟩:=I.hok l _ hH;exact⟨z,its,n,r,r.length,e⟩
theorem zdh (h:n<=sizeLine):Builtin.List.listTooLong n=false:=by
 unfold Builtin.List.listTooLong;exact xaQ (by omega)
end
section
variable {X:Cx}
def zdI:V->List V->Hp->VK->Prop:=fun x vs H Q=>∃l xs y,x=.ref l/\vs=[y]/\H l=some (.lst xs)/\xs.length<sizeLine/\Q .non (upd H l (.lst (xs ++ [y])))
theorem O5:Ue X "list.append" zdI:=by
 intro pins s σ H x vs v us Q I rx rv h;obtain⟨l,xs,y,rfl,rfl,hH,hz,q⟩:=h;cases rx;obtain⟨u,rfl,ru⟩:=rv.one;obtain⟨z,its,n,r,hl,e⟩:=I.lstM hH;refine xdc F.slot_list_append ⟨_,e,rfl⟩ F.entry_list_append (F.args_list_append_2 _ _) (PySem.list_append l its.toArray n u (by rw[xae];omega)) ⟨e,?_⟩;refine⟨.non,_,I.lset (its':=its ++ [u]) hH e (by simp) (r.append (.cons ru .nil)) ?_,rfl,q⟩;rw[xat,xbu];omega
def Rj:V->List V->Hp->VK->Prop:=fun x vs H Q=>∃l xs y,x=.ref l/\vs=[]/\H l=some (.lst xs)/\xs[xs.length - 1]? =some y/\Q y (upd H l (.lst xs.dropLast))
theorem zg7:Ue X "list.pop" Rj:=by
 intro pins s σ H x vs v us Q I rx rv h;obtain⟨l,xs,y,rfl,rfl,hH,hy,q⟩:=h;cases rx;have hus:=rv.zero;subst hus;obtain⟨z,its,n,r,hl,e⟩:=I.lstM hH;obtain⟨u,hu,ru⟩:=r.get hy;have hy':its.toArray[its.toArray.size - 1]? =some u:=by
  show its.toArray[its.length - 1]? =some u;rw[<-xc6, <-hl];exact hu
 refine xdc F.slot_list_pop ⟨_,e,rfl⟩ F.entry_list_pop (F.args_list_pop_1 _) (MeetsSeq.list_pop_last l its.toArray n u hy' (by rw[xae];omega)) ⟨e,?_⟩;refine⟨y,_,I.lset (its':=its.dropLast) hH e ?_ r.dropLast ?_,ru,q⟩
 ·show its.toArray.eraseIdxIfInBounds (its.toArray.size - 1)=its.dropLast.toArray;rw[xae,List.eraseIdxIfInBounds_toArray,zbV]
 ·rw[List.length_dropLast];omega
noncomputable def Rm:R2:=fun x y H Q=>∃l k xs,x=.ref l/\y=.int k/\H l=some (.lst xs)/\ -(2 ^ 63)<=k/\k<2 ^ 63/\xs.length * k.toNat<=sizeLine/\
 ∀p,H p=none->Q (.ref p) (upd H p (.lst (List.replicate k.toNat xs).flatten))
theorem len_rep (xs:List α)(k:Nat):(List.replicate k xs).flatten.length=k * xs.length:=by
 induction k with
 |zero=>simp
 |succ k ih=>rw[xbg,xbx,xat,ih,Nat.succ_mul,Nat.add_comm]
theorem WK:eX X (binaryOp .Mult) Rm:=by
  intro pins s σ H x y v u Q I rx ry h;obtain⟨l,k,xs,rfl,rfl,hH,h1,h2,hz,q⟩:=h;cases rx;obtain⟨t,rfl⟩:=ry;obtain⟨z,its,n,r,hl,e⟩:=I.lstM hH;have hlen:its.toArray.size * k.toNat<=sizeLine:=by rw[xae, <-hl];exact hz
  have hcap:¬ its.toArray.size * k.toNat > (2 ^ 63 - 1) / 8:=by
    have:(sizeLine:Nat)<=(2 ^ 63 - 1) / 8:=by decide
    omega
  have hfit:¬ (!Builtin.List.listFitsIndex k)=true:=by
    rw[fitsIndex_both h1 h2];exact xaq
  have hlong:¬ Builtin.List.listTooLong (its.toArray.size * k.toNat)=true:=by
    rw[zdh hlen];exact xaq
  have hnew:List.foldl (fun x1 x2=>x1 ++ x2) #[] (List.replicate (if its.toArray.isEmpty=true then 0 else k.toNat) its.toArray)=(List.replicate k.toNat its).flatten.toArray:=by
    have f0:∀m:Nat,List.foldl (fun x1 x2=>x1 ++ x2) #[] (List.replicate m its.toArray)=(List.replicate m its).flatten.toArray:=fun m=>by
      have:=foldl_rep its m [];rw[xaW]at this;exact this
    rw[f0]
    cases its with
    |nil=>simp
    |cons a r'=>rw[xah (by simp)]
  refine wpAny_binaryOp_repeat_ref (T:="list") (U:="int") (by decide) ⟨_,e,rfl⟩ (fun s'=>typeIs_int s' k t) noFill_list_mul F.fills_int_mul F.slot_int_rmul repeat_list F.slot_int_index.lookup
    (xdc F.slot_int_rmul (typeIs_int s k t) F.entry_int_rmul (F.args_int_rmul_2 _ _) (int___rmul___int_list k t l its.toArray n)
      ⟨e,rfl,⟨_,e,rfl⟩,xdc F.slot_list_mul ⟨_,e,rfl⟩ F.entry_list_mul (F.args_list_mul_2 _ _) (AutoListH.list___mul___list_int_3 l its.toArray n k t hfit hcap hlong) ⟨e,?_⟩⟩)
  rw[hnew];exact⟨.ref _,_,I.lnew (t':=s.toks) (r.rep k.toNat) (by rw[len_rep,Nat.mul_comm];exact hz),rfl,q _ I.fresh⟩
end
end L2
namespace Att
open PySem PySem.W PySem.Calls PyProof.Rows
theorem za7:∀(ns:List Int) (vs:List Value),WellAll P h vs (ns.map WData.int)->IntsAre vs ns:=by
  intro ns
  induction ns with
  |nil=>
    intro vs w;rw[xbT]at w;cases w;exact .nil
  |cons n ns ih=>
    intro vs w;rw[xaA]at w
    cases w with
    |cons a b=>
      cases a;exact .cons _ _ (ih _ b)
theorem zcv {l:OpenLaw}{n:Nat}(hn:l.most=some n){P:Params}{h:Heap}{args:List WData}{vals:List Value}
    (hpre:l.row.toRowW.claim.pre args=true) (hwl:WellAll P h vals args):
    ∃a vs ns,vals=[Value.ref a]/\args=[WData.list (ns.map WData.int)]/\h.get? a=some {cls:=.type "list",data:=.seq vs.toArray}/\IntsAre vs ns/\ns.length<=n:=by
  have hsh:WShape.hasAll [] args [.list .int]=true:=(pre_splitW hpre).1;have hc:l.pre.holds [] {args:=args}=true:=(pre_splitW hpre).2;obtain⟨d,r,rfl,h1,h2⟩:=hasAllW_cons hsh;obtain rfl:=hasAllW_nil h2;obtain⟨xs,rfl,h3⟩:=hasW_list h1;obtain⟨ns,rfl⟩:=items_int h3;have hlen:ns.length<=n:=by
    unfold OpenLaw.pre at hc;have h4:(WTm.not (.lt (.lit (.int (n:Int))) (.len (.arg 0)))).holds [] {args:=[.list (ns.map .int)]}=true:=by
      have h4:=(holds_andW hc).1;rw[hn]at h4;exact h4
    have h5:=condW_of h4 (w_not (w_lt w_lit (w_len_list (w_arg rfl))));rw[xao]at h5;refine Nat.le_of_not_lt fun q=>?_;have q':(n:Int)<((ns.length:Nat):Int):=by omega
    first
      |(rw[xbB q']at h5;exact absurd h5 (by decide))
      |(simp at h5;omega)
  cases hwl with
  |cons w1 w2=>
    cases w2
    cases w1 with
    |list ho hall=>exact⟨_,_,ns,rfl,rfl,ho,za7 ns _ hall,hlen⟩
theorem zcq (l:OpenLaw)(args:List WData):l.row.toRowW.claim.post args (.bool true) args=true:=
 postW_of (r:=l.row.toRowW) (X:=(true==true))
  (show WShape.has [] (.bool true) .bool=true by first |rfl |decide |simp[WShape.has,WShape.arms,WShape.armsAll])
  (show(WTm.eq .res (.lit (.bool true))).value [] {args:=args,res:=some (.bool true),after:=args}=some (.bool (true==true)) from w_eq_bool (w_res rfl) w_lit) rfl
theorem zbQ {l:OpenLaw}{n:Nat}{q:Program}{loose:List Str}{XP:(Mgx)->Heap->Prop}{YP:World->Heap->Prop}{d:DefRec}
  (hn:l.most=some n) (hdf:d.params.defaults=[])
  (call:∀(w:World) (s₀ s₁:Shared) (mg mb:Mgx) (fa:Addr) (o:Obj) (pm cd doc:Value) (a:Addr) (vs:List Value) (ns:List Int),
   Ground q loose [] XP w s₀ mg mb s₁.heap->YP w s₁.heap->
   s₁.heap.get? fa=some o->o.data=.func (docDef d.name d.params d.body d.scope pm cd doc)->s₁.heap.CodeRec cd d.name->mg d.name=some (.ref fa)->
   s₁.heap.get? a=some {cls:=.type "list",data:=.seq vs.toArray}->IntsAre vs ns->ns.length<=n->s₁.gens= #[]->
   codeAny (model l.prog w) callerA (.call (.ref fa) ⟨[.ref a],[]⟩) (fun r s'=>r=.ok (.ret (.bool true))/\OldK s₁.heap s'.heap/\s'.os=s₁.os/\AllBare s'.gens) s₁):
  WalkO q loose XP YP l.row.toRowW d [] (fun f vs=>PySem.call f vs):=by
 intro w s₀ s₁ mg mb G Y fa o pm cd doc dV kV ho hd hcd hD hmg hg args vals as hpre hlay hrd hwl hlo;obtain rfl:dV=.none:=Dflts.none hD hdf;obtain rfl:kV=.none:=Dflts.noKw hD;obtain⟨a,vs,ns,rfl,rfl,hobj,hints,hlen⟩:=zcv hn hpre hwl;refine enter_call (xbC (call w s₀ s₁ mg mb fa o pm cd doc a vs ns G Y ho (fd_plain hd) hcd hmg hobj hints hlen hg) fun r s' hq=>?_);obtain⟨rfl,h2,h3,h4⟩:=hq;exact⟨.inl ⟨.bool true,.bool true,[],rfl,fun _=>rfl,.bool true,zcq l _,fun _=>⟨List.Pairwise.nil,fun _ hm=>(nomatch hm)⟩⟩,h2,h3,h4⟩
end Att
namespace L2
open PySem PySem.Spec PyProof.Rows
theorem Z4:∀{vs:List Value} {ns:List Int},IntsAre vs ns->Vals (ns.map V.int) vs
 |_,_,.nil=>.nil
 |_,_,.cons n t h=>.cons ⟨t,rfl⟩ (Z4 h)
noncomputable def dG (s:Stmt):Arguments:=match s with
 |.FunctionDef _ a _ _ _ _ _ _ _ _=>a
 |_=>{posonlyargs:=[],args:=[],vararg:=none,kwonlyargs:=[],kw_defaults:=[],kwarg:=none,defaults:=[]}
noncomputable def aZ (s:Stmt):List Stmt:=match s with
 |.FunctionDef _ _ b _ _ _ _ _ _ _=>b
 |_=>[]
noncomputable def aF (s:Stmt):Scope:=match s with
 |.FunctionDef _ _ _ _ _ _ sc _ _ _=>sc
 |_=>{kind:=.function,names:=[],isGenerator:=false,isCoroutine:=false}
abbrev lK:lM:=fun _ _ _ _ _ _=>False
abbrev E0:XK:=fun _ _ _=>False
theorem Gf:Passes lK X E0:=fun _ _ _ _ _ _ _ h=>h.elim
structure Fun (K:Fgx)(x qual:Str)(st:Stmt)(f:Addr)(fd:FuncData):Prop where
 ex:∃(oc:Value) (od:Option Addr) (kV doc pm:Value) (an:Option Addr) (cdv ct:Value) (osl:Array (Option Value)),
  fd=PySem.W.fnOf x qual (dG st) (aZ st) (aF st) .none kV doc pm an cdv ct/\K.lookup f=some ⟨oc,od,.func fd,osl⟩/\PySem.W.codeIn K cdv qual=true
 kp:PySem.W.keepIn K (.ref f)=true
section
variable {P:Program}{w:World}{K:Fgx}{mg:Mgx}{base:Heap}
theorem Fun.binds {x qual:Str}{st:Stmt}{f:Addr}{fd:FuncData}{ps:List Str}(F:Fun K x qual st f fd)
  (h:∀(kV doc pm:Value) (an:Option Addr) (cdv ct:Value) (us:List Value),us.length=ps.length->bindArgs (PySem.W.fnOf x qual (dG st) (aZ st) (aF st) .none kV doc pm an cdv ct) ⟨us,[]⟩=pure (ps.zip us)):Binds K fd ps []:=by
 obtain⟨oc,od,kV,doc,pm,an,cdv,ct,osl,rfl,lk,hcd⟩:=F.ex;exact .all (h kV doc pm an cdv ct)
theorem fB {x qual:Str}{st:Stmt}{f:Addr}{oc:Value}{od an:Option Addr}{osl:Array (Option Value)}{kV doc pm cdv ct:Value}(l:K.lookup f=some ⟨oc,od,.func (PySem.W.fnOf x qual (dG st) (aZ st) (aF st) .none kV doc pm an cdv ct),osl⟩)
  (c:PySem.W.codeIn K cdv qual=true) (k:PySem.W.keepIn K (.ref f)=true):Fun K x qual st f (PySem.W.fnOf x qual (dG st) (aZ st) (aF st) .none kV doc pm an cdv ct):=⟨⟨oc,od,kV,doc,pm,an,cdv,ct,osl,rfl,l,c⟩,k⟩
end
def Same (H H':Hp):Prop:=∀b o,H b=some o->H' b=some o
theorem Same.refl (H:Hp):Same H H:=fun _ _ h=>h
theorem Same.trans (a:Same H H1)(b:Same H1 H2):Same H H2:=fun c o h=>b c o (a c o h)
theorem Same.free (e:Same H H')(h:H' l=Option.none):H l=Option.none:=by
  cases q:H l with
  |none=>rfl
  |some o=>
    rw[e l o q]at h;cases h
end L2
set_option maxHeartbeats 0
namespace L2
open PySem PySem.Spec PyProof.Rows
section
variable {κ:Type}[DecidableEq κ]
noncomputable def mW (kvs:List (κ×V)) (k:κ):Option V:=(kvs.find? fun kv=>decide (kv.1=k)).map (·.2)
noncomputable def putK (kvs:List (κ×V)) (k:κ) (v:V):List (κ×V):=
 if (kvs.any fun kv=>decide (kv.1=k))=true then kvs.map (fun kv=>if kv.1=k then(kv.1,v) else kv) else kvs ++ [(k,v)]
theorem zdB {p:κ×V}{r:List (κ×V)}{k:κ}(e:p.1=k):mW (p::r) k=some p.2:=by simp[mW,xbI,e]
theorem zc3 {p:κ×V}{r:List (κ×V)}{k:κ}(e:¬ p.1=k):mW (p::r) k=mW r k:=by simp[mW,xbI,e]
theorem zdj (k:κ):∀kvs:List (κ×V),(kvs.any fun kv=>decide (kv.1=k))=(mW kvs k).isSome
  | []=>rfl
  |p::r=>by
    rw[xbH]
    by_cases e:p.1=k
    · simp only[zdB e,xbB e,Bool.true_or,xcb]
    · rw[zc3 e,xaQ e,Bool.false_or];exact zdj k r
end
theorem V9 (r:RelV (kV k) u):(wg P w).is k u=true:=by
 cases k with
 |inl i=>obtain⟨t,e⟩:=(show ∃t,u=Value.int i t from r);subst e;exact zbS P w i t
 |inr x=>obtain⟨t,e⟩:=(show ∃t,u=Value.str x t from r);subst e;exact OD P w x t
abbrev KT (H:Hp):List (List Key×V)->List (List Key×Addr×Value)->Prop:=Paired fun p q=>p.1=q.1/\H q.2.1=some (.tup (p.1.map kV))/\RelV p.2 q.2.2
def DGet (H:Hp)(a:Addr)(y:V)(r:Option V):Prop:=
 (∃kvs k,Rd H a (.dK kvs)/\y=kV k/\r=mW kvs k)\/∃kvs k b,Rd H a (.dT kvs)/\y=.ref b/\H b=some (.tup (k.map kV))/\r=mW kvs k
def DPut (H:Hp)(a:Addr)(y v:V)(H':Hp):Prop:=
 (∃kvs k,H a=some (.dK kvs)/\y=kV k/\kvs.length<sizeLine/\H'=upd H a (.dK (putK kvs k v)))\/
 ∃kvs k b,H a=some (.dT kvs)/\y=.ref b/\H b=some (.tup (k.map kV))/\kvs.length<sizeLine/\H'=upd H a (.dT (putK kvs k v))
def Ds (i:Expr):Prop:=∀ov iv,subscripted i false ov iv=operate [ov,iv] (getItem ov iv)
theorem zd0 {prog:Program}{w:World}{A:Around}{E:Value->Shared->Prop}{s:Shared}{env:Env}{value slice:Expr}{pos:Pos}{T id:String}{Q:Value->Shared->Prop}
  (hl:typeLookup (.type T) "__getitem__"=pure (some (.builtin id))) (hs:Ds slice)
  (h:wpAny (model prog w) A (eval value env) (fun o s₁=>wpAny (model prog w) A (eval slice env) (fun i s₂=>s₂.TypeIs o T/\wpAny (model prog w) A (getItem o i) Q E s₂) E s₁) E s):
  wpAny (model prog w) A (eval (.Subscript value slice pos) env) Q E s:=by
 refine Subscript_ (xaS h (fun o s₁ h₁=>xaS h₁ (fun i s₂ h₂=>?_) fun _ _ x=>x) fun _ _ x=>x);obtain⟨hT,h₂⟩:=h₂;unfold subscriptTail;refine tG ?_;rw[getitemInPython_of_ne hT.not_modules];refine tG (xcw hT hl ?_);have fin:wpAny (model prog w) A (subscripted slice false o i) (fun r s₃=>wpAny (model prog w) A (letTemporaryGo value o r >>=fun _=>pure r) Q E s₃) E s₂:=by
  rw[hs o i];exact wpAny_operating (xaS h₂ (fun r s₃ h₃=>tG (wpAny_letTemporaryGo (xaf h₃))) fun _ _ x=>x)
 first
  |exact xaf (tG fin)
  |exact tG (xaf (tG fin))
  |exact tG fin
structure M1 (X:Cx)(o:Expr)(m:Str)(apos:Pos)(e:Expr)(cpos:Pos):Prop where
 base:attributeBase o m X.env (eval o X.env)=eval o X.env
 few : ((backTo cpos (starEach [e] X.env)).all (fun x=> !x.1) && (backToKw cpos (keywordEach [] X.env)).all (fun x=>x.1.isSome)
  && decide (([e]:List Expr).length + ([]:List Keyword).length + (if ([]:List Keyword).isEmpty then 0 else 1)<30))=true
 line:(apos.endLine==cpos.line)=true
 trees:backTo cpos (starEach [e] X.env)=[(false,eval e X.env)]
structure M2 (X:Cx)(o:Expr)(m:Str)(apos:Pos)(e f:Expr)(cpos:Pos):Prop where
 base:attributeBase o m X.env (eval o X.env)=eval o X.env
 few : ((backTo cpos (starEach [e,f] X.env)).all (fun x=> !x.1) && (backToKw cpos (keywordEach [] X.env)).all (fun x=>x.1.isSome)
  && decide (([e,f]:List Expr).length + ([]:List Keyword).length + (if ([]:List Keyword).isEmpty then 0 else 1)<30))=true
 line:(apos.endLine==cpos.line)=true
 trees:backTo cpos (starEach [e,f] X.env)=[(false,eval e X.env),(false,eval f X.env)]
end L2
namespace Att
open PySem PySem.W PySem.Calls PyProof.Rows
end Att
namespace L2
open PySem PySem.Spec PyProof.Rows
noncomputable def Its (z:Str):It:=⟨fun i _=>i<z.cps.size,fun i H x H'=>H'=H/\∃c,z.cps[i]? =some c/\x=.str ⟨#[c]⟩,fun i _=>i=z.cps.size⟩
theorem zfD (hQ:Q () s):wpAny M A (letOwnedTupleGo tg (.ref it) (.str x t)) Q E s:=by
 unfold letOwnedTupleGo;cases tg<;>exact xaf hQ
theorem ZS {P:Program}{w:World}{K:Fgx}{tg:Expr}{ty:String}{z:Str}{t:Tok}{it:Addr}
  (W:∀A:Around,A.handled=none->Walks P w A it [it] [it] z.cps.size (SignAt z) (fun i h=>h.IsStrIter it ty z t i))
  (hself:∀(A:Around) (i:Nat) (s:Shared) (Q:Value->Shared->Prop) (E:Value->Shared->Prop),s.heap.IsStrIter it ty z t i->Q (.ref it) s->wpAny (model P w) A (pyIter (.ref it)) Q E s):
  Turn P w K tg (Its z) [it] it (fun i h=>h.IsStrIter it ty z t i) where
 mem:=by simp
 obj:=fun i h st b hb=>by
  have e:b=it:=by simpa using hb
  subst e;obtain⟨o,e,c,d⟩:=st;exact⟨o,e,fun v z=>by rw[d]at z;cases z⟩
 keep:=fun i h h' st k=>by
  obtain⟨o,e,c,d⟩:=st;exact⟨o,k it (by simp) o e,c,d⟩
 item:=by
  intro X hP hw hK hc i pins s σ H E I hf st hg;subst hP hw hK;obtain⟨f0,f1,f2,f3,f4,f5⟩:=hf it (by simp);refine(W X.A (I.ok.hd hc)).item i s _ _ hg st fun v h' tk hv st' kk=>?_;obtain⟨c,u,hcc,rfl⟩:=hv;have I1:Inv X pins σ H {s with heap:=h',toks:=tk}:=I.turned (fun b o hb e=>kk b o (by simpa using hb) e) f0 f1 f3 f4 f5;exact⟨_,rfl,zfD ⟨.str ⟨#[c]⟩,H,I1,⟨_,rfl⟩,⟨rfl,c,hcc,rfl⟩,st',fun b hb=>(hf b hb).1⟩⟩
 done:=by
  intro X hP hw hK hc i pins s σ H E I hf st hg;subst hP hw hK;have hg':i=z.cps.size:=hg;subst hg';obtain⟨f0,f1,f2,f3,f4,f5⟩:=hf it (by simp);exact(W X.A (I.ok.hd hc)).done s _ _ st fun h' tk kk=>⟨rfl,I.turned (fun b o hb e=>kk b o (by simpa using hb) e) f0 f1 f3 f4 f5⟩
 self:=fun A i s Q E st q=>hself A i s Q E st q
section
variable {X:Cx}{tg:Expr}
noncomputable def Oe (tl:TE):TI:=fun σ H R=>tl σ H fun x H1=>∃z,x=.str z/\R (Its z) H1
theorem zf2 {l:Expr}{tl:TE}(hl:PE X l tl):PI X tg l (Oe tl):=by
 intro pins s σ H R I h;refine aX (hl pins s σ H _ I h) fun v s1 ⟨x,H1,I1,r1,q1⟩=>?_;obtain⟨z,e,q⟩:=q1;subst e;obtain⟨t,e⟩:=r1;subst e;have fp:∀b∈ [s1.heap.objs.size],kI X pins H1 b:=fun b hb=>by
  have e:b=s1.heap.objs.size:=by simpa using hb
  subst e;exact I1.fpOk (xag _) (I1.hok.fresh (xag _))
 cases ha:z.cps.all (· <128)
 ·refine wpAny_pyIter_wide ha ?_;exact ⟨s1.heap.objs.size,[s1.heap.objs.size],_,_,H1,rfl,I1.kept (t':=s1.toks) fun b o e=>xaa _ e,
   ZS (ty:="str_iterator") (z:=z) (t:=t) (fun A hA=>Walks.strWide hA _ z t) (fun _ _ _ _ _ st q=>wpAny_pyIter_striter_wide st q),⟨_,xas _ rfl,rfl,rfl⟩,fp,q⟩
 ·refine wpAny_pyIter_ascii ha ?_;exact ⟨s1.heap.objs.size,[s1.heap.objs.size],_,_,H1,rfl,I1.kept (t':=s1.toks) fun b o e=>xaa _ e,
   ZS (ty:="str_ascii_iterator") (z:=z) (t:=t) (fun A hA=>Walks.strAscii hA _ z t) (fun _ _ _ _ _ st q=>wpAny_pyIter_striter_ascii st q),⟨_,xas _ rfl,rfl,rfl⟩,fp,q⟩
end
section
variable {X:Cx}
def W5:V->List V->Hp->VK->Prop:=fun x vs H Q=>∃z y i rest,x=.str z/\vs=[.str y]/\Builtin.Str.occurrences z y 0 z.length 1=i::rest/\Q (.int (i:Nat)) H
theorem zdg:BR X "str.index" W5:=by
 intro pins s σ H x vs v us Q I rx rv h;obtain⟨z,y,i,rest,rfl,rfl,ho,q⟩:=h;obtain⟨t,rfl⟩:=rx;obtain⟨u,rfl,t',rfl⟩:=rv.one;exact call_givesAt (P:=fun _=>True) F.slot_str_index (xdb _ _ _) F.entry_str_index (F.args_str_index_2 _ _) (fun prog w A R s _ h=>gives_str_index z y t t' i rest ho prog w A R s h) True.intro ⟨.int _,H,I.tok _,⟨_,rfl⟩,q⟩
def Ro:V->Option Int->Option Int->Hp->VK->Prop:=fun x lo hi H Q=>∃z,x=.str z/\z.length<=sizeLine/\Q (.str (Txt.slice z lo hi)) H
theorem zgm:xR X Ro:=by
 intro pins s σ H x v vl vu lo hi sl Q I rx hs pl pu h;obtain⟨z,rfl,hz,q⟩:=h;obtain⟨t,rfl⟩:=rx;refine⟨"str",_,F.slot_str_getitem.lookup,xdb _ _ _,?_⟩;obtain⟨o,ho,hc,hd⟩:=hs;cases pl<;>cases pu
 ·exact xbG (l:=none) (u:=none) (st:=none) ⟨o,ho,hc,hd⟩ rfl (xcx ⟨xav (xcV z none none) hz,fun t' k=>⟨.str _,H,I.tok _,⟨_,rfl⟩,q⟩⟩)
 ·rename_i j uj;exact xbG (l:=none) (u:=some (j,uj)) (st:=none) ⟨o,ho,hc,hd⟩ rfl (xcx ⟨xav (xcV z none (some j)) hz,fun t' k=>⟨.str _,H,I.tok _,⟨_,rfl⟩,q⟩⟩)
 ·rename_i i ui;exact xbG (l:=some (i,ui)) (u:=none) (st:=none) ⟨o,ho,hc,hd⟩ rfl (xcx ⟨xav (xcV z (some i) none) hz,fun t' k=>⟨.str _,H,I.tok _,⟨_,rfl⟩,q⟩⟩)
 ·rename_i i ui j uj;exact xbG (l:=some (i,ui)) (u:=some (j,uj)) (st:=none) ⟨o,ho,hc,hd⟩ rfl (xcx ⟨xav (xcV z (some i) (some j)) hz,fun t' k=>⟨.str _,H,I.tok _,⟨_,rfl⟩,q⟩⟩)
theorem zgq:eX X (compareOp .Is) (fun x y H Q=>∃b,y=.bl b/\Q (.bl (decide (x=.bl b))) H):=by
 intro pins s σ H x y v u Q I rx ry h;obtain⟨b,rfl,q⟩:=h;cases ry
 cases x with
 |bl c=>cases rx;exact xaf (dZ I q (by cases b<;>cases c<;>rfl))
 |non=>cases rx;exact xaf (dZ I q (by simp))
 |int _=>obtain⟨t,rfl⟩:=rx;exact xaf (dZ I q (by simp))
 |str _=>obtain⟨t,rfl⟩:=rx;exact xaf (dZ I q (by simp))
 |byt _=>obtain⟨t,rfl⟩:=rx;exact xaf (dZ I q (by simp))
 |flt _=>obtain⟨t,rfl⟩:=rx;exact xaf (dZ I q (by simp))
 |ref _=>cases rx;exact xaf (dZ I q (by simp))
 |ty _=>cases rx;exact xaf (dZ I q (by simp))
theorem zcG:eX X (compareOp .IsNot) (fun x y H Q=>∃b,y=.bl b/\Q (.bl (!decide (x=.bl b))) H):=by
 intro pins s σ H x y v u Q I rx ry h;obtain⟨b,rfl,q⟩:=h;cases ry
 cases x with
 |bl c=>cases rx;exact xaf (dZ I q (by cases b<;>cases c<;>rfl))
 |non=>cases rx;exact xaf (dZ I q (by simp))
 |int _=>obtain⟨t,rfl⟩:=rx;exact xaf (dZ I q (by simp))
 |str _=>obtain⟨t,rfl⟩:=rx;exact xaf (dZ I q (by simp))
 |byt _=>obtain⟨t,rfl⟩:=rx;exact xaf (dZ I q (by simp))
 |flt _=>obtain⟨t,rfl⟩:=rx;exact xaf (dZ I q (by simp))
 |ref _=>cases rx;exact xaf (dZ I q (by simp))
 |ty _=>cases rx;exact xaf (dZ I q (by simp))
theorem range_any (bs:List Bool):(List.range bs.length).any (fun i=>(bs[i]?).getD false)=bs.any id:=by
 rw[xaH,List.any_eq_true,List.any_eq_true]
 constructor
 ·rintro⟨i,hi,h⟩;have hi':=xbR.mp hi;rw[xai hi']at h;exact⟨_,xcW hi',h⟩
 ·rintro⟨b,hb,h⟩;obtain⟨i,hi,e⟩:=List.mem_iff_getElem.mp hb;refine⟨i,xbR.mpr hi,?_⟩;rw[xai hi,e];exact h
theorem zeR {bs:List Bool}{its:List Value}(r:Vals (bs.map V.bl) its){i:Nat}{v:Value}(h:its.toArray[i]? =some v):v=.bool ((bs[i]?).getD false):=by
 have h':its[i]? =some v:=by simpa using h
 have hl:=r.length;rw[xao]at hl;have hi:i<bs.length:=by
  have:=(xak.mp h').1;omega
 have hx:(bs.map V.bl)[i]? =some (V.bl bs[i]):=by rw[xam,xai hi];rfl
 obtain⟨u,hu,ru⟩:=r.get hx;rw[h']at hu;cases hu;rw[xai hi];exact ru
theorem zdo (hc:X.calm=true):iB X (.builtin "any") (fun xs H Q=>∃(p:Addr) (bs:List Bool),xs=[.ref p]/\fW X.K H p (bs.map V.bl)/\Q (.bl (bs.any id)) H):=by
 intro pins s σ H xs us Q I r h;obtain⟨p,bs,rfl,hq,q⟩:=h;obtain⟨u,rfl,ru⟩:=vals1 r;cases ru;obtain⟨its,rv,pl,hz⟩:=I.list hq;have hp:p<s.heap.objs.size:=by obtain⟨o,ho,_⟩:=pl.isList;exact xan ho
 have hn:its.toArray.size=bs.length:=by rw[xae, <-rv.length,xao]
 refine call_any_walk (wpAny_pyIter_list pl.isList ⟨s.heap.objs.size,_,_,its.toArray.size,_,_,fun i=>(bs[i]?).getD false,rfl,Walks.list (A:=X.A.in1) (show X.A.in1.handled=none from I.ok.hd hc) _ p (xaw hp) its.toArray,
  ⟨⟨_,xas _ rfl,rfl,rfl⟩,pl.isList.at fun o e=>xaa _ e⟩,fun i v s' Q' E' hv hQ=>?_,fun h' tk kk=>?_⟩)
 ·rw[zeR rv hv];exact xbw hQ
 ·rw[hn,range_any];refine⟨.bl _,H,I.kept fun b o e=>kk b o ?_ (xaa _ e),rfl,q⟩;intro z;have z':b=s.heap.objs.size:=by simpa using z
  exact xa4 _ (z' ▸ xan e)
end
section
variable {X:Cx}{pins:Pnx}{σ:St}{H:Hp}{s:Shared}
theorem zcW:∀{us:List Value},Vals (ns.map V.int) us->IntsAre us ns:=by
  induction ns with
  |nil=>intro us h;cases us with
    |nil=>exact .nil
    |cons u us=>cases h
  |cons n ns ih=>intro us h;cases us with
    |nil=>cases h
    |cons u us=>
      cases h with
      |cons a b=>
        obtain⟨t,rfl⟩:=a;exact .cons _ _ (ih b)
end
section
variable {X:Cx}{pins:Pnx}{σ:St}{H:Hp}{s:Shared}
def W7:V->List V->Hp->VK->Prop:=fun x vs H Q=>∃z y,x=.str z/\vs=[.str y]/\Q (.bl (Txt.startswith z y)) H
theorem zcK:BR X "str.startswith" W7:=by
 intro pins s σ H x vs v us Q I rx rv h;obtain⟨z,y,rfl,rfl,q⟩:=h;obtain⟨t,rfl⟩:=rx;obtain⟨u,rfl,t',rfl⟩:=rv.one;exact SC.startswith ⟨.bl _,H,I,rfl,q⟩
def W6:V->List V->Hp->VK->Prop:=fun x vs H Q=>∃z y,x=.str z/\vs=[.str y]/\z.length<=sizeLine/\Q (.str (Txt.lstripChars z y)) H
theorem zcp:BR X "str.lstrip" W6:=by
 intro pins s σ H x vs v us Q I rx rv h;obtain⟨z,y,rfl,rfl,hz,q⟩:=h;obtain⟨t,rfl⟩:=rx;obtain⟨u,rfl,t',rfl⟩:=rv.one;exact SC.lstripChars (fun t' k=>⟨.str _,H,I.tok _,⟨_,rfl⟩,q⟩) hz
theorem DQ:iB X (.type "int") (fun xs H Q=>∃z n,xs=[.str z]/\intText? z=some n/\z.length<=640/\Q (.int n) H):=by
 intro pins s σ H xs us Q I r h;obtain⟨z,n,rfl,h1,h2,q⟩:=h;obtain⟨u,rfl,t,rfl⟩:=vals1 r;exact W.KIN.call_text h1 h2 ⟨.int n,H,I.tok _,⟨_,rfl⟩,q⟩
end
noncomputable def textV:V->Option Str
 |.str z=>if z.length<=sizeLine then some z else none
 |.int i=>if i.natAbs.log2<1920 then some (toString i) else none
 |_=>none
abbrev TJ:=Str->St->Hp->VK->Prop
def PJ (X:Cx)(vs:List Expr)(t:TJ):Prop:=∀(pins:Pnx) (s:Shared) (σ:St) (H:Hp) (out:Str) (Q:VK),Inv X pins σ H s->t out σ H Q->wpAny (model X.prog X.w) X.A (joinParts out (evalEach vs X.env)) (EP X pins σ Q) X.xe s
def Om:TJ:=fun out _ H Q=>out.length<=sizeLine/\Q (.str out) H
noncomputable def zhH (te:TE) (tj:TJ):TJ:=fun out σ H Q=>te σ H fun v H1=>∃y,textV v=some y/\(out ++ y).length<=sizeLine/\tj (out ++ y) σ H1 Q
section
variable {X:Cx}{vs:List Expr}{te:TE}{tj:TJ}
theorem zhs:PJ X [] Om:=fun pins s σ H out Q I h=>joinParts_nil ⟨.str out,H,I.tok _,⟨_,rfl⟩,h.2⟩ h.1
theorem zfk (hv:PJ X vs tj)(hz:z.length<=sizeLine):PJ X (.Constant (.str z) k pos::vs) (fun out σ H Q=>(out ++ z).length<=sizeLine/\tj (out ++ z) σ H Q):=fun pins s σ H out Q I h=>by
 refine joinParts_cons (Calls.Constant_str ?_);exact⟨h.1,hv pins _ σ H _ Q (I.tok _) h.2⟩
theorem zf9 (he:PE X e te)(hv:PJ X vs tj):PJ X (.FormattedValue e (-1) none pos::vs) (zhH te tj):=fun pins s σ H out Q I h=>by
 refine joinParts_cons (FormattedValue_plain (aX (he pins s σ H _ I h) fun u s1 ⟨x,H1,I1,r1,y,ey,hl,q⟩=>?_));cases x<;>simp only[textV,reduceCtorEq]at ey
 case int i=>
  split at ey
  ·rename_i hd;cases ey;obtain⟨t,rfl⟩:=r1;exact formatField_int_small hd ⟨hl,hv pins _ σ H1 _ Q (I1.tok _) q⟩
  ·cases ey
 case str z=>
  split at ey
  ·rename_i hz;cases ey;obtain⟨t,rfl⟩:=r1;exact formatField_str (fun t' tk=>⟨hl,hv pins _ σ H1 _ Q (I1.tok _) q⟩) hz
  ·cases ey
theorem zf0 (h:PJ X (v::w::vs) tj):PE X (.JoinedStr (v::w::vs) pos) (fun σ H Q=>tj Str.empty σ H Q):=fun pins s σ H Q I q=>JoinedStr_many (h pins s σ H _ Q I q)
end
theorem Vt (g:α->β->β):∀(l:List α) (b:β),(∀x∈l,∀b,f x b=pure (.yield (g x b)))->(forIn l b f:Sem β)=pure (l.foldl (fun b x=>g x b) b)
  | [],b,_=>rfl
  |x::l,b,h=>by
    rw[List.forIn_cons,h x xaF b];simp only[pure_bind,xb8];exact Vt g l (g x b) fun y hy=>h y (xap _ hy)
noncomputable def vd (cells:List (Str×Addr)) (cs:List (Str×Addr)) (x:Str×NameKind):List (Str×Addr):=if x.2=.free then(x.1,(cells.lookup x.1).getD 0)::cs else cs
noncomputable def iw (cells:List (Str×Addr)) (names:List (Str×NameKind)):List (Str×Addr):=names.foldl (vd cells) []
theorem zbo (h:∀y∈scope.names,y.2=.free->∃c,env.cells.lookup y.1=some c):closureFor scope env=pure (iw env.cells scope.names):=by
 simp only [closureFor];rw [Vt (fun x cs => vd env.cells cs x) scope.names [] (fun x hx c=>by
  obtain⟨n,kind⟩:=x
  by_cases hk:kind=.free
  ·obtain⟨a,ha⟩:=h _ hx hk;subst hk;have ha':env.cells.lookup n=some a:=ha
   simp[cellOf,ha',vd]
  ·have hk':(kind==NameKind.free)=false:=by simpa using hk
   simp[hk',hk,vd])]
 rfl
theorem U5:∀(names:List (Str×NameKind)) (acc:List (Str×Addr)),(∀y∈names,y.2=.free->∃c,cells.lookup y.1=some c)->
    (∀x c,acc.lookup x=some c->cells.lookup x=some c)->∀x c,(names.foldl (vd cells) acc).lookup x=some c->cells.lookup x=some c
  | [],_,_,h,x,c,e=>h x c e
  |(n,k)::r,acc,hc,h,x,c,e=>by
    rw[xb8]at e;refine U5 r _ (fun y hy=>hc y (xap _ hy)) ?_ x c e;intro y d hd;unfold vd at hd
    by_cases hk:k=.free
    · obtain⟨a,ha⟩:=hc (n,k) xaF hk;have ha':cells.lookup n=some a:=ha;simp only[hk,xa6,ha',Option.getD_some,xbp]at hd
      cases hyn:y==n with
      |true=>
        rw[hyn]at hd;have e2:=eq_of_beq hyn;subst e2;exact ha'.trans hd
      |false=>
        rw[hyn]at hd;exact h y d hd
    · simp only[hk,xbP]at hd;exact h y d hd
theorem Np:∀(names:List (Str×NameKind)) (acc:List (Str×Addr)) (x:Str),((x,NameKind.free)∈names\/∃c,acc.lookup x=some c)->∃c,(names.foldl (vd cells) acc).lookup x=some c
  | [],acc,x,h=>by
    rcases h with h |h
    · exact absurd h (by simp)
    · exact h
  |(n,k)::r,acc,x,h=>by
    rw[xb8];refine Np r _ x ?_;have keep:(∃c,acc.lookup x=some c)->∃c,(vd cells acc (n,k)).lookup x=some c:=fun⟨c,hc⟩=>by
      unfold vd
      by_cases hk:k=.free
      · simp only[hk,xa6,xbp]
        cases hxn:x==n with
        |true=>exact⟨_,rfl⟩
        |false=>exact⟨c,hc⟩
      · simp only[hk,xbP];exact⟨c,hc⟩
    rcases h with h |h
    · rcases xaI.mp h with h |h
      · cases h;refine .inr ?_;unfold vd;simp only[xa6,xbp,xbk];exact⟨_,rfl⟩
      · exact .inl h
    · exact .inr (keep h)
noncomputable def gY (psc:Scope) (names:List (Str×NameKind)):List (Str×NameKind):=names.map fun(n,k)=>if (k==.free && psc.kind==.function && psc.names.lookup n==some .cell) then(n,.cell) else(n,k)
theorem Gs {psc:Scope}:∀{names:List (Str×NameKind)} {x:Str} {k':NameKind},(gY psc names).lookup x=some k'->(k'=.cell\/k'=.free)->(∀y∈names,y.2≠ .cell)->(x,NameKind.free)∈names
  | [],_,_,h,_,_=>by simp[gY]at h
  |(n,k)::r,x,k',h,hk,hn=>by
    have ih:= @Gs psc r x k';have h':List.lookup x ((if (k==NameKind.free && psc.kind==.function && psc.names.lookup n==some .cell)=true then(n,NameKind.cell) else(n,k))::gY psc r)=some k':=h
    cases hx:x==n with
    |true=>
      have e:=eq_of_beq hx;subst e
      by_cases hc:(k==NameKind.free && psc.kind==.function && psc.names.lookup x==some .cell)=true
      · have hkf:k=.free:=by
          cases k<;>first |rfl |(exfalso;simp at hc)
        rw[hkf];exact xaF
      · rw[xah hc]at h';simp only[xbp,xbk]at h';have e2:k=k':=xau h';subst e2;rcases hk with hk |hk
        · exact absurd hk (hn (x,k) xaF)
        · rw[hk];exact xaF
    |false=>
      refine xap _ (ih ?_ hk fun y hy=>hn y (xap _ hy))
      by_cases hc:(k==NameKind.free && psc.kind==.function && psc.names.lookup n==some .cell)=true
      · rw[xab hc]at h';simp only[xbp,hx]at h';exact h'
      · rw[xah hc]at h';simp only[xbp,hx]at h';exact h'
noncomputable def lN (cs:List (Str×Nat)) (σ:St):St:=cs.map fun p=>(σ[p.2]?).join
abbrev mj (X:Cx)(Nc:List Str)(scope:Scope)(cl:List (Str×Addr))(C:Addr)(s₀:Shared)(H₀:Hp)(ex:List Addr)(pn:Pnx):Cx:=
 {X with N:=Nc,s₀:=s₀,H₀:=H₀,env:=compEnvC scope cl C X.env,outer:=X.stack,ex:=ex,fn:=fun _=>false,pn:=pn,xe:=fun _ _=>False}
noncomputable def Jh (N:List Str) (psc:Scope) (x:Str) (cs:List (Str×Nat)) (scope:Scope):Bool:=
 scope.kind==.function && scope.names.lookup x==some .local && decide ((x::cs.map (·.1)).Nodup) &&
 scope.names.all (fun y=>y.2 !=.cell && (y.2 !=.local || scope.names.lookup y.1==some .local) && (y.2 !=.free || (psc.names.lookup y.1==some .cell || psc.names.lookup y.1==some .free))) &&
 cs.all (fun p=>N[p.2]? ==some p.1 && (psc.names.lookup p.1==some .cell || psc.names.lookup p.1==some .free) && ((gY psc scope.names).lookup p.1==some .cell || (gY psc scope.names).lookup p.1==some .free))
structure CompOk (N:List Str)(psc:Scope)(x:Str)(cs:List (Str×Nat))(scope:Scope):Prop where
 kind:scope.kind=.function
 own:scope.names.lookup x=some .local
 nd:(x::cs.map (·.1)).Nodup
 cell:∀y∈scope.names,y.2≠ .cell
 names:∀y∈scope.names,y.2=.local->scope.names.lookup y.1=some .local
 has:∀y∈scope.names,y.2=.free->psc.names.lookup y.1=some .cell\/psc.names.lookup y.1=some .free
 cap:∀p∈cs,N[p.2]? =some p.1/\(psc.names.lookup p.1=some .cell\/psc.names.lookup p.1=some .free)/\((gY psc scope.names).lookup p.1=some .cell\/(gY psc scope.names).lookup p.1=some .free)
theorem CompOk.of (h:Jh N psc x cs scope=true):CompOk N psc x cs scope:=by
 unfold Jh at h;simp only[xal,xbJ,xa7,xbb,xaN,bne_iff_ne,ne_eq]at h;obtain⟨⟨⟨⟨h1,h2⟩,h3⟩,h4⟩,h5⟩:=h;refine⟨h1,h2,h3,fun y hy=>(h4 y hy).1.1,fun y hy e=>?_,fun y hy e=>?_,fun p hp=>⟨(h5 p hp).1.1,(h5 p hp).1.2,(h5 p hp).2⟩⟩
 ·rcases(h4 y hy).1.2 with z |z
  ·exact absurd e z
  ·exact z
 ·rcases(h4 y hy).2 with z |z
  ·exact absurd e z
  ·exact z
def wD (X:Cx)(ifs:List Expr)(t:TT):Prop:=
 ∀(pins:Pnx) (s:Shared) (σ:St) (H:Hp) (Q:Bool->Hp->Prop),Inv X pins σ H s->t σ H Q->
  wpAny (model X.prog X.w) X.A (forIn ifs true fun c r=>if r=true then do let ok <-isTrue c X.env (eval c X.env);pure (ForInStep.yield ok) else pure (ForInStep.yield r)) (TP X pins σ Q) X.xe s
def Bx:TT:=fun _ H Q=>Q true H
theorem zct:wD X [] Bx:=fun _ _ _ H _ I h=>wpAny_tests_nil ⟨H,I,h⟩
def S8 (wi:TI)(tq:TT)(te:TE)(cs:List (Str×Nat)):St->Hp->(Addr->Hp->Prop)->Prop:=fun σ H R=>wi σ H fun J H1=>∀D,H1 D=none->
  ∃W:Nat->Nat->List V->Hp->Prop,(∃m,W 0 m [] (upd H1 D (.lst [])))/\∀i m ys H2,W i m ys H2->H2 D=some (.lst ys)/\
    ((J.stop i H2 /\ R D H2) \/ (J.go i H2/\ys.length<sizeLine/\∃N:List V->Hp->Prop,(∀ys' H',N ys' H'->∃m',m'<m/\W (i + 1) m' ys' H')/\∀v H3,J.yld i H2 v H3->tq (some v::lN cs σ) H3 fun b H4=>
      if b=true then te (some v::lN cs σ) H4 fun y H5=>H5 D=some (.lst ys)/\N (ys ++ [y]) (upd H5 D (.lst (ys ++ [y]))) else N ys H4))
section
variable {prog:Program}{w:World}{A:Around}{R:Result->Shared->Prop}{s:Shared}
theorem zaI (I:Nat->Shared->Prop)
    (turn : ∀ n s, I n s -> wpAny (model prog w) A (pyNext it) (fun r s₁=>match r with
      |none=>R (.ok .next) s₁
      | some v => wpAny (model prog w) A (letOwnedTupleGo target it v) (fun _ s₁' => wpAny (model prog w) A (assign target env v) (fun _ s₂=>
          wpAny (model prog w) A (forIn ifs true fun c r => if r = true then do let ok <- isTrue c env (eval c env); pure (ForInStep.yield ok) else pure (ForInStep.yield r)) (fun ok s₃=>
            if ok = true then wpAny (model prog w) A (eval elt env) (fun x s₄=>
              wpAny (model prog w) A (call (.builtin "list.append") [acc,x]) (fun _ s₅=>∃m,m<n/\I m s₅) (fun _ _=>False) s₄) (fun _ _=>False) s₃
            else ∃m,m<n/\I m s₃) (fun _ _=>False) s₂) (fun _ _=>False) s₁') (fun _ _=>False) s₁) (fun _ _=>False) s)
    (n:Nat) (h:I n s):
    codeAny (model prog w) A (.compLoop (.ListComp elt [⟨target,iter,ifs,0⟩] scope pos) 0 it acc env) R s:=by
  refine codeAny_loop rfl I (fun n s hI=>?_) n h;show wpAny _ A ((compTurn (.ListComp elt [⟨target,iter,ifs,0⟩] scope pos) 0 it acc env).onRaise (fun x=>do noteFrame x env;theTreesLotGoes x)) _ _ s
  refine wpAny_noted ?_;rw[compTurn_list];refine tG (xck (tG (xaS (turn n s hI) (fun r s₁ h₁=>?_) fun _ _ h'=>h'.elim)))
  cases r with
  |none=>exact xaf h₁
  |some v=>
    refine tG (xaS h₁ (fun _ s₁' h₁'=>?_) fun _ _ h'=>h'.elim);refine tG (xaS h₁' (fun _ s₂ h₂=>tG (xaS h₂ (fun ok s₃ h₃=>?_) fun _ _ h'=>h'.elim)) fun _ _ h'=>h'.elim)
    cases ok with
    |false=>exact xaf ⟨rfl,h₃⟩
    |true=>
      exact tG (tG (xaS h₃ (fun x s₄ h₄=>tG (xaS h₄ (fun _ s₅ h₅=>xaf (xaf ⟨rfl,h₅⟩)) fun _ _ h'=>h'.elim)) fun _ _ h'=>h'.elim))
end
section
variable {X:Cx}{elt iter:Expr}{ifs:List Expr}{x:Str}{px:Pos}{scope:Scope}{pos:Pos}{wi:TI}{tq:TT}{te:TE}{cs:List (Str×Nat)}
theorem zcg (hc:X.calm=true)(hi:PI X (.Name x px) iter wi)
    (hq:∀(cl:List (Str×Addr)) (C:Addr) (s₀:Shared) (H₀:Hp) (ex:List Addr) (pn:Pnx),wD (mj X (x::cs.map (·.1)) scope cl C s₀ H₀ ex pn) ifs tq)
    (he:∀(cl:List (Str×Addr)) (C:Addr) (s₀:Shared) (H₀:Hp) (ex:List Addr) (pn:Pnx),PE (mj X (x::cs.map (·.1)) scope cl C s₀ H₀ ex pn) elt te)
    (ok:CompOk X.N X.env.scope x cs scope) {pins:Pnx} {s:Shared} {σ:St} {H:Hp} {R:Addr->Hp->Prop} (I:Inv X pins σ H s) (h:S8 wi tq te cs σ H R)
    {RR:Value->Addr->Result->Shared->Prop}
    (hRR:∀(D C:Addr) (oC:Obj) (H':Hp) (s':Shared),Inv X (pins ++ [(C,oC)]) σ H' s'->(∀h':Heap,h'.get? C=some oC->∃m,h'.Ns C m)->kI X pins H' C->R D H'->RR (.ref D) C (.ok .next) s'):
    wpAny (model X.prog X.w) X.A (eval iter X.env) (fun xv s₁ => wpAny (model X.prog X.w) X.A (pyIter xv) (fun itv s₂ => wpAny (model X.prog X.w) X.A (newList []) (fun acc s₃=>
      wpAny (model X.prog X.w) X.A (newFunctionEnv scope X.env.globals (iw X.env.cells scope.names) [] X.env.qual none .none (some X.env)) (fun cenv s₄=>
        codeAny (model X.prog X.w) X.A (.compStart (.ListComp elt [⟨.Name x px,iter,ifs,0⟩] scope pos) 0 itv acc {cenv with scope:=relabel scope X.env}) (RR acc cenv.locals) s₄) X.xe s₃) X.xe s₂) X.xe s₁) X.xe s:=by
  refine aX (hi pins s σ H _ I h) fun v s1 h1=>aX h1 fun itv s2 h2=>?_;obtain⟨it,fp,tn,J,H2,e,I2,T,st2,f2,h2⟩:=h2;subst e;have hhas:∀y∈scope.names,y.2=.free->∃c,X.env.cells.lookup y.1=some c:=fun y hy hk=>I2.ok.has y.1 (ok.has y hy hk);refine xaJ (wpAny_newFunctionEnv ok.cell (by intro y hy;simp at hy) (fun h₁ hns₁ hsb₁=>?_) ok.kind);dsimp only at hns₁ hsb₁ ⊢;generalize hHH:s2.heap.push {cls:=.type "list",dict:=none,data:=.seq ([]:List Value).toArray}=HH at hns₁ hsb₁ ⊢;have hC:HH.objs.size=s2.heap.objs.size + 1:=by rw[<-hHH,xbS]
  have hDC:s2.heap.objs.size≠HH.objs.size:=by rw[hC];exact xaw (xbo _)
  have hCle:s2.heap.objs.size<=HH.objs.size:=by rw[hC];exact xbO _
  have below:∀b,b<s2.heap.objs.size->b≠HH.objs.size:=fun b hb=>by rw[hC];exact xaw (Nat.lt_succ_of_lt hb)
  have old:∀b o,s2.heap.get? b=some o->h₁.get? b=some o:=fun b o e=>hsb₁.extBut b o (below b (xan e)) (xaa _ (hHH ▸ xaa _ e));have hacc:h₁.get? s2.heap.objs.size=some {cls:=.type "list",dict:=none,data:=.seq ([]:List Value).toArray}:=hsb₁.extBut _ _ hDC (xaa _ (hHH ▸ xas _ rfl));have nD:H2 s2.heap.objs.size=none:=I2.hok.fresh (xag _);have nC:H2 HH.objs.size=none:=I2.hok.fresh hCle;obtain⟨W,⟨m0,w0⟩,turn⟩:=h2 s2.heap.objs.size nD
  -- the block's context
  have fpC:∀b∈fp,b≠HH.objs.size:=fun b hb=>by
    obtain⟨o,ho,_⟩:=T.obj 0 _ st2 b hb;exact below b (xan ho)
  have fpD:∀b∈fp,b≠s2.heap.objs.size:=fun b hb=>by
    obtain⟨o,ho,_⟩:=T.obj 0 _ st2 b hb;exact xaw (xan ho)
  have pinC:∀p∈X.pn ++ pins,p.1≠HH.objs.size:=fun p hp=>below _ (xan (I2.pin p hp).1);have clIn:∀y c,(iw X.env.cells scope.names).lookup y=some c->X.env.cells.lookup y=some c:=U5 scope.names [] hhas (fun y c e=>by cases e);have kindRel:∀y,(relabel scope X.env).names.lookup y=(gY X.env.scope scope.names).lookup y:=fun _=>rfl;have okC:(mj X (x::cs.map (·.1)) scope (iw X.env.cells scope.names) HH.objs.size s2 H2 fp (X.pn ++ pins)).Ok:=
    { mod:=I2.ok.mod
      kind:=ok.kind
      glob:=I2.ok.glob
      blt:=I2.ok.blt
      above:=hCle
      inj:=fun y z c e1 e2=>I2.ok.inj y z c (clIn y c e1) (clIn z c e2)
      has:=fun y hk=>by
        have hm:(y,NameKind.free)∈scope.names:=by
          rcases hk with hk |hk
          · exact Gs (psc:=X.env.scope) (k':=.cell) hk (.inl rfl) ok.cell
          · exact Gs (psc:=X.env.scope) (k':=.free) hk (.inr rfl) ok.cell
        exact Np scope.names [] y (.inl hm)
      cab:=fun y c hf _=>by cases hf
      hd:=I2.ok.hd
      frames:=I2.ok.frames
      stk:=.inl rfl
      exf:=fun b hb=>⟨fpC b hb,fun y c e z=>(f2 b hb).2.2.2.2.1 y c (clIn y c e) z⟩
      bs:=fun b o e=>I2.bs b o e
      bsz:=xav I2.ok.bsz I2.sz
      noex:=fun b o e hb=>by
        rcases(f2 b hb).2.2.2.1 with z |z
        · exact I2.ok.noex b o e z
        · exact absurd (xad (xan e) (xav I2.ok.bsz z)) (xa4 _)
      exfs:=fun b hb z=>by
        rcases xaI.mp (I2.stkSub b z) with q |q
        · exact(f2 b hb).2.1 q
        · exact(f2 b hb).2.2.1 q
      funs:=I2.stack
      frf:=I2.stkFree}
  have IC:Inv (mj X (x::cs.map (·.1)) scope (iw X.env.cells scope.names) HH.objs.size s2 H2 fp (X.pn ++ pins)) [] (none::lN cs σ) (upd H2 s2.heap.objs.size (.lst [])) {s2 with heap:=h₁,toks:=s2.toks + ([]:List (Str×Value)).length}:=
    { ok:=okC
      os:=rfl
      bare:=I2.bare
      base:=Un.laid old (xag _) nD
      loc:=by
        refine⟨_,hns₁,fun i y u e1 e2 _=>?_⟩
        cases i with
        |zero=>
          have e2':(none:Option V)=some u:=xau e2;cases e2'
        |succ i=>
          have e1':(cs.map (·.1))[i]? =some y:=e1;have e2':(lN cs σ)[i]? =some (some u):=e2;rw[xam]at e1';unfold lN at e2';rw[xam]at e2'
          cases ep:cs[i]? with
          |none=>rw[ep]at e1';cases e1'
          |some p=>
            rw[ep]at e1' e2';have e1'':p.1=y:=xau e1';have e2'':(σ[p.2]?).join=some u:=xau e2';have e3:σ[p.2]? =some (some u):=by
              cases q:σ[p.2]? with
              |none=>rw[q]at e2'';cases e2''
              |some z=>rw[q]at e2'';exact congrArg some e2''
            subst e1'';obtain⟨hN,hkp,hkc⟩:=ok.cap p (xax ep);obtain⟨mP,_,hl⟩:=I2.loc;obtain⟨u',ru,lk⟩:=hl p.2 p.1 u hN e3 (.inr hkp);refine⟨u',ru,.inr ⟨hkc,?_⟩⟩;rcases lk with⟨k0,_⟩ |⟨_,c,hcell,his⟩
            · exfalso
              have k0':X.env.scope.names.lookup p.1=some .local:=k0;rcases hkp with z |z<;>(rw[k0']at z;cases z)
            · have hm:(p.1,NameKind.free)∈scope.names:=by
                rcases hkc with z |z
                · exact Gs z (.inl rfl) ok.cell
                · exact Gs z (.inr rfl) ok.cell
              obtain⟨c',hc'⟩:=Np (cells:=X.env.cells) scope.names [] p.1 (.inl hm);have e5:c'=c:=xau ((clIn p.1 c' hc').symm.trans hcell);exact⟨c',hc',by rw[e5];exact his.keeps old⟩
      cell:=fun y c e=>by
        obtain⟨v',q⟩:=I2.cell y c (clIn y c e);exact⟨v',q.keeps old⟩
      free:=by
        show upd H2 s2.heap.objs.size (.lst []) HH.objs.size=none;rw[dD hDC.symm];exact nC
      freeC:=fun y c e=>by
        have hcl:c<s2.heap.objs.size:=by
          obtain⟨_,q⟩:=I2.cell y c (clIn y c e);exact q.lt
        rw[dD (xaw hcl)];exact(I2.freeC y c (clIn y c e)).imp id fun z=>⟨rfl,z.2⟩
      pin:=fun p hp=>by
        have hp':p∈X.pn ++ pins:=by
          rcases xbe.mp hp with z |z
          · exact z
          · cases z
        obtain⟨e1,e2,e3,e4,e5⟩:=I2.pin p hp';refine⟨old _ _ e1,?_,pinC p hp',fun z=>?_,e5⟩
        · rw[dD (xaw (xan e1))];exact e2
        · rcases xaI.mp (I2.stkSub p.1 z) with q |q
          · exact e3 q
          · exact e4 q
      hok:=I2.hok.laid old (xag _) ⟨xci _,[],0,.nil,hacc⟩
      len:=by simp[lN]}
  have stC:tn 0 h₁:=T.keep 0 _ _ st2 fun b _ o e=>old b o e;have frC:∀b∈fp,upd H2 s2.heap.objs.size (HO.lst []) b=none:=fun b hb=>by
    rw[dD (fpD b hb)];exact(f2 b hb).1
  -- what stays true of the iterator's objects in the block
  have stat:∀{H':Hp},(∀b∈fp,H' b=none)->∀b∈fp,kI (mj X (x::cs.map (·.1)) scope (iw X.env.cells scope.names) HH.objs.size s2 H2 fp (X.pn ++ pins)) [] H' b:=fun {H'} hn b hb=>
    ⟨hn b hb, fpC b hb, okC.exfs b hb, .inl hb, fun y c e => (okC.exf b hb).2 y c e, fun p hp => (f2 b hb).2.2.2.2.2 p (by
      rcases xbe.mp hp with z |z
      · exact z
      · cases z)⟩
  have loop:∀s₃:Shared,s₃={s2 with heap:=h₁,toks:=s2.toks + ([]:List (Str×Value)).length}->
      codeAny (model X.prog X.w) X.A (.compLoop (.ListComp elt [⟨.Name x px,iter,ifs,0⟩] scope pos) 0 (.ref it) (.ref s2.heap.objs.size) (compEnvC scope (iw X.env.cells scope.names) HH.objs.size X.env)) (RR (.ref s2.heap.objs.size) HH.objs.size) s₃:=by
    rintro s₃ rfl;refine zaI (fun n s'=>∃(i:Nat) (v:Option V) (ys:List V) (H':Hp),Inv (mj X (x::cs.map (·.1)) scope (iw X.env.cells scope.names) HH.objs.size s2 H2 fp (X.pn ++ pins)) [] (v::lN cs σ) H' s'/\tn i s'.heap/\(∀b∈fp,H' b=none)/\W i n ys H')
      ?_ m0 ⟨0,none,[],_,IC,stC,frC,w0⟩
    rintro n s3 ⟨i,v3,ys,H3,I3,st3,fr3,w3⟩;obtain⟨hD3,tr⟩:=turn i n ys H3 w3;rcases tr with⟨stop,qn⟩ |⟨go,hsz,N,hN,step⟩
    · refine aX (T.done (mj X (x::cs.map (·.1)) scope (iw X.env.cells scope.names) HH.objs.size s2 H2 fp (X.pn ++ pins)) rfl rfl rfl hc i [] s3 _ H3 _ I3 (stat fr3) st3 stop) fun r s4 ⟨hr,I4⟩=>?_;subst hr;show RR (.ref s2.heap.objs.size) HH.objs.size (.ok .next) s4
      have IP:Inv X pins σ H3 s4:=I2.call' (ch:=fp) I4.os I4.base I4.hok I4.bare fun b hb=>⟨(f2 b hb).2.2.2.1,(f2 b hb).2.1,(f2 b hb).2.2.2.2.1,(f2 b hb).2.2.2.2.2⟩;obtain⟨m4,⟨oC,es,ep,hoC,hdC,hk1,hk2⟩,_⟩:=I4.loc;have nC3:H3 HH.objs.size=none:=I4.free;have fC:kI X pins H3 HH.objs.size:=I2.fpOk hCle nC3;refine hRR _ _ oC H3 s4 (IP.pins_of fun p hp=>?_) (fun h' e=>⟨m4,oC,es,ep,e,hdC,hk1,hk2⟩) fC qn;rcases xbe.mp hp with z |z
      · exact IP.pin p (xay _ z)
      · have e:p=(HH.objs.size,oC):=by simpa using z
        subst e;exact ⟨hoC,nC3,fC.2.1,fC.2.2.1,fun v z=>by
          have z':oC.data=.cell v:=z;rw[hdC]at z';cases z'⟩
    · refine aX (T.item (mj X (x::cs.map (·.1)) scope (iw X.env.cells scope.names) HH.objs.size s2 H2 fp (X.pn ++ pins)) rfl rfl rfl hc i [] s3 _ H3 _ I3 (stat fr3) st3 go) fun r s4 ⟨u,hr,h4⟩=>?_;subst hr;refine aX h4 fun _ s5 ⟨y,H5,I5,r5,y5,st5,fr5⟩=>?_;have I5':=I5.pinned (stat fr5) (T.obj _ _ st5);have hloc:Loc (mj X (x::cs.map (·.1)) scope (iw X.env.cells scope.names) HH.objs.size s2 H2 fp (X.pn ++ pins)).env.scope x:=.inl (lookup_relabel_local ok.own);refine wpAny_assign_Name (KQ (i:=0) I5' ok.nd rfl hloc r5 (fun s6 I6=>?_) (.inr (lookup_relabel_local ok.own)));refine aX (hq _ _ _ _ _ _ _ s6 _ H5 _ I6 (step y H5 y5)) fun b s7 ⟨H7,I7,q7⟩=>?_;have again:∀{v':Option V} {H8:Hp} {s8:Shared} {ys':List V} {m':Nat},Inv (mj X (x::cs.map (·.1)) scope (iw X.env.cells scope.names) HH.objs.size s2 H2 fp (X.pn ++ pins)) ([] ++ Gh fp s5.heap) (v'::lN cs σ) H8 s8->W (i + 1) m' ys' H8->
          ∃(i:Nat) (v:Option V) (ys:List V) (H':Hp),Inv (mj X (x::cs.map (·.1)) scope (iw X.env.cells scope.names) HH.objs.size s2 H2 fp (X.pn ++ pins)) [] (v::lN cs σ) H' s8/\tn i s8.heap/\(∀b∈fp,H' b=none)/\W i m' ys H':=fun {v' H8 s8 ys' m'} I8 w8=>by
        refine⟨i + 1,v',ys',H8,I8.unpinned,T.keep _ _ _ st5 fun b hb o e=>(I8.pin (b,o) (xay _ (xay _ (Jv hb e)))).1,fun b hb=>?_,w8⟩;obtain⟨o,e,d⟩:=T.obj _ _ st5 b hb;exact(I8.pin (b,o) (xay _ (xay _ (Jv hb e)))).2.1
      cases b with
      |false=>
        rw[xah xaq]at q7;rw[xah xaq];obtain⟨m',hm,w8⟩:=hN _ _ q7;exact⟨m',hm,again I7 w8⟩
      |true=>
        rw[xab rfl]at q7;rw[xab rfl];refine aX (he _ _ _ _ _ _ _ s7 _ H7 _ I7 q7) fun z s8 ⟨zv,H8,I8,r8,hD8,n8⟩=>?_;obtain⟨m',hm,w8⟩:=hN _ _ n8;refine aX (O5 (X:=mj X (x::cs.map (·.1)) scope (iw X.env.cells scope.names) HH.objs.size s2 H2 fp (X.pn ++ pins)) _ s8 _ H8 (.ref s2.heap.objs.size) [zv] (.ref s2.heap.objs.size) [z] (fun _ H9=>H9=upd H8 s2.heap.objs.size (.lst (ys ++ [zv]))) I8 rfl (.cons r8 .nil) ⟨_,ys,zv,rfl,rfl,hD8,hsz,rfl⟩) fun _ s9 ⟨_,H9,I9,_,e9⟩=>?_;subst e9;exact⟨m',hm,again I9 w8⟩
  exact codeAny_compStart_list (loop _ rfl) (T.self _ 0 _ _ _ stC (loop _ rfl))
noncomputable def zi1 (wi:TI) (tq:TT) (te:TE) (cs:List (Str×Nat)):TE:=fun σ H Q=>S8 wi tq te cs σ H fun D H'=>Q (.ref D) H'
theorem zd3 (x:Str)(cs:List (Str×Nat))(hc:X.calm=true)(hi:PI X (.Name x px) iter wi)
  (hq:∀(cl:List (Str×Addr)) (C:Addr) (s₀:Shared) (H₀:Hp) (ex:List Addr) (pn:Pnx),wD (mj X (x::cs.map (·.1)) scope cl C s₀ H₀ ex pn) ifs tq)
  (he:∀(cl:List (Str×Addr)) (C:Addr) (s₀:Shared) (H₀:Hp) (ex:List Addr) (pn:Pnx),PE (mj X (x::cs.map (·.1)) scope cl C s₀ H₀ ex pn) elt te)
  (ok:Jh X.N X.env.scope x cs scope=true:=by kernel_rfl) (hs:∀x,foldedSetIterable iter X.env x=pure x:=by intro _;rfl):
  PE X (.ListComp elt [⟨.Name x px,iter,ifs,0⟩] scope pos) (zi1 wi tq te cs):=by
 intro pins s σ H Q I h;have ok':=CompOk.of ok;rw[eval_ListComp];refine wpAny_comprehension_free (use:=none) rfl hs (zbo fun y hy hk=>I.ok.has y.1 (ok'.has y hy hk)) ok'.kind ok'.names ?_;refine zcg (RR:=fun acc C=>compPost (model X.prog X.w) X.A X.xe none (EP X pins σ Q) acc C) hc hi hq he ok' I h ?_;intro D C oC H' s' I' hns fC q;refine⟨_,(hns _ (I'.pin (C,oC) (xay _ (xay _ (by simp)))).1).choose_spec,fun h' hs'=>?_⟩;have I1:Inv X pins σ H' s':=I'.unpinned;exact⟨.ref D,H',I1.turned (t':=s'.toks) (fun b o hb e=>(hs'.2 b hb).trans e) fC.1 fC.2.1 fC.2.2.2.1 fC.2.2.2.2.1 fC.2.2.2.2.2,rfl,q⟩
end
def Ub (J:It)(tq:TT)(te:TE)(cs:List (Str×Nat))(σ:St)(H1:Hp)(R:Addr->Hp->Prop):Prop:=∀D,H1 D=none->
  ∃W:Nat->Nat->List V->Hp->Prop,(∃m,W 0 m [] (upd H1 D (.lst [])))/\∀i m ys H2,W i m ys H2->H2 D=some (.lst ys)/\
    ((J.stop i H2 /\ R D H2) \/ (J.go i H2/\ys.length<sizeLine/\∃N:List V->Hp->Prop,(∀ys' H',N ys' H'->∃m',m'<m/\W (i + 1) m' ys' H')/\∀v H3,J.yld i H2 v H3->tq (some v::lN cs σ) H3 fun b H4=>
      if b=true then te (some v::lN cs σ) H4 fun y H5=>H5 D=some (.lst ys)/\N (ys ++ [y]) (upd H5 D (.lst (ys ++ [y]))) else N ys H4))
theorem ze2 (n:Nat)(P:Addr->Nat->List V->Hp->Prop)
  (h0:∀D,H1 D=none->P D 0 [] (upd H1 D (.lst []))) (hl:∀D i ys H2,i<=n->P D i ys H2->H2 D=some (.lst ys)/\ys.length<sizeLine)
  (hgo:∀D i ys H2,i<n->P D i ys H2->J.go i H2) (hst:∀D ys H2,H1 D=none->P D n ys H2->J.stop n H2/\R D H2)
  (hs:∀D i v ys H2 H3,i<n->P D i ys H2->J.yld i H2 v H3->tq (some v::lN cs σ) H3 fun b H4=>if b=true then te (some v::lN cs σ) H4 fun y H5=>H5 D=some (.lst ys)/\P D (i + 1) (ys ++ [y]) (upd H5 D (.lst (ys ++ [y]))) else P D (i + 1) ys H4):
  Ub J tq te cs σ H1 R:=by
 intro D hD;refine⟨fun i m ys H=>m=n - i/\i<=n/\P D i ys H,⟨n,by simp,xci _,h0 D hD⟩,?_⟩;rintro i m ys H2 ⟨rfl,hi,p⟩;obtain⟨q2,q3⟩:=hl D i ys H2 hi p;refine⟨q2,?_⟩
 by_cases hlt:i<n
 ·exact .inr ⟨hgo D i ys H2 hlt p,q3,P D (i + 1),fun ys' H' p'=>⟨n - (i + 1),by omega,rfl,hlt,p'⟩,fun v H3 y=>hs D i v ys H2 H3 hlt p y⟩
 ·have e:i=n:=by omega
  subst e;exact .inl (hst D ys H2 hD p)
theorem tY (hD:H D=none):Same H (upd H D o):=fun b ob e=>by
 rw[dD (pR e hD)];exact e
theorem comp_map {J:It}{te:TE}{cs:List (Str×Nat)}{σ:St}{H1:Hp}{R:Addr->Hp->Prop}(n:Nat)(f:Nat->V)(hn:n<sizeLine)
  (hgo:∀i H2,i<n->Same H1 H2->J.go i H2) (hst:∀H2,Same H1 H2->J.stop n H2)
  (hy:∀i v H2 H3,i<n->Same H1 H2->J.yld i H2 v H3->H3=H2/\∀Q:VK,Q (f i) H2->te (some v::lN cs σ) H2 Q)
  (hd:∀D,H1 D=none->R D (upd H1 D (.lst ((List.range n).map f)))):Ub J Bx te cs σ H1 R:=by
 refine ze2 n (fun D i ys H2=>i<=n/\H1 D=none/\ys=(List.range i).map f/\H2=upd H1 D (.lst ys)) (fun D hD=>⟨xci _,hD,rfl,rfl⟩) ?_ ?_ ?_ ?_
 ·rintro D i ys H2 hi ⟨_,hD,e1,e2⟩;subst e1 e2;exact⟨fP,by rw[xao,xbn];omega⟩
 ·rintro D i ys H2 hi ⟨_,hD,e1,e2⟩;subst e2;exact hgo i _ hi (tY hD)
 ·rintro D ys H2 _ ⟨_,hD,e1,e2⟩;subst e2;refine⟨hst _ (tY hD),?_⟩;subst e1;exact hd D hD
 ·rintro D i v ys H2 H3 hi ⟨_,hD,e1,e2⟩ y;subst e2;obtain⟨e3,q⟩:=hy i v _ H3 hi (tY hD) y;subst e3;unfold Bx;dsimp only;rw[xab rfl];refine q _ ⟨fP,hi,hD,?_,zer⟩;rw[e1,List.range_succ,xcr];rfl
structure Noted (fs:List Addr)(z:Addr)(h h':Heap)(e:Addr)(oe:Obj)(T:Addr)(fl:Value):Prop where
 keep:∀b o,b∉fs->b≠e->b≠z->h.get? b=some o->h'.get? b=some o
 slot:∀b o,b∈fs->b≠e->b≠z->h.get? b=some o->∃sl,h'.get? b=some {o with slots:=sl}
 exc:h'.get? e=some (oe.mapFields (·.setIfInBounds 1 (.ref T)))
 new:h.objs.size<=T
 tb:∃oT ts,h'.get? T=some oT/\oT.data=.fields ts/\ts[3]? =some fl
section
variable {M:Model}{A:Around}{E:Value->Shared->Prop}{s:Shared}{base:Heap}{env:Env}{outer:List Env}{L e z:Addr}{oe:Obj}{vs:Array Value}{Q:Unit->Shared->Prop}
theorem Ww (a1:A.frames=some (env::outer))(a2:s.heap.FunFrames base (env::outer))(a3:env.frame=some L)
  (a4:s.heap.get? e=some oe) (a5:oe.data=.fields vs) (a6:1<vs.size)
  (k:∀h' T,Noted (frs (env::outer)) e s.heap h' e oe T (rawInt L)->Q () {s with heap:=h'}):
  wpAny M A (do
   let a <-frameOf env
   let pl <-entryPlaceOf L hadNext
   let b <-EntryCells.newEntry head a .none (rawInt L) .none pl
   setField (.ref e) 1 b) Q E s:=by
 have ne:e∉frs (env::outer):=fun m=>by
  obtain⟨_,o,e1,e2⟩:=a2.mem m;rw[a4]at e1;cases e1;exact e2 vs a5
 refine tG (wpAny_frameOf_fun a1 a2 a3 fun h1 S=>?_);refine tG (wpAny_entryPlaceOf fun pl hpl=>?_);unfold EntryCells.newEntry newFields;refine tG (xaJ ?_ (hpl.sizeOk5 _ _ _ _ _));have b1:h1.get? e=some oe:=(S.2.1 e ne).trans a4;have b2:=xaa (h:=h1) {cls:=.type "traceback",dict:=none,data:=.fields ([head,.ref L,.none,rawInt L,.none] ++ (if pl.isEmpty then List.replicate 6 Value.none else pl)).toArray} b1
 refine xbU b2 a5 a6 (k _ h1.objs.size ?_);have n1:h1.objs.size≠e:=xcT (xan b1);have frd:=xbV (xaX a5 (·.setIfInBounds 1 (Value.ref h1.objs.size)));refine⟨fun b o nb nbe _ hb=>?_,fun b o _ nbe _ hb=>?_,xbW _ b2 frd,xcu S.1.symm,?_⟩
 ·rw[xaZ _ _ (xbs nbe)];exact xaa _ ((S.2.1 b nb).trans hb)
 ·obtain⟨sl,q⟩:=S.2.2 b o hb;refine⟨sl,?_⟩;rw[xaZ _ _ (xbs nbe)];exact xaa _ q
 ·refine⟨_,_,(xaZ _ _ (xbs n1)).trans (xas h1 rfl),rfl,?_⟩;rcases hpl with rfl |⟨_,_,_,_,_,_,_,rfl⟩<;>simp
theorem zb0 (b1:s.heap.get? e=some oe)(b2:oe.data=.fields vs)(b3:vs[1]? =some (.ref T))(b4:s.heap.get? T=some oT)(b5:oT.data=.fields ts)(b6:3<ts.size)
  (k:Q () {s with heap:=s.heap.update T (Obj.mapFields (·.setIfInBounds 3 .none))}):wpAny M A (setFlight (.ref e) none) Q E s:=by
 unfold setFlight;refine tG (xbd b1 b2 b3 ?_);rw[xab (by simp)];exact xbU b4 b5 b6 k
theorem zcM (N:Noted fs z h h1 e oe T fl)(a4:h.get? e=some oe)(a5:oe.data=.fields vs):Noted fs z h (h1.update T (Obj.mapFields (·.setIfInBounds 3 .none))) e oe T .none:=by
 obtain⟨oT,ts,t1,t2,t3⟩:=N.tb;have ne:∀b o,h.get? b=some o->b≠T:=fun b o q=>xaw (xad (xan q) N.new);refine⟨fun b o n1 n2 n3 hb=>?_,fun b o n1 n2 n3 hb=>?_,?_,N.new,?_⟩
 ·rw[xaZ _ _ (xbs (ne b o hb))];exact N.keep b o n1 n2 n3 hb
 ·obtain⟨sl,q⟩:=N.slot b o n1 n2 n3 hb;exact⟨sl,by rw[xaZ _ _ (xbs (ne b o hb))];exact q⟩
 ·rw[xaZ _ _ (xbs (ne e oe a4))];exact N.exc
 ·have z3:3<ts.size:=(xbj.mp t3).1;exact⟨_,_,xbW _ t1 (xbV (xaX t2 _)),xaX t2 _,by simp[z3]⟩
theorem Wz (N:Noted fs z h s.heap e oe T fl)(a4:h.get? e=some oe)(a5:oe.data=.fields vs)(a6:1<vs.size)
  (k:∀h',Noted fs z h h' e oe T .none->Q () {s with heap:=h'}):wpAny M A (setFlight (.ref e) none) Q E s:=by
 obtain⟨oT,ts,t1,t2,t3⟩:=N.tb;refine zb0 N.exc (xaX a5 _) (by simp[a6]) t1 t2 (xbj.mp t3).1 (k _ (zcM N a4 a5))
theorem zbR (a1:A.frames=some (env::outer))(a2:s.heap.FunFrames base (env::outer))(a3:env.frame=some L)
  (a4:s.heap.get? e=some oe) (a5:oe.data=.fields vs) (a6:vs[1]? =some .none) (k:∀h' T,Noted (frs (env::outer)) e s.heap h' e oe T .none->Q () {s with heap:=h'}):wpAny M A (leaving env (.ref e)) Q E s:=by
 have z1:=(xbj.mp a6).1;unfold leaving noteFrame;simp only[a3];refine tG (tG (xbd a4 a5 a6 ?_));rw[xah (by decide)];exact Ww a1 a2 a3 a4 a5 z1 fun h' T N=>Wz (s:={s with heap:=h'}) N a4 a5 z1 fun h2 N2=>k h2 T N2
theorem zcj (a1:A.frames=some (env::outer))(a2:s.heap.FunFrames base (env::outer))(a3:env.frame=some L)
  (a4:s.heap.get? e=some oe) (a5:oe.data=.fields vs) (a6:vs[1]? =some (.ref T0)) (b1:T0≠e) (b2:s.heap.get? T0=some oT) (b3:oT.data=.fields ts) (b4:ts[3]? =some .none)
  (k:∀h' T,Noted (frs (env::outer)) T0 s.heap h' e oe T (rawInt L)->Q () {s with heap:=h'}):wpAny M A (noteFrame (.ref e) env) Q E s:=by
 have z1:=(xbj.mp a6).1;unfold noteFrame;simp only[a3];refine tG (xbd a4 a5 a6 ?_);rw[xab (by simp)];refine tG (xbd b2 b3 b4 ?_);rw[xah (by simp[rawInt])];refine tG (xbU b2 b3 (xbj.mp b4).1 ?_);have oth:∀b,b≠T0->(s.heap.update T0 (Obj.mapFields (·.setIfInBounds 3 Value.none))).get? b=s.heap.get? b:=fun b hb=>xaZ _ _ (xbs hb);have fr:∀b o,s.heap.get? b=some o->(∀us,o.data≠ .fields us)->b≠T0:=fun b o hb n r=>by
  rw[r,b2]at hb;cases hb;exact n ts b3
 refine Ww (s:={s with heap:=s.heap.update T0 (Obj.mapFields (·.setIfInBounds 3 Value.none))}) a1 (a2.of_keeps fun b o hb n=>⟨o,(oth b (fr b o hb n)).trans hb,rfl⟩) a3 ((oth e (xbs b1)).trans a4) a5 z1 fun h' T N=>k h' T ?_;exact⟨fun b o n1 n2 n3 hb=>N.keep b o n1 n2 n2 ((oth b n3).trans hb),fun b o n1 n2 n3 hb=>N.slot b o n1 n2 n2 ((oth b n3).trans hb),N.exc,by rw[<-Heap.size_after_update s.heap T0 (Obj.mapFields (·.setIfInBounds 3 Value.none))];exact N.new,N.tb⟩
end
section
variable {prog:Program}{w:World}{A:Around}{E:Value->Shared->Prop}{h:Heap}{g:Array GenState}{d:Drawn}{t:Nat}{os:OsState}
variable {nm q:Str}{C N:Addr}{bs bm bmB:List Value}{hdct:Bool}{sn:List Str}{sub:List Value}{ab:Bool}{col:Option Bool}{dd:Option Addr}{k0 k1 k2 k3 k5:Option Value}{B newId initId:String}
theorem zb6 (hh:A.handled=none)
  (k : wpAny (model prog w) A x (fun v s₁=>∃e oe vs,v=.ref e/\(∃C nm q N bs bm hdct sn sub ab col dd k0 k1 k2 k3 k5 newId,s₁.heap.get? C=some (excClassObj nm q C N bs bm hdct sn sub ab col dd k0 k1 k2 k3 k5 newId)/\bm.contains (.type "BaseException")=true/\oe.cls=.ref C)/\
   s₁.heap.get? e=some oe/\oe.data=.fields vs/\vs[1]? =some .none/\E (.ref e) s₁) E s):
  wpAny (model prog w) A (raiseStmt env (some x) none) Q E s:=by
 unfold raiseStmt;refine tG (xaS k (fun v s₁ h₁=>?_) fun _ _ x=>x);obtain⟨e,oe,vs,rfl,⟨C,nm,q,N,bs,bm,hdct,sn,sub,ab,col,dd,k0,k1,k2,k3,k5,newId,hC,hb,hc⟩,he,hd,h1,hE⟩:=h₁;have hcB:(Value.ref C::bm).contains (.type "BaseException")=true:=by rw[List.contains_cons,hb,Bool.or_true]
 obtain⟨oc,od,odt,osl⟩:=oe;dsimp only at hc hd;subst hc hd;obtain⟨hp,g,d,tk,os⟩:=s₁
 repeat (first |with_reducible refine wpAny_loadPart_at he ?_ |with_reducible refine wpAny_loadPart_at hC ?_ |(with_reducible refine wpAny_isSubtype_exc hC ?_;rw[hcB]) |with_reducible refine xbd he rfl h1 ?_ |wp_step)
 exact wpAny_raiseNew_none hh hE
end
abbrev T4:List Value:=[.type "ValueError",.type "Exception",.type "BaseException",.type "object"]
def T3:List Value->Bool
 |.ref _::r=>T3 r
 |l=>l==T4
noncomputable def kj (K:Fgx) (C:Addr):Bool:=match K.lookup C with
  | some ⟨.type "type", _, .cls cd, sl⟩ => (match cd.mro,sl.toList with
    |.ref c::bm,[_,_,_,_,some (.builtin n),_]=>c==C && (n=="ValueError.__new__" && (!cd.hasDel && (PySem.W.tailIn K T4 bm && (PySem.W.nsOkIn K cd.ns && (cd.hasDict && T3 bm)))))
    |_,_=>false)
  |_=>false
structure XCls (h:Heap)(C:Addr)(nm qn:Str)(N:Addr)(bs bm:List Value)(sn:List Str)(sub:List Value)(ab:Bool)(col:Option Bool)(dd:Option Addr)(k0 k1 k2 k3 k5:Option Value):Prop where
 obj:h.get? C=some (excClassObj nm qn C N bs bm true sn sub ab col dd k0 k1 k2 k3 k5 "ValueError.__new__")
 tail:OwnTail h T4 bm
 ns:h.Ns N (h.nsMap N)
 over:T3 bm=true
theorem Z6 {K:Fgx}{h:Heap}{C:Addr}(X:K.In h)(q:kj K C=true):∃nm qn N bs bm sn sub ab col dd k0 k1 k2 k3 k5,
  XCls h C nm qn N bs bm sn sub ab col dd k0 k1 k2 k3 k5/\K.lookup C=some (excClassObj nm qn C N bs bm true sn sub ab col dd k0 k1 k2 k3 k5 "ValueError.__new__"):=by
 unfold kj at q;split at q
 ·rename_i dd cd sl ho;split at q
  ·rename_i c bm k0 k1 k2 k3 n k5 hm hs;simp only[xal,xbb,xcO]at q;obtain⟨q1,q2,q3,q4,q5,q6,q7⟩:=q;obtain⟨nm,bs,mro,ns,qn,hd,sn,sub,ab,col,del⟩:=cd;obtain⟨sl⟩:=sl;dsimp only at hm hs q3 q5 q6;subst q1 q2 hm q3 q6 hs;exact⟨nm,qn,ns,bs,bm,sn,sub,ab,col,dd,k0,k1,k2,k3,k5,⟨X _ _ ho,PySem.W.tail_of_in X q4,.of_isNs (PySem.W.isNs_of_in X q5),q7⟩,ho⟩
  ·cases q
 ·cases q
noncomputable def Hj (K:Fgx) (C:Addr):Bool:=match K.lookup C with
 |some ⟨_,_,.cls cd,_⟩=>PySem.W.nsIn K cd.ns "__init__"==some none
 |_=>false
noncomputable def K6 (K:Fgx) (C:Addr):Bool:=PySem.W.findIn K (.ref C) "__getattribute__"==some (some (.builtin "BaseException.__getattribute__")) &&
 (PySem.W.findIn K (.ref C) "__getattr__"==some none && PySem.W.mroIn K C (.type "BaseException")==some true)
noncomputable def xo (a C:Addr) (dx:Option Addr) (b:Bool):HO:=.ext fun h=>∃oe vs t,h.get? a=some oe/\oe.cls=.ref C/\oe.dict=dx/\oe.data=.fields vs/\vs.size=6/\vs[0]? =some (.ref t)/\(b=true->vs[1]? =some .none)
theorem Z8 (x:∃oe vs t,h.get? a=some oe/\oe.cls=.ref C/\oe.dict=dx/\oe.data=.fields vs/\vs.size=6/\vs[0]? =some (.ref t)/\(b=true->vs[1]? =some .none)):
  iu P w H h a (xo a C dx b):=by
 obtain⟨oe,vs,t,e,r⟩:=x;exact⟨⟨oe,vs,t,e,r⟩,⟨oe,e⟩,fun h1 h2 ⟨oe,vs,t,e,r⟩ k=>⟨oe,vs,t,k _ e,r⟩⟩
def K8 (h:Heap)(a T:Addr):Prop:=∃oe vs oT ts,h.get? a=some oe/\oe.data=.fields vs/\vs[1]? =some (.ref T)/\T≠a/\h.get? T=some oT/\oT.data=.fields ts/\ts[3]? =some .none
section
variable {P:Program}{w:World}{H:Hp}{h h':Heap}{fs ch:List Addr}{z a C T:Addr}{oe:Obj}{fl:Value}{dx:Option Addr}{b:Bool}{vs:Array Value}
theorem Wy (N:Noted fs z h h' a oe T .none)(e1:h.get? a=some oe)(e2:oe.data=.fields vs)(e3:vs.size=6):K8 h' a T:=by
 obtain⟨oT,ts,t1,t2,t3⟩:=N.tb;refine⟨_,_,oT,ts,N.exc,xaX e2 _,by simp[e3],fun q=>?_,t1,t2,t3⟩;have z:=xad (xan e1) N.new;rw[q]at z;exact absurd z (xa4 _)
theorem zcZ (N:Noted fs z h h' a oe T fl)(x:∃vs t,oe.cls=.ref C/\oe.dict=dx/\oe.data=.fields vs/\vs.size=6/\vs[0]? =some (.ref t)):∃oe vs t,h'.get? a=some oe/\oe.cls=.ref C/\oe.dict=dx/\oe.data=.fields vs/\vs.size=6/\vs[0]? =some (.ref t)/\(false=true->vs[1]? =some .none):=by
 obtain⟨vs,t,c1,c2,c3,c4,c5⟩:=x;refine⟨_,_,t,N.exc,(Obj.cls_mapFields _ _).trans c1,?_,xaX c3 _,by simp[c4],?_,fun q=>by cases q⟩
 ·obtain⟨_,_,od,_⟩:=oe;dsimp only at c3;subst c3;exact c2
 ·rw[Array.getElem?_setIfInBounds_ne (by decide)];exact c5
theorem Z1 (N:Noted fs z h h' a oe T fl)(ha:H a=some (xo a C dx b))(hz:z=a\/z∈ch):Un fs ch H (upd H a (xo a C dx false)) h h':=by
 have n1:∀c,H c=none->c≠a:=fun c n q=>by rw[q,ha]at n;cases n
 have n2:∀c,c≠a->c∉ch->c≠z:=fun c n m q=>by
  rcases hz with r |r
  ·exact n (q.trans r)
  ·exact m (q ▸ r)
 have n3:∀c u,H c=some u->(∀φ,u≠ .ext φ)->c≠a:=fun c u q m r=>by
  rw[r,ha]at q;exact m _ (xau q).symm
 refine ⟨fun c o q n hc hx=>N.keep c o hc (n1 c n) (n2 c (n1 c n) hx) q,fun c o q n hc hx=>N.slot c o hc (n1 c n) (n2 c (n1 c n) hx) q,fun c o q n hx=>by rw[dD (n1 c n)];exact n,fun c o q hx=>?_,
  fun c xs q=>by rw[dD (n3 c _ q (by intro _ z;cases z))];exact q,fun c o u q=>by rw[dD (n3 c _ q (by intro _ z;cases z))];exact q,fun c ps q=>⟨#[],by rw[dD (n3 c _ q (by intro _ z;cases z)),q];simp⟩⟩
 by_cases ca:c=a
 ·rw[ca];exact⟨_,N.exc⟩
 ·by_cases cf:c∈fs
  ·obtain⟨sl,r⟩:=N.slot c o cf ca (n2 c ca hx) q;exact⟨_,r⟩
  ·exact⟨o,N.keep c o cf ca (n2 c ca hx) q⟩
theorem VG (ok:gh P w H h)(N:Noted fs z h h' a oe T fl)(ha:H a=some (xo a C dx b))(hz:z=a\/H z=none)(hf:∀c∈fs,H c=none)
  (x:∃vs t,oe.cls=.ref C/\oe.dict=dx/\oe.data=.fields vs/\vs.size=6/\vs[0]? =some (.ref t)):gh P w (upd H a (xo a C dx false)) h':=fun c u q=>by
 have n3:∀c u,H c=some u->(∀φ,u≠ .ext φ)->c≠a:=fun c u q m r=>by
  rw[r,ha]at q;exact m _ (xau q).symm
 by_cases hc:c=a
 ·subst hc;rw[fP]at q;cases q;exact Z8 (zcZ N x)
 ·rw [dD hc] at q;have kp : ∀ d u v, H d = some u -> d ≠ a -> h.get? d = some v -> h'.get? d = some v := fun d u v q nd r => N.keep d v (fun m => by rw [hf d m] at q; cases q) nd (fun e=>by
   rcases hz with g |g
   ·exact nd (e.trans g)
   ·rw[e,g]at q;cases q) r
  refine(ok c u q).stay (fun d v hd r=>?_) (fun d r=>by rw[dD (n3 d _ r (by intro _ z;cases z))];exact r) fun d xs r=>by rw[dD (n3 d _ r (by intro _ z;cases z))];exact r
  rcases hd with rfl |hd
  ·exact kp d u v q hc r
  ·exact kp d _ v hd (n3 d _ hd (by intro _ z;cases z)) r
theorem Un.less (u:Un (L::fs) ch H H' h h')(n:h.get? L=none):Un fs ch H H' h h':=by
 have m:∀c o,h.get? c=some o->c≠L:=fun c o q e=>by rw[e,n]at q;cases q
 exact⟨fun c o q k hc hx=>u.keep c o q k (fun z=>(xaI.mp z).elim (m c o q) hc) hx,fun c o q k hc hx=>u.slot c o q k (xap _ hc) hx,u.free,u.there,u.tups,u.frzs,u.tbls⟩
end
noncomputable def pF (P:Program) (w:World):lM:=fun outer H s E e s'=>∃a C dx H' T,e=.ref a/\s'.os=s.os/\AllBare s'.gens/\Un (frs outer) [] H H' s.heap s'.heap/\gh P w H' s'.heap/\H' a=some (xo a C dx false)/\H' T=none/\s.heap.objs.size<=T/\K8 s'.heap a T/\E (.ref C) dx H'
section
variable {X:Cx}{pins:Pnx}{σ:St}{H:Hp}{s:Shared}
theorem zdf {P:Program}{w:World}{K:Fgx}{mg:Mgx}{base:Heap}{N:List Str}{qual:Str}{scope:Scope}{f:Addr}{cd:Value}{A:Around}{outer:List PySem.Env}{E:XK}{H1:Hp}{s1:Shared}{a C:Addr}{dx:Option Addr}
  (I:Inv (gA (pF P w) P w K mg base N qual scope f cd A outer s H E) pins σ H1 s1) (ha:H1 a=some (xo a C dx true)) (hE:E (.ref C) dx (upd H1 a (xo a C dx false))):(gA (pF P w) P w K mg base N qual scope f cd A outer s H E).xe (.ref a) s1:=by
 obtain⟨oe,vs,t,e1,e2,e3,e4,e5,e6,e7⟩:=(I.hok a _ ha).1;have fr:=I.ok.frames;have st:=I.stack;refine zbR fr st rfl e1 e4 (e7 rfl) fun h' T Nn=>?_;have hL:s.heap.get? (envOfC qual scope s.heap.objs.size f cd).locals=none:=xcs I.ok.above;have u1:Un (s.heap.objs.size::frs outer) [] H H1 s.heap s1.heap:=Un.mono (fs':=s.heap.objs.size::frs outer) (ex':=[]) I.base (fun b hb=>xap _ hb) fun b hb=>hb;have u2:Un (s.heap.objs.size::frs outer) [] H1 (upd H1 a (xo a C dx false)) s1.heap h':=Z1 Nn ha (.inl rfl);have hT:H1 T=none:=I.hok.fresh Nn.new;have nT:T≠a:=fun q=>by rw[q,ha]at hT;cases hT
 refine⟨a,C,dx,_,T,rfl,I.os,I.bare,(u1.trans u2).less hL,VG I.hok Nn ha (.inl rfl) (fun c hc=>I.stkFree c hc) ⟨vs,t,e2,e3,e4,e5,e6⟩,fP,by rw[dD nT];exact hT,xav I.sz Nn.new,Wy Nn e1 e4 e5,hE⟩
end
theorem iu.some_of (x:iu P w H h a o):∃u,h.get? a=some u:=by
 cases o with
 |lst xs=>obtain⟨_,_,_,_,e⟩:=x;exact⟨_,e⟩
 |tup xs=>obtain⟨_,_,_,u,e,_⟩:=x;exact⟨u,e⟩
 |dK kvs=>obtain⟨_,_,_,_,u,_,_,e,_⟩:=x;exact⟨u,e⟩
 |dT kvs=>obtain⟨_,_,_,_,u,_,_,e,_⟩:=x;exact⟨u,e⟩
 |set S n=>obtain⟨u,_,_,_,e,_⟩:=x;exact⟨u,e⟩
 |ins C dx fs=>obtain⟨_,_,_,e,_⟩:=x;exact⟨_,e⟩
 |own y=>exact x
 |xd fs=>obtain⟨_,⟨u,_,_,e,_⟩,_⟩:=x;exact⟨u,e⟩
 |rng lo hi=>obtain⟨_,_,_,e⟩:=x;exact⟨_,e⟩
 |frz ob u=>obtain⟨e,_⟩:=x;exact⟨_,e⟩
 |tbl ps=>exact⟨_,x⟩
 |met f y=>exact⟨_,x⟩
 |ext φ=>exact x.2.1
theorem zfI (e:H a=some o):upd H a o=H:=by
 funext b;unfold upd
 split
 ·subst_vars;exact e.symm
 ·rfl
theorem Z7 (ok:gh P w H h)(e:H a=some (xo a C dx b)):
  ∃oe vs t,h.get? a=some oe/\oe.cls=.ref C/\oe.dict=dx/\oe.data=.fields vs/\vs.size=6/\vs[0]? =some (.ref t)/\(b=true->vs[1]? =some .none):=(ok a _ e).1
section
variable {X:Cx}{pins:Pnx}{σ:St}{H:Hp}{s:Shared}
theorem Inv.laidN (I:Inv X pins σ H s)(k:∀b u,s.heap.get? b=some u->h'.get? b=some u)(n:s.heap.get? a=none)(new:iu X.prog X.w (upd H a o) h' a o):
    H a=none/\Inv X pins σ (upd H a o) {s with heap:=h',toks:=t'}:=by
  have hn:H a=none:=by
    cases q:H a with
    |none=>rfl
    |some u=>
      obtain⟨v,e⟩:=(I.hok a u q).some_of;rw[n]at e;cases e
  refine ⟨hn, I.un ⟨fun b u q _ _ _=>k b u q,fun b u q _ _ _=>⟨u.slots,k b u q⟩,fun b u q m _=>?_,fun b u q _=>⟨u,k b u q⟩,fun b xs q=>by rw[dD (pR q hn)];exact q,fun b u xs q=>by rw[dD (pR q hn)];exact q,
    fun b ps q=>⟨#[],by rw[dD (pR q hn),q];simp⟩⟩ fun b u q=>?_⟩
  · rw[dD (fun z=>by rw[z,n]at q;cases q)];exact m
  · by_cases hb:b=a
    · subst hb;rw[fP]at q;cases q;exact new
    · rw[dD hb]at q;exact(I.hok b u q).stay (fun c v _ r=>k c v r) (fun c r=>by rw[dD (pR r hn)];exact r) fun c xs r=>by rw[dD (pR r hn)];exact r
theorem zdz {e:Expr}{te:TE}{pos:Pos}{W:Addr->Addr->Option Addr->Hp->Prop}(he:PE X e te)(hc:X.calm=true)
  (hx:∀pins σ H s a C dx,Inv X pins σ H s->H a=some (xo a C dx true)->W a C dx H->X.xe (.ref a) s):
  PS X (.Raise (some e) none pos) (fun _ σ H=>te σ H fun v H1=>∃a C dx,v=.ref a/\H1 a=some (xo a C dx true)/\kj X.K C=true/\W a C dx H1):=by
 intro pins s σ H D I h;rw[arm_exec_Raise];refine tG (xck (zb6 (I.ok.hd hc) (tG (aX (he pins s σ H _ I h) fun u s1 ⟨v,H1,I1,rv,a,C,dx,ev,ea,q1,w⟩=>tG (xck (xaf ?_))))));subst ev;cases rv;obtain⟨nm,qn,N,bs,bm,sn,sub,ab,col,dd,k0,k1,k2,k3,k5,Y,lk⟩:=Z6 I1.kIn q1;obtain⟨oe,vs,t,e1,e2,e3,e4,e5,e6,e7⟩:=Z7 I1.hok ea;exact⟨a,oe,vs,rfl,⟨C,nm,qn,N,bs,bm,_,sn,sub,ab,col,dd,k0,k1,k2,k3,k5,_,Y.obj,Y.tail.hasType xb3.hasBase,e2⟩,e1,e4,e7 rfl,hx pins σ H1 s1 a C dx I1 ea w⟩
noncomputable def K7 (K : Fgx) (C : Addr) : Bool := K6 K C && (PySem.W.hasDictIn K C && (PySem.W.findIn K (.ref C) "__class__"==some (some (.builtin "object.__class__")) &&
 (PySem.W.specialIn K (.builtin "object.__class__") "__get__"==some (some (.builtin "getset_descriptor.__get__")) && (PySem.W.takesIn K (.builtin "object.__class__")==some true && PySem.W.mroIn K C (.type "object")==some true))))
end
section
variable {X:Cx}{pins:Pnx}{σ:St}{H:Hp}{s:Shared}
structure Caught (X:Cx)(pins:Pnx)(σ:St)(H:Hp)(s:Shared)(a C:Addr)(dx:Option Addr)(T:Addr):Prop where
 inv:Inv X pins σ H s
 obj:H a=some (xo a C dx false)
 fl:K8 s.heap a T
 hT:H T=none
 t1:X.s₀.heap.objs.size<=T
 t2:T≠X.env.locals
 t3:∀x c,X.env.cells.lookup x=some c->c≠T
 t4:∀p∈X.pn ++ pins,p.1≠T
theorem UJ (I:Inv X pins σ H s)(h:s.heap.objs.size<=T):X.s₀.heap.objs.size<=T/\T≠X.env.locals/\(∀x c,X.env.cells.lookup x=some c->c≠T)/\∀p∈X.pn ++ pins,p.1≠T:=by
 refine⟨xav I.sz h,xcT (xad I.lt h),fun x c e=>?_,fun p hp=>?_⟩
 ·obtain⟨v,o,ho,_⟩:=I.cell x c e;exact xaw (xad (xan ho) h)
 ·exact xaw (xad (xan (I.pin p hp).1) h)
theorem zcD (I:Inv X pins σ H s)(h:pF X.prog X.w X.stack H s E e s'):∃a C dx H' T,e=.ref a/\Caught X pins σ H' s' a C dx T/\E (.ref C) dx H':=by
 obtain⟨a,C,dx,H',T,rfl,os,bare,un,hok,ha,hT,hz,fl,hE⟩:=h;have I2:=I.call' os un hok bare (fun b z=>nomatch z)
 obtain⟨z1,z2,z3,z4⟩:=UJ I hz;exact⟨a,C,dx,H',T,rfl,⟨I2,ha,fl,hT,z1,z2,z3,z4⟩,hE⟩
variable {a C T:Addr}{dx:Option Addr}{Q:Unit->Shared->Prop}{E:Value->Shared->Prop}{M:Model}
theorem Caught.note (c:Caught X pins σ H s a C dx T)(hs:X.stack=X.env::X.outer)(hf:X.env.frame=some X.env.locals)(k:∀s' T',Caught X pins σ H s' a C dx T'->Q () s'):
  wpAny M X.A (noteFrame (.ref a) X.env) (fun _ s2=>wpAny M X.A (setFlight (.ref a) none) Q E s2) E s:=by
 obtain ⟨oe, vs, t, e1, e2, e3, e4, e5, e6, _⟩ := Z7 c.inv.hok c.obj;obtain ⟨oe', vs', oT, ts, f1, f2, f3, f4, f5, f6, f7⟩ := c.fl;rw [e1] at f1;cases f1;rw [e4] at f2;cases f2;have fr := c.inv.ok.frames;have st := c.inv.stack;rw [hs] at fr st;refine zcj fr st hf e1 e4 f3 f4 f5 f6 f7 fun h' T' N => Wz (s := { s with heap := h' }) N e1 e4 (by omega) fun h2 N2 => k _ T' ?_;have hx : ∃ vs t, oe.cls = .ref C /\ oe.dict = dx /\ oe.data = .fields vs /\ vs.size = 6 /\ vs[0]? = some (.ref t) := ⟨vs, t, e2, e3, e4, e5, e6⟩;rw [<- hs] at N2;have u := Z1 (ch := [T]) N2 c.obj (.inr (xbK.mpr rfl));have hk := VG c.inv.hok N2 c.obj (.inr c.hT) (fun b hb => c.inv.stkFree b hb) hx;rw [zfI c.obj] at u hk;have I2 : Inv X pins σ H { s with heap := h2 } := c.inv.call' (s' := { s with heap := h2 }) rfl u hk c.inv.bare (fun b hb=>by
  rw[xbK.mp hb];exact⟨.inr c.t1,c.t2,c.t3,c.t4⟩)
 obtain⟨z1,z2,z3,z4⟩:=UJ c.inv N2.new;exact⟨I2,c.obj,Wy N2 e1 e4 e5,c.inv.hok.fresh N2.new,z1,z2,z3,z4⟩
end
abbrev Cx.pin (X:Cx)(pins:Pnx)(E:Value->Shared->Prop):Cx:={X with pn:=X.pn ++ pins,xe:=E}
abbrev Cx.suite (X:Cx)(e:Value):Cx:={X with A:=X.A.mark (some e),calm:=false,xe:=fun _ _=>False}
theorem zdv {X:Cx}{CX:lM}{k:Nat}{f:Addr}{fd:FuncData}{ps:List Str}{sp:Sp}{dvs:List V}{ds:List Value}{x:Str}{p pos:Pos}{e:Expr}{es:List Expr}{t:TA}{Ex:St->XK}(F:FnOk X.prog X.w X.K X.mg X.base CX k f fd ps sp)(hr:Room k X.A)(hg:Gl X x)
    (hm:X.mg x=some (.ref f)) (hk:PySem.W.keepIn X.K (.ref f)=true) (hb:Binds X.K fd ps ds) (hd:Vals dvs ds) (hx:∀pins σ H s e s',Inv X pins σ H s->CX X.stack H s (Ex σ) e s'->X.xe e s') (ha:PA X (e::es) t)
    (hdb:(x==("__debug__":Str))=false) (he:starEach (e::es) X.env=(false,eval e X.env)::starEach es X.env) (hpl:(backTo pos (starEach es X.env)).any (·.1)=false):
    PE X (.Call (.Name x p) (e::es) [] pos) (fun σ H Q=>t σ H fun vs H1=>sp (vs ++ dvs) H1 Q (Ex σ)):=by
  intro pins s σ H Q I h;refine xbq (yC I hg hm ?_ hdb);refine xbr (h₀:=X.base) I.ok.mod.kin hk (aX (ha pos pins s σ H _ I h) fun us s1 ⟨vs,H1,I1,r,q⟩=>⟨I1.kIn,?_⟩) he hpl;have r2:Vals (vs ++ dvs) (us ++ ds):=r.append hd;have hl:(us ++ ds).length=ps.length:=by rw[<-r2.length];exact F.len _ _ _ _ q
  refine xcQ (xbC (F.run X.A X.stack s1 H1 ⟨us,[]⟩ (us ++ ds) (vs ++ dvs) Q (Ex σ) hr I1.env0 (hb s1 us I1.kIn hl) r2 q) fun rr s' hq=>?_)
  cases rr with
  |error e=>exact hx pins σ H1 s1 e s' I1 hq
  |ok fl=>
    cases fl with
    |ret u=>exact I1.after hq
    |next=>exact False.elim hq
    |brk=>exact False.elim hq
    |cont=>exact False.elim hq
theorem ns_none_of {K:Fgx}{h:Heap}{N:Addr}{mg:Mgx}{n:Str}(X:K.In h)(G:h.Ns N mg)(e:PySem.W.nsIn K N n=some none):mg n=none:=by
 obtain⟨o,es,ep,ho,hd,_,hf⟩:=G;unfold PySem.W.nsIn at e;split at e
 ·rename_i q;have z:=X _ _ q;rw[ho]at z;cases z;cases hd;split at e
  ·cases e
  ·rename_i he;rw[<-hf];unfold nsFind findBy;rw[<-xdq,he];rfl
 ·cases e
section
variable {X:Cx}
def ZM (C:Addr)(Q:VK)(vs:List V)(H:Hp):Prop:=vs.length=1/\∀a,H a=none->Q (.ref a) (upd H a (xo a C none true))
noncomputable def zgF (C:Addr) (te:TE):TE:=fun σ H Q=>te σ H fun v H1=>ZM C Q [v] H1
theorem zdy {C:Addr}{x:Str}{p pos:Pos}{e:Expr}{te:TE}(q1:kj X.K C=true)(q2:Hj X.K C=true)(kp:PySem.W.keepIn X.K (.ref C)=true)(hg:Gl X x)(hm:X.mg x=some (.ref C))(he:PE X e te)(hdb:(x==("__debug__":Str))=false)
  (hs:starEach [e] X.env=[(false,eval e X.env)]):PE X (.Call (.Name x p) [e] [] pos) (zgF C te):=by
 intro pins s σ H Q I h;refine xbq (yC I hg hm ?_ hdb);refine xbr (h₀:=X.base) I.ok.mod.kin kp (aX (wZ he Bf hs pos pins s σ H (ZM C Q) I h) fun us s1 ⟨vs,H1,I1,r,q⟩=>⟨I1.kIn,?_⟩) hs rfl;obtain⟨nm,qn,N,bs,bm,sn,sub,ab,col,dd,k0,k1,k2,k3,k5,Y,lk⟩:=Z6 I1.kIn q1;unfold Hj at q2;rw[lk]at q2;simp only[xbb]at q2;have c3:=ns_none_of I1.kIn Y.ns q2;have hl:us.length=1:=by
  rw[<-r.length,q.1]
 obtain⟨hh,g,d,t,os⟩:=s1;refine wpAny_call_exc_subU xb3 (by x_go) xb3 Y.tail Y.obj Y.ns c3 (fun h' a M=>?_) (by show us.length<=sizeLine;rw[hl,xaY];decide);obtain⟨t0,m1,_,_⟩:=M.there;obtain⟨hn,I2⟩:=I1.laidN (a:=a) (o:=xo a C none true) (t':=t) M.keeps M.new (Z8 ⟨_,_,t0,m1,rfl,rfl,rfl,rfl,rfl,fun _=>rfl⟩);exact⟨V.ref a,_,I2,rfl,q.2 a hn⟩
end
end L2
namespace E3
open PySem PySem.Spec PyProof.Rows L2
inductive D where
 |non |bl (b:Bool) |int (i:Int) |str (s:Str) |tup (xs:List D) |lst (xs:List D) |ref (n:Nat)
structure FnT where
 st:Stmt
 x:Str
 q:Str
 pos:Pos
 fr:List Str
 dd:List Int:=[]
inductive Cl where
  |lst (ds:List D) |obj (c:Str) (fs:List (Str×D)) |dct (kvs:List (L2.Key×D))
    |dcf (kvs:List (L2.Key×D))
    |fn (i:FnT) (caps:List (Str×D)) |tbl (nm:Str) (i:FnT)
abbrev Mm:=List Cl
inductive Slot where
 |un |val (d:D) |own (ds:List D) |exc (c:Str) (n:Int)
abbrev Env:=List Slot
mutual
def D.lf:D->Bool
 |.tup xs=>D.lfs xs
 |.lst _=>false
 |.ref _=>false
 |_=>true
def D.lfs:List D->Bool
 | []=>true
 |a::as=>D.lf a && D.lfs as
end
def KL (K:Fgx)(a:Addr)(vs:List V):Prop:=∃(o:Obj) (its:Array Value) (n:Nat),K.lookup a=some o/\o.cls=.type "list"/\o.dict=none/\o.data=.seq its n/\its.size<=sizeLine/\Vals vs its.toList
structure Pl where
 io:Nat->Addr
 n:Nat
 bd:Addr->Prop
def Lq (K:Fgx)(P:Pl)(H:Hp)(a:Addr)(vs:List V):Prop:=(¬ P.bd a/\Rd H a (.lst vs))\/KL K a vs
def Ug (K:Fgx)(P:Pl)(H:Hp)(a:Addr)(vs:List V):Prop:=((∀k,k<P.n->P.io k≠a)/\Rd H a (.lst vs))\/KL K a vs
mutual
def Is (K:Fgx)(P:Pl)(H:Hp):D->V->Prop
 |.non,v=>v=.non
 |.bl b,v=>v=.bl b
 |.int i,v=>v=.int i
 |.str s,v=>v=.str s
 |.tup ds,v=>∃a vs,v=.ref a/\kW K H a vs/\aH K P H ds vs
 |.lst ds,v=>∃a vs,v=.ref a/\Lq K P H a vs/\aH K P H ds vs
 |.ref k,v=>k<P.n/\v=.ref (P.io k)
def aH (K:Fgx)(P:Pl)(H:Hp):List D->List V->Prop
 | [],vs=>vs=[]
 |d::ds,vs=>∃v r,vs=v::r/\Is K P H d v/\aH K P H ds r
end
def Fx (o:HO):Prop:=(∃xs,o=.tup xs)\/(∃u w,o=.frz u w)\/(∃g,o=.ext g)\/∃fs,o=.xd fs
structure Lt (P:Pl)(H:Hp)(P':Pl)(H':Hp):Prop where
 n:P.n<=P'.n
 io:∀k,k<P.n->P'.io k=P.io k
 bd:∀a,P'.bd a->P.bd a\/H a=none
 keep:∀a o,H a=some o->(Fx o\/¬ P.bd a)->H' a=some o
 sure:∀a,H' a=none->H a=none
section
variable {K:Fgx}{P P' P'':Pl}{H H' H'':Hp}
theorem Lt.refl (P:Pl)(H:Hp):Lt P H P H:=⟨xag _,fun _ _=>rfl,fun _ z=>.inl z,fun _ _ e _=>e,fun _ z=>z⟩
theorem Lt.frz (l:Lt P H P' H'):∀b o u,H b=some (.frz o u)->H' b=some (.frz o u):=fun b o u e=>l.keep b _ e (.inl (.inr (.inl ⟨_,_,rfl⟩)))
theorem Lt.not (l:Lt P H P' H')(e:H a=some o)(n:¬ P.bd a):¬ P'.bd a:=fun z=>(l.bd a z).elim n fun z=>by rw[e]at z;cases z
theorem Lt.trans (l:Lt P H P' H')(m:Lt P' H' P'' H''):Lt P H P'' H'' where
 n:=xav l.n m.n
 io:=fun k h=>(m.io k (xad h l.n)).trans (l.io k h)
 bd:=fun a z=>(m.bd a z).elim (l.bd a) fun z=>.inr (l.sure a z)
 keep:=fun a o e h=>m.keep a o (l.keep a o e h) (h.imp id fun n=>l.not e n)
 sure:=fun a z=>l.sure a (m.sure a z)
theorem Lt.rd (l:Lt P H P' H')(n:¬ P.bd a)(h:Rd H a (.lst xs)):Rd H' a (.lst xs):=by
 rcases h with h |⟨o,h⟩
 ·exact .inl (l.keep _ _ h (.inr n))
 ·exact .inr ⟨o,l.keep _ _ h (.inr n)⟩
theorem W_ (h:Rd H a o):∃o',H a=some o':=h.elim (fun h=>⟨_,h⟩) fun⟨_,h⟩=>⟨_,h⟩
theorem Lt.rda (l:Lt P H P' H')(h:Lq K P H a xs):Lq K P' H' a xs:=h.imp (fun⟨n,h⟩=>⟨by obtain⟨o,e⟩:=W_ h;exact l.not e n,l.rd n h⟩) id
theorem Lt.tup (l:Lt P H P' H')(h:kW K H a xs):kW K H' a xs:=by
 rcases h with(h |⟨o,h⟩) |h
 ·exact .inl (.inl (l.keep _ _ h (.inl (.inl ⟨_,rfl⟩))))
 ·exact .inl (.inr ⟨o,l.keep _ _ h (.inl (.inr (.inl ⟨_,_,rfl⟩)))⟩)
 ·exact .inr h
mutual
theorem Is.lt (l:Lt P H P' H'):∀{d:D} {v:V},Is K P H d v->Is K P' H' d v
  |.non,_,h=>h
  |.bl _,_,h=>h
  |.int _,_,h=>h
  |.str _,_,h=>h
  |.tup ds,_,h=>by
    obtain⟨a,vs,e,s,r⟩:=h;exact⟨a,vs,e,l.tup s,aH.lt l r⟩
  |.lst ds,_,h=>by
    obtain⟨a,vs,e,s,r⟩:=h;exact⟨a,vs,e,l.rda s,aH.lt l r⟩
  |.ref k,_,h=>⟨xad h.1 l.n,by rw[l.io k h.1];exact h.2⟩
theorem aH.lt (l:Lt P H P' H'):∀{ds:List D} {vs:List V},aH K P H ds vs->aH K P' H' ds vs
  | [],_,h=>h
  |_::_,_,h=>by
    obtain⟨v,r,e,p,q⟩:=h;exact⟨v,r,e,Is.lt l p,aH.lt l q⟩
end
noncomputable def Pl.less (P:Pl) (B:Addr->Prop):Pl:={P with bd:=fun a=>P.bd a/\B a}
mutual
theorem Is.less:∀{d:D} {v:V},Is K P H d v->Is K (P.less B) H d v
  |.non,_,h=>h
  |.bl _,_,h=>h
  |.int _,_,h=>h
  |.str _,_,h=>h
  |.tup ds,_,h=>by
    obtain⟨a,vs,e,s,r⟩:=h;exact⟨a,vs,e,s,aH.less r⟩
  |.lst ds,_,h=>by
    obtain⟨a,vs,e,s,r⟩:=h;exact⟨a,vs,e,s.imp (fun⟨n,h⟩=>⟨fun z=>n z.1,h⟩) id,aH.less r⟩
  |.ref k,_,h=>h
theorem aH.less:∀{ds:List D} {vs:List V},aH K P H ds vs->aH K (P.less B) H ds vs
  | [],_,h=>h
  |_::_,_,h=>by
    obtain⟨v,r,e,p,q⟩:=h;exact⟨v,r,e,Is.less p,aH.less q⟩
end
mutual
theorem Is.free (P':Pl):∀{d:D} {v:V},d.lf=true->Is K P H d v->Is K P' H d v
  |.non,_,_,h=>h
  |.bl _,_,_,h=>h
  |.int _,_,_,h=>h
  |.str _,_,_,h=>h
  |.tup ds,_,l,h=>by
    obtain⟨a,vs,e,s,r⟩:=h;exact⟨a,vs,e,s,aH.free P' (by simpa only[D.lf] using l) r⟩
  |.lst _,_,l,_=>by simp[D.lf]at l
  |.ref _,_,l,_=>by simp[D.lf]at l
theorem aH.free (P':Pl):∀{ds:List D} {vs:List V},D.lfs ds=true->aH K P H ds vs->aH K P' H ds vs
  | [],_,_,h=>h
  |_::_,_,l,h=>by
    obtain⟨v,r,e,p,q⟩:=h;simp only[D.lfs,xal]at l;exact⟨v,r,e,Is.free P' l.1 p,aH.free P' l.2 q⟩
end
theorem aH.len:∀{ds:List D} {vs:List V},aH K P H ds vs->vs.length=ds.length
  | [],_,h=>by rw[show _=[] from h];rfl
  |d::ds,_,h=>by
    obtain⟨v,r,e,_,q⟩:=h;subst e
    simp[aH.len q]
theorem aH.get:∀{ds:List D} {vs:List V} {i:Nat} {d:D},aH K P H ds vs->ds[i]? =some d->∃v,vs[i]? =some v/\Is K P H d v
  | [],_,_,_,_,e=>by simp at e
  |d::ds,_,0,_,h,e=>by
    obtain⟨v,r,e',p,_⟩:=h
    simp at e
    subst e e';exact⟨v,rfl,p⟩
  |d::ds,_,i + 1,_,h,e=>by
    obtain⟨v,r,e',_,q⟩:=h;subst e'
    simpa using aH.get (i:=i) q (by simpa using e)
theorem aH.append:∀{ds es:List D} {vs ws:List V},aH K P H ds vs->aH K P H es ws->aH K P H (ds ++ es) (vs ++ ws)
  | [],_,_,_,h,q=>by rw[show _=[] from h];exact q
  |d::ds,_,_,_,h,q=>by
    obtain⟨v,r,e,p,h⟩:=h;subst e;exact⟨v,r ++ _,rfl,p,aH.append h q⟩
theorem aH.take:∀{ds:List D} {vs:List V} (n:Nat),aH K P H ds vs->aH K P H (ds.take n) (vs.take n)
  |_,_,0,_=>rfl
  | [],_,n + 1,h=>by rw[show _=[] from h];rfl
  |d::ds,_,n + 1,h=>by
    obtain⟨v,r,e,p,h⟩:=h;subst e;exact⟨v,_,rfl,p,aH.take n h⟩
theorem aH.drop:∀{ds:List D} {vs:List V} (n:Nat),aH K P H ds vs->aH K P H (ds.drop n) (vs.drop n)
  |_,_,0,h=>h
  | [],_,n + 1,h=>by rw[show _=[] from h];rfl
  |d::ds,_,n + 1,h=>by
    obtain⟨v,r,e,p,h⟩:=h;subst e;exact aH.drop n h
theorem aH.one (h:Is K P H d v):aH K P H [d] [v]:=⟨v,[],rfl,h,rfl⟩
end
noncomputable def rm (H:Hp):List (Str×Addr)->List V->Prop
 | [],vs=>vs=[]
 |p::r,vs=>∃v ws u o,vs=v::ws/\RelV v u/\H p.2=some (.frz o (.own p.2))/\o.data=.cell (some u)/\rm H r ws
theorem rm.up {H H':Hp}(s:∀b o u,H b=some (.frz o u)->H' b=some (.frz o u)):∀{cl:List (Str×Addr)} {vs:List V},rm H cl vs->rm H' cl vs
  | [],_,h=>h
  |_::_,_,h=>by
    obtain⟨v,ws,u,o,e,r,q,d,h⟩:=h;exact⟨v,ws,u,o,e,r,s _ _ _ q,d,h.up s⟩
def lX (H:Hp)(c:Addr)(q:Str):Prop:=∃(o:Obj) (fs:Array Value) (t:Tok),H c=some (.frz o (.own c))/\o.data=.fields fs/\fs[1]? =some (.str q t)
theorem lX.up {H H':Hp}{c:Addr}{q:Str}(s:∀b o u,H b=some (.frz o u)->H' b=some (.frz o u))(h:lX H c q):lX H' c q:=by
 obtain⟨o,fs,t,e,r⟩:=h;exact⟨o,fs,t,s _ _ _ e,r⟩
def lB (H:Hp)(dd:List Int)(dV:Value):Prop:=(dd=[]/\dV=.none)\/(dd≠ []/\∃(td:Addr) (o:Obj) (its:Array Value) (n:Nat),dV=.ref td/\H td=some (.frz o (.own td))/\o.data=.seq its n/\Vals (dd.map V.int) its.toList)
theorem lB.up {H H':Hp}{dd:List Int}{dV:Value}(s:∀b o u,H b=some (.frz o u)->H' b=some (.frz o u))(h:lB H dd dV):lB H' dd dV:=
 h.imp id fun⟨e,td,o,its,n,e1,e2,r⟩=>⟨e,td,o,its,n,e1,s _ _ _ e2,r⟩
noncomputable def vh (mg:Mgx) (i:FnT) (cl:List (Str×Addr)) (dV doc ctv:Value) (c:Addr):Obj:={cls:=.type "function",data:=.func (PySem.W.fnX i.x i.q (dG i.st) (aZ i.st) (aF i.st) cl dV .none doc ((mg "__name__").getD .none) none (.ref c) ctv)}
def nM (K:Fgx)(mg:Mgx)(P:Pl)(H:Hp)(a:Addr)(i:FnT)(caps:List (Str×D)):Prop:=
 ∃(cl:List (Str×Addr)) (dV doc ctv:Value) (c:Addr) (vs:List V),H a=some (.frz (vh mg i cl dV doc ctv c) (.own a))/\(lX H c i.q/\lB H i.dd dV)/\(cl.map (·.1)=caps.map (·.1)/\caps.map (·.1)=i.fr)/\aH K P H (caps.map (·.2)) vs/\rm H cl vs/\∀x y a,cl.lookup x=some a->cl.lookup y=some a->x=y
theorem nM.up {K:Fgx}{mg:Mgx}{P P':Pl}{H H':Hp}{a:Addr}{i:FnT}{caps:List (Str×D)}(h:nM K mg P H a i caps)(s:∀b o u,H b=some (.frz o u)->H' b=some (.frz o u))(q:∀ds vs,aH K P H ds vs->aH K P' H' ds vs):nM K mg P' H' a i caps:=by
 obtain⟨cl,dV,doc,ctv,c,vs,e1,e2,e3,e4,e5,e6⟩:=h;exact⟨cl,dV,doc,ctv,c,vs,s _ _ _ e1,⟨e2.1.up s,e2.2.up s⟩,e3,q _ _ e4,e5.up s,e6⟩
def wF (K:Fgx)(H:Hp)(a:Addr)(nm:Str)(i:FnT):Prop:=
 ∃(c:Addr) (ps:Array Value),PySem.W.tabIn K nm=some (c,a)/\H a=some (.tbl ps)/\(ps= #[]\/∃c',ps= #[rawInt i.pos.line,rawInt i.pos.col,.ref c']/\lX H c' i.q)
theorem wF.up {K:Fgx}{H H':Hp}{a:Addr}{nm:Str}{i:FnT}(h:wF K H a nm i)(e:∀o,H a=some o->H' a=some o)(s:∀b o u,H b=some (.frz o u)->H' b=some (.frz o u)):wF K H' a nm i:=by
 obtain⟨c,ps,e1,e2,e3⟩:=h;exact⟨c,ps,e1,e _ e2,e3.imp id fun⟨c',z,q⟩=>⟨c',z,q.up s⟩⟩
noncomputable def BP (K:Fgx) (mg:Mgx) (P:Pl) (H:Hp) (a:Addr):Cl->Prop
 |.lst ds=>∃vs,H a=some (.lst vs)/\aH K P H ds vs
 |.obj c fs=>∃C dx gs,mg c=some (.ref C)/\H a=some (.ins C dx gs)/\gs.map (·.1)=fs.map (·.1)/\aH K P H (fs.map (·.2)) (gs.map (·.2))
 |.dct kvs=>∃vs:List (L2.Key×V),H a=some (.dK vs)/\vs.map (·.1)=kvs.map (·.1)/\aH K P H (kvs.map (·.2)) (vs.map (·.2))
 |.dcf kvs=>∃(vs:List (L2.Key×V)) (ob:Obj) (es:Array DictEntry) (ep:Nat),H a=some (.frz ob (.dK vs))/\ob.data=.dict es ep/\vs.map (·.1)=kvs.map (·.1)/\aH K P H (kvs.map (·.2)) (vs.map (·.2))
 |.fn i caps=>nM K mg P H a i caps
 |.tbl nm i=>wF K H a nm i
noncomputable def Cl.fix:Cl->Bool
 |.dcf _=>true
 |.fn _ _=>true
 |_=>false
structure Hk (K:Fgx)(mg:Mgx)(P:Pl)(H:Hp)(M:Mm):Prop where
 n:P.n=M.length
 cell:∀(k:Nat) c,M[k]? =some c->BP K mg P H (P.io k) c
 inj:∀j k,j<P.n->k<P.n->P.io j=P.io k->j=k
 bd:∀k,k<P.n->P.bd (P.io k)
 here:∀a,P.bd a->H a≠none
structure LtE (P:Pl)(H:Hp)(P':Pl)(H':Hp):Prop where
 n:P.n<=P'.n
 io:∀k,k<P.n->P'.io k=P.io k
 bd:∀a,P'.bd a->P.bd a\/H a=none
 bm:∀a,P.bd a->P'.bd a
 keep:∀a o,H a=some o->(Fx o\/∀k,k<P.n->P.io k≠a)->H' a=some o
 sure:∀a,H' a=none->H a=none
 nw:∀k,P.n<=k->k<P'.n->H (P'.io k)=none
section
variable {K:Fgx}{mg:Mgx}{P P' P'':Pl}{H H' H'':Hp}{M M':Mm}
theorem LtE.refl (P:Pl)(H:Hp):LtE P H P H:=⟨xag _,fun _ _=>rfl,fun _ z=>.inl z,fun _ z=>z,fun _ _ e _=>e,fun _ z=>z,fun k h1 h2=>absurd h1 (xdd.mpr h2)⟩
theorem LtE.same (s:Same H H'):LtE P H P H':=⟨xag _,fun _ _=>rfl,fun _ z=>.inl z,fun _ z=>z,fun a o e _=>s a o e,fun a z=>s.free z,fun k h1 h2=>absurd h1 (xdd.mpr h2)⟩
theorem Hk.cellAt (h:Hk K mg P H M)(hc:M[k]? =some c)(nd:c.fix=false:=by rfl):∃o,H (P.io k)=some o/\¬ Fx o:=by
  have:=h.cell k c hc
  cases c with
  |lst ds=>
    obtain⟨vs,e,_⟩:=this;exact⟨_,e,fun z=>by rcases z with⟨_,z⟩ |⟨_,_,z⟩ |⟨_,z⟩ |⟨_,z⟩<;>cases z⟩
  |obj c fs=>
    obtain⟨C,dx,gs,_,e,_⟩:=this;exact⟨_,e,fun z=>by rcases z with⟨_,z⟩ |⟨_,_,z⟩ |⟨_,z⟩ |⟨_,z⟩<;>cases z⟩
  |dct kvs=>
    obtain⟨vs,e,_⟩:=this;exact⟨_,e,fun z=>by rcases z with⟨_,z⟩ |⟨_,_,z⟩ |⟨_,z⟩ |⟨_,z⟩<;>cases z⟩
  |dcf kvs=>cases nd
  |fn i caps=>cases nd
  |tbl nm i=>
    obtain⟨c,ps,_,e,_⟩:=this;exact⟨_,e,fun z=>by rcases z with⟨_,z⟩ |⟨_,_,z⟩ |⟨_,z⟩ |⟨_,z⟩<;>cases z⟩
theorem LtE.lt (l:LtE P H P' H')(h:Hk K mg P H M):Lt P H P' H' where
 n:=l.n
 io:=l.io
 bd:=l.bd
 sure:=l.sure
 keep:=fun a o e z=>l.keep a o e (z.imp id fun z k hk q=>z (q ▸ h.bd k hk))
theorem LtE.trans (l:LtE P H P' H')(m:LtE P' H' P'' H''):LtE P H P'' H'' where
 n:=xav l.n m.n
 io:=fun k h=>(m.io k (xad h l.n)).trans (l.io k h)
 bd:=fun a z=>(m.bd a z).elim (l.bd a) fun z=>.inr (l.sure a z)
 bm:=fun a z=>m.bm a (l.bm a z)
 keep:=fun a o e h=>m.keep a o (l.keep a o e h) <| h.imp id fun h k hk q=>by
  rcases xaO k P.n with z |z
  ·rw[l.io k z]at q;exact h k z q
  ·rw[<-q,l.nw k z hk]at e;cases e
 sure:=fun a z=>l.sure a (m.sure a z)
 nw:=fun k h1 h2=>by
  rcases xaO k P'.n with z |z
  ·rw[m.io k z];exact l.nw k h1 z
  ·exact l.sure _ (m.nw k z h2)
end
inductive Cp where
 |eq |ne |lt |le |gt |ge |isin |notin |same |other
mutual
def D.eq:D->D->Bool
 |.non,.non=>true
 |.bl a,.bl b=>a==b
 |.bl a,.int b=>(if a then 1 else 0)==b
 |.int a,.bl b=>a==(if b then 1 else 0)
 |.int a,.int b=>a==b
 |.str a,.str b=>a==b
 |.tup a,.tup b=>D.eqs a b
 |.lst a,.lst b=>D.eqs a b
 |.ref a,.ref b=>a==b
 |_,_=>false
def D.eqs:List D->List D->Bool
 | [],[]=>true
 |a::as,b::bs=>D.eq a b && D.eqs as bs
 |_,_=>false
end
mutual
def D.dep:D->Nat
 |.tup xs=>D.deps xs + 1
 |.lst xs=>D.deps xs + 1
 |.ref _=>101
 |_=>0
def D.deps:List D->Nat
 | []=>0
 |a::as=>max (D.dep a) (D.deps as)
end
noncomputable def D.flat:D->Bool
 |.tup _=>false
 |.lst _=>false
 |.ref _=>false
 |_=>true
noncomputable def yu (i j:Str):Bool:= !(Builtin.Str.occurrences j i 0 j.length 1).isEmpty
def gU (a b:D):Bool:=a.flat==b.flat && decide (b.dep<=50)
noncomputable def xU (a b:D):Option Bool:=if gU a b=true/\a.dep<=50 then some (D.eq a b) else none
noncomputable def wL (a b:D):Option Bool:=if gU a b=true/\a.dep<=50 then some (!D.eq a b) else none
noncomputable def i_ (f:Int->Int->Bool) (a b:D):Option Bool:=match a with
 |.int i=>(match b with |.int j=>some (f i j) |_=>none)
 |_=>none
noncomputable def wK (a b:D):Option Bool:=match b with
 |.str j=>(match a with |.str i=>some (yu i j) |_=>none)
 |.lst xs=>if (a.flat && xs.all D.flat)=true then some (xs.any fun y=>D.eq y a) else none
 |.tup xs=>if (a.flat && xs.all D.flat)=true then some (xs.any fun y=>D.eq y a) else none
 |_=>none
noncomputable def lZ (a b:D):Option Bool:=match b with
 |.str j=>(match a with |.str i=>some (!yu i j) |_=>none)
 |.lst xs=>if (a.flat && xs.all D.flat)=true then some (!xs.any fun y=>D.eq y a) else none
 |.tup xs=>if (a.flat && xs.all D.flat)=true then some (!xs.any fun y=>D.eq y a) else none
 |_=>none
noncomputable def xW (a b:D):Option Bool:=match b with
 |.bl b=>(match a with |.bl a=>some (a==b) |_=>some false)
 |.non=>(match a with |.non=>some true |_=>some false)
 |_=>none
noncomputable def xV (a b:D):Option Bool:=match b with
 |.bl b=>(match a with |.bl a=>some (!(a==b)) |_=>some true)
 |.non=>(match a with |.non=>some false |_=>some true)
 |_=>none
noncomputable def gn (c:Cp) (a b:D):Option Bool:=match c with
 |.eq=>xU a b
 |.ne=>wL a b
 |.lt=>i_ (fun i j=>decide (i<j)) a b
 |.le=>i_ (fun i j=>decide (i<=j)) a b
 |.gt=>i_ (fun i j=>decide (j<i)) a b
 |.ge=>i_ (fun i j=>decide (j<=i)) a b
 |.isin=>wK a b
 |.notin=>lZ a b
 |.same=>xW a b
 |.other=>xV a b
noncomputable def h_ (K:Fgx) (P:Pl) (H:Hp):D->V->Prop
 |.lst ds,v=>∃a vs,v=.ref a/\Ug K P H a vs/\aH K P H ds vs
 |d,v=>Is K P H d v
section
variable {X:Cx}{pins:Pnx}{σ:L2.St}{H:Hp}{s:Shared}
theorem zhy {K:Fgx}{P:Pl}{a:Addr}{xs:List V}(h:Ug K P H a xs):fW K H a xs:=h.imp (·.2) id
noncomputable def fL (K:Fgx) (P:Pl) (H:Hp):D->V->Prop
 |.lst ds,v=>∃a vs,v=.ref a/\fW K H a vs/\aH K P H ds vs
 |d,v=>Is K P H d v
theorem h_.w {K:Fgx}{P:Pl}{d:D}{v:V}(h:h_ K P H d v):fL K P H d v:=by
 cases d<;>first |exact h |(obtain⟨a,vs,e,r,q⟩:=h;exact⟨a,vs,e,zhy r,q⟩)
theorem Is.w {K:Fgx}{P:Pl}{d:D}{v:V}(h:Is K P H d v):fL K P H d v:=by
 cases d<;>first |exact h |(obtain⟨a,vs,e,r,q⟩:=h;exact⟨a,vs,e,r.imp (·.2) id,q⟩)
theorem sql (I:Inv X pins σ H s)(h:fW X.K H l xs):xs.length<=sizeLine/\∃its:List Value,Vals xs its/\s.heap.IsList l its.toArray:=by
 obtain⟨its,r,p,z⟩:=I.list h;exact⟨z,its,r,p.isList⟩
mutual
theorem Is.inj (I:Inv X pins σ H s):∀(d e:D) (v:V),fL X.K A H d v->fL X.K B H e v->d.dep<=100->e.dep<=100->d=e
  |.ref _,e,v,h,h',hd,he=>by simp[D.dep]at hd
  |.non,e,v,h,h',hd,he=>by
    have hv:v=.non:=h;subst hv;cases e<;>first |(simp[D.dep]at he;done) |(simp[fL,Is]at h'<;>rfl)
  |.bl b,e,v,h,h',hd,he=>by
    have hv:v=.bl b:=h;subst hv;cases e<;>first |(simp[D.dep]at he;done) |(simp[fL,Is]at h'<;>simp[h'])
  |.int b,e,v,h,h',hd,he=>by
    have hv:v=.int b:=h;subst hv;cases e<;>first |(simp[D.dep]at he;done) |(simp[fL,Is]at h'<;>simp[h'])
  |.str b,e,v,h,h',hd,he=>by
    have hv:v=.str b:=h;subst hv;cases e<;>first |(simp[D.dep]at he;done) |(simp[fL,Is]at h'<;>simp[h'])
  |.tup ds,e,v,h,h',hd,he=>by
    simp only[D.dep]at hd;simp only[fL,Is]at h;obtain⟨a,vs,rfl,t,r⟩:=h
    cases e with
    |tup es=>
      simp only[fL,Is]at h';obtain⟨b,ws,e1,t',r'⟩:=h';cases e1;have e2:=I.tuple_inj t t';subst e2;simp only[D.dep]at he;rw[aH.inj I ds es vs r r' (by omega) (by omega)]
    |lst es=>
      obtain⟨b,ws,e1,t',r'⟩:=h';cases e1;obtain⟨_,its,_,o2,e2,c2,_⟩:=sql I t';obtain⟨its2,_,⟨o,e3,c3,_⟩,_⟩:=I.tuple t;rw[e2]at e3;cases e3;rw[c2]at c3;exact absurd c3 (by simp)
    |ref _=>simp[D.dep]at he
    |_=>simp[fL,Is]at h'
  |.lst ds,e,v,h,h',hd,he=>by
    simp only[D.dep]at hd;obtain⟨a,vs,rfl,t,r⟩:=h
    cases e with
    |lst es=>
      obtain⟨b,ws,e1,t',r'⟩:=h';cases e1;have e2:=I.list_inj (t) (t');subst e2;simp only[D.dep]at he;rw[aH.inj I ds es vs r r' (by omega) (by omega)]
    |tup es=>
      simp only[fL,Is]at h';obtain⟨b,ws,e1,t',r'⟩:=h';cases e1;obtain⟨_,its,_,o2,e2,c2,_⟩:=sql I t;obtain⟨its2,_,⟨o,e3,c3,_⟩,_⟩:=I.tuple t';rw[e2]at e3;cases e3;rw[c2]at c3;exact absurd c3 (by simp)
    |ref _=>simp[D.dep]at he
    |_=>simp[fL,Is]at h'
theorem aH.inj (I:Inv X pins σ H s):∀(ds es:List D) (vs:List V),aH X.K A H ds vs->aH X.K B H es vs->D.deps ds<=100->D.deps es<=100->ds=es
  | [],es,vs,h,h',hd,he=>by
    have hv:vs=[]:=h;subst hv
    cases es with
    |nil=>rfl
    |cons=>simp[aH]at h'
  |d::ds,es,vs,h,h',hd,he=>by
    simp only[D.deps]at hd;obtain⟨v,r,rfl,p,q⟩:=h
    cases es with
    |nil=>simp[aH]at h'
    |cons e es=>
      obtain⟨v',r',e1,p',q'⟩:=h';cases e1;simp only[D.deps]at he;rw[Is.inj I d e v p.w p'.w (by omega) (by omega),aH.inj I ds es r q q' (by omega) (by omega)]
end
mutual
theorem D.eq_refl:∀d:D,D.eq d d=true
 |.non=>rfl
 |.bl b=>by simp[D.eq]
 |.int b=>by simp[D.eq]
 |.str b=>by simp[D.eq]
 |.tup ds=>by simp only[D.eq];exact D.eqs_refl ds
 |.lst ds=>by simp only[D.eq];exact D.eqs_refl ds
 |.ref n=>by simp[D.eq]
theorem D.eqs_refl:∀d:List D,D.eqs d d=true
 | []=>rfl
 |d::ds=>by simp only[D.eqs,D.eq_refl d,D.eqs_refl ds,xcL]
end
theorem D.eqs_len:∀(ds es:List D),ds.length≠es.length->D.eqs ds es=false
  | [],[],h=>absurd rfl h
  | [],_::_,_=>rfl
  |_::_,[],_=>rfl
  |d::ds,e::es,h=>by
    simp only[D.eqs,D.eqs_len ds es (by simpa using h),xcB]
theorem D.eqs_all:∀(ds es:List D),ds.length=es.length->D.eqs ds es=(List.range ds.length).all fun j=>D.eq (ds.getD j .non) (es.getD j .non)
  | [],[],_=>rfl
  |d::ds,e::es,h=>by
    rw[D.eqs,D.eqs_all ds es (by simpa using h),xar,List.range_succ_eq_map,xbv,List.all_map];rfl
mutual
theorem Ny (I:Inv X pins σ H s):∀(d e:D) (v w:V) (u u':Value),fL X.K A H d v->fL X.K B H e w->RelV v u->RelV w u'->Ar.units + d.dep<cLine->d.dep<=100->e.dep<=100->SeqAt.EqAt Ar s u u' (D.eq d e)
  |.ref _,e,v,w,u,u',h1,h2,r1,r2,hu,hd,he=>by simp[D.dep]at hd
  |.non,e,v,w,u,u',h1,h2,r1,r2,hu,hd,he=>by
    have hv:v=.non:=h1;subst hv;cases r1;have hu':Ar.units<cLine:=by omega
    cases e with
    |ref _=>simp[D.dep]at he
    |non=>have hw:w=.non:=h2;subst hw;cases r2;exact xcv _
    |bl b=>have hw:w=.bl b:=h2;subst hw;cases r2;exact SeqAt.EqAt.none_bool _
    |int b=>have hw:w=.int b:=h2;subst hw;obtain⟨t,rfl⟩:=r2;exact SeqAt.EqAt.none_int _ _
    |str b=>have hw:w=.str b:=h2;subst hw;obtain⟨t,rfl⟩:=r2;exact SeqAt.EqAt.none_str _ _
    |tup es=>obtain⟨a,vs,rfl,t,_⟩:=h2;cases r2;obtain⟨its,_,p,_⟩:=I.tuple t;exact SeqAt.EqAt.none_tuple p hu'
    |lst es=>obtain⟨a,vs,rfl,t,_⟩:=h2;cases r2;obtain⟨_,its,_,p⟩:=sql I t;exact SeqAt.EqAt.none_list p hu'
  |.bl x,e,v,w,u,u',h1,h2,r1,r2,hu,hd,he=>by
    have hv:v=.bl x:=h1;subst hv;cases r1;have hu':Ar.units<cLine:=by omega
    cases e with
    |ref _=>simp[D.dep]at he
    |non=>have hw:w=.non:=h2;subst hw;cases r2;exact SeqAt.EqAt.bool_none _
    |bl b=>have hw:w=.bl b:=h2;subst hw;cases r2;exact SeqAt.EqAt.bool_bool _ _
    |int b=>have hw:w=.int b:=h2;subst hw;obtain⟨t,rfl⟩:=r2;exact SeqAt.EqAt.bool_int _ _ _
    |str b=>have hw:w=.str b:=h2;subst hw;obtain⟨t,rfl⟩:=r2;exact SeqAt.EqAt.bool_str _ _ _
    |tup es=>obtain⟨a,vs,rfl,t,_⟩:=h2;cases r2;obtain⟨its,_,p,_⟩:=I.tuple t;exact SeqAt.EqAt.bool_tuple _ p hu'
    |lst es=>obtain⟨a,vs,rfl,t,_⟩:=h2;cases r2;obtain⟨_,its,_,p⟩:=sql I t;exact SeqAt.EqAt.bool_list _ p hu'
  |.int x,e,v,w,u,u',h1,h2,r1,r2,hu,hd,he=>by
    have hv:v=.int x:=h1;subst hv;obtain⟨t0,rfl⟩:=r1;have hu':Ar.units<cLine:=by omega
    cases e with
    |ref _=>simp[D.dep]at he
    |non=>have hw:w=.non:=h2;subst hw;cases r2;exact SeqAt.EqAt.int_none _ _
    |bl b=>have hw:w=.bl b:=h2;subst hw;cases r2;exact SeqAt.EqAt.int_bool _ _ _
    |int b=>have hw:w=.int b:=h2;subst hw;obtain⟨t,rfl⟩:=r2;exact SeqAt.EqAt.int_int _ _ _ _
    |str b=>have hw:w=.str b:=h2;subst hw;obtain⟨t,rfl⟩:=r2;exact xcD _ _ _ _
    |tup es=>obtain⟨a,vs,rfl,t,_⟩:=h2;cases r2;obtain⟨its,_,p,_⟩:=I.tuple t;exact SeqAt.EqAt.int_tuple _ _ p hu'
    |lst es=>obtain⟨a,vs,rfl,t,_⟩:=h2;cases r2;obtain⟨_,its,_,p⟩:=sql I t;exact SeqAt.EqAt.int_list _ _ p hu'
  |.str x,e,v,w,u,u',h1,h2,r1,r2,hu,hd,he=>by
    have hv:v=.str x:=h1;subst hv;obtain⟨t0,rfl⟩:=r1;have hu':Ar.units<cLine:=by omega
    cases e with
    |ref _=>simp[D.dep]at he
    |non=>have hw:w=.non:=h2;subst hw;cases r2;exact SeqAt.EqAt.str_none _ _
    |bl b=>have hw:w=.bl b:=h2;subst hw;cases r2;exact SeqAt.EqAt.str_bool _ _ _
    |int b=>have hw:w=.int b:=h2;subst hw;obtain⟨t,rfl⟩:=r2;exact xcE _ _ _ _
    |str b=>have hw:w=.str b:=h2;subst hw;obtain⟨t,rfl⟩:=r2;exact SeqAt.EqAt.str_str _ _ _ _
    |tup es=>obtain⟨a,vs,rfl,t,_⟩:=h2;cases r2;obtain⟨its,_,p,_⟩:=I.tuple t;exact SeqAt.EqAt.str_tuple _ _ p hu'
    |lst es=>obtain⟨a,vs,rfl,t,_⟩:=h2;cases r2;obtain⟨_,its,_,p⟩:=sql I t;exact SeqAt.EqAt.str_list _ _ p hu'
  |.tup ds,e,v,w,u,u',h1,h2,r1,r2,hu,hd,he=>by
    have h1':=h1;have hd':=hd;simp only[D.dep]at hu hd;have hu':Ar.units<cLine:=by omega
    obtain⟨a,vs,rfl,t,q⟩:=h1;cases r1;obtain⟨its,rv,p,hz⟩:=I.tuple t
    cases e with
    |ref _=>simp[D.dep]at he
    |non=>have hw:w=.non:=h2;subst hw;cases r2;exact SeqAt.EqAt.tuple_none p hu'
    |bl b=>have hw:w=.bl b:=h2;subst hw;cases r2;exact SeqAt.EqAt.tuple_bool _ p hu'
    |int b=>have hw:w=.int b:=h2;subst hw;obtain⟨t,rfl⟩:=r2;exact SeqAt.EqAt.tuple_int _ _ p hu'
    |str b=>have hw:w=.str b:=h2;subst hw;obtain⟨t,rfl⟩:=r2;exact SeqAt.EqAt.tuple_str _ _ p hu'
    |tup es=>
      have h2':=h2;have he':=he;simp only[D.dep]at he;obtain⟨b,ws,rfl,t',q'⟩:=h2;cases r2
      by_cases hab:a=b
      · subst hab;rw[Is.inj I _ _ _ h1' h2' hd' he',D.eq_refl];exact xcv _
      · obtain⟨its',rv',p',hz'⟩:=I.tuple t';refine SeqAt.EqAt.of_refs hab ?_;have l1:its.toArray.size=ds.length:=by rw[xae, <-rv.length,q.len]
        have l2:its'.toArray.size=es.length:=by rw[xae, <-rv'.length,q'.len]
        have key:=SeqAt.RcAt.tuples (A:=Ar) (s:=s) (e:=fun j=>D.eq (ds.getD j .non) (es.getD j .non)) p p' hu' fun j j1 j2=>by
          simpa using z_ I ds es vs ws its its' q q' rv rv' (Ar:=Ar.in1) (by show Ar.units + 1 + _<_;omega) (by omega) (by omega) j (by simpa using j1) (by simpa using j2)
        rw[l1,l2]at key
        by_cases hl:ds.length=es.length
        · rw[show D.eq (.tup ds) (.tup es)=D.eqs ds es from rfl,D.eqs_all ds es hl];rw[hl,xdt,xbk,xdf]at key;rw[hl];exact key
        · rw[show D.eq (.tup ds) (.tup es)=D.eqs ds es from rfl,D.eqs_len ds es hl];rw[xa9.mpr hl,xcB]at key;exact key
    |lst es=>obtain⟨b,ws,rfl,t',_⟩:=h2;cases r2;obtain⟨_,its',_,p'⟩:=sql I t';exact SeqAt.EqAt.tuple_list p p' hu'
  |.lst ds,e,v,w,u,u',h1,h2,r1,r2,hu,hd,he=>by
    have h1':=h1;have hd':=hd;simp only[D.dep]at hu hd;have hu':Ar.units<cLine:=by omega
    obtain⟨a,vs,rfl,t,q⟩:=h1;cases r1;obtain⟨hz,its,rv,p⟩:=sql I t
    cases e with
    |ref _=>simp[D.dep]at he
    |non=>have hw:w=.non:=h2;subst hw;cases r2;exact SeqAt.EqAt.list_none p hu'
    |bl b=>have hw:w=.bl b:=h2;subst hw;cases r2;exact SeqAt.EqAt.list_bool _ p hu'
    |int b=>have hw:w=.int b:=h2;subst hw;obtain⟨t,rfl⟩:=r2;exact SeqAt.EqAt.list_int _ _ p hu'
    |str b=>have hw:w=.str b:=h2;subst hw;obtain⟨t,rfl⟩:=r2;exact SeqAt.EqAt.list_str _ _ p hu'
    |tup es=>obtain⟨b,ws,rfl,t',_⟩:=h2;cases r2;obtain⟨its',_,p',_⟩:=I.tuple t';exact SeqAt.EqAt.list_tuple p p' hu'
    |lst es=>
      have h2':=h2;have he':=he;simp only[D.dep]at he;obtain⟨b,ws,rfl,t',q'⟩:=h2;cases r2
      by_cases hab:a=b
      · subst hab;rw[Is.inj I _ _ _ h1' h2' hd' he',D.eq_refl];exact xcv _
      · obtain⟨hz',its',rv',p'⟩:=sql I t';refine SeqAt.EqAt.of_refs hab ?_;have l1:its.toArray.size=ds.length:=by rw[xae, <-rv.length,q.len]
        have l2:its'.toArray.size=es.length:=by rw[xae, <-rv'.length,q'.len]
        by_cases hl:ds.length=es.length
        · have key:=SeqAt.RcAt.lists (A:=Ar) (s:=s) (e:=fun j=>D.eq (ds.getD j .non) (es.getD j .non)) p p' (by rw[l1,l2,hl]) hu' fun j j1 j2=>by
            simpa using z_ I ds es vs ws its its' q q' rv rv' (Ar:=Ar.in1) (by show Ar.units + 1 + _<_;omega) (by omega) (by omega) j (by simpa using j1) (by simpa using j2)
          rw[show D.eq (.lst ds) (.lst es)=D.eqs ds es from rfl,D.eqs_all ds es hl];rw[l1]at key;exact key
        · rw[show D.eq (.lst ds) (.lst es)=D.eqs ds es from rfl,D.eqs_len ds es hl];exact xcX p p' (by rw[l1,l2];simpa using hl) hu'
theorem z_ (I:Inv X pins σ H s):∀(ds es:List D) (vs ws:List V) (its its':List Value),aH X.K A H ds vs->aH X.K B H es ws->Vals vs its->Vals ws its'->Ar.units + D.deps ds<cLine->D.deps ds<=100->D.deps es<=100->
    ∀(j:Nat) (h1:j<its.length) (h2:j<its'.length),SeqAt.EqAt Ar s its[j] its'[j] (D.eq (ds.getD j .non) (es.getD j .non))
  | [],es,vs,ws,its,its',h,h',r,r',hu,hd,he,j,j1,j2=>by
    have hv:vs=[]:=h;subst hv;cases r;exact absurd j1 (xc4 _)
  |d::ds,[],vs,ws,its,its',h,h',r,r',hu,hd,he,j,j1,j2=>by
    have hv:ws=[]:=h';subst hv;cases r';exact absurd j2 (xc4 _)
  |d::ds,e::es,vs,ws,its,its',h,h',r,r',hu,hd,he,j,j1,j2=>by
    obtain⟨v,vr,rfl,p,q⟩:=h;obtain⟨w,wr,rfl,p',q'⟩:=h';simp only[D.deps]at hu hd he
    cases r with
    |cons r1 r2=>
      cases r' with
      |cons r1' r2'=>
        cases j with
        |zero=>exact Ny I d e v w _ _ p.w p'.w r1 r1' (by omega) (by omega) (by omega)
        |succ j=>exact z_ I ds es vr wr _ _ q q' r2 r2' (by omega) (by omega) (by omega) j (by simpa using j1) (by simpa using j2)
end
theorem Y6 {d e:D}{A B:Pl}{K:Fgx}{v w:V}(fd:d.flat=true)(fe:e.flat=true)(h1:fL K A H d v)(h2:fL K B H e w):
  (xJ v w=true/\D.eq d e=decide (v=w))\/(∃a i,v=.bl a/\w=.int i/\D.eq d e=((if a then 1 else 0)==i))\/∃a i,v=.int i/\w=.bl a/\D.eq d e=(i==(if a then 1 else 0)):=by
 cases d<;>cases e<;>simp only[D.flat,xbL]at fd fe<;>simp only[fL,Is]at h1 h2<;>subst h1 h2<;>simp[xJ,D.eq]
 all_goals first |rfl |(rw[xaH];simp)
noncomputable def xq (K:Fgx) (neg:Bool):R2:=fun x y H Q=>∃(A B:Pl) (d e:D),fL K A H d x/\fL K B H e y/\gU d e=true/\d.dep<=50/\Q (.bl (if neg then !D.eq d e else D.eq d e)) H
theorem zg5 (hu:X.A.units + 60<cLine):eX X (compareOp .Eq) (xq X.K false):=by
  intro pins s σ H x y v u Q I rx ry h;obtain⟨A,B,d,e,h1,h2,hk,hd,q⟩:=h;have q:Q (.bl (D.eq d e)) H:=q;have fin:SeqAt.RcAt X.A s v u (D.eq d e)->wpAny (model X.prog X.w) X.A (compareOp .Eq v u) (EP X pins σ Q) X.xe s:=fun r=>EqBoolInt.of_rc r ⟨.bl _,H,I,rfl,q⟩;have hu':X.A.units<cLine:=by omega
  cases fd:d.flat with
  |true=>
    simp only[gU,xal,xaN,xbb]at hk;have fe:e.flat=true:=hk.1.symm.trans fd;rcases Y6 fd fe h1 h2 with⟨sc,eq⟩ |⟨a,i,rfl,rfl,eq⟩ |⟨a,i,rfl,rfl,eq⟩
    · exact QK pins s σ H x y v u Q I rx ry ⟨sc,by rw[<-eq];exact q⟩
    · cases rx;obtain⟨t,rfl⟩:=ry;exact EqBoolInt.eq_bool_int ⟨.bl _,H,I,rfl,by rw[<-eq];exact q⟩
    · cases ry;obtain⟨t,rfl⟩:=rx;exact EqBoolInt.eq_int_bool ⟨.bl _,H,I,rfl,by rw[<-eq];exact q⟩
  |false=>
    simp only[gU,xal,xaN,xbb]at hk;have he:=hk.2;have fe:e.flat=false:=hk.1.symm.trans fd
    cases d with
    |tup ds=>
      obtain⟨a,vs,rfl,t,p⟩:=h1;cases rx;obtain⟨its,rv,pt,hz⟩:=I.tuple t;simp only[D.dep]at hd
      cases e with
      |tup es=>
        obtain⟨b,ws,rfl,t',p'⟩:=h2;cases ry;obtain⟨its',rv',pt',hz'⟩:=I.tuple t';have l1:its.toArray.size=ds.length:=by rw[xae, <-rv.length,p.len]
        have l2:its'.toArray.size=es.length:=by rw[xae, <-rv'.length,p'.len]
        have key:=SeqAt.RcAt.tuples (A:=X.A) (s:=s) (e:=fun j=>D.eq (ds.getD j .non) (es.getD j .non)) pt pt' hu' fun j j1 j2=>by
          simpa using z_ I ds es vs ws its its' p p' rv rv' (Ar:=X.A.in1) (by show X.A.units + 1 + _<_;omega) (by omega) (by simp only[D.dep]at he;omega) j (by simpa using j1) (by simpa using j2)
        rw[l1,l2]at key;refine fin ?_
        by_cases hl:ds.length=es.length
        · rw[show D.eq (.tup ds) (.tup es)=D.eqs ds es from rfl,D.eqs_all ds es hl];rw[hl,xdt,xbk,xdf]at key;rw[hl];exact key
        · rw[show D.eq (.tup ds) (.tup es)=D.eqs ds es from rfl,D.eqs_len ds es hl];rw[xa9.mpr hl,xcB]at key;exact key
      |lst es=>
        obtain⟨b,ws,rfl,t',p'⟩:=h2;cases ry;obtain⟨_,its',rv',e'⟩:=sql I t';exact fin (SeqAt.RcAt.tuple_list pt e' hu')
      |ref _=>simp[D.dep]at he
      |_=>cases fe
    |lst ds=>
      obtain⟨a,vs,rfl,t,p⟩:=h1;cases rx;obtain⟨hz,its,rv,pt⟩:=sql I t;simp only[D.dep]at hd
      cases e with
      |tup es=>
        obtain⟨b,ws,rfl,t',p'⟩:=h2;cases ry;obtain⟨its',rv',pt',hz'⟩:=I.tuple t';exact fin (SeqAt.RcAt.list_tuple pt pt' hu')
      |lst es=>
        obtain⟨b,ws,rfl,t',p'⟩:=h2;cases ry;obtain⟨_,its',rv',pt'⟩:=sql I t';have l1:its.toArray.size=ds.length:=by rw[xae, <-rv.length,p.len]
        have l2:its'.toArray.size=es.length:=by rw[xae, <-rv'.length,p'.len]
        refine fin ?_
        by_cases hl:ds.length=es.length
        · have key:=SeqAt.RcAt.lists (A:=X.A) (s:=s) (e:=fun j=>D.eq (ds.getD j .non) (es.getD j .non)) pt pt' (by rw[l1,l2,hl]) hu' fun j j1 j2=>by
            simpa using z_ I ds es vs ws its its' p p' rv rv' (Ar:=X.A.in1) (by show X.A.units + 1 + _<_;omega) (by omega) (by simp only[D.dep]at he;omega) j (by simpa using j1) (by simpa using j2)
          rw[show D.eq (.lst ds) (.lst es)=D.eqs ds es from rfl,D.eqs_all ds es hl];rw[l1]at key;exact key
        · rw[show D.eq (.lst ds) (.lst es)=D.eqs ds es from rfl,D.eqs_len ds es hl];exact xcX pt pt' (by rw[l1,l2];simpa using hl) hu'
      |ref _=>simp[D.dep]at he
      |_=>cases fe
    |ref _=>simp[D.dep]at hd
    |_=>cases fd
theorem zgh (hu:X.A.units + 60<cLine):eX X (compareOp .NotEq) (xq X.K true):=by
  intro pins s σ H x y v u Q I rx ry h;obtain⟨A,B,d,e,h1,h2,hk,hd,q⟩:=h;have q:Q (.bl (!D.eq d e)) H:=q;have fin:SeqAt.RcNeAt X.A s v u (!D.eq d e)->wpAny (model X.prog X.w) X.A (compareOp .NotEq v u) (EP X pins σ Q) X.xe s:=fun r=>EqBoolInt.of_rcne r ⟨.bl _,H,I,rfl,q⟩;have hu':X.A.units<cLine:=by omega
  cases fd:d.flat with
  |true=>
    simp only[gU,xal,xaN,xbb]at hk;have fe:e.flat=true:=hk.1.symm.trans fd;rcases Y6 fd fe h1 h2 with⟨sc,eq⟩ |⟨a,i,rfl,rfl,eq⟩ |⟨a,i,rfl,rfl,eq⟩
    · exact zjm pins s σ H x y v u Q I rx ry ⟨sc,by rw[<-eq];exact q⟩
    · cases rx;obtain⟨t,rfl⟩:=ry;exact EqBoolInt.ne_bool_int ⟨.bl _,H,I,rfl,by rw[<-eq];exact q⟩
    · cases ry;obtain⟨t,rfl⟩:=rx;exact EqBoolInt.ne_int_bool ⟨.bl _,H,I,rfl,by rw[<-eq];exact q⟩
  |false=>
    simp only[gU,xal,xaN,xbb]at hk;have he:=hk.2;have fe:e.flat=false:=hk.1.symm.trans fd
    cases d with
    |tup ds=>
      obtain⟨a,vs,rfl,t,p⟩:=h1;cases rx;obtain⟨its,rv,pt,hz⟩:=I.tuple t;simp only[D.dep]at hd
      cases e with
      |tup es=>
        obtain⟨b,ws,rfl,t',p'⟩:=h2;cases ry;obtain⟨its',rv',pt',hz'⟩:=I.tuple t';have l1:its.toArray.size=ds.length:=by rw[xae, <-rv.length,p.len]
        have l2:its'.toArray.size=es.length:=by rw[xae, <-rv'.length,p'.len]
        have key:=SeqAt.RcNeAt.tuples (A:=X.A) (s:=s) (e:=fun j=>D.eq (ds.getD j .non) (es.getD j .non)) pt pt' hu' fun j j1 j2=>by
          simpa using z_ I ds es vs ws its its' p p' rv rv' (Ar:=X.A.in1) (by show X.A.units + 1 + _<_;omega) (by omega) (by simp only[D.dep]at he;omega) j (by simpa using j1) (by simpa using j2)
        rw[l1,l2]at key;refine fin ?_
        by_cases hl:ds.length=es.length
        · rw[show D.eq (.tup ds) (.tup es)=D.eqs ds es from rfl,D.eqs_all ds es hl];rw[hl,xdt,xbk,xdf]at key;rw[hl];exact key
        · rw[show D.eq (.tup ds) (.tup es)=D.eqs ds es from rfl,D.eqs_len ds es hl];rw[xa9.mpr hl,xcB]at key;exact key
      |lst es=>
        obtain⟨b,ws,rfl,t',p'⟩:=h2;cases ry;obtain⟨_,its',rv',e'⟩:=sql I t';exact fin (SeqAt.RcNeAt.tuple_list pt e' hu')
      |ref _=>simp[D.dep]at he
      |_=>cases fe
    |lst ds=>
      obtain⟨a,vs,rfl,t,p⟩:=h1;cases rx;obtain⟨hz,its,rv,pt⟩:=sql I t;simp only[D.dep]at hd
      cases e with
      |tup es=>
        obtain⟨b,ws,rfl,t',p'⟩:=h2;cases ry;obtain⟨its',rv',pt',hz'⟩:=I.tuple t';exact fin (SeqAt.RcNeAt.list_tuple pt pt' hu')
      |lst es=>
        obtain⟨b,ws,rfl,t',p'⟩:=h2;cases ry;obtain⟨_,its',rv',pt'⟩:=sql I t';have l1:its.toArray.size=ds.length:=by rw[xae, <-rv.length,p.len]
        have l2:its'.toArray.size=es.length:=by rw[xae, <-rv'.length,p'.len]
        refine fin ?_
        by_cases hl:ds.length=es.length
        · have key:=SeqAt.RcNeAt.lists (A:=X.A) (s:=s) (e:=fun j=>D.eq (ds.getD j .non) (es.getD j .non)) pt pt' (by rw[l1,l2,hl]) hu' fun j j1 j2=>by
            simpa using z_ I ds es vs ws its its' p p' rv rv' (Ar:=X.A.in1) (by show X.A.units + 1 + _<_;omega) (by omega) (by simp only[D.dep]at he;omega) j (by simpa using j1) (by simpa using j2)
          rw[show D.eq (.lst ds) (.lst es)=D.eqs ds es from rfl,D.eqs_all ds es hl];rw[l1]at key;exact key
        · rw[show D.eq (.lst ds) (.lst es)=D.eqs ds es from rfl,D.eqs_len ds es hl];exact SeqAt.RcNeAt.lists_lengths pt pt' (by rw[l1,l2];simpa using hl) hu'
      |ref _=>simp[D.dep]at he
      |_=>cases fe
    |ref _=>simp[D.dep]at hd
    |_=>cases fd
noncomputable def Nt:Cp->CmpOp
 |.eq=>.Eq
 |.ne=>.NotEq
 |.lt=>.Lt
 |.le=>.LtE
 |.gt=>.Gt
 |.ge=>.GtE
 |.isin=>.In
 |.notin=>.NotIn
 |.same=>.Is
 |.other=>.IsNot
noncomputable def Rh (K:Fgx):Cp->R2
 |.eq=>xq K false
 |.ne=>xq K true
 |.lt=>nZ fun i j=>.bl (decide (i<j))
 |.le=>nZ fun i j=>.bl (decide (i<=j))
 |.gt=>nZ fun i j=>.bl (decide (j<i))
 |.ge=>nZ fun i j=>.bl (decide (j<=i))
 |.isin=>fun x y H Q=>(∃i j,x=.str i/\y=.str j/\Q (.bl (!(Builtin.Str.occurrences j i 0 j.length 1).isEmpty)) H)\/JQ K false x y H Q
 |.notin=>fun x y H Q=>(∃i j,x=.str i/\y=.str j/\Q (.bl (!(!(Builtin.Str.occurrences j i 0 j.length 1).isEmpty))) H)\/JQ K true x y H Q
 |.same=>fun x y H Q=>(y=.non/\Q (.bl (decide (x=.non))) H)\/(∃b,y=.bl b/\Q (.bl (decide (x=.bl b))) H)
 |.other=>fun x y H Q=>(y=.non/\Q (.bl (!decide (x=.non))) H)\/(∃b,y=.bl b/\Q (.bl (!decide (x=.bl b))) H)
theorem Nu (hu:X.A.units + 60<cLine):∀c:Cp,eX X (compareOp (Nt c)) (Rh X.K c)
 |.eq=>zg5 hu
 |.ne=>zgh hu
 |.lt=>JF
 |.le=>zju
 |.gt=>ziU
 |.ge=>zid
 |.isin=>zcA.or zcC
 |.notin=>zbE.or zbt
 |.same=>zfJ.or zgq
 |.other=>zeY.or zcG
theorem Ec {K:Fgx}{A:Pl}{d:D}{v:V}(f:d.flat=true)(h:Is K A H d v):vg v=true:=by
 cases d<;>simp only[D.flat,xbL]at f<;>simp only[Is]at h<;>subst h<;>rfl
theorem Nz {K:Fgx}{A B:Pl}{d e:D}{v w:V}(f:d.flat=true)(g:e.flat=true)(h:Is K A H d v)(h':Is K B H e w):wR v w=D.eq d e:=by
 cases d<;>cases e<;>simp only[D.flat,xbL]at f g<;>simp only[Is]at h h'<;>subst h h'<;>rfl
theorem Ed {K:Fgx}{A:Pl}:∀{ds:List D} {vs:List V},ds.all D.flat=true->aH K A H ds vs->vs.all vg=true
  | [],_,_,h=>by rw[show _=[] from h];rfl
  |d::ds,_,f,h=>by
    obtain⟨v,r,rfl,p,q⟩:=h;rw[xbv,xal]at f;rw[xbv,Ec f.1 p,Ed f.2 q];rfl
theorem tK {K:Fgx}{A B:Pl}{e:D}{w:V}(g:e.flat=true)(h':Is K B H e w):∀{ds:List D} {vs:List V},ds.all D.flat=true->aH K A H ds vs->inV w vs=ds.any fun y=>D.eq y e
  | [],_,_,h=>by rw[show _=[] from h];rfl
  |d::ds,_,f,h=>by
    obtain⟨v,r,rfl,p,q⟩:=h;rw[xbv,xal]at f;have:=tK g h' f.2 q;unfold inV at this ⊢;rw[xbH,xbH,this,Nz f.1 g p h']
theorem zho {K:Fgx}{A B:Pl}{c:Cp}{d e:D}{v w:V}{b:Bool}{Q:VK}(h:gn c d e=some b)(h1:fL K A H d v)(h2:fL K B H e w)(q:Q (.bl b) H):Rh K c v w H Q:=by
  cases c
  case eq=>
    simp only[gn,xU,wL]at h;split at h
    · rename_i hc;cases h;exact⟨A,B,d,e,h1,h2,hc.1,hc.2,q⟩
    · cases h
  case ne=>
    simp only[gn,xU,wL]at h;split at h
    · rename_i hc;cases h;exact⟨A,B,d,e,h1,h2,hc.1,hc.2,q⟩
    · cases h
  case isin=>
    cases e with
    |str j=>
      cases d<;>simp only[gn,i_,wK,lZ,xW,xV,reduceCtorEq]at h
      simp only[fL,Is]at h1 h2;subst h1 h2;cases h;exact .inl ⟨_,_,rfl,rfl,q⟩
    |lst xs=>
      have h':(if (d.flat && xs.all D.flat)=true then some (xs.any fun y=>D.eq y d) else none)=some b:=by cases d<;>exact h
      split at h'
      · rename_i hc;rw[xal]at hc;cases h';obtain⟨a,vs,rfl,t,p⟩:=h2;have h1':Is K A H d v:=by cases d<;>first |exact h1 |cases hc.1
        refine .inr ⟨a,vs,rfl,.inl (t),Ec hc.1 h1',Ed hc.2 p,?_⟩;rw[tK hc.1 h1' hc.2 p];exact q
      · cases h'
    |tup xs=>
      have h':(if (d.flat && xs.all D.flat)=true then some (xs.any fun y=>D.eq y d) else none)=some b:=by cases d<;>exact h
      split at h'
      · rename_i hc;rw[xal]at hc;cases h';obtain⟨a,vs,rfl,t,p⟩:=h2;have h1':Is K A H d v:=by cases d<;>first |exact h1 |cases hc.1
        refine .inr ⟨a,vs,rfl,.inr t,Ec hc.1 h1',Ed hc.2 p,?_⟩;rw[tK hc.1 h1' hc.2 p];exact q
      · cases h'
    |_=>cases d<;>simp only[gn,i_,wK,lZ,xW,xV,reduceCtorEq]at h
  case notin=>
    cases e with
    |str j=>
      cases d<;>simp only[gn,i_,wK,lZ,xW,xV,reduceCtorEq]at h
      simp only[fL,Is]at h1 h2;subst h1 h2;cases h;exact .inl ⟨_,_,rfl,rfl,q⟩
    |lst xs=>
      have h':(if (d.flat && xs.all D.flat)=true then some (!xs.any fun y=>D.eq y d) else none)=some b:=by cases d<;>exact h
      split at h'
      · rename_i hc;rw[xal]at hc;cases h';obtain⟨a,vs,rfl,t,p⟩:=h2;have h1':Is K A H d v:=by cases d<;>first |exact h1 |cases hc.1
        refine .inr ⟨a,vs,rfl,.inl (t),Ec hc.1 h1',Ed hc.2 p,?_⟩;rw[tK hc.1 h1' hc.2 p];exact q
      · cases h'
    |tup xs=>
      have h':(if (d.flat && xs.all D.flat)=true then some (!xs.any fun y=>D.eq y d) else none)=some b:=by cases d<;>exact h
      split at h'
      · rename_i hc;rw[xal]at hc;cases h';obtain⟨a,vs,rfl,t,p⟩:=h2;have h1':Is K A H d v:=by cases d<;>first |exact h1 |cases hc.1
        refine .inr ⟨a,vs,rfl,.inr t,Ec hc.1 h1',Ed hc.2 p,?_⟩;rw[tK hc.1 h1' hc.2 p];exact q
      · cases h'
    |_=>cases d<;>simp only[gn,i_,wK,lZ,xW,xV,reduceCtorEq]at h
  case same=>
    cases d<;>cases e<;>simp only[gn,i_,wK,lZ,xW,xV,reduceCtorEq]at h<;>cases h<;>simp only[fL,Is]at h1 h2
    all_goals first
      |(subst h1 h2;first |exact .inr ⟨_,rfl,by rw[Jj];exact q⟩ |exact .inl ⟨rfl,by simpa using q⟩ |exact .inr ⟨_,rfl,by simpa using q⟩)
      |(obtain⟨a,vs,rfl,_⟩:=h1;subst h2;first |exact .inl ⟨rfl,by simpa using q⟩ |exact .inr ⟨_,rfl,by simpa using q⟩)
  case other=>
    cases d<;>cases e<;>simp only[gn,i_,wK,lZ,xW,xV,reduceCtorEq]at h<;>cases h<;>simp only[fL,Is]at h1 h2
    all_goals first
      |(subst h1 h2;first |exact .inr ⟨_,rfl,by rw[Jj];exact q⟩ |exact .inl ⟨rfl,by simpa using q⟩ |exact .inr ⟨_,rfl,by simpa using q⟩)
      |(obtain⟨a,vs,rfl,_⟩:=h1;subst h2;first |exact .inl ⟨rfl,by simpa using q⟩ |exact .inr ⟨_,rfl,by simpa using q⟩)
  all_goals
    cases d<;>cases e<;>simp only[gn,i_,wK,lZ,xW,xV,reduceCtorEq]at h
    simp only[fL,Is]at h1 h2;subst h1 h2;cases h;exact⟨_,_,rfl,rfl,q⟩
end
inductive Mode where
 |val |bor
def Hs (mg:Mgx)(H:Hp)(c:Str)(n:Int)(v:V):Prop:=∃a C dx,v=.ref a/\mg c=some (.ref C)/\H a=some (xo a C dx false)/\
 match dx with
 |none=>n=0
 |some d=>∃fs,H d=some (.xd fs)/\fs.lookup ("at":Str)=some (.int (n - 1))/\n≠0
theorem Hs.lt (l:Lt P H P' H')(h:Hs mg H c n v):Hs mg H' c n v:=by
  obtain⟨a,C,dx,e,m,ea,q⟩:=h;refine⟨a,C,dx,e,m,l.keep _ _ ea (.inl (.inr (.inr (.inl ⟨_,rfl⟩)))),?_⟩
  cases dx with
  |none=>exact q
  |some d=>
    obtain⟨fs,ed,el⟩:=q;exact⟨fs,l.keep _ _ ed (.inl (.inr (.inr (.inr ⟨_,rfl⟩)))),el⟩
noncomputable def Uh (K:Fgx) (mg:Mgx) (P:Pl) (H:Hp) (o:Option Addr) (sv:Option V):Slot->Prop
 |.un=>True
 |.val d=>∃v,sv=some v/\Is K P H d v
 |.own ds=>∃a vs,o=some a/\sv=some (.ref a)/\H a=some (.lst vs)/\aH K P H ds vs
 |.exc c n=>∃v,sv=some v/\Hs mg H c n v
structure Ok (K:Fgx)(mg:Mgx)(P0:Pl)(H0:Hp)(P:Pl)(O:List (Option Addr))(H:Hp)(M:Mm)(st:L2.St)(env:Env):Prop where
 hk:Hk K mg P H M
 base:LtE P0 H0 P H
 b0:∀a,P0.bd a->H0 a≠none
 slot:∀(i:Nat) s,env[i]? =some s->Uh K mg P H (O[i]?).join (st[i]?).join s
 own:∀a,some a∈O->P.bd a/\(∀k,k<P.n->P.io k≠a)/\H0 a=none
 inj:∀(i j:Nat) a,O[i]? =some (some a)->O[j]? =some (some a)->i=j
 olen:O.length=env.length
 slen:st.length=env.length
def fV (K:Fgx)(P:Pl)(H:Hp)(m:Mode)(d:D)(v:V):Prop:=match m with
 |.val=>Is K P H d v
 |.bor=>h_ K P H d v
inductive Res where
 |v (d:D) |x (c:Str) (n:Int)
abbrev O:=Option (Res×Mm)
abbrev E:=Env->Mm->O
noncomputable def bnd (o:O) (k:D->Mm->O):O:=match o with
 |some (.v d,M)=>k d M
 |some (.x c n,M)=>some (.x c n,M)
 |none=>none
theorem fQ (h:bnd o k=some (r,M')):(∃d M,o=some (.v d,M)/\k d M=some (r,M'))\/∃c n,o=some (.x c n,M')/\r=.x c n:=by
 unfold bnd at h;split at h
 ·exact .inl ⟨_,_,rfl,h⟩
 ·cases h;exact .inr ⟨_,_,rfl,rfl⟩
 ·cases h
abbrev XW:=Pl->Hp->Mm->Str->Int->Prop
section
variable {K:Fgx}{mg:Mgx}{P0 P P':Pl}{H0 H H':Hp}{M M':Mm}{Os:List (Option Addr)}{st:L2.St}{env:Env}{d:D}{v:V}{m:Mode}
theorem Is.b (h:Hk K mg P H M)(i:Is K P H d v):h_ K P H d v:=by
  cases d with
  |lst ds=>
    obtain⟨a,vs,e,r,q⟩:=i;exact⟨a,vs,e,r.imp (fun⟨n,r⟩=>⟨fun k hk z=>n (z ▸ h.bd k hk),r⟩) id,q⟩
  |_=>exact i
theorem fV.of (h:Hk K mg P H M)(i:Is K P H d v):fV K P H m d v:=by
 cases m with
 |val=>exact i
 |bor=>exact i.b h
theorem fV.b (h:Hk K mg P H M)(i:fV K P H m d v):h_ K P H d v:=by
 cases m with
 |val=>exact Is.b h i
 |bor=>exact i
theorem LtE.nc (l:LtE P H P' H')(e:H a=some o)(n:∀k,k<P.n->P.io k≠a):∀k,k<P'.n->P'.io k≠a:=fun k hk z=>by
 rcases xaO k P.n with q |q
 ·rw[l.io k q]at z;exact n k q z
 ·rw[<-z,l.nw k q hk]at e;cases e
theorem h_.lt (l:LtE P H P' H')(h:Hk K mg P H M)(i:h_ K P H d v):h_ K P' H' d v:=by
  cases d with
  |lst ds=>
    obtain⟨a,vs,e,r,q⟩:=i;refine⟨a,vs,e,r.imp (fun⟨n,r⟩=>?_) id,aH.lt (l.lt h) q⟩;obtain⟨o,eo⟩:=W_ r;refine⟨l.nc eo n,?_⟩;rcases r with r |⟨o',r⟩
    · exact .inl (l.keep _ _ r (.inr n))
    · exact .inr ⟨o',l.keep _ _ r (.inr n)⟩
  |_=>exact Is.lt (l.lt h) i
theorem Ok.next (k:Ok K mg P0 H0 P Os H M st env)(l:LtE P H P' H')(h:Hk K mg P' H' M'):Ok K mg P0 H0 P' Os H' M' st env where
  hk:=h
  base:=k.base.trans l
  b0:=k.b0
  slot:=fun i s e=>by
    have q:=k.slot i s e
    cases s with
    |un=>exact True.intro
    |val d=>
      obtain⟨v,e1,q⟩:=q;exact⟨v,e1,Is.lt (l.lt k.hk) q⟩
    |own ds=>
      obtain ⟨a, vs, e1, e2, e3, q⟩ := q;have ho := k.own a (by
        cases hx:Os[i]? with
        |none=>rw[hx]at e1;cases e1
        |some o=>rw[hx]at e1;cases o with
          |none=>cases e1
          |some b=>cases e1;exact xax hx)
      exact⟨a,vs,e1,e2,l.keep _ _ e3 (.inr ho.2.1),aH.lt (l.lt k.hk) q⟩
    |exc c n=>
      obtain⟨v,e1,q⟩:=q;exact⟨v,e1,q.lt (l.lt k.hk)⟩
  own:=fun a z=>by
    have ho:=k.own a z;refine⟨l.bm a ho.1,?_,ho.2.2⟩;obtain⟨o,eo⟩:∃o,H a=some o:=by
      cases e:H a with
      |none=>exact absurd e (k.hk.here a ho.1)
      |some o=>exact⟨o,rfl⟩
    exact l.nc eo ho.2.1
  inj:=k.inj
  olen:=k.olen
  slen:=k.slen
theorem Hk.same (h:Hk K mg P H M)(s:Same H H'):Hk K mg P H' M:=by
  have l:Lt P H P H':=(LtE.same s).lt h;refine⟨h.n,fun k c e=>?_,h.inj,h.bd,fun a z q=>h.here a z (s.free q)⟩;have:=h.cell k c e
  cases c with
  |lst ds=>
    obtain⟨vs,e1,q⟩:=this;exact⟨vs,s _ _ e1,aH.lt l q⟩
  |obj c fs=>
    obtain⟨C,dx,gs,e1,e2,e3,q⟩:=this;exact⟨C,dx,gs,e1,s _ _ e2,e3,aH.lt l q⟩
  |dct kvs=>
    obtain⟨vs,e1,e2,q⟩:=this;exact⟨vs,s _ _ e1,e2,aH.lt l q⟩
  |dcf kvs=>
    obtain⟨vs,ob,es,ep,e1,eD,e2,q⟩:=this;exact⟨vs,ob,es,ep,s _ _ e1,eD,e2,aH.lt l q⟩
  |fn i caps=>exact nM.up this l.frz fun _ _ q=>aH.lt l q
  |tbl nm i=>exact wF.up this (fun _ e=>s _ _ e) l.frz
end
noncomputable def RQ (K:Fgx) (mg:Mgx) (Wx:XW) (m:Mode) (P0:Pl) (H0:Hp) (P:Pl) (H:Hp) (M':Mm) (Q:VK):Res->Prop
 |.v d=>∀P' v H',LtE P H P' H'->Hk K mg P' H' M'->fV K P' H' m d v->Q v H'
 |.x c n=>Wx P0 H0 M' c n
theorem fO (h:PE X e t)(i:∀st H Q,t' st H Q->t st H Q):PE X e t':=fun pins s σ H Q I z=>h pins s σ H Q I (i _ _ _ z)
noncomputable def tE (K:Fgx) (mg:Mgx) (Wx:XW) (m:Mode) (f:E):TE:=fun st H Q=>∃P0 H0 P Os env M r M',Ok K mg P0 H0 P Os H M st env/\f env M=some (r,M')/\RQ K mg Wx m P0 H0 P H M' Q r
structure Fit (X:Cx)(Wx:XW):Prop where
 calm:X.calm=true
 room:X.A.units + 60<cLine
section
variable {X:Cx}{Wx:XW}{m:Mode}
def SE (X:Cx)(Wx:XW)(m:Mode)(e:Expr)(f:E):Prop:=PE X e (tE X.K X.mg Wx m f)
theorem SE.bor (h : SE X Wx .val e f) : SE X Wx m e f := fO h fun st H Q ⟨P0, H0, P, Os, env, M, r, M', k, e, q⟩ => ⟨P0,H0,P,Os,env,M,r,M',k,e,by
 cases r with
 |v d=>exact fun P' v H' l h i=>q P' v H' l h (fV.of h i)
 |x c n=>exact q⟩
theorem dO {f:E}{K:Fgx}{mg:Mgx}{P0 P:Pl}{H0 H:Hp}{Os:List (Option Addr)}{M M':Mm}{st:L2.St}{env:Env}{r:Res}{Q:VK}(k:Ok K mg P0 H0 P Os H M st env)(e:f env M=some (r,M'))
  (q:RQ K mg Wx m P0 H0 P H M' Q r):tE K mg Wx m f st H Q:=⟨P0,H0,P,Os,env,M,r,M',k,e,q⟩
noncomputable def aj (i:Nat):E:=fun env M=>match env[i]? with
 |some (.val d)=>some (.v d,M)
 |_=>none
def ak (d:D):E:=fun _ M=>some (.v d,M)
theorem CP {α:Type}{l:List (Option α)}{i:Nat}{a:α}(h:(l[i]?).join=some a):l[i]? =some (some a):=by
  cases e:l[i]? with
  |none=>rw[e]at h;cases h
  |some o=>rw[e]at h;cases o with
    |none=>cases h
    |some b=>cases h;rfl
theorem Zd {i:Nat}{x:Str}{pos:Pos}(hN:X.N[i]? =some x)(hv:Du X.env.scope x)(hd:(x==("__debug__":Str))=false:=by x_go)(hcd:(x==("__classdict__":Str))=false:=by x_go):SE X Wx .val (.Name x pos) (aj i):=by
 refine fO (QT hN hv hd hcd) ?_;rintro st H Q ⟨P0,H0,P,Os,env,M,r,M',k,e,q⟩;unfold aj at e;split at e
 ·rename_i d hs;cases e;obtain⟨v,e1,i1⟩:=k.slot i _ hs;exact⟨v,CP e1,q P v H (LtE.refl P H) k.hk i1⟩
 ·cases e
theorem KC (h:PE X e (tC v))(hd:∀P H,Is X.K P H d v):SE X Wx .val e (ak d):=by
 refine fO h ?_;rintro st H Q ⟨P0,H0,P,Os,env,M,r,M',k,e,q⟩;cases e;exact q P v H (LtE.refl P H) k.hk (hd P H)
noncomputable def vw (M:Mm) (d:D):D:=match d with
  | .ref k => (match M[k]? with
    |some (.lst ds)=>.lst ds
    |_=>.ref k)
  |d=>d
theorem h_.vw {K:Fgx}{mg:Mgx}{P:Pl}{H:Hp}{M:Mm}{d:D}{v:V}(h:Hk K mg P H M)(i:h_ K P H d v):fL K P H (vw M d) v:=by
  cases d with
  |ref k=>
    unfold E3.vw;dsimp only
    split
    · rename_i ds e;obtain⟨i1,i2⟩:k<P.n/\v=.ref (P.io k):=i;obtain⟨vs,e1,q⟩:=h.cell k _ e;exact⟨_,vs,i2,.inl (.inl e1),q⟩
    · exact i
  |lst ds=>exact i.w
  |_=>exact i
noncomputable def s1 (o:D->Option D) (f:E):E:=fun env M=>bnd (f env M) fun d M1=>(o (vw M1 d)).map fun z=>(.v z,M1)
noncomputable def s2 (o:D->D->Option D) (f g:E):E:=fun env M=>bnd (f env M) fun d M1=>bnd (g env M1) fun e M2=>(o (vw M2 d) (vw M2 e)).map fun z=>(.v z,M2)
def pH (K:Fgx)(r:R2)(o:D->D->Option D):Prop:=∀(P:Pl) (H:Hp) (d e z:D) (v w:V) (Q:VK),o d e=some z->fL K P H d v->fL K P H e w->(∀p,H p=none->¬ P.bd p)->(∀u H',Same H H'->Is K P H' z u->Q u H')->r v w H Q
def Ln (K:Fgx)(r:V->Hp->VK->Prop)(o:D->Option D):Prop:=∀(P:Pl) (H:Hp) (d z:D) (v:V) (Q:VK),o d=some z->fL K P H d v->(∀p,H p=none->¬ P.bd p)->(∀u H',Same H H'->Is K P H' z u->Q u H')->r v H Q
theorem Hk.new {K:Fgx}{mg:Mgx}{P:Pl}{H:Hp}{M:Mm}(h:Hk K mg P H M):∀p,H p=none->¬ P.bd p:=fun p hp z=>h.here p z hp
theorem KY {f g:E}{o:D->D->Option D}{r:R2}{st:L2.St}{H:Hp}{Q:VK}(po:pH X.K r o)(h:tE X.K X.mg Wx m (s2 o f g) st H Q):G7 r (tE X.K X.mg Wx .bor f) (tE X.K X.mg Wx .bor g) st H Q:=by
 obtain⟨P0,H0,P,Os,env,M,rr,M',k,e,q⟩:=h;unfold s2 at e;rcases fQ e with⟨d,M1,e1,e⟩ |⟨c,n,e1,rfl⟩
 ·refine dO k e1 fun P1 v1 H1 l1 h1 i1=>?_;have k1:=k.next l1 h1
  rcases fQ e with⟨d2,M2,e2,e⟩ |⟨c,n,e2,rfl⟩
  ·refine dO k1 e2 fun P2 v2 H2 l2 h2 i2=>?_;rw[xac]at e;obtain⟨z,ez,e⟩:=e;cases e;exact po P2 H2 _ _ z v1 v2 Q ez (h_.vw h2 (h_.lt l2 h1 i1)) (h_.vw h2 i2) h2.new fun u H' s i=>q P2 u H' (l1.trans (l2.trans (LtE.same s))) (h2.same s) (fV.of (h2.same s) i)
  ·exact dO k1 e2 q
 ·exact dO k e1 q
theorem zhM {f:E}{o:D->Option D}{r:V->Hp->VK->Prop}{st:L2.St}{H:Hp}{Q:VK}(po:Ln X.K r o)(h:tE X.K X.mg Wx m (s1 o f) st H Q):ZG r (tE X.K X.mg Wx .bor f) st H Q:=by
 obtain⟨P0,H0,P,Os,env,M,rr,M',k,e,q⟩:=h;unfold s1 at e;rcases fQ e with⟨d,M1,e1,e⟩ |⟨c,n,e1,rfl⟩
 ·refine dO k e1 fun P1 v1 H1 l1 h1 i1=>?_;rw[xac]at e;obtain⟨z,ez,e⟩:=e;cases e;exact po P1 H1 _ z v1 Q ez (h_.vw h1 i1) h1.new fun u H' s i=>q P1 u H' (l1.trans (LtE.same s)) (h1.same s) (fV.of (h1.same s) i)
 ·exact dO k e1 q
theorem aW (ho:eX X (binaryOp op) r)(po:pH X.K r o)(ha:SE X Wx .bor a f)(hb:SE X Wx .bor b g):SE X Wx m (.BinOp a op b pos) (s2 o f g):=
 fO (QS ho ha hb) fun _ _ _ h=>KY po h
theorem Y8 (ho:eX X (compareOp op) r)(po:pH X.K r o)(ha:SE X Wx .bor a f)(hb:SE X Wx .bor b g)(hm:behindInMarks op b=false:=by rfl):SE X Wx m (.Compare a [op] [b] pos) (s2 o f g):=
 fO (zeE ho ha hb hm) fun _ _ _ h=>KY po h
theorem zi6 (ho:u6 X r)(po:pH X.K r o)(ha:SE X Wx .bor a f)(hb:SE X Wx .bor b g)(hs:Lk b:=by exact fun _ _=>rfl):SE X Wx m (.Subscript a b pos) (s2 o f g):=
 fO (zjF ho ha hb hs) fun _ _ _ h=>KY po h
noncomputable def TQ (K:Fgx) (mg:Mgx) (Wx:XW) (P0:Pl) (H0:Hp) (P:Pl) (H:Hp) (M':Mm) (Q:Bool->Hp->Prop):Res->Prop
 |.v d=>∃b,d=.bl b/\∀P' H',LtE P H P' H'->Hk K mg P' H' M'->Q b H'
 |.x c n=>Wx P0 H0 M' c n
noncomputable def Bw (K:Fgx) (mg:Mgx) (Wx:XW) (f:E):TT:=fun st H Q=>∃P0 H0 P Os env M r M',Ok K mg P0 H0 P Os H M st env/\f env M=some (r,M')/\TQ K mg Wx P0 H0 P H M' Q r
def ST (X:Cx)(Wx:XW)(e:Expr)(f:E):Prop:=PT X e (Bw X.K X.mg Wx f)
theorem JK (h:PT X e t)(i:∀st H Q,t' st H Q->t st H Q):PT X e t':=fun pins s σ H Q I z=>h pins s σ H Q I (i _ _ _ z)
theorem pA {f:E}{K:Fgx}{mg:Mgx}{P0 P:Pl}{H0 H:Hp}{Os:List (Option Addr)}{M M':Mm}{st:L2.St}{env:Env}{r:Res}{Q:Bool->Hp->Prop}(k:Ok K mg P0 H0 P Os H M st env)(e:f env M=some (r,M'))
  (q:TQ K mg Wx P0 H0 P H M' Q r):Bw K mg Wx f st H Q:=⟨P0,H0,P,Os,env,M,r,M',k,e,q⟩
theorem ZR {f:E}{st:L2.St}{H:Hp}{Q:Bool->Hp->Prop}(h:Bw X.K X.mg Wx f st H Q):ZF (tE X.K X.mg Wx .val f) st H Q:=by
  obtain⟨P0,H0,P,Os,env,M,r,M',k,e,q⟩:=h;refine dO k e ?_
  cases r with
  |v d=>
    obtain⟨b,rfl,q⟩:=q;exact fun P' v H' l h i=>⟨b,i,q P' H' l h⟩
  |x c n=>exact q
theorem zfS (ho:eX X (compareOp op) r)(po:pH X.K r o)(ha:SE X Wx .bor a f)(hb:SE X Wx .bor b g)(hm:behindInMarks op b=false:=by rfl):ST X Wx (.Compare a [op] [b] pos) (s2 o f g):=
 JK (zem ho ha hb hm) fun _ _ _ h=>KY po (ZR h)
noncomputable def mV:D->Option Bool
 |.non=>some false
 |.bl b=>some b
 |.int i=>some (i !=0)
 |.str s=>if s.length<=sizeLine then some ((s.length:Int) !=0) else none
 |.lst ds=>some (!ds.isEmpty)
 |.tup ds=>some (!ds.isEmpty)
 |.ref _=>none
def fU (f:E):E:=s1 (fun d=>(mV d).map .bl) f
noncomputable def g8 (f:E):E:=fun env M=>bnd (f env M) fun d M1=>match d with
 |.bl b=>some (.v (.bl (!b)),M1)
 |_=>none
noncomputable def gB (f g:E):E:=fun env M=>bnd (f env M) fun d M1=>match d with
 |.bl b=>if b=true then g env M1 else some (.v (.bl false),M1)
 |_=>none
noncomputable def pZ (f g:E):E:=fun env M=>bnd (f env M) fun d M1=>match d with
 |.bl b=>if b=true then some (.v (.bl true),M1) else g env M1
 |_=>none
noncomputable def pX (c f g:E):E:=fun env M=>bnd (c env M) fun d M1=>match d with
 |.bl b=>if b=true then f env M1 else g env M1
 |_=>none
def SW (X:Cx)(Wx:XW)(e:Expr)(f:E):Prop:=PW X e (Bw X.K X.mg Wx f)
theorem WY (h:PW X e t)(i:∀st H Q,t' st H Q->t st H Q):PW X e t':=fun wh pins s σ H Q I z=>h wh pins s σ H Q I (i _ _ _ z)
theorem xO (ha:ST X Wx a f):ST X Wx (.UnaryOp .Not a pos) (g8 f):=by
 refine JK (zfB ha) ?_;rintro st H Q ⟨P0,H0,P,Os,env,M,r,M',k,e,q⟩;unfold g8 at e;rcases fQ e with⟨d,M1,e1,e⟩ |⟨c,n,e1,rfl⟩
 ·cases d<;>simp only[reduceCtorEq]at e
  cases e;obtain⟨b,e2,q⟩:=q;cases e2;exact pA k e1 ⟨_,rfl,q⟩
 ·exact pA k e1 q
theorem Zy (ha:ST X Wx a f):SW X Wx (.BoolOp .And [a] pos) f:=zdP ha
theorem KR (ha:ST X Wx a f):SW X Wx (.BoolOp .Or [a] pos) f:=zhn ha
theorem Zx (ha:ST X Wx a f)(hb:SW X Wx (.BoolOp .And (b::rest) pos) g):SW X Wx (.BoolOp .And (a::b::rest) pos) (gB f g):=by
  refine WY (zgJ ha hb) ?_;rintro st H Q ⟨P0,H0,P,Os,env,M,r,M',k,e,q⟩;unfold gB at e;rcases fQ e with⟨d,M1,e1,e⟩ |⟨c,n,e1,rfl⟩
  · cases d<;>simp only[reduceCtorEq]at e
    rename_i b;refine pA k e1 ⟨b,rfl,fun P1 H1 l1 h1=>?_⟩
    cases b with
    |true=>
      rw[xab rfl]at e ⊢;refine pA (k.next l1 h1) e ?_
      cases r with
      |v d=>obtain⟨b,e2,q⟩:=q;exact⟨b,e2,fun P' H' l h=>q P' H' (l1.trans l) h⟩
      |x c n=>exact q
    |false=>
      rw[xah (by decide)]at e ⊢;cases e;obtain⟨b,e2,q⟩:=q;cases e2;exact q P1 H1 l1 h1
  · exact pA k e1 q
theorem G5 (ha:ST X Wx a f)(hb:SW X Wx (.BoolOp .Or (b::rest) pos) g):SW X Wx (.BoolOp .Or (a::b::rest) pos) (pZ f g):=by
  refine WY (ziJ ha hb) ?_;rintro st H Q ⟨P0,H0,P,Os,env,M,r,M',k,e,q⟩;unfold pZ at e;rcases fQ e with⟨d,M1,e1,e⟩ |⟨c,n,e1,rfl⟩
  · cases d<;>simp only[reduceCtorEq]at e
    rename_i b;refine pA k e1 ⟨b,rfl,fun P1 H1 l1 h1=>?_⟩
    cases b with
    |false=>
      rw[xah (by decide)]at e ⊢;refine pA (k.next l1 h1) e ?_
      cases r with
      |v d=>obtain⟨b,e2,q⟩:=q;exact⟨b,e2,fun P' H' l h=>q P' H' (l1.trans l) h⟩
      |x c n=>exact q
    |true=>
      rw[xab rfl]at e ⊢;cases e;obtain⟨b,e2,q⟩:=q;cases e2;exact q P1 H1 l1 h1
  · exact pA k e1 q
theorem SW.st (h:SW X Wx e f):ST X Wx e f:=h.pt
end
section
variable {X:Cx}{Wx:XW}{m:Mode}
theorem RQ.imp {K:Fgx}{mg:Mgx}{P0 P P1:Pl}{H0 H H1:Hp}{M':Mm}{Q:VK}{r:Res}(l:LtE P H P1 H1)(q:RQ K mg Wx m P0 H0 P H M' Q r):RQ K mg Wx m P0 H0 P1 H1 M' Q r:=by
 cases r with
 |v d=>exact fun P' v H' l' h i=>q P' v H' (l.trans l') h i
 |x c n=>exact q
theorem xM (ha:SE X Wx m a f):SE X Wx m (.BoolOp op [a] pos) f:=zgD ha
theorem Bo (ha:SE X Wx .val a f)(hb:SE X Wx m (.BoolOp .And (b::rest) pos) g):SE X Wx m (.BoolOp .And (a::b::rest) pos) (gB f g):=by
  refine fO (zf1 ha hb) ?_;rintro st H Q ⟨P0,H0,P,Os,env,M,r,M',k,e,q⟩;unfold gB at e;rcases fQ e with⟨d,M1,e1,e⟩ |⟨c,n,e1,rfl⟩
  · cases d<;>simp only[reduceCtorEq]at e
    rename_i b;refine dO k e1 fun P1 v1 H1 l1 h1 i1=>⟨b,i1,?_⟩
    cases b with
    |true=>
      rw[xab rfl]at e ⊢;exact dO (k.next l1 h1) e (RQ.imp l1 q)
    |false=>
      rw[xah (by decide)]at e ⊢;cases e;exact q P1 _ H1 l1 h1 (fV.of h1 (show Is _ _ _ (.bl false) _ from rfl))
  · exact dO k e1 q
theorem R5 (ha:SE X Wx .val a f)(hb:SE X Wx m (.BoolOp .Or (b::rest) pos) g):SE X Wx m (.BoolOp .Or (a::b::rest) pos) (pZ f g):=by
  refine fO (zh4 ha hb) ?_;rintro st H Q ⟨P0,H0,P,Os,env,M,r,M',k,e,q⟩;unfold pZ at e;rcases fQ e with⟨d,M1,e1,e⟩ |⟨c,n,e1,rfl⟩
  · cases d<;>simp only[reduceCtorEq]at e
    rename_i b;refine dO k e1 fun P1 v1 H1 l1 h1 i1=>⟨b,i1,?_⟩
    cases b with
    |false=>
      rw[xah (by decide)]at e ⊢;exact dO (k.next l1 h1) e (RQ.imp l1 q)
    |true=>
      rw[xab rfl]at e ⊢;cases e;exact q P1 _ H1 l1 h1 (fV.of h1 (show Is _ _ _ (.bl true) _ from rfl))
  · exact dO k e1 q
theorem R3 (hc:ST X Wx c t)(ha:SE X Wx m a f)(hb:SE X Wx m b g):SE X Wx m (.IfExp c a b pos) (pX t f g):=by
  refine fO (zcX hc ha hb) ?_;rintro st H Q ⟨P0,H0,P,Os,env,M,r,M',k,e,q⟩;unfold pX at e;rcases fQ e with⟨d,M1,e1,e⟩ |⟨c,n,e1,rfl⟩
  · cases d<;>simp only[reduceCtorEq]at e
    rename_i b;refine pA k e1 ⟨b,rfl,fun P1 H1 l1 h1=>?_⟩
    cases b with
    |true=>
      rw[xab rfl]at e ⊢;exact dO (k.next l1 h1) e (RQ.imp l1 q)
    |false=>
      rw[xah (by decide)]at e ⊢;exact dO (k.next l1 h1) e (RQ.imp l1 q)
  · exact pA k e1 q
theorem ZP {K:Fgx}{P:Pl}{H:Hp}{d:D}{v:V}{b:Bool}(h:mV d=some b)(i:fL K P H d v):wG K v H b:=by
  cases d with
  |non=>have e:v=.non:=i;subst e;cases h;rfl
  |bl c=>have e:v=.bl c:=i;subst e;cases h;rfl
  |int c=>have e:v=.int c:=i;subst e;cases h;rfl
  |str c=>
    have e:v=.str c:=i;subst e;simp only[mV]at h;split at h
    · rename_i hl;cases h;exact⟨hl,rfl⟩
    · cases h
  |lst ds=>
    obtain⟨a,vs,rfl,r,q⟩:=i;cases h;refine .inl ⟨vs,r,?_⟩
    cases ds with
    |nil=>rw[show vs=[] from q];rfl
    |cons d ds=>obtain⟨w,r',rfl,_⟩:=q;rfl
  |tup ds=>
    obtain⟨a,vs,rfl,r,q⟩:=i;cases h;refine .inr (.inl ⟨vs,r,?_⟩)
    cases ds with
    |nil=>rw[show vs=[] from q];rfl
    |cons d ds=>obtain⟨w,r',rfl,_⟩:=q;rfl
  |ref k=>cases h
theorem pq (ha:SE X Wx .bor a f)(he:∀whole,isTrue a X.env whole=(do let v <-whole;standAt a.pos;holding [v] (truthy v)):=by exact fun _=>rfl):ST X Wx a (fU f):=by
 refine JK (zdn ha he) ?_;rintro st H Q ⟨P0,H0,P,Os,env,M,r,M',k,e,q⟩;unfold fU s1 at e;rcases fQ e with⟨d,M1,e1,e⟩ |⟨c,n,e1,rfl⟩
 ·rw[xac]at e;obtain⟨z,ez,e⟩:=e;cases e;rw[xac]at ez;obtain⟨b,eb,rfl⟩:=ez;obtain⟨b',e2,q⟩:=q;cases e2;exact dO k e1 fun P1 v1 H1 l1 h1 i1=>⟨b,ZP eb (h_.vw h1 i1),q P1 H1 l1 h1⟩
 ·exact dO k e1 q
theorem zd1 (ha:PE X a ta):PE X (.UnaryOp .Not a pos) (fun σ H Q=>ta σ H fun x H1=>∃k,wG X.K x H1 k/\Q (.bl (!k)) H1):=by
 intro pins s σ H Q I h;refine UnaryOp_ (aX (ha pins s σ H _ I h) fun v s1 ⟨x, H1, I1, r1, k, tv, q⟩ => ?_);exact not_of (aX (ZQ pins s1 σ H1 x v (fun b H'=>b=k/\H'=H1) I1 r1 ⟨k,tv,rfl,rfl⟩) fun b s2 ⟨H2,I2,e1,e2⟩=>by
  subst e1 e2;exact⟨.bl (!b),H2,I2,rfl,q⟩)
def Gz (f:E):E:=s1 (fun d=>(mV d).map fun b=>.bl (!b)) f
theorem Za (ha:SE X Wx .bor a f):SE X Wx m (.UnaryOp .Not a pos) (Gz f):=by
 refine fO (zd1 ha) ?_;rintro st H Q ⟨P0,H0,P,Os,env,M,r,M',k,e,q⟩;unfold Gz s1 at e;rcases fQ e with⟨d,M1,e1,e⟩ |⟨c,n,e1,rfl⟩
 ·rw[xac]at e;obtain⟨z,ez,e⟩:=e;cases e;rw[xac]at ez;obtain⟨b,eb,rfl⟩:=ez;exact dO k e1 fun P1 v1 H1 l1 h1 i1=>⟨b,ZP eb (h_.vw h1 i1),q P1 _ H1 l1 h1 (fV.of h1 (show Is _ _ _ (.bl _) _ from rfl))⟩
 ·exact dO k e1 q
inductive ResA where
 |v (ds:List D) |x (c:Str) (n:Int)
abbrev EA:=Env->Mm->Option (ResA×Mm)
def ao:EA:=fun _ M=>some (.v [],M)
noncomputable def aA (f:E) (fs:EA):EA:=fun env M=>match f env M with
  | some (.v d, M1) => (match fs env M1 with
    |some (.v ds,M2)=>some (.v (d::ds),M2)
    |some (.x c n,M2)=>some (.x c n,M2)
    |none=>none)
  |some (.x c n,M1)=>some (.x c n,M1)
  |none=>none
noncomputable def gj (o:Option (ResA×Mm)) (k:List D->Mm->O):O:=match o with
 |some (.v ds,M)=>k ds M
 |some (.x c n,M)=>some (.x c n,M)
 |none=>none
theorem sU (h:gj o k=some (r,M')):(∃ds M,o=some (.v ds,M)/\k ds M=some (r,M'))\/∃c n,o=some (.x c n,M')/\r=.x c n:=by
 unfold gj at h;split at h
 ·exact .inl ⟨_,_,rfl,h⟩
 ·cases h;exact .inr ⟨_,_,rfl,rfl⟩
 ·cases h
noncomputable def gb (K:Fgx) (P:Pl) (H:Hp) (m:Mode):List D->List V->Prop
 | [],vs=>vs=[]
 |d::ds,vs=>∃v ws,vs=v::ws/\fV K P H m d v/\gb K P H m ds ws
theorem gb.iss {K:Fgx}{P:Pl}{H:Hp}:∀{ds:List D} {vs:List V},gb K P H .val ds vs->aH K P H ds vs
  | [],_,h=>h
  |_::_,_,h=>by
    obtain⟨v,ws,e,p,q⟩:=h;exact⟨v,ws,e,p,gb.iss q⟩
noncomputable def AQ (K:Fgx) (mg:Mgx) (Wx:XW) (m:Mode) (P0:Pl) (H0:Hp) (P:Pl) (H:Hp) (M':Mm) (Q:List V->Hp->Prop):ResA->Prop
 |.v ds=>∀P' vs H',LtE P H P' H'->Hk K mg P' H' M'->gb K P' H' m ds vs->Q vs H'
 |.x c n=>Wx P0 H0 M' c n
noncomputable def Zz (K:Fgx) (mg:Mgx) (Wx:XW) (m:Mode) (fs:EA):TA:=fun st H Q=>∃P0 H0 P Os env M r M',Ok K mg P0 H0 P Os H M st env/\fs env M=some (r,M')/\AQ K mg Wx m P0 H0 P H M' Q r
def SA (X:Cx)(Wx:XW)(m:Mode)(es:List Expr)(fs:EA):Prop:=PA X es (Zz X.K X.mg Wx m fs)
theorem WL (h:PA X es t)(w:∀σ H Q,t' σ H Q->t σ H Q):PA X es t':=fun pos pins s σ H Q I hw=>h pos pins s σ H Q I (w σ H Q hw)
theorem aL:SA X Wx m [] ao:=by
 refine WL Bf ?_;rintro st H Q ⟨P0,H0,P,Os,env,M,r,M',k,e,q⟩;cases e;exact q P [] H (LtE.refl P H) k.hk rfl
theorem aC (ha:SE X Wx m e f)(hr:SA X Wx m es fs)(hs:starEach (e::es) X.env=(false,eval e X.env)::starEach es X.env:=by rfl):SA X Wx m (e::es) (aA f fs):=by
 refine WL (wZ ha hr hs) ?_;rintro st H Q ⟨P0,H0,P,Os,env,M,r,M',k,e,q⟩;unfold aA at e;split at e
 ·rename_i d M1 e1;refine dO k e1 fun P1 v1 H1 l1 h1 i1=>?_;split at e
  ·rename_i ds M2 e2;cases e;refine⟨P0,H0,P1,Os,env,M1,_,_,k.next l1 h1,e2,fun P2 vs H2 l2 h2 i2=>q P2 _ H2 (l1.trans l2) h2 ⟨v1,vs,rfl,?_,i2⟩⟩
   cases m with
   |val=>exact Is.lt (l2.lt h1) i1
   |bor=>exact h_.lt l2 h1 i1
  ·rename_i c n M2 e2;cases e;exact⟨P0,H0,P1,Os,env,M1,_,_,k.next l1 h1,e2,q⟩
  ·cases e
 ·rename_i c n M1 e1;cases e;exact dO k e1 q
 ·cases e
noncomputable def sN (o:List D->Option D) (fs:EA):E:=fun env M=>gj (fs env M) fun ds M1=>(o (ds.map (vw M1))).map fun z=>(.v z,M1)
noncomputable def wB (K:Fgx) (P:Pl) (H:Hp):List D->List V->Prop
 | [],vs=>vs=[]
 |d::ds,vs=>∃v ws,vs=v::ws/\fL K P H d v/\wB K P H ds ws
theorem gb.w {K:Fgx}{mg:Mgx}{P:Pl}{H:Hp}{M:Mm}(h:Hk K mg P H M):∀{ds:List D} {vs:List V},gb K P H m ds vs->wB K P H (ds.map (vw M)) vs
  | [],_,q=>q
  |d::ds,_,q=>by
    obtain⟨v,ws,e,p,q⟩:=q;exact⟨v,ws,e,h_.vw h (p.b h),gb.w h q⟩
def rz (K:Fgx)(r:List V->Hp->VK->Prop)(o:List D->Option D):Prop:=∀(P:Pl) (H:Hp) (ds:List D) (z:D) (vs:List V) (Q:VK),o ds=some z->wB K P H ds vs->(∀p,H p=none->¬ P.bd p)->(∀u H',Same H H'->Is K P H' z u->Q u H')->r vs H Q
theorem Y7 (h:∀t,PA X (e::es) t->PE X ex (S7 r t))(po:rz X.K r o)(ha:SA X Wx .bor (e::es) fs):SE X Wx m ex (sN o fs):=by
 refine fO (h _ ha) ?_;rintro st H Q ⟨P0,H0,P,Os,env,M,r,M',k,e,q⟩;unfold sN at e;rcases sU e with⟨ds,M1,e1,e⟩ |⟨c,n,e1,rfl⟩
 ·rw[xac]at e;obtain⟨z,ez,e⟩:=e;cases e;exact⟨P0,H0,P,Os,env,M,_,_,k,e1,fun P1 vs H1 l1 h1 i1=>po P1 H1 _ z vs Q ez (gb.w h1 i1) h1.new fun u H' s i=>q P1 u H' (l1.trans (LtE.same s)) (h1.same s) (fV.of (h1.same s) i)⟩
 ·exact⟨P0,H0,P,Os,env,M,_,_,k,e1,q⟩
noncomputable def dF (fs:EA):E:=fun env M=>gj (fs env M) fun ds M1=>if ds.length<=sizeLine then some (.v (.tup ds),M1) else none
theorem gw {es:List Expr}{x1:Nat}{pos:Pos}{fs:EA}(ha:SA X Wx .val es fs):SE X Wx m (.Tuple es x1 pos) (dF fs):=by
 refine fO (zgy ha) ?_;rintro st H Q ⟨P0,H0,P,Os,env,M,r,M',k,e,q⟩;unfold dF at e;rcases sU e with⟨ds,M1,e1,e⟩ |⟨c,n,e1,rfl⟩
 ·split at e
  ·rename_i hl;cases e;refine⟨P0,H0,P,Os,env,M,_,_,k,e1,fun P1 vs H1 l1 h1 i1=>⟨by rw[i1.iss.len];exact hl,fun p hp=>?_⟩⟩;have s:=tY (o:=.tup vs) hp;exact q P1 _ _ (l1.trans (LtE.same s)) (h1.same s) (fV.of (h1.same s) ⟨p,vs,rfl,.inl (.inl fP),aH.lt ((LtE.same s).lt h1) i1.iss⟩)
  ·cases e
 ·exact⟨P0,H0,P,Os,env,M,_,_,k,e1,q⟩
noncomputable def NQ (K:Fgx) (mg:Mgx) (Wx:XW) (P0:Pl) (H0:Hp) (P:Pl) (H:Hp) (M':Mm) (Q:VK):Res->Prop
 |.v d=>∃ds,d=.lst ds/\∀P' a vs H',LtE P H P' H'->Hk K mg P' H' M'->H a=none->P'.bd a->(∀k,k<P'.n->P'.io k≠a)->H' a=some (.lst vs)->aH K P' H' ds vs->Q (.ref a) H'
 |.x c n=>Wx P0 H0 M' c n
noncomputable def tN (K:Fgx) (mg:Mgx) (Wx:XW) (f:E):TE:=fun st H Q=>∃P0 H0 P Os env M r M',Ok K mg P0 H0 P Os H M st env/\f env M=some (r,M')/\NQ K mg Wx P0 H0 P H M' Q r
def SN (X:Cx)(Wx:XW)(e:Expr)(f:E):Prop:=PE X e (tN X.K X.mg Wx f)
def Pl.bar (P:Pl)(p:Addr):Pl:={P with bd:=fun a=>P.bd a\/a=p}
theorem Jd {K:Fgx}{mg:Mgx}{P:Pl}{H:Hp}{M:Mm}{p:Addr}{vs:List V}(h:Hk K mg P H M)(hp:H p=none):LtE P H (P.bar p) (upd H p (.lst vs))/\Hk K mg (P.bar p) (upd H p (.lst vs)) M/\∀k,k<P.n->P.io k≠p:=by
  have s:=tY (o:=.lst vs) hp;have nc:∀k,k<P.n->P.io k≠p:=fun k hk z=>h.here _ (h.bd k hk) (z ▸ hp);have l:LtE P H (P.bar p) (upd H p (.lst vs)):=⟨xag _,fun _ _=>rfl,fun a z=>Or.imp (fun q=>q) (fun(q:a=p)=>by rw[q];exact hp) z,fun a z=>.inl z,fun a o e _=>s a o e,fun a z=>s.free z,fun k h1 h2=>absurd h1 (xdd.mpr h2)⟩;have lt:=l.lt h;refine⟨l,⟨h.n,fun k c e=>?_,h.inj,fun k hk=>.inl (h.bd k hk),fun a z q=>?_⟩,nc⟩
  · have:=h.cell k c e
    cases c with
    |lst ds=>
      obtain⟨vs,e1,q⟩:=this;exact⟨vs,s _ _ e1,aH.lt lt q⟩
    |obj c fs=>
      obtain⟨C,dx,gs,e1,e2,e3,q⟩:=this;exact⟨C,dx,gs,e1,s _ _ e2,e3,aH.lt lt q⟩
    |dct kvs=>
      obtain⟨vs,e1,e2,q⟩:=this;exact⟨vs,s _ _ e1,e2,aH.lt lt q⟩
    |dcf kvs=>
      obtain⟨vs,ob,es,ep,e1,eD,e2,q⟩:=this;exact⟨vs,ob,es,ep,s _ _ e1,eD,e2,aH.lt lt q⟩
    |fn i caps=>exact nM.up this lt.frz fun _ _ q=>aH.lt lt q
    |tbl nm i=>exact wF.up this (fun _ e=>s _ _ e) lt.frz
  · rcases z with z |z
    · exact h.here a z (s.free q)
    · subst z;rw[fP]at q;cases q
theorem SN.se (h:SN X Wx e f)(hf:∀env M r M',f env M=some (.v r,M')->∃ds,r=.lst ds):SE X Wx .val e f:=by
  refine fO h ?_;rintro st H Q ⟨P0,H0,P,Os,env,M,r,M',k,e,q⟩;refine⟨P0,H0,P,Os,env,M,r,M',k,e,?_⟩
  cases r with
  |x c n=>exact q
  |v d=>
    obtain⟨ds,rfl⟩:=hf _ _ _ _ e;refine⟨ds,rfl,fun P' a vs H' l h ha ba nc ea is=>q (P'.less (· ≠a)) _ H' ?_ ?_ ⟨a,vs,rfl,.inl ⟨fun z=>z.2 rfl,.inl ea⟩,aH.less is⟩⟩
    · exact⟨l.n,l.io,fun b z=>l.bd b z.1,fun b z=>⟨l.bm b z,fun q=>k.hk.here b z (q ▸ ha)⟩,l.keep,l.sure,l.nw⟩
    · refine⟨h.n,fun j c e=>?_,h.inj,fun j hj=>⟨h.bd j hj,nc j hj⟩,fun b z=>h.here b z.1⟩;have:=h.cell j c e
      cases c with
      |lst ds=>
        obtain⟨vs,e1,q⟩:=this;exact⟨vs,e1,aH.less q⟩
      |obj c fs=>
        obtain⟨C,dx,gs,e1,e2,e3,q⟩:=this;exact⟨C,dx,gs,e1,e2,e3,aH.less q⟩
      |dct kvs=>
        obtain⟨vs,e1,e2,q⟩:=this;exact⟨vs,e1,e2,aH.less q⟩
      |dcf kvs=>
        obtain⟨vs,ob,es,ep,e1,eD,e2,q⟩:=this;exact⟨vs,ob,es,ep,e1,eD,e2,aH.less q⟩
      |fn i caps=>exact nM.up this (fun _ _ _ z=>z) fun _ _ q=>aH.less q
      |tbl nm i=>exact this
noncomputable def aP (fs:EA):E:=fun env M=>gj (fs env M) fun ds M1=>if ds.length<=sizeLine then some (.v (.lst ds),M1) else none
theorem gD {es:List Expr}{pos:Pos}{fs:EA}(ha:SA X Wx .val es fs):SN X Wx (.List es pos) (aP fs):=by
 refine fO (zf4 ha) ?_;rintro st H Q ⟨P0,H0,P,Os,env,M,r,M',k,e,q⟩;unfold aP at e;rcases sU e with⟨ds,M1,e1,e⟩ |⟨c,n,e1,rfl⟩
 ·split at e
  ·rename_i hl;cases e;obtain⟨ds',e',q⟩:=q;cases e';refine⟨P0,H0,P,Os,env,M,_,_,k,e1,fun P1 vs H1 l1 h1 i1=>⟨by rw[i1.iss.len];exact hl,fun p hp=>?_⟩⟩;obtain⟨l2,h2,nc⟩:=Jd (vs:=vs) h1 hp;exact q (P1.bar p) p vs _ (l1.trans l2) h2 (l1.sure p hp) (.inr rfl) nc fP (aH.lt (l2.lt h1) i1.iss)
  ·cases e
 ·exact⟨P0,H0,P,Os,env,M,_,_,k,e1,q⟩
theorem lst_is:∀env M r M',aP fs env M=some (.v r,M')->∃ds,r=.lst ds:=fun env M r M' e=>by
 unfold aP at e;rcases sU e with⟨ds,M1,e1,e⟩ |⟨c,n,e1,e⟩
 ·split at e
  ·cases e;exact⟨_,rfl⟩
  ·cases e
 ·cases e
end
inductive Out where
 |nx (env:Env) |bk (env:Env) |ct (env:Env) |rt (d:D) |ex (c:Str) (n:Int)
abbrev OS:=Option (Out×Mm)
abbrev S:=Env->Mm->OS
noncomputable def Post (K:Fgx) (mg:Mgx) (Wx:XW) (P0:Pl) (H0:Hp) (P:Pl) (H:Hp) (M':Mm) (D:Ends):Out->Prop
 |.nx env=>∀P' Os' H' st',Lt P H P' H'->Ok K mg P0 H0 P' Os' H' M' st' env->D.nx st' H'
 |.bk env=>∀P' Os' H' st',Lt P H P' H'->Ok K mg P0 H0 P' Os' H' M' st' env->D.bk st' H'
 |.ct env=>∀P' Os' H' st',Lt P H P' H'->Ok K mg P0 H0 P' Os' H' M' st' env->D.ct st' H'
 |.rt d=>∀P' v H',LtE P0 H0 P' H'->Hk K mg P' H' M'->Is K P' H' d v->D.rt v H'
 |.ex c n=>Wx P0 H0 M' c n
noncomputable def tS (K:Fgx) (mg:Mgx) (Wx:XW) (f:S):TS:=fun D st H=>∃P0 H0 P Os env M out M',Ok K mg P0 H0 P Os H M st env/\f env M=some (out,M')/\Post K mg Wx P0 H0 P H M' D out
def SS (X:Cx)(Wx:XW)(s:Stmt)(f:S):Prop:=PS X s (tS X.K X.mg Wx f)
def SB (X:Cx)(Wx:XW)(s:List Stmt)(f:S):Prop:=nQ X s (tS X.K X.mg Wx f)
noncomputable def gk (o:O) (k:D->Mm->OS):OS:=match o with
 |some (.v d,M)=>k d M
 |some (.x c n,M)=>some (.ex c n,M)
 |none=>none
theorem sV (h:gk o k=some (r,M')):(∃d M,o=some (.v d,M)/\k d M=some (r,M'))\/∃c n,o=some (.x c n,M')/\r=.ex c n:=by
 unfold gk at h;split at h
 ·exact .inl ⟨_,_,rfl,h⟩
 ·cases h;exact .inr ⟨_,_,rfl,rfl⟩
 ·cases h
section
variable {K:Fgx}{mg:Mgx}{Wx:XW}{P0 P P' P1:Pl}{H0 H H' H1:Hp}{M M':Mm}{Os:List (Option Addr)}{st:L2.St}{env:Env}{d:D}{v:V}{i:Nat}
theorem GX (l:List (Option α))(i j:Nat)(x:Option α)(hi:i<l.length):((l.set i x)[j]?).join=if i=j then x else(l[j]?).join:=by
 rw[xa2]
 by_cases h:i=j
 ·subst h;rw[xab rfl,xab hi,xab rfl];rfl
 ·rw[xah h,xah h]
theorem Ok.asg (k:Ok K mg P0 H0 P Os H M st env)(hi:i<env.length)(h:Is K P H d v):Ok K mg P0 H0 P (Os.set i none) H M (st.set i (some v)) (env.set i (.val d)) where
 hk:=k.hk
 base:=k.base
 b0:=k.b0
 slot:=fun j s e=>by
  rw[GX _ _ _ _ (by rw[k.olen];exact hi),GX _ _ _ _ (by rw[k.slen];exact hi)];rw[xa2]at e;split at e
  ·rename_i ij;subst ij;cases e;rw[xab rfl,xab rfl];exact⟨v,rfl,h⟩
  ·rename_i ij;rw[xah ij,xah ij];exact k.slot j s e
 own := fun a h => k.own a (by
  rcases xcR h with h |h
  ·exact h
  ·cases h)
 inj:=fun j l a e1 e2=>by
  rw[xa2]at e1 e2;split at e1
  ·split at e1<;>cases e1
  ·split at e2
   ·split at e2<;>cases e2
   ·exact k.inj j l a e1 e2
 olen:=by rw[xaM,xaM,k.olen]
 slen:=by rw[xaM,xaM,k.slen]
theorem Ok.here (k:Ok K mg P0 H0 P Os H M st env)(h:some a∈Os):H a≠none:=k.hk.here a (k.own a h).1
theorem Ok.mine (k0:Ok K mg P0 H0 P Os H M st env)(l:LtE P H P' H')(hk:Hk K mg P' H' M')(hi:i<env.length)(ha:H a=none)(ba:P'.bd a)(nc:∀j,j<P'.n->P'.io j≠a)(e:H' a=some (.lst vs))(h:aH K P' H' ds vs):
  Ok K mg P0 H0 P' (Os.set i (some a)) H' M' (st.set i (some (.ref a))) (env.set i (.own ds)):=by
 have k:=k0.next l hk
 have nO:∀j,Os[j]? ≠some (some a):=fun j z=>k0.here (xax z) ha;exact {
  hk:=k.hk
  base:=k.base
  b0:=k.b0
  slot:=fun j s e'=>by
   rw[GX _ _ _ _ (by rw[k.olen];exact hi),GX _ _ _ _ (by rw[k.slen];exact hi)];rw[xa2]at e';split at e'
   ·rename_i ij;subst ij;cases e';rw[xab rfl,xab rfl];exact⟨a,vs,rfl,rfl,e,h⟩
   ·rename_i ij;rw[xah ij,xah ij];exact k.slot j s e'
  own:=fun b hb=>by
   rcases xcR hb with hb |hb
   ·exact k.own b hb
   ·cases hb;exact⟨ba,nc,k0.base.sure a ha⟩
  inj:=fun j l b e1 e2=>by
   rw[xa2]at e1 e2;split at e1
   ·split at e1
    ·cases e1;split at e2
     ·rename_i z1 _ z2;exact z1.symm.trans z2
     ·exact absurd e2 (nO l)
    ·cases e1
   ·split at e2
    ·split at e2
     ·cases e2;exact absurd e1 (nO j)
     ·cases e2
    ·exact k.inj j l b e1 e2
  olen:=by rw[xaM,xaM,k.olen]
  slen:=by rw[xaM,xaM,k.slen]}
theorem CV (b : P.bd a) (e : H a = some o) (nf : ¬ Fx o) : Lt P H P (upd H a o') := ⟨xag _,fun _ _=>rfl,fun _ z=>.inl z,fun c u ec z=>by
  by_cases h:c=a
  ·subst h;rw[e]at ec;cases ec;exact(z.elim nf fun n=>n b).elim
  ·rw[dD h];exact ec,fun c z=>by
  by_cases h:c=a
  ·subst h;rw[fP]at z;cases z
  ·rw[dD h]at z;exact z⟩
theorem Pg:¬ Fx (.lst vs):=fun z=>by rcases z with⟨_,z⟩ |⟨_,_,z⟩ |⟨_,z⟩ |⟨_,z⟩<;>cases z
theorem zf7:¬ Fx (.ins C dx gs):=fun z=>by rcases z with⟨_,z⟩ |⟨_,_,z⟩ |⟨_,z⟩ |⟨_,z⟩<;>cases z
theorem BP.lt (l:Lt P H P' H')(e:∀o,H a=some o->H' a=some o)(h:BP K mg P H a c):BP K mg P' H' a c:=by
  cases c with
  |lst ds=>
    obtain⟨vs,e1,q⟩:=h;exact⟨vs,e _ e1,aH.lt l q⟩
  |obj c fs=>
    obtain⟨C,dx,gs,e1,e2,e3,q⟩:=h;exact⟨C,dx,gs,e1,e _ e2,e3,aH.lt l q⟩
  |dct kvs=>
    obtain⟨vs,e1,e2,q⟩:=h;exact⟨vs,e _ e1,e2,aH.lt l q⟩
  |dcf kvs=>
    obtain⟨vs,ob,es,ep,e1,eD,e2,q⟩:=h;exact⟨vs,ob,es,ep,e _ e1,eD,e2,aH.lt l q⟩
  |fn i caps=>exact nM.up h l.frz fun _ _ q=>aH.lt l q
  |tbl nm i=>exact wF.up h e l.frz
theorem Ok.chg (k:Ok K mg P0 H0 P Os H M st env)(hi:env[i]? =some (.own ds))(ho:Os[i]? =some (some a))(e:H a=some (.lst vs))(h:aH K P H ds' vs'):
    Lt P H P (upd H a (.lst vs'))/\Ok K mg P0 H0 P Os (upd H a (.lst vs')) M st (env.set i (.own ds')):=by
  obtain⟨b1,b2,b3⟩:=k.own a (xax ho);have l:Lt P H P (upd H a (.lst vs')):=CV b1 e Pg;have ilt:i<env.length:=(xak.mp hi).1;refine⟨l,?_⟩;exact {
    hk:=⟨k.hk.n,fun j c ej=>(k.hk.cell j c ej).lt l fun o eo=>by rw[dD (b2 j (by rw[k.hk.n];exact(xak.mp ej).1))];exact eo,k.hk.inj,k.hk.bd,fun c z q=>k.hk.here c z (l.sure c q)⟩
    base := ⟨k.base.n,k.base.io,k.base.bd,k.base.bm,fun c o ec n=>by
      have:=k.base.keep c o ec n;rw[dD (fun z=>by subst z;rw[b3]at ec;cases ec)];exact this,fun c z=>k.base.sure c (l.sure c z),k.base.nw⟩
    b0:=k.b0
    slot:=fun j s ej=>by
      rw[xa2]at ej;split at ej
      · rename_i ij;subst ij;cases ej;obtain⟨a',vs0,e1,e2,e3,q⟩:=k.slot i _ hi;rw[ho]at e1;cases e1;exact⟨a,vs',by rw[ho];rfl,e2,fP,aH.lt l h⟩
      · rename_i ij;have q:=k.slot j s ej
        cases s with
        |un=>exact True.intro
        |val d=>obtain⟨v,e1,q⟩:=q;exact⟨v,e1,Is.lt l q⟩
        |own es=>
          obtain⟨a',ws,e1,e2,e3,q⟩:=q;refine⟨a',ws,e1,e2,?_,aH.lt l q⟩;rw[dD (fun z=>ij (k.inj i j a ho (by rw[<-z];exact CP e1)))];exact e3
        |exc c n=>obtain⟨v,e1,q⟩:=q;exact⟨v,e1,q.lt l⟩
    own:=k.own
    inj:=k.inj
    olen:=by rw[xaM,k.olen]
    slen:=by rw[xaM,k.slen]}
theorem Hk.set (h:Hk K mg P H M)(e:M[j]? =some c)(w:BP K mg P (upd H (P.io j) o') (P.io j) c')(nd:c.fix=false:=by rfl):Lt P H P (upd H (P.io j) o')/\LtE P H P (upd H (P.io j) o')/\Hk K mg P (upd H (P.io j) o') (M.set j c'):=by
 have jl:j<P.n:=by rw[h.n];exact(xak.mp e).1
 obtain ⟨o, eo, nf⟩ := h.cellAt e nd;have l : Lt P H P (upd H (P.io j) o') := CV (h.bd j jl) eo nf;refine ⟨l, ⟨xag _,fun _ _=>rfl,fun _ z=>.inl z,fun _ z=>z,fun a u ea n=>by
  have ne:a≠P.io j:=by
   rintro rfl;rw[eo]at ea;cases ea;exact n.elim nf fun nc=>nc j jl rfl
  rw[dD ne];exact ea,l.sure,fun k h1 h2=>absurd h1 (xdd.mpr h2)⟩,⟨by rw[xaM,h.n],fun k b ek=>?_,h.inj,h.bd,fun a z q=>h.here a z (l.sure a q)⟩⟩
 rw[xa2]at ek;split at ek
 ·rename_i jk;subst jk;rw[xab (by rw[<-h.n];exact jl)]at ek;cases ek;exact w
 ·rename_i jk;have kl:k<P.n:=by rw[h.n];exact(xak.mp ek).1
  exact(h.cell k b ek).lt l fun u eu=>by rw[dD (fun z=>jk (h.inj j k jl kl z.symm))];exact eu
theorem Ok.frz (k:Ok K mg P0 H0 P Os H M st env)(hi:env[i]? =some (.own ds)):∃P' Os',Lt P H P' H/\Ok K mg P0 H0 P' Os' H M st (env.set i (.val (.lst ds))):=by
 obtain⟨a,vs,e1,e2,e3,q⟩:=k.slot i _ hi;have ho:=CP e1;obtain⟨b1,b2,b3⟩:=k.own a (xax ho);have ilt:i<env.length:=(xak.mp hi).1;have nO:∀b,some b∈Os.set i none->some b∈Os/\b≠a:=fun b z=>by
  obtain⟨j,hj⟩:=xc7.mp z;rw[xa2]at hj;split at hj
  ·split at hj<;>cases hj
  ·rename_i ij;exact⟨xax hj,fun z=>by subst z;exact ij (k.inj i j b ho hj)⟩
 have l : Lt P H (P.less (· ≠ a)) H := ⟨xag _, fun _ _ => rfl, fun c z => .inl z.1, fun _ _ e _ => e, fun _ z => z⟩;refine ⟨P.less (· ≠a),Os.set i none,l,{
  hk:=⟨k.hk.n,fun j c ej=>(k.hk.cell j c ej).lt l fun _ z=>z,k.hk.inj,fun j hj=>⟨k.hk.bd j hj,b2 j hj⟩,fun c z=>k.hk.here c z.1⟩
  base:=⟨k.base.n,k.base.io,fun c z=>k.base.bd c z.1,fun c z=>⟨k.base.bm c z,fun q=>k.b0 c z (q ▸ b3)⟩,k.base.keep,k.base.sure,k.base.nw⟩
  b0:=k.b0
  slot:=fun j s ej=>?_
  own:=fun c z=>?_
  inj:=fun j l b z1 z2=>?_
  olen:=by rw[xaM,xaM,k.olen]
  slen:=by rw[xaM,k.slen]}⟩
 ·rw[GX _ _ _ _ (by rw[k.olen];exact ilt)];rw[xa2]at ej;split at ej
  ·rename_i ij;subst ij;cases ej;exact⟨.ref a,e2,a,vs,rfl,.inl ⟨fun z=>z.2 rfl,.inl e3⟩,aH.less q⟩
  ·rename_i ij;rw[xah ij];have q:=k.slot j s ej
   cases s with
   |un=>exact True.intro
   |val d=>obtain⟨v,e1,q⟩:=q;exact⟨v,e1,Is.less q⟩
   |own es=>obtain⟨a',ws,e1,e2,e3,q⟩:=q;exact⟨a',ws,e1,e2,e3,aH.less q⟩
   |exc c n=>obtain⟨v,e1,q⟩:=q;exact⟨v,e1,q.lt l⟩
 ·obtain⟨z1,z2⟩:=nO c z;obtain⟨c1,c2,c3⟩:=k.own c z1;exact⟨⟨c1,z2⟩,c2,c3⟩
 ·rw[xa2]at z1 z2;split at z1
  ·split at z1<;>cases z1
  ·split at z2
   ·split at z2<;>cases z2
   ·exact k.inj j l b z1 z2
end
section
variable {X:Cx}{Wx:XW}{pos:Pos}
theorem tR (h:PS X s t)(w:∀D σ H,t' D σ H->t D σ H):PS X s t':=fun pins s σ H D I hw=>h pins s σ H D I (w D σ H hw)
theorem QW (h:nQ X s t)(w:∀D σ H,t' D σ H->t D σ H):nQ X s t':=fun pins s σ H D I hw=>h pins s σ H D I (w D σ H hw)
def au:S:=fun env M=>some (.nx env,M)
noncomputable def aq (f g:S):S:=fun env M=>match f env M with
 |some (.nx e,M1)=>g e M1
 |o=>o
theorem aJ:SB X Wx [] au:=by
 refine QW zd7 ?_;rintro D st H ⟨P0,H0,P,Os,env,M,out,M',k,e,q⟩;cases e;exact q P Os H st (Lt.refl P H) k
theorem Post.lt {K:Fgx}{mg:Mgx}{P0 P P1:Pl}{H0 H H1:Hp}{M':Mm}{D:Ends}{o:Out}(l:Lt P H P1 H1)(q:Post K mg Wx P0 H0 P H M' D o):Post K mg Wx P0 H0 P1 H1 M' D o:=by
 cases o with
 |nx env=>exact fun P' Os' H' st' l' k=>q P' Os' H' st' (l.trans l') k
 |bk env=>exact fun P' Os' H' st' l' k=>q P' Os' H' st' (l.trans l') k
 |ct env=>exact fun P' Os' H' st' l' k=>q P' Os' H' st' (l.trans l') k
 |rt d=>exact q
 |ex c n=>exact q
theorem aD (h1:SS X Wx s f)(h2:SB X Wx ss g):SB X Wx (s::ss) (aq f g):=by
  refine QW (zdm h1 h2) ?_;rintro D st H ⟨P0,H0,P,Os,env,M,out,M',k,e,q⟩;unfold aq at e;split at e
  · rename_i e1 M1 ef;refine⟨P0,H0,P,Os,env,M,_,_,k,ef,fun P1 Os1 H1 st1 l1 k1=>?_⟩;exact⟨P0,H0,P1,Os1,e1,M1,_,_,k1,e,q.lt l1⟩
  · rename_i o ho
    cases ef:f env M with
    |none=>rw[ef]at e;cases e
    |some om=>
      obtain⟨o1,M1⟩:=om;rw[ef]at e;cases e;refine⟨P0,H0,P,Os,env,M,_,_,k,ef,?_⟩
      cases out with
      |nx env'=>exact(ho _ _ ef).elim
      |bk env'=>exact q
      |ct env'=>exact q
      |rt d=>exact q
      |ex c n=>exact q
noncomputable def aU (i:Nat) (f:E):S:=fun env M=>gk (f env M) fun d M1=>if i<env.length then some (.nx (env.set i (.val d)),M1) else none
theorem fj (hN:X.N.Nodup)(hi:X.N[i]? =some x)(hx:Loc X.env.scope x)(he:SE X Wx .val e f)(hs:swapsWith e (some (.Name x pos')) pos.line X.env=pure false:=by rfl)
  (hf:X.fn x=true\/X.env.scope.names.lookup x=some .local:=by first |exact .inl rfl |exact .inr rfl):SS X Wx (.Assign [.Name x pos'] e pos) (aU i f):=by
 refine tR (WT hN hi hx he hs hf) ?_;rintro D st H ⟨P0,H0,P,Os,env,M,out,M',k,e,q⟩;unfold aU at e;rcases sV e with⟨d,M1,e1,e⟩ |⟨c,n,e1,rfl⟩
 ·split at e
  ·rename_i hl;cases e;exact⟨P0,H0,P,Os,env,M,_,_,k,e1,fun P1 v1 H1 l1 h1 i1=>q _ _ _ _ (l1.lt k.hk) ((k.next l1 h1).asg hl i1)⟩
  ·cases e
 ·exact⟨P0,H0,P,Os,env,M,_,_,k,e1,q⟩
noncomputable def JW (i:Nat) (f:E):S:=fun env M=>gk (f env M) fun d M1=>match d with
 |.lst ds=>if i<env.length then some (.nx (env.set i (.own ds)),M1) else none
 |_=>none
theorem zei (hN:X.N.Nodup)(hi:X.N[i]? =some x)(hx:Loc X.env.scope x)(he:SN X Wx e f)(hs:swapsWith e (some (.Name x pos')) pos.line X.env=pure false:=by rfl)
  (hf:X.fn x=true\/X.env.scope.names.lookup x=some .local:=by first |exact .inl rfl |exact .inr rfl):SS X Wx (.Assign [.Name x pos'] e pos) (JW i f):=by
 refine tR (WT hN hi hx he hs hf) ?_;rintro D st H ⟨P0,H0,P,Os,env,M,out,M',k,e,q⟩;unfold JW at e;rcases sV e with⟨d,M1,e1,e⟩ |⟨c,n,e1,rfl⟩
 ·cases d<;>simp only[reduceCtorEq]at e
  rename_i ds;split at e
  ·rename_i hl;cases e;exact⟨P0,H0,P,Os,env,M,_,_,k,e1,ds,rfl,fun P1 a vs H1 l1 h1 ha ba nc ea is=>q _ _ _ _ (l1.lt k.hk) (k.mine l1 h1 hl ha ba nc ea is)⟩
  ·cases e
 ·exact⟨P0,H0,P,Os,env,M,_,_,k,e1,q⟩
def aG (f:E):S:=fun env M=>gk (f env M) fun d M1=>some (.rt d,M1)
theorem aR (he:SE X Wx .val e f):SS X Wx (.Return (some e) pos) (aG f):=by
 refine tR (zfE he) ?_;rintro D st H ⟨P0,H0,P,Os,env,M,out,M',k,e,q⟩;unfold aG at e;rcases sV e with⟨d,M1,e1,e⟩ |⟨c,n,e1,rfl⟩
 ·cases e;exact⟨P0,H0,P,Os,env,M,_,_,k,e1,fun P1 v1 H1 l1 h1 i1=>q P1 v1 H1 (k.base.trans l1) h1 i1⟩
 ·exact⟨P0,H0,P,Os,env,M,_,_,k,e1,q⟩
noncomputable def wj (f:E):S:=fun env M=>gk (f env M) fun _ M1=>some (.nx env,M1)
theorem Bt (he:SE X Wx .bor e f)(hs:swapsWith e none pos.line X.env=pure false:=by rfl):SS X Wx (.Expr e pos) (wj f):=by
 refine tR (QV he hs) ?_;rintro D st H ⟨P0,H0,P,Os,env,M,out,M',k,e,q⟩;unfold wj at e;rcases sV e with⟨d,M1,e1,e⟩ |⟨c,n,e1,rfl⟩
 ·cases e;exact⟨P0,H0,P,Os,env,M,_,_,k,e1,fun P1 v1 H1 l1 h1 i1=>q _ _ _ _ (l1.lt k.hk) (k.next l1 h1)⟩
 ·exact⟨P0,H0,P,Os,env,M,_,_,k,e1,q⟩
noncomputable def dR (c:E) (f g:S):S:=fun env M=>gk (c env M) fun d M1=>match d with
 |.bl b=>if b=true then f env M1 else g env M1
 |_=>none
theorem dX (hc:ST X Wx c t)(ha:SB X Wx a f)(hb:SB X Wx b g):SS X Wx (.If c a b pos) (dR t f g):=by
  refine tR (zir hc ha hb) ?_;rintro D st H ⟨P0,H0,P,Os,env,M,out,M',k,e,q⟩;unfold dR at e;rcases sV e with⟨d,M1,e1,e⟩ |⟨c,n,e1,rfl⟩
  · cases d<;>simp only[reduceCtorEq]at e
    rename_i b;refine pA k e1 ⟨b,rfl,fun P1 H1 l1 h1=>?_⟩
    cases b with
    |true=>
      rw[xab rfl]at e ⊢;exact⟨P0,H0,P1,Os,env,M1,_,_,k.next l1 h1,e,q.lt (l1.lt k.hk)⟩
    |false=>
      rw[xah (by decide)]at e ⊢;exact⟨P0,H0,P1,Os,env,M1,_,_,k.next l1 h1,e,q.lt (l1.lt k.hk)⟩
  · exact pA k e1 q
noncomputable def xG (i:Nat):S:=fun env M=>match env[i]? with
 |some (.own ds)=>some (.nx (env.set i (.val (.lst ds))),M)
 |_=>none
theorem zfN (h:SB X Wx ss g):SB X Wx ss (aq (xG i) g):=by
 refine QW h ?_;rintro D st H ⟨P0,H0,P,Os,env,M,out,M',k,e,q⟩;unfold aq xG at e;split at e
 ·rename_i e1 M1 ef;split at ef
  ·rename_i ds es;cases ef;obtain⟨P1,Os1,l1,k1⟩:=k.frz es;exact⟨P0,H0,P1,Os1,_,_,_,_,k1,e,q.lt l1⟩
  ·cases ef
 ·rename_i ho;split at e
  ·rename_i es;exact(ho _ _ (by rw[es])).elim
  ·cases e
noncomputable def xu (i:Nat) (f:E):S:=fun env M=>match env[i]? with
 |some (.own ds)=>gk (f env M) fun d M1=>if ds.length<sizeLine then some (.nx (env.set i (.own (ds ++ [d]))),M1) else none
 |_=>none
theorem zfF (hN:X.N[i]? =some x)(hv:Du X.env.scope x)(he:SE X Wx .val e f)(hd:(x==("__debug__":Str))=false:=by x_go)(hcd:(x==("__classdict__":Str))=false:=by x_go)
  (hfew:((backTo q (starEach [e] X.env)).all (fun x=> !x.1) && (backToKw q (keywordEach [] X.env)).all (fun x=>x.1.isSome) && decide ([e].length + ([]:List Keyword).length + (if ([]:List Keyword).isEmpty then 0 else 1)<30))=true:=by rfl)
  (hline:(p.endLine==q.line)=true:=by rfl) (hs:starEach [e] X.env=(false,eval e X.env)::starEach [] X.env:=by rfl) (hw:swapsWith (.Call (.Attribute (.Name x p0) "append" p) [e] [] q) none pos.line X.env=pure false:=by rfl):
  SS X Wx (.Expr (.Call (.Attribute (.Name x p0) "append" p) [e] [] q) pos) (xu i f):=by
 refine tR (QV (QL xcg xcY xcZ O5 (QT hN hv hd hcd) (wZ he Bf hs) rfl hfew hline hs rfl) hw) ?_;rintro D st H ⟨P0,H0,P,Os,env,M,out,M',k,e,q⟩;unfold xu at e;split at e
 ·rename_i ds es;obtain⟨a,vs,o1,o2,o3,o4⟩:=k.slot i _ es;refine⟨.ref a,CP o2,.inl ⟨rfl,vs,.inl (.inl o3)⟩,?_⟩;rcases sV e with⟨d,M1,e1,e⟩ |⟨c,n,e1,rfl⟩
  ·split at e
   ·rename_i hz;cases e;refine dO k e1 fun P1 v1 H1 l1 h1 i1=>?_;have k1:=k.next l1 h1
    obtain⟨a',vs',o1',o2',o3',o4'⟩:=k1.slot i _ es;have ea:a'=a:=by
     have z:=o2'.symm.trans o2;cases z;rfl
    subst ea;refine⟨a',vs',v1,rfl,rfl,o3',by rw[o4'.len];exact hz,?_⟩;obtain⟨l2,k2⟩:=k1.chg es (CP o1') o3' (aH.append o4' (aH.one i1));exact q _ _ _ _ ((l1.lt k.hk).trans l2) k2
   ·cases e
  ·exact dO k e1 q
 ·cases e
def Wk (K:Fgx)(P1:Pl)(H1:Hp)(J:It)(ds:List D):Prop:=∀P H,Lt P1 H1 P H->(∀k,k<ds.length->J.go k H)/\(∀k,ds.length<=k->k<=ds.length->J.stop k H)/\∀k x H',J.yld k H x H'->k<ds.length->H'=H/\∃d,ds[k]? =some d/\Is K P H d x
noncomputable def IQ (K:Fgx) (mg:Mgx) (Wx:XW) (P0:Pl) (H0:Hp) (P:Pl) (H:Hp) (M':Mm) (R:It->Hp->Prop):ResA->Prop
 |.v ds=>∀P' H' J,LtE P H P' H'->Hk K mg P' H' M'->Wk K P' H' J ds->R J H'
 |.x c n=>Wx P0 H0 M' c n
noncomputable def tI (K:Fgx) (mg:Mgx) (Wx:XW) (fs:EA):TI:=fun st H R=>∃P0 H0 P Os env M r M',Ok K mg P0 H0 P Os H M st env/\fs env M=some (r,M')/\IQ K mg Wx P0 H0 P H M' R r
def SI (X:Cx)(Wx:XW)(tg iter:Expr)(fs:EA):Prop:=PI X tg iter (tI X.K X.mg Wx fs)
theorem JG (h:PI X tg iter t)(w:∀σ H R,t' σ H R->t σ H R):PI X tg iter t':=fun pins s σ H R I hw=>h pins s σ H R I (w σ H R hw)
noncomputable def loopS (i:Nat) (body:S):List D->Env->Mm->OS
  | [],env,M=>some (.nx env,M)
  | d :: ds, env, M => if i < env.length then (match body (env.set i (.val d)) M with
    |some (.nx e,M1)=>loopS i body ds e M1
    |some (.ct e,M1)=>loopS i body ds e M1
    |some (.bk e,M1)=>some (.nx e,M1)
    |some (.rt d,M1)=>some (.rt d,M1)
    |some (.ex c n,M1)=>some (.ex c n,M1)
    |none=>none) else none
noncomputable def j5 (i:Nat) (fs:EA) (body:S):S:=fun env M=>match fs env M with
 |some (.v ds,M1)=>loopS i body ds env M1
 |some (.x c n,M1)=>some (.ex c n,M1)
 |none=>none
theorem zcE {K:Fgx}{mg:Mgx}{P0 P1:Pl}{H0 H1:Hp}{Os:List (Option Addr)}{M M':Mm}{st:L2.St}{env:Env}{i:Nat}{b:S}{J:It}{ds:List D}{out:Out}{D:Ends}(k:Ok K mg P0 H0 P1 Os H1 M st env)(wk:Wk K P1 H1 J ds)
  (h:loopS i b ds env M=some (out,M')) (q:Post K mg Wx P0 H0 P1 H1 M' D out):
  ∃W:Nat->Nat->L2.St->Hp->Prop,(∃m,W 0 m st H1)/\∀j m σ H,W j m σ H->
   (J.stop j H/\D.nx σ H)\/(J.go j H/\∃Nn:L2.St->Hp->Prop,(∀σ' H',Nn σ' H'->∃m',m'<m/\W (j + 1) m' σ' H')/\∀x H',J.yld j H x H'->N8 i x σ H' fun σ2 H2=>tS K mg Wx b {D with nx:=Nn,ct:=Nn,bk:=D.nx} σ2 H2):=by
 refine⟨fun j m σ H=>m=ds.length - j/\j<=ds.length/\∃P Os' M1 env',Lt P1 H1 P H/\Ok K mg P0 H0 P Os' H M1 σ env'/\loopS i b (ds.drop j) env' M1=some (out,M'),⟨ds.length,by simp,xci _,P1,Os,M,env,Lt.refl _ _,k,h⟩,?_⟩;rintro j m σ H ⟨rfl,hj,P,Os',M1,env',lt,k',h'⟩;obtain⟨w1,w2,w3⟩:=wk P H lt
 by_cases hlt:j<ds.length
 ·refine .inr ⟨w1 j hlt,fun σ' H'=>∃P Os' M1 env',Lt P1 H1 P H'/\Ok K mg P0 H0 P Os' H' M1 σ' env'/\loopS i b (ds.drop (j + 1)) env' M1=some (out,M'),fun σ' H' z=>⟨ds.length - (j + 1),by omega,rfl,hlt,z⟩,fun x H' y=>?_⟩;obtain⟨e3,d,ed,iv⟩:=w3 j x H' y hlt;subst e3;have ed':ds.drop j=d::ds.drop (j + 1):=by
   rw[xbz hlt];rw[xai hlt]at ed;rw[xau ed]
  rw[ed']at h';simp only[loopS]at h';split at h'
  ·rename_i hi;have k2:=k'.asg hi iv;split at h'
   ·rename_i e M2 eb;exact⟨P0,H0,P,_,_,M1,_,_,k2,eb,fun P' Os2 H2 st2 l2 k3=>⟨P',Os2,_,e,lt.trans l2,k3,h'⟩⟩
   ·rename_i e M2 eb;exact⟨P0,H0,P,_,_,M1,_,_,k2,eb,fun P' Os2 H2 st2 l2 k3=>⟨P',Os2,_,e,lt.trans l2,k3,h'⟩⟩
   ·rename_i e M2 eb;cases h';exact⟨P0,H0,P,_,_,M1,_,_,k2,eb,fun P' Os2 H2 st2 l2 k3=>q P' Os2 H2 st2 (lt.trans l2) k3⟩
   ·rename_i e M2 eb;cases h';exact⟨P0,H0,P,_,_,M1,_,_,k2,eb,q⟩
   ·rename_i c n M2 eb;cases h';exact⟨P0,H0,P,_,_,M1,_,_,k2,eb,q⟩
   ·cases h'
  ·cases h'
 ·have ej:j=ds.length:=by omega
  subst ej;rw[xcn]at h';cases h';exact .inl ⟨w2 _ (xag _) (xag _),q P Os' H σ lt k'⟩
theorem zV (hp:PassesOwn (model X.prog X.w) X.A X.env X.xe)(hc:X.calm=true)(hN:X.N.Nodup)(hi:X.N[i]? =some x)(hx:Loc X.env.scope x)(hI:SI X Wx (.Name x p) iter fs)(hb:SB X Wx body b)
  (hf:X.fn x=true\/X.env.scope.names.lookup x=some .local:=by first |exact .inl rfl |exact .inr rfl) (hs:∀x,foldedSetIterable iter X.env x=pure x:=by intro _;rfl):SS X Wx (.For (.Name x p) iter body [] pos) (j5 i fs b):=by
 refine tR (zgb hp hc hI (zeG hN hi hx hf) hb hs) ?_;rintro D st H ⟨P0,H0,P,Os,env,M,out,M',k,e,q⟩;unfold j5 at e;split at e
 ·rename_i ds M1 ef;exact⟨P0,H0,P,Os,env,M,_,_,k,ef,fun P1 H1 J l1 h1 wk=>zcE (k.next l1 h1) wk e (q.lt (l1.lt k.hk))⟩
 ·rename_i c n M1 ef;cases e;exact⟨P0,H0,P,Os,env,M,_,_,k,ef,q⟩
 ·cases e
noncomputable def tu (f:E):EA:=fun env M=>match f env M with
 |some (.v (.lst ds),M1)=>some (.v ds,M1)
 |some (.x c n,M1)=>some (.x c n,M1)
 |_=>none
theorem Zf (h:SE X Wx .val e f):SI X Wx tg e (tu f):=by
 refine JG (zeM h) ?_;rintro st H R ⟨P0,H0,P,Os,env,M,r,M',k,e,q⟩;unfold tu at e;split at e
 ·rename_i ds M1 ef;cases e;refine⟨P0,H0,P,Os,env,M,_,_,k,ef,fun P1 v1 H1 l1 h1 i1=>?_⟩;obtain⟨a,vs,rfl,ra,is⟩:=i1;refine⟨a,rfl,⟨vs,ra.imp (·.2) id⟩,q P1 H1 _ l1 h1 fun P2 H2 l2=>?_⟩;have ra2:=l2.rda ra;have is2:=aH.lt l2 is;have sq:fW X.K H2 a vs:=ra2.imp (·.2) id;refine⟨fun j hj=>?_,fun j h1 h2=>⟨vs,sq,by rw[is2.len];exact h1⟩,fun j x H' y hj=>⟨y.1,?_⟩⟩
  ·obtain⟨v,ev,_⟩:=aH.get is2 (xai hj);exact⟨vs,v,sq,ev⟩
  ·obtain⟨v,ev,iv⟩:=aH.get is2 (xai hj);have:=y.2 vs sq;rw[ev]at this;cases this;exact⟨_,xai hj,iv⟩
 ·rename_i c n M1 ef;cases e;exact⟨P0,H0,P,Os,env,M,_,_,k,ef,q⟩
 ·cases e
end
abbrev G:=List D->Mm->O
noncomputable def t_ (K:Fgx) (mg:Mgx) (n:Nat) (g:G):Sp:=fun vs H Q _=>vs.length=n/\∃P M ds d M',Hk K mg P H M/\aH K P H ds vs/\g ds M=some (.v d,M')/\∀P' v H',LtE P H P' H'->Hk K mg P' H' M'->Is K P' H' d v->Q v H'
noncomputable def eO (o:OS):O:=match o with
 |some (.rt d,M)=>some (.v d,M)
 |some (.nx _,M)=>some (.v .non,M)
 |some (.ex c n,M)=>some (.x c n,M)
 |_=>none
noncomputable def aV (n:Nat) (b:S):G:=fun ds M=>eO (b (ds.map .val ++ List.replicate (n - ds.length) .un) M)
theorem Sx {K:Fgx}{mg:Mgx}{P:Pl}{H:Hp}{M:Mm}{N:List Str}{ds:List D}{vs:List V}(hk:Hk K mg P H M)(hl:vs.length<=N.length)(h:aH K P H ds vs):
  Ok K mg P H P (List.replicate N.length none) H M (L2.start N vs) (ds.map .val ++ List.replicate (N.length - ds.length) .un):=by
 have hd:=h.len;refine⟨hk,LtE.refl P H,hk.here,fun i s e=>?_,fun a z=>?_,fun i j a e1 _=>?_,by simp;omega,by simp[L2.start];omega⟩
 ·have e0:((List.replicate N.length (none:Option Addr))[i]?).join=none:=by
   rw[xaU]
   split<;>rfl
  rw[e0]
  by_cases hi:i<ds.length
  ·rw[xaB (by simpa using hi),xam,xai hi]at e;simp only[xba,xcP]at e;subst e;obtain⟨v,ev,p⟩:=h.get (xai hi);refine⟨v,?_,p⟩;unfold L2.start;rw[xaB (by rw[xao];omega),xam,ev];rfl
  ·rw[xaC (by simpa using hi),xaU]at e;split at e
   ·cases e;exact True.intro
   ·cases e
 ·exact absurd (xc1 z) (by simp)
 ·rw[xaU]at e1;split at e1<;>cases e1
structure FunD (K:Fgx)(x qual:Str)(st:Stmt)(f:Addr)(fd:FuncData):Prop where
 ex:∃(oc:Value) (od:Option Addr) (dV kV doc pm:Value) (an:Option Addr) (cdv ct:Value) (osl:Array (Option Value)),
  fd=PySem.W.fnOf x qual (dG st) (aZ st) (aF st) dV kV doc pm an cdv ct/\K.lookup f=some ⟨oc,od,.func fd,osl⟩/\PySem.W.codeIn K cdv qual=true
 kp:PySem.W.keepIn K (.ref f)=true
theorem eY {K:Fgx}{x qual:Str}{st:Stmt}{f:Addr}{oc:Value}{od an:Option Addr}{osl:Array (Option Value)}{dV kV doc pm cdv ct:Value}(l:K.lookup f=some ⟨oc,od,.func (PySem.W.fnOf x qual (dG st) (aZ st) (aF st) dV kV doc pm an cdv ct),osl⟩)
  (c:PySem.W.codeIn K cdv qual=true) (k:PySem.W.keepIn K (.ref f)=true):FunD K x qual st f (PySem.W.fnOf x qual (dG st) (aZ st) (aF st) dV kV doc pm an cdv ct):=⟨⟨oc,od,dV,kV,doc,pm,an,cdv,ct,osl,rfl,l,c⟩,k⟩
section
variable {P:Program}{w:World}{K:Fgx}{mg:Mgx}{base:Heap}{k:Nat}{x qual:Str}{st:Stmt}{f:Addr}{fd:FuncData}{N ps:List Str}{b:S}
def W0:XW:=fun _ _ _ _ _=>False
abbrev wO (P:Program)(w:World)(K:Fgx)(mg:Mgx)(base:Heap)(N:List Str)(qual:Str)(st:Stmt)(f:Addr)(cdv:Value)(A:Around)(outer:List PySem.Env)(s:Shared)(H:Hp)(E:XK):Cx:=(gA lK P w K mg base N qual (aF st) f cdv A outer s H E).nox
theorem fJ (F:FunD K x qual st f fd)(S:FnScope N ps (aF st))(hp:ps.length<=N.length)
  (hb:∀cdv A outer s H E,Room k (A.deeper (envOfC qual (aF st) s.heap.objs.size f cdv))->SB (wO P w K mg base N qual st f cdv A outer s H E) W0 (aZ st) b):FnOk P w K mg base lK (k + 1) f fd ps (t_ K mg ps.length (aV N.length b)):=by
 obtain⟨oc,od,dV,kV,doc,pm,an,cdv,ct,osl,rfl,lk,hcd⟩:=F.ex;refine Vr lk hcd S (fun vs H Q E h=>h.1) fun A outer s H vs Q E hr h=>?_;obtain⟨hl,Pl,M,ds,d,M',hk,is,e,q⟩:=h;refine⟨_,nQ.nox (hb cdv A outer s H E hr),?_⟩;unfold aV eO at e;have st0:=Sx (N:=N) hk (by omega) is;split at e
 ·rename_i d' M2 eb;cases e;exact⟨Pl,H,Pl,_,_,M,_,_,st0,eb,fun P' v H' l h i=>q P' v H' l h i⟩
 ·rename_i env M2 eb;cases e;exact⟨Pl,H,Pl,_,_,M,_,_,st0,eb,fun P' Os' H' st' _ k'=>q P' .non H' k'.base k'.hk rfl⟩
 ·rename_i c n M2 eb;cases e
 ·cases e
def aY (P:Program)(w:World)(K:Fgx)(mg:Mgx)(base:Heap)(k:Nat)(f:Str)(n:Nat)(g:G):Prop:=
 ∃fa fd ps ds dvs sp,mg f=some (.ref fa)/\PySem.W.keepIn K (.ref fa)=true/\FnOk P w K mg base lK k fa fd ps sp/\Binds K fd ps ds/\Vals dvs ds/\∀vs H Q E,t_ K mg n g vs H Q E->sp (vs ++ dvs) H Q E
theorem zih (F:FunD K x qual st f fd)(S:FnScope N ps (aF st))(hp:ps.length<=N.length)(hm:mg x=some (.ref f))(hd:Binds K fd ps [])
  (hb:∀cdv A outer s H E,Room k (A.deeper (envOfC qual (aF st) s.heap.objs.size f cdv))->SB (wO P w K mg base N qual st f cdv A outer s H E) W0 (aZ st) b):aY P w K mg base (k + 1) x ps.length (aV N.length b):=
 ⟨f,fd,ps,[],[],_,hm,F.kp,fJ F S hp hb,hd,.nil,fun vs H Q E h=>by rw[xaV];exact h⟩
theorem aY.mono (a:aY P w K mg base j x n g)(h:j<=k):aY P w K mg base k x n g:=by
 obtain⟨fa,fd,ps,ds,dvs,sp,h1,h2,h3,h4⟩:=a;exact⟨fa,fd,ps,ds,dvs,sp,h1,h2,h3.mono h,h4⟩
end
section
variable {X:Cx}{Wx:XW}{m:Mode}
noncomputable def dW (g:G) (fs:EA):E:=fun env M=>gj (fs env M) fun ds M1=>match g ds M1 with
 |some (.v d,M2)=>some (.v d,M2)
 |_=>none
theorem gb.len {K:Fgx}{P:Pl}{H:Hp}:∀{ds:List D} {vs:List V},gb K P H m ds vs->vs.length=ds.length
  | [],_,h=>by rw[show _=[] from h];rfl
  |d::ds,_,h=>by
    obtain⟨v,r,e,_,q⟩:=h;subst e
    simp[gb.len q]
def u5 (n:Nat)(fs:EA):Prop:=∀env M ds M',fs env M=some (.v ds,M')->ds.length=n
theorem cnt_nil:u5 0 ao:=fun env M ds M' e=>by cases e;rfl
theorem cnt_cons (h:u5 n fs):u5 (n + 1) (aA f fs):=fun env M ds M' e=>by
 unfold aA at e;split at e
 ·split at e
  ·rename_i ef;cases e;rw[xar,h _ _ _ _ ef]
  ·cases e
  ·cases e
 ·cases e
 ·cases e
theorem eZ {k n:Nat}{f:Str}{g:G}{e:Expr}{es:List Expr}{fs:EA}{p pos:Pos}(a:aY X.prog X.w X.K X.mg X.base k f n g)(hr:Room k X.A)(hg:Gl X f)(ha:SA X Wx .val (e::es) fs)(hn:u5 n fs)(hdb:(f==("__debug__":Str))=false:=by x_go)
  (he:starEach (e::es) X.env=(false,eval e X.env)::starEach es X.env:=by rfl) (hpl:(backTo pos (starEach es X.env)).any (·.1)=false:=by rfl):SE X Wx m (.Call (.Name f p) (e::es) [] pos) (dW g fs):=by
 obtain⟨fa,fd,ps,ds,dvs,sp,hm,hk,F,hb,hv,himp⟩:=a;refine fO (zey F hr hg hm hk hb hv Gf ha hdb he hpl) ?_;rintro st H Q ⟨P0,H0,P,Os,env,M,r,M',k,e,q⟩;unfold dW at e;rcases sU e with⟨ds,M1,e1,e⟩ |⟨c,n,e1,rfl⟩
 ·split at e
  ·rename_i d M2 eg;cases e;exact⟨P0,H0,P,Os,env,M,_,_,k,e1,fun P1 vs H1 l1 h1 i1=>himp _ _ _ _ ⟨by rw[i1.len];exact hn _ _ _ _ e1,P1,M1,ds,d,_,h1,i1.iss,eg,fun P2 v H2 l2 h2 i2=>q P2 v H2 (l1.trans l2) h2 (fV.of h2 i2)⟩⟩
  ·cases e
 ·exact⟨P0,H0,P,Os,env,M,_,_,k,e1,q⟩
end
def Dr (i j:Int):Prop:=wC i j\/(i.natAbs.log2<10000/\j.natAbs.log2<10000)
theorem Ut (h:i.natAbs.log2<10000):Builtin.Int.intBits i<=10001:=by
 unfold Builtin.Int.intBits
 split<;>omega
theorem Dr.ok (h:Dr i j):IntMulOk i j:=by
 rcases h with h |⟨h1,h2⟩
 ·exact h.ok
 ·exact mulOk_of_bits (Ut h1) (Ut h2) (by decide)
theorem yF:eX X (binaryOp .Mult) (rI Dr fun i j=>.int (i * j)):=JD fun _ _ _ _ _ _ _ hc q=>mul_int q hc.ok
section
variable {X:Cx}{pins:Pnx}{σ:L2.St}{H:Hp}{s:Shared}{K:Fgx}
noncomputable def W4 (K:Fgx):R2:=fun x y H Q=>∃l b xs zs,x=.ref l/\y=.ref b/\fW K H l xs/\fW K H b zs/\xs.length + zs.length<=sizeLine/\∀p,H p=none->Q (.ref p) (upd H p (.lst (xs ++ zs)))
theorem zdH:eX X (binaryOp .Add) (W4 X.K):=by
 intro pins s σ H x y v u Q I rx ry h;obtain⟨l,b,xs,zs,rfl,rfl,hH,hB,hz,q⟩:=h;cases rx;cases ry;obtain⟨z,its,r,⟨cls,dd,data,sl⟩,ho,hc,n,hd⟩:=sql I hH;obtain⟨z2,its2,r2,⟨cls2,dd2,data2,sl2⟩,ho2,hc2,n2,hd2⟩:=sql I hB;simp only at hc hd hc2 hd2;subst hc hd hc2 hd2;have hl:=r.length;have hl2:=r2.length;refine concat_meets ⟨_,ho,rfl⟩ ⟨_,ho2,rfl⟩ noFill_list_add seq_list_add F.slot_list_add F.entry_list_add (F.args_list_add_2 _ _) (list_addW l b its.toArray its2.toArray n n2 dd dd2 sl sl2 (by rw[xae,xae];omega)) ⟨ho,ho2,?_⟩;have ea:its.toArray ++ its2.toArray=(its ++ its2).toArray:=by simp
 rw[ea];exact⟨.ref _,_,I.lnew (t':=s.toks) (r.append r2) (by rw[xat];omega),rfl,q _ I.fresh⟩
theorem Pb {P:Pl}{H:Hp}{ds:List D}{vs:List V}{Q:VK}(hn:∀p,H p=none->¬ P.bd p)(h:aH K P H ds vs)(q:∀u H',Same H H'->Is K P H' (.lst ds) u->Q u H'):∀p,H p=none->Q (.ref p) (upd H p (.lst vs)):=fun p hp=>by
 have s:=tY (o:=.lst vs) hp;exact q _ _ s ⟨p,vs,rfl,.inl ⟨hn p hp,.inl fP⟩,aH.lt ⟨xag _,fun _ _=>rfl,fun _ z=>.inl z,fun a o e _=>s a o e,fun a z=>s.free z⟩ h⟩
theorem Wt {P:Pl}{H:Hp}{ds:List D}{vs:List V}{Q:VK}(h:aH K P H ds vs)(q:∀u H',Same H H'->Is K P H' (.tup ds) u->Q u H'):∀p,H p=none->Q (.ref p) (upd H p (.tup vs)):=fun p hp=>by
 have s:=tY (o:=.tup vs) hp;exact q _ _ s ⟨p,vs,rfl,.inl (.inl fP),aH.lt ⟨xag _,fun _ _=>rfl,fun _ z=>.inl z,fun a o e _=>s a o e,fun a z=>s.free z⟩ h⟩
noncomputable def eV:D->D->Option D
 |.int i,.int j=>some (.int (i + j))
 |.str i,.str j=>if i.length + j.length<=sizeLine then some (.str (i ++ j)) else none
 |.lst xs,.lst ys=>if xs.length + ys.length<=sizeLine then some (.lst (xs ++ ys)) else none
 |_,_=>none
noncomputable def Bg (K:Fgx):R2:=fun x y H Q=>nZ (fun i j=>.int (i + j)) x y H Q\/(∃i j,x=.str i/\y=.str j/\i.length + j.length<=sizeLine/\Q (.str (i ++ j)) H)\/W4 K x y H Q
theorem nq:eX X (binaryOp .Add) (Bg X.K):=zg3.or (zbZ.or zdH)
theorem nu:pH K (Bg K) eV:=fun P H d e z v w Q h h1 h2 hn q=>by
 unfold eV at h;split at h
 ·cases h;cases h1;cases h2;exact .inl ⟨_,_,rfl,rfl,q _ H (Same.refl H) rfl⟩
 ·split at h
  ·rename_i hl;cases h;cases h1;cases h2;exact .inr (.inl ⟨_,_,rfl,rfl,hl,q _ H (Same.refl H) rfl⟩)
  ·cases h
 ·split at h
  ·rename_i hl;cases h;obtain⟨a,vs,rfl,r1,s1⟩:=h1;obtain⟨b,ws,rfl,r2,s2⟩:=h2;exact .inr (.inr ⟨a,b,vs,ws,rfl,rfl,r1,r2,by rw[s1.len,s2.len];exact hl,Pb hn (s1.append s2) q⟩)
  ·cases h
 ·cases h
noncomputable def oI (g:Int->Int->Option D):D->D->Option D
 |.int i,.int j=>g i j
 |_,_=>none
theorem Gd (h:oI g d e=some z)(h1:fL K P H d v)(h2:fL K P H e w):∃i j,v=.int i/\w=.int j/\g i j=some z:=by
 unfold oI at h;split at h
 ·cases h1;cases h2;exact⟨_,_,rfl,rfl,h⟩
 ·cases h
def gO:=oI fun i j=>some (.int (i - j))
theorem tV:pH K (nZ fun i j=>.int (i - j)) gO:=fun P H d e z v w Q h h1 h2 _ q=>by
 obtain⟨i,j,rfl,rfl,h⟩:=Gd h h1 h2;cases h;exact⟨i,j,rfl,rfl,q _ H (Same.refl H) rfl⟩
noncomputable def kZ:=oI fun i j=>if i.natAbs<18446744073709551616\/j.natAbs<18446744073709551616\/(i.natAbs.log2<10000/\j.natAbs.log2<10000) then some (.int (i * j)) else none
theorem yG:pH K (rI Dr fun i j=>.int (i * j)) kZ:=fun P H d e z v w Q h h1 h2 _ q=>by
 obtain⟨i,j,rfl,rfl,h⟩:=Gd h h1 h2;split at h
 ·rename_i hg;cases h;exact⟨i,j,rfl,rfl,by unfold Dr wC;rw[show(2:Int) ^ 64=18446744073709551616 from rfl];exact hg.elim (fun z=>.inl (.inl ⟨by omega,by omega⟩)) (fun z=>z.elim (fun z=>.inl (.inr ⟨by omega,by omega⟩)) .inr),q _ H (Same.refl H) rfl⟩
 ·cases h
noncomputable def nY:=oI fun i j=>if 0<j/\j.natAbs<1073741824 then some (.int (i / j)) else none
theorem su:pH K (rI Dq fun i j=>.int (i / j)) nY:=fun P H d e z v w Q h h1 h2 _ q=>by
 obtain⟨i,j,rfl,rfl,h⟩:=Gd h h1 h2;split at h
 ·rename_i hg;cases h;exact⟨i,j,rfl,rfl,⟨hg.1,by omega⟩,q _ H (Same.refl H) rfl⟩
 ·cases h
def oMod:=oI fun i j=>if 0<j then some (.int (i % j)) else none
theorem gQ:pH K (rI (fun _ j=>0<j) fun i j=>.int (i % j)) oMod:=fun P H d e z v w Q h h1 h2 _ q=>by
 obtain⟨i,j,rfl,rfl,h⟩:=Gd h h1 h2;split at h
 ·rename_i hg;cases h;exact⟨i,j,rfl,rfl,hg,q _ H (Same.refl H) rfl⟩
 ·cases h
noncomputable def gM:=oI fun i j=>if 0<=j/\j.natAbs<=1000000/\i.natAbs<18446744073709551616 then some (.int (i ^ j.toNat)) else none
theorem tU:pH K (rI zY fun i j=>.int (i ^ j.toNat)) gM:=fun P H d e z v w Q h h1 h2 _ q=>by
 obtain⟨i,j,rfl,rfl,h⟩:=Gd h h1 h2;split at h
 ·rename_i hg;cases h;exact⟨i,j,rfl,rfl,by unfold zY;rw[show(2:Nat) ^ 64=18446744073709551616 from rfl];exact⟨hg.1,by omega,hg.2.2⟩,q _ H (Same.refl H) rfl⟩
 ·cases h
def aK (c:Cp)(a b:D):Option D:=(gn c a b).map .bl
theorem QX:pH K (Rh K c) (aK c):=fun P H d e z v w Q h h1 h2 _ q=>by
 unfold aK at h;rw[xac]at h;obtain⟨b,h,rfl⟩:=h;exact zho h h1 h2 (q _ H (Same.refl H) rfl)
noncomputable def aO:D->D->Option D
 |.lst ds,.int i=>gG ds i
 |.tup ds,.int i=>gG ds i
 |.str z,.int i=>if z.length<=sizeLine then(gG z.cps.toList i).map fun c=>.str ⟨#[c]⟩ else none
 |_,_=>none
noncomputable def Ri (K:Fgx):R2:=fun x y H Q=>Bh K x y H Q\/Bk K x y H Q\/Bj x y H Q
theorem zgY:u6 X (Ri X.K):=zdV.or (zgQ.or zgW)
theorem Uk (h:gG ds i=some d)(q:aH K P H ds vs):∃u,gG vs i=some u/\Is K P H d u:=by
 unfold gG at h ⊢;rw[q.len]
 cases e:yw ds.length i with
 |none=>rw[e]at h;cases h
 |some j=>rw[e]at h;exact q.get h
theorem zhU:pH K (Ri K) aO:=fun P H d e z v w Q h h1 h2 _ q=>by
 unfold aO at h;split at h
 ·obtain⟨a,vs,rfl,r,s⟩:=h1;cases h2;obtain⟨u,e,p⟩:=Uk h s;exact .inl ⟨a,vs,_,u,rfl,rfl,r,e,q _ H (Same.refl H) p⟩
 ·obtain⟨a,vs,rfl,r,s⟩:=h1;cases h2;obtain⟨u,e,p⟩:=Uk h s;exact .inr (.inl ⟨a,vs,_,u,rfl,rfl,r,e,q _ H (Same.refl H) p⟩)
 ·split at h
  ·rename_i hl;rw[xac]at h;obtain⟨c,h,e⟩:=h;cases e;cases h1;cases h2;exact .inr (.inr ⟨_,_,c,rfl,rfl,hl,h,q _ H (Same.refl H) rfl⟩)
  ·cases h
 ·cases h
noncomputable def dJ:List D->Option D
 | [.lst ds]=>some (.int ds.length)
 | [.tup ds]=>some (.int ds.length)
 | [.str z]=>if z.length<=sizeLine then some (.int z.length) else none
 |_=>none
def Gn (K:Fgx):List V->Hp->VK->Prop:=fun xs H Q=>(∃p ys,xs=[.ref p]/\(fW K H p ys\/kW K H p ys)/\Q (.int ys.length) H)\/∃z,xs=[.str z]/\z.length<=sizeLine/\Q (.int z.length) H
theorem wM:iB X (.builtin "len") (Gn X.K):=zby.or zbx
theorem xg:rz K (Gn K) dJ:=fun P H ds z vs Q h i _ q=>by
 unfold dJ at h;split at h
 ·obtain⟨v,ws,rfl,p,rfl⟩:=i;cases h;obtain⟨a,us,rfl,r,s⟩:=p;exact .inl ⟨a,us,rfl,.inl r,q _ H (Same.refl H) (by rw[s.len];rfl)⟩
 ·obtain⟨v,ws,rfl,p,rfl⟩:=i;cases h;obtain⟨a,us,rfl,r,s⟩:=p;exact .inl ⟨a,us,rfl,.inr r,q _ H (Same.refl H) (by rw[s.len];rfl)⟩
 ·split at h
  ·rename_i hl;obtain⟨v,ws,rfl,p,rfl⟩:=i;cases h;cases p;exact .inr ⟨_,rfl,hl,q _ H (Same.refl H) rfl⟩
  ·cases h
 ·cases h
noncomputable def lY:List D->Option D
 | [.int i,.int j]=>some (.int (if j<i then j else i))
 |_=>none
noncomputable def m6:List D->Option D
 | [.int i,.int j]=>some (.int (if j > i then j else i))
 |_=>none
theorem Gk:rz K (fun xs H Q=>∃i j,xs=[.int i,.int j]/\Q (.int (if j<i then j else i)) H) lY:=fun P H ds z vs Q h i _ q=>by
 unfold lY at h;split at h
 ·obtain⟨v,ws,rfl,p,v',ws',rfl,p',rfl⟩:=i;cases h;cases p;cases p';exact⟨_,_,rfl,q _ H (Same.refl H) rfl⟩
 ·cases h
theorem JL:rz K (fun xs H Q=>∃i j,xs=[.int i,.int j]/\Q (.int (if j > i then j else i)) H) m6:=fun P H ds z vs Q h i _ q=>by
 unfold m6 at h;split at h
 ·obtain⟨v,ws,rfl,p,v',ws',rfl,p',rfl⟩:=i;cases h;cases p;cases p';exact⟨_,_,rfl,q _ H (Same.refl H) rfl⟩
 ·cases h
end
section
variable {X:Cx}{Wx:XW}{m:Mode}
noncomputable def G_:D->String
 |.non=>"NoneType"
 |.bl _=>"bool"
 |.int _=>"int"
 |.str _=>"str"
 |.tup _=>"tuple"
 |.lst _=>"list"
 |.ref _=>""
theorem zcy:iB X (.builtin "isinstance") (fun xs H Q=>∃(x:V) (T:String) (d:D) (P:Pl) (b:Bool),xs=[x,.ty T]/\fL X.K P H d x/\G_ d≠""/\PySem.W.kitOne X.K (.type (G_ d)) (.type T)=some b/\Q (.bl b) H):=by
  intro pins s σ H xs us Q I r h;obtain⟨x,T,d,A,b,rfl,i,ne,e,q⟩:=h;obtain⟨u,w',rfl,rx,rT⟩:=vals2 r;cases rT;have fin:∀tk,EP X pins σ Q (.bool b) {s with toks:=tk}:=fun tk=>⟨.bl b,H,I.tok _,rfl,q⟩
  cases d with
  |non=>have hv:x=.non:=i;subst hv;exact Fw I rx (TyOf.non) e fin
  |bl y=>have hv:x=.bl y:=i;subst hv;exact Fw I rx (TyOf.bl y) e fin
  |int y=>have hv:x=.int y:=i;subst hv;exact Fw I rx (TyOf.int y) e fin
  |str y=>have hv:x=.str y:=i;subst hv;exact Fw I rx (TyOf.str y) e fin
  |ref n=>exact absurd rfl ne
  |tup ds=>
    obtain⟨a,vs,rfl,t,_⟩:=i;cases rx;obtain⟨its,_,p,_⟩:=I.tuple t;obtain⟨o,h1,h2,_⟩:=p;exact xaL xdr I.kIn ⟨o,h1,h2⟩ e (fun z=>nomatch z) fin
  |lst ds=>
    obtain⟨a,vs,rfl,t,_⟩:=i;cases rx;obtain⟨_,its,_,o,h1,h2,_⟩:=sql I t;exact xaL xcM I.kIn ⟨o,h1,h2⟩ e (fun z=>nomatch z) fin
theorem zdp {K:Fgx}{P:Pl}{H:Hp}{lo:Int}{n:Nat}:Wk K P H (Hl lo n) ((List.range n).map fun(k:Nat)=>.int (lo + k)):=fun P' H' l=>by
 rw[xao,xbn];refine⟨fun k hk=>hk,fun k h1 _=>h1,fun k x H2 y hk=>⟨y.1,.int (lo + k),?_,y.2⟩⟩;rw[xam,xdi hk];rfl
noncomputable def yt (fs:EA):EA:=fun env M=>match fs env M with
 |some (.v [.int j],M1)=>if -1000000000<=j/\j<=1000000000 then some (.v ((List.range j.toNat).map fun(k:Nat)=>.int (0 + k)),M1) else none
 |some (.x c n,M1)=>some (.x c n,M1)
 |_=>none
theorem R7 (hg:Gl X "range")(hm:X.mg "range"=none)(ha:SA X Wx .val [a] fs)(hs:starEach [a] X.env=[(false,eval a X.env)]:=by rfl):SI X Wx tg (.Call (.Name "range" p) [a] [] pos) (yt fs):=by
 refine JG (zcm hg hm ha hs) ?_;rintro st H R ⟨P0,H0,P,Os,env,M,r,M',k,e,q⟩;unfold yt at e;split at e
 ·rename_i j M1 ef;split at e
  ·rename_i hj;cases e;refine⟨P0,H0,P,Os,env,M,_,_,k,ef,fun P1 vs H1 l1 h1 i1=>?_⟩;obtain⟨v,ws,rfl,p,rfl⟩:=i1;exact⟨j,by rw[show v=.int j from p],by omega,by omega,q P1 H1 _ l1 h1 zdp⟩
  ·cases e
 ·rename_i c n M1 ef;cases e;exact⟨P0,H0,P,Os,env,M,_,_,k,ef,q⟩
 ·cases e
def mZ:Env->Mm->Option (Option Int×Mm):=fun _ M=>some (none,M)
noncomputable def mO (f:E):Env->Mm->Option (Option Int×Mm):=fun env M=>match f env M with
 |some (.v (.int i),M1)=>some (some i,M1)
 |_=>none
noncomputable def tP (K:Fgx) (mg:Mgx) (f:Env->Mm->Option (Option Int×Mm)):TO:=fun st H Q=>∃P0 H0 P Os env M i M',Ok K mg P0 H0 P Os H M st env/\f env M=some (i,M')/\∀P' H',LtE P H P' H'->Hk K mg P' H' M'->Q i H'
def BW (X:Cx)(e:Option Expr)(f:Env->Mm->Option (Option Int×Mm)):Prop:=PO X e (tP X.K X.mg f)
theorem WR (h:PO X e t)(w:∀σ H Q,t' σ H Q->t σ H Q):PO X e t':=fun pins s σ H Q I hw=>h pins s σ H Q I (w σ H Q hw)
theorem zU:BW X none mZ:=by
 refine WR zdW ?_;rintro st H Q ⟨P0,H0,P,Os,env,M,i,M',k,e,q⟩;cases e;exact q P H (LtE.refl P H) k.hk
theorem zR (h:SE X Wx .val e f):BW X (some e) (mO f):=by
 refine WR (zex h) ?_;rintro st H Q ⟨P0,H0,P,Os,env,M,i,M',k,e,q⟩;unfold mO at e;split at e
 ·rename_i j M1 ef;cases e;exact⟨P0,H0,P,Os,env,M,_,_,k,ef,fun P1 v H1 l1 h1 i1=>⟨j,i1,q P1 H1 l1 h1⟩⟩
 ·cases e
noncomputable def mq {α:Type} (xs:List α) (lo hi:Option Int):List α:=(xs.drop (HT.dN xs.length 0 lo)).take (HT.dN xs.length xs.length hi - HT.dN xs.length 0 lo)
theorem Vc {K:Fgx}{P:Pl}{H:Hp}{ds:List D}{vs:List V}{lo hi:Option Int}(q:aH K P H ds vs):aH K P H (mq ds lo hi) (mz vs lo hi):=by
 unfold mq mz;rw[q.len];exact(q.drop _).take _
noncomputable def Di (d:D) (lo hi:Option Int):Option D:=match d with
 |.lst ds=>some (.lst (mq ds lo hi))
 |.str z=>if z.length<=sizeLine then some (.str (Txt.slice z lo hi)) else none
 |_=>none
noncomputable def GC (f:E) (l h:Env->Mm->Option (Option Int×Mm)):E:=fun env M=>bnd (f env M) fun d M1=>match l env M1 with
  | some (lo, M2) => (match h env M2 with
    |some (hi,M3)=>(Di (vw M3 d) lo hi).map fun z=>(.v z,M3)
    |none=>none)
  |none=>none
theorem Zb {e:Expr}{lo hi:Option Expr}{p2 pos:Pos}{f:E}{l h:Env->Mm->Option (Option Int×Mm)}(he:SE X Wx .bor e f)(hl:BW X lo l)(hh:BW X hi h):SE X Wx m (.Subscript e (.Slice lo hi none p2) pos) (GC f l h):=by
 refine fO (WQ (zdU.or zgm) he hl hh) ?_;rintro st H Q ⟨P0,H0,P,Os,env,M,r,M',k,e,q⟩;unfold GC at e;rcases fQ e with⟨d,M1,e1,e⟩ |⟨c,n,e1,rfl⟩
 ·split at e
  ·rename_i lo' M2 el;split at e
   ·rename_i hi' M3 eh;rw[xac]at e;obtain⟨z,ez,e⟩:=e;cases e;refine dO k e1 fun P1 v1 H1 l1 h1 i1=>⟨P0,H0,P1,Os,env,M1,_,_,k.next l1 h1,el,fun P2 H2 l2 h2=>⟨P0,H0,P2,Os,env,M2,_,_,(k.next l1 h1).next l2 h2,eh,fun P3 H3 l3 h3=>?_⟩⟩
    have i3:=h_.vw h3 (h_.lt l3 h2 (h_.lt l2 h1 i1));have fin:∀u H',Same H3 H'->Is X.K P3 H' z u->Q u H':=fun u H' s i=>q P3 u H' (l1.trans (l2.trans (l3.trans (LtE.same s)))) (h3.same s) (fV.of (h3.same s) i);generalize vw M' d=d' at i3 ez;unfold Di at ez;split at ez
    ·cases ez;obtain⟨a,vs,rfl,r,s⟩:=i3;exact .inl ⟨a,vs,rfl,r,Pb h3.new (Vc s) fin⟩
    ·split at ez
     ·rename_i hz;cases ez;cases i3;exact .inr ⟨_,rfl,hz,fin _ _ (Same.refl _) rfl⟩
     ·cases ez
    ·cases ez
   ·cases e
  ·cases e
 ·exact dO k e1 q
noncomputable def mQ (f:E):E:=fun env M=>bnd (f env M) fun d M1=>match d with
 |.lst ds=>some (.v (.ref M1.length),M1 ++ [.lst ds])
 |_=>none
theorem zQ (h:SN X Wx e f):SE X Wx m e (mQ f):=by
  refine fO h ?_;rintro st H Q ⟨P0,H0,P,Os,env,M,r,M',k,e,q⟩;unfold mQ at e;rcases fQ e with⟨d,M1,e1,e⟩ |⟨c,n,e1,rfl⟩
  · cases d<;>simp only[reduceCtorEq]at e
    rename_i ds;cases e;refine⟨P0,H0,P,Os,env,M,_,_,k,e1,ds,rfl,fun P1 a vs H1 l1 h1 ha ba nc ea is=>?_⟩;have hn:P1.n=M1.length:=h1.n
    let P2:Pl:={io:=fun j=>if j=P1.n then a else P1.io j,n:=P1.n + 1,bd:=P1.bd}
    have io : ∀ j, j < P1.n -> P2.io j = P1.io j := fun j hj => xah (by omega);have ioN : P2.io P1.n = a := xab rfl;have l2 : Lt P1 H1 P2 H1 := ⟨xbO _, io, fun _ z => .inl z, fun _ _ e _ => e, fun _ z => z⟩;have le : LtE P H P2 H1 := ⟨Nat.le_succ_of_le l1.n,fun j hj=>(io j (xad hj l1.n)).trans (l1.io j hj),l1.bd,l1.bm,l1.keep,l1.sure,fun j h2 h3=>by
      rcases xaO j P1.n with z |z
      · rw[io j z];exact l1.nw j h2 z
      · have:j=P1.n:=xa5 (xa3 h3) z;rw[this,ioN];exact ha⟩
    have hk2:Hk X.K X.mg P2 H1 (M1 ++ [.lst ds]):=by
      refine⟨by rw[xat, <-hn];rfl,fun j c ej=>?_,fun i j hi hj e=>?_,fun j hj=>?_,h1.here⟩
      · rcases xaO j P1.n with z |z
        · rw[xaB (by rw[<-hn];exact z)]at ej;rw[io j z];exact(h1.cell j c ej).lt l2 fun _ z=>z
        · have jl:=(xak.mp ej).1;rw[xat,xbu, <-hn]at jl;have:j=P1.n:=by omega
          subst this;rw[xaC (by rw[hn];exact xag _),hn,Nat.sub_self]at ej;cases ej;rw[ioN];exact⟨vs,ea,aH.lt l2 is⟩
      · rcases xaO i P1.n with z |z
        · rcases xaO j P1.n with y |y
          · rw[io i z,io j y]at e;exact h1.inj i j z y e
          · have:j=P1.n:=xa5 (xa3 hj) y;rw[io i z,this,ioN]at e;exact absurd e (nc i z)
        · have iN:i=P1.n:=xa5 (xa3 hi) z;rcases xaO j P1.n with y |y
          · rw[iN,ioN,io j y]at e;exact absurd e.symm (nc j y)
          · rw[iN];exact xa5 y (xa3 hj)
      · rcases xaO j P1.n with z |z
        · rw[io j z];exact h1.bd j z
        · have:j=P1.n:=xa5 (xa3 hj) z;rw[this,ioN];exact ba
    exact q P2 _ H1 le hk2 (fV.of hk2 (show Is _ _ _ (.ref _) _ from⟨by show _<P1.n + 1;rw[hn];exact xbo _,by rw[<-hn,ioN]⟩))
  · exact⟨P0,H0,P,Os,env,M,_,_,k,e1,q⟩
noncomputable def pW (f g:E):S:=fun env M=>gk (f env M) fun d M1=>match d with
  | .ref j => (match M1[j]? with
    | some (.lst _) => gk (g env M1) fun y M2 => (match M2[j]? with
      |some (.lst ds)=>if ds.length<sizeLine then some (.nx env,M2.set j (.lst (ds ++ [y]))) else none
      |_=>none)
    |_=>none)
  |_=>none
theorem Dk (ho:SE X Wx .val o f)(he:SE X Wx .val e g)(hbase:attributeBase o "append" X.env (eval o X.env)=eval o X.env:=by rfl)
  (hfew:((backTo q (starEach [e] X.env)).all (fun x=> !x.1) && (backToKw q (keywordEach [] X.env)).all (fun x=>x.1.isSome) && decide ([e].length + ([]:List Keyword).length + (if ([]:List Keyword).isEmpty then 0 else 1)<30))=true:=by rfl)
  (hline:(p.endLine==q.line)=true:=by rfl) (hs:starEach [e] X.env=(false,eval e X.env)::starEach [] X.env:=by rfl) (hw:swapsWith (.Call (.Attribute o "append" p) [e] [] q) none pos.line X.env=pure false:=by rfl):
  SS X Wx (.Expr (.Call (.Attribute o "append" p) [e] [] q) pos) (pW f g):=by
 refine tR (QV (QL xcg xcY xcZ O5 ho (wZ he Bf hs) hbase hfew hline hs rfl) hw) ?_;rintro D st H ⟨P0,H0,P,Os,env,M,out,M',k,e,q⟩;unfold pW at e;rcases sV e with⟨d,M1,e1,e⟩ |⟨c,n,e1,rfl⟩
 ·cases d<;>simp only[reduceCtorEq]at e
  rename_i j;split at e
  rotate_left
  ·cases e
  rename_i ds0 em0;refine⟨P0,H0,P,Os,env,M,_,_,k,e1,fun P1 v1 H1 l1 h1 i1=>?_⟩;have k1:=k.next l1 h1
  obtain⟨jl,rfl⟩:j<P1.n/\v1=.ref (P1.io j):=i1;obtain⟨vs0,ev0,_⟩:=h1.cell j _ em0;refine⟨.inl ⟨rfl,vs0,.inl (.inl ev0)⟩,?_⟩;rcases sV e with⟨y,M2,e2,e⟩ |⟨c,n,e2,rfl⟩
  ·split at e
   ·rename_i ds em;split at e
    ·rename_i hz;cases e;refine dO k1 e2 fun P2 v2 H2 l2 h2 i2=>?_;obtain⟨vs,ev,is⟩:=h2.cell j _ em;rw[l2.io j jl]at ev;have i3:=Is.lt (Lt.refl P2 H2) i2;refine⟨P1.io j,vs,v2,rfl,rfl,ev,by rw[is.len];exact hz,?_⟩;have eio:P2.io j=P1.io j:=l2.io j jl;have jl2:j<P2.n:=xad jl l2.n;obtain⟨o0,eo0,nf0⟩:=h2.cellAt em;have lc:Lt P2 H2 P2 (upd H2 (P2.io j) (.lst (vs ++ [v2]))):=CV (h2.bd j jl2) eo0 nf0;obtain⟨l3,l3e,h3⟩:=h2.set (c':=.lst (ds ++ [y])) (o':=.lst (vs ++ [v2])) em ⟨vs ++ [v2],fP,aH.append (aH.lt lc is) (aH.one (Is.lt lc i2))⟩;rw[eio]at l3 l3e h3;exact q _ _ _ _ ((l1.lt k.hk).trans ((l2.lt h1).trans l3)) ((k1.next l2 h2).next l3e h3)
    ·cases e
   ·cases e
  ·exact dO k1 e2 q
 ·exact⟨P0,H0,P,Os,env,M,_,_,k,e1,q⟩
end
section
variable {X:Cx}{Wx:XW}{m:Mode}{pos:Pos}
noncomputable def tM:D->Option D
 |.int i=>some (.int (-i))
 |_=>none
theorem WW {K:Fgx}:Ln K (rU fun i=>.int (-i)) tM:=fun P H d z v Q h i _ q=>by
 unfold tM at h;split at h
 ·cases h;cases i;exact⟨_,rfl,q _ H (Same.refl H) rfl⟩
 ·cases h
theorem Zc (ho:Hr X (unaryOp op) r)(po:Ln X.K r o)(ha:SE X Wx .bor a f):SE X Wx m (.UnaryOp op a pos) (s1 o f):=
 fO (ziz ho ha) fun _ _ _ h=>zhM po h
noncomputable def tW (f:E):E:=fun env M=>bnd (f env M) fun d M1=>match vw M1 d with
 |.lst ds=>some (.v (.lst ds),M1)
 |.tup ds=>some (.v (.lst ds),M1)
 |_=>none
theorem Dj (hg:Gl X "list")(hm:X.mg "list"=none)(he:SE X Wx .bor e f)(hs:starEach [e] X.env=(false,eval e X.env)::starEach [] X.env:=by rfl):SN X Wx (.Call (.Name "list" p) [e] [] pos) (tW f):=by
 refine fO (WM zbs hg hm boot_list (wZ he Bf hs) (by x_go) (by x_go) hs rfl) ?_;rintro st H Q ⟨P0,H0,P,Os,env,M,r,M',k,e,q⟩;unfold tW at e;rcases fQ e with⟨d,M1,e1,e⟩ |⟨c,n,e1,rfl⟩
 ·refine dO k e1 ?_;have key:∀ds,r=.v (.lst ds)->M'=M1->(∀P1 v1 H1,fL X.K P1 H1 (vw M1 d) v1->∃a vs,v1=.ref a/\(fW X.K H1 a vs\/kW X.K H1 a vs)/\aH X.K P1 H1 ds vs)->∀P1 v1 H1,LtE P H P1 H1->Hk X.K X.mg P1 H1 M1->fV X.K P1 H1 .bor d v1->
    ∃p ys,[v1]=[V.ref p]/\(fW X.K H1 p ys\/kW X.K H1 p ys)/\∀l,H1 l=none->Q (.ref l) (upd H1 l (.lst ys)):=by
   rintro ds rfl rfl hv P1 v1 H1 l1 h1 i1;obtain⟨ds',e',q⟩:=q;cases e';obtain⟨a,vs,rfl,sq,is⟩:=hv P1 v1 H1 (h_.vw h1 i1);refine⟨a,vs,rfl,sq,fun p hp=>?_⟩;obtain⟨l2,h2,nc⟩:=Jd (vs:=vs) h1 hp;exact q (P1.bar p) p vs _ (l1.trans l2) h2 (l1.sure p hp) (.inr rfl) nc fP (aH.lt (l2.lt h1) is)
  split at e
  ·rename_i ds ev;cases e;exact key ds rfl rfl fun P1 v1 H1 i=>by
    rw[ev]at i;obtain⟨a,vs,e,s,is⟩:=i;exact⟨a,vs,e,.inl s,is⟩
  ·rename_i ds ev;cases e;exact key ds rfl rfl fun P1 v1 H1 i=>by
    rw[ev]at i;obtain⟨a,vs,e,s,is⟩:=i;exact⟨a,vs,e,.inr s,is⟩
  ·cases e
 ·exact dO k e1 q
theorem CT:∀env M r M',tW f env M=some (.v r,M')->∃ds,r=.lst ds:=fun env M r M' e=>by
 unfold tW at e;rcases fQ e with⟨ds,M1,e1,e⟩ |⟨c,n,e1,e⟩
 ·split at e
  ·cases e;exact⟨_,rfl⟩
  ·cases e;exact⟨_,rfl⟩
  ·cases e
 ·cases e
end
noncomputable def KN (K:Fgx) (g:G):Sp:=fun vs H Q E=>∀mg,t_ K mg 1 g vs H Q E
theorem zgv {P:Program}{w:World}{K:Fgx}{mg:Mgx}{base:Heap}{k:Nat}{f:Addr}{fd:FuncData}{ps:List Str}{g:G}(F:FnOk P w K mg base lK k f fd ps (t_ K mg 1 g)):FnOk P w K mg base lK k f fd ps (KN K g):=
 ⟨fun vs H Q E h=>F.len vs H Q E (h mg),fun A outer s H args us vs Q E hr he hb hv hs=>F.run A outer s H args us vs Q E hr he hb hv (hs mg)⟩
theorem V2 {K:Fgx}{P:Pl}{H:Hp}:∀ns:List Int,aH K P H (ns.map D.int) (ns.map V.int)
 | []=>rfl
 |n::ns=>⟨.int n,_,rfl,rfl,V2 ns⟩
section
variable {X:Cx}{Wx:XW}{m:Mode}{e:Expr}
theorem xK (h:PE X e (tC (.int i))):SE X Wx m e (ak (.int i)):=(KC (d:=.int i) h fun _ _=>rfl).bor
theorem tZ (h:PE X e (tC (.str z))):SE X Wx m e (ak (.str z)):=(KC (d:=.str z) h fun _ _=>rfl).bor
theorem RZ (h:PE X e (tC (.bl b))):SE X Wx m e (ak (.bl b)):=(KC (d:=.bl b) h fun _ _=>rfl).bor
theorem Bq (hN:X.N[i]? =some x)(hv:X.env.scope.names.lookup x=some .local)(hd:(x==("__debug__":Str))=false:=by x_go)(hcd:(x==("__classdict__":Str))=false:=by x_go):SE X Wx m (.Name x pos) (aj i):=(Zd hN (.inl hv) hd hcd).bor
theorem SN.sem (h:SN X Wx e f)(hf:∀env M r M',f env M=some (.v r,M')->∃ds,r=.lst ds):SE X Wx m e f:=(SN.se h hf).bor
end
noncomputable def putD (f:Str) (d:D):List (Str×D)->List (Str×D)
 | []=>[(f,d)]
 |(g,x)::r=>if g=f then(g,d)::r else(g,x)::putD f d r
section
variable {K:Fgx}{mg:Mgx}{P:Pl}{H:Hp}{M:Mm}
def sI (K:Fgx)(P:Pl)(H:Hp)(fs:List (Str×D))(gs:List (Str×V)):Prop:=gs.map (·.1)=fs.map (·.1)/\aH K P H (fs.map (·.2)) (gs.map (·.2))
theorem N6:∀{fs:List (Str×D)} {gs:List (Str×V)},sI K P H fs gs->fs.lookup f=some d->∃v,gs.lookup f=some v/\Is K P H d v
  | [],_,_,e=>by cases e
  |(g,x)::fs,[],h,_=>by cases h.1
  |(g,x)::fs,(g',y)::gs,h,e=>by
    obtain⟨h1,v,r,e1,p,q⟩:=h;simp only[xaA,xb9]at h1 e1;obtain⟨rfl,h1⟩:=h1;obtain⟨rfl,rfl⟩:=e1;simp only[List.lookup]at e ⊢
    cases hg:f==g' with
    |true=>rw[hg]at e;cases e;exact⟨y,rfl,p⟩
    |false=>rw[hg]at e;exact N6 ⟨h1,q⟩ e
theorem N7:∀{fs:List (Str×D)} {gs:List (Str×V)},gs.map (·.1)=fs.map (·.1)->fs.lookup f=none->gs.lookup f=none
  | [],[],_,_=>rfl
  | [],_::_,h,_=>by cases h
  |_::_,[],h,_=>by cases h
  |(g,x)::fs,(g',y)::gs,h,e=>by
    simp only[xaA,xb9]at h;obtain⟨rfl,h⟩:=h;simp only[List.lookup]at e ⊢
    cases hg:f==g' with
    |true=>rw[hg]at e;cases e
    |false=>rw[hg]at e;exact N7 h e
theorem Vx (i:Is K P H d v):∀{fs:List (Str×D)} {gs:List (Str×V)},sI K P H fs gs->sI K P H (putD f d fs) (eF f v gs)
  | [],[],_=>⟨rfl,v,[],rfl,i,rfl⟩
  | [],_::_,h=>by cases h.1
  |_::_,[],h=>by cases h.1
  |(g,x)::fs,(g',y)::gs,h=>by
    obtain⟨h1,v',r,e1,p,q⟩:=h;simp only[xaA,xb9]at h1 e1;obtain⟨rfl,h1⟩:=h1;obtain⟨rfl,rfl⟩:=e1;unfold putD eF
    split
    · exact⟨by simp[h1],v,_,rfl,i,q⟩
    · obtain⟨a,b⟩:=Vx i (fs:=fs) (gs:=gs) ⟨h1,q⟩;exact⟨by simp[a],y,_,rfl,p,b⟩
theorem zfx (h:sI K P H fs gs):gs.length=fs.length:=by
 have:=congrArg List.length h.1
 simpa using this
end
structure ClsOk (K:Fgx)(mg:Mgx)(c:Str)(C:Addr):Prop where
 mg:mg c=some (.ref C)
 cl:Cls K C
section
variable {X:Cx}{Wx:XW}{m:Mode}{pos:Pos}
noncomputable def mL (M:Mm) (c:Str) (d:D):Option (Nat×List (Str×D)):=match d with
  | .ref k => (match M[k]? with
    |some (.obj c' fs)=>if c'=c then some (k,fs) else none
    |_=>none)
  |_=>none
theorem CZ (h:mL M c d=some (k,fs)):d=.ref k/\M[k]? =some (.obj c fs):=by
 unfold mL at h;split at h
 ·split at h
  ·split at h
   ·rename_i e1 e2;cases h;subst e2;exact⟨rfl,e1⟩
   ·cases h
  ·cases h
 ·cases h
noncomputable def dU (c f:Str) (o:E):E:=fun env M=>bnd (o env M) fun d M1=>match mL M1 c d with
 |some (_,fs)=>(fs.lookup f).map fun z=>(.v z,M1)
 |none=>none
theorem n_ (hc:ClsOk X.K X.mg c C)(hn:kJ X.K C f)(he:SE X Wx .val e o)(hb:attributeBase e f X.env (eval e X.env)=eval e X.env:=by rfl):SE X Wx m (.Attribute e f pos) (dU c f o):=by
 refine fO (zgM he hb) ?_;rintro st H Q ⟨P0,H0,P,Os,env,M,r,M',k,e,q⟩;unfold dU at e;rcases fQ e with⟨d,M1,e1,e⟩ |⟨c,n,e1,rfl⟩
 ·split at e
  ·rename_i j fs eo;rw[xac]at e;obtain⟨z,ez,e⟩:=e;cases e;obtain⟨rfl,em⟩:=CZ eo;refine dO k e1 fun P1 v1 H1 l1 h1 i1=>?_;obtain⟨jl,rfl⟩:j<P1.n/\v1=.ref (P1.io j):=i1;obtain⟨C',dx,gs,ec,eh,en,is⟩:=h1.cell j _ em;have eC:C'=C:=by
    have:=ec.symm.trans hc.mg;cases this;rfl
   subst eC;obtain⟨v,ev,iv⟩:=N6 ⟨en,is⟩ ez;exact⟨_,C',dx,gs,v,rfl,eh,hc.cl,hn,ev,q P1 v H1 l1 h1 (fV.of h1 iv)⟩
  ·cases e
 ·exact dO k e1 q
noncomputable def gF (c f:Str) (o v:E):S:=fun env M=>gk (v env M) fun y M1=>gk (o env M1) fun d M2=>match mL M2 c d with
 |some (k,fs)=>if fs.length<1000 then some (.nx env,M2.set k (.obj c (putD f y fs))) else none
 |none=>none
theorem zeX {K:Fgx}{mg:Mgx}{P:Pl}{H:Hp}{M:Mm}{j:Nat}{c f:Str}{fs:List (Str×D)}{y:D}{v:V}{C dx:Addr}{gs:List (Str×V)}(h:Hk K mg P H M)(em:M[j]? =some (.obj c fs))(ec:mg c=some (.ref C))(eh:H (P.io j)=some (.ins C dx gs))(fo:sI K P H fs gs)(iv:Is K P H y v):
  Lt P H P (upd H (P.io j) (.ins C dx (eF f v gs)))/\LtE P H P (upd H (P.io j) (.ins C dx (eF f v gs)))/\Hk K mg P (upd H (P.io j) (.ins C dx (eF f v gs))) (M.set j (.obj c (putD f y fs))):=by
 have jl:j<P.n:=by rw[h.n];exact(xak.mp em).1
 have lc:Lt P H P (upd H (P.io j) (.ins C dx (eF f v gs))):=CV (h.bd j jl) eh zf7;have fp:=Vx (f:=f) iv fo;exact h.set (c':=.obj c (putD f y fs)) (o':=.ins C dx (eF f v gs)) em ⟨C,dx,eF f v gs,ec,fP,fp.1,aH.lt lc fp.2⟩
theorem uc {c f:Str}{C:Addr}{o e:Expr}{fo fv:E}{pos':Pos}(hc:ClsOk X.K X.mg c C)(hn:kJ X.K C f)(ho:SE X Wx .val o fo)(he:SE X Wx .val e fv)(hs:swapsWith e (some (.Attribute o f pos')) pos.line X.env=pure false:=by rfl):SS X Wx (.Assign [.Attribute o f pos'] e pos) (gF c f fo fv):=by
 refine tR (zgr ho he hs) ?_;rintro D st H ⟨P0,H0,P,Os,env,M,out,M',k,e,q⟩;unfold gF at e;rcases sV e with⟨y,M1,e1,e⟩ |⟨c,n,e1,rfl⟩
 ·refine dO k e1 fun P1 v1 H1 l1 h1 i1=>?_;have k1:=k.next l1 h1
  rcases sV e with⟨d,M2,e2,e⟩ |⟨c,n,e2,rfl⟩
  ·split at e
   ·rename_i j fs eo;split at e
    ·rename_i hl;cases e;obtain⟨rfl,em⟩:=CZ eo;refine dO k1 e2 fun P2 v2 H2 l2 h2 i2=>?_;obtain⟨jl,rfl⟩:j<P2.n/\v2=.ref (P2.io j):=i2;obtain⟨C',dx,gs,ec,eh,en,is⟩:=h2.cell j _ em;have eC:C'=C:=by
      have:=ec.symm.trans hc.mg;cases this;rfl
     subst eC;obtain⟨l3,l3e,h3⟩:=zeX (f:=f) h2 em ec eh ⟨en,is⟩ (Is.lt (l2.lt h1) i1);exact⟨_,C',dx,gs,rfl,eh,hc.cl,hn,by rw[zfx ⟨en,is⟩];exact hl,q _ _ _ _ ((l1.lt k.hk).trans ((l2.lt h1).trans l3)) ((k1.next l2 h2).next l3e h3)⟩
    ·cases e
   ·cases e
  ·exact dO k1 e2 q
 ·exact dO k e1 q
def dH (P:Program)(w:World)(K:Fgx)(mg:Mgx)(base:Heap)(k:Nat)(C:Addr)(m:Str)(n:Nat)(g:G):Prop:=
 ∃f fd ps,Meth K C m f/\FnOk P w K mg base lK k f fd ps (t_ K mg n g)/\Binds K fd ps []
theorem dH.mono {P:Program}{w:World}{K:Fgx}{mg:Mgx}{base:Heap}{j k:Nat}{C:Addr}{m:Str}{n:Nat}{g:G}(a:dH P w K mg base j C m n g)(h:j<=k):dH P w K mg base k C m n g:=by
 obtain⟨f,fd,ps,h1,h2,h3⟩:=a;exact⟨f,fd,ps,h1,h2.mono h,h3⟩
noncomputable def aQ (c m:Str) (g:G) (o:E) (fs:EA):E:=fun env M=>bnd (o env M) fun d M1=>match mL M1 c d with
  | some (_, gs) => if gs.lookup m = none then gj (fs env M1) fun ds M2 => (match g (d::ds) M2 with
    |some (.v z,M3)=>some (.v z,M3)
    |_=>none) else none
  |none=>none
theorem sE (hc:ClsOk X.K X.mg c C)(a:dH X.prog X.w X.K X.mg X.base k C me (n + 1) g)(hr:Room k X.A)(ho:SE X Wx .val o fo)(ha:SA X Wx .val (e::es) fs)(hn:u5 n fs)
    (hst:starEach (e::es) X.env=(false,eval e X.env)::starEach es X.env:=by rfl) (hpl:(backTo pos (starEach es X.env)).any (·.1)=false:=by rfl)
    (ht : eval (.Call (.Attribute o me apos) (e :: es) [] pos) X.env = (do
      let ov <-eval o X.env
      standAt apos.atName
      let (f,first) <-holding [ov] (getMethod ov me pl)
      callWith pos f first (backTo pos (starEach (e::es) X.env)) (backToKw pos (keywordEach [] X.env))):=by rfl):
    SE X Wx m (.Call (.Attribute o me apos) (e::es) [] pos) (aQ c me g fo fs):=by
  obtain⟨f,fd,ps,hm,F,hb⟩:=a;refine fO (zeq ho hc.cl hm F hr hb .nil Gf ha hst hpl ht) ?_;rintro st H Q ⟨P0,H0,P,Os,env,M,r,M',k,e,q⟩;unfold aQ at e;rcases fQ e with⟨d,M1,e1,e⟩ |⟨c,n,e1,rfl⟩
  · split at e
    · rename_i j gs eo;split at e
      · rename_i hl;obtain⟨rfl,em⟩:=CZ eo;refine dO k e1 fun P1 v1 H1 l1 h1 i1=>?_;have k1:=k.next l1 h1
        obtain⟨jl,rfl⟩:j<P1.n/\v1=.ref (P1.io j):=i1;obtain⟨C',dx,vs,ec,eh,en,is⟩:=h1.cell j _ em;have eC:C'=C:=by
          have:=ec.symm.trans hc.mg;cases this;rfl
        subst eC;refine⟨_,dx,vs,rfl,eh,N7 en hl,?_⟩;rcases sU e with⟨ds,M2,e2,e⟩ |⟨c,n,e2,rfl⟩
        · split at e
          · rename_i z M3 eg;cases e;refine⟨P0,H0,P1,Os,env,M1,_,_,k1,e2,fun P2 us H2 l2 h2 i2=>?_⟩;dsimp only;rw[xaV];exact⟨by rw[xar,i2.len,hn _ _ _ _ e2],P2,M2,.ref j::ds,z,_,h2,⟨_,_,rfl,⟨xad jl l2.n,by rw[l2.io j jl]⟩,i2.iss⟩,eg,fun P3 v H3 l3 h3 i3=>q P3 v H3 (l1.trans (l2.trans l3)) h3 (fV.of h3 i3)⟩
          · cases e
        · exact⟨P0,H0,P1,Os,env,M1,_,_,k1,e2,q⟩
      · cases e
    · cases e
  · exact dO k e1 q
theorem nG (hc:ClsOk X.K X.mg c C)(a:dH X.prog X.w X.K X.mg X.base k C me 1 g)(hr:Room k X.A)(ho:SE X Wx .val o fo)
    (ht : eval (.Call (.Attribute o me apos) [] [] pos) X.env = (do
      let ov <-eval o X.env
      standAt apos.atName
      let (f,first) <-holding [ov] (getMethod ov me pl)
      callWith pos f first (backTo pos (starEach [] X.env)) (backToKw pos (keywordEach [] X.env))):=by rfl):
    SE X Wx m (.Call (.Attribute o me apos) [] [] pos) (aQ c me g fo ao):=by
  obtain⟨f,fd,ps,hm,F,hb⟩:=a;refine fO (zdi ho hc.cl hm F hr hb .nil Gf ht) ?_;rintro st H Q ⟨P0,H0,P,Os,env,M,r,M',k,e,q⟩;unfold aQ at e;rcases fQ e with⟨d,M1,e1,e⟩ |⟨c,n,e1,rfl⟩
  · split at e
    · rename_i j gs eo;split at e
      · rename_i hl;obtain⟨rfl,em⟩:=CZ eo;refine dO k e1 fun P1 v1 H1 l1 h1 i1=>?_;obtain⟨jl,rfl⟩:j<P1.n/\v1=.ref (P1.io j):=i1;obtain⟨C',dx,vs,ec,eh,en,is⟩:=h1.cell j _ em;have eC:C'=C:=by
          have:=ec.symm.trans hc.mg;cases this;rfl
        subst eC;refine⟨_,dx,vs,rfl,eh,N7 en hl,?_⟩;simp only[gj,ao]at e;split at e
        · rename_i z M3 eg;cases e;exact⟨rfl,P1,M1,[.ref j],z,_,h1,⟨_,_,rfl,⟨jl,rfl⟩,rfl⟩,eg,fun P3 v H3 l3 h3 i3=>q P3 v H3 (l1.trans l3) h3 (fV.of h3 i3)⟩
        · cases e
      · cases e
    · cases e
  · exact dO k e1 q
end
section
variable {X:Cx}{Wx:XW}{m:Mode}{pos:Pos}
theorem U0 {K:Fgx}{mg:Mgx}{P:Pl}{H H':Hp}{M:Mm}{a:Addr}{c:Cl}(h:Hk K mg P H M)(s:Same H H')(ha:H a=none)(ea:H' a≠none)(hc:∀P',P'.n=P.n + 1->P'.io P.n=a->LtE P H P' H'->BP K mg P' H' a c):∃P',P'.n=P.n + 1/\P'.io P.n=a/\LtE P H P' H'/\Hk K mg P' H' (M ++ [c]):=by
 let P2:Pl:={io:=fun j=>if j=P.n then a else P.io j,n:=P.n + 1,bd:=fun b=>P.bd b\/b=a}
 have io : ∀ j, j < P.n -> P2.io j = P.io j := fun j hj => xah (by omega);have ioN : P2.io P.n = a := xab rfl;have nc : ∀ j, j < P.n -> P.io j ≠ a := fun j hj z => h.here _ (h.bd j hj) (z ▸ ha);have l : LtE P H P2 H' := ⟨xbO _,io,fun b z=>Or.imp (fun q=>q) (fun(q:b=a)=>by rw[q];exact ha) z,fun _ z=>.inl z,fun b o e _=>s b o e,fun b z=>s.free z,fun j h2 h3=>by
  have:j=P.n:=xa5 (xa3 h3) h2;rw[this,ioN];exact ha⟩
 refine⟨P2,rfl,ioN,l,⟨by rw[xat, <-h.n];rfl,fun j d ej=>?_,fun i j hi hj e=>?_,fun j hj=>?_,fun b z=>?_⟩⟩
 ·rcases xaO j P.n with z |z
  ·rw[xaB (by rw[<-h.n];exact z)]at ej;rw[io j z];exact(h.cell j d ej).lt (l.lt h) fun o eo=>s _ _ eo
  ·have jl:=(xak.mp ej).1;rw[xat,xbu, <-h.n]at jl;have:j=P.n:=by omega
   subst this;rw[xaC (by rw[h.n];exact xag _),h.n,Nat.sub_self]at ej;cases ej;rw[ioN];exact hc P2 rfl ioN l
 ·rcases xaO i P.n with z |z
  ·rcases xaO j P.n with y |y
   ·rw[io i z,io j y]at e;exact h.inj i j z y e
   ·have:j=P.n:=xa5 (xa3 hj) y;rw[io i z,this,ioN]at e;exact absurd e (nc i z)
  ·have iN:i=P.n:=xa5 (xa3 hi) z;rcases xaO j P.n with y |y
   ·rw[iN,ioN,io j y]at e;exact absurd e.symm (nc j y)
   ·rw[iN];exact xa5 y (xa3 hj)
 ·rcases xaO j P.n with z |z
  ·rw[io j z];exact .inl (h.bd j z)
  ·have:j=P.n:=xa5 (xa3 hj) z;rw[this,ioN];exact .inr rfl
 ·rcases z with z |z
  ·exact fun q=>h.here b z (s.free q)
  ·rw[z];exact ea
def kE (P:Program)(w:World)(K:Fgx)(mg:Mgx)(base:Heap)(k:Nat)(C:Addr)(n:Nat)(g:G):Prop:=
 ∃f fd ps,Mk K C f/\FnOk P w K mg base lK k f fd ps (t_ K mg n g)/\Binds K fd ps []
noncomputable def k_ (c:Str) (g:G) (fs:EA):E:=fun env M=>gj (fs env M) fun ds M1=>match g (.ref M1.length::ds) (M1 ++ [.obj c []]) with
 |some (.v .non,M2)=>some (.v (.ref M1.length),M2)
 |_=>none
theorem Bp {c:Str}{C:Addr}{k n:Nat}{g:G}{e:Expr}{es:List Expr}{fs:EA}{p:Pos}(hc:ClsOk X.K X.mg c C)(a:kE X.prog X.w X.K X.mg X.base k C (n + 1) g)(hr:Room (k + 1) X.A)(hg:Gl X c)(ha:SA X Wx .val (e::es) fs)(hn:u5 n fs)(hdb:(c==("__debug__":Str))=false:=by x_go)
  (he:starEach (e::es) X.env=(false,eval e X.env)::starEach es X.env:=by rfl) (hpl:(backTo pos (starEach es X.env)).any (·.1)=false:=by rfl):SE X Wx m (.Call (.Name c p) (e::es) [] pos) (k_ c g fs):=by
 obtain⟨f,fd,ps,mk,F,hb⟩:=a;refine fO (zd2 mk F hr hg hc.mg hb .nil Gf ha hdb he hpl) ?_;rintro st H Q ⟨P0,H0,P,Os,env,M,r,M',k,e,q⟩;unfold k_ at e;rcases sU e with⟨ds,M1,e1,e⟩ |⟨c,n,e1,rfl⟩
 ·split at e
  ·rename_i M2 eg;cases e;refine⟨P0,H0,P,Os,env,M,_,_,k,e1,fun P1 vs H1 l1 h1 i1=>fun x dx hx hdx ne=>?_⟩;have s2:Same H1 (upd (upd H1 dx (.own x)) x (.ins C dx [])):=fun b o eb=>by
    rw[dD (pR eb hx),dD (pR eb hdx)];exact eb
   obtain⟨P2,n2,io2,l2,h2⟩:=U0 (c:=.obj c []) h1 s2 hx (by rw[fP];exact fun z=>nomatch z) fun P' _ _ _=>⟨C,dx,[],hc.mg,fP,rfl,rfl⟩
   have el:P1.n=M1.length:=h1.n;have iref:Is X.K P2 (upd (upd H1 dx (.own x)) x (.ins C dx [])) (.ref M1.length) (.ref x):=⟨by rw[n2,el];exact xbo _,by rw[<-el,io2]⟩;refine⟨by rw[xaV,xar,i1.len,hn _ _ _ _ e1],P2,M1 ++ [.obj c []],.ref M1.length::ds,.non,_,h2,⟨_,_,rfl,iref,by rw[xaV];exact aH.lt (l2.lt h1) i1.iss⟩,eg,fun P3 v H3 l3 h3 i3=>⟨i3,?_⟩⟩;refine q P3 _ H3 (l1.trans (l2.trans l3)) h3 (fV.of h3 (Is.lt (l3.lt h2) iref))
  ·cases e
 ·exact⟨P0,H0,P,Os,env,M,_,_,k,e1,q⟩
end
end E3
namespace E3
open PySem PySem.Spec PyProof.Rows L2 PySem.W
def zjO (a:Addr)(h h':Heap):Prop:=∀b o,b≠a->h.get? b=some o->h'.get? b=some o
noncomputable def Ow:List D->List D->Option Bool
 | [],[]=>some false
 |.int i::ps,.int j::qs=>if i=j then Ow ps qs else some (decide (i<j))
 |.str a::ps,.str b::qs=>if a=b then Ow ps qs else some (decide (a.cps.toList<b.cps.toList))
 |_,_=>none
noncomputable def tupI:D->Bool
 |.tup (.int _::_)=>true
 |_=>false
def Low (n:Nat)(p:Array Nat):Prop:=p.size=n/\∀x∈p.toList,x<n
section
variable {n:Nat}{lt:Nat->Nat->Option Bool}(hn:0<n)(tot:∀i j,i<n->j<n->∃b,lt i j=some b)
include hn tot
end
end E3
namespace E3
open PySem L2
section
variable {env:Env}{M M1:Mm}{f g h c:E}{d e:D}{i j:Int}{n k:Nat}{z:Str}{b:Bool}{ds es:List D}{s t:S}{x:Str}
def kh (g:S):OS->OS
 |some (.nx e,M1)=>g e M1
 |o=>o
theorem Dc:aq s t env M=kh t (s env M):=rfl
theorem Ry {e:Env}:kh t (some (.nx e,M))=t e M:=rfl
theorem Rz:kh t (some (.rt d,M))=some (.rt d,M):=rfl
theorem Rr {e:Env}:kh t (some (.bk e,M))=some (.bk e,M):=rfl
theorem Ru {e:Env}:kh t (some (.ct e,M))=some (.ct e,M):=rfl
theorem Rv {a:Int}:kh t (some (.ex x a,M))=some (.ex x a,M):=rfl
theorem zi3:au env M=some (.nx env,M):=rfl
noncomputable def Hf (M:Mm):Option Slot->O
 |some (.val d)=>some (.v d,M)
 |_=>none
theorem Rg:aj k env M=Hf M env[k]? :=rfl
theorem RD:Hf M (some (.val d))=some (.v d,M):=rfl
theorem ziL:ak d env M=some (.v d,M):=rfl
def mapR (M:Mm)(o:Option D):O:=o.map fun z=>(.v z,M)
theorem zim:mapR M (some d)=some (.v d,M):=rfl
def wX (o:D->Option D)(r:O):O:=bnd r fun d M=>mapR M (o (vw M d))
theorem q_1 {o:D->Option D}:s1 o f env M=wX o (f env M):=rfl
theorem r_1 {o:D->Option D}:wX o (some (.v d,M))=mapR M (o (vw M d)):=rfl
noncomputable def BK (o:D->D->Option D) (d:D) (r:O):O:=bnd r fun e M=>mapR M (o (vw M d) (vw M e))
noncomputable def G9 (o:D->D->Option D) (k:Mm->O) (r:O):O:=bnd r fun d M=>BK o d (k M)
theorem q_2 {o:D->D->Option D}:s2 o f g env M=G9 o (g env) (f env M):=rfl
theorem r_2 {o:D->D->Option D}{q:Mm->O}:G9 o q (some (.v d,M))=BK o d (q M):=rfl
theorem Rq {o:D->D->Option D}:BK o d (some (.v e,M))=mapR M (o (vw M d) (vw M e)):=rfl
theorem zh2:vw M (.int i)=.int i:=rfl
theorem zjB:vw M (.str z)=.str z:=rfl
theorem T5:vw M (.bl b)=.bl b:=rfl
theorem zjt:vw M .non=.non:=rfl
theorem zhN:vw M (.tup ds)=.tup ds:=rfl
theorem ziO:vw M (.lst ds)=.lst ds:=rfl
theorem ur (h:M[k]? =some (.lst ds)):vw M (.ref k)=.lst ds:=by unfold vw;simp only[h]
theorem zh8:fU f env M=wX (fun d=>(mV d).map .bl) (f env M):=rfl
theorem zga:Gz f env M=wX (fun d=>(mV d).map fun b=>.bl (!b)) (f env M):=rfl
noncomputable def Gb (r:O):O:=bnd r fun d M=>match d with
 |.bl b=>some (.v (.bl (!b)),M)
 |_=>none
theorem zjG:g8 f env M=Gb (f env M):=rfl
theorem ziA:Gb (some (.v (.bl b),M))=some (.v (.bl (!b)),M):=rfl
noncomputable def wU (k1 k2:Mm->O) (r:O):O:=bnd r fun d M=>match d with
 |.bl b=>if b=true then k1 M else k2 M
 |_=>none
theorem zik:gB f g env M=wU (g env) (fun M=>some (.v (.bl false),M)) (f env M):=rfl
theorem Ra:pZ f g env M=wU (fun M=>some (.v (.bl true),M)) (g env) (f env M):=rfl
theorem zhB:pX c f g env M=wU (f env) (g env) (c env M):=rfl
theorem zhJ {k1 k2:Mm->O}:wU k1 k2 (some (.v (.bl b),M))=if b=true then k1 M else k2 M:=rfl
noncomputable def wN (d:D):Option (ResA×Mm)->Option (ResA×Mm)
 |some (.v ds,M2)=>some (.v (d::ds),M2)
 |some (.x c n,M2)=>some (.x c n,M2)
 |none=>none
noncomputable def Nr (k:Mm->Option (ResA×Mm)):O->Option (ResA×Mm)
 |some (.v d,M1)=>wN d (k M1)
 |some (.x c n,M1)=>some (.x c n,M1)
 |none=>none
theorem ziQ:ao env M=some (.v [],M):=rfl
theorem zfH {fs:EA}:aA f fs env M=Nr (fs env) (f env M):=rfl
theorem zgV {q:Mm->Option (ResA×Mm)}:Nr q (some (.v d,M))=wN d (q M):=rfl
theorem zgG:wN d (some (.v ds,M))=some (.v (d::ds),M):=rfl
noncomputable def wH (o:List D->Option D) (r:Option (ResA×Mm)):O:=gj r fun ds M=>mapR M (o (ds.map (vw M)))
theorem q_n {o:List D->Option D}{fs:EA}:sN o fs env M=wH o (fs env M):=rfl
theorem r_n {o:List D->Option D}:wH o (some (.v ds,M))=mapR M (o (ds.map (vw M))):=rfl
noncomputable def sS (k:List D->Mm->O):Option (ResA×Mm)->O
 |some (.v ds,M)=>k ds M
 |some (.x c n,M)=>some (.x c n,M)
 |none=>none
theorem zgA {q:List D->Mm->O}:sS q (some (.v ds,M))=q ds M:=rfl
theorem ziF {fs:EA}:dF fs env M=sS (fun ds M1=>if ds.length<=sizeLine then some (.v (.tup ds),M1) else none) (fs env M):=rfl
theorem zin {fs:EA}:aP fs env M=sS (fun ds M1=>if ds.length<=sizeLine then some (.v (.lst ds),M1) else none) (fs env M):=rfl
def Uy:O->O
 |some (.v d,M)=>some (.v d,M)
 |_=>none
theorem zed:Uy (some (.v d,M))=some (.v d,M):=rfl
theorem zgc {u:G}{fs:EA}:dW u fs env M=sS (fun ds M1=>Uy (u ds M1)) (fs env M):=rfl
noncomputable def gH (k:D->Mm->O):O->O
 |some (.v d,M)=>k d M
 |some (.x c n,M)=>some (.x c n,M)
 |none=>none
theorem Rt {q:D->Mm->O}:gH q (some (.v d,M))=q d M:=rfl
noncomputable def UW (M:Mm):D->O
 |.lst ds=>some (.v (.ref M.length),M ++ [.lst ds])
 |_=>none
theorem zdM:UW M (.lst ds)=some (.v (.ref M.length),M ++ [.lst ds]):=rfl
theorem zgd:mQ f env M=gH (fun d M1=>UW M1 d) (f env M):=rfl
noncomputable def Wh (M:Mm):D->O
 |.lst ds=>some (.v (.lst ds),M)
 |.tup ds=>some (.v (.lst ds),M)
 |_=>none
theorem zeB:Wh M (.lst ds)=some (.v (.lst ds),M):=rfl
theorem zgI:tW f env M=gH (fun d M1=>Wh M1 (vw M1 d)) (f env M):=rfl
noncomputable def R9 (d:D) (lo:Option Int):Option (Option Int×Mm)->O
 |some (hi,M3)=>mapR M3 (Di (vw M3 d) lo hi)
 |none=>none
noncomputable def Zk (d:D) (k:Mm->Option (Option Int×Mm)):Option (Option Int×Mm)->O
 |some (lo,M2)=>R9 d lo (k M2)
 |none=>none
theorem Rf {l u:Env->Mm->Option (Option Int×Mm)}:GC f l u env M=gH (fun d M1=>Zk d (u env) (l env M1)) (f env M):=rfl
theorem ziM {lo:Option Int}{q:Mm->Option (Option Int×Mm)}:Zk d q (some (lo,M))=R9 d lo (q M):=rfl
theorem zie {lo hi:Option Int}:R9 d lo (some (hi,M))=mapR M (Di (vw M d) lo hi):=rfl
theorem ziS:mZ env M=some (none,M):=rfl
noncomputable def Gg:O->Option (Option Int×Mm)
 |some (.v (.int i),M)=>some (some i,M)
 |_=>none
theorem zjr:mO f env M=Gg (f env M):=rfl
theorem ziv:Gg (some (.v (.int i),M))=some (some i,M):=rfl
noncomputable def gJ (k:D->Mm->OS):O->OS
 |some (.v d,M)=>k d M
 |some (.x c n,M)=>some (.ex c n,M)
 |none=>none
theorem zfo {q:D->Mm->OS}:gJ q (some (.v d,M))=q d M:=rfl
theorem zhL:aU k f env M=gJ (fun d M1=>if k<env.length then some (.nx (env.set k (.val d)),M1) else none) (f env M):=rfl
noncomputable def Wm (k:Nat) (env:Env) (M:Mm):D->OS
 |.lst ds=>if k<env.length then some (.nx (env.set k (.own ds)),M) else none
 |_=>none
theorem zgX:Wm k env M (.lst ds)=if k<env.length then some (.nx (env.set k (.own ds)),M) else none:=rfl
theorem zhk:JW k f env M=gJ (fun d M1=>Wm k env M1 d) (f env M):=rfl
theorem ziT:aG f env M=gJ (fun d M1=>some (.rt d,M1)) (f env M):=rfl
theorem zfp:wj f env M=gJ (fun _ M1=>some (.nx env,M1)) (f env M):=rfl
noncomputable def VH (s t:Mm->OS) (M:Mm):D->OS
 |.bl b=>if b=true then s M else t M
 |_=>none
theorem Rw {q r:Mm->OS}:VH q r M (.bl b)=if b=true then q M else r M:=rfl
theorem Q5:dR c s t env M=gJ (fun d M1=>VH (s env) (t env) M1 d) (c env M):=rfl
noncomputable def Ef (k:Nat) (env:Env) (M:Mm):Option Slot->OS
 |some (.own ds)=>some (.nx (env.set k (.val (.lst ds))),M)
 |_=>none
theorem zjM:xG k env M=Ef k env M env[k]? :=rfl
theorem zio:Ef k env M (some (.own ds))=some (.nx (env.set k (.val (.lst ds))),M):=rfl
noncomputable def Dz (k:Nat) (env:Env) (o:O):Option Slot->OS
 |some (.own ds)=>gJ (fun d M1=>if ds.length<sizeLine then some (.nx (env.set k (.own (ds ++ [d]))),M1) else none) o
 |_=>none
theorem zi8:xu k f env M=Dz k env (f env M) env[k]? :=rfl
theorem zjs {o:O}:Dz k env o (some (.own ds))=gJ (fun d M1=>if ds.length<sizeLine then some (.nx (env.set k (.own (ds ++ [d]))),M1) else none) o:=rfl
theorem ziE {ds0:List D}{M2:Mm}(h1:f env M=some (.v (.ref k),M1))(h2:M1[k]? =some (.lst ds0))(h3:g env M1=some (.v d,M2))(h4:M2[k]? =some (.lst ds))(hl:ds.length<sizeLine):pW f g env M=some (.nx env,M2.set k (.lst (ds ++ [d]))):=by
 simp only[pW,gk,h1,h2,h3,h4,hl,xa6]
noncomputable def forR (k:Nat) (t:S) (env:Env):Option (ResA×Mm)->OS
 |some (.v ds,M1)=>loopS k t ds env M1
 |some (.x c n,M1)=>some (.ex c n,M1)
 |none=>none
theorem zjI {fs:EA}:j5 k fs t env M=forR k t env (fs env M):=rfl
theorem zhA:forR k t env (some (.v ds,M))=loopS k t ds env M:=rfl
noncomputable def FW:O->Option (ResA×Mm)
 |some (.v (.lst ds),M1)=>some (.v ds,M1)
 |some (.x c n,M1)=>some (.x c n,M1)
 |_=>none
theorem zfu:tu f env M=FW (f env M):=rfl
theorem zgE:FW (some (.v (.lst ds),M))=some (.v ds,M):=rfl
noncomputable def Xb:Option (ResA×Mm)->Option (ResA×Mm)
 |some (.v [.int j],M1)=>if -1000000000<=j/\j<=1000000000 then some (.v ((List.range j.toNat).map fun(k:Nat)=>.int (0 + k)),M1) else none
 |some (.x c n,M1)=>some (.x c n,M1)
 |_=>none
theorem zgp {fs:EA}:yt fs env M=Xb (fs env M):=rfl
theorem JR (h: -1000000000<=i/\i<=1000000000):Xb (some (.v [.int i],M))=some (.v ((List.range i.toNat).map fun(k:Nat)=>.int (0 + k)),M):=xab h
theorem pU {m:Nat}{t:S}:aV m t ds M=eO (t (ds.map .val ++ List.replicate (m - ds.length) .un) M):=rfl
theorem zfY:eO (some (.rt d,M))=some (.v d,M):=rfl
theorem zfi {e:Env}:eO (some (.nx e,M))=some (.v .non,M):=rfl
theorem zfs:eV (.int i) (.int j)=some (.int (i + j)):=rfl
theorem zgs:eV (.lst ds) (.lst es)=if ds.length + es.length<=sizeLine then some (.lst (ds ++ es)) else none:=rfl
theorem zi7:gO (.int i) (.int j)=some (.int (i - j)):=rfl
theorem ziY:kZ (.int i) (.int j)=if i.natAbs<18446744073709551616\/j.natAbs<18446744073709551616\/(i.natAbs.log2<10000/\j.natAbs.log2<10000) then some (.int (i * j)) else none:=rfl
theorem zhf:nY (.int i) (.int j)=if 0<j/\j.natAbs<1073741824 then some (.int (i / j)) else none:=rfl
theorem zhC:oMod (.int i) (.int j)=if 0<j then some (.int (i % j)) else none:=rfl
theorem zjb:gM (.int i) (.int j)=if 0<=j/\j.natAbs<=1000000/\i.natAbs<18446744073709551616 then some (.int (i ^ j.toNat)) else none:=rfl
theorem zjh:tM (.int i)=some (.int (-i)):=rfl
theorem QG:aK .lt (.int i) (.int j)=some (.bl (decide (i<j))):=rfl
theorem QF:aK .le (.int i) (.int j)=some (.bl (decide (i<=j))):=rfl
theorem QD:aK .gt (.int i) (.int j)=some (.bl (decide (j<i))):=rfl
theorem QC:aK .ge (.int i) (.int j)=some (.bl (decide (j<=i))):=rfl
theorem zhZ:aK .eq (.int i) (.int j)=some (.bl (decide (i=j))):=by
 show(xU _ _).map D.bl=_
 simp[xU,gU,D.flat,D.dep,D.eq]
 rw[xaH];simp
theorem zhK:aK .ne (.int i) (.int j)=some (.bl (!decide (i=j))):=by
 show(wL _ _).map D.bl=_
 simp[wL,gU,D.flat,D.dep,D.eq]
 rw[xaH];simp
theorem zhD (h:d.dep<=50):aK .eq d d=some (.bl true):=by
 show(xU d d).map D.bl=_;unfold xU;rw[xab ⟨by simp[gU,h],h⟩,D.eq_refl];rfl
theorem ziI (h:d.dep<=50):aK .ne d d=some (.bl false):=by
 show(wL d d).map D.bl=_;unfold wL;rw[xab ⟨by simp[gU,h],h⟩,D.eq_refl];rfl
theorem ziD:aO (.lst ds) (.int i)=gG ds i:=rfl
theorem zia:aO (.tup ds) (.int i)=gG ds i:=rfl
theorem zhe:dJ [.lst ds]=some (.int ds.length):=rfl
theorem zhq:dJ [.tup ds]=some (.int ds.length):=rfl
theorem zhT:lY [.int i,.int j]=some (.int (if j<i then j else i)):=rfl
theorem zi5:m6 [.int i,.int j]=some (.int (if j > i then j else i)):=rfl
theorem zhj:mV (.lst ds)=some (!ds.isEmpty):=rfl
theorem zgi:mV (.bl b)=some b:=rfl
theorem zi4 {lo hi:Option Int}:Di (.str z) lo hi=if z.length<=sizeLine then some (.str (Txt.slice z lo hi)) else none:=rfl
theorem zis {lo hi:Option Int}:Di (.lst ds) lo hi=some (.lst (mq ds lo hi)):=rfl
end
noncomputable def Step (J:Env->Mm->Prop) (Q:OS->Prop):OS->Prop
 |some (.nx e,M)=>J e M
 |some (.ct e,M)=>J e M
 |some (.bk e,M)=>Q (some (.nx e,M))
 |some (.rt d,M)=>Q (some (.rt d,M))
 |some (.ex c n,M)=>Q (some (.ex c n,M))
 |none=>False
theorem Ju {i:Nat}{body:S}{ds:List D}{env:Env}{M:Mm}(Q:OS->Prop)(J:Nat->Env->Mm->Prop)(h0:J 0 env M)
    (hs:∀(k:Nat) d env M,ds[k]? =some d->J k env M->i<env.length/\Step (J (k + 1)) Q (body (env.set i (.val d)) M)) (hd:∀env M,J ds.length env M->Q (some (.nx env,M))):Q (loopS i body ds env M):=by
  have key:∀(m k:Nat) (env:Env) (M:Mm),m + k=ds.length->J k env M->Q (loopS i body (ds.drop k) env M):=by
    intro m
    induction m with
    |zero=>
      intro k env M hk hJ;have e:k=ds.length:=by omega
      subst e;rw[xcn];exact hd env M hJ
    |succ m ih=>
      intro k env M hk hJ;have hlt:k<ds.length:=by omega
      obtain⟨hi,h1⟩:=hs k ds[k] env M (xai hlt) hJ;rw[xbz hlt];simp only[loopS,hi,xa6]
      cases e:body (env.set i (.val ds[k])) M with
      |none=>rw[e]at h1;exact h1.elim
      |some o=>
        rw[e]at h1;obtain⟨o,M'⟩:=o
        cases o with
        |nx e'=>exact ih (k + 1) e' M' (by omega) h1
        |ct e'=>exact ih (k + 1) e' M' (by omega) h1
        |bk e'=>exact h1
        |rt d=>exact h1
        |ex c n=>exact h1
  have:=key ds.length 0 env M (by omega) h0
  rwa [List.drop_zero]at this
end E3
namespace E3
open PySem PySem.Spec PyProof.Rows L2
noncomputable def XN (H:Hp) (n:Int):Option Addr->Prop
 |none=>n=0
 |some d=>∃fs,H d=some (.xd fs)/\fs.lookup ("at":Str)=some (.int (n - 1))/\n≠0
noncomputable def XQ (K:Fgx) (mg:Mgx) (P:Pl) (H:Hp) (M':Mm) (Q:VK) (E:XK):Res->Prop
 |.v d=>∀P' v H',LtE P H P' H'->Hk K mg P' H' M'->Is K P' H' d v->Q v H'
 |.x c n=>∀P' H' C dx,LtE P H P' H'->Hk K mg P' H' M'->mg c=some (.ref C)->XN H' n dx->E (.ref C) dx H'
noncomputable def G4 (K:Fgx) (mg:Mgx) (n:Nat) (g:G):Sp:=fun vs H Q E=>vs.length=n/\∃P M ds r M',Hk K mg P H M/\aH K P H ds vs/\g ds M=some (r,M')/\XQ K mg P H M' Q E r
mutual
theorem Is.away {K:Fgx}{P:Pl}{H H':Hp}(s:∀b o,H b=some o->(∀g,o≠ .ext g)->H' b=some o):∀{d:D} {v:V},Is K P H d v->Is K P H' d v
  |.non,_,h=>h
  |.bl _,_,h=>h
  |.int _,_,h=>h
  |.str _,_,h=>h
  |.tup ds,_,h=>by
    obtain⟨a,vs,e,q,r⟩:=h;refine⟨a,vs,e,?_,aH.away s r⟩;rcases q with(q |⟨o,q⟩) |q
    · exact .inl (.inl (s _ _ q fun _ z=>nomatch z))
    · exact .inl (.inr ⟨o,s _ _ q fun _ z=>nomatch z⟩)
    · exact .inr q
  |.lst ds,_,h=>by
    obtain⟨a,vs,e,q,r⟩:=h;refine⟨a,vs,e,?_,aH.away s r⟩;rcases q with⟨n,q |⟨o,q⟩⟩ |q
    · exact .inl ⟨n,.inl (s _ _ q fun _ z=>nomatch z)⟩
    · exact .inl ⟨n,.inr ⟨o,s _ _ q fun _ z=>nomatch z⟩⟩
    · exact .inr q
  |.ref k,_,h=>h
theorem aH.away {K:Fgx}{P:Pl}{H H':Hp}(s:∀b o,H b=some o->(∀g,o≠ .ext g)->H' b=some o):∀{ds:List D} {vs:List V},aH K P H ds vs->aH K P H' ds vs
  | [],_,h=>h
  |_::_,_,h=>by
    obtain⟨v,r,e,p,q⟩:=h;exact⟨v,r,e,Is.away s p,aH.away s q⟩
end
theorem Hk.away {K:Fgx}{mg:Mgx}{P:Pl}{H H':Hp}{M:Mm}(h:Hk K mg P H M)(s:∀b o,H b=some o->(∀g,o≠ .ext g)->H' b=some o)(t:∀b,H' b=none->H b=none):Hk K mg P H' M:=by
  refine⟨h.n,fun k c e=>?_,h.inj,h.bd,fun a z q=>h.here a z (t a q)⟩;have:=h.cell k c e
  cases c with
  |lst ds=>
    obtain⟨vs,e1,q⟩:=this;exact⟨vs,s _ _ e1 (fun _ z=>nomatch z),aH.away s q⟩
  |obj c fs=>
    obtain⟨C,dx,gs,e1,e2,e3,q⟩:=this;exact⟨C,dx,gs,e1,s _ _ e2 (fun _ z=>nomatch z),e3,aH.away s q⟩
  |dct kvs=>
    obtain⟨vs,e1,e2,q⟩:=this;exact⟨vs,s _ _ e1 (fun _ z=>nomatch z),e2,aH.away s q⟩
  |dcf kvs=>
    obtain⟨vs,ob,es,ep,e1,eD,e2,q⟩:=this;exact⟨vs,ob,es,ep,s _ _ e1 (fun _ z=>nomatch z),eD,e2,aH.away s q⟩
  |fn i caps=>exact nM.up this (fun b o u e=>s b _ e fun _ z=>nomatch z) fun _ _ q=>aH.away s q
  |tbl nm i=>
    obtain⟨c,ps,e1,e2,e3⟩:=this;exact⟨c,ps,e1,s _ _ e2 (fun _ z=>nomatch z),e3.imp id fun⟨c',z,q⟩=>⟨c',z,q.up fun b o u e=>s b _ e fun _ z=>nomatch z⟩⟩
structure XFit (X:Cx)(Wx:XW):Prop where
 xr:∀pins σ H s a C dx c n P0 H0 P M,Inv X pins σ H s->H a=some (xo a C dx true)->¬ P.bd a->H0 a=none->LtE P0 H0 P H->Hk X.K X.mg P H M->X.mg c=some (.ref C)->XN H n dx->Wx P0 H0 M c n->X.xe (.ref a) s
section
variable {X:Cx}{Wx:XW}{pos:Pos}
noncomputable def xH (c:Str) (f:E):S:=fun env M=>gk (f env M) fun _ M1=>some (.ex c 0,M1)
theorem Sq (F:XFit X Wx)(hc:X.calm=true)(m:X.mg c=some (.ref C))(q1:kj X.K C=true)(q2:Hj X.K C=true)(kp:PySem.W.keepIn X.K (.ref C)=true)(hg:Gl X c)(he:SE X Wx .val e f)(hdb:(c==("__debug__":Str))=false:=by x_go)
  (hs:starEach [e] X.env=[(false,eval e X.env)]:=by rfl):SS X Wx (.Raise (some (.Call (.Name c p) [e] [] q)) none pos) (xH c f):=by
 refine tR (zdz (W:=fun a C' dx H=>dx=none/\C'=C/\∃P0 H0 P M,¬ P.bd a/\H0 a=none/\LtE P0 H0 P H/\Hk X.K X.mg P H M/\Wx P0 H0 M c 0) (zdy q1 q2 kp hg m he hdb hs) hc fun pins σ H s a C' dx I ea ⟨e1,e2,P0,H0,P,M,b,n,l,h,w⟩=>?_) ?_
 ·subst e1 e2;exact F.xr pins σ H s a _ none c 0 P0 H0 P M I ea b n l h m rfl w
 ·rintro D st H ⟨P0,H0,P,Os,env,M,out,M',k,e,q⟩;unfold xH at e;rcases sV e with⟨d,M1,e1,e⟩ |⟨c,n,e1,rfl⟩
  ·cases e;refine⟨P0,H0,P,Os,env,M,_,_,k,e1,fun P1 v H1 l1 h1 i1=>⟨rfl,fun a ha=>⟨a,C,none,rfl,fP,q1,rfl,rfl,P0,H0,P1,_,h1.new a ha,?_,?_,?_,q⟩⟩⟩
   ·exact k.base.sure a (l1.sure a ha)
   ·exact k.base.trans (l1.trans (LtE.same (tY ha)))
   ·exact h1.same (tY ha)
  ·exact⟨P0,H0,P,Os,env,M,_,_,k,e1,q⟩
end
section
variable {P:Program}{w:World}{K:Fgx}{mg:Mgx}{base:Heap}{k:Nat}{x qual:Str}{st:Stmt}{f:Addr}{fd:FuncData}{N ps:List Str}{b:S}
abbrev vf (P:Program)(w:World)(K:Fgx)(mg:Mgx)(base:Heap)(N:List Str)(qual:Str)(st:Stmt)(f:Addr)(cdv:Value)(A:Around)(outer:List PySem.Env)(s:Shared)(H:Hp)(E:XK):Cx:=gA (pF P w) P w K mg base N qual (aF st) f cdv A outer s H E
end
section
variable {P:Program}{w:World}{K:Fgx}{mg:Mgx}{base:Heap}{k:Nat}{x qual:Str}{st:Stmt}{f:Addr}{fd:FuncData}{N ps:List Str}{b:S}
theorem zcc (F:FnOk P w K mg base (pF P w) k f fd ps sp):FnOk P w K mg base lK k f fd ps (fun vs H Q _=>sp vs H Q E0):=
 ⟨fun vs H Q E h=>F.len vs H Q E0 h,fun A outer s H args us vs Q E hr he hb hv hs=>xbC (F.run A outer s H args us vs Q E0 hr he hb hv hs) fun r s' z=>by
  cases r with
  |error e=>obtain⟨_,_,_,_,_,_,_,_,_,_,_,_,_,_,z⟩:=z;exact z
  |ok fl=>cases fl<;>exact z⟩
theorem NZ (F:FnOk P w K mg base (pF P w) k f fd ps (G4 K mg n g)):FnOk P w K mg base lK k f fd ps (t_ K mg n g):=by
 have F0:=zcc F;refine⟨fun vs H Q E h=>F0.len vs H Q E ?_,fun A outer s H args us vs Q E hr he hb hv hs=>F0.run A outer s H args us vs Q E hr he hb hv ?_⟩
 ·obtain⟨hl,P,M,ds,d,M',hk,is,e,q⟩:=h;exact⟨hl,P,M,ds,.v d,M',hk,is,e,q⟩
 ·obtain⟨hl,P,M,ds,d,M',hk,is,e,q⟩:=hs;exact⟨hl,P,M,ds,.v d,M',hk,is,e,q⟩
def lW (P:Program)(w:World)(K:Fgx)(mg:Mgx)(base:Heap)(k:Nat)(C:Addr)(m:Str)(n:Nat)(g:G):Prop:=
 ∃f fd ps,Meth K C m f/\FnOk P w K mg base (pF P w) k f fd ps (G4 K mg n g)/\Binds K fd ps []
def lV (P:Program)(w:World)(K:Fgx)(mg:Mgx)(base:Heap)(k:Nat)(C:Addr)(n:Nat)(g:G):Prop:=
 ∃f fd ps,Mk K C f/\FnOk P w K mg base (pF P w) k f fd ps (G4 K mg n g)/\Binds K fd ps []
def pD (P:Program)(w:World)(K:Fgx)(mg:Mgx)(base:Heap)(k:Nat)(f:Str)(n:Nat)(g:G):Prop:=
 ∃fa fd ps,mg f=some (.ref fa)/\PySem.W.keepIn K (.ref fa)=true/\FnOk P w K mg base (pF P w) k fa fd ps (G4 K mg n g)/\Binds K fd ps []
theorem lW.quiet (a:lW P w K mg base k C m n g):dH P w K mg base k C m n g:=by
 obtain⟨f,fd,ps,h1,h2,h3⟩:=a;exact⟨f,fd,ps,h1,NZ h2,h3⟩
theorem lV.quiet (a:lV P w K mg base k C n g):kE P w K mg base k C n g:=by
 obtain⟨f,fd,ps,h1,h2,h3⟩:=a;exact⟨f,fd,ps,h1,NZ h2,h3⟩
theorem pD.quiet (a:pD P w K mg base k x n g):aY P w K mg base k x n g:=by
 obtain⟨fa,fd,ps,h1,h2,h3,h4⟩:=a;exact⟨fa,fd,ps,[],[],_,h1,h2,NZ h3,h4,.nil,fun vs H Q E h=>by rw[xaV];exact h⟩
theorem lW.mono (a:lW P w K mg base j C m n g)(h:j<=k):lW P w K mg base k C m n g:=by
 obtain⟨f,fd,ps,h1,h2,h3⟩:=a;exact⟨f,fd,ps,h1,h2.mono h,h3⟩
theorem lV.mono (a:lV P w K mg base j C n g)(h:j<=k):lV P w K mg base k C n g:=by
 obtain⟨f,fd,ps,h1,h2,h3⟩:=a;exact⟨f,fd,ps,h1,h2.mono h,h3⟩
theorem pD.mono (a:pD P w K mg base j x n g)(h:j<=k):pD P w K mg base k x n g:=by
 obtain⟨f,fd,ps,h1,h2,h3,h4⟩:=a;exact⟨f,fd,ps,h1,h2,h3.mono h,h4⟩
end
end E3
namespace L2
open PySem PySem.Spec PyProof.Rows
section
variable {X:Cx}{CX:lM}{k:Nat}{f C:Addr}{fd:FuncData}{ps:List Str}{sp:Sp}{x m:Str}{p pos apos:Pos}{e o:Expr}{es:List Expr}{ta:TE}{t:TA}{Ex:St->XK}
def zit (CX:lM)(X:Cx)(Ex:St->XK):Prop:=∀pins σ H s e s',Inv X pins σ H s->CX X.stack H s (Ex σ) e s'->X.xe e s'
end
end L2
namespace E3
open PySem PySem.Spec PyProof.Rows L2
section
variable {X:Cx}{Wx:XW}{pos:Pos}
def SX (X:Cx)(e:Expr)(f:E):Prop:=∀Ex:L2.St->XK,zit (pF X.prog X.w) X Ex->PE X e fun st H Q=>∃P0 H0 P Os env M r M',Ok X.K X.mg P0 H0 P Os H M st env/\f env M=some (r,M')/\XQ X.K X.mg P H M' Q (Ex st) r
theorem XQ.lt {K:Fgx}{mg:Mgx}{P P1:Pl}{H H1:Hp}{M':Mm}{Q:VK}{E:XK}{r:Res}(l:LtE P H P1 H1)(q:XQ K mg P H M' Q E r):XQ K mg P1 H1 M' Q E r:=by
 cases r with
 |v d=>exact fun P' v H' l' h i=>q P' v H' (l.trans l') h i
 |x c n=>exact fun P' H' C dx l' h m xn=>q P' H' C dx (l.trans l') h m xn
noncomputable def JV (g:G) (fs:EA):E:=fun env M=>match fs env M with
 |some (.v ds,M1)=>g ds M1
 |_=>none
theorem zeT (a:pD X.prog X.w X.K X.mg X.base k f n g)(hr:Room k X.A)(hg:Gl X f)(ha:SA X W0 .val (e::es) fs)(hn:u5 n fs)(hdb:(f==("__debug__":Str))=false:=by x_go)
  (he:starEach (e::es) X.env=(false,eval e X.env)::starEach es X.env:=by rfl) (hpl:(backTo pos (starEach es X.env)).any (·.1)=false:=by rfl):SX X (.Call (.Name f p) (e::es) [] pos) (JV g fs):=by
 obtain⟨fa,fd,ps,hm,hk,F,hb⟩:=a;intro Ex hx;refine fO (zdv F hr hg hm hk hb .nil hx ha hdb he hpl) ?_;rintro st H Q ⟨P0,H0,P,Os,env,M,r,M',k,e,q⟩;unfold JV at e;split at e
 ·rename_i ds M1 e1;exact ⟨P0,H0,P,Os,env,M,_,_,k,e1,fun P1 vs H1 l1 h1 i1=>by
   dsimp only;rw[xaV];exact⟨by rw[i1.len];exact hn _ _ _ _ e1,P1,M1,ds,r,_,h1,i1.iss,e,q.lt l1⟩⟩
 ·cases e
noncomputable def zjP (K:Fgx) (mg:Mgx) (E:XK) (P0:Pl) (H0:Hp) (P:Pl) (H:Hp) (M':Mm) (D:Ends):Out->Prop
 |.ex c n=>∀P' H' C dx,LtE P H P' H'->Hk K mg P' H' M'->mg c=some (.ref C)->XN H' n dx->E (.ref C) dx H'
 |.nx env=>Post K mg W0 P0 H0 P H M' D (.nx env)
 |.bk env=>Post K mg W0 P0 H0 P H M' D (.bk env)
 |.ct env=>Post K mg W0 P0 H0 P H M' D (.ct env)
 |.rt d=>Post K mg W0 P0 H0 P H M' D (.rt d)
end
end E3
namespace L2
open PySem PySem.Spec PyProof.Rows
end L2
namespace E3
open PySem PySem.Spec PyProof.Rows L2
theorem zhp {K:Fgx}{C:Addr}(h1:PySem.W.findIn K (.ref C) "__getattribute__"=some (some (.builtin "BaseException.__getattribute__")))(h2:PySem.W.findIn K (.ref C) "__getattr__"=some none)(h3:PySem.W.mroIn K C (.type "BaseException")=some true):K6 K C=true:=by
 simp only[K6,h1,h2,h3,xbk,xcL]
theorem zgZ {K:Fgx}{C:Addr}(h1:K6 K C=true)(h2:PySem.W.hasDictIn K C=true)(h3:PySem.W.findIn K (.ref C) "__class__"=some (some (.builtin "object.__class__")))(h4:PySem.W.specialIn K (.builtin "object.__class__") "__get__"=some (some (.builtin "getset_descriptor.__get__")))
  (h5:PySem.W.takesIn K (.builtin "object.__class__")=some true) (h6:PySem.W.mroIn K C (.type "object")=some true):K7 K C=true:=by
 simp only[K7,h1,h2,h3,h4,h5,h6,xbk,xcL]
end E3
namespace E3
open PySem L2
section
variable {env:Env}{M M1 M2:Mm}{f g o v:E}{d e x:D}{i:Int}{k:Nat}{ds:List D}{s t:S}{c me fl:Str}{fs:List (Str×D)}{gg:G}{fa:EA}
theorem QJ (h:M[k]? =some (.obj c fs)):mL M c (.ref k)=some (k,fs):=by unfold mL;simp only[h,xa6]
theorem mC (h1:o env M=some (.v (.ref k),M1))(h2:M1[k]? =some (.obj c fs))(h3:fs.lookup fl=some x):dU c fl o env M=some (.v x,M1):=by
 simp only[dU,bnd,h1,QJ h2,h3,xba]
theorem sX (h1:v env M=some (.v x,M1))(h2:o env M1=some (.v (.ref k),M2))(h3:M2[k]? =some (.obj c fs))(h4:fs.length<1000):gF c fl o v env M=some (.nx env,M2.set k (.obj c (putD fl x fs))):=by
 simp only[gF,gk,h1,h2,QJ h3,h4,xa6]
theorem gK (h1:o env M=some (.v (.ref k),M1))(h2:M1[k]? =some (.obj c fs))(h3:fs.lookup me=none)(h4:fa env M1=some (.v ds,M2))(h5:gg (.ref k::ds) M2=some (.v x,M3)):aQ c me gg o fa env M=some (.v x,M3):=by
 simp only[aQ,bnd,h1,QJ h2,h3,xa6,gj,h4,h5]
theorem Bd (h4:fa env M=some (.v ds,M1))(h5:gg (.ref M1.length::ds) (M1 ++ [.obj c []])=some (.v .non,M3)):k_ c gg fa env M=some (.v (.ref M1.length),M3):=by
 simp only[k_,gj,h4,h5]
theorem zgt {a:Int}:eO (some (.ex c a,M))=some (.x c a,M):=rfl
end
theorem kE.mono (a:kE P w K mg base j C n g)(h:j<=k):kE P w K mg base k C n g:=by
 obtain⟨f,fd,ps,h1,h2,h3⟩:=a;exact⟨f,fd,ps,h1,h2.mono h,h3⟩
end E3
namespace E3
open PySem PySem.Spec PyProof.Rows L2
theorem Br (hN:X.N[i]? =some x)(hv:Du X.env.scope x)(hd:(x==("__debug__":Str))=false:=by x_go)(hcd:(x==("__classdict__":Str))=false:=by x_go):SE X Wx m (.Name x pos) (aj i):=(Zd hN hv hd hcd).bor
noncomputable def jj (cs:List (Str×Nat)) (env:Env):Env:=cs.map fun p=>(env[p.2]?).getD .un
noncomputable def pN (cs:List (Str×Nat)) (Os:List (Option Addr)):List (Option Addr):=cs.map fun p=>(Os[p.2]?).join
section
variable {K:Fgx}{mg:Mgx}{P0 P:Pl}{H0 H:Hp}{M:Mm}{Os:List (Option Addr)}{st:L2.St}{env:Env}{d:D}{v:V}
theorem Ni {cs:List (Str×Nat)}{i:Nat}{a:Addr}(h:(pN cs Os)[i]? =some (some a)):∃p,cs[i]? =some p/\Os[p.2]? =some (some a):=by
 unfold pN at h;rw[xam,xac]at h;obtain⟨p,e,h⟩:=h;exact⟨p,e,CP h⟩
theorem Ok.cap {cs:List (Str×Nat)}(k:Ok K mg P0 H0 P Os H M st env)(nd:(cs.map (·.2)).Nodup)(h:Is K P H d v):Ok K mg P0 H0 P (none::pN cs Os) H M (some v::lN cs st) (.val d::jj cs env) where
  hk:=k.hk
  base:=k.base
  b0:=k.b0
  slot:=fun i s e=>by
    cases i with
    |zero=>cases e;exact⟨v,rfl,h⟩
    |succ i=>
      rw[xch]at e ⊢;rw[xch];unfold jj at e;rw[xam,xac]at e;obtain⟨p,ep,e⟩:=e;have eo:((pN cs Os)[i]?).join=(Os[p.2]?).join:=by unfold pN;rw[xam,ep];rfl
      have es:((lN cs st)[i]?).join=(st[p.2]?).join:=by unfold lN;rw[xam,ep];rfl
      rw[eo,es]
      cases e':env[p.2]? with
      |none=>rw[e']at e;cases e;exact True.intro
      |some s'=>rw[e']at e;cases e;exact k.slot _ _ e'
  own:=fun a h=>by
    rw[xaI]at h;rcases h with h |h
    · cases h
    · obtain⟨i,hi⟩:=xc7.mp h;obtain⟨p,_,e⟩:=Ni hi;exact k.own a (xax e)
  inj:=fun i j a e1 e2=>by
    cases i with
    |zero=>cases e1
    |succ i=>
      cases j with
      |zero=>cases e2
      |succ j=>
        rw[xch]at e1 e2;obtain⟨p,h1,h2⟩:=Ni e1;obtain⟨q,h3,h4⟩:=Ni e2;have e:=k.inj _ _ a h2 h4;congr 1;have hi:(cs.map (·.2))[i]? =some p.2:=by rw[xam,h1];rfl
        have hj:(cs.map (·.2))[j]? =some p.2:=by rw[xam,h3,e];rfl
        have il:=(xak.mp hi).1;exact(List.getElem?_inj il nd).mp (hi.trans hj.symm)
  olen:=by simp[pN,jj]
  slen:=by simp[lN,jj]
end
section
variable {X:Cx}{Wx:XW}{m:Mode}{pos:Pos}
noncomputable def lQ (q e:E) (env:Env):List D->List D->Mm->Option (List D×Mm)
  | [],acc,M=>some (acc,M)
  |d::ds,acc,M=>match q (.val d::env) M with
    | some (.v (.bl true), M1) => (match e (.val d::env) M1 with
      |some (.v y,M2)=>if acc.length + 1<sizeLine then lQ q e env ds (acc ++ [y]) M2 else none
      |_=>none)
    |some (.v (.bl false),M1)=>lQ q e env ds acc M1
    |_=>none
noncomputable def yH (cs:List (Str×Nat)) (fs:EA) (q e:E):E:=fun env M=>match fs env M with
  | some (.v ds, M1) => (match lQ q e (jj cs env) ds [] M1 with
    |some (ys,M2)=>some (.v (.lst ys),M2)
    |none=>none)
  |some (.x c n,M1)=>some (.x c n,M1)
  |none=>none
theorem U9:∀env M r M',yH cs fs q e env M=some (.v r,M')->∃ds,r=.lst ds:=fun env M r M' h=>by
 unfold yH at h;split at h
 ·split at h
  ·cases h;exact⟨_,rfl⟩
  ·cases h
 ·cases h
 ·cases h
theorem zdR {K:Fgx}{mg:Mgx}{P1 P:Pl}{H1 H:Hp}{M:Mm}{D:Addr}{vs vs':List V}(l:LtE P1 H1 P H)(h:Hk K mg P H M)(hD:H1 D=none)(bD:P.bd D)(nc:∀k,k<P.n->P.io k≠D)(e:H D=some (.lst vs)):
  Lt P H P (upd H D (.lst vs'))/\LtE P1 H1 P (upd H D (.lst vs'))/\Hk K mg P (upd H D (.lst vs')) M:=by
 have lc:Lt P H P (upd H D (.lst vs')):=CV bD e Pg;refine⟨lc,⟨l.n,l.io,l.bd,l.bm,fun c o ec n=>?_,fun c z=>l.sure c (lc.sure c z),l.nw⟩,⟨h.n,fun j c ej=>(h.cell j c ej).lt lc fun o eo=>?_,h.inj,h.bd,fun c z q=>h.here c z (lc.sure c q)⟩⟩
 ·rw[dD (fun z=>by subst z;rw[hD]at ec;cases ec)];exact l.keep c o ec n
 ·rw[dD (nc j (by rw[h.n];exact(xak.mp ej).1))];exact eo
noncomputable def NR (K:Fgx) (mg:Mgx) (Wx:XW) (P0:Pl) (H0:Hp) (P:Pl) (H:Hp) (M':Mm) (R:Addr->Hp->Prop):Res->Prop
 |.v d=>∃ds,d=.lst ds/\∀P' a vs H',LtE P H P' H'->Hk K mg P' H' M'->H a=none->P'.bd a->(∀k,k<P'.n->P'.io k≠a)->H' a=some (.lst vs)->aH K P' H' ds vs->R a H'
 |.x c n=>Wx P0 H0 M' c n
theorem zcx {K:Fgx}{mg:Mgx}{cs:List (Str×Nat)}{fs:EA}{q e:E}{P0 P:Pl}{H0 H:Hp}{Os:List (Option Addr)}{M M':Mm}{st:L2.St}{env:Env}{r:Res}{R:Addr->Hp->Prop}(nd:(cs.map (·.2)).Nodup)
    (k:Ok K mg P0 H0 P Os H M st env) (h:yH cs fs q e env M=some (r,M')) (w:NR K mg Wx P0 H0 P H M' R r):S8 (tI K mg Wx fs) (Bw K mg W0 q) (tE K mg W0 .val e) cs st H R:=by
  unfold yH at h;split at h
  · rename_i ds M1 ef;split at h
    rotate_left
    · cases h
    rename_i ys M2 ec;cases h;obtain ⟨ds', e', w⟩ := w;cases e';refine ⟨P0, H0, P, Os, env, M, _, _, k, ef, fun P1 H1 J l1 h1 wk D hD => ?_⟩;obtain ⟨l2, h2, nc⟩ := Jd (vs := []) h1 hD;refine ⟨fun i m vs H2=>m=ds.length - i/\i<=ds.length/\∃P2 M3 acc,LtE P1 H1 P2 H2/\Hk K mg P2 H2 M3/\P2.bd D/\(∀k,k<P2.n->P2.io k≠D)/\H2 D=some (.lst vs)/\aH K P2 H2 acc vs/\acc.length<sizeLine/\lQ q e (jj cs env) (ds.drop i) acc M3=some (ys,M'),
      ⟨ds.length,by simp,xci _,P1.bar D,M1,[],l2,h2,.inr rfl,nc,fP,rfl,by x_go,by rw[List.drop_zero];exact ec⟩,?_⟩
    rintro i m vs H2 ⟨rfl,hi,P2,M3,acc,l3,h3,bD,nD,eD,is,hz,ec⟩;refine⟨eD,?_⟩;obtain⟨w1,w2,w3⟩:=wk P2 H2 (l3.lt h1)
    by_cases hlt:i<ds.length
    · refine .inr ⟨w1 i hlt,by rw[is.len];exact hz,fun vs' H'=>∃P2 M3 acc,LtE P1 H1 P2 H'/\Hk K mg P2 H' M3/\P2.bd D/\(∀k,k<P2.n->P2.io k≠D)/\H' D=some (.lst vs')/\aH K P2 H' acc vs'/\acc.length<sizeLine/\lQ q e (jj cs env) (ds.drop (i + 1)) acc M3=some (ys,M'),
        fun vs' H' z=>⟨ds.length - (i + 1),by omega,rfl,hlt,z⟩,fun x H' y=>?_⟩
      obtain⟨e3,d,ed,iv⟩:=w3 i x H' y hlt;subst e3;have ed':ds.drop i=d::ds.drop (i + 1):=by
        rw[xbz hlt];rw[xai hlt]at ed;rw[xau ed]
      rw[ed']at ec;have kk:=((k.next l1 h1).next l3 h3).cap (cs:=cs) nd iv
      simp only[lQ]at ec;split at ec
      · rename_i M4 eq;refine pA kk eq ⟨true,rfl,fun P4 H4 l4 h4=>?_⟩;dsimp only;rw[xab rfl];split at ec
        · rename_i y' M5 ee;split at ec
          · rename_i hz';refine dO (kk.next l4 h4) ee fun P5 v5 H5 l5 h5 i5=>?_
            have l45:=l4.trans l5;have eD5:H5 D=some (.lst vs):=l45.keep D _ eD (.inr nD);have nD5:∀k,k<P5.n->P5.io k≠D:=l45.nc eD nD;obtain⟨g1,g2,g3⟩:=zdR (vs':=vs ++ [v5]) (l3.trans l45) h5 hD (l45.bm D bD) nD5 eD5;refine⟨eD5,P5,M5,acc ++ [y'],g2,g3,l45.bm D bD,nD5,fP,aH.append (aH.lt ((l45.lt h3).trans g1) is) (aH.one (Is.lt g1 i5)),by rw[xat];exact hz',ec⟩
          · cases ec
        · cases ec
      · rename_i M4 eq;refine pA kk eq ⟨false,rfl,fun P4 H4 l4 h4=>?_⟩;dsimp only;rw[xah (by decide)];exact⟨P4,M4,acc,l3.trans l4,h4,l4.bm D bD,l4.nc eD nD,l4.keep D _ eD (.inr nD),aH.lt (l4.lt h3) is,hz,ec⟩
      · cases ec
    · have ei:i=ds.length:=by omega
      subst ei;rw[xcn]at ec;cases ec;exact .inl ⟨w2 _ (xag _) (xag _),w P2 D vs H2 (l1.trans l3) h3 (l1.sure D hD) bD nD eD is⟩
  · rename_i c n M1 ef;cases h;exact⟨P0,H0,P,Os,env,M,_,_,k,ef,w⟩
  · cases h
def SQ (X:Cx)(ifs:List Expr)(q:E):Prop:=wD X ifs (Bw X.K X.mg W0 q)
theorem Zq:SQ X [] (ak (.bl true)):=fun pins s σ H Q I h=>by
 obtain⟨P0,H0,P,Os,env,M,r,M',k,e,q⟩:=h;cases e;obtain⟨b,e2,q⟩:=q;cases e2;exact zct pins s σ H Q I (q P H (LtE.refl P H) k.hk)
section
variable {elt iter:Expr}{ifs:List Expr}{scope:Scope}{fs:EA}{q e:E}
theorem Zo (x:Str)(cs:List (Str×Nat))(hc:X.calm=true)(nd:(cs.map (·.2)).Nodup)(hi:SI X Wx (.Name x px) iter fs)
  (hq:∀(cl:List (Str×Addr)) (C:Addr) (s₀:Shared) (H₀:Hp) (ex:List Addr) (pn:Pnx),SQ (mj X (x::cs.map (·.1)) scope cl C s₀ H₀ ex pn) ifs q)
  (he:∀(cl:List (Str×Addr)) (C:Addr) (s₀:Shared) (H₀:Hp) (ex:List Addr) (pn:Pnx),SE (mj X (x::cs.map (·.1)) scope cl C s₀ H₀ ex pn) W0 .val elt e)
  (ok:Jh X.N X.env.scope x cs scope=true:=by kernel_rfl) (hs:∀x,foldedSetIterable iter X.env x=pure x:=by intro _;rfl):
  SN X Wx (.ListComp elt [⟨.Name x px,iter,ifs,0⟩] scope pos) (yH cs fs q e):=by
 refine fO (zd3 (tq:=Bw X.K X.mg W0 q) (te:=tE X.K X.mg W0 .val e) x cs hc hi hq he ok hs) ?_;rintro st H Q ⟨P0,H0,P,Os,env,M,r,M',k,e,w⟩;refine zcx nd k e ?_
 cases r with
 |v d=>exact w
 |x c n=>exact w
end
end
section
variable {X:Cx}{Wx:XW}{m:Mode}{pos:Pos}
noncomputable def nA (f:E):E:=fun env M=>bnd (f env M) fun d M1=>match d with
  | .ref j => (match M1[j]? with
    | some (.lst ds) => (match ds[ds.length - 1]? with
      |some z=>some (.v z,M1.set j (.lst ds.dropLast))
      |none=>none)
    |_=>none)
  |_=>none
theorem aH.dropLast {K:Fgx}{P:Pl}{H:Hp}{ds:List D}{vs:List V}(h:aH K P H ds vs):aH K P H ds.dropLast vs.dropLast:=by
 rw[xc8,xc8,h.len];exact h.take _
theorem KD (ho:SE X Wx .val o f)(hbase:attributeBase o "pop" X.env (eval o X.env)=eval o X.env:=by rfl)(hline:(p.endLine==pos.line)=true:=by rfl):
  SE X Wx m (.Call (.Attribute o "pop" p) [] [] pos) (nA f):=by
 refine fO (zgg xcg PySem.F.slot_list_pop PySem.F.type_list_pop zg7 ho hbase hline) ?_;rintro st H Q ⟨P0,H0,P,Os,env,M,r,M',k,e,q⟩;unfold nA at e;rcases fQ e with⟨d,M1,e1,e⟩ |⟨c,n,e1,rfl⟩
 ·cases d<;>simp only[reduceCtorEq]at e
  rename_i j;split at e
  rotate_left
  ·cases e
  rename_i ds em;split at e
  rotate_left
  ·cases e
  rename_i z ez;cases e;refine dO k e1 fun P1 v1 H1 l1 h1 i1=>?_;obtain⟨jl,rfl⟩:j<P1.n/\v1=.ref (P1.io j):=i1;obtain⟨vs,ev,is⟩:=h1.cell j _ em;obtain⟨v,evt,iv⟩:=is.get ez;have lc:Lt P1 H1 P1 (upd H1 (P1.io j) (.lst vs.dropLast)):=CV (h1.bd j jl) ev Pg;obtain⟨l3,l3e,h3⟩:=h1.set (c':=.lst ds.dropLast) (o':=.lst vs.dropLast) em ⟨_,fP,(aH.lt lc is).dropLast⟩;refine⟨.inl ⟨rfl,vs,.inl (.inl ev)⟩,P1.io j,vs,v,rfl,rfl,ev,by rw[is.len];exact evt,?_⟩;exact q P1 v _ (l1.trans l3e) h3 (fV.of h3 (Is.lt l3 iv))
 ·exact dO k e1 q
end
section
variable {X:Cx}{Wx:XW}{m:Mode}{pos:Pos}
inductive ResP where
 |v (ps:List (D×D)) |x (c:Str) (n:Int)
noncomputable def lA (M:Mm) (d:D):String:=match d with
  | .ref k => (match M[k]? with
    |some (.lst _)=>"list"
    |some (.dct _)=>"dict"
    |_=>"")
  |d=>G_ d
noncomputable def mU (tb:String->String->Option Bool) (T:String) (f:E):E:=fun env M=>bnd (f env M) fun d M1=>if lA M1 d="" then none else(tb (lA M1 d) T).map fun b=>(.v (.bl b),M1)
theorem zcO:iB X (.builtin "isinstance") (fun xs H Q=>∃(x:V) (T:String) (d:D) (P:Pl) (M:Mm) (b:Bool),xs=[x,.ty T]/\Hk X.K X.mg P H M/\h_ X.K P H d x/\lA M d≠""/\PySem.W.kitOne X.K (.type (lA M d)) (.type T)=some b/\Q (.bl b) H):=by
  intro pins s σ H xs us Q I r h;obtain⟨x,T,d,P,M,b,rfl,hk,i,ne,e,q⟩:=h;have old:lA M d=G_ (vw M d)->wpAny (model X.prog X.w) X.A (call (.builtin "isinstance") us) (EP X pins σ Q) X.xe s:=fun et=>by
    rw[et]at ne e;exact zcy pins s σ H _ us Q I r ⟨x,T,vw M d,P,b,rfl,h_.vw hk i,ne,e,q⟩
  cases d with
  |ref k=>
    cases em:M[k]? with
    |none=>simp[lA,em]at ne
    |some c=>
      cases c with
      |lst ds=>exact old (by simp[lA,vw,em,G_])
      |obj c fs=>simp[lA,em]at ne
      |dcf kvs=>simp[lA,em]at ne
      |fn i caps=>simp[lA,em]at ne
      |tbl nm i=>simp[lA,em]at ne
      |dct kvs=>
        obtain⟨u,w',rfl,rx,rT⟩:=vals2 r;cases rT;obtain⟨kl,rfl⟩:k<P.n/\x=.ref (P.io k):=i;cases rx;obtain⟨vs,ev,_⟩:=hk.cell k _ em;obtain⟨_,_,vs',_,o,es,ep,h1,h2,_⟩:=I.hok _ _ ev;simp only[lA,em]at e;exact xaL xcN I.kIn ⟨o,h1,h2.1⟩ e (fun z=>nomatch z) fun tk=>⟨.bl b,H,I.tok _,rfl,q⟩
  |non=>exact old rfl
  |bl _=>exact old rfl
  |int _=>exact old rfl
  |str _=>exact old rfl
  |tup _=>exact old rfl
  |lst _=>exact old rfl
theorem GQ (ht:∀t b,tb t T=some b->PySem.W.kitOne X.K (.type t) (.type T)=some b)(he:SE X Wx .bor e f)(hg:Gl X "isinstance")(hm:X.mg "isinstance"=none)(hg':Gl X (Str.ofString T))(hm':X.mg (Str.ofString T)=none)(hT:bootBuiltins (Str.ofString T)=some (.type T))
  (n1:Str.ofString T≠"__name__":=by x_go) (n2:(Str.ofString T==("__debug__":Str))=false:=by x_go) (hs:starEach [e,.Name (Str.ofString T) p'] X.env=(false,eval e X.env)::starEach [.Name (Str.ofString T) p'] X.env:=by rfl):
  SE X Wx m (.Call (.Name "isinstance" p) [e,.Name (Str.ofString T) p'] [] pos) (mU tb T f):=by
 have pT:PE X (.Name (Str.ofString T) p') (tC (.ty T)):=zeS hg' hm' hT rfl n1 n2;refine fO (QM zcO hg hm boot_isinstance (wZ he (wZ pT Bf) hs) (by x_go) (by x_go) hs rfl) ?_;rintro st H Q ⟨P0,H0,P,Os,env,M,r,M',k,e,q⟩;unfold mU at e;rcases fQ e with⟨d,M1,e1,e⟩ |⟨c,n,e1,rfl⟩
 ·split at e
  ·cases e
  ·rename_i hne;rw[xac]at e;obtain⟨b,eb,e⟩:=e;cases e;exact dO k e1 fun P1 v1 H1 l1 h1 i1=>⟨v1,T,d,P1,_,b,rfl,h1,i1,hne,ht _ _ eb,q P1 _ H1 l1 h1 (fV.of h1 (show Is _ _ _ (.bl b) _ from rfl))⟩
 ·exact dO k e1 q
end
section
variable {X:Cx}{Wx:XW}{m:Mode}{pos:Pos}
noncomputable def Dm:D->Option Str
 |.str z=>if z.length<=sizeLine then some z else none
 |.int i=>if i.natAbs.log2<1920 then some (toString i) else none
 |_=>none
abbrev EJ:=Str->Env->Mm->O
noncomputable def mJ:EJ:=fun out _ M=>if out.length<=sizeLine then some (.v (.str out),M) else none
noncomputable def mH (z:Str) (ps:EJ):EJ:=fun out env M=>if (out ++ z).length<=sizeLine then ps (out ++ z) env M else none
noncomputable def pQ (f:E) (ps:EJ):EJ:=fun out env M=>bnd (f env M) fun d M1=>match Dm d with
 |some y=>if (out ++ y).length<=sizeLine then ps (out ++ y) env M1 else none
 |none=>none
noncomputable def tJ (K:Fgx) (mg:Mgx) (Wx:XW) (ps:EJ):TJ:=fun out st H Q=>tE K mg Wx .val (ps out) st H Q
def SJ (X:Cx)(Wx:XW)(vs:List Expr)(ps:EJ):Prop:=PJ X vs (tJ X.K X.mg Wx ps)
theorem JH (h:PJ X vs t)(w:∀out σ H Q,t' out σ H Q->t out σ H Q):PJ X vs t':=fun pins s σ H out Q I hw=>h pins s σ H out Q I (w out σ H Q hw)
theorem Zj:SJ X Wx [] mJ:=by
 refine JH zhs ?_;rintro out st H Q ⟨P0,H0,P,Os,env,M,r,M',k,e,q⟩;unfold mJ at e;split at e
 ·rename_i hl;cases e;exact⟨hl,q P _ H (LtE.refl P H) k.hk rfl⟩
 ·cases e
theorem Zi (h:SJ X Wx vs ps)(hz:z.length<=sizeLine:=by x_go):SJ X Wx (.Constant (.str z) n pos::vs) (mH z ps):=by
 refine JH (zfk h hz) ?_;rintro out st H Q ⟨P0,H0,P,Os,env,M,r,M',k,e,q⟩;unfold mH at e;split at e
 ·rename_i hl;exact⟨hl,P0,H0,P,Os,env,M,r,M',k,e,q⟩
 ·cases e
theorem zd9 {K:Fgx}{P:Pl}{H:Hp}{d:D}{v:V}{y:Str}(h:Dm d=some y)(i:Is K P H d v):textV v=some y:=by
 unfold Dm at h;split at h
 ·cases i;exact h
 ·cases i;exact h
 ·cases h
theorem zfA (he:SE X Wx .val e f)(h:SJ X Wx vs ps):SJ X Wx (.FormattedValue e (-1) none pos::vs) (pQ f ps):=by
 refine JH (zf9 he h) ?_;rintro out st H Q ⟨P0,H0,P,Os,env,M,r,M',k,e,q⟩;unfold pQ at e;rcases fQ e with⟨d,M1,e1,e⟩ |⟨c,n,e1,rfl⟩
 ·split at e
  ·rename_i y ey;split at e
   ·rename_i hl;exact dO k e1 fun P1 v1 H1 l1 h1 i1=>⟨y,zd9 ey i1,hl,P0,H0,P1,Os,env,M1,r,M',k.next l1 h1,e,RQ.imp l1 q⟩
   ·cases e
  ·cases e
 ·exact dO k e1 q
def mR (ps:EJ):E:=ps Str.empty
theorem Y9 (h:SJ X Wx (v::w::vs) ps):SE X Wx m (.JoinedStr (v::w::vs) pos) (mR ps):=by
 have h':SE X Wx .val (.JoinedStr (v::w::vs) pos) (mR ps):=fO (zf0 h) fun st H Q z=>z;exact h'.bor
end
end E3
namespace E3
open PySem L2
section
variable {env:Env}{M M1 M2:Mm}{f g o v:E}{d e x:D}{i:Int}{k:Nat}{ds es:List D}{s t:S}{z:Str}{fa:EA}{b:Bool}
noncomputable def Nq:Option (List D×Mm)->O
 |some (ys,M)=>some (.v (.lst ys),M)
 |none=>none
noncomputable def U8 (q e:E) (env:Env):Option (ResA×Mm)->O
 |some (.v ds,M1)=>Nq (lQ q e env ds [] M1)
 |some (.x c n,M1)=>some (.x c n,M1)
 |none=>none
theorem zgK {cs:List (Str×Nat)}{q e:E}:yH cs fa q e env M=U8 q e (jj cs env) (fa env M):=rfl
theorem zfe {q e:E}:U8 q e env (some (.v ds,M))=Nq (lQ q e env ds [] M):=rfl
theorem zd5:Nq (some (ds,M))=some (.v (.lst ds),M):=rfl
theorem Va {q e : E} (F : D -> Option D) : ∀ (ds acc : List D), (∀d∈ds,match F d with
    |some y=>q (.val d::env) M=some (.v (.bl true),M)/\e (.val d::env) M=some (.v y,M)
    |none=>q (.val d::env) M=some (.v (.bl false),M))->acc.length + ds.length<sizeLine->lQ q e env ds acc M=some (acc ++ ds.filterMap F,M)
  | [],acc,_,_=>by simp[lQ]
  |d::ds,acc,h,hl=>by
    have hd:=h d (by simp);have hr:∀acc',acc'.length + ds.length<sizeLine->lQ q e env ds acc' M=some (acc' ++ ds.filterMap F,M):=fun acc' hl'=>Va F ds acc' (fun d' hd'=>h d' (by simp[hd'])) hl';rw[xar]at hl
    cases hF:F d with
    |none=>
      rw[hF]at hd;simp only[lQ,hd,xbD,hF];exact hr acc (by omega)
    |some y=>
      rw[hF]at hd;simp only[lQ,hd.1,hd.2,xbD,hF];rw[xab (by omega),hr (acc ++ [y]) (by rw[xat,xbu];omega)]
      simp
theorem comp_map {e:E}(F:D->D)(ds:List D)(h:∀d∈ds,e (.val d::env) M=some (.v (F d),M))(hl:ds.length<sizeLine):lQ (ak (.bl true)) e env ds [] M=some (ds.map F,M):=by
 rw[Va (fun d=>some (F d)) ds [] (fun d hd=>⟨rfl,h d hd⟩) (by simpa using hl),List.filterMap_eq_map'];rfl
theorem zfy:jj [] env=[]:=rfl
theorem zgU {x:Str}{n:Nat}{cs:List (Str×Nat)}:jj ((x,n)::cs) env=(env[n]?).getD .un::jj cs env:=rfl
noncomputable def lJ (tb:String->String->Option Bool) (T:String) (M:Mm) (ty:String):O:=if ty="" then none else(tb ty T).map fun b=>(.v (.bl b),M)
noncomputable def Ft (tb:String->String->Option Bool) (T:String) (r:O):O:=bnd r fun d M=>lJ tb T M (lA M d)
theorem ziP {tb:String->String->Option Bool}{T:String}:mU tb T f env M=Ft tb T (f env M):=rfl
theorem ziX {tb:String->String->Option Bool}{T:String}:Ft tb T (some (.v d,M))=lJ tb T M (lA M d):=rfl
theorem ty_int:lA M (.int i)="int":=rfl
theorem ty_str:lA M (.str z)="str":=rfl
theorem zh3:lA M (.bl b)="bool":=rfl
theorem zgP:lA M .non="NoneType":=rfl
theorem zgu:lA M (.tup ds)="tuple":=rfl
theorem zfU:lA M (.lst ds)="list":=rfl
theorem zhR {tb:String->String->Option Bool}{T:String}:lJ tb T M "int"=(tb "int" T).map fun b=>(.v (.bl b),M):=rfl
theorem zh6 {tb:String->String->Option Bool}{T:String}:lJ tb T M "str"=(tb "str" T).map fun b=>(.v (.bl b),M):=rfl
theorem TY {tb:String->String->Option Bool}{T:String}:lJ tb T M "bool"=(tb "bool" T).map fun b=>(.v (.bl b),M):=rfl
theorem zjC {tb:String->String->Option Bool}{T:String}:lJ tb T M "NoneType"=(tb "NoneType" T).map fun b=>(.v (.bl b),M):=rfl
theorem ziW {tb:String->String->Option Bool}{T:String}:lJ tb T M "tuple"=(tb "tuple" T).map fun b=>(.v (.bl b),M):=rfl
theorem ziG {tb:String->String->Option Bool}{T:String}:lJ tb T M "list"=(tb "list" T).map fun b=>(.v (.bl b),M):=rfl
theorem ziu {tb:String->String->Option Bool}{T:String}:lJ tb T M "dict"=(tb "dict" T).map fun b=>(.v (.bl b),M):=rfl
end
end E3
namespace L2
open PySem PySem.Spec PyProof.Rows
end L2
namespace E3
open PySem PySem.Spec PyProof.Rows L2
section
variable {es:List Expr}{env:PySem.Env}{pos:Pos}
theorem dY:starEach (.Constant c k pos::es) env=(false,eval (.Constant c k pos) env)::starEach es env:=by rfl
theorem aN:starEach (.Name x pos::es) env=(false,eval (.Name x pos) env)::starEach es env:=by rfl
theorem p8:starEach (.BinOp a o b pos::es) env=(false,eval (.BinOp a o b pos) env)::starEach es env:=by rfl
theorem Zt:starEach (.UnaryOp o a pos::es) env=(false,eval (.UnaryOp o a pos) env)::starEach es env:=by rfl
theorem f9:starEach (.Call f as ks pos::es) env=(false,eval (.Call f as ks pos) env)::starEach es env:=by rfl
theorem Bu:starEach (.Attribute a x pos::es) env=(false,eval (.Attribute a x pos) env)::starEach es env:=by rfl
theorem fG:starEach (.Subscript a b pos::es) env=(false,eval (.Subscript a b pos) env)::starEach es env:=by rfl
theorem o_:starEach (.Tuple as k pos::es) env=(false,eval (.Tuple as k pos) env)::starEach es env:=by rfl
theorem Zr:starEach (.ListComp a gs sc pos::es) env=(false,eval (.ListComp a gs sc pos) env)::starEach es env:=by rfl
end
end E3
namespace L2
open PySem PySem.Spec PyProof.Rows
theorem zbX {P:Program}{w:World}{K:Fgx}{mg:Mgx}{base:Heap}{N:List Str}{qual:Str}{scope:Scope}{f:Addr}{cd:Value}{A:Around}{outer:List PySem.Env}{E:XK}{s:Shared}{H H1:Hp}{s1:Shared}{pins:Pnx}{σ:St}{a C T:Addr}{dx:Option Addr}
  (c:Caught (gA (pF P w) P w K mg base N qual scope f cd A outer s H E) pins σ H1 s1 a C dx T) (hE:E (.ref C) dx H1):(gA (pF P w) P w K mg base N qual scope f cd A outer s H E).xe (.ref a) s1:=by
 show wpAny _ _ (leaving _ _) _ _ _;unfold leaving;refine tG (Caught.note c rfl rfl fun s' T' c'=>?_);have I:=c'.inv;have hL:s.heap.get? (envOfC qual scope s.heap.objs.size f cd).locals=none:=xcs I.ok.above;have u1:Un (s.heap.objs.size::frs outer) [] H H1 s.heap s'.heap:=Un.mono (fs':=s.heap.objs.size::frs outer) (ex':=[]) I.base (fun b hb=>xap _ hb) fun b hb=>hb;exact⟨a,C,dx,H1,T',rfl,I.os,I.bare,u1.less hL,I.hok,c'.obj,c'.hT,c'.t1,c'.fl,hE⟩
end L2
namespace E3
open PySem PySem.Spec PyProof.Rows L2
structure XPass (X:Cx)(Wx:XW):Prop where
 xc:∀pins σ H s a C dx T c n P0 H0 P M,Caught X pins σ H s a C dx T->LtE P0 H0 P H->Hk X.K X.mg P H M->X.mg c=some (.ref C)->XN H n dx->Wx P0 H0 M c n->X.xe (.ref a) s
section
variable {X:Cx}{Wx:XW}{m:Mode}{pos:Pos}
theorem SX.se (F:XPass X Wx)(h:SX X e f):SE X Wx m e f:=by
  have h':SE X Wx .val e f:=by
    let Ex:L2.St->XK:=fun σ Cv dx H'=>∀pins s' a C T,Cv=.ref C->Caught X pins σ H' s' a C dx T->X.xe (.ref a) s'
    refine fO (h Ex fun pins σ H s e s' I z=>?_) ?_
    · obtain⟨a,C,dx,H',T,rfl,K1,hE⟩:=zcD I z;exact hE pins s' a C T rfl K1
    · rintro st H Q ⟨P0,H0,P,Os,env,M,r,M',k,e,q⟩;refine⟨P0,H0,P,Os,env,M,r,M',k,e,?_⟩
      cases r with
      |v d=>exact q
      |x c n=>
        intro P' H' C dx l hk hm xn pins s' a C' T eC ca;cases eC;exact F.xc pins st H' s' a C dx T c n P0 H0 P' M' ca (k.base.trans l) hk hm xn q
  exact h'.bor
end
section
variable {P:Program}{w:World}{K:Fgx}{mg:Mgx}{base:Heap}{k:Nat}{x qual:Str}{st:Stmt}{f:Addr}{fd:FuncData}{N ps:List Str}{b:S}
theorem zd6 (F:FunD K x qual st f fd)(S:FnScope N ps (aF st))(hp:ps.length<=N.length)
    (hb:∀cdv A outer s H E Wx,Room k (A.deeper (envOfC qual (aF st) s.heap.objs.size f cdv))->XFit (vf P w K mg base N qual st f cdv A outer s H E) Wx->XPass (vf P w K mg base N qual st f cdv A outer s H E) Wx->SB (vf P w K mg base N qual st f cdv A outer s H E) Wx (aZ st) b):FnOk P w K mg base (pF P w) (k + 1) f fd ps (G4 K mg ps.length (aV N.length b)):=by
  obtain ⟨oc, od, dV, kV, doc, pm, an, cdv, ct, osl, rfl, lk, hcd⟩ := F.ex;refine Vr lk hcd S (fun vs H Q E h => h.1) fun A outer s H vs Q E hr h => ?_;obtain ⟨hl, Pl, M, ds, r, M', hk, is, e, q⟩ := h;have XF : XFit (vf P w K mg base N qual st f cdv A outer s H E) (fun P0 H0 M1 c n => P0 = Pl /\ H0 = H /\ M1 = M' /\ r = .x c n) := ⟨fun pins σ H1 s1 a C dx c n P0 H0 P1 M1 I ea nb n0 l h m xn ⟨e1,e2,e3,e4⟩=>by
    subst e1 e2 e3 e4;have sure:∀b,upd H1 a (xo a C dx false) b=none->H1 b=none:=fun b z=>by
      by_cases hb:b=a
      · subst hb;rw[fP]at z;cases z
      · rw[dD hb]at z;exact z
    have l1 : LtE P0 H0 P1 (upd H1 a (xo a C dx false)) := ⟨l.n,l.io,l.bd,l.bm,fun b o eb nb=>by
      rw[dD (fun z=>by rw[z,n0]at eb;cases eb)];exact l.keep b o eb nb,fun b z=>l.sure b (sure b z),l.nw⟩
    have h1 := h.away (H' := upd H1 a (xo a C dx false)) (fun b o eb nx=>by
      rw[dD (fun z=>by rw[z,ea]at eb;cases eb;exact nx _ rfl)];exact eb) sure
    refine zdf I ea (q P1 _ C dx l1 h1 m ?_)
    cases dx with
    |none=>exact xn
    |some d=>
      obtain⟨fs,ed,el⟩:=xn;exact⟨fs,by rw[dD (fun z=>by rw[z,ea]at ed;cases ed)];exact ed,el⟩⟩
  have XP : XPass (vf P w K mg base N qual st f cdv A outer s H E) (fun P0 H0 M1 c n => P0 = Pl /\ H0 = H /\ M1 = M' /\ r = .x c n) := ⟨fun pins σ H1 s1 a C dx T c n P0 H0 P1 M1 ca l h m xn ⟨e1,e2,e3,e4⟩=>by
    subst e1 e2 e3 e4;exact zbX ca (q P1 _ C dx l h m xn)⟩
  refine⟨_,hb cdv A outer s H E _ hr XF XP,?_⟩;unfold aV eO at e;have st0:=Sx (N:=N) hk (by omega) is;split at e
  · rename_i d' M2 eb;cases e;exact⟨Pl,H,Pl,_,_,M,_,_,st0,eb,fun P' v H' l h i=>q P' v H' l h i⟩
  · rename_i env M2 eb;cases e;exact⟨Pl,H,Pl,_,_,M,_,_,st0,eb,fun P' Os' H' st' _ k'=>q P' .non H' k'.base k'.hk rfl⟩
  · rename_i c n M2 eb;cases e;exact⟨Pl,H,Pl,_,_,M,_,_,st0,eb,⟨rfl,rfl,rfl,rfl⟩⟩
  · cases e
end
section
variable {K:Fgx}{P:Pl}{H:Hp}
noncomputable def Ba:List D->Option (List Int)
 | []=>some []
 |.int i::ds=>(Ba ds).map (i:: ·)
 |_::_=>none
theorem VN:∀{ds:List D} {is:List Int} {vs:List V},Ba ds=some is->aH K P H ds vs->vs=is.map V.int
  | [],_,_,e,h=>by cases e;exact h
  |d::ds,is,vs,e,h=>by
    obtain⟨v,r,rfl,i,h⟩:=h
    cases d with
    |int n=>
      simp only[Ba,xac]at e;obtain⟨is',e',rfl⟩:=e;cases i;rw[VN e' h];rfl
    |_=>simp[Ba]at e
theorem ints_map:∀(is:List Int),Ba (is.map D.int)=some is
 | []=>rfl
 |i::is=>by simp[Ba,ints_map is]
noncomputable def xT:List D->Option (List Bool)
 | []=>some []
 |.bl b::ds=>(xT ds).map (b:: ·)
 |_::_=>none
theorem Uu:∀{ds:List D} {bs:List Bool} {vs:List V},xT ds=some bs->aH K P H ds vs->vs=bs.map V.bl
  | [],_,_,e,h=>by cases e;exact h
  |d::ds,bs,vs,e,h=>by
    obtain⟨v,r,rfl,i,h⟩:=h
    cases d with
    |bl n=>
      simp only[xT,xac]at e;obtain⟨bs',e',rfl⟩:=e;cases i;rw[Uu e' h];rfl
    |_=>simp[xT]at e
theorem Uv:∀(bs:List Bool),xT (bs.map D.bl)=some bs
 | []=>rfl
 |b::bs=>by simp[xT,Uv bs]
noncomputable def lC:List D->Option D
 | [.int i]=>if i.natAbs.log2<1920 then some (.str (toString i)) else none
 |_=>none
theorem JM:rz K (fun xs H Q=>∃i,xs=[.int i]/\i.natAbs.log2<1920/\Q (.str (toString i)) H) lC:=fun P H ds z vs Q h i _ q=>by
 unfold lC at h;split at h
 ·split at h
  ·rename_i hl;obtain⟨v,ws,rfl,p,rfl⟩:=i;cases h;cases p;exact⟨_,rfl,hl,q _ H (Same.refl H) rfl⟩
  ·cases h
 ·cases h
noncomputable def fu:List D->Option D
 | [.str z]=>if z.length<=640 then(intText? z).map .int else none
 |_=>none
theorem Gj:rz K (fun xs H Q=>∃z n,xs=[.str z]/\intText? z=some n/\z.length<=640/\Q (.int n) H) fu:=fun P H ds z vs Q h i _ q=>by
 unfold fu at h;split at h
 ·split at h
  ·rename_i hl;rw[xac]at h;obtain⟨n,en,rfl⟩:=h;obtain⟨v,ws,rfl,p,rfl⟩:=i;cases p;exact⟨_,n,rfl,en,hl,q _ H (Same.refl H) rfl⟩
  ·cases h
 ·cases h
noncomputable def wI:List D->Option D
 | [.lst ds]=>(xT ds).map fun bs=>.bl (bs.any id)
 |_=>none
theorem zgO:rz K (fun xs H Q=>∃(p:Addr) (bs:List Bool),xs=[.ref p]/\fW K H p (bs.map V.bl)/\Q (.bl (bs.any id)) H) wI:=fun P H ds z vs Q h i _ q=>by
 unfold wI at h;split at h
 ·rw[xac]at h;obtain⟨is,ei,rfl⟩:=h;obtain⟨v,ws,rfl,p,rfl⟩:=i;obtain⟨a,us,rfl,r,s⟩:=p;rw[Uu ei s]at r;exact⟨a,is,rfl,r,q _ H (Same.refl H) rfl⟩
 ·cases h
noncomputable def pK:List D->Option D
 | [.lst ds]=>some (.tup ds)
 | [.tup ds]=>some (.tup ds)
 |_=>none
theorem QZ:rz K (fun xs H Q=>∃p ys,xs=[.ref p]/\((fW K H p ys/\∀l,H l=none->Q (.ref l) (upd H l (.tup ys)))\/(kW K H p ys/\Q (.ref p) H))) pK:=fun P H ds z vs Q h i _ q=>by
 unfold pK at h;split at h
 ·obtain⟨v,ws,rfl,p,rfl⟩:=i;cases h;obtain⟨a,us,rfl,r,s⟩:=p;exact⟨a,us,rfl,.inl ⟨r,Wt s q⟩⟩
 ·obtain⟨v,ws,rfl,p,rfl⟩:=i;cases h;obtain⟨a,us,rfl,r,s⟩:=p;exact⟨a,us,rfl,.inr ⟨r,q _ H (Same.refl H) ⟨a,us,rfl,r,s⟩⟩⟩
 ·cases h
end
section
variable {X:Cx}{Wx:XW}{m:Mode}{pos:Pos}
def Hq (K:Fgx)(r:V->List V->Hp->VK->Prop)(o:Str->List D->Option D):Prop:=∀(P:Pl) (H:Hp) (y:Str) (ds:List D) (z:D) (vs:List V) (Q:VK),o y ds=some z->wB K P H ds vs->(∀p,H p=none->¬ P.bd p)->(∀u H',Same H H'->Is K P H' z u->Q u H')->r (.str y) vs H Q
noncomputable def Dd (o:Str->List D->Option D) (f:E) (fs:EA):E:=fun env M=>bnd (f env M) fun d M1=>match d with
 |.str y=>gj (fs env M1) fun ds M2=>(o y (ds.map (vw M2))).map fun z=>(.v z,M2)
 |_=>none
theorem R4 {a e:Expr}{es:List Expr}{name:Str}{id:String}{r:V->List V->Hp->VK->Prop}{o:Str->List D->Option D}{f:E}{fs:EA}{p:Pos}(slot:PySem.Slot "str" name id)(hty:typeOf (.builtin id)=pure (.type "method_descriptor"))(hm:BR X id r)(po:Hq X.K r o)(ha:SE X Wx .val a f)(hs:SA X Wx .bor (e::es) fs)
  (hbase:attributeBase a name X.env (eval a X.env)=eval a X.env:=by rfl)
  (hfew:((backTo pos (starEach (e::es) X.env)).all (fun x=> !x.1) && (backToKw pos (keywordEach [] X.env)).all (fun x=>x.1.isSome) && decide ((e::es).length + ([]:List Keyword).length + (if ([]:List Keyword).isEmpty then 0 else 1)<30))=true:=by rfl)
  (hline:(p.endLine==pos.line)=true:=by rfl) (hst:starEach (e::es) X.env=(false,eval e X.env)::starEach es X.env:=by rfl) (hplain:(backTo pos (starEach es X.env)).any (·.1)=false:=by rfl):
  SE X Wx m (.Call (.Attribute a name p) (e::es) [] pos) (Dd o f fs):=by
 refine fO (QL PySem.F.plainAttrs_str slot hty hm ha hs hbase hfew hline hst hplain) ?_;rintro st H Q ⟨P0,H0,P,Os,env,M,r,M',k,e,q⟩;unfold Dd at e;rcases fQ e with⟨d,M1,e1,e⟩ |⟨c,n,e1,rfl⟩
 ·cases d<;>simp only[reduceCtorEq]at e
  rename_i y;refine dO k e1 fun P1 v1 H1 l1 h1 i1=>?_;have k1:=k.next l1 h1
  cases i1;refine⟨rfl,?_⟩;rcases sU e with⟨ds,M2,e2,e⟩ |⟨c,n,e2,rfl⟩
  ·rw[xac]at e;obtain⟨z,ez,e⟩:=e;cases e;exact⟨P0,H0,P1,Os,env,M1,_,_,k1,e2,fun P2 vs H2 l2 h2 i2=>po P2 H2 y _ z vs Q ez (gb.w h2 i2) h2.new fun u H' s i=>q P2 u H' (l1.trans (l2.trans (LtE.same s))) (h2.same s) (fV.of (h2.same s) i)⟩
  ·exact⟨P0,H0,P1,Os,env,M1,_,_,k1,e2,q⟩
 ·exact dO k e1 q
noncomputable def K3 (z:Str):List D->Option D
 | [.str y]=>some (.bl (Txt.startswith z y))
 |_=>none
theorem zcI {K:Fgx}:Hq K W7 K3:=fun P H y ds z vs Q h i _ q=>by
 unfold K3 at h;split at h
 ·cases h;obtain⟨v,ws,rfl,p,rfl⟩:=i;cases p;exact⟨_,_,rfl,rfl,q _ H (Same.refl H) rfl⟩
 ·cases h
noncomputable def KZ (z:Str):List D->Option D
 | [.str y]=>if z.length<=sizeLine then some (.str (Txt.lstripChars z y)) else none
 |_=>none
theorem zcl {K:Fgx}:Hq K W6 KZ:=fun P H y ds z vs Q h i _ q=>by
 unfold KZ at h;split at h
 ·split at h
  ·rename_i hl;cases h;obtain⟨v,ws,rfl,p,rfl⟩:=i;cases p;exact⟨_,_,rfl,rfl,hl,q _ H (Same.refl H) rfl⟩
  ·cases h
 ·cases h
noncomputable def Bv (z:Str):List D->Option D
  | [.str y]=>match Builtin.Str.occurrences z y 0 z.length 1 with
    |i::_=>some (.int (i:Nat))
    | []=>none
  |_=>none
theorem zdl {K:Fgx}:Hq K W5 Bv:=fun P H y ds z vs Q h i _ q=>by
 unfold Bv at h;split at h
 ·split at h
  ·rename_i eo;cases h;obtain⟨v,ws,rfl,p,rfl⟩:=i;cases p;exact⟨_,_,_,_,rfl,rfl,eo,q _ H (Same.refl H) rfl⟩
  ·cases h
 ·cases h
end
def wu:S:=fun _ _=>none
theorem zeC (h:PS X s fun _ _ _=>False):SS X Wx s wu:=tR h fun D st H ⟨_,_,_,_,_,_,_,_,_,e,_⟩=>by cases e
theorem zcY:PS X s fun _ _ _=>False:=fun pins s σ H D I h=>h.elim
theorem zW:SS X Wx s wu:=zeC zcY
noncomputable def j4 (tb:List (Str×D)) (z:Str):Option D:=(tb.find? fun p=>decide (p.1=z)).map (·.2)
inductive KRows (K:Fgx)(w:World):List (Str×D)->List DictEntry->List (Key×Value)->Prop
 |nil:KRows K w [] [] []
 |cons {z:Str} {d:D} {t:Tok} {u:Value} {v:V} {hs:Int} {tb:List (Str×D)} {es:List DictEntry} {vs:List (Key×Value)}:hs=hashStr w z->RelV v u->(∀P H,Is K P H d v)->KRows K w tb es vs->KRows K w ((z,d)::tb) (⟨hs,.str z t,u⟩::es) ((.inr z,u)::vs)
def KTab (K:Fgx)(w:World)(a:Addr)(tb:List (Str×D)):Prop:=∃o es ep vs,K.lookup a=some o/\o.ExactDict/\o.data=.dict es ep/\KRows K w tb es.toList vs/\(tb.map (·.1)).Nodup/\(a==sysModules)=false
section
variable {K:Fgx}{w:World}{prog:Program}
theorem Wc:∀{tb:List (Str×D)} {es:List DictEntry} {vs:List (Key×Value)},KRows K w tb es vs->(∀e∈es,∃k,(wg prog w).is k e.key=true/\e.hash=(wg prog w).hash k)/\Pairs (wg prog w) es vs/\vs.map (·.1)=tb.map fun p=>(.inr p.1:Key)
  |_,_,_,.nil=>⟨fun e h=>(by cases h),.nil,rfl⟩
  |_,_,_,.cons (z:=z) (t:=t) h1 h2 h3 r=>by
    obtain⟨a,b,c⟩:=Wc r;refine⟨fun e he=>?_,.cons (OD prog w z t) rfl b,by rw[xaA,xaA,c]⟩;rw[xaI]at he;rcases he with rfl |he
    · exact⟨.inr z,OD prog w z t,h1⟩
    · exact a e he
theorem Ot:∀{tb:List (Str×D)} {es:List DictEntry} {vs:List (Key×Value)},KRows K w tb es vs->match j4 tb z with
    |some d=>∃u v,valueAt vs (.inr z:Key)=some u/\RelV v u/\∀P H,Is K P H d v
    |none=>valueAt vs (.inr z:Key)=none
  |_,_,_,.nil=>rfl
  |_,_,_,.cons (z:=y) (d:=d) (u:=u) (v:=v) (tb:=tb) (vs:=vs) h1 h2 h3 r=>by
    by_cases e:y=z
    · subst e;have a:j4 ((y,d)::tb) y=some d:=by simp[j4,xbI]
      have b:valueAt ((.inr y,u)::vs) (.inr y:Key)=some u:=by simp[valueAt,xbI]
      rw[a];exact⟨u,v,b,h2,h3⟩
    · have a:j4 ((y,d)::tb) z=j4 tb z:=by simp[j4,xbI,e]
      have b:valueAt ((.inr y,u)::vs) (.inr z:Key)=valueAt vs (.inr z):=by simp[valueAt,xbI,e]
      rw[a,b];exact Ot r
theorem KTab.dict (t:KTab K w a tb)(X:K.In h):∃es vs,KRows K w tb es vs/\h.DictOf (wg prog w) a vs/\(a==sysModules)=false:=by
 obtain⟨o,es,ep,vs,l,x,d,r,nd,ns⟩:=t;obtain⟨r1,r2,r3⟩:=Wc (prog:=prog) r;refine⟨es.toList,vs,r,⟨o,es,ep,X a o l,x,d,fun e he=>r1 e (by simpa using he),r2,?_⟩,ns⟩;rw[r3];have:(tb.map fun p=>(Sum.inr p.1:Key))=(tb.map (·.1)).map Sum.inr:=by rw[List.map_map];rfl
 rw[this];exact List.pairwise_map.mpr (List.Pairwise.imp (fun h q=>h (Sum.inr.inj q)) nd)
end
section
variable {X:Cx}{Wx:XW}{m:Mode}{pos:Pos}
noncomputable def pY (b:Bool) (tb:List (Str×D)) (f:E):E:=fun env M=>bnd (f env M) fun d M1=>match d with
 |.str z=>some (.v (.bl (if b then(j4 tb z).isSome else !(j4 tb z).isSome)),M1)
 |_=>none
noncomputable def Gy (tb:List (Str×D)) (f:E):E:=fun env M=>bnd (f env M) fun d M1=>match d with
 |.str z=>(j4 tb z).map fun y=>(.v y,M1)
 |_=>none
theorem zbU {z:Str}{K:Fgx}{w:World}{tb:List (Str×D)}{es:List DictEntry}{vs:List (Key×Value)}(r:KRows K w tb es vs):(valueAt vs (.inr z:Key)).isSome=(j4 tb z).isSome:=by
 have g:=Ot (z:=z) r
 cases h:j4 tb z with
 |none=>rw[h]at g;have g':valueAt vs (.inr z:Key)=none:=g;rw[g'];rfl
 |some d=>rw[h]at g;obtain⟨u,v,e,_⟩:=g;rw[e];rfl
theorem zfP {i:Expr}{ty:TE}{nm:Str}{p:Pos}{a:Addr}{tb:List (Str×D)}(hi:PE X i ty)(hg:Gl X nm)(hm:X.mg nm=some (.ref a))(t:KTab X.K X.w a tb)(hdb:(nm==("__debug__":Str))=false):
  PC X .In i (.Name nm p) (fun σ H Q=>ty σ H fun y H1=>∃z,y=.str z/\Q (.bl (j4 tb z).isSome) H1):=by
 intro pins s σ H Q I h;refine aX (hi pins s σ H _ I h) fun iv s1 ⟨y,H1,I1,ry,z,ey,q⟩=>yC I1 hg hm ?_ hdb;subst ey;obtain⟨es,vs,r,dd,ns⟩:=t.dict (prog:=X.prog) I1.kIn;refine wpAny_in_of (k:=(.inr z:Key)) (V9 (k:=.inr z) ry) ns dd.mapOf ?_;rw[zbU r];exact⟨.bl _,H1,I1.tok _,rfl,q⟩
theorem zhb {b:Bool}{tb:List (Str×D)}{f:E}{st:L2.St}{H:Hp}{Q:VK}(w:tE X.K X.mg Wx m (pY b tb f) st H Q):tE X.K X.mg Wx .val f st H fun y H1=>∃z,y=.str z/\Q (.bl (if b then(j4 tb z).isSome else !(j4 tb z).isSome)) H1:=by
 obtain⟨P0,H0,P,Os,env,M,r,M',k,e,q⟩:=w;unfold pY at e;rcases fQ e with⟨d,N1,e1,e⟩ |⟨c,n,e1,rfl⟩
 ·cases d<;>simp only[reduceCtorEq]at e
  rename_i z;cases e;exact dO k e1 fun P1 v1 H1 l1 h1 i1=>⟨z,i1,q P1 _ H1 l1 h1 (fV.of h1 (show Is _ _ _ (.bl _) _ from rfl))⟩
 ·exact dO k e1 q
theorem Zv (hi:SE X Wx .val i f)(hg:Gl X nm)(hm:X.mg nm=some (.ref a))(t:KTab X.K X.w a tb)(hdb:(nm==("__debug__":Str))=false:=by x_go)(hb:behindInMarks .In (.Name nm p)=false:=by rfl):ST X Wx (.Compare i [.In] [.Name nm p] pos) (pY true tb f):=
 JK (zgl (zfP hi hg hm t hdb) hb) fun _ _ _ w=>zhb (b:=true) (ZR w)
theorem Y_ (hi:SE X Wx .val i f)(hg:Gl X nm)(hm:X.mg nm=some (.ref a))(t:KTab X.K X.w a tb)(hdb:(nm==("__debug__":Str))=false:=by x_go)(hs:Ds i:=by exact fun _ _=>rfl):SE X Wx m (.Subscript (.Name nm p) i pos) (Gy tb f):=by
 have h':PE X (.Subscript (.Name nm p) i pos) (fun σ H Q=>tE X.K X.mg Wx .val f σ H fun y H1=>∃z d,y=.str z/\j4 tb z=some d/\∀v,(∀P H,Is X.K P H d v)->Q v H1):=by
  intro pins s σ H Q I h;refine zd0 PySem.F.slot_dict_getitem.lookup hs (yC I hg hm ?_ hdb);refine aX (hi pins s σ H _ I h) fun iv s2 ⟨y,H2,I2,ry,z,d,ey,ed,q2⟩=>?_;subst ey;obtain⟨es,vs,r,dd,ns⟩:=t.dict (prog:=X.prog) I2.kIn;have g:=Ot (z:=z) r;rw[ed]at g;obtain⟨u,v,e1,e2,e3⟩:=g;exact⟨dd.typeIs,wpAny_getItem_of (k:=(.inr z:Key)) (V9 (k:=.inr z) ry) dd.mapOf e1 ⟨v,H2,I2.tok _,e2,q2 v e3⟩⟩
 refine fO h' ?_;rintro st H Q ⟨P0,H0,P,Os,env,M,r,M',k,e,q⟩;unfold Gy at e;rcases fQ e with⟨d,N1,e1,e⟩ |⟨c,n,e1,rfl⟩
 ·cases d<;>simp only[reduceCtorEq]at e
  rename_i z;rw[xac]at e;obtain⟨y,ey,e⟩:=e;cases e;exact dO k e1 fun P1 v1 H1 l1 h1 i1=>⟨z,y,i1,ey,fun v iv=>q P1 v H1 l1 h1 (fV.of h1 (iv P1 H1))⟩
 ·exact dO k e1 q
end
section
variable {X:Cx}{Wx:XW}{pos:Pos}
noncomputable def CN (f:E):EA:=fun env M=>match f env M with
 |some (.v (.str z),M1)=>some (.v (z.cps.toList.map fun c=>.str ⟨#[c]⟩),M1)
 |some (.x c n,M1)=>some (.x c n,M1)
 |_=>none
theorem R8 (h:SE X Wx .val e f):SI X Wx tg e (CN f):=by
 refine JG (zf2 h) ?_;rintro st H R ⟨P0,H0,P,Os,env,M,r,M',k,e,q⟩;unfold CN at e;split at e
 ·rename_i z M1 ef;cases e;refine⟨P0,H0,P,Os,env,M,_,_,k,ef,fun P1 v1 H1 l1 h1 i1=>⟨z,i1,q P1 H1 _ l1 h1 fun P2 H2 l2=>?_⟩⟩;have hl:(z.cps.toList.map fun c=>(D.str ⟨#[c]⟩)).length=z.cps.size:=by simp
  rw[hl];refine⟨fun j hj=>hj,fun j h1 h2=>xa5 h2 h1,fun j x H' y hj=>⟨y.1,?_⟩⟩;obtain⟨c,ec,rfl⟩:=y.2;refine⟨.str ⟨#[c]⟩,?_,rfl⟩;rw[xam,xc6,ec];rfl
 ·rename_i c n M1 ef;cases e;exact⟨P0,H0,P,Os,env,M,_,_,k,ef,q⟩
 ·cases e
end
end E3
namespace L2
open PySem PySem.Spec PyProof.Rows
theorem Xf:Manifest.owners.lookup (String.ofList ['d','e','s','r','e','v','e','r'].reverse)=some Manifest.sig_reversed:=by kernel_rfl
theorem zeO:Slot "reversed" "__init__" "object.__init__":=
 .of (owner:="object") (n:="__init__") (by rw[xcy,xbX];kernel_rfl) (by x_go) (by x_go) (by x_go)
  (by first |exact .inl (by x_go) |exact .inr (by x_go)) (by rw[xcC];kernel_rfl)
theorem Gu:Slot "reversed" "__next__" "reversed.__next__":=
 .of (owner:="reversed") (n:="__next__") (by rw[xcy,xbX];kernel_rfl) (by x_go) (by x_go) (by x_go)
  (by first |exact .inl (by x_go) |exact .inr (by x_go)) (by rw[xcC];kernel_rfl)
theorem Xc:Slot "reversed" "__iter__" "reversed.__iter__":=
 .of (owner:="reversed") (n:="__iter__") (by rw[xcy,xbX];kernel_rfl) (by x_go) (by x_go) (by x_go)
  (by first |exact .inl (by x_go) |exact .inr (by x_go)) (by rw[xcC];kernel_rfl)
theorem Xe:entryFor table "reversed.__next__"=some Builtin.«reversed.__next__» :=entryFor_of_tree (by kernel_rfl)
theorem Xd (a:Value):argsOk "reversed.__next__" ⟨[a],[]⟩:=by
 unfold argsOk;rw[signature?_of (id:="reversed.__next__") (n:=['_','_','t','x','e','n','_','_']) (o:=['d','e','s','r','e','v','e','r']) (by kernel_rfl) Xf];kernel_rfl
theorem zbn:entryFor table "reversed.__iter__"=some Builtin.«dict_keyiterator.__iter__» :=
 entryFor_alias (id':="dict_keyiterator.__iter__") (by kernel_rfl) (by first |rfl |decide +kernel |(unfold String.splitOn;simp +decide [String.splitOnAux])) (by x_go) (by kernel_rfl)
theorem zbv (a:Value):argsOk "reversed.__iter__" ⟨[a],[]⟩:=by
 unfold argsOk;rw[signature?_of (id:="reversed.__iter__") (n:=['_','_','r','e','t','i','_','_']) (o:=['d','e','s','r','e','v','e','r']) (by kernel_rfl) Xf];kernel_rfl
theorem zck:TypeCalled "reversed" "reversed.__new__" "object.__init__":=
 ⟨by x_go,by x_go,⟨_,_,F.mro_reversed⟩,F.made_reversed,F.plain_reversed_new,F.sub_reversed_self,zeO⟩
theorem zej:typeLookup (.type "tuple") "__reversed__"=pure none:=by rw[xcy,xbX];kernel_rfl
theorem zdS:isSubtype (.type "tuple") (.type "dict")=pure false:=by rw[xcC];kernel_rfl
noncomputable def Xh (a:Addr) (i:Int):Obj:={cls:=.type "reversed",data:=.fields #[.ref a,rawInt i]}
def pG (h:Heap)(a t:Addr)(i:Int):Prop:=∃o,h.get? a=some o/\o.cls=.type "reversed"/\o.data=.fields #[.ref t,rawInt i]
theorem pG.typeIs {s:Shared}{a l:Addr}{i:Int}(x:pG s.heap a l i):s.TypeIs (.ref a) "reversed":=let ⟨o,ho,hc,_⟩:=x;⟨o,ho,hc⟩
theorem pG.at (x:pG h a l i)(e:∀o,h.get? a=some o->h'.get? a=some o):pG h' a l i:=let ⟨o,ho,r⟩:=x;⟨o,e _ ho,r⟩
theorem zgf (t : Addr) (items : Array Value) : Meets (Builtin.«reversed.__new__» ⟨[.type "reversed", .ref t], []⟩) (fun _ R s=>IsTup s.heap t items/\(items.size:Int)<2 ^ 63/\
    R (.ok (.ret (.ref s.heap.objs.size))) {s with heap:=s.heap.push (Xh t ((items.size:Int) - 1)),toks:=s.toks + 1 + 1}):=
  .of_wp fun prog w A R s ⟨ht,hf,h⟩=>by
    unfold Builtin.«reversed.__new__»;refine tG (xb5 (newClass_reversed _) ?_)
    try dsimp only
    refine tG (xb5 (a:=()) (by first |rfl |kernel_rfl) ?_)
    refine tG (xb5 (a:=()) (by first |rfl |kernel_rfl) ?_)
    try dsimp only
    refine tG (xcw ht.typeIs zej ?_)
    try dsimp only
    refine tG ?_;show wpAny _ _ (do
      if <-isInstance (.ref t) (.type "dict") then return false
      match <-specialOf (.ref t) "__getitem__" with
      |none=>return false
      |some (.builtin id)=>
        if ["tuple.__getitem__","str.__getitem__","bytes.__getitem__","bytearray.__getitem__","memoryview.__getitem__","numpy.ndarray.__getitem__","sqlite3.Row.__getitem__"].contains id then return true
        if id=="sqlite3.Blob.__getitem__" then return false
        unsupported "reversed.__new__:is-it-a-sequence"
      |some _=>return true:Sem Bool) _ _ s
    refine tG (wpAny_isInstance ht.typeIs zdS ?_);rw[xah (by decide)];refine tG (xcw ht.typeIs xcF.lookup ?_)
    try dsimp only
    rw[xab (by x_go)];refine xaf ?_;rw[xah (by decide)];refine tG (len_tuple ht hf ?_);refine tG (m:=asInt? _) (xb5 (a:=some (items.size:Int)) (by first |rfl |kernel_rfl) ?_)
    try dsimp only
    unfold Builtin.SmallTypes.newRecord
    try dsimp only
    refine tG (xaJ ?_ (by size_fits));exact xaf ⟨_,rfl,h⟩
section
variable {prog:Program}{w:World}{A:Around}{E:Value->Shared->Prop}{s:Shared}
theorem zdu (ht:IsTup s.heap t items)(hf:(items.size:Int)<2 ^ 63)
  (h:Q (.ref s.heap.objs.size) {s with heap:=s.heap.push (Xh t ((items.size:Int) - 1)),toks:=s.toks + 1 + 1}):wpAny (model prog w) A (call (.type "reversed") [.ref t]) Q E s:=
 callType_new zck (by decide) (F.typeCall_reversed_1 _) (F.newCall_reversed_1 _) (fun obj=>F.args_object_init_2 obj _) F.entry_reversed_new (zgf t items) ⟨ht,hf,⟨_,xas _ rfl,rfl⟩,h⟩
theorem V5 {it l:Addr}{i:Int}{Q:Value->Shared->Prop}(hit:pG s.heap it l i)(h:Q (.ref it) s):wpAny (model prog w) A (pyIter (.ref it)) Q E s:=by
 refine wpAny_pyIter_slot hit.typeIs Xc (xcm Xc hit.typeIs zbn ?_ (zbv _));show wpAny _ _ (ret (.ref it)) _ _ s;exact xaf ⟨_,rfl,"reversed",_,hit.typeIs,Gu.lookup,h⟩
theorem zc9 {it l:Addr}{i:Nat}{items:Array Value}{x:Value}{Q:Option Value->Shared->Prop}(hit:pG s.heap it l (i:Int))(hl:IsTup s.heap l items)(hx:items[i]? =some x)(hf:(items.size:Int)<2 ^ 63)
  (hQ:∀h',pG h' it l ((i:Int) - 1)->Heap.SameBut it s.heap h'->Q (some x) {s with heap:=h',toks:=s.toks + 1}):wpAny (model prog w) A (pyNext (.ref it)) Q E s:=by
 obtain⟨o,ho,hc,hd⟩:=id hit;have hi:i<items.size:=by
  rcases xaO i items.size with z |z
  ·exact z
  ·rw[Array.getElem?_eq_none z]at hx;cases hx
 unfold pyNext;refine tG (xdh (xcf (name:=Str.ofString "__next__") hit.typeIs Gu
  (xcm Gu hit.typeIs Xe ?_ (Xd _))))
 unfold Builtin.«reversed.__next__»;refine tG (xb5 (a:=(Value.ref it,[])) rfl ?_)
 try dsimp only
 refine tG (xbd ho hd (x:=.ref l) rfl ?_);refine tG (xbd ho hd (x:=rawInt (i:Int)) rfl ?_);show wpAny _ _ (if (i:Int)<0 then _ else _) _ _ s
 rw[xah (by omega)];refine tG (xcw hl.typeIs xcF.lookup ?_);rw[xah (by simp)];refine tG (wpAny_mkInt ?_);refine tG (xdh (getItem_tuple (k:=(i:Int)) (j:=i) (s:={s with toks:=s.toks + 1}) hl (by omega) (by omega) ?_ hx ?_))
 ·exact seqIndex_of (by omega) (by omega)
 show wpAny _ _ (field (Value.ref it) 1 >>= _) _ _ _;refine tG (xbd (s := { s with toks := s.toks + 1 }) ho hd (x := rawInt (i : Int)) rfl ?_);show wpAny _ _ (setField (Value.ref it) 1 (rawInt ((i : Int) - 1)) >>= _) _ _ _;refine tG (xbU (s := { s with toks := s.toks + 1 }) ho hd (by simp) ?_);refine xaf ⟨x, rfl, xaf (hQ _ ?_ (xcA ..))⟩;exact ⟨_,xbW _ ho (xbV (xaX hd _)),(Obj.cls_mapFields ..).trans hc,by
  rw[xaX hd];simp⟩
theorem zea {it l:Addr}{Q:Option Value->Shared->Prop}(hh:A.handled=none)(hit:pG s.heap it l (-1))
  (hQ:∀h',Heap.ExtBut it s.heap h'->Q none {s with heap:=h'}):wpAny (model prog w) A (pyNext (.ref it)) Q E s:=by
 obtain ⟨o, ho, hc, hd⟩ := id hit;unfold pyNext;refine tG (xdh (xcf (name:=Str.ofString "__next__") hit.typeIs Gu
  (xcm Gu hit.typeIs Xe ?_ (Xd _))))
 unfold Builtin.«reversed.__next__»;refine tG (xb5 (a:=(Value.ref it,[])) rfl ?_)
 try dsimp only
 refine tG (xbd ho hd (x:=.ref l) rfl ?_);refine tG (xbd ho hd (x:=rawInt (-1)) rfl ?_);show wpAny _ _ (if (-1:Int)<0 then _ else _) _ _ s
 rw[xab (by decide)];refine tG (wpAny_rule ?_);refine tG ?_;show wpAny _ _ (setField (.ref it) 1 (rawInt (-1)) >>=fun _=>setField (.ref it) 0 .none) _ _ s;refine tG (xbU ho hd (by simp) ?_);refine xbU (xbW _ ho (xbV (xaX hd _))) (xaX hd _) (by simp) ?_;refine tG ?_;show wpAny _ _ (newExc (.type "StopIteration") [] >>=_) _ _ _;refine tG ?_;simp only[newExc,newTuple];refine tG (xaJ ?_ (by size_fits));refine tG (m:=firstArgMember _ _) (xb5 (a:=Value.none) (by first |rfl |(simp only[firstArgMember];rfl)) ?_)
 refine xaJ ?_ (by size_fits);simp only[raiseNew];refine tG (wpAny_handled ?_)
 first |rw[show A.in1.handled=none from hh] |rw[hh]
 refine tG (xaf (wpAny_throw ?_));refine tG (wpAny_isInstance (T:="StopIteration") (b:=true) ⟨_,xas _ rfl,rfl⟩ isSubtype_stop ?_);exact xaf (hQ _ ((((xcA _ _ _).extBut).trans ((xcA _ _ _).extBut)).push _ |>.push _))
end
noncomputable def Ud (K:Fgx) (a:Addr) (n:Nat):It:=
 ⟨fun i H=>i<n/\∃xs,kW K H a xs/\xs.length=n,fun i H x H'=>H'=H/\∀xs,kW K H a xs->xs[n - 1 - i]? =some x,fun i _=>i=n⟩
theorem zdd {P:Program}{w:World}{K:Fgx}{tg:Expr}(a it:Addr)(n:Nat):Turn P w K tg (Ud K a n) [it] it (fun i h=>pG h it a ((n:Int) - 1 - (i:Int))) where
 mem:=by simp
 obj:=fun i h st b hb=>by
  have e:b=it:=by simpa using hb
  subst e;obtain⟨o,e,c,d⟩:=st;exact⟨o,e,fun v z=>by rw[d]at z;cases z⟩
 keep:=fun i h h' st k=>st.at fun o e=>k it (by simp) o e
 item:=by
  intro X hP hw hK hc i pins s σ H E I hf st hg;subst hP hw hK;obtain⟨hi,xs,hq,hlen⟩:=hg;obtain⟨its,rv,p,hz⟩:=I.tuple hq;have hx:xs[n - 1 - i]? =some (xs[n - 1 - i]'(by omega)):=xai (by omega);obtain⟨u,hu,ru⟩:=rv.get hx;obtain⟨f0,f1,f2,f3,f4,f5⟩:=hf it (by simp);have e:(n:Int) - 1 - (i:Int)=((n - 1 - i:Nat):Int):=by omega
  have st0:pG s.heap it a ((n - 1 - i:Nat):Int):=by rw[<-e];exact st
  have hn:=yD;have hl:=rv.length;refine zc9 st0 p (x:=u) (by simpa using hu) (by simp only[xae];omega) fun h' st' sb=>?_;have e2:((n - 1 - i:Nat):Int) - 1=(n:Int) - 1 - ((i + 1:Nat):Int):=by omega
  rw[e2]at st';have I1:Inv X pins σ H {s with heap:=h',toks:=s.toks + 1}:=I.turned (t':=s.toks + 1) (fun b o hb e=>(sb.2 b hb).trans e) f0 f1 f3 f4 f5;obtain⟨o,eo,c,d⟩:=id st';exact⟨u,rfl,CK (s:={s with heap:=h',toks:=s.toks + 1}) eo c d (by decide) ⟨_,H,I1,ru,⟨rfl,fun ys hy=>by rw[I.tuple_inj hy hq];exact hx⟩,st',fun b hb=>(hf b hb).1⟩⟩
 done:=by
  intro X hP hw hK hc i pins s σ H E I hf st hg;subst hP hw hK;have hg':i=n:=hg;subst hg';obtain⟨f0,f1,f2,f3,f4,f5⟩:=hf it (by simp);have e:(i:Int) - 1 - (i:Int)= -1:=by omega
  have st0:pG s.heap it a (-1):=by rw[<-e];exact st
  exact zea (I.ok.hd hc) st0 fun h' eb=>⟨rfl,I.turned (t':=s.toks) (fun b o hb e=>eb b o hb e) f0 f1 f3 f4 f5⟩
 self:=fun _ _ _ _ _ st h=>V5 st h
section
variable {X:Cx}{tg:Expr}
noncomputable def zhE (K:Fgx) (ta:TA):TI:=fun σ H R=>ta σ H fun vs H1=>∃a xs,vs=[.ref a]/\kW K H1 a xs/\R (Ud K a xs.length) H1
theorem zfn (hg:Gl X "reversed")(hm:X.mg "reversed"=none)(ha:PA X [a] ta)(hs:starEach [a] X.env=[(false,eval a X.env)]:=by rfl):PI X tg (.Call (.Name "reversed" p) [a] [] pos) (zhE X.K ta):=by
 intro pins s σ H R I h;refine Call_ (FP I hg hm boot_reversed (xbY (aX (ha pos pins s σ H _ I h) fun us s1 ⟨vs,H1,I1,r1,q1⟩=>?_) hs rfl));obtain⟨b,xs,e,hq,q⟩:=q1;subst e;obtain⟨u,e,ru⟩:=vals1 r1;subst e;cases ru;obtain⟨its,rv,pl,hz⟩:=I1.tuple hq;have hlen:its.toArray.size=xs.length:=by rw[xae];exact rv.length.symm
 have hn:=yD;refine zdu pl (by rw[hlen];omega) ?_;rw[hlen];refine V5 (l:=b) (i:=(xs.length:Int) - 1) ⟨_,xas _ rfl,rfl,rfl⟩ ?_;refine⟨s1.heap.objs.size,[s1.heap.objs.size],_,_,H1,rfl,I1.kept (t':=s1.toks + 1 + 1) fun b o e=>xaa _ e,zdd b _ xs.length,?_,fun c hc=>?_,q⟩
 ·have e:(xs.length:Int) - 1 - ((0:Nat):Int)=(xs.length:Int) - 1:=by omega
  show pG _ _ b ((xs.length:Int) - 1 - ((0:Nat):Int));rw[e];exact⟨_,xas _ rfl,rfl,rfl⟩
 ·have e:c=s1.heap.objs.size:=by simpa using hc
  subst e;exact I1.fpOk (xag _) (I1.hok.fresh (xag _))
end
end L2
namespace E3
open PySem PySem.Spec PyProof.Rows L2
section
variable {X:Cx}{Wx:XW}{m:Mode}{pos:Pos}
noncomputable def tL (f:E) (ps:EJ):EJ:=fun out env M=>bnd (f env M) fun d M1=>match d with
 |.str z=>if (reprText z).length<=sizeLine/\(out ++ reprText z).length<=sizeLine then ps (out ++ reprText z) env M1 else none
 |_=>none
theorem zgo (he:PE X e te)(hv:PJ X vs tj):PJ X (.FormattedValue e 114 none pos::vs) (fun out σ H Q=>te σ H fun v H1=>∃z,v=.str z/\(reprText z).length<=sizeLine/\(out ++ reprText z).length<=sizeLine/\tj (out ++ reprText z) σ H1 Q):=fun pins s σ H out Q I h=>by
 refine joinParts_cons (wpAny_FormattedValue_repr (aX (he pins s σ H _ I h) fun u s1 ⟨x,H1,I1,r1,z,ez,hz,hl,q⟩=>?_));subst ez;obtain⟨t,rfl⟩:=r1;refine pyReprObj_str ?_ hz;exact formatField_str (fun t' tk=>⟨hl,hv pins _ σ H1 _ Q (I1.tok _) q⟩) hz
theorem zfX (he:SE X Wx .val e f)(h:SJ X Wx vs ps):SJ X Wx (.FormattedValue e 114 none pos::vs) (tL f ps):=by
 refine JH (zgo he h) ?_;rintro out st H Q ⟨P0,H0,P,Os,env,M,r,M',k,e,q⟩;unfold tL at e;rcases fQ e with⟨d,M1,e1,e⟩ |⟨c,n,e1,rfl⟩
 ·cases d<;>simp only[reduceCtorEq]at e
  rename_i z;split at e
  ·rename_i hl;exact dO k e1 fun P1 v1 H1 l1 h1 i1=>⟨z,i1,hl.1,hl.2,P0,H0,P1,Os,env,M1,r,M',k.next l1 h1,e,RQ.imp l1 q⟩
  ·cases e
 ·exact dO k e1 q
theorem zhV (hg:Gl X nm)(hm:X.mg nm=some (.ref a))(hd:∀P H,Is X.K P H d (.ref a))(hdb:(nm==("__debug__":Str))=false:=by x_go):SE X Wx m (.Name nm p) (ak d):=
 (KC (w5 hg hm (v:=.ref a) rfl hdb) hd).bor
theorem V1 {K:Fgx}{a:Addr}{o:Obj}{its:Array Value}{n:Nat}{ds:List D}{vs:List V}(l:K.lookup a=some o)(c:o.cls=.type "tuple")(e:o.data=.seq its n)(z:its.size<=sizeLine)(r:Vals vs its.toList)(i:∀P H,aH K P H ds vs):∀P H,Is K P H (.tup ds) (.ref a):=
 fun P H=>⟨a,vs,rfl,.inr ⟨o,its,n,l,c,e,z,r⟩,i P H⟩
def pC (P:Program)(w:World)(K:Fgx)(mg:Mgx)(base:Heap)(k:Nat)(C:Addr)(m:Str)(n:Nat)(g:G):Prop:=
 ∃f fd ps ds dvs sp,Meth K C m f/\FnOk P w K mg base lK k f fd ps sp/\Binds K fd ps ds/\Vals dvs ds/\∀vs H Q E,t_ K mg n g vs H Q E->sp (vs ++ dvs) H Q E
theorem pC.mono {P:Program}{w:World}{K:Fgx}{mg:Mgx}{base:Heap}{j k:Nat}{C:Addr}{m:Str}{n:Nat}{g:G}(a:pC P w K mg base j C m n g)(h:j<=k):pC P w K mg base k C m n g:=by
 obtain⟨f,fd,ps,ds,dvs,sp,h1,h2,h3⟩:=a;exact⟨f,fd,ps,ds,dvs,sp,h1,h2.mono h,h3⟩
structure OwnIs (K:Fgx)(C:Addr):Prop where
 ca:PySem.W.findIn K (.ref C) "__class__"=some (some (.builtin "object.__class__"))
 gt:PySem.W.specialIn K (.builtin "object.__class__") "__get__"=some (some (.builtin "getset_descriptor.__get__"))
 tk:PySem.W.takesIn K (.builtin "object.__class__")=some true
 mr:PySem.W.mroIn K C (.type "object")=some true
 me:PySem.W.kitOne K (.ref C) (.ref C)=some true
noncomputable def eU (c:Str) (f:E):E:=fun env M=>bnd (f env M) fun d M1=>match mL M1 c d with
 |some _=>some (.v (.bl true),M1)
 |none=>none
noncomputable def tD (fs:EA):EA:=fun env M=>match fs env M with
 |some (.v [.tup ds],M1)=>some (.v ds.reverse,M1)
 |some (.x c n,M1)=>some (.x c n,M1)
 |_=>none
theorem Zh (hg:Gl X "reversed")(hm:X.mg "reversed"=none)(ha:SA X Wx .val [a] fs)(hs:starEach [a] X.env=[(false,eval a X.env)]:=by rfl):SI X Wx tg (.Call (.Name "reversed" p) [a] [] pos) (tD fs):=by
 refine JG (zfn hg hm ha hs) ?_;rintro st H R ⟨P0,H0,P,Os,env,M,r,M',k,e,q⟩;unfold tD at e;split at e
 ·rename_i ds M1 ef;cases e;refine⟨P0,H0,P,Os,env,M,_,_,k,ef,fun P1 vs H1 l1 h1 i1=>?_⟩;obtain⟨v,ws,rfl,i1,rfl⟩:=i1;obtain⟨a,us,rfl,ra,is⟩:=i1;refine⟨a,us,rfl,ra,q P1 H1 _ l1 h1 fun P2 H2 l2=>?_⟩;have ra2:=l2.tup ra;have is2:=aH.lt l2 is;have hn:us.length=ds.length:=is2.len;rw[xaG];refine⟨fun j hj=>⟨by omega,us,ra2,rfl⟩,fun j h1 h2=>by show j=us.length;omega,fun j x H' y hj=>⟨y.1,?_⟩⟩;have hj':ds.length - 1 - j<ds.length:=by omega
  obtain⟨v,ev,iv⟩:=aH.get is2 (xai hj');have:=y.2 us ra2;rw[hn,ev]at this;cases this;exact⟨_,by rw[List.getElem?_reverse hj,xai hj'],iv⟩
 ·rename_i c n M1 ef;cases e;exact⟨P0,H0,P,Os,env,M,_,_,k,ef,q⟩
 ·cases e
end
end E3
namespace E3
open PySem L2
noncomputable def dg (n:Nat):List Nat:=(Nat.toDigits 10 n).map Char.toNat
theorem D_ (n:Nat):NumText.AllDigits (dg n):=fun c hc=>by
 obtain⟨d,hd,rfl⟩:=xbi.mp hc;have h:=Nat.isDigit_of_mem_toDigits (by decide) (by decide) hd;simp only[Char.isDigit,xal,xaN]at h;exact⟨h.1,h.2⟩
theorem Jm (n:Nat):dg n≠ []:=fun e=>Nat.toDigits_ne_nil (xdj.mp e)
theorem Jl (h1:1<=k)(h:n<10 ^ k):(dg n).length<=k:=by
 rw[dg,xao];exact toDigits_len_pow (by decide) h1 h
theorem zes:dg 0=[48]:=by x_go
theorem Vj (n:Nat)(h:n≠0):∃c r,dg n=c::r/\49<=c:=by
  induction n using Nat.strongRecOn with
  |ind n ih=>
    unfold dg;rw[Nat.toDigits_eq_if (by decide)]
    by_cases hn:n<10
    · rw[xab hn];exact⟨(Nat.digitChar n).toNat,[],rfl,(show ∀n<10,n≠0->49<=(Nat.digitChar n).toNat by decide) n hn h⟩
    · rw[xah hn];obtain⟨c,r,e,hc⟩:=ih (n / 10) (by omega) (by omega);unfold dg at e;exact⟨c,r ++ _,by rw[xcr,e];rfl,hc⟩
noncomputable def b_ (i:Int):Str:=Str.ofString (toString i)
theorem Dh (h:0<=i):(b_ i).cps.toList=dg i.toNat:=by
 have:=W.KIN.signs_num i.toNat;rw[xdk h]at this;exact this
theorem KJ (h:i<0):(b_ i).cps.toList=45::dg i.natAbs:=by
 obtain⟨m,rfl⟩:∃m,i=Int.negSucc m:=by
  cases i with
  |ofNat n=>exact absurd h (by simp)
  |negSucc m=>exact⟨m,rfl⟩
 unfold b_ dg;rw[PyProof.Rows.signs_ofString];show List.map Char.toNat ("-" ++ toString (m + 1)).toList=_;rw[String.toList_append,xcr,Nat.toString_eq_ofList_toDigits]
 simp
theorem R6 (h1:1<=k)(h:i.natAbs<10 ^ k):(b_ i).length<=k + 1:=by
 show(b_ i).cps.size<=k + 1;rw[<-xbf]
 by_cases h0:0<=i
 ·rw[Dh h0];have:=Jl (n:=i.toNat) h1 (by rw[<-Int.natAbs_of_nonneg h0]at *;simpa using h);omega
 ·rw[KJ (by omega),xar];have:=Jl h1 h;omega
theorem VL (h:i.natAbs<10 ^ 600):intText? (b_ i)=some i:=by
 have hl:=R6 (by decide) h
 by_cases h0:0<=i
 ·rw[intText_digits (by rw[Dh h0];exact D_ _) (by rw[Dh h0];exact Jm _) (by omega),Dh h0];have:=W.KIN.val_back i.toNat;unfold dg;rw[this,xdk h0]
 ·rw[intText_neg (KJ (by omega)) (D_ _) (Jm _) (by omega)];have:=W.KIN.val_back i.natAbs;unfold dg;rw[this];congr 1;omega
noncomputable def cd (s:Str):List Nat:=s.cps.toList
theorem zfq (h:cd a=cd b):a=b:=by
 obtain⟨x⟩:=a;obtain⟨y⟩:=b;have:x=y:=Array.toList_inj.mp h;rw[this]
theorem UL (a b:Str):cd (a ++ b)=cd a ++ cd b:=by
 unfold cd;rw[Str.cps_append,Array.toList_append]
theorem zdx (h:cd x=c::r):cd (Txt.slice x (some 1) none)=r:=by
 have hl:(cd x).length=r.length + 1:=by rw[h];rfl
 have:=PyProof.Rows.slice_closes_from (x:=x) (i:=1) ⟨by decide,by show(1:Int)<=((cd x).length:Int);omega⟩;have e:=eq_of_beq this;rw[e];show List.take (((cd x).length:Int) - 1).toNat (List.drop (1:Int).toNat (cd x))=r;rw[h]
 simp
theorem zco (h:cd x=c::r):Txt.startswith x (Str.ofString "-")=decide (c=45):=by
 have hl:x.length=r.length + 1:=by
  show x.cps.size=_;rw[<-xbf];show(cd x).length=_;rw[h];rfl
 have e1:(Str.ofString "-").cps= #[45]:=by x_go
 have e2:(Str.ofString "-").length=1:=by x_go
 unfold Txt.startswith Builtin.Str.subAt;rw[e1,e2,hl];have e3:x.cps=(c::r).toArray:=by
  rw[<-h];simp[cd]
 rw[e3,xbB (by omega),Bool.true_and];have e4:((c::r).toArray).extract 0 (0 + 1)= #[c]:=by simp
 rw[e4];rw[xaH]
 simp
theorem Bc (x:Str):x.length=(cd x).length:=by
 show x.cps.size=x.cps.toList.length
 simp
theorem Nj:x=y ↔ cd x=cd y:=⟨fun h=>by rw[h],zfq⟩
theorem Ea:(x=Str.ofString "")=(cd x=[]):=propext (Nj.trans (by rw[show cd (Str.ofString "")=[] by x_go]))
theorem eq_0:(x=Str.ofString "0")=(cd x=[48]):=propext (Nj.trans (by rw[show cd (Str.ofString "0")=[48] by x_go]))
theorem Vn:(x=Str.ofString "-0")=(cd x=[45,48]):=propext (Nj.trans (by rw[show cd (Str.ofString "-0")=[45,48] by x_go]))
theorem Nk (c:Nat):cd ⟨#[c]⟩=[c]:=rfl
noncomputable def m7 (c:Nat):Bool:=decide (48<=c) && decide (c<=57)
theorem zfm (c:Nat):yu ⟨#[c]⟩ (Str.ofString "0123456789")=m7 c:=by
 by_cases h:c<58
 ·exact(show ∀c<58,yu ⟨#[c]⟩ (Str.ofString "0123456789")=m7 c by x_go) c h
 ·unfold yu m7;rw[StrLaws.found_one,xaH];simp only[xaN,xal];exact⟨fun m=>absurd ((show ∀x∈(Str.ofString "0123456789").cps.toList,x<58 by x_go) c m) h,fun m=>absurd (Nat.lt_succ_of_le m.2) h⟩
noncomputable def lH (cs:List Nat):Bool:= !decide (cs=[]) && cs.all m7 && (decide (cs=[48]) || !decide (cs.head? =some 48))
theorem zeH (cs:List Nat):((cs.map fun c=> !m7 c).any id)= !cs.all m7:=by
 induction cs with
 |nil=>rfl
 |cons c r ih=>simp only[xaA,xbH,xbv,ih,id,Bool.not_and]
noncomputable def mD (cs:List Nat):List Nat:=if cs.head? =some 45 then cs.tail else cs
def good (cs:List Nat):Bool:= !decide (cs=[45,48]) && lH (mD cs)
noncomputable def Hg (cs:List Nat):Int:=if cs.head? =some 45 then -((NumText.digitsVal cs.tail:Nat):Int) else((NumText.digitsVal cs:Nat):Int)
theorem zhx (x:Str):Txt.startswith x (Str.ofString "-")=decide ((cd x).head? =some 45):=by
  cases h:cd x with
  |nil=>
    have:x=Str.ofString "":=by rw[Ea];exact h
    rw[this]
    decide +kernel
  |cons c r=>
    rw[zco h]
    simp
theorem zib (h:cs.all m7=true):NumText.AllDigits cs:=fun c hc=>by
 have:=xa7.mp h c hc;unfold m7 at this
 simpa using this
theorem NP (h:lH cs=true):cs≠ []/\NumText.AllDigits cs/\(cs=[48]\/cs.head? ≠some 48):=by
 unfold lH at h;simp only[xal,xbJ,xcO,xaN,decide_eq_false_iff_not]at h;exact⟨h.1.1,zib h.1.2,h.2⟩
theorem VJ (h:lH (mD (cd x))=true)(hl:x.length<=600):intText? x=some (Hg (cd x)):=by
 obtain⟨h1,h2,h3⟩:=NP h;unfold mD at h1 h2;unfold Hg
 by_cases hh:(cd x).head? =some 45
 ·rw[xab hh]at h1 h2 ⊢;obtain⟨r,e⟩:∃r,cd x=45::r:=by
   cases hc:cd x with
   |nil=>rw[hc]at hh;cases hh
   |cons c r=>rw[hc]at hh;simp at hh;exact⟨r,by rw[hh]⟩
  rw[e,xc9]at h1 h2 ⊢;exact intText_neg e h2 h1 (by omega)
 ·rw[xah hh]at h1 h2 ⊢;exact intText_digits h2 h1 (by omega)
theorem zgC (x:Str):(Txt.lstripChars x (Str.ofString "-")).length=x.length - ((cd x).takeWhile fun c=>decide (c=45)).length:=by
 have hg:(fun c=>((Str.ofString "-").cps.contains c:Bool))=fun c=>decide (c=45):=by
  funext c;rw[show(Str.ofString "-").cps= #[45] by x_go]
  simp
 have hlo:stripLo (Str.ofString "-").cps.contains true x=((cd x).takeWhile fun c=>decide (c=45)).length:=by
  unfold stripLo;rw[xab rfl];show((cd x).takeWhile fun c=>((Str.ofString "-").cps.contains c:Bool)).length=_;rw[hg]
 have hle:=PyProof.Rows.takeWhile_len_le (fun c=>decide (c=45)) (cd x);unfold Txt.lstripChars Txt.stripBy
 split
 ·rename_i h;unfold stripSame at h;rw[xal,xbb,hlo]at h;omega
 ·unfold stripped;rw[hlo];show(x.cps.extract _ (stripHi _ false x _)).size=_;unfold stripHi;rw[xah (by decide),Array.size_extract];show min x.cps.size x.cps.size - _=x.cps.size - _;omega
theorem zeW (h:good (cd x)=true):(Txt.lstripChars x (Str.ofString "-")).length=(mD (cd x)).length:=by
  unfold good at h;rw[xal]at h;obtain⟨h1,h2,h3⟩:=NP h.2;rw[zgC,Bc];have no:∀cs:List Nat,NumText.AllDigits cs->(cs.takeWhile fun c=>decide (c=45))=[]:=fun cs hd=>by
    cases cs with
    |nil=>rfl
    |cons c r=>
      have:=hd c xaF;rw[xdl,xah (by simp;omega)]
  unfold mD at h1 h2 ⊢
  by_cases hh:(cd x).head? =some 45
  · rw[xab hh]at h1 h2 ⊢;obtain⟨r,e⟩:∃r,cd x=45::r:=by
      cases hc:cd x with
      |nil=>rw[hc]at hh;cases hh
      |cons c r=>rw[hc]at hh;simp at hh;exact⟨r,by rw[hh]⟩
    rw[e,xc9]at h1 h2 ⊢;rw[xdl,xab (by simp),no _ h2]
    simp
  · rw[xah hh]at h1 h2 ⊢;rw[no _ h2]
    simp
theorem FQ (h:n<340282366920938463463374607431768211456):n.log2<1920:=by
 by_cases h0:n=0
 ·rw[h0];decide
 ·have:=(Nat.log2_lt h0 (k:=128)).mpr h;omega
section
variable {env:Env}{M M1:Mm}{f g h c:E}{d e:D}{i j:Int}{n k:Nat}{z:Str}{b:Bool}{ds es:List D}{s t:S}{x:Str}{fa:EA}{u:G}
theorem zeL {q:D->Mm->OS}:gJ q (some (.x x i,M))=some (.ex x i,M):=rfl
theorem zep {q:D->Mm->O}:gH q (some (.x x i,M))=some (.x x i,M):=rfl
theorem zeV {q:List D->Mm->O}:sS q (some (.x x i,M))=some (.x x i,M):=rfl
theorem zdZ {q:Mm->Option (ResA×Mm)}:Nr q (some (.x x i,M))=some (.x x i,M):=rfl
theorem ze3:wN d (some (.x x i,M))=some (.x x i,M):=rfl
def Ov (q:List D->O):Option Cl->O
 |some (.lst ds)=>q ds
 |_=>none
theorem ziV {q:List D->O}:Ov q (some (.lst ds))=q ds:=rfl
noncomputable def w6 (M:Mm) (k:Nat) (ds:List D):Option D->O
 |some z=>some (.v z,M.set k (.lst ds.dropLast))
 |none=>none
theorem W9:w6 M k ds (some d)=some (.v d,M.set k (.lst ds.dropLast)):=rfl
noncomputable def Gi (M:Mm):D->O
 |.ref k=>Ov (fun ds=>w6 M k ds ds[ds.length - 1]?) M[k]?
 |_=>none
theorem zha:Gi M (.ref k)=Ov (fun ds=>w6 M k ds ds[ds.length - 1]?) M[k]? :=rfl
theorem ziK:nA f env M=gH (fun d M1=>Gi M1 d) (f env M):=rfl
noncomputable def FT (q:List D->OS):Option Cl->OS
 |some (.lst ds)=>q ds
 |_=>none
theorem zh9 {q:List D->OS}:FT q (some (.lst ds))=q ds:=rfl
noncomputable def Dy (env:Env) (g:Mm->O) (M:Mm):D->OS
 |.ref k=>FT (fun _=>gJ (fun y M2=>FT (fun ds=>if ds.length<sizeLine then some (.nx env,M2.set k (.lst (ds ++ [y]))) else none) M2[k]?) (g M)) M[k]?
 |_=>none
theorem zfr {q:Mm->O}:Dy env q M (.ref k)=FT (fun _=>gJ (fun y M2=>FT (fun ds=>if ds.length<sizeLine then some (.nx env,M2.set k (.lst (ds ++ [y]))) else none) M2[k]?) (q M)) M[k]? :=rfl
theorem zft:pW f g env M=gJ (fun d M1=>Dy env (g env) M1 d) (f env M):=rfl
theorem zgw (h:M[k]? =some (.lst ds)):vw M (.ref k)=.lst ds:=by unfold vw;simp only[h]
noncomputable def DG (q:List D->Mm->O):Option (ResA×Mm)->O
 |some (.v ds,M)=>q ds M
 |_=>none
theorem zg2 {q:List D->Mm->O}:DG q (some (.v ds,M))=q ds M:=rfl
theorem zet:JV u fa env M=DG (fun ds M1=>u ds M1) (fa env M):=rfl
theorem Rb:xH x f env M=gJ (fun _ M1=>some (.ex x 0,M1)) (f env M):=rfl
noncomputable def Fz (b:Bool) (tb:List (Str×D)) (M:Mm):D->O
 |.str z=>some (.v (.bl (if b then(j4 tb z).isSome else !(j4 tb z).isSome)),M)
 |_=>none
theorem zjp {tb:List (Str×D)}:Fz b tb M (.str z)=some (.v (.bl (if b then(j4 tb z).isSome else !(j4 tb z).isSome)),M):=rfl
theorem zhw {tb:List (Str×D)}:pY b tb f env M=gH (fun d M1=>Fz b tb M1 d) (f env M):=rfl
noncomputable def Wa (tb:List (Str×D)) (M:Mm):D->O
 |.str z=>(j4 tb z).map fun y=>(.v y,M)
 |_=>none
theorem zgj {tb:List (Str×D)}:Wa tb M (.str z)=(j4 tb z).map fun y=>(.v y,M):=rfl
theorem zfG {tb:List (Str×D)}:Gy tb f env M=gH (fun d M1=>Wa tb M1 d) (f env M):=rfl
noncomputable def ZV:O->Option (ResA×Mm)
 |some (.v (.str z),M1)=>some (.v (z.cps.toList.map fun c=>.str ⟨#[c]⟩),M1)
 |some (.x c n,M1)=>some (.x c n,M1)
 |_=>none
theorem zjx:CN f env M=ZV (f env M):=rfl
theorem zjD:ZV (some (.v (.str z),M))=some (.v (z.cps.toList.map fun c=>.str ⟨#[c]⟩),M):=rfl
noncomputable def Gw:Option (ResA×Mm)->Option (ResA×Mm)
 |some (.v [.tup ds],M1)=>some (.v ds.reverse,M1)
 |some (.x c n,M1)=>some (.x c n,M1)
 |_=>none
theorem zhc:tD fa env M=Gw (fa env M):=rfl
theorem zg9:Gw (some (.v [.tup ds],M))=some (.v ds.reverse,M):=rfl
noncomputable def Wo (o:Str->List D->Option D) (q:Mm->Option (ResA×Mm)) (M:Mm):D->O
 |.str y=>wH (o y) (q M)
 |_=>none
theorem Rx {o:Str->List D->Option D}{q:Mm->Option (ResA×Mm)}:Wo o q M (.str z)=wH (o z) (q M):=rfl
theorem Q_ {o:Str->List D->Option D}:Dd o f fa env M=gH (fun d M1=>Wo o (fa env) M1 d) (f env M):=rfl
theorem Tr {y:Str}:K3 z [.str y]=some (.bl (Txt.startswith z y)):=rfl
theorem Tp {y:Str}:KZ z [.str y]=if z.length<=sizeLine then some (.str (Txt.lstripChars z y)) else none:=rfl
theorem Q0 {ps:EJ}:mR ps env M=ps Str.empty env M:=rfl
theorem Q7 {out:Str}:mJ out env M=if out.length<=sizeLine then some (.v (.str out),M) else none:=rfl
theorem Q6 {ps:EJ}{out:Str}:mH z ps out env M=if (out ++ z).length<=sizeLine then ps (out ++ z) env M else none:=rfl
noncomputable def V8 (ps:EJ) (out:Str) (env:Env) (M:Mm):Option Str->O
 |some y=>if (out ++ y).length<=sizeLine then ps (out ++ y) env M else none
 |none=>none
theorem Gq {ps:EJ}{out y:Str}:V8 ps out env M (some y)=if (out ++ y).length<=sizeLine then ps (out ++ y) env M else none:=rfl
theorem W3 {ps:EJ}{out:Str}:pQ f ps out env M=gH (fun d M1=>V8 ps out env M1 (Dm d)) (f env M):=rfl
theorem ZJ:Dm (.str z)=if z.length<=sizeLine then some z else none:=rfl
theorem zjl:Dm (.int i)=if i.natAbs.log2<1920 then some (Str.ofString (toString i)) else none:=rfl
noncomputable def V7 (ps:EJ) (out:Str) (env:Env) (M:Mm):D->O
 |.str z=>if (reprText z).length<=sizeLine/\(out ++ reprText z).length<=sizeLine then ps (out ++ reprText z) env M else none
 |_=>none
theorem Gp {ps:EJ}{out:Str}:V7 ps out env M (.str z)=if (reprText z).length<=sizeLine/\(out ++ reprText z).length<=sizeLine then ps (out ++ reprText z) env M else none:=rfl
theorem W2 {ps:EJ}{out:Str}:tL f ps out env M=gH (fun d M1=>V7 ps out env M1 d) (f env M):=rfl
theorem zht {y:Str}:eV (.str z) (.str y)=if z.length + y.length<=sizeLine then some (.str (z ++ y)) else none:=rfl
theorem ziZ:aO (.str z) (.int i)=if z.length<=sizeLine then(gG z.cps.toList i).map fun c=>.str ⟨#[c]⟩ else none:=rfl
theorem zf6:dJ [.str z]=if z.length<=sizeLine then some (.int z.length) else none:=rfl
theorem JC:lC [.int i]=if i.natAbs.log2<1920 then some (.str (toString i)) else none:=rfl
theorem CW:fu [.str z]=if z.length<=640 then(intText? z).map .int else none:=rfl
theorem zhG:wI [.lst ds]=(xT ds).map fun bs=>.bl (bs.any id):=rfl
theorem zfl:pK [.lst ds]=some (.tup ds):=rfl
theorem zhQ {y:Str}:aK .isin (.str z) (.str y)=some (.bl (yu z y)):=rfl
theorem zfW {y:Str}:aK .notin (.str z) (.str y)=some (.bl (!yu z y)):=rfl
theorem zix {y:Str}:aK .eq (.str z) (.str y)=some (.bl (decide (z=y))):=by
 unfold aK gn xU;rw[xab (by constructor<;>first |rfl |simp[D.dep])]
 have:(z==y)=decide (z=y):=by rw[xaH];simp
 simp[D.eq,this]
theorem zjK {y:Str}:aK .ne (.str z) (.str y)=some (.bl (!decide (z=y))):=by
 unfold aK gn wL;rw[xab (by constructor<;>first |rfl |simp[D.dep])]
 have:(z==y)=decide (z=y):=by rw[xaH];simp
 simp[D.eq,this]
theorem zhh:aK .same .non .non=some (.bl true):=rfl
theorem zfC:aK .other (.int i) .non=some (.bl true):=rfl
theorem zfQ:aK .other .non .non=some (.bl false):=rfl
theorem U_ {α:Type}{e:E}(A B:α->D):∀(as:List α) (acc:List D),(∀a∈as,e (.val (A a)::env) M=some (.v (B a),M))->acc.length + as.length<sizeLine->lQ (ak (.bl true)) e env (as.map A) acc M=some (acc ++ as.map B,M)
  | [],acc,_,_=>by simp[lQ]
  |a::as,acc,h,hl=>by
    rw[xar]at hl;have hr:=U_ A B as (acc ++ [B a]) (fun a' ha'=>h a' (by simp[ha'])) (by rw[xat,xbu];omega);rw[xaA];unfold lQ;rw[show ak (.bl true) (.val (A a)::env) M=some (.v (.bl true),M) from rfl];dsimp only;rw[h a xaF];dsimp only;rw[xab (by omega),hr]
    simp
noncomputable def Dl (k:Nat) (t:S) (ds:List D):OS->OS
 |some (.nx e,M1)=>loopS k t ds e M1
 |some (.ct e,M1)=>loopS k t ds e M1
 |some (.bk e,M1)=>some (.nx e,M1)
 |some (.rt d,M1)=>some (.rt d,M1)
 |some (.ex c n,M1)=>some (.ex c n,M1)
 |none=>none
theorem zeP:loopS k t [] env M=some (.nx env,M):=rfl
theorem Q9:loopS k t (d::ds) env M=if k<env.length then Dl k t ds (t (env.set k (.val d)) M) else none:=rfl
theorem RB {e':Env}:Dl k t ds (some (.nx e',M))=loopS k t ds e' M:=rfl
theorem zhF {e':Env}:Dl k t ds (some (.ct e',M))=loopS k t ds e' M:=rfl
theorem ziH {e':Env}:Dl k t ds (some (.bk e',M))=some (.nx e',M):=rfl
theorem zjE:Dl k t ds (some (.rt d,M))=some (.rt d,M):=rfl
theorem zhW:Dl k t ds (some (.ex x i,M))=some (.ex x i,M):=rfl
theorem zfR {α:Type}{xs:List α}{i:Int}(d:α)(h0:0<=i)(h1:i<xs.length):gG xs i=some (xs.getD i.toNat d):=by
 obtain⟨k,rfl⟩:∃k:Nat,i=k:=⟨i.toNat,by omega⟩;have hk:k<xs.length:=by omega
 exact BX (by simp[hk])
theorem at0 {α:Type}{a:α}{xs:List α}:gG (a::xs) 0=some a:=BX (j:=0) rfl
theorem at1 {α:Type}{a b:α}{xs:List α}:gG (a::b::xs) 1=some b:=BX (j:=1) rfl
theorem at2 {α:Type}{a b c:α}{xs:List α}:gG (a::b::c::xs) 2=some c:=BX (j:=2) rfl
theorem at3 {α:Type}{a b c d:α}{xs:List α}:gG (a::b::c::d::xs) 3=some d:=BX (j:=3) rfl
theorem vo {M:Mm}{cl:Cl}:(M ++ [cl])[M.length]? =some cl:=List.getElem?_concat_length ..
theorem s_end {M:Mm}{cl cl':Cl}:(M ++ [cl]).set M.length cl'=M ++ [cl']:=by simp
theorem w_end {M:Mm}:vw (M ++ [.lst ds]) (.ref M.length)=.lst ds:=zgw vo
theorem zc6 {α:Type}(xs:List α){i:Int}(h:0<=i):mq xs (some i) none=xs.drop i.toNat:=by
 obtain⟨k,rfl⟩:∃k:Nat,i=k:=⟨i.toNat,by omega⟩;unfold mq;rw[HT.zc2,HT.ze1];rw[List.take_of_length_le (by rw[xb0];omega),xdy]
 by_cases hk:k<=xs.length
 ·rw[Nat.min_eq_left hk]
 ·rw[Nat.min_eq_right (by omega),xcn,List.drop_of_length_le (by omega)]
end
end E3
namespace L2
open PySem PySem.Spec PyProof.Rows
end L2
namespace E3
open PySem PySem.Spec PyProof.Rows L2
end E3
namespace L2
open PySem PySem.Spec PyProof.Rows
end L2
namespace E3
open PySem PySem.Spec PyProof.Rows L2
end E3
namespace L2
open PySem PySem.Spec PyProof.Rows
end L2
namespace E3
open PySem PySem.Spec PyProof.Rows L2
section
variable {X:Cx}{Wx:XW}{m:Mode}{pos:Pos}{K:Fgx}
noncomputable def R_ (d:D) (lo hi:Option Int):Option D:=match d with
 |.tup ds=>if HT.dN ds.length 0 lo=0/\HT.dN ds.length ds.length hi=ds.length then none else some (.tup (mq ds lo hi))
 |_=>none
noncomputable def gC (f:E) (l h:Env->Mm->Option (Option Int×Mm)):E:=fun env M=>bnd (f env M) fun d M1=>match l env M1 with
  | some (lo, M2) => (match h env M2 with
    |some (hi,M3)=>(R_ d lo hi).map fun z=>(.v z,M3)
    |none=>none)
  |none=>none
theorem Dg {e:Expr}{lo hi:Option Expr}{p2:Pos}{f:E}{l h:Env->Mm->Option (Option Int×Mm)}(he:SE X Wx .val e f)(hl:BW X lo l)(hh:BW X hi h):SE X Wx m (.Subscript e (.Slice lo hi none p2) pos) (gC f l h):=by
 refine fO (WQ zgz he hl hh) ?_;rintro st H Q ⟨P0,H0,P,Os,env,M,r,M',k,e,q⟩;unfold gC at e;rcases fQ e with⟨d,M1,e1,e⟩ |⟨c,n,e1,rfl⟩
 ·split at e
  ·rename_i lo' M2 el;split at e
   ·rename_i hi' M3 eh;rw[xac]at e;obtain⟨z,ez,e⟩:=e;cases e;refine⟨P0,H0,P,Os,env,M,_,_,k,e1,fun P1 v1 H1 l1 h1 i1=>⟨P0,H0,P1,Os,env,M1,_,_,k.next l1 h1,el,fun P2 H2 l2 h2=>⟨P0,H0,P2,Os,env,M2,_,_,(k.next l1 h1).next l2 h2,eh,fun P3 H3 l3 h3=>?_⟩⟩⟩
    have i3:=Is.lt (l3.lt h2) (Is.lt (l2.lt h1) i1);have fin:∀u H',Same H3 H'->Is X.K P3 H' z u->Q u H':=fun u H' s i=>q P3 u H' (l1.trans (l2.trans (l3.trans (LtE.same s)))) (h3.same s) (fV.of (h3.same s) i);unfold R_ at ez;split at ez
    ·split at ez
     ·cases ez
     ·rename_i hw;cases ez;obtain⟨a,vs,rfl,r,s⟩:=i3;exact⟨a,vs,rfl,r,by rw[s.len];exact hw,Wt (Vc s) fin⟩
    ·cases ez
   ·cases e
  ·cases e
 ·exact⟨P0,H0,P,Os,env,M,_,_,k,e1,q⟩
theorem aH.rep {P:Pl}{H:Hp}{ds:List D}{vs:List V}(h:aH K P H ds vs):∀n:Nat,aH K P H (List.replicate n ds).flatten (List.replicate n vs).flatten
  |0=>rfl
  |n + 1=>by
    rw[xbg,xbg,xbx,xbx];exact h.append (aH.rep h n)
noncomputable def j_ (f g:E):E:=fun env M=>bnd (f env M) fun d M1=>match d with
  |.lst ds=>bnd (g env M1) fun e M2=>match e with
    |.int i=>if i.natAbs<=100000/\ds.length<=100 then some (.v (.lst (List.replicate i.toNat ds).flatten),M2) else none
    |_=>none
  |_=>none
theorem zeZ {a b:Expr}{f g:E}(hl:SN X Wx a f)(hr:SE X Wx .val b g):SE X Wx m (.BinOp a .Mult b pos) (j_ f g):=by
 refine fO (QS WK hl hr) ?_;rintro st H Q ⟨P0,H0,P,Os,env,M,r,M',k,e,q⟩;unfold j_ at e;rcases fQ e with⟨d,M1,e1,e⟩ |⟨c,n,e1,rfl⟩
 ·split at e
  ·rename_i ds;refine⟨P0,H0,P,Os,env,M,_,_,k,e1,ds,rfl,fun P1 a vs H1 l1 h1 ha ba nc ea is=>?_⟩;rcases fQ e with⟨d2,M2,e2,e⟩ |⟨c,n,e2,rfl⟩
   ·split at e
    ·rename_i i;split at e
     ·rename_i hi;cases e;refine⟨P0,H0,P1,Os,env,M1,_,_,k.next l1 h1,e2,fun P2 v2 H2 l2 h2 i2=>?_⟩
      have ev:v2=.int i:=i2;subst ev;have e3:=l2.keep a _ ea (.inr nc);have is2:=aH.lt (l2.lt h1) is;have ln:vs.length=ds.length:=is.len;refine⟨a,i,vs,rfl,rfl,e3,by omega,by omega,?_,Pb h2.new (is2.rep _) fun u H' s z=>q P2 u H' (l1.trans (l2.trans (LtE.same s))) (h2.same s) (fV.of (h2.same s) z)⟩;rw[xaY,ln];have:ds.length * i.toNat<=100 * 100000:=Nat.mul_le_mul hi.2 (by omega);omega
     ·cases e
    ·cases e
   ·exact⟨P0,H0,P1,Os,env,M1,_,_,k.next l1 h1,e2,q⟩
  ·cases e
 ·exact⟨P0,H0,P,Os,env,M,_,_,k,e1,q⟩
end
section
variable {env:Env}{M:Mm}{f g:E}{d:D}{i:Int}{ds es:List D}{fa:EA}{x:Str}{k:Nat}
noncomputable def Bl (k:Mm->O) (M:Mm):D->O
  | .lst ds => gH (fun e M2=>match e with
    |.int i=>if i.natAbs<=100000/\ds.length<=100 then some (.v (.lst (List.replicate i.toNat ds).flatten),M2) else none
    |_=>none) (k M)
  |_=>none
theorem zhu:j_ f g env M=gH (fun d M1=>Bl (g env) M1 d) (f env M):=rfl
theorem zfg {q:Mm->O}(h:q M=some (.v (.int i),M))(hi:i.natAbs<=100000/\ds.length<=100):Bl q M (.lst ds)=some (.v (.lst (List.replicate i.toNat ds).flatten),M):=by
 unfold Bl;rw[h];exact xab hi
end
end E3
namespace L2
open PySem PySem.Spec PyProof.Rows
end L2
namespace E3
open PySem PySem.Spec PyProof.Rows L2
end E3
namespace E3
end E3
namespace E3
open PySem PySem.Spec PyProof.Rows L2
mutual
def D.nr:D->Bool
 |.tup xs=>D.nrs xs
 |.lst xs=>D.nrs xs
 |.ref _=>false
 |_=>true
def D.nrs:List D->Bool
 | []=>true
 |a::as=>D.nr a && D.nrs as
end
noncomputable def Pf:Pl:=⟨fun _=>0,0,fun _=>False⟩
section
variable {K:Fgx}{mg:Mgx}{P P':Pl}{H H':Hp}{M:Mm}
mutual
theorem Is.fre:∀{d:D} {v:V},D.nr d=true->Is K P H d v->Is K Pf H d v
 |.non,_,_,h=>h
 |.bl _,_,_,h=>h
 |.int _,_,_,h=>h
 |.str _,_,_,h=>h
 |.tup _,_,n,h=>by obtain⟨a,vs,e,s,q⟩:=h;exact⟨a,vs,e,s,aH.fre n q⟩
 |.lst _,_,n,h=>by obtain⟨a,vs,e,s,q⟩:=h;exact⟨a,vs,e,s.imp (fun z=>⟨fun z=>z,z.2⟩) id,aH.fre n q⟩
 |.ref _,_,n,_=>by cases n
theorem aH.fre:∀{ds:List D} {vs:List V},D.nrs ds=true->aH K P H ds vs->aH K Pf H ds vs
  | [],_,_,h=>h
  |_::_,_,n,h=>by
    obtain⟨v,r,e,p,q⟩:=h;have n:=xcz.mp n;exact⟨v,r,e,Is.fre n.1 p,aH.fre n.2 q⟩
end
mutual
theorem Is.lf_any:∀{d:D} {v:V},D.lf d=true->Is K P H d v->Is K P' H d v
 |.non,_,_,h=>h
 |.bl _,_,_,h=>h
 |.int _,_,_,h=>h
 |.str _,_,_,h=>h
 |.tup _,_,n,h=>by obtain⟨a,vs,e,s,q⟩:=h;exact⟨a,vs,e,s,aH.lf_any n q⟩
 |.lst _,_,n,_=>by cases n
 |.ref _,_,n,_=>by cases n
theorem aH.lf_any:∀{ds:List D} {vs:List V},D.lfs ds=true->aH K P H ds vs->aH K P' H ds vs
  | [],_,_,h=>h
  |_::_,_,n,h=>by
    obtain⟨v,r,e,p,q⟩:=h;have n:=xcz.mp n;exact⟨v,r,e,Is.lf_any n.1 p,aH.lf_any n.2 q⟩
end
end
section
variable {X:Cx}{Wx:XW}{m:Mode}{pos:Pos}
theorem dz (hr:Room k X.A)(h:X.A.units + 60<cLine->SB X Wx ss b):SB X Wx ss b:=h (xdu (xdm (by decide) _) hr.units)
theorem gR {e:Expr}{es:List Expr}{x:Str}{id:String}{r:List V->Hp->VK->Prop}{o:List D->Option D}{fs:EA}{p:Pos}(hc:iB X (.builtin id) r)(hg:Gl X x)(hm:X.mg x=none)(hv:bootBuiltins x=some (.builtin id))(po:rz X.K r o)(ha:SA X Wx .bor (e::es) fs)
  (hn:x≠"__name__":=by x_go) (hdb:(x==("__debug__":Str))=false:=by x_go) (he:starEach (e::es) X.env=(false,eval e X.env)::starEach es X.env:=by rfl) (hpl:(backTo pos (starEach es X.env)).any (·.1)=false:=by rfl):SE X Wx m (.Call (.Name x p) (e::es) [] pos) (sN o fs):=
 Y7 (fun _ ha=>QM hc hg hm hv ha hn hdb he hpl) po ha
theorem sy (hc:iB X (.type T) r)(hg:Gl X x)(hm:X.mg x=none)(hv:bootBuiltins x=some (.type T))(po:rz X.K r o)(ha:SA X Wx .bor (e::es) fs)
  (hn:x≠"__name__":=by x_go) (hdb:(x==("__debug__":Str))=false:=by x_go) (he:starEach (e::es) X.env=(false,eval e X.env)::starEach es X.env:=by rfl) (hpl:(backTo pos (starEach es X.env)).any (·.1)=false:=by rfl):SE X Wx m (.Call (.Name x p) (e::es) [] pos) (sN o fs):=
 Y7 (fun _ ha=>WM hc hg hm hv ha hn hdb he hpl) po ha
end
section
variable (P:Program)(w:World)(K:Fgx)(mg:Mgx)(base:Heap)(k:Nat)(f:Addr)(N:List Str)(q:Str)(st:Stmt)(b:S)
abbrev RT:Prop:=∀(cdv:Value) (A:Around) (outer:List PySem.Env) (s:Shared) (H:Hp) (E:XK),Room k (A.deeper (envOfC q (aF st) s.heap.objs.size f cdv))->SB (wO P w K mg base N q st f cdv A outer s H E) W0 (aZ st) b
abbrev Lp:Prop:=∀(cdv:Value) (A:Around) (outer:List PySem.Env) (s:Shared) (H:Hp) (E:XK) (Wx:XW),Room k (A.deeper (envOfC q (aF st) s.heap.objs.size f cdv))->XFit (vf P w K mg base N q st f cdv A outer s H E) Wx->XPass (vf P w K mg base N q st f cdv A outer s H E) Wx->SB (vf P w K mg base N q st f cdv A outer s H E) Wx (aZ st) b
end
theorem dB (h1:sc.kind=.function:=by rfl)(h2:sc.isCoroutine=false:=by rfl)(h3:sc.isGenerator=false:=by rfl)(h4:N.Nodup:=by x_go)(h5:N.take P.length=P:=by rfl)
  (h6:∀x∈P,sc.names.lookup x=some .local\/sc.names.lookup x=some .cell:=by x_go) (h7:∀y∈sc.names,y.2≠ .free:=by x_go):FnScope N P sc:=⟨h1,h2,h3,h4,h5,h6,h7⟩
abbrev LV (st:Stmt)(x:Str):Prop:=(aF st).names.lookup x=some .local
abbrev LC (st:Stmt)(x:Str):Prop:=(aF st).names.lookup x=some .cell
structure DefAt (K:Fgx)(mg:Mgx)(x:Str)(st:Stmt)(ps:List Str)(f:Addr)(fd:FuncData):Prop where
 mg:mg x=some (.ref f)
 F:FunD K x x st f fd
 b:Binds K fd ps []
theorem DefAt.ok {P:Program}{w:World}{K:Fgx}{mg:Mgx}{base:Heap}{k:Nat}{x:Str}{st:Stmt}{f:Addr}{fd:FuncData}{N ps:List Str}{b:S}(D:DefAt K mg x st ps f fd)(S:FnScope N ps (aF st))(hr:RT P w K mg base k f N x st b)(hp:ps.length<=N.length:=by decide):aY P w K mg base (k + 1) x ps.length (aV N.length b):=zih D.F S hp D.mg D.b hr
def bf (K:Fgx)(x:Str)(st:Stmt):Prop:=∃(f:Addr) (oc kV dc pm cd ct:Value) (od an:Option Addr) (sl:Array (Option Value)),PySem.W.nsIn K mainGlobals x=some (some (.ref f))/\K.lookup f=some ⟨oc,od,.func (PySem.W.fnOf x x (dG st) (aZ st) (aF st) .none kV dc pm an cd ct),sl⟩/\PySem.W.codeIn K cd x=true/\PySem.W.keepIn K (.ref f)=true
theorem bf.mk {K:Fgx}{x:Str}{st:Stmt}{f:Addr}{oc kV dc pm cd ct:Value}{od an:Option Addr}{sl:Array (Option Value)}(a:PySem.W.nsIn K mainGlobals x=some (some (.ref f)))(l:K.lookup f=some ⟨oc,od,.func (PySem.W.fnOf x x (dG st) (aZ st) (aF st) .none kV dc pm an cd ct),sl⟩)(c:PySem.W.codeIn K cd x=true)(k:PySem.W.keepIn K (.ref f)=true):bf K x st:=⟨f,oc,kV,dc,pm,cd,ct,od,an,sl,a,l,c,k⟩
theorem bf.at {K:Fgx}{h:Heap}{mg:Mgx}{x:Str}{st:Stmt}{ps:List Str}(F:bf K x st)(X:K.In h)(G:h.Ns mainGlobals mg)
  (hb:∀(kV doc pm:Value) (an:Option Addr) (cdv ct:Value) (us:List Value),us.length=ps.length->bindArgs (PySem.W.fnOf x x (dG st) (aZ st) (aF st) .none kV doc pm an cdv ct) ⟨us,[]⟩=pure (ps.zip us)):∃f fd,DefAt K mg x st ps f fd:=by
 obtain⟨f,oc,kV,dc,pm,cd,ct,od,an,sl,a,l,c,k⟩:=F;exact⟨f,_,PySem.W.mg_of X G a,eY l c k,(fB (st:=st) l c k).binds hb⟩
end E3
namespace L2
open PySem PySem.Spec PyProof.Rows
abbrev TH:=Ends->Addr->Addr->Option Addr->St->Hp->Prop
def HB (X:Cx)(hs:List ExceptHandler)(t:TH):Prop:=∀(pins:Pnx) (s:Shared) (σ:St) (H:Hp) (a C:Addr) (dx:Option Addr) (T:Addr) (D:Ends),
 Caught X pins σ H s a C dx T->kj X.K C=true->X.A.handled=none->t D C a dx σ H->wpAny (model X.prog X.w) X.A (handleBy (.ref a) X.env hs) (SP X pins D) X.xe s
end L2
namespace E3
open PySem PySem.Spec PyProof.Rows L2
abbrev HE:=Str->Int->Env->Mm->OS
section
variable {X:Cx}{Wx:XW}{m:Mode}{pos:Pos}
noncomputable def tH (X:Cx) (hh:HE):TH:=fun D C a dx st H=>∃P0 H0 P Os env M c n out M',Ok X.K X.mg P0 H0 P Os H M st env/\X.mg c=some (.ref C)/\Uh X.K X.mg P H none (some (.ref a)) (.exc c n)/\hh c n env M=some (out,M')/\Post X.K X.mg W0 P0 H0 P H M' D out
def Li (out:Out):Prop:=(∃e,out=.nx e)\/∃d,out=.rt d
structure SH (X:Cx)(hs:List ExceptHandler)(hh:HE):Prop where
 hb:HB X hs (tH X hh)
 ok:∀c n env M out M',hh c n env M=some (out,M')->(∃C,X.mg c=some (.ref C)/\kj X.K C=true)/\Li out
variable {suite:List Stmt}{b0:Stmt}{cn n:Str}{np hp:Pos}{c:Addr}{i:Nat}{h:S}{hs:List ExceptHandler}{r:HE}{cat:Str->Option Bool}
end
end E3
namespace L2
open PySem PySem.Spec PyProof.Rows
section
variable {X:Cx}{e:Expr}{es:List Expr}{te:TE}{t:TA}{pos:Pos}
open Builtin Builtin.Str in
open Builtin Builtin.Str in
open Builtin Builtin.Str in
end
end L2
namespace E3
open PySem PySem.Spec PyProof.Rows L2
section
variable {X:Cx}{Wx:XW}{m:Mode}
theorem Sv {P:Program}{w:World}{K:Fgx}{mg:Mgx}{base:Heap}{N:List Str}{q:Str}{st:Stmt}{f:Addr}{cdv:Value}{A:Around}{outer:List PySem.Env}{s:Shared}{H:Hp}{E:XK}{i:Nat}{x:Str}{pos:Pos}(hN:N[i]? =some x:=by rfl)(hv:LV st x:=by kernel_rfl)(hd:(x==("__debug__":Str))=false:=by x_go)(hcd:(x==("__classdict__":Str))=false:=by x_go):SE (wO P w K mg base N q st f cdv A outer s H E) Wx m (.Name x pos) (aj i):=Bq hN hv hd hcd
theorem Lv {P:Program}{w:World}{K:Fgx}{mg:Mgx}{base:Heap}{N:List Str}{q:Str}{st:Stmt}{f:Addr}{cdv:Value}{A:Around}{outer:List PySem.Env}{s:Shared}{H:Hp}{E:XK}{x:Str}(hv:LV st x:=by kernel_rfl):Loc (wO P w K mg base N q st f cdv A outer s H E).env.scope x:=.inl hv
theorem Sw {P:Program}{w:World}{K:Fgx}{mg:Mgx}{base:Heap}{N:List Str}{q:Str}{st:Stmt}{f:Addr}{cdv:Value}{A:Around}{outer:List PySem.Env}{s:Shared}{H:Hp}{E:XK}{i:Nat}{x:Str}{pos:Pos}(hN:N[i]? =some x:=by rfl)(hv:LV st x:=by kernel_rfl)(hd:(x==("__debug__":Str))=false:=by x_go)(hcd:(x==("__classdict__":Str))=false:=by x_go):SE (vf P w K mg base N q st f cdv A outer s H E) Wx m (.Name x pos) (aj i):=Bq hN hv hd hcd
theorem Lw {P:Program}{w:World}{K:Fgx}{mg:Mgx}{base:Heap}{N:List Str}{q:Str}{st:Stmt}{f:Addr}{cdv:Value}{A:Around}{outer:List PySem.Env}{s:Shared}{H:Hp}{E:XK}{x:Str}(hv:LV st x:=by kernel_rfl):Loc (vf P w K mg base N q st f cdv A outer s H E).env.scope x:=.inl hv
theorem Su {i:Nat}{x:Str}{pos:Pos}(hN:X.N[i]? =some x:=by rfl)(hv:X.env.scope.names.lookup x=some .local:=by kernel_rfl)(hd:(x==("__debug__":Str))=false:=by x_go)(hcd:(x==("__classdict__":Str))=false:=by x_go):SE X Wx m (.Name x pos) (aj i):=Bq hN hv hd hcd
theorem Lu {a b:Prop}(h:a:=by kernel_rfl):a\/b:=.inl h
theorem Ei {i:Int}{j pos}:SE X Wx m (.Constant (.int i) j pos) (ak (.int i)):=xK zgk
theorem Es {z:Str}{j pos}:SE X Wx m (.Constant (.str z) j pos) (ak (.str z)):=tZ zhr
theorem Eb {b:Bool}{j pos}:SE X Wx m (.Constant (.bool b) j pos) (ak (.bl b)):=RZ zhO
theorem Ek {a b:Expr}{pos:Pos}{f g:E}(ha:SE X Wx .bor a f)(hb:SE X Wx .bor b g)(hs:Lk b:=by exact fun _ _=>rfl):SE X Wx m (.Subscript a b pos) (s2 aO f g):=zi6 zgY zhU ha hb hs
theorem Cm {a b:Expr}{op:CmpOp}{c:Cp}{pos:Pos}{f g:E}(hu:X.A.units + 60<cLine)(ha:SE X Wx .bor a f)(hb:SE X Wx .bor b g)(ho:op=Nt c:=by rfl)(hm:behindInMarks op b=false:=by rfl):SE X Wx m (.Compare a [op] [b] pos) (s2 (aK c) f g):=by subst ho;exact Y8 (Nu hu c) QX ha hb hm
theorem Ct {a b:Expr}{op:CmpOp}{c:Cp}{pos:Pos}{f g:E}(hu:X.A.units + 60<cLine)(ha:SE X Wx .bor a f)(hb:SE X Wx .bor b g)(ho:op=Nt c:=by rfl)(hm:behindInMarks op b=false:=by rfl):ST X Wx (.Compare a [op] [b] pos) (s2 (aK c) f g):=by subst ho;exact zfS (Nu hu c) QX ha hb hm
end
section
variable {P:Program}{w:World}{K:Fgx}{h base:Heap}{mg:Mgx}{k:Nat}{x:Str}{st:Stmt}{N ps:List Str}{b:S}
abbrev HB (x:Str)(st:Stmt)(ps:List Str):Prop:=∀(kV doc pm:Value) (an:Option Addr) (cdv ct:Value) (us:List Value),us.length=ps.length->bindArgs (PySem.W.fnOf x x (dG st) (aZ st) (aF st) .none kV doc pm an cdv ct) ⟨us,[]⟩=pure (ps.zip us)
theorem K9 {a0:Str}(h:∀{kV doc pm:Value} {an:Option Addr} {cdv ct u0:Value},bindArgs (PySem.W.fnOf x x (dG st) (aZ st) (aF st) .none kV doc pm an cdv ct) ⟨[u0],[]⟩=pure [(a0,u0)]):HB x st [a0]:=fun _ _ _ _ _ _ us hl=>match us,hl with | [_],_=>h
theorem K_ {a0 a1:Str}(h:∀{kV doc pm:Value} {an:Option Addr} {cdv ct u0 u1:Value},bindArgs (PySem.W.fnOf x x (dG st) (aZ st) (aF st) .none kV doc pm an cdv ct) ⟨[u0,u1],[]⟩=pure [(a0,u0),(a1,u1)]):HB x st [a0,a1]:=fun _ _ _ _ _ _ us hl=>match us,hl with | [_,_],_=>h
theorem La {a0 a1 a2:Str}(h:∀{kV doc pm:Value} {an:Option Addr} {cdv ct u0 u1 u2:Value},bindArgs (PySem.W.fnOf x x (dG st) (aZ st) (aF st) .none kV doc pm an cdv ct) ⟨[u0,u1,u2],[]⟩=pure [(a0,u0),(a1,u1),(a2,u2)]):HB x st [a0,a1,a2]:=fun _ _ _ _ _ _ us hl=>match us,hl with | [_,_,_],_=>h
theorem Lb {a0 a1 a2 a3:Str}(h:∀{kV doc pm:Value} {an:Option Addr} {cdv ct u0 u1 u2 u3:Value},bindArgs (PySem.W.fnOf x x (dG st) (aZ st) (aF st) .none kV doc pm an cdv ct) ⟨[u0,u1,u2,u3],[]⟩=pure [(a0,u0),(a1,u1),(a2,u2),(a3,u3)]):HB x st [a0,a1,a2,a3]:=fun _ _ _ _ _ _ us hl=>match us,hl with | [_,_,_,_],_=>h
theorem Ld {a0 a1 a2 a3 a4:Str}(h:∀{kV doc pm:Value} {an:Option Addr} {cdv ct u0 u1 u2 u3 u4:Value},bindArgs (PySem.W.fnOf x x (dG st) (aZ st) (aF st) .none kV doc pm an cdv ct) ⟨[u0,u1,u2,u3,u4],[]⟩=pure [(a0,u0),(a1,u1),(a2,u2),(a3,u3),(a4,u4)]):HB x st [a0,a1,a2,a3,a4]:=fun _ _ _ _ _ _ us hl=>match us,hl with | [_,_,_,_,_],_=>h
theorem bf.ok (F:bf K x st)(X:K.In h)(G:h.Ns mainGlobals mg)(S:FnScope N ps (aF st))(hr:∀f,RT P w K mg base k f N x st b)
  (hb:HB x st ps:=by first |exact K9 rfl |exact K_ rfl |exact La rfl |exact Lb rfl |exact Ld rfl) (hp:ps.length<=N.length:=by decide):aY P w K mg base (k + 1) x ps.length (aV N.length b):=by
 obtain⟨f,d,D⟩:=F.at X G hb;exact D.ok S (hr f) hp
theorem bf.okX (F:bf K x st)(X:K.In h)(G:h.Ns mainGlobals mg)(S:FnScope N ps (aF st))(hr:∀f,Lp P w K mg base k f N x st b)
  (hb:HB x st ps:=by first |exact K9 rfl |exact K_ rfl |exact La rfl |exact Lb rfl |exact Ld rfl) (hp:ps.length<=N.length:=by decide):pD P w K mg base (k + 1) x ps.length (aV N.length b):=by
 obtain⟨f,d,D⟩:=F.at X G hb;exact⟨_,_,_,D.mg,D.F.kp,zd6 D.F S hp (hr f),D.b⟩
theorem aY.up {j n:Nat}{g:G}(a:aY P w K mg base j x n g)(h:j<=k:=by decide):aY P w K mg base k x n g:=a.mono h
theorem pD.up {j n:Nat}{g:G}(a:pD P w K mg base j x n g)(h:j<=k:=by decide):pD P w K mg base k x n g:=a.mono h
theorem kE.up {j n:Nat}{C:Addr}{g:G}(a:kE P w K mg base j C n g)(h:j<=k:=by decide):kE P w K mg base k C n g:=a.mono h
theorem dH.up {j n:Nat}{C:Addr}{m:Str}{g:G}(a:dH P w K mg base j C m n g)(h:j<=k:=by decide):dH P w K mg base k C m n g:=a.mono h
theorem lW.up {j n:Nat}{C:Addr}{m:Str}{g:G}(a:lW P w K mg base j C m n g)(h:j<=k:=by decide):lW P w K mg base k C m n g:=a.mono h
theorem lV.up {j n:Nat}{C:Addr}{g:G}(a:lV P w K mg base j C n g)(h:j<=k:=by decide):lV P w K mg base k C n g:=a.mono h
theorem pC.up {j n:Nat}{C:Addr}{m:Str}{g:G}(a:pC P w K mg base j C m n g)(h:j<=k:=by decide):pC P w K mg base k C m n g:=a.mono h
theorem vq {K:Fgx}{t:Addr}{d m s j0 j1 j2}{a b:Str}{i:Int}(l:K.lookup t=some ⟨.type "tuple",d,.seq #[.str a j0,.str b j1,.int i j2] m,s⟩):∀P H,Is K P H (.tup [.str a,.str b,.int i]) (.ref t):=V1 (vs:=[.str a,.str b,.int i]) l rfl rfl (by show 3<=sizeLine;decide) (.cons ⟨_,rfl⟩ (.cons ⟨_,rfl⟩ (.cons ⟨_,rfl⟩ .nil))) (fun _ _=>⟨_,_,rfl,rfl,⟨_,_,rfl,rfl,⟨_,_,rfl,rfl,rfl⟩⟩⟩)
end
end E3
namespace L2
open PySem PySem.Spec PyProof.Rows
noncomputable def zhv (N:List Str) (psc:Scope) (xs:List Str) (cs:List (Str×Nat)) (scope:Scope):Bool:=
 scope.kind==.function && xs.all (fun x=>scope.names.lookup x==some .local) && decide ((xs ++ cs.map (·.1)).Nodup) &&
 scope.names.all (fun y=>y.2 !=.cell && (y.2 !=.local || scope.names.lookup y.1==some .local) && (y.2 !=.free || (psc.names.lookup y.1==some .cell || psc.names.lookup y.1==some .free))) &&
 cs.all (fun p=>N[p.2]? ==some p.1 && (psc.names.lookup p.1==some .cell || psc.names.lookup p.1==some .free) && ((gY psc scope.names).lookup p.1==some .cell || (gY psc scope.names).lookup p.1==some .free))
structure CompOkT (N:List Str)(psc:Scope)(xs:List Str)(cs:List (Str×Nat))(scope:Scope):Prop where
 kind:scope.kind=.function
 own:∀x∈xs,scope.names.lookup x=some .local
 nd:(xs ++ cs.map (·.1)).Nodup
 cell:∀y∈scope.names,y.2≠ .cell
 names:∀y∈scope.names,y.2=.local->scope.names.lookup y.1=some .local
 has:∀y∈scope.names,y.2=.free->psc.names.lookup y.1=some .cell\/psc.names.lookup y.1=some .free
 cap:∀p∈cs,N[p.2]? =some p.1/\(psc.names.lookup p.1=some .cell\/psc.names.lookup p.1=some .free)/\((gY psc scope.names).lookup p.1=some .cell\/(gY psc scope.names).lookup p.1=some .free)
end L2
namespace E3
open PySem PySem.Spec PyProof.Rows L2
end E3
namespace L2
open PySem PySem.Spec PyProof.Rows
end L2
namespace E3
open PySem PySem.Spec PyProof.Rows L2
end E3
namespace L2
open PySem PySem.Spec PyProof.Rows
end L2
namespace E3
open PySem PySem.Spec PyProof.Rows L2
end E3
namespace E3
open PySem L2
end E3
namespace L2
open PySem PySem.Spec PyProof.Rows
end L2
namespace E3
open PySem PySem.Spec PyProof.Rows L2
end E3
namespace E3
open PySem PySem.Spec PyProof.Rows L2 PySem.W
section
variable {n:Nat}{lt:Nat->Nat->Option Bool}{le:Nat->Nat->Prop}
def Pm (n:Nat)(p:Array Nat):Prop:=p.Perm (List.range n).toArray
def Up (le:Nat->Nat->Prop)(p:Array Nat)(m:Nat):Prop:=∀i j,i<=j->j<m->le (p.getD i 0) (p.getD j 0)
def Dn (le:Nat->Nat->Prop)(p:Array Nat)(m:Nat):Prop:=∀i j,i<=j->j<m->le (p.getD j 0) (p.getD i 0)
variable (hn:0<n)(rf:∀i,le i i)(tr:∀i j k,le i j->le j k->le i k)(H:∀i j,i<n->j<n->∃b,lt i j=some b/\(b=true->le i j)/\(b=false->le j i))
include rf tr
include hn H
end
end E3
namespace L2
open PySem PySem.Spec PyProof.Rows
section
variable {X:Cx}
theorem DW:X.calm=true->iB X (.builtin "min") (fun xs H Q=>∃(p:Addr) (is:List Int),xs=[.ref p]/\0<is.length/\fW X.K H p (is.map V.int)/\∀m,m∈is->(∀a∈is,m<=a)->Q (.int m) H):=by
 intro hc pins s σ H xs us Q I r h;obtain⟨p,is,rfl,hne,hq,q⟩:=h;obtain⟨u,rfl,rx⟩:=vals1 r;cases rx;obtain⟨its,rv,pl,hz⟩:=I.list hq;have hi:=zcW rv;have hn:=hi.numsOf;have hlen:=rv.length;rw[xao]at hlen;obtain⟨zs,hzs⟩:=hi.allInts.items;have hl:=pl.isList;have e1:numsOf its.toArray.toList=is:=hn;rw[hzs]at hl e1;have hs:0<zs.size:=by
  have:its.toArray.size=zs.size:=by rw[hzs];simp[intItems]
  rw[xae]at this;omega
 rw[nums_intItems]at e1;refine min_intList (I.ok.hd hc) hl hs fun v h' tk hv hk=>?_;obtain⟨t,rfl⟩:=intItems_at hv;obtain⟨h1,h2⟩:=argBest_lt (numAt zs) (zs.size - 1);refine⟨.int _,H,I.kept hk,⟨t,rfl⟩,q _ ?_ fun a ha=>?_⟩
 ·rw[<-e1,numAt_eq];exact getD_mem (by rw[xao,xbf];omega)
 ·rw[<-e1]at ha;obtain⟨j,hj,rfl⟩:=mem_getD ha;rw[xao,xbf]at hj;rw[<-numAt_eq];exact h2 j (by omega)
end
end L2
namespace E3
open PySem PySem.Spec PyProof.Rows L2
noncomputable def lD:List Int->Int
 | []=>0
 | [a]=>a
 |a::b::r=>min a (lD (b::r))
theorem Uw {m:Int}:∀(l:List Int),l≠ []->(∀a∈l,m<=a)->m<=lD l
  | [],z,_=>absurd rfl z
  | [c],_,g=>g c (by simp)
  |c::d::l,_,g=>by
    have h1:=g c (by simp);have h2:=Uw (d::l) (by simp) fun a ha=>g a (xap _ ha);unfold lD;omega
theorem Ux:∀{is:List Int} {m:Int},m∈is->(∀a∈is,m<=a)->lD is=m
  | [],_,h,_=>by cases h
  | [a],m,h,_=>by rw[xbK]at h;exact h.symm
  |a::b::r,m,h,g=>by
    have ha:=g a (xaF ..);have hb:=Uw (b::r) (by simp) fun a ha=>g a (xap _ ha);unfold lD;rcases xaI.mp h with rfl |h
    · omega
    · have:=Ux h fun a ha=>g a (xap _ ha);omega
noncomputable def wJ:List D->Option D
  | [.lst ds]=>match Ba ds with
    |some is=>if 0<is.length then some (.int (lD is)) else none
    |none=>none
  |_=>none
theorem Gm {K:Fgx}:rz K (fun xs H Q=>∃(p:Addr) (is:List Int),xs=[.ref p]/\0<is.length/\fW K H p (is.map V.int)/\∀m,m∈is->(∀a∈is,m<=a)->Q (.int m) H) wJ:=fun P H ds z vs Q h i _ q=>by
 unfold wJ at h;split at h
 ·split at h
  ·rename_i is ei;split at h
   ·rename_i hl;cases h;obtain⟨v,ws,rfl,p,rfl⟩:=i;obtain⟨a,us,rfl,r,s⟩:=p;have eu:=VN ei s;subst eu;exact⟨a,is,rfl,hl,r,fun m h1 h2=>by rw[<-Ux h1 h2];exact q _ H (Same.refl H) rfl⟩
   ·cases h
  ·cases h
 ·cases h
section
variable {X:Cx}{Wx:XW}{m:Mode}{pos:Pos}{K:Fgx}
theorem GZ {a b:Expr}{f g:E}(hl:SN X Wx a f)(hr:SE X Wx .val b g):SN X Wx (.BinOp a .Mult b pos) (j_ f g):=by
  refine fO (QS WK hl hr) ?_;rintro st H Q ⟨P0,H0,P,Os,env,M,r,M',k,e,q⟩;unfold j_ at e;rcases fQ e with⟨d,M1,e1,e⟩ |⟨c,n,e1,rfl⟩
  · split at e
    · rename_i ds;refine⟨P0,H0,P,Os,env,M,_,_,k,e1,ds,rfl,fun P1 a vs H1 l1 h1 ha ba nc ea is=>?_⟩;rcases fQ e with⟨d2,M2,e2,e⟩ |⟨c,n,e2,rfl⟩
      · split at e
        · rename_i i;split at e
          · rename_i hi;cases e;obtain⟨ds',e',q⟩:=q;cases e';refine⟨P0,H0,P1,Os,env,M1,_,_,k.next l1 h1,e2,fun P2 v2 H2 l2 h2 i2=>?_⟩
            have ev:v2=.int i:=i2;subst ev;have e3:=l2.keep a _ ea (.inr nc);have is2:=aH.lt (l2.lt h1) is;have ln:vs.length=ds.length:=is.len;refine⟨a,i,vs,rfl,rfl,e3,by omega,by omega,?_,fun p hp=>?_⟩
            · rw[xaY,ln];have:ds.length * i.toNat<=100 * 100000:=Nat.mul_le_mul hi.2 (by omega);omega
            · obtain⟨l3,h3,nc3⟩:=Jd (vs:=(List.replicate i.toNat vs).flatten) h2 hp;exact q (P2.bar p) p _ _ (l1.trans (l2.trans l3)) h3 ((l1.trans l2).sure p hp) (.inr rfl) nc3 fP (aH.lt (l3.lt h2) (is2.rep _))
          · cases e
        · cases e
      · exact⟨P0,H0,P1,Os,env,M1,_,_,k.next l1 h1,e2,q⟩
    · cases e
  · exact⟨P0,H0,P,Os,env,M,_,_,k,e1,q⟩
end
section
variable {X:Cx}{Wx:XW}
def XP (X:Cx)(D:Ends)(f:Flow)(s':Shared):Prop:=match f with
 |.ret u=>∃v H',s'.os=X.s₀.os/\AllBare s'.gens/\Un X.fs [] X.H₀ H' X.s₀.heap s'.heap/\gh X.prog X.w H' s'.heap/\RelV v u/\D.rt v H'
 |.brk=>∃σ' H',D.bk σ' H'
 |.cont=>∃σ' H',D.ct σ' H'
 |.next=>False
def PX (X:Cx)(b:List Stmt)(t:TS):Prop:=∀(s:Shared) (σ:L2.St) (H:Hp) (D:Ends),Inv X [] σ H s->t D σ H->wpAny (model X.prog X.w) X.A (execs b X.env) (XP X D) X.xe s
theorem zeJ {st:Stmt}{rest:List Stmt}{t u:TS}(hx:X.ex=[])(h1:PS X st t)(h2:PX X rest u):PX X (st::rest) (G8 t u):=by
  intro s σ H D I h;refine xcl (aX (h1 [] s σ H {D with nx:=u D} I h) fun f s1 q=>?_)
  cases f with
  |next=>
    obtain⟨σ',H',I',q⟩:=q;exact h2 s1 σ' H' D I' q
  |ret v=>
    obtain⟨v,σ',H',J,r,q⟩:=q;exact⟨v,H',J.os,J.bare,hx ▸ J.base,J.hok,r,q⟩
  |brk=>
    obtain⟨σ',H',_,q⟩:=q;exact⟨σ',H',q⟩
  |cont=>
    obtain⟨σ',H',_,q⟩:=q;exact⟨σ',H',q⟩
def xQ (X:Cx)(Wx:XW)(b:List Stmt)(f:S):Prop:=PX X b (tS X.K X.mg Wx f)
theorem GP {s:Stmt}{ss:List Stmt}{f g:S}(hx:X.ex=[])(h1:SS X Wx s f)(h2:xQ X Wx ss g):xQ X Wx (s::ss) (aq f g):=by
  intro s0 σ0 Hh D I hh;refine zeJ hx h1 h2 s0 σ0 Hh D I ?_;obtain⟨P0,H0,P,Os,env,M,out,M',k,e,q⟩:=hh;unfold aq at e;split at e
  · rename_i e1 M1 ef;refine⟨P0,H0,P,Os,env,M,_,_,k,ef,fun P1 Os1 H1 st1 l1 k1=>?_⟩;exact⟨P0,H0,P1,Os1,e1,M1,_,_,k1,e,q.lt l1⟩
  · rename_i o ho
    cases ef:f env M with
    |none=>rw[ef]at e;cases e
    |some om=>
      obtain⟨o1,M1⟩:=om;rw[ef]at e;cases e;refine⟨P0,H0,P,Os,env,M,_,_,k,ef,?_⟩
      cases out with
      |nx env'=>exact(ho _ _ ef).elim
      |bk env'=>exact q
      |ct env'=>exact q
      |rt d=>exact q
      |ex c n=>exact q
end
section
variable {X:Cx}{σ:L2.St}{H H1:Hp}{s:Shared}{Pt:Addr}{ps:Array Value}
theorem VP {h2:Heap}{tk:Nat}(I:Inv X [] σ H s)(hP:H Pt=some (.tbl ps))(kp:∀b o,b≠Pt->s.heap.get? b=some o->h2.get? b=some o)(hH:∀b,b<s.heap.objs.size->b≠Pt->H1 b=H b)
    (hPt:∃more,H1 Pt=some (.tbl (ps ++ more))/\h2.get? Pt=some {cls:=.none,data:=.fields (ps ++ more)}) (hnew:∀a o,s.heap.objs.size<=a->H1 a=some o->∃ob,o=.frz ob (.own a)/\h2.get? a=some ob):Inv X [] σ H1 {s with heap:=h2,toks:=tk}:=by
  have lt:∀{b:Addr} {u:HO},H b=some u->b<s.heap.objs.size:=fun e=>(I.hok _ _ e).lt;have nP:∀{b:Addr},H b=none->b≠Pt:=fun e z=>by rw[z,hP]at e;cases e
  have nT:∀{b:Addr} {u:HO},H b=some u->(∀p,u≠ .tbl p)->b≠Pt:=fun e n z=>by rw[z,hP]at e;cases e;exact n _ rfl
  obtain⟨more,e1,e2⟩:=hPt;have hok:gh X.prog X.w H1 h2:=fun a o e=>by
    by_cases hs:s.heap.objs.size<=a
    · obtain⟨ob,rfl,g⟩:=hnew a o hs e;exact⟨g,ob,g⟩
    · have hs:=Nat.lt_of_not_le hs
      by_cases ha:a=Pt
      · subst ha;rw[e1]at e;cases e;exact e2
      · rw[hH a hs ha]at e;refine(I.hok a o e).stay (fun b u hb g=>kp b u ?_ g) (fun b g=>?_) fun b xs g=>?_
        · rcases hb with rfl |hb
          · exact ha
          · exact nT hb fun _ z=>nomatch z
        · rw[hH b (lt g) (nT g fun _ z=>nomatch z)];exact g
        · rw[hH b (lt g) (nT g fun _ z=>nomatch z)];exact g
  refine I.step (g':=s.gens) (d':=s.drawn) (t':=tk) (ch:=[]) (fun _ z=>nomatch z) (fun b o _ _ _ g n=>kp b o (nP n) g) (fun b o _ _ _ g n=>⟨o.slots,kp b o (nP n) g⟩) (fun b o _ g n=>by rw[hH b (xan g) (nP n)];exact n) (fun b o _ g=>?_)
    (fun b xs g=>by rw[hH b (lt g) (nT g fun _ z=>nomatch z)];exact g) (fun b o u g=>by rw[hH b (lt g) (nT g fun _ z=>nomatch z)];exact g) (fun b p g=>?_) (fun m hm=>?_) hok I.bare
  · by_cases hb:b=Pt
    · subst hb;exact⟨_,e2⟩
    · exact⟨o,kp b o hb g⟩
  · by_cases hb:b=Pt
    · subst hb;rw[hP]at g;cases g;exact⟨more,e1⟩
    · exact⟨#[],by rw[hH b (lt g) hb,g];simp⟩
  · obtain⟨o,es,ep,g,r⟩:=hm;exact⟨o,es,ep,kp _ _ (nP I.free) g,r⟩
noncomputable def xP (H:Hp) (h:Heap) (cs:List Addr):Hp:=fun b=>if b∈cs then(h.get? b).map fun o=>HO.frz o (.own b) else H b
theorem zbI {cs:List Addr}(I:Inv X [] σ H s)(hx:X.ex=[])(hc:∀c∈cs,H c=none/\X.s₀.heap.objs.size<=c/\∃o,s.heap.get? c=some o):
  Un X.fs [] X.H₀ (xP H s.heap cs) X.s₀.heap s.heap/\gh X.prog X.w (xP H s.heap cs) s.heap/\Same H (xP H s.heap cs)/\∀c∈cs,∀o,s.heap.get? c=some o->xP H s.heap cs c=some (.frz o (.own c)):=by
 have out:∀{b:Addr} {u:HO},H b=some u->xP H s.heap cs b=H b:=fun {b u} e=>xah fun z=>by rw[(hc b z).1]at e;cases e
 have old:∀{b:Addr} {o:Obj},X.s₀.heap.get? b=some o->b∉cs:=fun {b o} e z=>absurd (xad (xan e) (hc b z).2.1) (xa4 _);have B:=I.base;rw[hx]at B;refine⟨⟨B.keep,B.slot,fun b o e n h=>?_,B.there,fun b xs e=>?_,fun b o u e=>?_,fun b p e=>?_⟩,fun a o e=>?_,fun b o e=>?_,fun c z o e=>?_⟩
 ·unfold xP;rw[xah (old e)];exact B.free b o e n h
 ·rw[out (B.tups b xs e)];exact B.tups b xs e
 ·rw[out (B.frzs b o u e)];exact B.frzs b o u e
 ·obtain⟨m,g⟩:=B.tbls b p e;exact⟨m,by rw[out g];exact g⟩
 ·unfold xP at e;split at e
  ·rename_i ha;obtain⟨ob,g⟩:=(hc a ha).2.2;rw[g]at e;cases e;exact⟨g,ob,g⟩
  ·exact(I.hok a o e).stay (fun _ _ _ g=>g) (fun b g=>by rw[out g];exact g) fun b xs g=>by rw[out g];exact g
 ·rw[out e];exact e
 ·unfold xP;rw[xab z,e];rfl
end
def nJ (mg:Mgx)(base:Heap):Prop:=∃bm o,mg "__builtins__"=some (.ref bm)/\bm≠builtinsNs/\bm≠mainGlobals/\base.get? bm=some o/\o.cls=.type "module"/\o.dict=some builtinsNs/\o.data=.plain
noncomputable def pL (env:Env):List (Str×Nat)->Option (List (Str×D))
  | []=>some []
  |p::r=>match env[p.2]? with
    |some (.val d)=>(pL env r).map ((p.1,d):: ·)
    |_=>none
open Classical in
noncomputable def gZ (kt:Nat) (nm:Str) (i:FnT) (caps:List (Str×Nat)):S:=fun env M=>match M[kt]? with
 |some (.tbl nm' i')=>if nm'=nm/\i'=i then(pL env caps).map fun cs=>(.rt (.ref M.length),M ++ [.fn i cs]) else none
 |_=>none
structure MkOk (X:Cx)(nm:Str)(i:FnT)(caps:List (Str×Nat))(cl:List (Str×Addr))(c Pt:Addr)(j:Nat):Prop where
 ex:X.ex=[]
 fn:∀x,X.fn x=true
 st:∃params body scope,i.st=.FunctionDef i.x params body [] none [] scope none i.x i.pos/\((params.defaults=[]/\i.dd=[])\/∃n a p,params.defaults=[.Constant (.int n) a p]/\i.dd=[n]/\cl≠ [])/\params.kw_defaults=[]/\params.kwonlyargs=[]/\annTrees params none X.env=[]
 q:qualnameIn X.env i.x i.x=i.q
 code:X.env.code=.ref c
 tab:PySem.W.tabIn X.K nm=some (c,Pt)
 hd:PySem.W.codeHdIn X.K c Pt=true
 bm:nJ X.mg X.base
 clo:closureFor (aF i.st) X.env=pure cl
 nam:cl.map (·.1)=caps.map (·.1)
 vm:caps.map (·.1)=i.fr
 cel:∀p∈cl,X.env.cells.lookup p.1=some p.2
 cap:∀p∈caps,X.N[p.2]? =some p.1/\X.env.scope.names.lookup p.1=some .cell/\p.2≠j
 nd:X.N.Nodup
 jx:X.N[j]? =some i.x
 jl:X.env.scope.names.lookup i.x=some .local
 db:(i.x==("__debug__":Str))=false
 cd:(i.x==("__classdict__":Str))=false
theorem UG {X:Cx}{H Hh:Hp}{s:Shared}{K:Fgx}{mg:Mgx}{P0 P:Pl}{H0:Hp}{Os:List (Option Addr)}{M:Mm}{st:L2.St}{env:Env}{j:Nat}{v0:V}{H2:Hp}
    (I:Inv X [] (st.set j (some v0)) Hh s) (k:Ok K mg P0 H0 P Os H M st env):
    ∀{caps:List (Str×Nat)} {cl:List (Str×Addr)} {cs:List (Str×D)},pL env caps=some cs->cl.map (·.1)=caps.map (·.1)->(∀p∈cl,X.env.cells.lookup p.1=some p.2)->(∀p∈caps,X.N[p.2]? =some p.1/\X.env.scope.names.lookup p.1=some .cell/\p.2≠j)->
    (∀p∈cl,∀o,s.heap.get? p.2=some o->H2 p.2=some (.frz o (.own p.2)))->cs.map (·.1)=caps.map (·.1)/\∃vs,aH K P H (cs.map (·.2)) vs/\rm H2 cl vs
  | [],[],cs,e,_,_,_,_=>by
    cases e;exact⟨rfl,[],rfl,rfl⟩
  | [],_::_,_,_,n,_,_,_=>by cases n
  |_::_,[],_,_,n,_,_,_=>by cases n
  |p::caps,q::cl,cs,e,n,hc,hp,h2=>by
    rw[xaA,xaA,xb9]at n;unfold pL at e;split at e
    · rename_i d ed;rw[xac]at e;obtain⟨cs',e',rfl⟩:=e;obtain⟨n2,vs,i2,c2⟩:=UG I k e' n.2 (fun z hz=>hc z (xap _ hz)) (fun z hz=>hp z (xap _ hz)) fun z hz=>h2 z (xap _ hz);obtain⟨hN,hk,hj⟩:=hp p (by simp);obtain⟨v,ev,iv⟩:=k.slot p.2 _ ed;have ev':(st.set j (some v0))[p.2]? =some (some v):=by
        rw[xby (xbs hj)]
        cases q:st[p.2]? with
        |none=>rw[q]at ev;cases ev
        |some w=>rw[q]at ev;exact congrArg some ev
      obtain⟨m,_,hl⟩:=I.loc;obtain⟨u,ru,lk⟩:=hl p.2 p.1 v hN ev' (.inr (.inl hk));refine⟨by simp[n2],v::vs,⟨v,vs,rfl,iv,i2⟩,?_⟩;rcases lk with⟨k0,_⟩ |⟨_,c,hcell,o,ho,hd⟩
      · have k0':X.env.scope.names.lookup p.1=some .local:=k0;rw[hk]at k0';cases k0'
      · have eq:q.2=c:=by
          have:=hc q (by simp);rw[n.1,hcell]at this;cases this;rfl
        exact⟨v,vs,u,o,rfl,ru,h2 q (by simp) o (by rw[eq];exact ho),hd,c2⟩
    · cases e
theorem set_same {α:Type}{l:List α}{k:Nat}{x:α}(h:l[k]? =some x):l.set k x=l:=by
 obtain⟨hl,rfl⟩:=xak.mp h;exact List.set_getElem_self hl
theorem Wn {X:Cx}{Wx:XW}{nm:Str}{i:FnT}{caps:List (Str×Nat)}{cl:List (Str×Addr)}{c Pt:Addr}{j:Nat}{p1 p2:Pos}{s:Shared}{σ:L2.St}{H:Hp}{D:Ends}{P0 P:Pl}{H0:Hp}{Os:List (Option Addr)}{env:Env}{M:Mm}{cs:List (Str×E3.D)}(m:MkOk X nm i caps cl c Pt j)
  (I:Inv X [] σ H s) (k:Ok X.K X.mg P0 H0 P Os H M σ env) (ec:pL env caps=some cs) (q:Post X.K X.mg Wx P0 H0 P H (M ++ [.fn i cs]) D (.rt (.ref M.length)))
  (h2:Heap) (tk:Nat) (f c':Addr) (dV doc ctv:Value) (Hb:Hp) (I1:Inv X [] σ (upd Hb f (.frz (vh X.mg i cl dV doc ctv c') (.own f))) {s with heap:=h2,toks:=tk}) (lb:LtE P H P Hb) (hkb:Hk X.K X.mg P Hb M) (hf:Hb f=none) (hcod:lX Hb c' i.q) (hdf:lB Hb i.dd dV):
  wpAny (model X.prog X.w) X.A (storeName X.env i.x (.ref f)) (fun _ s''=>wpAny (model X.prog X.w) X.A (execs [.Return (some (.Name i.x p1)) p2] X.env) (XP X D) X.xe s'') X.xe {s with heap:=h2,toks:=tk}:=by
 refine KQ I1 m.nd m.jx (.inl m.jl) (show RelV (.ref f) (.ref f) from rfl) (fun s2 I2=>?_) (.inr m.jl);have jσ:j<σ.length:=by rw[I.len];exact(xak.mp m.jx).1
 refine xcl (wpAny_Return_some (aX (QT m.jx (.inl m.jl) m.db m.cd [] s2 _ _ (fun v H'=>v=.ref f/\H'=upd Hb f (.frz (vh X.mg i cl dV doc ctv c') (.own f))) I2 ⟨.ref f,xbN jσ,rfl,rfl⟩) fun u s3 h3=>?_));obtain⟨v,H3,I3,rv,ev,eH⟩:=h3;subst ev eH;obtain rfl:u=Value.ref f:=rv;have hcl:∀a∈cl.map (·.2),upd Hb f (.frz (vh X.mg i cl dV doc ctv c') (.own f)) a=none/\X.s₀.heap.objs.size<=a/\∃o,s3.heap.get? a=some o:=by
  intro a ha;obtain⟨p,hp,rfl⟩:=xbi.mp ha;have e1:=m.cel p hp;obtain⟨v,o,ho,_⟩:=I3.cell p.1 p.2 e1;exact⟨(I3.freeC p.1 p.2 e1).resolve_right fun z=>(by have z1:=z.1;rw[m.fn]at z1;cases z1),I3.ok.cab p.1 p.2 (m.fn _) e1,o,ho⟩
 obtain⟨un,hok,same,atc⟩:=zbI I3 m.ex hcl;obtain⟨n2,vs,iv,cv⟩:=UG I3 k ec m.nam m.cel m.cap fun p hp o ho=>atc p.2 (xbi.mpr ⟨p,hp,rfl⟩) o ho;have sb:Same Hb (xP (upd Hb f (.frz (vh X.mg i cl dV doc ctv c') (.own f))) s3.heap (cl.map (·.2))):=Same.trans (tY hf) same;obtain⟨P2,pn,pio,l2,hk2⟩:=U0 (c:=.fn i cs) hkb sb hf (by rw[same f _ fP];exact fun z=>nomatch z) fun P' _ _ l=>⟨cl,dV,doc,ctv,c',vs,same f _ fP,⟨hcod.up (fun b o u e=>sb b _ e),hdf.up (fun b o u e=>sb b _ e)⟩,⟨m.nam.trans n2.symm,n2.trans m.vm⟩,aH.lt (l.lt hkb) (aH.lt (lb.lt k.hk) iv),cv,fun x y a e1 e2=>I.ok.inj x y a (m.cel (x,a) (xaT e1)) (m.cel (y,a) (xaT e2))⟩
 exact⟨.ref f,_,I3.os,I3.bare,un,hok,rfl,q P2 (.ref f) _ (k.base.trans (lb.trans l2)) hk2 ⟨by rw[pn,k.hk.n];exact xbo _,by rw[<-k.hk.n,pio]⟩⟩
section
variable {M:Model}{A:Around}{E:Value->Shared->Prop}{s:Shared}{name qual:Str}{params:Arguments}{body:List Stmt}{scope:Scope}{env:PySem.Env}{c Pt:Addr}{ps:Array Value}{pos:Pos}{ln:Nat}{mg:Mgx}{cl:List (Str×Addr)}{dV:Value}{Q:Value->Shared->Prop}
theorem zdr (hcl:closureFor scope env=pure cl)(hne:cl≠ [])(hge:env.globals=mainGlobals)(hg:s.heap.Ns mainGlobals mg)(hcode:env.code=.ref c)(C:PySem.W.CodeHd s.heap c Pt)(hP:s.heap.get? Pt=some (PySem.W.tabObj ps))(ht:TriplesOk ps.toList)(hnf:codeAmong pos ps.toList=none)(hgP:mainGlobals≠Pt)(hb:s.heap.BuiltinsAt mg Pt)
  (h:∀c' ctv doc h' tk,Heap.ExtBut Pt s.heap h'->s.heap.objs.size<=c'->c'<h'.objs.size->h'.CodeRec (.ref c') qual->h'.get? Pt=some (PySem.W.tabObj (ps ++ #[rawInt pos.line,rawInt pos.col,.ref c']))->
   Q (.ref h'.objs.size) {s with heap:=h'.push {cls:=.type "function",data:=.func (PySem.W.fnX name qual params body scope cl dV .none doc ((mg "__name__").getD .none) none (.ref c') ctv)},toks:=tk}):wpAny M A (makeTail name qual params (.stmts body) scope env dV .none none pos ln) Q E s:=by
 have ie:cl.isEmpty=false:=by cases cl with |nil=>exact absurd rfl hne |cons a r=>rfl
 obtain⟨bm,ob,b1,b2,_,b4,b5,b6,b7,b8⟩:=hb;have kp:∀(o:Obj) (b:Addr) (u:Obj),s.heap.get? b=some u->(s.heap.push o).get? b=some u:=fun o b u e=>xaa o e;unfold makeTail;rw[hcl,hge];refine tG (xaf ?_);simp only[ie,xbL,xbP];refine tG (xcG ?_);refine tG (wpAny_functionCodeX hcode ((C.keeps fun b o e=>xaa _ e).code (xaa _ hP) ht) ((C.keeps fun b o e=>xaa _ e).tab (xaa _ hP)) hnf fun c' h' tk hx hge' hlt _ hrec htb _=>?_);have hx':Heap.ExtBut Pt s.heap h':=fun b o n e=>hx b o n (kp _ b o e);have sz:s.heap.objs.size<=c':=xav (by rw[xbS];exact xbO _) hge';have hg':=(hg.push _).extBut hx hgP;refine tG (wpAny_builtinsFor hg' b1 b2 (hx' _ _ b4 b5) b6 b7 b8 (tG (wpAny_nsGet hg' ?_)))
 cases hdoc:docOf body with
 |none=>exact tG (xaf (xaJ (h c' _ .none h' tk hx' sz hlt hrec htb.2) (by size_fits)))
 |some t=>exact tG (wpAny_mkText (xaJ (h c' _ _ h' _ hx' sz hlt hrec htb.2) (by size_fits)))
theorem zdw {cv:Value}(hcl:closureFor scope env=pure cl)(hne:cl≠ [])(hge:env.globals=mainGlobals)(hg:s.heap.Ns mainGlobals mg)(hcode:env.code=.ref c)(C:PySem.W.CodeHd s.heap c Pt)(hP:s.heap.get? Pt=some (PySem.W.tabObj ps))(ht:TriplesOk ps.toList)(hf:codeAmong pos ps.toList=some cv)(hb:s.heap.BuiltinsAt mg Pt)
  (h:∀(ctv doc:Value) (h':Heap) (tk:Nat),(∀b o,s.heap.get? b=some o->h'.get? b=some o)->s.heap.objs.size<=h'.objs.size->
   Q (.ref h'.objs.size) {s with heap:=h'.push {cls:=.type "function",data:=.func (PySem.W.fnX name qual params body scope cl dV .none doc ((mg "__name__").getD .none) none cv ctv)},toks:=tk}):wpAny M A (makeTail name qual params (.stmts body) scope env dV .none none pos ln) Q E s:=by
 have ie:cl.isEmpty=false:=by cases cl with |nil=>exact absurd rfl hne |cons a r=>rfl
 obtain⟨bm,ob,b1,b2,_,b4,b5,b6,b7,b8⟩:=hb;have kp:∀(o:Obj) (b:Addr) (u:Obj),s.heap.get? b=some u->(s.heap.push o).get? b=some u:=fun o b u e=>xaa o e;unfold makeTail;rw[hcl,hge];refine tG (xaf ?_);simp only[ie,xbL,xbP];refine tG (xcG ?_);refine tG (wpAny_functionCode_hit hcode ((C.keeps fun b o e=>xaa _ e).code (xaa _ hP) ht) hf ?_);refine tG (wpAny_builtinsFor (hg.push _) b1 b2 (xaa _ b5) b6 b7 b8 (tG (wpAny_nsGet (hg.push _) ?_)));have sz:∀o:Obj,s.heap.objs.size<=(s.heap.push o).objs.size:=fun o=>by rw[xbS];exact xbO _
 cases hdoc:docOf body with
 |none=>exact tG (xaf (xaJ (h _ .none _ s.toks (fun b o e=>xaa _ e) (sz _)) (by size_fits)))
 |some t=>exact tG (wpAny_mkText (xaJ (h _ _ _ _ (fun b o e=>xaa _ e) (sz _)) (by size_fits)))
theorem def_dflt {Q:Flow->Shared->Prop}{n:Int}{a:Nat}{p:Pos}(hd:params.defaults=[.Constant (.int n) a p])(hk:params.kw_defaults=[])(hko:params.kwonlyargs=[])(ha:annTrees params none env=[])
  (h:wpAny M A (makeTail name (qualnameIn env name name) params (.stmts body) scope env (.ref s.heap.objs.size) .none none pos pos.line) (fun v s'=>wpAny M A (storeName env name v) (fun _ s''=>Q .next s'') E s') E {s with heap:=s.heap.push {cls:=.type "tuple",data:=.seq #[.int n s.toks]},toks:=s.toks + 1}):
  wpAny M A (exec (.FunctionDef name params body [] none [] scope none name pos) env) Q E s:=by
 rw[exec_def];refine tG (xck (tG (xcK ?_)));rw[defaultsOf_eq,hd,hk,ha];refine tG (wpAny_evalAll_cons (wpAny_Constant_int (wpAny_evalAll_nil ?_)));refine tG (xcK (xaf ?_));refine xcK (tG (xaf ?_));rw[makeFunction_eq,hko];refine tG (xcG ?_);exact xaS h (fun v s' h'=>tG (xck (tG (wpAny_bindName (xaS h' (fun _ _ h''=>xaf h'') fun _ _ x=>x))))) fun _ _ x=>x
end
theorem Kw {X:Cx}{Wx:XW}{kt:Nat}{nm:Str}{i:FnT}{caps:List (Str×Nat)}{cl:List (Str×Addr)}{c Pt:Addr}{j:Nat}{p1 p2:Pos}(m:MkOk X nm i caps cl c Pt j):xQ X Wx [i.st,.Return (some (.Name i.x p1)) p2] (gZ kt nm i caps):=by
  intro s σ H D I hh;obtain⟨P0,H0,P,Os,env,M,out,M',k,e,q⟩:=hh;unfold gZ at e;split at e
  · rename_i nm' i' hM;split at e
    · rename_i hni;obtain⟨rfl,rfl⟩:=hni;rw[xac]at e;obtain⟨cs,ec,e⟩:=e;cases e;obtain⟨c0,ps,ht,hPt0,hps⟩:wF X.K H (P.io kt) nm' i':=k.hk.cell kt _ hM;obtain⟨rfl,rfl⟩:c=c0/\Pt=P.io kt:=by
        have z:=m.tab.symm.trans ht;cases z;exact⟨rfl,rfl⟩
      have KX:=I.kIn;have C:=xdn KX m.hd;have hP:s.heap.get? (P.io kt)=some (PySem.W.tabObj ps):=I.hok _ _ hPt0;have hg:s.heap.Ns mainGlobals X.mg:=I.ok.mod.glob.keeps I.bk;have tr:∀{b:Addr} {o:Obj},X.base.get? b=some o->b≠P.io kt:=fun g z=>by
        have:=(I.bs _ _ g).2;rw[z,hPt0]at this;cases this
      have hgP:mainGlobals≠P.io kt:=by
        obtain⟨o,_,_,g,_⟩:=I.ok.mod.glob;exact tr g
      obtain⟨bm,ob,b1,b2,b3,b4,b5,b6,b7⟩:=m.bm;have hbm:s.heap.BuiltinsAt X.mg (P.io kt):=⟨bm,ob,b1,b2,b3,tr b4,I.bk _ _ b4,b5,b6,b7⟩;obtain⟨params,body,scope,hst,dd,d2,d3,d4⟩:=m.st;have efo:∀dV doc ctv c',({cls:=.type "function",data:=.func (PySem.W.fnX i'.x i'.q params body scope cl dV .none doc ((X.mg "__name__").getD .none) none (.ref c') ctv)}:Obj)=vh X.mg i' cl dV doc ctv c':=fun dV doc ctv c'=>by
        unfold vh;rw[hst];rfl
      have hcl':closureFor scope X.env=pure cl:=by
        have:=m.clo;rw[hst]at this;exact this
      -- a state behind the making:what is new is tracked
      have lay:∀(hn:Hp) (h':Heap) (tk:Nat) (c':Addr) (dV doc ctv:Value) (ps':Array Value) (oc:Obj) (fs:Array Value) (t:Tok) (hd:lB hn i'.dd dV),(∀b,b<s.heap.objs.size->hn b=H b)->(∀b u,s.heap.objs.size<=b->hn b=some u->b<h'.objs.size/\b≠c'/\∃ob,u=.frz ob (.own b)/\h'.get? b=some ob)->
          (∀b o,b≠P.io kt->s.heap.get? b=some o->h'.get? b=some o)->s.heap.objs.size<=c'->c'<h'.objs.size->h'.get? c'=some oc->oc.data=.fields fs->fs[1]? =some (.str i'.q t)->h'.get? (P.io kt)=some (PySem.W.tabObj #[rawInt i'.pos.line,rawInt i'.pos.col,.ref c'])->ps= #[]->
          wpAny (model X.prog X.w) X.A (storeName X.env i'.x (.ref h'.objs.size)) (fun _ s''=>wpAny (model X.prog X.w) X.A (execs [.Return (some (.Name i'.x p1)) p2] X.env) (XP X D) X.xe s'') X.xe {s with heap:=h'.push (vh X.mg i' cl dV doc ctv c'),toks:=tk}:=by
        intro hn h' tk c' dV doc ctv ps' oc fs t hd hold hnew kp hge hlt hoc hdat hv htb hps0;subst hps0;have ltH:∀{b:Addr} {u:HO},H b=some u->b<s.heap.objs.size:=fun e=>(I.hok _ _ e).lt;have sN:Same H hn:=fun b u e=>by rw[hold b (ltH e)];exact e
        have hPn:hn (P.io kt)=some (.tbl #[]):=sN _ _ hPt0;have hc0:hn c'=none:=by
          cases z:hn c' with
          |none=>rfl
          |some u=>exact absurd rfl (hnew c' u hge z).2.1
        have neP:c'≠P.io kt:=fun z=>by rw[z,hPn]at hc0;cases hc0
        have fge:s.heap.objs.size<=h'.objs.size:=xav hge (xca hlt);have hf0:hn h'.objs.size=none:=by
          cases z:hn h'.objs.size with
          |none=>rfl
          |some u=>exact absurd (hnew _ u fge z).1 (xa4 _)
        have nfP:h'.objs.size≠P.io kt:=fun z=>by rw[z,hPn]at hf0;cases hf0
        have nfc:h'.objs.size≠c':=xcT hlt;have sa:Same H (upd hn c' (.frz oc (.own c'))):=Same.trans sN (tY hc0);have hka:=k.hk.same sa;have frz1:∀b o u,hn b=some (.frz o u)->upd (upd hn c' (.frz oc (.own c'))) (P.io kt) (.tbl #[rawInt i'.pos.line,rawInt i'.pos.col,.ref c']) b=some (.frz o u):=fun b o u e=>by
          rw[dD (fun z=>by rw[z,hPn]at e;cases e),dD (fun z=>by rw[z,hc0]at e;cases e)];exact e
        have cod:lX (upd (upd hn c' (.frz oc (.own c'))) (P.io kt) (.tbl #[rawInt i'.pos.line,rawInt i'.pos.col,.ref c'])) c' i'.q:=⟨oc,fs,t,by rw[dD neP];exact fP,hdat,hv⟩;obtain⟨_,lE,hkb⟩:=hka.set (c':=.tbl nm' i') (o':=.tbl #[rawInt i'.pos.line,rawInt i'.pos.col,.ref c']) hM ⟨c,_,m.tab,fP,.inr ⟨c',rfl,cod⟩⟩;rw[set_same hM]at hkb;refine Wn m I k ec q _ tk h'.objs.size c' dV doc ctv _ (VP (tk:=tk) I hPt0 (fun b o hb g=>xaa _ (kp b o hb g)) (fun b hb hbp=>?_) ⟨#[rawInt i'.pos.line,rawInt i'.pos.col,.ref c'],?_,?_⟩ fun a o ha ea=>?_) ((LtE.same sa).trans lE) hkb (by rw[dD nfP,dD nfc];exact hf0) cod (hd.up frz1)
        · rw[dD (xaw (xad hb fge)),dD hbp,dD (xaw (xad hb hge))];exact hold b hb
        · rw[dD nfP.symm,fP]
          simp
        · refine xaa _ ?_;rw[htb]
          simp[PySem.W.tabObj]
        · by_cases h1:a=h'.objs.size
          · subst h1;rw[fP]at ea;cases ea;exact⟨_,rfl,xas _ rfl⟩
          · rw[dD h1]at ea
            by_cases h2:a=P.io kt
            · exact absurd (xad (ltH hPt0) (h2 ▸ ha)) (xa4 _)
            · rw[dD h2]at ea
              by_cases h3:a=c'
              · subst h3;rw[fP]at ea;cases ea;exact⟨_,rfl,xaa _ hoc⟩
              · rw[dD h3]at ea;obtain⟨_,_,ob,e1,e2⟩:=hnew a o ha ea;exact⟨ob,e1,xaa _ e2⟩
      have lay2:∀(hn:Hp) (h':Heap) (tk:Nat) (c':Addr) (dV doc ctv:Value) (hd:lB hn i'.dd dV),lX H c' i'.q->(∀b,b<s.heap.objs.size->hn b=H b)->(∀b u,s.heap.objs.size<=b->hn b=some u->b<h'.objs.size/\∃ob,u=.frz ob (.own b)/\h'.get? b=some ob)->
          (∀b o,s.heap.get? b=some o->h'.get? b=some o)->s.heap.objs.size<=h'.objs.size->
          wpAny (model X.prog X.w) X.A (storeName X.env i'.x (.ref h'.objs.size)) (fun _ s''=>wpAny (model X.prog X.w) X.A (execs [.Return (some (.Name i'.x p1)) p2] X.env) (XP X D) X.xe s'') X.xe {s with heap:=h'.push (vh X.mg i' cl dV doc ctv c'),toks:=tk}:=by
        intro hn h' tk c' dV doc ctv hd hcod hold hnew kp fge;have ltH:∀{b:Addr} {u:HO},H b=some u->b<s.heap.objs.size:=fun e=>(I.hok _ _ e).lt;have sN:Same H hn:=fun b u e=>by rw[hold b (ltH e)];exact e
        have hf0:hn h'.objs.size=none:=by
          cases z:hn h'.objs.size with
          |none=>rfl
          |some u=>exact absurd (hnew _ u fge z).1 (xa4 _)
        have nfP:h'.objs.size≠P.io kt:=fun z=>by rw[z,sN _ _ hPt0]at hf0;cases hf0
        refine Wn m I k ec q _ tk h'.objs.size c' dV doc ctv hn (VP (tk:=tk) I hPt0 (fun b o _ g=>xaa _ (kp b o g)) (fun b hb hbp=>?_) ⟨#[],?_,?_⟩ fun a o ha ea=>?_) (LtE.same sN) (k.hk.same sN) hf0 (hcod.up fun b o u e=>sN b _ e) hd
        · rw[dD (xaw (xad hb fge))];exact hold b hb
        · rw[dD nfP.symm,sN _ _ hPt0]
          simp
        · refine xaa _ ?_;rw[kp _ _ hP]
          simp[PySem.W.tabObj]
        · by_cases h1:a=h'.objs.size
          · subst h1;rw[fP]at ea;cases ea;exact⟨_,rfl,xas _ rfl⟩
          · rw[dD h1]at ea;obtain⟨_,ob,e1,e2⟩:=hnew a o ha ea;exact⟨ob,e1,xaa _ e2⟩
      have nH:∀{b:Addr} {u:HO},s.heap.objs.size<=b->H b=some u->False:=fun hb e=>absurd (xad (I.hok _ _ e).lt hb) (xa4 _);refine xcl ?_;rw[hst];rcases dd with⟨d1,e1⟩ |⟨n,a,p,d1,e1,ne⟩
      · refine PySem.W.nestDef_K d1 d2 d4 ?_;rw[m.q];rcases hps with rfl |⟨c',rfl,hcod⟩
        · refine PySem.W.makeFunction_K hcl' I.ok.glob hg m.code C hP trivial rfl hgP hbm fun c' ctv doc h' tk hx hge hlt hrec htb=>?_;obtain⟨c2,oc,fs,t,e2,hoc,hdat,hv⟩:=hrec;cases e2;have key:=lay H h' tk c' .none doc ctv #[] oc fs t (.inl ⟨e1,rfl⟩) (fun _ _=>rfl) (fun b u hb e=>(nH hb e).elim) hx hge hlt hoc hdat hv (by rw[htb];simp) rfl;rw[<-efo]at key;exact key
        · refine PySem.W.makeFunction_hit hcl' I.ok.glob hg m.code C hP (by simp[TriplesOk,rawInt]) (show codeAmong i'.pos _=some (.ref c') by simp[codeAmong,rawInt]) hbm fun ctv doc h' tk hkp hsz=>?_;have key:=lay2 H h' tk c' .none doc ctv (.inl ⟨e1,rfl⟩) hcod (fun _ _=>rfl) (fun b u hb e=>(nH hb e).elim) hkp hsz;rw[<-efo]at key;exact key
      · refine def_dflt d1 d2 d3 d4 ?_;rw[m.q];have pk:∀(o:Obj) (b:Addr) (u:Obj),s.heap.get? b=some u->(s.heap.push o).get? b=some u:=fun o b u e=>xaa o e;have psz:(s.heap.push {cls:=.type "tuple",data:=.seq #[.int n s.toks]}).objs.size=s.heap.objs.size + 1:=xbS ..;have td:(s.heap.push {cls:=.type "tuple",data:=.seq #[.int n s.toks]}).get? s.heap.objs.size=some {cls:=.type "tuple",data:=.seq #[.int n s.toks]}:=xas _ rfl;have tP:s.heap.objs.size≠P.io kt:=fun z=>nH (xcu z) hPt0;have hbm2:(s.heap.push {cls:=.type "tuple",data:=.seq #[.int n s.toks]}).BuiltinsAt X.mg (P.io kt):=⟨bm,ob,b1,b2,b3,tr b4,pk _ _ _ (I.bk _ _ b4),b5,b6,b7⟩;have hdf:lB (upd H s.heap.objs.size (.frz {cls:=.type "tuple",data:=.seq #[.int n s.toks]} (.own s.heap.objs.size))) i'.dd (.ref s.heap.objs.size):=.inr ⟨by rw[e1];exact fun z=>(nomatch z),s.heap.objs.size,_,_,_,rfl,fP,rfl,by rw[e1];exact .cons ⟨_,rfl⟩ .nil⟩
        have hold:∀b,b<s.heap.objs.size->upd H s.heap.objs.size (.frz {cls:=.type "tuple",data:=.seq #[.int n s.toks]} (.own s.heap.objs.size)) b=H b:=fun b hb=>dD (xaw hb);have hnw:∀b u,s.heap.objs.size<=b->upd H s.heap.objs.size (.frz {cls:=.type "tuple",data:=.seq #[.int n s.toks]} (.own s.heap.objs.size)) b=some u->b=s.heap.objs.size/\u=.frz {cls:=.type "tuple",data:=.seq #[.int n s.toks]} (.own b):=fun b u hb e=>by
          by_cases z:b=s.heap.objs.size
          · subst z;rw[fP]at e;cases e;exact⟨rfl,rfl⟩
          · rw[dD z]at e;exact(nH hb e).elim
        rcases hps with rfl |⟨c',rfl,hcod⟩
        · refine zdr (mg:=X.mg) (c:=c) (Pt:=P.io kt) (ps:= #[]) hcl' ne I.ok.glob (hg.push _) m.code (C.keeps (pk _)) (pk _ _ _ hP) trivial rfl hgP hbm2 fun c' ctv doc h' tk hx hge hlt hrec htb=>?_;obtain⟨c2,oc,fs,t,e2,hoc,hdat,hv⟩:=hrec;cases e2;have hge':s.heap.objs.size + 1<=c':=by rw[<-psz];exact hge
          have key := lay _ h' tk c' _ doc ctv #[] oc fs t hdf hold (fun b u hb e=>by
            obtain⟨rfl,rfl⟩:=hnw b u hb e;exact⟨xad (xbo _) (xav hge' (xca hlt)),xaw hge',_,rfl,hx _ _ tP td⟩) (fun b o hb g=>hx b o hb (pk _ b o g)) (xav (xbO _) hge') hlt hoc hdat hv (by rw[htb];simp) rfl
          rw[<-efo]at key;exact key
        · refine zdw (mg:=X.mg) (c:=c) (Pt:=P.io kt) hcl' ne I.ok.glob (hg.push _) m.code (C.keeps (pk _)) (pk _ _ _ hP) (by simp[TriplesOk,rawInt]) (show codeAmong i'.pos _=some (.ref c') by simp[codeAmong,rawInt]) hbm2 fun ctv doc h' tk hkp hsz=>?_;have hsz':s.heap.objs.size + 1<=h'.objs.size:=by rw[<-psz];exact hsz
          have key := lay2 _ h' tk c' _ doc ctv hdf hcod hold (fun b u hb e=>by
            obtain⟨rfl,rfl⟩:=hnw b u hb e;exact⟨hsz',_,rfl,hkp _ _ td⟩) (fun b o g=>hkp b o (pk _ b o g)) (xav (xbO _) hsz')
          rw[<-efo]at key;exact key
    · cases e
  · cases e
end E3
namespace E3
open PySem PySem.Spec PyProof.Rows L2
section
variable {P:Program}{w:World}{K:Fgx}{mg:Mgx}{base:Heap}{k:Nat}{x qual:Str}{st:Stmt}{f:Addr}{fd:FuncData}{N ps:List Str}{b:S}
theorem zgH {X:Cx}{st:List Stmt}{t:TS}(h:PX X.nox st t):PX X st t:=fun s σ H D I hw=>xaS (h s σ H D (I.wish _) hw) (fun _ _ q=>q) fun _ _ z=>False.elim z
theorem ze5 {c Pt:Addr}(F:FunD K x qual st f fd)(S:FnScope N ps (aF st))(hp:ps.length<=N.length)(hm:mg x=some (.ref f))(ht:PySem.W.tabIn K x=some (c,Pt))
    (hb:∀A outer s H E,Room k (A.deeper (envOfC qual (aF st) s.heap.objs.size f (.ref c)))->xQ (wO P w K mg base N qual st f (.ref c) A outer s H E) W0 (aZ st) b):FnOk P w K mg base lK (k + 1) f fd ps (t_ K mg ps.length (aV N.length b)):=by
  obtain⟨oc,od,dV,kV,doc,pm,an,cdv,ct,osl,rfl,lk,hcd⟩:=F.ex;refine⟨fun vs H Q E h=>h.1,fun A outer s H args us vs Q E hr e0 hbd r hsp=>?_⟩;have hl:vs.length=ps.length:=hsp.1;have KX:K.In s.heap:=e0.mod.kin.keeps fun b o e=>(e0.bs b o e).1;obtain rfl:cdv=.ref c:=PySem.W.law_code e0.mod.kin e0.mod.glob ht hm (e0.mod.kin _ _ lk) rfl;have lim:s.heap.NoLimit:=e0.mod.nolimit.keeps fun b o e=>(e0.bs b o e).1;have hkind:∀y∈ps.zip us,(aF st).names.lookup y.1=some .local\/((aF st).names.lookup y.1=some .cell/\((cellsFrom (s.heap.objs.size + 1) (aF st).names []).lookup y.1).isSome=true):=fun⟨n,v⟩ hy=>by
    rcases S.par n (xb7 hy).1 with q |q
    · exact .inl q
    · exact .inr ⟨q,xcj _ _ _ (.inl q)⟩
  refine xcp hr.depth (KX _ _ lk) rfl S.co S.gen rfl (xds KX hcd) (hbd _ _ _ _ ?_);refine xcJ S.kind hkind fun env he s1 x=>?_;subst he;refine⟨lim.keeps x.toInCall.keep,codeAny_func ?_⟩;have I:Inv (gA lK P w K mg base N qual (aF st) f (.ref c) A outer s H E) [] (start N vs) H s1:=VR S hr.hd e0 hl r x;obtain⟨_,Pl,M,ds,d,M',hk,is,e,q⟩:=hsp;have st0:=Sx (N:=N) hk (by omega) is;have hq:tS K mg W0 b {nx:=fun _ H'=>Q .non H',rt:=Q} (start N vs) H:=by
    unfold aV eO at e;split at e
    · rename_i d' M2 eb;cases e;exact⟨Pl,H,Pl,_,_,M,_,_,st0,eb,fun P' v H' l h i=>q P' v H' l h i⟩
    · rename_i env M2 eb;cases e;exact⟨Pl,H,Pl,_,_,M,_,_,st0,eb,fun P' Os' H' st' _ k'=>q P' .non H' k'.base k'.hk rfl⟩
    · rename_i c n M2 eb;cases e
    · cases e
  refine xaS (zgH (hb A outer s H E (hr.deeper _)) s1 (start N vs) H _ I hq) (fun fl s' hs=>?_) fun e s' hs=>hs
  cases fl with
  |ret u=>
    obtain⟨v,H',h1,h2,h3,h4,h5,h6⟩:=hs;exact⟨v,H',h1,h2,h3,h4,h5,h6⟩
  |next=>exact False.elim hs
  |brk=>
    obtain⟨_,_,z⟩:=hs;exact False.elim z
  |cont=>
    obtain⟨_,_,z⟩:=hs;exact False.elim z
theorem zfK {c Pt:Addr}(F:FunD K x qual st f fd)(S:FnScope N ps (aF st))(hp:ps.length<=N.length)(hm:mg x=some (.ref f))(hd:Binds K fd ps [])(ht:PySem.W.tabIn K x=some (c,Pt))
  (hb:∀A outer s H E,Room k (A.deeper (envOfC qual (aF st) s.heap.objs.size f (.ref c)))->xQ (wO P w K mg base N qual st f (.ref c) A outer s H E) W0 (aZ st) b):aY P w K mg base (k + 1) x ps.length (aV N.length b):=
 ⟨f,fd,ps,[],[],_,hm,F.kp,ze5 F S hp hm ht hb,hd,.nil,fun vs H Q E h=>by rw[xaV];exact h⟩
end
structure FnScopeC (N ps fr:List Str)(sc:Scope):Prop where
 kind:sc.kind=.function
 co:sc.isCoroutine=false
 gen:sc.isGenerator=false
 nd:N.Nodup
 pre:N.take ps.length=ps
 suf:N.drop (N.length - fr.length)=fr
 len:ps.length + fr.length<=N.length
 par:∀x∈ps,sc.names.lookup x=some .local
 fre:∀x∈fr,sc.names.lookup x=some .free
 all:∀y∈sc.names,y.2=.free->y.1∈fr
 noc:∀y∈sc.names,y.2≠ .cell
noncomputable def zX (N:List Str) (vs cvs:List V):L2.St:=vs.map some ++ (List.replicate (N.length - vs.length - cvs.length) none ++ cvs.map some)
noncomputable def wQ (np n:Nat) (ds:List D):Env:=(ds.take np).map .val ++ (List.replicate (n - ds.length) .un ++ (ds.drop np).map .val)
def mF (np n:Nat)(b:S):G:=fun ds M=>eO (b (wQ np n ds) M)
noncomputable def Ji (P:Program) (w:World) (K:Fgx) (mg:Mgx) (base:Heap) (N:List Str) (i:FnT) (f:Addr) (cd:Value) (cl:List (Str×Addr)) (A:Around) (outer:List PySem.Env) (s:Shared) (H:Hp):Cx where
 prog:=P
 w:=w
 K:=K
 mg:=mg
 base:=base
 A:=A.deeper (PySem.W.envX i.q (aF i.st) s.heap.objs.size f cd cl)
 N:=N
 s₀:=s
 H₀:=H
 env:=PySem.W.envX i.q (aF i.st) s.heap.objs.size f cd cl
 outer:=outer
 stack:=PySem.W.envX i.q (aF i.st) s.heap.objs.size f cd cl::outer
 ex:=[]
 calm:=true
 fn:=fun _=>false
 pn:=[]
 xe:=fun _ _=>False
theorem rm.get {H:Hp}:∀{cl:List (Str×Addr)} {vs:List V} {j:Nat} {p:Str×Addr},rm H cl vs->cl[j]? =some p->∃v u o,vs[j]? =some v/\RelV v u/\H p.2=some (.frz o (.own p.2))/\o.data=.cell (some u)
  | [],_,_,_,_,e=>by simp at e
  |q::cl,_,0,p,h,e=>by
    obtain⟨v,ws,u,o,e1,r,g,d,_⟩:=h
    simp at e
    subst e e1;exact⟨v,u,o,rfl,r,g,d⟩
  |q::cl,_,j + 1,p,h,e=>by
    obtain⟨v,ws,u,o,e1,_,_,_,h⟩:=h;subst e1;exact rm.get (j:=j) h (by simpa using e)
theorem rm.len {H:Hp}:∀{cl:List (Str×Addr)} {vs:List V},rm H cl vs->vs.length=cl.length
  | [],_,h=>by rw[show _=[] from h];rfl
  |q::cl,_,h=>by
    obtain⟨v,ws,u,o,e1,_,_,_,h⟩:=h;subst e1
    simp[h.len]
theorem Jt {β:Type}:∀{l:List (Str×β)} {y:Str} {u:β},(l.map (·.1)).Nodup->(y,u)∈l->l.lookup y=some u
  | [],_,_,_,h=>nomatch h
  |(z,v)::l,y,u,nd,h=>by
    have nd':=xbm.mp nd;rw[xbp];rcases xaI.mp h with hm |hm
    · obtain⟨rfl,rfl⟩:=Prod.mk.inj hm;rw[xbk]
    · have:(y==z)=false:=by
        rw[xa9];exact fun z'=>nd'.1 (xbi.mpr ⟨_,hm,z'⟩)
      rw[this];exact Jt nd'.2 hm
theorem Z9 {α β:Type}:∀{l:List α} {m:List β},l.length=m.length->(l.zip m).map (·.1)=l
  | [],[],_=>rfl
  | [],_::_,h=>by simp at h
  |_::_,[],h=>by simp at h
  |a::l,b::m,h=>by
    rw[xdv,xaA,Z9 (by simpa using h)]
theorem zip_get {α β:Type}:∀{l:List α} {m:List β} {i:Nat} {a:α} {b:β},l[i]? =some a->m[i]? =some b->(a,b)∈l.zip m
  | [],_,_,_,_,h,_=>by simp at h
  |_::_,[],_,_,_,_,h=>by simp at h
  |a::l,b::m,0,_,_,h1,h2=>by
    simp at h1 h2
    subst h1 h2
    simp
  |a::l,b::m,i + 1,_,_,h1,h2=>by
    rw[xdv];exact xap _ (zip_get (i:=i) (by simpa using h1) (by simpa using h2))
section
variable {P:Program}{w:World}{K:Fgx}{mg:Mgx}{base:Heap}{k:Nat}{i:FnT}{N ps:List Str}{b:S}
theorem zca {fr:List Str}{f:Addr}{cd:Value}{cl:List (Str×Addr)}{A:Around}{outer:List PySem.Env}{s:Shared}{H:Hp}{us:List Value}{vs cvs:List V}{h':Heap}{tk:Nat}(S:FnScopeC N ps fr (aF i.st))(hd:A.handled=none)(e0:Env0 P w K mg base A outer s H)
    (hl:vs.length=ps.length) (r:Vals vs us) (hfr:cl.map (·.1)=fr) (hc:rm H cl cvs) (hi:∀x y a,cl.lookup x=some a->cl.lookup y=some a->x=y)
    (hns:h'.Ns s.heap.objs.size (fun x=>(ps.zip us).reverse.lookup x)) (hk:∀b o,s.heap.get? b=some o->h'.get? b=some o):
    Inv (Ji P w K mg base N i f cd cl A outer s H) [] (zX N vs cvs) H {s with heap:=h',toks:=tk}:=by
  have noA:∀b:Addr,b∉(Ji P w K mg base N i f cd cl A outer s H).ex:=fun b z=>absurd (show b∈([]:List Addr) from z) (by simp);have ndf:(cl.map (·.1)).Nodup:=by rw[hfr, <-S.suf];exact S.nd.sublist (List.drop_sublist _ _)
  have cll:cvs.length=fr.length:=by rw[hc.len, <-hfr,xao]
  have S_len:=S.len;have cellAt:∀y c,cl.lookup y=some c->∃u o,H c=some (.frz o (.own c))/\o.data=.cell (some u)/\h'.get? c=some o:=fun y c e=>by
    obtain⟨j,hj⟩:=List.getElem?_of_mem (xaT e);obtain⟨v,u,o,_,_,g,d⟩:=hc.get hj;exact⟨u,o,g,d,hk _ _ (e0.hok _ _ g).1⟩
  have ulen:us.length=ps.length:=by rw[<-r.length];exact hl
  have ndP:ps.Nodup:=by rw[<-S.pre];exact S.nd.sublist (xdx _ _)
  refine ⟨⟨e0.mod,S.kind,rfl,rfl,xag _,hi,fun y hy=>?_,(fun y c z=>nomatch z),fun _=>hd,Around.frames_deeper e0.frames,.inr ⟨rfl,rfl⟩,fun b z=>absurd z (noA b),e0.bs,e0.bsz,fun b _ _=>noA b,fun b z=>absurd z (noA b),e0.funs,e0.frf⟩,
    rfl,e0.bare,Un.kept hk,⟨_,hns,fun n y v h1 h2 h3=>?_⟩,fun y c h=>?_,e0.hok.fresh (xag _),fun y c h=>?_,fun p hp=>absurd (show p∈([]:Pnx) from hp) (by simp),e0.hok.kept hk,?_⟩
  · have hy:(aF i.st).names.lookup y=some .cell\/(aF i.st).names.lookup y=some .free:=hy;rcases hy with hy |hy
    · exact absurd rfl (S.noc _ (xaT hy))
    · have:y∈cl.map (·.1):=by rw[hfr];exact S.all _ (xaT hy) rfl
      obtain⟨p,hp,rfl⟩:=xbi.mp this;exact⟨p.2,Jt ndf hp⟩
  · unfold zX at h2
    by_cases hn:n<vs.length
    · rw[xaB (by simpa using hn),xam]at h2;have ha:vs[n]? =some v:=by
        cases e:vs[n]? with
        |none=>rw[e]at h2;cases h2
        |some a=>rw[e]at h2;cases h2;rfl
      obtain⟨u,hu,rv⟩:=r.get ha;have hp:ps[n]? =some y:=by rw[<-S.pre,xcU (by omega)];exact h1
      refine⟨u,rv,.inl ⟨S.par y (xax hp),?_⟩⟩;refine Jt ?_ (List.mem_reverse.mpr (zip_get hp hu));rw[xco,Z9 ulen.symm];exact(List.reverse_perm _).nodup_iff.mpr ndP
    · rw[xaC (by simpa using hn),xao]at h2
      by_cases hn2:n - vs.length<N.length - vs.length - cvs.length
      · rw[xaB (by simpa using hn2),xaU,xab hn2]at h2;cases h2
      · rw[xaC (by simpa using hn2),xbc,xam]at h2;have ha:cvs[n - vs.length - (N.length - vs.length - cvs.length)]? =some v:=by
          cases e:cvs[n - vs.length - (N.length - vs.length - cvs.length)]? with
          |none=>rw[e]at h2;cases h2
          |some a=>rw[e]at h2;cases h2;rfl
        have hf:fr[n - vs.length - (N.length - vs.length - cvs.length)]? =some y:=by
          have:(N.drop (N.length - fr.length))[n - vs.length - (N.length - vs.length - cvs.length)]? =some y:=by
            rw[List.getElem?_drop, <-h1];congr 1;omega
          rw[S.suf]at this;exact this
        rw[<-hfr,xam,xac]at hf;obtain⟨p,hp,rfl⟩:=hf;obtain⟨v',u,o,ev,ru,g,d⟩:=hc.get hp;rw[ha]at ev;cases ev;refine⟨u,ru,.inr ⟨.inr (S.fre _ (by rw[<-hfr];exact xbi.mpr ⟨p,xax hp,rfl⟩)),p.2,Jt ndf (xax hp),o,hk _ _ (e0.hok _ _ g).1,d⟩⟩
  · obtain⟨u,o,_,d,g⟩:=cellAt y c h;exact⟨some u,o,g,d⟩
  · obtain⟨u,o,g,_,_⟩:=cellAt y c h;exact .inr ⟨rfl,o,_,g⟩
  · unfold zX;show _=N.length;rw[xat,xat,xao,xbc,xao];omega
theorem zcQ {Pl:Pl}{H:Hp}{M:Mm}{ds cds:List D}{vs cvs:List V}(hk:Hk K mg Pl H M)(hl:vs.length + cvs.length<=N.length)(h:aH K Pl H ds vs)(hc:aH K Pl H cds cvs):
  Ok K mg Pl H Pl (List.replicate N.length none) H M (zX N vs cvs) (wQ ds.length N.length (ds ++ cds)):=by
 have hd:=h.len;have hd2:=hc.len;have ee:wQ ds.length N.length (ds ++ cds)=ds.map .val ++ (List.replicate (N.length - vs.length - cvs.length) .un ++ cds.map .val):=by
  unfold wQ;rw[List.take_left,List.drop_left,xat,hd,hd2,Nat.sub_sub]
 rw[ee];refine⟨hk,LtE.refl Pl H,hk.here,fun n s e=>?_,fun a z=>?_,fun n j a e1 _=>?_,by simp;omega,by simp[zX];omega⟩
 ·have e0:((List.replicate N.length (none:Option Addr))[n]?).join=none:=by
   rw[xaU]
   split<;>rfl
  rw[e0];unfold zX
  by_cases hi:n<ds.length
  ·rw[xaB (by simpa using hi),xam,xai hi]at e;simp only[xba,xcP]at e;subst e;obtain⟨v,ev,p⟩:=h.get (xai hi);refine⟨v,?_,p⟩;rw[xaB (by rw[xao];omega),xam,ev];rfl
  ·rw[xaC (by simpa using hi),xao]at e
   by_cases h2:n - ds.length<N.length - vs.length - cvs.length
   ·rw[xaB (by simpa using h2),xaU,xab h2]at e;cases e;exact True.intro
   ·rw[xaC (by simpa using h2),xbc,xam,xac]at e;obtain⟨d,ed,rfl⟩:=e;obtain⟨v,ev,p⟩:=hc.get ed;rw[<-hd]at ev;refine⟨v,?_,p⟩;rw[xaC (by rw[xao];omega),xao,xaC (by rw[xbc];omega),xbc,xam,ev];rfl
 ·exact absurd (xc1 z) (by simp)
 ·rw[xaU]at e1;split at e1<;>cases e1
def lg (P:Program)(w:World)(K:Fgx)(mg:Mgx)(base:Heap)(k:Nat)(i:FnT)(n:Nat)(g:G):Prop:=
 ∀(A:Around) (outer:List PySem.Env) (s:Shared) (H:Hp) (us:List Value) (vs:List V) (Q:VK) (E:XK) (f:Addr) (caps:List (Str×D)) (Pl:Pl) (M:Mm) (ds:List D) (d:D) (M':Mm),Room k A->Env0 P w K mg base A outer s H->Vals vs us->vs.length=n->
  Hk K mg Pl H M->nM K mg Pl H f i caps->aH K Pl H ds vs->g (ds ++ caps.map (·.2)) M=some (.v d,M')->(∀P' v H',LtE Pl H P' H'->Hk K mg P' H' M'->Is K P' H' d v->Q v H')->codeAny (model P w) A (.call (.ref f) ⟨us,[]⟩) (CR lK outer P w H s Q E) s
theorem lg.mono {j:Nat}{n:Nat}{g:G}(a:lg P w K mg base j i n g)(h:j<=k):lg P w K mg base k i n g:=fun A outer s H us vs Q E f caps Pl M ds d M' hr=>a A outer s H us vs Q E f caps Pl M ds d M' (hr.mono h)
def sH (i:FnT)(ps:List Str)(n:Nat)(dn:List Int):Prop:=n + dn.length=ps.length/\∀(H:Hp) (s:Shared) (mgv:Value) (cl:List (Str×Addr)) (dV doc ctv cd:Value) (us:List Value),us.length=n->lB H i.dd dV->(∀a o u,H a=some (.frz o u)->s.heap.get? a=some o)->
 ∃us',Vals (dn.map V.int) us'/\BindsTo s (PySem.W.fnX i.x i.q (dG i.st) (aZ i.st) (aF i.st) cl dV .none doc mgv none cd ctv) ⟨us,[]⟩ (ps.zip (us ++ us'))
theorem V3 {K:Fgx}{P:Pl}{H:Hp}:∀dn:List Int,aH K P H (dn.map D.int) (dn.map V.int)
 | []=>rfl
 |_::r=>⟨_,_,rfl,rfl,V3 r⟩
theorem V4 {K:Fgx}{P:Pl}{H:Hp}:∀{ds es:List D} {vs ws:List V},aH K P H ds vs->aH K P H es ws->aH K P H (ds ++ es) (vs ++ ws)
  | [],_,_,_,h,g=>by
    obtain rfl:=h;exact g
  |_::_,_,_,_,⟨v,r,e,h,t⟩,g=>by
    subst e;exact⟨v,_,rfl,h,V4 t g⟩
theorem Vs {n:Nat}{dn:List Int}{g:G}(S:FnScopeC N ps i.fr (aF i.st))(hbn:sH i ps n dn)(hg:∀ds cs M,ds.length=n->g (ds ++ cs) M=mF ps.length N.length b ((ds ++ dn.map .int) ++ cs) M)
    (hb:∀f cd cl A outer s H,Room k (A.deeper (PySem.W.envX i.q (aF i.st) s.heap.objs.size f cd cl))->SB (Ji P w K mg base N i f cd cl A outer s H) W0 (aZ i.st) b):lg P w K mg base (k + 1) i n g:=by
  intro A outer s H us0 vs0 Q E f caps Pl M ds0 d M' hr e0 r0 hn0 hk fc is0 e q;obtain⟨cl,dV,doc,ctv,c,cvs,e1,⟨e2,edf⟩,⟨e3,hfr'⟩,e4,e5,e6⟩:=fc;obtain⟨oc,fs,t,c1,c2,c3⟩:=e2;have ho:s.heap.get? f=some (vh mg i cl dV doc ctv c):=(e0.hok f _ e1).1;have hcr:s.heap.CodeRec (.ref c) i.q:=⟨c,oc,fs,t,rfl,(e0.hok c _ c1).1,c2,c3⟩;have lim:s.heap.NoLimit:=e0.mod.nolimit.keeps fun b o e=>(e0.bs b o e).1;obtain⟨us',rd,hbt⟩:=hbn.2 H s ((mg "__name__").getD .none) cl dV doc ctv (.ref c) us0 (by rw[<-r0.length];exact hn0) edf fun a o u z=>(e0.hok a _ z).1;rw[hg _ _ _ (by rw[<-hn0];exact is0.len.symm)]at e;have r:Vals (vs0 ++ dn.map V.int) (us0 ++ us'):=r0.append rd;have hn:(vs0 ++ dn.map V.int).length=ps.length:=by rw[xat,xao,hn0];exact hbn.1
  have is:aH K Pl H (ds0 ++ dn.map D.int) (vs0 ++ dn.map V.int):=V4 is0 (V3 dn);clear is0 r0 rd hn0 hg;generalize us0 ++ us'=us at r hbt;generalize vs0 ++ dn.map V.int=vs at r hn is;generalize ds0 ++ dn.map D.int=ds at is e;have ulen:us.length=ps.length:=by rw[<-r.length];exact hn
  have kept:∀h':Heap,Heap.SameBut s.heap.objs.size (s.heap.push {cls:=.type "frame",data:=.dict #[]}) h'->∀b o,s.heap.get? b=some o->h'.get? b=some o:=fun h' hs b o g=>by
    rw[hs.2 b (xaw (xan g))];exact xaa _ g
  refine xcp hr.depth ho rfl S.co S.gen rfl hcr (hbt _ _ _ _ ?_);refine wpAny_newFunctionEnv S.noc (fun y hy=>S.par _ (xb7 hy).1) (fun h' hns hsame=>⟨lim.keeps (kept h' hsame),codeAny_func ?_⟩) S.kind;have cll:cvs.length=i.fr.length:=by rw[e5.len, <-hfr', <-e3,xao]
  have S_len:=S.len;have dl:=is.len;have I:=zca (P:=P) (w:=w) (base:=base) (f:=f) (cd:=.ref c) (A:=A) (outer:=outer) (tk:=s.toks + (ps.zip us).length) S hr.hd e0 hn r (e3.trans hfr') e5 e6 hns (kept h' hsame);have st0:=zcQ (N:=N) (ds:=ds) (cds:=caps.map (·.2)) hk (by omega) is e4;rw[show ds.length=ps.length by omega]at st0;have hq:tS K mg W0 b {nx:=fun _ H'=>Q .non H',rt:=Q} (zX N vs cvs) H:=by
    unfold mF eO at e;split at e
    · rename_i d' M2 eb;cases e;exact⟨Pl,H,Pl,_,_,M,_,_,st0,eb,fun P' v H' l h i=>q P' v H' l h i⟩
    · rename_i env M2 eb;cases e;exact⟨Pl,H,Pl,_,_,M,_,_,st0,eb,fun P' Os' H' st' _ k'=>q P' .non H' k'.base k'.hk rfl⟩
    · rename_i c n M2 eb;cases e
    · cases e
  refine xaS (hb f (.ref c) cl A outer s H (hr.deeper _) [] _ (zX N vs cvs) H _ I hq) (fun fl s' hs=>?_) fun e s' hs=>False.elim hs
  cases fl with
  |ret u=>
    obtain⟨v,σ',H',J,rv,z⟩:=hs;exact⟨v,H',J.os,J.bare,J.base,J.hok,rv,z⟩
  |next=>
    obtain⟨σ',H',J,z⟩:=hs;exact⟨.non,H',J.os,J.bare,J.base,J.hok,rfl,z⟩
  |brk=>
    obtain⟨_,_,_,z⟩:=hs;exact False.elim z
  |cont=>
    obtain⟨_,_,_,z⟩:=hs;exact False.elim z
end
open Classical in
noncomputable def lU (i:FnT) (g:G) (f:E) (fs:EA):E:=fun env M=>bnd (f env M) fun d M1=>match d with
  | .ref k => (match M1[k]? with
    | some (.fn i' caps) => if i' = i then gj (fs env M1) fun ds M2 => (match g (ds ++ caps.map (·.2)) M2 with
      |some (.v z,M3)=>some (.v z,M3)
      |_=>none) else none
    |_=>none)
  |_=>none
section
variable {X:Cx}{Wx:XW}{m:Mode}{pos:Pos}
theorem zc5 {k n:Nat}{hd:Expr}{i:FnT}{g:G}{e:Expr}{es:List Expr}{f:E}{fs:EA}(a:lg X.prog X.w X.K X.mg X.base k i n g)(hr:Room k X.A)(hf:SE X Wx .val hd f)(ha:SA X Wx .val (e::es) fs)(hn:u5 n fs)
    (he:starEach (e::es) X.env=(false,eval e X.env)::starEach es X.env:=by rfl) (hpl:(backTo pos (starEach es X.env)).any (·.1)=false:=by rfl) (hce:eval (.Call hd (e::es) [] pos) X.env=(eval hd X.env >>=fun v=>callWith pos v [] (backTo pos (starEach (e::es) X.env)) (backToKw pos (keywordEach [] X.env))):=by rfl):SE X Wx m (.Call hd (e::es) [] pos) (lU i g f fs):=by
  intro pins s σ H Q I hh;rw[hce];obtain⟨P0,H0,P,Os,env,M,r,M',k,e,q⟩:=hh;unfold lU at e;rcases fQ e with⟨d,M1,e1,e3⟩ |⟨c,n,e1,rfl⟩
  · clear e;split at e3
    · rename_i kk;split at e3
      · rename_i i' caps em;split at e3
        · rename_i hi;subst hi;refine tG (aX (hf pins s σ H (fun v H1=>∃P1,LtE P H P1 H1/\Hk X.K X.mg P1 H1 M1/\Is X.K P1 H1 (.ref kk) v) I ⟨P0,H0,P,Os,env,M,_,_,k,e1,fun P1 v H1 l h i=>⟨P1,l,h,i⟩⟩) fun u s1 h1=>?_);obtain⟨v,H1,I1,rv,P1,l1,h1,kl,rfl⟩:=h1;obtain rfl:u=Value.ref (P1.io kk):=rv;have fc:nM X.K X.mg P1 H1 (P1.io kk) i' caps:=h1.cell kk _ em;have fat:∀{s2:Shared} {H2:Hp},Inv X pins σ H2 s2->(∀b o u,H1 b=some (.frz o u)->H2 b=some (.frz o u))->PySem.W.FnAt (P1.io kk) s2.heap:=fun {s2 H2} J sm=>by
            obtain⟨cl,dV,doc,ctv,c,cvs,g1,_⟩:=fc;exact⟨_,_,_,_,(J.hok _ _ (sm _ _ _ g1)).1⟩
          have k1:=k.next l1 h1
          rcases sU e3 with⟨ds,M2,e2,e4⟩ |⟨c,n',e2,rfl⟩
          · split at e4
            · rename_i z M3 eg;cases e4;refine xcc (fat I1 fun _ _ _ z=>z) (aX (ha pos pins s1 σ H1 (fun vs H2=>∃P2,LtE P1 H1 P2 H2/\Hk X.K X.mg P2 H2 M2/\gb X.K P2 H2 .val ds vs) I1 ⟨P0,H0,P1,Os,env,M1,_,_,k1,e2,fun P2 vs H2 l2 h2 i2=>⟨P2,l2,h2,i2⟩⟩) fun us s2 h2=>?_) he hpl;obtain⟨vs,H2,I2,rvs,P2,l2,h2,i2⟩:=h2;have l2t:=l2.lt h1;refine⟨fat I2 l2t.frz,?_⟩;have fc2:nM X.K X.mg P2 H2 (P1.io kk) i' caps:=fc.up l2t.frz fun _ _ q=>aH.lt l2t q;refine xcQ (xbC (a X.A X.stack s2 H2 us vs Q E0 (P1.io kk) caps P2 M2 ds z _ hr I2.env0 rvs (by rw[i2.len];exact hn _ _ _ _ e2) h2 fc2 i2.iss eg fun P3 v H3 l3 h3 i3=>q P3 v H3 (l1.trans (l2.trans l3)) h3 (fV.of h3 i3)) fun r s' hq=>?_)
              cases r with
              |error e=>exact False.elim hq
              |ok fl=>
                cases fl with
                |ret u=>exact I2.after hq
                |next=>exact False.elim hq
                |brk=>exact False.elim hq
                |cont=>exact False.elim hq
            · cases e4
          · refine xcc (fat I1 fun _ _ _ z=>z) (aX (ha pos pins s1 σ H1 (fun _ _=>False) I1 ⟨P0,H0,P1,Os,env,M1,_,_,k1,e2,q⟩) fun us s2 h2=>?_) he hpl;obtain⟨_,_,_,_,z⟩:=h2;exact z.elim
        · cases e3
      · cases e3
    · cases e3
  · refine tG (aX (hf pins s σ H (fun _ _=>False) I ⟨P0,H0,P,Os,env,M,_,_,k,e1,q⟩) fun u s1 h1=>?_);obtain⟨_,_,_,_,z⟩:=h1;exact z.elim
end
end E3
namespace E3
open PySem PySem.Spec PyProof.Rows L2
noncomputable def dM (K:Fgx) (nm:Str):Addr:=((PySem.W.tabIn K nm).getD (0,0)).2
noncomputable def tabsOk (K : Fgx) (T : List (Str × FnT)) (ts : List Addr) : Bool := (T.all fun p=>match PySem.W.tabIn K p.1 with
 |some (c,P)=>PySem.W.codeHdIn K c P && (K.lookup P).isNone && ts.contains P
 |none=>false) && decide ((T.map fun p=>dM K p.1).Nodup)
theorem ZK {K:Fgx}{T:List (Str×FnT)}{ts:List Addr}(h:tabsOk K T ts=true):(∀p∈T,∃c,PySem.W.tabIn K p.1=some (c,dM K p.1)/\PySem.W.codeHdIn K c (dM K p.1)=true/\K.lookup (dM K p.1)=none/\dM K p.1∈ts)/\(T.map fun p=>dM K p.1).Nodup:=by
  unfold tabsOk at h;rw[xal,xa7]at h;refine⟨fun p hp=>?_,xbQ h.2⟩;have:=h.1 p hp;unfold dM
  cases e:PySem.W.tabIn K p.1 with
  |none=>rw[e]at this;cases this
  |some q=>
    obtain⟨c,P⟩:=q;rw[e]at this;simp only[xal,Option.isNone_iff_eq_none,List.contains_iff_mem]at this;exact⟨c,rfl,this.1.1,this.1.2,this.2⟩
def mK (T:List (Str×FnT)):Mm:=T.map fun p=>Cl.tbl p.1 p.2
def Lj (K:Fgx)(T:List (Str×FnT))(H:Hp):Prop:=∀p∈T,H (dM K p.1)=some (.tbl #[])
theorem zcF {P:Program}{w:World}{K:Fgx}{mg mb:Mgx}{CX:lM}{k:Nat}{fa a:Addr}{fd:FuncData}{x:Str}{sp:Sp}{s₁:Shared}{vs:List Value}{ns:List Int}{T:List (Str×FnT)}{ts:List Addr}
    (hT:tabsOk K T ts=true) (hts:∀P∈ts,s₁.heap.get? P=some (PySem.W.tabObj #[])) (hbm:nJ mg s₁.heap)
    (KX:K.In s₁.heap) (hns:s₁.heap.Ns mainGlobals mg) (hb:s₁.heap.Ns builtinsNs mb) (hbb:∀x:Str,x≠"__name__"->mb x=bootBuiltins x) (hlim:s₁.heap.NoLimit) (hg:s₁.gens= #[])
    (ha:s₁.heap.get? a=some {cls:=.type "list",data:=.seq vs.toArray}) (hi:IntsAre vs ns) (hl:ns.length<=sizeLine) (hr:Room k callerA)
    (F:∀base:Heap,K.In base->base.Ns mainGlobals mg->nJ mg base->FnOk P w K mg base CX k fa fd [x] sp) (hbind:∀(s:Shared) (u:Value),BindsTo s fd ⟨[u],[]⟩ [(x,u)])
    (hsp:∀H:Hp,Lj K T H->fW K H a (ns.map V.int)->sp [.ref a] H (fun v _=>v=.bl true) fun _ _ _=>False)
    (hCX:∀H e s',CX [] H s₁ (fun _ _ _=>False) e s'->False):
    codeAny (model P w) callerA (.call (.ref fa) ⟨[.ref a],[]⟩) (fun r s'=>r=.ok (.ret (.bool true))/\OldK s₁.heap s'.heap/\s'.os=s₁.os/\AllBare s'.gens) s₁:=by
  have rv:=Z4 hi;have lenV:=hi.length;obtain⟨tb,tnd⟩:=ZK hT;have inT:∀{b:Addr},(b∈T.map fun p=>dM K p.1)->(∃c,PySem.W.codeHdIn K c b=true)/\K.lookup b=none/\s₁.heap.get? b=some (PySem.W.tabObj #[]):=fun {b} h=>by
    obtain⟨p,hp,rfl⟩:=xbi.mp h;obtain⟨c,_,e2,e3,e4⟩:=tb p hp;exact⟨⟨c,e2⟩,e3,hts _ e4⟩
  have naT:(a∈T.map fun p=>dM K p.1)->False:=fun h=>by
    have:=(inT h).2.2;rw[ha]at this;cases this
  have core:∀H:Hp,(∀b,H b=none\/(∃o xs,H b=some (.frz o (.lst xs))/\b=a)\/((b∈T.map fun p=>dM K p.1)/\H b=some (.tbl #[])))->Lj K T H->fW K H a (ns.map V.int)->gh P w H s₁.heap->(H a≠none->K.lookup a=none)->
      codeAny (model P w) callerA (.call (.ref fa) ⟨[.ref a],[]⟩) (fun r s'=>r=.ok (.ret (.bool true))/\OldK s₁.heap s'.heap/\s'.os=s₁.os/\AllBare s'.gens) s₁:=by
    intro H hO hTT hS hok hK;have base_of:∀{b:Addr} {o:Obj},s₁.heap.get? b=some o->H b=none->(kY s₁.heap H).get? b=some o:=fun e n=>zc4 e n;have noA:∀{b:Addr} {o:Obj} {es:Array DictEntry} {ep:Nat},s₁.heap.get? b=some o->o.data=.dict es ep->H b=none:=fun {b o es ep} e d=>by
      rcases hO b with z |⟨_,_,_,z⟩ |⟨z,_⟩
      · exact z
      · subst z;rw[ha]at e;cases e;have d':Data.seq vs.toArray _=Data.dict es ep:=d;cases d'
      · rw[(inT z).2.2]at e;cases e;have d':Data.fields _=Data.dict es ep:=d;cases d'
    have nsK : ∀ {b : Addr} {m : Mgx}, s₁.heap.Ns b m -> (kY s₁.heap H).Ns b m := fun {b m} ⟨o, es, ep, e, d, r⟩ => ⟨o, es, ep, base_of e (noA e d), d, r⟩;have hKb : K.In (kY s₁.heap H) := fun b o e => base_of (KX b o e) (by
      rcases hO b with z |⟨o',xs,q,z⟩ |⟨z,_⟩
      · exact z
      · subst z;rw[hK (by rw[q];exact fun z=>nomatch z)]at e
        cases e
      · rw[(inT z).2.1]at e;cases e)
    have hB:nJ mg (kY s₁.heap H):=by
      obtain⟨bm,ob,b1,b2,b3,b4,b5,b6,b7⟩:=hbm;refine⟨bm,ob,b1,b2,b3,base_of b4 ?_,b5,b6,b7⟩;rcases hO bm with z |⟨_,_,_,z⟩ |⟨z,_⟩
      · exact z
      · subst z;rw[ha]at b4;cases b4;cases b7
      · rw[(inT z).2.2]at b4;cases b4;cases b7
    have hM:Mod K mg (kY s₁.heap H):=⟨hKb,nsK hns,⟨mb,nsK hb,hbb⟩,let ⟨mc,h1,h2⟩:=hlim;⟨mc,nsK h1,h2⟩⟩
    have e0:Env0 P w K mg (kY s₁.heap H) callerA [] s₁ H:=⟨rfl,hM,fun b o e=>zeK e,xcu (zcB _ _),trivial,fun b hb=>absurd (show b∈([]:List Addr) from hb) (by simp),hok,.of_eq hg⟩;refine xbC ((F _ hKb (nsK hns) hB).run callerA [] s₁ H ⟨[.ref a],[]⟩ [.ref a] [.ref a] _ _ hr e0 (hbind s₁ (.ref a)) (.cons rfl .nil) (hsp H hTT hS)) fun r s' h=>?_
    cases r with
    |error e=>exact(hCX H e s' h).elim
    |ok fl=>
      cases fl with
      |next=>exact False.elim h
      |brk=>exact False.elim h
      |cont=>exact False.elim h
      |ret u=>
        obtain⟨v,H',os,bare,un,hok',r',q⟩:=h;have q':v=.bl true:=q;subst q';obtain rfl:u=Value.bool true:=r';refine⟨rfl,⟨fun b o e=>?_,fun b o e=>un.there b o e (by simp)⟩,os,bare⟩;rcases hO b with z |⟨ob,xs,z,_⟩ |⟨hm,z⟩
        · exact .inl (un.keep b o e z (by intro y;exact absurd (show b∈([]:List Addr) from y) (by simp)) (by simp))
        · have z2:=un.frzs b ob _ z;obtain⟨e1,_⟩:=hok b _ z;obtain⟨e2,_⟩:=hok' b _ z2;rw[e]at e1;cases e1;exact .inl e2
        · obtain⟨⟨c,hc⟩,_,hg⟩:=inT hm;obtain⟨more,z2⟩:=un.tbls b _ z;have g2:s'.heap.get? b=some {cls:=.none,data:=.fields (#[] ++ more)}:=hok' b _ z2;rw[hg]at e;cases e;exact .inr (.inl ⟨((xdn KX hc).tab hg).isCodeTable,rfl, #[],more,rfl,g2⟩)
  cases hk:K.lookup a with
  |some o=>
    have e:=KX a o hk;rw[ha]at e;cases e;refine core (fun b=>if (b∈T.map fun p=>dM K p.1) then some (.tbl #[]) else none) (fun b=>?_) (fun p hp=>xab (xbi.mpr ⟨p,hp,rfl⟩)) (.inr ⟨_,vs.toArray,_,hk,rfl,rfl,rfl,by rw[xae,lenV];exact hl,by simpa using rv⟩) (fun b u z=>?_) fun z=>absurd (xah naT) z
    · by_cases hb:(b∈T.map fun p=>dM K p.1)
      · exact .inr (.inr ⟨hb,xab hb⟩)
      · exact .inl (xah hb)
    · by_cases hb:(b∈T.map fun p=>dM K p.1)
      · have z':=(xab hb).symm.trans z;cases z';exact(inT hb).2.2
      · have z':=(xah hb).symm.trans z;cases z'
  |none=>
    refine core (fun b=>if b=a then some (.frz {cls:=.type "list",data:=.seq vs.toArray} (.lst (ns.map V.int))) else if (b∈T.map fun p=>dM K p.1) then some (.tbl #[]) else none) (fun b=>?_) (fun p hp=>?_) (.inl (.inr ⟨{cls:=.type "list",data:=.seq vs.toArray},xab rfl⟩)) (fun b u z=>?_) fun _=>hk
    · by_cases hb:b=a
      · exact .inr (.inl ⟨_,_,xab hb,hb⟩)
      · by_cases ht:(b∈T.map fun p=>dM K p.1)
        · exact .inr (.inr ⟨ht,(xah hb).trans (xab ht)⟩)
        · exact .inl ((xah hb).trans (xah ht))
    · have hm:(dM K p.1∈T.map fun p=>dM K p.1):=xbi.mpr ⟨p,hp,rfl⟩;have hne:dM K p.1≠a:=fun z=>naT (by rw[<-z];exact hm);exact(xah hne).trans (xab hm)
    · by_cases hb:b=a
      · have z':=(xab hb).symm.trans z;cases z';subst hb;exact⟨ha,by rw[xao];exact hl,vs,_,rv,ha⟩
      · have z1:=(xah hb).symm.trans z
        by_cases ht:(b∈T.map fun p=>dM K p.1)
        · have z':=(xab ht).symm.trans z1;cases z';exact(inT ht).2.2
        · have z':=(xah ht).symm.trans z1;cases z'
theorem Wu {α:Type}:∀{l:List α} {i j:Nat} {x:α},l.Nodup->l[i]? =some x->l[j]? =some x->i=j
  | [],_,_,_,_,h,_=>by simp at h
  |a::l,0,0,_,_,_,_=>rfl
  |a::l,0,j + 1,x,nd,h1,h2=>by
    simp at h1
    subst h1;exact absurd (xax (by simpa using h2)) (xbm.mp nd).1
  |a::l,i + 1,0,x,nd,h1,h2=>by
    simp at h2
    subst h2;exact absurd (xax (by simpa using h1)) (xbm.mp nd).1
  |a::l,i + 1,j + 1,x,nd,h1,h2=>congrArg (· + 1) (Wu (xbm.mp nd).2 (by simpa using h1) (by simpa using h2))
theorem zeU {K:Fgx}{g:G}{H:Hp}{a:Addr}{ns:List Int}{T:List (Str×FnT)}{ts:List Addr}(hT:tabsOk K T ts=true)(hg:∃M,g [.lst (ns.map D.int)] (mK T)=some (.v (.bl true),M))(hO:Lj K T H)(hS:fW K H a (ns.map V.int)):KN K g [.ref a] H (fun v _=>v=.bl true) fun _ _ _=>False:=by
 intro mg;obtain⟨M,e⟩:=hg;obtain⟨tb,tnd⟩:=ZK hT;have at_:∀{k:Nat} {p:Str×FnT},T[k]? =some p->(T[k]?.map fun p=>dM K p.1).getD 0=dM K p.1:=fun h=>by rw[h];rfl
 refine⟨rfl,⟨fun k=>(T[k]?.map fun p=>dM K p.1).getD 0,T.length,fun b=>∃p∈T,dM K p.1=b⟩,mK T,[.lst (ns.map D.int)],.bl true,M,⟨by simp[mK],fun k c e=>?_,fun j k h1 h2 z=>?_,fun k h=>?_,fun b z=>?_⟩,⟨.ref a,[],rfl,⟨a,ns.map V.int,rfl,?_,V2 ns⟩,rfl⟩,e,fun P' v H' _ _ i=>i⟩
 ·unfold mK at e;rw[xam,xac]at e;obtain⟨p,hp,rfl⟩:=e;have hm:=xax hp;obtain⟨c,e1,_⟩:=tb p hm;show wF K H ((T[k]?.map fun p=>dM K p.1).getD 0) p.1 p.2;rw[at_ hp];exact⟨c, #[],e1,hO p hm,.inl rfl⟩
 ·have g1:T[j]? =some T[j]:=xai h1;have g2:T[k]? =some T[k]:=xai h2;have z':(T[j]?.map fun p=>dM K p.1).getD 0=(T[k]?.map fun p=>dM K p.1).getD 0:=z;rw[at_ g1,at_ g2]at z';exact Wu tnd (x:=dM K T[k].1) (by rw[xam,g1];exact congrArg some z') (by rw[xam,g2];rfl)
 ·have g1:T[k]? =some T[k]:=xai h;refine⟨T[k],xcW h,?_⟩;show _=(T[k]?.map fun p=>dM K p.1).getD 0;rw[at_ g1]
 ·obtain⟨p,hp,rfl⟩:=z;rw[hO p hp];exact fun z=>nomatch z
 ·rcases hS with h |h
  ·refine .inl ⟨fun⟨p,hp,z⟩=>?_,h⟩;have:=hO p hp;rw[z]at this;rcases h with h |⟨o,h⟩<;>rw[this]at h<;>cases h
  ·exact .inr h
theorem zc8 {l:PySem.W.OpenLaw}{k:Nat}{q:Program}{loose:List Str}{XP:(Mgx)->Heap->Prop}{YP:World->Heap->Prop}{d:DefRec}{K:Params->Fgx}{x:Str}{g:G}{T:List (Str×FnT)}
  (hn:l.most=some 63) (hdf:d.params.defaults=[]) (hr:Room k callerA) (hY:∀(w:World) (h:Heap),YP w h->(K w.params).In h) (hZ:∀(w:World) (h:Heap),YP w h->∃ts,tabsOk (K w.params) T ts=true/\∀P∈ts,h.get? P=some (PySem.W.tabObj #[]))
  (F:∀(w:World) (mg:Mgx) (fa:Addr) (h:Heap),(K w.params).In h->h.Ns mainGlobals mg->mg d.name=some (.ref fa)->
   ∃fd:FuncData,(∀(s:Shared) (u:Value),BindsTo s fd ⟨[u],[]⟩ [(x,u)])/\
    ∀base:Heap,(K w.params).In base->base.Ns mainGlobals mg->nJ mg base->FnOk l.prog w (K w.params) mg base lK k fa fd [x] (KN (K w.params) g))
  (hg:∀ns:List Int,ns.length<=63->∃M,g [.lst (ns.map D.int)] (mK T)=some (.v (.bl true),M)):PySem.W.WalkO q loose XP YP l.row.toRowW d [] (fun f vs=>PySem.call f vs):=by
 refine Att.zbQ hn hdf fun w s₀ s₁ mg mb fa o pm cd doc a vs ns G Y ho hd hcd hmg hobj hints hlen hgn=>?_;have KX:=hY w _ Y;obtain⟨ts,hT,hts⟩:=hZ w _ Y;obtain⟨fd,hb,hF⟩:=F w mg fa _ KX G.T.g hmg;have hbm:nJ mg s₁.heap:=by
  obtain⟨bm,ob,b1,b2,b3,b4,b5,b6⟩:=G.T.bmain;refine⟨bm,ob,b1,b2,fun z=>?_,b3,b4,b5,b6⟩;obtain⟨o,es,ep,e,d,_⟩:=G.T.g;rw[z,e]at b3;cases b3;rw[d]at b6;cases b6
 exact zcF hT hts hbm KX G.T.g G.T.b G.T.builtins G.T.nolimit hgn hobj hints (xav hlen (by decide)) hr hF hb (fun H hO hS=>zeU hT (hg ns hlen) hO hS) fun H e s' z=>z
def inDef (s:Stmt)(j:Nat):Stmt:=(aZ s).getD j s
noncomputable def Jk (s:Stmt):Pos:=match s with
 |.FunctionDef _ _ _ _ _ _ _ _ _ p=>p
 |_=>⟨0,0,0,0⟩
noncomputable def iw (caps:List (Str×Nat)) (env:PySem.Env):List (Str×Addr):=caps.map fun p=>(p.1,(env.cells.lookup p.1).getD 0)
abbrev LF (st:Stmt)(x:Str):Prop:=(aF st).names.lookup x=some .free
section
variable {X:Cx}{Wx:XW}
theorem Kv {k:Nat}{ss:List Stmt}{b:S}(hr:Room k X.A)(h:X.A.units + 60<cLine->xQ X Wx ss b):xQ X Wx ss b:=h (xdu (xdm (by decide) _) hr.units)
end
section
variable (P:Program)(w:World)(K:Fgx)(mg:Mgx)(base:Heap)(k:Nat)(f:Addr)(N:List Str)(q:Str)(st:Stmt)(b:S)(c:Addr)(i:FnT)
abbrev Dt:Prop:=∀(A:Around) (outer:List PySem.Env) (s:Shared) (H:Hp) (E:XK),Room k (A.deeper (envOfC q (aF st) s.heap.objs.size f (.ref c)))->xQ (wO P w K mg base N q st f (.ref c) A outer s H E) W0 (aZ st) b
abbrev pI:Prop:=∀(f:Addr) (cd:Value) (cl:List (Str×Addr)) (A:Around) (outer:List PySem.Env) (s:Shared) (H:Hp),Room k (A.deeper (PySem.W.envX i.q (aF i.st) s.heap.objs.size f cd cl))->SB (Ji P w K mg base N i f cd cl A outer s H) W0 (aZ i.st) b
end
section
variable {P:Program}{w:World}{K:Fgx}{mg:Mgx}{h base:Heap}{k:Nat}{f:Addr}{N ps:List Str}{x q:Str}{st:Stmt}{b:S}{c Pt:Addr}{i:FnT}
theorem mkZ {CX:lM}{A:Around}{outer:List PySem.Env}{s:Shared}{H:Hp}{E:XK}{nm:Str}{caps:List (Str×Nat)}{j:Nat}{X:Cx}(hX:X=gA CX P w K mg base N q (aF st) f (.ref c) A outer s H E\/X=(gA CX P w K mg base N q (aF st) f (.ref c) A outer s H E).nox)(tab:PySem.W.tabIn K nm=some (c,Pt))(hd:PySem.W.codeHdIn K c Pt=true)(bm:nJ mg base)(nd:N.Nodup)
  (hst:∃params body scope,i.st=.FunctionDef i.x params body [] none [] scope none i.x i.pos/\((params.defaults=[]/\i.dd=[])\/∃n a p,params.defaults=[.Constant (.int n) a p]/\i.dd=[n]/\caps≠ [])/\params.kw_defaults=[]/\params.kwonlyargs=[]/\annTrees params none (envOfC q (aF st) s.heap.objs.size f (.ref c))=[])
  (hq:qualnameIn (envOfC q (aF st) s.heap.objs.size f (.ref c)) i.x i.x=i.q)
  (clo:closureFor (aF i.st) (envOfC q (aF st) s.heap.objs.size f (.ref c))=pure (iw caps (envOfC q (aF st) s.heap.objs.size f (.ref c))))
  (vm:caps.map (·.1)=i.fr) (cap:∀p∈caps,N[p.2]? =some p.1/\LC st p.1/\p.2≠j) (jx:N[j]? =some i.x) (jl:LV st i.x)
  (db:(i.x==("__debug__":Str))=false) (cd:(i.x==("__classdict__":Str))=false):
  MkOk X nm i caps (iw caps (envOfC q (aF st) s.heap.objs.size f (.ref c))) c Pt j:=by
 have cel:∀p∈iw caps (envOfC q (aF st) s.heap.objs.size f (.ref c)),(envOfC q (aF st) s.heap.objs.size f (.ref c)).cells.lookup p.1=some p.2:=fun p hp=>by
  obtain⟨r,hr,rfl⟩:=xbi.mp hp;obtain⟨a,e⟩:=Nm (n:=s.heap.objs.size + 1) (cap r hr).2.1;have e':(envOfC q (aF st) s.heap.objs.size f (.ref c)).cells.lookup r.1=some a:=e;show _=some ((_:Option Addr).getD 0);rw[e'];rfl
 have hst':∃params body scope,i.st=.FunctionDef i.x params body [] none [] scope none i.x i.pos/\((params.defaults=[]/\i.dd=[])\/∃n a p,params.defaults=[.Constant (.int n) a p]/\i.dd=[n]/\iw caps (envOfC q (aF st) s.heap.objs.size f (.ref c))≠ [])/\params.kw_defaults=[]/\params.kwonlyargs=[]/\annTrees params none (envOfC q (aF st) s.heap.objs.size f (.ref c))=[]:=by
  obtain⟨p,b,sc,e1,e2,r⟩:=hst;refine⟨p,b,sc,e1,e2.imp id fun⟨n,a,p,z1,z2,z3⟩=>⟨n,a,p,z1,z2,fun z=>z3 ?_⟩,r⟩;unfold iw at z;exact xdj.mp z
 rcases hX with rfl |rfl
 ·exact⟨rfl,fun _=>rfl,hst',hq,rfl,tab,hd,bm,clo,by simp[iw],vm,cel,cap,nd,jx,jl,db,cd⟩
 ·exact⟨rfl,fun _=>rfl,hst',hq,rfl,tab,hd,bm,clo,by simp[iw],vm,cel,cap,nd,jx,jl,db,cd⟩
theorem Jw {A:Around}{outer:List PySem.Env}{s:Shared}{H:Hp}{E:XK}{nm:Str}{caps:List (Str×Nat)}{j:Nat}(tab:PySem.W.tabIn K nm=some (c,Pt))(hd:PySem.W.codeHdIn K c Pt=true)(bm:nJ mg base)(nd:N.Nodup)
  (hst:∃params body scope,i.st=.FunctionDef i.x params body [] none [] scope none i.x i.pos/\((params.defaults=[]/\i.dd=[])\/∃n a p,params.defaults=[.Constant (.int n) a p]/\i.dd=[n]/\caps≠ [])/\params.kw_defaults=[]/\params.kwonlyargs=[]/\annTrees params none (envOfC q (aF st) s.heap.objs.size f (.ref c))=[]:=by first |exact⟨_,_,_,rfl,.inl ⟨rfl,rfl⟩,rfl,rfl,rfl⟩ |exact⟨_,_,_,rfl,.inr ⟨_,_,_,rfl,rfl,fun z=>nomatch z⟩,rfl,rfl,rfl⟩)
  (hq:qualnameIn (envOfC q (aF st) s.heap.objs.size f (.ref c)) i.x i.x=i.q:=by kernel_rfl)
  (clo:closureFor (aF i.st) (envOfC q (aF st) s.heap.objs.size f (.ref c))=pure (iw caps (envOfC q (aF st) s.heap.objs.size f (.ref c))):=by kernel_rfl)
  (vm:caps.map (·.1)=i.fr:=by rfl) (cap:∀p∈caps,N[p.2]? =some p.1/\LC st p.1/\p.2≠j:=by x_go) (jx:N[j]? =some i.x:=by rfl) (jl:LV st i.x:=by kernel_rfl)
  (db:(i.x==("__debug__":Str))=false:=by x_go) (cd:(i.x==("__classdict__":Str))=false:=by x_go):
  MkOk (wO P w K mg base N q st f (.ref c) A outer s H E) nm i caps (iw caps (envOfC q (aF st) s.heap.objs.size f (.ref c))) c Pt j:=mkZ (.inr rfl) tab hd bm nd hst hq clo vm cap jx jl db cd
theorem bf.okM (F:bf K x st)(X:K.In h)(G:h.Ns mainGlobals mg)(S:FnScope N ps (aF st))(ht:PySem.W.tabIn K x=some (c,Pt))(hr:∀f,Dt P w K mg base k f N x st b c)
  (hb:HB x st ps:=by first |exact K9 rfl |exact K_ rfl |exact La rfl |exact Lb rfl |exact Ld rfl) (hp:ps.length<=N.length:=by decide):aY P w K mg base (k + 1) x ps.length (aV N.length b):=by
 obtain⟨f,d,D⟩:=F.at X G hb;exact zfK D.F S hp D.mg D.b ht (hr f)
theorem Ky {N ps fr:List Str}{sc:Scope}(h1:sc.kind=.function:=by rfl)(h2:sc.isCoroutine=false:=by rfl)(h3:sc.isGenerator=false:=by rfl)(h4:N.Nodup:=by x_go)(h5:N.take ps.length=ps:=by rfl)(h6:N.drop (N.length - fr.length)=fr:=by rfl)(h7:ps.length + fr.length<=N.length:=by decide)
  (h8:∀x∈ps,sc.names.lookup x=some .local:=by x_go) (h9:∀x∈fr,sc.names.lookup x=some .free:=by x_go) (h10:∀y∈sc.names,y.2=.free->y.1∈fr:=by x_go) (h11:∀y∈sc.names,y.2≠ .cell:=by x_go):FnScopeC N ps fr sc:=⟨h1,h2,h3,h4,h5,h6,h7,h8,h9,h10,h11⟩
theorem sH.of {n:Nat}{dn:List Int}(hl:n + dn.length=ps.length)(hd:i.dd=[])(h:dn=[]/\∀(s:Shared) (mgv:Value) (cl:List (Str×Addr)) (doc ctv cd:Value) (us:List Value),us.length=ps.length->BindsTo s (PySem.W.fnX i.x i.q (dG i.st) (aZ i.st) (aF i.st) cl .none .none doc mgv none cd ctv) ⟨us,[]⟩ (ps.zip us)):sH i ps n dn:=
 ⟨hl,fun H s mgv cl dV doc ctv cd us hu hD hH=>by
  obtain⟨rfl,h⟩:=h;rcases hD with⟨_,rfl⟩ |⟨z,_⟩
  ·exact⟨[],.nil,by rw[xaV];exact h s mgv cl doc ctv cd us (by rw[hu, <-hl];rfl)⟩
  ·exact absurd hd z⟩
theorem sH.dfl {n:Nat}{dn:List Int}{z:Int}(hl:n + dn.length=ps.length)(hd:i.dd=[z])
    (h:∀(s:Shared) (mgv:Value) (cl:List (Str×Addr)) (td:Addr) (doc ctv cd:Value) (us:List Value) (o:Obj) (m t:Nat),us.length=n->s.heap.get? td=some o->o.data=.seq #[.int z t] m->∃us',Vals (dn.map V.int) us'/\BindsTo s (PySem.W.fnX i.x i.q (dG i.st) (aZ i.st) (aF i.st) cl (.ref td) .none doc mgv none cd ctv) ⟨us,[]⟩ (ps.zip (us ++ us'))):sH i ps n dn:=
  ⟨hl,fun H s mgv cl dV doc ctv cd us hu hD hH=>by
    rcases hD with⟨e,_⟩ |⟨_,td,o,its,m,rfl,g,ed,r⟩
    · rw[hd]at e;cases e
    · rw[hd]at r;obtain⟨t,rfl⟩:∃t,its= #[.int z t]:=by
        rcases its with⟨l⟩;have r:Vals [V.int z] l:=r
        cases r with
        |cons a b=>
          cases b;obtain⟨t,rfl⟩:=a;exact⟨t,rfl⟩
      exact h s mgv cl td doc ctv cd us o m t hu (hH td o _ g) ed⟩
theorem Le {a0:Str}(hd:i.dd=[])(h:∀{mgv:Value} {cl:List (Str×Addr)} {doc ctv cd u0:Value},bindArgs (PySem.W.fnX i.x i.q (dG i.st) (aZ i.st) (aF i.st) cl .none .none doc mgv none cd ctv) ⟨[u0],[]⟩=pure [(a0,u0)]):sH i [a0] 1 []:=
 .of rfl hd ⟨rfl,fun _ _ _ _ _ _ us hl=>match us,hl with | [_],_=>.of_eq h⟩
theorem Lf {a0 a1:Str}(hd:i.dd=[])(h:∀{mgv:Value} {cl:List (Str×Addr)} {doc ctv cd u0 u1:Value},bindArgs (PySem.W.fnX i.x i.q (dG i.st) (aZ i.st) (aF i.st) cl .none .none doc mgv none cd ctv) ⟨[u0,u1],[]⟩=pure [(a0,u0),(a1,u1)]):sH i [a0,a1] 2 []:=
 .of rfl hd ⟨rfl,fun _ _ _ _ _ _ us hl=>match us,hl with | [_,_],_=>.of_eq h⟩
theorem Lh {a0 a1 a2:Str}{z:Int}(hd:i.dd=[z])(h:∀{s:Shared} {mgv:Value} {cl:List (Str×Addr)} {td:Addr} {doc ctv cd u0 u1 u2:Value} {o:Obj} {m t:Nat},s.heap.get? td=some o->o.data=.seq #[.int z t] m->BindsTo s (PySem.W.fnX i.x i.q (dG i.st) (aZ i.st) (aF i.st) cl (.ref td) .none doc mgv none cd ctv) ⟨[u0,u1,u2],[]⟩ [(a0,u0),(a1,u1),(a2,u2)]):sH i [a0,a1,a2] 3 []:=
 .dfl rfl hd fun _ _ _ _ _ _ _ us _ _ _ hl g e=>match us,hl with | [_,_,_],_=>⟨[],.nil,h g e⟩
theorem Lg {a0 a1 a2:Str}{z:Int}(hd:i.dd=[z])(h:∀{s:Shared} {mgv:Value} {cl:List (Str×Addr)} {td:Addr} {doc ctv cd u0 u1:Value} {o:Obj} {m t:Nat},s.heap.get? td=some o->o.data=.seq #[.int z t] m->BindsTo s (PySem.W.fnX i.x i.q (dG i.st) (aZ i.st) (aF i.st) cl (.ref td) .none doc mgv none cd ctv) ⟨[u0,u1],[]⟩ [(a0,u0),(a1,u1),(a2,.int z t)]):sH i [a0,a1,a2] 2 [z]:=
 .dfl rfl hd fun _ _ _ _ _ _ _ us _ _ t hl g e=>match us,hl with | [_,_],_=>⟨[.int z t],.cons ⟨t,rfl⟩ .nil,h g e⟩
theorem pI.ok (S:FnScopeC N ps i.fr (aF i.st))(hb:pI P w K mg base k N b i)(hp:sH i ps ps.length []:=by first |exact Le rfl rfl |exact Lf rfl rfl |exact Lh rfl fun h₁ h₂=>BindsTo.of_defaults rfl h₁ h₂ rfl rfl):lg P w K mg base (k + 1) i ps.length (mF ps.length N.length b):=Vs S hp (fun ds cs M _=>by rw[xbT,xaV]) hb
noncomputable def z9 (n:Nat) (dn:List Int) (g:G):G:=fun ds M=>g ((ds.take n ++ dn.map .int) ++ ds.drop n) M
theorem pI.okD {n : Nat} {dn : List Int} (S : FnScopeC N ps i.fr (aF i.st)) (hb : pI P w K mg base k N b i) (hp : sH i ps n dn := by exact Lg rfl fun h₁ h₂ => BindsTo.of_defaults rfl h₁ h₂ rfl rfl) : lg P w K mg base (k + 1) i n (z9 n dn (mF ps.length N.length b)) := Vs S hp (fun ds cs M hl=>by
 unfold z9;rw[<-hl,List.take_left,List.drop_left]) hb
theorem lg.up {j n:Nat}{g:G}(a:lg P w K mg base j i n g)(h:j<=k:=by decide):lg P w K mg base k i n g:=a.mono h
end
noncomputable def q_ (K:Fgx) (x:Str):Bool:=match PySem.W.tabIn K x with
 |some (c,P)=>PySem.W.codeHdIn K c P
 |none=>false
theorem K4 {K:Fgx}{x:Str}(h:q_ K x=true):∃c P,PySem.W.tabIn K x=some (c,P)/\PySem.W.codeHdIn K c P=true:=by
 unfold q_ at h;split at h
 ·exact⟨_,_,by assumption,h⟩
 ·cases h
section
variable {env:Env}{M:Mm}{kt n np:Nat}{nm:Str}{i:FnT}{caps:List (Str×Nat)}{cs:List (Str×D)}{b:S}{ds:List D}
theorem wW (h1:M[kt]? =some (.tbl nm i))(h2:pL env caps=some cs):gZ kt nm i caps env M=some (.rt (.ref M.length),M ++ [.fn i cs]):=by
 unfold gZ;simp only[h1,and_self,xa6,h2,xba]
theorem Je {g:G}{f:E}{fs:EA}{M1 M2 M3:Mm}{k:Nat}{fc:List (Str×D)}{z:D}(h1:f env M=some (.v (.ref k),M1))(h2:M1[k]? =some (.fn i fc))(h3:fs env M1=some (.v ds,M2))(h4:g (ds ++ fc.map (·.2)) M2=some (.v z,M3)):lU i g f fs env M=some (.v z,M3):=by
 unfold lU bnd;simp only[h1,h2,xa6,gj,h3,h4]
end
end E3
namespace L2
open PySem PySem.Spec PyProof.Rows
end L2
namespace E3
open PySem PySem.Spec PyProof.Rows L2
end E3
namespace L2
open PySem PySem.Spec PyProof.Rows
end L2
namespace E3
open PySem PySem.Spec PyProof.Rows L2
mutual
def D.plain:D->Bool
 |.ref _=>false
 |.tup ds=>D.plains ds
 |.lst ds=>D.plains ds
 |_=>true
def D.plains:List D->Bool
 | []=>true
 |d::ds=>D.plain d && D.plains ds
end
section
variable {K:Fgx}{P:Pl}{H:Hp}{io:Nat->Addr}
mutual
theorem zc0:∀{d:D} {v:V},D.plain d=true->Is K P H d v->Is K ⟨io,0,fun _=>False⟩ H d v
 |.non,_,_,h |.bl _,_,_,h |.int _,_,_,h |.str _,_,_,h=>h
 |.ref _,_,p,_=>by simp[D.plain]at p
 |.tup ds,_,p,⟨a,vs,e,t,q⟩=>⟨a,vs,e,t,Ol (by simpa [D.plain] using p) q⟩
 |.lst ds,_,p,⟨a,vs,e,t,q⟩=>⟨a,vs,e,t.imp (fun z=>⟨fun y=>y,z.2⟩) id,Ol (by simpa [D.plain] using p) q⟩
theorem Ol:∀{ds:List D} {vs:List V},D.plains ds=true->aH K P H ds vs->aH K ⟨io,0,fun _=>False⟩ H ds vs
  | [],_,_,h=>h
  |d::ds,_,p,⟨v,r,e,h,t⟩=>by
    simp only[D.plains,xal]at p;exact⟨v,r,e,zc0 p.1 h,Ol p.2 t⟩
end
end
end E3
namespace TS
open PySem PyProof.Rows PySem.W
variable {prog:Program}{w:World}{A:Around}{E:Value->Shared->Prop}{R:Shared->Prop}{α β:Type}
def Ok (prog:Program)(w:World)(A:Around)(E:Value->Shared->Prop)(R:Shared->Prop)(m:StateT SortSt Sem α)(st:SortSt)(P:α->SortSt->Prop):Prop:=
 ∀s,R s->kasC (model prog w) A E m (fun a st' s'=>R s'/\P a st') st s
section
variable {st:SortSt}{P Q:α->SortSt->Prop}
theorem Ok.mono {m:StateT SortSt Sem α}(h:Ok prog w A E R m st P)(q:∀a st',P a st'->Q a st'):Ok prog w A E R m st Q:=
 fun s r=>xaS (h s r) (fun _ _ z=>⟨z.1,q _ _ z.2⟩) fun _ _ e=>e
end
abbrev Rk:=Keyed->Nat
structure Bs (κ:SortKind)(a₀:Array Keyed)(st:SortSt):Prop where
 kd:kindOf st=κ
 nf:failedOf st=none
 pm:(arrOf st).Perm a₀
def Z_ (prog:Program)(w:World)(A:Around)(R:Shared->Prop)(κ:SortKind)(a₀:Array Keyed)(rk:Rk):Prop:=
 ∀x y,x∈a₀->y∈a₀->∀s,R s->wpAny (model prog w) A (keyLt' κ x.1 y.1) (fun c s'=>R s'/\c=decide (rk x<rk y)) (fun _ _=>False) s
variable {κ:SortKind}{a₀:Array Keyed}{rk:Rk}
noncomputable def vv (rk:Rk) (a:Array Keyed) (i:Nat):Nat:=rk (a.getD i (Value.none,Value.none))
def Up (v:Nat->Nat)(i j:Nat):Prop:=∀k l,i<=k->k<=l->l<j->v k<=v l
def Dn (v:Nat->Nat)(i j:Nat):Prop:=∀k l,i<=k->k<=l->l<j->v l<=v k
theorem Up.one {v:Nat->Nat}{i:Nat}:Up v i (i + 1):=fun k l h1 h2 h3=>by rw[show k=l by omega];exact xag _
theorem Dn.one {v:Nat->Nat}{i:Nat}:Dn v i (i + 1):=fun k l h1 h2 h3=>by rw[show k=l by omega];exact xag _
theorem Up.snoc {v:Nat->Nat}{i j:Nat}(h:Up v i j)(hij:i<j)(e:v (j - 1)<=v j):Up v i (j + 1):=fun k l h1 h2 h3=>by
 by_cases hl:l=j
 ·subst hl
  by_cases hk:k=l
  ·subst hk;exact xag _
  ·exact xav (h k (l - 1) h1 (by omega) (by omega)) e
 ·exact h k l h1 h2 (by omega)
theorem Dn.snoc {v:Nat->Nat}{i j:Nat}(h:Dn v i j)(hij:i<j)(e:v j<=v (j - 1)):Dn v i (j + 1):=fun k l h1 h2 h3=>by
 by_cases hl:l=j
 ·subst hl
  by_cases hk:k=l
  ·subst hk;exact xag _
  ·exact xav e (h k (l - 1) h1 (by omega) (by omega))
 ·exact h k l h1 h2 (by omega)
theorem Bs.size {st:SortSt}(B:Bs κ a₀ st):(arrOf st).size=a₀.size:=B.pm.size_eq
variable {prog:Program}{w:World}{A:Around}{E:Value->Shared->Prop}{R:Shared->Prop}{α β:Type}{κ:SortKind}{a₀:Array Keyed}{rk:Rk}
structure Fr (rk:Rk)(lo:Nat)(st st':SortSt):Prop where
 v:∀k,k<lo->vv rk (arrOf st') k=vv rk (arrOf st) k
 p:pendingOf st'=pendingOf st
theorem Fr.rfl {lo:Nat}{st:SortSt}:Fr rk lo st st:=⟨fun _ _=>by trivial,by trivial⟩
theorem Fr.trans {lo:Nat}{s1 s2 s3:SortSt}(a:Fr rk lo s1 s2)(b:Fr rk lo s2 s3):Fr rk lo s1 s3:=⟨fun k h=>(b.v k h).trans (a.v k h),b.p.trans a.p⟩
section
variable {st:SortSt}{lo nrem:Nat}(C:Z_ prog w A R κ a₀ rk)
include C
end
variable {prog:Program}{w:World}{A:Around}{E:Value->Shared->Prop}{R:Shared->Prop}{α β:Type}{κ:SortKind}{a₀:Array Keyed}{rk:Rk}
variable {prog:Program}{w:World}{A:Around}{E:Value->Shared->Prop}{R:Shared->Prop}{α β:Type}{κ:SortKind}{a₀:Array Keyed}{rk:Rk}
variable {prog:Program}{w:World}{A:Around}{E:Value->Shared->Prop}{R:Shared->Prop}{α β:Type}{κ:SortKind}{a₀:Array Keyed}{rk:Rk}
abbrev Sd (rk:Rk)(l:List Keyed):Prop:=l.Pairwise fun x y=>rk x<=rk y
structure Mg (rk:Rk)(T O X Y:List Keyed):Prop where
 x:Sd rk (O ++ X)
 y:Sd rk (O ++ Y)
 p:(O ++ (X ++ Y)).Perm T
theorem Mg.go {T O X X' Y:List Keyed}(m:Mg rk T O (X ++ X') Y)(h:∀a∈X,∀b∈Y,rk a<=rk b):Mg rk T (O ++ X) X' Y:=by
 refine⟨by rw[xaE];exact m.x,?_,by simpa only[xaE] using m.p⟩;have h1:=xaP.mp m.x;have h2:=xaP.mp m.y;have h3:=xaP.mp h1.2.1;rw[xaE];refine xaP.mpr ⟨h1.1,xaP.mpr ⟨h3.1,h2.2.1,h⟩,fun a ha b hb=>?_⟩;rcases xbe.mp hb with hb |hb
 ·exact h1.2.2 a ha b (xct _ hb)
 ·exact h2.2.2 a ha b hb
theorem Mg.fin {T O X:List Keyed}(m:Mg rk T O X []):Sd rk (O ++ X)/\(O ++ X).Perm T:=⟨m.x,by simpa using m.p⟩
structure Mh (rk:Rk)(T O X Y:List Keyed):Prop where
 x:Sd rk (X ++ O)
 y:Sd rk (Y ++ O)
 p:(X ++ Y ++ O).Perm T
theorem Mh.go {T O X X' Y:List Keyed}(m:Mh rk T O (X' ++ X) Y)(h:∀a∈X,∀b∈Y,rk b<=rk a):Mh rk T (X ++ O) X' Y:=by
 have h1:=xaP.mp m.x;have h2:=xaP.mp m.y;have h3:=xaP.mp h1.1;refine⟨by rw[<-xaE];exact m.x,?_,?_⟩
 ·refine xaP.mpr ⟨h2.1,xaP.mpr ⟨h3.2.1,h1.2.1,fun a ha b hb=>h1.2.2 a (xay _ ha) b hb⟩,fun a ha b hb=>?_⟩;rcases xbe.mp hb with hb |hb
  ·exact h b hb a ha
  ·exact h2.2.2 a ha b hb
 ·refine List.Perm.trans ?_ m.p;simp only[xaE];refine List.Perm.append_left X' ?_;rw[<-xaE, <-xaE];exact List.Perm.append_right O List.perm_append_comm
variable {prog:Program}{w:World}{A:Around}{E:Value->Shared->Prop}{R:Shared->Prop}{α β:Type}{κ:SortKind}{a₀:Array Keyed}{rk:Rk}
def Sg (st st':SortSt):Prop:=∃g,st'=SortSt.mk' (kindOf st) (arrOf st) (pendingOf st) g (failedOf st)
theorem Sg.rfl {st:SortSt}:Sg st st:=⟨gallopOf st,by trivial⟩
theorem Sg.trans {s1 s2 s3:SortSt}(a:Sg s1 s2)(b:Sg s2 s3):Sg s1 s3:=by
 obtain⟨g,rfl⟩:=a;obtain⟨g',rfl⟩:=b;exact⟨g',by trivial⟩
theorem Sg.bs {st st':SortSt}(a:Sg st st')(B:Bs κ a₀ st):Bs κ a₀ st':=by
 obtain⟨g,rfl⟩:=a;exact⟨B.kd,B.nf,B.pm⟩
variable {prog:Program}{w:World}{A:Around}{E:Value->Shared->Prop}{R:Shared->Prop}{α β:Type}{κ:SortKind}{a₀:Array Keyed}{rk:Rk}
variable {prog:Program}{w:World}{A:Around}{E:Value->Shared->Prop}{R:Shared->Prop}{α β:Type}{κ:SortKind}{a₀:Array Keyed}{rk:Rk}
noncomputable def lay (o:Nat) (m a:Array Keyed):Array Keyed:=m.toList.zipIdx.foldl (fun a (p,j)=>a.setIfInBounds (o + j) p) a
theorem Up.join {v:Nat->Nat}{i j k:Nat}(a:Up v i j)(b:Up v j k)(h:∀p q,i<=p->p<j->j<=q->q<k->v p<=v q):Up v i k:=fun p q h1 h2 h3=>by
 by_cases c:q<j
 ·exact a p q h1 h2 c
 ·by_cases d:p<j
  ·exact h p q h1 d (by omega) h3
  ·exact b p q (by omega) h2 h3
variable {prog:Program}{w:World}{A:Around}{E:Value->Shared->Prop}{R:Shared->Prop}{α β:Type}{κ:SortKind}{a₀:Array Keyed}{rk:Rk}
noncomputable def Rs (v:Nat->Nat):List (Nat×Nat×Nat)->Nat->Nat->Prop
 | [],i,j=>i=j
 |(o,n,_)::l,i,j=>o=i/\1<=n/\Up v i (i + n)/\Rs v l (i + n) j
theorem Rs.le {v:Nat->Nat}:∀{l:List (Nat×Nat×Nat)} {i j:Nat},Rs v l i j->i + l.length<=j
  | [],i,j,h=>xcu h
  |(o,n,_)::l,i,j,h=>by
    have:=Rs.le h.2.2.2;have:=h.2.1;rw[xar];omega
theorem Rs.app {v:Nat->Nat}:∀{l:List (Nat×Nat×Nat)} {l':List (Nat×Nat×Nat)} {i j:Nat},Rs v (l ++ l') i j->∃k,Rs v l i k/\Rs v l' k j
  | [],l',i,j,h=>⟨i,rfl,h⟩
  |(o,n,_)::l,l',i,j,h=>by
    obtain⟨k,a,b⟩:=Rs.app (l:=l) h.2.2.2;exact⟨k,⟨h.1,h.2.1,h.2.2.1,a⟩,b⟩
theorem Rs.join {v:Nat->Nat}:∀{l:List (Nat×Nat×Nat)} {l':List (Nat×Nat×Nat)} {i j k:Nat},Rs v l i k->Rs v l' k j->Rs v (l ++ l') i j
 | [],l',i,j,k,a,b=>by cases (show i=k from a);exact b
 |(o,n,_)::l,l',i,j,k,a,b=>⟨a.1,a.2.1,a.2.2.1,Rs.join a.2.2.2 b⟩
theorem Rs.same {v v':Nat->Nat}:∀{l:List (Nat×Nat×Nat)} {i j:Nat},Rs v l i j->(∀k,i<=k->k<j->v' k=v k)->Rs v' l i j
  | [],i,j,h,e=>h
  |(o,n,_)::l,i,j,h,e=>by
    have:=h.2.2.2.le;refine⟨h.1,h.2.1,fun a b h1 h2 h3=>?_,Rs.same h.2.2.2 fun k k1 k2=>e k (by omega) k2⟩;rw[e a h1 (by omega),e b (by omega) (by omega)];exact h.2.2.1 a b h1 h2 h3
theorem Rs.up {v:Nat->Nat}{l:List (Nat×Nat×Nat)}{i j:Nat}(h:Rs v l i j)(h1:l.length<=1):Up v i j:=by
 match l,h,h1 with
 | [],h,_=>cases (show i=j from h);exact fun a b h1 h2 h3=>by omega
 | [(o,n,_)],h,_=>cases (show i + n=j from h.2.2.2);exact h.2.2.1
structure Sr (κ:SortKind)(a₀:Array Keyed)(rk:Rk)(lo:Nat)(st:SortSt):Prop where
 b:Bs κ a₀ st
 r:Rs (vv rk (arrOf st)) (pendingOf st).toList 0 lo
end TS
namespace E3
open PySem PySem.Spec PyProof.Rows L2 PySem.W
noncomputable def lo:D->D->Prop
 |.int i,.int j=>i<j
 |.str a,.str b=>a.cps.toList<b.cps.toList
 |_,_=>False
noncomputable def fl:D->Bool
 |.int _=>true
 |.str _=>true
 |_=>false
noncomputable def tupS:D->Bool
 |.tup (.str _::_)=>true
 |_=>false
def okW (ds:List D):Prop:=(ds.all tupI=true\/ds.all tupS=true)/\∀xs ys,.tup xs∈ds->.tup ys∈ds->∃b,Ow xs ys=some b
end E3
namespace L2
open PySem PySem.Spec PyProof.Rows
end L2
namespace E3
open PySem PySem.Spec PyProof.Rows L2 PySem.W
structure DefAtD (K:Fgx)(mg:Mgx)(x:Str)(st:Stmt)(ps:List Str)(dd:List D)(f:Addr)(fd:FuncData):Prop where
 mg:mg x=some (.ref f)
 F:FunD K x x st f fd
 b:Binds K fd ps []
 bd:∃(dv:List V) (du:List Value),Binds K fd ps du/\Vals dv du/\(∀P H,aH K P H dd dv)/\dv.length=dd.length
section
variable {P:Program}{w:World}{K:Fgx}{mg:Mgx}{base:Heap}{k:Nat}{x:Str}{st:Stmt}{f:Addr}{fd:FuncData}{N ps:List Str}{b:S}{dd:List D}
theorem DefAtD.ok (D:DefAtD K mg x st ps dd f fd)(S:FnScope N ps (aF st))(hr:RT P w K mg base k f N x st b)(hp:ps.length<=N.length:=by decide):aY P w K mg base (k + 1) x ps.length (aV N.length b):=
 DefAt.ok ⟨D.mg,D.F,D.b⟩ S hr hp
theorem DefAtD.okD {n:Nat}(D:DefAtD K mg x st ps dd f fd)(S:FnScope N ps (aF st))(hr:RT P w K mg base k f N x st b)(hn:ps.length=n + dd.length:=by rfl)(hp:ps.length<=N.length:=by decide):aY P w K mg base (k + 1) x n (fun ds M=>aV N.length b (ds ++ dd) M):=by
 obtain⟨dv,du,bb,v,i,l⟩:=D.bd;refine⟨f,fd,ps,du,dv,_,D.mg,D.F.kp,fJ D.F S hp hr,bb,v,fun vs H Q E h=>?_⟩;obtain⟨hl,P1,M1,ds,d,M',hk,is,e,q⟩:=h;exact⟨by rw[xat,hl,l,hn],P1,M1,ds ++ dd,d,M',hk,is.append (i P1 H),e,q⟩
end
end E3
namespace L2
open PySem PySem.Spec PyProof.Rows
noncomputable def lF (K : Fgx) (C f : Addr) (me : Str) : Bool := PySem.W.specialIn K (.ref C) "__getattribute__" == some (some (.builtin "type.__getattribute__")) && (match PySem.W.typeIn K (.ref C) with
  | some mc => PySem.W.readsIn K C mc && (match PySem.W.findCls K (.ref C) mc me with
    |some (.val (.ref g))=>g==f
    |_=>false)
  |none=>false) && PySem.W.handedIn (.ref f) && PySem.W.keepIn K (.ref f)
section
variable {X:Cx}{Wx:XK}{x me:Str}{C f:Addr}{CX:Prop}{k:Nat}{fd:FuncData}{ps:List Str}{ds:List Value}{dvs:List V}{e:Expr}{es:List Expr}{t:TA}{np apos pos:Pos}{pl:Sem Bool}
theorem zfV {A:Around}{E:Value->Shared->Prop}{s:Shared}{K:Fgx}{prog:Program}{w:World}{Q:Value×List Value->Shared->Prop}(hb:lF K C f me=true)(kx:K.In s.heap)(h:Q (.ref f,[]) {s with toks:=s.toks + 1}):wpAny (model prog w) A (getMethod (.ref C) me pl) Q E s:=by
 unfold lF at hb;simp only[xal]at hb;obtain⟨⟨⟨h1,h2⟩,h3⟩,_⟩:=hb;split at h2
 ·rename_i mc _;obtain⟨h4,h5⟩:=xcz.mp h2;split at h5
  ·rename_i g eg;have:=xbb.mp h5;subst this;exact PySem.W.method_cls kx (xbb.mp h1) (PySem.W.cls_value kx h4 eg h3 h)
  ·cases h5
 ·cases h2
end
end L2
namespace E3
open PySem PySem.Spec PyProof.Rows L2
def mX (P:Program)(w:World)(K:Fgx)(mg:Mgx)(base:Heap)(k:Nat)(c me:Str)(n:Nat)(g:G):Prop:=
 ∃C fa fd ps ds dvs sp,mg c=some (.ref C)/\lF K C fa me=true/\FnOk P w K mg base lK k fa fd ps sp/\Binds K fd ps ds/\Vals dvs ds/\∀vs H Q E,t_ K mg n g vs H Q E->sp (vs ++ dvs) H Q E
theorem mX.mono {P:Program}{w:World}{K:Fgx}{mg:Mgx}{base:Heap}{c me:Str}{k j n:Nat}{g:G}(a:mX P w K mg base j c me n g)(h:j<=k):mX P w K mg base k c me n g:=by
 obtain⟨C,fa,fd,ps,ds,dvs,sp,h1,h2,h3,h4⟩:=a;exact⟨C,fa,fd,ps,ds,dvs,sp,h1,h2,h3.mono h,h4⟩
theorem mX.up {P:Program}{w:World}{K:Fgx}{mg:Mgx}{base:Heap}{c me:Str}{k j n:Nat}{g:G}(a:mX P w K mg base j c me n g)(h:j<=k:=by decide):mX P w K mg base k c me n g:=a.mono h
section
variable {X:Cx}{Wx:XW}{m:Mode}
theorem Kz {k n:Nat}{c me:Str}{g:G}{e:Expr}{es:List Expr}{fs:EA}{np apos pos:Pos}{pl:Sem Bool}(a:mX X.prog X.w X.K X.mg X.base k c me n g)(hr:Room k X.A)(hg:Gl X c)(ha:SA X Wx .val (e::es) fs)(hn:u5 n fs)(hdb:(c==("__debug__":Str))=false:=by x_go)
  (he:starEach (e::es) X.env=(false,eval e X.env)::starEach es X.env:=by rfl) (hpl:(backTo pos (starEach es X.env)).any (·.1)=false:=by rfl)
  (ht : eval (.Call (.Attribute (.Name c np) me apos) (e :: es) [] pos) X.env = (do
   let ov <-eval (.Name c np) X.env
   standAt apos.atName
   let (f,first) <-holding [ov] (getMethod ov me pl)
   callWith pos f first (backTo pos (starEach (e::es) X.env)) (backToKw pos (keywordEach [] X.env))):=by rfl):SE X Wx m (.Call (.Attribute (.Name c np) me apos) (e::es) [] pos) (dW g fs):=by
 obtain⟨C,fa,fd,ps,ds,dvs,sp,hm,hbs,F,hb,hv,himp⟩:=a;have hk:PySem.W.keepIn X.K (.ref fa)=true:=by
  unfold lF at hbs;simp only[xal]at hbs;exact hbs.2
 have pb:PE X (.Call (.Attribute (.Name c np) me apos) (e::es) [] pos) (ZC sp dvs E0 (Zz X.K X.mg Wx .val fs)):=by
  intro pins s σ H Q I h;refine xbt (pl:=pl) (yC I hg hm (zfV hbs I.kIn ?_) hdb) ht;have I1:=I.tok (s.toks + 1);refine xbr (first:=[]) (h₀:=X.base) I.ok.mod.kin hk (aX (ha pos pins _ σ H _ I1 h) fun us s1 ⟨vs,H1,I1,r,q⟩=>⟨I1.kIn,?_⟩) he hpl
  exact JT F hr hb hv Gf I1 r q
 refine fO pb ?_;rintro st H Q ⟨P0,H0,P,Os,env,M,r,M',k,e,q⟩;unfold dW at e;rcases sU e with⟨ds,M1,e1,e⟩ |⟨c,n,e1,rfl⟩
 ·split at e
  ·rename_i d M2 eg;cases e;exact⟨P0,H0,P,Os,env,M,_,_,k,e1,fun P1 vs H1 l1 h1 i1=>himp _ _ _ _ ⟨by rw[i1.len];exact hn _ _ _ _ e1,P1,M1,ds,d,_,h1,i1.iss,eg,fun P2 v H2 l2 h2 i2=>q P2 v H2 (l1.trans l2) h2 (fV.of h2 i2)⟩⟩
  ·cases e
 ·exact⟨P0,H0,P,Os,env,M,_,_,k,e1,q⟩
theorem zcz {pins:Pnx}{σ:L2.St}{H:Hp}{s:Shared}{a C dx:Addr}{gs:List (Str×V)}{f:Str}{v:V}{A:Around}{E:Value->Shared->Prop}{pl:Sem Bool}{Q:Value×List Value->Shared->Prop}(I:Inv X pins σ H s)(e:H a=some (.ins C dx gs))(c:Cls X.K C)(n:kJ X.K C f)(l:gs.lookup f=some v)
  (h:∀u s',Inv X pins σ H s'->RelV v u->Q (u,[]) s'):wpAny (model X.prog X.w) A (getMethod (.ref a) f pl) Q E s:=by
 obtain⟨mA,O,r,_,_,_⟩:=Fp I.hok e;obtain⟨od,J,hl⟩:=O.look;exact PySem.W.method_usual (r:=none) I.kIn J (xbE (c.get f)).1 (xbE (c.get f)).2 n rfl (VD I e c n l h)
theorem R0 {k n:Nat}{c fl:Str}{C:Addr}{o:Expr}{fo:E}{i:FnT}{g:G}{e:Expr}{es:List Expr}{fs:EA}{apos pos:Pos}{pl:Sem Bool}(hc:ClsOk X.K X.mg c C)(hna:kJ X.K C fl)(a:lg X.prog X.w X.K X.mg X.base k i n g)(hr:Room k X.A)(ho:SE X Wx .val o fo)(ha:SA X Wx .val (e::es) fs)(hn:u5 n fs)
    (he:starEach (e::es) X.env=(false,eval e X.env)::starEach es X.env:=by rfl) (hpl:(backTo pos (starEach es X.env)).any (·.1)=false:=by rfl)
    (ht : eval (.Call (.Attribute o fl apos) (e :: es) [] pos) X.env = (do
      let ov <-eval o X.env
      standAt apos.atName
      let (f,first) <-holding [ov] (getMethod ov fl pl)
      callWith pos f first (backTo pos (starEach (e::es) X.env)) (backToKw pos (keywordEach [] X.env))):=by rfl):SE X Wx m (.Call (.Attribute o fl apos) (e::es) [] pos) (lU i g (dU c fl fo) fs):=by
  intro pins s σ H Q I hh;obtain⟨P0,H0,P,Os,env,M,r,M',k,e,q⟩:=hh;unfold lU at e;rcases fQ e with⟨d,M1,e1,e3⟩ |⟨c',n',e1,rfl⟩
  · clear e;unfold dU at e1;rcases fQ e1 with⟨d0,M0,e0,e1⟩ |⟨c',n',e0,e1⟩
    · split at e1
      · rename_i j gs eo;rw[xac]at e1;obtain⟨z,ez,e1⟩:=e1;cases e1;obtain⟨rfl,em0⟩:=CZ eo;split at e3
        · rename_i kk;split at e3
          · rename_i i' caps em;split at e3
            · rename_i hi;subst hi;refine xbt (pl:=pl) (aX (ho pins s σ H (fun v H1=>∃P1,LtE P H P1 H1/\Hk X.K X.mg P1 H1 M1/\Is X.K P1 H1 (.ref j) v) I ⟨P0,H0,P,Os,env,M,_,_,k,e0,fun P1 v H1 l h i=>⟨P1,l,h,i⟩⟩) fun u s1 h1=>?_) ht;obtain⟨v,H1,I1,rv,P1,l1,h1,jl,rfl⟩:=h1;obtain rfl:u=Value.ref (P1.io j):=rv;obtain⟨C',dx,vs0,ec,eh,en,is⟩:=h1.cell j _ em0;have eC:C'=C:=by
                have:=ec.symm.trans hc.mg;cases this;rfl
              subst eC;obtain⟨v,ev,iv⟩:=N6 ⟨en,is⟩ ez;obtain⟨kl,rfl⟩:kk<P1.n/\v=.ref (P1.io kk):=iv;refine zcz I1 eh hc.cl hna ev fun u s1 I1 ru=>?_;obtain rfl:u=Value.ref (P1.io kk):=ru;have fc:nM X.K X.mg P1 H1 (P1.io kk) i' caps:=h1.cell kk _ em;have fat:∀{s2:Shared} {H2:Hp},Inv X pins σ H2 s2->(∀b o u,H1 b=some (.frz o u)->H2 b=some (.frz o u))->PySem.W.FnAt (P1.io kk) s2.heap:=fun {s2 H2} J sm=>by
                obtain⟨cl,dV,doc,ctv,c,cvs,g1,_⟩:=fc;exact⟨_,_,_,_,(J.hok _ _ (sm _ _ _ g1)).1⟩
              have k1:=k.next l1 h1
              rcases sU e3 with⟨ds,M2,e2,e4⟩ |⟨c,n',e2,rfl⟩
              · split at e4
                · rename_i z M3 eg;cases e4;refine xcc (fat I1 fun _ _ _ z=>z) (aX (ha pos pins s1 σ H1 (fun vs H2=>∃P2,LtE P1 H1 P2 H2/\Hk X.K X.mg P2 H2 M2/\gb X.K P2 H2 .val ds vs) I1 ⟨P0,H0,P1,Os,env,M1,_,_,k1,e2,fun P2 vs H2 l2 h2 i2=>⟨P2,l2,h2,i2⟩⟩) fun us s2 h2=>?_) he hpl;obtain⟨vs,H2,I2,rvs,P2,l2,h2,i2⟩:=h2;have l2t:=l2.lt h1;refine⟨fat I2 l2t.frz,?_⟩;have fc2:nM X.K X.mg P2 H2 (P1.io kk) i' caps:=fc.up l2t.frz fun _ _ q=>aH.lt l2t q;refine xcQ (xbC (a X.A X.stack s2 H2 us vs Q E0 (P1.io kk) caps P2 M2 ds z _ hr I2.env0 rvs (by rw[i2.len];exact hn _ _ _ _ e2) h2 fc2 i2.iss eg fun P3 v H3 l3 h3 i3=>q P3 v H3 (l1.trans (l2.trans l3)) h3 (fV.of h3 i3)) fun r s' hq=>?_)
                  cases r with
                  |error e=>exact False.elim hq
                  |ok fl=>
                    cases fl with
                    |ret u=>exact I2.after hq
                    |next=>exact False.elim hq
                    |brk=>exact False.elim hq
                    |cont=>exact False.elim hq
                · cases e4
              · refine xcc (fat I1 fun _ _ _ z=>z) (aX (ha pos pins s1 σ H1 (fun _ _=>False) I1 ⟨P0,H0,P1,Os,env,M1,_,_,k1,e2,q⟩) fun us s2 h2=>?_) he hpl;obtain⟨_,_,_,_,z⟩:=h2;exact z.elim
            · cases e3
          · cases e3
        · cases e3
      · cases e1
    · cases e1
  · unfold dU at e1;rcases fQ e1 with⟨d0,M0,e0,e1⟩ |⟨c',n',e0,e1⟩
    · split at e1
      · rw[xac]at e1;obtain⟨z,ez,e1⟩:=e1;cases e1
      · cases e1
    · cases e1;refine xbt (pl:=pl) (aX (ho pins s σ H (fun _ _=>False) I ⟨P0,H0,P,Os,env,M,_,_,k,e0,q⟩) fun u s1 h1=>?_) ht;obtain⟨_,_,_,_,z⟩:=h1;exact z.elim
end
structure BasAt (K:Fgx)(C:Addr)(q:Str)(st:Stmt)(ps:List Str)(f:Addr)(fd:FuncData):Prop where
 bs:lF K C f "__init__"=true
 F:FunD K "__init__" q st f fd
 b:Binds K fd ps []
theorem BasAt.ok {P:Program}{w:World}{K:Fgx}{mg:Mgx}{base:Heap}{k:Nat}{c:Str}{C:Addr}{q:Str}{st:Stmt}{f:Addr}{fd:FuncData}{N ps:List Str}{b:S}(D:BasAt K C q st ps f fd)(hm:mg c=some (.ref C))(S:FnScope N ps (aF st))(hr:RT P w K mg base k f N q st b)(hp:ps.length<=N.length:=by decide):mX P w K mg base (k + 1) c "__init__" ps.length (aV N.length b):=
 ⟨C,f,fd,ps,[],[],_,hm,D.bs,fJ D.F S hp hr,D.b,.nil,fun vs H Q E h=>by rw[xaV];exact h⟩
section
variable {X:Cx}{Wx:XW}{m:Mode}{pos:Pos}
noncomputable def aM (f g:E):E:=fun env M=>match f env M with
 |some x=>some x
 |none=>g env M
theorem alt_1 {f g:E}{env:Env}{M:Mm}{x:Res×Mm}(h:f env M=some x):aM f g env M=some x:=by unfold aM;rw[h]
theorem alt_2 {f g:E}{env:Env}{M:Mm}(h:f env M=none):aM f g env M=g env M:=by unfold aM;rw[h]
theorem m5 {e:Expr}{f g:E}(h1:SE X Wx m e f)(h2:SE X Wx m e g):SE X Wx m e (aM f g):=by
  rintro pins s σ H Q I ⟨P0,H0,P,Os,env,M,r,M',k,e,q⟩
  cases ef:f env M with
  |some x=>
    rw[alt_1 ef]at e;cases e;exact h1 pins s σ H Q I (dO k ef q)
  |none=>
    rw[alt_2 ef]at e;exact h2 pins s σ H Q I (dO k e q)
theorem dI {c c' me:Str}{g:G}{o:E}{fs:EA}{env:Env}{M M1:Mm}{k:Nat}{gs:List (Str×D)}(ho:o env M=some (.v (.ref k),M1))(hk:M1[k]? =some (.obj c' gs))(hc:c'≠c):aQ c me g o fs env M=none:=by
 unfold aQ;rw [ho];show (match mL M1 c (.ref k) with
  |some (_,gs)=>_
  |none=>none)=none
 have:mL M1 c (.ref k)=none:=by
  unfold mL;dsimp only;rw[hk];exact xah hc
 rw[this]
theorem vp {c c':Str}{o:E}{env:Env}{M M1:Mm}{k:Nat}{gs:List (Str×D)}(ho:o env M=some (.v (.ref k),M1))(hk:M1[k]? =some (.obj c' gs))(hc:c'≠c):eU c o env M=none:=by
 unfold eU;rw [ho];show (match mL M1 c (.ref k) with
  |some _=>_
  |none=>none)=none
 have:mL M1 c (.ref k)=none:=by
  unfold mL;dsimp only;rw[hk];exact xah hc
 rw[this]
theorem Fq {c:Str}{o:E}{env:Env}{M M1:Mm}{k:Nat}{gs:List (Str×D)}(ho:o env M=some (.v (.ref k),M1))(hk:M1[k]? =some (.obj c gs)):eU c o env M=some (.v (.bl true),M1):=by
 unfold eU;rw [ho];show (match mL M1 c (.ref k) with
  |some _=>_
  |none=>none)=_
 have:mL M1 c (.ref k)=some (k,gs):=by
  unfold mL;dsimp only;rw[hk];exact xab rfl
 rw[this]
structure OwnTo (K:Fgx)(C B:Addr):Prop where
 ca:PySem.W.findIn K (.ref C) "__class__"=some (some (.builtin "object.__class__"))
 gt:PySem.W.specialIn K (.builtin "object.__class__") "__get__"=some (some (.builtin "getset_descriptor.__get__"))
 tk:PySem.W.takesIn K (.builtin "object.__class__")=some true
 mr:PySem.W.mroIn K C (.type "object")=some true
 me:PySem.W.kitOne K (.ref C) (.ref B)=some true
theorem zdq {C B:Addr}(cl:Cls X.K C)(w:OwnTo X.K C B):iB X (.builtin "isinstance") (fun xs H Q=>∃a dx fs,xs=[.ref a,.ref B]/\H a=some (.ins C dx fs)/\Q (.bl true) H):=by
 intro pins s σ H xs us Q I r h;obtain⟨a,dx,fs,rfl,ea,q⟩:=h;obtain⟨u,w',rfl,rx,rT⟩:=vals2 r;cases rT;exact Fw I rx (.ins ea cl w.ca w.gt w.tk w.mr) w.me fun tk=>⟨.bl true,H,I.tok _,rfl,q⟩
theorem GR {e:Expr}{f:E}{c b:Str}{C B:Addr}{p p':Pos}(hc:ClsOk X.K X.mg c C)(hb:ClsOk X.K X.mg b B)(w:OwnTo X.K C B)(he:SE X Wx .val e f)(hg:Gl X "isinstance")(hm:X.mg "isinstance"=none)(hg':Gl X b)(hdb:(b==("__debug__":Str))=false:=by x_go)(hs:starEach [e,.Name b p'] X.env=(false,eval e X.env)::starEach [.Name b p'] X.env:=by rfl):
  SE X Wx m (.Call (.Name "isinstance" p) [e,.Name b p'] [] pos) (eU c f):=by
 refine fO (QM (zdq hc.cl w) hg hm boot_isinstance (wZ he (wZ (w5 hg' hb.mg (v:=.ref B) rfl hdb) Bf) hs) (by x_go) (by x_go) hs rfl) ?_;rintro st H Q ⟨P0,H0,P,Os,env,M,r,M',k,e,q⟩;unfold eU at e;rcases fQ e with⟨d,M1,e1,e⟩ |⟨c,n,e1,rfl⟩
 ·split at e
  ·rename_i j eo;cases e;obtain⟨rfl,em⟩:=CZ eo;refine dO k e1 fun P1 v1 H1 l1 h1 i1=>?_;obtain⟨jl,rfl⟩:j.1<P1.n/\v1=.ref (P1.io j.1):=i1;obtain⟨C',dx,vs,ec,eh,en,is⟩:=h1.cell j.1 _ em;have eC:C'=C:=by
    have:=ec.symm.trans hc.mg;cases this;rfl
   subst eC;exact⟨_,dx,vs,rfl,eh,q P1 _ H1 l1 h1 (fV.of h1 (show Is _ _ _ (.bl true) _ from rfl))⟩
  ·cases e
 ·exact dO k e1 q
noncomputable def pJ:List D->Option D
 | [.str x]=>if x.length=1 then some (.int (x.cps.getD 0 0:Nat)) else none
 |_=>none
theorem Uz:iB X (.builtin "ord") (fun xs H Q=>∃x,xs=[.str x]/\x.length=1/\Q (.int (x.cps.getD 0 0:Nat)) H):=by
 intro pins s σ H xs us Q I r h;obtain⟨x,rfl,h1,q⟩:=h;obtain⟨u,rfl,t,rfl⟩:=vals1 r;exact ord_of_one h1 ⟨.int _,H,I.tok _,⟨_,rfl⟩,q⟩
theorem WX {K:Fgx}:rz K (fun xs H Q=>∃x,xs=[.str x]/\x.length=1/\Q (.int (x.cps.getD 0 0:Nat)) H) pJ:=fun P H ds z vs Q h i _ q=>by
 unfold pJ at h;split at h
 ·obtain⟨v,ws,rfl,p,rfl⟩:=i;split at h
  ·rename_i hl;cases h;cases p;exact⟨_,rfl,hl,q _ H (Same.refl H) rfl⟩
  ·cases h
 ·cases h
end
end E3
namespace My
open PySem PySem.Spec PyProof.Rows L2 E3
noncomputable def BJ:List (Str×D):=[("+",(.tup [(.str "number"),(.str "number"),(.int 2)])),("-",(.tup [(.str "number"),(.str "number"),(.int 2)])),("*",(.tup [(.str "number"),(.str "number"),(.int 2)])),("least",(.tup [(.str "number"),(.str "number"),(.int 2)])),("most",(.tup [(.str "number"),(.str "number"),(.int 2)])),("<",(.tup [(.str "truth"),(.str "number"),(.int 2)])),("=",(.tup [(.str "truth"),(.str "number"),(.int 2)])),("not",(.tup [(.str "truth"),(.str "truth"),(.int 1)])),("and",(.tup [(.str "truth"),(.str "truth"),(.int 2)])),("or",(.tup [(.str "truth"),(.str "truth"),(.int 2)]))]
noncomputable def top (i:Nat):Stmt:=PySem.Challenge.pw_rowdam_k42_things_one_by_one.main.body.getD i (.Pass ⟨0,0,0,0⟩)
noncomputable def DN:List Str:=["any","len","min","max","range","reversed","int","isinstance","bool","str","tuple","ord","list"]
noncomputable def fK (s:Stmt) (j:Nat):Stmt:=match s with
 |.ClassDef _ _ _ body _ _ _ _ _ _ _=>body.getD j s
 |_=>s
structure Ad where
 Cond:Addr
 Expr:Addr
 KeepStation:Addr
 OutStation:Addr
 PourStation:Addr
 ShareStation:Addr
 Station:Addr
 TurnStation:Addr
 DamError:Addr
 NoExpr:Addr
structure Txt (K:Fgx)(mg:Mgx)(C:Ad)(w:World):Prop where
 blt:∀b∈DN,mg b=none
 cl_Cond:ClsOk K mg "Cond" C.Cond
 cl_Expr:ClsOk K mg "Expr" C.Expr
 cl_KeepStation:ClsOk K mg "KeepStation" C.KeepStation
 cl_OutStation:ClsOk K mg "OutStation" C.OutStation
 cl_PourStation:ClsOk K mg "PourStation" C.PourStation
 cl_ShareStation:ClsOk K mg "ShareStation" C.ShareStation
 cl_Station:ClsOk K mg "Station" C.Station
 cl_TurnStation:ClsOk K mg "TurnStation" C.TurnStation
 na_ShareStation_is_shared:kJ K C.ShareStation "is_shared"
 na_OutStation_kept:kJ K C.OutStation "kept"
 na_PourStation_marks:kJ K C.PourStation "marks"
 na_KeepStation_marks:kJ K C.KeepStation "marks"
 na_TurnStation_marks:kJ K C.TurnStation "marks"
 na_ShareStation_marks:kJ K C.ShareStation "marks"
 na_OutStation_marks:kJ K C.OutStation "marks"
 na_Expr_parts:kJ K C.Expr "parts"
 na_Cond_parts:kJ K C.Cond "parts"
 na_KeepStation_sieve:kJ K C.KeepStation "sieve"
 na_TurnStation_turn:kJ K C.TurnStation "turn"
 xm_DamError:mg "DamError"=some (.ref C.DamError)
 xc_DamError:kj K C.DamError=true
 xm_NoExpr:mg "NoExpr"=some (.ref C.NoExpr)
 xc_NoExpr:kj K C.NoExpr=true
 tb_sieve_of:∃c P,PySem.W.tabIn K "sieve_of"=some (c,P)/\PySem.W.codeHdIn K c P=true
 tb_change_of:∃c P,PySem.W.tabIn K "change_of"=some (c,P)/\PySem.W.codeHdIn K c P=true
 tb_sharer_of:∃c P,PySem.W.tabIn K "sharer_of"=some (c,P)/\PySem.W.codeHdIn K c P=true
 tb_turner_of:∃c P,PySem.W.tabIn K "turner_of"=some (c,P)/\PySem.W.codeHdIn K c P=true
 oi_KeepStation_Station:OwnTo K C.KeepStation C.Station
 oi_OutStation_Station:OwnTo K C.OutStation C.Station
 oi_PourStation_Station:OwnTo K C.PourStation C.Station
 oi_ShareStation_Station:OwnTo K C.ShareStation C.Station
 oi_TurnStation_Station:OwnTo K C.TurnStation C.Station
 xn_NoExpr:Hj K C.NoExpr=true
 xk_NoExpr:PySem.W.keepIn K (.ref C.NoExpr)=true
 xs_NoExpr:K7 K C.NoExpr=true
 k_ALL_LETTERS:∃a,mg "ALL_LETTERS"=some (.ref a)/\∀P H,Is K P H (.tup [(.str "t"),(.str "v"),(.str "w")]) (.ref a)
 k_NEEDS:∃a,mg "NEEDS"=some (.ref a)/\KTab K w a BJ
 k_FIGURES:∃t,mg "FIGURES"=some (.str "0123456789" t)
 k_MOST_FIGURES:∃t,mg "MOST_FIGURES"=some (.int 20 t)
 k_MOST_VALUE:∃t,mg "MOST_VALUE"=some (.int 1000000000000000000000000000000000000000000000000000000000000 t)
 k_LETTERS:∃t,mg "LETTERS"=some (.str "abcdefghijklmnopqrstuvwxyz" t)
 k_COND_LETTERS:∃t,mg "COND_LETTERS"=some (.str "tv" t)
structure MetAt (K:Fgx)(C:Addr)(x q:Str)(st:Stmt)(ps:List Str)(f:Addr)(fd:FuncData):Prop where
 M:Meth K C x f
 F:FunD K x q st f fd
 b:Binds K fd ps []
structure IniAt (K:Fgx)(C:Addr)(q:Str)(st:Stmt)(ps:List Str)(f:Addr)(fd:FuncData):Prop where
 M:Mk K C f
 F:FunD K "__init__" q st f fd
 b:Binds K fd ps []
structure MetAtD (K:Fgx)(C:Addr)(x q:Str)(st:Stmt)(ps:List Str)(dd:List D)(f:Addr)(fd:FuncData):Prop where
 M:Meth K C x f
 F:FunD K x q st f fd
 b:Binds K fd ps []
 bd:∃(dv:List V) (du:List Value),Binds K fd ps du/\Vals dv du/\(∀P H,aH K P H dd dv)/\dv.length=dd.length
noncomputable def Og (t:String):Option Bool:=if t="int" then some false else if t="bool" then some true else if t="str" then some false else if t="list" then some false else if t="tuple" then some false else if t="NoneType" then some false else if t="dict" then some false else none
theorem zbP {K:Fgx}:∀t b,Og t=some b->PySem.W.kitOne K (.type t) (.type "bool")=some b:=by
 intro t b h;unfold Og at h;split at h
 ·rename_i e;subst e;cases h;kernel_rfl
 split at h
 ·rename_i e;subst e;cases h;kernel_rfl
 split at h
 ·rename_i e;subst e;cases h;kernel_rfl
 split at h
 ·rename_i e;subst e;cases h;kernel_rfl
 split at h
 ·rename_i e;subst e;cases h;kernel_rfl
 split at h
 ·rename_i e;subst e;cases h;kernel_rfl
 split at h
 ·rename_i e;subst e;cases h;kernel_rfl
 cases h
noncomputable def Oh (t:String):Option Bool:=if t="int" then some true else if t="bool" then some true else if t="str" then some false else if t="list" then some false else if t="tuple" then some false else if t="NoneType" then some false else if t="dict" then some false else none
theorem zb5 {K:Fgx}:∀t b,Oh t=some b->PySem.W.kitOne K (.type t) (.type "int")=some b:=by
 intro t b h;unfold Oh at h;split at h
 ·rename_i e;subst e;cases h;kernel_rfl
 split at h
 ·rename_i e;subst e;cases h;kernel_rfl
 split at h
 ·rename_i e;subst e;cases h;kernel_rfl
 split at h
 ·rename_i e;subst e;cases h;kernel_rfl
 split at h
 ·rename_i e;subst e;cases h;kernel_rfl
 split at h
 ·rename_i e;subst e;cases h;kernel_rfl
 split at h
 ·rename_i e;subst e;cases h;kernel_rfl
 cases h
noncomputable def Oi (t:String):Option Bool:=if t="int" then some false else if t="bool" then some false else if t="str" then some false else if t="list" then some true else if t="tuple" then some false else if t="NoneType" then some false else if t="dict" then some false else none
theorem zbO {K:Fgx}:∀t b,Oi t=some b->PySem.W.kitOne K (.type t) (.type "list")=some b:=by
 intro t b h;unfold Oi at h;split at h
 ·rename_i e;subst e;cases h;kernel_rfl
 split at h
 ·rename_i e;subst e;cases h;kernel_rfl
 split at h
 ·rename_i e;subst e;cases h;kernel_rfl
 split at h
 ·rename_i e;subst e;cases h;kernel_rfl
 split at h
 ·rename_i e;subst e;cases h;kernel_rfl
 split at h
 ·rename_i e;subst e;cases h;kernel_rfl
 split at h
 ·rename_i e;subst e;cases h;kernel_rfl
 cases h
noncomputable def Oj (t:String):Option Bool:=if t="int" then some false else if t="bool" then some false else if t="str" then some false else if t="list" then some false else if t="tuple" then some true else if t="NoneType" then some false else if t="dict" then some false else none
theorem zbD {K:Fgx}:∀t b,Oj t=some b->PySem.W.kitOne K (.type t) (.type "tuple")=some b:=by
 intro t b h;unfold Oj at h;split at h
 ·rename_i e;subst e;cases h;kernel_rfl
 split at h
 ·rename_i e;subst e;cases h;kernel_rfl
 split at h
 ·rename_i e;subst e;cases h;kernel_rfl
 split at h
 ·rename_i e;subst e;cases h;kernel_rfl
 split at h
 ·rename_i e;subst e;cases h;kernel_rfl
 split at h
 ·rename_i e;subst e;cases h;kernel_rfl
 split at h
 ·rename_i e;subst e;cases h;kernel_rfl
 cases h
noncomputable def dj (t T:String):Option Bool:=if T="bool" then Og t else if T="int" then Oh t else if T="list" then Oi t else if T="tuple" then Oj t else none
theorem zfc:dj "int" "bool"=some false:=by x_go
theorem zfz:dj "int" "int"=some true:=by x_go
theorem zfa:dj "int" "list"=some false:=by x_go
theorem zeu:dj "int" "tuple"=some false:=by x_go
theorem zew:dj "bool" "bool"=some true:=by x_go
theorem ze7:dj "bool" "int"=some true:=by x_go
theorem zdN:dj "bool" "list"=some false:=by x_go
theorem zdD:dj "bool" "tuple"=some false:=by x_go
theorem ze9:dj "str" "bool"=some false:=by x_go
theorem zge:dj "str" "int"=some false:=by x_go
theorem zfd:dj "str" "list"=some false:=by x_go
theorem zek:dj "str" "tuple"=some false:=by x_go
theorem ze4:dj "list" "bool"=some false:=by x_go
theorem zfb:dj "list" "int"=some false:=by x_go
theorem zbM:dj "list" "list"=some true:=by x_go
theorem zdF:dj "list" "tuple"=some false:=by x_go
theorem zdE:dj "tuple" "bool"=some false:=by x_go
theorem zeD:dj "tuple" "int"=some false:=by x_go
theorem zdG:dj "tuple" "list"=some false:=by x_go
theorem V6:dj "tuple" "tuple"=some true:=by x_go
theorem zcL:dj "NoneType" "bool"=some false:=by x_go
theorem zcS:dj "NoneType" "int"=some false:=by x_go
theorem zcJ:dj "NoneType" "list"=some false:=by x_go
theorem zcf:dj "NoneType" "tuple"=some false:=by x_go
theorem zee:dj "dict" "bool"=some false:=by x_go
theorem ze8:dj "dict" "int"=some false:=by x_go
theorem zen:dj "dict" "list"=some false:=by x_go
theorem zdC:dj "dict" "tuple"=some false:=by x_go
theorem Fv {K:Fgx}:∀t T b,dj t T=some b->PySem.W.kitOne K (.type t) (.type T)=some b:=by
 intro t T b h;unfold dj at h;split at h
 ·rename_i e;subst e;exact zbP t b h
 split at h
 ·rename_i e;subst e;exact zb5 t b h
 split at h
 ·rename_i e;subst e;exact zbO t b h
 split at h
 ·rename_i e;subst e;exact zbD t b h
 cases h
abbrev Kc:Stmt:=top 7
theorem Yz:FnScope ["text"] ["text"] (aF Kc):=dB
def Nx:E:=(s2 (aK .notin) (aj 0) (ak (.str "0123456789")))
noncomputable def Mv:S:=(aq (dR (pZ (s2 (aK .eq) (aj 0) (ak (.str ""))) (fU (sN wI (aA (yH [] (CN (aj 0)) (ak (.bl true)) Nx) ao)))) (aq (aG (ak (.bl false))) au) au) (aq (aG (pZ (s2 (aK .eq) (aj 0) (ak (.str "0"))) (s2 (aK .ne) (s2 aO (aj 0) (ak (.int 0))) (ak (.str "0"))))) au))
def E_:G:=aV 1 Mv
abbrev Kg:Stmt:=top 8
theorem YF:FnScope ["text","figures"] ["text"] (aF Kg):=dB
noncomputable def MF:S:=(aq (aU 1 (pX (fU (Dd K3 (aj 0) (aA (ak (.str "-")) ao))) (GC (aj 0) (mO (ak (.int 1))) mZ) (aj 0))) (aq (aG (gB (s2 (aK .ne) (aj 0) (ak (.str "-0"))) (dW E_ (aA (aj 1) ao)))) au))
def Fg:G:=aV 2 MF
abbrev Kf:Stmt:=top 9
theorem YD:FnScope ["text"] ["text"] (aF Kf):=dB
noncomputable def Mz:S:=(aq (aG (gB (dW Fg (aA (aj 0) ao)) (s2 (aK .le) (sN dJ (aA (Dd KZ (aj 0) (aA (ak (.str "-")) ao)) ao)) (ak (.int 20))))) au)
def Fe:G:=aV 1 Mz
abbrev Kl:Stmt:=top 13
theorem YH:FnScope ["key","number","letter"] ["key"] (aF Kl):=dB
noncomputable def Js:S:=(aq (aU 1 (s2 eV (s2 kZ (aj 1) (sN dJ (aA (ak (.str "abcdefghijklmnopqrstuvwxyz")) ao))) (Dd Bv (ak (.str "abcdefghijklmnopqrstuvwxyz")) (aA (aj 2) ao)))) au)
noncomputable def MJ:S:=(aq (aU 1 (ak (.int 0))) (aq (j5 2 (CN (aj 0)) Js) (aq (aG (aj 1)) au)))
def Fi:G:=aV 3 MJ
abbrev Ka:Stmt:=top 18
theorem Yy:FnScope ["number"] ["number"] (aF Ka):=dB
noncomputable def Mu:S:=(aq (aG (sN m6 (aA (s1 tM (ak (.int 1000000000000000000000000000000000000000000000000000000000000))) (aA (sN lY (aA (ak (.int 1000000000000000000000000000000000000000000000000000000000000)) (aA (aj 0) ao))) ao)))) au)
def EY:G:=aV 1 Mu
abbrev Ke:Stmt:=top 19
theorem YC:FnScope ["word","letters"] ["word","letters"] (aF Ke):=dB
noncomputable def Mx:S:=(aq (aG (pZ (dW Fe (aA (aj 0) ao)) (gB (s2 (aK .isin) (aj 0) (ak (.tup [(.str "t"),(.str "v"),(.str "w")]))) (s2 (aK .isin) (aj 0) (aj 1))))) au)
def Fd:G:=aV 2 Mx
abbrev Ku:Stmt:=top 20
theorem Y0:FnScope ["word","kinds","needed","place"] ["word","kinds"] (aF Ku):=dB
noncomputable def Ou:S:=(aq (dR (pZ (g8 (fU (aj 1))) (s2 (aK .ne) (nA (aj 1)) (s2 aO (aj 2) (ak (.int 1))))) (aq (xH "NoExpr" (mR (pQ (aj 0) (mH " needs other words behind it" mJ)))) au) au) au)
noncomputable def M9:S:=(aq (aU 2 (Gy BJ (aj 0))) (aq (j5 3 (yt (aA (s2 aO (aj 2) (ak (.int 2))) ao)) Ou) au))
def CG:G:=aV 4 M9
abbrev J9:Stmt:=top 21
theorem Yw:FnScope ["words","letters","wanted","kinds","word"] ["words","letters","wanted"] (aF J9):=dB
noncomputable def yx:S:=(aq (dR (pY true BJ (aj 4)) (aq (wj (JV CG (aA (aj 4) (aA (aj 3) ao)))) (aq (pW (aj 3) (s2 aO (Gy BJ (aj 4)) (ak (.int 0)))) au)) (aq (dR (fU (dW Fd (aA (aj 4) (aA (aj 1) ao)))) (aq (pW (aj 3) (ak (.str "number"))) au) (aq (xH "NoExpr" (mR (tL (aj 4) (mH " may not stand here" mJ)))) au)) au)) au)
noncomputable def Ms:S:=(aq (aU 3 (mQ (aP ao))) (aq (j5 4 (tD (aA (aj 0) ao)) yx) (aq (dR (s2 (aK .ne) (aj 3) (aP (aA (aj 2) ao))) (aq (xH "NoExpr" (ak (.str "too many words, or too few"))) au) au) au)))
def yr:G:=aV 5 Ms
abbrev J_:Stmt:=top 22
theorem Yx:FnScope ["word","left","right"] ["word","left","right"] (aF J_):=dB
noncomputable def Mt:S:=(aq (dR (s2 (aK .eq) (aj 0) (ak (.str "+"))) (aq (aG (s2 eV (aj 1) (aj 2))) au) au) (aq (dR (s2 (aK .eq) (aj 0) (ak (.str "-"))) (aq (aG (s2 gO (aj 1) (aj 2))) au) au) (aq (dR (s2 (aK .eq) (aj 0) (ak (.str "*"))) (aq (aG (s2 kZ (aj 1) (aj 2))) au) au) (aq (dR (s2 (aK .eq) (aj 0) (ak (.str "least"))) (aq (aG (sN lY (aA (aj 1) (aA (aj 2) ao)))) au) au) (aq (dR (s2 (aK .eq) (aj 0) (ak (.str "most"))) (aq (aG (sN m6 (aA (aj 1) (aA (aj 2) ao)))) au) au) (aq (dR (s2 (aK .eq) (aj 0) (ak (.str "<"))) (aq (aG (s2 (aK .lt) (aj 1) (aj 2))) au) au) (aq (dR (s2 (aK .eq) (aj 0) (ak (.str "="))) (aq (aG (s2 (aK .eq) (aj 1) (aj 2))) au) au) (aq (dR (s2 (aK .eq) (aj 0) (ak (.str "and"))) (aq (aG (gB (aj 1) (aj 2))) au) au) (aq (aG (pZ (aj 1) (aj 2))) au)))))))))
def Ez:G:=aV 3 Mt
abbrev Km:Stmt:=top 23
theorem YK:FnScope ["word","time","value","other"] ["word","time","value","other"] (aF Km):=dB
noncomputable def MK:S:=(aq (dR (s2 (aK .eq) (aj 0) (ak (.str "t"))) (aq (aG (aj 1)) au) au) (aq (dR (s2 (aK .eq) (aj 0) (ak (.str "v"))) (aq (aG (aj 2)) au) au) (aq (dR (s2 (aK .eq) (aj 0) (ak (.str "w"))) (aq (aG (aj 3)) au) au) (aq (aG (sN fu (aA (aj 0) ao))) au))))
def Fj:G:=aV 4 MK
abbrev Kq:Stmt:=top 24
theorem YQ:FnScope ["words","time","value","other","results","word","left","right"] ["words","time","value","other"] (aF Kq):=dB
noncomputable def FN:S:=(aq (dR (s2 (aK .eq) (aj 5) (ak (.str "not"))) (aq (pW (aj 4) (Gz (nA (aj 4)))) au) (aq (dR (pY true BJ (aj 5)) (aq (aU 6 (nA (aj 4))) (aq (aU 7 (nA (aj 4))) (aq (pW (aj 4) (dW Ez (aA (aj 5) (aA (aj 6) (aA (aj 7) ao))))) au))) (aq (pW (aj 4) (dW Fj (aA (aj 5) (aA (aj 1) (aA (aj 2) (aA (aj 3) ao)))))) au)) au)) au)
noncomputable def M6:S:=(aq (aU 4 (mQ (aP ao))) (aq (j5 5 (tD (aA (aj 0) ao)) FN) (aq (aG (s2 aO (aj 4) (ak (.int 0)))) au)))
def nU:G:=aV 8 M6
abbrev yK:Stmt:=fK (top 25) 0
theorem Xk:FnScope ["self","words"] ["self","words"] (aF yK):=dB
noncomputable def Hv:S:=(aq (gF "Expr" "parts" (aj 0) (sN pK (aA (aj 1) ao))) au)
def Eo:G:=aV 2 Hv
abbrev Kp:Stmt:=top 27
theorem YM:FnScope ["words","letters"] ["words","letters"] (aF Kp):=dB
noncomputable def MP:S:=(aq (wj (dW yr (aA (aj 0) (aA (aj 1) (aA (ak (.str "number")) ao))))) (aq (aG (k_ "Expr" Eo (aA (aj 0) ao))) au))
def Fo:G:=aV 2 MP
abbrev yI:Stmt:=fK (top 26) 0
theorem Xi:FnScope ["self","words"] ["self","words"] (aF yI):=dB
noncomputable def Ht:S:=(aq (gF "Cond" "parts" (aj 0) (sN pK (aA (aj 1) ao))) au)
def En:G:=aV 2 Ht
abbrev Ko:Stmt:=top 28
theorem YL:FnScope ["words"] ["words"] (aF Ko):=dB
noncomputable def MN:S:=(aq (wj (dW yr (aA (aj 0) (aA (ak (.str "tv")) (aA (ak (.str "truth")) ao))))) (aq (aG (k_ "Cond" En (aA (aj 0) ao))) au))
def Fl:G:=aV 1 MN
abbrev yJ:Stmt:=fK (top 26) 1
theorem Xj:FnScope ["self","time","value"] ["self","time","value"] (aF yJ):=dB
noncomputable def Hu:S:=(aq (aG (dW nU (aA (dU "Cond" "parts" (aj 0)) (aA (aj 1) (aA (aj 2) (aA (ak (.int 0)) ao)))))) au)
def BZ:G:=aV 3 Hu
abbrev RV:Stmt:=inDef (top 29) 1
noncomputable def pO:FnT:=⟨RV,"sieve","sieve_of.<locals>.sieve",Jk RV,["cond"],[]⟩
theorem YX:FnScopeC ["time","value","cond"] ["time","value"] pO.fr (aF pO.st):=Ky
theorem zap:LF RV "cond":=by kernel_rfl
noncomputable def Jb:S:=(aq (aG (aQ "Cond" "holds" BZ (aj 2) (aA (aj 0) (aA (aj 1) ao)))) au)
def Cz:G:=mF 2 3 Jb
abbrev GJ:Stmt:=top 29
theorem YW:FnScope ["words","cond","sieve"] ["words"] (aF GJ):=dB
theorem zaZ:LC GJ "cond":=by kernel_rfl
noncomputable def M8:S:=(aq (aU 1 (dW Fl (aA (aj 0) ao))) (gZ 0 "sieve_of" pO [("cond",1)]))
def Az:G:=aV 3 M8
abbrev Bm:Stmt:=fK (top 25) 1
theorem Xl:FnScope ["self","time","value","other"] ["self","time","value","other"] (aF Bm):=dB
noncomputable def Hw:S:=(aq (aG (dW nU (aA (dU "Expr" "parts" (aj 0)) (aA (aj 1) (aA (aj 2) (aA (aj 3) ao)))))) au)
def B_:G:=aV 4 Hw
abbrev RP:Stmt:=inDef (top 30) 1
noncomputable def nW:FnT:=⟨RP,"change","change_of.<locals>.change",Jk RP,["expr"],[0]⟩
theorem RX:FnScopeC ["time","value","other","expr"] ["time","value","other"] nW.fr (aF nW.st):=Ky
theorem zai:LF RP "expr":=by kernel_rfl
noncomputable def IW:S:=(aq (aG (dW EY (aA (aQ "Expr" "value" B_ (aj 3) (aA (aj 0) (aA (aj 1) (aA (aj 2) ao)))) ao))) au)
def Oa:G:=mF 3 4 IW
def Ey:G:=z9 2 [0] Oa
abbrev GF:Stmt:=top 30
theorem Yv:FnScope ["words","letters","expr","change"] ["words","letters"] (aF GF):=dB
theorem zaU:LC GF "expr":=by kernel_rfl
noncomputable def Mr:S:=(aq (aU 2 (dW Fo (aA (aj 0) (aA (aj 1) ao)))) (gZ 1 "change_of" nW [("expr",2)]))
def Ew:G:=aV 4 Mr
abbrev Kd:Stmt:=top 34
theorem YB:FnScope ["key","left","many"] ["key","left","many"] (aF Kd):=dB
noncomputable def Mw:S:=(aq (aG (s2 (aK .eq) (s2 oMod (dW Fi (aA (aj 0) ao)) (aj 2)) (aj 1))) au)
def Fb:G:=aV 3 Mw
abbrev Kr:Stmt:=inDef (top 35) 2
noncomputable def lu:FnT:=⟨Kr,"is_shared","sharer_of.<locals>.is_shared",Jk Kr,["many","left"],[]⟩
theorem YT:FnScopeC ["key","many","left"] ["key"] lu.fr (aF lu.st):=Ky
theorem zaf:LF Kr "many":=by kernel_rfl
theorem zae:LF Kr "left":=by kernel_rfl
noncomputable def Ja:S:=(aq (aG (dW Fb (aA (aj 0) (aA (aj 2) (aA (aj 1) ao))))) au)
def Cy:G:=mF 1 3 Ja
abbrev Df:Stmt:=top 35
theorem YS:FnScope ["row","left","many","is_shared"] ["row"] (aF Df):=dB
theorem zaY:LC Df "left":=by kernel_rfl
theorem zaT:LC Df "many":=by kernel_rfl
noncomputable def M7:S:=(aq (aU 1 (sN fu (aA (s2 aO (s2 aO (aj 0) (ak (.int 3))) (ak (.int 0))) ao))) (aq (aU 2 (sN fu (aA (s2 aO (s2 aO (aj 0) (ak (.int 3))) (ak (.int 1))) ao))) (gZ 2 "sharer_of" lu [("many",2),("left",1)])))
def Ay:G:=aV 4 M7
abbrev RW:Stmt:=inDef (top 36) 1
noncomputable def pP:FnT:=⟨RW,"turn","turner_of.<locals>.turn",Jk RW,["change"],[]⟩
theorem Y5:FnScopeC ["thing","change"] ["thing"] pP.fr (aF pP.st):=Ky
theorem zaj:LF RW "change":=by kernel_rfl
noncomputable def Jc:S:=(aq (aG (dF (aA (s2 aO (aj 0) (ak (.int 0))) (aA (s2 aO (aj 0) (ak (.int 1))) (aA (lU nW Ey (aj 1) (aA (s2 aO (aj 0) (ak (.int 0))) (aA (s2 aO (aj 0) (ak (.int 2))) ao))) ao))))) au)
def CJ:G:=mF 1 2 Jc
abbrev GK:Stmt:=top 36
theorem Y4:FnScope ["row","change","turn"] ["row"] (aF GK):=dB
theorem zaK:LC GK "change":=by kernel_rfl
noncomputable def M_:S:=(aq (aU 1 (dW Ew (aA (s2 aO (aj 0) (ak (.int 3))) (aA (ak (.str "tv")) ao)))) (gZ 3 "turner_of" pP [("change",1)]))
def A_:G:=aV 3 M_
abbrev Kh:Stmt:=top 39
theorem YG:FnScope ["thing"] ["thing"] (aF Kh):=dB
noncomputable def Um:S:=(aq (aG (dF (aA (ak (.str "thing")) (aA (s2 aO (aj 0) (ak (.int 0))) (aA (s2 aO (aj 0) (ak (.int 1))) (aA (s2 aO (aj 0) (ak (.int 2))) ao)))))) au)
def nR:G:=aV 1 Um
abbrev zc:Stmt:=fK (top 40) 0
theorem XH:FnScope ["self","row"] ["self","row"] (aF zc):=dB
noncomputable def Ib:S:=(aq (gF "PourStation" "marks" (aj 0) (mQ (j_ (aP (aA (ak (.int 0)) ao)) (sN dJ (aA (s2 aO (aj 1) (ak (.int 2))) ao))))) au)
def Ai:G:=aV 2 Ib
abbrev yL:Stmt:=fK (top 40) 0
theorem Xm:FnScope ["self","row"] ["self","row"] (aF yL):=dB
noncomputable def Hx:S:=(aq (gF "KeepStation" "marks" (aj 0) (mQ (j_ (aP (aA (ak (.int 0)) ao)) (sN dJ (aA (s2 aO (aj 1) (ak (.int 2))) ao))))) au)
def Ca:G:=aV 2 Hx
abbrev yM:Stmt:=fK (top 42) 0
theorem Xn:FnScope ["self","row"] ["self","row"] (aF yM):=dB
noncomputable def Hy:S:=(aq (wj (dW Ca (aA (aj 0) (aA (aj 1) ao)))) (aq (gF "KeepStation" "sieve" (aj 0) (dW Az (aA (s2 aO (aj 1) (ak (.int 3))) ao))) au))
def Aa:G:=aV 2 Hy
abbrev zJ:Stmt:=fK (top 40) 0
theorem Yc:FnScope ["self","row"] ["self","row"] (aF zJ):=dB
noncomputable def Ir:S:=(aq (gF "TurnStation" "marks" (aj 0) (mQ (j_ (aP (aA (ak (.int 0)) ao)) (sN dJ (aA (s2 aO (aj 1) (ak (.int 2))) ao))))) au)
def Cg:G:=aV 2 Ir
abbrev zK:Stmt:=fK (top 43) 0
theorem Yd:FnScope ["self","row"] ["self","row"] (aF zK):=dB
noncomputable def Iu:S:=(aq (wj (dW Cg (aA (aj 0) (aA (aj 1) ao)))) (aq (gF "TurnStation" "turn" (aj 0) (dW A_ (aA (aj 1) ao))) au))
def Aq:G:=aV 2 Iu
abbrev zx:Stmt:=fK (top 40) 0
theorem X4:FnScope ["self","row"] ["self","row"] (aF zx):=dB
noncomputable def Ij:S:=(aq (gF "ShareStation" "marks" (aj 0) (mQ (j_ (aP (aA (ak (.int 0)) ao)) (sN dJ (aA (s2 aO (aj 1) (ak (.int 2))) ao))))) au)
def Ce:G:=aV 2 Ij
abbrev zA:Stmt:=fK (top 44) 0
theorem X5:FnScope ["self","row"] ["self","row"] (aF zA):=dB
noncomputable def Ik:S:=(aq (wj (dW Ce (aA (aj 0) (aA (aj 1) ao)))) (aq (gF "ShareStation" "is_shared" (aj 0) (dW Ay (aA (aj 1) ao))) au))
def Al:G:=aV 2 Ik
abbrev yS:Stmt:=fK (top 40) 0
theorem Xv:FnScope ["self","row"] ["self","row"] (aF yS):=dB
noncomputable def HN:S:=(aq (gF "OutStation" "marks" (aj 0) (mQ (j_ (aP (aA (ak (.int 0)) ao)) (sN dJ (aA (s2 aO (aj 1) (ak (.int 2))) ao))))) au)
def Cd:G:=aV 2 HN
abbrev yU:Stmt:=fK (top 45) 0
theorem Xw:FnScope ["self","row"] ["self","row"] (aF yU):=dB
noncomputable def HS:S:=(aq (wj (dW Cd (aA (aj 0) (aA (aj 1) ao)))) (aq (gF "OutStation" "kept" (aj 0) (mQ (aP ao))) au))
def Ae:G:=aV 2 HS
abbrev Ks:Stmt:=top 55
theorem YZ:FnScope ["row"] ["row"] (aF Ks):=dB
noncomputable def z6:S:=(aq (dR (s2 (aK .eq) (s2 aO (aj 0) (ak (.int 0))) (ak (.str "keep"))) (aq (aG (k_ "KeepStation" Aa (aA (aj 0) ao))) au) au) (aq (dR (s2 (aK .eq) (s2 aO (aj 0) (ak (.int 0))) (ak (.str "turn"))) (aq (aG (k_ "TurnStation" Aq (aA (aj 0) ao))) au) au) (aq (dR (s2 (aK .eq) (s2 aO (aj 0) (ak (.int 0))) (ak (.str "share"))) (aq (aG (k_ "ShareStation" Al (aA (aj 0) ao))) au) au) (aq (dR (s2 (aK .eq) (s2 aO (aj 0) (ak (.int 0))) (ak (.str "pour"))) (aq (aG (k_ "PourStation" Ai (aA (aj 0) ao))) au) au) (aq (dR (s2 (aK .isin) (s2 aO (aj 0) (ak (.int 0))) (dF (aA (ak (.str "fixed")) (aA (ak (.str "slide")) ao)))) (aq wu au) au) (aq (dR (s2 (aK .eq) (s2 aO (aj 0) (ak (.int 0))) (ak (.str "gap"))) (aq wu au) au) (aq (dR (s2 (aK .eq) (s2 aO (aj 0) (ak (.int 0))) (ak (.str "join"))) (aq wu au) au) (aq (aG (k_ "OutStation" Ae (aA (aj 0) ao))) au))))))))
def lq:G:=aV 1 z6
abbrev J8:Stmt:=top 57
theorem Yu:FnScope ["_law_found"] ["_law_found"] (aF J8):=dB
noncomputable def Ul:S:=(aq (aG (gB (mU dj "int" (aj 0)) (Gz (mU dj "bool" (aj 0))))) au)
def Ax:G:=aV 1 Ul
abbrev JX:Stmt:=top 58
theorem Yk:FnScope ["_law_script","_law_k"] ["_law_script","_law_k"] (aF JX):=dB
noncomputable def L_:S:=(aq (dR (s2 (aK .lt) (aj 1) (sN dJ (aA (aj 0) ao))) (aq (aG (s2 aO (aj 0) (aj 1))) au) au) (aq (aG (ak (.int 0))) au))
def sY:G:=aV 2 L_
abbrev J4:Stmt:=top 59
theorem Yq:FnScope ["_law_cell"] ["_law_cell"] (aF J4):=dB
noncomputable def IV:S:=(aq (dR (s2 (aK .eq) (s2 oMod (aj 0) (ak (.int 3))) (ak (.int 0))) (aq (aG (s2 gO (s2 oMod (s2 nY (aj 0) (ak (.int 3))) (ak (.int 13))) (ak (.int 6)))) au) au) (aq (aG (s2 gO (s2 oMod (s2 nY (aj 0) (ak (.int 3))) (s2 gO (s2 kZ (ak (.int 2)) (s2 gM (ak (.int 10)) (ak (.int 19)))) (ak (.int 1)))) (s2 gO (s2 gM (ak (.int 10)) (ak (.int 19))) (ak (.int 1))))) au))
def sZ:G:=aV 1 IV
abbrev J5:Stmt:=top 60
theorem Yr:FnScope ["_law_script","_law_kind","_law_form","_law_written","_law_rest","_law_some","_law_many"] ["_law_script"] (aF J5):=dB
def Nv:E:=(s2 eV (ak (.str "a")) (sN lC (aA (aj 0) ao)))
noncomputable def Ml:S:=(aq (aU 1 (s2 oMod (dW sY (aA (aj 0) (aA (ak (.int 0)) ao))) (ak (.int 5)))) (aq (aU 2 (s2 nY (dW sY (aA (aj 0) (aA (ak (.int 0)) ao))) (ak (.int 5)))) (aq (aU 3 (sN lC (aA (dW sZ (aA (dW sY (aA (aj 0) (aA (ak (.int 1)) ao))) ao)) ao))) (aq (dR (s2 (aK .eq) (aj 1) (ak (.int 0))) (aq (aU 4 (s2 aO (aP (aA (dF (aA (ak (.str "<")) (aA (ak (.str "v")) (aA (aj 3) ao)))) (aA (dF (aA (ak (.str "<")) (aA (ak (.str "t")) (aA (aj 3) ao)))) (aA (dF (aA (ak (.str "=")) (aA (ak (.str "v")) (aA (aj 3) ao)))) ao)))) (s2 oMod (aj 2) (ak (.int 3))))) (aq (aG (dF (aA (ak (.str "keep")) (aA (ak (.str "k")) (aA (dF (aA (ak (.str "a")) ao)) (aA (aj 4) ao)))))) au)) au) (aq (dR (s2 (aK .eq) (aj 1) (ak (.int 1))) (aq (aU 5 (aP (aA (dF (aA (ak (.str "+")) (aA (ak (.str "v")) (aA (aj 3) ao)))) (aA (dF (aA (ak (.str "*")) (aA (ak (.str "v")) (aA (aj 3) ao)))) (aA (dF (aA (ak (.str "-")) (aA (aj 3) (aA (ak (.str "v")) ao)))) (aA (dF (aA (ak (.str "least")) (aA (ak (.str "t")) (aA (ak (.str "v")) ao)))) ao)))))) (aq (aG (dF (aA (ak (.str "turn")) (aA (ak (.str "k")) (aA (dF (aA (ak (.str "a")) ao)) (aA (s2 aO (aj 5) (s2 oMod (aj 2) (ak (.int 4)))) ao)))))) au)) au) (aq (dR (s2 (aK .eq) (aj 1) (ak (.int 2))) (aq (aU 6 (s2 eV (ak (.int 1)) (s2 oMod (aj 2) (ak (.int 8))))) (aq (aG (dF (aA (ak (.str "share")) (aA (ak (.str "k")) (aA (dF (aA (ak (.str "a")) ao)) (aA (dF (aA (sN lC (aA (s2 oMod (s2 nY (aj 2) (ak (.int 8))) (aj 6)) ao)) (aA (sN lC (aA (aj 6) ao)) ao))) ao)))))) au)) au) (aq (dR (s2 (aK .eq) (aj 1) (ak (.int 3))) (aq (aG (dF (aA (ak (.str "pour")) (aA (ak (.str "k")) (aA (sN pK (aA (yH [] (yt (aA (s2 eV (ak (.int 2)) (s2 oMod (aj 2) (ak (.int 7)))) ao)) (ak (.bl true)) Nv) ao)) (aA (dF ao) ao)))))) au) au) (aq (aG (dF (aA (ak (.str "out")) (aA (ak (.str "k")) (aA (dF (aA (ak (.str "a")) ao)) (aA (dF ao) ao)))))) au))))))))
def Cr:G:=aV 7 Ml
abbrev J3:Stmt:=top 61
theorem Yp:FnScope ["_law_cell","_law_word","_law_k"] ["_law_cell"] (aF J3):=dB
noncomputable def Jr:S:=(aq (aU 1 (s2 eV (aj 1) (s2 aO (ak (.str "abcdefghijklmnopqrstuvwxyz")) (s2 oMod (s2 nY (aj 0) (s2 eV (ak (.int 8)) (s2 kZ (ak (.int 26)) (aj 2)))) (ak (.int 26)))))) au)
noncomputable def Mj:S:=(aq (aU 1 (ak (.str ""))) (aq (j5 2 (yt (aA (s2 eV (ak (.int 1)) (s2 oMod (aj 0) (ak (.int 8)))) ao)) Jr) (aq (aG (aj 1)) au)))
def Cq:G:=aV 3 Mj
abbrev J6:Stmt:=top 62
theorem Ys:FnScope ["_law_cell","_law_number_here","_law_value","_law_time"] ["_law_cell","_law_number_here"] (aF J6):=dB
noncomputable def Mp:S:=(aq (aU 2 (s2 gO (s2 oMod (s2 nY (aj 0) (ak (.int 7))) (s2 eV (s2 kZ (ak (.int 2)) (s2 gM (ak (.int 10)) (ak (.int 60)))) (ak (.int 1)))) (s2 gM (ak (.int 10)) (ak (.int 60))))) (aq (aU 3 (s2 oMod (s2 nY (aj 0) (ak (.int 11))) (s2 eV (s2 gM (ak (.int 10)) (ak (.int 12))) (ak (.int 1))))) (aq (dR (s2 (aK .eq) (s2 oMod (aj 0) (ak (.int 6))) (ak (.int 1))) (aq (aU 2 (s2 gO (s2 oMod (s2 nY (aj 0) (ak (.int 7))) (s2 eV (s2 kZ (ak (.int 2)) (s2 gM (ak (.int 10)) (ak (.int 63)))) (ak (.int 1)))) (s2 gM (ak (.int 10)) (ak (.int 63))))) (aq (aU 3 (s2 oMod (s2 nY (aj 0) (ak (.int 11))) (s2 gM (ak (.int 10)) (ak (.int 14))))) au)) au) (aq (dR (s2 (aK .eq) (s2 oMod (aj 0) (ak (.int 2))) (ak (.int 0))) (aq (aU 2 (s2 gO (s2 eV (aj 1) (s2 oMod (s2 nY (aj 0) (ak (.int 2))) (ak (.int 5)))) (ak (.int 2)))) (aq (aU 3 (sN m6 (aA (ak (.int 0)) (aA (sN lY (aA (s2 gM (ak (.int 10)) (ak (.int 12))) (aA (s2 gO (s2 eV (aj 1) (s2 oMod (s2 nY (aj 0) (ak (.int 10))) (ak (.int 5)))) (ak (.int 2))) ao))) ao)))) au)) au) (aq (aG (dF (aA (ak (.str "thing")) (aA (aj 3) (aA (dW Cq (aA (s2 nY (aj 0) (ak (.int 50))) ao)) (aA (aj 2) ao)))))) au)))))
def Cu:G:=aV 4 Mp
abbrev JZ:Stmt:=top 63
theorem Yl:FnScope ["_law_rest","_law_item","_law_number_here","_law_value"] ["_law_rest","_law_item","_law_number_here"] (aF JZ):=dB
noncomputable def Ma:S:=(aq (aU 3 (sN lY (aA (s2 aO (aj 1) (ak (.int 1))) (aA (s2 aO (aj 1) (ak (.int 3))) ao)))) (aq (dR (s2 (aK .eq) (s2 aO (aj 0) (ak (.int 0))) (ak (.str "+"))) (aq (aU 3 (s2 eV (s2 aO (aj 1) (ak (.int 3))) (aj 2))) au) au) (aq (dR (s2 (aK .eq) (s2 aO (aj 0) (ak (.int 0))) (ak (.str "*"))) (aq (aU 3 (s2 kZ (s2 aO (aj 1) (ak (.int 3))) (aj 2))) au) au) (aq (dR (s2 (aK .eq) (s2 aO (aj 0) (ak (.int 0))) (ak (.str "-"))) (aq (aU 3 (s2 gO (aj 2) (s2 aO (aj 1) (ak (.int 3))))) au) au) (aq (aG (dF (aA (ak (.str "thing")) (aA (s2 aO (aj 1) (ak (.int 1))) (aA (s2 aO (aj 1) (ak (.int 2))) (aA (sN m6 (aA (s1 tM (s2 gM (ak (.int 10)) (ak (.int 60)))) (aA (sN lY (aA (s2 gM (ak (.int 10)) (ak (.int 60))) (aA (aj 3) ao))) ao))) ao)))))) au)))))
def Ci:G:=aV 4 Ma
abbrev J1:Stmt:=top 64
theorem Yn:FnScope ["_law_rest","_law_item","_law_number_here"] ["_law_rest","_law_item","_law_number_here"] (aF J1):=dB
noncomputable def Mf:S:=(aq (dR (s2 (aK .eq) (s2 aO (aj 0) (ak (.int 0))) (ak (.str "="))) (aq (aG (s2 (aK .eq) (s2 aO (aj 1) (ak (.int 3))) (aj 2))) au) au) (aq (dR (s2 (aK .eq) (s2 aO (aj 0) (ak (.int 1))) (ak (.str "t"))) (aq (aG (s2 (aK .lt) (s2 aO (aj 1) (ak (.int 1))) (aj 2))) au) au) (aq (aG (s2 (aK .lt) (s2 aO (aj 1) (ak (.int 3))) (aj 2))) au)))
def Cj:G:=aV 3 Mf
abbrev J2:Stmt:=top 65
theorem Yo:FnScope ["_law_rest","_law_key_here","_law_number_here","_law_sign"] ["_law_rest","_law_key_here"] (aF J2):=dB
noncomputable def Jq:S:=(aq (aU 2 (s2 gO (s2 eV (s2 kZ (ak (.int 26)) (aj 2)) (sN pJ (aA (aj 3) ao))) (sN pJ (aA (ak (.str "a")) ao)))) au)
noncomputable def Mi:S:=(aq (aU 2 (ak (.int 0))) (aq (j5 3 (CN (aj 1)) Jq) (aq (aG (s2 (aK .eq) (s2 oMod (aj 2) (sN fu (aA (s2 aO (aj 0) (ak (.int 1))) ao))) (sN fu (aA (s2 aO (aj 0) (ak (.int 0))) ao)))) au)))
def Ck:G:=aV 4 Mi
abbrev J0:Stmt:=top 66
theorem Ym:FnScope ["_law_row_here","_law_item","_law_number_here","_law_word"] ["_law_row_here","_law_item","_law_number_here"] (aF J0):=dB
noncomputable def zZ:S:=(aq (aU 3 (s2 aO (aj 0) (ak (.int 0)))) (aq (dR (s2 (aK .eq) (aj 3) (ak (.str "turn"))) (aq (aG (aP (aA (dW Ci (aA (s2 aO (aj 0) (ak (.int 3))) (aA (aj 1) (aA (aj 2) ao)))) ao))) au) au) (aq (dR (gB (s2 (aK .eq) (aj 3) (ak (.str "keep"))) (g8 (fU (dW Cj (aA (s2 aO (aj 0) (ak (.int 3))) (aA (aj 1) (aA (aj 2) ao))))))) (aq (aG (aP ao)) au) au) (aq (dR (gB (s2 (aK .eq) (aj 3) (ak (.str "share"))) (g8 (fU (dW Ck (aA (s2 aO (aj 0) (ak (.int 3))) (aA (s2 aO (aj 1) (ak (.int 2))) ao)))))) (aq (aG (aP ao)) au) au) (aq (dR (s2 (aK .eq) (aj 3) (ak (.str "out"))) (aq (aG (aP ao)) au) au) (aq (aG (aP (aA (aj 1) ao))) au))))))
def m_:G:=aV 4 zZ
abbrev J7:Stmt:=top 67
theorem Yt:FnScope ["_law_found","_law_due_here","_law_item"] ["_law_found","_law_due_here"] (aF J7):=dB
noncomputable def Wd:S:=(aq (dR (pZ (g8 (fU (mU dj "tuple" (aj 2)))) (pZ (g8 (fU (dW Ax (aA (s2 aO (aj 2) (ak (.int 1))) ao)))) (g8 (fU (dW Ax (aA (s2 aO (aj 2) (ak (.int 3))) ao)))))) (aq (aG (ak (.bl false))) au) au) au)
noncomputable def Mq:S:=(aq (dR (pZ (g8 (fU (mU dj "list" (aj 0)))) (s2 (aK .ne) (aj 0) (aj 1))) (aq (aG (ak (.bl false))) au) au) (aq (j5 2 (tu (aj 0)) Wd) (aq (aG (ak (.bl true))) au)))
def Cw:G:=aV 3 Mq
abbrev zj:Stmt:=fK (top 40) 1
theorem XM:FnScope ["self"] ["self"] (aF zj):=dB
noncomputable def Ie:S:=(aq (aG (sN wJ (aA (dU "PourStation" "marks" (aj 0)) ao))) au)
def yd:G:=aV 1 Ie
abbrev zu:Stmt:=fK (top 40) 5
theorem X3:FnScope ["self","way","thing"] ["self","way","thing"] (aF zu):=dB
noncomputable def Ii:S:=(aq (aG (aP (aA (dW nR (aA (aj 2) ao)) ao))) au)
def yg:G:=aV 3 Ii
abbrev zp:Stmt:=fK (top 40) 2
theorem XS:FnScope ["self","way","item"] ["self","way","item"] (aF zp):=dB
noncomputable def Ih:S:=(aq (dR (s2 (aK .eq) (s2 aO (aj 2) (ak (.int 0))) (ak (.str "mark"))) (aq wu au) au) (aq (aG (aQ "PourStation" "take_thing" yg (aj 0) (aA (aj 1) (aA (gC (aj 2) (mO (ak (.int 1))) mZ) ao)))) au))
def Ak:G:=aV 3 Ih
abbrev zf:Stmt:=fK (top 40) 7
theorem XJ:FnScope ["self"] ["self"] (aF zf):=dB
def LK:S:=(aq (aG (aP ao)) au)
def Er:G:=aV 1 LK
abbrev zm:Stmt:=fK (top 40) 9
theorem XR:FnScope ["self"] ["self"] (aF zm):=dB
noncomputable def Ig:S:=(aq (aG (dF (aA (tW (dU "PourStation" "marks" (aj 0))) (aA (aQ "PourStation" "all_kept" Er (aj 0) ao) ao)))) au)
def Aj:G:=aV 1 Ig
abbrev yO:Stmt:=fK (top 40) 1
theorem Xp:FnScope ["self"] ["self"] (aF yO):=dB
noncomputable def Hz:S:=(aq (aG (sN wJ (aA (dU "KeepStation" "marks" (aj 0)) ao))) au)
def xX:G:=aV 1 Hz
abbrev yR:Stmt:=fK (top 42) 1
theorem Xu:FnScope ["self","way","thing"] ["self","way","thing"] (aF yR):=dB
noncomputable def HJ:S:=(aq (aG (pX (fU (lU pO Cz (dU "KeepStation" "sieve" (aj 0)) (aA (s2 aO (aj 2) (ak (.int 0))) (aA (s2 aO (aj 2) (ak (.int 2))) ao)))) (aP (aA (dW nR (aA (aj 2) ao)) ao)) (aP ao))) au)
def xY:G:=aV 3 HJ
abbrev yQ:Stmt:=fK (top 40) 2
theorem Xr:FnScope ["self","way","item"] ["self","way","item"] (aF yQ):=dB
noncomputable def HF:S:=(aq (dR (s2 (aK .eq) (s2 aO (aj 2) (ak (.int 0))) (ak (.str "mark"))) (aq wu au) au) (aq (aG (aQ "KeepStation" "take_thing" xY (aj 0) (aA (aj 1) (aA (gC (aj 2) (mO (ak (.int 1))) mZ) ao)))) au))
def Ac:G:=aV 3 HF
abbrev yN:Stmt:=fK (top 40) 7
theorem Xo:FnScope ["self"] ["self"] (aF yN):=dB
def Lz:S:=(aq (aG (aP ao)) au)
def Ep:G:=aV 1 Lz
abbrev yP:Stmt:=fK (top 40) 9
theorem Xq:FnScope ["self"] ["self"] (aF yP):=dB
noncomputable def HD:S:=(aq (aG (dF (aA (tW (dU "KeepStation" "marks" (aj 0))) (aA (aQ "KeepStation" "all_kept" Ep (aj 0) ao) ao)))) au)
def Ab:G:=aV 1 HD
abbrev zM:Stmt:=fK (top 40) 1
theorem Yg:FnScope ["self"] ["self"] (aF zM):=dB
noncomputable def Iv:S:=(aq (aG (sN wJ (aA (dU "TurnStation" "marks" (aj 0)) ao))) au)
def yp:G:=aV 1 Iv
abbrev zP:Stmt:=fK (top 43) 1
theorem Yj:FnScope ["self","way","thing"] ["self","way","thing"] (aF zP):=dB
noncomputable def IK:S:=(aq (aG (aP (aA (dW nR (aA (lU pP CJ (dU "TurnStation" "turn" (aj 0)) (aA (aj 2) ao)) ao)) ao))) au)
def yq:G:=aV 3 IK
abbrev zO:Stmt:=fK (top 40) 2
theorem Yi:FnScope ["self","way","item"] ["self","way","item"] (aF zO):=dB
noncomputable def Iz:S:=(aq (dR (s2 (aK .eq) (s2 aO (aj 2) (ak (.int 0))) (ak (.str "mark"))) (aq wu au) au) (aq (aG (aQ "TurnStation" "take_thing" yq (aj 0) (aA (aj 1) (aA (gC (aj 2) (mO (ak (.int 1))) mZ) ao)))) au))
def Aw:G:=aV 3 Iz
abbrev zL:Stmt:=fK (top 40) 7
theorem Ye:FnScope ["self"] ["self"] (aF zL):=dB
def LR:S:=(aq (aG (aP ao)) au)
def Eu:G:=aV 1 LR
abbrev zN:Stmt:=fK (top 40) 9
theorem Yh:FnScope ["self"] ["self"] (aF zN):=dB
noncomputable def Iw:S:=(aq (aG (dF (aA (tW (dU "TurnStation" "marks" (aj 0))) (aA (aQ "TurnStation" "all_kept" Eu (aj 0) ao) ao)))) au)
def Av:G:=aV 1 Iw
abbrev zE:Stmt:=fK (top 40) 1
theorem X7:FnScope ["self"] ["self"] (aF zE):=dB
noncomputable def Il:S:=(aq (aG (sN wJ (aA (dU "ShareStation" "marks" (aj 0)) ao))) au)
def yh:G:=aV 1 Il
abbrev zH:Stmt:=fK (top 44) 1
theorem Yb:FnScope ["self","way","thing"] ["self","way","thing"] (aF zH):=dB
noncomputable def Ip:S:=(aq (aG (pX (fU (lU lu Cy (dU "ShareStation" "is_shared" (aj 0)) (aA (s2 aO (aj 2) (ak (.int 1))) ao))) (aP (aA (dW nR (aA (aj 2) ao)) ao)) (aP ao))) au)
def yj:G:=aV 3 Ip
abbrev zG:Stmt:=fK (top 40) 2
theorem X_:FnScope ["self","way","item"] ["self","way","item"] (aF zG):=dB
noncomputable def Io:S:=(aq (dR (s2 (aK .eq) (s2 aO (aj 2) (ak (.int 0))) (ak (.str "mark"))) (aq wu au) au) (aq (aG (aQ "ShareStation" "take_thing" yj (aj 0) (aA (aj 1) (aA (gC (aj 2) (mO (ak (.int 1))) mZ) ao)))) au))
def Ao:G:=aV 3 Io
abbrev zB:Stmt:=fK (top 40) 7
theorem X6:FnScope ["self"] ["self"] (aF zB):=dB
def LQ:S:=(aq (aG (aP ao)) au)
def Et:G:=aV 1 LQ
abbrev zF:Stmt:=fK (top 40) 9
theorem X8:FnScope ["self"] ["self"] (aF zF):=dB
noncomputable def Im:S:=(aq (aG (dF (aA (tW (dU "ShareStation" "marks" (aj 0))) (aA (aQ "ShareStation" "all_kept" Et (aj 0) ao) ao)))) au)
def Am:G:=aV 1 Im
abbrev yW:Stmt:=fK (top 40) 1
theorem Xy:FnScope ["self"] ["self"] (aF yW):=dB
noncomputable def HX:S:=(aq (aG (sN wJ (aA (dU "OutStation" "marks" (aj 0)) ao))) au)
def xZ:G:=aV 1 HX
abbrev za:Stmt:=fK (top 45) 2
theorem XD:FnScope ["self","way","thing"] ["self","way","thing"] (aF za):=dB
noncomputable def Ia:S:=(aq (pW (dU "OutStation" "kept" (aj 0)) (aj 2)) (aq (aG (aP ao)) au))
def yc:G:=aV 3 Ia
abbrev yZ:Stmt:=fK (top 40) 2
theorem XC:FnScope ["self","way","item"] ["self","way","item"] (aF yZ):=dB
noncomputable def H_:S:=(aq (dR (s2 (aK .eq) (s2 aO (aj 2) (ak (.int 0))) (ak (.str "mark"))) (aq wu au) au) (aq (aG (aQ "OutStation" "take_thing" yc (aj 0) (aA (aj 1) (aA (gC (aj 2) (mO (ak (.int 1))) mZ) ao)))) au))
def Ah:G:=aV 3 H_
abbrev yV:Stmt:=fK (top 45) 3
theorem Xx:FnScope ["self"] ["self"] (aF yV):=dB
noncomputable def HW:S:=(aq (aG (tW (dU "OutStation" "kept" (aj 0)))) au)
def Af:G:=aV 1 HW
abbrev yX:Stmt:=fK (top 40) 9
theorem Xz:FnScope ["self"] ["self"] (aF yX):=dB
noncomputable def HY:S:=(aq (aG (dF (aA (tW (dU "OutStation" "marks" (aj 0))) (aA (aQ "OutStation" "all_kept" Af (aj 0) ao) ao)))) au)
def Ag:G:=aV 1 HY
abbrev tX:Stmt:=top 68
theorem YJ:FnScope ["_law_script","_law_row_here","_law_number_here","_law_station","_law_ways","_law_kept","_law_cell","_law_item","_law_found"] ["_law_script"] (aF tX):=dB
noncomputable def Jy:S:=(aq (xG 5) (aq (aG (gB (mU dj "tuple" (aj 8)) (gB (s2 (aK .eq) (aj 8) (dF (aA (j_ (aP (aA (ak (.int 0)) ao)) (aj 4)) (aA (aj 5) ao)))) (s2 (aK .eq) (aM (aQ "PourStation" "low" yd (aj 3) ao) (aM (aQ "KeepStation" "low" xX (aj 3) ao) (aM (aQ "TurnStation" "low" yp (aj 3) ao) (aM (aQ "ShareStation" "low" yh (aj 3) ao) (aQ "OutStation" "low" xZ (aj 3) ao))))) (ak (.int 0)))))) au))
noncomputable def Jx:S:=(aq (aU 8 (aM (aQ "PourStation" "state" Aj (aj 3) ao) (aM (aQ "KeepStation" "state" Ab (aj 3) ao) (aM (aQ "TurnStation" "state" Av (aj 3) ao) (aM (aQ "ShareStation" "state" Am (aj 3) ao) (aQ "OutStation" "state" Ag (aj 3) ao)))))) Jy)
noncomputable def Oz:S:=(aq (dR (s2 (aK .eq) (s2 aO (aj 1) (ak (.int 0))) (ak (.str "out"))) (aq (xu 5 (gC (aj 7) (mO (ak (.int 1))) mZ)) au) au) au)
noncomputable def Ox:S:=(aq (dR (g8 (fU (dW Cw (aA (aM (aQ "PourStation" "take_in" Ak (aj 3) (aA (s2 oMod (aj 6) (aj 4)) (aA (aj 7) ao))) (aM (aQ "KeepStation" "take_in" Ac (aj 3) (aA (s2 oMod (aj 6) (aj 4)) (aA (aj 7) ao))) (aM (aQ "TurnStation" "take_in" Aw (aj 3) (aA (s2 oMod (aj 6) (aj 4)) (aA (aj 7) ao))) (aM (aQ "ShareStation" "take_in" Ao (aj 3) (aA (s2 oMod (aj 6) (aj 4)) (aA (aj 7) ao))) (aQ "OutStation" "take_in" Ah (aj 3) (aA (s2 oMod (aj 6) (aj 4)) (aA (aj 7) ao))))))) (aA (dW m_ (aA (aj 1) (aA (aj 7) (aA (aj 2) ao)))) ao))))) (aq (aG (ak (.bl false))) au) au) Oz)
noncomputable def FJ:S:=(aq (aU 7 (dW Cu (aA (aj 6) (aA (aj 2) ao)))) Ox)
noncomputable def O_:S:=(aq (j5 6 (tu (GC (aj 0) (mO (ak (.int 2))) mZ)) FJ) Jx)
def O9:S:=(aq (JW 5 (aP ao)) O_)
noncomputable def O8:S:=(aq (aU 4 (sN dJ (aA (s2 aO (aj 1) (ak (.int 2))) ao))) O9)
noncomputable def Ga:S:=(aq (dR (g8 (fU (aM (eU "KeepStation" (aj 3)) (aM (eU "OutStation" (aj 3)) (aM (eU "PourStation" (aj 3)) (aM (eU "ShareStation" (aj 3)) (eU "TurnStation" (aj 3)))))))) (aq (aG (ak (.bl false))) au) au) O8)
noncomputable def O7:S:=(aq (aU 3 (dW lq (aA (aj 1) ao))) Ga)
noncomputable def O6:S:=(aq (aU 2 (dW sZ (aA (dW sY (aA (aj 0) (aA (ak (.int 1)) ao))) ao))) O7)
def I_:S:=(aq (aU 1 (dW Cr (aA (aj 0) ao))) O6)
def Vz:G:=aV 9 I_
section
variable {P:Program}{w:World}{K:Fgx}{mg:Mgx}{C:Ad}{base:Heap}{k k0:Nat}{f:Addr}
theorem zbB (T:Txt K mg C w):RT P w K mg base k f ["text"] "is_figures" Kc Mv:=fun cdv A outer s H E hr=>by
 refine dz hr fun hu=>?_;have nd:=(Yz).nd;have B_any:=T.blt "any" (by x_go);obtain⟨t_FIGURES,m_FIGURES⟩:=T.k_FIGURES;refine aD (dX (SW.st (G5 (Ct hu Sv Es) (KR (pq (gR (zdo rfl) rfl B_any boot_any zgO (aC (SN.sem (Zo "sign" [] rfl (by x_go) (R8 Sv) (fun _ _ _ _ _ _=>Zq) (fun _ _ _ _ _ _=>(Y8 (Nu (X:=mj _ _ _ _ _ _ _ _ _) hu .notin) QX (Br rfl (.inl (by kernel_rfl))) (tZ (w5 (v:=(.str "0123456789")) rfl m_FIGURES ⟨t_FIGURES,rfl⟩))))) U9) aL Zr)))))) (aD (aR Eb) aJ) aJ) ?_;exact aD (aR (R5 (Cm hu Sv Es) (xM (Cm hu (Ek Sv Ei) Es)))) aJ
theorem zaJ (T:Txt K mg C w)(a_is_figures:aY P w K mg base k "is_figures" 1 E_):RT P w K mg base k f ["text","figures"] "is_signed_figures" Kg MF:=fun cdv A outer s H E hr=>by
 refine dz hr fun hu=>?_;have nd:=(YF).nd;refine aD (fj (i:=1) nd rfl Lv (R3 (pq (R4 PySem.F.slot_str_startswith PySem.F.type_str_startswith zcK zcI Sv (aC Es aL dY))) (Zb Sv (zR (Wx:=W0) Ei) zU) Sv)) ?_;exact aD (aR (Bo (Cm hu Sv Es) (xM (eZ a_is_figures hr rfl (aC Sv aL aN) (cnt_cons cnt_nil))))) aJ
theorem zbH (T:Txt K mg C w)(a_is_signed_figures:aY P w K mg base k "is_signed_figures" 1 Fg):RT P w K mg base k f ["text"] "is_number" Kf Mz:=fun cdv A outer s H E hr=>by
 refine dz hr fun hu=>?_;have nd:=(YD).nd;have B_len:=T.blt "len" (by x_go);obtain⟨t_MOST_FIGURES,m_MOST_FIGURES⟩:=T.k_MOST_FIGURES;exact aD (aR (Bo (eZ a_is_signed_figures hr rfl (aC Sv aL aN) (cnt_cons cnt_nil)) (xM (Cm hu (gR wM rfl B_len xbl xg (aC (R4 PySem.F.slot_str_lstrip PySem.F.type_str_lstrip zcp zcl Sv (aC Es aL dY)) aL f9)) (xK (w5 (v:=(.int 20)) rfl m_MOST_FIGURES ⟨t_MOST_FIGURES,rfl⟩)))))) aJ
theorem zbF (T:Txt K mg C w):RT P w K mg base k f ["key","number","letter"] "key_number" Kl MJ:=fun cdv A outer s H E hr=>by
 refine dz hr fun hu=>?_;have nd:=(YH).nd;have B_len:=T.blt "len" (by x_go);obtain⟨t_LETTERS,m_LETTERS⟩:=T.k_LETTERS;refine aD (fj (i:=1) nd rfl Lv Ei) ?_;refine aD (zV xbM rfl nd rfl Lv (R8 Sv) (aD (fj (i:=1) nd rfl Lv (aW nq nu (aW yF yG Sv (gR wM rfl B_len xbl xg (aC (tZ (w5 (v:=(.str "abcdefghijklmnopqrstuvwxyz")) rfl m_LETTERS ⟨t_LETTERS,rfl⟩)) aL aN))) (R4 PySem.F.slot_str_index PySem.F.type_str_index zdg zdl (tZ (w5 (v:=(.str "abcdefghijklmnopqrstuvwxyz")) rfl m_LETTERS ⟨t_LETTERS,rfl⟩)) (aC Sv aL aN)))) aJ)) ?_;exact aD (aR Sv) aJ
theorem zfj (T:Txt K mg C w):RT P w K mg base k f ["number"] "held" Ka Mu:=fun cdv A outer s H E hr=>by
 refine dz hr fun hu=>?_;have nd:=(Yy).nd;have B_max:=T.blt "max" (by x_go);have B_min:=T.blt "min" (by x_go);obtain⟨t_MOST_VALUE,m_MOST_VALUE⟩:=T.k_MOST_VALUE;exact aD (aR (gR (Jf rfl) rfl B_max boot_max JL (aC (Zc ZX WW (xK (w5 (v:=(.int 1000000000000000000000000000000000000000000000000000000000000)) rfl m_MOST_VALUE ⟨t_MOST_VALUE,rfl⟩))) (aC (gR (DR rfl) rfl B_min xb1 Gk (aC (xK (w5 (v:=(.int 1000000000000000000000000000000000000000000000000000000000000)) rfl m_MOST_VALUE ⟨t_MOST_VALUE,rfl⟩)) (aC Sv aL aN) aN)) aL f9) Zt))) aJ
theorem zci (T:Txt K mg C w)(a_is_number:aY P w K mg base k "is_number" 1 Fe):RT P w K mg base k f ["word","letters"] "is_leaf" Ke Mx:=fun cdv A outer s H E hr=>by
 refine dz hr fun hu=>?_;have nd:=(YC).nd;obtain⟨t_ALL_LETTERS,m_ALL_LETTERS⟩:=T.k_ALL_LETTERS;exact aD (aR (R5 (eZ a_is_number hr rfl (aC Sv aL aN) (cnt_cons cnt_nil)) (xM (Bo (Cm hu Sv (zhV rfl m_ALL_LETTERS.1 m_ALL_LETTERS.2)) (xM (Cm hu Sv Sv)))))) aJ
theorem zbp (T:Txt K mg C w):Lp P w K mg base k f ["word","kinds","needed","place"] "take_needed" Ku M9:=fun cdv A outer s H E Wx hr XF XP=>by
 refine dz hr fun hu=>?_;have nd:=(Y0).nd;have B_range:=T.blt "range" (by x_go);obtain⟨t_NEEDS,m_NEEDS⟩:=T.k_NEEDS;refine aD (fj (i:=2) nd rfl Lw (Y_ Sw rfl m_NEEDS.1 m_NEEDS.2)) ?_;exact aD (zV PassesOwn.leaving rfl nd rfl Lw (R7 rfl B_range (aC (Ek Sw Ei) aL fG)) (aD (dX (SW.st (G5 (xO (pq Sw)) (KR (Ct hu (KD Sw) (Ek Sw Ei))))) (aD (Sq XF rfl T.xm_NoExpr T.xc_NoExpr T.xn_NoExpr T.xk_NoExpr rfl (Y9 (zfA Sw (Zi Zj)))) aJ) aJ) aJ)) aJ
theorem zbk (T:Txt K mg C w)(a_is_leaf:aY P w K mg base k "is_leaf" 2 Fd)(x_take_needed:pD P w K mg base k "take_needed" 2 CG):Lp P w K mg base k f ["words","letters","wanted","kinds","word"] "check_words" J9 Ms:=fun cdv A outer s H E Wx hr XF XP=>by
 refine dz hr fun hu=>?_;have nd:=(Yw).nd;have B_reversed:=T.blt "reversed" (by x_go);obtain⟨t_NEEDS,m_NEEDS⟩:=T.k_NEEDS;refine aD (fj (i:=3) nd rfl Lw (zQ (gD aL))) ?_;refine aD (zV PassesOwn.leaving rfl nd rfl Lw (Zh rfl B_reversed (aC Sw aL aN)) (aD (dX (Zv Sw rfl m_NEEDS.1 m_NEEDS.2) (aD (Bt (SX.se XP (zeT x_take_needed hr rfl (aC Sw (aC Sw aL aN) aN) (cnt_cons (cnt_cons cnt_nil))))) (aD (Dk Sw (Ek (Y_ Sw rfl m_NEEDS.1 m_NEEDS.2) Ei)) aJ)) (aD (dX (pq (eZ a_is_leaf hr rfl (aC Sw (aC Sw aL aN) aN) (cnt_cons (cnt_cons cnt_nil)))) (aD (Dk Sw Es) aJ) (aD (Sq XF rfl T.xm_NoExpr T.xc_NoExpr T.xn_NoExpr T.xk_NoExpr rfl (Y9 (zfX Sw (Zi Zj)))) aJ)) aJ)) aJ)) ?_;exact aD (dX (Ct hu Sw (SN.sem (gD (aC Sw aL aN)) lst_is)) (aD (Sq XF rfl T.xm_NoExpr T.xc_NoExpr T.xn_NoExpr T.xk_NoExpr rfl Es) aJ) aJ) aJ
theorem zcb (T:Txt K mg C w):RT P w K mg base k f ["word","left","right"] "combined" J_ Mt:=fun cdv A outer s H E hr=>by
 refine dz hr fun hu=>?_;have nd:=(Yx).nd;have B_max:=T.blt "max" (by x_go);have B_min:=T.blt "min" (by x_go);refine aD (dX (Ct hu Sv Es) (aD (aR (aW nq nu Sv Sv)) aJ) aJ) ?_;refine aD (dX (Ct hu Sv Es) (aD (aR (aW tQ tV Sv Sv)) aJ) aJ) ?_;refine aD (dX (Ct hu Sv Es) (aD (aR (aW yF yG Sv Sv)) aJ) aJ) ?_;refine aD (dX (Ct hu Sv Es) (aD (aR (gR (DR rfl) rfl B_min xb1 Gk (aC Sv (aC Sv aL aN) aN))) aJ) aJ) ?_;refine aD (dX (Ct hu Sv Es) (aD (aR (gR (Jf rfl) rfl B_max boot_max JL (aC Sv (aC Sv aL aN) aN))) aJ) aJ) ?_;refine aD (dX (Ct hu Sv Es) (aD (aR (Cm hu Sv Sv)) aJ) aJ) ?_;refine aD (dX (Ct hu Sv Es) (aD (aR (Cm hu Sv Sv)) aJ) aJ) ?_;refine aD (dX (Ct hu Sv Es) (aD (aR (Bo Sv (xM Sv))) aJ) aJ) ?_;exact aD (aR (R5 Sv (xM Sv))) aJ
theorem zbu (T:Txt K mg C w):RT P w K mg base k f ["word","time","value","other"] "leaf_value" Km MK:=fun cdv A outer s H E hr=>by
 refine dz hr fun hu=>?_;have nd:=(YK).nd;have B_int:=T.blt "int" (by x_go);refine aD (dX (Ct hu Sv Es) (aD (aR Sv) aJ) aJ) ?_;refine aD (dX (Ct hu Sv Es) (aD (aR Sv) aJ) aJ) ?_;refine aD (dX (Ct hu Sv Es) (aD (aR Sv) aJ) aJ) ?_;exact aD (aR (sy DQ rfl B_int boot_int Gj (aC Sv aL aN))) aJ
theorem zce (T:Txt K mg C w)(a_combined:aY P w K mg base k "combined" 3 Ez)(a_leaf_value:aY P w K mg base k "leaf_value" 4 Fj):RT P w K mg base k f ["words","time","value","other","results","word","left","right"] "reckoned" Kq M6:=fun cdv A outer s H E hr=>by
 refine dz hr fun hu=>?_;have nd:=(YQ).nd;have B_reversed:=T.blt "reversed" (by x_go);obtain⟨t_NEEDS,m_NEEDS⟩:=T.k_NEEDS;refine aD (fj (i:=4) nd rfl Lv (zQ (gD aL))) ?_;refine aD (zV xbM rfl nd rfl Lv (Zh rfl B_reversed (aC Sv aL aN)) (aD (dX (Ct hu Sv Es) (aD (Dk Sv (Za (KD Sv))) aJ) (aD (dX (Zv Sv rfl m_NEEDS.1 m_NEEDS.2) (aD (fj (i:=6) nd rfl Lv (KD Sv)) (aD (fj (i:=7) nd rfl Lv (KD Sv)) (aD (Dk Sv (eZ a_combined hr rfl (aC Sv (aC Sv (aC Sv aL aN) aN) aN) (cnt_cons (cnt_cons (cnt_cons cnt_nil))))) aJ))) (aD (Dk Sv (eZ a_leaf_value hr rfl (aC Sv (aC Sv (aC Sv (aC Sv aL aN) aN) aN) aN) (cnt_cons (cnt_cons (cnt_cons (cnt_cons cnt_nil)))))) aJ)) aJ)) aJ)) ?_;exact aD (aR (Ek Sv Ei)) aJ
theorem za1 (T:Txt K mg C w):RT P w K mg base k f ["self","words"] "Expr.__init__" yK Hv:=fun cdv A outer s H E hr=>by
 refine dz hr fun hu=>?_;have nd:=(Xk).nd;have B_tuple:=T.blt "tuple" (by x_go);exact aD (uc T.cl_Expr T.na_Expr_parts Sv (sy Nh rfl B_tuple xcS QZ (aC Sv aL aN))) aJ
theorem zbK (T:Txt K mg C w)(hk0:k0 + 1=k)(a_check_words:aY P w K mg base k "check_words" 3 yr)(a_Expr___init__:kE P w K mg base k0 C.Expr 2 Eo):RT P w K mg base k f ["words","letters"] "read_expr" Kp MP:=fun cdv A outer s H E hr=>by
 refine dz hr fun hu=>?_;have hr1:=hr;rw[<-hk0]at hr1;have nd:=(YM).nd;refine aD (Bt (eZ a_check_words hr rfl (aC Sv (aC Sv (aC Es aL dY) aN) aN) (cnt_cons (cnt_cons (cnt_cons cnt_nil))))) ?_;exact aD (aR (Bp T.cl_Expr a_Expr___init__ hr1 rfl (aC Sv aL aN) (cnt_cons cnt_nil))) aJ
theorem za0 (T:Txt K mg C w):RT P w K mg base k f ["self","words"] "Cond.__init__" yI Ht:=fun cdv A outer s H E hr=>by
 refine dz hr fun hu=>?_;have nd:=(Xi).nd;have B_tuple:=T.blt "tuple" (by x_go);exact aD (uc T.cl_Cond T.na_Cond_parts Sv (sy Nh rfl B_tuple xcS QZ (aC Sv aL aN))) aJ
theorem zbG (T:Txt K mg C w)(hk0:k0 + 1=k)(a_check_words:aY P w K mg base k "check_words" 3 yr)(a_Cond___init__:kE P w K mg base k0 C.Cond 2 En):RT P w K mg base k f ["words"] "read_cond" Ko MN:=fun cdv A outer s H E hr=>by
 refine dz hr fun hu=>?_;have hr1:=hr;rw[<-hk0]at hr1;have nd:=(YL).nd;obtain⟨t_COND_LETTERS,m_COND_LETTERS⟩:=T.k_COND_LETTERS;refine aD (Bt (eZ a_check_words hr rfl (aC Sv (aC (tZ (w5 (v:=(.str "tv")) rfl m_COND_LETTERS ⟨t_COND_LETTERS,rfl⟩)) (aC Es aL dY) aN) aN) (cnt_cons (cnt_cons (cnt_cons cnt_nil))))) ?_;exact aD (aR (Bp T.cl_Cond a_Cond___init__ hr1 rfl (aC Sv aL aN) (cnt_cons cnt_nil))) aJ
theorem zbw (T:Txt K mg C w)(a_reckoned:aY P w K mg base k "reckoned" 4 nU):RT P w K mg base k f ["self","time","value"] "Cond.holds" yJ Hu:=fun cdv A outer s H E hr=>by
 refine dz hr fun hu=>?_;have nd:=(Xj).nd;exact aD (aR (eZ a_reckoned hr rfl (aC (n_ T.cl_Cond T.na_Cond_parts Sv) (aC Sv (aC Sv (aC Ei aL dY) aN) aN) Bu) (cnt_cons (cnt_cons (cnt_cons (cnt_cons cnt_nil)))))) aJ
theorem zaO (T:Txt K mg C w)(a_Cond_holds:dH P w K mg base k C.Cond "holds" 3 BZ):pI P w K mg base k ["time","value","cond"] Jb pO:=fun f cd cl A outer s H hr=>by
 refine dz hr fun hu=>?_;have nd:=(YX).nd;exact aD (aR (sE T.cl_Cond a_Cond_holds hr (Br rfl (.inr (.inr zap))) (aC Su (aC Su aL aN) aN) (cnt_cons (cnt_cons cnt_nil)))) aJ
theorem zb8 (T:Txt K mg C w){c Pt:Addr}(ht:PySem.W.tabIn K "sieve_of"=some (c,Pt))(hc:PySem.W.codeHdIn K c Pt=true)(hB:nJ mg base)(a_read_cond:aY P w K mg base k "read_cond" 1 Fl):Dt P w K mg base k f ["words","cond","sieve"] "sieve_of" GJ M8 c:=fun A outer s H E hr=>by
 refine Kv hr fun hu=>?_;have nd:=(YW).nd;refine GP rfl ?_ ?_
 ·exact(fj (i:=1) nd rfl (.inr zaZ) (eZ a_read_cond hr rfl (aC Sv aL aN) (cnt_cons cnt_nil)))
 exact Kw (Jw (j:=2) ht hc hB nd)
theorem zbC (T:Txt K mg C w)(a_reckoned:aY P w K mg base k "reckoned" 4 nU):RT P w K mg base k f ["self","time","value","other"] "Expr.value" Bm Hw:=fun cdv A outer s H E hr=>by
 refine dz hr fun hu=>?_;have nd:=(Xl).nd;exact aD (aR (eZ a_reckoned hr rfl (aC (n_ T.cl_Expr T.na_Expr_parts Sv) (aC Sv (aC Sv (aC Sv aL aN) aN) aN) Bu) (cnt_cons (cnt_cons (cnt_cons (cnt_cons cnt_nil)))))) aJ
theorem W8 (T:Txt K mg C w)(a_held:aY P w K mg base k "held" 1 EY)(a_Expr_value:dH P w K mg base k C.Expr "value" 4 B_):pI P w K mg base k ["time","value","other","expr"] IW nW:=fun f cd cl A outer s H hr=>by
 refine dz hr fun hu=>?_;have nd:=(RX).nd;exact aD (aR (eZ a_held hr rfl (aC (sE T.cl_Expr a_Expr_value hr (Br rfl (.inr (.inr zai))) (aC Su (aC Su (aC Su aL aN) aN) aN) (cnt_cons (cnt_cons (cnt_cons cnt_nil)))) aL f9) (cnt_cons cnt_nil))) aJ
theorem zbT (T:Txt K mg C w){c Pt:Addr}(ht:PySem.W.tabIn K "change_of"=some (c,Pt))(hc:PySem.W.codeHdIn K c Pt=true)(hB:nJ mg base)(a_read_expr:aY P w K mg base k "read_expr" 2 Fo):Dt P w K mg base k f ["words","letters","expr","change"] "change_of" GF Mr c:=fun A outer s H E hr=>by
 refine Kv hr fun hu=>?_;have nd:=(Yv).nd;refine GP rfl ?_ ?_
 ·exact(fj (i:=2) nd rfl (.inr zaU) (eZ a_read_expr hr rfl (aC Sv (aC Sv aL aN) aN) (cnt_cons (cnt_cons cnt_nil))))
 exact Kw (Jw (j:=3) ht hc hB nd)
theorem zbj (T:Txt K mg C w)(a_key_number:aY P w K mg base k "key_number" 1 Fi):RT P w K mg base k f ["key","left","many"] "is_in_share" Kd Mw:=fun cdv A outer s H E hr=>by
 refine dz hr fun hu=>?_;have nd:=(YB).nd;exact aD (aR (Cm hu (aW gP gQ (eZ a_key_number hr rfl (aC Sv aL aN) (cnt_cons cnt_nil)) Sv) Sv)) aJ
theorem zav (T:Txt K mg C w)(a_is_in_share:aY P w K mg base k "is_in_share" 3 Fb):pI P w K mg base k ["key","many","left"] Ja lu:=fun f cd cl A outer s H hr=>by
 refine dz hr fun hu=>?_;have nd:=(YT).nd;exact aD (aR (eZ a_is_in_share hr rfl (aC Su (aC (Br rfl (.inr (.inr zae))) (aC (Br rfl (.inr (.inr zaf))) aL aN) aN) aN) (cnt_cons (cnt_cons (cnt_cons cnt_nil))))) aJ
theorem zbJ (T:Txt K mg C w){c Pt:Addr}(ht:PySem.W.tabIn K "sharer_of"=some (c,Pt))(hc:PySem.W.codeHdIn K c Pt=true)(hB:nJ mg base):Dt P w K mg base k f ["row","left","many","is_shared"] "sharer_of" Df M7 c:=fun A outer s H E hr=>by
 refine Kv hr fun hu=>?_;have nd:=(YS).nd;have B_int:=T.blt "int" (by x_go);refine GP rfl ?_ ?_
 ·exact(fj (i:=1) nd rfl (.inr zaY) (sy DQ rfl B_int boot_int Gj (aC (Ek (Ek Sv Ei) Ei) aL fG)))
 refine GP rfl ?_ ?_
 ·exact(fj (i:=2) nd rfl (.inr zaT) (sy DQ rfl B_int boot_int Gj (aC (Ek (Ek Sv Ei) Ei) aL fG)))
 exact Kw (Jw (j:=3) ht hc hB nd)
theorem zaN (T:Txt K mg C w)(a_change_of__change_d1:lg P w K mg base k nW 2 Ey):pI P w K mg base k ["thing","change"] Jc pP:=fun f cd cl A outer s H hr=>by
 refine dz hr fun hu=>?_;have nd:=(Y5).nd;exact aD (aR (gw (aC (Ek Su Ei) (aC (Ek Su Ei) (aC (zc5 a_change_of__change_d1 hr (Br rfl (.inr (.inr zaj))) (aC (Ek Su Ei) (aC (Ek Su Ei) aL fG) fG) (cnt_cons (cnt_cons cnt_nil))) aL f9) fG) fG))) aJ
theorem zbN (T:Txt K mg C w){c Pt:Addr}(ht:PySem.W.tabIn K "turner_of"=some (c,Pt))(hc:PySem.W.codeHdIn K c Pt=true)(hB:nJ mg base)(a_change_of:aY P w K mg base k "change_of" 2 Ew):Dt P w K mg base k f ["row","change","turn"] "turner_of" GK M_ c:=fun A outer s H E hr=>by
 refine Kv hr fun hu=>?_;have nd:=(Y4).nd;refine GP rfl ?_ ?_
 ·exact(fj (i:=1) nd rfl (.inr zaK) (eZ a_change_of hr rfl (aC (Ek Sv Ei) (aC Es aL dY) fG) (cnt_cons (cnt_cons cnt_nil))))
 exact Kw (Jw (j:=2) ht hc hB nd)
theorem zcP (T:Txt K mg C w):RT P w K mg base k f ["thing"] "item_of" Kh Um:=fun cdv A outer s H E hr=>by
 refine dz hr fun hu=>?_;have nd:=(YG).nd;exact aD (aR (gw (aC Es (aC (Ek Sv Ei) (aC (Ek Sv Ei) (aC (Ek Sv Ei) aL fG) fG) fG) dY))) aJ
theorem zaq (T:Txt K mg C w):RT P w K mg base k f ["self","row"] "Station.__init__" zc Ib:=fun cdv A outer s H E hr=>by
 refine dz hr fun hu=>?_;have nd:=(XH).nd;have B_len:=T.blt "len" (by x_go);exact aD (uc T.cl_PourStation T.na_PourStation_marks Sv (zQ (GZ (gD (aC Ei aL dY)) (gR wM rfl B_len xbl xg (aC (Ek Sv Ei) aL fG))))) aJ
theorem zac (T:Txt K mg C w):RT P w K mg base k f ["self","row"] "Station.__init__" yL Hx:=fun cdv A outer s H E hr=>by
 refine dz hr fun hu=>?_;have nd:=(Xm).nd;have B_len:=T.blt "len" (by x_go);exact aD (uc T.cl_KeepStation T.na_KeepStation_marks Sv (zQ (GZ (gD (aC Ei aL dY)) (gR wM rfl B_len xbl xg (aC (Ek Sv Ei) aL fG))))) aJ
theorem zas (T:Txt K mg C w)(a_sieve_of:aY P w K mg base k "sieve_of" 1 Az)(a_KeepStation_Station___init__:mX P w K mg base k "Station" "__init__" 2 Ca):RT P w K mg base k f ["self","row"] "KeepStation.__init__" yM Hy:=fun cdv A outer s H E hr=>by
 refine dz hr fun hu=>?_;have nd:=(Xn).nd;refine aD (Bt (Kz a_KeepStation_Station___init__ hr rfl (aC Sv (aC Sv aL aN) aN) (cnt_cons (cnt_cons cnt_nil)))) ?_;exact aD (uc T.cl_KeepStation T.na_KeepStation_sieve Sv (eZ a_sieve_of hr rfl (aC (Ek Sv Ei) aL fG) (cnt_cons cnt_nil))) aJ
theorem zab (T:Txt K mg C w):RT P w K mg base k f ["self","row"] "Station.__init__" zJ Ir:=fun cdv A outer s H E hr=>by
 refine dz hr fun hu=>?_;have nd:=(Yc).nd;have B_len:=T.blt "len" (by x_go);exact aD (uc T.cl_TurnStation T.na_TurnStation_marks Sv (zQ (GZ (gD (aC Ei aL dY)) (gR wM rfl B_len xbl xg (aC (Ek Sv Ei) aL fG))))) aJ
theorem zat (T:Txt K mg C w)(a_turner_of:aY P w K mg base k "turner_of" 1 A_)(a_TurnStation_Station___init__:mX P w K mg base k "Station" "__init__" 2 Cg):RT P w K mg base k f ["self","row"] "TurnStation.__init__" zK Iu:=fun cdv A outer s H E hr=>by
 refine dz hr fun hu=>?_;have nd:=(Yd).nd;refine aD (Bt (Kz a_TurnStation_Station___init__ hr rfl (aC Sv (aC Sv aL aN) aN) (cnt_cons (cnt_cons cnt_nil)))) ?_;exact aD (uc T.cl_TurnStation T.na_TurnStation_turn Sv (eZ a_turner_of hr rfl (aC Sv aL aN) (cnt_cons cnt_nil))) aJ
theorem zaa (T:Txt K mg C w):RT P w K mg base k f ["self","row"] "Station.__init__" zx Ij:=fun cdv A outer s H E hr=>by
 refine dz hr fun hu=>?_;have nd:=(X4).nd;have B_len:=T.blt "len" (by x_go);exact aD (uc T.cl_ShareStation T.na_ShareStation_marks Sv (zQ (GZ (gD (aC Ei aL dY)) (gR wM rfl B_len xbl xg (aC (Ek Sv Ei) aL fG))))) aJ
theorem zam (T:Txt K mg C w)(a_sharer_of:aY P w K mg base k "sharer_of" 1 Ay)(a_ShareStation_Station___init__:mX P w K mg base k "Station" "__init__" 2 Ce):RT P w K mg base k f ["self","row"] "ShareStation.__init__" zA Ik:=fun cdv A outer s H E hr=>by
 refine dz hr fun hu=>?_;have nd:=(X5).nd;refine aD (Bt (Kz a_ShareStation_Station___init__ hr rfl (aC Sv (aC Sv aL aN) aN) (cnt_cons (cnt_cons cnt_nil)))) ?_;exact aD (uc T.cl_ShareStation T.na_ShareStation_is_shared Sv (eZ a_sharer_of hr rfl (aC Sv aL aN) (cnt_cons cnt_nil))) aJ
theorem zad (T:Txt K mg C w):RT P w K mg base k f ["self","row"] "Station.__init__" yS HN:=fun cdv A outer s H E hr=>by
 refine dz hr fun hu=>?_;have nd:=(Xv).nd;have B_len:=T.blt "len" (by x_go);exact aD (uc T.cl_OutStation T.na_OutStation_marks Sv (zQ (GZ (gD (aC Ei aL dY)) (gR wM rfl B_len xbl xg (aC (Ek Sv Ei) aL fG))))) aJ
theorem zaC (T:Txt K mg C w)(a_OutStation_Station___init__:mX P w K mg base k "Station" "__init__" 2 Cd):RT P w K mg base k f ["self","row"] "OutStation.__init__" yU HS:=fun cdv A outer s H E hr=>by
 refine dz hr fun hu=>?_;have nd:=(Xw).nd;refine aD (Bt (Kz a_OutStation_Station___init__ hr rfl (aC Sv (aC Sv aL aN) aN) (cnt_cons (cnt_cons cnt_nil)))) ?_;exact aD (uc T.cl_OutStation T.na_OutStation_kept Sv (zQ (gD aL))) aJ
theorem zbA (T:Txt K mg C w)(hk0:k0 + 1=k)(a_PourStation___init__:kE P w K mg base k0 C.PourStation 2 Ai)(a_KeepStation___init__:kE P w K mg base k0 C.KeepStation 2 Aa)(a_TurnStation___init__:kE P w K mg base k0 C.TurnStation 2 Aq)(a_ShareStation___init__:kE P w K mg base k0 C.ShareStation 2 Al)(a_OutStation___init__:kE P w K mg base k0 C.OutStation 2 Ae):RT P w K mg base k f ["row"] "station_of" Ks z6:=fun cdv A outer s H E hr=>by
 refine dz hr fun hu=>?_;have hr1:=hr;rw[<-hk0]at hr1;have nd:=(YZ).nd;refine aD (dX (Ct hu (Ek Sv Ei) Es) (aD (aR (Bp T.cl_KeepStation a_KeepStation___init__ hr1 rfl (aC Sv aL aN) (cnt_cons cnt_nil))) aJ) aJ) ?_;refine aD (dX (Ct hu (Ek Sv Ei) Es) (aD (aR (Bp T.cl_TurnStation a_TurnStation___init__ hr1 rfl (aC Sv aL aN) (cnt_cons cnt_nil))) aJ) aJ) ?_;refine aD (dX (Ct hu (Ek Sv Ei) Es) (aD (aR (Bp T.cl_ShareStation a_ShareStation___init__ hr1 rfl (aC Sv aL aN) (cnt_cons cnt_nil))) aJ) aJ) ?_;refine aD (dX (Ct hu (Ek Sv Ei) Es) (aD (aR (Bp T.cl_PourStation a_PourStation___init__ hr1 rfl (aC Sv aL aN) (cnt_cons cnt_nil))) aJ) aJ) ?_;refine aD (dX (Ct hu (Ek Sv Ei) (gw (aC Es (aC Es aL dY) dY))) (aD zW aJ) aJ) ?_;refine aD (dX (Ct hu (Ek Sv Ei) Es) (aD zW aJ) aJ) ?_;refine aD (dX (Ct hu (Ek Sv Ei) Es) (aD zW aJ) aJ) ?_;exact aD (aR (Bp T.cl_OutStation a_OutStation___init__ hr1 rfl (aC Sv aL aN) (cnt_cons cnt_nil))) aJ
theorem zdk (T:Txt K mg C w):RT P w K mg base k f ["_law_found"] "_law_whole" J8 Ul:=fun cdv A outer s H E hr=>by
 refine dz hr fun hu=>?_;have nd:=(Yu).nd;have B_bool:=T.blt "bool" (by x_go);have B_int:=T.blt "int" (by x_go);have B_isinstance:=T.blt "isinstance" (by x_go);exact aD (aR (Bo (GQ (T:="int") (fun t b h=>Fv t "int" b h) Sv rfl B_isinstance rfl B_int boot_int) (xM (Za (GQ (T:="bool") (fun t b h=>Fv t "bool" b h) Sv rfl B_isinstance rfl B_bool boot_bool))))) aJ
theorem zb9 (T:Txt K mg C w):RT P w K mg base k f ["_law_script","_law_k"] "_law_cell_at" JX L_:=fun cdv A outer s H E hr=>by
 refine dz hr fun hu=>?_;have nd:=(Yk).nd;have B_len:=T.blt "len" (by x_go);refine aD (dX (Ct hu Sv (gR wM rfl B_len xbl xg (aC Sv aL aN))) (aD (aR (Ek Sv Sv)) aJ) aJ) ?_;exact aD (aR Ei) aJ
theorem zcw (T:Txt K mg C w):RT P w K mg base k f ["_law_cell"] "_law_number" J4 IV:=fun cdv A outer s H E hr=>by
 refine dz hr fun hu=>?_;have nd:=(Yq).nd;refine aD (dX (Ct hu (aW gP gQ Sv Ei) Ei) (aD (aR (aW tQ tV (aW gP gQ (aW rD su Sv Ei) Ei) Ei)) aJ) aJ) ?_;exact aD (aR (aW tQ tV (aW gP gQ (aW rD su Sv Ei) (aW tQ tV (aW yF yG Ei (aW tO tU Ei Ei)) Ei)) (aW tQ tV (aW tO tU Ei Ei) Ei))) aJ
theorem zf8 (T:Txt K mg C w)(a__cell_at:aY P w K mg base k "_law_cell_at" 2 sY)(a__number:aY P w K mg base k "_law_number" 1 sZ):RT P w K mg base k f ["_law_script","_law_kind","_law_form","_law_written","_law_rest","_law_some","_law_many"] "_law_row" J5 Ml:=fun cdv A outer s H E hr=>by
 refine dz hr fun hu=>?_;have nd:=(Yr).nd;have B_range:=T.blt "range" (by x_go);have B_str:=T.blt "str" (by x_go);have B_tuple:=T.blt "tuple" (by x_go);refine aD (fj (i:=1) nd rfl Lv (aW gP gQ (eZ a__cell_at hr rfl (aC Sv (aC Ei aL dY) aN) (cnt_cons (cnt_cons cnt_nil))) Ei)) ?_;refine aD (fj (i:=2) nd rfl Lv (aW rD su (eZ a__cell_at hr rfl (aC Sv (aC Ei aL dY) aN) (cnt_cons (cnt_cons cnt_nil))) Ei)) ?_;refine aD (fj (i:=3) nd rfl Lv (sy Jg rfl B_str boot_str JM (aC (eZ a__number hr rfl (aC (eZ a__cell_at hr rfl (aC Sv (aC Ei aL dY) aN) (cnt_cons (cnt_cons cnt_nil))) aL f9) (cnt_cons cnt_nil)) aL f9))) ?_;refine aD (dX (Ct hu Sv Ei) (aD (fj (i:=4) nd rfl Lv (Ek (SN.sem (gD (aC (gw (aC Es (aC Es (aC Sv aL aN) dY) dY)) (aC (gw (aC Es (aC Es (aC Sv aL aN) dY) dY)) (aC (gw (aC Es (aC Es (aC Sv aL aN) dY) dY)) aL o_) o_) o_)) lst_is) (aW gP gQ Sv Ei))) (aD (aR (gw (aC Es (aC Es (aC (gw (aC Es aL dY)) (aC Sv aL aN) o_) dY) dY))) aJ)) aJ) ?_;refine aD (dX (Ct hu Sv Ei) (aD (fj (i:=5) nd rfl Lv (SN.sem (gD (aC (gw (aC Es (aC Es (aC Sv aL aN) dY) dY)) (aC (gw (aC Es (aC Es (aC Sv aL aN) dY) dY)) (aC (gw (aC Es (aC Sv (aC Es aL dY) aN) dY)) (aC (gw (aC Es (aC Es (aC Es aL dY) dY) dY)) aL o_) o_) o_) o_)) lst_is)) (aD (aR (gw (aC Es (aC Es (aC (gw (aC Es aL dY)) (aC (Ek Sv (aW gP gQ Sv Ei)) aL fG) o_) dY) dY))) aJ)) aJ) ?_;refine aD (dX (Ct hu Sv Ei) (aD (fj (i:=6) nd rfl Lv (aW nq nu Ei (aW gP gQ Sv Ei))) (aD (aR (gw (aC Es (aC Es (aC (gw (aC Es aL dY)) (aC (gw (aC (sy Jg rfl B_str boot_str JM (aC (aW gP gQ (aW rD su Sv Ei) Sv) aL p8)) (aC (sy Jg rfl B_str boot_str JM (aC Sv aL aN)) aL f9) f9)) aL o_) o_) dY) dY))) aJ)) aJ) ?_;refine aD (dX (Ct hu Sv Ei) (aD (aR (gw (aC Es (aC Es (aC (sy Nh rfl B_tuple xcS QZ (aC (SN.sem (Zo "_law_k" [] rfl (by x_go) (R7 rfl B_range (aC (aW nq nu Ei (aW gP gQ Sv Ei)) aL p8)) (fun _ _ _ _ _ _=>Zq) (fun _ _ _ _ _ _=>(aW nq nu Es (sy Jg rfl B_str boot_str JM (aC (Br rfl (.inl (by kernel_rfl))) aL aN))))) U9) aL Zr)) (aC (gw aL) aL o_) f9) dY) dY))) aJ) aJ) ?_;exact aD (aR (gw (aC Es (aC Es (aC (gw (aC Es aL dY)) (aC (gw aL) aL o_) o_) dY) dY))) aJ
theorem zf3 (T:Txt K mg C w):RT P w K mg base k f ["_law_cell","_law_word","_law_k"] "_law_key" J3 Mj:=fun cdv A outer s H E hr=>by
 refine dz hr fun hu=>?_;have nd:=(Yp).nd;have B_range:=T.blt "range" (by x_go);refine aD (fj (i:=1) nd rfl Lv Es) ?_;refine aD (zV xbM rfl nd rfl Lv (R7 rfl B_range (aC (aW nq nu Ei (aW gP gQ Sv Ei)) aL p8)) (aD (fj (i:=1) nd rfl Lv (aW nq nu Sv (Ek Es (aW gP gQ (aW rD su Sv (aW nq nu Ei (aW yF yG Ei Sv))) Ei)))) aJ)) ?_;exact aD (aR Sv) aJ
theorem zcU (T:Txt K mg C w)(a__key:aY P w K mg base k "_law_key" 1 Cq):RT P w K mg base k f ["_law_cell","_law_number_here","_law_value","_law_time"] "_law_thing" J6 Mp:=fun cdv A outer s H E hr=>by
 refine dz hr fun hu=>?_;have nd:=(Ys).nd;have B_max:=T.blt "max" (by x_go);have B_min:=T.blt "min" (by x_go);refine aD (fj (i:=2) nd rfl Lv (aW tQ tV (aW gP gQ (aW rD su Sv Ei) (aW nq nu (aW yF yG Ei (aW tO tU Ei Ei)) Ei)) (aW tO tU Ei Ei))) ?_;refine aD (fj (i:=3) nd rfl Lv (aW gP gQ (aW rD su Sv Ei) (aW nq nu (aW tO tU Ei Ei) Ei))) ?_;refine aD (dX (Ct hu (aW gP gQ Sv Ei) Ei) (aD (fj (i:=2) nd rfl Lv (aW tQ tV (aW gP gQ (aW rD su Sv Ei) (aW nq nu (aW yF yG Ei (aW tO tU Ei Ei)) Ei)) (aW tO tU Ei Ei))) (aD (fj (i:=3) nd rfl Lv (aW gP gQ (aW rD su Sv Ei) (aW tO tU Ei Ei))) aJ)) aJ) ?_;refine aD (dX (Ct hu (aW gP gQ Sv Ei) Ei) (aD (fj (i:=2) nd rfl Lv (aW tQ tV (aW nq nu Sv (aW gP gQ (aW rD su Sv Ei) Ei)) Ei)) (aD (fj (i:=3) nd rfl Lv (gR (Jf rfl) rfl B_max boot_max JL (aC Ei (aC (gR (DR rfl) rfl B_min xb1 Gk (aC (aW tO tU Ei Ei) (aC (aW tQ tV (aW nq nu Sv (aW gP gQ (aW rD su Sv Ei) Ei)) Ei) aL p8) p8)) aL f9) dY))) aJ)) aJ) ?_;exact aD (aR (gw (aC Es (aC Sv (aC (eZ a__key hr rfl (aC (aW rD su Sv Ei) aL p8) (cnt_cons cnt_nil)) (aC Sv aL aN) f9) aN) dY))) aJ
theorem zb7 (T:Txt K mg C w):RT P w K mg base k f ["_law_rest","_law_item","_law_number_here","_law_value"] "_law_changed" JZ Ma:=fun cdv A outer s H E hr=>by
 refine dz hr fun hu=>?_;have nd:=(Yl).nd;have B_max:=T.blt "max" (by x_go);have B_min:=T.blt "min" (by x_go);refine aD (fj (i:=3) nd rfl Lv (gR (DR rfl) rfl B_min xb1 Gk (aC (Ek Sv Ei) (aC (Ek Sv Ei) aL fG) fG))) ?_;refine aD (dX (Ct hu (Ek Sv Ei) Es) (aD (fj (i:=3) nd rfl Lv (aW nq nu (Ek Sv Ei) Sv)) aJ) aJ) ?_;refine aD (dX (Ct hu (Ek Sv Ei) Es) (aD (fj (i:=3) nd rfl Lv (aW yF yG (Ek Sv Ei) Sv)) aJ) aJ) ?_;refine aD (dX (Ct hu (Ek Sv Ei) Es) (aD (fj (i:=3) nd rfl Lv (aW tQ tV Sv (Ek Sv Ei))) aJ) aJ) ?_;exact aD (aR (gw (aC Es (aC (Ek Sv Ei) (aC (Ek Sv Ei) (aC (gR (Jf rfl) rfl B_max boot_max JL (aC (Zc ZX WW (aW tO tU Ei Ei)) (aC (gR (DR rfl) rfl B_min xb1 Gk (aC (aW tO tU Ei Ei) (aC Sv aL aN) p8)) aL f9) Zt)) aL f9) fG) fG) dY))) aJ
theorem zc1 (T:Txt K mg C w):RT P w K mg base k f ["_law_rest","_law_item","_law_number_here"] "_law_holds" J1 Mf:=fun cdv A outer s H E hr=>by
 refine dz hr fun hu=>?_;have nd:=(Yn).nd;refine aD (dX (Ct hu (Ek Sv Ei) Es) (aD (aR (Cm hu (Ek Sv Ei) Sv)) aJ) aJ) ?_;refine aD (dX (Ct hu (Ek Sv Ei) Es) (aD (aR (Cm hu (Ek Sv Ei) Sv)) aJ) aJ) ?_;exact aD (aR (Cm hu (Ek Sv Ei) Sv)) aJ
theorem zbL (T:Txt K mg C w):RT P w K mg base k f ["_law_rest","_law_key_here","_law_number_here","_law_sign"] "_law_in_share" J2 Mi:=fun cdv A outer s H E hr=>by
 refine dz hr fun hu=>?_;have nd:=(Yo).nd;have B_int:=T.blt "int" (by x_go);have B_ord:=T.blt "ord" (by x_go);refine aD (fj (i:=2) nd rfl Lv Ei) ?_;refine aD (zV xbM rfl nd rfl Lv (R8 Sv) (aD (fj (i:=2) nd rfl Lv (aW tQ tV (aW nq nu (aW yF yG Ei Sv) (gR Uz rfl B_ord boot_ord WX (aC Sv aL aN))) (gR Uz rfl B_ord boot_ord WX (aC Es aL dY)))) aJ)) ?_;exact aD (aR (Cm hu (aW gP gQ Sv (sy DQ rfl B_int boot_int Gj (aC (Ek Sv Ei) aL fG))) (sy DQ rfl B_int boot_int Gj (aC (Ek Sv Ei) aL fG)))) aJ
theorem zgS (T:Txt K mg C w)(a__changed:aY P w K mg base k "_law_changed" 3 Ci)(a__holds:aY P w K mg base k "_law_holds" 3 Cj)(a__in_share:aY P w K mg base k "_law_in_share" 2 Ck):RT P w K mg base k f ["_law_row_here","_law_item","_law_number_here","_law_word"] "_law_due" J0 zZ:=fun cdv A outer s H E hr=>by
 refine dz hr fun hu=>?_;have nd:=(Ym).nd;refine aD (fj (i:=3) nd rfl Lv (Ek Sv Ei)) ?_;refine aD (dX (Ct hu Sv Es) (aD (aR (SN.sem (gD (aC (eZ a__changed hr rfl (aC (Ek Sv Ei) (aC Sv (aC Sv aL aN) aN) fG) (cnt_cons (cnt_cons (cnt_cons cnt_nil)))) aL f9)) lst_is)) aJ) aJ) ?_;refine aD (dX (SW.st (Zx (Ct hu Sv Es) (Zy (xO (pq (eZ a__holds hr rfl (aC (Ek Sv Ei) (aC Sv (aC Sv aL aN) aN) fG) (cnt_cons (cnt_cons (cnt_cons cnt_nil))))))))) (aD (aR (SN.sem (gD aL) lst_is)) aJ) aJ) ?_;refine aD (dX (SW.st (Zx (Ct hu Sv Es) (Zy (xO (pq (eZ a__in_share hr rfl (aC (Ek Sv Ei) (aC (Ek Sv Ei) aL fG) fG) (cnt_cons (cnt_cons cnt_nil)))))))) (aD (aR (SN.sem (gD aL) lst_is)) aJ) aJ) ?_;refine aD (dX (Ct hu Sv Es) (aD (aR (SN.sem (gD aL) lst_is)) aJ) aJ) ?_;exact aD (aR (SN.sem (gD (aC Sv aL aN)) lst_is)) aJ
theorem zd8 (T:Txt K mg C w)(a__whole:aY P w K mg base k "_law_whole" 1 Ax):RT P w K mg base k f ["_law_found","_law_due_here","_law_item"] "_law_told" J7 Mq:=fun cdv A outer s H E hr=>by
 refine dz hr fun hu=>?_;have nd:=(Yt).nd;have B_isinstance:=T.blt "isinstance" (by x_go);have B_list:=T.blt "list" (by x_go);have B_tuple:=T.blt "tuple" (by x_go);refine aD (dX (SW.st (G5 (xO (pq (GQ (T:="list") (fun t b h=>Fv t "list" b h) Sv rfl B_isinstance rfl B_list boot_list))) (KR (Ct hu Sv Sv)))) (aD (aR Eb) aJ) aJ) ?_;refine aD (zV xbM rfl nd rfl Lv (Zf Sv) (aD (dX (SW.st (G5 (xO (pq (GQ (T:="tuple") (fun t b h=>Fv t "tuple" b h) Sv rfl B_isinstance rfl B_tuple xcS))) (G5 (xO (pq (eZ a__whole hr rfl (aC (Ek Sv Ei) aL fG) (cnt_cons cnt_nil)))) (KR (xO (pq (eZ a__whole hr rfl (aC (Ek Sv Ei) aL fG) (cnt_cons cnt_nil)))))))) (aD (aR Eb) aJ) aJ) aJ)) ?_;exact aD (aR Eb) aJ
theorem zaR (T:Txt K mg C w):RT P w K mg base k f ["self"] "Station.low" zj Ie:=fun cdv A outer s H E hr=>by
 refine dz hr fun hu=>?_;have nd:=(XM).nd;have B_min:=T.blt "min" (by x_go);exact aD (aR (gR (DW rfl) rfl B_min xb1 Gm (aC (n_ T.cl_PourStation T.na_PourStation_marks Sv) aL Bu))) aJ
theorem zah (T:Txt K mg C w)(a_item_of:aY P w K mg base k "item_of" 1 nR):RT P w K mg base k f ["self","way","thing"] "Station.take_thing" zu Ii:=fun cdv A outer s H E hr=>by
 refine dz hr fun hu=>?_;have nd:=(X3).nd;exact aD (aR (SN.sem (gD (aC (eZ a_item_of hr rfl (aC Sv aL aN) (cnt_cons cnt_nil)) aL f9)) lst_is)) aJ
theorem zaA (T:Txt K mg C w)(a_PourStation_take_thing:dH P w K mg base k C.PourStation "take_thing" 3 yg):RT P w K mg base k f ["self","way","item"] "Station.take_in" zp Ih:=fun cdv A outer s H E hr=>by
 refine dz hr fun hu=>?_;have nd:=(XS).nd;refine aD (dX (Ct hu (Ek Sv Ei) Es) (aD zW aJ) aJ) ?_;exact aD (aR (sE T.cl_PourStation a_PourStation_take_thing hr Sv (aC Sv (aC (Dg Sv (zR (Wx:=W0) Ei) zU) aL fG) aN) (cnt_cons (cnt_cons cnt_nil)))) aJ
theorem zau (T:Txt K mg C w):RT P w K mg base k f ["self"] "Station.all_kept" zf LK:=fun cdv A outer s H E hr=>by
 refine dz hr fun hu=>?_;have nd:=(XJ).nd;exact aD (aR (SN.sem (gD aL) lst_is)) aJ
theorem zaF (T:Txt K mg C w)(a_PourStation_all_kept:dH P w K mg base k C.PourStation "all_kept" 1 Er):RT P w K mg base k f ["self"] "Station.state" zm Ig:=fun cdv A outer s H E hr=>by
 refine dz hr fun hu=>?_;have nd:=(XR).nd;have B_list:=T.blt "list" (by x_go);exact aD (aR (gw (aC (SN.sem (Dj rfl B_list (n_ T.cl_PourStation T.na_PourStation_marks Sv)) CT) (aC (nG T.cl_PourStation a_PourStation_all_kept hr Sv) aL f9) f9))) aJ
theorem zaP (T:Txt K mg C w):RT P w K mg base k f ["self"] "Station.low" yO Hz:=fun cdv A outer s H E hr=>by
 refine dz hr fun hu=>?_;have nd:=(Xp).nd;have B_min:=T.blt "min" (by x_go);exact aD (aR (gR (DW rfl) rfl B_min xb1 Gm (aC (n_ T.cl_KeepStation T.na_KeepStation_marks Sv) aL Bu))) aJ
theorem zak (T:Txt K mg C w)(a_item_of:aY P w K mg base k "item_of" 1 nR)(a_sieve_of__sieve:lg P w K mg base k pO 2 Cz):RT P w K mg base k f ["self","way","thing"] "KeepStation.take_thing" yR HJ:=fun cdv A outer s H E hr=>by
 refine dz hr fun hu=>?_;have nd:=(Xu).nd;exact aD (aR (R3 (pq (R0 T.cl_KeepStation T.na_KeepStation_sieve a_sieve_of__sieve hr Sv (aC (Ek Sv Ei) (aC (Ek Sv Ei) aL fG) fG) (cnt_cons (cnt_cons cnt_nil)))) (SN.sem (gD (aC (eZ a_item_of hr rfl (aC Sv aL aN) (cnt_cons cnt_nil)) aL f9)) lst_is) (SN.sem (gD aL) lst_is))) aJ
theorem zaz (T:Txt K mg C w)(a_KeepStation_take_thing:dH P w K mg base k C.KeepStation "take_thing" 3 xY):RT P w K mg base k f ["self","way","item"] "Station.take_in" yQ HF:=fun cdv A outer s H E hr=>by
 refine dz hr fun hu=>?_;have nd:=(Xr).nd;refine aD (dX (Ct hu (Ek Sv Ei) Es) (aD zW aJ) aJ) ?_;exact aD (aR (sE T.cl_KeepStation a_KeepStation_take_thing hr Sv (aC Sv (aC (Dg Sv (zR (Wx:=W0) Ei) zU) aL fG) aN) (cnt_cons (cnt_cons cnt_nil)))) aJ
theorem zaw (T:Txt K mg C w):RT P w K mg base k f ["self"] "Station.all_kept" yN Lz:=fun cdv A outer s H E hr=>by
 refine dz hr fun hu=>?_;have nd:=(Xo).nd;exact aD (aR (SN.sem (gD aL) lst_is)) aJ
theorem zaG (T:Txt K mg C w)(a_KeepStation_all_kept:dH P w K mg base k C.KeepStation "all_kept" 1 Ep):RT P w K mg base k f ["self"] "Station.state" yP HD:=fun cdv A outer s H E hr=>by
 refine dz hr fun hu=>?_;have nd:=(Xq).nd;have B_list:=T.blt "list" (by x_go);exact aD (aR (gw (aC (SN.sem (Dj rfl B_list (n_ T.cl_KeepStation T.na_KeepStation_marks Sv)) CT) (aC (nG T.cl_KeepStation a_KeepStation_all_kept hr Sv) aL f9) f9))) aJ
theorem zaS (T:Txt K mg C w):RT P w K mg base k f ["self"] "Station.low" zM Iv:=fun cdv A outer s H E hr=>by
 refine dz hr fun hu=>?_;have nd:=(Yg).nd;have B_min:=T.blt "min" (by x_go);exact aD (aR (gR (DW rfl) rfl B_min xb1 Gm (aC (n_ T.cl_TurnStation T.na_TurnStation_marks Sv) aL Bu))) aJ
theorem zal (T:Txt K mg C w)(a_item_of:aY P w K mg base k "item_of" 1 nR)(a_turner_of__turn:lg P w K mg base k pP 1 CJ):RT P w K mg base k f ["self","way","thing"] "TurnStation.take_thing" zP IK:=fun cdv A outer s H E hr=>by
 refine dz hr fun hu=>?_;have nd:=(Yj).nd;exact aD (aR (SN.sem (gD (aC (eZ a_item_of hr rfl (aC (R0 T.cl_TurnStation T.na_TurnStation_turn a_turner_of__turn hr Sv (aC Sv aL aN) (cnt_cons cnt_nil)) aL f9) (cnt_cons cnt_nil)) aL f9)) lst_is)) aJ
theorem zay (T:Txt K mg C w)(a_TurnStation_take_thing:dH P w K mg base k C.TurnStation "take_thing" 3 yq):RT P w K mg base k f ["self","way","item"] "Station.take_in" zO Iz:=fun cdv A outer s H E hr=>by
 refine dz hr fun hu=>?_;have nd:=(Yi).nd;refine aD (dX (Ct hu (Ek Sv Ei) Es) (aD zW aJ) aJ) ?_;exact aD (aR (sE T.cl_TurnStation a_TurnStation_take_thing hr Sv (aC Sv (aC (Dg Sv (zR (Wx:=W0) Ei) zU) aL fG) aN) (cnt_cons (cnt_cons cnt_nil)))) aJ
theorem zar (T:Txt K mg C w):RT P w K mg base k f ["self"] "Station.all_kept" zL LR:=fun cdv A outer s H E hr=>by
 refine dz hr fun hu=>?_;have nd:=(Ye).nd;exact aD (aR (SN.sem (gD aL) lst_is)) aJ
theorem zaH (T:Txt K mg C w)(a_TurnStation_all_kept:dH P w K mg base k C.TurnStation "all_kept" 1 Eu):RT P w K mg base k f ["self"] "Station.state" zN Iw:=fun cdv A outer s H E hr=>by
 refine dz hr fun hu=>?_;have nd:=(Yh).nd;have B_list:=T.blt "list" (by x_go);exact aD (aR (gw (aC (SN.sem (Dj rfl B_list (n_ T.cl_TurnStation T.na_TurnStation_marks Sv)) CT) (aC (nG T.cl_TurnStation a_TurnStation_all_kept hr Sv) aL f9) f9))) aJ
theorem zaL (T:Txt K mg C w):RT P w K mg base k f ["self"] "Station.low" zE Il:=fun cdv A outer s H E hr=>by
 refine dz hr fun hu=>?_;have nd:=(X7).nd;have B_min:=T.blt "min" (by x_go);exact aD (aR (gR (DW rfl) rfl B_min xb1 Gm (aC (n_ T.cl_ShareStation T.na_ShareStation_marks Sv) aL Bu))) aJ
theorem zag (T:Txt K mg C w)(a_item_of:aY P w K mg base k "item_of" 1 nR)(a_sharer_of__is_shared:lg P w K mg base k lu 1 Cy):RT P w K mg base k f ["self","way","thing"] "ShareStation.take_thing" zH Ip:=fun cdv A outer s H E hr=>by
 refine dz hr fun hu=>?_;have nd:=(Yb).nd;exact aD (aR (R3 (pq (R0 T.cl_ShareStation T.na_ShareStation_is_shared a_sharer_of__is_shared hr Sv (aC (Ek Sv Ei) aL fG) (cnt_cons cnt_nil))) (SN.sem (gD (aC (eZ a_item_of hr rfl (aC Sv aL aN) (cnt_cons cnt_nil)) aL f9)) lst_is) (SN.sem (gD aL) lst_is))) aJ
theorem zax (T:Txt K mg C w)(a_ShareStation_take_thing:dH P w K mg base k C.ShareStation "take_thing" 3 yj):RT P w K mg base k f ["self","way","item"] "Station.take_in" zG Io:=fun cdv A outer s H E hr=>by
 refine dz hr fun hu=>?_;have nd:=(X_).nd;refine aD (dX (Ct hu (Ek Sv Ei) Es) (aD zW aJ) aJ) ?_;exact aD (aR (sE T.cl_ShareStation a_ShareStation_take_thing hr Sv (aC Sv (aC (Dg Sv (zR (Wx:=W0) Ei) zU) aL fG) aN) (cnt_cons (cnt_cons cnt_nil)))) aJ
theorem zao (T:Txt K mg C w):RT P w K mg base k f ["self"] "Station.all_kept" zB LQ:=fun cdv A outer s H E hr=>by
 refine dz hr fun hu=>?_;have nd:=(X6).nd;exact aD (aR (SN.sem (gD aL) lst_is)) aJ
theorem zaD (T:Txt K mg C w)(a_ShareStation_all_kept:dH P w K mg base k C.ShareStation "all_kept" 1 Et):RT P w K mg base k f ["self"] "Station.state" zF Im:=fun cdv A outer s H E hr=>by
 refine dz hr fun hu=>?_;have nd:=(X8).nd;have B_list:=T.blt "list" (by x_go);exact aD (aR (gw (aC (SN.sem (Dj rfl B_list (n_ T.cl_ShareStation T.na_ShareStation_marks Sv)) CT) (aC (nG T.cl_ShareStation a_ShareStation_all_kept hr Sv) aL f9) f9))) aJ
theorem zaX (T:Txt K mg C w):RT P w K mg base k f ["self"] "Station.low" yW HX:=fun cdv A outer s H E hr=>by
 refine dz hr fun hu=>?_;have nd:=(Xy).nd;have B_min:=T.blt "min" (by x_go);exact aD (aR (gR (DW rfl) rfl B_min xb1 Gm (aC (n_ T.cl_OutStation T.na_OutStation_marks Sv) aL Bu))) aJ
theorem zan (T:Txt K mg C w):RT P w K mg base k f ["self","way","thing"] "OutStation.take_thing" za Ia:=fun cdv A outer s H E hr=>by
 refine dz hr fun hu=>?_;have nd:=(XD).nd;refine aD (Dk (n_ T.cl_OutStation T.na_OutStation_kept Sv) Sv) ?_;exact aD (aR (SN.sem (gD aL) lst_is)) aJ
theorem zaE (T:Txt K mg C w)(a_OutStation_take_thing:dH P w K mg base k C.OutStation "take_thing" 3 yc):RT P w K mg base k f ["self","way","item"] "Station.take_in" yZ H_:=fun cdv A outer s H E hr=>by
 refine dz hr fun hu=>?_;have nd:=(XC).nd;refine aD (dX (Ct hu (Ek Sv Ei) Es) (aD zW aJ) aJ) ?_;exact aD (aR (sE T.cl_OutStation a_OutStation_take_thing hr Sv (aC Sv (aC (Dg Sv (zR (Wx:=W0) Ei) zU) aL fG) aN) (cnt_cons (cnt_cons cnt_nil)))) aJ
theorem zaB (T:Txt K mg C w):RT P w K mg base k f ["self"] "OutStation.all_kept" yV HW:=fun cdv A outer s H E hr=>by
 refine dz hr fun hu=>?_;have nd:=(Xx).nd;have B_list:=T.blt "list" (by x_go);exact aD (aR (SN.sem (Dj rfl B_list (n_ T.cl_OutStation T.na_OutStation_kept Sv)) CT)) aJ
theorem zaM (T:Txt K mg C w)(a_OutStation_all_kept:dH P w K mg base k C.OutStation "all_kept" 1 Af):RT P w K mg base k f ["self"] "Station.state" yX HY:=fun cdv A outer s H E hr=>by
 refine dz hr fun hu=>?_;have nd:=(Xz).nd;have B_list:=T.blt "list" (by x_go);exact aD (aR (gw (aC (SN.sem (Dj rfl B_list (n_ T.cl_OutStation T.na_OutStation_marks Sv)) CT) (aC (nG T.cl_OutStation a_OutStation_all_kept hr Sv) aL f9) f9))) aJ
theorem zjz (T:Txt K mg C w)(a_station_of:aY P w K mg base k "station_of" 1 lq)(a__cell_at:aY P w K mg base k "_law_cell_at" 2 sY)(a__number:aY P w K mg base k "_law_number" 1 sZ)(a__row:aY P w K mg base k "_law_row" 1 Cr)(a__thing:aY P w K mg base k "_law_thing" 2 Cu)(a__due:aY P w K mg base k "_law_due" 3 m_)(a__told:aY P w K mg base k "_law_told" 2 Cw)(a_PourStation_low:dH P w K mg base k C.PourStation "low" 1 yd)(a_PourStation_take_in:dH P w K mg base k C.PourStation "take_in" 3 Ak)(a_PourStation_state:dH P w K mg base k C.PourStation "state" 1 Aj)(a_KeepStation_low:dH P w K mg base k C.KeepStation "low" 1 xX)(a_KeepStation_take_in:dH P w K mg base k C.KeepStation "take_in" 3 Ac)(a_KeepStation_state:dH P w K mg base k C.KeepStation "state" 1 Ab)(a_TurnStation_low:dH P w K mg base k C.TurnStation "low" 1 yp)(a_TurnStation_take_in:dH P w K mg base k C.TurnStation "take_in" 3 Aw)(a_TurnStation_state:dH P w K mg base k C.TurnStation "state" 1 Av)(a_ShareStation_low:dH P w K mg base k C.ShareStation "low" 1 yh)(a_ShareStation_take_in:dH P w K mg base k C.ShareStation "take_in" 3 Ao)(a_ShareStation_state:dH P w K mg base k C.ShareStation "state" 1 Am)(a_OutStation_low:dH P w K mg base k C.OutStation "low" 1 xZ)(a_OutStation_take_in:dH P w K mg base k C.OutStation "take_in" 3 Ah)(a_OutStation_state:dH P w K mg base k C.OutStation "state" 1 Ag):RT P w K mg base k f ["_law_script","_law_row_here","_law_number_here","_law_station","_law_ways","_law_kept","_law_cell","_law_item","_law_found"] "law" tX I_:=fun cdv A outer s H E hr=>by
 refine dz hr fun hu=>?_;have nd:=(YJ).nd;have B_isinstance:=T.blt "isinstance" (by x_go);have B_len:=T.blt "len" (by x_go);have B_tuple:=T.blt "tuple" (by x_go);refine aD (fj (i:=1) nd rfl Lv (eZ a__row hr rfl (aC Sv aL aN) (cnt_cons cnt_nil))) ?_;refine aD (fj (i:=2) nd rfl Lv (eZ a__number hr rfl (aC (eZ a__cell_at hr rfl (aC Sv (aC Ei aL dY) aN) (cnt_cons (cnt_cons cnt_nil))) aL f9) (cnt_cons cnt_nil))) ?_;refine aD (fj (i:=3) nd rfl Lv (eZ a_station_of hr rfl (aC Sv aL aN) (cnt_cons cnt_nil))) ?_;refine aD (dX (xO (pq (m5 (GR T.cl_KeepStation T.cl_Station T.oi_KeepStation_Station Sv rfl B_isinstance rfl) (m5 (GR T.cl_OutStation T.cl_Station T.oi_OutStation_Station Sv rfl B_isinstance rfl) (m5 (GR T.cl_PourStation T.cl_Station T.oi_PourStation_Station Sv rfl B_isinstance rfl) (m5 (GR T.cl_ShareStation T.cl_Station T.oi_ShareStation_Station Sv rfl B_isinstance rfl) (GR T.cl_TurnStation T.cl_Station T.oi_TurnStation_Station Sv rfl B_isinstance rfl))))))) (aD (aR Eb) aJ) aJ) ?_;refine aD (fj (i:=4) nd rfl Lv (gR wM rfl B_len xbl xg (aC (Ek Sv Ei) aL fG))) ?_;refine aD (zei (i:=5) nd rfl Lv (gD aL)) ?_;refine aD (zV xbM rfl nd rfl Lv (Zf (Zb Sv (zR (Wx:=W0) Ei) zU)) (aD (fj (i:=7) nd rfl Lv (eZ a__thing hr rfl (aC Sv (aC Sv aL aN) aN) (cnt_cons (cnt_cons cnt_nil)))) (aD (dX (xO (pq (eZ a__told hr rfl (aC (m5 (sE T.cl_PourStation a_PourStation_take_in hr Sv (aC (aW gP gQ Sv Sv) (aC Sv aL aN) p8) (cnt_cons (cnt_cons cnt_nil))) (m5 (sE T.cl_KeepStation a_KeepStation_take_in hr Sv (aC (aW gP gQ Sv Sv) (aC Sv aL aN) p8) (cnt_cons (cnt_cons cnt_nil))) (m5 (sE T.cl_TurnStation a_TurnStation_take_in hr Sv (aC (aW gP gQ Sv Sv) (aC Sv aL aN) p8) (cnt_cons (cnt_cons cnt_nil))) (m5 (sE T.cl_ShareStation a_ShareStation_take_in hr Sv (aC (aW gP gQ Sv Sv) (aC Sv aL aN) p8) (cnt_cons (cnt_cons cnt_nil))) (sE T.cl_OutStation a_OutStation_take_in hr Sv (aC (aW gP gQ Sv Sv) (aC Sv aL aN) p8) (cnt_cons (cnt_cons cnt_nil))))))) (aC (eZ a__due hr rfl (aC Sv (aC Sv (aC Sv aL aN) aN) aN) (cnt_cons (cnt_cons (cnt_cons cnt_nil)))) aL f9) f9) (cnt_cons (cnt_cons cnt_nil))))) (aD (aR Eb) aJ) aJ) (aD (dX (Ct hu (Ek Sv Ei) Es) (aD (zfF rfl Lu (Dg Sv (zR (Wx:=W0) Ei) zU)) aJ) aJ) aJ)))) ?_;refine aD (fj (i:=8) nd rfl Lv (m5 (nG T.cl_PourStation a_PourStation_state hr Sv) (m5 (nG T.cl_KeepStation a_KeepStation_state hr Sv) (m5 (nG T.cl_TurnStation a_TurnStation_state hr Sv) (m5 (nG T.cl_ShareStation a_ShareStation_state hr Sv) (nG T.cl_OutStation a_OutStation_state hr Sv)))))) ?_;refine zfN ?_;exact aD (aR (Bo (GQ (T:="tuple") (fun t b h=>Fv t "tuple" b h) Sv rfl B_isinstance rfl B_tuple xcS) (Bo (Cm hu Sv (gw (aC (zeZ (gD (aC Ei aL dY)) Sv) (aC Sv aL aN) p8))) (xM (Cm hu (m5 (nG T.cl_PourStation a_PourStation_low hr Sv) (m5 (nG T.cl_KeepStation a_KeepStation_low hr Sv) (m5 (nG T.cl_TurnStation a_TurnStation_low hr Sv) (m5 (nG T.cl_ShareStation a_ShareStation_low hr Sv) (nG T.cl_OutStation a_OutStation_low hr Sv))))) Ei))))) aJ
end
noncomputable def tabs:List (Str×FnT):=[("sieve_of",pO),("change_of",nW),("sharer_of",lu),("turner_of",pP)]
noncomputable def Bb:Nat:=12
def ni:G:=Vz
abbrev wNs:String:="Dc Ry Rz Rr Ru Rv zi3 Rg RD ziL zim q_1 r_1 q_2 r_2 Rq zh2 zjB T5 zjt zhN ziO zh8 zga zjG ziA zik Ra zhB zhJ ziQ zfH zgV zgG q_n r_n zgA ziF zin zed zgc Rt zdM zgd zeB zgI Rf ziM zie ziS zjr ziv zfo zhL zgX zhk ziT zfp Rw Q5 zjM zio zi8 zjs zjI zhA zfu zgE zgp pU zfY zfi zfs zgs zi7 zhf zhC zjb zjh QG QF QD QC zhZ zhK ziD zia zhe zhq zhT zi5 zhj zgi zi4 zis sizeLine_eq Option.map_some Option.map_none List.getElem?_cons_zero List.getElem?_cons_succ List.set_cons_zero List.set_cons_succ List.map_cons List.map_nil List.length_cons List.length_nil List.length_map List.replicate List.cons_append List.nil_append List.append_nil reduceCtorEq if_true if_false reduceIte Bool.not_true Bool.not_false Nat.reduceSub Nat.reduceAdd Nat.reduceLeDiff Nat.reduceLT Int.reduceLT Int.reduceLE Int.reduceAdd Int.reduceSub Int.reduceMul Int.reduceNeg Int.reduceAbs Int.reduceEq Int.reducePow Int.reduceMod Int.reduceDiv Int.reduceToNat Nat.zero_le and_true true_and and_self or_true true_or Bool.false_eq_true decide_eq_true_eq decide_true decide_false Bool.not_eq_true' decide_eq_false_iff_not not_true_eq_false not_false_eq_true eq_self zgK zfe zd5 zfy zgU Option.getD_some ziP ziX ty_int ty_str zh3 zgP zgu zfU zhR zh6 TY zjC ziW ziG ziu zgt ziY List.isEmpty_cons List.isEmpty_nil Bool.true_eq_false Bool.and_self Bool.and_true Bool.true_and Bool.and_false Bool.false_and zeL zep zeV zdZ ze3 ziV W9 zha ziK zh9 zfr zft zg2 zet zjp zhw zgj zfG zjx zjD zhc zg9 Rx Q_ Tr Q0 Q7 Q6 Gq W3 Gp W2 zht ziZ zf6 JC CW zhG zfl zhQ zfW zix zjK zhh zfC zfQ Tp ZJ zjl Bool.true_or Bool.false_or Bool.or_true Bool.or_false at0 at1 at2 at3 vo s_end w_end zeP Q9 RB zhF ziH zjE zhW"
local macro_rules | `(tactic| z_go)=>do
 let l <-(wNs.splitOn " ").toArray.mapM fun n=> `(Lean.Parser.Tactic.simpLemma| $(Lean.mkIdent n.toName):term)
 `(tactic| try simp only[$l,*])
variable {M:Mm}
theorem zi0 (c:Nat):Nx [.val (.str ⟨#[c]⟩)] M=some (.v (.bl (!m7 c)),M):=by
 unfold Nx;z_go;rw[zfm]
theorem Vy (x:Str)(hx:x.length<=100000):E_ [.str x] M=some (.v (.bl (lH (cd x))),M):=by
 unfold E_ Mv;z_go;rw[show x.cps.toList=cd x from rfl];simp only[Ea,eq_0];have hl:(cd x).length<=100000:=by rw[<-Bc];exact hx
 by_cases h:cd x=[]
 ·simp only[h];z_go;rfl
 ·simp only[h];rw[U_ (fun c=>D.str ⟨#[c]⟩) (fun c=>D.bl (!m7 c)) (cd x) [] (fun c _=>zi0 c) (by rw[xaY];simp;omega)];z_go;rw[show((cd x).map fun c=>D.bl (!m7 c))=((cd x).map fun c=> !m7 c).map D.bl by rw[List.map_map];rfl,Uv];z_go;simp only[zeH];obtain⟨c,r,e⟩:=List.exists_cons_of_ne_nil h;unfold lH;cases hd:(cd x).all m7
  ·z_go
  ·z_go;rw[xab (show x.length<=16777216 by omega),show x.cps.toList=cd x from rfl];simp only[h,eq_0];rw[e,show gG (c::r) 0=some c by simp[gG,yw]]
   by_cases h0:(c::r)=[48]
   ·simp only[h0];z_go
   ·simp only[h0];z_go;simp only[eq_0,Nk,List.head?_cons,xcP,xb9];z_go
theorem zjk (x:Str)(hx:x.length<=10000):Fg [.str x] M=some (.v (.bl (good (cd x))),M):=by
 unfold Fg MF;z_go;rw[zhx];have hl:=Bc x
 by_cases h:(cd x).head? =some 45
 ·obtain⟨r,e⟩:∃r,cd x=45::r:=by
   cases hc:cd x with
   |nil=>rw[hc]at h;cases h
   |cons c r=>rw[hc]at h;simp at h;exact⟨r,by rw[h]⟩
  have hs:=zdx e;have hr:(Txt.slice x (some 1) none).length<=10000:=by
   rw[Bc,hs];rw[e]at hl
   simp at hl
   omega
  simp only[h];z_go;rw[xab (show x.length<=16777216 by omega)];z_go;simp only[Vn,Vy _ (show(Txt.slice x (some 1) none).length<=100000 by omega),hs];unfold good mD;rw[xab h];simp only[e,xc9]
  by_cases h2:45::r=[45,48]
  ·simp only[h2];z_go
  ·simp only[h2];z_go
 ·simp only[h];z_go;simp only[Vn,Vy _ (show x.length<=100000 by omega)];unfold good mD;rw[xah h]
  by_cases h2:cd x=[45,48]
  ·simp only[h2];z_go
  ·simp only[h2];z_go
def mG (x:Str):Bool:=good (cd x) && decide ((mD (cd x)).length<=20)
theorem g_num (x:Str)(hx:x.length<=10000):Fe [.str x] M=some (.v (.bl (mG x)),M):=by
 unfold Fe Mz mG;z_go;simp only[zjk x hx];z_go;rw[xab (show x.length<=16777216 by omega)];z_go;cases hg:good (cd x)
 ·z_go
 ·have hl:=zeW hg;have:=PyProof.Rows.len_lstripChars x (Str.ofString "-");z_go;rw[xab (by omega),hl];z_go;congr 4;rw[xaH];simp only[xaN];omega
noncomputable def tvw (x:Str):Bool:=decide (x="t") || decide (x="v") || decide (x="w")
def lf (x L:Str):Bool:=mG x || (tvw x && yu x L)
theorem zh1 {x:Str}:aK .isin (.str x) (.tup [.str "t",.str "v",.str "w"])=some (.bl (tvw x)):=by
 have q:∀y:Str,D.eq (.str y) (.str x)=decide (x=y):=fun y=>by
  simp only[D.eq];rw[xaH]
  simp
  exact eq_comm
 unfold aK gn wK tvw;simp only[D.flat,xbv,List.all_nil,xcL,xa6,xbH,List.any_nil,Bool.or_false,q,xba];rw[Bool.or_assoc]
theorem VB (x L:Str)(hx:x.length<=10000):Fd [.str x,.str L] M=some (.v (.bl (lf x L)),M):=by
 unfold Fd Mx lf;z_go;simp only[g_num x hx];cases mG x
 ·z_go;rw[zh1];cases tvw x
  ·z_go
  ·z_go
 ·z_go
theorem zjJ {x z c:Str}{env:E3.Env}{k:Nat}(he:env[k]? =some (.val (.str x)))(hx:x.length<=100000)(hz:z.length<=1000):xH c (mR (pQ (aj k) (mH z mJ))) env M=some (.ex c 0,M):=by
 rw[Rb,Q0,W3,Rg,he,RD,Rt,ZJ,xaY,xab (show x.length<=16777216 by omega),Gq,xaY];have e:(Str.empty ++ x).length=x.length:=by rw[xb4,show Str.empty.length=0 from rfl];omega
 rw[xab (by omega),Q6,xaY,xab (by rw[xb4];omega),Q7,xaY,xab (by rw[xb4];omega)];rfl
theorem ziR {x z c:Str}{env:E3.Env}{k:Nat}(he:env[k]? =some (.val (.str x)))(hx:(reprText x).length<=100000)(hz:z.length<=1000):xH c (mR (tL (aj k) (mH z mJ))) env M=some (.ex c 0,M):=by
 rw[Rb,Q0,W2,Rg,he,RD,Rt];have e:(Str.empty ++ reprText x).length=(reprText x).length:=by rw[xb4,show Str.empty.length=0 from rfl];omega
 rw[Gp,xaY,xab ⟨by omega,by omega⟩,Q6,xaY,xab (by rw[xb4];omega),Q7,xaY,xab (by rw[xb4];omega)];rfl
def sm (x:Str):Prop:=x.length<=9000/\∀c∈cd x,c<4294967296
theorem sm.rp {x:Str}(h:sm x):(reprText x).length<=100000:=by
 have:=StrLaws.reprText_len x (fun c hc=>h.2 c hc);have:=h.1;omega
noncomputable def NT:List (Str×(Str×Str×Nat)):=[("+","number","number",2),("-","number","number",2),("*","number","number",2),("least","number","number",2),("most","number","number",2),("<","truth","number",2),("=","truth","number",2),("not","truth","truth",1),("and","truth","truth",2),("or","truth","truth",2)]
noncomputable def fY (x:Str):Option (Str×Str×Nat):=(NT.find? fun p=>decide (p.1=x)).map (·.2)
noncomputable def nj (q:Str×Str×Nat):D:=.tup [.str q.1,.str q.2.1,.int q.2.2]
theorem zhg:BJ=NT.map fun p=>(p.1,nj p.2):=rfl
theorem yE {x:Str}:j4 BJ x=(fY x).map nj:=by
 rw[zhg];unfold j4 fY;rw[List.find?_map];show Option.map _ (Option.map _ (NT.find? fun p=>decide (p.1=x)))=_;cases NT.find? fun p=>decide (p.1=x)<;>rfl
theorem Pa {x:Str}{q:Str×Str×Nat}(h:fY x=some q):(x,q)∈NT:=by
 unfold fY at h;rw[xac]at h;obtain⟨p,hp,rfl⟩:=h;have h1:=List.find?_some hp;have h2:=List.mem_of_find?_eq_some hp;rw[<-xbQ h1];exact h2
theorem zhl:NT.all (fun p=>(decide (p.2.2.2=1) || decide (p.2.2.2=2)) && (!mG p.1 && (!tvw p.1 && decide (p.1.length<=5))))=true:=by x_go
theorem QB {x:Str}{q:Str×Str×Nat}(h:fY x=some q):(q.2.2=1\/q.2.2=2)/\mG x=false/\tvw x=false/\x.length<=5:=by
 have:=xa7.mp zhl _ (Pa h);simp only[xal,xbJ,xaN,xcO]at this;exact this
theorem Wr {x:Str}(h:mG x=true\/tvw x=true):fY x=none:=by
  cases hn:fY x with
  |none=>rfl
  |some d=>
    obtain⟨_,h1,h2,_⟩:=QB hn;rw[h1,h2]at h;rcases h with h |h<;>cases h
theorem zjQ {x L:Str}(h:lf x L=true):fY x=none:=by
 unfold lf at h;rw[xbJ,xal]at h;exact Wr (h.imp id (·.1))
noncomputable def pB (a:Str):Nat->List Str->Option (List Str)
 |0,ks=>some ks
 |_ + 1,[]=>none
 |n + 1,b::ks=>if b=a then pB a n ks else none
noncomputable def stepK (L x:Str) (ks:List Str):Option (List Str):=match fY x with
 |some q=>(pB q.2.1 q.2.2 ks).map (q.1:: ·)
 |none=>if lf x L=true then some ("number"::ks) else none
noncomputable def runK (L:Str):List Str->List Str->Option (List Str)
 | [],ks=>some ks
 |x::xs,ks=>(stepK L x ks).bind (runK L xs)
theorem Gv {L:Str}:∀{xs ys ks:List Str},runK L (xs ++ ys) ks=(runK L xs ks).bind (runK L ys)
  | [],_,_=>rfl
  |x::xs,ys,ks=>by
    rw[xaR,runK,runK]
    cases stepK L x ks with
    |none=>rfl
    |some k=>exact Gv
abbrev kc (ks:List Str):E3.Cl:=.lst (ks.map D.str).reverse
theorem JN {k:Nat}{d:D}{ds:List D}:w6 M k (d::ds).reverse (d::ds).reverse[(d::ds).reverse.length - 1]? =some (.v d,M.set k (.lst ds.reverse)):=by
 have e1:(d::ds).reverse[(d::ds).reverse.length - 1]? =some d:=by simp
 have e2:(d::ds).reverse.dropLast=ds.reverse:=by simp
 rw[e1,W9,e2]
theorem Tt {x:Str}{q:Str×Str×Nat}{i:Int}{ks:List Str}(hl:x.length<=5):Ou [.val (.str x),.val (.ref M.length),.val (nj q),.val (.int i)] (M ++ [kc ks])=match ks with
    | []=>some (.ex "NoExpr" 0,M ++ [kc []])
    |b::ks=>if b=q.2.1 then some (.nx [.val (.str x),.val (.ref M.length),.val (nj q),.val (.int i)],M ++ [kc ks]) else some (.ex "NoExpr" 0,M ++ [kc ks]):=by
  have mg:∀N:Mm,xH "NoExpr" (mR (pQ (aj 0) (mH " needs other words behind it" mJ))) [.val (.str x),.val (.ref M.length),.val (nj q),.val (.int i)] N=some (.ex "NoExpr" 0,N):=fun N=>zjJ (M:=N) (k:=0) rfl (show x.length<=100000 by omega) (by x_go);unfold Ou kc nj;unfold nj at mg
  cases ks with
  |nil=>
    z_go;rw[show([]:List D).reverse=[] from rfl];z_go;rw[mg];rfl
  |cons b ks=>
    z_go;rw[List.isEmpty_reverse];z_go;rw[JN];z_go
    by_cases h:b=q.2.1
    · simp only[h];z_go
    · simp only[h];z_go;rw[mg];rfl
theorem zi2 {x:Str}{q:Str×Str×Nat}(h:fY x=some q)(ks:List Str):(∃ks',pB q.2.1 q.2.2 ks=some ks'/\CG [.str x,.ref M.length] (M ++ [kc ks])=some (.v .non,M ++ [kc ks']))\/(pB q.2.1 q.2.2 ks=none/\∃ks',CG [.str x,.ref M.length] (M ++ [kc ks])=some (.x "NoExpr" 0,M ++ [kc ks'])):=by
  obtain⟨hn,_,_,hl⟩:=QB h;unfold CG M9;z_go;rw[yE,h];z_go;have i2:∀N:Mm,mapR N (aO (nj q) (.int 2))=some (.v (.int q.2.2),N):=fun N=>by
    unfold nj;z_go
  have w0:∀N:Mm,vw N (nj q)=nj q:=fun N=>rfl;simp only[w0,i2];z_go;rcases hn with hn |hn
  · rw[hn,JR (by omega),show((List.range ((1:Nat):Int).toNat).map fun(k:Nat)=>D.int (0 + k))=[.int 0] from rfl];z_go;rw[Tt hl]
    cases ks with
    |nil=>exact .inr ⟨rfl,[],rfl⟩
    |cons b ks=>
      dsimp only;unfold pB
      by_cases hb:b=q.2.1
      · rw[xab hb,xab hb];exact .inl ⟨ks,rfl,rfl⟩
      · rw[xah hb,xah hb];exact .inr ⟨rfl,ks,rfl⟩
  · rw[hn,JR (by omega),show((List.range ((2:Nat):Int).toNat).map fun(k:Nat)=>D.int (0 + k))=[.int 0,.int 1] from rfl];z_go;rw[Tt hl]
    cases ks with
    |nil=>exact .inr ⟨rfl,[],rfl⟩
    |cons b ks=>
      dsimp only;unfold pB
      by_cases hb:b=q.2.1
      · rw[xab hb,xab hb];z_go;rw[Tt hl]
        cases ks with
        |nil=>exact .inr ⟨rfl,[],rfl⟩
        |cons b ks=>
          dsimp only;unfold pB
          by_cases hb:b=q.2.1
          · rw[xab hb,xab hb];exact .inl ⟨ks,rfl,rfl⟩
          · rw[xah hb,xah hb];exact .inr ⟨rfl,ks,rfl⟩
      · rw[xah hb,xah hb];exact .inr ⟨rfl,ks,rfl⟩
theorem V_ {ks:List Str}{y:Str}:(ks.map D.str).reverse ++ [D.str y]=((y::ks).map D.str).reverse:=by rw[xaA,xaK]
theorem zeh {d0:D}{x L wt:Str}{ks:List Str}(hx:sm x)(hk:ks.length<1000):(∃ks',stepK L x ks=some ks'/\yx [.val d0,.val (.str L),.val (.str wt),.val (.ref M.length),.val (.str x)] (M ++ [kc ks])=some (.nx [.val d0,.val (.str L),.val (.str wt),.val (.ref M.length),.val (.str x)],M ++ [kc ks']))\/(stepK L x ks=none/\∃ks',yx [.val d0,.val (.str L),.val (.str wt),.val (.ref M.length),.val (.str x)] (M ++ [kc ks])=some (.ex "NoExpr" 0,M ++ [kc ks'])):=by
  have mg:=ziR (M:=M ++ [kc ks]) (c:="NoExpr") (z:=" may not stand here") (k:=4) (env:=[.val d0,.val (.str L),.val (.str wt),.val (.ref M.length),.val (.str x)]) rfl hx.rp (by x_go);unfold yx stepK
  cases hn:fY x with
  |some q=>
    have i0:∀N:Mm,mapR N (aO (nj q) (.int 0))=some (.v (.str q.1),N):=fun N=>by
      unfold nj;z_go
    have w0:∀N:Mm,vw N (nj q)=nj q:=fun N=>rfl;dsimp only;rcases zi2 (M:=M) hn ks with⟨ks',e1,e2⟩ |⟨e1,ks',e2⟩
    · have hk':ks'.length<=ks.length:=by
        have:∀(n:Nat) (ks ks':List Str),pB q.2.1 n ks=some ks'->ks'.length<=ks.length:=fun n=>by
          induction n with
          |zero=>intro ks ks' h;cases h;exact xag _
          |succ n ih=>
            intro ks ks' h
            cases ks with
            |nil=>cases h
            |cons b ks=>
              unfold pB at h;split at h
              · have:=ih ks ks' h;rw[xar];omega
              · cases h
        exact this _ _ _ e1
      refine .inl ⟨q.1::ks',by rw[e1];rfl,?_⟩;z_go;rw[yE,hn];simp only[xba,xcb];z_go;rw[e2];z_go;rw[yE,hn];z_go;simp only[w0,i0];unfold kc;z_go;rw[xaG,xao,xab (by omega),V_];z_go
    · refine .inr ⟨by rw[e1];rfl,ks',?_⟩;z_go;rw[yE,hn];simp only[xba,xcb];z_go;rw[e2];rfl
  |none=>
    dsimp only;cases hf:lf x L
    · refine .inr ⟨rfl,ks,?_⟩;z_go;rw[yE,hn];simp only[xc5,xcH];z_go;rw[VB x L (by have:=hx.1;omega),hf];z_go;rw[mg];rfl
    · refine .inl ⟨"number"::ks,rfl,?_⟩;z_go;rw[yE,hn];simp only[xc5,xcH];z_go;rw[VB x L (by have:=hx.1;omega),hf];unfold kc;z_go;rw[xaG,xao,xab (by omega),V_];z_go
theorem zcn {L x:Str}{ks ks':List Str}(h:stepK L x ks=some ks'):ks'.length<=ks.length + 1:=by
  have tk:∀(a:Str) (n:Nat) (ks ks':List Str),pB a n ks=some ks'->ks'.length<=ks.length:=fun a n=>by
    induction n with
    |zero=>intro ks ks' h;cases h;exact xag _
    |succ n ih=>
      intro ks ks' h
      cases ks with
      |nil=>cases h
      |cons b ks=>
        unfold pB at h;split at h
        · have:=ih ks ks' h;rw[xar];omega
        · cases h
  unfold stepK at h;split at h
  · rw[xac]at h;obtain⟨k1,h1,rfl⟩:=h;have:=tk _ _ _ _ h1;rw[xar];omega
  · split at h
    · cases h;rw[xar];omega
    · cases h
theorem RK {L:Str}:∀{xs ks ks':List Str},runK L xs ks=some ks'->ks'.length<=ks.length + xs.length
  | [],_,_,h=>by cases h;exact Nat.le_add_right _ _
  |x::xs,ks,ks',h=>by
    unfold runK at h;rw[xc3]at h;obtain⟨k1,h1,h2⟩:=h;have:=zcn h1;have:=RK h2;rw[xar];omega
theorem Ss:∀ys:List Str,D.deps (ys.map D.str)=0
 | []=>by simp[D.deps]
 |y::ys=>by simp[D.deps,D.dep,Ss ys]
theorem Zu:∀(as bs:List Str),D.eqs (as.map D.str) (bs.map D.str)=decide (as=bs)
  | [],[]=>by simp[D.eqs]
  | [],b::bs=>by simp[D.eqs]
  |a::as,[]=>by simp[D.eqs]
  |a::as,b::bs=>by
    simp only[xaA,D.eqs,D.eq,Zu as bs];rw[xaH]
    simp
theorem zhd {as bs:List Str}:aK .ne (.lst (as.map D.str)) (.lst (bs.map D.str))=some (.bl (!decide (as=bs))):=by
 unfold aK gn wL;rw[xab ⟨by simp[gU,D.flat,D.dep,Ss],by simp[D.dep,Ss]⟩];simp only[D.eq,Zu,xba]
theorem ziq {ks:List Str}{wt:Str}:aK .ne (.lst (ks.map D.str).reverse) (.lst [.str wt])=some (.bl (!decide (ks=[wt]))):=by
 rw[<-xco,show [D.str wt]=[wt].map D.str from rfl,zhd];have:(ks.reverse=[wt])=(ks=[wt]):=propext ⟨fun h=>by rw[<-List.reverse_reverse ks,h];rfl,fun h=>by rw[h];rfl⟩;simp only[this]
def Ua (M:Mm)(d0:D)(L wt:Str)(ws:List Str)(o:E3.OS):Prop:=(∃ks s4,o=some (.nx [.val d0,.val (.str L),.val (.str wt),.val (.ref M.length),s4],M ++ [kc ks])/\runK L ws.reverse []=some ks)\/(runK L ws.reverse []=none/\∃ks,o=some (.ex "NoExpr" 0,M ++ [kc ks]))
theorem take_snoc {ws:List Str}{k:Nat}{x:Str}(h:ws[k]? =some x):ws.take (k + 1)=ws.take k ++ [x]:=by
 rw[List.take_add_one,h];rfl
theorem zdJ {d0:D}{L wt:Str}{ws:List Str}(hs:∀x∈ws,sm x)(hl:ws.length<=900):Ua M d0 L wt ws (loopS 4 yx (ws.map D.str).reverse [.val d0,.val (.str L),.val (.str wt),.val (.ref M.length),.un] (M ++ [kc []])):=by
 refine Ju (Ua M _ L wt ws) (fun k env N=>∃ks s4,env=[.val d0,.val (.str L),.val (.str wt),.val (.ref M.length),s4]/\N=M ++ [kc ks]/\runK L (ws.reverse.take k) []=some ks) ⟨[],.un,rfl,rfl,by rw[List.take_zero];rfl⟩ ?_ ?_
 ·rintro k d env N hd ⟨ks,s4,rfl,rfl,hk⟩;rw[<-xco,xam,xac]at hd;obtain⟨x,hx,rfl⟩:=hd;refine⟨by show 4<5;decide,?_⟩;have hlen:=RK hk;have hkl:(ws.reverse.take k).length<=ws.length:=by rw[xbZ,xaG];exact Nat.min_le_right _ _
  rw[List.length_nil]at hlen;show Step _ _ (yx [.val d0,.val (.str L),.val (.str wt),.val (.ref M.length),.val (.str x)] (M ++ [kc ks]));rcases zeh (M:=M) (d0:=d0) (L:=L) (wt:=wt) (ks:=ks) (hs x (by have:=xax hx;simpa using this)) (by omega) with⟨ks',e1,e2⟩ |⟨e1,ks',e2⟩
  ·rw[e2];refine⟨ks',_,rfl,rfl,?_⟩;rw[take_snoc hx,Gv,hk];show(stepK L x ks).bind _=_;rw[e1];rfl
  ·rw[e2];refine .inr ⟨?_,ks',rfl⟩;have:ws.reverse=ws.reverse.take k ++ x::ws.reverse.drop (k + 1):=by
    have hlt:=(xak.mp hx).1;have hxe:=(xak.mp hx).2;rw[<-hxe, <-xbz hlt,xda]
   rw[this,Gv,hk];show(stepK L x ks).bind _=_;rw[e1];rfl
 ·rintro env N ⟨ks,s4,rfl,rfl,hk⟩;rw[xaG,xao, <-xaG,List.take_length]at hk;exact .inl ⟨ks,s4,rfl,hk⟩
theorem U3 {L wt:Str}{ws:List Str}(hs:∀x∈ws,sm x)(hl:ws.length<=900):(runK L ws.reverse []=some [wt]/\yr [.tup (ws.map D.str),.str L,.str wt] M=some (.v .non,M ++ [kc [wt]]))\/(runK L ws.reverse []≠some [wt]/\∃ks,yr [.tup (ws.map D.str),.str L,.str wt] M=some (.x "NoExpr" 0,M ++ [kc ks])):=by
 have lp:=zdJ (M:=M) (d0:=.tup (ws.map D.str)) (L:=L) (wt:=wt) hs hl;unfold yr Ms;z_go;have e0:loopS 4 yx (ws.map D.str).reverse [.val (.tup (ws.map D.str)),.val (.str L),.val (.str wt),.val (.ref M.length),.un] (M ++ [.lst []])=loopS 4 yx (ws.map D.str).reverse [.val (.tup (ws.map D.str)),.val (.str L),.val (.str wt),.val (.ref M.length),.un] (M ++ [kc []]):=rfl;rw[e0];rcases lp with⟨ks,s4,e,hk⟩ |⟨hk,ks,e⟩
 ·rw[e];unfold kc;z_go;rw[ziq]
  by_cases h:ks=[wt]
  ·subst h;refine .inl ⟨hk,?_⟩;z_go
  ·refine .inr ⟨fun z=>h (by rw[hk]at z;exact xau z),ks,?_⟩;simp only[h];z_go;rw[Rb];z_go
 ·rw[e];refine .inr ⟨by rw[hk];exact nofun,ks,rfl⟩
theorem zhI {ws:List Str}:Eo [.ref M.length,.tup (ws.map D.str)] (M ++ [.obj "Expr" []])=some (.v .non,M ++ [.obj "Expr" [("parts",.tup (ws.map D.str))]]):=by
 unfold Eo Hv;z_go;rw[sX (k:=M.length) (fs:=[]) (M1:=M ++ [.obj "Expr" []]) (M2:=M ++ [.obj "Expr" []]) (x:=.tup (ws.map D.str)) ?_ ?_ vo (by decide),s_end]
 ·rfl
 ·z_go;rfl
 ·z_go
theorem zfL {ws:List Str}:En [.ref M.length,.tup (ws.map D.str)] (M ++ [.obj "Cond" []])=some (.v .non,M ++ [.obj "Cond" [("parts",.tup (ws.map D.str))]]):=by
 unfold En Ht;z_go;rw[sX (k:=M.length) (fs:=[]) (M1:=M ++ [.obj "Cond" []]) (M2:=M ++ [.obj "Cond" []]) (x:=.tup (ws.map D.str)) ?_ ?_ vo (by decide),s_end]
 ·rfl
 ·z_go;rfl
 ·z_go
def Vk (k:Str)(d:D)(m:Nat):Prop:=(k="number"/\∃i:Int,d=.int i/\i.natAbs<2 ^ (210 * m))\/(k="truth"/\∃b,d=.bl b)
inductive TyS:List Str->List D->Nat->Prop
 |nil:TyS [] [] 0
 |cons {k:Str} {d:D} {ks:List Str} {ds:List D} {m n:Nat}:Vk k d m->TyS ks ds n->TyS (k::ks) (d::ds) (m + n)
noncomputable def mY (x:Str) (a b:D):D:=match a,b with
 |.int i,.int j=>if x="+" then .int (i + j) else if x="-" then .int (i - j) else if x="*" then .int (i * j) else if x="least" then .int (if j<i then j else i) else if x="most" then .int (if j > i then j else i) else if x="<" then .bl (decide (i<j)) else .bl (decide (i=j))
 |.bl p,.bl q=>if x="and" then .bl (p && q) else .bl (p || q)
 |_,_=>.non
theorem Wi {n m:Nat}(hm:m<=47)(h:n<2 ^ (210 * m)):n.log2<10000:=by
 by_cases h0:n=0
 ·rw[h0];decide
 ·have:=(Nat.log2_lt h0).mpr h;omega
theorem C_ {n a b:Nat}(h:n<2 ^ (210 * a))(hab:a<=b):n<2 ^ (210 * b):=xad h (xb2 (by decide) (by omega))
theorem zgL {i j:Int}{a b:Nat}(hi:i.natAbs<2 ^ (210 * a))(hj:j.natAbs<2 ^ (210 * b)):(i + j).natAbs<2 ^ (210 * (a + b + 1))/\(i - j).natAbs<2 ^ (210 * (a + b + 1))/\(i * j).natAbs<2 ^ (210 * (a + b + 1)):=by
 have h1:=C_ hi (Nat.le_add_right a b);have h2:=C_ hj (Nat.le_add_left b a);have h3:2 ^ (210 * (a + b)) + 2 ^ (210 * (a + b))<=2 ^ (210 * (a + b + 1)):=by
  rw[<-Nat.two_mul, <-Nat.pow_succ'];exact xb2 (by decide) (by omega)
 refine⟨by omega,by omega,?_⟩;rw[Int.natAbs_mul];have h4:i.natAbs * j.natAbs<2 ^ (210 * a) * 2 ^ (210 * b):=Nat.mul_lt_mul_of_lt_of_le hi (xca hj) (Nat.pos_of_ne_zero (by intro z;rw[z]at hj;exact absurd hj (xc4 _)));rw[<-Nat.pow_add,show 210 * a + 210 * b=210 * (a + b) by omega]at h4;exact xad h4 (xb2 (by decide) (by omega))
theorem Ws {x:Str}{q:Str×Str×Nat}(h:fY x=some q)(h2:q.2.2=2):(x="+"\/x="-"\/x="*"\/x="least"\/x="most")/\q.1="number"/\q.2.1="number"\/(x="<"\/x="=")/\q.1="truth"/\q.2.1="number"\/(x="and"\/x="or")/\q.1="truth"/\q.2.1="truth":=by
 have:=Pa h;unfold NT at this;simp only[xaI,xc2,or_false,xde]at this;rcases this with⟨rfl,rfl⟩ |⟨rfl,rfl⟩ |⟨rfl,rfl⟩ |⟨rfl,rfl⟩ |⟨rfl,rfl⟩ |⟨rfl,rfl⟩ |⟨rfl,rfl⟩ |⟨rfl,rfl⟩ |⟨rfl,rfl⟩ |⟨rfl,rfl⟩
 ·exact .inl ⟨.inl rfl,rfl,rfl⟩
 ·exact .inl ⟨.inr (.inl rfl),rfl,rfl⟩
 ·exact .inl ⟨.inr (.inr (.inl rfl)),rfl,rfl⟩
 ·exact .inl ⟨.inr (.inr (.inr (.inl rfl))),rfl,rfl⟩
 ·exact .inl ⟨.inr (.inr (.inr (.inr rfl))),rfl,rfl⟩
 ·exact .inr (.inl ⟨.inl rfl,rfl,rfl⟩)
 ·exact .inr (.inl ⟨.inr rfl,rfl,rfl⟩)
 ·cases h2
 ·exact .inr (.inr ⟨.inl rfl,rfl,rfl⟩)
 ·exact .inr (.inr ⟨.inr rfl,rfl,rfl⟩)
theorem zhX {x:Str}{q:Str×Str×Nat}(h:fY x=some q)(h1:q.2.2=1):x="not"/\q.1="truth"/\q.2.1="truth":=by
 have:=Pa h;unfold NT at this;simp only[xaI,xc2,or_false,xde]at this;rcases this with⟨rfl,rfl⟩ |⟨rfl,rfl⟩ |⟨rfl,rfl⟩ |⟨rfl,rfl⟩ |⟨rfl,rfl⟩ |⟨rfl,rfl⟩ |⟨rfl,rfl⟩ |⟨rfl,rfl⟩ |⟨rfl,rfl⟩ |⟨rfl,rfl⟩<;>first |(cases h1;done) |exact⟨rfl,rfl,rfl⟩
theorem zii {x:Str}{q:Str×Str×Nat}{a b:D}{m n:Nat}(h:fY x=some q)(h2:q.2.2=2)(ha:Vk q.2.1 a m)(hb:Vk q.2.1 b n):Vk q.1 (mY x a b) (m + n + 1):=by
 have nt:¬ (("number":Str)="truth"):=by x_go
 have tn:¬ (("truth":Str)="number"):=by x_go
 rcases Ws h h2 with⟨hx,e1,e2⟩ |⟨hx,e1,e2⟩ |⟨hx,e1,e2⟩
 ·rw[e2]at ha hb;rcases ha with⟨_,i,rfl,hi⟩ |⟨z,_⟩
  ·rcases hb with⟨_,j,rfl,hj⟩ |⟨z,_⟩
   ·obtain⟨p1,p2,p3⟩:=zgL hi hj;rw[e1];refine .inl ⟨rfl,?_⟩;have dd:∀{a b:Str},decide (a=b)=false->¬ a=b:=fun h=>xdw h;unfold mY;dsimp only;rcases hx with rfl |rfl |rfl |rfl |rfl
    ·rw[xab rfl];exact⟨_,rfl,p1⟩
    ·rw[xah (dd (by x_go)),xab rfl];exact⟨_,rfl,p2⟩
    ·rw[xah (dd (by x_go)),xah (dd (by x_go)),xab rfl];exact⟨_,rfl,p3⟩
    ·rw[xah (dd (by x_go)),xah (dd (by x_go)),xah (dd (by x_go)),xab rfl];refine⟨_,rfl,?_⟩
     split
     ·exact C_ hj (by omega)
     ·exact C_ hi (by omega)
    ·rw[xah (dd (by x_go)),xah (dd (by x_go)),xah (dd (by x_go)),xah (dd (by x_go)),xab rfl];refine⟨_,rfl,?_⟩
     split
     ·exact C_ hj (by omega)
     ·exact C_ hi (by omega)
   ·exact absurd z nt
  ·exact absurd z nt
 ·rw[e2]at ha hb;rcases ha with⟨_,i,rfl,hi⟩ |⟨z,_⟩
  ·rcases hb with⟨_,j,rfl,hj⟩ |⟨z,_⟩
   ·rw[e1];refine .inr ⟨rfl,?_⟩;unfold mY;dsimp only;have d1:¬ (x="+"):=by rcases hx with rfl |rfl<;>decide +kernel
    have d2:¬ (x="-"):=by rcases hx with rfl |rfl<;>decide +kernel
    have d3:¬ (x="*"):=by rcases hx with rfl |rfl<;>decide +kernel
    have d4:¬ (x="least"):=by rcases hx with rfl |rfl<;>decide +kernel
    have d5:¬ (x="most"):=by rcases hx with rfl |rfl<;>decide +kernel
    rw[xah d1,xah d2,xah d3,xah d4,xah d5]
    split<;>exact⟨_,rfl⟩
   ·exact absurd z nt
  ·exact absurd z nt
 ·rw[e2]at ha hb;rcases ha with⟨z,_⟩ |⟨_,p,rfl⟩
  ·exact absurd z tn
  ·rcases hb with⟨z,_⟩ |⟨_,p',rfl⟩
   ·exact absurd z tn
   ·rw[e1];refine .inr ⟨rfl,?_⟩;unfold mY;dsimp only
    split<;>exact⟨_,rfl⟩
theorem eG {a b:Str}(h:decide (a=b)=false):(a=b)=False:=xdz (xdw h)
theorem nq0:(Str.ofString "-"=Str.ofString "+")=False:=eG (by x_go)
theorem nq1:(Str.ofString "*"=Str.ofString "+")=False:=eG (by x_go)
theorem nq2:(Str.ofString "*"=Str.ofString "-")=False:=eG (by x_go)
theorem nq3:(Str.ofString "least"=Str.ofString "+")=False:=eG (by x_go)
theorem nq4:(Str.ofString "least"=Str.ofString "-")=False:=eG (by x_go)
theorem nq5:(Str.ofString "least"=Str.ofString "*")=False:=eG (by x_go)
theorem nq6:(Str.ofString "most"=Str.ofString "+")=False:=eG (by x_go)
theorem nq7:(Str.ofString "most"=Str.ofString "-")=False:=eG (by x_go)
theorem nq8:(Str.ofString "most"=Str.ofString "*")=False:=eG (by x_go)
theorem nq9:(Str.ofString "most"=Str.ofString "least")=False:=eG (by x_go)
theorem Ph:(Str.ofString "<"=Str.ofString "+")=False:=eG (by x_go)
theorem Pj:(Str.ofString "<"=Str.ofString "-")=False:=eG (by x_go)
theorem Pk:(Str.ofString "<"=Str.ofString "*")=False:=eG (by x_go)
theorem Pn:(Str.ofString "<"=Str.ofString "least")=False:=eG (by x_go)
theorem Pq:(Str.ofString "<"=Str.ofString "most")=False:=eG (by x_go)
theorem Pr:(Str.ofString "="=Str.ofString "+")=False:=eG (by x_go)
theorem Pu:(Str.ofString "="=Str.ofString "-")=False:=eG (by x_go)
theorem Px:(Str.ofString "="=Str.ofString "*")=False:=eG (by x_go)
theorem Py:(Str.ofString "="=Str.ofString "least")=False:=eG (by x_go)
theorem Pz:(Str.ofString "="=Str.ofString "most")=False:=eG (by x_go)
theorem PB:(Str.ofString "="=Str.ofString "<")=False:=eG (by x_go)
theorem PK:(Str.ofString "and"=Str.ofString "+")=False:=eG (by x_go)
theorem PL:(Str.ofString "and"=Str.ofString "-")=False:=eG (by x_go)
theorem PN:(Str.ofString "and"=Str.ofString "*")=False:=eG (by x_go)
theorem P_:(Str.ofString "and"=Str.ofString "least")=False:=eG (by x_go)
theorem Qa:(Str.ofString "and"=Str.ofString "most")=False:=eG (by x_go)
theorem Qc:(Str.ofString "and"=Str.ofString "<")=False:=eG (by x_go)
theorem Qd:(Str.ofString "and"=Str.ofString "=")=False:=eG (by x_go)
theorem Qe:(Str.ofString "or"=Str.ofString "+")=False:=eG (by x_go)
theorem Qf:(Str.ofString "or"=Str.ofString "-")=False:=eG (by x_go)
theorem Qg:(Str.ofString "or"=Str.ofString "*")=False:=eG (by x_go)
theorem Qh:(Str.ofString "or"=Str.ofString "least")=False:=eG (by x_go)
theorem Qi:(Str.ofString "or"=Str.ofString "most")=False:=eG (by x_go)
theorem Qj:(Str.ofString "or"=Str.ofString "<")=False:=eG (by x_go)
theorem Qk:(Str.ofString "or"=Str.ofString "=")=False:=eG (by x_go)
theorem Ql:(Str.ofString "or"=Str.ofString "and")=False:=eG (by x_go)
theorem Qm:(Str.ofString "<"=Str.ofString "and")=False:=eG (by x_go)
theorem Qn:(Str.ofString "<"=Str.ofString "or")=False:=eG (by x_go)
theorem Qo:(Str.ofString "="=Str.ofString "and")=False:=eG (by x_go)
theorem Qp:(Str.ofString "="=Str.ofString "or")=False:=eG (by x_go)
theorem Qq:(Str.ofString "+"=Str.ofString "not")=False:=eG (by x_go)
theorem Qs:(Str.ofString "-"=Str.ofString "not")=False:=eG (by x_go)
theorem Qt:(Str.ofString "*"=Str.ofString "not")=False:=eG (by x_go)
theorem Qu:(Str.ofString "least"=Str.ofString "not")=False:=eG (by x_go)
theorem Qv:(Str.ofString "most"=Str.ofString "not")=False:=eG (by x_go)
theorem Qw:(Str.ofString "<"=Str.ofString "not")=False:=eG (by x_go)
theorem Qx:(Str.ofString "="=Str.ofString "not")=False:=eG (by x_go)
theorem Qy:(Str.ofString "and"=Str.ofString "not")=False:=eG (by x_go)
theorem Qz:(Str.ofString "or"=Str.ofString "not")=False:=eG (by x_go)
local macro_rules | `(tactic| walk_at "ops")=> `(tactic| try simp only[nq0,nq1,nq2,nq3,nq4,nq5,nq6,nq7,nq8,nq9,Ph,Pj,Pk,Pn,Pq,Pr,Pu,Px,Py,Pz,PB,PK,PL,PN,P_,Qa,Qc,Qd,Qe,Qf,Qg,Qh,Qi,Qj,Qk,Ql,Qm,Qn,Qo,Qp,Qq,Qs,Qt,Qu,Qv,Qw,Qx,Qy,Qz])
theorem zic {x:Str}{q:Str×Str×Nat}{a b:D}{m n:Nat}(h:fY x=some q)(h2:q.2.2=2)(ha:Vk q.2.1 a m)(hb:Vk q.2.1 b n)(hm:m<=47)(hn:n<=47):Ez [.str x,a,b] M=some (.v (mY x a b),M):=by
 have nt:¬ (("number":Str)="truth"):=by x_go
 have tn:¬ (("truth":Str)="number"):=by x_go
 unfold Ez Mt;rcases Ws h h2 with⟨hx,e1,e2⟩ |⟨hx,e1,e2⟩ |⟨hx,e1,e2⟩
 ·rw[e2]at ha hb;rcases ha with⟨_,i,rfl,hi⟩ |⟨z,_⟩
  ·rcases hb with⟨_,j,rfl,hj⟩ |⟨z,_⟩
   ·have li:=Wi hm hi;have lj:=Wi hn hj;unfold mY;dsimp only;rcases hx with rfl |rfl |rfl |rfl |rfl
    all_goals
     iterate 5 (z_go;walk_at "ops")
     try rw[xab (.inr (.inr ⟨li,lj⟩))]
     try z_go
   ·exact absurd z nt
  ·exact absurd z nt
 ·rw[e2]at ha hb;rcases ha with⟨_,i,rfl,hi⟩ |⟨z,_⟩
  ·rcases hb with⟨_,j,rfl,hj⟩ |⟨z,_⟩
   ·unfold mY;dsimp only;rcases hx with rfl |rfl
    all_goals
     iterate 9 (z_go;walk_at "ops")
     try z_go
   ·exact absurd z nt
  ·exact absurd z nt
 ·rw[e2]at ha hb;rcases ha with⟨z,_⟩ |⟨_,p,rfl⟩
  ·exact absurd z tn
  ·rcases hb with⟨z,_⟩ |⟨_,p',rfl⟩
   ·exact absurd z tn
   ·unfold mY;dsimp only;rcases hx with rfl |rfl
    all_goals
     iterate 9 (z_go;walk_at "ops")
     cases p<;>cases p'
     all_goals (try z_go;try rfl)
theorem Vl:∀(cs:List Nat) (acc:Nat),NumText.AllDigits cs->cs.foldl (fun acc c=>acc * 10 + (c - 48)) acc<(acc + 1) * 10 ^ cs.length
  | [],acc,_=>by simp
  |c::cs,acc,h=>by
    have hc:=h c xaF;have:=Vl cs (acc * 10 + (c - 48)) fun d hd=>h d (xap _ hd);rw[xb8,xar,Nat.pow_succ];refine xad this ?_;rw[Nat.mul_comm (10 ^ cs.length) 10, <-Nat.mul_assoc];exact Nat.mul_le_mul_right _ (by omega)
theorem zjj (cs:List Nat)(h:NumText.AllDigits cs):NumText.digitsVal cs<10 ^ cs.length:=by
 have:=Vl cs 0 h;rw[Nat.zero_add,Nat.one_mul]at this;exact this
noncomputable def BL (x:Str) (t v o:D):D:=if x="t" then t else if x="v" then v else if x="w" then o else .int (Hg (cd x))
theorem Jp {x:Str}(h:mG x=true):x.length<=600/\lH (mD (cd x))=true/\(mD (cd x)).length<=20:=by
 unfold mG good at h;simp only[xal,xaN]at h;refine⟨?_,h.1.2,h.2⟩;have:=h.2;rw[Bc];unfold mD at this;split at this
 ·rw[List.length_tail]at this;omega
 ·omega
theorem Oc {x:Str}{t v o:D}(h:mG x=true\/tvw x=true):Fj [.str x,t,v,o] M=some (.v (BL x t v o),M):=by
 unfold Fj MK BL;z_go
 by_cases h1:x="t"
 ·simp only[h1];z_go
 ·simp only[h1];z_go
  by_cases h2:x="v"
  ·simp only[h2];z_go
  ·simp only[h2];z_go
   by_cases h3:x="w"
   ·simp only[h3];z_go
   ·simp only[h3];z_go;have hh:mG x=true:=by
     rcases h with h |h
     ·exact h
     ·unfold tvw at h
      simp[h1,h2,h3]at h
    obtain⟨hl,hf,_⟩:=Jp hh;rw[xab (show x.length<=640 by omega),VJ hf hl];z_go
def Sn (d:D):Prop:=∃i:Int,d=.int i/\i.natAbs<2 ^ 210
theorem Sn.vk {d:D}(h:Sn d):Vk "number" d 1:=by
 obtain⟨i,rfl,hi⟩:=h;exact .inl ⟨rfl,i,rfl,hi⟩
theorem zh7 {x:Str}{t v o:D}(h:mG x=true\/tvw x=true)(ht:Sn t)(hv:Sn v)(ho:Sn o):Sn (BL x t v o):=by
 unfold BL
 by_cases h1:x="t"
 ·rw[xab h1];exact ht
 ·rw[xah h1]
  by_cases h2:x="v"
  ·rw[xab h2];exact hv
  ·rw[xah h2]
   by_cases h3:x="w"
   ·rw[xab h3];exact ho
   ·rw[xah h3];have hh:mG x=true:=by
     rcases h with h |h
     ·exact h
     ·unfold tvw at h
      simp[h1,h2,h3]at h
    obtain⟨_,hf,hl⟩:=Jp hh;obtain⟨_,hd,_⟩:=NP hf;have b:=zjj _ hd;have b2:10 ^ (mD (cd x)).length<=10 ^ 20:=xb2 (by decide) hl;have b3:(10:Nat) ^ 20<2 ^ 210:=by x_go
    refine⟨_,rfl,?_⟩;unfold Hg;unfold mD at b b2
    split
    ·rename_i hh;rw[xab hh]at b b2;omega
    ·rename_i hh;rw[xah hh]at b b2;omega
noncomputable def stepV (t v o:D) (x:Str) (rs:List D):List D:=match fY x with
  | some q => if q.2.2 = 2 then (match rs with
    |a::b::r=>mY x a b::r
    | _ => []) else (match rs with
    |.bl p::r=>.bl (!p)::r
    |_=>[])
  |none=>BL x t v o::rs
noncomputable def fD (t v o:D):List Str->List D->List D
 | [],rs=>rs
 |x::xs,rs=>fD t v o xs (stepV t v o x rs)
theorem Xg {t v o:D}:∀{xs ys:List Str} {rs:List D},fD t v o (xs ++ ys) rs=fD t v o ys (fD t v o xs rs)
 | [],_,_=>rfl
 |_::xs,_,_=>Xg (xs:=xs)
theorem Zw {L x:Str}{ks ks':List Str}{rs:List D}{n:Nat}(h:stepK L x ks=some ks')(ty:TyS ks rs n):
    (∃q a b r m m',fY x=some q/\q.2.2=2/\rs=a::b::r/\Vk q.2.1 a m/\Vk q.2.1 b m'/\m<=n/\m'<=n/\∃ks'' n'',ks'=q.1::ks''/\TyS ks'' r n''/\m + m' + n''=n)\/(x="not"/\∃p r,rs=.bl p::r/\∃ks'' n'' m,ks'=("truth":Str)::ks''/\TyS ks'' r n''/\m + n''=n)\/(fY x=none/\lf x L=true/\ks'=("number":Str)::ks):=by
  unfold stepK at h
  cases hn:fY x with
  |none=>
    rw[hn]at h;dsimp only at h;split at h
    · rename_i hf;cases h;exact .inr (.inr ⟨rfl,hf,rfl⟩)
    · cases h
  |some q=>
    rw[hn]at h;dsimp only at h;rw[xac]at h;obtain⟨k1,h1,rfl⟩:=h;rcases(QB hn).1 with e |e
    · obtain⟨hx,e1,e2⟩:=zhX hn e;rw[e]at h1
      cases ty with
      |nil=>cases h1
      |cons vk ty'=>
        rename_i k d ks0 ds0 m n0;simp only[pB]at h1;split at h1
        · rename_i hk;cases h1;rw[hk,e2]at vk;rcases vk with⟨z,_⟩ |⟨_,p,rfl⟩
          · exact absurd z (by x_go)
          · exact .inr (.inl ⟨hx,p,_,rfl,_,_,_,by rw[e1],ty',rfl⟩)
        · cases h1
    · rw[e]at h1
      cases ty with
      |nil=>cases h1
      |cons vk ty'=>
        rename_i k d ks0 ds0 m n0;simp only[pB]at h1;split at h1
        · rename_i hk
          cases ty' with
          |nil=>cases h1
          |cons vk2 ty2=>
            rename_i k' d' ks2 ds2 m' n2;simp only[pB]at h1;split at h1
            · rename_i hk2;cases h1;exact .inl ⟨q,_,_,_,m,m',rfl,e,rfl,hk ▸ vk,hk2 ▸ vk2,by omega,by omega,_,n2,rfl,ty2,by omega⟩
            · cases h1
        · cases h1
theorem Jz:fY "not"=some (Str.ofString "truth",Str.ofString "truth",1):=by x_go
theorem zez {L x:Str}{ks ks':List Str}{rs:List D}{n:Nat}{t v o:D}(h:stepK L x ks=some ks')(ty:TyS ks rs n)(ht:Sn t)(hv:Sn v)(ho:Sn o):∃n',TyS ks' (stepV t v o x rs) n'/\n'<=n + 1:=by
 unfold stepV;rcases Zw h ty with⟨q,a,b,r,m,m',hn,h2,rfl,va,vb,_,_,ks2,n2,rfl,ty2,hs⟩ |⟨rfl,p,r,rfl,ks2,n2,m,rfl,ty2,hs⟩ |⟨hn,hf,rfl⟩
 ·rw[hn];dsimp only;rw[xab h2];exact⟨_,.cons (zii hn h2 va vb) ty2,by omega⟩
 ·rw[Jz];exact⟨0 + n2,.cons (.inr ⟨rfl,_,rfl⟩) ty2,by omega⟩
 ·rw[hn];refine⟨1 + n,.cons (zh7 ?_ ht hv ho).vk ty,by omega⟩;unfold lf at hf;rw[xbJ,xal]at hf;exact hf.imp id (·.1)
theorem RM {rs:List D}{y:D}:rs.reverse ++ [y]=(y::rs).reverse:=by rw[xaK]
theorem zja {x L:Str}(hf:lf x L=true):mG x=true\/tvw x=true:=by
 unfold lf at hf;rw[xbJ,xal]at hf;exact hf.imp id (·.1)
theorem zeb {L x:Str}{ks ks':List Str}{rs:List D}{n:Nat}{w0 t v o:D}{s6 s7:E3.Slot}(h:stepK L x ks=some ks')(ty:TyS ks rs n)(hn:n<=46)(hr:rs.length<=1000):∃t6 t7,FN [.val w0,.val t,.val v,.val o,.val (.ref M.length),.val (.str x),s6,s7] (M ++ [.lst rs.reverse])=some (.nx [.val w0,.val t,.val v,.val o,.val (.ref M.length),.val (.str x),t6,t7],M ++ [.lst (stepV t v o x rs).reverse]):=by
 unfold FN stepV;rcases Zw h ty with⟨q,a,b,r,m,m',hq,h2,rfl,va,vb,hm,hm',_⟩ |⟨rfl,p,r,rfl,_⟩ |⟨hq,hf,_⟩
 ·refine⟨.val a,.val b,?_⟩;have nx:(x=Str.ofString "not")=False:=xdz fun z=>by
   rw[z,Jz]at hq;cases hq;cases h2
  rw[hq];dsimp only;rw[xab h2];z_go;simp only[nx];z_go;rw[yE,hq];simp only[xba,xcb];z_go;rw[JN];z_go;rw[JN];z_go;rw[zic hq h2 va vb (by omega) (by omega)];z_go;rw[xaG,xab (by simp only[xar]at hr;omega),RM];z_go
 ·refine⟨s6,s7,?_⟩;rw[Jz];dsimp only;z_go;rw[JN];z_go;rw[xaG,xab (by simp only[xar]at hr;omega),RM];z_go;rfl
 ·refine⟨s6,s7,?_⟩;have nx:(x=Str.ofString "not")=False:=xdz fun z=>by
   rw[z,Jz]at hq;cases hq
  rw[hq];dsimp only;z_go;simp only[nx];z_go;rw[yE,hq];simp only[xc5,xcH];z_go;rw[Oc (zja hf)];z_go;rw[xaG,xab (by omega),RM];z_go
theorem TyS.len {ks:List Str}{rs:List D}{n:Nat}(h:TyS ks rs n):rs.length=ks.length:=by
 induction h with
 |nil=>rfl
 |cons _ _ ih=>rw[xar,xar,ih]
theorem RL {L:Str}{t v o:D}(ht:Sn t)(hv:Sn v)(ho:Sn o):∀{xs ks ks':List Str} {rs:List D} {n:Nat},runK L xs ks=some ks'->TyS ks rs n->∃n',TyS ks' (fD t v o xs rs) n'/\n'<=n + xs.length
  | [],_,_,_,n,h,ty=>by cases h;exact⟨n,ty,xag _⟩
  |x::xs,ks,ks',rs,n,h,ty=>by
    unfold runK at h;rw[xc3]at h;obtain⟨k1,h1,h2⟩:=h;obtain⟨n1,ty1,hn1⟩:=zez h1 ty ht hv ho;obtain⟨n2,ty2,hn2⟩:=RL ht hv ho h2 ty1;exact⟨n2,ty2,by rw[xar];omega⟩
theorem ze0 {L:Str}{xs:List Str}{k:Nat}{ks:List Str}(h:runK L xs []=some ks):∃k1,runK L (xs.take k) []=some k1:=by
 rw[<-xda k xs,Gv]at h
 cases e:runK L (xs.take k) [] with
 |none=>rw[e]at h;cases h
 |some k1=>exact⟨k1,rfl⟩
theorem zg6 {L:Str}{xs:List Str}{k:Nat}{x:Str}{k1 ks:List Str}(h:runK L xs []=some ks)(hk:runK L (xs.take k) []=some k1)(hx:xs[k]? =some x):∃k2,stepK L x k1=some k2/\runK L (xs.take (k + 1)) []=some k2:=by
 obtain⟨k2,h2⟩:=ze0 (k:=k + 1) h;refine⟨k2,?_,h2⟩;rw[take_snoc hx,Gv,hk]at h2;have h3:(stepK L x k1).bind (runK L [])=some k2:=h2
 cases e:stepK L x k1 with
 |none=>rw[e]at h3;cases h3
 |some k3=>rw[e]at h3;exact h3
theorem Xa {L wt:Str}{ws:List Str}{t v o:D}(h:runK L ws.reverse []=some [wt])(hl:ws.length<=46)(ht:Sn t)(hv:Sn v)(ho:Sn o):∃d n,fD t v o ws.reverse []=[d]/\Vk wt d n/\n<=46/\∀M:Mm,nU [.tup (ws.map D.str),t,v,o] M=some (.v d,M ++ [.lst [d]]):=by
  obtain⟨n,ty,hn⟩:=RL ht hv ho h .nil;rw[xaG]at hn;generalize er:fD t v o ws.reverse []=rs at ty
  cases ty with
  |cons vk ty'=>
    cases ty' with
    |nil=>
      rename_i d m;refine⟨d,m,rfl,vk,by omega,fun M=>?_⟩;have lp:∃s5 s6 s7,loopS 5 FN (ws.map D.str).reverse [.val (.tup (ws.map D.str)),.val t,.val v,.val o,.val (.ref M.length),.un,.un,.un] (M ++ [.lst ([]:List D).reverse])=some (.nx [.val (.tup (ws.map D.str)),.val t,.val v,.val o,.val (.ref M.length),s5,s6,s7],M ++ [.lst (fD t v o ws.reverse []).reverse]):=by
        refine Ju (fun q=>∃s5 s6 s7,q=some (.nx [.val (.tup (ws.map D.str)),.val t,.val v,.val o,.val (.ref M.length),s5,s6,s7],M ++ [.lst (fD t v o ws.reverse []).reverse])) (fun k env N=>∃s5 s6 s7 k1,env=[.val (.tup (ws.map D.str)),.val t,.val v,.val o,.val (.ref M.length),s5,s6,s7]/\N=M ++ [.lst (fD t v o (ws.reverse.take k) []).reverse]/\runK L (ws.reverse.take k) []=some k1) ⟨_,_,_,[],rfl,rfl,by rw[List.take_zero];rfl⟩ ?_ ?_
        · rintro k d env N hd ⟨s5,s6,s7,k1,rfl,rfl,hk⟩;rw[<-xco,xam,xac]at hd;obtain⟨x,hx,rfl⟩:=hd;refine⟨by show 5<8;decide,?_⟩;obtain⟨k2,st,hk2⟩:=zg6 h hk hx;obtain⟨n1,ty1,hn1⟩:=RL ht hv ho hk .nil;have hkl:k<ws.length:=by have:=(xak.mp hx).1;rwa [xaG]at this
          have hl1:(ws.reverse.take k).length=k:=by rw[xbZ,xaG];omega
          rw[hl1]at hn1;have hlr:=ty1.len;have hlk:=RK hk;rw[List.length_nil,hl1]at hlk;show Step _ _ (FN [.val (.tup (ws.map D.str)),.val t,.val v,.val o,.val (.ref M.length),.val (.str x),s6,s7] _);obtain⟨t6,t7,e⟩:=zeb (M:=M) (w0:=.tup (ws.map D.str)) (t:=t) (v:=v) (o:=o) (s6:=s6) (s7:=s7) st ty1 (by omega) (by omega);rw[e];refine⟨_,_,_,k2,rfl,?_,hk2⟩;rw[take_snoc hx,Xg];rfl
        · rintro env N ⟨s5,s6,s7,k1,rfl,rfl,hk⟩;rw[show(ws.map D.str).reverse.length=ws.reverse.length by simp,List.take_length];exact⟨_,_,_,rfl⟩
      obtain⟨s5,s6,s7,lp⟩:=lp;rw[er]at lp;unfold nU M6;z_go;rw[show(Cl.lst ([]:List D))=.lst ([]:List D).reverse from rfl,lp];z_go;rw[show [d].reverse=[d] from rfl];z_go
theorem Vq {n:Nat}:lH (dg n)=true:=by
 have hall:(dg n).all m7=true:=xa7.mpr fun c hc=>by
  have:=D_ n c hc;unfold m7;rw[xbB this.1,xbB this.2];rfl
 unfold lH;rw[hall,xaQ (Jm n)]
 by_cases h0:n=0
 ·subst h0;rw[zes];rfl
 ·obtain⟨c,r,e,hc⟩:=Vj n h0;rw[e,List.head?_cons,xaQ (show ¬ (some c=some 48) from fun z=>by have:=xau z;omega)]
  simp
theorem ziy {n:Int}(h0:0<=n)(h1:n<100000000000000000000):(dg n.toNat).length<=20:=Jl (by decide) (by rw[show(10:Nat) ^ 20=100000000000000000000 by decide];omega)
theorem Vi {n:Nat}:(dg n).head? ≠some 45:=fun h=>by
  cases e:dg n with
  |nil=>exact Jm n e
  |cons c r=>
    rw[e]at h;have:=D_ n c (by rw[e];exact xaF)
    simp at h
    omega
theorem Fy {n:Int}(h:n.natAbs<100000000000000000000):mG (b_ n)=true:=by
 by_cases h0:0<=n
 ·have e:cd (b_ n)=dg n.toNat:=Dh h0;have ef:mD (dg n.toNat)=dg n.toNat:=by unfold mD;rw[xah Vi]
  unfold mG good;rw[e,ef,Vq,xbB (ziy h0 (by omega)),xaQ (fun z=>Vi (n:=n.toNat) (by rw[z];rfl))];rfl
 ·have e:cd (b_ n)=45::dg n.natAbs:=KJ (by omega);have ef:mD (45::dg n.natAbs)=dg n.natAbs:=by unfold mD;rw[xab (show(45::dg n.natAbs).head? =some 45 from rfl)];rfl
  have l20 : (dg n.natAbs).length <= 20 := Jl (by decide) (by rw [show (10 : Nat) ^ 20 = 100000000000000000000 by decide]; omega);unfold mG good;rw [e, ef, Vq, xbB l20, xaQ (fun z=>by
   have z2:dg n.natAbs=[48]:=by simpa using z
   obtain⟨c,r,e2,hc⟩:=Vj n.natAbs (by omega);rw[e2]at z2
   simp at z2
   omega)]
  rfl
theorem zdL {n:Int}(h:n.natAbs<100000000000000000000):Hg (cd (b_ n))=n:=by
 obtain⟨hl,hf,_⟩:=Jp (Fy h);have a:=VJ hf hl;have b:=VL (i:=n) (xad h (by x_go));rw[a]at b;exact xau b
theorem Zn {n:Int}(h:n.natAbs<100000000000000000000):sm (b_ n):=by
 refine⟨?_,fun c hc=>?_⟩
 ·have:=(Jp (Fy h)).1;omega
 ·have ad:∀c∈cd (b_ n),c<4294967296:=fun c hc=>by
   have da:∀m:Nat,∀c∈dg m,c<4294967296:=fun m c hc=>by
    have:=D_ m c hc;omega
   by_cases h0:0<=n
   ·rw[show cd (b_ n)=dg n.toNat from Dh h0]at hc;exact da _ c hc
   ·rw[show cd (b_ n)=45::dg n.natAbs from KJ (by omega),xaI]at hc;rcases hc with rfl |hc
    ·decide
    ·exact da _ c hc
  exact ad c hc
theorem Wg {n:Int}{L:Str}(h:n.natAbs<100000000000000000000):lf (b_ n) L=true:=by
 unfold lf;rw[Fy h];rfl
theorem JB {n:Int}(h:n.natAbs<100000000000000000000):fY (b_ n)=none:=Wr (.inl (Fy h))
theorem zd4 {n:Int}(h:n.natAbs<100000000000000000000):b_ n≠"t"/\b_ n≠"v"/\b_ n≠"w":=by
 have:=Fy h;refine⟨fun z=>?_,fun z=>?_,fun z=>?_⟩<;>rw[z]at this<;>exact absurd this (by x_go)
theorem Z2 {n:Int}{t v o:D}(h:n.natAbs<100000000000000000000):BL (b_ n) t v o=.int n:=by
 obtain⟨a,b,c⟩:=zd4 h;unfold BL;rw[xah a,xah b,xah c,zdL h]
theorem Sh {i:Int}(h:i.natAbs<2 ^ 210):Sn (.int i):=⟨i,rfl,h⟩
theorem gW {N E:Mm}{k:Nat}{c:E3.Cl}(h:N[k]? =some c):(N ++ E)[k]? =some c:=by rw[xaB (xak.mp h).1];exact h
noncomputable def wA (ws:List Str):E3.Cl:=.obj "Cond" [("parts",.tup (ws.map D.str))]
noncomputable def sG (ws:List Str):E3.Cl:=.obj "Expr" [("parts",.tup (ws.map D.str))]
theorem rdC {ws:List Str}(hs:∀x∈ws,sm x)(hl:ws.length<=900)(h:runK "tv" ws.reverse []=some [Str.ofString "truth"]):Fl [.tup (ws.map D.str)] M=some (.v (.ref (M ++ [kc ["truth"]]).length),M ++ [kc ["truth"]] ++ [wA ws]):=by
 rcases U3 (M:=M) (L:="tv") (wt:="truth") hs hl with⟨_,e⟩ |⟨z,_⟩
 ·unfold Fl MN;z_go;rw[e];z_go;rw[Bd (ds:=[.tup (ws.map D.str)]) (M1:=M ++ [kc ["truth"]]) (by z_go) zfL];rfl
 ·exact absurd h z
theorem rdE {L:Str}{ws:List Str}(hs:∀x∈ws,sm x)(hl:ws.length<=900)(h:runK L ws.reverse []=some [Str.ofString "number"]):Fo [.tup (ws.map D.str),.str L] M=some (.v (.ref (M ++ [kc ["number"]]).length),M ++ [kc ["number"]] ++ [sG ws]):=by
 rcases U3 (M:=M) (L:=L) (wt:="number") hs hl with⟨_,e⟩ |⟨z,_⟩
 ·unfold Fo MP;z_go;rw[e];z_go;rw[Bd (ds:=[.tup (ws.map D.str)]) (M1:=M ++ [kc ["number"]]) (by z_go) zhI];rfl
 ·exact absurd h z
theorem Ob {ws:List Str}{k:Nat}{t v d:D}(hM:M[k]? =some (wA ws))(hr:∀M:Mm,nU [.tup (ws.map D.str),t,v,.int 0] M=some (.v d,M ++ [.lst [d]])):BZ [.ref k,t,v] M=some (.v d,M ++ [.lst [d]]):=by
 unfold BZ Hu;z_go;rw[mC (k:=k) (M1:=M) (by z_go) hM rfl];z_go;rw[hr];z_go
theorem Od {ws:List Str}{k:Nat}{t v o d:D}(hM:M[k]? =some (sG ws))(hr:∀M:Mm,nU [.tup (ws.map D.str),t,v,o] M=some (.v d,M ++ [.lst [d]])):B_ [.ref k,t,v,o] M=some (.v d,M ++ [.lst [d]]):=by
 unfold B_ Hw;z_go;rw[mC (k:=k) (M1:=M) (by z_go) hM rfl];z_go;rw[hr];z_go
def DX (k:Nat):E3.Cl:=.fn pO [("cond",.ref k)]
def z8 (k:Nat):E3.Cl:=.fn nW [("expr",.ref k)]
def DY (k:Nat):E3.Cl:=.fn pP [("change",.ref k)]
def TT (M:Mm):Prop:=M[0]? =some (.tbl "sieve_of" pO)/\M[1]? =some (.tbl "change_of" nW)/\M[2]? =some (.tbl "sharer_of" lu)/\M[3]? =some (.tbl "turner_of" pP)
theorem TT.app {E:Mm}(h:TT M):TT (M ++ E):=⟨gW h.1,gW h.2.1,gW h.2.2.1,gW h.2.2.2⟩
theorem Dw {A B C D:Mm}:∃E,A ++ B ++ C ++ D=A ++ E:=⟨B ++ C ++ D,by simp only[xaE]⟩
theorem zi9 {ws:List Str}(T:TT M)(hs:∀x∈ws,sm x)(hl:ws.length<=900)(h:runK "tv" ws.reverse []=some [Str.ofString "truth"]):
  ∃f k E,Az [.tup (ws.map D.str)] M=some (.v (.ref f),M ++ E)/\(M ++ E)[f]? =some (DX k)/\(M ++ E)[k]? =some (wA ws):=by
 have mk:=wW (M:=M ++ [kc ["truth"]] ++ [wA ws]) (env:=[.val (.tup (ws.map D.str)),.val (.ref (M ++ [kc ["truth"]]).length),.un]) (caps:=[("cond",1)]) (cs:=[("cond",.ref (M ++ [kc ["truth"]]).length)]) (gW (gW T.1)) rfl;obtain⟨E,eE⟩:=Dw (A:=M) (B:=[kc ["truth"]]) (C:=[wA ws]) (D:=[DX (M ++ [kc ["truth"]]).length]);refine⟨(M ++ [kc ["truth"]] ++ [wA ws]).length,(M ++ [kc ["truth"]]).length,E,?_,by rw[<-eE];exact vo,by rw[<-eE];exact gW vo⟩;rw[<-eE];unfold Az M8;generalize gZ 0 "sieve_of" pO [("cond",1)]=F at mk ⊢;z_go;rw[rdC hs hl h];z_go;rw[mk];rfl
theorem zjn {L:Str}{ws:List Str}(T:TT M)(hs:∀x∈ws,sm x)(hl:ws.length<=900)(h:runK L ws.reverse []=some [Str.ofString "number"]):
  ∃f k E,Ew [.tup (ws.map D.str),.str L] M=some (.v (.ref f),M ++ E)/\(M ++ E)[f]? =some (z8 k)/\(M ++ E)[k]? =some (sG ws):=by
 have mk:=wW (M:=M ++ [kc ["number"]] ++ [sG ws]) (env:=[.val (.tup (ws.map D.str)),.val (.str L),.val (.ref (M ++ [kc ["number"]]).length),.un]) (caps:=[("expr",2)]) (cs:=[("expr",.ref (M ++ [kc ["number"]]).length)]) (gW (gW T.2.1)) rfl;obtain⟨E,eE⟩:=Dw (A:=M) (B:=[kc ["number"]]) (C:=[sG ws]) (D:=[z8 (M ++ [kc ["number"]]).length]);refine⟨(M ++ [kc ["number"]] ++ [sG ws]).length,(M ++ [kc ["number"]]).length,E,?_,by rw[<-eE];exact vo,by rw[<-eE];exact gW vo⟩;rw[<-eE];unfold Ew Mr;generalize gZ 1 "change_of" nW [("expr",2)]=F at mk ⊢;z_go;rw[rdE hs hl h];z_go;rw[mk];rfl
theorem zhP {x0 x1 x2:D}{ws:List Str}(T:TT M)(hs:∀x∈ws,sm x)(hl:ws.length<=900)(h:runK "tv" ws.reverse []=some [Str.ofString "number"]):
  ∃g f k E,A_ [.tup [x0,x1,x2,.tup (ws.map D.str)]] M=some (.v (.ref g),M ++ E)/\(M ++ E)[g]? =some (DY f)/\(M ++ E)[f]? =some (z8 k)/\(M ++ E)[k]? =some (sG ws):=by
 obtain⟨f,k,E,e1,e2,e3⟩:=zjn (L:="tv") T hs hl h;have mk:=wW (M:=M ++ E) (env:=[.val (.tup [x0,x1,x2,.tup (ws.map D.str)]),.val (.ref f),.un]) (caps:=[("change",1)]) (cs:=[("change",.ref f)]) T.app.2.2.2 rfl;refine⟨(M ++ E).length,f,k,E ++ [DY f],?_,by rw[<-xaE];exact vo,by rw[<-xaE];exact gW e2,by rw[<-xaE];exact gW e3⟩;rw[<-xaE];unfold A_ M_;generalize gZ 3 "turner_of" pP [("change",1)]=F at mk ⊢;z_go;rw[e1];z_go;rw[mk];rfl
noncomputable def hold (i:Int):Int:=if (if i<1000000000000000000000000000000000000000000000000000000000000 then i else 1000000000000000000000000000000000000000000000000000000000000) > -1000000000000000000000000000000000000000000000000000000000000 then if i<1000000000000000000000000000000000000000000000000000000000000 then i else 1000000000000000000000000000000000000000000000000000000000000 else -1000000000000000000000000000000000000000000000000000000000000
theorem zig {i:Int}:EY [.int i] M=some (.v (.int (hold i)),M):=by
 unfold hold EY Mu;z_go
theorem Nf {k:Nat}{ws:List Str}{t v d:D}(hM:M[k]? =some (wA ws))(hr:∀M:Mm,nU [.tup (ws.map D.str),t,v,.int 0] M=some (.v d,M ++ [.lst [d]])):Cz [t,v,.ref k] M=some (.v d,M ++ [.lst [d]]):=by
 have a1:aQ "Cond" "holds" BZ (aj 2) (aA (aj 0) (aA (aj 1) ao)) [.val t,.val v,.val (.ref k)] M=some (.v d,M ++ [.lst [d]]):=gK (M1:=M) (M2:=M) (k:=k) (ds:=[t,v]) rfl hM (by kernel_rfl) rfl (Ob hM hr);show eO (Jb [.val t,.val v,.val (.ref k)] M)=_;unfold Jb;z_go;rw[a1];z_go
theorem Nb {k:Nat}{ws:List Str}{t v o:D}{i:Int}(hM:M[k]? =some (sG ws))(hr:∀M:Mm,nU [.tup (ws.map D.str),t,v,o] M=some (.v (.int i),M ++ [.lst [.int i]])):Oa [t,v,o,.ref k] M=some (.v (.int (hold i)),M ++ [.lst [.int i]]):=by
 have a1:aQ "Expr" "value" B_ (aj 3) (aA (aj 0) (aA (aj 1) (aA (aj 2) ao))) [.val t,.val v,.val o,.val (.ref k)] M=some (.v (.int i),M ++ [.lst [.int i]]):=gK (M1:=M) (M2:=M) (k:=k) (ds:=[t,v,o]) rfl hM (by kernel_rfl) rfl (Od hM hr);show eO (IW [.val t,.val v,.val o,.val (.ref k)] M)=_;unfold IW;z_go;rw[a1];z_go;rw[zig];z_go
theorem Ng {f k:Nat}{ws:List Str}{t v z:D}{i:Int}(hF:M[f]? =some (z8 k))(hM:M[k]? =some (sG ws))(hr:∀M:Mm,nU [.tup (ws.map D.str),t,v,.int 0] M=some (.v (.int i),M ++ [.lst [.int i]])):CJ [.tup [t,z,v],.ref f] M=some (.v (.tup [t,z,.int (hold i)]),M ++ [.lst [.int i]]):=by
 have a1:lU nW Ey (aj 1) (aA (s2 aO (aj 0) (ak (.int 0))) (aA (s2 aO (aj 0) (ak (.int 2))) ao)) [.val (.tup [t,z,v]),.val (.ref f)] M=some (.v (.int (hold i)),M ++ [.lst [.int i]]):=
  Je (M1:=M) (M2:=M) (k:=f) (ds:=[t,v]) rfl hF rfl (Nb hM hr)
 show eO (Jc [.val (.tup [t,z,v]),.val (.ref f)] M)=_;unfold Jc;generalize lU nW Ey (aj 1) (aA (s2 aO (aj 0) (ak (.int 0))) (aA (s2 aO (aj 0) (ak (.int 2))) ao))=F at a1 ⊢;z_go;rw[a1];z_go
theorem ndq (x:Str)(q:Str×Str×Nat)(h:decide (fY x=some q)=true):fY x=some q:=xbQ h
noncomputable def lO (form n:Int):List Str:=if form=0 then ["<","v",b_ n] else if form=1 then ["<","t",b_ n] else ["=","v",b_ n]
noncomputable def gq (form n t v:Int):Bool:=if form=0 then decide (v<n) else if form=1 then decide (t<n) else decide (v=n)
noncomputable def lR (form n:Int):List Str:=if form=0 then ["+","v",b_ n] else if form=1 then ["*","v",b_ n] else if form=2 then ["-",b_ n,"v"] else ["least","t","v"]
noncomputable def fX (form n t v:Int):Int:=if form=0 then v + n else if form=1 then v * n else if form=2 then n - v else(if v<t then v else t)
theorem lv {L:Str}{x:Str}{ks:List Str}(h1:fY x=none)(h2:lf x L=true):stepK L x ks=some (Str.ofString "number"::ks):=by
 unfold stepK;rw[h1];simp only[h2,xa6]
theorem U7 {form n:Int}(hn:n.natAbs<100000000000000000000):runK "tv" (lO form n).reverse []=some [Str.ofString "truth"]:=by
 have a0:∀ks,stepK "tv" (b_ n) ks=some (Str.ofString "number"::ks):=fun ks=>lv (JB hn) (Wg hn);unfold lO
 repeat' split
 all_goals
  simp only[xaK,xa0,xaW,xaR,runK,a0,Option.bind_some]
  decide +kernel
theorem Vp {form n:Int}(hn:n.natAbs<100000000000000000000):runK "tv" (lR form n).reverse []=some [Str.ofString "number"]:=by
 have a0:∀ks,stepK "tv" (b_ n) ks=some (Str.ofString "number"::ks):=fun ks=>lv (JB hn) (Wg hn);have a1:∀ks,stepK "tv" "v" ks=some (Str.ofString "number"::ks):=fun ks=>lv (by x_go) (by x_go);unfold lR
 repeat' split
 ·simp only[xaK,xa0,xaW,xaR,runK,a0,Option.bind_some]
  decide +kernel
 ·simp only[xaK,xa0,xaW,xaR,runK,a0,Option.bind_some]
  decide +kernel
 ·simp only[xaK,xa0,xaW,xaR,runK,a0,a1,Option.bind_some]
  decide +kernel
 ·decide +kernel
section
variable {t v o:D}{rs:List D}{i j:Int}{p q:Bool}
theorem p7:stepV t v o "v" rs=v::rs:=by
 unfold stepV;rw[show fY "v"=none by x_go];rfl
theorem GD:stepV t v o "t" rs=t::rs:=by
 unfold stepV;rw[show fY "t"=none by x_go];rfl
theorem nF {x:Str}{a b:D}{k1 k2:Str}(h:fY x=some (k1,k2,2)):stepV t v o x (a::b::rs)=mY x a b::rs:=by
 unfold stepV;rw[h];rfl
end
theorem JF {i j:Int}:mY "<" (.int i) (.int j)=.bl (decide (i<j)):=by kernel_rfl
theorem QK {i j:Int}:mY "=" (.int i) (.int j)=.bl (decide (i=j)):=by kernel_rfl
theorem zhz {i j:Int}:mY "+" (.int i) (.int j)=.int (i + j):=by kernel_rfl
theorem zji {i j:Int}:mY "-" (.int i) (.int j)=.int (i - j):=by kernel_rfl
theorem zjg {i j:Int}:mY "*" (.int i) (.int j)=.int (i * j):=by kernel_rfl
theorem zjL {i j:Int}:mY "least" (.int i) (.int j)=.int (if j<i then j else i):=by kernel_rfl
theorem Wq:fY "<"=some (Str.ofString "truth",Str.ofString "number",2):=by x_go
theorem zjv:fY "="=some (Str.ofString "truth",Str.ofString "number",2):=by x_go
theorem zil:fY "+"=some (Str.ofString "number",Str.ofString "number",2):=by x_go
theorem zh5:fY "-"=some (Str.ofString "number",Str.ofString "number",2):=by x_go
theorem zhY:fY "*"=some (Str.ofString "number",Str.ofString "number",2):=by x_go
theorem zjf:fY "least"=some (Str.ofString "number",Str.ofString "number",2):=by x_go
theorem zef {form n t v:Int}(hn:n.natAbs<100000000000000000000):fD (.int t) (.int v) (.int 0) (lO form n).reverse []=[.bl (gq form n t v)]:=by
 have b0:∀rs,stepV (.int t) (.int v) (.int 0) (b_ n) rs=.int n::rs:=fun rs=>by unfold stepV;rw[JB hn];dsimp only;rw[Z2 hn]
 unfold lO gq
 repeat' split
 ·simp only[xaK,xa0,xaW,xaR,fD,b0,p7,nF Wq,JF]
 ·simp only[xaK,xa0,xaW,xaR,fD,b0,GD,nF Wq,JF]
 ·simp only[xaK,xa0,xaW,xaR,fD,b0,p7,nF zjv,QK]
theorem zdT {form n t v:Int}(hn:n.natAbs<100000000000000000000):fD (.int t) (.int v) (.int 0) (lR form n).reverse []=[.int (fX form n t v)]:=by
 have b0:∀rs,stepV (.int t) (.int v) (.int 0) (b_ n) rs=.int n::rs:=fun rs=>by unfold stepV;rw[JB hn];dsimp only;rw[Z2 hn]
 unfold lR fX
 repeat' split
 ·simp only[xaK,xa0,xaW,xaR,fD,b0,p7,nF zil,zhz]
 ·simp only[xaK,xa0,xaW,xaR,fD,b0,p7,nF zhY,zjg]
 ·simp only[xaK,xa0,xaW,xaR,fD,b0,p7,nF zh5,zji]
 all_goals simp only[xaK,xa0,xaW,xaR,fD,GD,p7,nF zjf,zjL,xa6,xbP, *]
theorem U6 {form n:Int}:(lO form n).length<=7:=by
 unfold lO
 repeat' split
 all_goals simp
theorem Vo {form n:Int}:(lR form n).length<=5:=by
 unfold lR
 repeat' split
 all_goals simp
theorem zff {x:Str}(h:(decide (x.length<=9000) && (cd x).all fun c=>decide (c<4294967296))=true):sm x:=by
 rw[xal,xaN,xa7]at h;exact⟨h.1,fun c hc=>xbQ (h.2 c hc)⟩
noncomputable def Dp:List Str:=["<","v","=","t","+","*","-","least"]
theorem Z5 : ∀ x ∈ Dp, sm x := fun x hx => zff (by
 have:Dp.all (fun x=>decide (x.length<=9000) && (cd x).all fun c=>decide (c<4294967296))=true:=by x_go
 exact xa7.mp this x hx)
theorem zfw {form n:Int}(hn:n.natAbs<100000000000000000000):∀x∈lO form n,sm x:=by
 have hs:∀ws:List Str,(∀x∈ws,x=b_ n\/x∈Dp)->∀x∈ws,sm x:=fun ws h x hx=>by
  rcases h x hx with rfl |h
  ·exact Zn hn
  ·exact Z5 x h
 refine hs _ ?_;unfold lO Dp
 repeat' split
 all_goals simp
theorem zhi {form n:Int}(hn:n.natAbs<100000000000000000000):∀x∈lR form n,sm x:=by
 have hs:∀ws:List Str,(∀x∈ws,x=b_ n\/x∈Dp)->∀x∈ws,sm x:=fun ws h x hx=>by
  rcases h x hx with rfl |h
  ·exact Zn hn
  ·exact Z5 x h
 refine hs _ ?_;unfold lR Dp
 repeat' split
 all_goals simp
variable {M:Mm}
theorem ZL {t v:Int}(h1:t.natAbs<=1000000000000000)(h2:v.natAbs<=1000000000000000000000000000000000000000000000000000000000000000):Sn (.int t)/\Sn (.int v)/\Sn (.int 0):=by
 have p210:(1000000000000000000000000000000000000000000000000000000000000000:Nat)<2 ^ 210:=by x_go
 exact⟨Sh (by omega),Sh (by omega),Sh (by decide)⟩
theorem RG {form n t v:Int}(hn:n.natAbs<100000000000000000000)(h1:t.natAbs<=1000000000000000)(h2:v.natAbs<=1000000000000000000000000000000000000000000000000000000000000000)(N:Mm):nU [.tup ((lO form n).map D.str),.int t,.int v,.int 0] N=some (.v (.bl (gq form n t v)),N ++ [.lst [.bl (gq form n t v)]]):=by
 obtain⟨a,b,c⟩:=ZL h1 h2;have hl:=U6 (form:=form) (n:=n);obtain⟨d,m,r,_,_,g⟩:=Xa (U7 (form:=form) hn) (by omega) a b c;rw[zef hn]at r;cases r;exact g N
theorem RJ {form n t v:Int}(hn:n.natAbs<100000000000000000000)(h1:t.natAbs<=1000000000000000)(h2:v.natAbs<=1000000000000000000000000000000000000000000000000000000000000000)(N:Mm):nU [.tup ((lR form n).map D.str),.int t,.int v,.int 0] N=some (.v (.int (fX form n t v)),N ++ [.lst [.int (fX form n t v)]]):=by
 obtain⟨a,b,c⟩:=ZL h1 h2;have hl:=Vo (form:=form) (n:=n);obtain⟨d,m,r,_,_,g⟩:=Xa (Vp (form:=form) hn) (by omega) a b c;rw[zdT hn]at r;cases r;exact g N
variable {M:Mm}
noncomputable def ABC:Str:=Str.ofString "abcdefghijklmnopqrstuvwxyz"
theorem Ls:ABC.length=26:=by x_go
def u_ (z:Str):Prop:=∀c∈cd z,97<=c/\c<=122
theorem zfZ {i:Int}(h0:0<=i)(h1:i<26):∃c,(97<=c/\c<=122)/\gG ABC.cps.toList i=some c:=by
 have hl:ABC.cps.toList.length=26:=by x_go
 refine⟨_,?_,zfR 0 h0 (by rw[hl];exact h1)⟩;have all:ABC.cps.toList.all (fun c=>decide (97<=c/\c<=122))=true:=by x_go
 have m:ABC.cps.toList.getD i.toNat 0∈ABC.cps.toList:=by
  rw[List.getD_eq_getElem?_getD,xai (by rw[hl];omega)];exact xcW _
 simpa using xa7.mp all _ m
theorem zjN {c:Nat}(h:97<=c/\c<=122):∃i:Int,Bv ABC [.str ⟨#[c]⟩]=some (.int i):=by
 have all:(List.range 26).all (fun j=>match Bv ABC [.str ⟨#[97 + j]⟩] with |some (.int _)=>true |_=>false)=true:=by x_go
 have:=xa7.mp all (c - 97) (xbR.mpr (by omega));rw[show 97 + (c - 97)=c by omega]at this;split at this
 ·rename_i i e;exact⟨i,e⟩
 ·cases this
theorem zcT {w:Str}{c:Nat}(h:u_ w)(hc:97<=c/\c<=122):u_ (w ++ ⟨#[c]⟩):=fun x hx=>by
 rw[UL,xbe]at hx;rcases hx with hx |hx
 ·exact h x hx
 ·rw[Nk,xbK]at hx;rw[hx];exact hc
theorem zcV {w:Str}{c:Nat}:(w ++ ⟨#[c]⟩:Str).length=w.length + 1:=by
 rw[Bc,UL,Nk,xat, <-Bc];rfl
noncomputable def kn (z:Str):Int:=(cd z).foldl (fun(n:Int) (c:Nat)=>n * 26 + ((c:Int) - 97)) 0
theorem zel {c:Nat}(h:97<=c/\c<=122):Bv ABC [.str ⟨#[c]⟩]=some (.int ((c:Int) - 97)):=by
 have all:(List.range 26).all (fun j=>match Bv ABC [.str ⟨#[97 + j]⟩] with |some (.int i)=>decide (i=(j:Int)) |_=>false)=true:=by x_go
 have:=xa7.mp all (c - 97) (xbR.mpr (by omega));rw[show 97 + (c - 97)=c by omega]at this;split at this
 ·rename_i i e;have:=xbQ this;rw[e,this];congr 2;omega
 ·cases this
variable {M:Mm}
theorem Tn {a0:Slot}{n:Int}{c:Nat}(h:97<=c/\c<=122):Js [a0,.val (.int n),.val (.str ⟨#[c]⟩)] M=some (.nx [a0,.val (.int (n * 26 + ((c:Int) - 97))),.val (.str ⟨#[c]⟩)],M):=by
 have ix:=zel h;unfold Js;rw[show Str.ofString "abcdefghijklmnopqrstuvwxyz"=ABC from rfl];z_go;rw[xab (by rw[Ls];decide)];z_go;rw[Ls,xab (.inr (.inl (by decide)))];z_go;rw[ix];z_go;rfl
theorem Wb {a0:Slot}:∀(cs:List Nat) (n:Int) (s2:Slot),(∀c∈cs,97<=c/\c<=122)->∃s2',loopS 2 Js (cs.map fun c=>.str ⟨#[c]⟩) [a0,.val (.int n),s2] M=some (.nx [a0,.val (.int (cs.foldl (fun(n:Int) (c:Nat)=>n * 26 + ((c:Int) - 97)) n)),s2'],M)
  | [],n,s2,_=>⟨s2,rfl⟩
  |c::cs,n,s2,h=>by
    obtain⟨s2',ih⟩:=Wb (a0:=a0) cs (n * 26 + ((c:Int) - 97)) (.val (.str ⟨#[c]⟩)) fun x hx=>h x (by simp[hx]);refine⟨s2',?_⟩;rw[xaA,Q9,xab (by simp)];simp only[xcd,xce];rw[Tn (h c (by simp)),RB];exact ih
theorem NK {z:Str}(h:u_ z):Fi [.str z] M=some (.v (.int (kn z)),M):=by
 obtain⟨s2,e⟩:=Wb (M:=M) (a0:=.val (.str z)) (cd z) 0 .un h;unfold Fi MJ;z_go;rw[show z.cps.toList=cd z from rfl,e];z_go;rfl
theorem zeN {z:Str}{l m:Int}(h:u_ z)(hm:0<m):Fb [.str z,.int l,.int m] M=some (.v (.bl (decide (kn z % m=l))),M):=by
 unfold Fb Mw;z_go;rw[NK h];z_go;rw[xab hm];z_go
theorem zeQ {z:Str}{l m:Int}(h:u_ z)(hm:0<m):Cy [.str z,.int m,.int l] M=some (.v (.bl (decide (kn z % m=l))),M):=by
 show eO (Ja [.val (.str z),.val (.int m),.val (.int l)] M)=_;unfold Ja;z_go;rw[zeN h hm];z_go
theorem Zg {n:Int}(h0:0<=n)(h1:n<=100):lC [.int n]=some (.str (b_ n))/\fu [.str (b_ n)]=some (.int n)/\(b_ n).length<=4:=by
 have hl:(b_ n).length<=4:=R6 (i:=n) (k:=3) (by decide) (by omega);refine⟨?_,?_,hl⟩
 ·rw[JC,xab (FQ (by omega))];rfl
 ·rw[CW,xab (by omega),VL (xad (show n.natAbs<101 by omega) (by x_go))];rfl
abbrev lG (l m:Int):List (Str×D):=[("many",.int m),("left",.int l)]
theorem zc7 {l m:Int}{x0 x1 x2:D}(hM:M[2]? =some (.tbl "sharer_of" lu))(hl:fu [.str (b_ l)]=some (.int l))(hm:fu [.str (b_ m)]=some (.int m)):Ay [.tup [x0,x1,x2,.tup [.str (b_ l),.str (b_ m)]]] M=some (.v (.ref M.length),M ++ [.fn lu (lG l m)]):=by
 have mk:=wW (env:=[.val (.tup [x0,x1,x2,.tup [.str (b_ l),.str (b_ m)]]),.val (.int l),.val (.int m),.un]) (caps:=[("many",2),("left",1)]) (cs:=lG l m) hM rfl;unfold Ay M7;generalize gZ 2 "sharer_of" lu [("many",2),("left",1)]=F at mk ⊢;z_go;rw[<-CW,hl];z_go;rw[<-CW,hm];z_go;rw[mk];z_go
theorem zjc {n:Int}{w:Str}{p:Nat}(hp:p<=8)(hw:w.length<=100):∃c:Nat,(97<=c/\c<=122)/\Jr [.val (.int n),.val (.str w),.val (.int (0 + (p:Int)))] M=some (.nx [.val (.int n),.val (.str (w ++ ⟨#[c]⟩)),.val (.int (0 + (p:Int)))],M):=by
 have p0:=xaD (n / (8 + 26 * (p:Int))) (show(26:Int)≠0 by decide);have p1:=xaz (n / (8 + 26 * (p:Int))) (show(0:Int)<26 by decide);obtain⟨c,hc,ec⟩:=zfZ p0 p1;refine⟨c,hc,?_⟩;have e:(0:Int) + (p:Int)=(p:Int):=Int.zero_add _;rw[e];unfold Jr;rw[show Str.ofString "abcdefghijklmnopqrstuvwxyz"=ABC from rfl];z_go;rw[xab ⟨by omega,by omega⟩];z_go;rw[xab (by rw[Ls];decide),ec];z_go;rw[xab (by rw[show(⟨#[c]⟩:Str).length=1 from rfl];omega)];z_go
theorem zfM {n:Int}:∃z:Str,u_ z/\z.length<=8/\Cq [.int n] M=some (.v (.str z),M):=by
 have m0:=xaD n (show(8:Int)≠0 by decide);have m1:=xaz n (show(0:Int)<8 by decide);have lp:∀m:Nat,m<=8->∃(w:Str) (s4:Slot),u_ w/\w.length=m/\loopS 2 Jr ((List.range m).map fun(k:Nat)=>D.int (0 + (k:Int))) [.val (.int n),.val (.str (Str.ofString "")),.un] M=some (.nx [.val (.int n),.val (.str w),s4],M):=fun m hm=>by
  refine Ju (fun o=>∃(w:Str) (s4:Slot),u_ w/\w.length=m/\o=some (.nx [.val (.int n),.val (.str w),s4],M)) (fun j env N=>N=M/\∃(w:Str) (s4:Slot),u_ w/\w.length=j/\env=[.val (.int n),.val (.str w),s4]) ⟨rfl,Str.ofString "",.un,(fun c hc=>by cases hc),rfl,rfl⟩ ?_ ?_
  ·rintro j d env N hd ⟨rfl,w,s4,hw,hl,rfl⟩;rw[xam]at hd;have hn:j<m:=by
    rcases xaO j m with h |h
    ·exact h
    ·rw[xcq (by rw[xbn];exact h)]at hd;cases hd
   rw[xdi hn]at hd;cases hd;refine⟨by simp,?_⟩;simp only[xce,xcd];obtain⟨c,hc,e⟩:=zjc (M:=N) (n:=n) (w:=w) (p:=j) (by omega) (by omega);rw[e];exact⟨rfl,_,_,zcT hw hc,by rw[zcV,hl],rfl⟩
  ·rintro env N ⟨rfl,w,s4,hw,hl,rfl⟩;rw[xao,xbn]at hl;exact⟨w,s4,hw,hl,rfl⟩
 obtain⟨w,s4,hw,hl,lp⟩:=lp (1 + n % 8).toNat (by omega);refine⟨w,hw,by omega,?_⟩;unfold Cq Mj;z_go;rw[JR (by omega)];z_go;rw[lp];z_go
theorem ziC {c:Nat}:pJ [.str ⟨#[c]⟩]=some (.int c):=rfl
theorem zjo:pJ [.str "a"]=some (.int 97):=by kernel_rfl
theorem Tq {a0 a1:Slot}{n:Int}{c:Nat}:Jq [a0,a1,.val (.int n),.val (.str ⟨#[c]⟩)] M=some (.nx [a0,a1,.val (.int (n * 26 + ((c:Int) - 97))),.val (.str ⟨#[c]⟩)],M):=by
 unfold Jq;z_go;rw[ziC];z_go;rw[zjo];z_go;rw[show 26 * n + (c:Int) - 97=n * 26 + ((c:Int) - 97) by omega]
theorem Ze {a0 a1:Slot}:∀(cs:List Nat) (n:Int) (s2:Slot),∃s2',loopS 3 Jq (cs.map fun c=>.str ⟨#[c]⟩) [a0,a1,.val (.int n),s2] M=some (.nx [a0,a1,.val (.int (cs.foldl (fun(n:Int) (c:Nat)=>n * 26 + ((c:Int) - 97)) n)),s2'],M)
  | [],n,s2=>⟨s2,rfl⟩
  |c::cs,n,s2=>by
    obtain⟨s2',ih⟩:=Ze (a0:=a0) (a1:=a1) cs (n * 26 + ((c:Int) - 97)) (.val (.str ⟨#[c]⟩));refine⟨s2',?_⟩;rw[xaA,Q9,xab (by simp)];simp only[xcd,xce];rw[Tq,RB];exact ih
theorem zhm {z:Str}{l m:Int}(hl:fu [.str (b_ l)]=some (.int l))(hm:fu [.str (b_ m)]=some (.int m))(m0:0<m):Ck [.tup [.str (b_ l),.str (b_ m)],.str z] M=some (.v (.bl (decide (kn z % m=l))),M):=by
 obtain⟨s2,e⟩:=Ze (M:=M) (a0:=.val (.tup [.str (b_ l),.str (b_ m)])) (a1:=.val (.str z)) (cd z) 0 .un;unfold Ck Mi;z_go;rw[show z.cps.toList=cd z from rfl,e];z_go;rw[<-CW,hm];z_go;rw[xab m0];z_go;rw[<-CW,hl];z_go;rfl
variable {M:Mm}
noncomputable def zs (n:Nat):List Int:=List.replicate n 0
abbrev zD (n:Nat):List D:=(zs n).map D.int
theorem DP:∀n:Nat,0<n->lD (zs n)=0
  |0,h=>absurd h (by decide)
  |1,_=>rfl
  |n + 2,_=>by
    have ih:=DP (n + 1) (by omega);show lD (0::zs (n + 1))=0;have e:zs (n + 1)=0::zs n:=rfl;rw[e]at ih ⊢;unfold lD;rw[ih];rfl
theorem DK {n:Nat}(hn:0<n):wJ [.lst (zD n)]=some (.int 0):=by
 have hp:0<(zs n).length:=by unfold zs;rw[xbc];exact hn
 simp only[wJ,E3.ints_map,hp,xa6,DP n hn]
def fZ (c:Str)(fs:List (Str×D))(n:Nat)(M:Mm):Prop:=M[4]? =some (.obj c fs)/\M[5]? =some (.lst (zD n))
theorem fZ.app {c:Str}{fs:List (Str×D)}{n:Nat}{E:Mm}(h:fZ c fs n M):fZ c fs n (M ++ E):=⟨gW h.1,gW h.2⟩
abbrev fM (t:Int)(z:Str)(v:Int):D:=.tup [.str "thing",.int t,.str z,.int v]
abbrev fH (t:Int)(z:Str)(v:Int):D:=.tup [.int t,.str z,.int v]
theorem zjR {t v:Int}{z:Str}:R_ (fM t z v) (some 1) none=some (fH t z v):=rfl
theorem Hi:((Str.ofString "thing":Str)=Str.ofString "mark")=False:=xdz (by x_go)
theorem Jo {t v:Int}{z:Str}:nR [fH t z v] M=some (.v (fM t z v),M):=by kernel_rfl
theorem rep0 {env:E3.Env}{g:E}{n:Nat}(h:g env M=some (.v (.int n),M))(h1:n<=8):j_ (aP (aA (ak (.int 0)) ao)) g env M=some (.v (.lst (zD n)),M):=by
 rw[zhu];z_go;rw[zfg (i:=(n:Int)) h ⟨by omega,by simp⟩];congr 3;unfold zD zs
 simp
variable {M:Mm}
theorem za3 {fs:List (Str×D)}{n:Nat}(h:fZ "PourStation" fs n M)(hm:List.lookup ("marks":Str) fs=some (.ref 5))(hn:0<n):yd [.ref 4] M=some (.v (.int 0),M):=by
 have f:dU "PourStation" "marks" (aj 0) [.val (.ref 4)] M=some (.v (.ref 5),M):=mC (k:=4) rfl h.1 hm;have w:vw M (.ref 5)=.lst (zD n):=ur h.2;unfold yd Ie;generalize dU "PourStation" "marks" (aj 0)=F at f ⊢;z_go;rw[f];z_go;rw[w,DK hn];z_go
theorem zbc {fs:List (Str×D)}{n:Nat}{w t v:Int}{z:Str}{d:D}{M':Mm}(o:fZ "PourStation" fs n M)(hm:List.lookup ("take_thing":Str) fs=none)(h:yg [.ref 4,.int w,fH t z v] M=some (.v d,M')):Ak [.ref 4,.int w,fM t z v] M=some (.v d,M'):=by
 have m:aQ "PourStation" "take_thing" yg (aj 0) (aA (aj 1) (aA (gC (aj 2) (mO (ak (.int 1))) mZ) ao)) [.val (.ref 4),.val (.int w),.val (fM t z v)] M=some (.v d,M'):=gK (k:=4) (ds:=[.int w,fH t z v]) rfl o.1 hm rfl h;unfold Ak Ih;generalize aQ "PourStation" "take_thing" yg _ _=F at m ⊢;z_go;simp only[Hi];z_go;rw[m];z_go
theorem zbe {fs:List (Str×D)}{n:Nat}(h:fZ "PourStation" fs n M)(hm:List.lookup ("marks":Str) fs=some (.ref 5))(ha:List.lookup ("all_kept":Str) fs=none):Aj [.ref 4] M=some (.v (.tup [.lst (zD n),.lst []]),M):=by
 have f:dU "PourStation" "marks" (aj 0) [.val (.ref 4)] M=some (.v (.ref 5),M):=mC (k:=4) rfl h.1 hm;have w:vw M (.ref 5)=.lst (zD n):=ur h.2;have m:aQ "PourStation" "all_kept" Er (aj 0) ao [.val (.ref 4)] M=some (.v (.lst []),M):=gK (k:=4) (ds:=[]) rfl h.1 ha rfl rfl;unfold Aj Ig;generalize dU "PourStation" "marks" (aj 0)=F at f ⊢;generalize aQ "PourStation" "all_kept" Er (aj 0) ao=F2 at m ⊢;z_go;rw[f];z_go;rw[w];z_go;rw[m];z_go
theorem za6 {fs:List (Str×D)}{n:Nat}(h:fZ "KeepStation" fs n M)(hm:List.lookup ("marks":Str) fs=some (.ref 5))(hn:0<n):xX [.ref 4] M=some (.v (.int 0),M):=by
 have f:dU "KeepStation" "marks" (aj 0) [.val (.ref 4)] M=some (.v (.ref 5),M):=mC (k:=4) rfl h.1 hm;have w:vw M (.ref 5)=.lst (zD n):=ur h.2;unfold xX Hz;generalize dU "KeepStation" "marks" (aj 0)=F at f ⊢;z_go;rw[f];z_go;rw[w,DK hn];z_go
theorem zbb {fs:List (Str×D)}{n:Nat}{w t v:Int}{z:Str}{d:D}{M':Mm}(o:fZ "KeepStation" fs n M)(hm:List.lookup ("take_thing":Str) fs=none)(h:xY [.ref 4,.int w,fH t z v] M=some (.v d,M')):Ac [.ref 4,.int w,fM t z v] M=some (.v d,M'):=by
 have m:aQ "KeepStation" "take_thing" xY (aj 0) (aA (aj 1) (aA (gC (aj 2) (mO (ak (.int 1))) mZ) ao)) [.val (.ref 4),.val (.int w),.val (fM t z v)] M=some (.v d,M'):=gK (k:=4) (ds:=[.int w,fH t z v]) rfl o.1 hm rfl h;unfold Ac HF;generalize aQ "KeepStation" "take_thing" xY _ _=F at m ⊢;z_go;simp only[Hi];z_go;rw[m];z_go
theorem zbh {fs:List (Str×D)}{n:Nat}(h:fZ "KeepStation" fs n M)(hm:List.lookup ("marks":Str) fs=some (.ref 5))(ha:List.lookup ("all_kept":Str) fs=none):Ab [.ref 4] M=some (.v (.tup [.lst (zD n),.lst []]),M):=by
 have f:dU "KeepStation" "marks" (aj 0) [.val (.ref 4)] M=some (.v (.ref 5),M):=mC (k:=4) rfl h.1 hm;have w:vw M (.ref 5)=.lst (zD n):=ur h.2;have m:aQ "KeepStation" "all_kept" Ep (aj 0) ao [.val (.ref 4)] M=some (.v (.lst []),M):=gK (k:=4) (ds:=[]) rfl h.1 ha rfl rfl;unfold Ab HD;generalize dU "KeepStation" "marks" (aj 0)=F at f ⊢;generalize aQ "KeepStation" "all_kept" Ep (aj 0) ao=F2 at m ⊢;z_go;rw[f];z_go;rw[w];z_go;rw[m];z_go
theorem za2 {fs:List (Str×D)}{n:Nat}(h:fZ "TurnStation" fs n M)(hm:List.lookup ("marks":Str) fs=some (.ref 5))(hn:0<n):yp [.ref 4] M=some (.v (.int 0),M):=by
 have f:dU "TurnStation" "marks" (aj 0) [.val (.ref 4)] M=some (.v (.ref 5),M):=mC (k:=4) rfl h.1 hm;have w:vw M (.ref 5)=.lst (zD n):=ur h.2;unfold yp Iv;generalize dU "TurnStation" "marks" (aj 0)=F at f ⊢;z_go;rw[f];z_go;rw[w,DK hn];z_go
theorem zbg {fs:List (Str×D)}{n:Nat}{w t v:Int}{z:Str}{d:D}{M':Mm}(o:fZ "TurnStation" fs n M)(hm:List.lookup ("take_thing":Str) fs=none)(h:yq [.ref 4,.int w,fH t z v] M=some (.v d,M')):Aw [.ref 4,.int w,fM t z v] M=some (.v d,M'):=by
 have m:aQ "TurnStation" "take_thing" yq (aj 0) (aA (aj 1) (aA (gC (aj 2) (mO (ak (.int 1))) mZ) ao)) [.val (.ref 4),.val (.int w),.val (fM t z v)] M=some (.v d,M'):=gK (k:=4) (ds:=[.int w,fH t z v]) rfl o.1 hm rfl h;unfold Aw Iz;generalize aQ "TurnStation" "take_thing" yq _ _=F at m ⊢;z_go;simp only[Hi];z_go;rw[m];z_go
theorem zbd {fs:List (Str×D)}{n:Nat}(h:fZ "TurnStation" fs n M)(hm:List.lookup ("marks":Str) fs=some (.ref 5))(ha:List.lookup ("all_kept":Str) fs=none):Av [.ref 4] M=some (.v (.tup [.lst (zD n),.lst []]),M):=by
 have f:dU "TurnStation" "marks" (aj 0) [.val (.ref 4)] M=some (.v (.ref 5),M):=mC (k:=4) rfl h.1 hm;have w:vw M (.ref 5)=.lst (zD n):=ur h.2;have m:aQ "TurnStation" "all_kept" Eu (aj 0) ao [.val (.ref 4)] M=some (.v (.lst []),M):=gK (k:=4) (ds:=[]) rfl h.1 ha rfl rfl;unfold Av Iw;generalize dU "TurnStation" "marks" (aj 0)=F at f ⊢;generalize aQ "TurnStation" "all_kept" Eu (aj 0) ao=F2 at m ⊢;z_go;rw[f];z_go;rw[w];z_go;rw[m];z_go
theorem zaV {fs:List (Str×D)}{n:Nat}(h:fZ "ShareStation" fs n M)(hm:List.lookup ("marks":Str) fs=some (.ref 5))(hn:0<n):yh [.ref 4] M=some (.v (.int 0),M):=by
 have f:dU "ShareStation" "marks" (aj 0) [.val (.ref 4)] M=some (.v (.ref 5),M):=mC (k:=4) rfl h.1 hm;have w:vw M (.ref 5)=.lst (zD n):=ur h.2;unfold yh Il;generalize dU "ShareStation" "marks" (aj 0)=F at f ⊢;z_go;rw[f];z_go;rw[w,DK hn];z_go
theorem za5 {fs:List (Str×D)}{n:Nat}{w t v:Int}{z:Str}{d:D}{M':Mm}(o:fZ "ShareStation" fs n M)(hm:List.lookup ("take_thing":Str) fs=none)(h:yj [.ref 4,.int w,fH t z v] M=some (.v d,M')):Ao [.ref 4,.int w,fM t z v] M=some (.v d,M'):=by
 have m:aQ "ShareStation" "take_thing" yj (aj 0) (aA (aj 1) (aA (gC (aj 2) (mO (ak (.int 1))) mZ) ao)) [.val (.ref 4),.val (.int w),.val (fM t z v)] M=some (.v d,M'):=gK (k:=4) (ds:=[.int w,fH t z v]) rfl o.1 hm rfl h;unfold Ao Io;generalize aQ "ShareStation" "take_thing" yj _ _=F at m ⊢;z_go;simp only[Hi];z_go;rw[m];z_go
theorem za8 {fs:List (Str×D)}{n:Nat}(h:fZ "ShareStation" fs n M)(hm:List.lookup ("marks":Str) fs=some (.ref 5))(ha:List.lookup ("all_kept":Str) fs=none):Am [.ref 4] M=some (.v (.tup [.lst (zD n),.lst []]),M):=by
 have f:dU "ShareStation" "marks" (aj 0) [.val (.ref 4)] M=some (.v (.ref 5),M):=mC (k:=4) rfl h.1 hm;have w:vw M (.ref 5)=.lst (zD n):=ur h.2;have m:aQ "ShareStation" "all_kept" Et (aj 0) ao [.val (.ref 4)] M=some (.v (.lst []),M):=gK (k:=4) (ds:=[]) rfl h.1 ha rfl rfl;unfold Am Im;generalize dU "ShareStation" "marks" (aj 0)=F at f ⊢;generalize aQ "ShareStation" "all_kept" Et (aj 0) ao=F2 at m ⊢;z_go;rw[f];z_go;rw[w];z_go;rw[m];z_go
theorem zbi {fs:List (Str×D)}{n:Nat}(h:fZ "OutStation" fs n M)(hm:List.lookup ("marks":Str) fs=some (.ref 5))(hn:0<n):xZ [.ref 4] M=some (.v (.int 0),M):=by
 have f:dU "OutStation" "marks" (aj 0) [.val (.ref 4)] M=some (.v (.ref 5),M):=mC (k:=4) rfl h.1 hm;have w:vw M (.ref 5)=.lst (zD n):=ur h.2;unfold xZ HX;generalize dU "OutStation" "marks" (aj 0)=F at f ⊢;z_go;rw[f];z_go;rw[w,DK hn];z_go
theorem zbm {fs:List (Str×D)}{n:Nat}{w t v:Int}{z:Str}{d:D}{M':Mm}(o:fZ "OutStation" fs n M)(hm:List.lookup ("take_thing":Str) fs=none)(h:yc [.ref 4,.int w,fH t z v] M=some (.v d,M')):Ah [.ref 4,.int w,fM t z v] M=some (.v d,M'):=by
 have m:aQ "OutStation" "take_thing" yc (aj 0) (aA (aj 1) (aA (gC (aj 2) (mO (ak (.int 1))) mZ) ao)) [.val (.ref 4),.val (.int w),.val (fM t z v)] M=some (.v d,M'):=gK (k:=4) (ds:=[.int w,fH t z v]) rfl o.1 hm rfl h;unfold Ah H_;generalize aQ "OutStation" "take_thing" yc _ _=F at m ⊢;z_go;simp only[Hi];z_go;rw[m];z_go
theorem zbl {fs:List (Str×D)}{n j:Nat}{ks:List D}(h:fZ "OutStation" fs n M)(hm:List.lookup ("marks":Str) fs=some (.ref 5))(hk:List.lookup ("kept":Str) fs=some (.ref j))(ha:List.lookup ("all_kept":Str) fs=none)(hj:M[j]? =some (.lst ks)):Ag [.ref 4] M=some (.v (.tup [.lst (zD n),.lst ks]),M):=by
 have f:dU "OutStation" "marks" (aj 0) [.val (.ref 4)] M=some (.v (.ref 5),M):=mC (k:=4) rfl h.1 hm;have w:vw M (.ref 5)=.lst (zD n):=ur h.2;have a:Af [.ref 4] M=some (.v (.lst ks),M):=by
  have f:dU "OutStation" "kept" (aj 0) [.val (.ref 4)] M=some (.v (.ref j),M):=mC (k:=4) rfl h.1 hk;have w:vw M (.ref j)=.lst ks:=ur hj;unfold Af HW;generalize dU "OutStation" "kept" (aj 0)=F at f ⊢;z_go;rw[f];z_go;rw[w];z_go
 have m:aQ "OutStation" "all_kept" Af (aj 0) ao [.val (.ref 4)] M=some (.v (.lst ks),M):=gK (k:=4) (ds:=[]) rfl h.1 ha rfl a;unfold Ag HY;generalize dU "OutStation" "marks" (aj 0)=F at f ⊢;generalize aQ "OutStation" "all_kept" Af (aj 0) ao=F2 at m ⊢;z_go;rw[f];z_go;rw[w];z_go;rw[m];z_go
variable {M:Mm}
def Good (t:Int)(z:Str)(v:Int):Prop:=t.natAbs<=1000000000000000/\v.natAbs<=1000000000000000000000000000000000000000000000000000000000000000/\u_ z
theorem Tz {w t v:Int}{z:Str}:yg [.ref 4,.int w,fH t z v] M=some (.v (.lst [fM t z v]),M):=by
 have fi:=Jo (M:=M) (t:=t) (z:=z) (v:=v);unfold yg Ii;generalize nR=G at fi ⊢;z_go;rw[fi];z_go
abbrev Eh (f:Nat):List (Str×D):=[("marks",.ref 5),("sieve",.ref f)]
abbrev Em (f:Nat):List (Str×D):=[("marks",.ref 5),("turn",.ref f)]
abbrev El (f:Nat):List (Str×D):=[("marks",.ref 5),("is_shared",.ref f)]
abbrev Ej (f:Nat):List (Str×D):=[("marks",.ref 5),("kept",.ref f)]
abbrev Vw:List (Str×D):=[("marks",.ref 5)]
theorem Tv {n f k:Nat}{form nh w t v:Int}{z:Str}(h:fZ "KeepStation" (Eh f) n M)(hf:M[f]? =some (DX k))(hk:M[k]? =some (wA (lO form nh)))(hn:nh.natAbs<100000000000000000000)(g:Good t z v):xY [.ref 4,.int w,fH t z v] M=some (.v (.lst (if gq form nh t v then [fM t z v] else [])),M ++ [.lst [.bl (gq form nh t v)]]):=by
 have fl:dU "KeepStation" "sieve" (aj 0) [.val (.ref 4),.val (.int w),.val (fH t z v)] M=some (.v (.ref f),M):=mC (k:=4) rfl h.1 (by kernel_rfl);have cf:lU pO Cz (dU "KeepStation" "sieve" (aj 0)) (aA (s2 aO (aj 2) (ak (.int 0))) (aA (s2 aO (aj 2) (ak (.int 2))) ao)) [.val (.ref 4),.val (.int w),.val (fH t z v)] M=some (.v (.bl (gq form nh t v)),M ++ [.lst [.bl (gq form nh t v)]]):=
  Je (M1:=M) (M2:=M) (k:=f) (ds:=[.int t,.int v]) fl hf rfl (Nf hk (RG hn g.1 g.2.1))
 have fi:=Jo (M:=M ++ [.lst [.bl (gq form nh t v)]]) (t:=t) (z:=z) (v:=v);unfold xY HJ;generalize lU pO Cz _ _=F at cf ⊢;generalize nR=G at fi ⊢;generalize M ++ [.lst [.bl (gq form nh t v)]]=M' at cf fi ⊢;z_go;rw[cf];z_go;cases gq form nh t v
 ·z_go
 ·z_go;rw[fi];z_go
theorem TV {n f j k:Nat}{form nh w t v:Int}{z:Str}(h:fZ "TurnStation" (Em f) n M)(hf:M[f]? =some (DY j))(hj:M[j]? =some (z8 k))(hk:M[k]? =some (sG (lR form nh)))(hn:nh.natAbs<100000000000000000000)(g:Good t z v):yq [.ref 4,.int w,fH t z v] M=some (.v (.lst [fM t z (hold (fX form nh t v))]),M ++ [.lst [.int (fX form nh t v)]]):=by
 have fl:dU "TurnStation" "turn" (aj 0) [.val (.ref 4),.val (.int w),.val (fH t z v)] M=some (.v (.ref f),M):=mC (k:=4) rfl h.1 (by kernel_rfl);have cf:lU pP CJ (dU "TurnStation" "turn" (aj 0)) (aA (aj 2) ao) [.val (.ref 4),.val (.int w),.val (fH t z v)] M=some (.v (fH t z (hold (fX form nh t v))),M ++ [.lst [.int (fX form nh t v)]]):=
  Je (M1:=M) (M2:=M) (k:=f) (ds:=[fH t z v]) fl hf rfl (Ng hj hk (RJ hn g.1 g.2.1))
 have fi:=Jo (M:=M ++ [.lst [.int (fX form nh t v)]]) (t:=t) (z:=z) (v:=hold (fX form nh t v));unfold yq IK;generalize lU pP CJ _ _=F at cf ⊢;generalize nR=G at fi ⊢;generalize hold (fX form nh t v)=y at cf fi ⊢;generalize M ++ [.lst [.int (fX form nh t v)]]=M' at cf fi ⊢;z_go;rw[cf];z_go;rw[fi];z_go
theorem TF {n f:Nat}{l m w t v:Int}{z:Str}(h:fZ "ShareStation" (El f) n M)(hf:M[f]? =some (.fn lu (lG l m)))(m0:0<m)(g:Good t z v):yj [.ref 4,.int w,fH t z v] M=some (.v (.lst (if decide (kn z % m=l) then [fM t z v] else [])),M):=by
 have fl:dU "ShareStation" "is_shared" (aj 0) [.val (.ref 4),.val (.int w),.val (fH t z v)] M=some (.v (.ref f),M):=mC (k:=4) rfl h.1 (by kernel_rfl);have cf:lU lu Cy (dU "ShareStation" "is_shared" (aj 0)) (aA (s2 aO (aj 2) (ak (.int 1))) ao) [.val (.ref 4),.val (.int w),.val (fH t z v)] M=some (.v (.bl (decide (kn z % m=l))),M):=
  Je (M1:=M) (M2:=M) (k:=f) (fc:=lG l m) (ds:=[.str z]) fl hf rfl (zeQ g.2.2 m0)
 have fi:=Jo (M:=M) (t:=t) (z:=z) (v:=v);unfold yj Ip;generalize lU lu Cy _ _=F at cf ⊢;generalize nR=G at fi ⊢;generalize decide (kn z % m=l)=y at cf ⊢;z_go;rw[cf];z_go;cases y
 ·z_go
 ·z_go;rw[fi];z_go
theorem Tw {n f:Nat}{w t v:Int}{z:Str}{ks:List D}(h:fZ "OutStation" (Ej f) n M)(hf:M[f]? =some (.lst ks))(hl:ks.length<1000):yc [.ref 4,.int w,fH t z v] M=some (.v (.lst []),M.set f (.lst (ks ++ [fH t z v]))):=by
 have fl:dU "OutStation" "kept" (aj 0) [.val (.ref 4),.val (.int w),.val (fH t z v)] M=some (.v (.ref f),M):=mC (k:=4) rfl h.1 (by kernel_rfl);have ap:pW (dU "OutStation" "kept" (aj 0)) (aj 2) [.val (.ref 4),.val (.int w),.val (fH t z v)] M=some (.nx [.val (.ref 4),.val (.int w),.val (fH t z v)],M.set f (.lst (ks ++ [fH t z v]))):=ziE fl hf rfl hf (by rw[xaY];omega);unfold yc Ia;generalize pW _ _=F at ap ⊢;z_go;rw[ap];z_go
variable {M:Mm}
def Z0:Mm:=mK tabs
theorem wz {N:Mm}{i j:Nat}{c c' o:E3.Cl}(h:N[i]? =some c)(hj:N[j]? =some o)(ne:c≠o):(N.set j c')[i]? =some c:=by
 have:j≠i:=fun e=>by
  rw[e,h]at hj;exact ne (xau hj)
 rw[xby this];exact h
theorem KH {N:Mm}{j:Nat}{c' o:E3.Cl}(hj:N[j]? =some o):(N.set j c')[j]? =some c':=xbN (xak.mp hj).1
theorem g_:(Str.ofString "keep"≠Str.ofString "turn")/\(Str.ofString "keep"≠Str.ofString "share")/\(Str.ofString "keep"≠Str.ofString "out")/\(Str.ofString "turn"≠Str.ofString "keep")/\(Str.ofString "turn"≠Str.ofString "out")/\(Str.ofString "share"≠Str.ofString "keep")/\(Str.ofString "share"≠Str.ofString "turn")/\(Str.ofString "share"≠Str.ofString "out")/\
  (Str.ofString "pour"≠Str.ofString "keep")/\(Str.ofString "pour"≠Str.ofString "turn")/\(Str.ofString "pour"≠Str.ofString "share")/\(Str.ofString "pour"≠Str.ofString "out")/\(Str.ofString "out"≠Str.ofString "keep")/\(Str.ofString "out"≠Str.ofString "turn")/\(Str.ofString "out"≠Str.ofString "share")/\(Str.ofString "out"≠Str.ofString "pour")/\(Str.ofString "out"≠Str.ofString "gap")/\(Str.ofString "out"≠Str.ofString "join"):=by x_go
theorem zbf {fr:List D}{x0 x1 x3:D}{n:Nat}(hm:fr.length=n)(h1:n<=8):Ai [.ref 4,.tup [x0,x1,.tup fr,x3]] (Z0 ++ [.obj "PourStation" []])=some (.v .non,Z0 ++ [.obj "PourStation" [("marks",.ref 5)],.lst (zD n)]):=by
 have rp := rep0 (M := Z0 ++ [.obj "PourStation" []]) (env := [.val (.ref 4), .val (.tup [x0, x1, .tup fr, x3])]) (g := sN dJ (aA (s2 aO (aj 1) (ak (.int 2))) ao)) (n := n) (by
  z_go;rw[hm]) h1
 unfold Ai Ib;generalize hF:mQ (j_ (aP (aA (ak (.int 0)) ao)) (sN dJ (aA (s2 aO (aj 1) (ak (.int 2))) ao)))=F;have fc:F [.val (.ref 4),.val (.tup [x0,x1,.tup fr,x3])] (Z0 ++ [.obj "PourStation" []])=some (.v (.ref 5),Z0 ++ [.obj "PourStation" []] ++ [.lst (zD n)]):=by
  rw[<-hF];generalize j_ (aP (aA (ak (.int 0)) ao)) (sN dJ (aA (s2 aO (aj 1) (ak (.int 2))) ao))=F2 at rp ⊢;z_go;rw[rp];rfl
 rw[pU,Dc];show eO (kh au (gF "PourStation" "marks" (aj 0) F [.val (.ref 4),.val (.tup [x0,x1,.tup fr,x3])] (Z0 ++ [.obj "PourStation" []])))=_;rw[sX (k:=4) (x:=.ref 5) (M1:=Z0 ++ [.obj "PourStation" []] ++ [.lst (zD n)]) (M2:=Z0 ++ [.obj "PourStation" []] ++ [.lst (zD n)]) (fs:=[]) fc rfl rfl (by decide)];rfl
theorem zba {fr:List D}{x0 x1 x3:D}{n:Nat}(hm:fr.length=n)(h1:n<=8):Ca [.ref 4,.tup [x0,x1,.tup fr,x3]] (Z0 ++ [.obj "KeepStation" []])=some (.v .non,Z0 ++ [.obj "KeepStation" [("marks",.ref 5)],.lst (zD n)]):=by
 have rp := rep0 (M := Z0 ++ [.obj "KeepStation" []]) (env := [.val (.ref 4), .val (.tup [x0, x1, .tup fr, x3])]) (g := sN dJ (aA (s2 aO (aj 1) (ak (.int 2))) ao)) (n := n) (by
  z_go;rw[hm]) h1
 unfold Ca Hx;generalize hF:mQ (j_ (aP (aA (ak (.int 0)) ao)) (sN dJ (aA (s2 aO (aj 1) (ak (.int 2))) ao)))=F;have fc:F [.val (.ref 4),.val (.tup [x0,x1,.tup fr,x3])] (Z0 ++ [.obj "KeepStation" []])=some (.v (.ref 5),Z0 ++ [.obj "KeepStation" []] ++ [.lst (zD n)]):=by
  rw[<-hF];generalize j_ (aP (aA (ak (.int 0)) ao)) (sN dJ (aA (s2 aO (aj 1) (ak (.int 2))) ao))=F2 at rp ⊢;z_go;rw[rp];rfl
 rw[pU,Dc];show eO (kh au (gF "KeepStation" "marks" (aj 0) F [.val (.ref 4),.val (.tup [x0,x1,.tup fr,x3])] (Z0 ++ [.obj "KeepStation" []])))=_;rw[sX (k:=4) (x:=.ref 5) (M1:=Z0 ++ [.obj "KeepStation" []] ++ [.lst (zD n)]) (M2:=Z0 ++ [.obj "KeepStation" []] ++ [.lst (zD n)]) (fs:=[]) fc rfl rfl (by decide)];rfl
theorem za9 {fr:List D}{x0 x1 x3:D}{n:Nat}(hm:fr.length=n)(h1:n<=8):Cg [.ref 4,.tup [x0,x1,.tup fr,x3]] (Z0 ++ [.obj "TurnStation" []])=some (.v .non,Z0 ++ [.obj "TurnStation" [("marks",.ref 5)],.lst (zD n)]):=by
 have rp := rep0 (M := Z0 ++ [.obj "TurnStation" []]) (env := [.val (.ref 4), .val (.tup [x0, x1, .tup fr, x3])]) (g := sN dJ (aA (s2 aO (aj 1) (ak (.int 2))) ao)) (n := n) (by
  z_go;rw[hm]) h1
 unfold Cg Ir;generalize hF:mQ (j_ (aP (aA (ak (.int 0)) ao)) (sN dJ (aA (s2 aO (aj 1) (ak (.int 2))) ao)))=F;have fc:F [.val (.ref 4),.val (.tup [x0,x1,.tup fr,x3])] (Z0 ++ [.obj "TurnStation" []])=some (.v (.ref 5),Z0 ++ [.obj "TurnStation" []] ++ [.lst (zD n)]):=by
  rw[<-hF];generalize j_ (aP (aA (ak (.int 0)) ao)) (sN dJ (aA (s2 aO (aj 1) (ak (.int 2))) ao))=F2 at rp ⊢;z_go;rw[rp];rfl
 rw[pU,Dc];show eO (kh au (gF "TurnStation" "marks" (aj 0) F [.val (.ref 4),.val (.tup [x0,x1,.tup fr,x3])] (Z0 ++ [.obj "TurnStation" []])))=_;rw[sX (k:=4) (x:=.ref 5) (M1:=Z0 ++ [.obj "TurnStation" []] ++ [.lst (zD n)]) (M2:=Z0 ++ [.obj "TurnStation" []] ++ [.lst (zD n)]) (fs:=[]) fc rfl rfl (by decide)];rfl
theorem za4 {fr:List D}{x0 x1 x3:D}{n:Nat}(hm:fr.length=n)(h1:n<=8):Ce [.ref 4,.tup [x0,x1,.tup fr,x3]] (Z0 ++ [.obj "ShareStation" []])=some (.v .non,Z0 ++ [.obj "ShareStation" [("marks",.ref 5)],.lst (zD n)]):=by
 have rp := rep0 (M := Z0 ++ [.obj "ShareStation" []]) (env := [.val (.ref 4), .val (.tup [x0, x1, .tup fr, x3])]) (g := sN dJ (aA (s2 aO (aj 1) (ak (.int 2))) ao)) (n := n) (by
  z_go;rw[hm]) h1
 unfold Ce Ij;generalize hF:mQ (j_ (aP (aA (ak (.int 0)) ao)) (sN dJ (aA (s2 aO (aj 1) (ak (.int 2))) ao)))=F;have fc:F [.val (.ref 4),.val (.tup [x0,x1,.tup fr,x3])] (Z0 ++ [.obj "ShareStation" []])=some (.v (.ref 5),Z0 ++ [.obj "ShareStation" []] ++ [.lst (zD n)]):=by
  rw[<-hF];generalize j_ (aP (aA (ak (.int 0)) ao)) (sN dJ (aA (s2 aO (aj 1) (ak (.int 2))) ao))=F2 at rp ⊢;z_go;rw[rp];rfl
 rw[pU,Dc];show eO (kh au (gF "ShareStation" "marks" (aj 0) F [.val (.ref 4),.val (.tup [x0,x1,.tup fr,x3])] (Z0 ++ [.obj "ShareStation" []])))=_;rw[sX (k:=4) (x:=.ref 5) (M1:=Z0 ++ [.obj "ShareStation" []] ++ [.lst (zD n)]) (M2:=Z0 ++ [.obj "ShareStation" []] ++ [.lst (zD n)]) (fs:=[]) fc rfl rfl (by decide)];rfl
theorem zbq {fr:List D}{x0 x1 x3:D}{n:Nat}(hm:fr.length=n)(h1:n<=8):Cd [.ref 4,.tup [x0,x1,.tup fr,x3]] (Z0 ++ [.obj "OutStation" []])=some (.v .non,Z0 ++ [.obj "OutStation" [("marks",.ref 5)],.lst (zD n)]):=by
 have rp := rep0 (M := Z0 ++ [.obj "OutStation" []]) (env := [.val (.ref 4), .val (.tup [x0, x1, .tup fr, x3])]) (g := sN dJ (aA (s2 aO (aj 1) (ak (.int 2))) ao)) (n := n) (by
  z_go;rw[hm]) h1
 unfold Cd HN;generalize hF:mQ (j_ (aP (aA (ak (.int 0)) ao)) (sN dJ (aA (s2 aO (aj 1) (ak (.int 2))) ao)))=F;have fc:F [.val (.ref 4),.val (.tup [x0,x1,.tup fr,x3])] (Z0 ++ [.obj "OutStation" []])=some (.v (.ref 5),Z0 ++ [.obj "OutStation" []] ++ [.lst (zD n)]):=by
  rw[<-hF];generalize j_ (aP (aA (ak (.int 0)) ao)) (sN dJ (aA (s2 aO (aj 1) (ak (.int 2))) ao))=F2 at rp ⊢;z_go;rw[rp];rfl
 rw[pU,Dc];show eO (kh au (gF "OutStation" "marks" (aj 0) F [.val (.ref 4),.val (.tup [x0,x1,.tup fr,x3])] (Z0 ++ [.obj "OutStation" []])))=_;rw[sX (k:=4) (x:=.ref 5) (M1:=Z0 ++ [.obj "OutStation" []] ++ [.lst (zD n)]) (M2:=Z0 ++ [.obj "OutStation" []] ++ [.lst (zD n)]) (fs:=[]) fc rfl rfl (by decide)];rfl
variable {M:Mm}
theorem zeo {x2 x3:D}{M':Mm}(mk:k_ "KeepStation" Aa (aA (aj 0) ao) [.val (.tup [.str "keep",.str "k",x2,x3])] Z0=some (.v (.ref 4),M')):lq [.tup [.str "keep",.str "k",x2,x3]] Z0=some (.v (.ref 4),M'):=by
 unfold lq z6;generalize k_ "KeepStation" Aa (aA (aj 0) ao)=F at mk ⊢;generalize Z0=Z at mk ⊢;z_go;rw[mk];z_go
theorem zdO {x2 x3:D}{M':Mm}(mk:k_ "TurnStation" Aq (aA (aj 0) ao) [.val (.tup [.str "turn",.str "k",x2,x3])] Z0=some (.v (.ref 4),M')):lq [.tup [.str "turn",.str "k",x2,x3]] Z0=some (.v (.ref 4),M'):=by
 unfold lq z6;generalize k_ "TurnStation" Aq (aA (aj 0) ao)=F at mk ⊢;generalize Z0=Z at mk ⊢;z_go;simp only[g_,xaj];z_go;rw[mk];z_go
theorem zds {x2 x3:D}{M':Mm}(mk:k_ "ShareStation" Al (aA (aj 0) ao) [.val (.tup [.str "share",.str "k",x2,x3])] Z0=some (.v (.ref 4),M')):lq [.tup [.str "share",.str "k",x2,x3]] Z0=some (.v (.ref 4),M'):=by
 unfold lq z6;generalize k_ "ShareStation" Al (aA (aj 0) ao)=F at mk ⊢;generalize Z0=Z at mk ⊢;z_go;simp only[g_,xaj];z_go;simp only[g_,xaj];z_go;rw[mk];z_go
theorem zdX {x2 x3:D}{M':Mm}(mk:k_ "PourStation" Ai (aA (aj 0) ao) [.val (.tup [.str "pour",.str "k",x2,x3])] Z0=some (.v (.ref 4),M')):lq [.tup [.str "pour",.str "k",x2,x3]] Z0=some (.v (.ref 4),M'):=by
 unfold lq z6;generalize k_ "PourStation" Ai (aA (aj 0) ao)=F at mk ⊢;generalize Z0=Z at mk ⊢;z_go;simp only[g_,xaj];z_go;simp only[g_,xaj];z_go;simp only[g_,xaj];z_go;rw[mk];z_go
theorem zfv {x2 x3:D}{M':Mm}(mk:k_ "OutStation" Ae (aA (aj 0) ao) [.val (.tup [.str "out",.str "k",x2,x3])] Z0=some (.v (.ref 4),M')):lq [.tup [.str "out",.str "k",x2,x3]] Z0=some (.v (.ref 4),M'):=by
 unfold lq z6;generalize k_ "OutStation" Ae (aA (aj 0) ao)=F at mk ⊢;generalize Z0=Z at mk ⊢;have n6:aK .isin (.str "out") (.tup [.str "fixed",.str "slide"])=some (.bl false):=by kernel_rfl
 z_go;simp only[g_,xaj];z_go;simp only[g_,xaj];z_go;simp only[g_,xaj];z_go;simp only[g_,xaj];z_go;rw[n6];z_go;simp only[g_,xaj];z_go;simp only[g_,xaj];z_go;rw[mk];z_go
theorem zT {c:E3.Cl}{l:E3.Cl}:TT (Z0 ++ [c,l]):=⟨rfl,rfl,rfl,rfl⟩
theorem z4 {c:E3.Cl}{l:E3.Cl}:(Z0 ++ [c,l])[4]? =some c:=rfl
theorem z5 {c:E3.Cl}{l:E3.Cl}:(Z0 ++ [c,l])[5]? =some l:=rfl
theorem OJ {ws:List Str}{fr:List D}{n:Nat}(hm:fr.length=n)(h1:n<=8)(hs:∀x∈ws,sm x)(hl:ws.length<=900)(h:runK "tv" ws.reverse []=some [Str.ofString "truth"]):∃M' f k,lq [.tup [.str "keep",.str "k",.tup fr,.tup (ws.map D.str)]] Z0=some (.v (.ref 4),M')/\fZ "KeepStation" (Eh f) n M'/\M'[f]? =some (DX k)/\M'[k]? =some (wA ws):=by
 have b0:=zba (x0:=.str "keep") (x1:=.str "k") (x3:=.tup (ws.map D.str)) hm h1;obtain⟨f,k,E,e1,e2,e3⟩:=zi9 (M:=Z0 ++ [.obj "KeepStation" [("marks",.ref 5)],.lst (zD n)]) zT hs hl h;generalize hM1:Z0 ++ [E3.Cl.obj "KeepStation" [("marks",.ref 5)],E3.Cl.lst (zD n)]=M1 at *;have o4:(M1 ++ E)[4]? =some (.obj "KeepStation" [("marks",.ref 5)]):=gW (by rw[<-hM1];exact z4);have o5:(M1 ++ E)[5]? =some (.lst (zD n)):=gW (by rw[<-hM1];exact z5);have b1:gF "KeepStation" "sieve" (aj 0) (dW Az (aA (s2 aO (aj 1) (ak (.int 3))) ao)) [.val (.ref 4),.val (.tup [.str "keep",.str "k",.tup fr,.tup (ws.map D.str)])] M1=some (.nx [.val (.ref 4),.val (.tup [.str "keep",.str "k",.tup fr,.tup (ws.map D.str)])],(M1 ++ E).set 4 (.obj "KeepStation" (Eh f))):=by
  rw [sX (k := 4) (x := .ref f) (M1 := M1 ++ E) (M2 := M1 ++ E) (fs := [("marks", .ref 5)]) (by
   generalize Az=G at e1 ⊢;z_go;rw[e1];z_go) rfl o4 (by decide)]
  rfl
 have i0:Aa [.ref 4,.tup [.str "keep",.str "k",.tup fr,.tup (ws.map D.str)]] (Z0 ++ [.obj "KeepStation" []])=some (.v .non,(M1 ++ E).set 4 (.obj "KeepStation" (Eh f))):=by
  unfold Aa Hy;generalize gF "KeepStation" "sieve" (aj 0) _=F1 at b1 ⊢;generalize Ca=G at b0 ⊢;generalize Z0 ++ [E3.Cl.obj "KeepStation" []]=M0 at b0 ⊢;z_go;rw[b0];z_go;rw[b1];z_go
 exact⟨_,f,k,zeo (Bd (M1:=Z0) rfl i0),⟨KH o4,wz o5 o4 nofun⟩,wz e2 o4 nofun,wz e3 o4 (fun e=>by cases e)⟩
theorem O4 {ws:List Str}{fr:List D}{n:Nat}(hm:fr.length=n)(h1:n<=8)(hs:∀x∈ws,sm x)(hl:ws.length<=900)(h:runK "tv" ws.reverse []=some [Str.ofString "number"]):∃M' f j k,lq [.tup [.str "turn",.str "k",.tup fr,.tup (ws.map D.str)]] Z0=some (.v (.ref 4),M')/\fZ "TurnStation" (Em f) n M'/\M'[f]? =some (DY j)/\M'[j]? =some (z8 k)/\M'[k]? =some (sG ws):=by
 have b0:=za9 (x0:=.str "turn") (x1:=.str "k") (x3:=.tup (ws.map D.str)) hm h1;obtain⟨f,j,k,E,e1,e2,e3,e4⟩:=zhP (x0:=.str "turn") (x1:=.str "k") (x2:=.tup fr) (M:=Z0 ++ [.obj "TurnStation" [("marks",.ref 5)],.lst (zD n)]) zT hs hl h;generalize hM1:Z0 ++ [E3.Cl.obj "TurnStation" [("marks",.ref 5)],E3.Cl.lst (zD n)]=M1 at *;have o4:(M1 ++ E)[4]? =some (.obj "TurnStation" [("marks",.ref 5)]):=gW (by rw[<-hM1];exact z4);have o5:(M1 ++ E)[5]? =some (.lst (zD n)):=gW (by rw[<-hM1];exact z5);have b1:gF "TurnStation" "turn" (aj 0) (dW A_ (aA (aj 1) ao)) [.val (.ref 4),.val (.tup [.str "turn",.str "k",.tup fr,.tup (ws.map D.str)])] M1=some (.nx [.val (.ref 4),.val (.tup [.str "turn",.str "k",.tup fr,.tup (ws.map D.str)])],(M1 ++ E).set 4 (.obj "TurnStation" (Em f))):=by
  rw [sX (k := 4) (x := .ref f) (M1 := M1 ++ E) (M2 := M1 ++ E) (fs := [("marks", .ref 5)]) (by
   generalize A_=G at e1 ⊢;z_go;rw[e1];z_go) rfl o4 (by decide)]
  rfl
 have i0:Aq [.ref 4,.tup [.str "turn",.str "k",.tup fr,.tup (ws.map D.str)]] (Z0 ++ [.obj "TurnStation" []])=some (.v .non,(M1 ++ E).set 4 (.obj "TurnStation" (Em f))):=by
  unfold Aq Iu;generalize gF "TurnStation" "turn" (aj 0) _=F1 at b1 ⊢;generalize Cg=G at b0 ⊢;generalize Z0 ++ [E3.Cl.obj "TurnStation" []]=M0 at b0 ⊢;z_go;rw[b0];z_go;rw[b1];z_go
 exact⟨_,f,j,k,zdO (Bd (M1:=Z0) rfl i0),⟨KH o4,wz o5 o4 nofun⟩,wz e2 o4 nofun,wz e3 o4 nofun,wz e4 o4 (fun e=>by cases e)⟩
theorem O3 {l m:Int}{fr:List D}{n:Nat}(hm:fr.length=n)(h1:n<=8)(il:fu [.str (b_ l)]=some (.int l))(im:fu [.str (b_ m)]=some (.int m)):∃M' f,lq [.tup [.str "share",.str "k",.tup fr,.tup [.str (b_ l),.str (b_ m)]]] Z0=some (.v (.ref 4),M')/\fZ "ShareStation" (El f) n M'/\M'[f]? =some (.fn lu (lG l m)):=by
 have b0:=za4 (x0:=.str "share") (x1:=.str "k") (x3:=.tup [.str (b_ l),.str (b_ m)]) hm h1;have e1:=zc7 (M:=Z0 ++ [.obj "ShareStation" [("marks",.ref 5)],.lst (zD n)]) (x0:=.str "share") (x1:=.str "k") (x2:=.tup fr) rfl il im;have e2:(Z0 ++ [E3.Cl.obj "ShareStation" [("marks",.ref 5)],E3.Cl.lst (zD n)] ++ [E3.Cl.fn lu (lG l m)])[(Z0 ++ [E3.Cl.obj "ShareStation" [("marks",.ref 5)],E3.Cl.lst (zD n)]).length]? =some (.fn lu (lG l m)):=vo;generalize hE:[E3.Cl.fn lu (lG l m)]=E at e1 e2;generalize hM1:Z0 ++ [E3.Cl.obj "ShareStation" [("marks",.ref 5)],E3.Cl.lst (zD n)]=M1 at *;generalize M1.length=f at e1 e2;have o4:(M1 ++ E)[4]? =some (.obj "ShareStation" [("marks",.ref 5)]):=gW (by rw[<-hM1];exact z4);have o5:(M1 ++ E)[5]? =some (.lst (zD n)):=gW (by rw[<-hM1];exact z5);have b1:gF "ShareStation" "is_shared" (aj 0) (dW Ay (aA (aj 1) ao)) [.val (.ref 4),.val (.tup [.str "share",.str "k",.tup fr,.tup [.str (b_ l),.str (b_ m)]])] M1=some (.nx [.val (.ref 4),.val (.tup [.str "share",.str "k",.tup fr,.tup [.str (b_ l),.str (b_ m)]])],(M1 ++ E).set 4 (.obj "ShareStation" (El f))):=by
  rw [sX (k := 4) (x := .ref f) (M1 := M1 ++ E) (M2 := M1 ++ E) (fs := [("marks", .ref 5)]) (by
   generalize Ay=G at e1 ⊢;z_go;rw[e1];z_go) rfl o4 (by decide)]
  rfl
 have i0:Al [.ref 4,.tup [.str "share",.str "k",.tup fr,.tup [.str (b_ l),.str (b_ m)]]] (Z0 ++ [.obj "ShareStation" []])=some (.v .non,(M1 ++ E).set 4 (.obj "ShareStation" (El f))):=by
  unfold Al Ik;generalize gF "ShareStation" "is_shared" (aj 0) _=F1 at b1 ⊢;generalize Ce=G at b0 ⊢;generalize Z0 ++ [E3.Cl.obj "ShareStation" []]=M0 at b0 ⊢;z_go;rw[b0];z_go;rw[b1];z_go
 exact⟨_,f,zds (Bd (M1:=Z0) rfl i0),⟨KH o4,wz o5 o4 nofun⟩,wz e2 o4 nofun⟩
theorem O2 {fr:List D}{x3:D}{n:Nat}(hm:fr.length=n)(h1:n<=8):∃M',lq [.tup [.str "pour",.str "k",.tup fr,x3]] Z0=some (.v (.ref 4),M')/\fZ "PourStation" Vw n M':=
 ⟨_,zdX (Bd (M1:=Z0) rfl (zbf hm h1)),rfl,rfl⟩
theorem O1 {fr:List D}{x3:D}{n:Nat}(hm:fr.length=n)(h1:n<=8):∃M',lq [.tup [.str "out",.str "k",.tup fr,x3]] Z0=some (.v (.ref 4),M')/\fZ "OutStation" (Ej 6) n M'/\M'[6]? =some (.lst []):=by
 have b0:=zbq (x0:=.str "out") (x1:=.str "k") (x3:=x3) hm h1;have i0:Ae [.ref 4,.tup [.str "out",.str "k",.tup fr,x3]] (Z0 ++ [.obj "OutStation" []])=some (.v .non,Z0 ++ [.obj "OutStation" (Ej 6),.lst (zD n),.lst []]):=by
  have b1:gF "OutStation" "kept" (aj 0) (mQ (aP ao)) [.val (.ref 4),.val (.tup [.str "out",.str "k",.tup fr,x3])] (Z0 ++ [.obj "OutStation" [("marks",.ref 5)],.lst (zD n)])=some (.nx [.val (.ref 4),.val (.tup [.str "out",.str "k",.tup fr,x3])],Z0 ++ [.obj "OutStation" (Ej 6),.lst (zD n),.lst []]):=by
   rw[sX (k:=4) (x:=.ref 6) (M1:=Z0 ++ [.obj "OutStation" [("marks",.ref 5)],.lst (zD n),.lst []]) (M2:=Z0 ++ [.obj "OutStation" [("marks",.ref 5)],.lst (zD n),.lst []]) (fs:=[("marks",.ref 5)]) rfl rfl rfl (by decide)];rfl
  unfold Ae HS;generalize gF "OutStation" "kept" (aj 0) _=F1 at b1 ⊢;generalize Cd=G at b0 ⊢;generalize Z0 ++ [E3.Cl.obj "OutStation" []]=M0 at b0 ⊢;generalize Z0 ++ [E3.Cl.obj "OutStation" [("marks",.ref 5)],E3.Cl.lst (zD n)]=M1 at b0 b1 ⊢;z_go;rw[b0];z_go;rw[b1];z_go
 exact⟨_,zfv (Bd (M1:=Z0) rfl i0),⟨rfl,rfl⟩,rfl⟩
variable {M:Mm}
theorem N_ {ns:List Int}{k:Int}(hk:0<=k):sY [.lst (ns.map .int),.int k] M=some (.v (.int (ns.getD k.toNat 0)),M):=by
 unfold sY L_;z_go
 by_cases h:k<(ns.length:Int)
 ·simp only[h,xbA];z_go;have e:gG (ns.map D.int) k=some (.int (ns.getD k.toNat 0)):=by
   obtain⟨j,rfl⟩:∃j:Nat,k=j:=⟨k.toNat,by omega⟩;refine BX ?_;have:j<ns.length:=by omega
   rw[xam,xai this]
   simp[List.getD,this]
  rw[e];z_go
 ·simp only[h,xaj];z_go
  simp[List.getD,xcq (show ns.length<=k.toNat by omega)]
theorem ze6 {i:Int}:Ax [.int i] M=some (.v (.bl true),M):=by kernel_rfl
theorem zgN {c:Int}:∃n:Int,n.natAbs<10000000000000000000/\∀M:Mm,sZ [.int c] M=some (.v (.int n),M):=by
 by_cases h:c % 3=0
 ·have a0:=xaD (c / 3) (show(13:Int)≠0 by decide);have a1:=xaz (c / 3) (show(0:Int)<13 by decide);refine⟨c / 3 % 13 - 6,by omega,fun M=>?_⟩;unfold sZ IV;z_go;simp only[h,xbA];z_go
 ·have a0:=xaD (c / 3) (show(19999999999999999999:Int)≠0 by decide);have a1:=xaz (c / 3) (show(0:Int)<19999999999999999999 by decide);refine⟨c / 3 % 19999999999999999999 - 9999999999999999999,by omega,fun M=>?_⟩;unfold sZ IV;z_go;simp only[h,xaj];z_go
theorem ziB {c n:Int}(hn:n.natAbs<10000000000000000000):∃t z v,Good t z v/\Cu [.int c,.int n] M=some (.v (fM t z v),M):=by
 obtain⟨z,hz,zl,ek⟩:=zfM (M:=M) (n:=c / 50);have v0:=xaD (c / 7) (show(2000000000000000000000000000000000000000000000000000000000001:Int)≠0 by decide);have v1:=xaz (c / 7) (show(0:Int)<2000000000000000000000000000000000000000000000000000000000001 by decide);have t0:=xaD (c / 11) (show(1000000000001:Int)≠0 by decide);have t1:=xaz (c / 11) (show(0:Int)<1000000000001 by decide);have w0:=xaD (c / 7) (show(2000000000000000000000000000000000000000000000000000000000000001:Int)≠0 by decide);have w1:=xaz (c / 7) (show(0:Int)<2000000000000000000000000000000000000000000000000000000000000001 by decide);have s0:=xaD (c / 11) (show(100000000000000:Int)≠0 by decide);have s1:=xaz (c / 11) (show(0:Int)<100000000000000 by decide);have y0:=xaD (c / 2) (show(5:Int)≠0 by decide);have y1:=xaz (c / 2) (show(0:Int)<5 by decide);have u0:=xaD (c / 10) (show(5:Int)≠0 by decide);have u1:=xaz (c / 10) (show(0:Int)<5 by decide);unfold Cu Mp;generalize Cq=G at ek ⊢;z_go
 by_cases h6:c % 6=1
 ·have h2:¬ c % 2=0:=by omega
  simp only[h6,xbA];z_go;simp only[h2,xaj];z_go;rw[ek];z_go;exact⟨_,_,_,⟨by omega,by omega,hz⟩,rfl⟩
 ·simp only[h6,xaj];z_go
  by_cases h2:c % 2=0
  ·simp only[h2,xbA];z_go;rw[ek];z_go;refine⟨_,_,_,⟨?_,?_,hz⟩,rfl⟩
   ·repeat' split
    all_goals omega
   ·omega
  ·simp only[h2,xaj];z_go;rw[ek];z_go;exact⟨_,_,_,⟨by omega,by omega,hz⟩,rfl⟩
def One (due:List D):Prop:=due=[]\/∃t z v,due=[fM t z v]
theorem zeF {due:List D}(h:One due):Cw [.lst due,.lst due] M=some (.v (.bl true),M):=by
 rcases h with rfl |⟨t,z,v,rfl⟩
 ·kernel_rfl
 ·have ft:∀x,Ax [.int x] M=some (.v (.bl true),M):=fun x=>ze6;unfold Cw Mq Wd;generalize Ax=G at ft ⊢;z_go;rw[zbM];z_go;rw[ziI (d:=.lst [fM t z v]) (show 2<=50 by decide)];z_go;rw[V6];z_go;rw[ft];z_go;rw[ft];z_go
variable {M:Mm}
theorem sW:(Str.ofString "<"≠Str.ofString "=")/\(Str.ofString "v"≠Str.ofString "t")/\(Str.ofString "+"≠Str.ofString "*")/\(Str.ofString "+"≠Str.ofString "-")/\(Str.ofString "*"≠Str.ofString "+")/\(Str.ofString "*"≠Str.ofString "-")/\(Str.ofString "-"≠Str.ofString "+")/\(Str.ofString "-"≠Str.ofString "*")/\(Str.ofString "least"≠Str.ofString "+")/\(Str.ofString "least"≠Str.ofString "*")/\(Str.ofString "least"≠Str.ofString "-"):=by x_go
theorem zeg {form n t v:Int}{z:Str}:Cj [.tup ((lO form n).map D.str),fM t z v,.int n] M=some (.v (.bl (gq form n t v)),M):=by
 unfold lO gq Cj Mf
 repeat' split
 all_goals
  simp only[xaA,xbT];z_go
  try simp only[sW,xaj]
  z_go
  try simp only[sW,xaj]
  z_go
theorem zg1 {form n t v:Int}{z:Str}(hn:n.natAbs<10000000000000000000):Ci [.tup ((lR form n).map D.str),fM t z v,.int n] M=some (.v (fM t z (hold (fX form n t v))),M):=by
 unfold lR fX hold Ci Ma
 by_cases h0:form=0
 ·simp only[h0,xa6,xaA,xbT];z_go;simp only[sW,xaj];z_go
  try simp only[sW,xaj]
  z_go
 by_cases h1:form=1
 ·simp only[h0,h1,xa6,xbP,xaA,xbT];z_go
  try simp only[sW,xaj]
  z_go;rw[xab (.inr (.inl (by omega)))];z_go
  try simp only[sW,xaj]
  z_go
 by_cases h2:form=2
 ·simp only[h0,h1,h2,xa6,xbP,xaA,xbT];z_go
  try simp only[sW,xaj]
  z_go
  try simp only[sW,xaj]
  z_go
 ·simp only[h0,h1,h2,xa6,xbP,xaA,xbT];z_go
  try simp only[sW,xaj]
  z_go
  try simp only[sW,xaj]
  z_go
  try simp only[sW,xaj]
  z_go
theorem zjw {x1 x2:D}{form n t v:Int}{z:Str}:m_ [.tup [.str "keep",x1,x2,.tup ((lO form n).map D.str)],fM t z v,.int n] M=some (.v (.lst (if gq form n t v then [fM t z v] else [])),M):=by
 have e:=zeg (M:=M) (form:=form) (n:=n) (t:=t) (z:=z) (v:=v);unfold m_ zZ;generalize Cj=G at e ⊢;z_go;simp only[g_,xaj];z_go;rw[e];z_go;cases gq form n t v
 ·z_go
 ·z_go
  try simp only[g_,xaj]
  z_go
  try simp only[g_,xaj]
  z_go
theorem ziN {x1 x2:D}{form n t v:Int}{z:Str}(hn:n.natAbs<10000000000000000000):m_ [.tup [.str "turn",x1,x2,.tup ((lR form n).map D.str)],fM t z v,.int n] M=some (.v (.lst [fM t z (hold (fX form n t v))]),M):=by
 have e:=zg1 (M:=M) (form:=form) (n:=n) (t:=t) (z:=z) (v:=v) hn;unfold m_ zZ;generalize Ci=G at e ⊢;generalize hold (fX form n t v)=y at e ⊢;z_go;rw[e];z_go
theorem zjA {x1 x2:D}{l m n t v:Int}{z:Str}(hl:fu [.str (b_ l)]=some (.int l))(hm:fu [.str (b_ m)]=some (.int m))(m0:0<m):m_ [.tup [.str "share",x1,x2,.tup [.str (b_ l),.str (b_ m)]],fM t z v,.int n] M=some (.v (.lst (if decide (kn z % m=l) then [fM t z v] else [])),M):=by
 have e:=zhm (M:=M) (z:=z) hl hm m0;unfold m_ zZ;generalize Ck=G at e ⊢;generalize decide (kn z % m=l)=y at e ⊢;z_go;simp only[g_,xaj];z_go
 try simp only[g_,xaj]
 z_go;rw[e];z_go;cases y
 ·z_go
 ·z_go
  try simp only[g_,xaj]
  z_go
theorem zjH {x1 x2 x3:D}{n t v:Int}{z:Str}:m_ [.tup [.str "pour",x1,x2,x3],fM t z v,.int n] M=some (.v (.lst [fM t z v]),M):=by
 unfold m_ zZ;z_go;simp only[g_,xaj];z_go
 try simp only[g_,xaj]
 z_go
 try simp only[g_,xaj]
 z_go
 try simp only[g_,xaj]
 z_go
theorem zh0 {x1 x2 x3:D}{n t v:Int}{z:Str}:m_ [.tup [.str "out",x1,x2,x3],fM t z v,.int n] M=some (.v (.lst []),M):=by
 unfold m_ zZ;z_go;simp only[g_,xaj];z_go
 try simp only[g_,xaj]
 z_go
 try simp only[g_,xaj]
 z_go
variable {M:Mm}
def Wk (row:D)(nh:Int)(out:Bool)(n:Nat)(Q:List D->Mm->Prop):Prop:=
 (∀(ks:List D) (M:Mm) (w t:Int) (z:Str) (v:Int) (env:E3.Env) (fa:EA),Q ks M->ks.length<1000->Good t z v->env[3]? =some (.val (.ref 4))->fa env M=some (.v [.int w,fM t z v],M)->
  ∃due M',(aM (aQ "PourStation" "take_in" Ak (aj 3) fa) (aM (aQ "KeepStation" "take_in" Ac (aj 3) fa) (aM (aQ "TurnStation" "take_in" Aw (aj 3) fa) (aM (aQ "ShareStation" "take_in" Ao (aj 3) fa) (aQ "OutStation" "take_in" Ah (aj 3) fa))))) env M=some (.v (.lst due),M')/\One due/\m_ [row,fM t z v,.int nh] M'=some (.v (.lst due),M')/\Q (if out then ks ++ [fH t z v] else ks) M')/\
 ∀(ks:List D) (M:Mm) (env:E3.Env),Q ks M->env[3]? =some (.val (.ref 4))->
  (aM (aQ "PourStation" "state" Aj (aj 3) ao) (aM (aQ "KeepStation" "state" Ab (aj 3) ao) (aM (aQ "TurnStation" "state" Av (aj 3) ao) (aM (aQ "ShareStation" "state" Am (aj 3) ao) (aQ "OutStation" "state" Ag (aj 3) ao))))) env M=some (.v (.tup [.lst (zD n),.lst ks]),M)/\(aM (aQ "PourStation" "low" yd (aj 3) ao) (aM (aQ "KeepStation" "low" xX (aj 3) ao) (aM (aQ "TurnStation" "low" yp (aj 3) ao) (aM (aQ "ShareStation" "low" yh (aj 3) ao) (aQ "OutStation" "low" xZ (aj 3) ao))))) env M=some (.v (.int 0),M)/\(aM (eU "KeepStation" (aj 3)) (aM (eU "OutStation" (aj 3)) (aM (eU "PourStation" (aj 3)) (aM (eU "ShareStation" (aj 3)) (eU "TurnStation" (aj 3)))))) env M=some (.v (.bl true),M)
theorem v3 {env:E3.Env}(h:env[3]? =some (.val (.ref 4))):aj 3 env M=some (.v (.ref 4),M):=by unfold aj;rw[h]
theorem WD {b:Bool}{t v:Int}{z:Str}:One (if b then [fM t z v] else []):=by
 cases b
 ·exact .inl rfl
 ·exact .inr ⟨_,_,_,rfl⟩
theorem eN:("PourStation":Str)≠"KeepStation"/\("PourStation":Str)≠"TurnStation"/\("PourStation":Str)≠"ShareStation"/\("PourStation":Str)≠"OutStation"/\("KeepStation":Str)≠"PourStation"/\("KeepStation":Str)≠"TurnStation"/\("KeepStation":Str)≠"ShareStation"/\("KeepStation":Str)≠"OutStation"/\("TurnStation":Str)≠"PourStation"/\("TurnStation":Str)≠"KeepStation"/\("TurnStation":Str)≠"ShareStation"/\("TurnStation":Str)≠"OutStation"/\("ShareStation":Str)≠"PourStation"/\("ShareStation":Str)≠"KeepStation"/\("ShareStation":Str)≠"TurnStation"/\("ShareStation":Str)≠"OutStation"/\("OutStation":Str)≠"PourStation"/\("OutStation":Str)≠"KeepStation"/\("OutStation":Str)≠"TurnStation"/\("OutStation":Str)≠"ShareStation":=by x_go
theorem T8 {n:Nat}{nh:Int}{x1 x2 x3:D}(n0:0<n):Wk (.tup [.str "pour",x1,x2,x3]) nh false n (fun ks M=>ks=[]/\fZ "PourStation" Vw n M):=by
 refine⟨fun ks M w t z v env fa hq hl g he ha=>?_,fun ks M env hq he=>?_⟩
 ·obtain⟨rfl,h⟩:=hq;have hv:=v3 (M:=M) he;refine⟨_,_,alt_1 (gK (k:=4) hv h.1 (by kernel_rfl) ha (zbc h (by kernel_rfl) Tz)),.inr ⟨_,_,_,rfl⟩,zjH,rfl,h⟩
 ·obtain⟨rfl,h⟩:=hq;have hv:=v3 (M:=M) he;exact⟨alt_1 (gK (k:=4) hv h.1 (by kernel_rfl) rfl (zbe h (by kernel_rfl) (by kernel_rfl))),alt_1 (gK (k:=4) hv h.1 (by kernel_rfl) rfl (za3 h (by kernel_rfl) n0)),(alt_2 (vp hv h.1 eN.1)).trans ((alt_2 (vp hv h.1 eN.2.2.2.1)).trans (alt_1 (Fq hv h.1)))⟩
theorem T6 {n f k:Nat}{form nh:Int}{x1 x2:D}(n0:0<n)(hn:nh.natAbs<10000000000000000000):Wk (.tup [.str "keep",x1,x2,.tup ((lO form nh).map D.str)]) nh false n (fun ks M=>ks=[]/\fZ "KeepStation" (Eh f) n M/\M[f]? =some (DX k)/\M[k]? =some (wA (lO form nh))):=by
 refine⟨fun ks M w t z v env fa hq hl g he ha=>?_,fun ks M env hq he=>?_⟩
 ·obtain⟨rfl,h,hf,hk⟩:=hq;have hv:=v3 (M:=M) he;refine⟨_,_,(alt_2 (dI hv h.1 eN.2.2.2.2.1)).trans (alt_1 (gK (k:=4) hv h.1 (by kernel_rfl) ha (zbb h (by kernel_rfl) (Tv h hf hk (by omega) g)))),WD,zjw,rfl,h.app,gW hf,gW hk⟩
 ·obtain⟨rfl,h,hf,hk⟩:=hq;have hv:=v3 (M:=M) he;exact⟨(alt_2 (dI hv h.1 eN.2.2.2.2.1)).trans (alt_1 (gK (k:=4) hv h.1 (by kernel_rfl) rfl (zbh h (by kernel_rfl) (by kernel_rfl)))),(alt_2 (dI hv h.1 eN.2.2.2.2.1)).trans (alt_1 (gK (k:=4) hv h.1 (by kernel_rfl) rfl (za6 h (by kernel_rfl) n0))),alt_1 (Fq hv h.1)⟩
theorem T_ {n f j k:Nat}{form nh:Int}{x1 x2:D}(n0:0<n)(hn:nh.natAbs<10000000000000000000):Wk (.tup [.str "turn",x1,x2,.tup ((lR form nh).map D.str)]) nh false n (fun ks M=>ks=[]/\fZ "TurnStation" (Em f) n M/\M[f]? =some (DY j)/\M[j]? =some (z8 k)/\M[k]? =some (sG (lR form nh))):=by
 refine⟨fun ks M w t z v env fa hq hl g he ha=>?_,fun ks M env hq he=>?_⟩
 ·obtain⟨rfl,h,hf,hj,hk⟩:=hq;have hv:=v3 (M:=M) he;refine⟨_,_,(alt_2 (dI hv h.1 eN.2.2.2.2.2.2.2.2.1)).trans ((alt_2 (dI hv h.1 eN.2.2.2.2.2.2.2.2.2.1)).trans (alt_1 (gK (k:=4) hv h.1 (by kernel_rfl) ha (zbg h (by kernel_rfl) (TV h hf hj hk (by omega) g))))),.inr ⟨_,_,_,rfl⟩,ziN hn,rfl,h.app,gW hf,gW hj,gW hk⟩
 ·obtain⟨rfl,h,hf,hj,hk⟩:=hq;have hv:=v3 (M:=M) he;exact⟨(alt_2 (dI hv h.1 eN.2.2.2.2.2.2.2.2.1)).trans ((alt_2 (dI hv h.1 eN.2.2.2.2.2.2.2.2.2.1)).trans (alt_1 (gK (k:=4) hv h.1 (by kernel_rfl) rfl (zbd h (by kernel_rfl) (by kernel_rfl))))),(alt_2 (dI hv h.1 eN.2.2.2.2.2.2.2.2.1)).trans ((alt_2 (dI hv h.1 eN.2.2.2.2.2.2.2.2.2.1)).trans (alt_1 (gK (k:=4) hv h.1 (by kernel_rfl) rfl (za2 h (by kernel_rfl) n0)))),(alt_2 (vp hv h.1 eN.2.2.2.2.2.2.2.2.2.1)).trans ((alt_2 (vp hv h.1 eN.2.2.2.2.2.2.2.2.2.2.2.1)).trans ((alt_2 (vp hv h.1 eN.2.2.2.2.2.2.2.2.1)).trans ((alt_2 (vp hv h.1 eN.2.2.2.2.2.2.2.2.2.2.1)).trans ((Fq hv h.1)))))⟩
theorem T9 {n f:Nat}{l m nh:Int}{x1 x2:D}(n0:0<n)(il:fu [.str (b_ l)]=some (.int l))(im:fu [.str (b_ m)]=some (.int m))(m0:0<m):Wk (.tup [.str "share",x1,x2,.tup [.str (b_ l),.str (b_ m)]]) nh false n (fun ks M=>ks=[]/\fZ "ShareStation" (El f) n M/\M[f]? =some (.fn lu (lG l m))):=by
 refine⟨fun ks M w t z v env fa hq hl g he ha=>?_,fun ks M env hq he=>?_⟩
 ·obtain⟨rfl,h,hf⟩:=hq;have hv:=v3 (M:=M) he;refine⟨_,_,(alt_2 (dI hv h.1 eN.2.2.2.2.2.2.2.2.2.2.2.2.1)).trans ((alt_2 (dI hv h.1 eN.2.2.2.2.2.2.2.2.2.2.2.2.2.1)).trans ((alt_2 (dI hv h.1 eN.2.2.2.2.2.2.2.2.2.2.2.2.2.2.1)).trans (alt_1 (gK (k:=4) hv h.1 (by kernel_rfl) ha (za5 h (by kernel_rfl) (TF h hf m0 g)))))),WD,zjA il im m0,rfl,h,hf⟩
 ·obtain⟨rfl,h,hf⟩:=hq;have hv:=v3 (M:=M) he;exact⟨(alt_2 (dI hv h.1 eN.2.2.2.2.2.2.2.2.2.2.2.2.1)).trans ((alt_2 (dI hv h.1 eN.2.2.2.2.2.2.2.2.2.2.2.2.2.1)).trans ((alt_2 (dI hv h.1 eN.2.2.2.2.2.2.2.2.2.2.2.2.2.2.1)).trans (alt_1 (gK (k:=4) hv h.1 (by kernel_rfl) rfl (za8 h (by kernel_rfl) (by kernel_rfl)))))),(alt_2 (dI hv h.1 eN.2.2.2.2.2.2.2.2.2.2.2.2.1)).trans ((alt_2 (dI hv h.1 eN.2.2.2.2.2.2.2.2.2.2.2.2.2.1)).trans ((alt_2 (dI hv h.1 eN.2.2.2.2.2.2.2.2.2.2.2.2.2.2.1)).trans (alt_1 (gK (k:=4) hv h.1 (by kernel_rfl) rfl (zaV h (by kernel_rfl) n0))))),(alt_2 (vp hv h.1 eN.2.2.2.2.2.2.2.2.2.2.2.2.2.1)).trans ((alt_2 (vp hv h.1 eN.2.2.2.2.2.2.2.2.2.2.2.2.2.2.2.1)).trans ((alt_2 (vp hv h.1 eN.2.2.2.2.2.2.2.2.2.2.2.2.1)).trans (alt_1 (Fq hv h.1))))⟩
theorem T7 {n:Nat}{nh:Int}{x1 x2 x3:D}(n0:0<n):Wk (.tup [.str "out",x1,x2,x3]) nh true n (fun ks M=>fZ "OutStation" (Ej 6) n M/\M[6]? =some (.lst ks)):=by
 refine⟨fun ks M w t z v env fa hq hl g he ha=>?_,fun ks M env hq he=>?_⟩
 ·obtain⟨h,hf⟩:=hq;have hv:=v3 (M:=M) he;refine⟨_,_,(alt_2 (dI hv h.1 eN.2.2.2.2.2.2.2.2.2.2.2.2.2.2.2.2.1)).trans ((alt_2 (dI hv h.1 eN.2.2.2.2.2.2.2.2.2.2.2.2.2.2.2.2.2.1)).trans ((alt_2 (dI hv h.1 eN.2.2.2.2.2.2.2.2.2.2.2.2.2.2.2.2.2.2.1)).trans ((alt_2 (dI hv h.1 eN.2.2.2.2.2.2.2.2.2.2.2.2.2.2.2.2.2.2.2)).trans ((gK (k:=4) hv h.1 (by kernel_rfl) ha (zbm h (by kernel_rfl) (Tw h hf hl))))))),.inl rfl,zh0,⟨wz h.1 hf nofun,by rw[xby (by decide)];exact h.2⟩,KH hf⟩
 ·obtain⟨h,hf⟩:=hq;have hv:=v3 (M:=M) he;exact⟨(alt_2 (dI hv h.1 eN.2.2.2.2.2.2.2.2.2.2.2.2.2.2.2.2.1)).trans ((alt_2 (dI hv h.1 eN.2.2.2.2.2.2.2.2.2.2.2.2.2.2.2.2.2.1)).trans ((alt_2 (dI hv h.1 eN.2.2.2.2.2.2.2.2.2.2.2.2.2.2.2.2.2.2.1)).trans ((alt_2 (dI hv h.1 eN.2.2.2.2.2.2.2.2.2.2.2.2.2.2.2.2.2.2.2)).trans ((gK (k:=4) hv h.1 (by kernel_rfl) rfl (zbl h (by kernel_rfl) (by kernel_rfl) (by kernel_rfl) hf)))))),(alt_2 (dI hv h.1 eN.2.2.2.2.2.2.2.2.2.2.2.2.2.2.2.2.1)).trans ((alt_2 (dI hv h.1 eN.2.2.2.2.2.2.2.2.2.2.2.2.2.2.2.2.2.1)).trans ((alt_2 (dI hv h.1 eN.2.2.2.2.2.2.2.2.2.2.2.2.2.2.2.2.2.2.1)).trans ((alt_2 (dI hv h.1 eN.2.2.2.2.2.2.2.2.2.2.2.2.2.2.2.2.2.2.2)).trans ((gK (k:=4) hv h.1 (by kernel_rfl) rfl (zbi h (by kernel_rfl) n0)))))),(alt_2 (vp hv h.1 eN.2.2.2.2.2.2.2.2.2.2.2.2.2.2.2.2.2.1)).trans (alt_1 (Fq hv h.1))⟩
variable {M:Mm}
theorem Vh:∀{ks:List D},(∀d∈ks,∃t z v,d=fH t z v)->D.deps ks<=1
  | [],_=>by decide
  |d::ks,h=>by
    have:=Vh (ks:=ks) fun x hx=>h x (by simp[hx]);obtain⟨t,z,v,rfl⟩:=h d (by simp);show max (max 0 (max 0 (max 0 0)) + 1) _<=1;omega
theorem Vg:∀{cs:List Int},D.deps (cs.map D.int)<=1
  | []=>by decide
  |c::cs=>by
    have:=Vg (cs:=cs);show max 0 _<=1;omega
section
variable {row a0:D}{wd:Str}{x1 x2 x3:D}{nh:Int}{out:Bool}{n:Nat}{Q:List D->Mm->Prop}{ks:List D}
theorem zdQ {c:Int}{a7:E3.Slot}(hw:Wk (.tup [.str wd,x1,x2,x3]) nh out n Q)(ho:decide (wd=Str.ofString "out")=out)(n0:0<n)(n1:n<=8)(hn:nh.natAbs<10000000000000000000)(hq:Q ks M)(hl:ks.length<100):
  ∃t z v M',Q (if out then ks ++ [fH t z v] else ks) M'/\FJ [.val a0,.val (.tup [.str wd,x1,x2,x3]),.val (.int nh),.val (.ref 4),.val (.int n),.own ks,.val (.int c),a7,.un] M=some (.nx [.val a0,.val (.tup [.str wd,x1,x2,x3]),.val (.int nh),.val (.ref 4),.val (.int n),.own (if out then ks ++ [fH t z v] else ks),.val (.int c),.val (fM t z v),.un],M'):=by
 obtain ⟨t, z, v, g, et⟩ := ziB (M := M) (c := c) hn;obtain ⟨due, M', ek, od, ed, q'⟩ := hw.1 ks M (c % n) t z v [.val a0, .val (.tup [.str wd, x1, x2, x3]), .val (.int nh), .val (.ref 4), .val (.int n), .own ks, .val (.int c), .val (fM t z v), .un] (aA (s2 oMod (aj 6) (aj 4)) (aA (aj 7) ao)) hq (by omega) g rfl (by
  z_go;rw[xab (by omega)];z_go)
 refine⟨t,z,v,M',q',?_⟩;have tl:=zeF (M:=M') od;unfold FJ;generalize h1:Ox=n1;generalize Cu=G at et ⊢;z_go;rw[et];z_go;rw[<-h1];unfold Ox;generalize h2:Oz=n2;generalize (aM (aQ "PourStation" "take_in" Ak (aj 3) (aA (s2 oMod (aj 6) (aj 4)) (aA (aj 7) ao))) (aM (aQ "KeepStation" "take_in" Ac (aj 3) (aA (s2 oMod (aj 6) (aj 4)) (aA (aj 7) ao))) (aM (aQ "TurnStation" "take_in" Aw (aj 3) (aA (s2 oMod (aj 6) (aj 4)) (aA (aj 7) ao))) (aM (aQ "ShareStation" "take_in" Ao (aj 3) (aA (s2 oMod (aj 6) (aj 4)) (aA (aj 7) ao))) (aQ "OutStation" "take_in" Ah (aj 3) (aA (s2 oMod (aj 6) (aj 4)) (aA (aj 7) ao)))))))=F at ek ⊢;generalize m_=G1 at ed ⊢;generalize Cw=G2 at tl ⊢;z_go;rw[ek];z_go;rw[ed];z_go;rw[tl];z_go;rw[<-h2];unfold Oz;z_go;rw[<-ho]
 by_cases hb:wd=Str.ofString "out"
 ·simp only[hb,xbA];z_go;rw[show ∀a,gC (aj 7) (mO (ak (.int 1))) mZ [a,.val (.tup [.str (Str.ofString "out"),x1,x2,x3]),.val (.int nh),.val (.ref 4),.val (.int n),.own ks,.val (.int c),.val (fM t z v),.un] M'=some (.v (fH t z v),M') from fun _=>rfl];z_go;rw[xab (show ks.length<16777216 by omega)];z_go
 ·simp only[hb,xaj];z_go
  try rfl
end
variable {M:Mm}
section
variable {a0:D}{wd:Str}{x1 x3:D}{fr:List D}{nh:Int}{out:Bool}{n:Nat}{Q:List D->Mm->Prop}{ks:List D}
theorem Q8 {a1 a6 a7:E3.Slot}(n1:n<=8)(hk:∀d∈ks,∃t z v,d=fH t z v)(hlo:∀env:E3.Env,env[3]? =some (.val (.ref 4))->(aM (aQ "PourStation" "low" yd (aj 3) ao) (aM (aQ "KeepStation" "low" xX (aj 3) ao) (aM (aQ "TurnStation" "low" yp (aj 3) ao) (aM (aQ "ShareStation" "low" yh (aj 3) ao) (aQ "OutStation" "low" xZ (aj 3) ao))))) env M=some (.v (.int 0),M)):
  eO (Jy [.val a0,a1,.val (.int nh),.val (.ref 4),.val (.int n),.own ks,a6,a7,.val (.tup [.lst (zD n),.lst ks])] M)=some (.v (.bl true),M):=by
 have rp:=rep0 (M:=M) (env:=[.val a0,a1,.val (.int nh),.val (.ref 4),.val (.int n),.val (.lst ks),a6,a7,.val (.tup [.lst (zD n),.lst ks])]) (g:=aj 4) (n:=n) rfl n1;have lo:=hlo [.val a0,a1,.val (.int nh),.val (.ref 4),.val (.int n),.val (.lst ks),a6,a7,.val (.tup [.lst (zD n),.lst ks])] rfl;have d1:=Vh hk;have d2:D.deps (zD n)<=1:=Vg (cs:=zs n);unfold Jy;generalize j_ (aP (aA (ak (.int 0)) ao)) (aj 4)=F at rp ⊢;generalize (aM (aQ "PourStation" "low" yd (aj 3) ao) (aM (aQ "KeepStation" "low" xX (aj 3) ao) (aM (aQ "TurnStation" "low" yp (aj 3) ao) (aM (aQ "ShareStation" "low" yh (aj 3) ao) (aQ "OutStation" "low" xZ (aj 3) ao)))))=F2 at lo ⊢;z_go;rw[V6];z_go;rw[rp];z_go;rw[zhD (by show max (D.deps (zD n) + 1) (max (D.deps ks + 1) 0) + 1<=50;omega)];z_go;rw[lo];z_go
theorem rest (ns:List Int)(hN:ns.length<=63)(hw:Wk (.tup [.str wd,x1,.tup fr,x3]) nh out n Q)(ho:decide (wd=Str.ofString "out")=out)(hf:fr.length=n)(n0:0<n)(n1:n<=8)(hn:nh.natAbs<10000000000000000000)(hq:Q [] M):
  ∃M',eO (Ga [.val (.lst (ns.map D.int)),.val (.tup [.str wd,x1,.tup fr,x3]),.val (.int nh),.val (.ref 4),.un,.un,.un,.un,.un] M)=some (.v (.bl true),M'):=by
 have iz:=(hw.2 [] M [.val (.lst (ns.map D.int)),.val (.tup [.str wd,x1,.tup fr,x3]),.val (.int nh),.val (.ref 4),.un,.un,.un,.un,.un] hq rfl).2.2;have lp:∃ks a6 a7 M',(∀d∈ks,∃t z v,d=fH t z v)/\Q ks M'/\loopS 6 FJ ((ns.drop 2).map D.int) [.val (.lst (ns.map D.int)),.val (.tup [.str wd,x1,.tup fr,x3]),.val (.int nh),.val (.ref 4),.val (.int n),.own [],.un,.un,.un] M=some (.nx [.val (.lst (ns.map D.int)),.val (.tup [.str wd,x1,.tup fr,x3]),.val (.int nh),.val (.ref 4),.val (.int n),.own ks,a6,a7,.un],M'):=by
  refine Ju (fun o=>∃ks a6 a7 M',(∀d∈ks,∃t z v,d=fH t z v)/\Q ks M'/\o=some (.nx [.val (.lst (ns.map D.int)),.val (.tup [.str wd,x1,.tup fr,x3]),.val (.int nh),.val (.ref 4),.val (.int n),.own ks,a6,a7,.un],M')) (fun j env N=>∃ks a6 a7,(∀d∈ks,∃t z v,d=fH t z v)/\ks.length<=j/\Q ks N/\env=[.val (.lst (ns.map D.int)),.val (.tup [.str wd,x1,.tup fr,x3]),.val (.int nh),.val (.ref 4),.val (.int n),.own ks,a6,a7,.un]) ⟨[],.un,.un,(fun d h=>nomatch h),xag _,hq,rfl⟩ ?_ ?_
  ·rintro j d env N hd ⟨ks,a6,a7,hk,hl,q,rfl⟩;rw[xam]at hd;have hj:j<(ns.drop 2).length:=by
    rcases xaO j (ns.drop 2).length with h |h
    ·exact h
    ·rw[xcq h]at hd;cases hd
   rw[xai hj]at hd;cases hd;rw[xb0]at hj;refine⟨by simp,?_⟩;simp only[xce,xcd];obtain⟨t,z,v,M',q',e⟩:=zdQ (a0:=.lst (ns.map D.int)) (c:=(ns.drop 2)[j]'(by rw[xb0];exact hj)) (a7:=a7) hw ho n0 n1 hn q (by omega);rw[e];refine⟨_,_,_,?_,?_,q',rfl⟩
   ·intro d hd;split at hd
    ·rcases xbe.mp hd with h |h
     ·exact hk d h
     ·exact⟨t,z,v,xbK.mp h⟩
    ·exact hk d hd
   ·split
    ·rw[xat];show _ + 1<=_;omega
    ·omega
  ·rintro env N ⟨ks,a6,a7,hk,hl,q,rfl⟩;exact⟨ks,a6,a7,N,hk,q,rfl⟩
 obtain⟨ks,a6,a7,M',hk,q,el⟩:=lp;obtain⟨s1,s2, -⟩:=hw.2 ks M' [.val (.lst (ns.map D.int)),.val (.tup [.str wd,x1,.tup fr,x3]),.val (.int nh),.val (.ref 4),.val (.int n),.own ks,a6,a7,.un] q rfl;have e8:=Q8 (M:=M') (a0:=.lst (ns.map D.int)) (a1:=.val (.tup [.str wd,x1,.tup fr,x3])) (nh:=nh) (ks:=ks) (a6:=a6) (a7:=a7) n1 hk (fun env he=>(hw.2 ks M' env q he).2.1);have e7:eO (Jx [.val (.lst (ns.map D.int)),.val (.tup [.str wd,x1,.tup fr,x3]),.val (.int nh),.val (.ref 4),.val (.int n),.own ks,a6,a7,.un] M')=some (.v (.bl true),M'):=by
  unfold Jx;generalize Jy=n8 at e8 ⊢;generalize (aM (aQ "PourStation" "state" Aj (aj 3) ao) (aM (aQ "KeepStation" "state" Ab (aj 3) ao) (aM (aQ "TurnStation" "state" Av (aj 3) ao) (aM (aQ "ShareStation" "state" Am (aj 3) ao) (aQ "OutStation" "state" Ag (aj 3) ao)))))=F at s1 ⊢;z_go;rw[s1];z_go;exact e8
 refine⟨M',?_⟩;clear s1 s2 e8 hk hw;unfold Ga;generalize h4:O8=n4;generalize (aM (eU "KeepStation" (aj 3)) (aM (eU "OutStation" (aj 3)) (aM (eU "PourStation" (aj 3)) (aM (eU "ShareStation" (aj 3)) (eU "TurnStation" (aj 3))))))=F at iz ⊢;z_go;rw[iz];z_go;rw[<-h4];unfold O8;generalize h5:O9=n5;z_go;rw[<-h5,hf];unfold O9;generalize h6:O_=n6;z_go;rw[<-h6];unfold O_;generalize Jx=n7 at e7 ⊢;generalize FJ=B at el ⊢;z_go;rw[show mq (ns.map D.int) (some 2) none=(ns.drop 2).map D.int by rw[zc6 _ (by decide),List.map_drop];rfl];rw[el];z_go;exact e7
end
variable {M:Mm}
def frm (d:D):D:=match d with |.int i=>.str ("a" ++ b_ i) |d=>d
theorem zje {m:Int}{env:E3.Env}(h1:m<=8):lQ (ak (.bl true)) Nv env ((List.range m.toNat).map fun(k:Nat)=>D.int (0 + (k:Int))) [] M=some (((List.range m.toNat).map fun(k:Nat)=>D.int (0 + (k:Int))).map frm,M):=by
 refine comp_map frm _ (fun d hd => ?_) (by rw [xao, xbn, xaY]; omega);obtain ⟨k, hk, rfl⟩ := xbi.mp hd;rw [xbR] at hk;have hl := R6 (i := 0 + (k : Int)) (k := 2) (by decide) (by omega);unfold Nv;z_go;rw [xab (FQ (by omega))];z_go;rw [xab (by
  show _ + (b_ (0 + (k:Int))).length<=16777216;rw[show(Str.ofString "a").length=1 by x_go];omega)]
 z_go;rfl
abbrev Gx (wd:Str)(fr:List D)(x:D):D:=.tup [.str wd,.str "k",.tup fr,x]
theorem ix3 {a b c:D}{i:Int}(h0:0<=i)(h1:i<3):gG [a,b,c] i=some (if i=0 then a else if i=1 then b else c):=by
 have:i=0\/i=1\/i=2:=by omega
 rcases this with rfl |rfl |rfl<;>rfl
theorem ix4 {a b c d:D}{i:Int}(h0:0<=i)(h1:i<4):gG [a,b,c,d] i=some (if i=0 then a else if i=1 then b else if i=2 then c else d):=by
 have:i=0\/i=1\/i=2\/i=3:=by omega
 rcases this with rfl |rfl |rfl |rfl<;>rfl
theorem zg4 {ns:List Int}{nh:Int}(hn:nh.natAbs<10000000000000000000)(en:∀M:Mm,sZ [.int (ns.getD (1:Int).toNat 0)] M=some (.v (.int nh),M)):∃R:D,Cr [.lst (ns.map D.int)] M=some (.v R,M)/\
  ((∃f,R=Gx "keep" [.str "a"] (.tup ((lO f nh).map D.str)))\/(∃f,R=Gx "turn" [.str "a"] (.tup ((lR f nh).map D.str)))\/(∃l m,0<=l/\l<m/\m<=8/\R=Gx "share" [.str "a"] (.tup [.str (b_ l),.str (b_ m)]))\/(∃fr:List D,0<fr.length/\fr.length<=8/\R=Gx "pour" fr (.tup []))\/R=Gx "out" [.str "a"] (.tup [])):=by
 have c0:=N_ (M:=M) (ns:=ns) (k:=0) (by decide);have c1:=N_ (M:=M) (ns:=ns) (k:=1) (by decide);have en:=en M;generalize ns.getD (0:Int).toNat 0=v0 at c0;generalize ns.getD (1:Int).toNat 0=v1 at c1 en;have sn:lC [.int nh]=some (.str (b_ nh)):=by
  rw[JC,xab (FQ (by omega))];rfl
 unfold Cr Ml;generalize sY=G at c0 c1 ⊢;generalize sZ=G1 at en ⊢;z_go;rw[c0];z_go;rw[c0];z_go;rw[c1];z_go;rw[en];z_go;rw[<-JC,sn];z_go;generalize hf:v0 / 5=form;have k0:=xaD v0 (show(5:Int)≠0 by decide);have k1:=xaz v0 (show(0:Int)<5 by decide);generalize v0 % 5=kd at k0 k1
 by_cases h0:kd=0
 ·have f0:=xaD form (show(3:Int)≠0 by decide);have f1:=xaz form (show(0:Int)<3 by decide);simp only[h0,xbA];z_go;rw[ix3 f0 f1];z_go;refine⟨_,rfl,.inl ⟨form % 3,?_⟩⟩;unfold lO
  repeat' split
  all_goals rfl
 simp only[h0,xaj];z_go
 by_cases h1:kd=1
 ·have f0:=xaD form (show(4:Int)≠0 by decide);have f1:=xaz form (show(0:Int)<4 by decide);simp only[h1,xbA];z_go;rw[ix4 f0 f1];z_go;refine⟨_,rfl,.inr (.inl ⟨form % 4,?_⟩)⟩;unfold lR
  repeat' split
  all_goals rfl
 simp only[h1,xaj];z_go
 by_cases h2:kd=2
 ·have f0:=xaD form (show(8:Int)≠0 by decide);have f1:=xaz form (show(0:Int)<8 by decide);simp only[h2,xbA];z_go;generalize hm:1 + form % 8=m;have l0:=xaD (form / 8) (show m≠0 by omega);have l1:=xaz (form / 8) (show 0<m by omega);rw[xab (show 0<m by omega)];z_go;generalize form / 8 % m=l at l0 l1;rw[xab (FQ (by omega))];z_go;rw[xab (FQ (by omega))];z_go;exact⟨_,rfl,.inr (.inr (.inl ⟨l,m,l0,l1,by omega,rfl⟩))⟩
 simp only[h2,xaj];z_go
 by_cases h3:kd=3
 ·have f0:=xaD form (show(7:Int)≠0 by decide);have f1:=xaz form (show(0:Int)<7 by decide);simp only[h3,xbA];z_go;generalize hm:2 + form % 7=m;rw[JR (by omega)];z_go;rw[zje (by omega)];z_go;refine⟨_,rfl,.inr (.inr (.inr (.inl ⟨_,?_,?_,rfl⟩)))⟩
  ·rw[xao,xao,xbn];omega
  ·rw[xao,xao,xbn];omega
 simp only[h3,xaj];z_go;exact⟨_,rfl,.inr (.inr (.inr (.inr rfl)))⟩
theorem zdY:∀ns:List Int,ns.length<=63->∃M,ni [.lst (ns.map D.int)] (mK tabs)=some (.v (.bl true),M):=by
 intro ns hl;obtain⟨nh,hn,en⟩:=zgN (c:=ns.getD (1:Int).toNat 0);obtain⟨R,er,hR⟩:=zg4 (M:=Z0) (ns:=ns) hn en;have c1:=N_ (M:=Z0) (ns:=ns) (k:=1) (by decide);have en:=en Z0;generalize ns.getD (1:Int).toNat 0=v1 at c1 en;have go:∀{M':Mm},lq [R] Z0=some (.v (.ref 4),M')->(∃M2,eO (Ga [.val (.lst (ns.map D.int)),.val R,.val (.int nh),.val (.ref 4),.un,.un,.un,.un,.un] M')=some (.v (.bl true),M2))->∃M,ni [.lst (ns.map D.int)] (mK tabs)=some (.v (.bl true),M):=by
  intro M' es ⟨M2,e3⟩;refine⟨M2,?_⟩;show ni [.lst (ns.map D.int)] Z0=_;unfold ni Vz I_;generalize h1:O6=nx1;generalize Cr=G at er ⊢;z_go;rw[er];z_go;rw[<-h1];unfold O6;generalize h2:O7=nx2;generalize sZ=G1 at en ⊢;generalize sY=G2 at c1 ⊢;z_go;rw[c1];z_go;rw[en];z_go;rw[<-h2];unfold O7;generalize Ga=n3 at e3 ⊢;generalize lq=G3 at es ⊢;z_go;rw[es];z_go;exact e3
 have hn':nh.natAbs<100000000000000000000:=by omega
 rcases hR with⟨f,rfl⟩ |⟨f,rfl⟩ |⟨l,m,l0,lm,m8,rfl⟩ |⟨fr,f0,f8,rfl⟩ |rfl
 ·obtain⟨M',a,k,es,h,h1,h2⟩:=OJ (ws:=lO f nh) (fr:=[.str "a"]) rfl (by decide) (zfw hn') (by have:=U6 (form:=f) (n:=nh);omega) (U7 hn');exact go es (rest ns hl (T6 (f:=a) (k:=k) (by decide) hn) (by x_go) rfl (by decide) (by decide) hn ⟨rfl,h,h1,h2⟩)
 ·obtain⟨M',a,j,k,es,h,h1,h2,h3⟩:=O4 (ws:=lR f nh) (fr:=[.str "a"]) rfl (by decide) (zhi hn') (by have:=Vo (form:=f) (n:=nh);omega) (Vp hn');exact go es (rest ns hl (T_ (f:=a) (j:=j) (k:=k) (by decide) hn) (by x_go) rfl (by decide) (by decide) hn ⟨rfl,h,h1,h2,h3⟩)
 ·have il:=(Zg l0 (by omega)).2.1;have im:=(Zg (n:=m) (by omega) (by omega)).2.1;obtain⟨M',a,es,h,h1⟩:=O3 (fr:=[.str "a"]) rfl (by decide) il im;exact go es (rest ns hl (T9 (f:=a) (by decide) il im (by omega)) (by x_go) rfl (by decide) (by decide) hn ⟨rfl,h,h1⟩)
 ·obtain⟨M',es,h⟩:=O2 (fr:=fr) (x3:=.tup []) rfl f8;exact go es (rest ns hl (T8 f0) (by x_go) rfl f0 f8 hn ⟨rfl,h⟩)
 ·obtain⟨M',es,h,h1⟩:=O1 (fr:=[.str "a"]) (x3:=.tup []) rfl (by decide);exact go es (rest ns hl (T7 (by decide)) (by x_go) rfl (by decide) (by decide) hn ⟨h,h1⟩)
theorem zfO {l:PySem.W.OpenLaw}{w:World}{K:Fgx}{mg:Mgx}{C:Ad}{h base:Heap}{f31 f32 f33 f34 f35 f36 f37 f38 f39 f40 f41 f42 f43 f44 f45 f46 f47 f48 f49 f50 f51 f52 f53 f54 f55 f56 f57 f58 f59 f60 f61 f62 f63 f64 f65 f66 f67 f68 f69:Addr}{d31 d32 d33 d34 d35 d36 d37 d38 d39 d40 d41 d42 d43 d44 d45 d46 d47 d48 d49 d50 d51 d52 d53 d54 d55 d56 d57 d58 d59 d60 d61 d62 d63 d64 d65 d66 d67 d68 d69:FuncData}(X:K.In h)(G:h.Ns mainGlobals mg)(T:Txt K mg C w)(hB:nJ mg base)
  (F0:bf K "is_figures" Kc)
  (F1:bf K "is_signed_figures" Kg)
  (F2:bf K "is_number" Kf)
  (F3:bf K "key_number" Kl)
  (F4:bf K "held" Ka)
  (F5:bf K "is_leaf" Ke)
  (F6:bf K "take_needed" Ku)
  (F7:bf K "check_words" J9)
  (F8:bf K "combined" J_)
  (F9:bf K "leaf_value" Km)
  (F10:bf K "reckoned" Kq)
  (F11:bf K "read_expr" Kp)
  (F12:bf K "read_cond" Ko)
  (F13:bf K "sieve_of" GJ)
  (F14:bf K "change_of" GF)
  (F15:bf K "is_in_share" Kd)
  (F16:bf K "sharer_of" Df)
  (F17:bf K "turner_of" GK)
  (F18:bf K "item_of" Kh)
  (F19:bf K "station_of" Ks)
  (F20:bf K "_law_whole" J8)
  (F21:bf K "_law_cell_at" JX)
  (F22:bf K "_law_number" J4)
  (F23:bf K "_law_row" J5)
  (F24:bf K "_law_key" J3)
  (F25:bf K "_law_thing" J6)
  (F26:bf K "_law_changed" JZ)
  (F27:bf K "_law_holds" J1)
  (F28:bf K "_law_in_share" J2)
  (F29:bf K "_law_due" J0)
  (F30:bf K "_law_told" J7)
  (D31:DefAt K mg "law" tX ["_law_script"] f31 d31)
  (D32:IniAt K C.Expr "Expr.__init__" yK ["self","words"] f32 d32)
  (D33:MetAtD K C.Expr "value" "Expr.value" Bm ["self","time","value","other"] [(.int 0)] f33 d33)
  (D34:IniAt K C.Cond "Cond.__init__" yI ["self","words"] f34 d34)
  (D35:MetAt K C.Cond "holds" "Cond.holds" yJ ["self","time","value"] f35 d35)
  (D36:IniAt K C.PourStation "Station.__init__" zc ["self","row"] f36 d36)
  (D37:MetAt K C.PourStation "low" "Station.low" zj ["self"] f37 d37)
  (D38:MetAt K C.PourStation "take_in" "Station.take_in" zp ["self","way","item"] f38 d38)
  (D39:MetAt K C.PourStation "take_thing" "Station.take_thing" zu ["self","way","thing"] f39 d39)
  (D40:MetAt K C.PourStation "all_kept" "Station.all_kept" zf ["self"] f40 d40)
  (D41:MetAt K C.PourStation "state" "Station.state" zm ["self"] f41 d41)
  (D42:IniAt K C.KeepStation "KeepStation.__init__" yM ["self","row"] f42 d42)
  (D43:MetAt K C.KeepStation "take_thing" "KeepStation.take_thing" yR ["self","way","thing"] f43 d43)
  (D44:MetAt K C.KeepStation "low" "Station.low" yO ["self"] f44 d44)
  (D45:MetAt K C.KeepStation "take_in" "Station.take_in" yQ ["self","way","item"] f45 d45)
  (D46:MetAt K C.KeepStation "all_kept" "Station.all_kept" yN ["self"] f46 d46)
  (D47:MetAt K C.KeepStation "state" "Station.state" yP ["self"] f47 d47)
  (D48:IniAt K C.TurnStation "TurnStation.__init__" zK ["self","row"] f48 d48)
  (D49:MetAt K C.TurnStation "take_thing" "TurnStation.take_thing" zP ["self","way","thing"] f49 d49)
  (D50:MetAt K C.TurnStation "low" "Station.low" zM ["self"] f50 d50)
  (D51:MetAt K C.TurnStation "take_in" "Station.take_in" zO ["self","way","item"] f51 d51)
  (D52:MetAt K C.TurnStation "all_kept" "Station.all_kept" zL ["self"] f52 d52)
  (D53:MetAt K C.TurnStation "state" "Station.state" zN ["self"] f53 d53)
  (D54:IniAt K C.ShareStation "ShareStation.__init__" zA ["self","row"] f54 d54)
  (D55:MetAt K C.ShareStation "take_thing" "ShareStation.take_thing" zH ["self","way","thing"] f55 d55)
  (D56:MetAt K C.ShareStation "low" "Station.low" zE ["self"] f56 d56)
  (D57:MetAt K C.ShareStation "take_in" "Station.take_in" zG ["self","way","item"] f57 d57)
  (D58:MetAt K C.ShareStation "all_kept" "Station.all_kept" zB ["self"] f58 d58)
  (D59:MetAt K C.ShareStation "state" "Station.state" zF ["self"] f59 d59)
  (D60:IniAt K C.OutStation "OutStation.__init__" yU ["self","row"] f60 d60)
  (D61:MetAt K C.OutStation "take_thing" "OutStation.take_thing" za ["self","way","thing"] f61 d61)
  (D62:MetAt K C.OutStation "all_kept" "OutStation.all_kept" yV ["self"] f62 d62)
  (D63:MetAt K C.OutStation "low" "Station.low" yW ["self"] f63 d63)
  (D64:MetAt K C.OutStation "take_in" "Station.take_in" yZ ["self","way","item"] f64 d64)
  (D65:MetAt K C.OutStation "state" "Station.state" yX ["self"] f65 d65)
  (D66:BasAt K C.Station "Station.__init__" yL ["self","row"] f66 d66)
  (D67:BasAt K C.Station "Station.__init__" zJ ["self","row"] f67 d67)
  (D68:BasAt K C.Station "Station.__init__" zx ["self","row"] f68 d68)
  (D69:BasAt K C.Station "Station.__init__" yS ["self","row"] f69 d69)
  :FnOk l.prog w K mg base lK Bb f31 d31 ["_law_script"] (t_ K mg 1 ni):=by
 have A0:aY l.prog w K mg base 1 "is_figures" 1 E_:=(F0.ok X G Yz (fun _=>zbB (k:=0) T) :);have A1:aY l.prog w K mg base 2 "is_signed_figures" 1 Fg:=(F1.ok X G YF (fun _=>zaJ (k:=1) T A0.up) :);have A2:aY l.prog w K mg base 3 "is_number" 1 Fe:=(F2.ok X G YD (fun _=>zbH (k:=2) T A1.up) :);have A3:aY l.prog w K mg base 1 "key_number" 1 Fi:=(F3.ok X G YH (fun _=>zbF (k:=0) T) :);have A4:aY l.prog w K mg base 1 "held" 1 EY:=(F4.ok X G Yy (fun _=>zfj (k:=0) T) :);have A5:aY l.prog w K mg base 4 "is_leaf" 2 Fd:=(F5.ok X G YC (fun _=>zci (k:=3) T A2.up) :);have B6:pD l.prog w K mg base 1 "take_needed" 2 CG:=(F6.okX X G Y0 (fun _=>zbp (k:=0) T) :);have A6:=B6.quiet;have B7:pD l.prog w K mg base 5 "check_words" 3 yr:=(F7.okX X G Yw (fun _=>zbk (k:=4) T A5.up B6.up) :);have A7:=B7.quiet;have A8:aY l.prog w K mg base 1 "combined" 3 Ez:=(F8.ok X G Yx (fun _=>zcb (k:=0) T) :);have A9:aY l.prog w K mg base 1 "leaf_value" 4 Fj:=(F9.ok X G YK (fun _=>zbu (k:=0) T) :);have A10:aY l.prog w K mg base 2 "reckoned" 4 nU:=(F10.ok X G YQ (fun _=>zce (k:=1) T A8.up A9.up) :);have A32:kE l.prog w K mg base 1 C.Expr 2 Eo:=⟨_,_,_,D32.M,fJ (b:=Hv) D32.F Xk (by decide) (za1 (k:=0) T),D32.b⟩;have A11:aY l.prog w K mg base 6 "read_expr" 2 Fo:=(F11.ok X G YM (fun _=>zbK (k:=5) (k0:=4) T rfl A7.up A32.up) :);have A34:kE l.prog w K mg base 1 C.Cond 2 En:=⟨_,_,_,D34.M,fJ (b:=Ht) D34.F Xi (by decide) (za0 (k:=0) T),D34.b⟩;have A12:aY l.prog w K mg base 6 "read_cond" 1 Fl:=(F12.ok X G YL (fun _=>zbG (k:=5) (k0:=4) T rfl A7.up A34.up) :);have A35:dH l.prog w K mg base 3 C.Cond "holds" 3 BZ:=⟨_,_,_,D35.M,fJ (b:=Hu) D35.F Xj (by decide) (zbw (k:=2) T A10.up),D35.b⟩;have A70:lg l.prog w K mg base 4 pO 2 Cz:=(pI.ok YX (zaO (k:=3) T A35.up) :);obtain⟨c13,P13,ht13,hc13⟩:=T.tb_sieve_of;have A13:aY l.prog w K mg base 7 "sieve_of" 1 Az:=(F13.okM X G YW ht13 (fun _=>zb8 (k:=6) T ht13 hc13 hB A12.up) :);have A33:dH l.prog w K mg base 3 C.Expr "value" 4 B_:=⟨_,_,_,D33.M,fJ (b:=Hw) D33.F Xl (by decide) (zbC (k:=2) T A10.up),D33.b⟩;have A71:lg l.prog w K mg base 4 nW 3 Oa:=(pI.ok RX (W8 (k:=3) T A4.up A33.up) :);have A71_d1:lg l.prog w K mg base 4 nW 2 Ey:=(pI.okD RX (W8 (k:=3) T A4.up A33.up) :);obtain⟨c14,P14,ht14,hc14⟩:=T.tb_change_of;have A14:aY l.prog w K mg base 7 "change_of" 2 Ew:=(F14.okM X G Yv ht14 (fun _=>zbT (k:=6) T ht14 hc14 hB A11.up) :);have A15:aY l.prog w K mg base 2 "is_in_share" 3 Fb:=(F15.ok X G YB (fun _=>zbj (k:=1) T A3.up) :);have A72:lg l.prog w K mg base 3 lu 1 Cy:=(pI.ok YT (zav (k:=2) T A15.up) :);obtain⟨c16,P16,ht16,hc16⟩:=T.tb_sharer_of;have A16:aY l.prog w K mg base 1 "sharer_of" 1 Ay:=(F16.okM X G YS ht16 (fun _=>zbJ (k:=0) T ht16 hc16 hB) :);have A73:lg l.prog w K mg base 5 pP 1 CJ:=(pI.ok Y5 (zaN (k:=4) T A71_d1.up) :);obtain⟨c17,P17,ht17,hc17⟩:=T.tb_turner_of;have A17:aY l.prog w K mg base 8 "turner_of" 1 A_:=(F17.okM X G Y4 ht17 (fun _=>zbN (k:=7) T ht17 hc17 hB A14.up) :);have A18:aY l.prog w K mg base 1 "item_of" 1 nR:=(F18.ok X G YG (fun _=>zcP (k:=0) T) :);have A36:kE l.prog w K mg base 1 C.PourStation 2 Ai:=⟨_,_,_,D36.M,fJ (b:=Ib) D36.F XH (by decide) (zaq (k:=0) T),D36.b⟩;have A66:mX l.prog w K mg base 1 "Station" "__init__" 2 Ca:=(D66.ok (b:=Hx) T.cl_Station.mg Xm (zac (k:=0) T) :);have A42:kE l.prog w K mg base 8 C.KeepStation 2 Aa:=⟨_,_,_,D42.M,fJ (b:=Hy) D42.F Xn (by decide) (zas (k:=7) T A13.up A66.up),D42.b⟩;have A67:mX l.prog w K mg base 1 "Station" "__init__" 2 Cg:=(D67.ok (b:=Ir) T.cl_Station.mg Yc (zab (k:=0) T) :);have A48:kE l.prog w K mg base 9 C.TurnStation 2 Aq:=⟨_,_,_,D48.M,fJ (b:=Iu) D48.F Yd (by decide) (zat (k:=8) T A17.up A67.up),D48.b⟩;have A68:mX l.prog w K mg base 1 "Station" "__init__" 2 Ce:=(D68.ok (b:=Ij) T.cl_Station.mg X4 (zaa (k:=0) T) :);have A54:kE l.prog w K mg base 2 C.ShareStation 2 Al:=⟨_,_,_,D54.M,fJ (b:=Ik) D54.F X5 (by decide) (zam (k:=1) T A16.up A68.up),D54.b⟩;have A69:mX l.prog w K mg base 1 "Station" "__init__" 2 Cd:=(D69.ok (b:=HN) T.cl_Station.mg Xv (zad (k:=0) T) :);have A60:kE l.prog w K mg base 2 C.OutStation 2 Ae:=⟨_,_,_,D60.M,fJ (b:=HS) D60.F Xw (by decide) (zaC (k:=1) T A69.up),D60.b⟩;have A19:aY l.prog w K mg base 11 "station_of" 1 lq:=(F19.ok X G YZ (fun _=>zbA (k:=10) (k0:=9) T rfl A36.up A42.up A48.up A54.up A60.up) :);have A20:aY l.prog w K mg base 1 "_law_whole" 1 Ax:=(F20.ok X G Yu (fun _=>zdk (k:=0) T) :);have A21:aY l.prog w K mg base 1 "_law_cell_at" 2 sY:=(F21.ok X G Yk (fun _=>zb9 (k:=0) T) :);have A22:aY l.prog w K mg base 1 "_law_number" 1 sZ:=(F22.ok X G Yq (fun _=>zcw (k:=0) T) :);have A23:aY l.prog w K mg base 2 "_law_row" 1 Cr:=(F23.ok X G Yr (fun _=>zf8 (k:=1) T A21.up A22.up) :);have A24:aY l.prog w K mg base 1 "_law_key" 1 Cq:=(F24.ok X G Yp (fun _=>zf3 (k:=0) T) :);have A25:aY l.prog w K mg base 2 "_law_thing" 2 Cu:=(F25.ok X G Ys (fun _=>zcU (k:=1) T A24.up) :);have A26:aY l.prog w K mg base 1 "_law_changed" 3 Ci:=(F26.ok X G Yl (fun _=>zb7 (k:=0) T) :);have A27:aY l.prog w K mg base 1 "_law_holds" 3 Cj:=(F27.ok X G Yn (fun _=>zc1 (k:=0) T) :);have A28:aY l.prog w K mg base 1 "_law_in_share" 2 Ck:=(F28.ok X G Yo (fun _=>zbL (k:=0) T) :);have A29:aY l.prog w K mg base 2 "_law_due" 3 m_:=(F29.ok X G Ym (fun _=>zgS (k:=1) T A26.up A27.up A28.up) :);have A30:aY l.prog w K mg base 2 "_law_told" 2 Cw:=(F30.ok X G Yt (fun _=>zd8 (k:=1) T A20.up) :);have A37:dH l.prog w K mg base 1 C.PourStation "low" 1 yd:=⟨_,_,_,D37.M,fJ (b:=Ie) D37.F XM (by decide) (zaR (k:=0) T),D37.b⟩;have A39:dH l.prog w K mg base 2 C.PourStation "take_thing" 3 yg:=⟨_,_,_,D39.M,fJ (b:=Ii) D39.F X3 (by decide) (zah (k:=1) T A18.up),D39.b⟩;have A38:dH l.prog w K mg base 3 C.PourStation "take_in" 3 Ak:=⟨_,_,_,D38.M,fJ (b:=Ih) D38.F XS (by decide) (zaA (k:=2) T A39.up),D38.b⟩;have A40:dH l.prog w K mg base 1 C.PourStation "all_kept" 1 Er:=⟨_,_,_,D40.M,fJ (b:=LK) D40.F XJ (by decide) (zau (k:=0) T),D40.b⟩;have A41:dH l.prog w K mg base 2 C.PourStation "state" 1 Aj:=⟨_,_,_,D41.M,fJ (b:=Ig) D41.F XR (by decide) (zaF (k:=1) T A40.up),D41.b⟩;have A44:dH l.prog w K mg base 1 C.KeepStation "low" 1 xX:=⟨_,_,_,D44.M,fJ (b:=Hz) D44.F Xp (by decide) (zaP (k:=0) T),D44.b⟩;have A43:dH l.prog w K mg base 5 C.KeepStation "take_thing" 3 xY:=⟨_,_,_,D43.M,fJ (b:=HJ) D43.F Xu (by decide) (zak (k:=4) T A18.up A70.up),D43.b⟩;have A45:dH l.prog w K mg base 6 C.KeepStation "take_in" 3 Ac:=⟨_,_,_,D45.M,fJ (b:=HF) D45.F Xr (by decide) (zaz (k:=5) T A43.up),D45.b⟩;have A46:dH l.prog w K mg base 1 C.KeepStation "all_kept" 1 Ep:=⟨_,_,_,D46.M,fJ (b:=Lz) D46.F Xo (by decide) (zaw (k:=0) T),D46.b⟩;have A47:dH l.prog w K mg base 2 C.KeepStation "state" 1 Ab:=⟨_,_,_,D47.M,fJ (b:=HD) D47.F Xq (by decide) (zaG (k:=1) T A46.up),D47.b⟩;have A50:dH l.prog w K mg base 1 C.TurnStation "low" 1 yp:=⟨_,_,_,D50.M,fJ (b:=Iv) D50.F Yg (by decide) (zaS (k:=0) T),D50.b⟩;have A49:dH l.prog w K mg base 6 C.TurnStation "take_thing" 3 yq:=⟨_,_,_,D49.M,fJ (b:=IK) D49.F Yj (by decide) (zal (k:=5) T A18.up A73.up),D49.b⟩;have A51:dH l.prog w K mg base 7 C.TurnStation "take_in" 3 Aw:=⟨_,_,_,D51.M,fJ (b:=Iz) D51.F Yi (by decide) (zay (k:=6) T A49.up),D51.b⟩;have A52:dH l.prog w K mg base 1 C.TurnStation "all_kept" 1 Eu:=⟨_,_,_,D52.M,fJ (b:=LR) D52.F Ye (by decide) (zar (k:=0) T),D52.b⟩;have A53:dH l.prog w K mg base 2 C.TurnStation "state" 1 Av:=⟨_,_,_,D53.M,fJ (b:=Iw) D53.F Yh (by decide) (zaH (k:=1) T A52.up),D53.b⟩;have A56:dH l.prog w K mg base 1 C.ShareStation "low" 1 yh:=⟨_,_,_,D56.M,fJ (b:=Il) D56.F X7 (by decide) (zaL (k:=0) T),D56.b⟩;have A55:dH l.prog w K mg base 4 C.ShareStation "take_thing" 3 yj:=⟨_,_,_,D55.M,fJ (b:=Ip) D55.F Yb (by decide) (zag (k:=3) T A18.up A72.up),D55.b⟩;have A57:dH l.prog w K mg base 5 C.ShareStation "take_in" 3 Ao:=⟨_,_,_,D57.M,fJ (b:=Io) D57.F X_ (by decide) (zax (k:=4) T A55.up),D57.b⟩;have A58:dH l.prog w K mg base 1 C.ShareStation "all_kept" 1 Et:=⟨_,_,_,D58.M,fJ (b:=LQ) D58.F X6 (by decide) (zao (k:=0) T),D58.b⟩;have A59:dH l.prog w K mg base 2 C.ShareStation "state" 1 Am:=⟨_,_,_,D59.M,fJ (b:=Im) D59.F X8 (by decide) (zaD (k:=1) T A58.up),D59.b⟩;have A63:dH l.prog w K mg base 1 C.OutStation "low" 1 xZ:=⟨_,_,_,D63.M,fJ (b:=HX) D63.F Xy (by decide) (zaX (k:=0) T),D63.b⟩;have A61:dH l.prog w K mg base 1 C.OutStation "take_thing" 3 yc:=⟨_,_,_,D61.M,fJ (b:=Ia) D61.F XD (by decide) (zan (k:=0) T),D61.b⟩;have A64:dH l.prog w K mg base 2 C.OutStation "take_in" 3 Ah:=⟨_,_,_,D64.M,fJ (b:=H_) D64.F XC (by decide) (zaE (k:=1) T A61.up),D64.b⟩;have A62:dH l.prog w K mg base 1 C.OutStation "all_kept" 1 Af:=⟨_,_,_,D62.M,fJ (b:=HW) D62.F Xx (by decide) (zaB (k:=0) T),D62.b⟩;have A65:dH l.prog w K mg base 2 C.OutStation "state" 1 Ag:=⟨_,_,_,D65.M,fJ (b:=HY) D65.F Xz (by decide) (zaM (k:=1) T A62.up),D65.b⟩;exact fJ (b:=I_) D31.F YJ (by decide) (zjz (k:=11) T A19.up A21.up A22.up A23.up A25.up A29.up A30.up A37.up A38.up A41.up A44.up A45.up A47.up A50.up A51.up A53.up A56.up A57.up A59.up A63.up A64.up A65.up)
theorem all_mk {l:W.OpenLaw}{w:World}{K:W.Frag}{h:Heap}{mg:Mgx}{fa:Addr}(X:K.In h)(G:h.Ns mainGlobals mg)(hfa:mg "law"=some (.ref fa))
  (j6:W.nsIn K mainGlobals "Cond"=some (some (.ref j7)))
  (j8:W.nsIn K mainGlobals "Expr"=some (some (.ref j9)))
  (jc:W.nsIn K mainGlobals "KeepStation"=some (some (.ref jd)))
  (je:W.nsIn K mainGlobals "OutStation"=some (some (.ref jf)))
  (jg:W.nsIn K mainGlobals "PourStation"=some (some (.ref jh)))
  (ji:W.nsIn K mainGlobals "ShareStation"=some (some (.ref jm)))
  (jo:W.nsIn K mainGlobals "Station"=some (some (.ref jq)))
  (jr:W.nsIn K mainGlobals "TurnStation"=some (some (.ref jt)))
  (ju:W.nsIn K mainGlobals "DamError"=some (some (.ref jw)))
  (jy:W.nsIn K mainGlobals "NoExpr"=some (some (.ref jz)))
  (jA:W.plainGet K j7 Str.empty=true) (jB:W.hasDictIn K j7=true) (jC:W.plainOver K j7=true) (jD:W.findIn K (.ref j7) "__setattr__"=some (some (.builtin "object.__setattr__")))
  (jE:W.plainGet K j9 Str.empty=true) (jF:W.hasDictIn K j9=true) (jG:W.plainOver K j9=true) (jH:W.findIn K (.ref j9) "__setattr__"=some (some (.builtin "object.__setattr__")))
  (jJ:W.plainGet K jd Str.empty=true) (jK:W.hasDictIn K jd=true) (jL:W.plainOver K jd=true) (jM:W.findIn K (.ref jd) "__setattr__"=some (some (.builtin "object.__setattr__")))
  (jN:W.plainGet K jf Str.empty=true) (jO:W.hasDictIn K jf=true) (jP:W.plainOver K jf=true) (jQ:W.findIn K (.ref jf) "__setattr__"=some (some (.builtin "object.__setattr__")))
  (jR:W.plainGet K jh Str.empty=true) (jT:W.hasDictIn K jh=true) (jU:W.plainOver K jh=true) (jV:W.findIn K (.ref jh) "__setattr__"=some (some (.builtin "object.__setattr__")))
  (jW:W.plainGet K jm Str.empty=true) (jX:W.hasDictIn K jm=true) (jY:W.plainOver K jm=true) (jZ:W.findIn K (.ref jm) "__setattr__"=some (some (.builtin "object.__setattr__")))
  (qb:W.plainGet K jq Str.empty=true) (qe:W.hasDictIn K jq=true) (qg:W.plainOver K jq=true) (qj:W.findIn K (.ref jq) "__setattr__"=some (some (.builtin "object.__setattr__")))
  (ql:W.plainGet K jt Str.empty=true) (qm:W.hasDictIn K jt=true) (qp:W.plainOver K jt=true) (qt:W.findIn K (.ref jt) "__setattr__"=some (some (.builtin "object.__setattr__")))
  (qu:W.findIn K (.ref jm) "is_shared"=some none)
  (qw:W.findIn K (.ref jf) "kept"=some none)
  (qx:W.findIn K (.ref jh) "marks"=some none)
  (qy:W.findIn K (.ref jd) "marks"=some none)
  (qz:W.findIn K (.ref jt) "marks"=some none)
  (qC:W.findIn K (.ref jm) "marks"=some none)
  (qD:W.findIn K (.ref jf) "marks"=some none)
  (qF:W.findIn K (.ref j9) "parts"=some none)
  (qG:W.findIn K (.ref j7) "parts"=some none)
  (qH:W.findIn K (.ref jd) "sieve"=some none)
  (qI:W.findIn K (.ref jt) "turn"=some none)
  (qJ:kj K jw=true)
  (qK:kj K jz=true)
  (qL:q_ K "sieve_of"=true)
  (qM:q_ K "change_of"=true)
  (qN:q_ K "sharer_of"=true)
  (qO:q_ K "turner_of"=true)
  (qP:W.findIn K (.ref jd) "__class__"=some (some (.builtin "object.__class__"))) (qQ:W.specialIn K (.builtin "object.__class__") "__get__"=some (some (.builtin "getset_descriptor.__get__"))) (qR:W.takesIn K (.builtin "object.__class__")=some true) (qT:W.mroIn K jd (.type "object")=some true) (qU:W.kitOne K (.ref jd) (.ref jq)=some true)
  (qW:W.findIn K (.ref jf) "__class__"=some (some (.builtin "object.__class__"))) (qX:W.specialIn K (.builtin "object.__class__") "__get__"=some (some (.builtin "getset_descriptor.__get__"))) (qY:W.takesIn K (.builtin "object.__class__")=some true) (qZ:W.mroIn K jf (.type "object")=some true) (o7:W.kitOne K (.ref jf) (.ref jq)=some true)
  (o8:W.findIn K (.ref jh) "__class__"=some (some (.builtin "object.__class__"))) (o9:W.specialIn K (.builtin "object.__class__") "__get__"=some (some (.builtin "getset_descriptor.__get__"))) (oh:W.takesIn K (.builtin "object.__class__")=some true) (ou:W.mroIn K jh (.type "object")=some true) (oA:W.kitOne K (.ref jh) (.ref jq)=some true)
  (oE:W.findIn K (.ref jm) "__class__"=some (some (.builtin "object.__class__"))) (oF:W.specialIn K (.builtin "object.__class__") "__get__"=some (some (.builtin "getset_descriptor.__get__"))) (oG:W.takesIn K (.builtin "object.__class__")=some true) (oH:W.mroIn K jm (.type "object")=some true) (oJ:W.kitOne K (.ref jm) (.ref jq)=some true)
  (oK:W.findIn K (.ref jt) "__class__"=some (some (.builtin "object.__class__"))) (oM:W.specialIn K (.builtin "object.__class__") "__get__"=some (some (.builtin "getset_descriptor.__get__"))) (oN:W.takesIn K (.builtin "object.__class__")=some true) (oO:W.mroIn K jt (.type "object")=some true) (oR:W.kitOne K (.ref jt) (.ref jq)=some true)
  (oU:Hj K jz=true) (oV:W.keepIn K (.ref jz)=true) (oW:K7 K jz=true)
  (F0:bf K "is_figures" Kc)
  (F1:bf K "is_signed_figures" Kg)
  (F2:bf K "is_number" Kf)
  (F3:bf K "key_number" Kl)
  (F4:bf K "held" Ka)
  (F5:bf K "is_leaf" Ke)
  (F6:bf K "take_needed" Ku)
  (F7:bf K "check_words" J9)
  (F8:bf K "combined" J_)
  (F9:bf K "leaf_value" Km)
  (F10:bf K "reckoned" Kq)
  (F11:bf K "read_expr" Kp)
  (F12:bf K "read_cond" Ko)
  (F13:bf K "sieve_of" GJ)
  (F14:bf K "change_of" GF)
  (F15:bf K "is_in_share" Kd)
  (F16:bf K "sharer_of" Df)
  (F17:bf K "turner_of" GK)
  (F18:bf K "item_of" Kh)
  (F19:bf K "station_of" Ks)
  (F20:bf K "_law_whole" J8)
  (F21:bf K "_law_cell_at" JX)
  (F22:bf K "_law_number" J4)
  (F23:bf K "_law_row" J5)
  (F24:bf K "_law_key" J3)
  (F25:bf K "_law_thing" J6)
  (F26:bf K "_law_changed" JZ)
  (F27:bf K "_law_holds" J1)
  (F28:bf K "_law_in_share" J2)
  (F29:bf K "_law_due" J0)
  (F30:bf K "_law_told" J7)
  (a31:W.nsIn K mainGlobals "law"=some (some (.ref f31))) (l31:K.lookup f31=some ⟨oc31,od31,.func (W.fnOf "law" "law" (dG tX) (aZ tX) (aF tX) .none kV31 dc31 pm31 an31 cd31 ct31),sl31⟩) (c31:W.codeIn K cd31 "law"=true) (k31:W.keepIn K (.ref f31)=true)
  (a32:W.findIn K (.ref j9) "__init__"=some (some (.ref f32))) (l32:K.lookup f32=some ⟨oc32,od32,.func (W.fnOf "__init__" "Expr.__init__" (dG yK) (aZ yK) (aF yK) .none kV32 dc32 pm32 an32 cd32 ct32),sl32⟩) (c32:W.codeIn K cd32 "Expr.__init__"=true) (k32:W.keepIn K (.ref f32)=true)
  (n32:W.isFn K (.ref f32)=true)
  (w32:W.makesIn K j9=true) (y32:W.keepIn K (.ref j9)=true)
  (a33:W.findIn K (.ref j9) "value"=some (some (.ref f33))) (l33:K.lookup f33=some ⟨oc33,od33,.func (W.fnOf "value" "Expr.value" (dG Bm) (aZ Bm) (aF Bm) (.ref tt33) kV33 dc33 pm33 an33 cd33 ct33),sl33⟩) (c33:W.codeIn K cd33 "Expr.value"=true) (k33:W.keepIn K (.ref f33)=true)
  (q33:K.lookup tt33=some ⟨ot33,td33,.seq #[(Value.int 0 tk33_0)] tn33,ts33⟩)
  (n33:W.isFn K (.ref f33)=true)
  (a34:W.findIn K (.ref j7) "__init__"=some (some (.ref f34))) (l34:K.lookup f34=some ⟨oc34,od34,.func (W.fnOf "__init__" "Cond.__init__" (dG yI) (aZ yI) (aF yI) .none kV34 dc34 pm34 an34 cd34 ct34),sl34⟩) (c34:W.codeIn K cd34 "Cond.__init__"=true) (k34:W.keepIn K (.ref f34)=true)
  (n34:W.isFn K (.ref f34)=true)
  (w34:W.makesIn K j7=true) (y34:W.keepIn K (.ref j7)=true)
  (a35:W.findIn K (.ref j7) "holds"=some (some (.ref f35))) (l35:K.lookup f35=some ⟨oc35,od35,.func (W.fnOf "holds" "Cond.holds" (dG yJ) (aZ yJ) (aF yJ) .none kV35 dc35 pm35 an35 cd35 ct35),sl35⟩) (c35:W.codeIn K cd35 "Cond.holds"=true) (k35:W.keepIn K (.ref f35)=true)
  (n35:W.isFn K (.ref f35)=true)
  (a36:W.findIn K (.ref jh) "__init__"=some (some (.ref f36))) (l36:K.lookup f36=some ⟨oc36,od36,.func (W.fnOf "__init__" "Station.__init__" (dG zc) (aZ zc) (aF zc) .none kV36 dc36 pm36 an36 cd36 ct36),sl36⟩) (c36:W.codeIn K cd36 "Station.__init__"=true) (k36:W.keepIn K (.ref f36)=true)
  (n36:W.isFn K (.ref f36)=true)
  (w36:W.makesIn K jh=true) (y36:W.keepIn K (.ref jh)=true)
  (a37:W.findIn K (.ref jh) "low"=some (some (.ref f37))) (l37:K.lookup f37=some ⟨oc37,od37,.func (W.fnOf "low" "Station.low" (dG zj) (aZ zj) (aF zj) .none kV37 dc37 pm37 an37 cd37 ct37),sl37⟩) (c37:W.codeIn K cd37 "Station.low"=true) (k37:W.keepIn K (.ref f37)=true)
  (n37:W.isFn K (.ref f37)=true)
  (a38:W.findIn K (.ref jh) "take_in"=some (some (.ref f38))) (l38:K.lookup f38=some ⟨oc38,od38,.func (W.fnOf "take_in" "Station.take_in" (dG zp) (aZ zp) (aF zp) .none kV38 dc38 pm38 an38 cd38 ct38),sl38⟩) (c38:W.codeIn K cd38 "Station.take_in"=true) (k38:W.keepIn K (.ref f38)=true)
  (n38:W.isFn K (.ref f38)=true)
  (a39:W.findIn K (.ref jh) "take_thing"=some (some (.ref f39))) (l39:K.lookup f39=some ⟨oc39,od39,.func (W.fnOf "take_thing" "Station.take_thing" (dG zu) (aZ zu) (aF zu) .none kV39 dc39 pm39 an39 cd39 ct39),sl39⟩) (c39:W.codeIn K cd39 "Station.take_thing"=true) (k39:W.keepIn K (.ref f39)=true)
  (n39:W.isFn K (.ref f39)=true)
  (a40:W.findIn K (.ref jh) "all_kept"=some (some (.ref f40))) (l40:K.lookup f40=some ⟨oc40,od40,.func (W.fnOf "all_kept" "Station.all_kept" (dG zf) (aZ zf) (aF zf) .none kV40 dc40 pm40 an40 cd40 ct40),sl40⟩) (c40:W.codeIn K cd40 "Station.all_kept"=true) (k40:W.keepIn K (.ref f40)=true)
  (n40:W.isFn K (.ref f40)=true)
  (a41:W.findIn K (.ref jh) "state"=some (some (.ref f41))) (l41:K.lookup f41=some ⟨oc41,od41,.func (W.fnOf "state" "Station.state" (dG zm) (aZ zm) (aF zm) .none kV41 dc41 pm41 an41 cd41 ct41),sl41⟩) (c41:W.codeIn K cd41 "Station.state"=true) (k41:W.keepIn K (.ref f41)=true)
  (n41:W.isFn K (.ref f41)=true)
  (a42:W.findIn K (.ref jd) "__init__"=some (some (.ref f42))) (l42:K.lookup f42=some ⟨oc42,od42,.func (W.fnOf "__init__" "KeepStation.__init__" (dG yM) (aZ yM) (aF yM) .none kV42 dc42 pm42 an42 cd42 ct42),sl42⟩) (c42:W.codeIn K cd42 "KeepStation.__init__"=true) (k42:W.keepIn K (.ref f42)=true)
  (n42:W.isFn K (.ref f42)=true)
  (w42:W.makesIn K jd=true) (y42:W.keepIn K (.ref jd)=true)
  (a43:W.findIn K (.ref jd) "take_thing"=some (some (.ref f43))) (l43:K.lookup f43=some ⟨oc43,od43,.func (W.fnOf "take_thing" "KeepStation.take_thing" (dG yR) (aZ yR) (aF yR) .none kV43 dc43 pm43 an43 cd43 ct43),sl43⟩) (c43:W.codeIn K cd43 "KeepStation.take_thing"=true) (k43:W.keepIn K (.ref f43)=true)
  (n43:W.isFn K (.ref f43)=true)
  (a44:W.findIn K (.ref jd) "low"=some (some (.ref f44))) (l44:K.lookup f44=some ⟨oc44,od44,.func (W.fnOf "low" "Station.low" (dG yO) (aZ yO) (aF yO) .none kV44 dc44 pm44 an44 cd44 ct44),sl44⟩) (c44:W.codeIn K cd44 "Station.low"=true) (k44:W.keepIn K (.ref f44)=true)
  (n44:W.isFn K (.ref f44)=true)
  (a45:W.findIn K (.ref jd) "take_in"=some (some (.ref f45))) (l45:K.lookup f45=some ⟨oc45,od45,.func (W.fnOf "take_in" "Station.take_in" (dG yQ) (aZ yQ) (aF yQ) .none kV45 dc45 pm45 an45 cd45 ct45),sl45⟩) (c45:W.codeIn K cd45 "Station.take_in"=true) (k45:W.keepIn K (.ref f45)=true)
  (n45:W.isFn K (.ref f45)=true)
  (a46:W.findIn K (.ref jd) "all_kept"=some (some (.ref f46))) (l46:K.lookup f46=some ⟨oc46,od46,.func (W.fnOf "all_kept" "Station.all_kept" (dG yN) (aZ yN) (aF yN) .none kV46 dc46 pm46 an46 cd46 ct46),sl46⟩) (c46:W.codeIn K cd46 "Station.all_kept"=true) (k46:W.keepIn K (.ref f46)=true)
  (n46:W.isFn K (.ref f46)=true)
  (a47:W.findIn K (.ref jd) "state"=some (some (.ref f47))) (l47:K.lookup f47=some ⟨oc47,od47,.func (W.fnOf "state" "Station.state" (dG yP) (aZ yP) (aF yP) .none kV47 dc47 pm47 an47 cd47 ct47),sl47⟩) (c47:W.codeIn K cd47 "Station.state"=true) (k47:W.keepIn K (.ref f47)=true)
  (n47:W.isFn K (.ref f47)=true)
  (a48:W.findIn K (.ref jt) "__init__"=some (some (.ref f48))) (l48:K.lookup f48=some ⟨oc48,od48,.func (W.fnOf "__init__" "TurnStation.__init__" (dG zK) (aZ zK) (aF zK) .none kV48 dc48 pm48 an48 cd48 ct48),sl48⟩) (c48:W.codeIn K cd48 "TurnStation.__init__"=true) (k48:W.keepIn K (.ref f48)=true)
  (n48:W.isFn K (.ref f48)=true)
  (w48:W.makesIn K jt=true) (y48:W.keepIn K (.ref jt)=true)
  (a49:W.findIn K (.ref jt) "take_thing"=some (some (.ref f49))) (l49:K.lookup f49=some ⟨oc49,od49,.func (W.fnOf "take_thing" "TurnStation.take_thing" (dG zP) (aZ zP) (aF zP) .none kV49 dc49 pm49 an49 cd49 ct49),sl49⟩) (c49:W.codeIn K cd49 "TurnStation.take_thing"=true) (k49:W.keepIn K (.ref f49)=true)
  (n49:W.isFn K (.ref f49)=true)
  (a50:W.findIn K (.ref jt) "low"=some (some (.ref f50))) (l50:K.lookup f50=some ⟨oc50,od50,.func (W.fnOf "low" "Station.low" (dG zM) (aZ zM) (aF zM) .none kV50 dc50 pm50 an50 cd50 ct50),sl50⟩) (c50:W.codeIn K cd50 "Station.low"=true) (k50:W.keepIn K (.ref f50)=true)
  (n50:W.isFn K (.ref f50)=true)
  (a51:W.findIn K (.ref jt) "take_in"=some (some (.ref f51))) (l51:K.lookup f51=some ⟨oc51,od51,.func (W.fnOf "take_in" "Station.take_in" (dG zO) (aZ zO) (aF zO) .none kV51 dc51 pm51 an51 cd51 ct51),sl51⟩) (c51:W.codeIn K cd51 "Station.take_in"=true) (k51:W.keepIn K (.ref f51)=true)
  (n51:W.isFn K (.ref f51)=true)
  (a52:W.findIn K (.ref jt) "all_kept"=some (some (.ref f52))) (l52:K.lookup f52=some ⟨oc52,od52,.func (W.fnOf "all_kept" "Station.all_kept" (dG zL) (aZ zL) (aF zL) .none kV52 dc52 pm52 an52 cd52 ct52),sl52⟩) (c52:W.codeIn K cd52 "Station.all_kept"=true) (k52:W.keepIn K (.ref f52)=true)
  (n52:W.isFn K (.ref f52)=true)
  (a53:W.findIn K (.ref jt) "state"=some (some (.ref f53))) (l53:K.lookup f53=some ⟨oc53,od53,.func (W.fnOf "state" "Station.state" (dG zN) (aZ zN) (aF zN) .none kV53 dc53 pm53 an53 cd53 ct53),sl53⟩) (c53:W.codeIn K cd53 "Station.state"=true) (k53:W.keepIn K (.ref f53)=true)
  (n53:W.isFn K (.ref f53)=true)
  (a54:W.findIn K (.ref jm) "__init__"=some (some (.ref f54))) (l54:K.lookup f54=some ⟨oc54,od54,.func (W.fnOf "__init__" "ShareStation.__init__" (dG zA) (aZ zA) (aF zA) .none kV54 dc54 pm54 an54 cd54 ct54),sl54⟩) (c54:W.codeIn K cd54 "ShareStation.__init__"=true) (k54:W.keepIn K (.ref f54)=true)
  (n54:W.isFn K (.ref f54)=true)
  (w54:W.makesIn K jm=true) (y54:W.keepIn K (.ref jm)=true)
  (a55:W.findIn K (.ref jm) "take_thing"=some (some (.ref f55))) (l55:K.lookup f55=some ⟨oc55,od55,.func (W.fnOf "take_thing" "ShareStation.take_thing" (dG zH) (aZ zH) (aF zH) .none kV55 dc55 pm55 an55 cd55 ct55),sl55⟩) (c55:W.codeIn K cd55 "ShareStation.take_thing"=true) (k55:W.keepIn K (.ref f55)=true)
  (n55:W.isFn K (.ref f55)=true)
  (a56:W.findIn K (.ref jm) "low"=some (some (.ref f56))) (l56:K.lookup f56=some ⟨oc56,od56,.func (W.fnOf "low" "Station.low" (dG zE) (aZ zE) (aF zE) .none kV56 dc56 pm56 an56 cd56 ct56),sl56⟩) (c56:W.codeIn K cd56 "Station.low"=true) (k56:W.keepIn K (.ref f56)=true)
  (n56:W.isFn K (.ref f56)=true)
  (a57:W.findIn K (.ref jm) "take_in"=some (some (.ref f57))) (l57:K.lookup f57=some ⟨oc57,od57,.func (W.fnOf "take_in" "Station.take_in" (dG zG) (aZ zG) (aF zG) .none kV57 dc57 pm57 an57 cd57 ct57),sl57⟩) (c57:W.codeIn K cd57 "Station.take_in"=true) (k57:W.keepIn K (.ref f57)=true)
  (n57:W.isFn K (.ref f57)=true)
  (a58:W.findIn K (.ref jm) "all_kept"=some (some (.ref f58))) (l58:K.lookup f58=some ⟨oc58,od58,.func (W.fnOf "all_kept" "Station.all_kept" (dG zB) (aZ zB) (aF zB) .none kV58 dc58 pm58 an58 cd58 ct58),sl58⟩) (c58:W.codeIn K cd58 "Station.all_kept"=true) (k58:W.keepIn K (.ref f58)=true)
  (n58:W.isFn K (.ref f58)=true)
  (a59:W.findIn K (.ref jm) "state"=some (some (.ref f59))) (l59:K.lookup f59=some ⟨oc59,od59,.func (W.fnOf "state" "Station.state" (dG zF) (aZ zF) (aF zF) .none kV59 dc59 pm59 an59 cd59 ct59),sl59⟩) (c59:W.codeIn K cd59 "Station.state"=true) (k59:W.keepIn K (.ref f59)=true)
  (n59:W.isFn K (.ref f59)=true)
  (a60:W.findIn K (.ref jf) "__init__"=some (some (.ref f60))) (l60:K.lookup f60=some ⟨oc60,od60,.func (W.fnOf "__init__" "OutStation.__init__" (dG yU) (aZ yU) (aF yU) .none kV60 dc60 pm60 an60 cd60 ct60),sl60⟩) (c60:W.codeIn K cd60 "OutStation.__init__"=true) (k60:W.keepIn K (.ref f60)=true)
  (n60:W.isFn K (.ref f60)=true)
  (w60:W.makesIn K jf=true) (y60:W.keepIn K (.ref jf)=true)
  (a61:W.findIn K (.ref jf) "take_thing"=some (some (.ref f61))) (l61:K.lookup f61=some ⟨oc61,od61,.func (W.fnOf "take_thing" "OutStation.take_thing" (dG za) (aZ za) (aF za) .none kV61 dc61 pm61 an61 cd61 ct61),sl61⟩) (c61:W.codeIn K cd61 "OutStation.take_thing"=true) (k61:W.keepIn K (.ref f61)=true)
  (n61:W.isFn K (.ref f61)=true)
  (a62:W.findIn K (.ref jf) "all_kept"=some (some (.ref f62))) (l62:K.lookup f62=some ⟨oc62,od62,.func (W.fnOf "all_kept" "OutStation.all_kept" (dG yV) (aZ yV) (aF yV) .none kV62 dc62 pm62 an62 cd62 ct62),sl62⟩) (c62:W.codeIn K cd62 "OutStation.all_kept"=true) (k62:W.keepIn K (.ref f62)=true)
  (n62:W.isFn K (.ref f62)=true)
  (a63:W.findIn K (.ref jf) "low"=some (some (.ref f63))) (l63:K.lookup f63=some ⟨oc63,od63,.func (W.fnOf "low" "Station.low" (dG yW) (aZ yW) (aF yW) .none kV63 dc63 pm63 an63 cd63 ct63),sl63⟩) (c63:W.codeIn K cd63 "Station.low"=true) (k63:W.keepIn K (.ref f63)=true)
  (n63:W.isFn K (.ref f63)=true)
  (a64:W.findIn K (.ref jf) "take_in"=some (some (.ref f64))) (l64:K.lookup f64=some ⟨oc64,od64,.func (W.fnOf "take_in" "Station.take_in" (dG yZ) (aZ yZ) (aF yZ) .none kV64 dc64 pm64 an64 cd64 ct64),sl64⟩) (c64:W.codeIn K cd64 "Station.take_in"=true) (k64:W.keepIn K (.ref f64)=true)
  (n64:W.isFn K (.ref f64)=true)
  (a65:W.findIn K (.ref jf) "state"=some (some (.ref f65))) (l65:K.lookup f65=some ⟨oc65,od65,.func (W.fnOf "state" "Station.state" (dG yX) (aZ yX) (aF yX) .none kV65 dc65 pm65 an65 cd65 ct65),sl65⟩) (c65:W.codeIn K cd65 "Station.state"=true) (k65:W.keepIn K (.ref f65)=true)
  (n65:W.isFn K (.ref f65)=true)
  (a66:W.findIn K (.ref jq) "__init__"=some (some (.ref f66))) (l66:K.lookup f66=some ⟨oc66,od66,.func (W.fnOf "__init__" "Station.__init__" (dG yL) (aZ yL) (aF yL) .none kV66 dc66 pm66 an66 cd66 ct66),sl66⟩) (c66:W.codeIn K cd66 "Station.__init__"=true) (k66:W.keepIn K (.ref f66)=true)
  (oX:lF K jq f66 "__init__"=true)
  (a67:W.findIn K (.ref jq) "__init__"=some (some (.ref f67))) (l67:K.lookup f67=some ⟨oc67,od67,.func (W.fnOf "__init__" "Station.__init__" (dG zJ) (aZ zJ) (aF zJ) .none kV67 dc67 pm67 an67 cd67 ct67),sl67⟩) (c67:W.codeIn K cd67 "Station.__init__"=true) (k67:W.keepIn K (.ref f67)=true)
  (oY:lF K jq f67 "__init__"=true)
  (a68:W.findIn K (.ref jq) "__init__"=some (some (.ref f68))) (l68:K.lookup f68=some ⟨oc68,od68,.func (W.fnOf "__init__" "Station.__init__" (dG zx) (aZ zx) (aF zx) .none kV68 dc68 pm68 an68 cd68 ct68),sl68⟩) (c68:W.codeIn K cd68 "Station.__init__"=true) (k68:W.keepIn K (.ref f68)=true)
  (oZ:lF K jq f68 "__init__"=true)
  (a69:W.findIn K (.ref jq) "__init__"=some (some (.ref f69))) (l69:K.lookup f69=some ⟨oc69,od69,.func (W.fnOf "__init__" "Station.__init__" (dG yS) (aZ yS) (aF yS) .none kV69 dc69 pm69 an69 cd69 ct69),sl69⟩) (c69:W.codeIn K cd69 "Station.__init__"=true) (k69:W.keepIn K (.ref f69)=true)
  (iy:lF K jq f69 "__init__"=true)
  (iC:W.nsIn K mainGlobals "any"=some none)
  (iD:W.nsIn K mainGlobals "len"=some none)
  (iG:W.nsIn K mainGlobals "min"=some none)
  (iH:W.nsIn K mainGlobals "max"=some none)
  (iI:W.nsIn K mainGlobals "range"=some none)
  (iJ:W.nsIn K mainGlobals "reversed"=some none)
  (iK:W.nsIn K mainGlobals "int"=some none)
  (iM:W.nsIn K mainGlobals "isinstance"=some none)
  (iQ:W.nsIn K mainGlobals "bool"=some none)
  (iR:W.nsIn K mainGlobals "str"=some none)
  (iT:W.nsIn K mainGlobals "tuple"=some none)
  (iU:W.nsIn K mainGlobals "ord"=some none)
  (iV:W.nsIn K mainGlobals "list"=some none)
  (iW:W.nsIn K mainGlobals "ALL_LETTERS"=some (some (.ref iY))) (iZ:K.lookup iY=some ⟨.type "tuple",u9,.seq #[.str "t" ud,.str "v" uf,.str "w" ug] uh,uo⟩)
  (uq:W.nsIn K mainGlobals "NEEDS"=some (some (.ref uw)))
  (ux:K.lookup uw=some ⟨.type "dict",none,.dict #[⟨uy,.str "+" uz,.ref uD⟩,⟨uE,.str "-" uF,.ref uG⟩,⟨uH,.str "*" uI,.ref uJ⟩,⟨uK,.str "least" uL,.ref uM⟩,⟨uN,.str "most" uO,.ref uP⟩,⟨uQ,.str "<" uR,.ref uT⟩,⟨uU,.str "=" uV,.ref uW⟩,⟨uX,.str "not" uY,.ref uZ⟩,⟨v7,.str "and" v8,.ref v9⟩,⟨vA,.str "or" vB,.ref vC⟩] vD, #[]⟩) (vG:(uw==sysModules)=false)
  (vH:uy=hashStr w "+")
  (vI:K.lookup uD=some ⟨.type "tuple",vJ,.seq #[.str "number" vK,.str "number" vL,.int 2 vM] vN,vO⟩)
  (vP:uE=hashStr w "-")
  (vQ:K.lookup uG=some ⟨.type "tuple",vR,.seq #[.str "number" vU,.str "number" vV,.int 2 vW] vX,vY⟩)
  (vZ:uH=hashStr w "*")
  (rA:K.lookup uJ=some ⟨.type "tuple",rB,.seq #[.str "number" rC,.str "number" rE,.int 2 rF] rG,rH⟩)
  (rJ:uK=hashStr w "least")
  (rK:K.lookup uM=some ⟨.type "tuple",rM,.seq #[.str "number" rN,.str "number" rO,.int 2 rP] rQ,rR⟩)
  (rW:uN=hashStr w "most")
  (rY:K.lookup uP=some ⟨.type "tuple",rZ,.seq #[.str "number" c7,.str "number" cg,.int 2 cj] cu,cA⟩)
  (cB:uQ=hashStr w "<")
  (cC:K.lookup uT=some ⟨.type "tuple",cD,.seq #[.str "truth" cF,.str "number" cG,.int 2 cH] cI,cJ⟩)
  (cL:uU=hashStr w "=")
  (cM:K.lookup uW=some ⟨.type "tuple",cN,.seq #[.str "truth" cO,.str "number" cP,.int 2 cQ] cR,cT⟩)
  (cU:uX=hashStr w "not")
  (cV:K.lookup uZ=some ⟨.type "tuple",cW,.seq #[.str "truth" cX,.str "truth" cY,.int 1 cZ] bw,bx⟩)
  (bA:v7=hashStr w "and")
  (bB:K.lookup v9=some ⟨.type "tuple",bC,.seq #[.str "truth" bF,.str "truth" bG,.int 2 bH] bI,bJ⟩)
  (bK:vA=hashStr w "or")
  (bL:K.lookup vC=some ⟨.type "tuple",bM,.seq #[.str "truth" bN,.str "truth" bO,.int 2 bQ] bR,bT⟩)
  (bU:W.nsIn K mainGlobals "FIGURES"=some (some (.str "0123456789" bV)))
  (bW:W.nsIn K mainGlobals "MOST_FIGURES"=some (some (.int 20 bY)))
  (bZ:W.nsIn K mainGlobals "MOST_VALUE"=some (some (.int 1000000000000000000000000000000000000000000000000000000000000 d7)))
  (d8:W.nsIn K mainGlobals "LETTERS"=some (some (.str "abcdefghijklmnopqrstuvwxyz" d9)))
  (dh:W.nsIn K mainGlobals "COND_LETTERS"=some (some (.str "tv" dw)))
  :∃fd:FuncData,(∀(s:Shared) (v:Value),BindsTo s fd ⟨[v],[]⟩ [("_law_script",v)])/\∀base:Heap,K.In base->base.Ns mainGlobals mg->nJ mg base->FnOk l.prog w K mg base lK Bb fa fd ["_law_script"] (KN K ni):=by
 have e:=hfa.symm.trans (xbh X G a31);cases e;have T:Txt (w:=w) K mg ⟨j7,j9,jd,jf,jh,jm,jq,jt,jw,jz⟩:=⟨by simp only[DN,xaI,xc2,or_false,forall_eq_or_imp,forall_eq];exact⟨xa8 X G iC,xa8 X G iD,xa8 X G iG,xa8 X G iH,xa8 X G iI,xa8 X G iJ,xa8 X G iK,xa8 X G iM,xa8 X G iQ,xa8 X G iR,xa8 X G iT,xa8 X G iU,xa8 X G iV⟩,⟨xbh X G j6,jA,jB,jC,jD⟩,⟨xbh X G j8,jE,jF,jG,jH⟩,⟨xbh X G jc,jJ,jK,jL,jM⟩,⟨xbh X G je,jN,jO,jP,jQ⟩,⟨xbh X G jg,jR,jT,jU,jV⟩,⟨xbh X G ji,jW,jX,jY,jZ⟩,⟨xbh X G jo,qb,qe,qg,qj⟩,⟨xbh X G jr,ql,qm,qp,qt⟩,qu,qw,qx,qy,qz,qC,qD,qF,qG,qH,qI,xbh X G ju,qJ,xbh X G jy,qK,K4 qL,K4 qM,K4 qN,K4 qO,⟨qP,qQ,qR,qT,qU⟩,⟨qW,qX,qY,qZ,o7⟩,⟨o8,o9,oh,ou,oA⟩,⟨oE,oF,oG,oH,oJ⟩,⟨oK,oM,oN,oO,oR⟩,oU,oV,oW,⟨_,xbh X G iW,V1 (vs:=[(.str "t"),(.str "v"),(.str "w")]) (its:= #[.str "t" _,.str "v" _,.str "w" _]) (o:=⟨.type "tuple",_,.seq #[.str "t" _,.str "v" _,.str "w" _] _,_⟩) iZ rfl rfl (by show 3<=sizeLine;decide) (.cons ⟨_,rfl⟩ (.cons ⟨_,rfl⟩ (.cons ⟨_,rfl⟩ (.nil)))) (fun _ _=>⟨_,_,rfl,rfl,⟨_,_,rfl,rfl,⟨_,_,rfl,rfl,rfl⟩⟩⟩)⟩,⟨_,xbh X G uq,_,_,_,_,ux,⟨rfl,rfl,rfl⟩,rfl,.cons (v:=.ref uD) vH rfl (vq vI) (.cons (v:=.ref uG) vP rfl (vq vQ) (.cons (v:=.ref uJ) vZ rfl (vq rA) (.cons (v:=.ref uM) rJ rfl (vq rK) (.cons (v:=.ref uP) rW rfl (vq rY) (.cons (v:=.ref uT) cB rfl (vq cC) (.cons (v:=.ref uW) cL rfl (vq cM) (.cons (v:=.ref uZ) cU rfl (vq cV) (.cons (v:=.ref v9) bA rfl (vq bB) (.cons (v:=.ref vC) bK rfl (vq bL) (.nil)))))))))),by x_go,vG⟩,⟨_,xbh X G bU⟩,⟨_,xbh X G bW⟩,⟨_,xbh X G bZ⟩,⟨_,xbh X G d8⟩,⟨_,xbh X G dh⟩⟩;have D31:DefAt K mg "law" tX ["_law_script"] _ _:=⟨xbh X G a31,eY l31 c31 k31,(fB (st:=tX) l31 c31 k31).binds (ps:=["_law_script"]) fun _ _ _ _ _ _ us hl=>match us,hl with | [_],_=>rfl⟩
 have D32:IniAt K j9 "Expr.__init__" yK ["self","words"] _ _:=⟨⟨w32,a32,n32,y32⟩,eY l32 c32 k32,(fB (st:=yK) l32 c32 k32).binds (ps:=["self","words"]) fun _ _ _ _ _ _ us hl=>match us,hl with | [_,_],_=>rfl⟩
 have D33:MetAtD K j9 "value" "Expr.value" Bm ["self","time","value","other"] [(.int 0)] _ _:=⟨⟨a33,n33,k33⟩,eY l33 c33 k33,fun s us hK hl=>by(rcases us with _ |⟨_,_ |⟨_,_ |⟨_,_ |⟨_,_ |⟨_,us⟩⟩⟩⟩⟩<;>first |exact W.binds_K hK rfl q33 rfl rfl rfl |(exfalso;simp at hl;done)),[V.int 0],[(Value.int 0 tk33_0)],fun s us hK hl=>by(rcases us with _ |⟨_,_ |⟨_,_ |⟨_,_ |⟨_,us⟩⟩⟩⟩<;>first |exact W.binds_K hK rfl q33 rfl rfl rfl |(exfalso;simp at hl;done)),.cons ⟨_,rfl⟩ (.nil),fun _ _=>⟨_,_,rfl,rfl,rfl⟩,rfl⟩
 have D34:IniAt K j7 "Cond.__init__" yI ["self","words"] _ _:=⟨⟨w34,a34,n34,y34⟩,eY l34 c34 k34,(fB (st:=yI) l34 c34 k34).binds (ps:=["self","words"]) fun _ _ _ _ _ _ us hl=>match us,hl with | [_,_],_=>rfl⟩
 have D35:MetAt K j7 "holds" "Cond.holds" yJ ["self","time","value"] _ _:=⟨⟨a35,n35,k35⟩,eY l35 c35 k35,(fB (st:=yJ) l35 c35 k35).binds (ps:=["self","time","value"]) fun _ _ _ _ _ _ us hl=>match us,hl with | [_,_,_],_=>rfl⟩
 have D36:IniAt K jh "Station.__init__" zc ["self","row"] _ _:=⟨⟨w36,a36,n36,y36⟩,eY l36 c36 k36,(fB (st:=zc) l36 c36 k36).binds (ps:=["self","row"]) fun _ _ _ _ _ _ us hl=>match us,hl with | [_,_],_=>rfl⟩
 have D37:MetAt K jh "low" "Station.low" zj ["self"] _ _:=⟨⟨a37,n37,k37⟩,eY l37 c37 k37,(fB (st:=zj) l37 c37 k37).binds (ps:=["self"]) fun _ _ _ _ _ _ us hl=>match us,hl with | [_],_=>rfl⟩
 have D38:MetAt K jh "take_in" "Station.take_in" zp ["self","way","item"] _ _:=⟨⟨a38,n38,k38⟩,eY l38 c38 k38,(fB (st:=zp) l38 c38 k38).binds (ps:=["self","way","item"]) fun _ _ _ _ _ _ us hl=>match us,hl with | [_,_,_],_=>rfl⟩
 have D39:MetAt K jh "take_thing" "Station.take_thing" zu ["self","way","thing"] _ _:=⟨⟨a39,n39,k39⟩,eY l39 c39 k39,(fB (st:=zu) l39 c39 k39).binds (ps:=["self","way","thing"]) fun _ _ _ _ _ _ us hl=>match us,hl with | [_,_,_],_=>rfl⟩
 have D40:MetAt K jh "all_kept" "Station.all_kept" zf ["self"] _ _:=⟨⟨a40,n40,k40⟩,eY l40 c40 k40,(fB (st:=zf) l40 c40 k40).binds (ps:=["self"]) fun _ _ _ _ _ _ us hl=>match us,hl with | [_],_=>rfl⟩
 have D41:MetAt K jh "state" "Station.state" zm ["self"] _ _:=⟨⟨a41,n41,k41⟩,eY l41 c41 k41,(fB (st:=zm) l41 c41 k41).binds (ps:=["self"]) fun _ _ _ _ _ _ us hl=>match us,hl with | [_],_=>rfl⟩
 have D42:IniAt K jd "KeepStation.__init__" yM ["self","row"] _ _:=⟨⟨w42,a42,n42,y42⟩,eY l42 c42 k42,(fB (st:=yM) l42 c42 k42).binds (ps:=["self","row"]) fun _ _ _ _ _ _ us hl=>match us,hl with | [_,_],_=>rfl⟩
 have D43:MetAt K jd "take_thing" "KeepStation.take_thing" yR ["self","way","thing"] _ _:=⟨⟨a43,n43,k43⟩,eY l43 c43 k43,(fB (st:=yR) l43 c43 k43).binds (ps:=["self","way","thing"]) fun _ _ _ _ _ _ us hl=>match us,hl with | [_,_,_],_=>rfl⟩
 have D44:MetAt K jd "low" "Station.low" yO ["self"] _ _:=⟨⟨a44,n44,k44⟩,eY l44 c44 k44,(fB (st:=yO) l44 c44 k44).binds (ps:=["self"]) fun _ _ _ _ _ _ us hl=>match us,hl with | [_],_=>rfl⟩
 have D45:MetAt K jd "take_in" "Station.take_in" yQ ["self","way","item"] _ _:=⟨⟨a45,n45,k45⟩,eY l45 c45 k45,(fB (st:=yQ) l45 c45 k45).binds (ps:=["self","way","item"]) fun _ _ _ _ _ _ us hl=>match us,hl with | [_,_,_],_=>rfl⟩
 have D46:MetAt K jd "all_kept" "Station.all_kept" yN ["self"] _ _:=⟨⟨a46,n46,k46⟩,eY l46 c46 k46,(fB (st:=yN) l46 c46 k46).binds (ps:=["self"]) fun _ _ _ _ _ _ us hl=>match us,hl with | [_],_=>rfl⟩
 have D47:MetAt K jd "state" "Station.state" yP ["self"] _ _:=⟨⟨a47,n47,k47⟩,eY l47 c47 k47,(fB (st:=yP) l47 c47 k47).binds (ps:=["self"]) fun _ _ _ _ _ _ us hl=>match us,hl with | [_],_=>rfl⟩
 have D48:IniAt K jt "TurnStation.__init__" zK ["self","row"] _ _:=⟨⟨w48,a48,n48,y48⟩,eY l48 c48 k48,(fB (st:=zK) l48 c48 k48).binds (ps:=["self","row"]) fun _ _ _ _ _ _ us hl=>match us,hl with | [_,_],_=>rfl⟩
 have D49:MetAt K jt "take_thing" "TurnStation.take_thing" zP ["self","way","thing"] _ _:=⟨⟨a49,n49,k49⟩,eY l49 c49 k49,(fB (st:=zP) l49 c49 k49).binds (ps:=["self","way","thing"]) fun _ _ _ _ _ _ us hl=>match us,hl with | [_,_,_],_=>rfl⟩
 have D50:MetAt K jt "low" "Station.low" zM ["self"] _ _:=⟨⟨a50,n50,k50⟩,eY l50 c50 k50,(fB (st:=zM) l50 c50 k50).binds (ps:=["self"]) fun _ _ _ _ _ _ us hl=>match us,hl with | [_],_=>rfl⟩
 have D51:MetAt K jt "take_in" "Station.take_in" zO ["self","way","item"] _ _:=⟨⟨a51,n51,k51⟩,eY l51 c51 k51,(fB (st:=zO) l51 c51 k51).binds (ps:=["self","way","item"]) fun _ _ _ _ _ _ us hl=>match us,hl with | [_,_,_],_=>rfl⟩
 have D52:MetAt K jt "all_kept" "Station.all_kept" zL ["self"] _ _:=⟨⟨a52,n52,k52⟩,eY l52 c52 k52,(fB (st:=zL) l52 c52 k52).binds (ps:=["self"]) fun _ _ _ _ _ _ us hl=>match us,hl with | [_],_=>rfl⟩
 have D53:MetAt K jt "state" "Station.state" zN ["self"] _ _:=⟨⟨a53,n53,k53⟩,eY l53 c53 k53,(fB (st:=zN) l53 c53 k53).binds (ps:=["self"]) fun _ _ _ _ _ _ us hl=>match us,hl with | [_],_=>rfl⟩
 have D54:IniAt K jm "ShareStation.__init__" zA ["self","row"] _ _:=⟨⟨w54,a54,n54,y54⟩,eY l54 c54 k54,(fB (st:=zA) l54 c54 k54).binds (ps:=["self","row"]) fun _ _ _ _ _ _ us hl=>match us,hl with | [_,_],_=>rfl⟩
 have D55:MetAt K jm "take_thing" "ShareStation.take_thing" zH ["self","way","thing"] _ _:=⟨⟨a55,n55,k55⟩,eY l55 c55 k55,(fB (st:=zH) l55 c55 k55).binds (ps:=["self","way","thing"]) fun _ _ _ _ _ _ us hl=>match us,hl with | [_,_,_],_=>rfl⟩
 have D56:MetAt K jm "low" "Station.low" zE ["self"] _ _:=⟨⟨a56,n56,k56⟩,eY l56 c56 k56,(fB (st:=zE) l56 c56 k56).binds (ps:=["self"]) fun _ _ _ _ _ _ us hl=>match us,hl with | [_],_=>rfl⟩
 have D57:MetAt K jm "take_in" "Station.take_in" zG ["self","way","item"] _ _:=⟨⟨a57,n57,k57⟩,eY l57 c57 k57,(fB (st:=zG) l57 c57 k57).binds (ps:=["self","way","item"]) fun _ _ _ _ _ _ us hl=>match us,hl with | [_,_,_],_=>rfl⟩
 have D58:MetAt K jm "all_kept" "Station.all_kept" zB ["self"] _ _:=⟨⟨a58,n58,k58⟩,eY l58 c58 k58,(fB (st:=zB) l58 c58 k58).binds (ps:=["self"]) fun _ _ _ _ _ _ us hl=>match us,hl with | [_],_=>rfl⟩
 have D59:MetAt K jm "state" "Station.state" zF ["self"] _ _:=⟨⟨a59,n59,k59⟩,eY l59 c59 k59,(fB (st:=zF) l59 c59 k59).binds (ps:=["self"]) fun _ _ _ _ _ _ us hl=>match us,hl with | [_],_=>rfl⟩
 have D60:IniAt K jf "OutStation.__init__" yU ["self","row"] _ _:=⟨⟨w60,a60,n60,y60⟩,eY l60 c60 k60,(fB (st:=yU) l60 c60 k60).binds (ps:=["self","row"]) fun _ _ _ _ _ _ us hl=>match us,hl with | [_,_],_=>rfl⟩
 have D61:MetAt K jf "take_thing" "OutStation.take_thing" za ["self","way","thing"] _ _:=⟨⟨a61,n61,k61⟩,eY l61 c61 k61,(fB (st:=za) l61 c61 k61).binds (ps:=["self","way","thing"]) fun _ _ _ _ _ _ us hl=>match us,hl with | [_,_,_],_=>rfl⟩
 have D62:MetAt K jf "all_kept" "OutStation.all_kept" yV ["self"] _ _:=⟨⟨a62,n62,k62⟩,eY l62 c62 k62,(fB (st:=yV) l62 c62 k62).binds (ps:=["self"]) fun _ _ _ _ _ _ us hl=>match us,hl with | [_],_=>rfl⟩
 have D63:MetAt K jf "low" "Station.low" yW ["self"] _ _:=⟨⟨a63,n63,k63⟩,eY l63 c63 k63,(fB (st:=yW) l63 c63 k63).binds (ps:=["self"]) fun _ _ _ _ _ _ us hl=>match us,hl with | [_],_=>rfl⟩
 have D64:MetAt K jf "take_in" "Station.take_in" yZ ["self","way","item"] _ _:=⟨⟨a64,n64,k64⟩,eY l64 c64 k64,(fB (st:=yZ) l64 c64 k64).binds (ps:=["self","way","item"]) fun _ _ _ _ _ _ us hl=>match us,hl with | [_,_,_],_=>rfl⟩
 have D65:MetAt K jf "state" "Station.state" yX ["self"] _ _:=⟨⟨a65,n65,k65⟩,eY l65 c65 k65,(fB (st:=yX) l65 c65 k65).binds (ps:=["self"]) fun _ _ _ _ _ _ us hl=>match us,hl with | [_],_=>rfl⟩
 have D66:BasAt K jq "Station.__init__" yL ["self","row"] _ _:=⟨oX,eY l66 c66 k66,(fB (st:=yL) l66 c66 k66).binds (ps:=["self","row"]) fun _ _ _ _ _ _ us hl=>match us,hl with | [_,_],_=>rfl⟩
 have D67:BasAt K jq "Station.__init__" zJ ["self","row"] _ _:=⟨oY,eY l67 c67 k67,(fB (st:=zJ) l67 c67 k67).binds (ps:=["self","row"]) fun _ _ _ _ _ _ us hl=>match us,hl with | [_,_],_=>rfl⟩
 have D68:BasAt K jq "Station.__init__" zx ["self","row"] _ _:=⟨oZ,eY l68 c68 k68,(fB (st:=zx) l68 c68 k68).binds (ps:=["self","row"]) fun _ _ _ _ _ _ us hl=>match us,hl with | [_,_],_=>rfl⟩
 have D69:BasAt K jq "Station.__init__" yS ["self","row"] _ _:=⟨iy,eY l69 c69 k69,(fB (st:=yS) l69 c69 k69).binds (ps:=["self","row"]) fun _ _ _ _ _ _ us hl=>match us,hl with | [_,_],_=>rfl⟩
 refine⟨W.fnOf "law" "law" (dG tX) (aZ tX) (aF tX) .none kV31 dc31 pm31 an31 cd31 ct31,fun s v=>.of_eq rfl,fun base _ _ hB=>zgv ?_⟩;exact zfO X G T hB F0 F1 F2 F3 F4 F5 F6 F7 F8 F9 F10 F11 F12 F13 F14 F15 F16 F17 F18 F19 F20 F21 F22 F23 F24 F25 F26 F27 F28 F29 F30 D31 D32 D33 D34 D35 D36 D37 D38 D39 D40 D41 D42 D43 D44 D45 D46 D47 D48 D49 D50 D51 D52 D53 D54 D55 D56 D57 D58 D59 D60 D61 D62 D63 D64 D65 D66 D67 D68 D69
end My
open PySem PySem.W PyProof.Rows
set_option maxRecDepth 100000 in
set_option maxHeartbeats 0 in
theorem PySem.Challenge.cw_rowdam_k42_things_one_by_one_holds : PySem.Challenge.rw_rowdam_k42_things_one_by_one.Holds := by
 w_on;refine HQ.two "special-get-raises" My.he My.hAf My.hBf My.hAt My.hBt ?_
 k_fill
 refine E3.zc8 (T:=My.tabs) (l:=PySem.Challenge.rw_rowdam_k42_things_one_by_one) (k:=My.Bb) (g:=My.ni) (x:="_law_script") rfl rfl ⟨rfl,by decide,by decide⟩ (fun w h Y=>by first |exact PySem.W.kIn_of Y |exact PySem.W.km_in_of Y) (fun w h Y=>by refine⟨_,?_,PySem.W.km_tabs_of Y⟩;kernel_rfl) ?F My.zdY
 case F=>
  intro w mg fa h KX G hmg
  refine' My.all_mk KX G hmg ?j6 ?j8 ?jc ?je ?jg ?ji ?jo ?jr ?ju ?jy ?jA ?jB ?jC ?jD ?jE ?jF ?jG ?jH ?jJ ?jK ?jL ?jM ?jN ?jO ?jP ?jQ ?jR ?jT ?jU ?jV ?jW ?jX ?jY ?jZ ?qb ?qe ?qg ?qj ?ql ?qm ?qp ?qt ?qu ?qw ?qx ?qy ?qz ?qC ?qD ?qF ?qG ?qH ?qI ?qJ ?qK ?qL ?qM ?qN ?qO ?qP ?qQ ?qR ?qT ?qU ?qW ?qX ?qY ?qZ ?o7 ?o8 ?o9 ?oh ?ou ?oA ?oE ?oF ?oG ?oH ?oJ ?oK ?oM ?oN ?oO ?oR ?oU ?oV ?oW ?F0 ?F1 ?F2 ?F3 ?F4 ?F5 ?F6 ?F7 ?F8 ?F9 ?F10 ?F11 ?F12 ?F13 ?F14 ?F15 ?F16 ?F17 ?F18 ?F19 ?F20 ?F21 ?F22 ?F23 ?F24 ?F25 ?F26 ?F27 ?F28 ?F29 ?F30 ?a31 ?l31 ?c31 ?k31 ?a32 ?l32 ?c32 ?k32 ?n32 ?w32 ?y32 ?q33 ?a33 ?l33 ?c33 ?k33 ?n33 ?a34 ?l34 ?c34 ?k34 ?n34 ?w34 ?y34 ?a35 ?l35 ?c35 ?k35 ?n35 ?a36 ?l36 ?c36 ?k36 ?n36 ?w36 ?y36 ?a37 ?l37 ?c37 ?k37 ?n37 ?a38 ?l38 ?c38 ?k38 ?n38 ?a39 ?l39 ?c39 ?k39 ?n39 ?a40 ?l40 ?c40 ?k40 ?n40 ?a41 ?l41 ?c41 ?k41 ?n41 ?a42 ?l42 ?c42 ?k42 ?n42 ?w42 ?y42 ?a43 ?l43 ?c43 ?k43 ?n43 ?a44 ?l44 ?c44 ?k44 ?n44 ?a45 ?l45 ?c45 ?k45 ?n45 ?a46 ?l46 ?c46 ?k46 ?n46 ?a47 ?l47 ?c47 ?k47 ?n47 ?a48 ?l48 ?c48 ?k48 ?n48 ?w48 ?y48 ?a49 ?l49 ?c49 ?k49 ?n49 ?a50 ?l50 ?c50 ?k50 ?n50 ?a51 ?l51 ?c51 ?k51 ?n51 ?a52 ?l52 ?c52 ?k52 ?n52 ?a53 ?l53 ?c53 ?k53 ?n53 ?a54 ?l54 ?c54 ?k54 ?n54 ?w54 ?y54 ?a55 ?l55 ?c55 ?k55 ?n55 ?a56 ?l56 ?c56 ?k56 ?n56 ?a57 ?l57 ?c57 ?k57 ?n57 ?a58 ?l58 ?c58 ?k58 ?n58 ?a59 ?l59 ?c59 ?k59 ?n59 ?a60 ?l60 ?c60 ?k60 ?n60 ?w60 ?y60 ?a61 ?l61 ?c61 ?k61 ?n61 ?a62 ?l62 ?c62 ?k62 ?n62 ?a63 ?l63 ?c63 ?k63 ?n63 ?a64 ?l64 ?c64 ?k64 ?n64 ?a65 ?l65 ?c65 ?k65 ?n65 ?a66 ?l66 ?c66 ?k66 ?oX ?a67 ?l67 ?c67 ?k67 ?oY ?a68 ?l68 ?c68 ?k68 ?oZ ?a69 ?l69 ?c69 ?k69 ?iy ?iC ?iD ?iG ?iH ?iI ?iJ ?iK ?iM ?iQ ?iR ?iT ?iU ?iV ?iW ?iZ ?uq ?ux ?vG ?vH ?vI ?vP ?vQ ?vZ ?rA ?rJ ?rK ?rW ?rY ?cB ?cC ?cL ?cM ?cU ?cV ?bA ?bB ?bK ?bL ?bU ?bW ?bZ ?d8 ?dh
  (case j6 |j8 |jc |je |jg |ji |jo |jr |ju |jy |jA |jB |jC |jD |jE |jF |jG |jH |jJ |jK |jL |jM |jN |jO |jP |jQ |jR |jT |jU |jV |jW |jX |jY |jZ |qb |qe |qg |qj |ql |qm |qp |qt |qu |qw |qx |qy |qz |qC |qD |qF |qG |qH |qI=>k_is);(case qJ |qK |qL |qM |qN |qO=>kernel_rfl);(case qP |qQ |qR |qT=>k_is);(case qU=>kernel_rfl);(case qW |qX |qY |qZ=>k_is);(case o7=>kernel_rfl);(case o8 |o9 |oh |ou=>k_is);(case oA=>kernel_rfl);(case oE |oF |oG |oH=>k_is);(case oJ=>kernel_rfl);(case oK |oM |oN |oO=>k_is);(case oR |oU=>kernel_rfl);(case oV=>k_is);(case oW=>refine E3.zgZ (E3.zhp ?_ ?_ ?_) ?_ ?_ ?_ ?_ ?_<;>k_is);(case a31 |l31 |c31 |k31 |a32 |l32 |c32 |k32=>k_is);(case n32 |w32=>kernel_rfl);(case y32 |q33 |a33 |l33 |c33 |k33=>k_is);(case n33=>kernel_rfl);(case a34 |l34 |c34 |k34=>k_is);(case n34 |w34=>kernel_rfl);(case y34 |a35 |l35 |c35 |k35=>k_is);(case n35=>kernel_rfl);(case a36 |l36 |c36 |k36=>k_is);(case n36 |w36=>kernel_rfl);(case y36 |a37 |l37 |c37 |k37=>k_is);(case n37=>kernel_rfl);(case a38 |l38 |c38 |k38=>k_is);(case n38=>kernel_rfl);(case a39 |l39 |c39 |k39=>k_is);(case n39=>kernel_rfl);(case a40 |l40 |c40 |k40=>k_is);(case n40=>kernel_rfl);(case a41 |l41 |c41 |k41=>k_is);(case n41=>kernel_rfl);(case a42 |l42 |c42 |k42=>k_is);(case n42 |w42=>kernel_rfl);(case y42 |a43 |l43 |c43 |k43=>k_is);(case n43=>kernel_rfl);(case a44 |l44 |c44 |k44=>k_is);(case n44=>kernel_rfl);(case a45 |l45 |c45 |k45=>k_is);(case n45=>kernel_rfl);(case a46 |l46 |c46 |k46=>k_is);(case n46=>kernel_rfl);(case a47 |l47 |c47 |k47=>k_is);(case n47=>kernel_rfl);(case a48 |l48 |c48 |k48=>k_is);(case n48 |w48=>kernel_rfl);(case y48 |a49 |l49 |c49 |k49=>k_is);(case n49=>kernel_rfl);(case a50 |l50 |c50 |k50=>k_is);(case n50=>kernel_rfl);(case a51 |l51 |c51 |k51=>k_is);(case n51=>kernel_rfl);(case a52 |l52 |c52 |k52=>k_is);(case n52=>kernel_rfl);(case a53 |l53 |c53 |k53=>k_is);(case n53=>kernel_rfl);(case a54 |l54 |c54 |k54=>k_is);(case n54 |w54=>kernel_rfl);(case y54 |a55 |l55 |c55 |k55=>k_is);(case n55=>kernel_rfl);(case a56 |l56 |c56 |k56=>k_is);(case n56=>kernel_rfl);(case a57 |l57 |c57 |k57=>k_is);(case n57=>kernel_rfl);(case a58 |l58 |c58 |k58=>k_is);(case n58=>kernel_rfl);(case a59 |l59 |c59 |k59=>k_is);(case n59=>kernel_rfl);(case a60 |l60 |c60 |k60=>k_is);(case n60 |w60=>kernel_rfl);(case y60 |a61 |l61 |c61 |k61=>k_is);(case n61=>kernel_rfl);(case a62 |l62 |c62 |k62=>k_is);(case n62=>kernel_rfl);(case a63 |l63 |c63 |k63=>k_is);(case n63=>kernel_rfl);(case a64 |l64 |c64 |k64=>k_is);(case n64=>kernel_rfl);(case a65 |l65 |c65 |k65=>k_is);(case n65=>kernel_rfl);(case a66 |l66 |c66 |k66=>k_is);(case oX=>kernel_rfl);(case a67 |l67 |c67 |k67=>k_is);(case oY=>kernel_rfl);(case a68 |l68 |c68 |k68=>k_is);(case oZ=>kernel_rfl);(case a69 |l69 |c69 |k69=>k_is);(case iy=>kernel_rfl);(case iC |iD |iG |iH |iI |iJ |iK |iM |iQ |iR |iT |iU |iV |iW |iZ |uq |ux=>k_is);(case vG=>first |decide +kernel |kernel_rfl);(case vH=>rfl);(case vI=>k_is);(case vP=>rfl);(case vQ=>k_is);(case vZ=>rfl);(case rA=>k_is);(case rJ=>rfl);(case rK=>k_is);(case rW=>rfl);(case rY=>k_is);(case cB=>rfl);(case cC=>k_is);(case cL=>rfl);(case cM=>k_is);(case cU=>rfl);(case cV=>k_is);(case bA=>rfl);(case bB=>k_is);(case bK=>rfl);(case bL |bU |bW |bZ |d8 |dh=>k_is);all_goals (refine' E3.bf.mk ?a ?l ?c ?k;(case a=>k_is);(case l=>k_is);(case c=>k_is);(case k=>k_is))
