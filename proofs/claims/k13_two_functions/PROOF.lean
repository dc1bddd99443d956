import PyProof.Rows.All
import Wide.All
import OpenK.AllK
import Wide.FinOn
import Lean
import PyProof.EqAt
import PyProof.EqKinds
import PyProof.TupleCall
import KE.KIsAll
import KE.KMinKey
import KE.KTupSum
import KE.KxSplit
import KE.KxAffix
import KE.KIntText
import PyProof.NeKinds
import PyProof.Rows.EqBoolInt
import KE.KSortTup
import KE.KDictLaws
import KE.KNestM
import PyProof.Conv_int_bool
import PySem.Challenge.RW_rowdam_k13_two_functions
noncomputable section
set_option Elab.async false
set_option linter.all false
set_option compiler.extract_closed false
set_option maxRecDepth 100000
def tG:=@PySem.wpAny_bind
def xaa:=@PySem.Heap.get?_push_of_some
def xab:=@if_pos
def xac:=@Option.map_eq_some_iff
def xad:=@List.getElem?_eq_some_iff
def xae:=@List.getElem?_eq_getElem
def xaf:=@if_neg
def xag:=@Nat.lt_of_lt_of_le
def xah:=@List.size_toArray
def xai:=@Nat.le_refl
def xaj:=@PySem.wpAny_pure
def xak:=@List.length_append
def xal:=@List.length_reverse
def xam:=@Bool.and_eq_true
def xan:=@List.getElem?_map
theorem xao:type_of%@List.length_cons:=by intros;rfl
def xap:=@List.length_map
def xaq:=@PySem.Heap.lt_size
def xar:=@List.mem_cons_of_mem
theorem xas:type_of%@List.length_singleton:=by intros;rfl
def xat:=@Bool.false_ne_true
def xau:=@List.map_cons
def xav:=@PySem.Heap.get?_push_size
def xaw:=@List.mem_of_getElem?
def xax:=@List.getElem?_append_left
def xay:=@Option.some.inj
def xaz:=@List.mem_append_right
def xaA:=@Nat.ne_of_lt
def xaB:=@Nat.le_trans
def xaC:=@decide_eq_true_eq
theorem xaD:type_of%@Option.map_some:=by intros;rfl
def xaE:=@decide_eq_false
def xaF:=@List.mem_cons_self
def xaG:=@List.length_set
def xaH:=@List.getElem?_append_right
def xaI:=@Bool.eq_iff_iff
def xaJ:=@List.mem_cons
def xaK:=@PySem.W.kia_one
def xaL:=@List.getElem?_set
def xaM:=@PySem.wpAny_mono
def xaN:=@PySem.Obj.data_mapFields
def xaO:=@Int.emod_lt_of_pos
def xaP:=@if_true
def xaQ:=@PySem.Heap.get?_update_other
def xaR:=@List.append_nil
def xaS:=@PySem.mem_of_lookup
def xaT:=@List.append_assoc
def xaU:=@List.getElem?_replicate
def xaV:=@Nat.lt_or_ge
def xaW:=@Int.emod_nonneg
def xaX:=@List.reverse_append
def xaY:=@beq_iff_eq
def xaZ:=@Nat.le_of_lt_succ
def xa0:=@Nat.lt_irrefl
def xa2:=@Nat.le_antisymm
def xa3:=@Nat.lt_succ_self
def xa4:=@Array.getElem?_eq_some_iff
def xa5:=@PySem.W.mg_none_of
def xa6:=@PySem.sizeLine_eq
def xa7:=@PySem.wpAny_newObj_type
def xa8:=@beq_eq_false_iff_ne
def xa9:=@List.mem_append
def xba:=@PySem.PassesOwn.never
def xbb:=@List.all_eq_true
def xbc:=@List.mem_map
theorem xbd:type_of%@List.sum_cons:=by intros;rfl
def xbe:=@List.getElem?_set_ne
def xbf:=@decide_eq_true
def xbg:=@beq_self_eq_true
def xbh:=@Ne.symm
def xbi:=@List.length_replicate
def xbj:=@List.mem_singleton
def xbk:=@List.mem_append_left
def xbl:=@List.nodup_cons
def xbm:=@Bool.or_eq_true
def xbn:=@PySem.F.plainAttrs_list
def xbo:=@Option.bind_eq_some_iff
theorem xbp:type_of%@List.lookup_cons:=by intros;rfl
def xbq:=@List.getElem?_set_self
def xbr:=@PySem.wpAny_field
def xbs:=@PyProof.Rows.callWith_type1
def xbt:=@PySem.wpAny_Call_Name_kw
def xbu:=@Bool.false_eq_true
def xbv:=@List.map_append
def xbw:=@PySem.wpAny_passesOwn
def xbx:=@PySem.Obj.isFreed_of_fields
def xby:=@PySem.Heap.get?_update_self
theorem xbz:type_of%@List.singleton_append:=by intros;rfl
theorem xbA:type_of%@List.all_cons:=by intros;rfl
def xbB:=@PySem.F.excBase_ValueError
def xbC:=@Bool.and_self
def xbD:=@PySem.wpAny_truthy_bool
def xbE:=@List.drop_eq_getElem_cons
def xbF:=@Int.toNat_of_nonneg
def xbG:=@PySem.wpAny_getItem_str_slice
theorem xbH:type_of%@List.any_cons:=by intros;rfl
def xbI:=@PySem.strLen_append
def xbJ:=@PySem.W.callWith_K
theorem xbK:type_of%@List.find?_cons:=by intros;rfl
theorem xbL:type_of%@List.length_nil:=by intros;rfl
def xbM:=@Nat.le_succ
def xbN:=@PySem.Heap.size_push
def xbO:=@PySem.codeAny_mono
def xbP:=@List.map_nil
def xbQ:=@PySem.wpAny_setField
def xbR:=@List.getElem?_reverse
def xbS:=@PySem.builtinLookup_eq_fast
def xbT:=@PySem.boot_len
def xbU:=@PySem.W.mg_of
def xbV:=@PySem.wpAny_execs_cons
def xbW:=@List.length_take
def xbX:=@List.map_reverse
theorem xbY:type_of%@List.cons_append:=by intros;rfl
def xbZ:=@Nat.pow_le_pow_right
def xb0:=@PySem.wpAny_standAt
def xb1:=@PySem.wpAny_holding
def xb2:=@PySem.wpAny_of_eq
theorem xb3:type_of%@Array.length_toList:=by intros;rfl
def xb4:=@PySem.wpAny_execs_nil
def xb5:=@List.of_mem_zip
theorem xb6:type_of%@List.foldl_cons:=by intros;rfl
def xb7:=@List.mem_or_eq_of_mem_set
def xb8:=@List.cons.injEq
def xb9:=@Nat.le_of_lt
theorem xca:type_of%@Option.isSome_some:=by intros;rfl
def xcb:=@Bool.and_false
theorem xcc:type_of%@List.getElem?_cons_succ:=by intros;rfl
def xcd:=@decide_eq_false_iff_not
theorem xce:type_of%@Int.toNat_natCast:=by intros;rfl
def xcf:=@PySem.wpAny_loadPart_at
def xcg:=@List.length_range
def xch:=@of_decide_eq_true
def xci:=@PySem.W.cellsFrom_some
def xcj:=@PySem.wpAny_attempt
def xck:=@List.drop_length
def xcl:=@List.take_length
def xcm:=@List.not_mem_nil
def xcn:=@PySem.codeAny_call_function
def xco:=@PySem.Heap.get?_none_of_le
def xcp:=@PySem.W.looks_findIn
def xcq:=@PySem.wpAny_call
def xcr:=@PySem.SeqAt.EqAt.same
def xcs:=@PySem.wpAny_specialOf
def xct:=@PySem.post_val_or_str
def xcu:=@Nat.not_lt_zero
def xcv:=@PySem.typeLookup_type
theorem xcw:type_of%@List.nil_append:=by intros;rfl
theorem xcx:type_of%@List.filterMap_cons:=by intros;rfl
def xcy:=@PySem.W.plainGet_of
def xcz:=@PySem.wpAny_isSubtype_exc
def xcA:=@PySem.Heap.SameBut.update
def xcB:=@List.mem_range
def xcC:=@if_false
def xcD:=@PySem.isSubtype_type
theorem xcE:type_of%@List.take_zero:=by intros;rfl
def xcF:=@Nat.zero_le
def xcG:=@PySem.SeqAt.EqAt.int_str
def xcH:=@PySem.SeqAt.EqAt.str_int
def xcI:=@PyProof.Rows.slot_tuple_getitem
def xcJ:=@Nat.lt_of_le_of_lt
def xcK:=@PySem.wpAny_newTextTuple
theorem xcL:type_of%@Option.isSome_none:=by intros;rfl
def xcM:=@PySem.Calls.Name_function_global
def xcN:=@PySem.wpAny_newFunctionEnv_cells
def xcO:=@PySem.wpAny_assign_Name
def xcP:=@PySem.W.kitx_list
def xcQ:=@PySem.W.kitx_dict
def xcR:=@Bool.not_eq_true'
def xcS:=@Option.some.injEq
def xcT:=@Nat.ne_of_gt
def xcU:=@PySem.W.any_some
def xcV:=@Nat.le_of_eq
def xcW:=@Option.isSome_iff_exists
def xcX:=@List.getElem?_take_of_lt
def xcY:=@List.length_drop
def xcZ:=@PySem.Txt.slice_le
def xc1:=@List.any_eq_true
def xc2:=@List.getElem_mem
def xc3:=@PySem.wpAny_comprehension_free
def xc4:=@PySem.SeqAt.RcAt.lists_lengths
def xc5:=@PySem.F.slot_list_append
def xc6:=@PySem.F.type_list_append
def xc7:=@List.eq_of_mem_replicate
def xc8:=@PySem.wpAny_call_entry
def xc9:=@PySem.wpAny_callSpecial?_slot
def xda:=@PySem.F.slot_list_index
theorem xdb:type_of%@Option.map_none:=by intros;rfl
def xdc:=@Array.getElem?_toList
def xdd:=@PySem.wpAny_bindName
def xde:=@List.mem_iff_getElem?
def xdf:=@List.dropLast_eq_take
theorem xdh:type_of%@List.tail_cons:=by intros;rfl
def xdi:=@List.take_append_drop
def xdj:=@PySem.call_meets
def xdk:=@Nat.not_le
theorem xdl:type_of%@List.getElem_toArray:=by intros;rfl
def xdm:=@Bool.and_eq_true_iff
def xdn:=@List.isEmpty_reverse
def xdo:=@Eq.trans
def xdp:=@Prod.mk.injEq
def xdq:=@Bool.and_true
def xdr:=@List.getElem?_range
def xds:=@List.map_eq_nil_iff
def xdt:=@List.takeWhile_cons
def xdu:=@Nat.add_le_add_left
def xdv:=@PySem.W.codeHd_of_K
theorem xdw:type_of%@List.replicate_succ:=by intros;rfl
def xdx:=@Array.append_assoc
def xdy:=@List.mem_filterMap
def xdz:=@Array.find?_toList
def xdA:=@PySem.W.kitx_tuple
def xdB:=@PySem.W.codeRec_of
def xdC:=@List.contains_cons
def xdD:=@Nat.min_self
def xdE:=@Nat.sub_self
theorem xdF:type_of%@List.zip_cons_cons:=by intros;rfl
def xdG:=@PySem.W.callWith_F
def xdH:=@of_decide_eq_false
def xdI:=@List.take_sublist
def xdJ:=@List.reverse_cons
def xdK:=@or_false
def xdL:=@eq_false
abbrev Fgx:=PySem.W.Frag
abbrev Mgx:=PySem.Str->Option PySem.Value
abbrev Pnx:=List (PySem.Addr×PySem.Obj)
local macro_rules | `(tactic| x_go)=> `(tactic| decide +kernel)
namespace HQ
open PySem PySem.W PySem.Calls PyProof.Rows
noncomputable def O4 {α:Type} (t:BT):(BT->α)->α:= @BT.rec (fun _=>(BT->α)->α) (fun k=>k .nil) (fun v _ _ a b k=>a fun l=>b fun r=>k (.node v l r)) t
theorem Hg {α:Type}:∀(t:BT) (k:BT->α),O4 t k=k t
 |.nil,_=>rfl
 |.node _ l r,_=>(Hg l _).trans (Hg r _)
noncomputable def m9 {α:Type} (n:Nat) (k:Nat->α):α:= @Nat.rec (fun _=>α) (k 0) (fun n _=>k (Nat.succ n)) n
theorem O5 {α:Type}(n:Nat)(k:Nat->α):m9 n k=k n:=by cases n<;>rfl
def frs {α:Type}(s:SharedT)(k:SharedT->α):α:= @SharedT.rec (fun _=>α) (fun T n l g d i o=>O4 T fun T=>m9 n fun n=>m9 i fun i=>k ⟨T,n,l,g,d,i,o⟩) s
theorem Wl {α:Type}(s:SharedT)(k:SharedT->α):frs s k=k s:=(Hg _ _).trans ((O5 _ _).trans (O5 _ _))
abbrev qd:Code->Sem Fin:=Fast.tw11892475500146522536 Fast.tw14364793385576792824
noncomputable def Lr (p:Program) (w:World):SharedT->Thread->Option (SharedT×Thread)
  |⟨T,n,l,g,d,i,o⟩,⟨c,cd,q,fs⟩=>match c with
    |.load .. |.update .. |.alloc .. |.loadIfAlive .. =>Fast.tw10156331382660048174 qd p w ⟨T,n,l,g,d,i,o⟩ ⟨c,cd,q,fs⟩
    |c=>match Fast.tw8437177126325714943 qd p w ⟨{},g,d,i,o⟩ ⟨c,cd,q,fs⟩ with
      |.go ⟨_,g,d,i,o⟩ t=>some (⟨T,n,l,g,d,i,o⟩,t)
      |.halt _ _=>none
theorem zcE {p:Program}{w:World}(s:SharedT)(t:Thread):Lr p w s t=stepT (denote treeTable) p w s t:=by
 obtain⟨T,n,l,g,d,i,o⟩:=s;obtain⟨c,cd,q,fs⟩:=t;rw[show denote treeTable=qd by unfold qd;rw[<-Fast.te11892475500146522536, <-Fast.te14364793385576792824]];cases c<;>(unfold Lr;dsimp only;first |rw[<-Fast.te10156331382660048174] |(unfold stepT;dsimp only;rw[<-Fast.te8437177126325714943];cases step qd p w _ _<;>rfl))
abbrev OS:=Option SharedT
noncomputable def bd (p:Program) (w:World) (n:Nat) (ih:SharedT->Thread->OS) (s:SharedT) (t:Thread):OS:=
 @Bool.rec (fun _=>OS) (@Bool.rec (fun _=>OS) none (@Option.rec _ (fun _=>OS) none (fun r=> @Prod.rec _ _ (fun _=>OS) (fun s t=> @Bool.rec (fun _=>OS) (ih s t) (frs s fun s=>ih s t) (Nat.beq (n % 64) 0)) r) (Lr p w s t)) (Fast.tw6613529449190102663 11 (some (.ref 6)) t)) (some s) (through t)
noncomputable def go (p:Program) (w:World) (n:Nat):SharedT->Thread->OS:= @Nat.rec (fun _=>SharedT->Thread->OS) (fun _ _=>none) (bd p w) n
theorem t_ {p:Program}{w:World}:∀{n:Nat} {s s':SharedT} {t:Thread},go p w n s t=some s'->topRun treeTable p w 11 (some (.ref 6)) n s.abs t=some s'.abs
  |0,_,_,_,h=>by cases h
  |n + 1,s,s',t,h=>by
    rw[show go p w (n + 1) s t=bd p w n (go p w n) s t from rfl]at h;unfold bd at h;rw[zcE, <-Fast.te6613529449190102663]at h;unfold topRun
    cases ht:through t with
    |true=>rw[ht]at h;cases h;rfl
    |false=>
      rw[ht]at h
      cases hk:stepOk 11 (some (.ref 6)) t with
      |false=>rw[hk]at h;cases h
      |true=>
        rw[hk]at h
        cases hs:stepT (denote treeTable) p w s t with
        |none=>rw[hs]at h;cases h
        |some r=>
          obtain⟨s₂,t₂⟩:=r;rw[hs]at h;dsimp only at h ⊢;rw[stepT_spec hs];rw[Wl]at h;exact t_ (by revert h;cases Nat.beq (n % 64) 0<;>exact id)
noncomputable def mkT:List Obj->Nat->BT->BT
 | [],_,t=>t
 |o::l,i,t=>mkT l (i + 1) (t.ins i o)
noncomputable def bS (w:World) (o:OsState):SharedT:=⟨mkT (boot_heap w.params).objs.toList 0 .nil,11,{},⟨[]⟩,boot_drawn,boot_toks,o⟩
theorem Vn (w:World)(o:OsState):(bS w o).abs=⟨boot_heap w.params,⟨[]⟩,boot_drawn,boot_toks,o⟩:=by kernel_rfl
theorem Vo (P:Params):((boot_heap P).isNs mainGlobals && (Array.mk []:Array GenState).size==0,(boot_heap P).objs.size,(boot_heap P).nsMap mainGlobals "__annotations__")=(true,11,some (.ref 6)):=by kernel_rfl
noncomputable def lst {α:Type} (T:BT) (n:Nat):List Obj->(List Obj->α)->α:=
 @Nat.rec (fun _=>List Obj->(List Obj->α)->α) (fun a k=>k a) (fun i ih a k=> @Option.rec Obj (fun _=>α) (ih (default::a) k) (fun o=> @Obj.rec (fun _=>α) (fun c d t l=>ih (⟨c,d,t,l⟩::a) k) o) (T.get i)) n
theorem Qq {α:Type}(T:BT):∀(n:Nat) (a:List Obj) (k:List Obj->α),lst T n a k=k (T.list n ++ a)
  |0,_,_=>rfl
  |n + 1,a,k=>by
    rw[show T.list (n + 1)=T.list n ++ [(T.get n).getD default] by unfold BT.list;rw[List.range_succ,xbv];rfl,xaT];unfold lst;dsimp only;cases T.get n<;>exact Qq T n _ k
noncomputable def M9 {α:Type} (s:SharedT) (k:Shared->α):α:= @SharedT.rec (fun _=>α) (fun T n l g d i o=>lst T n [] fun a=>k ⟨⟨⟨a⟩,l⟩,g,d,i,o⟩) s
theorem M_ {α:Type}(s:SharedT)(k:Shared->α):M9 s k=k s.abs:=(Qq _ _ _ _).trans (by rw[xaR];rfl)
section
variable {p q:Program}{lo:List Str}{Xt:Shared->Bool}{α:Type}{Yf:Shared->α}{Ya:World->α}{N:Nat}{g0:Bool}{B C:Prop}
abbrev Pre (_:LeftO p q lo Xt Yf Ya N g0/\B->C):Prop:=(opening p=plainProg p.main.scope.names/\∀s,fenceModules? p s=some s)/\Nat.ble 600 N=true
abbrev See {β:Type}(p:Program)(N:Nat)(v:World->World)(f:World->Shared->β)(y:World->β):Prop:=∀w o,(go p (v w) N (bS (v w) o) (topStub p)).map (fun s=>M9 s (f (v w)))=some (y (v w))
abbrev lX (v:World->World)(_:LeftO p q lo Xt Yf Ya N g0/\B->C):Prop:=
 See p N v (fun w s=>(staticsOk (importedModules p.main.body) (boot_heap w.params) s.heap && namesBound p s.heap && gensDone s && laidKept (boot_heap w.params) s.heap,Yf s)) fun w=>(true,Ya w)
abbrev lY (v:World->World)(_:LeftO p q lo Xt Yf Ya N g0/\B->C):Prop:=See p N v (fun _ s=>Fast.tw4187177175401517315 q lo (importedModules p.main.body) Xt g0 s) fun _=>openGood q lo
theorem left {v:World->World}{H:LeftO p q lo Xt Yf Ya N g0/\B->C}(e:Pre H)(a:lX v H)(b:lY v H)(w:World):
  (openEnds treeTable p (v w) N).map (fun s=>(openSeen q lo (importedModules p.main.body) Xt g0 s,Yf s))=some (openGood q lo,Ya (v w)):=by
 obtain⟨⟨h,gs,d,k,o⟩,e1,e2⟩:=xac.mp (boot_open e.1.1 e.2 e.1.2 (v w));obtain⟨rfl,rfl,rfl,rfl⟩:h=boot_heap (v w).params/\gs=⟨[]⟩/\d=boot_drawn/\k=boot_toks:=by simpa using e2
 obtain⟨s,hs,hv⟩:=xac.mp (a w o);have hb:=b w o;rw[hs,xaD,M_, <-Fast.te4187177175401517315]at hb;rw[M_]at hv;obtain⟨l1,l3⟩:=Prod.mk.inj hv;obtain⟨z1,z2,z3⟩:_/\_/\_:=by simpa only[xdp] using Vo (v w).params
 have hr:=t_ hs;rw[Vn]at hr;have t:topFrom treeTable p (v w) N ⟨boot_heap (v w).params,⟨[]⟩,boot_drawn,boot_toks,o⟩=some s.abs:=by
  unfold topFrom;dsimp only;rw[z1,z2,z3,hr];dsimp only[Option.bind_some];rw[l1]
 unfold openEnds;rw[e1,Option.bind_some,t];exact congrArg some (Prod.ext (xay hb) l3)
theorem two (row:String){H:LeftO p q lo Xt Yf Ya N g0/\B->C}(e:Pre H)(a:lX (·.withFollow row false) H)(b:lY (·.withFollow row false) H)(c:lX (·.withFollow row true) H)(d:lY (·.withFollow row true) H)(hB:B):C:=
 H ⟨fun w=>by
  have x:=left e a b w;have y:=left e c d w;have z:=World.withFollow_self w row;cases h:w.params.followText row<;>rw[h]at z<;>simp only[z]at x y<;>assumption,hB⟩
end
end HQ
section
local macro_rules
  | `(tactic| refine $f:term $as:term*)=>do
    let mut bs:= #[]
    let mut hit:=false
    for a in as do
      if a.raw.isOfKind ``Lean.Parser.Term.syntheticHole && a.raw[1].getId== `hl then
        hit:=true
        bs:=bs.push (<- `((And.left ?hx)))
      else if a.raw.isOfKind ``Lean.Parser.Term.syntheticHole && a.raw[1].getId== `hc then
        bs:=bs.push (<- `((And.right ?hx)))
      else bs:=bs.push a
    if hit then `(tactic| refine $f $bs*) else Lean.Macro.throwUnsupported
set_option maxHeartbeats 0 in
open_top My.hdAll for PySem.Challenge.rw_rowdam_k13_two_functions
theorem My.he:HQ.Pre My.hdAll:=⟨⟨by kernel_rfl,fun _=>by kernel_rfl⟩,by kernel_rfl⟩
theorem My.hBf:HQ.lY (·.withFollow "special-get-raises" false) My.hdAll:=fun _ _=>by kernel_rfl
theorem My.hBt:HQ.lY (·.withFollow "special-get-raises" true) My.hdAll:=fun _ _=>by kernel_rfl
theorem My.hAf:HQ.lX (·.withFollow "special-get-raises" false) My.hdAll:=fun _ _=>by kernel_rfl
theorem My.hAt:HQ.lX (·.withFollow "special-get-raises" true) My.hdAll:=fun _ _=>by kernel_rfl
end
namespace L2
open PySem PySem.Spec PyProof.Rows
abbrev Key:=Sum Int Str
noncomputable def wX:Key->Value->Bool
 |.inl k,v=>Value.isInt k v
 |.inr x,v=>Value.isStrOf x v
def HF (w:World):Key->Int
 |.inl k=>hashInt k
 |.inr x=>hashStr w x
theorem pK:∀{k:Key} {v:Value},wX k v=true->(∃i t,k=Sum.inl i/\v=Value.int i t)\/(∃x t,k=Sum.inr x/\v=Value.str x t)
  |.inl i,v,h=>by
    obtain⟨t,e⟩:=Value.isInt_shape (k:=i) (v:=v) h;exact .inl ⟨i,t,rfl,e⟩
  |.inr x,v,h=>by
    obtain⟨t,e⟩:=Value.isStrOf_shape (x:=x) (v:=v) h;exact .inr ⟨x,t,rfl,e⟩
theorem Xb (i:Int)(t:Tok):wX (.inl i) (.int i t)=true:=by simp[wX,Value.isInt]
theorem Xc (x:Str)(t:Tok):wX (.inr x) (.str x t)=true:=by simp[wX,Value.isStrOf]
theorem Xd (a b:Int):decide ((Sum.inl a:Key)=Sum.inl b)=(a==b):=by
 by_cases e:a=b
 ·subst e;simp
 ·have h:¬ (Sum.inl a:Key)=Sum.inl b:=fun q=>e (Sum.inl.inj q);rw[xaE h];exact(xa8.mpr e).symm
theorem Xg (a b:Str):decide ((Sum.inr a:Key)=Sum.inr b)=decide (a=b):=by
 by_cases e:a=b
 ·subst e;simp
 ·have h:¬ (Sum.inr a:Key)=Sum.inr b:=fun q=>e (Sum.inr.inj q);rw[xaE h,xaE e]
theorem Xe (a:Int)(b:Str):decide ((Sum.inl a:Key)=Sum.inr b)=false:=xaE (fun q=>nomatch q)
theorem Xf (a:Str)(b:Int):decide ((Sum.inr a:Key)=Sum.inl b)=false:=xaE (fun q=>nomatch q)
noncomputable def nA (prog:Program) (w:World):PySem.KeyKind prog w Key where
 is:=wX
 hash:=HF w
 inj:=fun v a b ha hb=>by
  rcases pK ha with⟨i,t,rfl,rfl⟩ |⟨x,t,rfl,rfl⟩
  ·rcases pK hb with⟨j,u,rfl,e⟩ |⟨y,u,rfl,e⟩
   ·injection e with e1 _;rw[e1]
   ·exact nomatch e
  ·rcases pK hb with⟨j,u,rfl,e⟩ |⟨y,u,rfl,e⟩
   ·exact nomatch e
   ·injection e with e1 _;rw[e1]
 byValue:=fun k v h=>by
  rcases pK h with⟨i,t,rfl,rfl⟩ |⟨x,t,rfl,rfl⟩<;>rfl
 pyHash:=fun hv h=>by
  rcases pK hv with⟨i,t,rfl,rfl⟩ |⟨x,t,rfl,rfl⟩
  ·exact wpAny_pyHash_int h
  ·exact wpAny_pyHash_str h
 eqBool:=fun hu hv h=>by
  rcases pK hu with⟨i,t,rfl,rfl⟩ |⟨x,t,rfl,rfl⟩
  ·rcases pK hv with⟨j,u,rfl,rfl⟩ |⟨y,u,rfl,rfl⟩
   ·rw[Xd]at h;exact wpAny_eqBool_int h
   ·rw[Xe]at h;exact xcG i t y u _ _ _ _ h
  ·rcases pK hv with⟨j,u,rfl,rfl⟩ |⟨y,u,rfl,rfl⟩
   ·rw[Xf]at h;exact xcH x t j u _ _ _ _ h
   ·rw[Xg]at h;exact wpAny_eqBool_str h
 «strs» :=fun k x t v h=>by
  rcases pK h with⟨i,u,rfl,e⟩ |⟨y,u,rfl,e⟩
  ·exact nomatch e
  ·injection e with e1 _
   subst e1;cases v<;>rfl
theorem XC (prog:Program)(w:World)(i:Int)(t:Tok):(nA prog w).is (.inl i) (.int i t)=true:=Xb i t
theorem Ik (prog:Program)(w:World)(x:Str)(t:Tok):(nA prog w).is (.inr x) (.str x t)=true:=Xc x t
inductive V where
 |non |bl (b:Bool) |int (i:Int) |str (x:Str) |byt (b:Array UInt8) |flt (b:UInt64) |ref (a:Addr) |ty (n:String)
 deriving DecidableEq
noncomputable def RelV:V->Value->Prop
 |.non,u=>u=Value.none
 |.bl b,u=>u=Value.bool b
 |.int i,u=>∃t,u=Value.int i t
 |.str x,u=>∃t,u=Value.str x t
 |.byt b,u=>∃t,u=Value.bytes b t
 |.flt b,u=>∃t,u=Value.float b t
 |.ref a,u=>u=Value.ref a
 |.ty n,u=>u=Value.type n
abbrev Vals:List V->List Value->Prop:=Paired RelV
theorem Vals.length (r:Vals xs us):xs.length=us.length:=Paired.length r
theorem Vals.get:∀{xs:List V} {us:List Value} {i:Nat} {x:V},Vals xs us->xs[i]? =some x->∃u,us[i]? =some u/\RelV x u
  |_,_,_,_,.nil,e=>by simp at e
  |_,_,0,_,.cons r _,e=>by simp at e;subst e;exact⟨_,rfl,r⟩
  |_,_,i + 1,x,.cons _ t,e=>by
    obtain⟨u,h1,h2⟩:=Vals.get (i:=i) (x:=x) t (by simpa using e);exact⟨u,by simpa using h1,h2⟩
theorem Vals.append:∀{xs ys:List V} {us ws:List Value},Vals xs us->Vals ys ws->Vals (xs ++ ys) (us ++ ws)
 |_,_,_,_,.nil,s=>s
 |_,_,_,_,.cons r t,s=>.cons r (Vals.append t s)
theorem Vals.take:∀{xs:List V} {us:List Value} (n:Nat),Vals xs us->Vals (xs.take n) (us.take n)
 |_,_,0,_=>.nil
 |_,_,_ + 1,.nil=>.nil
 |_,_,n + 1,.cons r t=>.cons r (Vals.take n t)
theorem Vals.drop:∀{xs:List V} {us:List Value} (n:Nat),Vals xs us->Vals (xs.drop n) (us.drop n)
 |_,_,0,r=>r
 |_,_,_ + 1,.nil=>.nil
 |_,_,n + 1,.cons _ t=>Vals.drop n t
noncomputable def dR:Option V->Option Value->Prop
 |some v,some u=>RelV v u
 |none,none=>True
 |_,_=>False
def KV {κ:Type}:List (κ×V)->List (κ×Value)->Prop:=Paired fun(p:κ×V) (q:κ×Value)=>p.1=q.1/\RelV p.2 q.2
def kV:Key->V
 |.inl i=>.int i
 |.inr x=>.str x
inductive HO where
  |lst (xs:List V)
  |tup (xs:List V)
  |dK (kvs:List (Key×V)) |dT (kvs:List (List Key×V))
  |set (S:Int->Bool) (n:Nat)
  |ins (C dx:Addr) (fs:List (Str×V))
  |own (x:Addr)
  |xd (fs:List (Str×V))
  |met (f x:Addr)
  |rng (lo hi:Int)
  |frz (o:Obj) (u:HO)
  |tbl (ps:Array Value)
  |ext (φ:Heap->Prop)
abbrev Hp:=Addr->Option HO
noncomputable def upd (H:Hp) (a:Addr) (o:HO):Hp:=fun b=>if b=a then some o else H b
theorem bU:upd H a o a=some o:=by unfold upd;rw[xab rfl]
theorem aQ (h:b≠a):upd H a o b=H b:=by unfold upd;rw[xaf h]
theorem kj {H:Hp}{a b:Addr}{o:HO}(h:H a=some o)(h':H b=none):a≠b:=by
 intro e;subst e;rw[h]at h';cases h'
section
variable (P:Program)(w:World)
noncomputable def cX (H:Hp) (h:Heap) (a:Addr):HO->Prop
 |.lst xs=>xs.length<=sizeLine/\∃(its:List Value) (n:Nat),Vals xs its/\h.get? a=some {cls:=.type "list",data:=.seq its.toArray n}
 |.tup xs=>xs.length<=sizeLine/\∃its:List Value,Vals xs its/\IsTup h a its.toArray
 |.dK kvs=>kvs.length<=sizeLine/\(a==sysModules)=false/\∃vs,KV kvs vs/\h.DictOf (nA P w) a vs
 |.dT kvs=>kvs.length<=sizeLine/\(a==sysModules)=false/\∃xs:List (List Key×Addr×Value),
   Paired (fun(p:List Key×V) (q:List Key×Addr×Value)=>p.1=q.1/\H q.2.1=some (.tup (p.1.map kV))/\RelV p.2 q.2.2) kvs xs/\
   ∃o es ep,h.get? a=some o/\o.ExactDict/\o.data=.dict es ep/\es.toList=xs.map (entryOfKey (tupleKind (nA P w)))/\(xs.map (·.1)).Nodup
 |.set S n=>h.SetOf (intKind P w) a S n
 |.ins C dx fs=>H dx=some (.own a)/\fs.length<=1000/\dx≠a/\h.get? a=some (PySem.W.instObj C dx)/\
   ∃mA,h.Ns1 dx mA/\(∀f,dR (fs.lookup f) (mA f))/\PySem.Within mA (fs.map (·.1))
 |.own _=>∃o,h.get? a=some o
 |.xd fs=>∃mA,h.Ns1 a mA/\∀f,dR (fs.lookup f) (mA f)
 |.rng lo hi=>∃t u v,h.get? a=some {cls:=.type "range",data:=.fields #[.int lo t,.int hi u,.int 1 v]}
 |.frz o u=>h.get? a=some o/\cX H h a u
 |.tbl ps=>h.get? a=some {cls:=.none,data:=.fields ps}
 |.met f x=>h.get? a=some (PySem.W.methodObj (.ref f) (.ref x))
 |.ext φ=>φ h/\(∃o,h.get? a=some o)/\∀h1 h2:Heap,φ h1->(∀o,h1.get? a=some o->h2.get? a=some o)->φ h2
def cA (H:Hp)(h:Heap):Prop:=∀a o,H a=some o->cX P w H h a o
end
section
variable {P:Program}{w:World}{H H':Hp}{h h':Heap}{a:Addr}{o:HO}
theorem cX.lt (x:cX P w H h a o):a<h.objs.size:=by
 cases o with
 |lst xs=>obtain⟨_,_,_,_,e⟩:=x;exact xaq e
 |tup xs=>obtain⟨_,_,_,p⟩:=x;exact p.lt
 |dK kvs=>obtain⟨_,_,_,_,o,_,_,e,_⟩:=x;exact xaq e
 |dT kvs=>obtain⟨_,_,_,_,o,_,_,e,_⟩:=x;exact xaq e
 |set S n=>obtain⟨o,_,_,_,e,_⟩:=x;exact xaq e
 |ins C dx fs=>obtain⟨_,_,_,e,_⟩:=x;exact xaq e
 |own y=>obtain⟨_,e⟩:=x;exact xaq e
 |xd fs=>obtain⟨_,⟨_,_,_,e,_⟩,_⟩:=x;exact xaq e
 |rng lo hi=>obtain⟨_,_,_,e⟩:=x;exact xaq e
 |frz ob u=>obtain⟨e,_⟩:=x;exact xaq e
 |tbl ps=>exact xaq (show h.get? a=some _ from x)
 |met f y=>exact xaq (show h.get? a=some _ from x)
 |ext φ=>obtain⟨_,⟨_,e⟩,_⟩:=x;exact xaq e
theorem Paired.mapP:∀{l₁:List α} {l₂:List β},Paired F l₁ l₂->(∀a b,F a b->G a b)->Paired G l₁ l₂
 |_,_,.nil,_=>.nil
 |_,_,.cons r t,f=>.cons (f _ _ r) (Paired.mapP t f)
theorem cX.stay (x:cX P w H h a o)(k:∀b u,(b=a\/H b=some (.own a))->h.get? b=some u->h'.get? b=some u)
    (ho:∀b,H b=some (.own a)->H' b=some (.own a)) (ht:∀b xs,H b=some (.tup xs)->H' b=some (.tup xs)):cX P w H' h' a o:=by
  induction o with
  |lst xs=>obtain⟨z,its,n,r,e⟩:=x;exact⟨z,its,n,r,k _ _ (.inl rfl) e⟩
  |tup xs=>obtain⟨z,its,r,ob,e,c⟩:=x;exact⟨z,its,r,ob,k _ _ (.inl rfl) e,c⟩
  |dK kvs=>obtain⟨z,y,vs,r,ob,es,ep,e,c⟩:=x;exact⟨z,y,vs,r,ob,es,ep,k _ _ (.inl rfl) e,c⟩
  |dT kvs=>
    obtain⟨z,y,xs,r,ob,es,ep,e,c⟩:=x;exact⟨z,y,xs,Paired.mapP r fun p q z=>⟨z.1,ht _ _ z.2.1,z.2.2⟩,ob,es,ep,k _ _ (.inl rfl) e,c⟩
  |set S n=>obtain⟨ob,es,ep,t,e,c⟩:=x;exact⟨ob,es,ep,t,k _ _ (.inl rfl) e,c⟩
  |ins C dx fs=>
    obtain⟨d,z,ne,e,mA,⟨od,es,ep,e2,c⟩,r⟩:=x;exact⟨ho _ d,z,ne,k _ _ (.inl rfl) e,mA,⟨od,es,ep,k _ _ (.inr d) e2,c⟩,r⟩
  |own y=>obtain⟨ob,e⟩:=x;exact⟨ob,k _ _ (.inl rfl) e⟩
  |xd fs=>obtain⟨mA,⟨od,es,ep,e,c⟩,r⟩:=x;exact⟨mA,⟨od,es,ep,k _ _ (.inl rfl) e,c⟩,r⟩
  |rng lo hi=>obtain⟨t,u,v,e⟩:=x;exact⟨t,u,v,k _ _ (.inl rfl) e⟩
  |frz ob u ih=>obtain⟨e,q⟩:=x;exact⟨k _ _ (.inl rfl) e,ih q⟩
  |tbl ps=>
    have e:h.get? a=some {cls:=.none,data:=.fields ps}:=x;show h'.get? a=some {cls:=.none,data:=.fields ps};exact k a _ (.inl rfl) e
  |met f y=>
    have e:h.get? a=some (PySem.W.methodObj (.ref f) (.ref y)):=x;show h'.get? a=some (PySem.W.methodObj (.ref f) (.ref y));exact k a _ (.inl rfl) e
  |ext φ=>obtain⟨p,⟨o,e⟩,st⟩:=x;exact⟨st _ _ p fun o q=>k _ _ (.inl rfl) q,⟨o,k _ _ (.inl rfl) e⟩,st⟩
theorem cA.lt (x:cA P w H h)(e:H a=some o):a<h.objs.size:=(x a o e).lt
theorem cA.fresh (x:cA P w H h)(e:h.objs.size<=a):H a=none:=by
 cases q:H a with
 |none=>rfl
 |some u=>exact absurd (xag (x.lt q) e) (xa0 _)
theorem cA.kept (x:cA P w H h)(k:∀b u,h.get? b=some u->h'.get? b=some u):cA P w H h':=fun a o e=>
 (x a o e).stay (fun b u _ q=>k b u q) (fun _ q=>q) fun _ _ q=>q
theorem cA.laid (x:cA P w H h)(k:∀b u,h.get? b=some u->h'.get? b=some u)(hp:h.objs.size<=a)(new:cX P w (upd H a o) h' a o):cA P w (upd H a o) h':=fun b u e=>by
 have hn:=x.fresh hp
 by_cases hb:b=a
 ·subst hb;rw[bU]at e;cases e;exact new
 ·rw[aQ hb]at e;exact(x b u e).stay (fun c v _ q=>k c v q) (fun c q=>by rw[aQ (kj q hn)];exact q) fun c xs q=>by rw[aQ (kj q hn)];exact q
end
def Rd (H:Hp)(a:Addr)(u:HO):Prop:=H a=some u\/∃o,H a=some (.frz o u)
theorem Rd.ok (r:Rd H a u)(x:cA P w H h):cX P w H h a u:=by
 rcases r with r |⟨o,r⟩
 ·exact x a u r
 ·obtain⟨_,q⟩:=x a _ r;exact q
noncomputable def Bm:Option HO->Prop
 |some (.lst _)=>True
 |some (.dK _)=>True
 |some (.dT _)=>True
 |some (.set _ _)=>True
 |some (.ins _ _ _)=>True
 |some (.ext _)=>True
 |_=>False
section
variable {P:Program}{w:World}{H:Hp}{h h':Heap}{x e:Addr}{o':HO}
theorem cA.write (ok:cA P w H h)(mu:Bm (H x))(he:e=x\/H e=some (.own x))(k:∀b u,b≠e->h.get? b=some u->h'.get? b=some u)(heo:∃u,h'.get? e=some u)
  (new:cX P w (upd H x o') h' x o'):cA P w (upd H x o') h':=fun b u q=>by
 have nown:∀c y,H c=some (.own y)->c≠x:=fun c y r z=>by subst z;rw[r]at mu;exact mu
 have ntup:∀c xs,H c=some (.tup xs)->c≠x:=fun c xs r z=>by subst z;rw[r]at mu;exact mu
 by_cases hb:b=x
 ·subst hb;rw[bU]at q;cases q;exact new
 ·rw[aQ hb]at q
  by_cases hbe:b=e
  ·have q':H b=some (.own x):=by
    rcases he with z |z
    ·exact absurd (hbe.trans z) hb
    ·rw[hbe];exact z
   rw[q]at q';cases q';obtain⟨v,hv⟩:=heo;exact⟨v,by rw[hbe];exact hv⟩
  ·refine(ok b u q).stay (fun c v hc r=>k c v ?_ r) (fun c r=>by rw[aQ (nown c b r)];exact r) fun c xs r=>by rw[aQ (ntup c xs r)];exact r
   rcases hc with rfl |hc
   ·exact hbe
   ·rintro rfl;rcases he with z |z
    ·exact nown c b hc z
    ·rw[hc]at z;cases z;exact hb rfl
end
structure Un (fs ex:List Addr)(H H':Hp)(h h':Heap):Prop where
 keep:∀b o,h.get? b=some o->H b=none->b∉fs->b∉ex->h'.get? b=some o
 slot:∀b o,h.get? b=some o->H b=none->b∈fs->b∉ex->∃sl,h'.get? b=some {o with slots:=sl}
 free:∀b o,h.get? b=some o->H b=none->b∉ex->H' b=none
 there:∀b o,h.get? b=some o->b∉ex->∃o',h'.get? b=some o'
 tups:∀b xs,H b=some (.tup xs)->H' b=some (.tup xs)
 frzs:∀b o u,H b=some (.frz o u)->H' b=some (.frz o u)
 tbls:∀b ps,H b=some (.tbl ps)->∃more,H' b=some (.tbl (ps ++ more))
section
variable {fs fs' ex ex':List Addr}{H H1 H2:Hp}{h h1 h2 h':Heap}{a x e:Addr}{o:HO}
theorem Un.any (u:Un fs ex H H1 h h1)(q:h.get? b=some ob)(n:H b=none)(hx:b∉ex):∃sl,h1.get? b=some {ob with slots:=sl}:=by
 by_cases hb:b∈fs
 ·exact u.slot b ob q n hb hx
 ·exact⟨ob.slots,u.keep b ob q n hb hx⟩
theorem Un.trans (a:Un fs ex H H1 h h1)(b:Un fs ex H1 H2 h1 h2):Un fs ex H H2 h h2 where
 keep:=fun c ob q n hc hx=>b.keep c ob (a.keep c ob q n hc hx) (a.free c ob q n hx) hc hx
 slot:=fun c ob q n hc hx=>by
  obtain⟨sl,e1⟩:=a.slot c ob q n hc hx;obtain⟨sl',e2⟩:=b.slot c _ e1 (a.free c ob q n hx) hc hx;exact⟨sl',e2⟩
 free:=fun c ob q n hx=>by
  obtain⟨o',e1⟩:=a.there c ob q hx;exact b.free c o' e1 (a.free c ob q n hx) hx
 there:=fun c ob q hx=>by
  obtain⟨o',e1⟩:=a.there c ob q hx;exact b.there c o' e1 hx
 tups:=fun c xs q=>b.tups c xs (a.tups c xs q)
 frzs:=fun c ob xs q=>b.frzs c ob xs (a.frzs c ob xs q)
 tbls:=fun c ps q=>by
  obtain⟨m1,e1⟩:=a.tbls c ps q;obtain⟨m2,e2⟩:=b.tbls c _ e1;exact⟨m1 ++ m2,by rw[e2,xdx]⟩
theorem Un.kept (k:∀b u,h.get? b=some u->h'.get? b=some u):Un fs ex H H h h':=
 ⟨fun b ob q _ _ _=>k b ob q,fun b ob q _ _ _=>⟨ob.slots,k b ob q⟩,fun _ _ _ n _=>n,fun b ob q _=>⟨ob,k b ob q⟩,fun _ _ q=>q,fun _ _ _ q=>q,fun _ ps q=>⟨#[],by rw[q];simp⟩⟩
theorem Un.refl:Un fs ex H H h h:=Un.kept fun _ _ q=>q
theorem Un.laid (k:∀b u,h.get? b=some u->h'.get? b=some u)(hp:h.objs.size<=a)(hn:H a=none):Un fs ex H (upd H a o) h h' where
 keep:=fun b u q _ _ _=>k b u q
 slot:=fun b u q _ _ _=>⟨u.slots,k b u q⟩
 free:=fun b u q n _=>by rw[aQ (xaA (xag (xaq q) hp))];exact n
 there:=fun b u q _=>⟨u,k b u q⟩
 tups:=fun b xs q=>by rw[aQ (kj q hn)];exact q
 frzs:=fun b u xs q=>by rw[aQ (kj q hn)];exact q
 tbls:=fun b ps q=>⟨#[],by rw[aQ (kj q hn),q];simp⟩
theorem Un.write (mu:Bm (H x))(he:e=x\/H e=some (.own x))(k:∀b u,b≠e->h.get? b=some u->h'.get? b=some u)(heo:∃u,h'.get? e=some u):Un fs ex H (upd H x o) h h':=by
 have hx:∀b,H b=none->b≠x:=fun b n z=>by subst z;rw[n]at mu;exact mu
 have hb:∀b,H b=none->b≠e:=fun b n z=>by
  subst z;rcases he with r |r
  ·exact hx b n r
  ·rw[n]at r;cases r
 have hm:∀b u,H b=some u->¬ Bm (some u)->b≠x:=fun b u q nm z=>by subst z;rw[q]at mu;exact nm mu
 refine ⟨fun b u q n _ _=>k b u (hb b n) q,fun b u q n _ _=>⟨u.slots,k b u (hb b n) q⟩,fun b u q n _=>by rw[aQ (hx b n)];exact n,fun b u q _=>?_,
  fun b xs q=>by rw[aQ (hm b _ q fun z=>z)];exact q,fun b u xs q=>by rw[aQ (hm b _ q fun z=>z)];exact q,fun b ps q=>⟨#[],by rw[aQ (hm b _ q fun z=>z),q];simp⟩⟩
 by_cases hbe:b=e
 ·subst hbe;exact heo
 ·exact⟨u,k b u hbe q⟩
theorem Un.mono (u:Un fs ex H H1 h h1)(hs:∀b∈fs,b∈fs')(hx:∀b∈ex,b∈ex'):Un fs' ex' H H1 h h1:=
 ⟨fun b ob q n hb he=>u.keep b ob q n (fun z=>hb (hs b z)) fun z=>he (hx b z),fun _ _ q n _ he=>u.any q n fun z=>he (hx _ z),fun b ob q n he=>u.free b ob q n fun z=>he (hx b z),fun b ob q he=>u.there b ob q fun z=>he (hx b z),u.tups,u.frzs,u.tbls⟩
end
noncomputable def Ep (h:Heap) (H:Hp):List Addr:=(List.range h.objs.size).filter fun a=>(H a).isSome
def dW (h:Heap)(H:Hp):Heap:=PySem.W.hideAll h (Ep h H)
theorem Ww (h:Heap)(H:Hp):(dW h H).objs.size=h.objs.size:=PySem.W.hideAll_size _ _
theorem Wv (e:h.get? b=some o)(n:H b=none):(dW h H).get? b=some o:=
 PySem.W.hideAll_get _ e fun hm=>by
  have q:(H b).isSome=true:=(List.mem_filter.mp hm).2;rw[n]at q;simp at q
theorem Zg (e:(dW h H).get? b=some o):h.get? b=some o/\H b=none:=by
  have e':h.get? b=some o:=PySem.W.of_hideAll (Ep h H) e;refine⟨e',?_⟩
  cases q:H b with
  |none=>rfl
  |some x=>
    have hm:b∈Ep h H:=List.mem_filter.mpr ⟨xcB.mpr (xaq e'),by simp[q]⟩;have z:(dW h H).get? b=none:=PySem.W.hideAll_none (Ep h H) hm;rw[z]at e;cases e
structure Mod (K:Fgx)(mg:Mgx)(base:Heap):Prop where
 kin:K.In base
 glob:base.Ns mainGlobals mg
 blt:∃mb,base.Ns builtinsNs mb/\∀x:Str,x≠"__name__"->mb x=bootBuiltins x
 nolimit:base.NoLimit
structure Cx where
 prog:Program
 w:World
 K:Fgx
 mg:Mgx
 base:Heap
 A:Around
 N:List Str
 s₀:Shared
 H₀:Hp
 env:Env
 outer:List Env
 stack:List Env
 ex:List Addr
 fn:Str->Bool
 calm:Bool
 pn:Pnx
 xe:Value->Shared->Prop
def frs (l:List Env):List Addr:=l.filterMap (·.frame)
abbrev Cx.fs (X:Cx):List Addr:=frs X.outer
def wG (sc:Scope)(x:Str):Prop:=sc.names.lookup x=some .local\/sc.names.lookup x=some .cell\/sc.names.lookup x=some .free
def Loc (sc:Scope)(x:Str):Prop:=sc.names.lookup x=some .local\/sc.names.lookup x=some .cell
def Look (env:Env)(h:Heap)(m:Mgx)(x:Str)(u:Value):Prop:=
 (env.kindOf x=some .local/\m x=some u)\/((env.kindOf x=some .cell\/env.kindOf x=some .free)/\∃c,env.cells.lookup x=some c/\h.IsCell c (some u))
structure Cx.Ok (X:Cx):Prop where
 mod:Mod X.K X.mg X.base
 kind:X.env.scope.kind=.function
 glob:X.env.globals=mainGlobals
 blt:X.env.builtins=builtinsNs
 above:X.s₀.heap.objs.size<=X.env.locals
 inj:∀x y c,X.env.cells.lookup x=some c->X.env.cells.lookup y=some c->x=y
 has:∀x,(X.env.kindOf x=some .cell\/X.env.kindOf x=some .free)->∃c,X.env.cells.lookup x=some c
 cab:∀x c,X.fn x=true->X.env.cells.lookup x=some c->X.s₀.heap.objs.size<=c
 hd:X.calm=true->X.A.handled=none
 frames:X.A.frames=some X.stack
 stk:X.stack=X.outer\/(X.stack=X.env::X.outer/\X.env.frame=some X.env.locals)
 exf:∀b∈X.ex,b≠X.env.locals/\∀x c,X.env.cells.lookup x=some c->c≠b
 bs:∀b o,X.base.get? b=some o->X.s₀.heap.get? b=some o/\X.H₀ b=none
 bsz:X.base.objs.size<=X.s₀.heap.objs.size
 noex:∀b o,X.base.get? b=some o->b∉X.ex
 exfs:∀b∈X.ex,b∉X.fs
 funs:X.s₀.heap.FunFrames X.base X.outer
 frf:∀b∈X.fs,X.H₀ b=none
structure Inv (X:Cx)(pins:Pnx)(σ:List (Option V))(H:Hp)(s:Shared):Prop where
 ok:X.Ok
 os:s.os=X.s₀.os
 bare:AllBare s.gens
 base:Un X.fs X.ex X.H₀ H X.s₀.heap s.heap
 loc:∃m,s.heap.Ns X.env.locals m/\∀(i:Nat) (x:Str) (v:V),X.N[i]? =some x->σ[i]? =some (some v)->wG X.env.scope x->∃u,RelV v u/\Look X.env s.heap m x u
 cell:∀x c,X.env.cells.lookup x=some c->∃v,s.heap.IsCell c v
 free:H X.env.locals=none
 freeC:∀x c,X.env.cells.lookup x=some c->H c=none\/(X.fn x=false/\∃o u,H c=some (.frz o u))
 pin:∀p∈X.pn ++ pins,s.heap.get? p.1=some p.2/\H p.1=none/\p.1≠X.env.locals/\p.1∉X.fs/\∀v,p.2.data≠ .cell v
 hok:cA X.prog X.w H s.heap
 len:σ.length=X.N.length
section
variable {X:Cx}{pins:Pnx}{σ:List (Option V)}{H H':Hp}{s:Shared}{h':Heap}
theorem Cx.Ok.nofr (ok:X.Ok)(e:X.base.get? b=some o):b∉X.fs:=fun hb=>by
 have:=(ok.funs.mem hb).1;rw[e]at this;cases this
theorem Inv.bs (I:Inv X pins σ H s):∀b o,X.base.get? b=some o->s.heap.get? b=some o/\H b=none:=fun b o e=>
 ⟨I.base.keep b o (I.ok.bs b o e).1 (I.ok.bs b o e).2 (I.ok.nofr e) (I.ok.noex b o e),I.base.free b o (I.ok.bs b o e).1 (I.ok.bs b o e).2 (I.ok.noex b o e)⟩
theorem Inv.bk (I:Inv X pins σ H s):∀b o,X.base.get? b=some o->s.heap.get? b=some o:=fun b o e=>(I.bs b o e).1
theorem Inv.mod (I:Inv X pins σ H s):Mod X.K X.mg X.base:=I.ok.mod
theorem Inv.kIn (I:Inv X pins σ H s):X.K.In s.heap:=I.ok.mod.kin.keeps I.bk
theorem Inv.lt (I:Inv X pins σ H s):X.env.locals<s.heap.objs.size:=let ⟨_,hn,_⟩:=I.loc;hn.lt
theorem Inv.sz (I:Inv X pins σ H s):X.s₀.heap.objs.size<=s.heap.objs.size:=xaB I.ok.above (xb9 I.lt)
theorem Inv.nofs (I:Inv X pins σ H s)(h:s.heap.objs.size<=a):a∉X.fs:=fun hb=>by
 obtain⟨_,o,ho,_⟩:=I.ok.funs.mem hb;exact absurd (xag (xaq ho) (xaB I.sz h)) (xa0 _)
theorem Inv.cne (I:Inv X pins σ H s):∀x c,X.env.cells.lookup x=some c->c≠X.env.locals:=fun x c e z=>by
 obtain⟨v,o,ho,hd⟩:=I.cell x c e;obtain⟨m,⟨o',es,ep,ho',hd',_⟩,_⟩:=I.loc;rw[z,ho']at ho;cases ho;rw[hd']at hd;cases hd
theorem Inv.funs (I:Inv X pins σ H s):s.heap.FunFrames X.base X.outer:=by
  have all:∀(l:List Env),(∀b∈frs l,b∈X.fs)->X.s₀.heap.FunFrames X.base l->s.heap.FunFrames X.base l:=by
    intro l
    induction l with
    |nil=>intro _ _;trivial
    |cons env r ih=>
      intro hs hl;obtain⟨hk,⟨L,o,hf,hn,ho,hd⟩,hr⟩:=hl;have hL:L∈X.fs:=hs L (by unfold frs;rw[xcx,hf];exact xaF);obtain⟨sl,e⟩:=I.base.slot L o ho (I.ok.frf L hL) hL fun z=>I.ok.exfs L z hL;exact⟨hk,⟨L,_,hf,hn,e,hd⟩,ih (fun b hb=>hs b (by unfold frs;rw[xcx,hf];exact xar _ hb)) hr⟩
  exact all X.outer (fun _ hb=>hb) I.ok.funs
theorem Inv.stack (I:Inv X pins σ H s):s.heap.FunFrames X.base X.stack:=by
 rcases I.ok.stk with e |⟨e,hf⟩
 ·rw[e];exact I.funs
 ·rw[e];obtain⟨m,hn,_⟩:=I.loc;refine .cons (by rw[I.ok.kind];decide) hf hn ?_ I.funs;exact xco (xaB I.ok.bsz I.ok.above)
theorem Inv.stkSub (I:Inv X pins σ H s):∀b∈frs X.stack,b∈X.env.locals::X.fs:=fun b hb=>by
 rcases I.ok.stk with e |⟨e,hf⟩
 ·rw[e]at hb;exact xar _ hb
 ·rw[e]at hb;unfold frs at hb;rw[xcx,hf]at hb;exact hb
theorem Inv.stkFree (I:Inv X pins σ H s):∀b∈frs X.stack,H b=none:=fun b hb=>by
 rcases xaJ.mp (I.stkSub b hb) with e |hb
 ·rw[e];exact I.free
 ·obtain⟨_,o,ho,_⟩:=I.ok.funs.mem hb;exact I.base.free b o ho (I.ok.frf b hb) fun z=>I.ok.exfs b z hb
theorem Inv.step {g':Array GenState}{t':Nat}{d':Drawn}{ch:List Addr}(I:Inv X pins σ H s)
  (hch:∀b∈ch,(b∈X.ex\/X.s₀.heap.objs.size<=b)/\b≠X.env.locals/\(∀x c,X.env.cells.lookup x=some c->c≠b)/\∀p∈X.pn ++ pins,p.1≠b)
  (keep:∀b o,b≠X.env.locals->b∉X.fs->b∉ch->s.heap.get? b=some o->H b=none->h'.get? b=some o)
  (slot:∀b o,b≠X.env.locals->b∈X.fs->b∉ch->s.heap.get? b=some o->H b=none->∃sl,h'.get? b=some {o with slots:=sl}) (free:∀b o,b∉ch->s.heap.get? b=some o->H b=none->H' b=none)
  (there:∀b o,b∉ch->s.heap.get? b=some o->∃o',h'.get? b=some o')
  (tups:∀b xs,H b=some (.tup xs)->H' b=some (.tup xs)) (frzs:∀b o u,H b=some (.frz o u)->H' b=some (.frz o u)) (tbls:∀b ps,H b=some (.tbl ps)->∃more,H' b=some (.tbl (ps ++ more)))
  (ns:∀m,s.heap.Ns X.env.locals m->h'.Ns X.env.locals m) (hok:cA X.prog X.w H' h') (hg:AllBare g'):
  Inv X pins σ H' {s with heap:=h',gens:=g',drawn:=d',toks:=t'}:=by
 have neL:∀b o,X.s₀.heap.get? b=some o->b≠X.env.locals:=fun b o e=>xaA (xag (xaq e) I.ok.above);have neC:∀b o,X.s₀.heap.get? b=some o->b∉X.ex->b∉ch:=fun b o e hx hb=>by
  rcases(hch b hb).1 with z |z
  ·exact hx z
  ·exact absurd (xag (xaq e) z) (xa0 _)
 have cellK:∀x c,X.env.cells.lookup x=some c->∀v,s.heap.IsCell c v->h'.IsCell c v:=fun x c e v ⟨o,ho,hd⟩=>by
  have nch:c∉ch:=fun z=>(hch c z).2.2.1 x c e rfl;rcases I.freeC x c e with fc |⟨_,o',u',fc⟩
  ·by_cases hc:c∈X.fs
   ·obtain⟨sl,q⟩:=slot c o (I.cne x c e) hc nch ho fc;exact⟨_,q,hd⟩
   ·exact⟨o,keep c o (I.cne x c e) hc nch ho fc,hd⟩
  ·obtain⟨e1,_⟩:=I.hok c _ fc;obtain⟨e2,_⟩:=hok c _ (frzs c _ _ fc);rw[ho]at e1;cases e1;exact⟨o,e2,hd⟩
 refine⟨I.ok,I.os,hg,⟨fun b o e n hb hx=>?_,fun b o e n hb hx=>?_,fun b o e n hx=>?_,fun b o e hx=>?_,fun b xs e=>tups b xs (I.base.tups b xs e),fun b o xs e=>frzs b o xs (I.base.frzs b o xs e),fun b ps e=>?_⟩,?_,fun x c e=>?_,?_,fun x c e=>?_,fun p hp=>?_,hok,I.len⟩
 ·exact keep b o (neL b o e) hb (neC b o e hx) (I.base.keep b o e n hb hx) (I.base.free b o e n hx)
 ·obtain⟨sl,e1⟩:=I.base.slot b o e n hb hx;obtain⟨sl',e2⟩:=slot b _ (neL b o e) hb (neC b o e hx) e1 (I.base.free b o e n hx);exact⟨sl',e2⟩
 ·obtain⟨o',e1⟩:=I.base.there b o e hx;exact free b o' (neC b o e hx) e1 (I.base.free b o e n hx)
 ·obtain⟨o',e1⟩:=I.base.there b o e hx;exact there b o' (neC b o e hx) e1
 ·obtain⟨m1,e1⟩:=I.base.tbls b ps e;obtain⟨m2,e2⟩:=tbls b _ e1;exact⟨m1 ++ m2,by rw[e2,xdx]⟩
 ·obtain⟨m,hn,hl⟩:=I.loc;refine⟨m,ns m hn,fun i x v e1 e2 e3=>?_⟩;obtain⟨u,r,l⟩:=hl i x v e1 e2 e3;refine⟨u,r,?_⟩;rcases l with l |⟨k,c,e,z⟩
  ·exact .inl l
  ·exact .inr ⟨k,c,e,cellK x c e _ z⟩
 ·obtain⟨v,z⟩:=I.cell x c e;exact⟨v,cellK x c e v z⟩
 ·obtain⟨m,⟨o,_,_,ho,_⟩,_⟩:=I.loc;exact free _ o (fun z=>(hch _ z).2.1 rfl) ho I.free
 ·obtain⟨v,o,ho,hd⟩:=I.cell x c e;rcases I.freeC x c e with fc |⟨fn,o',u',fc⟩
  ·exact .inl (free c o (fun z=>(hch c z).2.2.1 x c e rfl) ho fc)
  ·exact .inr ⟨fn,o',u',frzs c _ _ fc⟩
 ·obtain⟨e,n,ne,nf,d⟩:=I.pin p hp;have nch:p.1∉ch:=fun z=>(hch p.1 z).2.2.2 p hp rfl;exact⟨keep p.1 p.2 ne nf nch e n,free p.1 p.2 nch e n,ne,nf,d⟩
theorem Inv.un {t':Nat}(I:Inv X pins σ H s)(u:Un X.fs [] H H' s.heap h')(hok:cA X.prog X.w H' h'):Inv X pins σ H' {s with heap:=h',toks:=t'}:=by
 obtain ⟨m, ⟨o, es, ep, ho, r⟩, _⟩ := id I.loc;obtain ⟨sl, hL⟩ := u.any ho I.free (by simp);exact I.step (g' := s.gens) (d' := s.drawn) (ch := []) (fun _ z => nomatch z) (fun b o _ hb _ e n => u.keep b o e n hb (by simp)) (fun b o _ hb _ e n => u.slot b o e n hb (by simp)) (fun b o _ e n => u.free b o e n (by simp)) (fun b o _ e => u.there b o e (by simp)) u.tups u.frzs u.tbls (fun m' hm=>by
  obtain⟨o',es',ep',ho',r'⟩:=hm;rw[ho]at ho';cases ho';exact⟨_,es',ep',hL,r'⟩) hok I.bare
theorem Inv.call {g':Array GenState}{t':Nat}{d':Drawn}{ch:List Addr}(I:Inv X pins σ H s)(u:Un (frs X.stack) ch H H' s.heap h')(hok:cA X.prog X.w H' h')(hg:AllBare g')
  (hch:∀b∈ch,(b∈X.ex\/X.s₀.heap.objs.size<=b)/\b≠X.env.locals/\(∀x c,X.env.cells.lookup x=some c->c≠b)/\∀p∈X.pn ++ pins,p.1≠b):
  Inv X pins σ H' {s with heap:=h',gens:=g',drawn:=d',toks:=t'}:=by
 obtain ⟨m, ⟨o, es, ep, ho, r⟩, _⟩ := id I.loc;obtain ⟨sl, hL⟩ := u.any ho I.free fun z => (hch _ z).2.1 rfl;exact I.step (ch := ch) hch (fun b o hL hb hc e n => u.keep b o e n (fun z => (xaJ.mp (I.stkSub b z)).elim hL hb) hc) (fun b o _ _ hc e n => u.any e n hc) (fun b o hc e n => u.free b o e n hc) (fun b o hc e => u.there b o e hc) u.tups u.frzs u.tbls (fun m' hm=>by
  obtain⟨o',es',ep',ho',r'⟩:=hm;rw[ho]at ho';cases ho';exact⟨_,es',ep',hL,r'⟩) hok hg
theorem Inv.turned {t':Nat}{it:Addr}(I:Inv X pins σ H s)(k:∀b o,b≠it->s.heap.get? b=some o->h'.get? b=some o)(hn:H it=none)(hL:it≠X.env.locals)
  (h1:it∈X.ex\/X.s₀.heap.objs.size<=it) (h2:∀x c,X.env.cells.lookup x=some c->c≠it) (h3:∀p∈X.pn ++ pins,p.1≠it):Inv X pins σ H {s with heap:=h',toks:=t'}:=by
 have nit:∀b u,H b=some u->b≠it:=fun b u e z=>by rw[z,hn]at e;cases e
 refine I.step (g':=s.gens) (d':=s.drawn) (ch:=[it]) (fun b hb=>?_) (fun b o _ _ hc e _=>k b o (fun z=>hc (by simp[z])) e) (fun b o _ _ hc e _=>⟨o.slots,k b o (fun z=>hc (by simp[z])) e⟩) (fun _ _ _ _ n=>n)
  (fun b o hc e=>⟨o,k b o (fun z=>hc (by simp[z])) e⟩) (fun _ _ e=>e) (fun _ _ _ e=>e) (fun b ps e=>⟨#[],by rw[e];simp⟩) (fun m hm=>?_) (fun b u e=>?_) I.bare
 ·have e:b=it:=by simpa using hb
  subst e;exact⟨h1,hL,h2,h3⟩
 ·obtain⟨o,es,ep,ho,r⟩:=hm;exact⟨o,es,ep,k _ o (xbh hL) ho,r⟩
 ·refine(I.hok b u e).stay (fun c v hc q=>k c v ?_ q) (fun _ q=>q) fun _ _ q=>q;rcases hc with z |z
  ·rw[z];exact nit b u e
  ·exact nit c _ z
theorem Inv.tok (I:Inv X pins σ H s)(t:Nat):Inv X pins σ H {s with toks:=t}:=I.un (h':=s.heap) (t':=t) Un.refl I.hok
theorem Inv.kept (I:Inv X pins σ H s)(k:∀b u,s.heap.get? b=some u->h'.get? b=some u):Inv X pins σ H {s with heap:=h',toks:=t'}:=I.un (Un.kept k) (I.hok.kept k)
theorem Inv.laid (I:Inv X pins σ H s)(k:∀b u,s.heap.get? b=some u->h'.get? b=some u)(hp:s.heap.objs.size<=a)(new:cX X.prog X.w (upd H a o) h' a o):
  Inv X pins σ (upd H a o) {s with heap:=h',toks:=t'}:=I.un (Un.laid k hp (I.hok.fresh hp)) (I.hok.laid k hp new)
theorem Inv.write (I:Inv X pins σ H s)(mu:Bm (H x))(he:e=x\/H e=some (.own x))(k:∀b u,b≠e->s.heap.get? b=some u->h'.get? b=some u)(heo:∃u,h'.get? e=some u)
  (new:cX X.prog X.w (upd H x o) h' x o):Inv X pins σ (upd H x o) {s with heap:=h',toks:=t'}:=I.un (Un.write mu he k heo) (I.hok.write mu he k heo new)
theorem Inv.pins_of (I:Inv X pins σ H s)(h:∀p∈pins',s.heap.get? p.1=some p.2/\H p.1=none/\p.1≠X.env.locals/\p.1∉X.fs/\∀v,p.2.data≠ .cell v):Inv X pins' σ H s:=
 ⟨I.ok,I.os,I.bare,I.base,I.loc,I.cell,I.free,I.freeC,fun p hp=>(xa9.mp hp).elim (fun z=>I.pin p (xbk _ z)) (h p),I.hok,I.len⟩
theorem Iu {N:List Str}(hN:N.Nodup){i j:Nat}{x:Str}(a:N[i]? =some x)(b:N[j]? =some x):i=j:=by
 obtain⟨h1,e1⟩:=xad.mp a;obtain⟨h2,e2⟩:=xad.mp b;exact(List.getElem_inj hN).mp (e1.trans e2.symm)
theorem zaP {M:Model}{A:Around}{E:Value->Shared->Prop}{i:Nat}{x:Str}{v:V}{u:Value}{Q:Unit->Shared->Prop}(I:Inv X pins σ H s)(hN:X.N.Nodup)(hi:X.N[i]? =some x)(hx:Loc X.env.scope x)(r:RelV v u)
    (h:∀s',Inv X pins (σ.set i (some v)) H s'->(∃a,Heap.SameBut a s.heap s'.heap/\(a=X.env.locals\/X.env.cells.lookup x=some a))->Q () s') (hf:X.fn x=true\/X.env.scope.names.lookup x=some .local:=by first |exact .inl rfl |exact .inr rfl |assumption):wpAny M A (storeName X.env x u) Q E s:=by
  obtain⟨m,hn,hl⟩:=id I.loc;have hcls:(X.env.scope.kind==.class || (X.env.scope.kind==.module && X.env.locals !=X.env.globals))=false:=by rw[I.ok.kind];rfl
  have hiσ:i<σ.length:=by rw[I.len];exact(xad.mp hi).1
  have cne:=I.cne;have tracked:∀{a:Addr} {h':Heap},(∃o,s.heap.get? a=some o/\H a=none)->Heap.SameBut a s.heap h'->cA X.prog X.w H h':=fun {a h'} ha hs b ob e=>by
    obtain⟨_,_,hfree⟩:=ha;refine(I.hok b ob e).stay (fun c w' hc q=>(hs.2 c ?_).trans q) (fun _ q=>q) fun _ _ q=>q;rintro rfl;rcases hc with rfl |hc
    · rw[hfree]at e;cases e
    · rw[hfree]at hc;cases hc
  rcases hx with hk |hk
  · refine wpAny_storeName_local hk hn (fun h' hn' hs=>?_) hcls;obtain⟨oL,_,_,hoL,_⟩:=id hn;refine h _ ⟨I.ok,I.os,I.bare,⟨fun b o e n hb hx=>?_,fun b o e n hb hx=>?_,I.base.free,fun b o e hx=>?_,I.base.tups,I.base.frzs,I.base.tbls⟩,⟨_,hn',fun j y v' e1 e2 e3=>?_⟩,fun y c e=>?_,I.free,I.freeC,fun p hp=>?_,tracked ⟨oL,hoL,I.free⟩ hs,by simpa using I.len⟩ ⟨_,hs,.inl rfl⟩
    · exact(hs.2 b (xaA (xag (xaq e) I.ok.above))).trans (I.base.keep b o e n hb hx)
    · obtain⟨sl,e1⟩:=I.base.slot b o e n hb hx;exact⟨sl,(hs.2 b (xaA (xag (xaq e) I.ok.above))).trans e1⟩
    · obtain⟨o',e1⟩:=I.base.there b o e hx;exact⟨o',(hs.2 b (xaA (xag (xaq e) I.ok.above))).trans e1⟩
    · by_cases hj:j=i
      · subst hj;rw[hi]at e1;cases e1;rw[xbq hiσ]at e2;cases e2;exact⟨u,r,.inl ⟨hk,by simp⟩⟩
      · rw[xbe (xbh hj)]at e2;obtain⟨u',r',q⟩:=hl j y v' e1 e2 e3;refine⟨u',r',?_⟩;rcases q with⟨k,e⟩ |⟨k,c,e,z⟩
        · refine .inl ⟨k,?_⟩;have:y≠x:=fun e=>hj (Iu hN e1 (e ▸ hi))
          simp[this,e]
        · exact .inr ⟨k,c,e,z.sameBut hs (cne y c e)⟩
    · obtain⟨w',z⟩:=I.cell y c e;exact⟨w',z.sameBut hs (cne y c e)⟩
    · obtain⟨e,n,ne,nf,d⟩:=I.pin p hp;exact⟨(hs.2 p.1 ne).trans e,n,ne,nf,d⟩
  · have hfn:X.fn x=true:=by
      rcases hf with z |z
      · exact z
      · rw[z]at hk;cases hk
    obtain⟨c,hc⟩:=I.ok.has x (.inl hk);obtain⟨w',z⟩:=I.cell x c hc;refine wpAny_storeName_cell I.ok.kind hk hc z (fun h' hc' hs=>?_);obtain⟨oc,hoc,hocd⟩:=id z;refine h {s with heap:=h'} ⟨I.ok,I.os,I.bare,⟨fun b o e n hb hx=>?_,fun b o e n hb hx=>?_,I.base.free,fun b o e hx=>?_,I.base.tups,I.base.frzs,I.base.tbls⟩,⟨m,hn.sameBut hs (xbh (cne x c hc)),fun j y v' e1 e2 e3=>?_⟩,fun y c' e=>?_,I.free,I.freeC,fun p hp=>?_,tracked ⟨oc,hoc,(I.freeC x c hc).resolve_right fun z=>by rw[z.1]at hfn;cases hfn⟩ hs,by simpa using I.len⟩ ⟨c,hs,.inr hc⟩
    · exact(hs.2 b (xaA (xag (xaq e) (I.ok.cab x c hfn hc)))).trans (I.base.keep b o e n hb hx)
    · obtain⟨sl,e1⟩:=I.base.slot b o e n hb hx;exact⟨sl,(hs.2 b (xaA (xag (xaq e) (I.ok.cab x c hfn hc)))).trans e1⟩
    · obtain⟨o',e1⟩:=I.base.there b o e hx;exact⟨o',(hs.2 b (xaA (xag (xaq e) (I.ok.cab x c hfn hc)))).trans e1⟩
    · by_cases hj:j=i
      · subst hj;rw[hi]at e1;cases e1;rw[xbq hiσ]at e2;cases e2;exact⟨u,r,.inr ⟨.inl hk,c,hc,hc'⟩⟩
      · rw[xbe (xbh hj)]at e2;obtain⟨u',r',q⟩:=hl j y v' e1 e2 e3;refine⟨u',r',?_⟩;rcases q with q |⟨k,c',e,z'⟩
        · exact .inl q
        · refine .inr ⟨k,c',e,z'.sameBut hs ?_⟩;rintro rfl;exact hj (Iu hN e1 (I.ok.inj _ _ _ e hc ▸ hi))
    · by_cases hcc:c'=c
      · subst hcc;exact⟨_,hc'⟩
      · obtain⟨w2,z2⟩:=I.cell y c' e;exact⟨w2,z2.sameBut hs hcc⟩
    · obtain⟨e,n,ne,nf,d⟩:=I.pin p hp;refine⟨(hs.2 p.1 ?_).trans e,n,ne,nf,d⟩;intro q;rw[q,hoc]at e;have q':oc=p.2:=xay e;exact d w' (by rw[<-q'];exact hocd)
theorem sV (I:Inv X pins σ H s)(hN:X.N.Nodup)(hi:X.N[i]? =some x)(hx:Loc X.env.scope x)(r:RelV v u)
  (h:∀s',Inv X pins (σ.set i (some v)) H s'->Q () s') (hf:X.fn x=true\/X.env.scope.names.lookup x=some .local:=by first |exact .inl rfl |exact .inr rfl |assumption):wpAny M A (storeName X.env x u) Q E s:=
 zaP I hN hi hx r (fun s' I' _=>h s' I') hf
theorem Inv.call' (I:Inv X pins σ H s)(ho:s'.os=s.os)(u:Un (frs X.stack) ch H H' s.heap s'.heap)(hok:cA X.prog X.w H' s'.heap)(hg:AllBare s'.gens)
  (hch:∀b∈ch,(b∈X.ex\/X.s₀.heap.objs.size<=b)/\b≠X.env.locals/\(∀x c,X.env.cells.lookup x=some c->c≠b)/\∀p∈X.pn ++ pins,p.1≠b):Inv X pins σ H' s':=by
 obtain⟨h',g',d',t',o'⟩:=s';have e:o'=s.os:=ho;subst e;exact I.call (g':=g') (t':=t') (d':=d') u hok hg hch
end
abbrev XK:=Value->Option Addr->Hp->Prop
abbrev St:=List (Option V)
abbrev VK:=V->Hp->Prop
abbrev TE:=St->Hp->VK->Prop
abbrev TT:=St->Hp->(Bool->Hp->Prop)->Prop
abbrev TA:=St->Hp->(List V->Hp->Prop)->Prop
structure Ends where
 nx:St->Hp->Prop
 rt:VK
 bk:St->Hp->Prop:=fun _ _=>False
 ct:St->Hp->Prop:=fun _ _=>False
abbrev TS:=Ends->St->Hp->Prop
def EP (X:Cx)(pins:Pnx)(σ:St)(Q:VK)(u:Value)(s':Shared):Prop:=∃v H',Inv X pins σ H' s'/\RelV v u/\Q v H'
def TP (X:Cx)(pins:Pnx)(σ:St)(Q:Bool->Hp->Prop)(b:Bool)(s':Shared):Prop:=∃H',Inv X pins σ H' s'/\Q b H'
def AP (X:Cx)(pins:Pnx)(σ:St)(Q:List V->Hp->Prop)(us:List Value)(s':Shared):Prop:=∃vs H',Inv X pins σ H' s'/\Vals vs us/\Q vs H'
def SP (X:Cx)(pins:Pnx)(D:Ends)(f:Flow)(s':Shared):Prop:=
 match f with
 |.next=>∃σ' H',Inv X pins σ' H' s'/\D.nx σ' H'
 |.brk=>∃σ' H',Inv X pins σ' H' s'/\D.bk σ' H'
 |.cont=>∃σ' H',Inv X pins σ' H' s'/\D.ct σ' H'
 |.ret u=>∃v σ' H',Inv X pins σ' H' s'/\RelV v u/\D.rt v H'
def PE (X:Cx)(e:Expr)(t:TE):Prop:=
 ∀(pins:Pnx) (s:Shared) (σ:St) (H:Hp) (Q:VK),Inv X pins σ H s->t σ H Q->wpAny (model X.prog X.w) X.A (eval e X.env) (EP X pins σ Q) X.xe s
def PT (X:Cx)(e:Expr)(t:TT):Prop:=
 ∀(pins:Pnx) (s:Shared) (σ:St) (H:Hp) (Q:Bool->Hp->Prop),Inv X pins σ H s->t σ H Q->wpAny (model X.prog X.w) X.A (isTrue e X.env (eval e X.env)) (TP X pins σ Q) X.xe s
def PW (X:Cx)(e:Expr)(t:TT):Prop:=
 ∀(whole:Sem Value) (pins:Pnx) (s:Shared) (σ:St) (H:Hp) (Q:Bool->Hp->Prop),Inv X pins σ H s->t σ H Q->wpAny (model X.prog X.w) X.A (isTrue e X.env whole) (TP X pins σ Q) X.xe s
theorem PW.pt (h:PW X e t):PT X e t:=h _
def PA (X:Cx)(es:List Expr)(t:TA):Prop:=
 ∀(pos:Pos) (pins:Pnx) (s:Shared) (σ:St) (H:Hp) (Q:List V->Hp->Prop),Inv X pins σ H s->t σ H Q->wpAny (model X.prog X.w) X.A (spliced (backTo pos (starEach es X.env))) (AP X pins σ Q) X.xe s
def PS (X:Cx)(st:Stmt)(t:TS):Prop:=
 ∀(pins:Pnx) (s:Shared) (σ:St) (H:Hp) (D:Ends),Inv X pins σ H s->t D σ H->wpAny (model X.prog X.w) X.A (exec st X.env) (SP X pins D) X.xe s
def eF (X:Cx)(st:List Stmt)(t:TS):Prop:=
 ∀(pins:Pnx) (s:Shared) (σ:St) (H:Hp) (D:Ends),Inv X pins σ H s->t D σ H->wpAny (model X.prog X.w) X.A (execs st X.env) (SP X pins D) X.xe s
theorem aP (h:wpAny M A t Q E s)(hQ:∀a s,Q a s->Q' a s):wpAny M A t Q' E s:=xaM h hQ fun _ _ x=>x
section
variable {X:Cx}
def Mj (i:Nat):TE:=fun σ H Q=>∃v,σ[i]? =some (some v)/\Q v H
def tC (v:V):TE:=fun _ H Q=>Q v H
theorem zW (hN:X.N[i]? =some x)(hv:wG X.env.scope x)(hd:(x==("__debug__":Str))=false:=by decide)(hcd:(x==("__classdict__":Str))=false:=by decide):PE X (.Name x pos) (Mj i):=by
 intro pins s σ H Q I h;obtain⟨v,e,h⟩:=h;obtain⟨m,hn,hl⟩:=I.loc;obtain⟨u,r,l⟩:=hl i x v hN e hv;have fin:EP X pins σ Q u s:=⟨v,H,I,r,h⟩;rcases l with⟨hk,hm⟩ |⟨hk,c,hc,hcell⟩
 ·exact wpAny_Name (wpAny_loadName_local I.ok.kind hk hn hm fin) hd
 ·rcases hk with hk |hk
  ·exact wpAny_Name (wpAny_loadName_cell I.ok.kind hk hc hcell fin) hd
  ·exact wpAny_Name (wpAny_loadName_free I.ok.kind hk hc hcell fin hcd) hd
theorem Z0 {i j pos}:PE X (.Constant (.int i) j pos) (tC (.int i)):=fun _ _ _ H _ I h=>wpAny_Constant_int ⟨.int i,H,I.tok _,⟨_,rfl⟩,h⟩
theorem ZM {b j pos}:PE X (.Constant (.bool b) j pos) (tC (.bl b)):=fun _ _ _ H _ I h=>Constant_bool ⟨.bl b,H,I,rfl,h⟩
theorem zcZ {x j pos}:PE X (.Constant (.str x) j pos) (tC (.str x)):=fun _ _ _ H _ I h=>Calls.Constant_str ⟨.str x,H,I.tok _,⟨_,rfl⟩,h⟩
def Gl (X:Cx)(x:Str):Prop:=X.env.kindOf x=some .globalImplicit
theorem rR (I:Inv X pins σ H s)(hg:Gl X x)(hm:X.mg x=some u)(h:Q u s)
  (hd:(x==("__debug__":Str))=false:=by decide):wpAny (model X.prog X.w) X.A (eval (.Name x pos) X.env) Q E s:=
 xcM I.ok.kind hg (Calls.loadGlobal_global (by rw[I.ok.glob];exact I.mod.glob.keeps I.bk) hm h) hd
theorem w5 (I:Inv X pins σ H s)(hg:Gl X x)(hm:X.mg x=none)(hv:bootBuiltins x=some u)(h:Q u s)
  (hn:x≠"__name__":=by decide) (hd:(x==("__debug__":Str))=false:=by decide):wpAny (model X.prog X.w) X.A (eval (.Name x pos) X.env) Q E s:=by
 obtain⟨mb,h1,h2⟩:=I.mod.blt;exact xcM I.ok.kind hg (Calls.loadGlobal_builtin (by rw[I.ok.glob];exact I.mod.glob.keeps I.bk) hm (by rw[I.ok.blt];exact h1.keeps I.bk) ((h2 x hn).trans hv) h) hd
theorem xG (hg:Gl X x)(hm:X.mg x=some u)(r:RelV v u)(hd:(x==("__debug__":Str))=false:=by decide):PE X (.Name x pos) (tC v):=
 fun _ _ _ H _ I h=>rR I hg hm ⟨v,H,I,r,h⟩ hd
theorem Rf (hg:Gl X x)(hm:X.mg x=none)(hv:bootBuiltins x=some u)(r:RelV v u)(hn:x≠"__name__":=by decide)(hd:(x==("__debug__":Str))=false:=by decide):PE X (.Name x pos) (tC v):=
 fun _ _ _ H _ I h=>w5 I hg hm hv ⟨v,H,I,r,h⟩ hn hd
variable {a b:Expr}{ta tb:TE}{pos:Pos}
def PC (X:Cx)(op:CmpOp)(a b:Expr)(t:TE):Prop:=
 ∀(pins:Pnx) (s:Shared) (σ:St) (H:Hp) (Q:VK),Inv X pins σ H s->t σ H Q->
  wpAny (model X.prog X.w) X.A (eval a X.env) (fun v s₁=>wpAny (model X.prog X.w) X.A (eval b X.env) (fun u s₂=>wpAny (model X.prog X.w) X.A (compareOp op v u) (EP X pins σ Q) X.xe s₂) X.xe s₁) X.xe s
def tB (t:TE):TT:=fun σ H Q=>t σ H fun x H1=>∃c,x=.bl c/\Q c H1
theorem zdl (h:PC X op a b t)(h1:behindInMarks op b=false:=by first |exact nobehind _ (by decide) (by decide) |rfl):PT X (.Compare a [op] [b] pos) (tB t):=by
 intro pins s σ H Q I hw;refine wpAny_isTrue_Compare1 (aP (h pins s σ H _ I hw) fun v s1 h1=>aP h1 fun u s2 h2=>aP h2 fun c s3 ⟨x,H1,I1,r1,q1⟩=>?_) h1;obtain⟨d,rfl,q⟩:=q1;cases r1;exact xbD ⟨H1,I1,q⟩
variable {tA tB':TT}{rest:List Expr}
noncomputable def Ls (t u:TT):TT:=fun σ H Q=>t σ H fun c H1=>if c=true then u σ H1 Q else Q false H1
noncomputable def tOr (t u:TT):TT:=fun σ H Q=>t σ H fun c H1=>if c=true then Q true H1 else u σ H1 Q
def Mg (t:TT):TT:=fun σ H Q=>t σ H fun c H1=>Q (!c) H1
theorem zb3 (ha:PT X a tA):PW X (.BoolOp .And [a] pos) tA:=by
 intro wh pins s σ H Q I h;refine isTrue_and (aP (ha pins s σ H Q I h) fun c s1 e=>?_)
 cases c with
 |true=>exact isTrue_and_nil e
 |false=>exact e
theorem zc4 (ha:PT X a tA):PW X (.BoolOp .Or [a] pos) tA:=by
 intro wh pins s σ H Q I h;refine isTrue_or (aP (ha pins s σ H Q I h) fun c s1 e=>?_)
 cases c with
 |false=>exact isTrue_or_nil e
 |true=>exact e
theorem zdd (ha:PT X a tA)(hb:PW X (.BoolOp .And (b::rest) pos) tB'):PW X (.BoolOp .And (a::b::rest) pos) (Ls tA tB'):=by
 intro wh pins s σ H Q I h;refine isTrue_and (aP (ha pins s σ H _ I h) fun c s1 ⟨H1,I1,q1⟩=>?_)
 cases c with
 |true=>exact hb wh pins s1 σ H1 Q I1 q1
 |false=>exact⟨H1,I1,q1⟩
theorem zdJ (ha:PT X a tA)(hb:PW X (.BoolOp .Or (b::rest) pos) tB'):PW X (.BoolOp .Or (a::b::rest) pos) (tOr tA tB'):=by
 intro wh pins s σ H Q I h;refine isTrue_or (aP (ha pins s σ H _ I h) fun c s1 ⟨H1,I1,q1⟩=>?_)
 cases c with
 |true=>exact⟨H1,I1,q1⟩
 |false=>exact hb wh pins s1 σ H1 Q I1 q1
theorem zc5 (ha:PT X a tA):PT X (.UnaryOp .Not a pos) (Mg tA):=by
 intro pins s σ H Q I h;exact isTrue_not (ha pins s σ H (fun c H1=>Q (!c) H1) I h)
noncomputable def zez (ta tb:TE):TE:=fun σ H Q=>ta σ H fun x H1=>∃c,x=.bl c/\if c=true then tb σ H1 Q else Q (.bl false) H1
noncomputable def Mh (ta tb:TE):TE:=fun σ H Q=>ta σ H fun x H1=>∃c,x=.bl c/\if c=true then Q (.bl true) H1 else tb σ H1 Q
theorem Z_ {op}(h:PE X a t):PE X (.BoolOp op [a] pos) t:=fun pins s σ H Q I hw=>BoolOp_one (h pins s σ H Q I hw)
theorem ZL (ha:PE X a ta)(hb:PE X (.BoolOp .And (b::rest) pos) tb):PE X (.BoolOp .And (a::b::rest) pos) (zez ta tb):=by
 intro pins s σ H Q I h;refine BoolOp_and (aP (ha pins s σ H _ I h) fun v s1 ⟨x,H1,I1,r1,q1⟩=>?_);obtain⟨c,rfl,q1⟩:=q1;cases r1;refine xbD ?_
 cases c with
 |true=>exact hb pins s1 σ H1 Q I1 q1
 |false=>exact⟨.bl false,H1,I1,rfl,q1⟩
theorem zd1 (ha:PE X a ta)(hb:PE X (.BoolOp .Or (b::rest) pos) tb):PE X (.BoolOp .Or (a::b::rest) pos) (Mh ta tb):=by
 intro pins s σ H Q I h;refine BoolOp_or (aP (ha pins s σ H _ I h) fun v s1 ⟨x,H1,I1,r1,q1⟩=>?_);obtain⟨c,rfl,q1⟩:=q1;cases r1;refine xbD ?_
 cases c with
 |false=>exact hb pins s1 σ H1 Q I1 q1
 |true=>exact⟨.bl true,H1,I1,rfl,q1⟩
noncomputable def tIf (t:TT) (ta tb:TE):TE:=fun σ H Q=>t σ H fun c H1=>if c=true then ta σ H1 Q else tb σ H1 Q
theorem ZX (hc:PT X c tA)(ha:PE X a ta)(hb:PE X b tb):PE X (.IfExp c a b pos) (tIf tA ta tb):=by
 intro pins s σ H Q I h;refine wpAny_IfExp (aP (hc pins s σ H _ I h) fun d s1 ⟨H1,I1,q1⟩=>?_)
 cases d with
 |true=>exact ha pins s1 σ H1 Q I1 q1
 |false=>exact hb pins s1 σ H1 Q I1 q1
end
def bI (K:Fgx)(H:Hp)(a:Addr)(xs:List V):Prop:=
 Rd H a (.lst xs)\/
  ∃(o:Obj) (its:Array Value) (n:Nat),K.lookup a=some o/\o.cls=.type "list"/\o.dict=none/\o.data=.seq its n/\its.size<=sizeLine/\Vals xs its.toList
def dZ (K:Fgx)(H:Hp)(a:Addr)(xs:List V):Prop:=
 Rd H a (.tup xs)\/
  ∃(o:Obj) (its:Array Value) (n:Nat),K.lookup a=some o/\o.cls=.type "tuple"/\o.data=.seq its n/\its.size<=sizeLine/\Vals xs its.toList
noncomputable def FP:Value->Option V
 |.none=>some .non
 |.bool b=>some (.bl b)
 |.int i _=>some (.int i)
 |.str x _=>some (.str x)
 |.bytes b _=>some (.byt b)
 |.float b _=>some (.flt b)
 |.ref a=>some (.ref a)
 |.type n=>some (.ty n)
 |_=>none
theorem RelV.abs (r:RelV x u):FP u=some x:=by
 cases x with
 |non=>cases r;rfl
 |bl _=>cases r;rfl
 |int _=>obtain⟨t,rfl⟩:=r;rfl
 |str _=>obtain⟨t,rfl⟩:=r;rfl
 |byt _=>obtain⟨t,rfl⟩:=r;rfl
 |flt _=>obtain⟨t,rfl⟩:=r;rfl
 |ref _=>cases r;rfl
 |ty _=>cases r;rfl
theorem RelV.inj (r:RelV x u)(q:RelV y u):x=y:=xay (r.abs.symm.trans q.abs)
theorem Vals.inj:∀{xs ys:List V} {us:List Value},Vals xs us->Vals ys us->xs=ys
 |_,_,_,.nil,.nil=>rfl
 |_,_,_,.cons r t,.cons r' t'=>by rw[r.inj r',Vals.inj t t']
section
variable {X:Cx}{pins:Pnx}{σ:St}{H:Hp}{s:Shared}{a:Addr}{xs ys:List V}
theorem Inv.list (I:Inv X pins σ H s)(h:bI X.K H a xs):∃its:List Value,Vals xs its/\PlainL s.heap a its.toArray/\xs.length<=sizeLine:=by
 rcases h with h |⟨o,its,n,hk,hc,hd,hs,hz,r⟩
 ·obtain⟨z,its,n,r,e⟩:=h.ok I.hok;exact⟨its,r,⟨_,n,e,rfl,rfl,rfl⟩,z⟩
 ·refine⟨its.toList,r,⟨o,n,I.kIn a o hk,hc,hd,by simpa using hs⟩,?_⟩;have e:=r.length;simp only[xb3]at e;omega
theorem Inv.tuple (I:Inv X pins σ H s)(h:dZ X.K H a xs):∃its:List Value,Vals xs its/\IsTup s.heap a its.toArray/\xs.length<=sizeLine:=by
 rcases h with h |⟨o,its,n,hk,hc,hs,hz,r⟩
 ·obtain⟨z,its,r,p⟩:=h.ok I.hok;exact⟨its,r,p,z⟩
 ·refine⟨its.toList,r,⟨o,I.kIn a o hk,hc,n,by simpa using hs⟩,?_⟩;have e:=r.length;simp only[xb3]at e;omega
theorem Inv.list_inj (I:Inv X pins σ H s)(h:bI X.K H a xs)(h':bI X.K H a ys):xs=ys:=by
 obtain⟨its,r,⟨o,n,e,_,_,d⟩,_⟩:=I.list h;obtain⟨its',r',⟨o',n',e',_,_,d'⟩,_⟩:=I.list h';rw[e]at e';cases e';rw[d]at d'
 injection d' with d1 _
 have:its=its':=by simpa using congrArg Array.toList d1
 subst this;exact r.inj r'
theorem Inv.tuple_inj (I:Inv X pins σ H s)(h:dZ X.K H a xs)(h':dZ X.K H a ys):xs=ys:=by
 obtain⟨its,r,⟨o,e,_,n,d⟩,_⟩:=I.tuple h;obtain⟨its',r',⟨o',e',_,n',d'⟩,_⟩:=I.tuple h';rw[e]at e';cases e';rw[d]at d'
 injection d' with d1 _
 have:its=its':=by simpa using congrArg Array.toList d1
 subst this;exact r.inj r'
end
abbrev Cx.wish (X:Cx)(E:Value->Shared->Prop):Cx:={X with xe:=E}
abbrev Cx.nox (X:Cx):Cx:=X.wish fun _ _=>False
theorem Cx.Ok.wish {X:Cx}(ok:X.Ok)(E:Value->Shared->Prop):(X.wish E).Ok:=
 ⟨ok.mod,ok.kind,ok.glob,ok.blt,ok.above,ok.inj,ok.has,ok.cab,ok.hd,ok.frames,ok.stk,ok.exf,ok.bs,ok.bsz,ok.noex,ok.exfs,ok.funs,ok.frf⟩
theorem Cx.Ok.unwish {X:Cx}{E:Value->Shared->Prop}(ok:(X.wish E).Ok):X.Ok:=
 ⟨ok.mod,ok.kind,ok.glob,ok.blt,ok.above,ok.inj,ok.has,ok.cab,ok.hd,ok.frames,ok.stk,ok.exf,ok.bs,ok.bsz,ok.noex,ok.exfs,ok.funs,ok.frf⟩
section
variable {X:Cx}{pins:Pnx}{σ:St}{H:Hp}{s:Shared}{E:Value->Shared->Prop}
theorem Inv.wish (I:Inv X pins σ H s)(E:Value->Shared->Prop):Inv (X.wish E) pins σ H s:=⟨I.ok.wish E,I.os,I.bare,I.base,I.loc,I.cell,I.free,I.freeC,I.pin,I.hok,I.len⟩
theorem Inv.unwish (I:Inv (X.wish E) pins σ H s):Inv X pins σ H s:=⟨I.ok.unwish,I.os,I.bare,I.base,I.loc,I.cell,I.free,I.freeC,I.pin,I.hok,I.len⟩
theorem SP.unwish (h:SP (X.wish E) pins D f s'):SP X pins D f s':=by
 cases f with
 |next=>obtain⟨σ',H',I,q⟩:=h;exact⟨σ',H',I.unwish,q⟩
 |brk=>obtain⟨σ',H',I,q⟩:=h;exact⟨σ',H',I.unwish,q⟩
 |cont=>obtain⟨σ',H',I,q⟩:=h;exact⟨σ',H',I.unwish,q⟩
 |ret u=>obtain⟨v,σ',H',I,r,q⟩:=h;exact⟨v,σ',H',I.unwish,r,q⟩
theorem eF.nox {st:List Stmt}{t:TS}(h:eF X.nox st t):eF X st t:=fun pins s σ H D I hw=>
 xaM (h pins s σ H D (I.wish _) hw) (fun _ _ q=>q.unwish) fun _ _ z=>False.elim z
end
section
variable {X:Cx}{st:Stmt}{rest:List Stmt}{t u:TS}{e:Expr}{te:TE}{pos:Pos}
def zeM:TS:=fun D σ H=>D.nx σ H
def Bb (t u:TS):TS:=fun D σ H=>t {D with nx:=u D} σ H
theorem zb6:eF X [] zeM:=fun _ _ σ H _ I h=>xb4 ⟨σ,H,I,h⟩
theorem zbg (h1:PS X st t)(h2:eF X rest u):eF X (st::rest) (Bb t u):=by
  intro pins s σ H D I h;refine xbV (aP (h1 pins s σ H {D with nx:=u D} I h) fun f s1 q=>?_)
  cases f with
  |next=>
    obtain⟨σ',H',I',q⟩:=q;exact h2 pins s1 σ' H' D I' q
  |ret v=>exact q
  |brk=>exact q
  |cont=>exact q
theorem zbH (h1:PS X st t):eF X [st] t:=by
 intro pins s σ H D I h;refine xbV (aP (h1 pins s σ H D I h) fun f s1 q=>?_)
 cases f with
 |next=>exact xb4 q
 |ret v=>exact q
 |brk=>exact q
 |cont=>exact q
theorem Inv.quiet (I:Inv X pins σ H s):interactive X.env=false:=by simp[interactive,I.ok.kind]
def zdU (te:TE):TS:=fun D σ H=>te σ H fun _ H1=>D.nx σ H1
theorem z6 (he:PE X e te)(hs:swapsWith e none pos.line X.env=pure false:=by rfl):PS X (.Expr e pos) (zdU te):=by
 intro pins s σ H D I h;exact wpAny_Expr_any (aP (he pins s σ H _ I h) fun v s1 ⟨x,H1,I1,r1,q1⟩=>⟨σ,H1,I1,q1⟩) I.quiet hs
def Mi (te:TE):TS:=fun D σ H=>te σ H D.rt
theorem zcV (he:PE X e te):PS X (.Return (some e) pos) (Mi te):=by
 intro pins s σ H D I h;exact wpAny_Return_some (aP (he pins s σ H _ I h) fun v s1 ⟨x,H1,I1,r1,q1⟩=>⟨x,σ,H1,I1,r1,q1⟩)
noncomputable def L_ (c:TT) (t u:TS):TS:=fun D σ H=>c σ H fun b H1=>if b=true then t D σ H1 else u D σ H1
theorem Rq (hc:PT X c tc)(ha:eF X a t)(hb:eF X b u):PS X (.If c a b pos) (L_ tc t u):=by
 intro pins s σ H D I h;refine wpAny_If (aP (hc pins s σ H _ I h) fun d s1 ⟨H1,I1,q1⟩=>?_)
 cases d with
 |true=>exact ha pins s1 σ H1 D I1 q1
 |false=>exact hb pins s1 σ H1 D I1 q1
end
abbrev TG:=V->St->Hp->(St->Hp->Prop)->Prop
def PG (X:Cx)(target:Expr)(t:TG):Prop:=
 ∀(pins:Pnx) (s:Shared) (σ:St) (H:Hp) (v:V) (u:Value) (Q:St->Hp->Prop),Inv X pins σ H s->RelV v u->t v σ H Q->
  wpAny (model X.prog X.w) X.A (assign target X.env u) (fun _ s'=>∃σ' H',Inv X pins σ' H' s'/\Q σ' H') X.xe s
section
variable {X:Cx}{pos:Pos}
def Cj (i:Nat):TG:=fun v σ H Q=>Q (σ.set i (some v)) H
theorem Rj (hN:X.N.Nodup)(hi:X.N[i]? =some x)(hx:Loc X.env.scope x)(hf:X.fn x=true\/X.env.scope.names.lookup x=some .local:=by first |exact .inl rfl |exact .inr rfl |assumption):PG X (.Name x pos) (Cj i):=by
 intro pins s σ H v u Q I r h;exact xcO (sV I hN hi hx r (fun s' I'=>⟨_,H,I',h⟩) hf)
noncomputable def Lx (te:TE) (g:TG):TS:=fun D σ H=>te σ H fun x H1=>g x σ H1 D.nx
theorem Rr (hN:X.N.Nodup)(hi:X.N[i]? =some x)(hx:Loc X.env.scope x)(he:PE X e te)(hs:swapsWith e (some (.Name x pos')) pos.line X.env=pure false:=by rfl)(hf:X.fn x=true\/X.env.scope.names.lookup x=some .local:=by first |exact .inl rfl |exact .inr rfl |assumption):
  PS X (.Assign [.Name x pos'] e pos) (Lx te (Cj i)):=by
 intro pins s σ H D I h;refine wpAny_Assign_Name (aP (he pins s σ H _ I h) fun v s1 ⟨y,H1,I1,r1,q1⟩=>?_) hs;exact sV I1 hN hi hx r1 (fun s2 I2=>⟨_,H1,I2,q1⟩) hf
end
section
variable {X:Cx}{pos:Pos}
noncomputable def Ux (c:TT) (tb:TS):TS:=fun D σ H=>∃W:Nat->St->Hp->Prop,(∃m,W m σ H)/\∀m σ H,W m σ H->
 c σ H fun b H1=>if b=true then ∃N:St->Hp->Prop,(∀σ' H',N σ' H'->∃m',m'<m/\W m' σ' H')/\tb {D with nx:=N,ct:=N,bk:=D.nx} σ H1 else D.nx σ H1
theorem za8 (hp:PassesOwn (model X.prog X.w) X.A X.env X.xe)(hc:PT X c tc)(hb:eF X body tb):PS X (.While c body [] pos) (Ux tc tb):=by
  intro pins s σ H D I h;obtain⟨W,⟨m0,w0⟩,turn⟩:=h;refine wpAny_While (codeAny_whileLoop (fun n s'=>∃σ' H',Inv X pins σ' H' s'/\W n σ' H') ?_ m0 ⟨σ,H,I,w0⟩);rintro n s1 ⟨σ1,H1,I1,w1⟩;refine xbw hp (aP (hc pins s1 σ1 H1 _ I1 (turn n σ1 H1 w1)) fun b s2 ⟨H2,I2,q2⟩=>?_)
  cases b with
  |true=>
    obtain⟨N,hN,q2⟩:=q2;rw[xab rfl];refine xbw hp (aP (hb pins s2 σ1 H2 _ I2 q2) fun f s3 q3=>?_)
    cases f with
    |next=>
      obtain⟨σ3,H3,I3,n3⟩:=q3;obtain⟨m',hm,w3⟩:=hN σ3 H3 n3;exact⟨m',hm,σ3,H3,I3,w3⟩
    |cont=>
      obtain⟨σ3,H3,I3,n3⟩:=q3;obtain⟨m',hm,w3⟩:=hN σ3 H3 n3;exact⟨m',hm,σ3,H3,I3,w3⟩
    |brk=>exact q3
    |ret v=>exact q3
  |false=>
    rw[xaf xat];exact xb4 ⟨σ1,H2,I2,q2⟩
end
structure It where
 go:Nat->Hp->Prop
 yld:Nat->Hp->V->Hp->Prop
 stop:Nat->Hp->Prop
def dO (X:Cx)(pins:Pnx)(H:Hp)(b:Addr):Prop:=
 H b=none/\b≠X.env.locals/\b∉X.fs/\(b∈X.ex\/X.s₀.heap.objs.size<=b)/\(∀x c,X.env.cells.lookup x=some c->c≠b)/\∀p∈X.pn ++ pins,p.1≠b
theorem Inv.fpOk (I:Inv X pins σ H s)(hb:s.heap.objs.size<=b)(hn:H' b=none):dO X pins H' b:=by
 refine⟨hn,xcT (xag I.lt hb),I.nofs hb,.inr (xaB I.sz hb),fun x c e z=>?_,fun p hp z=>?_⟩
 ·obtain⟨v,q⟩:=I.cell x c e;exact absurd (xag q.lt (by rw[z];exact hb)) (xa0 _)
 ·exact absurd (xag (xaq (I.pin p hp).1) (by rw[z];exact hb)) (xa0 _)
structure Turn (P:Program)(w:World)(K:Fgx)(tg:Expr)(J:It)(fp:List Addr)(it:Addr)(tn:Nat->Heap->Prop):Prop where
 mem:it∈fp
 obj:∀i h,tn i h->∀b∈fp,∃o,h.get? b=some o/\∀v,o.data≠ .cell v
 keep:∀i h h',tn i h->(∀b∈fp,∀o,h.get? b=some o->h'.get? b=some o)->tn i h'
 item:∀(X:Cx),X.prog=P->X.w=w->X.K=K->X.calm=true->∀(i:Nat) (pins:Pnx) (s:Shared) (σ:St) (H:Hp) (E:Value->Shared->Prop),Inv X pins σ H s->(∀b∈fp,dO X pins H b)->tn i s.heap->J.go i H->
  wpAny (model P w) X.A (pyNext (.ref it)) (fun r s1=>∃u,r=some u/\
   wpAny (model P w) X.A (letOwnedTupleGo tg (.ref it) u) (fun _ s2=>∃x H',Inv X pins σ H' s2/\RelV x u/\J.yld i H x H'/\tn (i + 1) s2.heap/\∀b∈fp,H' b=none) E s1) E s
 done:∀(X:Cx),X.prog=P->X.w=w->X.K=K->X.calm=true->∀(i:Nat) (pins:Pnx) (s:Shared) (σ:St) (H:Hp) (E:Value->Shared->Prop),Inv X pins σ H s->(∀b∈fp,dO X pins H b)->tn i s.heap->J.stop i H->
  wpAny (model P w) X.A (pyNext (.ref it)) (fun r s1=>r=none/\Inv X pins σ H s1) E s
 self:∀(A:Around) (i:Nat) (s:Shared) (Q:Value->Shared->Prop) (E:Value->Shared->Prop),tn i s.heap->Q (.ref it) s->wpAny (model P w) A (pyIter (.ref it)) Q E s
abbrev TI:=St->Hp->(It->Hp->Prop)->Prop
def PIE (X:Cx)(pins:Pnx)(σ:St)(tg:Expr)(R:It->Hp->Prop)(itv:Value)(s2:Shared):Prop:=
 ∃(it:Addr) (fp:List Addr) (tn:Nat->Heap->Prop) (J:It) (H':Hp),itv=.ref it/\Inv X pins σ H' s2/\Turn X.prog X.w X.K tg J fp it tn/\tn 0 s2.heap/\(∀b∈fp,dO X pins H' b)/\R J H'
def PI (X:Cx)(tg iter:Expr)(wi:TI):Prop:=
 ∀(pins:Pnx) (s:Shared) (σ:St) (H:Hp) (R:It->Hp->Prop),Inv X pins σ H s->wi σ H R->
  wpAny (model X.prog X.w) X.A (eval iter X.env) (fun v s1=>wpAny (model X.prog X.w) X.A (pyIter v) (PIE X pins σ tg R) X.xe s1) X.xe s
theorem t_ {M:Model}{A:Around}{E:Value->Shared->Prop}{s:Shared}{tg:Expr}{it:Addr}{u:Value}{o:Obj}{n:String}{vs:Array Value}{Q:Unit->Shared->Prop}(ho:s.heap.get? it=some o)(hc:o.cls=.type n)(hd:o.data=.fields vs)
    (hn:["enumerate","zip","dict_itemiterator","dict_reverseitemiterator","odict_iterator","itertools.zip_longest","itertools.pairwise"].contains n=false) (hQ:Q () s):wpAny M A (letOwnedTupleGo tg (.ref it) u) Q E s:=by
  unfold letOwnedTupleGo;cases tg<;>first
    |exact xaj hQ
    | (cases u<;>first
        |exact xaj hQ
        | (refine tG (wpAny_load ho ?_)
           rw[hc,hd];show wpAny M A (if (["enumerate","zip","dict_itemiterator","dict_reverseitemiterator","odict_iterator","itertools.zip_longest","itertools.pairwise"].contains n && vs[0]? ==some (rawInt _))=true then _ else _) Q E s
           rw[xaf (by intro h;rw[hn,Bool.false_and]at h;cases h)];exact xaj hQ))
noncomputable def M6 (K:Fgx) (a:Addr):It:=
 ⟨fun i H=>∃xs x,bI K H a xs/\xs[i]? =some x,fun i H x H'=>H'=H/\∀xs,bI K H a xs->xs[i]? =some x,fun i H=>∃xs,bI K H a xs/\xs.length<=i⟩
noncomputable def Bl (lo:Int) (n:Nat):It:=⟨fun i _=>i<n,fun i H x H'=>H'=H/\x=.int (lo + i),fun i _=>n<=i⟩
theorem zaQ {P:Program}{w:World}{K:Fgx}{tg:Expr}(a it:Addr):Turn P w K tg (M6 K a) [it] it (fun i h=>h.IsListIter it a i) where
 mem:=by simp
 obj:=fun i h st b hb=>by
  have e:b=it:=by simpa using hb
  subst e;obtain⟨o,e,c,d⟩:=st;exact⟨o,e,fun v z=>by rw[d]at z;cases z⟩
 keep:=fun i h h' st k=>st.at fun o e=>k it (by simp) o e
 item:=by
  intro X hP hw hK hc i pins s σ H E I hf st hg;subst hP hw hK;obtain⟨xs,x,hq,hx⟩:=hg;obtain⟨its,rv,p,hz⟩:=I.list hq;obtain⟨u,hu,ru⟩:=rv.get hx;obtain⟨f0,f1,f2,f3,f4,f5⟩:=hf it (by simp);refine wpAny_pyNext_list_item st p.isList (x:=u) (by simpa using hu) fun h' st' sb=>?_;have I1:Inv X pins σ H {s with heap:=h'}:=I.turned (t':=s.toks) (fun b o hb e=>(sb.2 b hb).trans e) f0 f1 f3 f4 f5;obtain⟨o,e,c,d⟩:=id st';exact⟨u,rfl,t_ (s:={s with heap:=h'}) e c d (by decide) ⟨x,H,I1,ru,⟨rfl,fun ys hy=>by rw[I.list_inj hy hq];exact hx⟩,st',fun b hb=>(hf b hb).1⟩⟩
 done:=by
  intro X hP hw hK hc i pins s σ H E I hf st hg;subst hP hw hK;obtain⟨xs,hq,hx⟩:=hg;obtain⟨its,rv,p,hz⟩:=I.list hq;obtain⟨f0,f1,f2,f3,f4,f5⟩:=hf it (by simp);have hl:=rv.length;exact wpAny_pyNext_list_end (I.ok.hd hc) st p.isList (by simp;omega) fun h' eb=>⟨rfl,I.turned (t':=s.toks) (fun b o hb e=>eb b o hb e) f0 f1 f3 f4 f5⟩
 self:=fun _ _ _ _ _ st h=>wpAny_pyIter_listiter st h
theorem zaz {P:Program}{w:World}{K:Fgx}{tg:Expr}(it:Addr)(lo:Int)(n:Nat):Turn P w K tg (Bl lo n) [it] it (fun i h=>IsRangeIter h it (lo + (i:Nat) * 1) ((n:Int) - (i:Nat)) 1) where
 mem:=by simp
 obj:=fun i h st b hb=>by
  have e:b=it:=by simpa using hb
  subst e;exact ⟨_,st,fun v z=>by
   have z':Data.fields _=Data.cell v:=z;cases z'⟩
 keep:=fun i h h' st k=>k it (by simp) _ st
 item:=by
  intro X hP hw hK hc i pins s σ H E I hf st hg;subst hP hw hK;obtain⟨f0,f1,f2,f3,f4,f5⟩:=hf it (by simp);have W:=Walks.range (prog:=X.prog) (w:=X.w) (I.ok.hd hc) it lo 1 n;refine W.item i s _ _ hg st fun v h' tk hv st' kk=>?_;obtain⟨t,rfl⟩:=hv;have I1:Inv X pins σ H {s with heap:=h',toks:=tk}:=I.turned (fun b o hb e=>kk b o (by simpa using hb) e) f0 f1 f3 f4 f5;refine⟨_,rfl,t_ (s:={s with heap:=h',toks:=tk}) (n:="range_iterator") st' rfl rfl (by decide) ⟨.int (lo + i),H,I1,⟨t,?_⟩,⟨rfl,rfl⟩,st',fun b hb=>(hf b hb).1⟩⟩;rw[Int.mul_one]
 done:=by
  intro X hP hw hK hc i pins s σ H E I hf st hg;subst hP hw hK;obtain⟨f0,f1,f2,f3,f4,f5⟩:=hf it (by simp);exact wpAny_pyNext_range_end (I.ok.hd hc) st (by have:n<=i:=hg;omega) fun h' eb=>⟨rfl,I.turned (t':=s.toks) (fun b o hb e=>eb b o hb e) f0 f1 f3 f4 f5⟩
 self:=fun _ _ _ _ _ st h=>wpAny_pyIter_rangeiter st h
section
variable {X:Cx}{tg:Expr}
noncomputable def Pj (K:Fgx) (tl:TE):TI:=fun σ H R=>tl σ H fun x H1=>∃a,x=.ref a/\(∃xs,bI K H1 a xs)/\R (M6 K a) H1
theorem Rk {l:Expr}{tl:TE}(hl:PE X l tl):PI X tg l (Pj X.K tl):=by
 intro pins s σ H R I h;refine aP (hl pins s σ H _ I h) fun v s1 ⟨x,H1,I1,r1,q1⟩=>?_;obtain⟨a,e,⟨xs,hq⟩,q⟩:=q1;subst e;cases r1;obtain⟨its,rv,p,hz⟩:=I1.list hq;refine wpAny_pyIter_list p.isList ?_;refine⟨s1.heap.objs.size,[s1.heap.objs.size],_,_,H1,rfl,I1.kept (t':=s1.toks) fun b o e=>xaa _ e,zaQ a _,⟨_,xav _ rfl,rfl,rfl⟩,fun b hb=>?_,q⟩;have e:b=s1.heap.objs.size:=by simpa using hb
 subst e;exact I1.fpOk (xai _) (I1.hok.fresh (xai _))
theorem zaZ {pins:Pnx}{σ:St}{H:Hp}{s:Shared}{R:It->Hp->Prop}{E:Value->Shared->Prop}{lo hi:Int}{t u v:Tok}{tk:Nat}(I:Inv X pins σ H s)(h1: -(2 ^ 62)<=lo)(h2:lo<2 ^ 62)(h3: -(2 ^ 62)<=hi)(h4:hi<2 ^ 62)
  (q:R (Bl lo (hi - lo).toNat) H):wpAny (model X.prog X.w) X.A (pyIter (.ref s.heap.objs.size)) (PIE X pins σ tg R) E {s with heap:=s.heap.push {cls:=.type "range",data:=.fields #[.int lo t,.int hi u,.int 1 v]},toks:=tk}:=by
 refine wpAny_pyIter_range (IsRange.new ..) (small_one h1 h2 h3 h4) ?_;have I1 : Inv X pins σ H { s with heap := s.heap.push { cls := .type "range", data := .fields #[.int lo t, .int hi u, .int 1 v] }, toks := tk } := I.kept fun b o e => xaa _ e;refine ⟨(s.heap.push {cls:=.type "range",data:=.fields #[.int lo t,.int hi u,.int 1 v]}).objs.size,[(s.heap.push {cls:=.type "range",data:=.fields #[.int lo t,.int hi u,.int 1 v]}).objs.size],_,_,H,rfl,
  I1.kept (t':=tk) fun b o e=>xaa _ e,zaz _ lo (hi - lo).toNat,?_,fun b hb=>?_,q⟩
 ·have e1:lo + ((0:Nat):Int) * 1=lo:=by simp
  have e2:(((hi - lo).toNat:Nat):Int) - ((0:Nat):Int)=Builtin.Range.rangeSize lo hi 1:=by rw[rangeSize_one];split<;>omega
  show IsRangeIter _ _ (lo + ((0:Nat):Int) * 1) ((((hi - lo).toNat:Nat):Int) - ((0:Nat):Int)) 1;rw[e1,e2];exact xav _ rfl
 ·have e:b=(s.heap.push {cls:=.type "range",data:=.fields #[.int lo t,.int hi u,.int 1 v]}).objs.size:=by simpa using hb
  subst e;exact I1.fpOk (xai _) (I1.hok.fresh (xai _))
noncomputable def ni (ta:TA):TI:=fun σ H R=>ta σ H fun vs H1=>∃j:Int,vs=[.int j]/\ -(2 ^ 62)<=j/\j<2 ^ 62/\R (Bl 0 j.toNat) H1
theorem zaS {a:Expr}{ta:TA}{p pos:Pos}(hg:Gl X "range")(hm:X.mg "range"=none)(ha:PA X [a] ta)(hs:starEach [a] X.env=[(false,eval a X.env)]:=by rfl):PI X tg (.Call (.Name "range" p) [a] [] pos) (ni ta):=by
  intro pins s σ H R I h;refine Call_ (w5 I hg hm boot_range (xbs (aP (ha pos pins s σ H _ I h) fun us s1 ⟨vs,H1,I1,r1,q1⟩=>?_) hs rfl));obtain⟨j,e,q1,q2,q⟩:=q1;subst e
  cases r1 with
  |cons r rr=>
    cases rr;obtain⟨t,rfl⟩:=r;exact call_range_1 (zaZ I1 (by omega) (by omega) q1 q2 (by simpa using q))
noncomputable def LR (wi:TI) (g:TG) (tb:TS):TS:=fun D σ H=>wi σ H fun J H1=>∃W:Nat->Nat->St->Hp->Prop,(∃m,W 0 m σ H1)/\∀i m σ H,W i m σ H->
 (J.stop i H/\D.nx σ H)\/(J.go i H/\∃N:St->Hp->Prop,(∀σ' H',N σ' H'->∃m',m'<m/\W (i + 1) m' σ' H')/\∀x H',J.yld i H x H'->g x σ H' fun σ2 H2=>tb {D with nx:=N,ct:=N,bk:=D.nx} σ2 H2)
noncomputable def zY (fp:List Addr) (h:Heap):Pnx:=fp.filterMap fun b=>(h.get? b).map fun o=>(b,o)
theorem CT (hb:b∈fp)(e:h.get? b=some o):(b,o)∈zY fp h:=xdy.mpr ⟨b,hb,by rw[e];rfl⟩
theorem Zh (hp:p∈zY fp h):p.1∈fp/\h.get? p.1=some p.2:=by
  obtain⟨b,hb,e⟩:=xdy.mp hp
  cases q:h.get? b with
  |none=>rw[q]at e;cases e
  |some o=>
    rw[q]at e;have e':(b,o)=p:=xay e;subst e';exact⟨hb,q⟩
theorem Inv.pinned (I:Inv X pins σ H s)(hf:∀b∈fp,dO X pins H b)(ho:∀b∈fp,∃o,s.heap.get? b=some o/\∀v,o.data≠ .cell v):Inv X (pins ++ zY fp s.heap) σ H s:=
 I.pins_of fun p hp=>(xa9.mp hp).elim (fun z=>I.pin p (xaz _ z)) fun z=>by
  obtain⟨hb,e⟩:=Zh z;obtain⟨f0,f1,f2,_⟩:=hf p.1 hb;obtain⟨o,e',d⟩:=ho p.1 hb;rw[e]at e';cases e';exact⟨e,f0,f1,f2,d⟩
theorem Inv.unpinned (I:Inv X (pins ++ pl) σ H s):Inv X pins σ H s:=I.pins_of fun p hp=>I.pin p (xaz _ (xbk _ hp))
theorem Rp (hp:PassesOwn (model X.prog X.w) X.A X.env X.xe)(hc:X.calm=true)(hi:PI X tg iter wi)(hg:PG X tg g)(hb:eF X body tb)
  (hs:∀x,foldedSetIterable iter X.env x=pure x:=by intro _;rfl):PS X (.For tg iter body [] pos) (LR wi g tb):=by
 intro pins s σ H D I h;refine wpAny_For (aP (hi pins s σ H _ I h) fun v s1 h1=>aP h1 fun itv s2 h2=>?_) hs;obtain⟨it,fp,tn,J,H2,e,I2,T,st2,f2,W,⟨m0,w0⟩,turn⟩:=h2;subst e
 -- what stays true of the iterator's objects through the loop
 have stat:∀{H':Hp},(∀b∈fp,H' b=none)->∀b∈fp,dO X pins H' b:=fun hn b hb=>⟨hn b hb,(f2 b hb).2⟩;refine codeAny_forLoop_any (fun n s'=>∃i σ' H',Inv X pins σ' H' s'/\tn i s'.heap/\(∀b∈fp,H' b=none)/\W i n σ' H') ?_ m0 ⟨0,σ,H2,I2,st2,fun b hb=>(f2 b hb).1,w0⟩;rintro n s3 ⟨i,σ3,H3,I3,st3,fr3,w3⟩;rcases turn i n σ3 H3 w3 with⟨stop,qn⟩ |⟨go,N,hN,step⟩
 ·refine xbw hp (aP (T.done X rfl rfl rfl hc i pins s3 σ3 H3 X.xe I3 (stat fr3) st3 stop) fun r s4 ⟨hr,I4⟩=>?_);subst hr;exact xb4 ⟨σ3,H3,I4,qn⟩
 ·refine xbw hp (aP (T.item X rfl rfl rfl hc i pins s3 σ3 H3 X.xe I3 (stat fr3) st3 go) fun r s4 ⟨u,hr,h4⟩=>?_);subst hr;refine xbw hp (aP h4 fun _ s5 ⟨x,H5,I5,r5,y5,st5,fr5⟩=>?_);have I5':=I5.pinned (stat fr5) (T.obj _ _ st5);refine xbw hp (aP (hg _ s5 σ3 H5 x u _ I5' r5 (step x H5 y5)) fun _ s6 ⟨σ6,H6,I6,q6⟩=>?_);refine xbw hp (aP (hb _ s6 σ6 H6 _ I6 q6) fun f s7 q7=>?_);have again:∀{σ7:St} {H7:Hp},Inv X (pins ++ zY fp s5.heap) σ7 H7 s7->N σ7 H7->∃m,m<n/\∃i σ' H',Inv X pins σ' H' s7/\tn i s7.heap/\(∀b∈fp,H' b=none)/\W i m σ' H':=fun {σ7 H7} I7 n7=>by
   obtain⟨m',hm,w7⟩:=hN σ7 H7 n7;refine⟨m',hm,i + 1,σ7,H7,I7.unpinned,T.keep _ _ _ st5 fun b hb o e=>(I7.pin (b,o) (xaz _ (xaz _ (CT hb e)))).1,fun b hb=>?_,w7⟩;obtain⟨o,e,d⟩:=T.obj _ _ st5 b hb;exact(I7.pin (b,o) (xaz _ (xaz _ (CT hb e)))).2.1
  cases f with
  |next=>obtain⟨σ7,H7,I7,n7⟩:=q7;exact again I7 n7
  |cont=>obtain⟨σ7,H7,I7,n7⟩:=q7;exact again I7 n7
  |brk=>obtain⟨σ7,H7,I7,q7⟩:=q7;exact⟨σ7,H7,I7.unpinned,q7⟩
  |ret v=>obtain⟨x7,σ7,H7,I7,r7,q7⟩:=q7;exact⟨x7,σ7,H7,I7.unpinned,r7,q7⟩
end
theorem MK {c:TT}{tb:TS}{D:Ends}{σ:St}{H:Hp}(Pv:St->Hp->Prop)(μ:St->Hp->Nat)(h0:Pv σ H)
  (hs:∀σ H,Pv σ H->c σ H fun b H1=>if b=true then tb {D with nx:=fun σ' H'=>Pv σ' H'/\μ σ' H'<μ σ H,ct:=fun σ' H'=>Pv σ' H'/\μ σ' H'<μ σ H,bk:=D.nx} σ H1 else D.nx σ H1)
  (mono:∀σ H Q Q',(∀b H1,Q b H1->Q' b H1)->c σ H Q->c σ H Q'):Ux c tb D σ H:=by
 refine⟨fun m σ H=>m=μ σ H/\Pv σ H,⟨_,rfl,h0⟩,?_⟩;rintro m σ H ⟨rfl,p⟩;refine mono σ H _ _ (fun b H1 q=>?_) (hs σ H p)
 cases b with
 |true=>exact⟨_,fun σ' H' ⟨p',l⟩=>⟨_,l,rfl,p'⟩,q⟩
 |false=>exact q
abbrev R2:=V->V->Hp->VK->Prop
def bQ (X:Cx)(f:Value->Value->Sem Value)(r:R2):Prop:=
 ∀(pins:Pnx) (s:Shared) (σ:St) (H:Hp) (x y:V) (v u:Value) (Q:VK),Inv X pins σ H s->RelV x v->RelV y u->r x y H Q->
  wpAny (model X.prog X.w) X.A (f v u) (EP X pins σ Q) X.xe s
def Bq (X:Cx)(f:Value->Sem Value)(r:V->Hp->VK->Prop):Prop:=
 ∀(pins:Pnx) (s:Shared) (σ:St) (H:Hp) (x:V) (v:Value) (Q:VK),Inv X pins σ H s->RelV x v->r x H Q->
  wpAny (model X.prog X.w) X.A (f v) (EP X pins σ Q) X.xe s
def dN (X:Cx)(f:Value)(r:List V->Hp->VK->Prop):Prop:=
 ∀(pins:Pnx) (s:Shared) (σ:St) (H:Hp) (xs:List V) (us:List Value) (Q:VK),Inv X pins σ H s->Vals xs us->r xs H Q->
  wpAny (model X.prog X.w) X.A (call f us) (EP X pins σ Q) X.xe s
def FN (X:Cx)(r:V->Hp->(Bool->Hp->Prop)->Prop):Prop:=
 ∀(pins:Pnx) (s:Shared) (σ:St) (H:Hp) (x:V) (v:Value) (Q:Bool->Hp->Prop),Inv X pins σ H s->RelV x v->r x H Q->
  wpAny (model X.prog X.w) X.A (truthy v) (TP X pins σ Q) X.xe s
noncomputable def yd (r:R2) (ta tb:TE):TE:=fun σ H Q=>ta σ H fun x H1=>tb σ H1 fun y H2=>r x y H2 Q
noncomputable def Uw (r:V->Hp->VK->Prop) (ta:TE):TE:=fun σ H Q=>ta σ H fun x H1=>r x H1 Q
noncomputable def rI (C:Int->Int->Prop) (g:Int->Int->V):R2:=fun x y H Q=>∃i j,x=.int i/\y=.int j/\C i j/\Q (g i j) H
noncomputable def gQ (g:Int->Int->V):R2:=fun x y H Q=>∃i j,x=.int i/\y=.int j/\Q (g i j) H
def rU (g:Int->V):V->Hp->VK->Prop:=fun x H Q=>∃i,x=.int i/\Q (g i) H
section
variable {X:Cx}{a b c:Expr}{ta tb tc:TE}{pos:Pos}
theorem tO (ha:PE X a ta)(hb:PE X b tb){pins:Pnx}{s:Shared}{σ:St}{H:Hp}{R:V->V->Hp->Prop}(I:Inv X pins σ H s)
  (h:ta σ H fun x H1=>tb σ H1 fun y H2=>R x y H2) {Q:Value->Shared->Prop} {f:Value->Value->Sem Value}
  (hf:∀v u s2 x y H2,Inv X pins σ H2 s2->RelV x v->RelV y u->R x y H2->wpAny (model X.prog X.w) X.A (f v u) Q X.xe s2):
  wpAny (model X.prog X.w) X.A (eval a X.env) (fun v s₁=>wpAny (model X.prog X.w) X.A (eval b X.env) (fun u s₂=>wpAny (model X.prog X.w) X.A (f v u) Q X.xe s₂) X.xe s₁) X.xe s:=by
 refine aP (ha pins s σ H _ I h) fun v s1 ⟨x,H1,I1,r1,q1⟩=>?_;refine aP (hb pins s1 σ H1 _ I1 q1) fun u s2 ⟨y,H2,I2,r2,q2⟩=>?_;exact hf v u s2 x y H2 I2 r1 r2 q2
theorem Ri {op:Operator}{r:R2}(ho:bQ X (binaryOp op) r)(ha:PE X a ta)(hb:PE X b tb):PE X (.BinOp a op b pos) (yd r ta tb):=by
 intro pins s σ H Q I h;exact wpAny_BinOp (tO ha hb I h fun v u s2 x y H2 I2 rx ry q=>ho pins s2 σ H2 x y v u Q I2 rx ry q)
theorem zeE (ho:Bq X (unaryOp op) r)(ha:PE X a ta):PE X (.UnaryOp op a pos) (Uw r ta):=by
 intro pins s σ H Q I h;exact UnaryOp_ (aP (ha pins s σ H _ I h) fun v s1 ⟨x,H1,I1,r1,q1⟩=>ho pins s1 σ H1 x v Q I1 r1 q1)
theorem C_ {f:Value->Value->Sem Value}{C:Int->Int->Prop}{g:Int->Int->Int}
  (rule:∀(i j:Int) (t u:Tok) (s:Shared) (Q:Value->Shared->Prop) (E:Value->Shared->Prop),C i j->Q (.int (g i j) s.toks) {s with toks:=s.toks + 1}->wpAny (model X.prog X.w) X.A (f (.int i t) (.int j u)) Q E s):
  bQ X f (rI C fun i j=>.int (g i j)):=by
 intro pins s σ H x y v u Q I rx ry h;obtain⟨i,j,rfl,rfl,hc,q⟩:=h;obtain⟨t,rfl⟩:=rx;obtain⟨t',rfl⟩:=ry;exact rule i j t t' s _ _ hc ⟨.int (g i j),H,I.tok _,⟨_,rfl⟩,q⟩
theorem zQ {f:Value->Value->Sem Value}{g:Int->Int->Int}
  (rule:∀(i j:Int) (t u:Tok) (s:Shared) (Q:Value->Shared->Prop) (E:Value->Shared->Prop),Q (.int (g i j) s.toks) {s with toks:=s.toks + 1}->wpAny (model X.prog X.w) X.A (f (.int i t) (.int j u)) Q E s):
  bQ X f (gQ fun i j=>.int (g i j)):=by
 intro pins s σ H x y v u Q I rx ry h;obtain⟨i,j,rfl,rfl,q⟩:=h;obtain⟨t,rfl⟩:=rx;obtain⟨t',rfl⟩:=ry;exact rule i j t t' s _ _ ⟨.int (g i j),H,I.tok _,⟨_,rfl⟩,q⟩
theorem pP {f:Value->Value->Sem Value}{g:Int->Int->Bool}
  (rule:∀(i j:Int) (t u:Tok) (s:Shared) (Q:Value->Shared->Prop) (E:Value->Shared->Prop),Q (.bool (g i j)) s->wpAny (model X.prog X.w) X.A (f (.int i t) (.int j u)) Q E s):
  bQ X f (gQ fun i j=>.bl (g i j)):=by
 intro pins s σ H x y v u Q I rx ry h;obtain⟨i,j,rfl,rfl,q⟩:=h;obtain⟨t,rfl⟩:=rx;obtain⟨t',rfl⟩:=ry;exact rule i j t t' s _ _ ⟨.bl (g i j),H,I,rfl,q⟩
def yp (i j:Int):Prop:=0<j/\j<1073741824
def sZ (i j:Int):Prop:=0<=j/\j<=1000000/\i.natAbs<2 ^ 64
def nR (i j:Int):Prop:=(-(2 ^ 64)<i/\i<2 ^ 64)\/(-(2 ^ 64)<j/\j<2 ^ 64)
theorem nR.ok (h:nR i j):IntMulOk i j:=by
 rcases h with⟨h1,h2⟩ |⟨h1,h2⟩
 ·exact .of_left (intBits_le_64 h1 h2)
 ·exact .of_right (intBits_le_64 h1 h2)
theorem Zi:bQ X (binaryOp .Add) (gQ fun i j=>.int (i + j)):=zQ fun _ _ _ _ _ _ _ q=>add_int q
theorem lJ:bQ X (binaryOp .Sub) (gQ fun i j=>.int (i - j)):=zQ fun _ _ _ _ _ _ _ q=>sub_int q
theorem lH:bQ X (binaryOp .FloorDiv) (rI yp fun i j=>.int (i / j)):=C_ fun i j _ _ _ _ _ hc q=>by
 have h1:(0:Int)<j:=hc.1;have h2:j<1073741824:=hc.2;exact floordiv_int (by omega) (by rw[Int.fdiv_eq_ediv_of_nonneg i (by omega)];exact q) (.inl (PyProof.noPylong_small (by omega)))
theorem cJ:bQ X (binaryOp .Mod) (rI (fun _ j=>0<j) fun i j=>.int (i % j)):=C_ fun i j _ _ _ _ _ hc q=>by
 have h1:(0:Int)<j:=hc;exact mod_int' (by omega) (by rw[Int.fmod_eq_emod_of_nonneg i (by omega)];exact q)
theorem gO:bQ X (binaryOp .Pow) (rI sZ fun i j=>.int (i ^ j.toNat)):=C_ fun _ _ _ _ _ _ _ hc q=>pow_int_small hc.1 hc.2.1 hc.2.2 q
theorem unI {f:Value->Sem Value}{g:Int->Int}
  (rule:∀(i:Int) (t:Tok) (s:Shared) (Q:Value->Shared->Prop) (E:Value->Shared->Prop),Q (.int (g i) s.toks) {s with toks:=s.toks + 1}->wpAny (model X.prog X.w) X.A (f (.int i t)) Q E s):
  Bq X f (rU fun i=>.int (g i)):=by
 intro pins s σ H x v Q I rx h;obtain⟨i,rfl,q⟩:=h;obtain⟨t,rfl⟩:=rx;exact rule i t s _ _ ⟨.int (g i),H,I.tok _,⟨_,rfl⟩,q⟩
theorem Bf:Bq X (unaryOp .USub) (rU fun i=>.int (-i)):=unI fun _ _ _ _ _ q=>neg_int q
end
noncomputable def q_:V->V->Bool
 |.non,.non=>true |.non,.int _=>true |.int _,.non=>true |.non,.bl _=>true |.bl _,.non=>true |.non,.str _=>true |.str _,.non=>true
 |.int _,.int _=>true |.bl _,.bl _=>true |.str _,.str _=>true |.byt _,.byt _=>true
 |.int _,.str _=>true |.str _,.int _=>true |.bl _,.str _=>true |.str _,.bl _=>true
 |_,_=>false
def rEq:R2:=fun x y H Q=>q_ x y=true/\Q (.bl (decide (x=y))) H
def rNe:R2:=fun x y H Q=>q_ x y=true/\Q (.bl (!decide (x=y))) H
theorem Oe:decide (V.int i=V.int j)=(i==j):=by
 rw[xaI]
 simp
theorem Cg:decide (V.bl i=V.bl j)=(i==j):=by
 rw[xaI]
 simp
theorem Og:decide (V.str i=V.str j)=(i==j):=by
 rw[xaI]
 simp
theorem Od:decide (V.byt i=V.byt j)=(i.toList==j.toList):=by
 rw[xaI];cases i;cases j
 simp
section
variable {X:Cx}{a b c:Expr}{ta tb tc:TE}{pos:Pos}
theorem bx (I:Inv X pins σ H s)(q:Q (.bl k) H)(e:k=k'):EP X pins σ Q (.bool k') s:=by
 subst e;exact⟨.bl k,H,I,rfl,q⟩
theorem Zk:bQ X (compareOp .Eq) rEq:=by
  intro pins s σ H x y v u Q I rx ry h;obtain⟨hs,q⟩:=h
  cases x with
  |non=>
    cases rx
    cases y with
    |non=>cases ry;exact PySem.EqNone.eq_none_none (bx I q (by simp))
    |bl j=>cases ry;exact PySem.EqNone.eq_none_bool (bx I q (by simp))
    |int j=>obtain⟨t',rfl⟩:=ry;exact PySem.EqNone.eq_none_int (bx I q (by simp))
    |str j=>obtain⟨t',rfl⟩:=ry;exact PySem.EqNone.eq_none_str (bx I q (by simp))
    |_=>exact absurd (show false=true from hs) xat
  |bl i=>
    cases rx
    cases y with
    |non=>cases ry;exact PySem.EqNone.eq_bool_none (bx I q (by simp))
    |bl j=>cases ry;exact eq_bool (bx I q Cg)
    |str j=>obtain⟨t',rfl⟩:=ry;exact PySem.EqMixed.eq_bool_str (bx I q (by simp))
    |_=>exact absurd (show false=true from hs) xat
  |int i=>
    obtain⟨t,rfl⟩:=rx
    cases y with
    |non=>cases ry;exact PySem.EqNone.eq_int_none (bx I q (by simp))
    |int j=>obtain⟨t',rfl⟩:=ry;exact eq_int (bx I q Oe)
    |str j=>obtain⟨t',rfl⟩:=ry;exact PySem.EqMixed.eq_int_str (bx I q (by simp))
    |_=>exact absurd (show false=true from hs) xat
  |str i=>
    obtain⟨t,rfl⟩:=rx
    cases y with
    |non=>cases ry;exact PySem.EqNone.eq_str_none (bx I q (by simp))
    |bl j=>cases ry;exact PySem.EqMixed.eq_str_bool (bx I q (by simp))
    |int j=>obtain⟨t',rfl⟩:=ry;exact PySem.EqMixed.eq_str_int (bx I q (by simp))
    |str j=>obtain⟨t',rfl⟩:=ry;exact eq_str (bx I q Og)
    |_=>exact absurd (show false=true from hs) xat
  |byt i=>
    obtain⟨t,rfl⟩:=rx
    cases y with
    |byt j=>obtain⟨t',rfl⟩:=ry;exact PySem.W.eq_bytes (bx I q Od)
    |_=>exact absurd (show false=true from hs) xat
  |_=>cases y<;>exact absurd (show false=true from hs) xat
theorem Zy:bQ X (compareOp .NotEq) rNe:=by
  intro pins s σ H x y v u Q I rx ry h;obtain⟨hs,q⟩:=h
  cases x with
  |non=>
    cases rx
    cases y with
    |non=>cases ry;exact PySem.EqNone.ne_none_none (bx I q (by simp))
    |bl j=>cases ry;exact PySem.EqNone.ne_none_bool (bx I q (by simp))
    |int j=>obtain⟨t',rfl⟩:=ry;exact PySem.EqNone.ne_none_int (bx I q (by simp))
    |str j=>obtain⟨t',rfl⟩:=ry;exact PySem.EqNone.ne_none_str (bx I q (by simp))
    |_=>exact absurd (show false=true from hs) xat
  |bl i=>
    cases rx
    cases y with
    |non=>cases ry;exact PySem.EqNone.ne_bool_none (bx I q (by simp))
    |bl j=>cases ry;exact ne_bool (bx I q (congrArg not Cg))
    |str j=>obtain⟨t',rfl⟩:=ry;exact PySem.EqMixed.ne_bool_str (bx I q (by simp))
    |_=>exact absurd (show false=true from hs) xat
  |int i=>
    obtain⟨t,rfl⟩:=rx
    cases y with
    |non=>cases ry;exact PySem.EqNone.ne_int_none (bx I q (by simp))
    |int j=>obtain⟨t',rfl⟩:=ry;exact ne_int (bx I q (congrArg not Oe))
    |str j=>obtain⟨t',rfl⟩:=ry;exact PySem.EqMixed.ne_int_str (bx I q (by simp))
    |_=>exact absurd (show false=true from hs) xat
  |str i=>
    obtain⟨t,rfl⟩:=rx
    cases y with
    |non=>cases ry;exact PySem.EqNone.ne_str_none (bx I q (by simp))
    |bl j=>cases ry;exact PySem.EqMixed.ne_str_bool (bx I q (by simp))
    |int j=>obtain⟨t',rfl⟩:=ry;exact PySem.EqMixed.ne_str_int (bx I q (by simp))
    |str j=>obtain⟨t',rfl⟩:=ry;exact ne_str (bx I q (congrArg not Og))
    |_=>exact absurd (show false=true from hs) xat
  |byt i=>
    obtain⟨t,rfl⟩:=rx
    cases y with
    |byt j=>obtain⟨t',rfl⟩:=ry;exact PySem.W.ne_bytes (bx I q (congrArg not Od))
    |_=>exact absurd (show false=true from hs) xat
  |_=>cases y<;>exact absurd (show false=true from hs) xat
theorem Zx:bQ X (compareOp .Lt) (gQ fun i j=>.bl (decide (i<j))):=pP fun _ _ _ _ _ _ _ q=>lt_int q
theorem Zw:bQ X (compareOp .LtE) (gQ fun i j=>.bl (decide (i<=j))):=pP fun _ _ _ _ _ _ _ q=>le_int q
theorem Zo:bQ X (compareOp .Gt) (gQ fun i j=>.bl (decide (j<i))):=pP fun _ _ _ _ _ _ _ q=>gt_int q
theorem Zn:bQ X (compareOp .GtE) (gQ fun i j=>.bl (decide (j<=i))):=pP fun _ _ _ _ _ _ _ q=>ge_int q
theorem Zr:bQ X (compareOp .In) (fun x y H Q=>∃i j,x=.str i/\y=.str j/\Q (.bl (!(Builtin.Str.occurrences j i 0 j.length 1).isEmpty)) H):=by
 intro pins s σ H x y v u Q I rx ry h;obtain⟨i,j,rfl,rfl,q⟩:=h;obtain⟨t,rfl⟩:=rx;obtain⟨t',rfl⟩:=ry;exact in_str (bx I q rfl)
theorem Zu:bQ X (compareOp .Is) (fun x y H Q=>y=.non/\Q (.bl (decide (x=.non))) H):=by
 intro pins s σ H x y v u Q I rx ry h;obtain⟨rfl,q⟩:=h;cases ry;refine is_none_gen (bx I q ?_);cases x<;>first
  |(cases rx;rfl)
  |(obtain⟨t,rfl⟩:=rx;rfl)
theorem ZD:bQ X (compareOp .IsNot) (fun x y H Q=>y=.non/\Q (.bl (!decide (x=.non))) H):=by
 intro pins s σ H x y v u Q I rx ry h;obtain⟨rfl,q⟩:=h;cases ry;refine isnot_none_gen (bx I q ?_);cases x<;>first
  |(cases rx;rfl)
  |(obtain⟨t,rfl⟩:=rx;rfl)
theorem ZF:bQ X (compareOp .NotIn) (fun x y H Q=>∃i j,x=.str i/\y=.str j/\Q (.bl (!(!(Builtin.Str.occurrences j i 0 j.length 1).isEmpty))) H):=by
 intro pins s σ H x y v u Q I rx ry h;obtain⟨i,j,rfl,rfl,q⟩:=h;obtain⟨t,rfl⟩:=rx;obtain⟨t',rfl⟩:=ry;exact notIn_str (bx I q rfl)
theorem bQ.or (h:bQ X f r)(h':bQ X f r'):bQ X f (fun x y H Q=>r x y H Q\/r' x y H Q):=by
 intro pins s σ H x y v u Q I rx ry q;rcases q with q |q
 ·exact h pins s σ H x y v u Q I rx ry q
 ·exact h' pins s σ H x y v u Q I rx ry q
theorem ZR {op:CmpOp}{r:R2}(ho:bQ X (compareOp op) r)(ha:PE X a ta)(hb:PE X b tb)(hm:behindInMarks op b=false):PE X (.Compare a [op] [b] pos) (yd r ta tb):=by
 intro pins s σ H Q I h;exact wpAny_Compare1 (tO ha hb I h fun v u s2 x y H2 I2 rx ry q=>ho pins s2 σ H2 x y v u Q I2 rx ry q) hm
noncomputable def Uv (t:TE):TT:=fun σ H Q=>t σ H fun x H'=>∃k,x=.bl k/\Q k H'
theorem Rt (ho:bQ X (compareOp op) r)(ha:PE X a ta)(hb:PE X b tb)(hm:behindInMarks op b=false):PT X (.Compare a [op] [b] pos) (Uv (yd r ta tb)):=by
 intro pins s σ H Q I h;refine wpAny_isTrue_Compare1 (aP (ha pins s σ H _ I h) fun v s1 ⟨x,H1,I1,r1,q1⟩=>aP (hb pins s1 σ H1 _ I1 q1) fun u s2 ⟨y,H2,I2,r2,q2⟩=>
  aP (ho pins s2 σ H2 x y v u _ I2 r1 r2 q2) fun c s3 ⟨z,H3,I3,r3,k,e,q3⟩=>?_) hm
 subst e;cases r3;exact xbD ⟨H3,I3,q3⟩
def nY (K:Fgx)(x:V)(H:Hp)(k:Bool):Prop:=
 match x with
 |.non=>k=false
 |.bl b=>k=b
 |.int i=>k=(i !=0)
 |.str y=>y.length<=sizeLine/\k=((y.length:Int) !=0)
 |.byt y=>y.size<=sizeLine/\k=((y.size:Int) !=0)
 |.ref p=>(∃xs,bI K H p xs/\k= !xs.isEmpty)\/(∃xs,dZ K H p xs/\k= !xs.isEmpty)\/∃kvs,H p=some (.dK kvs)/\k= !kvs.isEmpty
 |_=>False
theorem WT (r:KV kvs vs):(!vs.isEmpty)= !kvs.isEmpty:=by
 cases r<;>rfl
theorem Px (r:Vals xs its):(!its.toArray.isEmpty)= !xs.isEmpty:=by
 cases r<;>simp
theorem pL:(sizeLine:Nat)<2 ^ 63:=by rw[xa6];decide
theorem U0:FN X (fun x H Q=>∃k,nY X.K x H k/\Q k H):=by
  intro pins s σ H x v Q I rx h;obtain⟨k,e,q⟩:=h;have hl:=pL;have hs:sizeLine=16777216:=xa6
  cases x with
  |non=>
    cases rx;have e':k=false:=e;subst e';exact truthy_none ⟨H,I,q⟩
  |bl b=>
    cases rx;have e':k=b:=e;subst e';exact xbD ⟨H,I,q⟩
  |int i=>
    obtain⟨t,rfl⟩:=rx;have e':k=(i !=0):=e;subst e';exact PySem.P.truthy_int ⟨H,I,q⟩
  |str y=>
    obtain⟨t,rfl⟩:=rx;obtain⟨hy,e'⟩:y.length<=sizeLine/\k=((y.length:Int) !=0):=e;subst e';exact PySem.P.truthy_str (by omega) ⟨H,I.tok _,q⟩
  |byt y=>
    obtain⟨t,rfl⟩:=rx;obtain⟨hy,e'⟩:y.size<=sizeLine/\k=((y.size:Int) !=0):=e;subst e';exact PySem.W.truthy_bytes (by omega) ⟨H,I.tok _,q⟩
  |ref p=>
    cases rx;have e':(∃xs,bI X.K H p xs/\k= !xs.isEmpty)\/(∃xs,dZ X.K H p xs/\k= !xs.isEmpty)\/∃kvs,H p=some (.dK kvs)/\k= !kvs.isEmpty:=e;rcases e' with⟨xs,hx,e'⟩ |⟨xs,hx,e'⟩ |⟨kvs,hx,e'⟩
    · subst e';obtain⟨its,r,pl,hz⟩:=I.list hx;have hlen:=r.length;exact wpAny_truthy_list pl.isList (by simp only[xah];omega) ⟨H,I.tok _,by rw[Px r];exact q⟩
    · subst e';obtain⟨its,r,pl,hz⟩:=I.tuple hx;have hlen:=r.length;exact truthy_tuple pl (by simp only[xah];omega) ⟨H,I.tok _,by rw[Px r];exact q⟩
    · subst e';obtain⟨hz,hS,vs,r,m⟩:kvs.length<=sizeLine/\(p==sysModules)=false/\∃vs,KV kvs vs/\s.heap.DictOf (nA X.prog X.w) p vs:=I.hok p _ hx;have hlen:kvs.length=vs.length:=Paired.length r;exact wpAny_truthy_dict hS m (by omega) ⟨H,I.tok _,by rw[WT r];exact q⟩
  |_=>exact(show False from e).elim
theorem zbb (ha:PE X a ta)(he:∀whole,isTrue a X.env whole=(do let v <-whole;standAt a.pos;holding [v] (truthy v))):
  PT X a (fun σ H Q=>ta σ H fun x H'=>∃k,nY X.K x H' k/\Q k H'):=by
 intro pins s σ H Q I h;exact isTrue_plain (aP (ha pins s σ H _ I h) fun v s1 ⟨x,H1,I1,r1,q1⟩=>U0 pins s1 σ H1 x v Q I1 r1 q1) (he _)
theorem Zj:bQ X (binaryOp .Add) (fun x y H Q=>∃i j,x=.str i/\y=.str j/\i.length + j.length<=sizeLine/\Q (.str (i ++ j)) H):=by
 intro pins s σ H x y v u Q I rx ry h;obtain⟨i,j,rfl,rfl,hz,q⟩:=h;obtain⟨t,rfl⟩:=rx;obtain⟨t',rfl⟩:=ry;exact add_str (fun t' tk=>⟨.str (i ++ j),H,I.tok _,⟨_,rfl⟩,q⟩) hz
theorem vals1 (r:Vals [x] us):∃u,us=[u]/\RelV x u:=by
 cases r with
 |cons r1 r2=>cases r2;exact⟨_,rfl,r1⟩
theorem vals2 (r:Vals [x,y] us):∃u w',us=[u,w']/\RelV x u/\RelV y w':=by
  cases r with
  |cons r1 r2=>
    cases r2 with
    |cons r3 r4=>cases r4;exact⟨_,_,rfl,r1,r3⟩
theorem B_ (hc:X.calm=true):dN X (.builtin "max") (fun xs H Q=>∃i j,xs=[.int i,.int j]/\Q (.int (if j > i then j else i)) H):=by
 intro pins s σ H xs us Q I r h;obtain⟨i,j,rfl,q⟩:=h;obtain⟨u,w',rfl,⟨t,rfl⟩,⟨t',rfl⟩⟩:=vals2 r;refine max_two_ints (I.ok.hd hc) fun h' tk k=>⟨_,H,I.kept k,?_,q⟩
 by_cases hj:j > i
 ·rw[xab hj,xab hj];exact⟨_,rfl⟩
 ·rw[xaf hj,xaf hj];exact⟨_,rfl⟩
theorem yJ (hc:X.calm=true):dN X (.builtin "min") (fun xs H Q=>∃i j,xs=[.int i,.int j]/\Q (.int (if j<i then j else i)) H):=by
 intro pins s σ H xs us Q I r h;obtain⟨i,j,rfl,q⟩:=h;obtain⟨u,w',rfl,⟨t,rfl⟩,⟨t',rfl⟩⟩:=vals2 r;refine min_two_ints (I.ok.hd hc) fun h' tk k=>⟨_,H,I.kept k,?_,q⟩
 by_cases hj:j<i
 ·rw[xab hj,xab hj];exact⟨_,rfl⟩
 ·rw[xaf hj,xaf hj];exact⟨_,rfl⟩
theorem Nr:dN X (.type "str") (fun xs H Q=>∃i,xs=[.int i]/\i.natAbs.log2<1920/\Q (.str (toString i)) H):=by
 intro pins s σ H xs us Q I r h;obtain⟨i,rfl,hz,q⟩:=h;obtain⟨u,rfl,t,rfl⟩:=vals1 r;exact PySem.P.str_of_int hz ⟨.str _,H,I.tok _,⟨_,rfl⟩,q⟩
end
structure ObjM (h:Heap)(x dx C:Addr)(mA:Mgx):Prop where
 obj:h.get? x=some (PySem.W.instObj C dx)
 ns:h.Ns1 dx mA
 ne:dx≠x
theorem Qn {h:Heap}{dx:Addr}{mA:Mgx}(n:h.Ns1 dx mA):∃od,h.get? dx=some od/\∀name,PySem.W.lookIn name od=some (mA name):=by
 obtain⟨o,es,ep,ho,hd,hk,_,hm⟩:=n;refine⟨o,ho,fun name=>?_⟩;have e:=hm name;unfold nsFind findBy at e;rw[<-xdz]at e;unfold PySem.W.lookIn;rw[hd];dsimp only
 split
 ·rename_i y q;rw[q]at e;exact congrArg some e
 ·rename_i q;rw[q]at e;have a:es.toList.any (·.refKey)=false:=by
   rw[List.any_eq_false];intro y hy;obtain⟨z,t,hkey⟩:=hk y (Array.mem_toList_iff.mp hy)
   simp[DictEntry.refKey,hkey]
  have a':¬ es.toList.any (·.refKey)=true:=by rw[a];exact xat
  rw[xaf a'];exact congrArg some e
theorem ObjM.look (I:ObjM h x dx C mA):∃od,PySem.W.InstAt h x (PySem.W.instObj C dx) C (some od)/\∀name,PySem.W.lookIn name od=some (mA name):=
 let ⟨od,ho,hl⟩:=Qn I.ns
 ⟨od,⟨I.obj,rfl,rfl,ho⟩,hl⟩
section
variable {prog:Program}{w:World}{A:Around}{E:Value->Shared->Prop}{s:Shared}{K:Fgx}{x dx C f:Addr}{mA:Mgx}{name:Str}{v:Value}
theorem get_map (X:K.In s.heap)(I:ObjM s.heap x dx C mA)(hg:PySem.W.plainGet K C name=true)(hh:PySem.W.hasDictIn K C=true)
  (ha:PySem.W.findIn K (.ref C) name=some none) (hv:mA name=some v) (hv':PySem.W.handedIn v=true) (h:Q v {s with toks:=s.toks + 1}):
  wpAny (model prog w) A (getAttr (.ref x) name expr) Q E s:=by
 obtain⟨od,J,hl⟩:=I.look;exact PySem.W.get_value X J (xcy hg).1 (PySem.W.findObj_own hh ha rfl (by rw[hl,hv])) hv' h
theorem Wq (X:K.In s.heap)(I:ObjM s.heap x dx C mA)(hg:PySem.W.plainGet K C name=true)
  (hf:PySem.W.findIn K (.ref C) name=some (some (.ref f))) (ht:PySem.W.isFn K (.ref f)=true) (hv:mA name=none) (h:Q (.ref f,[.ref x]) s):
  wpAny (model prog w) A (getMethod (.ref x) name pl) Q E s:=by
 obtain⟨od,J,hl⟩:=I.look;exact PySem.W.method_fn X J (xcy hg).1 (xcy hg).2 hf (xaY.mp ht) (by show(PySem.W.lookIn name od).map (·.isSome)=some false;rw[hl,hv];rfl) h
theorem zbA (X:K.In s.heap)(I:ObjM s.heap x dx C mA)
  (hs:PySem.W.findIn K (.ref C) "__setattr__"=some (some (.builtin "object.__setattr__"))) (hp:PySem.W.plainOver K C=true) (ht:PySem.W.takerIn K C name=some none) (hh:PySem.W.hasDictIn K C=true)
  (hw:PySem.Within mA ns) (hsz:ns.length<=sizeLine)
  (h:∀h',ObjM h' x dx C (fun y=>if y=name then some v else mA y)->Heap.SameBut dx s.heap h'->Q () {s with heap:=h',toks:=s.toks + 2}):
  wpAny (model prog w) A (setAttr (.ref x) name v) Q E s:=by
 obtain⟨od,J,hl⟩:=I.look;refine PySem.W.set_plain X J hs (PySem.W.osa_open (s:={s with toks:=s.toks + 1}) (r:=none) X J hp ht fun b=>?_);obtain⟨cd,hc,hd'⟩:=xcU hh;have hx:s.heap.get? x=some ⟨.ref C,some dx,.plain, #[]⟩:=I.obj;refine tG (xaj (tG (tG (wpAny_loadPart hx (tG (PySem.W.Looks.here (s:={s with toks:=s.toks + 1}) (PySem.W.looks_clsIn X hc) ?_))))));rw[hd'];refine xaj (a:=some dx) (tG (xaj (tG ?_)));refine wpAny_nsSet1 (s:={s with toks:=s.toks + 1}) I.ns fun h' hn2 hs2=>?_;obtain⟨oD,esD,epD,hoD,hdD,hcD⟩:=hn2.count (PySem.Within.cons name v hw);refine tG (wpAny_lookBehind hoD (by rw[hdD];exact pastItsLine_dict (xaB hcD (by rw[xao];omega))) ?_);exact xaj (h _ ⟨(hs2.2 _ (xbh I.ne)).trans I.obj,hn2,I.ne⟩ hs2)
theorem Xy (X:K.In s.heap)(hm:PySem.W.makesIn K C=true)
  (hi:PySem.W.findIn K (.ref C) "__init__"=some (some (.ref f))) (hf:PySem.W.typeIn K (.ref f)=some (.type "function"))
  (h:codeAny (model prog w) (A.under (.builtin "type.__call__" ⟨.ref C::vs,kw⟩)) (.call (.ref f) ⟨.ref (s.heap.objs.size + 1)::vs,kw⟩) (PySem.W.InitBack (s.heap.objs.size + 1) R)
   {s with heap:=(s.heap.push PySem.W.emptyDict).push (PySem.W.instObj C s.heap.objs.size)}):
  codeAny (model prog w) A (.call (.ref C) ⟨vs,kw⟩) R s:=by
 obtain⟨hh,g,d,t,os⟩:=s;exact PySem.W.make_core (PySem.W.makes_of X hm) (xcp X hi) (fun self=>PySem.W.bind_fn X self hf) (.inl rfl) h
end
noncomputable def bB (f:Str) (v:V):List (Str×V)->List (Str×V)
 | []=>[(f,v)]
 |(g,x)::r=>if g=f then(g,v)::r else(g,x)::bB f v r
theorem Qo (f g:Str)(v:V):∀fs:List (Str×V),(bB f v fs).lookup g=if g=f then some v else fs.lookup g
  | []=>by
    show List.lookup g [(f,v)]=_
    by_cases h:g=f
    · have hb:(g==f)=true:=xaY.mpr h;simp only[List.lookup,hb,xab h]
    · have hb:(g==f)=false:=xa8.mpr h;simp only[List.lookup,hb,xaf h]
  |(k,x)::r=>by
    have ih:=Qo f g v r;rw[show bB f v ((k,x)::r)=(if k=f then(k,v)::r else(k,x)::bB f v r) from rfl]
    by_cases hk:k=f
    · rw[xab hk]
      by_cases h:g=k
      · have hb:(g==k)=true:=xaY.mpr h;simp only[List.lookup,hb,xab (h.trans hk)]
      · have hb:(g==k)=false:=xa8.mpr h;simp only[List.lookup,hb,xaf (fun e:g=f=>h (e.trans hk.symm))]
    · rw[xaf hk]
      by_cases h:g=k
      · have hb:(g==k)=true:=xaY.mpr h;simp only[List.lookup,hb,xaf (fun e:g=f=>hk (h.symm.trans e))]
      · have hb:(g==k)=false:=xa8.mpr h;simp only[List.lookup,hb];exact ih
theorem HJ (f:Str)(v:V):∀fs:List (Str×V),f∈(bB f v fs).map (·.1)/\∀g,g∈fs.map (·.1)->g∈(bB f v fs).map (·.1)
  | []=>⟨by simp[bB],fun g h=>by simp at h⟩
  |(k,x)::r=>by
    obtain⟨i1,i2⟩:=HJ f v r;rw[show bB f v ((k,x)::r)=(if k=f then(k,v)::r else(k,x)::bB f v r) from rfl]
    by_cases hk:k=f
    · rw[xab hk];subst hk;exact⟨by simp,fun g h=>by simpa using h⟩
    · rw[xaf hk];refine⟨?_,fun g h=>?_⟩
      · rw[xau];exact xar _ i1
      · rw[xau]at h ⊢;rcases xaJ.mp h with e |e
        · exact xaJ.mpr (.inl e)
        · exact xar _ (i2 g e)
theorem Qj (f:Str)(v:V):∀fs:List (Str×V),(bB f v fs).length<=fs.length + 1
  | []=>by simp[bB]
  |(k,x)::r=>by
    have ih:=Qj f v r;rw[show bB f v ((k,x)::r)=(if k=f then(k,v)::r else(k,x)::bB f v r) from rfl]
    by_cases hk:k=f
    · rw[xab hk,xao,xao];omega
    · rw[xaf hk,xao,xao];omega
theorem dR.some_of (r:dR (some v) o):∃u,o=some u/\RelV v u:=by
 cases o with
 |none=>exact(show False from r).elim
 |some u=>exact⟨u,rfl,r⟩
theorem dR.none_of (r:dR none o):o=none:=by
 cases o with
 |none=>rfl
 |some u=>exact(show False from r).elim
theorem Wu (r:RelV v u):PySem.W.handedIn u=true:=by
 cases v with
 |non=>cases (show u=Value.none from r);rfl
 |bl b=>cases (show u=Value.bool b from r);rfl
 |int i=>obtain⟨t,e⟩:=(show ∃t,u=Value.int i t from r);cases e;rfl
 |str x=>obtain⟨t,e⟩:=(show ∃t,u=Value.str x t from r);cases e;rfl
 |byt b=>obtain⟨t,e⟩:=(show ∃t,u=Value.bytes b t from r);cases e;rfl
 |flt b=>obtain⟨t,e⟩:=(show ∃t,u=Value.float b t from r);cases e;rfl
 |ref a=>cases (show u=Value.ref a from r);rfl
 |ty n=>cases (show u=Value.type n from r);rfl
section
variable {P:Program}{w:World}{H H':Hp}{h h':Heap}{a C dx:Addr}{fs fs':List (Str×V)}
theorem Cy (hok:cA P w H h)(e:H a=some (.ins C dx fs)):∃mA,ObjM h a dx C mA/\(∀f,dR (fs.lookup f) (mA f))/\PySem.Within mA (fs.map (·.1))/\fs.length<=1000/\H dx=some (.own a):=by
 obtain⟨d,z,ne,ob,mA,n,r,q⟩:=(show cX P w H h a (.ins C dx fs) from hok a _ e);exact⟨mA,⟨ob,n,ne⟩,r,q,z,d⟩
end
structure Cls (K:Fgx)(C:Addr):Prop where
 pg:PySem.W.plainGet K C Str.empty=true
 hd:PySem.W.hasDictIn K C=true
 po:PySem.W.plainOver K C=true
 sa:PySem.W.findIn K (.ref C) "__setattr__"=some (some (.builtin "object.__setattr__"))
theorem Cls.get {K:Fgx}{C:Addr}(c:Cls K C)(f:Str):PySem.W.plainGet K C f=true:=c.pg
def mW (K:Fgx)(C:Addr)(f:Str):Prop:=PySem.W.findIn K (.ref C) f=some none
theorem mW.taker {K:Fgx}{C:Addr}{f:Str}(n:mW K C f):PySem.W.takerIn K C f=some none:=by
 unfold PySem.W.takerIn;rw[show PySem.W.findIn K (.ref C) f=some none from n];rfl
structure Con (K:Fgx)(C:Addr)(f:Str)(v:V)(u:Value):Prop where
 at_:PySem.W.findIn K (.ref C) f=some (some u)
 rel:RelV v u
 get:PySem.W.specialIn K u "__get__"=some none
 cp:PySem.W.copiedNames.contains f=false
structure Meth (K:Fgx)(C:Addr)(m:Str)(f:Addr):Prop where
 at_:PySem.W.findIn K (.ref C) m=some (some (.ref f))
 fn:PySem.W.isFn K (.ref f)=true
 kp:PySem.W.keepIn K (.ref f)=true
section
variable {X:Cx}{pins:Pnx}{σ:St}{H:Hp}{s:Shared}{a C dx:Addr}{fs:List (Str×V)}{f:Str}{v:V}{A:Around}{E:Value->Shared->Prop}
theorem Wr (I:Inv X pins σ H s)(e:H a=some (.ins C dx fs))(c:Cls X.K C)(n:mW X.K C f)(l:fs.lookup f=some v)
  (h:∀u s',Inv X pins σ H s'->RelV v u->Q u s'):wpAny (model X.prog X.w) A (getAttr (.ref a) f b) Q E s:=by
 obtain⟨mA,O,r,_,_,_⟩:=Cy I.hok e;obtain⟨u,hu,ru⟩:=dR.some_of (v:=v) (o:=mA f) (by rw[<-l];exact r f);exact get_map I.kIn O (c.get f) c.hd n hu (Wu ru) (h u _ (I.tok _) ru)
theorem Ws (I:Inv X pins σ H s)(e:H a=some (.ins C dx fs))(c:Cls X.K C)(k:Meth X.K C m g)(l:fs.lookup m=none)
  (h:Q (.ref g,[.ref a]) s):wpAny (model X.prog X.w) A (getMethod (.ref a) m pl) Q E s:=by
 obtain⟨mA,O,r,_,_,_⟩:=Cy I.hok e;have hn:mA m=none:=dR.none_of (by rw[<-l];exact r m);exact Wq I.kIn O (c.get m) k.at_ k.fn hn h
theorem zaC (I:Inv X pins σ H s)(e:H a=some (.ins C dx fs))(c:Cls X.K C)(n:mW X.K C f)(hl:fs.length<1000)(ry:RelV y u)
  (h:∀s',Inv X pins σ (upd H a (.ins C dx (bB f y fs))) s'->Q () s'):wpAny (model X.prog X.w) A (setAttr (.ref a) f u) Q E s:=by
 obtain⟨mA,O,r,wi,_,ho⟩:=Cy I.hok e;have hz:(fs.map (·.1)).length<=sizeLine:=by rw[xap,xa6];omega
 refine zbA I.kIn O c.sa c.po n.taker c.hd wi hz fun h' O' sb=>h _ ?_;have hd:∃o,h'.get? dx=some o:=let ⟨o,_,_,e',_⟩:=O'.ns;⟨o,e'⟩
 refine I.write (x:=a) (e:=dx) (by rw[e];exact True.intro) (.inr ho) (fun b q hb z=>(sb.2 b hb).trans z) hd ?_;refine⟨by rw[aQ O.ne];exact ho,?_,O.ne,O'.obj,_,O'.ns,fun g=>?_,fun g hg=>?_⟩
 ·have:=Qj f y fs;omega
 ·show dR ((bB f y fs).lookup g) (if g=f then some u else mA g)
  rw[Qo]
  by_cases q:g=f
  ·rw[xab q,xab q];exact ry
  ·rw[xaf q,xaf q];exact r g
 ·by_cases q:g=f
  ·rw[q];exact(HJ f y fs).1
  ·refine(HJ f y fs).2 g (wi g fun z=>hg ?_);show(if g=f then some u else mA g)=none
   rw[xaf q];exact z
theorem Inv.made (I:Inv X pins σ H s):Inv X pins σ (upd (upd H s.heap.objs.size (.own (s.heap.objs.size + 1))) (s.heap.objs.size + 1) (.ins C s.heap.objs.size []))
  {s with heap:=(s.heap.push PySem.W.emptyDict).push (PySem.W.instObj C s.heap.objs.size)}:=by
 have e1:(s.heap.push PySem.W.emptyDict).get? s.heap.objs.size=some PySem.W.emptyDict:=xav s.heap rfl;have e2:((s.heap.push PySem.W.emptyDict).push (PySem.W.instObj C s.heap.objs.size)).get? (s.heap.objs.size + 1)=some (PySem.W.instObj C s.heap.objs.size):=by
  have:=xav (s.heap.push PySem.W.emptyDict) (o:=PySem.W.instObj C s.heap.objs.size) rfl
  rwa [xbN]at this
 have e3:(s.heap.push PySem.W.emptyDict).Ns s.heap.objs.size (fun _=>none):=⟨PySem.W.emptyDict, #[],_,e1,rfl,(fun e he=>absurd he (by simp)),fun _=>rfl⟩;have I1:=I.laid (a:=s.heap.objs.size) (o:=.own (s.heap.objs.size + 1)) (h':=s.heap.push PySem.W.emptyDict) (t':=s.toks) (fun b u q=>xaa _ q) (xai _) ⟨_,e1⟩;refine I1.laid (a:=s.heap.objs.size + 1) (o:=.ins C s.heap.objs.size []) (t':=s.toks) (fun b u q=>xaa _ q) (xcV (xbN _ _)) ?_;have ne:s.heap.objs.size≠s.heap.objs.size + 1:=xaA (xa3 _);refine⟨by rw[aQ ne,bU],xcF _,ne,e2,fun _=>none,(Heap.Ns1.of_empty e3).at fun o q=>xaa _ q,fun _=>True.intro,fun y hy=>absurd rfl hy⟩
theorem Vm (hb:attributeBase e f env (eval e env)=eval e env)
  (h:wpAny (model prog w) A (eval e env) (fun o s₁=>wpAny (model prog w) A (getAttr o f true) Q E s₁) E s):wpAny (model prog w) A (eval (.Attribute e f pos) env) Q E s:=
 Attribute_any_ h (by rw[arm_eval_Attribute,hb])
end
noncomputable def LQ (K:Fgx) (ta:TE) (f:Str):TE:=fun σ H Q=>ta σ H fun x H1=>∃a C dx fs v,x=.ref a/\H1 a=some (.ins C dx fs)/\Cls K C/\mW K C f/\fs.lookup f=some v/\Q v H1
noncomputable def KY (K:Fgx) (ta tv:TE) (f:Str):TS:=fun D σ H=>tv σ H fun y H1=>ta σ H1 fun x H2=>∃a C dx fs,x=.ref a/\H2 a=some (.ins C dx fs)/\Cls K C/\mW K C f/\fs.length<1000/\
 D.nx σ (upd H2 a (.ins C dx (bB f y fs)))
section
variable {X:Cx}{o e value:Expr}{f:Str}{pos pos' tpos:Pos}{ta tv:TE}
theorem ZV (he:PE X e ta)(hb:attributeBase e f X.env (eval e X.env)=eval e X.env):PE X (.Attribute e f pos) (LQ X.K ta f):=by
 intro pins s σ H Q I h;refine Vm hb (aP (he pins s σ H _ I h) fun u s1 ⟨x,H1,I1,rx,a,C,dx,fs,v,ex,ea,c,n,l,q⟩=>?_);subst ex;obtain rfl:u=Value.ref a:=rx;exact Wr I1 ea c n l fun u' s2 I2 ru=>⟨v,H1,I2,ru,q⟩
theorem zdi (ha:PE X o ta)(hv:PE X value tv)(hs:swapsWith value (some (.Attribute o f pos')) pos.line X.env=pure false):PS X (.Assign [.Attribute o f pos'] value pos) (KY X.K ta tv f):=by
 intro pins s σ H D I h;refine plainObj_wpAny_Assign_Attribute (aP (hv pins s σ H _ I h) fun u s1 ⟨y,H1,I1,ry,q⟩=>aP (ha pins s1 σ H1 _ I1 q) fun ov s2 ⟨x,H2,I2,rx,a,C,dx,fs,ex,ea,c,n,l,q2⟩=>?_) hs;subst ex;obtain rfl:ov=Value.ref a:=rx;exact zaC I2 ea c n l ry fun s3 I3=>⟨σ,_,I3,q2⟩
noncomputable def vf:V->V->Hp->VK->Prop:=fun x y H Q=>∃i j,x=.int i/\y=.int j/\Q (.int (i + j)) H
end
section
variable {X:Cx}{pins:Pnx}{σ:St}{H:Hp}{s:Shared}{A:Around}{E:Value->Shared->Prop}{Q:Value->Shared->Prop}{c:Value}{b:Bool}
inductive TyOf (K:Fgx)(H:Hp):V->Value->Prop where
 |non:TyOf K H .non (.type "NoneType")
 |bl (x:Bool):TyOf K H (.bl x) (.type "bool")
 |int (i:Int):TyOf K H (.int i) (.type "int")
 |str (x:Str):TyOf K H (.str x) (.type "str")
 |flt (x:UInt64):TyOf K H (.flt x) (.type "float")
 |lst {a:Addr} {xs:List V} (e:H a=some (.lst xs)):TyOf K H (.ref a) (.type "list")
 |frz {a:Addr} {o:Obj} {xs:List V} (e:H a=some (.frz o (.lst xs))):TyOf K H (.ref a) (.type "list")
 |tup {a:Addr} {xs:List V} (e:H a=some (.tup xs)):TyOf K H (.ref a) (.type "tuple")
 |dK {a:Addr} {kvs:List (Key×V)} (e:H a=some (.dK kvs)):TyOf K H (.ref a) (.type "dict")
 |dT {a:Addr} {kvs:List (List Key×V)} (e:H a=some (.dT kvs)):TyOf K H (.ref a) (.type "dict")
 |ins {a C dx:Addr} {fs:List (Str×V)} (e:H a=some (.ins C dx fs)) (cl:Cls K C) (ha:PySem.W.findIn K (.ref C) "__class__"=some (some (.builtin "object.__class__")))
   (hn:PySem.W.specialIn K (.builtin "object.__class__") "__get__"=some (some (.builtin "getset_descriptor.__get__"))) (htk:PySem.W.takesIn K (.builtin "object.__class__")=some true)
   (hm:PySem.W.mroIn K C (.type "object")=some true):TyOf K H (.ref a) (.ref C)
theorem Cz (I:Inv X pins σ H s)(rx:RelV x u)(ty:TyOf X.K H x t)(e:PySem.W.kitOne X.K t c=some b)(h:∀tk,Q (.bool b) {s with toks:=tk}):
    wpAny (model X.prog X.w) A (call (.builtin "isinstance") [u,c]) Q E s:=by
  cases ty with
  |non=>cases (show u=Value.none from rx);exact xaK PySem.W.kitx_none I.kIn True.intro e (fun z=>nomatch z) h
  |bl y=>cases (show u=Value.bool y from rx);exact xaK PySem.W.kitx_bool I.kIn True.intro e (fun z=>nomatch z) h
  |int i=>obtain⟨t,q⟩:=(show ∃t,u=Value.int i t from rx);cases q;exact xaK PySem.W.kitx_int I.kIn True.intro e (fun z=>nomatch z) h
  |str y=>obtain⟨t,q⟩:=(show ∃t,u=Value.str y t from rx);cases q;exact xaK PySem.W.kitx_str I.kIn True.intro e (fun z=>nomatch z) h
  |flt y=>obtain⟨t,q⟩:=(show ∃t,u=Value.float y t from rx);cases q;exact xaK PySem.W.kitx_float I.kIn True.intro e (fun z=>nomatch z) h
  | @lst a xs ea=>
    cases (show u=Value.ref a from rx);obtain⟨_,_,n,_,h1⟩:=(show cX X.prog X.w H s.heap a (.lst xs) from I.hok a _ ea);exact xaK xcP I.kIn ⟨_,h1,rfl⟩ e (fun z=>nomatch z) h
  | @frz a ob xs ea=>
    cases (show u=Value.ref a from rx);obtain⟨_,_,_,n,_,h1⟩:=(show cX X.prog X.w H s.heap a (.frz ob (.lst xs)) from I.hok a _ ea);exact xaK xcP I.kIn ⟨_,h1,rfl⟩ e (fun z=>nomatch z) h
  | @tup a xs ea=>
    cases (show u=Value.ref a from rx);obtain⟨_,_,_,p⟩:=(show cX X.prog X.w H s.heap a (.tup xs) from I.hok a _ ea);obtain⟨o,h1,h2,_⟩:=p;exact xaK xdA I.kIn ⟨o,h1,h2⟩ e (fun z=>nomatch z) h
  | @dK a kvs ea=>
    cases (show u=Value.ref a from rx);obtain⟨_,_,vs,_,p⟩:=(show cX X.prog X.w H s.heap a (.dK kvs) from I.hok a _ ea);obtain⟨o,es,ep,h1,h2,_⟩:=p;exact xaK xcQ I.kIn ⟨o,h1,h2.1⟩ e (fun z=>nomatch z) h
  | @dT a kvs ea=>
    cases (show u=Value.ref a from rx);obtain⟨_,_,xs,_,o,es,ep,h1,h2,_⟩:=(show cX X.prog X.w H s.heap a (.dT kvs) from I.hok a _ ea);exact xaK xcQ I.kIn ⟨o,h1,h2.1⟩ e (fun z=>nomatch z) h
  | @ins a C dx fs ea cl ha hn htk hm=>
    cases (show u=Value.ref a from rx);obtain⟨mA,O,_⟩:=Cy I.hok ea;obtain⟨od,J,_⟩:=O.look;exact xaK (PySem.W.kitx_own (cl.get _) cl.hd ha hn htk hm) I.kIn J e (fun z=>nomatch z) h
end
structure Room (k:Nat)(A:Around):Prop where
 hd:A.handled=none
 dp:A.depth + 3 * k + 5<recursionLimit
 un:A.units + 16 * k + 200<cLine
theorem Room.mono (r:Room k A)(h:j<=k):Room j A:=⟨r.hd,by have:=r.dp;omega,by have:=r.un;omega⟩
theorem Room.deeper (r:Room (k + 1) A)(env:Env):Room k (A.deeper env):=
 ⟨r.hd,by have:=r.dp;show A.depth + 1 + 3 * k + 5<_;omega,by have:=r.un;show A.units + 3 + 16 * k + 200<_;omega⟩
theorem Xx {A:Around}{C:Addr}{us:List Value}{kw:List (Str×Value)}:(A.under (.builtin "type.__call__" ⟨.ref C::us,kw⟩)).depth=A.depth + 1:=by
 first |rfl |simp[Around.under,Code.weight,Code.isCreation,Code.isGuard,Code.isCaller,Code.frames,Code.isFrame,guardIds]
theorem Xz {A:Around}{C:Addr}{us:List Value}{kw:List (Str×Value)}:(A.under (.builtin "type.__call__" ⟨.ref C::us,kw⟩)).units=A.units + 1:=by
 first |rfl |simp[Around.under,Code.cUnits,Code.frames,Code.isFrame]
theorem Room.make (r:Room (k + 1) A)(C:Addr)(us:List Value)(kw:List (Str×Value)):Room k (A.under (.builtin "type.__call__" ⟨.ref C::us,kw⟩)):=
 ⟨r.hd,by have:=r.dp;rw[Xx];omega,by have:=r.un;rw[Xz];omega⟩
theorem Room.depth (r:Room k A):A.depth<recursionLimit:=by have:=r.dp;omega
theorem Room.units (r:Room k A):A.units + 64<cLine:=by have:=r.un;omega
def Mf:TA:=fun _ H Q=>Q [] H
noncomputable def zeW (ta:TE) (tr:TA):TA:=fun σ H Q=>ta σ H fun x H1=>tr σ H1 fun xs H2=>Q (x::xs) H2
section
variable {X:Cx}{e:Expr}{es:List Expr}{te:TE}{t:TA}{pos:Pos}
theorem vd:PA X [] Mf:=fun _ _ _ _ H Q I h=>Calls.spliced_nil ⟨[],H,I,.nil,h⟩
theorem pQ (ha:PE X e te)(hr:PA X es t)(hs:starEach (e::es) X.env=(false,eval e X.env)::starEach es X.env:=by rfl):PA X (e::es) (zeW te t):=by
 intro pos pins s σ H Q I h;rw[hs];show wpAny _ _ (spliced ((false,eval e X.env)::backTo pos (starEach es X.env))) _ _ s;refine Calls.spliced_cons (aP (ha pins s σ H _ I h) fun u s1 ⟨x,H1,I1,r1,q1⟩=>?_);exact aP (hr pos pins s1 σ H1 _ I1 q1) fun us s2 ⟨xs,H2,I2,r2,q2⟩=>⟨x::xs,H2,I2,.cons r1 r2,q2⟩
noncomputable def Ma (t:TA):TE:=fun σ H Q=>t σ H fun xs H1=>xs.length<=sizeLine/\∀p,H1 p=none->Q (.ref p) (upd H1 p (.lst xs))
theorem Z2 (h:PA X es t):PE X (.List es pos) (Ma t):=by
 intro pins s σ H Q I hq;refine wpAny_List_spliced (aP (h pos pins s σ H _ I hq) fun us s1 ⟨xs,H1,I1,r,z,q⟩=>⟨by rw[<-r.length];exact z,?_⟩);have hf:H1 s1.heap.objs.size=none:=I1.hok.fresh (xai _);refine⟨.ref s1.heap.objs.size,upd H1 s1.heap.objs.size (.lst xs),I1.laid (t':=s1.toks) (fun b u e=>xaa _ e) (xai _) ?_,rfl,q _ hf⟩;exact⟨z,us,0,r,xav _ rfl⟩
end
abbrev Sp:=List V->Hp->VK->XK->Prop
abbrev eV:=List Env->Hp->Shared->XK->Value->Shared->Prop
structure Env0 (P:Program)(w:World)(K:Fgx)(mg:Mgx)(base:Heap)(A:Around)(outer:List Env)(s:Shared)(H:Hp):Prop where
 frames:A.frames=some outer
 mod:Mod K mg base
 bs:∀b o,base.get? b=some o->s.heap.get? b=some o/\H b=none
 bsz:base.objs.size<=s.heap.objs.size
 funs:s.heap.FunFrames base outer
 frf:∀b∈frs outer,H b=none
 hok:cA P w H s.heap
 bare:AllBare s.gens
def CE (outer:List Env)(P:Program)(w:World)(H:Hp)(s:Shared)(Q:VK)(u:Value)(s':Shared):Prop:=
 ∃v H',s'.os=s.os/\AllBare s'.gens/\Un (frs outer) [] H H' s.heap s'.heap/\cA P w H' s'.heap/\RelV v u/\Q v H'
def CR (CX:eV)(outer:List Env)(P:Program)(w:World)(H:Hp)(s:Shared)(Q:VK)(E:XK)(r:Result)(s':Shared):Prop:=
 match r with
 |.ok (.ret u)=>CE outer P w H s Q u s'
 |.ok _=>False
 |.error e=>CX outer H s E e s'
structure FnOk (P:Program)(w:World)(K:Fgx)(mg:Mgx)(base:Heap)(CX:eV)(k:Nat)(f:Addr)(fd:FuncData)(ps:List Str)(sp:Sp):Prop where
 len:∀vs H Q E,sp vs H Q E->vs.length=ps.length
 run:∀(A:Around) (outer:List Env) (s:Shared) (H:Hp) (args:Args) (us:List Value) (vs:List V) (Q:VK) (E:XK),Room k A->Env0 P w K mg base A outer s H->BindsTo s fd args (ps.zip us)->Vals vs us->sp vs H Q E->
  codeAny (model P w) A (.call (.ref f) args) (CR CX outer P w H s Q E) s
theorem FnOk.mono {P:Program}{w:World}{K:Fgx}{mg:Mgx}{base:Heap}{CX:eV}{j k:Nat}{f:Addr}{fd:FuncData}{ps:List Str}{sp:Sp}(F:FnOk P w K mg base CX j f fd ps sp)(h:j<=k):
  FnOk P w K mg base CX k f fd ps sp:=⟨F.len,fun A outer s H args us vs Q E hr=>F.run A outer s H args us vs Q E (hr.mono h)⟩
theorem Env0.make {P:Program}{w:World}{K:Fgx}{mg:Mgx}{base:Heap}{A:Around}{outer:List Env}{s:Shared}{H:Hp}(e:Env0 P w K mg base A outer s H)(C:Addr)(us:List Value)(kw:List (Str×Value)):
  Env0 P w K mg base (A.under (.builtin "type.__call__" ⟨.ref C::us,kw⟩)) outer s H:=⟨by first |exact e.frames |(simpa [Around.under,Code.envs,Code.isFrame,pushEnvs] using e.frames),e.mod,e.bs,e.bsz,e.funs,e.frf,e.hok,e.bare⟩
section
variable {X:Cx}{pins:Pnx}{σ:St}{H:Hp}{s s':Shared}
theorem Inv.env0 (I:Inv X pins σ H s):Env0 X.prog X.w X.K X.mg X.base X.A X.stack s H:=
 ⟨I.ok.frames,I.ok.mod,I.bs,xaB I.ok.bsz I.sz,I.stack,I.stkFree,I.hok,I.bare⟩
theorem Inv.after (I:Inv X pins σ H s)(h:CE X.stack X.prog X.w H s Q u s'):EP X pins σ Q u s':=by
 obtain⟨v,H',os,bare,un,hok,r,q⟩:=h;obtain⟨hh,g,d,t,os'⟩:=s';obtain rfl:os'=s.os:=os;exact⟨v,H',I.call (h':=hh) (g':=g) (d':=d) (t':=t) (ch:=[]) un hok bare (fun b z=>absurd z (by simp)),r,q⟩
end
noncomputable def zea (sp:Sp) (dvs:List V) (E:XK) (t:TA):TE:=fun σ H Q=>t σ H fun vs H1=>sp (vs ++ dvs) H1 Q E
noncomputable def zec (C:Addr) (m:Str) (sp:Sp) (dvs:List V) (E:XK) (ta:TE) (t:TA):TE:=fun σ H Q=>ta σ H fun x H1=>∃a dx fs,x=.ref a/\H1 a=some (.ins C dx fs)/\fs.lookup m=none/\
 t σ H1 fun vs H2=>sp (x::(vs ++ dvs)) H2 Q E
noncomputable def zd2 (C:Addr) (sp:Sp) (dvs:List V) (E:XK) (t:TA):TE:=fun σ H Q=>t σ H fun vs H1=>∀x dx,H1 x=none->H1 dx=none->dx≠x->
 sp (.ref x::(vs ++ dvs)) (upd (upd H1 dx (.own x)) x (.ins C dx [])) (fun v H2=>v=.non/\Q (.ref x) H2) E
def Binds (K:Fgx)(fd:FuncData)(ps:List Str)(ds:List Value):Prop:=
 ∀(s:Shared) (us:List Value),K.In s.heap->(us ++ ds).length=ps.length->BindsTo s fd ⟨us,[]⟩ (ps.zip (us ++ ds))
theorem Binds.all {K:Fgx}{fd:FuncData}{ps:List Str}(h:∀us:List Value,us.length=ps.length->bindArgs fd ⟨us,[]⟩=pure (ps.zip us)):Binds K fd ps []:=fun s us _ hl=>by
 rw[xaR]at hl ⊢;exact .of_eq (h us hl)
def Passes (CX:eV)(X:Cx)(E:XK):Prop:=∀(pins:Pnx) (σ:St) (H:Hp) (s:Shared) (e:Value) (s':Shared),Inv X pins σ H s->CX X.stack H s E e s'->X.xe e s'
section
variable {X:Cx}{CX:eV}{k:Nat}{f C:Addr}{fd:FuncData}{ps:List Str}{sp:Sp}{dvs:List V}{ds:List Value}{E:XK}{x m:Str}{p pos apos:Pos}{e o:Expr}{es:List Expr}{ta:TE}{t:TA}
theorem R6 (F:FnOk X.prog X.w X.K X.mg X.base CX k f fd ps sp)(hr:Room k X.A)(hb:Binds X.K fd ps ds)(hd:Vals dvs ds)(hx:Passes CX X E)
    (I:Inv X pins σ H s) (r:Vals vs us) (h:sp (vs ++ dvs) H Q E):wpAny (model X.prog X.w) X.A (call (.ref f) us) (EP X pins σ Q) X.xe s:=by
  have r2:Vals (vs ++ dvs) (us ++ ds):=r.append hd;have hl:(us ++ ds).length=ps.length:=by rw[<-r2.length];exact F.len _ _ _ _ h
  refine xcq (xbO (F.run X.A X.stack s H ⟨us,[]⟩ (us ++ ds) (vs ++ dvs) Q E hr I.env0 (hb s us I.kIn hl) r2 h) fun r s' hq=>?_)
  cases r with
  |error e=>exact hx pins σ H s e s' I hq
  |ok fl=>
    cases fl with
    |ret u=>exact I.after hq
    |next=>exact False.elim hq
    |brk=>exact False.elim hq
    |cont=>exact False.elim hq
theorem ZP (F:FnOk X.prog X.w X.K X.mg X.base CX k f fd ps sp)(hr:Room k X.A)(hg:Gl X x)(hm:X.mg x=some (.ref f))(hk:PySem.W.keepIn X.K (.ref f)=true)(hb:Binds X.K fd ps ds)(hd:Vals dvs ds)(hx:Passes CX X E)
  (ha:PA X (e::es) t) (hdb:(x==("__debug__":Str))=false:=by decide) (he:starEach (e::es) X.env=(false,eval e X.env)::starEach es X.env:=by rfl) (hpl:(backTo pos (starEach es X.env)).any (·.1)=false:=by rfl):
  PE X (.Call (.Name x p) (e::es) [] pos) (zea sp dvs E t):=by
 intro pins s σ H Q I h;refine xbt (rR I hg hm ?_ hdb);refine xbJ (h₀:=X.base) I.ok.mod.kin hk (aP (ha pos pins s σ H _ I h) fun us s1 ⟨vs,H1,I1,r,q⟩=>⟨I1.kIn,?_⟩) he hpl;exact R6 F hr hb hd hx I1 r q
theorem Z6 (he:PE X o ta)(c:Cls X.K C)(hm:Meth X.K C m f)(F:FnOk X.prog X.w X.K X.mg X.base CX k f fd ps sp)(hr:Room k X.A)(hb:Binds X.K fd ps ds)(hd:Vals dvs ds)(hx:Passes CX X E)(ha:PA X (e::es) t)
  (hst:starEach (e::es) X.env=(false,eval e X.env)::starEach es X.env:=by rfl) (hpl:(backTo pos (starEach es X.env)).any (·.1)=false:=by rfl)
  (ht : eval (.Call (.Attribute o m apos) (e :: es) [] pos) X.env = (do
   let ov <-eval o X.env
   standAt apos.atName
   let (f,first) <-holding [ov] (getMethod ov m pl)
   callWith pos f first (backTo pos (starEach (e::es) X.env)) (backToKw pos (keywordEach [] X.env))):=by rfl):
  PE X (.Call (.Attribute o m apos) (e::es) [] pos) (zec C m sp dvs E ta t):=by
 intro pins s σ H Q I h;refine PySem.W.methodCall_KW (pl:=pl) (aP (he pins s σ H _ I h) fun u s1 ⟨x,H1,I1,rx,a,dx,fs,ex,ea,l,q⟩=>?_) ht;subst ex;obtain rfl:u=Value.ref a:=rx;refine Ws I1 ea c hm l ?_;refine xbJ (first:=[.ref a]) (h₀:=X.base) I.ok.mod.kin hm.kp (aP (ha pos pins s1 σ H1 _ I1 q) fun us s2 ⟨vs,H2,I2,r,q2⟩=>⟨I2.kIn,?_⟩) hst hpl
 exact R6 (us:=.ref a::us) (vs:=.ref a::vs) F hr hb hd hx I2 (.cons rfl r) q2
structure Mk (K:Fgx)(C f:Addr):Prop where
 makes:PySem.W.makesIn K C=true
 init:PySem.W.findIn K (.ref C) "__init__"=some (some (.ref f))
 fn:PySem.W.isFn K (.ref f)=true
 kp:PySem.W.keepIn K (.ref C)=true
theorem zbh (M:Mk X.K C f)(F:FnOk X.prog X.w X.K X.mg X.base CX k f fd ps sp)(hr:Room (k + 1) X.A)(hb:Binds X.K fd ps ds)(hd:Vals dvs ds)
    (hx:Passes CX X E) (I:Inv X pins σ H s) (r:Vals vs us)
    (h:∀x dx,H x=none->H dx=none->dx≠x->sp (.ref x::(vs ++ dvs)) (upd (upd H dx (.own x)) x (.ins C dx [])) (fun v H2=>v=.non/\Q (.ref x) H2) E):
    wpAny (model X.prog X.w) X.A (call (.ref C) us) (EP X pins σ Q) X.xe s:=by
  have hq:=h (s.heap.objs.size + 1) s.heap.objs.size (I.hok.fresh (xbM _)) (I.hok.fresh (xai _)) (xaA (xa3 _));have I2:=Inv.made (C:=C) I;have r2:Vals (V.ref (s.heap.objs.size + 1)::(vs ++ dvs)) (Value.ref (s.heap.objs.size + 1)::(us ++ ds)):=.cons rfl (r.append hd);have hl:(Value.ref (s.heap.objs.size + 1)::us ++ ds).length=ps.length:=by
    have e:=r2.length;rw[F.len _ _ _ _ hq]at e;exact e.symm
  refine xcq (Xy (f := f) I.kIn M.makes M.init (xaY.mp M.fn) (xbO (F.run _ X.stack _ _ ⟨Value.ref (s.heap.objs.size + 1)::us,[]⟩ (Value.ref (s.heap.objs.size + 1)::(us ++ ds)) _ _ E (hr.make C us [])
    (I2.env0.make C us []) (hb _ (Value.ref (s.heap.objs.size + 1)::us) I2.kIn hl) r2 hq) fun r s' hq'=>?_))
  cases r with
  |error e=>exact hx pins σ _ _ e s' I2 hq'
  |ok fl=>
    cases fl with
    |ret u=>
      obtain⟨v,H',I3,rv,ev,q3⟩:=I2.after hq';subst ev;exact⟨rv,⟨V.ref (s.heap.objs.size + 1),H',I3,rfl,q3⟩⟩
    |next=>exact False.elim hq'
    |brk=>exact False.elim hq'
    |cont=>exact False.elim hq'
theorem Z4 (M:Mk X.K C f)(F:FnOk X.prog X.w X.K X.mg X.base CX k f fd ps sp)(hr:Room (k + 1) X.A)(hg:Gl X x)(hm:X.mg x=some (.ref C))(hb:Binds X.K fd ps ds)(hd:Vals dvs ds)(hx:Passes CX X E)
  (ha:PA X (e::es) t) (hdb:(x==("__debug__":Str))=false:=by decide) (he:starEach (e::es) X.env=(false,eval e X.env)::starEach es X.env:=by rfl) (hpl:(backTo pos (starEach es X.env)).any (·.1)=false:=by rfl):
  PE X (.Call (.Name x p) (e::es) [] pos) (zd2 C sp dvs E t):=by
 intro pins s σ H Q I h;refine xbt (rR I hg hm ?_ hdb);refine xbJ (h₀:=X.base) I.ok.mod.kin M.kp (aP (ha pos pins s σ H _ I h) fun us s1 ⟨vs,H1,I1,r,q⟩=>⟨I1.kIn,?_⟩) he hpl;exact zbh M F hr hb hd hx I1 r q
end
section
variable {X:Cx}{CX:eV}{k:Nat}{f C:Addr}{fd:FuncData}{ps ks:List Str}{sp:Sp}{E:XK}{x m:Str}{p pos apos kpos:Pos}{e o:Expr}{es:List Expr}{kws:List Keyword}{te ta:TE}{t tk:TA}{nm:Option Str}
structure KBinds (K:Fgx)(fd:FuncData)(ps ks:List Str)(g:List Value->List Value->List Value)(gV:List V->List V->List V):Prop where
 to:∀(s:Shared) (us ws:List Value),K.In s.heap->(g us ws).length=ps.length->BindsTo s fd ⟨us,ks.zip ws⟩ (ps.zip (g us ws))
 rel:∀{vs:List V} {us:List Value} {zs:List V} {ws:List Value},Vals vs us->Vals zs ws->Vals (gV vs zs) (g us ws)
variable {g:List Value->List Value->List Value}{gV:List V->List V->List V}
end
structure FnScope (N P:List Str)(sc:Scope):Prop where
 kind:sc.kind=.function
 co:sc.isCoroutine=false
 gen:sc.isGenerator=false
 nd:N.Nodup
 pre:N.take P.length=P
 par:∀x∈P,sc.names.lookup x=some .local\/sc.names.lookup x=some .cell
 nofree:∀y∈sc.names,y.2≠ .free
theorem Ni {kindOf:Str->Option NameKind}{x:Str}:∀{binds:List (Str×Value)} {m:Mgx},(∀v,(x,v)∉binds)->bindL kindOf binds m x=m x
  | [],_,_=>rfl
  |(n,v)::r,m,h=>by
    unfold bindL;rw[Ni fun w hw=>h w (xar _ hw)]
    split
    · have:x≠n:=by rintro rfl;exact h v xaF
      simp[this]
    · rfl
theorem Ng {kindOf:Str->Option NameKind}{x:Str}:∀{binds:List (Str×Value)} {m:Mgx},(∀v,(x,v)∉binds)->bindC kindOf binds m x=m x
  | [],_,_=>rfl
  |(n,v)::r,m,h=>by
    unfold bindC;rw[Ng fun w hw=>h w (xar _ hw)]
    split
    · rfl
    · have:x≠n:=by rintro rfl;exact h v xaF
      simp[this]
theorem Nh {kindOf:Str->Option NameKind}{x:Str}{v:Value}:∀{P:List Str} {vs:List Value} {i:Nat} {m:Mgx},P.Nodup->P[i]? =some x->vs[i]? =some v->kindOf x=some .local->
    bindL kindOf (P.zip vs) m x=some v
  | [],_,_,_,_,h,_,_=>by simp at h
  |_::_,[],_,_,_,_,h,_=>by simp at h
  |p::P,w::vs,0,m,nd,h1,h2,hk=>by
    simp at h1 h2;subst h1;subst h2
    show bindL kindOf ((p,w)::P.zip vs) m p=_;unfold bindL;rw[Ni fun v hv=>(xbl.mp nd).1 (xb5 hv).1,xab hk]
    simp
  |p::P,w::vs,i + 1,m,nd,h1,h2,hk=>by
    show bindL kindOf ((p,w)::P.zip vs) m x=_;unfold bindL;exact Nh (i:=i) (xbl.mp nd).2 (by simpa using h1) (by simpa using h2) hk
theorem Nf {kindOf:Str->Option NameKind}{x:Str}{v:Value}:∀{P:List Str} {vs:List Value} {i:Nat} {m:Mgx},P.Nodup->P[i]? =some x->vs[i]? =some v->kindOf x≠some .local->
    bindC kindOf (P.zip vs) m x=some v
  | [],_,_,_,_,h,_,_=>by simp at h
  |_::_,[],_,_,_,_,h,_=>by simp at h
  |p::P,w::vs,0,m,nd,h1,h2,hk=>by
    simp at h1 h2;subst h1;subst h2
    show bindC kindOf ((p,w)::P.zip vs) m p=_;unfold bindC;rw[Ng fun v hv=>(xbl.mp nd).1 (xb5 hv).1,xaf hk]
    simp
  |p::P,w::vs,i + 1,m,nd,h1,h2,hk=>by
    show bindC kindOf ((p,w)::P.zip vs) m x=_;unfold bindC;exact Nf (i:=i) (xbl.mp nd).2 (by simpa using h1) (by simpa using h2) hk
noncomputable def start (N:List Str) (vs:List V):St:=vs.map some ++ List.replicate (N.length - vs.length) none
noncomputable def cV (CX:eV) (P:Program) (w:World) (K:Fgx) (mg:Mgx) (base:Heap) (N:List Str) (qual:Str) (scope:Scope) (f:Addr) (cd:Value) (A:Around) (outer:List Env) (s:Shared) (H:Hp) (E:XK):Cx where
 prog:=P
 w:=w
 K:=K
 mg:=mg
 base:=base
 A:=A.deeper (envOfC qual scope s.heap.objs.size f cd)
 N:=N
 s₀:=s
 H₀:=H
 env:=envOfC qual scope s.heap.objs.size f cd
 outer:=outer
 stack:=envOfC qual scope s.heap.objs.size f cd::outer
 ex:=[]
 calm:=true
 fn:=fun _=>true
 pn:=[]
 xe:=fun e s'=>wpAny (model P w) (A.deeper (envOfC qual scope s.heap.objs.size f cd)) (leaving (envOfC qual scope s.heap.objs.size f cd) e) (fun _ s''=>CX outer H s E e s'') (fun e' s''=>CX outer H s E e' s'') s'
theorem GK {sc:Scope}{n:Nat}{x:Str}(h:sc.names.lookup x=some .cell):∃c,(cellsFrom n sc.names []).lookup x=some c:=by
 have q:=xci sc.names n [] (.inl h);exact xcW.mp q
theorem Pu {CX:eV}{P:Program}{w:World}{K:Fgx}{mg:Mgx}{base:Heap}{N ps:List Str}{qual:Str}{scope:Scope}{f:Addr}{cd:Value}{A:Around}{outer:List Env}{s s1:Shared}{H:Hp}{E:XK}{us:List Value}{vs:List V}
  (S:FnScope N ps scope) (hd:A.handled=none) (e0:Env0 P w K mg base A outer s H) (hl:vs.length=ps.length) (r:Vals vs us)
  (x:InCallC s s.heap.objs.size (bindL (envOfC qual scope s.heap.objs.size f cd).kindOf (ps.zip us) fun _=>none) (cellsFrom (s.heap.objs.size + 1) scope.names []) (bindC (envOfC qual scope s.heap.objs.size f cd).kindOf (ps.zip us) fun _=>none) s1):
  Inv (cV CX P w K mg base N qual scope f cd A outer s H E) [] (start N vs) H s1:=by
 have hpl:ps.length<=N.length:=by have:=congrArg List.length S.pre;rw[xbW]at this;omega
 obtain ⟨h1, tk, rfl, hk⟩ := x.done;have noA : ∀ b : Addr, b ∉ (cV CX P w K mg base N qual scope f cd A outer s H E).ex := fun b z => absurd (show b ∈ ([] : List Addr) from z) (by simp);refine ⟨⟨e0.mod,S.kind,rfl,rfl,xai _,fun y z c h1 h2=>?_,fun y hy=>?_,fun y c _ h=>?_,fun _=>hd,Around.frames_deeper e0.frames,.inr ⟨rfl,rfl⟩,fun b z=>absurd z (noA b),e0.bs,e0.bsz,fun b _ _=>noA b,fun b z=>absurd z (noA b),e0.funs,e0.frf⟩,
  rfl,e0.bare,Un.kept hk,⟨_,x.toInCall.ns,fun i y v h1 h2 h3=>?_⟩,fun y c h=>⟨_,x.cell y c h⟩,e0.hok.fresh (xai _),fun y c h=>?_,fun p hp=>absurd (show p∈([]:Pnx) from hp) (by simp),e0.hok.kept hk,?_⟩
 ·exact name_of_addr x.apart (xaS h1) (xaS h2)
 ·have hy:scope.names.lookup y=some .cell\/scope.names.lookup y=some .free:=hy;rcases hy with hy |hy
  ·exact GK hy
  ·exact absurd rfl (S.nofree _ (xaS hy))
 ·exact xb9 (x.above y c (xaS h))
 ·have hi:i<vs.length:=by
   unfold start at h2
   by_cases hi:i<vs.length
   ·exact hi
   ·rw[xaH (by simpa using hi)]at h2;rw[xaU]at h2;split at h2<;>cases h2
  have ha:vs[i]? =some v:=by
   unfold start at h2;rw[xax (by simpa using hi),xan]at h2
   cases e:vs[i]? with
   |none=>rw[e]at h2;cases h2
   |some a=>rw[e]at h2;cases h2;rfl
  obtain⟨u,hu,rv⟩:=r.get ha;have hp:ps[i]? =some y:=by
   rw[<-S.pre,xcX (by omega)];exact h1
  have ndP:ps.Nodup:=by rw[<-S.pre];exact S.nd.sublist (xdI _ _)
  refine⟨u,rv,?_⟩;rcases S.par y (xaw hp) with k |k
  ·exact .inl ⟨k,Nh ndP hp hu k⟩
  ·obtain⟨c,e⟩:=GK (n:=s.heap.objs.size + 1) k;refine .inr ⟨.inl k,c,e,?_⟩;have q:=x.cell y c e;rw[Nf ndP hp hu (by show scope.names.lookup y≠_;rw[k];decide)]at q;exact q
 ·exact .inl (e0.hok.fresh (xb9 (x.above y c (xaS h))))
 ·unfold start;show _=N.length;rw[xak,xap,xbi];omega
theorem O1 {CX:eV}{P:Program}{w:World}{K:Fgx}{mg:Mgx}{base:Heap}{k:Nat}{f:Addr}{name qual:Str}{params:Arguments}{body:List Stmt}{scope:Scope}{dV kV doc pm cdv ct oc:Value}{an od:Option Addr}
    {osl:Array (Option Value)} {N ps:List Str} {sp:Sp} (lk:K.lookup f=some ⟨oc,od,.func (PySem.W.fnOf name qual params body scope dV kV doc pm an cdv ct),osl⟩) (hcd:PySem.W.codeIn K cdv qual=true) (S:FnScope N ps scope)
    (len:∀vs H Q E,sp vs H Q E->vs.length=ps.length)
    (hbody:∀(A:Around) (outer:List Env) (s:Shared) (H:Hp) (vs:List V) (Q:VK) (E:XK),Room k (A.deeper (envOfC qual scope s.heap.objs.size f cdv))->sp vs H Q E->
      ∃t,eF (cV CX P w K mg base N qual scope f cdv A outer s H E) body t/\t {nx:=fun _ H'=>Q .non H',rt:=Q} (start N vs) H):
    FnOk P w K mg base CX (k + 1) f (PySem.W.fnOf name qual params body scope dV kV doc pm an cdv ct) ps sp:=by
  refine⟨len,fun A outer s H args us vs Q E hr e0 hb r hsp=>?_⟩;have hl:=len _ _ _ _ hsp;have KX:K.In s.heap:=e0.mod.kin.keeps fun b o e=>(e0.bs b o e).1;have lim:s.heap.NoLimit:=e0.mod.nolimit.keeps fun b o e=>(e0.bs b o e).1;have hkind:∀y∈ps.zip us,scope.names.lookup y.1=some .local\/(scope.names.lookup y.1=some .cell/\((cellsFrom (s.heap.objs.size + 1) scope.names []).lookup y.1).isSome=true):=fun⟨n,v⟩ hy=>by
    rcases S.par n (xb5 hy).1 with q |q
    · exact .inl q
    · exact .inr ⟨q,xci _ _ _ (.inl q)⟩
  refine xcn hr.depth (KX _ _ lk) rfl S.co S.gen rfl (xdB KX hcd) (hb _ _ _ _ ?_);refine xcN S.kind hkind fun env he s1 x=>?_;subst he;refine⟨lim.keeps x.toInCall.keep,codeAny_func ?_⟩;obtain⟨t,ht,hq⟩:=hbody A outer s H vs Q E (hr.deeper _) hsp;have I:Inv (cV CX P w K mg base N qual scope f cdv A outer s H E) [] (start N vs) H s1:=Pu S hr.hd e0 hl r x;refine xaM (ht [] s1 (start N vs) H _ I hq) (fun fl s' hs=>?_) fun e s' hs=>hs;have fin:∀{σ':St} {H':Hp} {v:V} {u:Value},Inv (cV CX P w K mg base N qual scope f cdv A outer s H E) [] σ' H' s'->RelV v u->Q v H'->CE outer P w H s Q u s':=
    fun {σ' H' v u} J rv q=>⟨v,H',J.os,J.bare,J.base,J.hok,rv,q⟩
  cases fl with
  |ret u=>
    obtain⟨v,σ',H',J,rv,q⟩:=hs;exact fin J rv q
  |next=>
    obtain⟨σ',H',J,q⟩:=hs;exact fin (v:=V.non) (u:=Value.none) J rfl q
  |brk=>
    obtain⟨_,_,_,q⟩:=hs;exact False.elim q
  |cont=>
    obtain⟨_,_,_,q⟩:=hs;exact False.elim q
section
variable {X:Cx}{x:Str}{p pos:Pos}{e:Expr}{es:List Expr}{t:TA}{id T:String}{r:List V->Hp->VK->Prop}
noncomputable def LK (r:List V->Hp->VK->Prop) (t:TA):TE:=fun σ H Q=>t σ H fun vs H1=>r vs H1 Q
theorem J1 (hc:dN X (.builtin id) r)(hg:Gl X x)(hm:X.mg x=none)(hv:bootBuiltins x=some (.builtin id))(ha:PA X (e::es) t)(hn:x≠"__name__":=by decide)(hdb:(x==("__debug__":Str))=false:=by decide)
  (he:starEach (e::es) X.env=(false,eval e X.env)::starEach es X.env:=by rfl) (hpl:(backTo pos (starEach es X.env)).any (·.1)=false:=by rfl):PE X (.Call (.Name x p) (e::es) [] pos) (LK r t):=by
 intro pins s σ H Q I h;refine xbt (w5 I hg hm hv ?_ hn hdb);exact PyProof.Rows.callWith_builtin1 (aP (ha pos pins s σ H _ I h) fun us s1 ⟨vs,H1,I1,r1,q1⟩=>hc pins s1 σ H1 vs us Q I1 r1 q1) he hpl
theorem Rh (hc:dN X (.type T) r)(hg:Gl X x)(hm:X.mg x=none)(hv:bootBuiltins x=some (.type T))(ha:PA X (e::es) t)(hn:x≠"__name__":=by decide)(hdb:(x==("__debug__":Str))=false:=by decide)
  (he:starEach (e::es) X.env=(false,eval e X.env)::starEach es X.env:=by rfl) (hpl:(backTo pos (starEach es X.env)).any (·.1)=false:=by rfl):PE X (.Call (.Name x p) (e::es) [] pos) (LK r t):=by
 intro pins s σ H Q I h;refine xbt (w5 I hg hm hv ?_ hn hdb);exact xbs (aP (ha pos pins s σ H _ I h) fun us s1 ⟨vs,H1,I1,r1,q1⟩=>hc pins s1 σ H1 vs us Q I1 r1 q1) he hpl
end
end L2
namespace HT
open PySem PyProof.Rows
section
open PySem.SeqAt
open PySem.AutoSeq1 (wpAny_loadPart')
open PySem.MeetsSeq PySem.MeetsSeq2 PySem.MeetsSeq3
end
section
variable {prog:Program}{w:World}{A:Around}{E:Value->Shared->Prop}{s:Shared}
noncomputable def dJ (n d:Nat):Option Int->Nat
 |none=>d
 |some v=>if v<0 then(v + (n:Int)).toNat else min v.toNat n
theorem zbj (n d:Nat):dJ n d none=d:=rfl
theorem zbE (n d k:Nat):dJ n d (some (k:Int))=min k n:=by
 show(if (k:Int)<0 then((k:Int) + (n:Int)).toNat else min (k:Int).toNat n)=min k n
 rw[xaf (by omega),xce]
end
end HT
namespace L2
open PySem PySem.Spec PyProof.Rows
abbrev TO:=St->Hp->(Option Int->Hp->Prop)->Prop
def PO (X:Cx)(e:Option Expr)(t:TO):Prop:=
 ∀(pins:Pnx) (s:Shared) (σ:St) (H:Hp) (Q:Option Int->Hp->Prop),Inv X pins σ H s->t σ H Q->
  wpAny (model X.prog X.w) X.A (evalPart e X.env) (fun u s'=>∃o H',Inv X pins σ H' s'/\IsPart u o/\Q o H') X.xe s
def zbl:TO:=fun _ H Q=>Q none H
noncomputable def zel (t:TE):TO:=fun σ H Q=>t σ H fun x H1=>∃i,x=.int i/\Q (some i) H1
section
variable {X:Cx}{e:Expr}{te:TE}{lo hi:Option Expr}{tl th:TO}{pos p2:Pos}
theorem zbX:PO X none zbl:=by
 intro pins s σ H Q I h;rw[evalPart_none];exact xaj ⟨none,H,I,.none,h⟩
theorem zbF (h:PE X e te):PO X (some e) (zel te):=by
 intro pins s σ H Q I hw;rw[evalPart_some];refine aP (h pins s σ H _ I hw) fun u s1 ⟨x,H1,I1,r1,q1⟩=>?_;obtain⟨i,rfl,q⟩:=q1;obtain⟨t,rfl⟩:=r1;exact⟨some i,H1,I1,.int i t,q⟩
def tK (X:Cx)(r:V->Option Int->Option Int->Hp->VK->Prop):Prop:=
 ∀(pins:Pnx) (s:Shared) (σ:St) (H:Hp) (x:V) (v vl vu:Value) (lo hi:Option Int) (sl:Addr) (Q:VK),Inv X pins σ H s->RelV x v->s.heap.IsSliceOf sl vl vu .none->IsPart vl lo->IsPart vu hi->r x lo hi H Q->
  ∃T id,typeLookup (.type T) "__getitem__"=pure (some (.builtin id))/\s.TypeIs v T/\wpAny (model X.prog X.w) X.A (getItem v (.ref sl)) (EP X pins σ Q) X.xe s
theorem tK.or (h:tK X r)(h':tK X r'):tK X (fun x lo hi H Q=>r x lo hi H Q\/r' x lo hi H Q):=by
 intro pins s σ H x v vl vu lo hi sl Q I rx hs pl pu q;rcases q with q |q
 ·exact h pins s σ H x v vl vu lo hi sl Q I rx hs pl pu q
 ·exact h' pins s σ H x v vl vu lo hi sl Q I rx hs pl pu q
noncomputable def tSl (r:V->Option Int->Option Int->Hp->VK->Prop) (te:TE) (tl th:TO):TE:=fun σ H Q=>te σ H fun x H1=>tl σ H1 fun l H2=>th σ H2 fun u H3=>r x l u H3 Q
theorem zbd (hr:tK X r)(he:PE X e te)(hl:PO X lo tl)(hu:PO X hi th):PE X (.Subscript e (.Slice lo hi none p2) pos) (tSl r te tl th):=by
 intro pins s σ H Q I h;refine Subscript_ (aP (he pins s σ H _ I h) fun v s1 ⟨x,H1,I1,r1,q1⟩=>?_);refine wpAny_Slice (aP (hl pins s1 σ H1 _ I1 q1) fun vl s2 ⟨l,H2,I2,pl,q2⟩=>aP (hu pins s2 σ H2 _ I2 q2) fun vu s3 ⟨u,H3,I3,pu,q3⟩=>?_);rw[evalPart_none];refine xaj ?_;have I4:Inv X pins σ H3 {s3 with heap:=s3.heap.push {cls:=.type "slice",data:=.fields #[vl,vu,.none]}}:=I3.kept (t':=s3.toks) fun b ob q=>xaa _ q;obtain⟨T,id,hT,ht,hg⟩:=hr pins {s3 with heap:=s3.heap.push {cls:=.type "slice",data:=.fields #[vl,vu,.none]}} σ H3 x v vl vu l u s3.heap.objs.size Q I4 r1 (Heap.IsSliceOf.new ..) pl pu q3;show wpAny (model X.prog X.w) X.A (subscriptTail e (.Slice lo hi none p2) v (.ref s3.heap.objs.size)) (EP X pins σ Q) X.xe {s3 with heap:=s3.heap.push {cls:=.type "slice",data:=.fields #[vl,vu,.none]}};exact tail_any (ops:=[.ref s3.heap.objs.size,v]) ht hT hg (by with_unfolding_all rfl)
noncomputable def i_ (xs:List V) (lo hi:Option Int):List V:=(xs.drop (HT.dJ xs.length 0 lo)).take (HT.dJ xs.length xs.length hi - HT.dJ xs.length 0 lo)
theorem V2 (xs:List V)(lo hi:Option Int):(i_ xs lo hi).length<=xs.length:=by
 unfold i_;rw[xbW,xcY];omega
end
noncomputable def pJ (n:Nat) (i:Int):Option Nat:=if 0<=i then(if i<n then some i.toNat else none) else if -(n:Int)<=i then some (i + n).toNat else none
noncomputable def bR {α:Type} (xs:List α) (i:Int):Option α:=(pJ xs.length i).bind fun j=>xs[j]?
theorem W4 (h:pJ n i=some j):seqIndex? i n=some j/\j<n/\ -(n:Int)<=i/\i<n:=by
 unfold pJ at h
 by_cases h0:0<=i
 ·rw[xab h0]at h
  by_cases h1:i<n
  ·rw[xab h1]at h;have e:i.toNat=j:=xay h;exact⟨by rw[seqIndex_of h0 h1,e],by omega,by omega,h1⟩
  ·rw[xaf h1]at h;cases h
 ·rw[xaf h0]at h
  by_cases h1: -(n:Int)<=i
  ·rw[xab h1]at h;have e:(i + n).toNat=j:=xay h;exact⟨by rw[seqIndex_neg (by omega) h1,e],by omega,h1,by omega⟩
  ·rw[xaf h1]at h;cases h
theorem FZ (h:bR xs i=some v):∃j,seqIndex? i xs.length=some j/\xs[j]? =some v/\j<xs.length/\ -(xs.length:Int)<=i/\i<xs.length:=by
  unfold bR at h
  cases e:pJ xs.length i with
  |none=>rw[e]at h;cases h
  |some j=>
    rw[e]at h;obtain⟨h1,h2,h3,h4⟩:=W4 e;exact⟨j,h1,h,h2,h3,h4⟩
theorem mY {α:Type}{xs:List α}{j:Nat}{v:α}(h:xs[j]? =some v):bR xs (j:Int)=some v:=by
 have hj:j<xs.length:=(xad.mp h).1;have e:pJ xs.length (j:Int)=some j:=by
  unfold pJ;rw[xab (by omega),xab (by omega)];simp
 unfold bR;rw[e];exact h
def Ft (b:Expr):Prop:=∀o i,subscripted b false o i=operate [o,i] (getItem o i)
def mV (X:Cx)(r:R2):Prop:=
 ∀(value slice:Expr) (pins:Pnx) (s:Shared) (σ:St) (H:Hp) (x y:V) (v u:Value) (Q:VK),Inv X pins σ H s->RelV x v->RelV y u->r x y H Q->
  subscripted slice false v u=operate [v,u] (getItem v u)->wpAny (model X.prog X.w) X.A (subscriptTail value slice v u) (EP X pins σ Q) X.xe s
def wF (X:Cx)(id:String)(r:V->List V->Hp->VK->Prop):Prop:=
 ∀(pins:Pnx) (s:Shared) (σ:St) (H:Hp) (x:V) (xs:List V) (v:Value) (us:List Value) (Q:VK),Inv X pins σ H s->RelV x v->Vals xs us->r x xs H Q->
  wpAny (model X.prog X.w) X.A (call (.builtin id) (v::us)) (EP X pins σ Q) X.xe s
section
variable {X:Cx}{a b:Expr}{ta tb:TE}{pos:Pos}
theorem mV.or (h:mV X r)(h':mV X r'):mV X (fun x y H Q=>r x y H Q\/r' x y H Q):=by
 intro value slice pins s σ H x y v u Q I rx ry q hs;rcases q with q |q
 ·exact h value slice pins s σ H x y v u Q I rx ry q hs
 ·exact h' value slice pins s σ H x y v u Q I rx ry q hs
theorem Z1 (hr:mV X r)(ha:PE X a ta)(hb:PE X b tb)(hs:Ft b):PE X (.Subscript a b pos) (yd r ta tb):=by
 intro pins s σ H Q I h;exact Subscript_ (tO ha hb I h fun v u s2 x y H2 I2 rx ry q=>hr a b pins s2 σ H2 x y v u Q I2 rx ry q (hs _ _))
noncomputable def vg (K:Fgx):R2:=fun x y H Q=>∃p xs i v,x=.ref p/\y=.int i/\bI K H p xs/\bR xs i=some v/\Q v H
noncomputable def vm (K:Fgx):R2:=fun x y H Q=>∃p xs i v,x=.ref p/\y=.int i/\dZ K H p xs/\bR xs i=some v/\Q v H
noncomputable def vh:R2:=fun x y H Q=>∃z i c,x=.str z/\y=.int i/\z.length<=sizeLine/\bR z.cps.toList i=some c/\Q (.str ⟨#[c]⟩) H
theorem W5:mV X (vg X.K):=by
 intro value slice pins s σ H x y v u Q I rx ry h hs;obtain⟨p,xs,i,z,rfl,rfl,hq,he,q⟩:=h;cases rx;obtain⟨t,rfl⟩:=ry;obtain⟨its,r,pl,hz⟩:=I.list hq;obtain⟨j,h1,h2,h3,h4,h5⟩:=FZ he;obtain⟨w,ew,rw'⟩:=r.get h2;have hl:=r.length;have hn:=pL;have fin:EP X pins σ Q w s:=⟨z,H,I,rw',q⟩
 by_cases h0:0<=i
 ·have hj:i.toNat=j:=by
   rw[seqIndex_of h0 h5]at h1;exact xay h1
  exact item_listR pl.isList h0 (by omega) (by rw[hj];simpa using ew) fin hs
 ·have hj:(i + (its.toArray.size:Int)).toNat=j:=by
   rw[seqIndex_neg (by omega) h4]at h1;rw[xah, <-hl];exact xay h1
  exact subscriptTail_builtinR (x:=w) pl.isList.typeIs slot_list_getitem.lookup
   (wpAny_getItem_list_neg (Q:=fun r s'=>r=w/\EP X pins σ Q r s') pl.isList (by omega) (by rw[xah]<;>omega) (by omega) (by rw[hj];simpa using ew) ⟨rfl,fin⟩) hs
theorem W7:mV X (vm X.K):=by
 intro value slice pins s σ H x y v u Q I rx ry h hs;obtain⟨p,xs,i,z,rfl,rfl,hq,he,q⟩:=h;cases rx;obtain⟨t,rfl⟩:=ry;obtain⟨its,r,pl,hz⟩:=I.tuple hq;obtain⟨j,h1,h2,h3,h4,h5⟩:=FZ he;obtain⟨w,ew,rw'⟩:=r.get h2;have hl:=r.length;have hn:=pL;have fin:EP X pins σ Q w s:=⟨z,H,I,rw',q⟩;exact subscriptTail_builtinR (x:=w) pl.typeIs xcI.lookup
  (getItem_tuple (j:=j) (Q:=fun r s'=>r=w/\EP X pins σ Q r s') pl (by omega) (by omega) (by rw[xah, <-hl];exact h1) (by simpa using ew) ⟨rfl,fin⟩) hs
theorem W6:mV X vh:=by
 intro value slice pins s σ H x y v u Q I rx ry h hs;obtain⟨z,i,c,rfl,rfl,hz,he,q⟩:=h;obtain⟨t,rfl⟩:=rx;obtain⟨t',rfl⟩:=ry;obtain⟨j,h1,h2,h3,h4,h5⟩:=FZ he;have hl:z.cps.toList.length=z.length:=by simp[Str.length]
 rw [hl] at h1 h4 h5;have hn := pL;exact tail_any (typeIs_str s z t) slot_str_getitem.lookup (getItem_str (c := c) (by
  have e1:decide (i< -(2 ^ 63:Int))=false:=xaE (by omega);have e2:decide (i >=2 ^ 63)=false:=xaE (by omega);rw[e1,e2,Bool.or_false]) (by rw[h1];simpa using h2) ⟨.str ⟨#[c]⟩,H,I.tok _,⟨_,rfl⟩,q⟩) hs
noncomputable def Kg (K:Fgx):R2:=fun x y H Q=>vg K x y H Q\/vm K x y H Q\/vh x y H Q
theorem zas (lo hi:Option Int)(n:Nat):(sliceBounds lo hi none n).1=((HT.dJ n 0 lo:Nat):Int)/\(sliceBounds lo hi none n).2.1=((HT.dJ n n hi:Nat):Int)/\(sliceBounds lo hi none n).2.2=1:=by
  refine⟨?_,?_,rfl⟩
  · cases lo with
    |none=>simp[sliceBounds,HT.dJ]
    |some i=>
      simp only[sliceBounds,HT.dJ,Option.getD_none,show(1:Int) > 0 by decide,xaP]
      by_cases h:i<0
      · simp only[h,xaP]<;>omega
      · simp only[h,xcC]<;>omega
  · cases hi with
    |none=>simp[sliceBounds,HT.dJ]
    |some i=>
      simp only[sliceBounds,HT.dJ,Option.getD_none,show(1:Int) > 0 by decide,xaP]
      by_cases h:i<0
      · simp only[h,xaP]<;>omega
      · simp only[h,xcC]<;>omega
theorem zam (its:List Value)(lo hi:Option Int):slicePick its.toArray lo hi none=((its.drop (HT.dJ its.length 0 lo)).take (HT.dJ its.length its.length hi - HT.dJ its.length 0 lo)).toArray:=by
 obtain⟨h1,h2,h3⟩:=zas lo hi its.toArray.size;unfold slicePick;rw[h1,h2,h3];simp only[sliceRange_one,pick_run,xah]<;>rfl
def Kl (K:Fgx):V->Option Int->Option Int->Hp->VK->Prop:=fun x lo hi H Q=>∃a xs,x=.ref a/\bI K H a xs/\∀p,H p=none->Q (.ref p) (upd H p (.lst (i_ xs lo hi)))
theorem zbz:tK X (Kl X.K):=by
 intro pins s σ H x v vl vu lo hi sl Q I rx hs pl pu h;obtain⟨a,xs,rfl,hx,q⟩:=h;cases rx;obtain⟨its,r,ht,hz⟩:=I.list hx;have hlen:=r.length;refine⟨"list",_,slot_list_getitem.lookup,ht.isList.typeIs,?_⟩;refine wpAny_getItem_list_slice ht.isList hs pl pu .none (by simp) ?_ (by rw[xah]<;>omega)
 rw[zam, <-hlen];refine⟨.ref s.heap.objs.size,_,I.laid (t':=s.toks) (o:=.lst (i_ xs lo hi)) (fun b ob q=>xaa _ q) (xai _) ?_,rfl,q _ (I.hok.fresh (xai _))⟩;exact⟨xaB (V2 xs lo hi) hz,_,0,(r.drop (HT.dJ xs.length 0 lo)).take (HT.dJ xs.length xs.length hi - HT.dJ xs.length 0 lo),xav _ rfl⟩
noncomputable def m7:V->Bool
 |.non=>true
 |.bl _=>true
 |.int _=>true
 |.str _=>true
 |_=>false
noncomputable def pB:V->V->Bool
 |.non,.non=>true
 |.bl a,.bl b=>a==b
 |.bl a,.int b=>(if a then 1 else 0)==b
 |.int a,.bl b=>a==(if b then 1 else 0)
 |.int a,.int b=>a==b
 |.str a,.str b=>a==b
 |_,_=>false
theorem Wa (ry:RelV y u)(rx:RelV x v)(fy:m7 y=true)(fx:m7 x=true):SeqAt.EqAt A s u v (pB y x):=by
  cases y with
  |non=>
    cases ry
    cases x with
    |non=>cases rx;exact xcr _
    |bl b=>cases rx;exact SeqAt.EqAt.none_bool b
    |int b=>obtain⟨t,rfl⟩:=rx;exact SeqAt.EqAt.none_int b t
    |str b=>obtain⟨t,rfl⟩:=rx;exact SeqAt.EqAt.none_str b t
    |_=>exact absurd (show false=true from fx) xat
  |bl a=>
    cases ry
    cases x with
    |non=>cases rx;exact SeqAt.EqAt.bool_none a
    |bl b=>cases rx;exact SeqAt.EqAt.bool_bool a b
    |int b=>obtain⟨t,rfl⟩:=rx;exact SeqAt.EqAt.bool_int a b t
    |str b=>obtain⟨t,rfl⟩:=rx;exact SeqAt.EqAt.bool_str a b t
    |_=>exact absurd (show false=true from fx) xat
  |int a=>
    obtain⟨t',rfl⟩:=ry
    cases x with
    |non=>cases rx;exact SeqAt.EqAt.int_none a t'
    |bl b=>cases rx;exact SeqAt.EqAt.int_bool a t' b
    |int b=>obtain⟨t,rfl⟩:=rx;exact SeqAt.EqAt.int_int a t' b t
    |str b=>obtain⟨t,rfl⟩:=rx;exact xcG a t' b t
    |_=>exact absurd (show false=true from fx) xat
  |str a=>
    obtain⟨t',rfl⟩:=ry
    cases x with
    |non=>cases rx;exact SeqAt.EqAt.str_none a t'
    |bl b=>cases rx;exact SeqAt.EqAt.str_bool a t' b
    |int b=>obtain⟨t,rfl⟩:=rx;exact xcH a t' b t
    |str b=>obtain⟨t,rfl⟩:=rx;exact SeqAt.EqAt.str_str a t' b t
    |_=>exact absurd (show false=true from fx) xat
  |_=>exact absurd (show false=true from fy) xat
noncomputable def gA (x:V) (u:Value):Bool:=match u with
 |.none=>pB .non x
 |.bool b=>pB (.bl b) x
 |.int i _=>pB (.int i) x
 |.str z _=>pB (.str z) x
 |_=>false
theorem Ou (r:RelV y u)(f:m7 y=true):gA x u=pB y x:=by
 cases y with
 |non=>cases r;rfl
 |bl b=>cases r;rfl
 |int i=>obtain⟨t,rfl⟩:=r;rfl
 |str z=>obtain⟨t,rfl⟩:=r;rfl
 |_=>exact absurd (show false=true from f) xat
theorem yx:∀{xs:List V} {us:List Value},Vals xs us->xs.all m7=true->us.any (gA x)=xs.any fun y=>pB y x
  |_,_,.nil,_=>rfl
  |y::xs,u::us,.cons r t,f=>by
    rw[xbA,xam]at f;rw[xbH,xbH,Ou r f.1,yx t f.2]
theorem zM (rx:RelV x v)(fx:m7 x=true):∀{xs:List V} {us:List Value},Vals xs us->xs.all m7=true->∀u∈us,SeqAt.EqAt A s u v (gA x u)
  |_,_,.nil,_=>fun u hu=>by cases hu
  |y::xs,u::us,.cons r t,f=>fun u' hu=>by
    rw[xbA,xam]at f;rcases xaJ.mp hu with rfl |hu
    · rw[Ou r f.1];exact Wa r rx f.1 fx
    · exact zM rx fx t f.2 u' hu
def inV (x:V)(xs:List V):Bool:=xs.any fun y=>pB y x
noncomputable def Dh (K:Fgx) (neg:Bool):R2:=fun x y H Q=>∃p xs,y=.ref p/\(bI K H p xs\/dZ K H p xs)/\m7 x=true/\xs.all m7=true/\Q (.bl (if neg then !inV x xs else inV x xs)) H
theorem Zq:bQ X (compareOp .In) (Dh X.K false):=by
 intro pins s σ H x y v u Q I rx ry h;obtain⟨p,xs,rfl,hq,fx,fs,q⟩:=h;cases ry;rcases hq with hq |hq
 ·obtain⟨its,r,pl,hz⟩:=I.list hq;refine SeqAt.in_listAt (gA x) pl.isList (fun w hw=>zM rx fx r fs w (by simpa using hw)) ⟨.bl _,H,I,rfl,?_⟩;rw[show its.toArray.any (gA x)=its.any (gA x) by simp,yx r fs];exact q
 ·obtain⟨its,r,pl,hz⟩:=I.tuple hq;refine SeqAt.in_tupleAt (gA x) pl (fun w hw=>zM rx fx r fs w (by simpa using hw)) ⟨.bl _,H,I,rfl,?_⟩;rw[show its.toArray.any (gA x)=its.any (gA x) by simp,yx r fs];exact q
theorem ZC:bQ X (compareOp .NotIn) (Dh X.K true):=by
 intro pins s σ H x y v u Q I rx ry h;obtain⟨p,xs,rfl,hq,fx,fs,q⟩:=h;cases ry;rcases hq with hq |hq
 ·obtain⟨its,r,pl,hz⟩:=I.list hq;refine SeqAt.notIn_listAt (gA x) pl.isList (fun w hw=>zM rx fx r fs w (by simpa using hw)) ⟨.bl _,H,I,rfl,?_⟩;rw[show its.toArray.any (gA x)=its.any (gA x) by simp,yx r fs];exact q
 ·obtain⟨its,r,pl,hz⟩:=I.tuple hq;refine SeqAt.notIn_tupleAt (gA x) pl (fun w hw=>zM rx fx r fs w (by simpa using hw)) ⟨.bl _,H,I,rfl,?_⟩;rw[show its.toArray.any (gA x)=its.any (gA x) by simp,yx r fs];exact q
theorem Vv:dN X (.builtin "len") (fun xs H Q=>∃p ys,xs=[.ref p]/\(bI X.K H p ys\/dZ X.K H p ys)/\Q (.int ys.length) H):=by
 intro pins s σ H xs us Q I r h;obtain⟨p,ys,rfl,hq,q⟩:=h;obtain⟨u,rfl,rx⟩:=vals1 r;cases rx;have hn:=pL;rcases hq with hq |hq
 ·obtain⟨its,r',pl,hz⟩:=I.list hq;have hlen:=r'.length;exact Calls.call_len_list pl.isList (by simp only[xah]<;>omega) ⟨.int ys.length,H,I.tok _,⟨s.toks + 1,by rw[xah,hlen]⟩,q⟩
 ·obtain⟨its,r',pl,hz⟩:=I.tuple hq;have hlen:=r'.length;exact len_tuple pl (by simp only[xah]<;>omega) ⟨.int ys.length,H,I.tok _,⟨s.toks + 1,by rw[xah,hlen]⟩,q⟩
theorem Vw:dN X (.builtin "len") (fun xs H Q=>∃z,xs=[.str z]/\z.length<=sizeLine/\Q (.int z.length) H):=by
 intro pins s σ H xs us Q I r h;obtain⟨z,rfl,hz,q⟩:=h;obtain⟨u,rfl,t,rfl⟩:=vals1 r;have hn:=pL;exact len_str (by omega) ⟨.int z.length,H,I.tok _,⟨_,rfl⟩,q⟩
theorem dN.or (h:dN X f r)(h':dN X f r'):dN X f (fun xs H Q=>r xs H Q\/r' xs H Q):=by
 intro pins s σ H xs us Q I rs q;rcases q with q |q
 ·exact h pins s σ H xs us Q I rs q
 ·exact h' pins s σ H xs us Q I rs q
theorem Vx:dN X (.type "list") (fun xs H Q=>∃p ys,xs=[.ref p]/\(bI X.K H p ys\/dZ X.K H p ys)/\∀l,H l=none->Q (.ref l) (upd H l (.lst ys))):=by
 intro pins s σ H xs us Q I r h;obtain⟨p,ys,rfl,hq,q⟩:=h;obtain⟨u,rfl,rx⟩:=vals1 r;cases rx;have fin:∀(its:List Value),Vals ys its->ys.length<=sizeLine->∀(h':Heap) (c':Nat),(∀b o',s.heap.get? b=some o'->h'.get? b=some o')->
   h'.get? s.heap.objs.size=some {cls:=.type "list",dict:=none,data:=.seq its.toArray c',slots:= #[]}->EP X pins σ Q (.ref s.heap.objs.size) {s with heap:=h'}:=fun its r' hz h' c' kp e=>
  ⟨.ref s.heap.objs.size,_,I.laid (t':=s.toks) kp (xai _) (show cX X.prog X.w _ h' _ (.lst ys) from⟨hz,its,c',r',e⟩),rfl,q _ (I.hok.fresh (xai _))⟩
 rcases hq with hq |hq
 ·obtain⟨its,r',pl,hz⟩:=I.list hq;have hlen:=r'.length;obtain⟨o,ho,hc,n,hd⟩:=pl.isList;exact call_list_seq p (.inl rfl) ho hc hd (fun h' c' kp e=>fin its r' hz h' c' kp e) (by simp only[xah]<;>omega)
 ·obtain⟨its,r',pl,hz⟩:=I.tuple hq;have hlen:=r'.length;obtain⟨o,ho,hc,n,hd⟩:=pl;exact call_list_seq p (.inr rfl) ho hc hd (fun h' c' kp e=>fin its r' hz h' c' kp e) (by simp only[xah]<;>omega)
theorem Nt:dN X (.type "tuple") (fun xs H Q=>∃p ys,xs=[.ref p]/\((bI X.K H p ys/\∀l,H l=none->Q (.ref l) (upd H l (.tup ys)))\/(dZ X.K H p ys/\Q (.ref p) H))):=by
 intro pins s σ H xs us Q I r h;obtain⟨p,ys,rfl,h⟩:=h;obtain⟨u,rfl,rx⟩:=vals1 r;cases rx;rcases h with⟨hq,q⟩ |⟨hq,q⟩
 ·obtain⟨its,r',pl,hz⟩:=I.list hq;have hlen:=r'.length;refine call_tuple_list pl.isList (fun h' kp=>?_) (by simp only[xah]<;>omega)
  have I1:Inv X pins σ H {s with heap:=h'}:=I.kept (t':=s.toks) kp;have I2:Inv X pins σ (upd H h'.objs.size (.tup ys)) {s with heap:=h'.push {cls:=.type "tuple",data:=.seq its.toArray}}:=
   I1.laid (t':=s.toks) (fun b o e=>xaa _ e) (xai _) (show cX X.prog X.w _ _ _ (.tup ys) from⟨hz,its,r',IsTup.new _ _⟩)
  exact⟨.ref h'.objs.size,_,I2,rfl,q _ (I1.hok.fresh (xai _))⟩
 ·obtain⟨its,r',pl,hz⟩:=I.tuple hq;exact call_tuple_same pl ⟨.ref p,H,I,rfl,q⟩
def Mv (K:Fgx)(T:String)(x:V)(H:Hp):Prop:=match x with
 |.str _=>T="str"
 |.int _=>T="int"
 |.ref p=>(T="list"/\∃xs,bI K H p xs)\/(T="tuple"/\∃o,K.lookup p=some o/\o.cls=.type "tuple"/\o.dict=none)\/
   (T="dict"/\((∃kvs,H p=some (.dK kvs))\/∃kvs,H p=some (.dT kvs)))\/(T="set"/\∃S n,H p=some (.set S n))
 |_=>False
theorem U6 (I:Inv X pins σ H s)(r:RelV x v)(ty:Mv X.K T x H):
    s.TypeIs v T/\∀a,v=.ref a->∃ob,s.heap.get? a=some ob/\ob.dict=none:=by
  cases x with
  |str z=>
    obtain⟨t,rfl⟩:=r;cases (show T="str" from ty);exact⟨typeIs_str s z t,fun _ e=>nomatch e⟩
  |int i=>
    obtain⟨t,rfl⟩:=r;cases (show T="int" from ty);exact⟨typeIs_int s i t,fun _ e=>nomatch e⟩
  |ref p=>
    cases r;rcases ty with⟨rfl,xs,hq⟩ |⟨rfl,o,hk,hc,hd⟩ |⟨rfl,hk⟩ |⟨rfl,S,n,hk⟩
    · obtain⟨its,_,pl,_⟩:=I.list hq;refine⟨pl.isList.typeIs,fun a e=>?_⟩;cases e;obtain⟨o,n,e,c,hd,_⟩:=pl;exact⟨o,e,hd⟩
    · refine⟨⟨o,I.kIn p o hk,hc⟩,fun a e=>?_⟩;cases e;exact⟨o,I.kIn _ o hk,hd⟩
    · have z:∃o,s.heap.get? p=some o/\o.ExactDict:=by
        rcases hk with⟨kvs,hk⟩ |⟨kvs,hk⟩
        · obtain⟨_,_,_,_,o,_,_,e,ex,_⟩:=I.hok p _ hk;exact⟨o,e,ex⟩
        · obtain⟨_,_,_,_,o,_,_,e,ex,_⟩:=I.hok p _ hk;exact⟨o,e,ex⟩
      obtain⟨o,e,ex⟩:=z;refine⟨⟨o,e,ex.1⟩,fun a e2=>?_⟩;cases e2;exact⟨o,e,ex.2.1⟩
    · obtain⟨o,_,_,_,e,ex,_⟩:=I.hok p _ hk;refine⟨⟨o,e,ex.1⟩,fun a e2=>?_⟩;cases e2;exact⟨o,e,ex.2.1⟩
  |_=>exact False.elim ty
noncomputable def Ly (K:Fgx) (T:String) (r:V->List V->Hp->VK->Prop) (to:TE):TE:=fun σ H Q=>to σ H fun x H1=>Mv K T x H1/\r x [] H1 Q
noncomputable def tBM (K:Fgx) (T:String) (r:V->List V->Hp->VK->Prop) (to:TE) (t:TA):TE:=fun σ H Q=>to σ H fun x H1=>Mv K T x H1/\t σ H1 fun xs H2=>r x xs H2 Q
variable {o e:Expr}{es:List Expr}{to:TE}{t:TA}{name:Str}{apos cpos:Pos}{T id:String}{r:V->List V->Hp->VK->Prop}
theorem Rg (pa:PlainAttrs T)(slot:Slot T name id)(hty:typeOf (.builtin id)=pure (.type "method_descriptor"))(hm:wF X id r)(ho:PE X o to)
  (hbase:attributeBase o name X.env (eval o X.env)=eval o X.env:=by rfl) (hline:(apos.endLine==cpos.line)=true:=by rfl):PE X (.Call (.Attribute o name apos) [] [] cpos) (Ly X.K T r to):=by
 intro pins s σ H Q I h;refine wpAny_Call_method0_late hbase hline (aP (ho pins s σ H _ I h) fun v s1 ⟨x,H1,I1,r1,ty,q1⟩=>?_);obtain⟨h1,h2⟩:=U6 I1 r1 ty;exact⟨T,id,pa,slot,hty,h1,h2,Calls.callWith_builtin rfl (PySem.evalArgs_none (hm pins s1 σ H1 x [] v [] Q I1 r1 .nil q1))⟩
theorem Dc (pa:PlainAttrs T)(slot:Slot T name id)(hty:typeOf (.builtin id)=pure (.type "method_descriptor"))(hm:wF X id r)(ho:PE X o to)(ha:PA X (e::es) t)
  (hbase:attributeBase o name X.env (eval o X.env)=eval o X.env:=by rfl)
  (hfew : ((backTo cpos (starEach (e::es) X.env)).all (fun x=> !x.1) && (backToKw cpos (keywordEach [] X.env)).all (fun x=>x.1.isSome)
   && decide ((e::es).length + ([]:List Keyword).length + (if ([]:List Keyword).isEmpty then 0 else 1)<30))=true:=by rfl)
  (hline:(apos.endLine==cpos.line)=true:=by rfl) (hs:starEach (e::es) X.env=(false,eval e X.env)::starEach es X.env:=by rfl) (hplain:(backTo cpos (starEach es X.env)).any (·.1)=false:=by rfl):
  PE X (.Call (.Attribute o name apos) (e::es) [] cpos) (tBM X.K T r to t):=by
 intro pins s σ H Q I h;refine wpAny_Call_method_late hbase hfew hline rfl (aP (ho pins s σ H _ I h) fun v s1 ⟨x,H1,I1,r1,ty,q1⟩=>?_);obtain⟨h1,h2⟩:=U6 I1 r1 ty;refine⟨T,id,pa,slot,hty,h1,h2,?_⟩;have hA:=ha cpos pins s1 σ H1 _ I1 q1;rw[hs]at hA ⊢;refine Calls.callWith_builtin (by show(false || (backTo cpos (starEach es X.env)).any (·.1))=false;rw[hplain]<;>rfl) (Calls.evalArgs_plain ?_)
 exact aP hA fun us s2 ⟨vs,H2,I2,r2,q2⟩=>hm pins s2 σ H2 x vs v us Q I2 r1 r2 q2
end
def Fl (X:Cx)(id:String)(r:V->List V->Hp->VK->Prop):Prop:=
 ∀(pins:Pnx) (s:Shared) (σ:St) (H:Hp) (x:V) (xs:List V) (v:Value) (us:List Value) (Q:VK),Inv X pins σ H s->RelV x v->Vals xs us->r x xs H Q->
  wpAny (model X.prog X.w) X.A (call (.builtin id) (v::us)) (EP X pins σ Q) X.xe s
theorem Vals.one:∀{x:V} {us:List Value},Vals [x] us->∃u,us=[u]/\RelV x u
 |_,_,.cons r .nil=>⟨_,rfl,r⟩
theorem Vals.zero:∀{us:List Value},Vals [] us->us=[]
 |_,.nil=>rfl
theorem Vals.dropLast (h:Vals xs us):Vals xs.dropLast us.dropLast:=by
  induction h with
  |nil=>exact .nil
  |cons r t ih=>
    cases t with
    |nil=>exact .nil
    |cons q t'=>exact .cons r ih
theorem Wc (l:List α):l.eraseIdx (l.length - 1)=l.dropLast:=by
  induction l with
  |nil=>rfl
  |cons a r ih=>
    cases r with
    |nil=>rfl
    |cons b r=>
      have e:(a::b::r).length - 1=((b::r).length - 1) + 1:=by
        have h1:(a::b::r).length=r.length + 2:=rfl;have h2:(b::r).length=r.length + 1:=rfl;omega
      rw[e,List.eraseIdx_cons_succ,ih]
      all_goals rfl
section
variable {X:Cx}{pins:Pnx}{σ:St}{H:Hp}{s:Shared}{l b:Addr}{xs ys zs:List V}
theorem Inv.lset {its its':List Value}{n:Nat}{f:Array Value->Array Value}{t':Nat}(I:Inv X pins σ H s)(hH:H l=some (.lst xs))
  (e:s.heap.get? l=some {cls:=.type "list",data:=.seq its.toArray n}) (hf:f its.toArray=its'.toArray) (hv:Vals ys its') (hz:ys.length<=sizeLine):
  Inv X pins σ (upd H l (.lst ys)) {s with heap:=s.heap.update l (Obj.mapSeq f),toks:=t'}:=by
 have q:=PySem.IsL.update e f;rw[hf]at q;refine I.write (x:=l) (e:=l) (by rw[hH];exact trivial) (.inl rfl) (fun b' u hb hu=>(xaQ s.heap (Obj.mapSeq f) (xbh hb)).trans hu) ⟨_,q⟩ ?_;exact⟨hz,its',_,hv,q⟩
theorem Inv.lnew (I:Inv X pins σ H s)(hv:Vals ys its)(hz:ys.length<=sizeLine):
  Inv X pins σ (upd H s.heap.objs.size (.lst ys)) {s with heap:=s.heap.push {cls:=.type "list",data:=.seq its.toArray},toks:=t'}:=
 I.laid (fun _ _ q=>xaa _ q) (xai _) ⟨hz,its,0,hv,xav _ rfl⟩
theorem Inv.fresh (I:Inv X pins σ H s):H s.heap.objs.size=none:=I.hok.fresh (xai _)
theorem Inv.lstM (I:Inv X pins σ H s)(hH:H l=some (.lst xs)):xs.length<=sizeLine/\∃(its:List Value) (n:Nat),Vals xs its/\xs.length=its.length/\s.heap.get? l=some {cls:=.type "list",data:=.seq its.toArray n}:=by
 obtain⟨z,its,n,r,e⟩:=I.hok l _ hH;exact⟨z,its,n,r,r.length,e⟩
end
section
variable {X:Cx}
def zbM:V->List V->Hp->VK->Prop:=fun x vs H Q=>∃l xs y,x=.ref l/\vs=[y]/\H l=some (.lst xs)/\xs.length<sizeLine/\Q .non (upd H l (.lst (xs ++ [y])))
theorem Il:Fl X "list.append" zbM:=by
 intro pins s σ H x vs v us Q I rx rv h;obtain⟨l,xs,y,rfl,rfl,hH,hz,q⟩:=h;cases rx;obtain⟨u,rfl,ru⟩:=rv.one;obtain⟨z,its,n,r,hl,e⟩:=I.lstM hH;refine xdj F.slot_list_append ⟨_,e,rfl⟩ F.entry_list_append (F.args_list_append_2 _ _) (PySem.list_append l its.toArray n u (by rw[xah];omega)) ⟨e,?_⟩;refine⟨.non,_,I.lset (its':=its ++ [u]) hH e (by simp) (r.append (.cons ru .nil)) ?_,rfl,q⟩;rw[xak,xas];omega
def Kh:V->List V->Hp->VK->Prop:=fun x vs H Q=>∃l xs y,x=.ref l/\vs=[]/\H l=some (.lst xs)/\xs[xs.length - 1]? =some y/\Q y (upd H l (.lst xs.dropLast))
theorem X3:Fl X "list.pop" Kh:=by
 intro pins s σ H x vs v us Q I rx rv h;obtain⟨l,xs,y,rfl,rfl,hH,hy,q⟩:=h;cases rx;have hus:=rv.zero;subst hus;obtain⟨z,its,n,r,hl,e⟩:=I.lstM hH;obtain⟨u,hu,ru⟩:=r.get hy;have hy':its.toArray[its.toArray.size - 1]? =some u:=by
  show its.toArray[its.length - 1]? =some u;rw[<-xdc, <-hl];exact hu
 refine xdj F.slot_list_pop ⟨_,e,rfl⟩ F.entry_list_pop (F.args_list_pop_1 _) (MeetsSeq.list_pop_last l its.toArray n u hy' (by rw[xah];omega)) ⟨e,?_⟩;refine⟨y,_,I.lset (its':=its.dropLast) hH e ?_ r.dropLast ?_,ru,q⟩
 ·show its.toArray.eraseIdxIfInBounds (its.toArray.size - 1)=its.dropLast.toArray;rw[xah,List.eraseIdxIfInBounds_toArray,Wc]
 ·rw[List.length_dropLast];omega
def zdg:V->List V->Hp->VK->Prop:=fun x vs H Q=>∃l xs,x=.ref l/\vs=[]/\H l=some (.lst xs)/\Q .non (upd H l (.lst []))
theorem XM:Fl X "list.clear" zdg:=by
 intro pins s σ H x vs v us Q I rx rv h;obtain⟨l,xs,rfl,rfl,hH,q⟩:=h;cases rx;have hus:=rv.zero;subst hus;obtain⟨z,its,n,r,hl,e⟩:=I.lstM hH;refine xdj F.slot_list_clear ⟨_,e,rfl⟩ F.entry_list_clear (F.args_list_clear_1 _) (AutoSeq1.list_clear_list_0 l its.toArray n (by rw[xah];omega)) ⟨e,?_⟩;exact⟨.non,_,I.lset (its':=[]) (ys:=[]) hH e rfl .nil (xcF _),rfl,q⟩
end
end L2
namespace Att
open PySem PySem.W PySem.Calls PyProof.Rows
theorem WQ:∀(ns:List Int) (vs:List Value),WellAll P h vs (ns.map WData.int)->IntsAre vs ns:=by
  intro ns
  induction ns with
  |nil=>
    intro vs w;rw[xbP]at w;cases w;exact .nil
  |cons n ns ih=>
    intro vs w;rw[xau]at w
    cases w with
    |cons a b=>
      cases a;exact .cons _ _ (ih _ b)
theorem zaH {l:OpenLaw}{n:Nat}(hn:l.most=some n){P:Params}{h:Heap}{args:List WData}{vals:List Value}
    (hpre:l.row.toRowW.claim.pre args=true) (hwl:WellAll P h vals args):
    ∃a vs ns,vals=[Value.ref a]/\args=[WData.list (ns.map WData.int)]/\h.get? a=some {cls:=.type "list",data:=.seq vs.toArray}/\IntsAre vs ns/\ns.length<=n:=by
  have hsh:WShape.hasAll [] args [.list .int]=true:=(pre_splitW hpre).1;have hc:l.pre.holds [] {args:=args}=true:=(pre_splitW hpre).2;obtain⟨d,r,rfl,h1,h2⟩:=hasAllW_cons hsh;obtain rfl:=hasAllW_nil h2;obtain⟨xs,rfl,h3⟩:=hasW_list h1;obtain⟨ns,rfl⟩:=items_int h3;have hlen:ns.length<=n:=by
    unfold OpenLaw.pre at hc;have h4:(WTm.not (.lt (.lit (.int (n:Int))) (.len (.arg 0)))).holds [] {args:=[.list (ns.map .int)]}=true:=by
      have h4:=(holds_andW hc).1;rw[hn]at h4;exact h4
    have h5:=condW_of h4 (w_not (w_lt w_lit (w_len_list (w_arg rfl))));rw[xap]at h5;refine Nat.le_of_not_lt fun q=>?_;have q':(n:Int)<((ns.length:Nat):Int):=by omega
    first
      |(rw[xbf q']at h5;exact absurd h5 (by decide))
      |(simp at h5;omega)
  cases hwl with
  |cons w1 w2=>
    cases w2
    cases w1 with
    |list ho hall=>exact⟨_,_,ns,rfl,rfl,ho,WQ ns _ hall,hlen⟩
theorem zaK (l:OpenLaw)(args:List WData):l.row.toRowW.claim.post args (.bool true) args=true:=
 postW_of (r:=l.row.toRowW) (X:=(true==true))
  (show WShape.has [] (.bool true) .bool=true by first |rfl |decide |simp[WShape.has,WShape.arms,WShape.armsAll])
  (show(WTm.eq .res (.lit (.bool true))).value [] {args:=args,res:=some (.bool true),after:=args}=some (.bool (true==true)) from w_eq_bool (w_res rfl) w_lit) rfl
theorem Vl {l:OpenLaw}{n:Nat}{q:Program}{loose:List Str}{XP:(Mgx)->Heap->Prop}{YP:World->Heap->Prop}{d:DefRec}
  (hn:l.most=some n) (hdf:d.params.defaults=[])
  (call:∀(w:World) (s₀ s₁:Shared) (mg mb:Mgx) (fa:Addr) (o:Obj) (pm cd doc:Value) (a:Addr) (vs:List Value) (ns:List Int),
   Ground q loose [] XP w s₀ mg mb s₁.heap->YP w s₁.heap->
   s₁.heap.get? fa=some o->o.data=.func (docDef d.name d.params d.body d.scope pm cd doc)->s₁.heap.CodeRec cd d.name->mg d.name=some (.ref fa)->
   s₁.heap.get? a=some {cls:=.type "list",data:=.seq vs.toArray}->IntsAre vs ns->ns.length<=n->s₁.gens= #[]->
   codeAny (model l.prog w) callerA (.call (.ref fa) ⟨[.ref a],[]⟩) (fun r s'=>r=.ok (.ret (.bool true))/\OldK s₁.heap s'.heap/\s'.os=s₁.os/\AllBare s'.gens) s₁):
  WalkO q loose XP YP l.row.toRowW d [] (fun f vs=>PySem.call f vs):=by
 intro w s₀ s₁ mg mb G Y fa o pm cd doc dV kV ho hd hcd hD hmg hg args vals as hpre hlay hrd hwl hlo;obtain rfl:dV=.none:=Dflts.none hD hdf;obtain rfl:kV=.none:=Dflts.noKw hD;obtain⟨a,vs,ns,rfl,rfl,hobj,hints,hlen⟩:=zaH hn hpre hwl;refine enter_call (xbO (call w s₀ s₁ mg mb fa o pm cd doc a vs ns G Y ho (fd_plain hd) hcd hmg hobj hints hlen hg) fun r s' hq=>?_);obtain⟨rfl,h2,h3,h4⟩:=hq;exact⟨.inl ⟨.bool true,.bool true,[],rfl,fun _=>rfl,.bool true,zaK l _,fun _=>⟨List.Pairwise.nil,fun _ hm=>(nomatch hm)⟩⟩,h2,h3,h4⟩
end Att
namespace L2
open PySem PySem.Spec PyProof.Rows
theorem U_:∀{vs:List Value} {ns:List Int},IntsAre vs ns->Vals (ns.map V.int) vs
 |_,_,.nil=>.nil
 |_,_,.cons n t h=>.cons ⟨t,rfl⟩ (U_ h)
noncomputable def cH (s:Stmt):Arguments:=match s with
 |.FunctionDef _ a _ _ _ _ _ _ _ _=>a
 |_=>{posonlyargs:=[],args:=[],vararg:=none,kwonlyargs:=[],kw_defaults:=[],kwarg:=none,defaults:=[]}
noncomputable def bO (s:Stmt):List Stmt:=match s with
 |.FunctionDef _ _ b _ _ _ _ _ _ _=>b
 |_=>[]
noncomputable def aL (s:Stmt):Scope:=match s with
 |.FunctionDef _ _ _ _ _ _ sc _ _ _=>sc
 |_=>{kind:=.function,names:=[],isGenerator:=false,isCoroutine:=false}
abbrev gn:eV:=fun _ _ _ _ _ _=>False
abbrev E0:XK:=fun _ _ _=>False
theorem JV:Passes gn X E0:=fun _ _ _ _ _ _ _ h=>h.elim
structure Fun (K:Fgx)(x qual:Str)(st:Stmt)(f:Addr)(fd:FuncData):Prop where
 ex:∃(oc:Value) (od:Option Addr) (kV doc pm:Value) (an:Option Addr) (cdv ct:Value) (osl:Array (Option Value)),
  fd=PySem.W.fnOf x qual (cH st) (bO st) (aL st) .none kV doc pm an cdv ct/\K.lookup f=some ⟨oc,od,.func fd,osl⟩/\PySem.W.codeIn K cdv qual=true
 kp:PySem.W.keepIn K (.ref f)=true
section
variable {P:Program}{w:World}{K:Fgx}{mg:Mgx}{base:Heap}
theorem Fun.binds {x qual:Str}{st:Stmt}{f:Addr}{fd:FuncData}{ps:List Str}(F:Fun K x qual st f fd)
  (h:∀(kV doc pm:Value) (an:Option Addr) (cdv ct:Value) (us:List Value),us.length=ps.length->bindArgs (PySem.W.fnOf x qual (cH st) (bO st) (aL st) .none kV doc pm an cdv ct) ⟨us,[]⟩=pure (ps.zip us)):Binds K fd ps []:=by
 obtain⟨oc,od,kV,doc,pm,an,cdv,ct,osl,rfl,lk,hcd⟩:=F.ex;exact .all (h kV doc pm an cdv ct)
theorem yP {x qual:Str}{st:Stmt}{f:Addr}{oc:Value}{od an:Option Addr}{osl:Array (Option Value)}{kV doc pm cdv ct:Value}(l:K.lookup f=some ⟨oc,od,.func (PySem.W.fnOf x qual (cH st) (bO st) (aL st) .none kV doc pm an cdv ct),osl⟩)
  (c:PySem.W.codeIn K cdv qual=true) (k:PySem.W.keepIn K (.ref f)=true):Fun K x qual st f (PySem.W.fnOf x qual (cH st) (bO st) (aL st) .none kV doc pm an cdv ct):=⟨⟨oc,od,kV,doc,pm,an,cdv,ct,osl,rfl,l,c⟩,k⟩
end
def Same (H H':Hp):Prop:=∀b o,H b=some o->H' b=some o
theorem Same.refl (H:Hp):Same H H:=fun _ _ h=>h
theorem Same.trans (a:Same H H1)(b:Same H1 H2):Same H H2:=fun c o h=>b c o (a c o h)
theorem Same.free (e:Same H H')(h:H' l=Option.none):H l=Option.none:=by
  cases q:H l with
  |none=>rfl
  |some o=>
    rw[e l o q]at h;cases h
end L2
set_option maxHeartbeats 0
namespace L2
open PySem PySem.Spec PyProof.Rows
section
variable {κ:Type}[DecidableEq κ]
noncomputable def fW (kvs:List (κ×V)) (k:κ):Option V:=(kvs.find? fun kv=>decide (kv.1=k)).map (·.2)
noncomputable def putK (kvs:List (κ×V)) (k:κ) (v:V):List (κ×V):=
 if (kvs.any fun kv=>decide (kv.1=k))=true then kvs.map (fun kv=>if kv.1=k then(kv.1,v) else kv) else kvs ++ [(k,v)]
theorem zbc {p:κ×V}{r:List (κ×V)}{k:κ}(e:p.1=k):fW (p::r) k=some p.2:=by simp[fW,xbK,e]
theorem za7 {p:κ×V}{r:List (κ×V)}{k:κ}(e:¬ p.1=k):fW (p::r) k=fW r k:=by simp[fW,xbK,e]
theorem za2 (k:κ):∀kvs:List (κ×V),(kvs.any fun kv=>decide (kv.1=k))=(fW kvs k).isSome
  | []=>rfl
  |p::r=>by
    rw[xbH]
    by_cases e:p.1=k
    · simp only[zbc e,xbf e,Bool.true_or,xca]
    · rw[za7 e,xaE e,Bool.false_or];exact za2 k r
end
theorem Qc (r:RelV (kV k) u):(nA P w).is k u=true:=by
 cases k with
 |inl i=>obtain⟨t,e⟩:=(show ∃t,u=Value.int i t from r);subst e;exact XC P w i t
 |inr x=>obtain⟨t,e⟩:=(show ∃t,u=Value.str x t from r);subst e;exact Ik P w x t
abbrev KT (H:Hp):List (List Key×V)->List (List Key×Addr×Value)->Prop:=Paired fun p q=>p.1=q.1/\H q.2.1=some (.tup (p.1.map kV))/\RelV p.2 q.2.2
def Vd (H:Hp)(a:Addr)(y:V)(r:Option V):Prop:=
 (∃kvs k,Rd H a (.dK kvs)/\y=kV k/\r=fW kvs k)\/∃kvs k b,Rd H a (.dT kvs)/\y=.ref b/\H b=some (.tup (k.map kV))/\r=fW kvs k
def Ve (H:Hp)(a:Addr)(y v:V)(H':Hp):Prop:=
 (∃kvs k,H a=some (.dK kvs)/\y=kV k/\kvs.length<sizeLine/\H'=upd H a (.dK (putK kvs k v)))\/
 ∃kvs k b,H a=some (.dT kvs)/\y=.ref b/\H b=some (.tup (k.map kV))/\kvs.length<sizeLine/\H'=upd H a (.dT (putK kvs k v))
def yt (i:Expr):Prop:=∀ov iv,subscripted i false ov iv=operate [ov,iv] (getItem ov iv)
theorem zbu {prog:Program}{w:World}{A:Around}{E:Value->Shared->Prop}{s:Shared}{env:Env}{value slice:Expr}{pos:Pos}{T id:String}{Q:Value->Shared->Prop}
  (hl:typeLookup (.type T) "__getitem__"=pure (some (.builtin id))) (hs:yt slice)
  (h:wpAny (model prog w) A (eval value env) (fun o s₁=>wpAny (model prog w) A (eval slice env) (fun i s₂=>s₂.TypeIs o T/\wpAny (model prog w) A (getItem o i) Q E s₂) E s₁) E s):
  wpAny (model prog w) A (eval (.Subscript value slice pos) env) Q E s:=by
 refine Subscript_ (xaM h (fun o s₁ h₁=>xaM h₁ (fun i s₂ h₂=>?_) fun _ _ x=>x) fun _ _ x=>x);obtain⟨hT,h₂⟩:=h₂;unfold subscriptTail;refine tG ?_;rw[getitemInPython_of_ne hT.not_modules];refine tG (xcs hT hl ?_);have fin:wpAny (model prog w) A (subscripted slice false o i) (fun r s₃=>wpAny (model prog w) A (letTemporaryGo value o r >>=fun _=>pure r) Q E s₃) E s₂:=by
  rw[hs o i];exact wpAny_operating (xaM h₂ (fun r s₃ h₃=>tG (wpAny_letTemporaryGo (xaj h₃))) fun _ _ x=>x)
 first
  |exact xaj (tG fin)
  |exact tG (xaj (tG fin))
  |exact tG fin
structure M1 (X:Cx)(o:Expr)(m:Str)(apos:Pos)(e:Expr)(cpos:Pos):Prop where
 base:attributeBase o m X.env (eval o X.env)=eval o X.env
 few : ((backTo cpos (starEach [e] X.env)).all (fun x=> !x.1) && (backToKw cpos (keywordEach [] X.env)).all (fun x=>x.1.isSome)
  && decide (([e]:List Expr).length + ([]:List Keyword).length + (if ([]:List Keyword).isEmpty then 0 else 1)<30))=true
 line:(apos.endLine==cpos.line)=true
 trees:backTo cpos (starEach [e] X.env)=[(false,eval e X.env)]
structure M2 (X:Cx)(o:Expr)(m:Str)(apos:Pos)(e f:Expr)(cpos:Pos):Prop where
 base:attributeBase o m X.env (eval o X.env)=eval o X.env
 few : ((backTo cpos (starEach [e,f] X.env)).all (fun x=> !x.1) && (backToKw cpos (keywordEach [] X.env)).all (fun x=>x.1.isSome)
  && decide (([e,f]:List Expr).length + ([]:List Keyword).length + (if ([]:List Keyword).isEmpty then 0 else 1)<30))=true
 line:(apos.endLine==cpos.line)=true
 trees:backTo cpos (starEach [e,f] X.env)=[(false,eval e X.env),(false,eval f X.env)]
end L2
namespace Att
open PySem PySem.W PySem.Calls PyProof.Rows
end Att
namespace L2
open PySem PySem.Spec PyProof.Rows
noncomputable def Its (z:Str):It:=⟨fun i _=>i<z.cps.size,fun i H x H'=>H'=H/\∃c,z.cps[i]? =some c/\x=.str ⟨#[c]⟩,fun i _=>i=z.cps.size⟩
theorem Wt (hQ:Q () s):wpAny M A (letOwnedTupleGo tg (.ref it) (.str x t)) Q E s:=by
 unfold letOwnedTupleGo;cases tg<;>exact xaj hQ
theorem U3 {P:Program}{w:World}{K:Fgx}{tg:Expr}{ty:String}{z:Str}{t:Tok}{it:Addr}
  (W:∀A:Around,A.handled=none->Walks P w A it [it] [it] z.cps.size (SignAt z) (fun i h=>h.IsStrIter it ty z t i))
  (hself:∀(A:Around) (i:Nat) (s:Shared) (Q:Value->Shared->Prop) (E:Value->Shared->Prop),s.heap.IsStrIter it ty z t i->Q (.ref it) s->wpAny (model P w) A (pyIter (.ref it)) Q E s):
  Turn P w K tg (Its z) [it] it (fun i h=>h.IsStrIter it ty z t i) where
 mem:=by simp
 obj:=fun i h st b hb=>by
  have e:b=it:=by simpa using hb
  subst e;obtain⟨o,e,c,d⟩:=st;exact⟨o,e,fun v z=>by rw[d]at z;cases z⟩
 keep:=fun i h h' st k=>by
  obtain⟨o,e,c,d⟩:=st;exact⟨o,k it (by simp) o e,c,d⟩
 item:=by
  intro X hP hw hK hc i pins s σ H E I hf st hg;subst hP hw hK;obtain⟨f0,f1,f2,f3,f4,f5⟩:=hf it (by simp);refine(W X.A (I.ok.hd hc)).item i s _ _ hg st fun v h' tk hv st' kk=>?_;obtain⟨c,u,hcc,rfl⟩:=hv;have I1:Inv X pins σ H {s with heap:=h',toks:=tk}:=I.turned (fun b o hb e=>kk b o (by simpa using hb) e) f0 f1 f3 f4 f5;exact⟨_,rfl,Wt ⟨.str ⟨#[c]⟩,H,I1,⟨_,rfl⟩,⟨rfl,c,hcc,rfl⟩,st',fun b hb=>(hf b hb).1⟩⟩
 done:=by
  intro X hP hw hK hc i pins s σ H E I hf st hg;subst hP hw hK;have hg':i=z.cps.size:=hg;subst hg';obtain⟨f0,f1,f2,f3,f4,f5⟩:=hf it (by simp);exact(W X.A (I.ok.hd hc)).done s _ _ st fun h' tk kk=>⟨rfl,I.turned (fun b o hb e=>kk b o (by simpa using hb) e) f0 f1 f3 f4 f5⟩
 self:=fun A i s Q E st q=>hself A i s Q E st q
section
variable {X:Cx}{tg:Expr}
noncomputable def Hs (tl:TE):TI:=fun σ H R=>tl σ H fun x H1=>∃z,x=.str z/\R (Its z) H1
theorem zcT {l:Expr}{tl:TE}(hl:PE X l tl):PI X tg l (Hs tl):=by
 intro pins s σ H R I h;refine aP (hl pins s σ H _ I h) fun v s1 ⟨x,H1,I1,r1,q1⟩=>?_;obtain⟨z,e,q⟩:=q1;subst e;obtain⟨t,e⟩:=r1;subst e;have fp:∀b∈ [s1.heap.objs.size],dO X pins H1 b:=fun b hb=>by
  have e:b=s1.heap.objs.size:=by simpa using hb
  subst e;exact I1.fpOk (xai _) (I1.hok.fresh (xai _))
 cases ha:z.cps.all (· <128)
 ·refine wpAny_pyIter_wide ha ?_;exact ⟨s1.heap.objs.size,[s1.heap.objs.size],_,_,H1,rfl,I1.kept (t':=s1.toks) fun b o e=>xaa _ e,
   U3 (ty:="str_iterator") (z:=z) (t:=t) (fun A hA=>Walks.strWide hA _ z t) (fun _ _ _ _ _ st q=>wpAny_pyIter_striter_wide st q),⟨_,xav _ rfl,rfl,rfl⟩,fp,q⟩
 ·refine wpAny_pyIter_ascii ha ?_;exact ⟨s1.heap.objs.size,[s1.heap.objs.size],_,_,H1,rfl,I1.kept (t':=s1.toks) fun b o e=>xaa _ e,
   U3 (ty:="str_ascii_iterator") (z:=z) (t:=t) (fun A hA=>Walks.strAscii hA _ z t) (fun _ _ _ _ _ st q=>wpAny_pyIter_striter_ascii st q),⟨_,xav _ rfl,rfl,rfl⟩,fp,q⟩
end
noncomputable def yr (K:Fgx) (a:Addr) (n:Nat):It:=
 ⟨fun i H=>i<n/\∃xs,bI K H a xs/\xs.length=n,fun i H x H'=>H'=H/\∀xs,bI K H a xs->xs[n - 1 - i]? =some x,fun i _=>i=n⟩
theorem za5 {P:Program}{w:World}{K:Fgx}{tg:Expr}(a it:Addr)(n:Nat):Turn P w K tg (yr K a n) [it] it (fun i h=>h.IsRevIter it a ((n:Int) - 1 - (i:Int))) where
 mem:=by simp
 obj:=fun i h st b hb=>by
  have e:b=it:=by simpa using hb
  subst e;obtain⟨o,e,c,d⟩:=st;exact⟨o,e,fun v z=>by rw[d]at z;cases z⟩
 keep:=fun i h h' st k=>st.at fun o e=>k it (by simp) o e
 item:=by
  intro X hP hw hK hc i pins s σ H E I hf st hg;subst hP hw hK;obtain⟨hi,xs,hq,hlen⟩:=hg;obtain⟨its,rv,p,hz⟩:=I.list hq;have hx:xs[n - 1 - i]? =some (xs[n - 1 - i]'(by omega)):=xae (by omega);obtain⟨u,hu,ru⟩:=rv.get hx;obtain⟨f0,f1,f2,f3,f4,f5⟩:=hf it (by simp);have e:(n:Int) - 1 - (i:Int)=((n - 1 - i:Nat):Int):=by omega
  have st0:s.heap.IsRevIter it a ((n - 1 - i:Nat):Int):=by rw[<-e];exact st
  refine wpAny_pyNext_rev_item st0 p.isList (x:=u) (by simpa using hu) fun h' st' sb=>?_;have e2:((n - 1 - i:Nat):Int) - 1=(n:Int) - 1 - ((i + 1:Nat):Int):=by omega
  rw[e2]at st';have I1:Inv X pins σ H {s with heap:=h'}:=I.turned (t':=s.toks) (fun b o hb e=>(sb.2 b hb).trans e) f0 f1 f3 f4 f5;obtain⟨o,eo,c,d⟩:=id st';exact⟨u,rfl,t_ (s:={s with heap:=h'}) eo c d (by decide) ⟨_,H,I1,ru,⟨rfl,fun ys hy=>by rw[I.list_inj hy hq];exact hx⟩,st',fun b hb=>(hf b hb).1⟩⟩
 done:=by
  intro X hP hw hK hc i pins s σ H E I hf st hg;subst hP hw hK;have hg':i=n:=hg;subst hg';obtain⟨f0,f1,f2,f3,f4,f5⟩:=hf it (by simp);have e:(i:Int) - 1 - (i:Int)= -1:=by omega
  have st0:s.heap.IsRevIter it a (-1):=by rw[<-e];exact st
  exact wpAny_pyNext_rev_end (I.ok.hd hc) st0 fun h' eb=>⟨rfl,I.turned (t':=s.toks) (fun b o hb e=>eb b o hb e) f0 f1 f3 f4 f5⟩
 self:=fun _ _ _ _ _ st h=>wpAny_pyIter_revIter st h
section
variable {X:Cx}{tg:Expr}
noncomputable def Hr (K:Fgx) (ta:TA):TI:=fun σ H R=>ta σ H fun vs H1=>∃a xs,vs=[.ref a]/\bI K H1 a xs/\R (yr K a xs.length) H1
theorem Rm (hg:Gl X "reversed")(hm:X.mg "reversed"=none)(ha:PA X [a] ta)(hs:starEach [a] X.env=[(false,eval a X.env)]:=by rfl):PI X tg (.Call (.Name "reversed" p) [a] [] pos) (Hr X.K ta):=by
 intro pins s σ H R I h;refine Call_ (w5 I hg hm boot_reversed (xbs (aP (ha pos pins s σ H _ I h) fun us s1 ⟨vs,H1,I1,r1,q1⟩=>?_) hs rfl));obtain⟨b,xs,e,hq,q⟩:=q1;subst e;obtain⟨u,e,ru⟩:=vals1 r1;subst e;cases ru;obtain⟨its,rv,pl,hz⟩:=I1.list hq;have hlen:its.toArray.size=xs.length:=by rw[xah];exact rv.length.symm
 refine call_reversed_list pl.isList ?_;rw[hlen];refine wpAny_pyIter_revIter (l:=b) (i:=(xs.length:Int) - 1) ⟨_,xav _ rfl,rfl,rfl⟩ ?_;refine⟨s1.heap.objs.size,[s1.heap.objs.size],_,_,H1,rfl,I1.kept (t':=s1.toks) fun b o e=>xaa _ e,za5 b _ xs.length,?_,fun c hc=>?_,q⟩
 ·have e:(xs.length:Int) - 1 - ((0:Nat):Int)=(xs.length:Int) - 1:=by omega
  show Heap.IsRevIter _ _ b ((xs.length:Int) - 1 - ((0:Nat):Int));rw[e];exact⟨_,xav _ rfl,rfl,rfl⟩
 ·have e:c=s1.heap.objs.size:=by simpa using hc
  subst e;exact I1.fpOk (xai _) (I1.hok.fresh (xai _))
end
section
variable {X:Cx}
def Km:V->Option Int->Option Int->Hp->VK->Prop:=fun x lo hi H Q=>∃z,x=.str z/\z.length<=sizeLine/\Q (.str (Txt.slice z lo hi)) H
theorem zcF:tK X Km:=by
 intro pins s σ H x v vl vu lo hi sl Q I rx hs pl pu h;obtain⟨z,rfl,hz,q⟩:=h;obtain⟨t,rfl⟩:=rx;refine⟨"str",_,F.slot_str_getitem.lookup,typeIs_str _ _ _,?_⟩;obtain⟨o,ho,hc,hd⟩:=hs;cases pl<;>cases pu
 ·exact xbG (l:=none) (u:=none) (st:=none) ⟨o,ho,hc,hd⟩ rfl (xct ⟨xaB (xcZ z none none) hz,fun t' k=>⟨.str _,H,I.tok _,⟨_,rfl⟩,q⟩⟩)
 ·rename_i j uj;exact xbG (l:=none) (u:=some (j,uj)) (st:=none) ⟨o,ho,hc,hd⟩ rfl (xct ⟨xaB (xcZ z none (some j)) hz,fun t' k=>⟨.str _,H,I.tok _,⟨_,rfl⟩,q⟩⟩)
 ·rename_i i ui;exact xbG (l:=some (i,ui)) (u:=none) (st:=none) ⟨o,ho,hc,hd⟩ rfl (xct ⟨xaB (xcZ z (some i) none) hz,fun t' k=>⟨.str _,H,I.tok _,⟨_,rfl⟩,q⟩⟩)
 ·rename_i i ui j uj;exact xbG (l:=some (i,ui)) (u:=some (j,uj)) (st:=none) ⟨o,ho,hc,hd⟩ rfl (xct ⟨xaB (xcZ z (some i) (some j)) hz,fun t' k=>⟨.str _,H,I.tok _,⟨_,rfl⟩,q⟩⟩)
theorem Zt:bQ X (compareOp .Is) (fun x y H Q=>∃b,y=.bl b/\Q (.bl (decide (x=.bl b))) H):=by
 intro pins s σ H x y v u Q I rx ry h;obtain⟨b,rfl,q⟩:=h;cases ry
 cases x with
 |bl c=>cases rx;exact xaj (bx I q (by cases b<;>cases c<;>rfl))
 |non=>cases rx;exact xaj (bx I q (by simp))
 |int _=>obtain⟨t,rfl⟩:=rx;exact xaj (bx I q (by simp))
 |str _=>obtain⟨t,rfl⟩:=rx;exact xaj (bx I q (by simp))
 |byt _=>obtain⟨t,rfl⟩:=rx;exact xaj (bx I q (by simp))
 |flt _=>obtain⟨t,rfl⟩:=rx;exact xaj (bx I q (by simp))
 |ref _=>cases rx;exact xaj (bx I q (by simp))
 |ty _=>cases rx;exact xaj (bx I q (by simp))
theorem Zv:bQ X (compareOp .IsNot) (fun x y H Q=>∃b,y=.bl b/\Q (.bl (!decide (x=.bl b))) H):=by
 intro pins s σ H x y v u Q I rx ry h;obtain⟨b,rfl,q⟩:=h;cases ry
 cases x with
 |bl c=>cases rx;exact xaj (bx I q (by cases b<;>cases c<;>rfl))
 |non=>cases rx;exact xaj (bx I q (by simp))
 |int _=>obtain⟨t,rfl⟩:=rx;exact xaj (bx I q (by simp))
 |str _=>obtain⟨t,rfl⟩:=rx;exact xaj (bx I q (by simp))
 |byt _=>obtain⟨t,rfl⟩:=rx;exact xaj (bx I q (by simp))
 |flt _=>obtain⟨t,rfl⟩:=rx;exact xaj (bx I q (by simp))
 |ref _=>cases rx;exact xaj (bx I q (by simp))
 |ty _=>cases rx;exact xaj (bx I q (by simp))
theorem range_any (bs:List Bool):(List.range bs.length).any (fun i=>(bs[i]?).getD false)=bs.any id:=by
 rw[xaI,xc1,xc1]
 constructor
 ·rintro⟨i,hi,h⟩;have hi':=xcB.mp hi;rw[xae hi']at h;exact⟨_,xc2 hi',h⟩
 ·rintro⟨b,hb,h⟩;obtain⟨i,hi,e⟩:=List.mem_iff_getElem.mp hb;refine⟨i,xcB.mpr hi,?_⟩;rw[xae hi,e];exact h
theorem Vq {bs:List Bool}{its:List Value}(r:Vals (bs.map V.bl) its){i:Nat}{v:Value}(h:its.toArray[i]? =some v):v=.bool ((bs[i]?).getD false):=by
 have h':its[i]? =some v:=by simpa using h
 have hl:=r.length;rw[xap]at hl;have hi:i<bs.length:=by
  have:=(xad.mp h').1;omega
 have hx:(bs.map V.bl)[i]? =some (V.bl bs[i]):=by rw[xan,xae hi];rfl
 obtain⟨u,hu,ru⟩:=r.get hx;rw[h']at hu;cases hu;rw[xae hi];exact ru
theorem Vs (hc:X.calm=true):dN X (.builtin "any") (fun xs H Q=>∃(p:Addr) (bs:List Bool),xs=[.ref p]/\bI X.K H p (bs.map V.bl)/\Q (.bl (bs.any id)) H):=by
 intro pins s σ H xs us Q I r h;obtain⟨p,bs,rfl,hq,q⟩:=h;obtain⟨u,rfl,ru⟩:=vals1 r;cases ru;obtain⟨its,rv,pl,hz⟩:=I.list hq;have hp:p<s.heap.objs.size:=by obtain⟨o,ho,_⟩:=pl.isList;exact xaq ho
 have hn:its.toArray.size=bs.length:=by rw[xah, <-rv.length,xap]
 refine call_any_walk (wpAny_pyIter_list pl.isList ⟨s.heap.objs.size,_,_,its.toArray.size,_,_,fun i=>(bs[i]?).getD false,rfl,Walks.list (A:=X.A.in1) (show X.A.in1.handled=none from I.ok.hd hc) _ p (xaA hp) its.toArray,
  ⟨⟨_,xav _ rfl,rfl,rfl⟩,pl.isList.at fun o e=>xaa _ e⟩,fun i v s' Q' E' hv hQ=>?_,fun h' tk kk=>?_⟩)
 ·rw[Vq rv hv];exact xbD hQ
 ·rw[hn,range_any];refine⟨.bl _,H,I.kept fun b o e=>kk b o ?_ (xaa _ e),rfl,q⟩;intro z;have z':b=s.heap.objs.size:=by simpa using z
  exact xa0 _ (z' ▸ xaq e)
end
section
variable {X:Cx}{pins:Pnx}{σ:St}{H:Hp}{s:Shared}
def RJ:V->List V->Hp->VK->Prop:=fun x vs H Q=>∃z y,x=.str z/\vs=[.str y]/\Q (.bl (Txt.startswith z y)) H
theorem X4:wF X "str.startswith" RJ:=by
 intro pins s σ H x vs v us Q I rx rv h;obtain⟨z,y,rfl,rfl,q⟩:=h;obtain⟨t,rfl⟩:=rx;obtain⟨u,rfl,t',rfl⟩:=rv.one;exact SC.startswith ⟨.bl _,H,I,rfl,q⟩
def RG:V->List V->Hp->VK->Prop:=fun x vs H Q=>∃z y,x=.str z/\vs=[.str y]/\z.length<=sizeLine/\Q (.str (Txt.lstripChars z y)) H
theorem XS:wF X "str.lstrip" RG:=by
 intro pins s σ H x vs v us Q I rx rv h;obtain⟨z,y,rfl,rfl,hz,q⟩:=h;obtain⟨t,rfl⟩:=rx;obtain⟨u,rfl,t',rfl⟩:=rv.one;exact SC.lstripChars (fun t' k=>⟨.str _,H,I.tok _,⟨_,rfl⟩,q⟩) hz
theorem Nq:dN X (.type "int") (fun xs H Q=>∃z n,xs=[.str z]/\intText? z=some n/\z.length<=640/\Q (.int n) H):=by
 intro pins s σ H xs us Q I r h;obtain⟨z,n,rfl,h1,h2,q⟩:=h;obtain⟨u,rfl,t,rfl⟩:=vals1 r;exact W.KIN.call_text h1 h2 ⟨.int n,H,I.tok _,⟨_,rfl⟩,q⟩
end
noncomputable def textV:V->Option Str
 |.str z=>if z.length<=sizeLine then some z else none
 |.int i=>if i.natAbs.log2<1920 then some (toString i) else none
 |_=>none
abbrev TJ:=Str->St->Hp->VK->Prop
def PJ (X:Cx)(vs:List Expr)(t:TJ):Prop:=∀(pins:Pnx) (s:Shared) (σ:St) (H:Hp) (out:Str) (Q:VK),Inv X pins σ H s->t out σ H Q->wpAny (model X.prog X.w) X.A (joinParts out (evalEach vs X.env)) (EP X pins σ Q) X.xe s
def Hz:TJ:=fun out _ H Q=>out.length<=sizeLine/\Q (.str out) H
noncomputable def W8 (te:TE) (tj:TJ):TJ:=fun out σ H Q=>te σ H fun v H1=>∃y,textV v=some y/\(out ++ y).length<=sizeLine/\tj (out ++ y) σ H1 Q
section
variable {X:Cx}{vs:List Expr}{te:TE}{tj:TJ}
theorem zcn:PJ X [] Hz:=fun pins s σ H out Q I h=>joinParts_nil ⟨.str out,H,I.tok _,⟨_,rfl⟩,h.2⟩ h.1
theorem zcN (hv:PJ X vs tj)(hz:z.length<=sizeLine):PJ X (.Constant (.str z) k pos::vs) (fun out σ H Q=>(out ++ z).length<=sizeLine/\tj (out ++ z) σ H Q):=fun pins s σ H out Q I h=>by
 refine joinParts_cons (Calls.Constant_str ?_);exact⟨h.1,hv pins _ σ H _ Q (I.tok _) h.2⟩
theorem zdu (he:PE X e te)(hv:PJ X vs tj):PJ X (.FormattedValue e (-1) none pos::vs) (W8 te tj):=fun pins s σ H out Q I h=>by
 refine joinParts_cons (FormattedValue_plain (aP (he pins s σ H _ I h) fun u s1 ⟨x,H1,I1,r1,y,ey,hl,q⟩=>?_));cases x<;>simp only[textV,reduceCtorEq]at ey
 case int i=>
  split at ey
  ·rename_i hd;cases ey;obtain⟨t,rfl⟩:=r1;exact formatField_int_small hd ⟨hl,hv pins _ σ H1 _ Q (I1.tok _) q⟩
  ·cases ey
 case str z=>
  split at ey
  ·rename_i hz;cases ey;obtain⟨t,rfl⟩:=r1;exact formatField_str (fun t' tk=>⟨hl,hv pins _ σ H1 _ Q (I1.tok _) q⟩) hz
  ·cases ey
theorem ZW (h:PJ X (v::w::vs) tj):PE X (.JoinedStr (v::w::vs) pos) (fun σ H Q=>tj Str.empty σ H Q):=fun pins s σ H Q I q=>JoinedStr_many (h pins s σ H _ Q I q)
end
theorem O3 (g:α->β->β):∀(l:List α) (b:β),(∀x∈l,∀b,f x b=pure (.yield (g x b)))->(forIn l b f:Sem β)=pure (l.foldl (fun b x=>g x b) b)
  | [],b,_=>rfl
  |x::l,b,h=>by
    rw[List.forIn_cons,h x xaF b];simp only[pure_bind,xb6];exact O3 g l (g x b) fun y hy=>h y (xar _ hy)
noncomputable def m5 (cells:List (Str×Addr)) (cs:List (Str×Addr)) (x:Str×NameKind):List (Str×Addr):=if x.2=.free then(x.1,(cells.lookup x.1).getD 0)::cs else cs
noncomputable def dB (cells:List (Str×Addr)) (names:List (Str×NameKind)):List (Str×Addr):=names.foldl (m5 cells) []
theorem N7 (h:∀y∈scope.names,y.2=.free->∃c,env.cells.lookup y.1=some c):closureFor scope env=pure (dB env.cells scope.names):=by
 simp only [closureFor];rw [O3 (fun x cs => m5 env.cells cs x) scope.names [] (fun x hx c=>by
  obtain⟨n,kind⟩:=x
  by_cases hk:kind=.free
  ·obtain⟨a,ha⟩:=h _ hx hk;subst hk;have ha':env.cells.lookup n=some a:=ha
   simp[cellOf,ha',m5]
  ·have hk':(kind==NameKind.free)=false:=by simpa using hk
   simp[hk',hk,m5])]
 rfl
theorem N6:∀(names:List (Str×NameKind)) (acc:List (Str×Addr)),(∀y∈names,y.2=.free->∃c,cells.lookup y.1=some c)->
    (∀x c,acc.lookup x=some c->cells.lookup x=some c)->∀x c,(names.foldl (m5 cells) acc).lookup x=some c->cells.lookup x=some c
  | [],_,_,h,x,c,e=>h x c e
  |(n,k)::r,acc,hc,h,x,c,e=>by
    rw[xb6]at e;refine N6 r _ (fun y hy=>hc y (xar _ hy)) ?_ x c e;intro y d hd;unfold m5 at hd
    by_cases hk:k=.free
    · obtain⟨a,ha⟩:=hc (n,k) xaF hk;have ha':cells.lookup n=some a:=ha;simp only[hk,xaP,ha',Option.getD_some,xbp]at hd
      cases hyn:y==n with
      |true=>
        rw[hyn]at hd;have e2:=eq_of_beq hyn;subst e2;exact ha'.trans hd
      |false=>
        rw[hyn]at hd;exact h y d hd
    · simp only[hk,xcC]at hd;exact h y d hd
theorem GP:∀(names:List (Str×NameKind)) (acc:List (Str×Addr)) (x:Str),((x,NameKind.free)∈names\/∃c,acc.lookup x=some c)->∃c,(names.foldl (m5 cells) acc).lookup x=some c
  | [],acc,x,h=>by
    rcases h with h |h
    · exact absurd h (by simp)
    · exact h
  |(n,k)::r,acc,x,h=>by
    rw[xb6];refine GP r _ x ?_;have keep:(∃c,acc.lookup x=some c)->∃c,(m5 cells acc (n,k)).lookup x=some c:=fun⟨c,hc⟩=>by
      unfold m5
      by_cases hk:k=.free
      · simp only[hk,xaP,xbp]
        cases hxn:x==n with
        |true=>exact⟨_,rfl⟩
        |false=>exact⟨c,hc⟩
      · simp only[hk,xcC];exact⟨c,hc⟩
    rcases h with h |h
    · rcases xaJ.mp h with h |h
      · cases h;refine .inr ?_;unfold m5;simp only[xaP,xbp,xbg];exact⟨_,rfl⟩
      · exact .inl h
    · exact .inr (keep h)
noncomputable def dh (psc:Scope) (names:List (Str×NameKind)):List (Str×NameKind):=names.map fun(n,k)=>if (k==.free && psc.kind==.function && psc.names.lookup n==some .cell) then(n,.cell) else(n,k)
theorem Ae {psc:Scope}:∀{names:List (Str×NameKind)} {x:Str} {k':NameKind},(dh psc names).lookup x=some k'->(k'=.cell\/k'=.free)->(∀y∈names,y.2≠ .cell)->(x,NameKind.free)∈names
  | [],_,_,h,_,_=>by simp[dh]at h
  |(n,k)::r,x,k',h,hk,hn=>by
    have ih:= @Ae psc r x k';have h':List.lookup x ((if (k==NameKind.free && psc.kind==.function && psc.names.lookup n==some .cell)=true then(n,NameKind.cell) else(n,k))::dh psc r)=some k':=h
    cases hx:x==n with
    |true=>
      have e:=eq_of_beq hx;subst e
      by_cases hc:(k==NameKind.free && psc.kind==.function && psc.names.lookup x==some .cell)=true
      · have hkf:k=.free:=by
          cases k<;>first |rfl |(exfalso;simp at hc)
        rw[hkf];exact xaF
      · rw[xaf hc]at h';simp only[xbp,xbg]at h';have e2:k=k':=xay h';subst e2;rcases hk with hk |hk
        · exact absurd hk (hn (x,k) xaF)
        · rw[hk];exact xaF
    |false=>
      refine xar _ (ih ?_ hk fun y hy=>hn y (xar _ hy))
      by_cases hc:(k==NameKind.free && psc.kind==.function && psc.names.lookup n==some .cell)=true
      · rw[xab hc]at h';simp only[xbp,hx]at h';exact h'
      · rw[xaf hc]at h';simp only[xbp,hx]at h';exact h'
noncomputable def iB (cs:List (Str×Nat)) (σ:St):St:=cs.map fun p=>(σ[p.2]?).join
abbrev d7 (X:Cx)(Nc:List Str)(scope:Scope)(cl:List (Str×Addr))(C:Addr)(s₀:Shared)(H₀:Hp)(ex:List Addr)(pn:Pnx):Cx:=
 {X with N:=Nc,s₀:=s₀,H₀:=H₀,env:=compEnvC scope cl C X.env,outer:=X.stack,ex:=ex,fn:=fun _=>false,pn:=pn,xe:=fun _ _=>False}
noncomputable def wK (N:List Str) (psc:Scope) (x:Str) (cs:List (Str×Nat)) (scope:Scope):Bool:=
 scope.kind==.function && scope.names.lookup x==some .local && decide ((x::cs.map (·.1)).Nodup) &&
 scope.names.all (fun y=>y.2 !=.cell && (y.2 !=.local || scope.names.lookup y.1==some .local) && (y.2 !=.free || (psc.names.lookup y.1==some .cell || psc.names.lookup y.1==some .free))) &&
 cs.all (fun p=>N[p.2]? ==some p.1 && (psc.names.lookup p.1==some .cell || psc.names.lookup p.1==some .free) && ((dh psc scope.names).lookup p.1==some .cell || (dh psc scope.names).lookup p.1==some .free))
structure CompOk (N:List Str)(psc:Scope)(x:Str)(cs:List (Str×Nat))(scope:Scope):Prop where
 kind:scope.kind=.function
 own:scope.names.lookup x=some .local
 nd:(x::cs.map (·.1)).Nodup
 cell:∀y∈scope.names,y.2≠ .cell
 names:∀y∈scope.names,y.2=.local->scope.names.lookup y.1=some .local
 has:∀y∈scope.names,y.2=.free->psc.names.lookup y.1=some .cell\/psc.names.lookup y.1=some .free
 cap:∀p∈cs,N[p.2]? =some p.1/\(psc.names.lookup p.1=some .cell\/psc.names.lookup p.1=some .free)/\((dh psc scope.names).lookup p.1=some .cell\/(dh psc scope.names).lookup p.1=some .free)
theorem CompOk.of (h:wK N psc x cs scope=true):CompOk N psc x cs scope:=by
 unfold wK at h;simp only[xam,xbm,xbb,xaY,xaC,bne_iff_ne,ne_eq]at h;obtain⟨⟨⟨⟨h1,h2⟩,h3⟩,h4⟩,h5⟩:=h;refine⟨h1,h2,h3,fun y hy=>(h4 y hy).1.1,fun y hy e=>?_,fun y hy e=>?_,fun p hp=>⟨(h5 p hp).1.1,(h5 p hp).1.2,(h5 p hp).2⟩⟩
 ·rcases(h4 y hy).1.2 with z |z
  ·exact absurd e z
  ·exact z
 ·rcases(h4 y hy).2 with z |z
  ·exact absurd e z
  ·exact z
def lW (X:Cx)(ifs:List Expr)(t:TT):Prop:=
 ∀(pins:Pnx) (s:Shared) (σ:St) (H:Hp) (Q:Bool->Hp->Prop),Inv X pins σ H s->t σ H Q->
  wpAny (model X.prog X.w) X.A (forIn ifs true fun c r=>if r=true then do let ok <-isTrue c X.env (eval c X.env);pure (ForInStep.yield ok) else pure (ForInStep.yield r)) (TP X pins σ Q) X.xe s
def rD:TT:=fun _ H Q=>Q true H
theorem Rn:lW X [] rD:=fun _ _ _ H _ I h=>wpAny_tests_nil ⟨H,I,h⟩
def Ba (wi:TI)(tq:TT)(te:TE)(cs:List (Str×Nat)):St->Hp->(Addr->Hp->Prop)->Prop:=fun σ H R=>wi σ H fun J H1=>∀D,H1 D=none->
  ∃W:Nat->Nat->List V->Hp->Prop,(∃m,W 0 m [] (upd H1 D (.lst [])))/\∀i m ys H2,W i m ys H2->H2 D=some (.lst ys)/\
    ((J.stop i H2 /\ R D H2) \/ (J.go i H2/\ys.length<sizeLine/\∃N:List V->Hp->Prop,(∀ys' H',N ys' H'->∃m',m'<m/\W (i + 1) m' ys' H')/\∀v H3,J.yld i H2 v H3->tq (some v::iB cs σ) H3 fun b H4=>
      if b=true then te (some v::iB cs σ) H4 fun y H5=>H5 D=some (.lst ys)/\N (ys ++ [y]) (upd H5 D (.lst (ys ++ [y]))) else N ys H4))
section
variable {prog:Program}{w:World}{A:Around}{R:Result->Shared->Prop}{s:Shared}
theorem VN (I:Nat->Shared->Prop)
    (turn : ∀ n s, I n s -> wpAny (model prog w) A (pyNext it) (fun r s₁=>match r with
      |none=>R (.ok .next) s₁
      | some v => wpAny (model prog w) A (letOwnedTupleGo target it v) (fun _ s₁' => wpAny (model prog w) A (assign target env v) (fun _ s₂=>
          wpAny (model prog w) A (forIn ifs true fun c r => if r = true then do let ok <- isTrue c env (eval c env); pure (ForInStep.yield ok) else pure (ForInStep.yield r)) (fun ok s₃=>
            if ok = true then wpAny (model prog w) A (eval elt env) (fun x s₄=>
              wpAny (model prog w) A (call (.builtin "list.append") [acc,x]) (fun _ s₅=>∃m,m<n/\I m s₅) (fun _ _=>False) s₄) (fun _ _=>False) s₃
            else ∃m,m<n/\I m s₃) (fun _ _=>False) s₂) (fun _ _=>False) s₁') (fun _ _=>False) s₁) (fun _ _=>False) s)
    (n:Nat) (h:I n s):
    codeAny (model prog w) A (.compLoop (.ListComp elt [⟨target,iter,ifs,0⟩] scope pos) 0 it acc env) R s:=by
  refine codeAny_loop rfl I (fun n s hI=>?_) n h;show wpAny _ A ((compTurn (.ListComp elt [⟨target,iter,ifs,0⟩] scope pos) 0 it acc env).onRaise (fun x=>do noteFrame x env;theTreesLotGoes x)) _ _ s
  refine wpAny_noted ?_;rw[compTurn_list];refine tG (xb0 (tG (xaM (turn n s hI) (fun r s₁ h₁=>?_) fun _ _ h'=>h'.elim)))
  cases r with
  |none=>exact xaj h₁
  |some v=>
    refine tG (xaM h₁ (fun _ s₁' h₁'=>?_) fun _ _ h'=>h'.elim);refine tG (xaM h₁' (fun _ s₂ h₂=>tG (xaM h₂ (fun ok s₃ h₃=>?_) fun _ _ h'=>h'.elim)) fun _ _ h'=>h'.elim)
    cases ok with
    |false=>exact xaj ⟨rfl,h₃⟩
    |true=>
      exact tG (tG (xaM h₃ (fun x s₄ h₄=>tG (xaM h₄ (fun _ s₅ h₅=>xaj (xaj ⟨rfl,h₅⟩)) fun _ _ h'=>h'.elim)) fun _ _ h'=>h'.elim))
end
section
variable {X:Cx}{elt iter:Expr}{ifs:List Expr}{x:Str}{px:Pos}{scope:Scope}{pos:Pos}{wi:TI}{tq:TT}{te:TE}{cs:List (Str×Nat)}
theorem Ob (hc:X.calm=true)(hi:PI X (.Name x px) iter wi)
    (hq:∀(cl:List (Str×Addr)) (C:Addr) (s₀:Shared) (H₀:Hp) (ex:List Addr) (pn:Pnx),lW (d7 X (x::cs.map (·.1)) scope cl C s₀ H₀ ex pn) ifs tq)
    (he:∀(cl:List (Str×Addr)) (C:Addr) (s₀:Shared) (H₀:Hp) (ex:List Addr) (pn:Pnx),PE (d7 X (x::cs.map (·.1)) scope cl C s₀ H₀ ex pn) elt te)
    (ok:CompOk X.N X.env.scope x cs scope) {pins:Pnx} {s:Shared} {σ:St} {H:Hp} {R:Addr->Hp->Prop} (I:Inv X pins σ H s) (h:Ba wi tq te cs σ H R)
    {RR:Value->Addr->Result->Shared->Prop}
    (hRR:∀(D C:Addr) (oC:Obj) (H':Hp) (s':Shared),Inv X (pins ++ [(C,oC)]) σ H' s'->(∀h':Heap,h'.get? C=some oC->∃m,h'.Ns C m)->dO X pins H' C->R D H'->RR (.ref D) C (.ok .next) s'):
    wpAny (model X.prog X.w) X.A (eval iter X.env) (fun xv s₁ => wpAny (model X.prog X.w) X.A (pyIter xv) (fun itv s₂ => wpAny (model X.prog X.w) X.A (newList []) (fun acc s₃=>
      wpAny (model X.prog X.w) X.A (newFunctionEnv scope X.env.globals (dB X.env.cells scope.names) [] X.env.qual none .none (some X.env)) (fun cenv s₄=>
        codeAny (model X.prog X.w) X.A (.compStart (.ListComp elt [⟨.Name x px,iter,ifs,0⟩] scope pos) 0 itv acc {cenv with scope:=relabel scope X.env}) (RR acc cenv.locals) s₄) X.xe s₃) X.xe s₂) X.xe s₁) X.xe s:=by
  refine aP (hi pins s σ H _ I h) fun v s1 h1=>aP h1 fun itv s2 h2=>?_;obtain⟨it,fp,tn,J,H2,e,I2,T,st2,f2,h2⟩:=h2;subst e;have hhas:∀y∈scope.names,y.2=.free->∃c,X.env.cells.lookup y.1=some c:=fun y hy hk=>I2.ok.has y.1 (ok.has y hy hk);refine xa7 (wpAny_newFunctionEnv ok.cell (by intro y hy;simp at hy) (fun h₁ hns₁ hsb₁=>?_) ok.kind);dsimp only at hns₁ hsb₁ ⊢;generalize hHH:s2.heap.push {cls:=.type "list",dict:=none,data:=.seq ([]:List Value).toArray}=HH at hns₁ hsb₁ ⊢;have hC:HH.objs.size=s2.heap.objs.size + 1:=by rw[<-hHH,xbN]
  have hDC:s2.heap.objs.size≠HH.objs.size:=by rw[hC];exact xaA (xa3 _)
  have hCle:s2.heap.objs.size<=HH.objs.size:=by rw[hC];exact xbM _
  have below:∀b,b<s2.heap.objs.size->b≠HH.objs.size:=fun b hb=>by rw[hC];exact xaA (Nat.lt_succ_of_lt hb)
  have old:∀b o,s2.heap.get? b=some o->h₁.get? b=some o:=fun b o e=>hsb₁.extBut b o (below b (xaq e)) (xaa _ (hHH ▸ xaa _ e));have hacc:h₁.get? s2.heap.objs.size=some {cls:=.type "list",dict:=none,data:=.seq ([]:List Value).toArray}:=hsb₁.extBut _ _ hDC (xaa _ (hHH ▸ xav _ rfl));have nD:H2 s2.heap.objs.size=none:=I2.hok.fresh (xai _);have nC:H2 HH.objs.size=none:=I2.hok.fresh hCle;obtain⟨W,⟨m0,w0⟩,turn⟩:=h2 s2.heap.objs.size nD
  -- the block's context
  have fpC:∀b∈fp,b≠HH.objs.size:=fun b hb=>by
    obtain⟨o,ho,_⟩:=T.obj 0 _ st2 b hb;exact below b (xaq ho)
  have fpD:∀b∈fp,b≠s2.heap.objs.size:=fun b hb=>by
    obtain⟨o,ho,_⟩:=T.obj 0 _ st2 b hb;exact xaA (xaq ho)
  have pinC:∀p∈X.pn ++ pins,p.1≠HH.objs.size:=fun p hp=>below _ (xaq (I2.pin p hp).1);have clIn:∀y c,(dB X.env.cells scope.names).lookup y=some c->X.env.cells.lookup y=some c:=N6 scope.names [] hhas (fun y c e=>by cases e);have kindRel:∀y,(relabel scope X.env).names.lookup y=(dh X.env.scope scope.names).lookup y:=fun _=>rfl;have okC:(d7 X (x::cs.map (·.1)) scope (dB X.env.cells scope.names) HH.objs.size s2 H2 fp (X.pn ++ pins)).Ok:=
    { mod:=I2.ok.mod
      kind:=ok.kind
      glob:=I2.ok.glob
      blt:=I2.ok.blt
      above:=hCle
      inj:=fun y z c e1 e2=>I2.ok.inj y z c (clIn y c e1) (clIn z c e2)
      has:=fun y hk=>by
        have hm:(y,NameKind.free)∈scope.names:=by
          rcases hk with hk |hk
          · exact Ae (psc:=X.env.scope) (k':=.cell) hk (.inl rfl) ok.cell
          · exact Ae (psc:=X.env.scope) (k':=.free) hk (.inr rfl) ok.cell
        exact GP scope.names [] y (.inl hm)
      cab:=fun y c hf _=>by cases hf
      hd:=I2.ok.hd
      frames:=I2.ok.frames
      stk:=.inl rfl
      exf:=fun b hb=>⟨fpC b hb,fun y c e z=>(f2 b hb).2.2.2.2.1 y c (clIn y c e) z⟩
      bs:=fun b o e=>I2.bs b o e
      bsz:=xaB I2.ok.bsz I2.sz
      noex:=fun b o e hb=>by
        rcases(f2 b hb).2.2.2.1 with z |z
        · exact I2.ok.noex b o e z
        · exact absurd (xag (xaq e) (xaB I2.ok.bsz z)) (xa0 _)
      exfs:=fun b hb z=>by
        rcases xaJ.mp (I2.stkSub b z) with q |q
        · exact(f2 b hb).2.1 q
        · exact(f2 b hb).2.2.1 q
      funs:=I2.stack
      frf:=I2.stkFree}
  have IC:Inv (d7 X (x::cs.map (·.1)) scope (dB X.env.cells scope.names) HH.objs.size s2 H2 fp (X.pn ++ pins)) [] (none::iB cs σ) (upd H2 s2.heap.objs.size (.lst [])) {s2 with heap:=h₁,toks:=s2.toks + ([]:List (Str×Value)).length}:=
    { ok:=okC
      os:=rfl
      bare:=I2.bare
      base:=Un.laid old (xai _) nD
      loc:=by
        refine⟨_,hns₁,fun i y u e1 e2 _=>?_⟩
        cases i with
        |zero=>
          have e2':(none:Option V)=some u:=xay e2;cases e2'
        |succ i=>
          have e1':(cs.map (·.1))[i]? =some y:=e1;have e2':(iB cs σ)[i]? =some (some u):=e2;rw[xan]at e1';unfold iB at e2';rw[xan]at e2'
          cases ep:cs[i]? with
          |none=>rw[ep]at e1';cases e1'
          |some p=>
            rw[ep]at e1' e2';have e1'':p.1=y:=xay e1';have e2'':(σ[p.2]?).join=some u:=xay e2';have e3:σ[p.2]? =some (some u):=by
              cases q:σ[p.2]? with
              |none=>rw[q]at e2'';cases e2''
              |some z=>rw[q]at e2'';exact congrArg some e2''
            subst e1'';obtain⟨hN,hkp,hkc⟩:=ok.cap p (xaw ep);obtain⟨mP,_,hl⟩:=I2.loc;obtain⟨u',ru,lk⟩:=hl p.2 p.1 u hN e3 (.inr hkp);refine⟨u',ru,.inr ⟨hkc,?_⟩⟩;rcases lk with⟨k0,_⟩ |⟨_,c,hcell,his⟩
            · exfalso
              have k0':X.env.scope.names.lookup p.1=some .local:=k0;rcases hkp with z |z<;>(rw[k0']at z;cases z)
            · have hm:(p.1,NameKind.free)∈scope.names:=by
                rcases hkc with z |z
                · exact Ae z (.inl rfl) ok.cell
                · exact Ae z (.inr rfl) ok.cell
              obtain⟨c',hc'⟩:=GP (cells:=X.env.cells) scope.names [] p.1 (.inl hm);have e5:c'=c:=xay ((clIn p.1 c' hc').symm.trans hcell);exact⟨c',hc',by rw[e5];exact his.keeps old⟩
      cell:=fun y c e=>by
        obtain⟨v',q⟩:=I2.cell y c (clIn y c e);exact⟨v',q.keeps old⟩
      free:=by
        show upd H2 s2.heap.objs.size (.lst []) HH.objs.size=none;rw[aQ hDC.symm];exact nC
      freeC:=fun y c e=>by
        have hcl:c<s2.heap.objs.size:=by
          obtain⟨_,q⟩:=I2.cell y c (clIn y c e);exact q.lt
        rw[aQ (xaA hcl)];exact(I2.freeC y c (clIn y c e)).imp id fun z=>⟨rfl,z.2⟩
      pin:=fun p hp=>by
        have hp':p∈X.pn ++ pins:=by
          rcases xa9.mp hp with z |z
          · exact z
          · cases z
        obtain⟨e1,e2,e3,e4,e5⟩:=I2.pin p hp';refine⟨old _ _ e1,?_,pinC p hp',fun z=>?_,e5⟩
        · rw[aQ (xaA (xaq e1))];exact e2
        · rcases xaJ.mp (I2.stkSub p.1 z) with q |q
          · exact e3 q
          · exact e4 q
      hok:=I2.hok.laid old (xai _) ⟨xcF _,[],0,.nil,hacc⟩
      len:=by simp[iB]}
  have stC:tn 0 h₁:=T.keep 0 _ _ st2 fun b _ o e=>old b o e;have frC:∀b∈fp,upd H2 s2.heap.objs.size (HO.lst []) b=none:=fun b hb=>by
    rw[aQ (fpD b hb)];exact(f2 b hb).1
  -- what stays true of the iterator's objects in the block
  have stat:∀{H':Hp},(∀b∈fp,H' b=none)->∀b∈fp,dO (d7 X (x::cs.map (·.1)) scope (dB X.env.cells scope.names) HH.objs.size s2 H2 fp (X.pn ++ pins)) [] H' b:=fun {H'} hn b hb=>
    ⟨hn b hb, fpC b hb, okC.exfs b hb, .inl hb, fun y c e => (okC.exf b hb).2 y c e, fun p hp => (f2 b hb).2.2.2.2.2 p (by
      rcases xa9.mp hp with z |z
      · exact z
      · cases z)⟩
  have loop:∀s₃:Shared,s₃={s2 with heap:=h₁,toks:=s2.toks + ([]:List (Str×Value)).length}->
      codeAny (model X.prog X.w) X.A (.compLoop (.ListComp elt [⟨.Name x px,iter,ifs,0⟩] scope pos) 0 (.ref it) (.ref s2.heap.objs.size) (compEnvC scope (dB X.env.cells scope.names) HH.objs.size X.env)) (RR (.ref s2.heap.objs.size) HH.objs.size) s₃:=by
    rintro s₃ rfl;refine VN (fun n s'=>∃(i:Nat) (v:Option V) (ys:List V) (H':Hp),Inv (d7 X (x::cs.map (·.1)) scope (dB X.env.cells scope.names) HH.objs.size s2 H2 fp (X.pn ++ pins)) [] (v::iB cs σ) H' s'/\tn i s'.heap/\(∀b∈fp,H' b=none)/\W i n ys H')
      ?_ m0 ⟨0,none,[],_,IC,stC,frC,w0⟩
    rintro n s3 ⟨i,v3,ys,H3,I3,st3,fr3,w3⟩;obtain⟨hD3,tr⟩:=turn i n ys H3 w3;rcases tr with⟨stop,qn⟩ |⟨go,hsz,N,hN,step⟩
    · refine aP (T.done (d7 X (x::cs.map (·.1)) scope (dB X.env.cells scope.names) HH.objs.size s2 H2 fp (X.pn ++ pins)) rfl rfl rfl hc i [] s3 _ H3 _ I3 (stat fr3) st3 stop) fun r s4 ⟨hr,I4⟩=>?_;subst hr;show RR (.ref s2.heap.objs.size) HH.objs.size (.ok .next) s4
      have IP:Inv X pins σ H3 s4:=I2.call' (ch:=fp) I4.os I4.base I4.hok I4.bare fun b hb=>⟨(f2 b hb).2.2.2.1,(f2 b hb).2.1,(f2 b hb).2.2.2.2.1,(f2 b hb).2.2.2.2.2⟩;obtain⟨m4,⟨oC,es,ep,hoC,hdC,hk1,hk2⟩,_⟩:=I4.loc;have nC3:H3 HH.objs.size=none:=I4.free;have fC:dO X pins H3 HH.objs.size:=I2.fpOk hCle nC3;refine hRR _ _ oC H3 s4 (IP.pins_of fun p hp=>?_) (fun h' e=>⟨m4,oC,es,ep,e,hdC,hk1,hk2⟩) fC qn;rcases xa9.mp hp with z |z
      · exact IP.pin p (xaz _ z)
      · have e:p=(HH.objs.size,oC):=by simpa using z
        subst e;exact ⟨hoC,nC3,fC.2.1,fC.2.2.1,fun v z=>by
          have z':oC.data=.cell v:=z;rw[hdC]at z';cases z'⟩
    · refine aP (T.item (d7 X (x::cs.map (·.1)) scope (dB X.env.cells scope.names) HH.objs.size s2 H2 fp (X.pn ++ pins)) rfl rfl rfl hc i [] s3 _ H3 _ I3 (stat fr3) st3 go) fun r s4 ⟨u,hr,h4⟩=>?_;subst hr;refine aP h4 fun _ s5 ⟨y,H5,I5,r5,y5,st5,fr5⟩=>?_;have I5':=I5.pinned (stat fr5) (T.obj _ _ st5);have hloc:Loc (d7 X (x::cs.map (·.1)) scope (dB X.env.cells scope.names) HH.objs.size s2 H2 fp (X.pn ++ pins)).env.scope x:=.inl (lookup_relabel_local ok.own);refine xcO (sV (i:=0) I5' ok.nd rfl hloc r5 (fun s6 I6=>?_) (.inr (lookup_relabel_local ok.own)));refine aP (hq _ _ _ _ _ _ _ s6 _ H5 _ I6 (step y H5 y5)) fun b s7 ⟨H7,I7,q7⟩=>?_;have again:∀{v':Option V} {H8:Hp} {s8:Shared} {ys':List V} {m':Nat},Inv (d7 X (x::cs.map (·.1)) scope (dB X.env.cells scope.names) HH.objs.size s2 H2 fp (X.pn ++ pins)) ([] ++ zY fp s5.heap) (v'::iB cs σ) H8 s8->W (i + 1) m' ys' H8->
          ∃(i:Nat) (v:Option V) (ys:List V) (H':Hp),Inv (d7 X (x::cs.map (·.1)) scope (dB X.env.cells scope.names) HH.objs.size s2 H2 fp (X.pn ++ pins)) [] (v::iB cs σ) H' s8/\tn i s8.heap/\(∀b∈fp,H' b=none)/\W i m' ys H':=fun {v' H8 s8 ys' m'} I8 w8=>by
        refine⟨i + 1,v',ys',H8,I8.unpinned,T.keep _ _ _ st5 fun b hb o e=>(I8.pin (b,o) (xaz _ (xaz _ (CT hb e)))).1,fun b hb=>?_,w8⟩;obtain⟨o,e,d⟩:=T.obj _ _ st5 b hb;exact(I8.pin (b,o) (xaz _ (xaz _ (CT hb e)))).2.1
      cases b with
      |false=>
        rw[xaf xat]at q7;rw[xaf xat];obtain⟨m',hm,w8⟩:=hN _ _ q7;exact⟨m',hm,again I7 w8⟩
      |true=>
        rw[xab rfl]at q7;rw[xab rfl];refine aP (he _ _ _ _ _ _ _ s7 _ H7 _ I7 q7) fun z s8 ⟨zv,H8,I8,r8,hD8,n8⟩=>?_;obtain⟨m',hm,w8⟩:=hN _ _ n8;refine aP (Il (X:=d7 X (x::cs.map (·.1)) scope (dB X.env.cells scope.names) HH.objs.size s2 H2 fp (X.pn ++ pins)) _ s8 _ H8 (.ref s2.heap.objs.size) [zv] (.ref s2.heap.objs.size) [z] (fun _ H9=>H9=upd H8 s2.heap.objs.size (.lst (ys ++ [zv]))) I8 rfl (.cons r8 .nil) ⟨_,ys,zv,rfl,rfl,hD8,hsz,rfl⟩) fun _ s9 ⟨_,H9,I9,_,e9⟩=>?_;subst e9;exact⟨m',hm,again I9 w8⟩
  exact codeAny_compStart_list (loop _ rfl) (T.self _ 0 _ _ _ stC (loop _ rfl))
noncomputable def zdW (wi:TI) (tq:TT) (te:TE) (cs:List (Str×Nat)):TE:=fun σ H Q=>Ba wi tq te cs σ H fun D H'=>Q (.ref D) H'
theorem ZS (x:Str)(cs:List (Str×Nat))(hc:X.calm=true)(hi:PI X (.Name x px) iter wi)
  (hq:∀(cl:List (Str×Addr)) (C:Addr) (s₀:Shared) (H₀:Hp) (ex:List Addr) (pn:Pnx),lW (d7 X (x::cs.map (·.1)) scope cl C s₀ H₀ ex pn) ifs tq)
  (he:∀(cl:List (Str×Addr)) (C:Addr) (s₀:Shared) (H₀:Hp) (ex:List Addr) (pn:Pnx),PE (d7 X (x::cs.map (·.1)) scope cl C s₀ H₀ ex pn) elt te)
  (ok:wK X.N X.env.scope x cs scope=true:=by kernel_rfl) (hs:∀x,foldedSetIterable iter X.env x=pure x:=by intro _;rfl):
  PE X (.ListComp elt [⟨.Name x px,iter,ifs,0⟩] scope pos) (zdW wi tq te cs):=by
 intro pins s σ H Q I h;have ok':=CompOk.of ok;rw[eval_ListComp];refine xc3 (use:=none) rfl hs (N7 fun y hy hk=>I.ok.has y.1 (ok'.has y hy hk)) ok'.kind ok'.names ?_;refine Ob (RR:=fun acc C=>compPost (model X.prog X.w) X.A X.xe none (EP X pins σ Q) acc C) hc hi hq he ok' I h ?_;intro D C oC H' s' I' hns fC q;refine⟨_,(hns _ (I'.pin (C,oC) (xaz _ (xaz _ (by simp)))).1).choose_spec,fun h' hs'=>?_⟩;have I1:Inv X pins σ H' s':=I'.unpinned;exact⟨.ref D,H',I1.turned (t':=s'.toks) (fun b o hb e=>(hs'.2 b hb).trans e) fC.1 fC.2.1 fC.2.2.2.1 fC.2.2.2.2.1 fC.2.2.2.2.2,rfl,q⟩
noncomputable def zek (k:Nat) (wi:TI) (tq:TT) (te:TE) (cs:List (Str×Nat)):TS:=fun D σ H=>Ba wi tq te cs σ H fun l H'=>D.nx (σ.set k (some (.ref l))) H'
theorem zbn (x:Str)(cs:List (Str×Nat))(hN:X.N.Nodup)(hk:X.N[k]? =some y)(hy:Loc X.env.scope y)(hc:X.calm=true)(hi:PI X (.Name x px) iter wi)
  (hq:∀(cl:List (Str×Addr)) (C:Addr) (s₀:Shared) (H₀:Hp) (ex:List Addr) (pn:Pnx),lW (d7 X (x::cs.map (·.1)) scope cl C s₀ H₀ ex pn) ifs tq)
  (he:∀(cl:List (Str×Addr)) (C:Addr) (s₀:Shared) (H₀:Hp) (ex:List Addr) (pn:Pnx),PE (d7 X (x::cs.map (·.1)) scope cl C s₀ H₀ ex pn) elt te)
  (ok:wK X.N X.env.scope x cs scope=true:=by kernel_rfl) (hs:∀x,foldedSetIterable iter X.env x=pure x:=by intro _;rfl)
  (hsw:swapsWith (.ListComp elt [⟨.Name x px,iter,ifs,0⟩] scope pos) (some (.Name y py)) spos.line X.env=pure true:=by rfl)
  (hf:X.fn y=true\/X.env.scope.names.lookup y=some .local:=by first |exact .inl rfl |exact .inr rfl |assumption):
  PS X (.Assign [.Name y py] (.ListComp elt [⟨.Name x px,iter,ifs,0⟩] scope pos) spos) (zek k wi tq te cs):=by
 intro pins s σ H D I h;have ok':=CompOk.of ok;rw[exec_Assign_Name_used _ _ _ _ hsw];refine tG (xb0 (tG ?_));show wpAny _ X.A (do let _ <-comprehension (.ListComp elt [⟨.Name x px,iter,ifs,0⟩] scope pos) scope X.env _ (newList []) false (eval iter X.env) (some (assign (.Name y py) X.env))) _ _ s
 refine tG (xaM (xc3 (use:=some (assign (.Name y py) X.env)) (Q:=fun _ s'=>SP X pins D .next s') rfl hs (N7 fun y hy hk=>I.ok.has y.1 (ok'.has y hy hk)) ok'.kind ok'.names
  (Ob (RR:=fun acc C=>compPost (model X.prog X.w) X.A X.xe (some (assign (.Name y py) X.env)) (fun _ s'=>SP X pins D .next s') acc C) hc hi hq he ok' I h ?_)) (fun _ s' hq=>xaj (xaj hq)) fun _ _ e=>e)
 intro l C oC H' s' I' hns fC q;show wpAny _ X.A (assign (.Name y py) X.env (.ref l)) _ _ _;refine xcO (sV (v:=.ref l) I' hN hk hy rfl (fun s'' I''=>?_) hf);refine⟨_,(hns _ (I''.pin (C,oC) (xaz _ (xaz _ (by simp)))).1).choose_spec,fun h' hs'=>?_⟩;have I1:Inv X pins _ H' s'':=I''.unpinned;exact⟨_,H',I1.turned (t':=s''.toks) (fun b o hb e=>(hs'.2 b hb).trans e) fC.1 fC.2.1 fC.2.2.2.1 fC.2.2.2.2.1 fC.2.2.2.2.2,q⟩
end
theorem vU (hD:H D=none):Same H (upd H D o):=fun b ob e=>by
 rw[aQ (kj e hD)];exact e
structure Noted (fs:List Addr)(z:Addr)(h h':Heap)(e:Addr)(oe:Obj)(T:Addr)(fl:Value):Prop where
 keep:∀b o,b∉fs->b≠e->b≠z->h.get? b=some o->h'.get? b=some o
 slot:∀b o,b∈fs->b≠e->b≠z->h.get? b=some o->∃sl,h'.get? b=some {o with slots:=sl}
 exc:h'.get? e=some (oe.mapFields (·.setIfInBounds 1 (.ref T)))
 new:h.objs.size<=T
 tb:∃oT ts,h'.get? T=some oT/\oT.data=.fields ts/\ts[3]? =some fl
section
variable {M:Model}{A:Around}{E:Value->Shared->Prop}{s:Shared}{base:Heap}{env:Env}{outer:List Env}{L e z:Addr}{oe:Obj}{vs:Array Value}{Q:Unit->Shared->Prop}
theorem Q6 (a1:A.frames=some (env::outer))(a2:s.heap.FunFrames base (env::outer))(a3:env.frame=some L)
  (a4:s.heap.get? e=some oe) (a5:oe.data=.fields vs) (a6:1<vs.size)
  (k:∀h' T,Noted (frs (env::outer)) e s.heap h' e oe T (rawInt L)->Q () {s with heap:=h'}):
  wpAny M A (do
   let a <-frameOf env
   let pl <-entryPlaceOf L hadNext
   let b <-EntryCells.newEntry head a .none (rawInt L) .none pl
   setField (.ref e) 1 b) Q E s:=by
 have ne:e∉frs (env::outer):=fun m=>by
  obtain⟨_,o,e1,e2⟩:=a2.mem m;rw[a4]at e1;cases e1;exact e2 vs a5
 refine tG (wpAny_frameOf_fun a1 a2 a3 fun h1 S=>?_);refine tG (wpAny_entryPlaceOf fun pl hpl=>?_);unfold EntryCells.newEntry newFields;refine tG (xa7 ?_ (hpl.sizeOk5 _ _ _ _ _));have b1:h1.get? e=some oe:=(S.2.1 e ne).trans a4;have b2:=xaa (h:=h1) {cls:=.type "traceback",dict:=none,data:=.fields ([head,.ref L,.none,rawInt L,.none] ++ (if pl.isEmpty then List.replicate 6 Value.none else pl)).toArray} b1
 refine xbQ b2 a5 a6 (k _ h1.objs.size ?_);have n1:h1.objs.size≠e:=xcT (xaq b1);have frd:=xbx (xaN a5 (·.setIfInBounds 1 (Value.ref h1.objs.size)));refine⟨fun b o nb nbe _ hb=>?_,fun b o _ nbe _ hb=>?_,xby _ b2 frd,xcV S.1.symm,?_⟩
 ·rw[xaQ _ _ (xbh nbe)];exact xaa _ ((S.2.1 b nb).trans hb)
 ·obtain⟨sl,q⟩:=S.2.2 b o hb;refine⟨sl,?_⟩;rw[xaQ _ _ (xbh nbe)];exact xaa _ q
 ·refine⟨_,_,(xaQ _ _ (xbh n1)).trans (xav h1 rfl),rfl,?_⟩;rcases hpl with rfl |⟨_,_,_,_,_,_,_,rfl⟩<;>simp
theorem OJ (b1:s.heap.get? e=some oe)(b2:oe.data=.fields vs)(b3:vs[1]? =some (.ref T))(b4:s.heap.get? T=some oT)(b5:oT.data=.fields ts)(b6:3<ts.size)
  (k:Q () {s with heap:=s.heap.update T (Obj.mapFields (·.setIfInBounds 3 .none))}):wpAny M A (setFlight (.ref e) none) Q E s:=by
 unfold setFlight;refine tG (xbr b1 b2 b3 ?_);rw[xab (by simp)];exact xbQ b4 b5 b6 k
theorem Yc (N:Noted fs z h h1 e oe T fl)(a4:h.get? e=some oe)(a5:oe.data=.fields vs):Noted fs z h (h1.update T (Obj.mapFields (·.setIfInBounds 3 .none))) e oe T .none:=by
 obtain⟨oT,ts,t1,t2,t3⟩:=N.tb;have ne:∀b o,h.get? b=some o->b≠T:=fun b o q=>xaA (xag (xaq q) N.new);refine⟨fun b o n1 n2 n3 hb=>?_,fun b o n1 n2 n3 hb=>?_,?_,N.new,?_⟩
 ·rw[xaQ _ _ (xbh (ne b o hb))];exact N.keep b o n1 n2 n3 hb
 ·obtain⟨sl,q⟩:=N.slot b o n1 n2 n3 hb;exact⟨sl,by rw[xaQ _ _ (xbh (ne b o hb))];exact q⟩
 ·rw[xaQ _ _ (xbh (ne e oe a4))];exact N.exc
 ·have z3:3<ts.size:=(xa4.mp t3).1;exact⟨_,_,xby _ t1 (xbx (xaN t2 _)),xaN t2 _,by simp[z3]⟩
theorem Q8 (N:Noted fs z h s.heap e oe T fl)(a4:h.get? e=some oe)(a5:oe.data=.fields vs)(a6:1<vs.size)
  (k:∀h',Noted fs z h h' e oe T .none->Q () {s with heap:=h'}):wpAny M A (setFlight (.ref e) none) Q E s:=by
 obtain⟨oT,ts,t1,t2,t3⟩:=N.tb;refine OJ N.exc (xaN a5 _) (by simp[a6]) t1 t2 (xa4.mp t3).1 (k _ (Yc N a4 a5))
theorem Xo (a1:A.frames=some (env::outer))(a2:s.heap.FunFrames base (env::outer))(a3:env.frame=some L)
  (a4:s.heap.get? e=some oe) (a5:oe.data=.fields vs) (a6:vs[1]? =some .none) (k:∀h' T,Noted (frs (env::outer)) e s.heap h' e oe T .none->Q () {s with heap:=h'}):wpAny M A (leaving env (.ref e)) Q E s:=by
 have z1:=(xa4.mp a6).1;unfold leaving noteFrame;simp only[a3];refine tG (tG (xbr a4 a5 a6 ?_));rw[xaf (by decide)];exact Q6 a1 a2 a3 a4 a5 z1 fun h' T N=>Q8 (s:={s with heap:=h'}) N a4 a5 z1 fun h2 N2=>k h2 T N2
theorem Yb (a1:A.frames=some (env::outer))(a2:s.heap.FunFrames base (env::outer))(a3:env.frame=some L)
  (a4:s.heap.get? e=some oe) (a5:oe.data=.fields vs) (a6:vs[1]? =some (.ref T0)) (b1:T0≠e) (b2:s.heap.get? T0=some oT) (b3:oT.data=.fields ts) (b4:ts[3]? =some .none)
  (k:∀h' T,Noted (frs (env::outer)) T0 s.heap h' e oe T (rawInt L)->Q () {s with heap:=h'}):wpAny M A (noteFrame (.ref e) env) Q E s:=by
 have z1:=(xa4.mp a6).1;unfold noteFrame;simp only[a3];refine tG (xbr a4 a5 a6 ?_);rw[xab (by simp)];refine tG (xbr b2 b3 b4 ?_);rw[xaf (by simp[rawInt])];refine tG (xbQ b2 b3 (xa4.mp b4).1 ?_);have oth:∀b,b≠T0->(s.heap.update T0 (Obj.mapFields (·.setIfInBounds 3 Value.none))).get? b=s.heap.get? b:=fun b hb=>xaQ _ _ (xbh hb);have fr:∀b o,s.heap.get? b=some o->(∀us,o.data≠ .fields us)->b≠T0:=fun b o hb n r=>by
  rw[r,b2]at hb;cases hb;exact n ts b3
 refine Q6 (s:={s with heap:=s.heap.update T0 (Obj.mapFields (·.setIfInBounds 3 Value.none))}) a1 (a2.of_keeps fun b o hb n=>⟨o,(oth b (fr b o hb n)).trans hb,rfl⟩) a3 ((oth e (xbh b1)).trans a4) a5 z1 fun h' T N=>k h' T ?_;exact⟨fun b o n1 n2 n3 hb=>N.keep b o n1 n2 n2 ((oth b n3).trans hb),fun b o n1 n2 n3 hb=>N.slot b o n1 n2 n2 ((oth b n3).trans hb),N.exc,by rw[<-Heap.size_after_update s.heap T0 (Obj.mapFields (·.setIfInBounds 3 Value.none))];exact N.new,N.tb⟩
end
section
variable {prog:Program}{w:World}{A:Around}{E:Value->Shared->Prop}{h:Heap}{g:Array GenState}{d:Drawn}{t:Nat}{os:OsState}
variable {nm q:Str}{C N:Addr}{bs bm bmB:List Value}{hdct:Bool}{sn:List Str}{sub:List Value}{ab:Bool}{col:Option Bool}{dd:Option Addr}{k0 k1 k2 k3 k5:Option Value}{B newId initId:String}
theorem zaF (hh:A.handled=none)
  (k : wpAny (model prog w) A x (fun v s₁=>∃e oe vs,v=.ref e/\(∃C nm q N bs bm hdct sn sub ab col dd k0 k1 k2 k3 k5 newId,s₁.heap.get? C=some (excClassObj nm q C N bs bm hdct sn sub ab col dd k0 k1 k2 k3 k5 newId)/\bm.contains (.type "BaseException")=true/\oe.cls=.ref C)/\
   s₁.heap.get? e=some oe/\oe.data=.fields vs/\vs[1]? =some .none/\E (.ref e) s₁) E s):
  wpAny (model prog w) A (raiseStmt env (some x) none) Q E s:=by
 unfold raiseStmt;refine tG (xaM k (fun v s₁ h₁=>?_) fun _ _ x=>x);obtain⟨e,oe,vs,rfl,⟨C,nm,q,N,bs,bm,hdct,sn,sub,ab,col,dd,k0,k1,k2,k3,k5,newId,hC,hb,hc⟩,he,hd,h1,hE⟩:=h₁;have hcB:(Value.ref C::bm).contains (.type "BaseException")=true:=by rw[xdC,hb,Bool.or_true]
 obtain⟨oc,od,odt,osl⟩:=oe;dsimp only at hc hd;subst hc hd;obtain⟨hp,g,d,tk,os⟩:=s₁
 repeat (first |with_reducible refine xcf he ?_ |with_reducible refine xcf hC ?_ |(with_reducible refine xcz hC ?_;rw[hcB]) |with_reducible refine xbr he rfl h1 ?_ |wp_step)
 exact wpAny_raiseNew_none hh hE
end
section
variable {prog:Program}{w:World}{A:Around}{E:Value->Shared->Prop}{h:Heap}{g:Array GenState}{d:Drawn}{t:Nat}{os:OsState}
variable {nm q:Str}{C N:Addr}{bs bm bmB:List Value}{hdct:Bool}{sn:List Str}{sub:List Value}{ab:Bool}{col:Option Bool}{dd:Option Addr}{k0 k1 k2 k3 k5:Option Value}{B newId initId:String}
theorem zcc 
  (c1:h.get? C=some (excClassObj nm q C N bs bm hdct sn sub ab col dd k0 k1 k2 k3 k5 newId)) (c2:h.get? c=some (excClassObj nm' q' c N' bs' bm' hdct' sn' sub' ab' col' dd' j0 j1 j2 j3 j5 newId)) (e1:h.get? e=some oe) (e2:oe.cls=.ref C)
  (hb:bm'.contains (.type "BaseException")=true) (k:Q ((Value.ref C::bm).contains (.ref c)) ⟨h,g,d,t,os⟩):wpAny (model prog w) A (excMatches (.ref e) (.ref c)) Q E ⟨h,g,d,t,os⟩:=by
 have hcB:(Value.ref c::bm').contains (.type "BaseException")=true:=by rw[xdC,hb,Bool.or_true]
 have f:=tc_notTuple;unfold excMatches;generalize hr:(Value.ref C::bm).contains (.ref c)=r at k
 repeat (first |(with_reducible refine xcf e1 ?_;rw[e2]) |with_reducible refine xcf c2 ?_ |(with_reducible refine xcz c2 ?_;rw[hcB]) |(with_reducible refine xcz c1 ?_;rw[hr]) |wp_step)
 cases r<;>(wp_walk;exact k)
end
abbrev MF:List Value:=[.type "ValueError",.type "Exception",.type "BaseException",.type "object"]
def Mz:List Value->Bool
 |.ref _::r=>Mz r
 |l=>l==MF
noncomputable def bW (K:Fgx) (C:Addr):Bool:=match K.lookup C with
  | some ⟨.type "type", _, .cls cd, sl⟩ => (match cd.mro,sl.toList with
    |.ref c::bm,[_,_,_,_,some (.builtin n),_]=>c==C && (n=="ValueError.__new__" && (!cd.hasDel && (PySem.W.tailIn K MF bm && (PySem.W.nsOkIn K cd.ns && (cd.hasDict && Mz bm)))))
    |_,_=>false)
  |_=>false
structure XCls (h:Heap)(C:Addr)(nm qn:Str)(N:Addr)(bs bm:List Value)(sn:List Str)(sub:List Value)(ab:Bool)(col:Option Bool)(dd:Option Addr)(k0 k1 k2 k3 k5:Option Value):Prop where
 obj:h.get? C=some (excClassObj nm qn C N bs bm true sn sub ab col dd k0 k1 k2 k3 k5 "ValueError.__new__")
 tail:OwnTail h MF bm
 ns:h.Ns N (h.nsMap N)
 over:Mz bm=true
theorem Et {K:Fgx}{h:Heap}{C:Addr}(X:K.In h)(q:bW K C=true):∃nm qn N bs bm sn sub ab col dd k0 k1 k2 k3 k5,
  XCls h C nm qn N bs bm sn sub ab col dd k0 k1 k2 k3 k5/\K.lookup C=some (excClassObj nm qn C N bs bm true sn sub ab col dd k0 k1 k2 k3 k5 "ValueError.__new__"):=by
 unfold bW at q;split at q
 ·rename_i dd cd sl ho;split at q
  ·rename_i c bm k0 k1 k2 k3 n k5 hm hs;simp only[xam,xaY,xcR]at q;obtain⟨q1,q2,q3,q4,q5,q6,q7⟩:=q;obtain⟨nm,bs,mro,ns,qn,hd,sn,sub,ab,col,del⟩:=cd;obtain⟨sl⟩:=sl;dsimp only at hm hs q3 q5 q6;subst q1 q2 hm q3 q6 hs;exact⟨nm,qn,ns,bs,bm,sn,sub,ab,col,dd,k0,k1,k2,k3,k5,⟨X _ _ ho,PySem.W.tail_of_in X q4,.of_isNs (PySem.W.isNs_of_in X q5),q7⟩,ho⟩
  ·cases q
 ·cases q
noncomputable def Bj (K:Fgx) (C:Addr):Bool:=match K.lookup C with
 |some ⟨_,_,.cls cd,_⟩=>PySem.W.nsIn K cd.ns "__init__"==some none
 |_=>false
noncomputable def wC (K:Fgx) (C:Addr):Bool:=PySem.W.findIn K (.ref C) "__getattribute__"==some (some (.builtin "BaseException.__getattribute__")) &&
 (PySem.W.findIn K (.ref C) "__getattr__"==some none && PySem.W.mroIn K C (.type "BaseException")==some true)
section
variable {prog:Program}{w:World}{A:Around}{E:Value->Shared->Prop}{s:Shared}{K:Fgx}{x C:Addr}{ox:Obj}{od:Option Obj}{name:Str}{tk:Tok}
theorem MP {fill expr:Bool}{Q:Value->Shared->Prop}(X:K.In s.heap)(q:wC K C=true)(I:PySem.W.InstAt s.heap x ox C od)
  (h : wpAny (model prog w) A.in1 (Builtin.«object.__getattribute__» ⟨[.ref x, .str name tk], []⟩) (fun fin s'=>match fin with
   |.done (.ret v)=>wpAny (model prog w) A (handedOut v) Q E s'
   |_=>False) (fun _ _=>False) s):wpAny (model prog w) A (getAttrBy (.ref x) (.str name tk) fill expr) Q E s:=by
 simp only[wC,xam,xaY]at q;obtain⟨g1,g2,g3⟩:=q;have M0:=I.type (M:=model prog w);have M1:=xcp (M:=model prog w) X g1;have M2:=xcp (M:=model prog w) X g2;have M3:PySem.W.Looks (model prog w) s.heap (isInstance (.ref x) (.type "BaseException")) true:=M0.andThen (PySem.W.looks_mroIn X g3);have FB:=PySem.F.excAttr_ValueError;unfold getAttrBy;refine xb1 (tG (M0.here (tG (M1.here ?_))));dsimp only;rw[show(Value.builtin "BaseException.__getattribute__"==Value.builtin "object.__getattribute__")=false from by x_go,xcb,xaf xat];unfold getAttrByItsOwn;refine tG (m:=hookBefore (.ref C)) (M2.here (tG (xcj (xb1 ?_))));unfold callGetattribute;rw[xaf (by cases expr<;>decide +kernel)]
 unfold boundAndCalled;rw[FB.ga.bind];refine tG (xaj ?_);refine xcq (codeAny_call_builtin FB.ga.plain PySem.F.entry_bexc_ga (@PySem.W.check_slot (model prog w) _ _ s "BaseException.__getattribute__" "BaseException" "__getattribute__" (.ref x) [.str name tk] [] _ (by x_go) (by x_go) M3 (PySem.F.args_bexc_ga _ _) ?_));refine xaM h (fun fin s' z=>?_) fun _ _ z=>z.elim;rcases fin with(v |_ |_ |_) |c<;>first |exact z |exact z.elim
theorem zbO {g a:Value}{P:Value->Shared->Prop}(X:K.In s.heap)(I:PySem.W.InstAt s.heap x ox C od)(hf:PySem.W.findObj K C od name=some (.bind g a))(k:wpAny (model prog w) A (call g [a,.ref x,.ref C]) P E s):
  wpAny (model prog w) A (Builtin.«object.__getattribute__» ⟨[.ref x, .str name tk], []⟩) (fun fin s'=>match fin with
   |.done (.ret v)=>P v s'
   |_=>False) E s:=by
 have M0:=I.type (M:=model prog w);have M1:=PySem.W.looks_find (M:=model prog w) X I hf;refine tG (xaj (tG (xaj (tG (M0.here (tG (M1.here ?_)))))));show wpAny _ _ (holding [a] (call g [a,.ref x,.ref C]) >>=ret) _ _ _;exact tG (xb1 (xaM k (fun v s' z=>xaj z) fun _ _ z=>z))
end
noncomputable def xo (a C:Addr) (dx:Option Addr) (b:Bool):HO:=.ext fun h=>∃oe vs t,h.get? a=some oe/\oe.cls=.ref C/\oe.dict=dx/\oe.data=.fields vs/\vs.size=6/\vs[0]? =some (.ref t)/\(b=true->vs[1]? =some .none)
theorem Vb (x:∃oe vs t,h.get? a=some oe/\oe.cls=.ref C/\oe.dict=dx/\oe.data=.fields vs/\vs.size=6/\vs[0]? =some (.ref t)/\(b=true->vs[1]? =some .none)):
  cX P w H h a (xo a C dx b):=by
 obtain⟨oe,vs,t,e,r⟩:=x;exact⟨⟨oe,vs,t,e,r⟩,⟨oe,e⟩,fun h1 h2 ⟨oe,vs,t,e,r⟩ k=>⟨oe,vs,t,k _ e,r⟩⟩
def Ey (h:Heap)(a T:Addr):Prop:=∃oe vs oT ts,h.get? a=some oe/\oe.data=.fields vs/\vs[1]? =some (.ref T)/\T≠a/\h.get? T=some oT/\oT.data=.fields ts/\ts[3]? =some .none
section
variable {P:Program}{w:World}{H:Hp}{h h':Heap}{fs ch:List Addr}{z a C T:Addr}{oe:Obj}{fl:Value}{dx:Option Addr}{b:Bool}{vs:Array Value}
theorem Q7 (N:Noted fs z h h' a oe T .none)(e1:h.get? a=some oe)(e2:oe.data=.fields vs)(e3:vs.size=6):Ey h' a T:=by
 obtain⟨oT,ts,t1,t2,t3⟩:=N.tb;refine⟨_,_,oT,ts,N.exc,xaN e2 _,by simp[e3],fun q=>?_,t1,t2,t3⟩;have z:=xag (xaq e1) N.new;rw[q]at z;exact absurd z (xa0 _)
theorem Yd (N:Noted fs z h h' a oe T fl)(x:∃vs t,oe.cls=.ref C/\oe.dict=dx/\oe.data=.fields vs/\vs.size=6/\vs[0]? =some (.ref t)):∃oe vs t,h'.get? a=some oe/\oe.cls=.ref C/\oe.dict=dx/\oe.data=.fields vs/\vs.size=6/\vs[0]? =some (.ref t)/\(false=true->vs[1]? =some .none):=by
 obtain⟨vs,t,c1,c2,c3,c4,c5⟩:=x;refine⟨_,_,t,N.exc,(Obj.cls_mapFields _ _).trans c1,?_,xaN c3 _,by simp[c4],?_,fun q=>by cases q⟩
 ·obtain⟨_,_,od,_⟩:=oe;dsimp only at c3;subst c3;exact c2
 ·rw[Array.getElem?_setIfInBounds_ne (by decide)];exact c5
theorem U7 (N:Noted fs z h h' a oe T fl)(ha:H a=some (xo a C dx b))(hz:z=a\/z∈ch):Un fs ch H (upd H a (xo a C dx false)) h h':=by
 have n1:∀c,H c=none->c≠a:=fun c n q=>by rw[q,ha]at n;cases n
 have n2:∀c,c≠a->c∉ch->c≠z:=fun c n m q=>by
  rcases hz with r |r
  ·exact n (q.trans r)
  ·exact m (q ▸ r)
 have n3:∀c u,H c=some u->(∀φ,u≠ .ext φ)->c≠a:=fun c u q m r=>by
  rw[r,ha]at q;exact m _ (xay q).symm
 refine ⟨fun c o q n hc hx=>N.keep c o hc (n1 c n) (n2 c (n1 c n) hx) q,fun c o q n hc hx=>N.slot c o hc (n1 c n) (n2 c (n1 c n) hx) q,fun c o q n hx=>by rw[aQ (n1 c n)];exact n,fun c o q hx=>?_,
  fun c xs q=>by rw[aQ (n3 c _ q (by intro _ z;cases z))];exact q,fun c o u q=>by rw[aQ (n3 c _ q (by intro _ z;cases z))];exact q,fun c ps q=>⟨#[],by rw[aQ (n3 c _ q (by intro _ z;cases z)),q];simp⟩⟩
 by_cases ca:c=a
 ·rw[ca];exact⟨_,N.exc⟩
 ·by_cases cf:c∈fs
  ·obtain⟨sl,r⟩:=N.slot c o cf ca (n2 c ca hx) q;exact⟨_,r⟩
  ·exact⟨o,N.keep c o cf ca (n2 c ca hx) q⟩
theorem Ph (ok:cA P w H h)(N:Noted fs z h h' a oe T fl)(ha:H a=some (xo a C dx b))(hz:z=a\/H z=none)(hf:∀c∈fs,H c=none)
  (x:∃vs t,oe.cls=.ref C/\oe.dict=dx/\oe.data=.fields vs/\vs.size=6/\vs[0]? =some (.ref t)):cA P w (upd H a (xo a C dx false)) h':=fun c u q=>by
 have n3:∀c u,H c=some u->(∀φ,u≠ .ext φ)->c≠a:=fun c u q m r=>by
  rw[r,ha]at q;exact m _ (xay q).symm
 by_cases hc:c=a
 ·subst hc;rw[bU]at q;cases q;exact Vb (Yd N x)
 ·rw [aQ hc] at q;have kp : ∀ d u v, H d = some u -> d ≠ a -> h.get? d = some v -> h'.get? d = some v := fun d u v q nd r => N.keep d v (fun m => by rw [hf d m] at q; cases q) nd (fun e=>by
   rcases hz with g |g
   ·exact nd (e.trans g)
   ·rw[e,g]at q;cases q) r
  refine(ok c u q).stay (fun d v hd r=>?_) (fun d r=>by rw[aQ (n3 d _ r (by intro _ z;cases z))];exact r) fun d xs r=>by rw[aQ (n3 d _ r (by intro _ z;cases z))];exact r
  rcases hd with rfl |hd
  ·exact kp d u v q hc r
  ·exact kp d _ v hd (n3 d _ hd (by intro _ z;cases z)) r
theorem Un.less (u:Un (L::fs) ch H H' h h')(n:h.get? L=none):Un fs ch H H' h h':=by
 have m:∀c o,h.get? c=some o->c≠L:=fun c o q e=>by rw[e,n]at q;cases q
 exact⟨fun c o q k hc hx=>u.keep c o q k (fun z=>(xaJ.mp z).elim (m c o q) hc) hx,fun c o q k hc hx=>u.slot c o q k (xar _ hc) hx,u.free,u.there,u.tups,u.frzs,u.tbls⟩
end
noncomputable def fY (P:Program) (w:World):eV:=fun outer H s E e s'=>∃a C dx H' T,e=.ref a/\s'.os=s.os/\AllBare s'.gens/\Un (frs outer) [] H H' s.heap s'.heap/\cA P w H' s'.heap/\H' a=some (xo a C dx false)/\H' T=none/\s.heap.objs.size<=T/\Ey s'.heap a T/\E (.ref C) dx H'
section
variable {X:Cx}{pins:Pnx}{σ:St}{H:Hp}{s:Shared}
theorem Qh {P:Program}{w:World}{K:Fgx}{mg:Mgx}{base:Heap}{N:List Str}{qual:Str}{scope:Scope}{f:Addr}{cd:Value}{A:Around}{outer:List PySem.Env}{E:XK}{H1:Hp}{s1:Shared}{a C:Addr}{dx:Option Addr}
  (I:Inv (cV (fY P w) P w K mg base N qual scope f cd A outer s H E) pins σ H1 s1) (ha:H1 a=some (xo a C dx true)) (hE:E (.ref C) dx (upd H1 a (xo a C dx false))):(cV (fY P w) P w K mg base N qual scope f cd A outer s H E).xe (.ref a) s1:=by
 obtain⟨oe,vs,t,e1,e2,e3,e4,e5,e6,e7⟩:=(I.hok a _ ha).1;have fr:=I.ok.frames;have st:=I.stack;refine Xo fr st rfl e1 e4 (e7 rfl) fun h' T Nn=>?_;have hL:s.heap.get? (envOfC qual scope s.heap.objs.size f cd).locals=none:=xco I.ok.above;have u1:Un (s.heap.objs.size::frs outer) [] H H1 s.heap s1.heap:=Un.mono (fs':=s.heap.objs.size::frs outer) (ex':=[]) I.base (fun b hb=>xar _ hb) fun b hb=>hb;have u2:Un (s.heap.objs.size::frs outer) [] H1 (upd H1 a (xo a C dx false)) s1.heap h':=U7 Nn ha (.inl rfl);have hT:H1 T=none:=I.hok.fresh Nn.new;have nT:T≠a:=fun q=>by rw[q,ha]at hT;cases hT
 refine⟨a,C,dx,_,T,rfl,I.os,I.bare,(u1.trans u2).less hL,Ph I.hok Nn ha (.inl rfl) (fun c hc=>I.stkFree c hc) ⟨vs,t,e2,e3,e4,e5,e6⟩,bU,by rw[aQ nT];exact hT,xaB I.sz Nn.new,Q7 Nn e1 e4 e5,hE⟩
end
theorem cX.some_of (x:cX P w H h a o):∃u,h.get? a=some u:=by
 cases o with
 |lst xs=>obtain⟨_,_,_,_,e⟩:=x;exact⟨_,e⟩
 |tup xs=>obtain⟨_,_,_,u,e,_⟩:=x;exact⟨u,e⟩
 |dK kvs=>obtain⟨_,_,_,_,u,_,_,e,_⟩:=x;exact⟨u,e⟩
 |dT kvs=>obtain⟨_,_,_,_,u,_,_,e,_⟩:=x;exact⟨u,e⟩
 |set S n=>obtain⟨u,_,_,_,e,_⟩:=x;exact⟨u,e⟩
 |ins C dx fs=>obtain⟨_,_,_,e,_⟩:=x;exact⟨_,e⟩
 |own y=>exact x
 |xd fs=>obtain⟨_,⟨u,_,_,e,_⟩,_⟩:=x;exact⟨u,e⟩
 |rng lo hi=>obtain⟨_,_,_,e⟩:=x;exact⟨_,e⟩
 |frz ob u=>obtain⟨e,_⟩:=x;exact⟨_,e⟩
 |tbl ps=>exact⟨_,x⟩
 |met f y=>exact⟨_,x⟩
 |ext φ=>exact x.2.1
theorem zdb (e:H a=some o):upd H a o=H:=by
 funext b;unfold upd
 split
 ·subst_vars;exact e.symm
 ·rfl
theorem Eu (ok:cA P w H h)(e:H a=some (xo a C dx b)):
  ∃oe vs t,h.get? a=some oe/\oe.cls=.ref C/\oe.dict=dx/\oe.data=.fields vs/\vs.size=6/\vs[0]? =some (.ref t)/\(b=true->vs[1]? =some .none):=(ok a _ e).1
section
variable {X:Cx}{pins:Pnx}{σ:St}{H:Hp}{s:Shared}
theorem Inv.laidN (I:Inv X pins σ H s)(k:∀b u,s.heap.get? b=some u->h'.get? b=some u)(n:s.heap.get? a=none)(new:cX X.prog X.w (upd H a o) h' a o):
    H a=none/\Inv X pins σ (upd H a o) {s with heap:=h',toks:=t'}:=by
  have hn:H a=none:=by
    cases q:H a with
    |none=>rfl
    |some u=>
      obtain⟨v,e⟩:=(I.hok a u q).some_of;rw[n]at e;cases e
  refine ⟨hn, I.un ⟨fun b u q _ _ _=>k b u q,fun b u q _ _ _=>⟨u.slots,k b u q⟩,fun b u q m _=>?_,fun b u q _=>⟨u,k b u q⟩,fun b xs q=>by rw[aQ (kj q hn)];exact q,fun b u xs q=>by rw[aQ (kj q hn)];exact q,
    fun b ps q=>⟨#[],by rw[aQ (kj q hn),q];simp⟩⟩ fun b u q=>?_⟩
  · rw[aQ (fun z=>by rw[z,n]at q;cases q)];exact m
  · by_cases hb:b=a
    · subst hb;rw[bU]at q;cases q;exact new
    · rw[aQ hb]at q;exact(I.hok b u q).stay (fun c v _ r=>k c v r) (fun c r=>by rw[aQ (kj r hn)];exact r) fun c xs r=>by rw[aQ (kj r hn)];exact r
theorem zaY {e:Expr}{te:TE}{pos:Pos}{W:Addr->Addr->Option Addr->Hp->Prop}(he:PE X e te)(hc:X.calm=true)
  (hx:∀pins σ H s a C dx,Inv X pins σ H s->H a=some (xo a C dx true)->W a C dx H->X.xe (.ref a) s):
  PS X (.Raise (some e) none pos) (fun _ σ H=>te σ H fun v H1=>∃a C dx,v=.ref a/\H1 a=some (xo a C dx true)/\bW X.K C=true/\W a C dx H1):=by
 intro pins s σ H D I h;rw[arm_exec_Raise];refine tG (xb0 (zaF (I.ok.hd hc) (tG (aP (he pins s σ H _ I h) fun u s1 ⟨v,H1,I1,rv,a,C,dx,ev,ea,q1,w⟩=>tG (xb0 (xaj ?_))))));subst ev;cases rv;obtain⟨nm,qn,N,bs,bm,sn,sub,ab,col,dd,k0,k1,k2,k3,k5,Y,lk⟩:=Et I1.kIn q1;obtain⟨oe,vs,t,e1,e2,e3,e4,e5,e6,e7⟩:=Eu I1.hok ea;exact⟨a,oe,vs,rfl,⟨C,nm,qn,N,bs,bm,_,sn,sub,ab,col,dd,k0,k1,k2,k3,k5,_,Y.obj,Y.tail.hasType xbB.hasBase,e2⟩,e1,e4,e7 rfl,hx pins σ H1 s1 a C dx I1 ea w⟩
noncomputable def sY (K : Fgx) (C : Addr) : Bool := wC K C && (PySem.W.hasDictIn K C && (PySem.W.findIn K (.ref C) "__class__"==some (some (.builtin "object.__class__")) &&
 (PySem.W.specialIn K (.builtin "object.__class__") "__get__"==some (some (.builtin "getset_descriptor.__get__")) && (PySem.W.takesIn K (.builtin "object.__class__")==some true && PySem.W.mroIn K C (.type "object")==some true))))
noncomputable def nZ:V->Option Value
 |.ref a=>some (.ref a)
 |.ty n=>some (.type n)
 |_=>none
theorem Vf (r:RelV v u)(h:nZ v=some c):u=c:=by
 cases v<;>simp only[nZ,reduceCtorEq]at h
 ·cases h;exact r
 ·cases h;exact r
end
section
variable {X:Cx}{pins:Pnx}{σ:St}{H:Hp}{s:Shared}
theorem Inv.del (I:Inv X pins σ H s)(hN:X.N.Nodup)(hi:X.N[i]? =some x)(hk:X.env.scope.names.lookup x=some .local)(hv:σ[i]? =some (some v))
  (k:∀s',Inv X pins (σ.set i none) H s'->Q () s'):wpAny M A (unbindName X.env x) Q E s:=by
 obtain⟨m,hn,hl⟩:=id I.loc;obtain⟨u,r,q⟩:=hl i x v hi hv (.inl hk);have hk':X.env.kindOf x=some .local:=hk;have hm:m x=some u:=by
  rcases q with⟨_,e⟩ |⟨z,_⟩
  ·exact e
  ·rw[hk']at z;rcases z with z |z<;>cases z
 have hcls:(X.env.scope.kind==.class || (X.env.scope.kind==.module && X.env.locals !=X.env.globals))=false:=by rw[I.ok.kind];rfl
 refine wpAny_unbindName_local hk' hn hm hcls fun h' u' hn' hs=>k _ ?_;obtain⟨oL,_,_,hoL,_⟩:=id hn;have above:∀b o,X.s₀.heap.get? b=some o->b≠X.env.locals:=fun b o e=>xaA (xag (xaq e) I.ok.above);refine⟨I.ok,I.os,I.bare,⟨fun b o e n hb hx=>(hs.2 b (above b o e)).trans (I.base.keep b o e n hb hx),fun b o e n hb hx=>?_,I.base.free,fun b o e hx=>?_,I.base.tups,I.base.frzs,I.base.tbls⟩,⟨_,hn',fun j y v' e1 e2 e3=>?_⟩,fun y c e=>?_,I.free,I.freeC,fun p hp=>?_,fun b ob e=>?_,by simpa using I.len⟩
 ·obtain⟨sl,e1⟩:=I.base.slot b o e n hb hx;exact⟨sl,(hs.2 b (above b o e)).trans e1⟩
 ·obtain⟨o',e1⟩:=I.base.there b o e hx;exact⟨o',(hs.2 b (above b o e)).trans e1⟩
 ·have hj:j≠i:=by
   rintro rfl;rw[xaL]at e2;split at e2
   ·split at e2<;>cases e2
   ·rename_i z;exact z rfl
  rw[xbe (xbh hj)]at e2;obtain⟨u2,r2,q2⟩:=hl j y v' e1 e2 e3;refine⟨u2,r2,?_⟩;rcases q2 with⟨k2,e⟩ |⟨k2,c,e,z⟩
  ·have ne:y≠x:=fun e=>hj (Iu hN e1 (e ▸ hi));exact .inl ⟨k2,(xaf ne).trans e⟩
  ·exact .inr ⟨k2,c,e,z.sameBut hs (I.cne y c e)⟩
 ·obtain⟨w',z⟩:=I.cell y c e;exact⟨w',z.sameBut hs (I.cne y c e)⟩
 ·obtain⟨e,n,ne,nf,d⟩:=I.pin p hp;exact⟨(hs.2 p.1 ne).trans e,n,ne,nf,d⟩
 ·refine(I.hok b ob e).stay (fun c w' hc q=>(hs.2 c ?_).trans q) (fun _ q=>q) fun _ _ q=>q;rintro rfl;rcases hc with rfl |hc
  ·rw[I.free]at e;cases e
  ·rw[I.free]at hc;cases hc
structure Caught (X:Cx)(pins:Pnx)(σ:St)(H:Hp)(s:Shared)(a C:Addr)(dx:Option Addr)(T:Addr):Prop where
 inv:Inv X pins σ H s
 obj:H a=some (xo a C dx false)
 fl:Ey s.heap a T
 hT:H T=none
 t1:X.s₀.heap.objs.size<=T
 t2:T≠X.env.locals
 t3:∀x c,X.env.cells.lookup x=some c->c≠T
 t4:∀p∈X.pn ++ pins,p.1≠T
theorem Nv (I:Inv X pins σ H s)(h:s.heap.objs.size<=T):X.s₀.heap.objs.size<=T/\T≠X.env.locals/\(∀x c,X.env.cells.lookup x=some c->c≠T)/\∀p∈X.pn ++ pins,p.1≠T:=by
 refine⟨xaB I.sz h,xcT (xag I.lt h),fun x c e=>?_,fun p hp=>?_⟩
 ·obtain⟨v,o,ho,_⟩:=I.cell x c e;exact xaA (xag (xaq ho) h)
 ·exact xaA (xag (xaq (I.pin p hp).1) h)
theorem Nx (I:Inv X pins σ H s)(h:fY X.prog X.w X.stack H s E e s'):∃a C dx H' T,e=.ref a/\Caught X pins σ H' s' a C dx T/\E (.ref C) dx H':=by
 obtain⟨a,C,dx,H',T,rfl,os,bare,un,hok,ha,hT,hz,fl,hE⟩:=h;have I2:=I.call' os un hok bare (fun b z=>nomatch z)
 obtain⟨z1,z2,z3,z4⟩:=Nv I hz;exact⟨a,C,dx,H',T,rfl,⟨I2,ha,fl,hT,z1,z2,z3,z4⟩,hE⟩
variable {a C T:Addr}{dx:Option Addr}{Q:Unit->Shared->Prop}{E:Value->Shared->Prop}{M:Model}
theorem Caught.note (c:Caught X pins σ H s a C dx T)(hs:X.stack=X.env::X.outer)(hf:X.env.frame=some X.env.locals)(k:∀s' T',Caught X pins σ H s' a C dx T'->Q () s'):
  wpAny M X.A (noteFrame (.ref a) X.env) (fun _ s2=>wpAny M X.A (setFlight (.ref a) none) Q E s2) E s:=by
 obtain ⟨oe, vs, t, e1, e2, e3, e4, e5, e6, _⟩ := Eu c.inv.hok c.obj;obtain ⟨oe', vs', oT, ts, f1, f2, f3, f4, f5, f6, f7⟩ := c.fl;rw [e1] at f1;cases f1;rw [e4] at f2;cases f2;have fr := c.inv.ok.frames;have st := c.inv.stack;rw [hs] at fr st;refine Yb fr st hf e1 e4 f3 f4 f5 f6 f7 fun h' T' N => Q8 (s := { s with heap := h' }) N e1 e4 (by omega) fun h2 N2 => k _ T' ?_;have hx : ∃ vs t, oe.cls = .ref C /\ oe.dict = dx /\ oe.data = .fields vs /\ vs.size = 6 /\ vs[0]? = some (.ref t) := ⟨vs, t, e2, e3, e4, e5, e6⟩;rw [<- hs] at N2;have u := U7 (ch := [T]) N2 c.obj (.inr (xbj.mpr rfl));have hk := Ph c.inv.hok N2 c.obj (.inr c.hT) (fun b hb => c.inv.stkFree b hb) hx;rw [zdb c.obj] at u hk;have I2 : Inv X pins σ H { s with heap := h2 } := c.inv.call' (s' := { s with heap := h2 }) rfl u hk c.inv.bare (fun b hb=>by
  rw[xbj.mp hb];exact⟨.inr c.t1,c.t2,c.t3,c.t4⟩)
 obtain⟨z1,z2,z3,z4⟩:=Nv c.inv N2.new;exact⟨I2,c.obj,Q7 N2 e1 e4 e5,c.inv.hok.fresh N2.new,z1,z2,z3,z4⟩
theorem Caught.off (c:Caught X pins σ H s a C dx T)(k:∀s',Caught X pins σ H s' a C dx T->Q () s'):wpAny M A (setFlight (.ref a) none) Q E s:=by
 obtain⟨oe,vs,oT,ts,f1,f2,f3,f4,f5,f6,f7⟩:=c.fl;have z3:3<ts.size:=(xa4.mp f7).1;refine OJ f1 f2 f3 f5 f6 z3 (k _ ?_);have kp:∀b o,b≠T->s.heap.get? b=some o->(s.heap.update T (Obj.mapFields (·.setIfInBounds 3 .none))).get? b=some o:=fun b o n e=>(xaQ _ _ (xbh n)).trans e;have I2:=c.inv.turned (t':=s.toks) kp c.hT c.t2 (.inr c.t1) c.t3 c.t4;exact⟨I2,c.obj,⟨oe,vs,_,_,kp a oe (xbh f4) f1,f2,f3,f4,xby _ f5 (xbx (xaN f6 _)),xaN f6 _,by simp[z3]⟩,c.hT,c.t1,c.t2,c.t3,c.t4⟩
end
abbrev Cx.pin (X:Cx)(pins:Pnx)(E:Value->Shared->Prop):Cx:={X with pn:=X.pn ++ pins,xe:=E}
abbrev Cx.suite (X:Cx)(e:Value):Cx:={X with A:=X.A.mark (some e),calm:=false,xe:=fun _ _=>False}
section
variable {X:Cx}{pins ps:Pnx}{σ:St}{H:Hp}{s:Shared}{E:Value->Shared->Prop}{e:Value}
theorem Inv.to_pin (I:Inv X pins σ H s)(E:Value->Shared->Prop):Inv (X.pin pins E) [] σ H s:=
  ⟨⟨I.ok.mod,I.ok.kind,I.ok.glob,I.ok.blt,I.ok.above,I.ok.inj,I.ok.has,I.ok.cab,I.ok.hd,I.ok.frames,I.ok.stk,I.ok.exf,I.ok.bs,I.ok.bsz,I.ok.noex,I.ok.exfs,I.ok.funs,I.ok.frf⟩,I.os,I.bare,I.base,I.loc,I.cell,I.free,I.freeC,
    fun p hp=>I.pin p (by simpa using hp),I.hok,I.len⟩
theorem Inv.of_pin (I:Inv (X.pin pins E) ps σ H s):Inv X pins σ H s:=
  ⟨⟨I.ok.mod,I.ok.kind,I.ok.glob,I.ok.blt,I.ok.above,I.ok.inj,I.ok.has,I.ok.cab,I.ok.hd,I.ok.frames,I.ok.stk,I.ok.exf,I.ok.bs,I.ok.bsz,I.ok.noex,I.ok.exfs,I.ok.funs,I.ok.frf⟩,I.os,I.bare,I.base,I.loc,I.cell,I.free,I.freeC,
    fun p hp=>I.pin p (xbk _ hp),I.hok,I.len⟩
theorem Inv.to_suite (I:Inv X pins σ H s)(e:Value):Inv (X.suite e) pins σ H s:=
 ⟨⟨I.ok.mod,I.ok.kind,I.ok.glob,I.ok.blt,I.ok.above,I.ok.inj,I.ok.has,I.ok.cab,(fun z=>by cases z),I.ok.frames,I.ok.stk,I.ok.exf,I.ok.bs,I.ok.bsz,I.ok.noex,I.ok.exfs,I.ok.funs,I.ok.frf⟩,I.os,I.bare,I.base,I.loc,I.cell,I.free,I.freeC,I.pin,I.hok,I.len⟩
theorem Inv.of_suite (I:Inv (X.suite e) pins σ H s)(hd:X.A.handled=none):Inv X pins σ H s:=
 ⟨⟨I.ok.mod,I.ok.kind,I.ok.glob,I.ok.blt,I.ok.above,I.ok.inj,I.ok.has,I.ok.cab,fun _=>hd,I.ok.frames,I.ok.stk,I.ok.exf,I.ok.bs,I.ok.bsz,I.ok.noex,I.ok.exfs,I.ok.funs,I.ok.frf⟩,I.os,I.bare,I.base,I.loc,I.cell,I.free,I.freeC,I.pin,I.hok,I.len⟩
end
noncomputable def wg (K:Fgx) (C c:Addr):Bool:=match K.lookup C with
 |some ⟨_,_,.cls cd,_⟩=>cd.mro.contains (.ref c)
 |_=>false
theorem ZQ {X:Cx}{CX:eV}{k:Nat}{f:Addr}{fd:FuncData}{ps:List Str}{sp:Sp}{dvs:List V}{ds:List Value}{x:Str}{p pos:Pos}{e:Expr}{es:List Expr}{t:TA}{Ex:St->XK}(F:FnOk X.prog X.w X.K X.mg X.base CX k f fd ps sp)(hr:Room k X.A)(hg:Gl X x)
    (hm:X.mg x=some (.ref f)) (hk:PySem.W.keepIn X.K (.ref f)=true) (hb:Binds X.K fd ps ds) (hd:Vals dvs ds) (hx:∀pins σ H s e s',Inv X pins σ H s->CX X.stack H s (Ex σ) e s'->X.xe e s') (ha:PA X (e::es) t)
    (hdb:(x==("__debug__":Str))=false) (he:starEach (e::es) X.env=(false,eval e X.env)::starEach es X.env) (hpl:(backTo pos (starEach es X.env)).any (·.1)=false):
    PE X (.Call (.Name x p) (e::es) [] pos) (fun σ H Q=>t σ H fun vs H1=>sp (vs ++ dvs) H1 Q (Ex σ)):=by
  intro pins s σ H Q I h;refine xbt (rR I hg hm ?_ hdb);refine xbJ (h₀:=X.base) I.ok.mod.kin hk (aP (ha pos pins s σ H _ I h) fun us s1 ⟨vs,H1,I1,r,q⟩=>⟨I1.kIn,?_⟩) he hpl;have r2:Vals (vs ++ dvs) (us ++ ds):=r.append hd;have hl:(us ++ ds).length=ps.length:=by rw[<-r2.length];exact F.len _ _ _ _ q
  refine xcq (xbO (F.run X.A X.stack s1 H1 ⟨us,[]⟩ (us ++ ds) (vs ++ dvs) Q (Ex σ) hr I1.env0 (hb s1 us I1.kIn hl) r2 q) fun rr s' hq=>?_)
  cases rr with
  |error e=>exact hx pins σ H1 s1 e s' I1 hq
  |ok fl=>
    cases fl with
    |ret u=>exact I1.after hq
    |next=>exact False.elim hq
    |brk=>exact False.elim hq
    |cont=>exact False.elim hq
theorem ns_none_of {K:Fgx}{h:Heap}{N:Addr}{mg:Mgx}{n:Str}(X:K.In h)(G:h.Ns N mg)(e:PySem.W.nsIn K N n=some none):mg n=none:=by
 obtain⟨o,es,ep,ho,hd,_,hf⟩:=G;unfold PySem.W.nsIn at e;split at e
 ·rename_i q;have z:=X _ _ q;rw[ho]at z;cases z;cases hd;split at e
  ·cases e
  ·rename_i he;rw[<-hf];unfold nsFind findBy;rw[<-xdz,he];rfl
 ·cases e
section
variable {X:Cx}
def UL (C:Addr)(Q:VK)(vs:List V)(H:Hp):Prop:=vs.length=1/\∀a,H a=none->Q (.ref a) (upd H a (xo a C none true))
noncomputable def zcv (C:Addr) (te:TE):TE:=fun σ H Q=>te σ H fun v H1=>UL C Q [v] H1
theorem zaW {C:Addr}{x:Str}{p pos:Pos}{e:Expr}{te:TE}(q1:bW X.K C=true)(q2:Bj X.K C=true)(kp:PySem.W.keepIn X.K (.ref C)=true)(hg:Gl X x)(hm:X.mg x=some (.ref C))(he:PE X e te)(hdb:(x==("__debug__":Str))=false)
  (hs:starEach [e] X.env=[(false,eval e X.env)]):PE X (.Call (.Name x p) [e] [] pos) (zcv C te):=by
 intro pins s σ H Q I h;refine xbt (rR I hg hm ?_ hdb);refine xbJ (h₀:=X.base) I.ok.mod.kin kp (aP (pQ he vd hs pos pins s σ H (UL C Q) I h) fun us s1 ⟨vs,H1,I1,r,q⟩=>⟨I1.kIn,?_⟩) hs rfl;obtain⟨nm,qn,N,bs,bm,sn,sub,ab,col,dd,k0,k1,k2,k3,k5,Y,lk⟩:=Et I1.kIn q1;unfold Bj at q2;rw[lk]at q2;simp only[xaY]at q2;have c3:=ns_none_of I1.kIn Y.ns q2;have hl:us.length=1:=by
  rw[<-r.length,q.1]
 obtain⟨hh,g,d,t,os⟩:=s1;refine wpAny_call_exc_subU xbB (by x_go) xbB Y.tail Y.obj Y.ns c3 (fun h' a M=>?_) (by show us.length<=sizeLine;rw[hl,xa6];decide);obtain⟨t0,m1,_,_⟩:=M.there;obtain⟨hn,I2⟩:=I1.laidN (a:=a) (o:=xo a C none true) (t':=t) M.keeps M.new (Vb ⟨_,_,t0,m1,rfl,rfl,rfl,rfl,rfl,fun _=>rfl⟩);exact⟨V.ref a,_,I2,rfl,q.2 a hn⟩
end
theorem zb4 {X:Cx}{body suite:List Stmt}{b0:Stmt}{cn n:Str}{np hp pos:Pos}{c:Addr}{i:Nat}{tb:Ends->TS}{th:TS}
    (hs:X.stack=X.env::X.outer) (hf:X.env.frame=some X.env.locals) (hc:X.calm=true) (hN:X.N.Nodup) (hi:X.N[i]? =some n) (hl:X.env.scope.names.lookup n=some .local) (hg:Gl X cn) (hm:X.mg cn=some (.ref c)) (q:bW X.K c=true) (hdb:(cn==("__debug__":Str))=false)
    (hb : ∀ (pins : Pnx) (D : Ends), eF (X.pin pins fun e s'=>∃σ' H' a C dx T,e=.ref a/\Caught X pins σ' H' s' a C dx T/\bW X.K C=true/\wg X.K C c=true/\
      th {D with nx:=fun σ H=>∃v,σ[i]? =some (some v)/\D.nx (σ.set i none) H,bk:=fun _ _=>False,ct:=fun _ _=>False} (σ'.set i (some (.ref a))) H') body (tb D))
    (hh:∀e,eF (X.suite e) (b0::suite) th):
    PS X (.Try body [.ExceptHandler (some (.Name cn np)) (some n) (b0::suite) hp] [] [] pos) (fun D σ H=>tb D D σ H):=by
  intro pins s σ H D I h;refine wpAny_Try_except (xaM (hb pins D [] s σ H D (I.to_pin _) h) (fun f s1 z=>?_) fun e s1 z=>?_)
  · cases f with
    |next=>obtain⟨σ',H',J,q⟩:=z;exact xb4 ⟨σ',H',J.of_pin,q⟩
    |brk=>obtain⟨σ',H',J,q⟩:=z;exact⟨σ',H',J.of_pin,q⟩
    |cont=>obtain⟨σ',H',J,q⟩:=z;exact⟨σ',H',J.of_pin,q⟩
    |ret u=>obtain⟨v,σ',H',J,r,q⟩:=z;exact⟨v,σ',H',J.of_pin,r,q⟩
  · obtain⟨σ',H',a,C,dx,T,rfl,K1,q1,q2,z⟩:=z;refine K1.note hs hf fun s2 T2 K2=>?_;have hd:=I.ok.hd hc;refine wpAny_handleBy_cons (codeAny_handlers_test ?_) (by intro z;cases z);refine rR (X:=X.suite (.ref a)) (K2.inv.to_suite _) hg hm ?_ hdb;obtain⟨nm,qn,N,bs,bm,sn,sub,ab,col,dd,k0,k1,k2,k3,k5,Y,lk⟩:=Et K2.inv.kIn q1;obtain⟨nm',qn',N',bs',bm',sn',sub',ab',col',dd',j0,j1,j2,j3,j5,Y',lk'⟩:=Et K2.inv.kIn q;obtain⟨oe,vs,t,e1,e2,e3,e4,e5,e6,_⟩:=Eu K2.inv.hok K2.obj;have hit:(Value.ref C::bm).contains (.ref c)=true:=by
      unfold wg at q2;rw[lk]at q2;exact q2
    obtain⟨hh2,g,d,tk,os⟩:=s2;refine zcc Y.obj Y'.obj e1 e2 (Y'.tail.hasType xbB.hasBase) ?_;rw[hit];refine codeAny_handlers_suite_as (K2.off fun s3 K3=>?_);refine sV (X:=X.suite (.ref a)) (v:=.ref a) (K3.inv.to_suite _) hN hi (.inl hl) rfl (fun s4 I4=>?_) (.inr hl);refine xaM (hh (.ref a) pins s4 _ H' _ I4 z) (fun f s5 y=>?_) fun _ _ y=>False.elim y
    cases f with
    |next=>
      obtain⟨σ5,H5,I5,v,ev,y⟩:=y;have I5':=I5.of_suite hd;refine tG (xdd (sV (v:=.non) I5' hN hi (.inl hl) rfl (fun s6 I6=>?_) (.inr hl)));unfold unbindBehindTheSuite;refine wpAny_onRaise (I6.del (v:=.non) hN hi hl ?_ fun s7 I7=>?_)
      · rw[xbq];rw[I5'.len];exact(xad.mp hi).1
      · rw[List.set_set]at I7;exact⟨_,H5,I7,y⟩
    |brk=>obtain⟨_,_,_,y⟩:=y;exact False.elim y
    |cont=>obtain⟨_,_,_,y⟩:=y;exact False.elim y
    |ret u=>
      obtain⟨v,σ5,H5,I5,rv,y⟩:=y;have I5':=I5.of_suite hd;refine tG (xdd (sV (v:=.non) I5' hN hi (.inl hl) rfl (fun s6 I6=>?_) (.inr hl)));unfold unbindBehindTheSuite;refine wpAny_onRaise (I6.del (v:=.non) hN hi hl ?_ fun s7 I7=>?_)
      · rw[xbq];rw[I5'.len];exact(xad.mp hi).1
      · rw[List.set_set]at I7;exact⟨v,_,H5,I7,rv,y⟩
end L2
namespace E3
open PySem PySem.Spec PyProof.Rows L2
inductive D where
 |non |bl (b:Bool) |int (i:Int) |str (s:Str) |tup (xs:List D) |lst (xs:List D) |ref (n:Nat)
structure FnT where
 st:Stmt
 x:Str
 q:Str
 pos:Pos
 fr:List Str
 dd:List Int:=[]
inductive Cl where
  |lst (ds:List D) |obj (c:Str) (fs:List (Str×D)) |dct (kvs:List (L2.Key×D))
    |dcf (kvs:List (L2.Key×D))
    |fn (i:FnT) (caps:List (Str×D)) |tbl (nm:Str) (i:FnT)
abbrev Mm:=List Cl
inductive Slot where
 |un |val (d:D) |own (ds:List D) |exc (c:Str) (n:Int)
abbrev Env:=List Slot
mutual
def D.lf:D->Bool
 |.tup xs=>D.lfs xs
 |.lst _=>false
 |.ref _=>false
 |_=>true
def D.lfs:List D->Bool
 | []=>true
 |a::as=>D.lf a && D.lfs as
end
def KL (K:Fgx)(a:Addr)(vs:List V):Prop:=∃(o:Obj) (its:Array Value) (n:Nat),K.lookup a=some o/\o.cls=.type "list"/\o.dict=none/\o.data=.seq its n/\its.size<=sizeLine/\Vals vs its.toList
structure Pl where
 io:Nat->Addr
 n:Nat
 bd:Addr->Prop
def Fy (K:Fgx)(P:Pl)(H:Hp)(a:Addr)(vs:List V):Prop:=(¬ P.bd a/\Rd H a (.lst vs))\/KL K a vs
def M8 (K:Fgx)(P:Pl)(H:Hp)(a:Addr)(vs:List V):Prop:=((∀k,k<P.n->P.io k≠a)/\Rd H a (.lst vs))\/KL K a vs
mutual
def Is (K:Fgx)(P:Pl)(H:Hp):D->V->Prop
 |.non,v=>v=.non
 |.bl b,v=>v=.bl b
 |.int i,v=>v=.int i
 |.str s,v=>v=.str s
 |.tup ds,v=>∃a vs,v=.ref a/\dZ K H a vs/\aD K P H ds vs
 |.lst ds,v=>∃a vs,v=.ref a/\Fy K P H a vs/\aD K P H ds vs
 |.ref k,v=>k<P.n/\v=.ref (P.io k)
def aD (K:Fgx)(P:Pl)(H:Hp):List D->List V->Prop
 | [],vs=>vs=[]
 |d::ds,vs=>∃v r,vs=v::r/\Is K P H d v/\aD K P H ds r
end
def Fx (o:HO):Prop:=(∃xs,o=.tup xs)\/(∃u w,o=.frz u w)\/(∃g,o=.ext g)\/∃fs,o=.xd fs
structure Lt (P:Pl)(H:Hp)(P':Pl)(H':Hp):Prop where
 n:P.n<=P'.n
 io:∀k,k<P.n->P'.io k=P.io k
 bd:∀a,P'.bd a->P.bd a\/H a=none
 keep:∀a o,H a=some o->(Fx o\/¬ P.bd a)->H' a=some o
 sure:∀a,H' a=none->H a=none
section
variable {K:Fgx}{P P' P'':Pl}{H H' H'':Hp}
theorem Lt.refl (P:Pl)(H:Hp):Lt P H P H:=⟨xai _,fun _ _=>rfl,fun _ z=>.inl z,fun _ _ e _=>e,fun _ z=>z⟩
theorem Lt.frz (l:Lt P H P' H'):∀b o u,H b=some (.frz o u)->H' b=some (.frz o u):=fun b o u e=>l.keep b _ e (.inl (.inr (.inl ⟨_,_,rfl⟩)))
theorem Lt.not (l:Lt P H P' H')(e:H a=some o)(n:¬ P.bd a):¬ P'.bd a:=fun z=>(l.bd a z).elim n fun z=>by rw[e]at z;cases z
theorem Lt.trans (l:Lt P H P' H')(m:Lt P' H' P'' H''):Lt P H P'' H'' where
 n:=xaB l.n m.n
 io:=fun k h=>(m.io k (xag h l.n)).trans (l.io k h)
 bd:=fun a z=>(m.bd a z).elim (l.bd a) fun z=>.inr (l.sure a z)
 keep:=fun a o e h=>m.keep a o (l.keep a o e h) (h.imp id fun n=>l.not e n)
 sure:=fun a z=>l.sure a (m.sure a z)
theorem Lt.rd (l:Lt P H P' H')(n:¬ P.bd a)(h:Rd H a (.lst xs)):Rd H' a (.lst xs):=by
 rcases h with h |⟨o,h⟩
 ·exact .inl (l.keep _ _ h (.inr n))
 ·exact .inr ⟨o,l.keep _ _ h (.inr n)⟩
theorem RX (h:Rd H a o):∃o',H a=some o':=h.elim (fun h=>⟨_,h⟩) fun⟨_,h⟩=>⟨_,h⟩
theorem Lt.rda (l:Lt P H P' H')(h:Fy K P H a xs):Fy K P' H' a xs:=h.imp (fun⟨n,h⟩=>⟨by obtain⟨o,e⟩:=RX h;exact l.not e n,l.rd n h⟩) id
theorem Lt.tup (l:Lt P H P' H')(h:dZ K H a xs):dZ K H' a xs:=by
 rcases h with(h |⟨o,h⟩) |h
 ·exact .inl (.inl (l.keep _ _ h (.inl (.inl ⟨_,rfl⟩))))
 ·exact .inl (.inr ⟨o,l.keep _ _ h (.inl (.inr (.inl ⟨_,_,rfl⟩)))⟩)
 ·exact .inr h
mutual
theorem Is.lt (l:Lt P H P' H'):∀{d:D} {v:V},Is K P H d v->Is K P' H' d v
  |.non,_,h=>h
  |.bl _,_,h=>h
  |.int _,_,h=>h
  |.str _,_,h=>h
  |.tup ds,_,h=>by
    obtain⟨a,vs,e,s,r⟩:=h;exact⟨a,vs,e,l.tup s,aD.lt l r⟩
  |.lst ds,_,h=>by
    obtain⟨a,vs,e,s,r⟩:=h;exact⟨a,vs,e,l.rda s,aD.lt l r⟩
  |.ref k,_,h=>⟨xag h.1 l.n,by rw[l.io k h.1];exact h.2⟩
theorem aD.lt (l:Lt P H P' H'):∀{ds:List D} {vs:List V},aD K P H ds vs->aD K P' H' ds vs
  | [],_,h=>h
  |_::_,_,h=>by
    obtain⟨v,r,e,p,q⟩:=h;exact⟨v,r,e,Is.lt l p,aD.lt l q⟩
end
noncomputable def Pl.less (P:Pl) (B:Addr->Prop):Pl:={P with bd:=fun a=>P.bd a/\B a}
mutual
theorem Is.less:∀{d:D} {v:V},Is K P H d v->Is K (P.less B) H d v
  |.non,_,h=>h
  |.bl _,_,h=>h
  |.int _,_,h=>h
  |.str _,_,h=>h
  |.tup ds,_,h=>by
    obtain⟨a,vs,e,s,r⟩:=h;exact⟨a,vs,e,s,aD.less r⟩
  |.lst ds,_,h=>by
    obtain⟨a,vs,e,s,r⟩:=h;exact⟨a,vs,e,s.imp (fun⟨n,h⟩=>⟨fun z=>n z.1,h⟩) id,aD.less r⟩
  |.ref k,_,h=>h
theorem aD.less:∀{ds:List D} {vs:List V},aD K P H ds vs->aD K (P.less B) H ds vs
  | [],_,h=>h
  |_::_,_,h=>by
    obtain⟨v,r,e,p,q⟩:=h;exact⟨v,r,e,Is.less p,aD.less q⟩
end
mutual
theorem Is.free (P':Pl):∀{d:D} {v:V},d.lf=true->Is K P H d v->Is K P' H d v
  |.non,_,_,h=>h
  |.bl _,_,_,h=>h
  |.int _,_,_,h=>h
  |.str _,_,_,h=>h
  |.tup ds,_,l,h=>by
    obtain⟨a,vs,e,s,r⟩:=h;exact⟨a,vs,e,s,aD.free P' (by simpa only[D.lf] using l) r⟩
  |.lst _,_,l,_=>by simp[D.lf]at l
  |.ref _,_,l,_=>by simp[D.lf]at l
theorem aD.free (P':Pl):∀{ds:List D} {vs:List V},D.lfs ds=true->aD K P H ds vs->aD K P' H ds vs
  | [],_,_,h=>h
  |_::_,_,l,h=>by
    obtain⟨v,r,e,p,q⟩:=h;simp only[D.lfs,xam]at l;exact⟨v,r,e,Is.free P' l.1 p,aD.free P' l.2 q⟩
end
theorem aD.len:∀{ds:List D} {vs:List V},aD K P H ds vs->vs.length=ds.length
  | [],_,h=>by rw[show _=[] from h];rfl
  |d::ds,_,h=>by
    obtain⟨v,r,e,_,q⟩:=h;subst e
    simp[aD.len q]
theorem aD.get:∀{ds:List D} {vs:List V} {i:Nat} {d:D},aD K P H ds vs->ds[i]? =some d->∃v,vs[i]? =some v/\Is K P H d v
  | [],_,_,_,_,e=>by simp at e
  |d::ds,_,0,_,h,e=>by
    obtain⟨v,r,e',p,_⟩:=h
    simp at e
    subst e e';exact⟨v,rfl,p⟩
  |d::ds,_,i + 1,_,h,e=>by
    obtain⟨v,r,e',_,q⟩:=h;subst e'
    simpa using aD.get (i:=i) q (by simpa using e)
theorem aD.append:∀{ds es:List D} {vs ws:List V},aD K P H ds vs->aD K P H es ws->aD K P H (ds ++ es) (vs ++ ws)
  | [],_,_,_,h,q=>by rw[show _=[] from h];exact q
  |d::ds,_,_,_,h,q=>by
    obtain⟨v,r,e,p,h⟩:=h;subst e;exact⟨v,r ++ _,rfl,p,aD.append h q⟩
theorem aD.take:∀{ds:List D} {vs:List V} (n:Nat),aD K P H ds vs->aD K P H (ds.take n) (vs.take n)
  |_,_,0,_=>rfl
  | [],_,n + 1,h=>by rw[show _=[] from h];rfl
  |d::ds,_,n + 1,h=>by
    obtain⟨v,r,e,p,h⟩:=h;subst e;exact⟨v,_,rfl,p,aD.take n h⟩
theorem aD.drop:∀{ds:List D} {vs:List V} (n:Nat),aD K P H ds vs->aD K P H (ds.drop n) (vs.drop n)
  |_,_,0,h=>h
  | [],_,n + 1,h=>by rw[show _=[] from h];rfl
  |d::ds,_,n + 1,h=>by
    obtain⟨v,r,e,p,h⟩:=h;subst e;exact aD.drop n h
theorem aD.one (h:Is K P H d v):aD K P H [d] [v]:=⟨v,[],rfl,h,rfl⟩
end
noncomputable def lC (H:Hp):List (Str×Addr)->List V->Prop
 | [],vs=>vs=[]
 |p::r,vs=>∃v ws u o,vs=v::ws/\RelV v u/\H p.2=some (.frz o (.own p.2))/\o.data=.cell (some u)/\lC H r ws
theorem lC.up {H H':Hp}(s:∀b o u,H b=some (.frz o u)->H' b=some (.frz o u)):∀{cl:List (Str×Addr)} {vs:List V},lC H cl vs->lC H' cl vs
  | [],_,h=>h
  |_::_,_,h=>by
    obtain⟨v,ws,u,o,e,r,q,d,h⟩:=h;exact⟨v,ws,u,o,e,r,s _ _ _ q,d,h.up s⟩
def fD (H:Hp)(c:Addr)(q:Str):Prop:=∃(o:Obj) (fs:Array Value) (t:Tok),H c=some (.frz o (.own c))/\o.data=.fields fs/\fs[1]? =some (.str q t)
theorem fD.up {H H':Hp}{c:Addr}{q:Str}(s:∀b o u,H b=some (.frz o u)->H' b=some (.frz o u))(h:fD H c q):fD H' c q:=by
 obtain⟨o,fs,t,e,r⟩:=h;exact⟨o,fs,t,s _ _ _ e,r⟩
def eE (H:Hp)(dd:List Int)(dV:Value):Prop:=(dd=[]/\dV=.none)\/(dd≠ []/\∃(td:Addr) (o:Obj) (its:Array Value) (n:Nat),dV=.ref td/\H td=some (.frz o (.own td))/\o.data=.seq its n/\Vals (dd.map V.int) its.toList)
theorem eE.up {H H':Hp}{dd:List Int}{dV:Value}(s:∀b o u,H b=some (.frz o u)->H' b=some (.frz o u))(h:eE H dd dV):eE H' dd dV:=
 h.imp id fun⟨e,td,o,its,n,e1,e2,r⟩=>⟨e,td,o,its,n,e1,s _ _ _ e2,r⟩
noncomputable def m8 (mg:Mgx) (i:FnT) (cl:List (Str×Addr)) (dV doc ctv:Value) (c:Addr):Obj:={cls:=.type "function",data:=.func (PySem.W.fnX i.x i.q (cH i.st) (bO i.st) (aL i.st) cl dV .none doc ((mg "__name__").getD .none) none (.ref c) ctv)}
def lD (K:Fgx)(mg:Mgx)(P:Pl)(H:Hp)(a:Addr)(i:FnT)(caps:List (Str×D)):Prop:=
 ∃(cl:List (Str×Addr)) (dV doc ctv:Value) (c:Addr) (vs:List V),H a=some (.frz (m8 mg i cl dV doc ctv c) (.own a))/\(fD H c i.q/\eE H i.dd dV)/\(cl.map (·.1)=caps.map (·.1)/\caps.map (·.1)=i.fr)/\aD K P H (caps.map (·.2)) vs/\lC H cl vs/\∀x y a,cl.lookup x=some a->cl.lookup y=some a->x=y
theorem lD.up {K:Fgx}{mg:Mgx}{P P':Pl}{H H':Hp}{a:Addr}{i:FnT}{caps:List (Str×D)}(h:lD K mg P H a i caps)(s:∀b o u,H b=some (.frz o u)->H' b=some (.frz o u))(q:∀ds vs,aD K P H ds vs->aD K P' H' ds vs):lD K mg P' H' a i caps:=by
 obtain⟨cl,dV,doc,ctv,c,vs,e1,e2,e3,e4,e5,e6⟩:=h;exact⟨cl,dV,doc,ctv,c,vs,s _ _ _ e1,⟨e2.1.up s,e2.2.up s⟩,e3,q _ _ e4,e5.up s,e6⟩
def nW (K:Fgx)(H:Hp)(a:Addr)(nm:Str)(i:FnT):Prop:=
 ∃(c:Addr) (ps:Array Value),PySem.W.tabIn K nm=some (c,a)/\H a=some (.tbl ps)/\(ps= #[]\/∃c',ps= #[rawInt i.pos.line,rawInt i.pos.col,.ref c']/\fD H c' i.q)
theorem nW.up {K:Fgx}{H H':Hp}{a:Addr}{nm:Str}{i:FnT}(h:nW K H a nm i)(e:∀o,H a=some o->H' a=some o)(s:∀b o u,H b=some (.frz o u)->H' b=some (.frz o u)):nW K H' a nm i:=by
 obtain⟨c,ps,e1,e2,e3⟩:=h;exact⟨c,ps,e1,e _ e2,e3.imp id fun⟨c',z,q⟩=>⟨c',z,q.up s⟩⟩
noncomputable def wD (K:Fgx) (mg:Mgx) (P:Pl) (H:Hp) (a:Addr):Cl->Prop
 |.lst ds=>∃vs,H a=some (.lst vs)/\aD K P H ds vs
 |.obj c fs=>∃C dx gs,mg c=some (.ref C)/\H a=some (.ins C dx gs)/\gs.map (·.1)=fs.map (·.1)/\aD K P H (fs.map (·.2)) (gs.map (·.2))
 |.dct kvs=>∃vs:List (L2.Key×V),H a=some (.dK vs)/\vs.map (·.1)=kvs.map (·.1)/\aD K P H (kvs.map (·.2)) (vs.map (·.2))
 |.dcf kvs=>∃(vs:List (L2.Key×V)) (ob:Obj) (es:Array DictEntry) (ep:Nat),H a=some (.frz ob (.dK vs))/\ob.data=.dict es ep/\vs.map (·.1)=kvs.map (·.1)/\aD K P H (kvs.map (·.2)) (vs.map (·.2))
 |.fn i caps=>lD K mg P H a i caps
 |.tbl nm i=>nW K H a nm i
noncomputable def Cl.fix:Cl->Bool
 |.dcf _=>true
 |.fn _ _=>true
 |_=>false
structure Hk (K:Fgx)(mg:Mgx)(P:Pl)(H:Hp)(M:Mm):Prop where
 n:P.n=M.length
 cell:∀(k:Nat) c,M[k]? =some c->wD K mg P H (P.io k) c
 inj:∀j k,j<P.n->k<P.n->P.io j=P.io k->j=k
 bd:∀k,k<P.n->P.bd (P.io k)
 here:∀a,P.bd a->H a≠none
structure LtE (P:Pl)(H:Hp)(P':Pl)(H':Hp):Prop where
 n:P.n<=P'.n
 io:∀k,k<P.n->P'.io k=P.io k
 bd:∀a,P'.bd a->P.bd a\/H a=none
 bm:∀a,P.bd a->P'.bd a
 keep:∀a o,H a=some o->(Fx o\/∀k,k<P.n->P.io k≠a)->H' a=some o
 sure:∀a,H' a=none->H a=none
 nw:∀k,P.n<=k->k<P'.n->H (P'.io k)=none
section
variable {K:Fgx}{mg:Mgx}{P P' P'':Pl}{H H' H'':Hp}{M M':Mm}
theorem LtE.refl (P:Pl)(H:Hp):LtE P H P H:=⟨xai _,fun _ _=>rfl,fun _ z=>.inl z,fun _ z=>z,fun _ _ e _=>e,fun _ z=>z,fun k h1 h2=>absurd h1 (xdk.mpr h2)⟩
theorem LtE.same (s:Same H H'):LtE P H P H':=⟨xai _,fun _ _=>rfl,fun _ z=>.inl z,fun _ z=>z,fun a o e _=>s a o e,fun a z=>s.free z,fun k h1 h2=>absurd h1 (xdk.mpr h2)⟩
theorem Hk.cellAt (h:Hk K mg P H M)(hc:M[k]? =some c)(nd:c.fix=false:=by rfl):∃o,H (P.io k)=some o/\¬ Fx o:=by
  have:=h.cell k c hc
  cases c with
  |lst ds=>
    obtain⟨vs,e,_⟩:=this;exact⟨_,e,fun z=>by rcases z with⟨_,z⟩ |⟨_,_,z⟩ |⟨_,z⟩ |⟨_,z⟩<;>cases z⟩
  |obj c fs=>
    obtain⟨C,dx,gs,_,e,_⟩:=this;exact⟨_,e,fun z=>by rcases z with⟨_,z⟩ |⟨_,_,z⟩ |⟨_,z⟩ |⟨_,z⟩<;>cases z⟩
  |dct kvs=>
    obtain⟨vs,e,_⟩:=this;exact⟨_,e,fun z=>by rcases z with⟨_,z⟩ |⟨_,_,z⟩ |⟨_,z⟩ |⟨_,z⟩<;>cases z⟩
  |dcf kvs=>cases nd
  |fn i caps=>cases nd
  |tbl nm i=>
    obtain⟨c,ps,_,e,_⟩:=this;exact⟨_,e,fun z=>by rcases z with⟨_,z⟩ |⟨_,_,z⟩ |⟨_,z⟩ |⟨_,z⟩<;>cases z⟩
theorem LtE.lt (l:LtE P H P' H')(h:Hk K mg P H M):Lt P H P' H' where
 n:=l.n
 io:=l.io
 bd:=l.bd
 sure:=l.sure
 keep:=fun a o e z=>l.keep a o e (z.imp id fun z k hk q=>z (q ▸ h.bd k hk))
theorem LtE.trans (l:LtE P H P' H')(m:LtE P' H' P'' H''):LtE P H P'' H'' where
 n:=xaB l.n m.n
 io:=fun k h=>(m.io k (xag h l.n)).trans (l.io k h)
 bd:=fun a z=>(m.bd a z).elim (l.bd a) fun z=>.inr (l.sure a z)
 bm:=fun a z=>m.bm a (l.bm a z)
 keep:=fun a o e h=>m.keep a o (l.keep a o e h) <| h.imp id fun h k hk q=>by
  rcases xaV k P.n with z |z
  ·rw[l.io k z]at q;exact h k z q
  ·rw[<-q,l.nw k z hk]at e;cases e
 sure:=fun a z=>l.sure a (m.sure a z)
 nw:=fun k h1 h2=>by
  rcases xaV k P'.n with z |z
  ·rw[m.io k z];exact l.nw k h1 z
  ·exact l.sure _ (m.nw k z h2)
end
inductive Cp where
 |eq |ne |lt |le |gt |ge |isin |notin |same |other
mutual
def D.eq:D->D->Bool
 |.non,.non=>true
 |.bl a,.bl b=>a==b
 |.bl a,.int b=>(if a then 1 else 0)==b
 |.int a,.bl b=>a==(if b then 1 else 0)
 |.int a,.int b=>a==b
 |.str a,.str b=>a==b
 |.tup a,.tup b=>D.eqs a b
 |.lst a,.lst b=>D.eqs a b
 |.ref a,.ref b=>a==b
 |_,_=>false
def D.eqs:List D->List D->Bool
 | [],[]=>true
 |a::as,b::bs=>D.eq a b && D.eqs as bs
 |_,_=>false
end
mutual
def D.dep:D->Nat
 |.tup xs=>D.deps xs + 1
 |.lst xs=>D.deps xs + 1
 |.ref _=>101
 |_=>0
def D.deps:List D->Nat
 | []=>0
 |a::as=>max (D.dep a) (D.deps as)
end
noncomputable def D.flat:D->Bool
 |.tup _=>false
 |.lst _=>false
 |.ref _=>false
 |_=>true
noncomputable def nj (i j:Str):Bool:= !(Builtin.Str.occurrences j i 0 j.length 1).isEmpty
def cZ (a b:D):Bool:=a.flat==b.flat && decide (b.dep<=50)
noncomputable def wH (a b:D):Option Bool:=if cZ a b=true/\a.dep<=50 then some (D.eq a b) else none
noncomputable def mz (a b:D):Option Bool:=if cZ a b=true/\a.dep<=50 then some (!D.eq a b) else none
noncomputable def dG (f:Int->Int->Bool) (a b:D):Option Bool:=match a with
 |.int i=>(match b with |.int j=>some (f i j) |_=>none)
 |_=>none
noncomputable def mZ (a b:D):Option Bool:=match b with
 |.str j=>(match a with |.str i=>some (nj i j) |_=>none)
 |.lst xs=>if (a.flat && xs.all D.flat)=true then some (xs.any fun y=>D.eq y a) else none
 |.tup xs=>if (a.flat && xs.all D.flat)=true then some (xs.any fun y=>D.eq y a) else none
 |_=>none
noncomputable def fH (a b:D):Option Bool:=match b with
 |.str j=>(match a with |.str i=>some (!nj i j) |_=>none)
 |.lst xs=>if (a.flat && xs.all D.flat)=true then some (!xs.any fun y=>D.eq y a) else none
 |.tup xs=>if (a.flat && xs.all D.flat)=true then some (!xs.any fun y=>D.eq y a) else none
 |_=>none
noncomputable def rN (a b:D):Option Bool:=match b with
 |.bl b=>(match a with |.bl a=>some (a==b) |_=>some false)
 |.non=>(match a with |.non=>some true |_=>some false)
 |_=>none
noncomputable def rM (a b:D):Option Bool:=match b with
 |.bl b=>(match a with |.bl a=>some (!(a==b)) |_=>some true)
 |.non=>(match a with |.non=>some false |_=>some true)
 |_=>none
noncomputable def bZ (c:Cp) (a b:D):Option Bool:=match c with
 |.eq=>wH a b
 |.ne=>mz a b
 |.lt=>dG (fun i j=>decide (i<j)) a b
 |.le=>dG (fun i j=>decide (i<=j)) a b
 |.gt=>dG (fun i j=>decide (j<i)) a b
 |.ge=>dG (fun i j=>decide (j<=i)) a b
 |.isin=>mZ a b
 |.notin=>fH a b
 |.same=>rN a b
 |.other=>rM a b
noncomputable def cF (K:Fgx) (P:Pl) (H:Hp):D->V->Prop
 |.lst ds,v=>∃a vs,v=.ref a/\M8 K P H a vs/\aD K P H ds vs
 |d,v=>Is K P H d v
section
variable {X:Cx}{pins:Pnx}{σ:L2.St}{H:Hp}{s:Shared}
theorem zeN {K:Fgx}{P:Pl}{a:Addr}{xs:List V}(h:M8 K P H a xs):bI K H a xs:=h.imp (·.2) id
noncomputable def bL (K:Fgx) (P:Pl) (H:Hp):D->V->Prop
 |.lst ds,v=>∃a vs,v=.ref a/\bI K H a vs/\aD K P H ds vs
 |d,v=>Is K P H d v
theorem cF.w {K:Fgx}{P:Pl}{d:D}{v:V}(h:cF K P H d v):bL K P H d v:=by
 cases d<;>first |exact h |(obtain⟨a,vs,e,r,q⟩:=h;exact⟨a,vs,e,zeN r,q⟩)
theorem Is.w {K:Fgx}{P:Pl}{d:D}{v:V}(h:Is K P H d v):bL K P H d v:=by
 cases d<;>first |exact h |(obtain⟨a,vs,e,r,q⟩:=h;exact⟨a,vs,e,r.imp (·.2) id,q⟩)
theorem sql (I:Inv X pins σ H s)(h:bI X.K H l xs):xs.length<=sizeLine/\∃its:List Value,Vals xs its/\s.heap.IsList l its.toArray:=by
 obtain⟨its,r,p,z⟩:=I.list h;exact⟨z,its,r,p.isList⟩
mutual
theorem Is.inj (I:Inv X pins σ H s):∀(d e:D) (v:V),bL X.K A H d v->bL X.K B H e v->d.dep<=100->e.dep<=100->d=e
  |.ref _,e,v,h,h',hd,he=>by simp[D.dep]at hd
  |.non,e,v,h,h',hd,he=>by
    have hv:v=.non:=h;subst hv;cases e<;>first |(simp[D.dep]at he;done) |(simp[bL,Is]at h'<;>rfl)
  |.bl b,e,v,h,h',hd,he=>by
    have hv:v=.bl b:=h;subst hv;cases e<;>first |(simp[D.dep]at he;done) |(simp[bL,Is]at h'<;>simp[h'])
  |.int b,e,v,h,h',hd,he=>by
    have hv:v=.int b:=h;subst hv;cases e<;>first |(simp[D.dep]at he;done) |(simp[bL,Is]at h'<;>simp[h'])
  |.str b,e,v,h,h',hd,he=>by
    have hv:v=.str b:=h;subst hv;cases e<;>first |(simp[D.dep]at he;done) |(simp[bL,Is]at h'<;>simp[h'])
  |.tup ds,e,v,h,h',hd,he=>by
    simp only[D.dep]at hd;simp only[bL,Is]at h;obtain⟨a,vs,rfl,t,r⟩:=h
    cases e with
    |tup es=>
      simp only[bL,Is]at h';obtain⟨b,ws,e1,t',r'⟩:=h';cases e1;have e2:=I.tuple_inj t t';subst e2;simp only[D.dep]at he;rw[aD.inj I ds es vs r r' (by omega) (by omega)]
    |lst es=>
      obtain⟨b,ws,e1,t',r'⟩:=h';cases e1;obtain⟨_,its,_,o2,e2,c2,_⟩:=sql I t';obtain⟨its2,_,⟨o,e3,c3,_⟩,_⟩:=I.tuple t;rw[e2]at e3;cases e3;rw[c2]at c3;exact absurd c3 (by simp)
    |ref _=>simp[D.dep]at he
    |_=>simp[bL,Is]at h'
  |.lst ds,e,v,h,h',hd,he=>by
    simp only[D.dep]at hd;obtain⟨a,vs,rfl,t,r⟩:=h
    cases e with
    |lst es=>
      obtain⟨b,ws,e1,t',r'⟩:=h';cases e1;have e2:=I.list_inj (t) (t');subst e2;simp only[D.dep]at he;rw[aD.inj I ds es vs r r' (by omega) (by omega)]
    |tup es=>
      simp only[bL,Is]at h';obtain⟨b,ws,e1,t',r'⟩:=h';cases e1;obtain⟨_,its,_,o2,e2,c2,_⟩:=sql I t;obtain⟨its2,_,⟨o,e3,c3,_⟩,_⟩:=I.tuple t';rw[e2]at e3;cases e3;rw[c2]at c3;exact absurd c3 (by simp)
    |ref _=>simp[D.dep]at he
    |_=>simp[bL,Is]at h'
theorem aD.inj (I:Inv X pins σ H s):∀(ds es:List D) (vs:List V),aD X.K A H ds vs->aD X.K B H es vs->D.deps ds<=100->D.deps es<=100->ds=es
  | [],es,vs,h,h',hd,he=>by
    have hv:vs=[]:=h;subst hv
    cases es with
    |nil=>rfl
    |cons=>simp[aD]at h'
  |d::ds,es,vs,h,h',hd,he=>by
    simp only[D.deps]at hd;obtain⟨v,r,rfl,p,q⟩:=h
    cases es with
    |nil=>simp[aD]at h'
    |cons e es=>
      obtain⟨v',r',e1,p',q'⟩:=h';cases e1;simp only[D.deps]at he;rw[Is.inj I d e v p.w p'.w (by omega) (by omega),aD.inj I ds es r q q' (by omega) (by omega)]
end
mutual
theorem D.eq_refl:∀d:D,D.eq d d=true
 |.non=>rfl
 |.bl b=>by simp[D.eq]
 |.int b=>by simp[D.eq]
 |.str b=>by simp[D.eq]
 |.tup ds=>by simp only[D.eq];exact D.eqs_refl ds
 |.lst ds=>by simp only[D.eq];exact D.eqs_refl ds
 |.ref n=>by simp[D.eq]
theorem D.eqs_refl:∀d:List D,D.eqs d d=true
 | []=>rfl
 |d::ds=>by simp only[D.eqs,D.eq_refl d,D.eqs_refl ds,xbC]
end
theorem D.eqs_len:∀(ds es:List D),ds.length≠es.length->D.eqs ds es=false
  | [],[],h=>absurd rfl h
  | [],_::_,_=>rfl
  |_::_,[],_=>rfl
  |d::ds,e::es,h=>by
    simp only[D.eqs,D.eqs_len ds es (by simpa using h),xcb]
theorem D.eqs_all:∀(ds es:List D),ds.length=es.length->D.eqs ds es=(List.range ds.length).all fun j=>D.eq (ds.getD j .non) (es.getD j .non)
  | [],[],_=>rfl
  |d::ds,e::es,h=>by
    rw[D.eqs,D.eqs_all ds es (by simpa using h),xao,List.range_succ_eq_map,xbA,List.all_map];rfl
mutual
theorem G8 (I:Inv X pins σ H s):∀(d e:D) (v w:V) (u u':Value),bL X.K A H d v->bL X.K B H e w->RelV v u->RelV w u'->Ar.units + d.dep<cLine->d.dep<=100->e.dep<=100->SeqAt.EqAt Ar s u u' (D.eq d e)
  |.ref _,e,v,w,u,u',h1,h2,r1,r2,hu,hd,he=>by simp[D.dep]at hd
  |.non,e,v,w,u,u',h1,h2,r1,r2,hu,hd,he=>by
    have hv:v=.non:=h1;subst hv;cases r1;have hu':Ar.units<cLine:=by omega
    cases e with
    |ref _=>simp[D.dep]at he
    |non=>have hw:w=.non:=h2;subst hw;cases r2;exact xcr _
    |bl b=>have hw:w=.bl b:=h2;subst hw;cases r2;exact SeqAt.EqAt.none_bool _
    |int b=>have hw:w=.int b:=h2;subst hw;obtain⟨t,rfl⟩:=r2;exact SeqAt.EqAt.none_int _ _
    |str b=>have hw:w=.str b:=h2;subst hw;obtain⟨t,rfl⟩:=r2;exact SeqAt.EqAt.none_str _ _
    |tup es=>obtain⟨a,vs,rfl,t,_⟩:=h2;cases r2;obtain⟨its,_,p,_⟩:=I.tuple t;exact SeqAt.EqAt.none_tuple p hu'
    |lst es=>obtain⟨a,vs,rfl,t,_⟩:=h2;cases r2;obtain⟨_,its,_,p⟩:=sql I t;exact SeqAt.EqAt.none_list p hu'
  |.bl x,e,v,w,u,u',h1,h2,r1,r2,hu,hd,he=>by
    have hv:v=.bl x:=h1;subst hv;cases r1;have hu':Ar.units<cLine:=by omega
    cases e with
    |ref _=>simp[D.dep]at he
    |non=>have hw:w=.non:=h2;subst hw;cases r2;exact SeqAt.EqAt.bool_none _
    |bl b=>have hw:w=.bl b:=h2;subst hw;cases r2;exact SeqAt.EqAt.bool_bool _ _
    |int b=>have hw:w=.int b:=h2;subst hw;obtain⟨t,rfl⟩:=r2;exact SeqAt.EqAt.bool_int _ _ _
    |str b=>have hw:w=.str b:=h2;subst hw;obtain⟨t,rfl⟩:=r2;exact SeqAt.EqAt.bool_str _ _ _
    |tup es=>obtain⟨a,vs,rfl,t,_⟩:=h2;cases r2;obtain⟨its,_,p,_⟩:=I.tuple t;exact SeqAt.EqAt.bool_tuple _ p hu'
    |lst es=>obtain⟨a,vs,rfl,t,_⟩:=h2;cases r2;obtain⟨_,its,_,p⟩:=sql I t;exact SeqAt.EqAt.bool_list _ p hu'
  |.int x,e,v,w,u,u',h1,h2,r1,r2,hu,hd,he=>by
    have hv:v=.int x:=h1;subst hv;obtain⟨t0,rfl⟩:=r1;have hu':Ar.units<cLine:=by omega
    cases e with
    |ref _=>simp[D.dep]at he
    |non=>have hw:w=.non:=h2;subst hw;cases r2;exact SeqAt.EqAt.int_none _ _
    |bl b=>have hw:w=.bl b:=h2;subst hw;cases r2;exact SeqAt.EqAt.int_bool _ _ _
    |int b=>have hw:w=.int b:=h2;subst hw;obtain⟨t,rfl⟩:=r2;exact SeqAt.EqAt.int_int _ _ _ _
    |str b=>have hw:w=.str b:=h2;subst hw;obtain⟨t,rfl⟩:=r2;exact xcG _ _ _ _
    |tup es=>obtain⟨a,vs,rfl,t,_⟩:=h2;cases r2;obtain⟨its,_,p,_⟩:=I.tuple t;exact SeqAt.EqAt.int_tuple _ _ p hu'
    |lst es=>obtain⟨a,vs,rfl,t,_⟩:=h2;cases r2;obtain⟨_,its,_,p⟩:=sql I t;exact SeqAt.EqAt.int_list _ _ p hu'
  |.str x,e,v,w,u,u',h1,h2,r1,r2,hu,hd,he=>by
    have hv:v=.str x:=h1;subst hv;obtain⟨t0,rfl⟩:=r1;have hu':Ar.units<cLine:=by omega
    cases e with
    |ref _=>simp[D.dep]at he
    |non=>have hw:w=.non:=h2;subst hw;cases r2;exact SeqAt.EqAt.str_none _ _
    |bl b=>have hw:w=.bl b:=h2;subst hw;cases r2;exact SeqAt.EqAt.str_bool _ _ _
    |int b=>have hw:w=.int b:=h2;subst hw;obtain⟨t,rfl⟩:=r2;exact xcH _ _ _ _
    |str b=>have hw:w=.str b:=h2;subst hw;obtain⟨t,rfl⟩:=r2;exact SeqAt.EqAt.str_str _ _ _ _
    |tup es=>obtain⟨a,vs,rfl,t,_⟩:=h2;cases r2;obtain⟨its,_,p,_⟩:=I.tuple t;exact SeqAt.EqAt.str_tuple _ _ p hu'
    |lst es=>obtain⟨a,vs,rfl,t,_⟩:=h2;cases r2;obtain⟨_,its,_,p⟩:=sql I t;exact SeqAt.EqAt.str_list _ _ p hu'
  |.tup ds,e,v,w,u,u',h1,h2,r1,r2,hu,hd,he=>by
    have h1':=h1;have hd':=hd;simp only[D.dep]at hu hd;have hu':Ar.units<cLine:=by omega
    obtain⟨a,vs,rfl,t,q⟩:=h1;cases r1;obtain⟨its,rv,p,hz⟩:=I.tuple t
    cases e with
    |ref _=>simp[D.dep]at he
    |non=>have hw:w=.non:=h2;subst hw;cases r2;exact SeqAt.EqAt.tuple_none p hu'
    |bl b=>have hw:w=.bl b:=h2;subst hw;cases r2;exact SeqAt.EqAt.tuple_bool _ p hu'
    |int b=>have hw:w=.int b:=h2;subst hw;obtain⟨t,rfl⟩:=r2;exact SeqAt.EqAt.tuple_int _ _ p hu'
    |str b=>have hw:w=.str b:=h2;subst hw;obtain⟨t,rfl⟩:=r2;exact SeqAt.EqAt.tuple_str _ _ p hu'
    |tup es=>
      have h2':=h2;have he':=he;simp only[D.dep]at he;obtain⟨b,ws,rfl,t',q'⟩:=h2;cases r2
      by_cases hab:a=b
      · subst hab;rw[Is.inj I _ _ _ h1' h2' hd' he',D.eq_refl];exact xcr _
      · obtain⟨its',rv',p',hz'⟩:=I.tuple t';refine SeqAt.EqAt.of_refs hab ?_;have l1:its.toArray.size=ds.length:=by rw[xah, <-rv.length,q.len]
        have l2:its'.toArray.size=es.length:=by rw[xah, <-rv'.length,q'.len]
        have key:=SeqAt.RcAt.tuples (A:=Ar) (s:=s) (e:=fun j=>D.eq (ds.getD j .non) (es.getD j .non)) p p' hu' fun j j1 j2=>by
          simpa using tV I ds es vs ws its its' q q' rv rv' (Ar:=Ar.in1) (by show Ar.units + 1 + _<_;omega) (by omega) (by omega) j (by simpa using j1) (by simpa using j2)
        rw[l1,l2]at key
        by_cases hl:ds.length=es.length
        · rw[show D.eq (.tup ds) (.tup es)=D.eqs ds es from rfl,D.eqs_all ds es hl];rw[hl,xdD,xbg,xdq]at key;rw[hl];exact key
        · rw[show D.eq (.tup ds) (.tup es)=D.eqs ds es from rfl,D.eqs_len ds es hl];rw[xa8.mpr hl,xcb]at key;exact key
    |lst es=>obtain⟨b,ws,rfl,t',_⟩:=h2;cases r2;obtain⟨_,its',_,p'⟩:=sql I t';exact SeqAt.EqAt.tuple_list p p' hu'
  |.lst ds,e,v,w,u,u',h1,h2,r1,r2,hu,hd,he=>by
    have h1':=h1;have hd':=hd;simp only[D.dep]at hu hd;have hu':Ar.units<cLine:=by omega
    obtain⟨a,vs,rfl,t,q⟩:=h1;cases r1;obtain⟨hz,its,rv,p⟩:=sql I t
    cases e with
    |ref _=>simp[D.dep]at he
    |non=>have hw:w=.non:=h2;subst hw;cases r2;exact SeqAt.EqAt.list_none p hu'
    |bl b=>have hw:w=.bl b:=h2;subst hw;cases r2;exact SeqAt.EqAt.list_bool _ p hu'
    |int b=>have hw:w=.int b:=h2;subst hw;obtain⟨t,rfl⟩:=r2;exact SeqAt.EqAt.list_int _ _ p hu'
    |str b=>have hw:w=.str b:=h2;subst hw;obtain⟨t,rfl⟩:=r2;exact SeqAt.EqAt.list_str _ _ p hu'
    |tup es=>obtain⟨b,ws,rfl,t',_⟩:=h2;cases r2;obtain⟨its',_,p',_⟩:=I.tuple t';exact SeqAt.EqAt.list_tuple p p' hu'
    |lst es=>
      have h2':=h2;have he':=he;simp only[D.dep]at he;obtain⟨b,ws,rfl,t',q'⟩:=h2;cases r2
      by_cases hab:a=b
      · subst hab;rw[Is.inj I _ _ _ h1' h2' hd' he',D.eq_refl];exact xcr _
      · obtain⟨hz',its',rv',p'⟩:=sql I t';refine SeqAt.EqAt.of_refs hab ?_;have l1:its.toArray.size=ds.length:=by rw[xah, <-rv.length,q.len]
        have l2:its'.toArray.size=es.length:=by rw[xah, <-rv'.length,q'.len]
        by_cases hl:ds.length=es.length
        · have key:=SeqAt.RcAt.lists (A:=Ar) (s:=s) (e:=fun j=>D.eq (ds.getD j .non) (es.getD j .non)) p p' (by rw[l1,l2,hl]) hu' fun j j1 j2=>by
            simpa using tV I ds es vs ws its its' q q' rv rv' (Ar:=Ar.in1) (by show Ar.units + 1 + _<_;omega) (by omega) (by omega) j (by simpa using j1) (by simpa using j2)
          rw[show D.eq (.lst ds) (.lst es)=D.eqs ds es from rfl,D.eqs_all ds es hl];rw[l1]at key;exact key
        · rw[show D.eq (.lst ds) (.lst es)=D.eqs ds es from rfl,D.eqs_len ds es hl];exact xc4 p p' (by rw[l1,l2];simpa using hl) hu'
theorem tV (I:Inv X pins σ H s):∀(ds es:List D) (vs ws:List V) (its its':List Value),aD X.K A H ds vs->aD X.K B H es ws->Vals vs its->Vals ws its'->Ar.units + D.deps ds<cLine->D.deps ds<=100->D.deps es<=100->
    ∀(j:Nat) (h1:j<its.length) (h2:j<its'.length),SeqAt.EqAt Ar s its[j] its'[j] (D.eq (ds.getD j .non) (es.getD j .non))
  | [],es,vs,ws,its,its',h,h',r,r',hu,hd,he,j,j1,j2=>by
    have hv:vs=[]:=h;subst hv;cases r;exact absurd j1 (xcu _)
  |d::ds,[],vs,ws,its,its',h,h',r,r',hu,hd,he,j,j1,j2=>by
    have hv:ws=[]:=h';subst hv;cases r';exact absurd j2 (xcu _)
  |d::ds,e::es,vs,ws,its,its',h,h',r,r',hu,hd,he,j,j1,j2=>by
    obtain⟨v,vr,rfl,p,q⟩:=h;obtain⟨w,wr,rfl,p',q'⟩:=h';simp only[D.deps]at hu hd he
    cases r with
    |cons r1 r2=>
      cases r' with
      |cons r1' r2'=>
        cases j with
        |zero=>exact G8 I d e v w _ _ p.w p'.w r1 r1' (by omega) (by omega) (by omega)
        |succ j=>exact tV I ds es vr wr _ _ q q' r2 r2' (by omega) (by omega) (by omega) j (by simpa using j1) (by simpa using j2)
end
theorem T5 {d e:D}{A B:Pl}{K:Fgx}{v w:V}(fd:d.flat=true)(fe:e.flat=true)(h1:bL K A H d v)(h2:bL K B H e w):
  (q_ v w=true/\D.eq d e=decide (v=w))\/(∃a i,v=.bl a/\w=.int i/\D.eq d e=((if a then 1 else 0)==i))\/∃a i,v=.int i/\w=.bl a/\D.eq d e=(i==(if a then 1 else 0)):=by
 cases d<;>cases e<;>simp only[D.flat,xbu]at fd fe<;>simp only[bL,Is]at h1 h2<;>subst h1 h2<;>simp[q_,D.eq]
 all_goals first |rfl |(rw[xaI];simp)
noncomputable def pW (K:Fgx) (neg:Bool):R2:=fun x y H Q=>∃(A B:Pl) (d e:D),bL K A H d x/\bL K B H e y/\cZ d e=true/\d.dep<=50/\Q (.bl (if neg then !D.eq d e else D.eq d e)) H
theorem Zm (hu:X.A.units + 60<cLine):bQ X (compareOp .Eq) (pW X.K false):=by
  intro pins s σ H x y v u Q I rx ry h;obtain⟨A,B,d,e,h1,h2,hk,hd,q⟩:=h;have q:Q (.bl (D.eq d e)) H:=q;have fin:SeqAt.RcAt X.A s v u (D.eq d e)->wpAny (model X.prog X.w) X.A (compareOp .Eq v u) (EP X pins σ Q) X.xe s:=fun r=>EqBoolInt.of_rc r ⟨.bl _,H,I,rfl,q⟩;have hu':X.A.units<cLine:=by omega
  cases fd:d.flat with
  |true=>
    simp only[cZ,xam,xaC,xaY]at hk;have fe:e.flat=true:=hk.1.symm.trans fd;rcases T5 fd fe h1 h2 with⟨sc,eq⟩ |⟨a,i,rfl,rfl,eq⟩ |⟨a,i,rfl,rfl,eq⟩
    · exact Zk pins s σ H x y v u Q I rx ry ⟨sc,by rw[<-eq];exact q⟩
    · cases rx;obtain⟨t,rfl⟩:=ry;exact EqBoolInt.eq_bool_int ⟨.bl _,H,I,rfl,by rw[<-eq];exact q⟩
    · cases ry;obtain⟨t,rfl⟩:=rx;exact EqBoolInt.eq_int_bool ⟨.bl _,H,I,rfl,by rw[<-eq];exact q⟩
  |false=>
    simp only[cZ,xam,xaC,xaY]at hk;have he:=hk.2;have fe:e.flat=false:=hk.1.symm.trans fd
    cases d with
    |tup ds=>
      obtain⟨a,vs,rfl,t,p⟩:=h1;cases rx;obtain⟨its,rv,pt,hz⟩:=I.tuple t;simp only[D.dep]at hd
      cases e with
      |tup es=>
        obtain⟨b,ws,rfl,t',p'⟩:=h2;cases ry;obtain⟨its',rv',pt',hz'⟩:=I.tuple t';have l1:its.toArray.size=ds.length:=by rw[xah, <-rv.length,p.len]
        have l2:its'.toArray.size=es.length:=by rw[xah, <-rv'.length,p'.len]
        have key:=SeqAt.RcAt.tuples (A:=X.A) (s:=s) (e:=fun j=>D.eq (ds.getD j .non) (es.getD j .non)) pt pt' hu' fun j j1 j2=>by
          simpa using tV I ds es vs ws its its' p p' rv rv' (Ar:=X.A.in1) (by show X.A.units + 1 + _<_;omega) (by omega) (by simp only[D.dep]at he;omega) j (by simpa using j1) (by simpa using j2)
        rw[l1,l2]at key;refine fin ?_
        by_cases hl:ds.length=es.length
        · rw[show D.eq (.tup ds) (.tup es)=D.eqs ds es from rfl,D.eqs_all ds es hl];rw[hl,xdD,xbg,xdq]at key;rw[hl];exact key
        · rw[show D.eq (.tup ds) (.tup es)=D.eqs ds es from rfl,D.eqs_len ds es hl];rw[xa8.mpr hl,xcb]at key;exact key
      |lst es=>
        obtain⟨b,ws,rfl,t',p'⟩:=h2;cases ry;obtain⟨_,its',rv',e'⟩:=sql I t';exact fin (SeqAt.RcAt.tuple_list pt e' hu')
      |ref _=>simp[D.dep]at he
      |_=>cases fe
    |lst ds=>
      obtain⟨a,vs,rfl,t,p⟩:=h1;cases rx;obtain⟨hz,its,rv,pt⟩:=sql I t;simp only[D.dep]at hd
      cases e with
      |tup es=>
        obtain⟨b,ws,rfl,t',p'⟩:=h2;cases ry;obtain⟨its',rv',pt',hz'⟩:=I.tuple t';exact fin (SeqAt.RcAt.list_tuple pt pt' hu')
      |lst es=>
        obtain⟨b,ws,rfl,t',p'⟩:=h2;cases ry;obtain⟨_,its',rv',pt'⟩:=sql I t';have l1:its.toArray.size=ds.length:=by rw[xah, <-rv.length,p.len]
        have l2:its'.toArray.size=es.length:=by rw[xah, <-rv'.length,p'.len]
        refine fin ?_
        by_cases hl:ds.length=es.length
        · have key:=SeqAt.RcAt.lists (A:=X.A) (s:=s) (e:=fun j=>D.eq (ds.getD j .non) (es.getD j .non)) pt pt' (by rw[l1,l2,hl]) hu' fun j j1 j2=>by
            simpa using tV I ds es vs ws its its' p p' rv rv' (Ar:=X.A.in1) (by show X.A.units + 1 + _<_;omega) (by omega) (by simp only[D.dep]at he;omega) j (by simpa using j1) (by simpa using j2)
          rw[show D.eq (.lst ds) (.lst es)=D.eqs ds es from rfl,D.eqs_all ds es hl];rw[l1]at key;exact key
        · rw[show D.eq (.lst ds) (.lst es)=D.eqs ds es from rfl,D.eqs_len ds es hl];exact xc4 pt pt' (by rw[l1,l2];simpa using hl) hu'
      |ref _=>simp[D.dep]at he
      |_=>cases fe
    |ref _=>simp[D.dep]at hd
    |_=>cases fd
theorem Zz (hu:X.A.units + 60<cLine):bQ X (compareOp .NotEq) (pW X.K true):=by
  intro pins s σ H x y v u Q I rx ry h;obtain⟨A,B,d,e,h1,h2,hk,hd,q⟩:=h;have q:Q (.bl (!D.eq d e)) H:=q;have fin:SeqAt.RcNeAt X.A s v u (!D.eq d e)->wpAny (model X.prog X.w) X.A (compareOp .NotEq v u) (EP X pins σ Q) X.xe s:=fun r=>EqBoolInt.of_rcne r ⟨.bl _,H,I,rfl,q⟩;have hu':X.A.units<cLine:=by omega
  cases fd:d.flat with
  |true=>
    simp only[cZ,xam,xaC,xaY]at hk;have fe:e.flat=true:=hk.1.symm.trans fd;rcases T5 fd fe h1 h2 with⟨sc,eq⟩ |⟨a,i,rfl,rfl,eq⟩ |⟨a,i,rfl,rfl,eq⟩
    · exact Zy pins s σ H x y v u Q I rx ry ⟨sc,by rw[<-eq];exact q⟩
    · cases rx;obtain⟨t,rfl⟩:=ry;exact EqBoolInt.ne_bool_int ⟨.bl _,H,I,rfl,by rw[<-eq];exact q⟩
    · cases ry;obtain⟨t,rfl⟩:=rx;exact EqBoolInt.ne_int_bool ⟨.bl _,H,I,rfl,by rw[<-eq];exact q⟩
  |false=>
    simp only[cZ,xam,xaC,xaY]at hk;have he:=hk.2;have fe:e.flat=false:=hk.1.symm.trans fd
    cases d with
    |tup ds=>
      obtain⟨a,vs,rfl,t,p⟩:=h1;cases rx;obtain⟨its,rv,pt,hz⟩:=I.tuple t;simp only[D.dep]at hd
      cases e with
      |tup es=>
        obtain⟨b,ws,rfl,t',p'⟩:=h2;cases ry;obtain⟨its',rv',pt',hz'⟩:=I.tuple t';have l1:its.toArray.size=ds.length:=by rw[xah, <-rv.length,p.len]
        have l2:its'.toArray.size=es.length:=by rw[xah, <-rv'.length,p'.len]
        have key:=SeqAt.RcNeAt.tuples (A:=X.A) (s:=s) (e:=fun j=>D.eq (ds.getD j .non) (es.getD j .non)) pt pt' hu' fun j j1 j2=>by
          simpa using tV I ds es vs ws its its' p p' rv rv' (Ar:=X.A.in1) (by show X.A.units + 1 + _<_;omega) (by omega) (by simp only[D.dep]at he;omega) j (by simpa using j1) (by simpa using j2)
        rw[l1,l2]at key;refine fin ?_
        by_cases hl:ds.length=es.length
        · rw[show D.eq (.tup ds) (.tup es)=D.eqs ds es from rfl,D.eqs_all ds es hl];rw[hl,xdD,xbg,xdq]at key;rw[hl];exact key
        · rw[show D.eq (.tup ds) (.tup es)=D.eqs ds es from rfl,D.eqs_len ds es hl];rw[xa8.mpr hl,xcb]at key;exact key
      |lst es=>
        obtain⟨b,ws,rfl,t',p'⟩:=h2;cases ry;obtain⟨_,its',rv',e'⟩:=sql I t';exact fin (SeqAt.RcNeAt.tuple_list pt e' hu')
      |ref _=>simp[D.dep]at he
      |_=>cases fe
    |lst ds=>
      obtain⟨a,vs,rfl,t,p⟩:=h1;cases rx;obtain⟨hz,its,rv,pt⟩:=sql I t;simp only[D.dep]at hd
      cases e with
      |tup es=>
        obtain⟨b,ws,rfl,t',p'⟩:=h2;cases ry;obtain⟨its',rv',pt',hz'⟩:=I.tuple t';exact fin (SeqAt.RcNeAt.list_tuple pt pt' hu')
      |lst es=>
        obtain⟨b,ws,rfl,t',p'⟩:=h2;cases ry;obtain⟨_,its',rv',pt'⟩:=sql I t';have l1:its.toArray.size=ds.length:=by rw[xah, <-rv.length,p.len]
        have l2:its'.toArray.size=es.length:=by rw[xah, <-rv'.length,p'.len]
        refine fin ?_
        by_cases hl:ds.length=es.length
        · have key:=SeqAt.RcNeAt.lists (A:=X.A) (s:=s) (e:=fun j=>D.eq (ds.getD j .non) (es.getD j .non)) pt pt' (by rw[l1,l2,hl]) hu' fun j j1 j2=>by
            simpa using tV I ds es vs ws its its' p p' rv rv' (Ar:=X.A.in1) (by show X.A.units + 1 + _<_;omega) (by omega) (by simp only[D.dep]at he;omega) j (by simpa using j1) (by simpa using j2)
          rw[show D.eq (.lst ds) (.lst es)=D.eqs ds es from rfl,D.eqs_all ds es hl];rw[l1]at key;exact key
        · rw[show D.eq (.lst ds) (.lst es)=D.eqs ds es from rfl,D.eqs_len ds es hl];exact SeqAt.RcNeAt.lists_lengths pt pt' (by rw[l1,l2];simpa using hl) hu'
      |ref _=>simp[D.dep]at he
      |_=>cases fe
    |ref _=>simp[D.dep]at hd
    |_=>cases fd
noncomputable def yK:Cp->CmpOp
 |.eq=>.Eq
 |.ne=>.NotEq
 |.lt=>.Lt
 |.le=>.LtE
 |.gt=>.Gt
 |.ge=>.GtE
 |.isin=>.In
 |.notin=>.NotIn
 |.same=>.Is
 |.other=>.IsNot
noncomputable def Dg (K:Fgx):Cp->R2
 |.eq=>pW K false
 |.ne=>pW K true
 |.lt=>gQ fun i j=>.bl (decide (i<j))
 |.le=>gQ fun i j=>.bl (decide (i<=j))
 |.gt=>gQ fun i j=>.bl (decide (j<i))
 |.ge=>gQ fun i j=>.bl (decide (j<=i))
 |.isin=>fun x y H Q=>(∃i j,x=.str i/\y=.str j/\Q (.bl (!(Builtin.Str.occurrences j i 0 j.length 1).isEmpty)) H)\/Dh K false x y H Q
 |.notin=>fun x y H Q=>(∃i j,x=.str i/\y=.str j/\Q (.bl (!(!(Builtin.Str.occurrences j i 0 j.length 1).isEmpty))) H)\/Dh K true x y H Q
 |.same=>fun x y H Q=>(y=.non/\Q (.bl (decide (x=.non))) H)\/(∃b,y=.bl b/\Q (.bl (decide (x=.bl b))) H)
 |.other=>fun x y H Q=>(y=.non/\Q (.bl (!decide (x=.non))) H)\/(∃b,y=.bl b/\Q (.bl (!decide (x=.bl b))) H)
theorem eX (hu:X.A.units + 60<cLine):∀c:Cp,bQ X (compareOp (yK c)) (Dg X.K c)
 |.eq=>Zm hu
 |.ne=>Zz hu
 |.lt=>Zx
 |.le=>Zw
 |.gt=>Zo
 |.ge=>Zn
 |.isin=>Zr.or Zq
 |.notin=>ZF.or ZC
 |.same=>Zu.or Zt
 |.other=>ZD.or Zv
theorem yM {K:Fgx}{A:Pl}{d:D}{v:V}(f:d.flat=true)(h:Is K A H d v):m7 v=true:=by
 cases d<;>simp only[D.flat,xbu]at f<;>simp only[Is]at h<;>subst h<;>rfl
theorem G9 {K:Fgx}{A B:Pl}{d e:D}{v w:V}(f:d.flat=true)(g:e.flat=true)(h:Is K A H d v)(h':Is K B H e w):pB v w=D.eq d e:=by
 cases d<;>cases e<;>simp only[D.flat,xbu]at f g<;>simp only[Is]at h h'<;>subst h h'<;>rfl
theorem yN {K:Fgx}{A:Pl}:∀{ds:List D} {vs:List V},ds.all D.flat=true->aD K A H ds vs->vs.all m7=true
  | [],_,_,h=>by rw[show _=[] from h];rfl
  |d::ds,_,f,h=>by
    obtain⟨v,r,rfl,p,q⟩:=h;rw[xbA,xam]at f;rw[xbA,yM f.1 p,yN f.2 q];rfl
theorem mG {K:Fgx}{A B:Pl}{e:D}{w:V}(g:e.flat=true)(h':Is K B H e w):∀{ds:List D} {vs:List V},ds.all D.flat=true->aD K A H ds vs->inV w vs=ds.any fun y=>D.eq y e
  | [],_,_,h=>by rw[show _=[] from h];rfl
  |d::ds,_,f,h=>by
    obtain⟨v,r,rfl,p,q⟩:=h;rw[xbA,xam]at f;have:=mG g h' f.2 q;unfold inV at this ⊢;rw[xbH,xbH,this,G9 f.1 g p h']
theorem N8 {K:Fgx}{A B:Pl}{c:Cp}{d e:D}{v w:V}{b:Bool}{Q:VK}(h:bZ c d e=some b)(h1:bL K A H d v)(h2:bL K B H e w)(q:Q (.bl b) H):Dg K c v w H Q:=by
  cases c
  case eq=>
    simp only[bZ,wH,mz]at h;split at h
    · rename_i hc;cases h;exact⟨A,B,d,e,h1,h2,hc.1,hc.2,q⟩
    · cases h
  case ne=>
    simp only[bZ,wH,mz]at h;split at h
    · rename_i hc;cases h;exact⟨A,B,d,e,h1,h2,hc.1,hc.2,q⟩
    · cases h
  case isin=>
    cases e with
    |str j=>
      cases d<;>simp only[bZ,dG,mZ,fH,rN,rM,reduceCtorEq]at h
      simp only[bL,Is]at h1 h2;subst h1 h2;cases h;exact .inl ⟨_,_,rfl,rfl,q⟩
    |lst xs=>
      have h':(if (d.flat && xs.all D.flat)=true then some (xs.any fun y=>D.eq y d) else none)=some b:=by cases d<;>exact h
      split at h'
      · rename_i hc;rw[xam]at hc;cases h';obtain⟨a,vs,rfl,t,p⟩:=h2;have h1':Is K A H d v:=by cases d<;>first |exact h1 |cases hc.1
        refine .inr ⟨a,vs,rfl,.inl (t),yM hc.1 h1',yN hc.2 p,?_⟩;rw[mG hc.1 h1' hc.2 p];exact q
      · cases h'
    |tup xs=>
      have h':(if (d.flat && xs.all D.flat)=true then some (xs.any fun y=>D.eq y d) else none)=some b:=by cases d<;>exact h
      split at h'
      · rename_i hc;rw[xam]at hc;cases h';obtain⟨a,vs,rfl,t,p⟩:=h2;have h1':Is K A H d v:=by cases d<;>first |exact h1 |cases hc.1
        refine .inr ⟨a,vs,rfl,.inr t,yM hc.1 h1',yN hc.2 p,?_⟩;rw[mG hc.1 h1' hc.2 p];exact q
      · cases h'
    |_=>cases d<;>simp only[bZ,dG,mZ,fH,rN,rM,reduceCtorEq]at h
  case notin=>
    cases e with
    |str j=>
      cases d<;>simp only[bZ,dG,mZ,fH,rN,rM,reduceCtorEq]at h
      simp only[bL,Is]at h1 h2;subst h1 h2;cases h;exact .inl ⟨_,_,rfl,rfl,q⟩
    |lst xs=>
      have h':(if (d.flat && xs.all D.flat)=true then some (!xs.any fun y=>D.eq y d) else none)=some b:=by cases d<;>exact h
      split at h'
      · rename_i hc;rw[xam]at hc;cases h';obtain⟨a,vs,rfl,t,p⟩:=h2;have h1':Is K A H d v:=by cases d<;>first |exact h1 |cases hc.1
        refine .inr ⟨a,vs,rfl,.inl (t),yM hc.1 h1',yN hc.2 p,?_⟩;rw[mG hc.1 h1' hc.2 p];exact q
      · cases h'
    |tup xs=>
      have h':(if (d.flat && xs.all D.flat)=true then some (!xs.any fun y=>D.eq y d) else none)=some b:=by cases d<;>exact h
      split at h'
      · rename_i hc;rw[xam]at hc;cases h';obtain⟨a,vs,rfl,t,p⟩:=h2;have h1':Is K A H d v:=by cases d<;>first |exact h1 |cases hc.1
        refine .inr ⟨a,vs,rfl,.inr t,yM hc.1 h1',yN hc.2 p,?_⟩;rw[mG hc.1 h1' hc.2 p];exact q
      · cases h'
    |_=>cases d<;>simp only[bZ,dG,mZ,fH,rN,rM,reduceCtorEq]at h
  case same=>
    cases d<;>cases e<;>simp only[bZ,dG,mZ,fH,rN,rM,reduceCtorEq]at h<;>cases h<;>simp only[bL,Is]at h1 h2
    all_goals first
      |(subst h1 h2;first |exact .inr ⟨_,rfl,by rw[Cg];exact q⟩ |exact .inl ⟨rfl,by simpa using q⟩ |exact .inr ⟨_,rfl,by simpa using q⟩)
      |(obtain⟨a,vs,rfl,_⟩:=h1;subst h2;first |exact .inl ⟨rfl,by simpa using q⟩ |exact .inr ⟨_,rfl,by simpa using q⟩)
  case other=>
    cases d<;>cases e<;>simp only[bZ,dG,mZ,fH,rN,rM,reduceCtorEq]at h<;>cases h<;>simp only[bL,Is]at h1 h2
    all_goals first
      |(subst h1 h2;first |exact .inr ⟨_,rfl,by rw[Cg];exact q⟩ |exact .inl ⟨rfl,by simpa using q⟩ |exact .inr ⟨_,rfl,by simpa using q⟩)
      |(obtain⟨a,vs,rfl,_⟩:=h1;subst h2;first |exact .inl ⟨rfl,by simpa using q⟩ |exact .inr ⟨_,rfl,by simpa using q⟩)
  all_goals
    cases d<;>cases e<;>simp only[bZ,dG,mZ,fH,rN,rM,reduceCtorEq]at h
    simp only[bL,Is]at h1 h2;subst h1 h2;cases h;exact⟨_,_,rfl,rfl,q⟩
end
inductive Mode where
 |val |bor
def Br (mg:Mgx)(H:Hp)(c:Str)(n:Int)(v:V):Prop:=∃a C dx,v=.ref a/\mg c=some (.ref C)/\H a=some (xo a C dx false)/\
 match dx with
 |none=>n=0
 |some d=>∃fs,H d=some (.xd fs)/\fs.lookup ("at":Str)=some (.int (n - 1))/\n≠0
theorem Br.lt (l:Lt P H P' H')(h:Br mg H c n v):Br mg H' c n v:=by
  obtain⟨a,C,dx,e,m,ea,q⟩:=h;refine⟨a,C,dx,e,m,l.keep _ _ ea (.inl (.inr (.inr (.inl ⟨_,rfl⟩)))),?_⟩
  cases dx with
  |none=>exact q
  |some d=>
    obtain⟨fs,ed,el⟩:=q;exact⟨fs,l.keep _ _ ed (.inl (.inr (.inr (.inr ⟨_,rfl⟩)))),el⟩
noncomputable def FJ (K:Fgx) (mg:Mgx) (P:Pl) (H:Hp) (o:Option Addr) (sv:Option V):Slot->Prop
 |.un=>True
 |.val d=>∃v,sv=some v/\Is K P H d v
 |.own ds=>∃a vs,o=some a/\sv=some (.ref a)/\H a=some (.lst vs)/\aD K P H ds vs
 |.exc c n=>∃v,sv=some v/\Br mg H c n v
structure Ok (K:Fgx)(mg:Mgx)(P0:Pl)(H0:Hp)(P:Pl)(O:List (Option Addr))(H:Hp)(M:Mm)(st:L2.St)(env:Env):Prop where
 hk:Hk K mg P H M
 base:LtE P0 H0 P H
 b0:∀a,P0.bd a->H0 a≠none
 slot:∀(i:Nat) s,env[i]? =some s->FJ K mg P H (O[i]?).join (st[i]?).join s
 own:∀a,some a∈O->P.bd a/\(∀k,k<P.n->P.io k≠a)/\H0 a=none
 inj:∀(i j:Nat) a,O[i]? =some (some a)->O[j]? =some (some a)->i=j
 olen:O.length=env.length
 slen:st.length=env.length
def cG (K:Fgx)(P:Pl)(H:Hp)(m:Mode)(d:D)(v:V):Prop:=match m with
 |.val=>Is K P H d v
 |.bor=>cF K P H d v
inductive Res where
 |v (d:D) |x (c:Str) (n:Int)
abbrev O:=Option (Res×Mm)
abbrev E:=Env->Mm->O
noncomputable def bnd (o:O) (k:D->Mm->O):O:=match o with
 |some (.v d,M)=>k d M
 |some (.x c n,M)=>some (.x c n,M)
 |none=>none
theorem cB (h:bnd o k=some (r,M')):(∃d M,o=some (.v d,M)/\k d M=some (r,M'))\/∃c n,o=some (.x c n,M')/\r=.x c n:=by
 unfold bnd at h;split at h
 ·exact .inl ⟨_,_,rfl,h⟩
 ·cases h;exact .inr ⟨_,_,rfl,rfl⟩
 ·cases h
abbrev XW:=Pl->Hp->Mm->Str->Int->Prop
section
variable {K:Fgx}{mg:Mgx}{P0 P P':Pl}{H0 H H':Hp}{M M':Mm}{Os:List (Option Addr)}{st:L2.St}{env:Env}{d:D}{v:V}{m:Mode}
theorem Is.b (h:Hk K mg P H M)(i:Is K P H d v):cF K P H d v:=by
  cases d with
  |lst ds=>
    obtain⟨a,vs,e,r,q⟩:=i;exact⟨a,vs,e,r.imp (fun⟨n,r⟩=>⟨fun k hk z=>n (z ▸ h.bd k hk),r⟩) id,q⟩
  |_=>exact i
theorem cG.of (h:Hk K mg P H M)(i:Is K P H d v):cG K P H m d v:=by
 cases m with
 |val=>exact i
 |bor=>exact i.b h
theorem cG.b (h:Hk K mg P H M)(i:cG K P H m d v):cF K P H d v:=by
 cases m with
 |val=>exact Is.b h i
 |bor=>exact i
theorem LtE.nc (l:LtE P H P' H')(e:H a=some o)(n:∀k,k<P.n->P.io k≠a):∀k,k<P'.n->P'.io k≠a:=fun k hk z=>by
 rcases xaV k P.n with q |q
 ·rw[l.io k q]at z;exact n k q z
 ·rw[<-z,l.nw k q hk]at e;cases e
theorem cF.lt (l:LtE P H P' H')(h:Hk K mg P H M)(i:cF K P H d v):cF K P' H' d v:=by
  cases d with
  |lst ds=>
    obtain⟨a,vs,e,r,q⟩:=i;refine⟨a,vs,e,r.imp (fun⟨n,r⟩=>?_) id,aD.lt (l.lt h) q⟩;obtain⟨o,eo⟩:=RX r;refine⟨l.nc eo n,?_⟩;rcases r with r |⟨o',r⟩
    · exact .inl (l.keep _ _ r (.inr n))
    · exact .inr ⟨o',l.keep _ _ r (.inr n)⟩
  |_=>exact Is.lt (l.lt h) i
theorem Ok.next (k:Ok K mg P0 H0 P Os H M st env)(l:LtE P H P' H')(h:Hk K mg P' H' M'):Ok K mg P0 H0 P' Os H' M' st env where
  hk:=h
  base:=k.base.trans l
  b0:=k.b0
  slot:=fun i s e=>by
    have q:=k.slot i s e
    cases s with
    |un=>exact True.intro
    |val d=>
      obtain⟨v,e1,q⟩:=q;exact⟨v,e1,Is.lt (l.lt k.hk) q⟩
    |own ds=>
      obtain ⟨a, vs, e1, e2, e3, q⟩ := q;have ho := k.own a (by
        cases hx:Os[i]? with
        |none=>rw[hx]at e1;cases e1
        |some o=>rw[hx]at e1;cases o with
          |none=>cases e1
          |some b=>cases e1;exact xaw hx)
      exact⟨a,vs,e1,e2,l.keep _ _ e3 (.inr ho.2.1),aD.lt (l.lt k.hk) q⟩
    |exc c n=>
      obtain⟨v,e1,q⟩:=q;exact⟨v,e1,q.lt (l.lt k.hk)⟩
  own:=fun a z=>by
    have ho:=k.own a z;refine⟨l.bm a ho.1,?_,ho.2.2⟩;obtain⟨o,eo⟩:∃o,H a=some o:=by
      cases e:H a with
      |none=>exact absurd e (k.hk.here a ho.1)
      |some o=>exact⟨o,rfl⟩
    exact l.nc eo ho.2.1
  inj:=k.inj
  olen:=k.olen
  slen:=k.slen
theorem Hk.same (h:Hk K mg P H M)(s:Same H H'):Hk K mg P H' M:=by
  have l:Lt P H P H':=(LtE.same s).lt h;refine⟨h.n,fun k c e=>?_,h.inj,h.bd,fun a z q=>h.here a z (s.free q)⟩;have:=h.cell k c e
  cases c with
  |lst ds=>
    obtain⟨vs,e1,q⟩:=this;exact⟨vs,s _ _ e1,aD.lt l q⟩
  |obj c fs=>
    obtain⟨C,dx,gs,e1,e2,e3,q⟩:=this;exact⟨C,dx,gs,e1,s _ _ e2,e3,aD.lt l q⟩
  |dct kvs=>
    obtain⟨vs,e1,e2,q⟩:=this;exact⟨vs,s _ _ e1,e2,aD.lt l q⟩
  |dcf kvs=>
    obtain⟨vs,ob,es,ep,e1,eD,e2,q⟩:=this;exact⟨vs,ob,es,ep,s _ _ e1,eD,e2,aD.lt l q⟩
  |fn i caps=>exact lD.up this l.frz fun _ _ q=>aD.lt l q
  |tbl nm i=>exact nW.up this (fun _ e=>s _ _ e) l.frz
end
noncomputable def RQ (K:Fgx) (mg:Mgx) (Wx:XW) (m:Mode) (P0:Pl) (H0:Hp) (P:Pl) (H:Hp) (M':Mm) (Q:VK):Res->Prop
 |.v d=>∀P' v H',LtE P H P' H'->Hk K mg P' H' M'->cG K P' H' m d v->Q v H'
 |.x c n=>Wx P0 H0 M' c n
theorem cj (h:PE X e t)(i:∀st H Q,t' st H Q->t st H Q):PE X e t':=fun pins s σ H Q I z=>h pins s σ H Q I (i _ _ _ z)
noncomputable def tE (K:Fgx) (mg:Mgx) (Wx:XW) (m:Mode) (f:E):TE:=fun st H Q=>∃P0 H0 P Os env M r M',Ok K mg P0 H0 P Os H M st env/\f env M=some (r,M')/\RQ K mg Wx m P0 H0 P H M' Q r
structure Fit (X:Cx)(Wx:XW):Prop where
 calm:X.calm=true
 room:X.A.units + 60<cLine
section
variable {X:Cx}{Wx:XW}{m:Mode}
def SE (X:Cx)(Wx:XW)(m:Mode)(e:Expr)(f:E):Prop:=PE X e (tE X.K X.mg Wx m f)
theorem SE.bor (h : SE X Wx .val e f) : SE X Wx m e f := cj h fun st H Q ⟨P0, H0, P, Os, env, M, r, M', k, e, q⟩ => ⟨P0,H0,P,Os,env,M,r,M',k,e,by
 cases r with
 |v d=>exact fun P' v H' l h i=>q P' v H' l h (cG.of h i)
 |x c n=>exact q⟩
theorem aV {f:E}{K:Fgx}{mg:Mgx}{P0 P:Pl}{H0 H:Hp}{Os:List (Option Addr)}{M M':Mm}{st:L2.St}{env:Env}{r:Res}{Q:VK}(k:Ok K mg P0 H0 P Os H M st env)(e:f env M=some (r,M'))
  (q:RQ K mg Wx m P0 H0 P H M' Q r):tE K mg Wx m f st H Q:=⟨P0,H0,P,Os,env,M,r,M',k,e,q⟩
noncomputable def aj (i:Nat):E:=fun env M=>match env[i]? with
 |some (.val d)=>some (.v d,M)
 |_=>none
noncomputable def vp (i:Nat):E:=fun env M=>match env[i]? with
 |some (.val d)=>some (.v d,M)
 |some (.own ds)=>some (.v (.lst ds),M)
 |_=>none
def ak (d:D):E:=fun _ M=>some (.v d,M)
theorem mL {α:Type}{l:List (Option α)}{i:Nat}{a:α}(h:(l[i]?).join=some a):l[i]? =some (some a):=by
  cases e:l[i]? with
  |none=>rw[e]at h;cases h
  |some o=>rw[e]at h;cases o with
    |none=>cases h
    |some b=>cases h;rfl
theorem Ue {i:Nat}{x:Str}{pos:Pos}(hN:X.N[i]? =some x)(hv:wG X.env.scope x)(hd:(x==("__debug__":Str))=false:=by x_go)(hcd:(x==("__classdict__":Str))=false:=by x_go):SE X Wx .val (.Name x pos) (aj i):=by
 refine cj (zW hN hv hd hcd) ?_;rintro st H Q ⟨P0,H0,P,Os,env,M,r,M',k,e,q⟩;unfold aj at e;split at e
 ·rename_i d hs;cases e;obtain⟨v,e1,i1⟩:=k.slot i _ hs;exact⟨v,mL e1,q P v H (LtE.refl P H) k.hk i1⟩
 ·cases e
theorem zbw {i:Nat}{x:Str}{pos:Pos}(hN:X.N[i]? =some x)(hv:wG X.env.scope x)(hd:(x==("__debug__":Str))=false:=by x_go)(hcd:(x==("__classdict__":Str))=false:=by x_go):SE X Wx .bor (.Name x pos) (vp i):=by
 refine cj (zW hN hv hd hcd) ?_;rintro st H Q ⟨P0,H0,P,Os,env,M,r,M',k,e,q⟩;unfold vp at e;split at e
 ·rename_i d hs;cases e;obtain⟨v,e1,i1⟩:=k.slot i _ hs;exact⟨v,mL e1,q P v H (LtE.refl P H) k.hk (cG.of k.hk i1)⟩
 ·rename_i ds hs;cases e;obtain⟨a,vs,e1,e2,e3,i1⟩:=k.slot i _ hs;exact⟨.ref a,mL e2,q P _ H (LtE.refl P H) k.hk ⟨a,vs,rfl,.inl ⟨(k.own a (xaw (mL e1))).2.1,.inl e3⟩,i1⟩⟩
 ·cases e
theorem DY (h:PE X e (tC v))(hd:∀P H,Is X.K P H d v):SE X Wx .val e (ak d):=by
 refine cj h ?_;rintro st H Q ⟨P0,H0,P,Os,env,M,r,M',k,e,q⟩;cases e;exact q P v H (LtE.refl P H) k.hk (hd P H)
noncomputable def vw (M:Mm) (d:D):D:=match d with
  | .ref k => (match M[k]? with
    |some (.lst ds)=>.lst ds
    |_=>.ref k)
  |d=>d
theorem cF.vw {K:Fgx}{mg:Mgx}{P:Pl}{H:Hp}{M:Mm}{d:D}{v:V}(h:Hk K mg P H M)(i:cF K P H d v):bL K P H (vw M d) v:=by
  cases d with
  |ref k=>
    unfold E3.vw;dsimp only
    split
    · rename_i ds e;obtain⟨i1,i2⟩:k<P.n/\v=.ref (P.io k):=i;obtain⟨vs,e1,q⟩:=h.cell k _ e;exact⟨_,vs,i2,.inl (.inl e1),q⟩
    · exact i
  |lst ds=>exact i.w
  |_=>exact i
noncomputable def s1 (o:D->Option D) (f:E):E:=fun env M=>bnd (f env M) fun d M1=>(o (vw M1 d)).map fun z=>(.v z,M1)
noncomputable def s2 (o:D->D->Option D) (f g:E):E:=fun env M=>bnd (f env M) fun d M1=>bnd (g env M1) fun e M2=>(o (vw M2 d) (vw M2 e)).map fun z=>(.v z,M2)
def gZ (K:Fgx)(r:R2)(o:D->D->Option D):Prop:=∀(P:Pl) (H:Hp) (d e z:D) (v w:V) (Q:VK),o d e=some z->bL K P H d v->bL K P H e w->(∀p,H p=none->¬ P.bd p)->(∀u H',Same H H'->Is K P H' z u->Q u H')->r v w H Q
def Fv (K:Fgx)(r:V->Hp->VK->Prop)(o:D->Option D):Prop:=∀(P:Pl) (H:Hp) (d z:D) (v:V) (Q:VK),o d=some z->bL K P H d v->(∀p,H p=none->¬ P.bd p)->(∀u H',Same H H'->Is K P H' z u->Q u H')->r v H Q
theorem Hk.new {K:Fgx}{mg:Mgx}{P:Pl}{H:Hp}{M:Mm}(h:Hk K mg P H M):∀p,H p=none->¬ P.bd p:=fun p hp z=>h.here p z hp
theorem Em {f g:E}{o:D->D->Option D}{r:R2}{st:L2.St}{H:Hp}{Q:VK}(po:gZ X.K r o)(h:tE X.K X.mg Wx m (s2 o f g) st H Q):yd r (tE X.K X.mg Wx .bor f) (tE X.K X.mg Wx .bor g) st H Q:=by
 obtain⟨P0,H0,P,Os,env,M,rr,M',k,e,q⟩:=h;unfold s2 at e;rcases cB e with⟨d,M1,e1,e⟩ |⟨c,n,e1,rfl⟩
 ·refine aV k e1 fun P1 v1 H1 l1 h1 i1=>?_;have k1:=k.next l1 h1
  rcases cB e with⟨d2,M2,e2,e⟩ |⟨c,n,e2,rfl⟩
  ·refine aV k1 e2 fun P2 v2 H2 l2 h2 i2=>?_;rw[xac]at e;obtain⟨z,ez,e⟩:=e;cases e;exact po P2 H2 _ _ z v1 v2 Q ez (cF.vw h2 (cF.lt l2 h1 i1)) (cF.vw h2 i2) h2.new fun u H' s i=>q P2 u H' (l1.trans (l2.trans (LtE.same s))) (h2.same s) (cG.of (h2.same s) i)
  ·exact aV k1 e2 q
 ·exact aV k e1 q
theorem zeo {f:E}{o:D->Option D}{r:V->Hp->VK->Prop}{st:L2.St}{H:Hp}{Q:VK}(po:Fv X.K r o)(h:tE X.K X.mg Wx m (s1 o f) st H Q):Uw r (tE X.K X.mg Wx .bor f) st H Q:=by
 obtain⟨P0,H0,P,Os,env,M,rr,M',k,e,q⟩:=h;unfold s1 at e;rcases cB e with⟨d,M1,e1,e⟩ |⟨c,n,e1,rfl⟩
 ·refine aV k e1 fun P1 v1 H1 l1 h1 i1=>?_;rw[xac]at e;obtain⟨z,ez,e⟩:=e;cases e;exact po P1 H1 _ z v1 Q ez (cF.vw h1 i1) h1.new fun u H' s i=>q P1 u H' (l1.trans (LtE.same s)) (h1.same s) (cG.of (h1.same s) i)
 ·exact aV k e1 q
theorem aK {a b:Expr}{op:Operator}{pos:Pos}{f g:E}{o:D->D->Option D}{r:R2}(ho:bQ X (binaryOp op) r)(po:gZ X.K r o)(ha:SE X Wx .bor a f)(hb:SE X Wx .bor b g):SE X Wx m (.BinOp a op b pos) (s2 o f g):=
 cj (Ri ho ha hb) fun _ _ _ h=>Em po h
theorem T8 (ho:bQ X (compareOp op) r)(po:gZ X.K r o)(ha:SE X Wx .bor a f)(hb:SE X Wx .bor b g)(hm:behindInMarks op b=false:=by rfl):SE X Wx m (.Compare a [op] [b] pos) (s2 o f g):=
 cj (ZR ho ha hb hm) fun _ _ _ h=>Em po h
theorem gk {a b:Expr}{pos:Pos}{f g:E}{o:D->D->Option D}{r:R2}(ho:mV X r)(po:gZ X.K r o)(ha:SE X Wx .bor a f)(hb:SE X Wx .bor b g)(hs:Ft b:=by exact fun _ _=>rfl):SE X Wx m (.Subscript a b pos) (s2 o f g):=
 cj (Z1 ho ha hb hs) fun _ _ _ h=>Em po h
noncomputable def TQ (K:Fgx) (mg:Mgx) (Wx:XW) (P0:Pl) (H0:Hp) (P:Pl) (H:Hp) (M':Mm) (Q:Bool->Hp->Prop):Res->Prop
 |.v d=>∃b,d=.bl b/\∀P' H',LtE P H P' H'->Hk K mg P' H' M'->Q b H'
 |.x c n=>Wx P0 H0 M' c n
noncomputable def wu (K:Fgx) (mg:Mgx) (Wx:XW) (f:E):TT:=fun st H Q=>∃P0 H0 P Os env M r M',Ok K mg P0 H0 P Os H M st env/\f env M=some (r,M')/\TQ K mg Wx P0 H0 P H M' Q r
def ST (X:Cx)(Wx:XW)(e:Expr)(f:E):Prop:=PT X e (wu X.K X.mg Wx f)
theorem z7 (h:PT X e t)(i:∀st H Q,t' st H Q->t st H Q):PT X e t':=fun pins s σ H Q I z=>h pins s σ H Q I (i _ _ _ z)
theorem eZ {f:E}{K:Fgx}{mg:Mgx}{P0 P:Pl}{H0 H:Hp}{Os:List (Option Addr)}{M M':Mm}{st:L2.St}{env:Env}{r:Res}{Q:Bool->Hp->Prop}(k:Ok K mg P0 H0 P Os H M st env)(e:f env M=some (r,M'))
  (q:TQ K mg Wx P0 H0 P H M' Q r):wu K mg Wx f st H Q:=⟨P0,H0,P,Os,env,M,r,M',k,e,q⟩
theorem Mu {f:E}{st:L2.St}{H:Hp}{Q:Bool->Hp->Prop}(h:wu X.K X.mg Wx f st H Q):Uv (tE X.K X.mg Wx .val f) st H Q:=by
  obtain⟨P0,H0,P,Os,env,M,r,M',k,e,q⟩:=h;refine aV k e ?_
  cases r with
  |v d=>
    obtain⟨b,rfl,q⟩:=q;exact fun P' v H' l h i=>⟨b,i,q P' H' l h⟩
  |x c n=>exact q
theorem gH {a b:Expr}{op:CmpOp}{pos:Pos}{f g:E}{o:D->D->Option D}{r:R2}(ho:bQ X (compareOp op) r)(po:gZ X.K r o)(ha:SE X Wx .bor a f)(hb:SE X Wx .bor b g)(hm:behindInMarks op b=false:=by rfl):ST X Wx (.Compare a [op] [b] pos) (s2 o f g):=
 z7 (Rt ho ha hb hm) fun _ _ _ h=>Em po (Mu h)
noncomputable def fV:D->Option Bool
 |.non=>some false
 |.bl b=>some b
 |.int i=>some (i !=0)
 |.str s=>if s.length<=sizeLine then some ((s.length:Int) !=0) else none
 |.lst ds=>some (!ds.isEmpty)
 |.tup ds=>some (!ds.isEmpty)
 |.ref _=>none
def cD (f:E):E:=s1 (fun d=>(fV d).map .bl) f
noncomputable def dw (f:E):E:=fun env M=>bnd (f env M) fun d M1=>match d with
 |.bl b=>some (.v (.bl (!b)),M1)
 |_=>none
noncomputable def bN (f g:E):E:=fun env M=>bnd (f env M) fun d M1=>match d with
 |.bl b=>if b=true then g env M1 else some (.v (.bl false),M1)
 |_=>none
noncomputable def kZ (f g:E):E:=fun env M=>bnd (f env M) fun d M1=>match d with
 |.bl b=>if b=true then some (.v (.bl true),M1) else g env M1
 |_=>none
noncomputable def pY (c f g:E):E:=fun env M=>bnd (c env M) fun d M1=>match d with
 |.bl b=>if b=true then f env M1 else g env M1
 |_=>none
def SW (X:Cx)(Wx:XW)(e:Expr)(f:E):Prop:=PW X e (wu X.K X.mg Wx f)
theorem Rx (h:PW X e t)(i:∀st H Q,t' st H Q->t st H Q):PW X e t':=fun wh pins s σ H Q I z=>h wh pins s σ H Q I (i _ _ _ z)
theorem rC {a:Expr}{pos:Pos}{f:E}(ha:ST X Wx a f):ST X Wx (.UnaryOp .Not a pos) (dw f):=by
 refine z7 (zc5 ha) ?_;rintro st H Q ⟨P0,H0,P,Os,env,M,r,M',k,e,q⟩;unfold dw at e;rcases cB e with⟨d,M1,e1,e⟩ |⟨c,n,e1,rfl⟩
 ·cases d<;>simp only[reduceCtorEq]at e
  cases e;obtain⟨b,e2,q⟩:=q;cases e2;exact eZ k e1 ⟨_,rfl,q⟩
 ·exact eZ k e1 q
theorem yc {a:Expr}{pos:Pos}{f:E}(ha:ST X Wx a f):SW X Wx (.BoolOp .And [a] pos) f:=zb3 ha
theorem El (ha:ST X Wx a f):SW X Wx (.BoolOp .Or [a] pos) f:=zc4 ha
theorem sW {a b:Expr}{rest:List Expr}{pos:Pos}{f g:E}(ha:ST X Wx a f)(hb:SW X Wx (.BoolOp .And (b::rest) pos) g):SW X Wx (.BoolOp .And (a::b::rest) pos) (bN f g):=by
  refine Rx (zdd ha hb) ?_;rintro st H Q ⟨P0,H0,P,Os,env,M,r,M',k,e,q⟩;unfold bN at e;rcases cB e with⟨d,M1,e1,e⟩ |⟨c,n,e1,rfl⟩
  · cases d<;>simp only[reduceCtorEq]at e
    rename_i b;refine eZ k e1 ⟨b,rfl,fun P1 H1 l1 h1=>?_⟩
    cases b with
    |true=>
      rw[xab rfl]at e ⊢;refine eZ (k.next l1 h1) e ?_
      cases r with
      |v d=>obtain⟨b,e2,q⟩:=q;exact⟨b,e2,fun P' H' l h=>q P' H' (l1.trans l) h⟩
      |x c n=>exact q
    |false=>
      rw[xaf (by decide)]at e ⊢;cases e;obtain⟨b,e2,q⟩:=q;cases e2;exact q P1 H1 l1 h1
  · exact eZ k e1 q
theorem Ej (ha:ST X Wx a f)(hb:SW X Wx (.BoolOp .Or (b::rest) pos) g):SW X Wx (.BoolOp .Or (a::b::rest) pos) (kZ f g):=by
  refine Rx (zdJ ha hb) ?_;rintro st H Q ⟨P0,H0,P,Os,env,M,r,M',k,e,q⟩;unfold kZ at e;rcases cB e with⟨d,M1,e1,e⟩ |⟨c,n,e1,rfl⟩
  · cases d<;>simp only[reduceCtorEq]at e
    rename_i b;refine eZ k e1 ⟨b,rfl,fun P1 H1 l1 h1=>?_⟩
    cases b with
    |false=>
      rw[xaf (by decide)]at e ⊢;refine eZ (k.next l1 h1) e ?_
      cases r with
      |v d=>obtain⟨b,e2,q⟩:=q;exact⟨b,e2,fun P' H' l h=>q P' H' (l1.trans l) h⟩
      |x c n=>exact q
    |true=>
      rw[xab rfl]at e ⊢;cases e;obtain⟨b,e2,q⟩:=q;cases e2;exact q P1 H1 l1 h1
  · exact eZ k e1 q
theorem SW.st {e:Expr}{f:E}(h:SW X Wx e f):ST X Wx e f:=h.pt
end
section
variable {X:Cx}{Wx:XW}{m:Mode}
theorem RQ.imp {K:Fgx}{mg:Mgx}{P0 P P1:Pl}{H0 H H1:Hp}{M':Mm}{Q:VK}{r:Res}(l:LtE P H P1 H1)(q:RQ K mg Wx m P0 H0 P H M' Q r):RQ K mg Wx m P0 H0 P1 H1 M' Q r:=by
 cases r with
 |v d=>exact fun P' v H' l' h i=>q P' v H' (l.trans l') h i
 |x c n=>exact q
theorem nM (ha:SE X Wx m a f):SE X Wx m (.BoolOp op [a] pos) f:=Z_ ha
theorem vV (ha:SE X Wx .val a f)(hb:SE X Wx m (.BoolOp .And (b::rest) pos) g):SE X Wx m (.BoolOp .And (a::b::rest) pos) (bN f g):=by
  refine cj (ZL ha hb) ?_;rintro st H Q ⟨P0,H0,P,Os,env,M,r,M',k,e,q⟩;unfold bN at e;rcases cB e with⟨d,M1,e1,e⟩ |⟨c,n,e1,rfl⟩
  · cases d<;>simp only[reduceCtorEq]at e
    rename_i b;refine aV k e1 fun P1 v1 H1 l1 h1 i1=>⟨b,i1,?_⟩
    cases b with
    |true=>
      rw[xab rfl]at e ⊢;exact aV (k.next l1 h1) e (RQ.imp l1 q)
    |false=>
      rw[xaf (by decide)]at e ⊢;cases e;exact q P1 _ H1 l1 h1 (cG.of h1 (show Is _ _ _ (.bl false) _ from rfl))
  · exact aV k e1 q
theorem D_ (ha:SE X Wx .val a f)(hb:SE X Wx m (.BoolOp .Or (b::rest) pos) g):SE X Wx m (.BoolOp .Or (a::b::rest) pos) (kZ f g):=by
  refine cj (zd1 ha hb) ?_;rintro st H Q ⟨P0,H0,P,Os,env,M,r,M',k,e,q⟩;unfold kZ at e;rcases cB e with⟨d,M1,e1,e⟩ |⟨c,n,e1,rfl⟩
  · cases d<;>simp only[reduceCtorEq]at e
    rename_i b;refine aV k e1 fun P1 v1 H1 l1 h1 i1=>⟨b,i1,?_⟩
    cases b with
    |false=>
      rw[xaf (by decide)]at e ⊢;exact aV (k.next l1 h1) e (RQ.imp l1 q)
    |true=>
      rw[xab rfl]at e ⊢;cases e;exact q P1 _ H1 l1 h1 (cG.of h1 (show Is _ _ _ (.bl true) _ from rfl))
  · exact aV k e1 q
theorem zde (hc:ST X Wx c t)(ha:SE X Wx m a f)(hb:SE X Wx m b g):SE X Wx m (.IfExp c a b pos) (pY t f g):=by
  refine cj (ZX hc ha hb) ?_;rintro st H Q ⟨P0,H0,P,Os,env,M,r,M',k,e,q⟩;unfold pY at e;rcases cB e with⟨d,M1,e1,e⟩ |⟨c,n,e1,rfl⟩
  · cases d<;>simp only[reduceCtorEq]at e
    rename_i b;refine eZ k e1 ⟨b,rfl,fun P1 H1 l1 h1=>?_⟩
    cases b with
    |true=>
      rw[xab rfl]at e ⊢;exact aV (k.next l1 h1) e (RQ.imp l1 q)
    |false=>
      rw[xaf (by decide)]at e ⊢;exact aV (k.next l1 h1) e (RQ.imp l1 q)
  · exact eZ k e1 q
theorem UW {K:Fgx}{P:Pl}{H:Hp}{d:D}{v:V}{b:Bool}(h:fV d=some b)(i:bL K P H d v):nY K v H b:=by
  cases d with
  |non=>have e:v=.non:=i;subst e;cases h;rfl
  |bl c=>have e:v=.bl c:=i;subst e;cases h;rfl
  |int c=>have e:v=.int c:=i;subst e;cases h;rfl
  |str c=>
    have e:v=.str c:=i;subst e;simp only[fV]at h;split at h
    · rename_i hl;cases h;exact⟨hl,rfl⟩
    · cases h
  |lst ds=>
    obtain⟨a,vs,rfl,r,q⟩:=i;cases h;refine .inl ⟨vs,r,?_⟩
    cases ds with
    |nil=>rw[show vs=[] from q];rfl
    |cons d ds=>obtain⟨w,r',rfl,_⟩:=q;rfl
  |tup ds=>
    obtain⟨a,vs,rfl,r,q⟩:=i;cases h;refine .inr (.inl ⟨vs,r,?_⟩)
    cases ds with
    |nil=>rw[show vs=[] from q];rfl
    |cons d ds=>obtain⟨w,r',rfl,_⟩:=q;rfl
  |ref k=>cases h
theorem lQ {a:Expr}{f:E}(ha:SE X Wx .bor a f)(he:∀whole,isTrue a X.env whole=(do let v <-whole;standAt a.pos;holding [v] (truthy v)):=by exact fun _=>rfl):ST X Wx a (cD f):=by
 refine z7 (zbb ha he) ?_;rintro st H Q ⟨P0,H0,P,Os,env,M,r,M',k,e,q⟩;unfold cD s1 at e;rcases cB e with⟨d,M1,e1,e⟩ |⟨c,n,e1,rfl⟩
 ·rw[xac]at e;obtain⟨z,ez,e⟩:=e;cases e;rw[xac]at ez;obtain⟨b,eb,rfl⟩:=ez;obtain⟨b',e2,q⟩:=q;cases e2;exact aV k e1 fun P1 v1 H1 l1 h1 i1=>⟨b,UW eb (cF.vw h1 i1),q P1 H1 l1 h1⟩
 ·exact aV k e1 q
theorem Z7 (ha:PE X a ta):PE X (.UnaryOp .Not a pos) (fun σ H Q=>ta σ H fun x H1=>∃k,nY X.K x H1 k/\Q (.bl (!k)) H1):=by
 intro pins s σ H Q I h;refine UnaryOp_ (aP (ha pins s σ H _ I h) fun v s1 ⟨x, H1, I1, r1, k, tv, q⟩ => ?_);exact not_of (aP (U0 pins s1 σ H1 x v (fun b H'=>b=k/\H'=H1) I1 r1 ⟨k,tv,rfl,rfl⟩) fun b s2 ⟨H2,I2,e1,e2⟩=>by
  subst e1 e2;exact⟨.bl (!b),H2,I2,rfl,q⟩)
def xR (f:E):E:=s1 (fun d=>(fV d).map fun b=>.bl (!b)) f
theorem K_ {a:Expr}{pos:Pos}{f:E}(ha:SE X Wx .bor a f):SE X Wx m (.UnaryOp .Not a pos) (xR f):=by
 refine cj (Z7 ha) ?_;rintro st H Q ⟨P0,H0,P,Os,env,M,r,M',k,e,q⟩;unfold xR s1 at e;rcases cB e with⟨d,M1,e1,e⟩ |⟨c,n,e1,rfl⟩
 ·rw[xac]at e;obtain⟨z,ez,e⟩:=e;cases e;rw[xac]at ez;obtain⟨b,eb,rfl⟩:=ez;exact aV k e1 fun P1 v1 H1 l1 h1 i1=>⟨b,UW eb (cF.vw h1 i1),q P1 _ H1 l1 h1 (cG.of h1 (show Is _ _ _ (.bl _) _ from rfl))⟩
 ·exact aV k e1 q
inductive ResA where
 |v (ds:List D) |x (c:Str) (n:Int)
abbrev EA:=Env->Mm->Option (ResA×Mm)
def au:EA:=fun _ M=>some (.v [],M)
noncomputable def aA (f:E) (fs:EA):EA:=fun env M=>match f env M with
  | some (.v d, M1) => (match fs env M1 with
    |some (.v ds,M2)=>some (.v (d::ds),M2)
    |some (.x c n,M2)=>some (.x c n,M2)
    |none=>none)
  |some (.x c n,M1)=>some (.x c n,M1)
  |none=>none
noncomputable def cQ (o:Option (ResA×Mm)) (k:List D->Mm->O):O:=match o with
 |some (.v ds,M)=>k ds M
 |some (.x c n,M)=>some (.x c n,M)
 |none=>none
theorem o_ (h:cQ o k=some (r,M')):(∃ds M,o=some (.v ds,M)/\k ds M=some (r,M'))\/∃c n,o=some (.x c n,M')/\r=.x c n:=by
 unfold cQ at h;split at h
 ·exact .inl ⟨_,_,rfl,h⟩
 ·cases h;exact .inr ⟨_,_,rfl,rfl⟩
 ·cases h
noncomputable def cP (K:Fgx) (P:Pl) (H:Hp) (m:Mode):List D->List V->Prop
 | [],vs=>vs=[]
 |d::ds,vs=>∃v ws,vs=v::ws/\cG K P H m d v/\cP K P H m ds ws
theorem cP.iss {K:Fgx}{P:Pl}{H:Hp}:∀{ds:List D} {vs:List V},cP K P H .val ds vs->aD K P H ds vs
  | [],_,h=>h
  |_::_,_,h=>by
    obtain⟨v,ws,e,p,q⟩:=h;exact⟨v,ws,e,p,cP.iss q⟩
noncomputable def AQ (K:Fgx) (mg:Mgx) (Wx:XW) (m:Mode) (P0:Pl) (H0:Hp) (P:Pl) (H:Hp) (M':Mm) (Q:List V->Hp->Prop):ResA->Prop
 |.v ds=>∀P' vs H',LtE P H P' H'->Hk K mg P' H' M'->cP K P' H' m ds vs->Q vs H'
 |.x c n=>Wx P0 H0 M' c n
noncomputable def tAs (K:Fgx) (mg:Mgx) (Wx:XW) (m:Mode) (fs:EA):TA:=fun st H Q=>∃P0 H0 P Os env M r M',Ok K mg P0 H0 P Os H M st env/\fs env M=some (r,M')/\AQ K mg Wx m P0 H0 P H M' Q r
def SA (X:Cx)(Wx:XW)(m:Mode)(es:List Expr)(fs:EA):Prop:=PA X es (tAs X.K X.mg Wx m fs)
theorem Rb (h:PA X es t)(w:∀σ H Q,t' σ H Q->t σ H Q):PA X es t':=fun pos pins s σ H Q I hw=>h pos pins s σ H Q I (w σ H Q hw)
theorem aM:SA X Wx m [] au:=by
 refine Rb vd ?_;rintro st H Q ⟨P0,H0,P,Os,env,M,r,M',k,e,q⟩;cases e;exact q P [] H (LtE.refl P H) k.hk rfl
theorem aC {e:Expr}{es:List Expr}{f:E}{fs:EA}(ha:SE X Wx m e f)(hr:SA X Wx m es fs)(hs:starEach (e::es) X.env=(false,eval e X.env)::starEach es X.env:=by rfl):SA X Wx m (e::es) (aA f fs):=by
 refine Rb (pQ ha hr hs) ?_;rintro st H Q ⟨P0,H0,P,Os,env,M,r,M',k,e,q⟩;unfold aA at e;split at e
 ·rename_i d M1 e1;refine aV k e1 fun P1 v1 H1 l1 h1 i1=>?_;split at e
  ·rename_i ds M2 e2;cases e;refine⟨P0,H0,P1,Os,env,M1,_,_,k.next l1 h1,e2,fun P2 vs H2 l2 h2 i2=>q P2 _ H2 (l1.trans l2) h2 ⟨v1,vs,rfl,?_,i2⟩⟩
   cases m with
   |val=>exact Is.lt (l2.lt h1) i1
   |bor=>exact cF.lt l2 h1 i1
  ·rename_i c n M2 e2;cases e;exact⟨P0,H0,P1,Os,env,M1,_,_,k.next l1 h1,e2,q⟩
  ·cases e
 ·rename_i c n M1 e1;cases e;exact aV k e1 q
 ·cases e
noncomputable def sN (o:List D->Option D) (fs:EA):E:=fun env M=>cQ (fs env M) fun ds M1=>(o (ds.map (vw M1))).map fun z=>(.v z,M1)
noncomputable def nQ (K:Fgx) (P:Pl) (H:Hp):List D->List V->Prop
 | [],vs=>vs=[]
 |d::ds,vs=>∃v ws,vs=v::ws/\bL K P H d v/\nQ K P H ds ws
theorem cP.w {K:Fgx}{mg:Mgx}{P:Pl}{H:Hp}{M:Mm}(h:Hk K mg P H M):∀{ds:List D} {vs:List V},cP K P H m ds vs->nQ K P H (ds.map (vw M)) vs
  | [],_,q=>q
  |d::ds,_,q=>by
    obtain⟨v,ws,e,p,q⟩:=q;exact⟨v,ws,e,cF.vw h (p.b h),cP.w h q⟩
def mX (K:Fgx)(r:List V->Hp->VK->Prop)(o:List D->Option D):Prop:=∀(P:Pl) (H:Hp) (ds:List D) (z:D) (vs:List V) (Q:VK),o ds=some z->nQ K P H ds vs->(∀p,H p=none->¬ P.bd p)->(∀u H',Same H H'->Is K P H' z u->Q u H')->r vs H Q
theorem T7 (h:∀t,PA X (e::es) t->PE X ex (LK r t))(po:mX X.K r o)(ha:SA X Wx .bor (e::es) fs):SE X Wx m ex (sN o fs):=by
 refine cj (h _ ha) ?_;rintro st H Q ⟨P0,H0,P,Os,env,M,r,M',k,e,q⟩;unfold sN at e;rcases o_ e with⟨ds,M1,e1,e⟩ |⟨c,n,e1,rfl⟩
 ·rw[xac]at e;obtain⟨z,ez,e⟩:=e;cases e;exact⟨P0,H0,P,Os,env,M,_,_,k,e1,fun P1 vs H1 l1 h1 i1=>po P1 H1 _ z vs Q ez (cP.w h1 i1) h1.new fun u H' s i=>q P1 u H' (l1.trans (LtE.same s)) (h1.same s) (cG.of (h1.same s) i)⟩
 ·exact⟨P0,H0,P,Os,env,M,_,_,k,e1,q⟩
noncomputable def NQ (K:Fgx) (mg:Mgx) (Wx:XW) (P0:Pl) (H0:Hp) (P:Pl) (H:Hp) (M':Mm) (Q:VK):Res->Prop
 |.v d=>∃ds,d=.lst ds/\∀P' a vs H',LtE P H P' H'->Hk K mg P' H' M'->H a=none->P'.bd a->(∀k,k<P'.n->P'.io k≠a)->H' a=some (.lst vs)->aD K P' H' ds vs->Q (.ref a) H'
 |.x c n=>Wx P0 H0 M' c n
noncomputable def tN (K:Fgx) (mg:Mgx) (Wx:XW) (f:E):TE:=fun st H Q=>∃P0 H0 P Os env M r M',Ok K mg P0 H0 P Os H M st env/\f env M=some (r,M')/\NQ K mg Wx P0 H0 P H M' Q r
def SN (X:Cx)(Wx:XW)(e:Expr)(f:E):Prop:=PE X e (tN X.K X.mg Wx f)
def Pl.bar (P:Pl)(p:Addr):Pl:={P with bd:=fun a=>P.bd a\/a=p}
theorem yG {K:Fgx}{mg:Mgx}{P:Pl}{H:Hp}{M:Mm}{p:Addr}{vs:List V}(h:Hk K mg P H M)(hp:H p=none):LtE P H (P.bar p) (upd H p (.lst vs))/\Hk K mg (P.bar p) (upd H p (.lst vs)) M/\∀k,k<P.n->P.io k≠p:=by
  have s:=vU (o:=.lst vs) hp;have nc:∀k,k<P.n->P.io k≠p:=fun k hk z=>h.here _ (h.bd k hk) (z ▸ hp);have l:LtE P H (P.bar p) (upd H p (.lst vs)):=⟨xai _,fun _ _=>rfl,fun a z=>Or.imp (fun q=>q) (fun(q:a=p)=>by rw[q];exact hp) z,fun a z=>.inl z,fun a o e _=>s a o e,fun a z=>s.free z,fun k h1 h2=>absurd h1 (xdk.mpr h2)⟩;have lt:=l.lt h;refine⟨l,⟨h.n,fun k c e=>?_,h.inj,fun k hk=>.inl (h.bd k hk),fun a z q=>?_⟩,nc⟩
  · have:=h.cell k c e
    cases c with
    |lst ds=>
      obtain⟨vs,e1,q⟩:=this;exact⟨vs,s _ _ e1,aD.lt lt q⟩
    |obj c fs=>
      obtain⟨C,dx,gs,e1,e2,e3,q⟩:=this;exact⟨C,dx,gs,e1,s _ _ e2,e3,aD.lt lt q⟩
    |dct kvs=>
      obtain⟨vs,e1,e2,q⟩:=this;exact⟨vs,s _ _ e1,e2,aD.lt lt q⟩
    |dcf kvs=>
      obtain⟨vs,ob,es,ep,e1,eD,e2,q⟩:=this;exact⟨vs,ob,es,ep,s _ _ e1,eD,e2,aD.lt lt q⟩
    |fn i caps=>exact lD.up this lt.frz fun _ _ q=>aD.lt lt q
    |tbl nm i=>exact nW.up this (fun _ e=>s _ _ e) lt.frz
  · rcases z with z |z
    · exact h.here a z (s.free q)
    · subst z;rw[bU]at q;cases q
theorem SN.se (h:SN X Wx e f)(hf:∀env M r M',f env M=some (.v r,M')->∃ds,r=.lst ds):SE X Wx .val e f:=by
  refine cj h ?_;rintro st H Q ⟨P0,H0,P,Os,env,M,r,M',k,e,q⟩;refine⟨P0,H0,P,Os,env,M,r,M',k,e,?_⟩
  cases r with
  |x c n=>exact q
  |v d=>
    obtain⟨ds,rfl⟩:=hf _ _ _ _ e;refine⟨ds,rfl,fun P' a vs H' l h ha ba nc ea is=>q (P'.less (· ≠a)) _ H' ?_ ?_ ⟨a,vs,rfl,.inl ⟨fun z=>z.2 rfl,.inl ea⟩,aD.less is⟩⟩
    · exact⟨l.n,l.io,fun b z=>l.bd b z.1,fun b z=>⟨l.bm b z,fun q=>k.hk.here b z (q ▸ ha)⟩,l.keep,l.sure,l.nw⟩
    · refine⟨h.n,fun j c e=>?_,h.inj,fun j hj=>⟨h.bd j hj,nc j hj⟩,fun b z=>h.here b z.1⟩;have:=h.cell j c e
      cases c with
      |lst ds=>
        obtain⟨vs,e1,q⟩:=this;exact⟨vs,e1,aD.less q⟩
      |obj c fs=>
        obtain⟨C,dx,gs,e1,e2,e3,q⟩:=this;exact⟨C,dx,gs,e1,e2,e3,aD.less q⟩
      |dct kvs=>
        obtain⟨vs,e1,e2,q⟩:=this;exact⟨vs,e1,e2,aD.less q⟩
      |dcf kvs=>
        obtain⟨vs,ob,es,ep,e1,eD,e2,q⟩:=this;exact⟨vs,ob,es,ep,e1,eD,e2,aD.less q⟩
      |fn i caps=>exact lD.up this (fun _ _ _ z=>z) fun _ _ q=>aD.less q
      |tbl nm i=>exact this
noncomputable def aU (fs:EA):E:=fun env M=>cQ (fs env M) fun ds M1=>if ds.length<=sizeLine then some (.v (.lst ds),M1) else none
theorem cW {es:List Expr}{pos:Pos}{fs:EA}(ha:SA X Wx .val es fs):SN X Wx (.List es pos) (aU fs):=by
 refine cj (Z2 ha) ?_;rintro st H Q ⟨P0,H0,P,Os,env,M,r,M',k,e,q⟩;unfold aU at e;rcases o_ e with⟨ds,M1,e1,e⟩ |⟨c,n,e1,rfl⟩
 ·split at e
  ·rename_i hl;cases e;obtain⟨ds',e',q⟩:=q;cases e';refine⟨P0,H0,P,Os,env,M,_,_,k,e1,fun P1 vs H1 l1 h1 i1=>⟨by rw[i1.iss.len];exact hl,fun p hp=>?_⟩⟩;obtain⟨l2,h2,nc⟩:=yG (vs:=vs) h1 hp;exact q (P1.bar p) p vs _ (l1.trans l2) h2 (l1.sure p hp) (.inr rfl) nc bU (aD.lt (l2.lt h1) i1.iss)
  ·cases e
 ·exact⟨P0,H0,P,Os,env,M,_,_,k,e1,q⟩
theorem lst_is:∀env M r M',aU fs env M=some (.v r,M')->∃ds,r=.lst ds:=fun env M r M' e=>by
 unfold aU at e;rcases o_ e with⟨ds,M1,e1,e⟩ |⟨c,n,e1,e⟩
 ·split at e
  ·cases e;exact⟨_,rfl⟩
  ·cases e
 ·cases e
end
inductive Out where
 |nx (env:Env) |bk (env:Env) |ct (env:Env) |rt (d:D) |ex (c:Str) (n:Int)
abbrev OS:=Option (Out×Mm)
abbrev S:=Env->Mm->OS
noncomputable def Post (K:Fgx) (mg:Mgx) (Wx:XW) (P0:Pl) (H0:Hp) (P:Pl) (H:Hp) (M':Mm) (D:Ends):Out->Prop
 |.nx env=>∀P' Os' H' st',Lt P H P' H'->Ok K mg P0 H0 P' Os' H' M' st' env->D.nx st' H'
 |.bk env=>∀P' Os' H' st',Lt P H P' H'->Ok K mg P0 H0 P' Os' H' M' st' env->D.bk st' H'
 |.ct env=>∀P' Os' H' st',Lt P H P' H'->Ok K mg P0 H0 P' Os' H' M' st' env->D.ct st' H'
 |.rt d=>∀P' v H',LtE P0 H0 P' H'->Hk K mg P' H' M'->Is K P' H' d v->D.rt v H'
 |.ex c n=>Wx P0 H0 M' c n
noncomputable def tS (K:Fgx) (mg:Mgx) (Wx:XW) (f:S):TS:=fun D st H=>∃P0 H0 P Os env M out M',Ok K mg P0 H0 P Os H M st env/\f env M=some (out,M')/\Post K mg Wx P0 H0 P H M' D out
def SS (X:Cx)(Wx:XW)(s:Stmt)(f:S):Prop:=PS X s (tS X.K X.mg Wx f)
def SB (X:Cx)(Wx:XW)(s:List Stmt)(f:S):Prop:=eF X s (tS X.K X.mg Wx f)
noncomputable def bY (o:O) (k:D->Mm->OS):OS:=match o with
 |some (.v d,M)=>k d M
 |some (.x c n,M)=>some (.ex c n,M)
 |none=>none
theorem gJ (h:bY o k=some (r,M')):(∃d M,o=some (.v d,M)/\k d M=some (r,M'))\/∃c n,o=some (.x c n,M')/\r=.ex c n:=by
 unfold bY at h;split at h
 ·exact .inl ⟨_,_,rfl,h⟩
 ·cases h;exact .inr ⟨_,_,rfl,rfl⟩
 ·cases h
section
variable {K:Fgx}{mg:Mgx}{Wx:XW}{P0 P P' P1:Pl}{H0 H H' H1:Hp}{M M':Mm}{Os:List (Option Addr)}{st:L2.St}{env:Env}{d:D}{v:V}{i:Nat}
theorem vY (l:List (Option α))(i j:Nat)(x:Option α)(hi:i<l.length):((l.set i x)[j]?).join=if i=j then x else(l[j]?).join:=by
 rw[xaL]
 by_cases h:i=j
 ·subst h;rw[xab rfl,xab hi,xab rfl];rfl
 ·rw[xaf h,xaf h]
theorem Ok.asg (k:Ok K mg P0 H0 P Os H M st env)(hi:i<env.length)(h:Is K P H d v):Ok K mg P0 H0 P (Os.set i none) H M (st.set i (some v)) (env.set i (.val d)) where
 hk:=k.hk
 base:=k.base
 b0:=k.b0
 slot:=fun j s e=>by
  rw[vY _ _ _ _ (by rw[k.olen];exact hi),vY _ _ _ _ (by rw[k.slen];exact hi)];rw[xaL]at e;split at e
  ·rename_i ij;subst ij;cases e;rw[xab rfl,xab rfl];exact⟨v,rfl,h⟩
  ·rename_i ij;rw[xaf ij,xaf ij];exact k.slot j s e
 own := fun a h => k.own a (by
  rcases xb7 h with h |h
  ·exact h
  ·cases h)
 inj:=fun j l a e1 e2=>by
  rw[xaL]at e1 e2;split at e1
  ·split at e1<;>cases e1
  ·split at e2
   ·split at e2<;>cases e2
   ·exact k.inj j l a e1 e2
 olen:=by rw[xaG,xaG,k.olen]
 slen:=by rw[xaG,xaG,k.slen]
theorem Ok.here (k:Ok K mg P0 H0 P Os H M st env)(h:some a∈Os):H a≠none:=k.hk.here a (k.own a h).1
theorem Ok.mine (k0:Ok K mg P0 H0 P Os H M st env)(l:LtE P H P' H')(hk:Hk K mg P' H' M')(hi:i<env.length)(ha:H a=none)(ba:P'.bd a)(nc:∀j,j<P'.n->P'.io j≠a)(e:H' a=some (.lst vs))(h:aD K P' H' ds vs):
  Ok K mg P0 H0 P' (Os.set i (some a)) H' M' (st.set i (some (.ref a))) (env.set i (.own ds)):=by
 have k:=k0.next l hk
 have nO:∀j,Os[j]? ≠some (some a):=fun j z=>k0.here (xaw z) ha;exact {
  hk:=k.hk
  base:=k.base
  b0:=k.b0
  slot:=fun j s e'=>by
   rw[vY _ _ _ _ (by rw[k.olen];exact hi),vY _ _ _ _ (by rw[k.slen];exact hi)];rw[xaL]at e';split at e'
   ·rename_i ij;subst ij;cases e';rw[xab rfl,xab rfl];exact⟨a,vs,rfl,rfl,e,h⟩
   ·rename_i ij;rw[xaf ij,xaf ij];exact k.slot j s e'
  own:=fun b hb=>by
   rcases xb7 hb with hb |hb
   ·exact k.own b hb
   ·cases hb;exact⟨ba,nc,k0.base.sure a ha⟩
  inj:=fun j l b e1 e2=>by
   rw[xaL]at e1 e2;split at e1
   ·split at e1
    ·cases e1;split at e2
     ·rename_i z1 _ z2;exact z1.symm.trans z2
     ·exact absurd e2 (nO l)
    ·cases e1
   ·split at e2
    ·split at e2
     ·cases e2;exact absurd e1 (nO j)
     ·cases e2
    ·exact k.inj j l b e1 e2
  olen:=by rw[xaG,xaG,k.olen]
  slen:=by rw[xaG,xaG,k.slen]}
theorem xg (b : P.bd a) (e : H a = some o) (nf : ¬ Fx o) : Lt P H P (upd H a o') := ⟨xai _,fun _ _=>rfl,fun _ z=>.inl z,fun c u ec z=>by
  by_cases h:c=a
  ·subst h;rw[e]at ec;cases ec;exact(z.elim nf fun n=>n b).elim
  ·rw[aQ h];exact ec,fun c z=>by
  by_cases h:c=a
  ·subst h;rw[bU]at z;cases z
  ·rw[aQ h]at z;exact z⟩
theorem Ip:¬ Fx (.lst vs):=fun z=>by rcases z with⟨_,z⟩ |⟨_,_,z⟩ |⟨_,z⟩ |⟨_,z⟩<;>cases z
theorem X_:¬ Fx (.ins C dx gs):=fun z=>by rcases z with⟨_,z⟩ |⟨_,_,z⟩ |⟨_,z⟩ |⟨_,z⟩<;>cases z
theorem wD.lt (l:Lt P H P' H')(e:∀o,H a=some o->H' a=some o)(h:wD K mg P H a c):wD K mg P' H' a c:=by
  cases c with
  |lst ds=>
    obtain⟨vs,e1,q⟩:=h;exact⟨vs,e _ e1,aD.lt l q⟩
  |obj c fs=>
    obtain⟨C,dx,gs,e1,e2,e3,q⟩:=h;exact⟨C,dx,gs,e1,e _ e2,e3,aD.lt l q⟩
  |dct kvs=>
    obtain⟨vs,e1,e2,q⟩:=h;exact⟨vs,e _ e1,e2,aD.lt l q⟩
  |dcf kvs=>
    obtain⟨vs,ob,es,ep,e1,eD,e2,q⟩:=h;exact⟨vs,ob,es,ep,e _ e1,eD,e2,aD.lt l q⟩
  |fn i caps=>exact lD.up h l.frz fun _ _ q=>aD.lt l q
  |tbl nm i=>exact nW.up h e l.frz
theorem Ok.chg (k:Ok K mg P0 H0 P Os H M st env)(hi:env[i]? =some (.own ds))(ho:Os[i]? =some (some a))(e:H a=some (.lst vs))(h:aD K P H ds' vs'):
    Lt P H P (upd H a (.lst vs'))/\Ok K mg P0 H0 P Os (upd H a (.lst vs')) M st (env.set i (.own ds')):=by
  obtain⟨b1,b2,b3⟩:=k.own a (xaw ho);have l:Lt P H P (upd H a (.lst vs')):=xg b1 e Ip;have ilt:i<env.length:=(xad.mp hi).1;refine⟨l,?_⟩;exact {
    hk:=⟨k.hk.n,fun j c ej=>(k.hk.cell j c ej).lt l fun o eo=>by rw[aQ (b2 j (by rw[k.hk.n];exact(xad.mp ej).1))];exact eo,k.hk.inj,k.hk.bd,fun c z q=>k.hk.here c z (l.sure c q)⟩
    base := ⟨k.base.n,k.base.io,k.base.bd,k.base.bm,fun c o ec n=>by
      have:=k.base.keep c o ec n;rw[aQ (fun z=>by subst z;rw[b3]at ec;cases ec)];exact this,fun c z=>k.base.sure c (l.sure c z),k.base.nw⟩
    b0:=k.b0
    slot:=fun j s ej=>by
      rw[xaL]at ej;split at ej
      · rename_i ij;subst ij;cases ej;obtain⟨a',vs0,e1,e2,e3,q⟩:=k.slot i _ hi;rw[ho]at e1;cases e1;exact⟨a,vs',by rw[ho];rfl,e2,bU,aD.lt l h⟩
      · rename_i ij;have q:=k.slot j s ej
        cases s with
        |un=>exact True.intro
        |val d=>obtain⟨v,e1,q⟩:=q;exact⟨v,e1,Is.lt l q⟩
        |own es=>
          obtain⟨a',ws,e1,e2,e3,q⟩:=q;refine⟨a',ws,e1,e2,?_,aD.lt l q⟩;rw[aQ (fun z=>ij (k.inj i j a ho (by rw[<-z];exact mL e1)))];exact e3
        |exc c n=>obtain⟨v,e1,q⟩:=q;exact⟨v,e1,q.lt l⟩
    own:=k.own
    inj:=k.inj
    olen:=by rw[xaG,k.olen]
    slen:=by rw[xaG,k.slen]}
theorem Hk.set (h:Hk K mg P H M)(e:M[j]? =some c)(w:wD K mg P (upd H (P.io j) o') (P.io j) c')(nd:c.fix=false:=by rfl):Lt P H P (upd H (P.io j) o')/\LtE P H P (upd H (P.io j) o')/\Hk K mg P (upd H (P.io j) o') (M.set j c'):=by
 have jl:j<P.n:=by rw[h.n];exact(xad.mp e).1
 obtain ⟨o, eo, nf⟩ := h.cellAt e nd;have l : Lt P H P (upd H (P.io j) o') := xg (h.bd j jl) eo nf;refine ⟨l, ⟨xai _,fun _ _=>rfl,fun _ z=>.inl z,fun _ z=>z,fun a u ea n=>by
  have ne:a≠P.io j:=by
   rintro rfl;rw[eo]at ea;cases ea;exact n.elim nf fun nc=>nc j jl rfl
  rw[aQ ne];exact ea,l.sure,fun k h1 h2=>absurd h1 (xdk.mpr h2)⟩,⟨by rw[xaG,h.n],fun k b ek=>?_,h.inj,h.bd,fun a z q=>h.here a z (l.sure a q)⟩⟩
 rw[xaL]at ek;split at ek
 ·rename_i jk;subst jk;rw[xab (by rw[<-h.n];exact jl)]at ek;cases ek;exact w
 ·rename_i jk;have kl:k<P.n:=by rw[h.n];exact(xad.mp ek).1
  exact(h.cell k b ek).lt l fun u eu=>by rw[aQ (fun z=>jk (h.inj j k jl kl z.symm))];exact eu
theorem Ok.frz (k:Ok K mg P0 H0 P Os H M st env)(hi:env[i]? =some (.own ds)):∃P' Os',Lt P H P' H/\Ok K mg P0 H0 P' Os' H M st (env.set i (.val (.lst ds))):=by
 obtain⟨a,vs,e1,e2,e3,q⟩:=k.slot i _ hi;have ho:=mL e1;obtain⟨b1,b2,b3⟩:=k.own a (xaw ho);have ilt:i<env.length:=(xad.mp hi).1;have nO:∀b,some b∈Os.set i none->some b∈Os/\b≠a:=fun b z=>by
  obtain⟨j,hj⟩:=xde.mp z;rw[xaL]at hj;split at hj
  ·split at hj<;>cases hj
  ·rename_i ij;exact⟨xaw hj,fun z=>by subst z;exact ij (k.inj i j b ho hj)⟩
 have l : Lt P H (P.less (· ≠ a)) H := ⟨xai _, fun _ _ => rfl, fun c z => .inl z.1, fun _ _ e _ => e, fun _ z => z⟩;refine ⟨P.less (· ≠a),Os.set i none,l,{
  hk:=⟨k.hk.n,fun j c ej=>(k.hk.cell j c ej).lt l fun _ z=>z,k.hk.inj,fun j hj=>⟨k.hk.bd j hj,b2 j hj⟩,fun c z=>k.hk.here c z.1⟩
  base:=⟨k.base.n,k.base.io,fun c z=>k.base.bd c z.1,fun c z=>⟨k.base.bm c z,fun q=>k.b0 c z (q ▸ b3)⟩,k.base.keep,k.base.sure,k.base.nw⟩
  b0:=k.b0
  slot:=fun j s ej=>?_
  own:=fun c z=>?_
  inj:=fun j l b z1 z2=>?_
  olen:=by rw[xaG,xaG,k.olen]
  slen:=by rw[xaG,k.slen]}⟩
 ·rw[vY _ _ _ _ (by rw[k.olen];exact ilt)];rw[xaL]at ej;split at ej
  ·rename_i ij;subst ij;cases ej;exact⟨.ref a,e2,a,vs,rfl,.inl ⟨fun z=>z.2 rfl,.inl e3⟩,aD.less q⟩
  ·rename_i ij;rw[xaf ij];have q:=k.slot j s ej
   cases s with
   |un=>exact True.intro
   |val d=>obtain⟨v,e1,q⟩:=q;exact⟨v,e1,Is.less q⟩
   |own es=>obtain⟨a',ws,e1,e2,e3,q⟩:=q;exact⟨a',ws,e1,e2,e3,aD.less q⟩
   |exc c n=>obtain⟨v,e1,q⟩:=q;exact⟨v,e1,q.lt l⟩
 ·obtain⟨z1,z2⟩:=nO c z;obtain⟨c1,c2,c3⟩:=k.own c z1;exact⟨⟨c1,z2⟩,c2,c3⟩
 ·rw[xaL]at z1 z2;split at z1
  ·split at z1<;>cases z1
  ·split at z2
   ·split at z2<;>cases z2
   ·exact k.inj j l b z1 z2
end
section
variable {X:Cx}{Wx:XW}{pos:Pos}
theorem fP (h:PS X s t)(w:∀D σ H,t' D σ H->t D σ H):PS X s t':=fun pins s σ H D I hw=>h pins s σ H D I (w D σ H hw)
theorem J3 (h:eF X s t)(w:∀D σ H,t' D σ H->t D σ H):eF X s t':=fun pins s σ H D I hw=>h pins s σ H D I (w D σ H hw)
def aq:S:=fun env M=>some (.nx env,M)
noncomputable def ao (f g:S):S:=fun env M=>match f env M with
 |some (.nx e,M1)=>g e M1
 |o=>o
theorem aH:SB X Wx [] aq:=by
 refine J3 zb6 ?_;rintro D st H ⟨P0,H0,P,Os,env,M,out,M',k,e,q⟩;cases e;exact q P Os H st (Lt.refl P H) k
theorem Post.lt {K:Fgx}{mg:Mgx}{P0 P P1:Pl}{H0 H H1:Hp}{M':Mm}{D:Ends}{o:Out}(l:Lt P H P1 H1)(q:Post K mg Wx P0 H0 P H M' D o):Post K mg Wx P0 H0 P1 H1 M' D o:=by
 cases o with
 |nx env=>exact fun P' Os' H' st' l' k=>q P' Os' H' st' (l.trans l') k
 |bk env=>exact fun P' Os' H' st' l' k=>q P' Os' H' st' (l.trans l') k
 |ct env=>exact fun P' Os' H' st' l' k=>q P' Os' H' st' (l.trans l') k
 |rt d=>exact q
 |ex c n=>exact q
theorem aF {s:Stmt}{ss:List Stmt}{f g:S}(h1:SS X Wx s f)(h2:SB X Wx ss g):SB X Wx (s::ss) (ao f g):=by
  refine J3 (zbg h1 h2) ?_;rintro D st H ⟨P0,H0,P,Os,env,M,out,M',k,e,q⟩;unfold ao at e;split at e
  · rename_i e1 M1 ef;refine⟨P0,H0,P,Os,env,M,_,_,k,ef,fun P1 Os1 H1 st1 l1 k1=>?_⟩;exact⟨P0,H0,P1,Os1,e1,M1,_,_,k1,e,q.lt l1⟩
  · rename_i o ho
    cases ef:f env M with
    |none=>rw[ef]at e;cases e
    |some om=>
      obtain⟨o1,M1⟩:=om;rw[ef]at e;cases e;refine⟨P0,H0,P,Os,env,M,_,_,k,ef,?_⟩
      cases out with
      |nx env'=>exact(ho _ _ ef).elim
      |bk env'=>exact q
      |ct env'=>exact q
      |rt d=>exact q
      |ex c n=>exact q
noncomputable def aN (i:Nat) (f:E):S:=fun env M=>bY (f env M) fun d M1=>if i<env.length then some (.nx (env.set i (.val d)),M1) else none
theorem bK {i:Nat}{x:Str}{e:Expr}{f:E}{pos':Pos}(hN:X.N.Nodup)(hi:X.N[i]? =some x)(hx:Loc X.env.scope x)(he:SE X Wx .val e f)(hs:swapsWith e (some (.Name x pos')) pos.line X.env=pure false:=by rfl)
  (hf:X.fn x=true\/X.env.scope.names.lookup x=some .local:=by first |exact .inl rfl |exact .inr rfl):SS X Wx (.Assign [.Name x pos'] e pos) (aN i f):=by
 refine fP (Rr hN hi hx he hs hf) ?_;rintro D st H ⟨P0,H0,P,Os,env,M,out,M',k,e,q⟩;unfold aN at e;rcases gJ e with⟨d,M1,e1,e⟩ |⟨c,n,e1,rfl⟩
 ·split at e
  ·rename_i hl;cases e;exact⟨P0,H0,P,Os,env,M,_,_,k,e1,fun P1 v1 H1 l1 h1 i1=>q _ _ _ _ (l1.lt k.hk) ((k.next l1 h1).asg hl i1)⟩
  ·cases e
 ·exact⟨P0,H0,P,Os,env,M,_,_,k,e1,q⟩
noncomputable def xQ (i:Nat) (f:E):S:=fun env M=>bY (f env M) fun d M1=>match d with
 |.lst ds=>if i<env.length then some (.nx (env.set i (.own ds)),M1) else none
 |_=>none
theorem Lj {i:Nat}{x:Str}{e:Expr}{f:E}{pos':Pos}(hN:X.N.Nodup)(hi:X.N[i]? =some x)(hx:Loc X.env.scope x)(he:SN X Wx e f)(hs:swapsWith e (some (.Name x pos')) pos.line X.env=pure false:=by rfl)
  (hf:X.fn x=true\/X.env.scope.names.lookup x=some .local:=by first |exact .inl rfl |exact .inr rfl):SS X Wx (.Assign [.Name x pos'] e pos) (xQ i f):=by
 refine fP (Rr hN hi hx he hs hf) ?_;rintro D st H ⟨P0,H0,P,Os,env,M,out,M',k,e,q⟩;unfold xQ at e;rcases gJ e with⟨d,M1,e1,e⟩ |⟨c,n,e1,rfl⟩
 ·cases d<;>simp only[reduceCtorEq]at e
  rename_i ds;split at e
  ·rename_i hl;cases e;exact⟨P0,H0,P,Os,env,M,_,_,k,e1,ds,rfl,fun P1 a vs H1 l1 h1 ha ba nc ea is=>q _ _ _ _ (l1.lt k.hk) (k.mine l1 h1 hl ha ba nc ea is)⟩
  ·cases e
 ·exact⟨P0,H0,P,Os,env,M,_,_,k,e1,q⟩
def aJ (f:E):S:=fun env M=>bY (f env M) fun d M1=>some (.rt d,M1)
theorem aZ {e:Expr}{f:E}(he:SE X Wx .val e f):SS X Wx (.Return (some e) pos) (aJ f):=by
 refine fP (zcV he) ?_;rintro D st H ⟨P0,H0,P,Os,env,M,out,M',k,e,q⟩;unfold aJ at e;rcases gJ e with⟨d,M1,e1,e⟩ |⟨c,n,e1,rfl⟩
 ·cases e;exact⟨P0,H0,P,Os,env,M,_,_,k,e1,fun P1 v1 H1 l1 h1 i1=>q P1 v1 H1 (k.base.trans l1) h1 i1⟩
 ·exact⟨P0,H0,P,Os,env,M,_,_,k,e1,q⟩
noncomputable def nJ (f:E):S:=fun env M=>bY (f env M) fun _ M1=>some (.nx env,M1)
theorem Li (he:SE X Wx .bor e f)(hs:swapsWith e none pos.line X.env=pure false:=by rfl):SS X Wx (.Expr e pos) (nJ f):=by
 refine fP (z6 he hs) ?_;rintro D st H ⟨P0,H0,P,Os,env,M,out,M',k,e,q⟩;unfold nJ at e;rcases gJ e with⟨d,M1,e1,e⟩ |⟨c,n,e1,rfl⟩
 ·cases e;exact⟨P0,H0,P,Os,env,M,_,_,k,e1,fun P1 v1 H1 l1 h1 i1=>q _ _ _ _ (l1.lt k.hk) (k.next l1 h1)⟩
 ·exact⟨P0,H0,P,Os,env,M,_,_,k,e1,q⟩
noncomputable def bC (c:E) (f g:S):S:=fun env M=>bY (c env M) fun d M1=>match d with
 |.bl b=>if b=true then f env M1 else g env M1
 |_=>none
theorem bH {c:Expr}{a b:List Stmt}{t:E}{f g:S}(hc:ST X Wx c t)(ha:SB X Wx a f)(hb:SB X Wx b g):SS X Wx (.If c a b pos) (bC t f g):=by
  refine fP (Rq hc ha hb) ?_;rintro D st H ⟨P0,H0,P,Os,env,M,out,M',k,e,q⟩;unfold bC at e;rcases gJ e with⟨d,M1,e1,e⟩ |⟨c,n,e1,rfl⟩
  · cases d<;>simp only[reduceCtorEq]at e
    rename_i b;refine eZ k e1 ⟨b,rfl,fun P1 H1 l1 h1=>?_⟩
    cases b with
    |true=>
      rw[xab rfl]at e ⊢;exact⟨P0,H0,P1,Os,env,M1,_,_,k.next l1 h1,e,q.lt (l1.lt k.hk)⟩
    |false=>
      rw[xaf (by decide)]at e ⊢;exact⟨P0,H0,P1,Os,env,M1,_,_,k.next l1 h1,e,q.lt (l1.lt k.hk)⟩
  · exact eZ k e1 q
noncomputable def kJ (i:Nat):S:=fun env M=>match env[i]? with
 |some (.own ds)=>some (.nx (env.set i (.val (.lst ds))),M)
 |_=>none
theorem K5 (h:SB X Wx ss g):SB X Wx ss (ao (kJ i) g):=by
 refine J3 h ?_;rintro D st H ⟨P0,H0,P,Os,env,M,out,M',k,e,q⟩;unfold ao kJ at e;split at e
 ·rename_i e1 M1 ef;split at ef
  ·rename_i ds es;cases ef;obtain⟨P1,Os1,l1,k1⟩:=k.frz es;exact⟨P0,H0,P1,Os1,_,_,_,_,k1,e,q.lt l1⟩
  ·cases ef
 ·rename_i ho;split at e
  ·rename_i es;exact(ho _ _ (by rw[es])).elim
  ·cases e
noncomputable def dI (i:Nat) (f:E):S:=fun env M=>match env[i]? with
 |some (.own ds)=>bY (f env M) fun d M1=>if ds.length<sizeLine then some (.nx (env.set i (.own (ds ++ [d]))),M1) else none
 |_=>none
theorem sS {i:Nat}{x:Str}{e:Expr}{f:E}{p0 p q:Pos}(hN:X.N[i]? =some x)(hv:wG X.env.scope x)(he:SE X Wx .val e f)(hd:(x==("__debug__":Str))=false:=by x_go)(hcd:(x==("__classdict__":Str))=false:=by x_go)
  (hfew:((backTo q (starEach [e] X.env)).all (fun x=> !x.1) && (backToKw q (keywordEach [] X.env)).all (fun x=>x.1.isSome) && decide ([e].length + ([]:List Keyword).length + (if ([]:List Keyword).isEmpty then 0 else 1)<30))=true:=by rfl)
  (hline:(p.endLine==q.line)=true:=by rfl) (hs:starEach [e] X.env=(false,eval e X.env)::starEach [] X.env:=by rfl) (hw:swapsWith (.Call (.Attribute (.Name x p0) "append" p) [e] [] q) none pos.line X.env=pure false:=by rfl):
  SS X Wx (.Expr (.Call (.Attribute (.Name x p0) "append" p) [e] [] q) pos) (dI i f):=by
 refine fP (z6 (Dc xbn xc5 xc6 Il (zW hN hv hd hcd) (pQ he vd hs) rfl hfew hline hs rfl) hw) ?_;rintro D st H ⟨P0,H0,P,Os,env,M,out,M',k,e,q⟩;unfold dI at e;split at e
 ·rename_i ds es;obtain⟨a,vs,o1,o2,o3,o4⟩:=k.slot i _ es;refine⟨.ref a,mL o2,.inl ⟨rfl,vs,.inl (.inl o3)⟩,?_⟩;rcases gJ e with⟨d,M1,e1,e⟩ |⟨c,n,e1,rfl⟩
  ·split at e
   ·rename_i hz;cases e;refine aV k e1 fun P1 v1 H1 l1 h1 i1=>?_;have k1:=k.next l1 h1
    obtain⟨a',vs',o1',o2',o3',o4'⟩:=k1.slot i _ es;have ea:a'=a:=by
     have z:=o2'.symm.trans o2;cases z;rfl
    subst ea;refine⟨a',vs',v1,rfl,rfl,o3',by rw[o4'.len];exact hz,?_⟩;obtain⟨l2,k2⟩:=k1.chg es (mL o1') o3' (aD.append o4' (aD.one i1));exact q _ _ _ _ ((l1.lt k.hk).trans l2) k2
   ·cases e
  ·exact aV k e1 q
 ·cases e
def Wk (K:Fgx)(P1:Pl)(H1:Hp)(J:It)(ds:List D):Prop:=∀P H,Lt P1 H1 P H->(∀k,k<ds.length->J.go k H)/\(∀k,ds.length<=k->k<=ds.length->J.stop k H)/\∀k x H',J.yld k H x H'->k<ds.length->H'=H/\∃d,ds[k]? =some d/\Is K P H d x
noncomputable def IQ (K:Fgx) (mg:Mgx) (Wx:XW) (P0:Pl) (H0:Hp) (P:Pl) (H:Hp) (M':Mm) (R:It->Hp->Prop):ResA->Prop
 |.v ds=>∀P' H' J,LtE P H P' H'->Hk K mg P' H' M'->Wk K P' H' J ds->R J H'
 |.x c n=>Wx P0 H0 M' c n
noncomputable def tI (K:Fgx) (mg:Mgx) (Wx:XW) (fs:EA):TI:=fun st H R=>∃P0 H0 P Os env M r M',Ok K mg P0 H0 P Os H M st env/\fs env M=some (r,M')/\IQ K mg Wx P0 H0 P H M' R r
def SI (X:Cx)(Wx:XW)(tg iter:Expr)(fs:EA):Prop:=PI X tg iter (tI X.K X.mg Wx fs)
theorem zX (h:PI X tg iter t)(w:∀σ H R,t' σ H R->t σ H R):PI X tg iter t':=fun pins s σ H R I hw=>h pins s σ H R I (w σ H R hw)
noncomputable def loopS (i:Nat) (body:S):List D->Env->Mm->OS
  | [],env,M=>some (.nx env,M)
  | d :: ds, env, M => if i < env.length then (match body (env.set i (.val d)) M with
    |some (.nx e,M1)=>loopS i body ds e M1
    |some (.ct e,M1)=>loopS i body ds e M1
    |some (.bk e,M1)=>some (.nx e,M1)
    |some (.rt d,M1)=>some (.rt d,M1)
    |some (.ex c n,M1)=>some (.ex c n,M1)
    |none=>none) else none
noncomputable def dj (i:Nat) (fs:EA) (body:S):S:=fun env M=>match fs env M with
 |some (.v ds,M1)=>loopS i body ds env M1
 |some (.x c n,M1)=>some (.ex c n,M1)
 |none=>none
theorem Qp {K:Fgx}{mg:Mgx}{P0 P1:Pl}{H0 H1:Hp}{Os:List (Option Addr)}{M M':Mm}{st:L2.St}{env:Env}{i:Nat}{b:S}{J:It}{ds:List D}{out:Out}{D:Ends}(k:Ok K mg P0 H0 P1 Os H1 M st env)(wk:Wk K P1 H1 J ds)
  (h:loopS i b ds env M=some (out,M')) (q:Post K mg Wx P0 H0 P1 H1 M' D out):
  ∃W:Nat->Nat->L2.St->Hp->Prop,(∃m,W 0 m st H1)/\∀j m σ H,W j m σ H->
   (J.stop j H/\D.nx σ H)\/(J.go j H/\∃Nn:L2.St->Hp->Prop,(∀σ' H',Nn σ' H'->∃m',m'<m/\W (j + 1) m' σ' H')/\∀x H',J.yld j H x H'->Cj i x σ H' fun σ2 H2=>tS K mg Wx b {D with nx:=Nn,ct:=Nn,bk:=D.nx} σ2 H2):=by
 refine⟨fun j m σ H=>m=ds.length - j/\j<=ds.length/\∃P Os' M1 env',Lt P1 H1 P H/\Ok K mg P0 H0 P Os' H M1 σ env'/\loopS i b (ds.drop j) env' M1=some (out,M'),⟨ds.length,by simp,xcF _,P1,Os,M,env,Lt.refl _ _,k,h⟩,?_⟩;rintro j m σ H ⟨rfl,hj,P,Os',M1,env',lt,k',h'⟩;obtain⟨w1,w2,w3⟩:=wk P H lt
 by_cases hlt:j<ds.length
 ·refine .inr ⟨w1 j hlt,fun σ' H'=>∃P Os' M1 env',Lt P1 H1 P H'/\Ok K mg P0 H0 P Os' H' M1 σ' env'/\loopS i b (ds.drop (j + 1)) env' M1=some (out,M'),fun σ' H' z=>⟨ds.length - (j + 1),by omega,rfl,hlt,z⟩,fun x H' y=>?_⟩;obtain⟨e3,d,ed,iv⟩:=w3 j x H' y hlt;subst e3;have ed':ds.drop j=d::ds.drop (j + 1):=by
   rw[xbE hlt];rw[xae hlt]at ed;rw[xay ed]
  rw[ed']at h';simp only[loopS]at h';split at h'
  ·rename_i hi;have k2:=k'.asg hi iv;split at h'
   ·rename_i e M2 eb;exact⟨P0,H0,P,_,_,M1,_,_,k2,eb,fun P' Os2 H2 st2 l2 k3=>⟨P',Os2,_,e,lt.trans l2,k3,h'⟩⟩
   ·rename_i e M2 eb;exact⟨P0,H0,P,_,_,M1,_,_,k2,eb,fun P' Os2 H2 st2 l2 k3=>⟨P',Os2,_,e,lt.trans l2,k3,h'⟩⟩
   ·rename_i e M2 eb;cases h';exact⟨P0,H0,P,_,_,M1,_,_,k2,eb,fun P' Os2 H2 st2 l2 k3=>q P' Os2 H2 st2 (lt.trans l2) k3⟩
   ·rename_i e M2 eb;cases h';exact⟨P0,H0,P,_,_,M1,_,_,k2,eb,q⟩
   ·rename_i c n M2 eb;cases h';exact⟨P0,H0,P,_,_,M1,_,_,k2,eb,q⟩
   ·cases h'
  ·cases h'
 ·have ej:j=ds.length:=by omega
  subst ej;rw[xck]at h';cases h';exact .inl ⟨w2 _ (xai _) (xai _),q P Os' H σ lt k'⟩
theorem rB {i:Nat}{x:Str}{p:Pos}{iter:Expr}{body:List Stmt}{fs:EA}{b:S}(hp:PassesOwn (model X.prog X.w) X.A X.env X.xe)(hc:X.calm=true)(hN:X.N.Nodup)(hi:X.N[i]? =some x)(hx:Loc X.env.scope x)(hI:SI X Wx (.Name x p) iter fs)(hb:SB X Wx body b)
  (hf:X.fn x=true\/X.env.scope.names.lookup x=some .local:=by first |exact .inl rfl |exact .inr rfl) (hs:∀x,foldedSetIterable iter X.env x=pure x:=by intro _;rfl):SS X Wx (.For (.Name x p) iter body [] pos) (dj i fs b):=by
 refine fP (Rp hp hc hI (Rj hN hi hx hf) hb hs) ?_;rintro D st H ⟨P0,H0,P,Os,env,M,out,M',k,e,q⟩;unfold dj at e;split at e
 ·rename_i ds M1 ef;exact⟨P0,H0,P,Os,env,M,_,_,k,ef,fun P1 H1 J l1 h1 wk=>Qp (k.next l1 h1) wk e (q.lt (l1.lt k.hk))⟩
 ·rename_i c n M1 ef;cases e;exact⟨P0,H0,P,Os,env,M,_,_,k,ef,q⟩
 ·cases e
noncomputable def j_ (f:E):EA:=fun env M=>match f env M with
 |some (.v (.lst ds),M1)=>some (.v ds,M1)
 |some (.x c n,M1)=>some (.x c n,M1)
 |_=>none
theorem Ld {tg e:Expr}{f:E}(h:SE X Wx .val e f):SI X Wx tg e (j_ f):=by
 refine zX (Rk h) ?_;rintro st H R ⟨P0,H0,P,Os,env,M,r,M',k,e,q⟩;unfold j_ at e;split at e
 ·rename_i ds M1 ef;cases e;refine⟨P0,H0,P,Os,env,M,_,_,k,ef,fun P1 v1 H1 l1 h1 i1=>?_⟩;obtain⟨a,vs,rfl,ra,is⟩:=i1;refine⟨a,rfl,⟨vs,ra.imp (·.2) id⟩,q P1 H1 _ l1 h1 fun P2 H2 l2=>?_⟩;have ra2:=l2.rda ra;have is2:=aD.lt l2 is;have sq:bI X.K H2 a vs:=ra2.imp (·.2) id;refine⟨fun j hj=>?_,fun j h1 h2=>⟨vs,sq,by rw[is2.len];exact h1⟩,fun j x H' y hj=>⟨y.1,?_⟩⟩
  ·obtain⟨v,ev,_⟩:=aD.get is2 (xae hj);exact⟨vs,v,sq,ev⟩
  ·obtain⟨v,ev,iv⟩:=aD.get is2 (xae hj);have:=y.2 vs sq;rw[ev]at this;cases this;exact⟨_,xae hj,iv⟩
 ·rename_i c n M1 ef;cases e;exact⟨P0,H0,P,Os,env,M,_,_,k,ef,q⟩
 ·cases e
end
abbrev G:=List D->Mm->O
noncomputable def rA (K:Fgx) (mg:Mgx) (n:Nat) (g:G):Sp:=fun vs H Q _=>vs.length=n/\∃P M ds d M',Hk K mg P H M/\aD K P H ds vs/\g ds M=some (.v d,M')/\∀P' v H',LtE P H P' H'->Hk K mg P' H' M'->Is K P' H' d v->Q v H'
noncomputable def b_ (o:OS):O:=match o with
 |some (.rt d,M)=>some (.v d,M)
 |some (.nx _,M)=>some (.v .non,M)
 |some (.ex c n,M)=>some (.x c n,M)
 |_=>none
noncomputable def bJ (n:Nat) (b:S):G:=fun ds M=>b_ (b (ds.map .val ++ List.replicate (n - ds.length) .un) M)
theorem Lp {K:Fgx}{mg:Mgx}{P:Pl}{H:Hp}{M:Mm}{N:List Str}{ds:List D}{vs:List V}(hk:Hk K mg P H M)(hl:vs.length<=N.length)(h:aD K P H ds vs):
  Ok K mg P H P (List.replicate N.length none) H M (L2.start N vs) (ds.map .val ++ List.replicate (N.length - ds.length) .un):=by
 have hd:=h.len;refine⟨hk,LtE.refl P H,hk.here,fun i s e=>?_,fun a z=>?_,fun i j a e1 _=>?_,by simp;omega,by simp[L2.start];omega⟩
 ·have e0:((List.replicate N.length (none:Option Addr))[i]?).join=none:=by
   rw[xaU]
   split<;>rfl
  rw[e0]
  by_cases hi:i<ds.length
  ·rw[xax (by simpa using hi),xan,xae hi]at e;simp only[xaD,xcS]at e;subst e;obtain⟨v,ev,p⟩:=h.get (xae hi);refine⟨v,?_,p⟩;unfold L2.start;rw[xax (by rw[xap];omega),xan,ev];rfl
  ·rw[xaH (by simpa using hi),xaU]at e;split at e
   ·cases e;exact True.intro
   ·cases e
 ·exact absurd (xc7 z) (by simp)
 ·rw[xaU]at e1;split at e1<;>cases e1
structure FunD (K:Fgx)(x qual:Str)(st:Stmt)(f:Addr)(fd:FuncData):Prop where
 ex:∃(oc:Value) (od:Option Addr) (dV kV doc pm:Value) (an:Option Addr) (cdv ct:Value) (osl:Array (Option Value)),
  fd=PySem.W.fnOf x qual (cH st) (bO st) (aL st) dV kV doc pm an cdv ct/\K.lookup f=some ⟨oc,od,.func fd,osl⟩/\PySem.W.codeIn K cdv qual=true
 kp:PySem.W.keepIn K (.ref f)=true
theorem wN {K:Fgx}{x qual:Str}{st:Stmt}{f:Addr}{oc:Value}{od an:Option Addr}{osl:Array (Option Value)}{dV kV doc pm cdv ct:Value}(l:K.lookup f=some ⟨oc,od,.func (PySem.W.fnOf x qual (cH st) (bO st) (aL st) dV kV doc pm an cdv ct),osl⟩)
  (c:PySem.W.codeIn K cdv qual=true) (k:PySem.W.keepIn K (.ref f)=true):FunD K x qual st f (PySem.W.fnOf x qual (cH st) (bO st) (aL st) dV kV doc pm an cdv ct):=⟨⟨oc,od,dV,kV,doc,pm,an,cdv,ct,osl,rfl,l,c⟩,k⟩
section
variable {P:Program}{w:World}{K:Fgx}{mg:Mgx}{base:Heap}{k:Nat}{x qual:Str}{st:Stmt}{f:Addr}{fd:FuncData}{N ps:List Str}{b:S}
def W0:XW:=fun _ _ _ _ _=>False
abbrev yL (P:Program)(w:World)(K:Fgx)(mg:Mgx)(base:Heap)(N:List Str)(qual:Str)(st:Stmt)(f:Addr)(cdv:Value)(A:Around)(outer:List PySem.Env)(s:Shared)(H:Hp)(E:XK):Cx:=(cV gn P w K mg base N qual (aL st) f cdv A outer s H E).nox
theorem wM (F:FunD K x qual st f fd)(S:FnScope N ps (aL st))(hp:ps.length<=N.length)
  (hb:∀cdv A outer s H E,Room k (A.deeper (envOfC qual (aL st) s.heap.objs.size f cdv))->SB (yL P w K mg base N qual st f cdv A outer s H E) W0 (bO st) b):FnOk P w K mg base gn (k + 1) f fd ps (rA K mg ps.length (bJ N.length b)):=by
 obtain⟨oc,od,dV,kV,doc,pm,an,cdv,ct,osl,rfl,lk,hcd⟩:=F.ex;refine O1 lk hcd S (fun vs H Q E h=>h.1) fun A outer s H vs Q E hr h=>?_;obtain⟨hl,Pl,M,ds,d,M',hk,is,e,q⟩:=h;refine⟨_,eF.nox (hb cdv A outer s H E hr),?_⟩;unfold bJ b_ at e;have st0:=Lp (N:=N) hk (by omega) is;split at e
 ·rename_i d' M2 eb;cases e;exact⟨Pl,H,Pl,_,_,M,_,_,st0,eb,fun P' v H' l h i=>q P' v H' l h i⟩
 ·rename_i env M2 eb;cases e;exact⟨Pl,H,Pl,_,_,M,_,_,st0,eb,fun P' Os' H' st' _ k'=>q P' .non H' k'.base k'.hk rfl⟩
 ·rename_i c n M2 eb;cases e
 ·cases e
def bf (P:Program)(w:World)(K:Fgx)(mg:Mgx)(base:Heap)(k:Nat)(f:Str)(n:Nat)(g:G):Prop:=
 ∃fa fd ps ds dvs sp,mg f=some (.ref fa)/\PySem.W.keepIn K (.ref fa)=true/\FnOk P w K mg base gn k fa fd ps sp/\Binds K fd ps ds/\Vals dvs ds/\∀vs H Q E,rA K mg n g vs H Q E->sp (vs ++ dvs) H Q E
theorem Wf (F:FunD K x qual st f fd)(S:FnScope N ps (aL st))(hp:ps.length<=N.length)(hm:mg x=some (.ref f))(hd:Binds K fd ps [])
  (hb:∀cdv A outer s H E,Room k (A.deeper (envOfC qual (aL st) s.heap.objs.size f cdv))->SB (yL P w K mg base N qual st f cdv A outer s H E) W0 (bO st) b):bf P w K mg base (k + 1) x ps.length (bJ N.length b):=
 ⟨f,fd,ps,[],[],_,hm,F.kp,wM F S hp hb,hd,.nil,fun vs H Q E h=>by rw[xaR];exact h⟩
theorem bf.mono (a:bf P w K mg base j x n g)(h:j<=k):bf P w K mg base k x n g:=by
 obtain⟨fa,fd,ps,ds,dvs,sp,h1,h2,h3,h4⟩:=a;exact⟨fa,fd,ps,ds,dvs,sp,h1,h2,h3.mono h,h4⟩
end
section
variable {X:Cx}{Wx:XW}{m:Mode}
noncomputable def bV (g:G) (fs:EA):E:=fun env M=>cQ (fs env M) fun ds M1=>match g ds M1 with
 |some (.v d,M2)=>some (.v d,M2)
 |_=>none
theorem cP.len {K:Fgx}{P:Pl}{H:Hp}:∀{ds:List D} {vs:List V},cP K P H m ds vs->vs.length=ds.length
  | [],_,h=>by rw[show _=[] from h];rfl
  |d::ds,_,h=>by
    obtain⟨v,r,e,_,q⟩:=h;subst e
    simp[cP.len q]
def rJ (n:Nat)(fs:EA):Prop:=∀env M ds M',fs env M=some (.v ds,M')->ds.length=n
theorem cnt_nil:rJ 0 au:=fun env M ds M' e=>by cases e;rfl
theorem cnt_cons (h:rJ n fs):rJ (n + 1) (aA f fs):=fun env M ds M' e=>by
 unfold aA at e;split at e
 ·split at e
  ·rename_i ef;cases e;rw[xao,h _ _ _ _ ef]
  ·cases e
  ·cases e
 ·cases e
 ·cases e
theorem cu {k n:Nat}{f:Str}{g:G}{e:Expr}{es:List Expr}{fs:EA}{p pos:Pos}(a:bf X.prog X.w X.K X.mg X.base k f n g)(hr:Room k X.A)(hg:Gl X f)(ha:SA X Wx .val (e::es) fs)(hn:rJ n fs)(hdb:(f==("__debug__":Str))=false:=by x_go)
  (he:starEach (e::es) X.env=(false,eval e X.env)::starEach es X.env:=by rfl) (hpl:(backTo pos (starEach es X.env)).any (·.1)=false:=by rfl):SE X Wx m (.Call (.Name f p) (e::es) [] pos) (bV g fs):=by
 obtain⟨fa,fd,ps,ds,dvs,sp,hm,hk,F,hb,hv,himp⟩:=a;refine cj (ZP F hr hg hm hk hb hv JV ha hdb he hpl) ?_;rintro st H Q ⟨P0,H0,P,Os,env,M,r,M',k,e,q⟩;unfold bV at e;rcases o_ e with⟨ds,M1,e1,e⟩ |⟨c,n,e1,rfl⟩
 ·split at e
  ·rename_i d M2 eg;cases e;exact⟨P0,H0,P,Os,env,M,_,_,k,e1,fun P1 vs H1 l1 h1 i1=>himp _ _ _ _ ⟨by rw[i1.len];exact hn _ _ _ _ e1,P1,M1,ds,d,_,h1,i1.iss,eg,fun P2 v H2 l2 h2 i2=>q P2 v H2 (l1.trans l2) h2 (cG.of h2 i2)⟩⟩
  ·cases e
 ·exact⟨P0,H0,P,Os,env,M,_,_,k,e1,q⟩
end
def yq (i j:Int):Prop:=nR i j\/(i.natAbs.log2<10000/\j.natAbs.log2<10000)
theorem Nj (h:i.natAbs.log2<10000):Builtin.Int.intBits i<=10001:=by
 unfold Builtin.Int.intBits
 split<;>omega
theorem yq.ok (h:yq i j):IntMulOk i j:=by
 rcases h with h |⟨h1,h2⟩
 ·exact h.ok
 ·exact mulOk_of_bits (Nj h1) (Nj h2) (by decide)
theorem dX:bQ X (binaryOp .Mult) (rI yq fun i j=>.int (i * j)):=C_ fun _ _ _ _ _ _ _ hc q=>mul_int q hc.ok
section
variable {X:Cx}{pins:Pnx}{σ:L2.St}{H:Hp}{s:Shared}{K:Fgx}
noncomputable def RD (K:Fgx):R2:=fun x y H Q=>∃l b xs zs,x=.ref l/\y=.ref b/\bI K H l xs/\bI K H b zs/\xs.length + zs.length<=sizeLine/\∀p,H p=none->Q (.ref p) (upd H p (.lst (xs ++ zs)))
theorem Ra:bQ X (binaryOp .Add) (RD X.K):=by
 intro pins s σ H x y v u Q I rx ry h;obtain⟨l,b,xs,zs,rfl,rfl,hH,hB,hz,q⟩:=h;cases rx;cases ry;obtain⟨z,its,r,⟨cls,dd,data,sl⟩,ho,hc,n,hd⟩:=sql I hH;obtain⟨z2,its2,r2,⟨cls2,dd2,data2,sl2⟩,ho2,hc2,n2,hd2⟩:=sql I hB;simp only at hc hd hc2 hd2;subst hc hd hc2 hd2;have hl:=r.length;have hl2:=r2.length;refine concat_meets ⟨_,ho,rfl⟩ ⟨_,ho2,rfl⟩ noFill_list_add seq_list_add F.slot_list_add F.entry_list_add (F.args_list_add_2 _ _) (list_addW l b its.toArray its2.toArray n n2 dd dd2 sl sl2 (by rw[xah,xah];omega)) ⟨ho,ho2,?_⟩;have ea:its.toArray ++ its2.toArray=(its ++ its2).toArray:=by simp
 rw[ea];exact⟨.ref _,_,I.lnew (t':=s.toks) (r.append r2) (by rw[xak];omega),rfl,q _ I.fresh⟩
theorem Q0 {P:Pl}{H:Hp}{ds:List D}{vs:List V}{Q:VK}(hn:∀p,H p=none->¬ P.bd p)(h:aD K P H ds vs)(q:∀u H',Same H H'->Is K P H' (.lst ds) u->Q u H'):∀p,H p=none->Q (.ref p) (upd H p (.lst vs)):=fun p hp=>by
 have s:=vU (o:=.lst vs) hp;exact q _ _ s ⟨p,vs,rfl,.inl ⟨hn p hp,.inl bU⟩,aD.lt ⟨xai _,fun _ _=>rfl,fun _ z=>.inl z,fun a o e _=>s a o e,fun a z=>s.free z⟩ h⟩
theorem X7 {P:Pl}{H:Hp}{ds:List D}{vs:List V}{Q:VK}(h:aD K P H ds vs)(q:∀u H',Same H H'->Is K P H' (.tup ds) u->Q u H'):∀p,H p=none->Q (.ref p) (upd H p (.tup vs)):=fun p hp=>by
 have s:=vU (o:=.tup vs) hp;exact q _ _ s ⟨p,vs,rfl,.inl (.inl bU),aD.lt ⟨xai _,fun _ _=>rfl,fun _ z=>.inl z,fun a o e _=>s a o e,fun a z=>s.free z⟩ h⟩
noncomputable def aR:D->D->Option D
 |.int i,.int j=>some (.int (i + j))
 |.str i,.str j=>if i.length + j.length<=sizeLine then some (.str (i ++ j)) else none
 |.lst xs,.lst ys=>if xs.length + ys.length<=sizeLine then some (.lst (xs ++ ys)) else none
 |_,_=>none
noncomputable def vf (K:Fgx):R2:=fun x y H Q=>gQ (fun i j=>.int (i + j)) x y H Q\/(∃i j,x=.str i/\y=.str j/\i.length + j.length<=sizeLine/\Q (.str (i ++ j)) H)\/RD K x y H Q
theorem cI:bQ X (binaryOp .Add) (vf X.K):=Zi.or (Zj.or Ra)
theorem cL:gZ K (vf K) aR:=fun P H d e z v w Q h h1 h2 hn q=>by
 unfold aR at h;split at h
 ·cases h;cases h1;cases h2;exact .inl ⟨_,_,rfl,rfl,q _ H (Same.refl H) rfl⟩
 ·split at h
  ·rename_i hl;cases h;cases h1;cases h2;exact .inr (.inl ⟨_,_,rfl,rfl,hl,q _ H (Same.refl H) rfl⟩)
  ·cases h
 ·split at h
  ·rename_i hl;cases h;obtain⟨a,vs,rfl,r1,s1⟩:=h1;obtain⟨b,ws,rfl,r2,s2⟩:=h2;exact .inr (.inr ⟨a,b,vs,ws,rfl,rfl,r1,r2,by rw[s1.len,s2.len];exact hl,Q0 hn (s1.append s2) q⟩)
  ·cases h
 ·cases h
noncomputable def oI (g:Int->Int->Option D):D->D->Option D
 |.int i,.int j=>g i j
 |_,_=>none
theorem zP (h:oI g d e=some z)(h1:bL K P H d v)(h2:bL K P H e w):∃i j,v=.int i/\w=.int j/\g i j=some z:=by
 unfold oI at h;split at h
 ·cases h1;cases h2;exact⟨_,_,rfl,rfl,h⟩
 ·cases h
def cT:=oI fun i j=>some (.int (i - j))
theorem lM:gZ K (gQ fun i j=>.int (i - j)) cT:=fun P H d e z v w Q h h1 h2 _ q=>by
 obtain⟨i,j,rfl,rfl,h⟩:=zP h h1 h2;cases h;exact⟨i,j,rfl,rfl,q _ H (Same.refl H) rfl⟩
noncomputable def bF:=oI fun i j=>if i.natAbs<18446744073709551616\/j.natAbs<18446744073709551616\/(i.natAbs.log2<10000/\j.natAbs.log2<10000) then some (.int (i * j)) else none
theorem dY:gZ K (rI yq fun i j=>.int (i * j)) bF:=fun P H d e z v w Q h h1 h2 _ q=>by
 obtain⟨i,j,rfl,rfl,h⟩:=zP h h1 h2;split at h
 ·rename_i hg;cases h;exact⟨i,j,rfl,rfl,by unfold yq nR;rw[show(2:Int) ^ 64=18446744073709551616 from rfl];exact hg.elim (fun z=>.inl (.inl ⟨by omega,by omega⟩)) (fun z=>z.elim (fun z=>.inl (.inr ⟨by omega,by omega⟩)) .inr),q _ H (Same.refl H) rfl⟩
 ·cases h
noncomputable def gM:=oI fun i j=>if 0<j/\j.natAbs<1073741824 then some (.int (i / j)) else none
theorem lK:gZ K (rI yp fun i j=>.int (i / j)) gM:=fun P H d e z v w Q h h1 h2 _ q=>by
 obtain⟨i,j,rfl,rfl,h⟩:=zP h h1 h2;split at h
 ·rename_i hg;cases h;exact⟨i,j,rfl,rfl,⟨hg.1,by omega⟩,q _ H (Same.refl H) rfl⟩
 ·cases h
def oMod:=oI fun i j=>if 0<j then some (.int (i % j)) else none
theorem cM:gZ K (rI (fun _ j=>0<j) fun i j=>.int (i % j)) oMod:=fun P H d e z v w Q h h1 h2 _ q=>by
 obtain⟨i,j,rfl,rfl,h⟩:=zP h h1 h2;split at h
 ·rename_i hg;cases h;exact⟨i,j,rfl,rfl,hg,q _ H (Same.refl H) rfl⟩
 ·cases h
noncomputable def cg:=oI fun i j=>if 0<=j/\j.natAbs<=1000000/\i.natAbs<18446744073709551616 then some (.int (i ^ j.toNat)) else none
theorem gP:gZ K (rI sZ fun i j=>.int (i ^ j.toNat)) cg:=fun P H d e z v w Q h h1 h2 _ q=>by
 obtain⟨i,j,rfl,rfl,h⟩:=zP h h1 h2;split at h
 ·rename_i hg;cases h;exact⟨i,j,rfl,rfl,by unfold sZ;rw[show(2:Nat) ^ 64=18446744073709551616 from rfl];exact⟨hg.1,by omega,hg.2.2⟩,q _ H (Same.refl H) rfl⟩
 ·cases h
def aG (c:Cp)(a b:D):Option D:=(bZ c a b).map .bl
theorem fQ:gZ K (Dg K c) (aG c):=fun P H d e z v w Q h h1 h2 _ q=>by
 unfold aG at h;rw[xac]at h;obtain⟨b,h,rfl⟩:=h;exact N8 h h1 h2 (q _ H (Same.refl H) rfl)
noncomputable def bG:D->D->Option D
 |.lst ds,.int i=>bR ds i
 |.tup ds,.int i=>bR ds i
 |.str z,.int i=>if z.length<=sizeLine then(bR z.cps.toList i).map fun c=>.str ⟨#[c]⟩ else none
 |_,_=>none
noncomputable def Kg (K:Fgx):R2:=fun x y H Q=>vg K x y H Q\/vm K x y H Q\/vh x y H Q
theorem gb:mV X (Kg X.K):=W5.or (W7.or W6)
theorem Nb (h:bR ds i=some d)(q:aD K P H ds vs):∃u,bR vs i=some u/\Is K P H d u:=by
 unfold bR at h ⊢;rw[q.len]
 cases e:pJ ds.length i with
 |none=>rw[e]at h;cases h
 |some j=>rw[e]at h;exact q.get h
theorem gh:gZ K (Kg K) bG:=fun P H d e z v w Q h h1 h2 _ q=>by
 unfold bG at h;split at h
 ·obtain⟨a,vs,rfl,r,s⟩:=h1;cases h2;obtain⟨u,e,p⟩:=Nb h s;exact .inl ⟨a,vs,_,u,rfl,rfl,r,e,q _ H (Same.refl H) p⟩
 ·obtain⟨a,vs,rfl,r,s⟩:=h1;cases h2;obtain⟨u,e,p⟩:=Nb h s;exact .inr (.inl ⟨a,vs,_,u,rfl,rfl,r,e,q _ H (Same.refl H) p⟩)
 ·split at h
  ·rename_i hl;rw[xac]at h;obtain⟨c,h,e⟩:=h;cases e;cases h1;cases h2;exact .inr (.inr ⟨_,_,c,rfl,rfl,hl,h,q _ H (Same.refl H) rfl⟩)
  ·cases h
 ·cases h
noncomputable def dF:List D->Option D
 | [.lst ds]=>some (.int ds.length)
 | [.tup ds]=>some (.int ds.length)
 | [.str z]=>if z.length<=sizeLine then some (.int z.length) else none
 |_=>none
def Aa (K:Fgx):List V->Hp->VK->Prop:=fun xs H Q=>(∃p ys,xs=[.ref p]/\(bI K H p ys\/dZ K H p ys)/\Q (.int ys.length) H)\/∃z,xs=[.str z]/\z.length<=sizeLine/\Q (.int z.length) H
theorem wI:dN X (.builtin "len") (Aa X.K):=Vv.or Vw
theorem xH:mX K (Aa K) dF:=fun P H ds z vs Q h i _ q=>by
 unfold dF at h;split at h
 ·obtain⟨v,ws,rfl,p,rfl⟩:=i;cases h;obtain⟨a,us,rfl,r,s⟩:=p;exact .inl ⟨a,us,rfl,.inl r,q _ H (Same.refl H) (by rw[s.len];rfl)⟩
 ·obtain⟨v,ws,rfl,p,rfl⟩:=i;cases h;obtain⟨a,us,rfl,r,s⟩:=p;exact .inl ⟨a,us,rfl,.inr r,q _ H (Same.refl H) (by rw[s.len];rfl)⟩
 ·split at h
  ·rename_i hl;obtain⟨v,ws,rfl,p,rfl⟩:=i;cases h;cases p;exact .inr ⟨_,rfl,hl,q _ H (Same.refl H) rfl⟩
  ·cases h
 ·cases h
noncomputable def fG:List D->Option D
 | [.int i,.int j]=>some (.int (if j<i then j else i))
 |_=>none
noncomputable def gq:List D->Option D
 | [.int i,.int j]=>some (.int (if j > i then j else i))
 |_=>none
theorem z8:mX K (fun xs H Q=>∃i j,xs=[.int i,.int j]/\Q (.int (if j<i then j else i)) H) fG:=fun P H ds z vs Q h i _ q=>by
 unfold fG at h;split at h
 ·obtain⟨v,ws,rfl,p,v',ws',rfl,p',rfl⟩:=i;cases h;cases p;cases p';exact⟨_,_,rfl,q _ H (Same.refl H) rfl⟩
 ·cases h
theorem Df:mX K (fun xs H Q=>∃i j,xs=[.int i,.int j]/\Q (.int (if j > i then j else i)) H) gq:=fun P H ds z vs Q h i _ q=>by
 unfold gq at h;split at h
 ·obtain⟨v,ws,rfl,p,v',ws',rfl,p',rfl⟩:=i;cases h;cases p;cases p';exact⟨_,_,rfl,q _ H (Same.refl H) rfl⟩
 ·cases h
end
section
variable {X:Cx}{Wx:XW}{m:Mode}
noncomputable def Bd:D->String
 |.non=>"NoneType"
 |.bl _=>"bool"
 |.int _=>"int"
 |.str _=>"str"
 |.tup _=>"tuple"
 |.lst _=>"list"
 |.ref _=>""
theorem Vt:dN X (.builtin "isinstance") (fun xs H Q=>∃(x:V) (T:String) (d:D) (P:Pl) (b:Bool),xs=[x,.ty T]/\bL X.K P H d x/\Bd d≠""/\PySem.W.kitOne X.K (.type (Bd d)) (.type T)=some b/\Q (.bl b) H):=by
  intro pins s σ H xs us Q I r h;obtain⟨x,T,d,A,b,rfl,i,ne,e,q⟩:=h;obtain⟨u,w',rfl,rx,rT⟩:=vals2 r;cases rT;have fin:∀tk,EP X pins σ Q (.bool b) {s with toks:=tk}:=fun tk=>⟨.bl b,H,I.tok _,rfl,q⟩
  cases d with
  |non=>have hv:x=.non:=i;subst hv;exact Cz I rx (TyOf.non) e fin
  |bl y=>have hv:x=.bl y:=i;subst hv;exact Cz I rx (TyOf.bl y) e fin
  |int y=>have hv:x=.int y:=i;subst hv;exact Cz I rx (TyOf.int y) e fin
  |str y=>have hv:x=.str y:=i;subst hv;exact Cz I rx (TyOf.str y) e fin
  |ref n=>exact absurd rfl ne
  |tup ds=>
    obtain⟨a,vs,rfl,t,_⟩:=i;cases rx;obtain⟨its,_,p,_⟩:=I.tuple t;obtain⟨o,h1,h2,_⟩:=p;exact xaK xdA I.kIn ⟨o,h1,h2⟩ e (fun z=>nomatch z) fin
  |lst ds=>
    obtain⟨a,vs,rfl,t,_⟩:=i;cases rx;obtain⟨_,its,_,o,h1,h2,_⟩:=sql I t;exact xaK xcP I.kIn ⟨o,h1,h2⟩ e (fun z=>nomatch z) fin
theorem zaV {K:Fgx}{P:Pl}{H:Hp}{lo:Int}{n:Nat}:Wk K P H (Bl lo n) ((List.range n).map fun(k:Nat)=>.int (lo + k)):=fun P' H' l=>by
 rw[xap,xcg];refine⟨fun k hk=>hk,fun k h1 _=>h1,fun k x H2 y hk=>⟨y.1,.int (lo + k),?_,y.2⟩⟩;rw[xan,xdr hk];rfl
noncomputable def ni (fs:EA):EA:=fun env M=>match fs env M with
 |some (.v [.int j],M1)=>if -1000000000<=j/\j<=1000000000 then some (.v ((List.range j.toNat).map fun(k:Nat)=>.int (0 + k)),M1) else none
 |some (.x c n,M1)=>some (.x c n,M1)
 |_=>none
theorem Az {tg a:Expr}{fs:EA}{p pos:Pos}(hg:Gl X "range")(hm:X.mg "range"=none)(ha:SA X Wx .val [a] fs)(hs:starEach [a] X.env=[(false,eval a X.env)]:=by rfl):SI X Wx tg (.Call (.Name "range" p) [a] [] pos) (ni fs):=by
 refine zX (zaS hg hm ha hs) ?_;rintro st H R ⟨P0,H0,P,Os,env,M,r,M',k,e,q⟩;unfold ni at e;split at e
 ·rename_i j M1 ef;split at e
  ·rename_i hj;cases e;refine⟨P0,H0,P,Os,env,M,_,_,k,ef,fun P1 vs H1 l1 h1 i1=>?_⟩;obtain⟨v,ws,rfl,p,rfl⟩:=i1;exact⟨j,by rw[show v=.int j from p],by omega,by omega,q P1 H1 _ l1 h1 zaV⟩
  ·cases e
 ·rename_i c n M1 ef;cases e;exact⟨P0,H0,P,Os,env,M,_,_,k,ef,q⟩
 ·cases e
def zR:Env->Mm->Option (Option Int×Mm):=fun _ M=>some (none,M)
noncomputable def xu (f:E):Env->Mm->Option (Option Int×Mm):=fun env M=>match f env M with
 |some (.v (.int i),M1)=>some (some i,M1)
 |_=>none
noncomputable def tP (K:Fgx) (mg:Mgx) (f:Env->Mm->Option (Option Int×Mm)):TO:=fun st H Q=>∃P0 H0 P Os env M i M',Ok K mg P0 H0 P Os H M st env/\f env M=some (i,M')/\∀P' H',LtE P H P' H'->Hk K mg P' H' M'->Q i H'
def Bp (X:Cx)(e:Option Expr)(f:Env->Mm->Option (Option Int×Mm)):Prop:=PO X e (tP X.K X.mg f)
theorem Ro (h:PO X e t)(w:∀σ H Q,t' σ H Q->t σ H Q):PO X e t':=fun pins s σ H Q I hw=>h pins s σ H Q I (w σ H Q hw)
theorem Lh:Bp X none zR:=by
 refine Ro zbX ?_;rintro st H Q ⟨P0,H0,P,Os,env,M,i,M',k,e,q⟩;cases e;exact q P H (LtE.refl P H) k.hk
theorem Lg {e:Expr}{f:E}(h:SE X Wx .val e f):Bp X (some e) (xu f):=by
 refine Ro (zbF h) ?_;rintro st H Q ⟨P0,H0,P,Os,env,M,i,M',k,e,q⟩;unfold xu at e;split at e
 ·rename_i j M1 ef;cases e;exact⟨P0,H0,P,Os,env,M,_,_,k,ef,fun P1 v H1 l1 h1 i1=>⟨j,i1,q P1 H1 l1 h1⟩⟩
 ·cases e
noncomputable def dU {α:Type} (xs:List α) (lo hi:Option Int):List α:=(xs.drop (HT.dJ xs.length 0 lo)).take (HT.dJ xs.length xs.length hi - HT.dJ xs.length 0 lo)
theorem V4 {K:Fgx}{P:Pl}{H:Hp}{ds:List D}{vs:List V}{lo hi:Option Int}(q:aD K P H ds vs):aD K P H (dU ds lo hi) (i_ vs lo hi):=by
 unfold dU i_;rw[q.len];exact(q.drop _).take _
noncomputable def xX (d:D) (lo hi:Option Int):Option D:=match d with
 |.lst ds=>some (.lst (dU ds lo hi))
 |.str z=>if z.length<=sizeLine then some (.str (Txt.slice z lo hi)) else none
 |_=>none
noncomputable def xU (f:E) (l h:Env->Mm->Option (Option Int×Mm)):E:=fun env M=>bnd (f env M) fun d M1=>match l env M1 with
  | some (lo, M2) => (match h env M2 with
    |some (hi,M3)=>(xX (vw M3 d) lo hi).map fun z=>(.v z,M3)
    |none=>none)
  |none=>none
theorem La {e:Expr}{lo hi:Option Expr}{p2 pos:Pos}{f:E}{l h:Env->Mm->Option (Option Int×Mm)}(he:SE X Wx .bor e f)(hl:Bp X lo l)(hh:Bp X hi h):SE X Wx m (.Subscript e (.Slice lo hi none p2) pos) (xU f l h):=by
 refine cj (zbd (zbz.or zcF) he hl hh) ?_;rintro st H Q ⟨P0,H0,P,Os,env,M,r,M',k,e,q⟩;unfold xU at e;rcases cB e with⟨d,M1,e1,e⟩ |⟨c,n,e1,rfl⟩
 ·split at e
  ·rename_i lo' M2 el;split at e
   ·rename_i hi' M3 eh;rw[xac]at e;obtain⟨z,ez,e⟩:=e;cases e;refine aV k e1 fun P1 v1 H1 l1 h1 i1=>⟨P0,H0,P1,Os,env,M1,_,_,k.next l1 h1,el,fun P2 H2 l2 h2=>⟨P0,H0,P2,Os,env,M2,_,_,(k.next l1 h1).next l2 h2,eh,fun P3 H3 l3 h3=>?_⟩⟩
    have i3:=cF.vw h3 (cF.lt l3 h2 (cF.lt l2 h1 i1));have fin:∀u H',Same H3 H'->Is X.K P3 H' z u->Q u H':=fun u H' s i=>q P3 u H' (l1.trans (l2.trans (l3.trans (LtE.same s)))) (h3.same s) (cG.of (h3.same s) i);generalize vw M' d=d' at i3 ez;unfold xX at ez;split at ez
    ·cases ez;obtain⟨a,vs,rfl,r,s⟩:=i3;exact .inl ⟨a,vs,rfl,r,Q0 h3.new (V4 s) fin⟩
    ·split at ez
     ·rename_i hz;cases ez;cases i3;exact .inr ⟨_,rfl,hz,fin _ _ (Same.refl _) rfl⟩
     ·cases ez
    ·cases ez
   ·cases e
  ·cases e
 ·exact aV k e1 q
noncomputable def lN (f:E):E:=fun env M=>bnd (f env M) fun d M1=>match d with
 |.lst ds=>some (.v (.ref M1.length),M1 ++ [.lst ds])
 |_=>none
theorem rm {e:Expr}{f:E}(h:SN X Wx e f):SE X Wx m e (lN f):=by
  refine cj h ?_;rintro st H Q ⟨P0,H0,P,Os,env,M,r,M',k,e,q⟩;unfold lN at e;rcases cB e with⟨d,M1,e1,e⟩ |⟨c,n,e1,rfl⟩
  · cases d<;>simp only[reduceCtorEq]at e
    rename_i ds;cases e;refine⟨P0,H0,P,Os,env,M,_,_,k,e1,ds,rfl,fun P1 a vs H1 l1 h1 ha ba nc ea is=>?_⟩;have hn:P1.n=M1.length:=h1.n
    let P2:Pl:={io:=fun j=>if j=P1.n then a else P1.io j,n:=P1.n + 1,bd:=P1.bd}
    have io : ∀ j, j < P1.n -> P2.io j = P1.io j := fun j hj => xaf (by omega);have ioN : P2.io P1.n = a := xab rfl;have l2 : Lt P1 H1 P2 H1 := ⟨xbM _, io, fun _ z => .inl z, fun _ _ e _ => e, fun _ z => z⟩;have le : LtE P H P2 H1 := ⟨Nat.le_succ_of_le l1.n,fun j hj=>(io j (xag hj l1.n)).trans (l1.io j hj),l1.bd,l1.bm,l1.keep,l1.sure,fun j h2 h3=>by
      rcases xaV j P1.n with z |z
      · rw[io j z];exact l1.nw j h2 z
      · have:j=P1.n:=xa2 (xaZ h3) z;rw[this,ioN];exact ha⟩
    have hk2:Hk X.K X.mg P2 H1 (M1 ++ [.lst ds]):=by
      refine⟨by rw[xak, <-hn];rfl,fun j c ej=>?_,fun i j hi hj e=>?_,fun j hj=>?_,h1.here⟩
      · rcases xaV j P1.n with z |z
        · rw[xax (by rw[<-hn];exact z)]at ej;rw[io j z];exact(h1.cell j c ej).lt l2 fun _ z=>z
        · have jl:=(xad.mp ej).1;rw[xak,xas, <-hn]at jl;have:j=P1.n:=by omega
          subst this;rw[xaH (by rw[hn];exact xai _),hn,xdE]at ej;cases ej;rw[ioN];exact⟨vs,ea,aD.lt l2 is⟩
      · rcases xaV i P1.n with z |z
        · rcases xaV j P1.n with y |y
          · rw[io i z,io j y]at e;exact h1.inj i j z y e
          · have:j=P1.n:=xa2 (xaZ hj) y;rw[io i z,this,ioN]at e;exact absurd e (nc i z)
        · have iN:i=P1.n:=xa2 (xaZ hi) z;rcases xaV j P1.n with y |y
          · rw[iN,ioN,io j y]at e;exact absurd e.symm (nc j y)
          · rw[iN];exact xa2 y (xaZ hj)
      · rcases xaV j P1.n with z |z
        · rw[io j z];exact h1.bd j z
        · have:j=P1.n:=xa2 (xaZ hj) z;rw[this,ioN];exact ba
    exact q P2 _ H1 le hk2 (cG.of hk2 (show Is _ _ _ (.ref _) _ from⟨by show _<P1.n + 1;rw[hn];exact xa3 _,by rw[<-hn,ioN]⟩))
  · exact⟨P0,H0,P,Os,env,M,_,_,k,e1,q⟩
noncomputable def gR (f g:E):S:=fun env M=>bY (f env M) fun d M1=>match d with
  | .ref j => (match M1[j]? with
    | some (.lst _) => bY (g env M1) fun y M2 => (match M2[j]? with
      |some (.lst ds)=>if ds.length<sizeLine then some (.nx env,M2.set j (.lst (ds ++ [y]))) else none
      |_=>none)
    |_=>none)
  |_=>none
theorem mU {o e:Expr}{f g:E}{p q pos:Pos}(ho:SE X Wx .val o f)(he:SE X Wx .val e g)(hbase:attributeBase o "append" X.env (eval o X.env)=eval o X.env:=by rfl)
  (hfew:((backTo q (starEach [e] X.env)).all (fun x=> !x.1) && (backToKw q (keywordEach [] X.env)).all (fun x=>x.1.isSome) && decide ([e].length + ([]:List Keyword).length + (if ([]:List Keyword).isEmpty then 0 else 1)<30))=true:=by rfl)
  (hline:(p.endLine==q.line)=true:=by rfl) (hs:starEach [e] X.env=(false,eval e X.env)::starEach [] X.env:=by rfl) (hw:swapsWith (.Call (.Attribute o "append" p) [e] [] q) none pos.line X.env=pure false:=by rfl):
  SS X Wx (.Expr (.Call (.Attribute o "append" p) [e] [] q) pos) (gR f g):=by
 refine fP (z6 (Dc xbn xc5 xc6 Il ho (pQ he vd hs) hbase hfew hline hs rfl) hw) ?_;rintro D st H ⟨P0,H0,P,Os,env,M,out,M',k,e,q⟩;unfold gR at e;rcases gJ e with⟨d,M1,e1,e⟩ |⟨c,n,e1,rfl⟩
 ·cases d<;>simp only[reduceCtorEq]at e
  rename_i j;split at e
  rotate_left
  ·cases e
  rename_i ds0 em0;refine⟨P0,H0,P,Os,env,M,_,_,k,e1,fun P1 v1 H1 l1 h1 i1=>?_⟩;have k1:=k.next l1 h1
  obtain⟨jl,rfl⟩:j<P1.n/\v1=.ref (P1.io j):=i1;obtain⟨vs0,ev0,_⟩:=h1.cell j _ em0;refine⟨.inl ⟨rfl,vs0,.inl (.inl ev0)⟩,?_⟩;rcases gJ e with⟨y,M2,e2,e⟩ |⟨c,n,e2,rfl⟩
  ·split at e
   ·rename_i ds em;split at e
    ·rename_i hz;cases e;refine aV k1 e2 fun P2 v2 H2 l2 h2 i2=>?_;obtain⟨vs,ev,is⟩:=h2.cell j _ em;rw[l2.io j jl]at ev;have i3:=Is.lt (Lt.refl P2 H2) i2;refine⟨P1.io j,vs,v2,rfl,rfl,ev,by rw[is.len];exact hz,?_⟩;have eio:P2.io j=P1.io j:=l2.io j jl;have jl2:j<P2.n:=xag jl l2.n;obtain⟨o0,eo0,nf0⟩:=h2.cellAt em;have lc:Lt P2 H2 P2 (upd H2 (P2.io j) (.lst (vs ++ [v2]))):=xg (h2.bd j jl2) eo0 nf0;obtain⟨l3,l3e,h3⟩:=h2.set (c':=.lst (ds ++ [y])) (o':=.lst (vs ++ [v2])) em ⟨vs ++ [v2],bU,aD.append (aD.lt lc is) (aD.one (Is.lt lc i2))⟩;rw[eio]at l3 l3e h3;exact q _ _ _ _ ((l1.lt k.hk).trans ((l2.lt h1).trans l3)) ((k1.next l2 h2).next l3e h3)
    ·cases e
   ·cases e
  ·exact aV k1 e2 q
 ·exact⟨P0,H0,P,Os,env,M,_,_,k,e1,q⟩
end
section
variable {X:Cx}{Wx:XW}{m:Mode}{pos:Pos}
noncomputable def fO:D->Option D
 |.int i=>some (.int (-i))
 |_=>none
theorem z9 {K:Fgx}:Fv K (rU fun i=>.int (-i)) fO:=fun P H d z v Q h i _ q=>by
 unfold fO at h;split at h
 ·cases h;cases i;exact⟨_,rfl,q _ H (Same.refl H) rfl⟩
 ·cases h
theorem Ay {a:Expr}{op:UnaryOp}{f:E}{o:D->Option D}{r:V->Hp->VK->Prop}(ho:Bq X (unaryOp op) r)(po:Fv X.K r o)(ha:SE X Wx .bor a f):SE X Wx m (.UnaryOp op a pos) (s1 o f):=
 cj (zeE ho ha) fun _ _ _ h=>zeo po h
noncomputable def Dk (f:E):E:=fun env M=>bnd (f env M) fun d M1=>match vw M1 d with
 |.lst ds=>some (.v (.lst ds),M1)
 |.tup ds=>some (.v (.lst ds),M1)
 |_=>none
theorem zbS (hg:Gl X "list")(hm:X.mg "list"=none)(he:SE X Wx .bor e f)(hs:starEach [e] X.env=(false,eval e X.env)::starEach [] X.env:=by rfl):SN X Wx (.Call (.Name "list" p) [e] [] pos) (Dk f):=by
 refine cj (Rh Vx hg hm boot_list (pQ he vd hs) (by x_go) (by x_go) hs rfl) ?_;rintro st H Q ⟨P0,H0,P,Os,env,M,r,M',k,e,q⟩;unfold Dk at e;rcases cB e with⟨d,M1,e1,e⟩ |⟨c,n,e1,rfl⟩
 ·refine aV k e1 ?_;have key:∀ds,r=.v (.lst ds)->M'=M1->(∀P1 v1 H1,bL X.K P1 H1 (vw M1 d) v1->∃a vs,v1=.ref a/\(bI X.K H1 a vs\/dZ X.K H1 a vs)/\aD X.K P1 H1 ds vs)->∀P1 v1 H1,LtE P H P1 H1->Hk X.K X.mg P1 H1 M1->cG X.K P1 H1 .bor d v1->
    ∃p ys,[v1]=[V.ref p]/\(bI X.K H1 p ys\/dZ X.K H1 p ys)/\∀l,H1 l=none->Q (.ref l) (upd H1 l (.lst ys)):=by
   rintro ds rfl rfl hv P1 v1 H1 l1 h1 i1;obtain⟨ds',e',q⟩:=q;cases e';obtain⟨a,vs,rfl,sq,is⟩:=hv P1 v1 H1 (cF.vw h1 i1);refine⟨a,vs,rfl,sq,fun p hp=>?_⟩;obtain⟨l2,h2,nc⟩:=yG (vs:=vs) h1 hp;exact q (P1.bar p) p vs _ (l1.trans l2) h2 (l1.sure p hp) (.inr rfl) nc bU (aD.lt (l2.lt h1) is)
  split at e
  ·rename_i ds ev;cases e;exact key ds rfl rfl fun P1 v1 H1 i=>by
    rw[ev]at i;obtain⟨a,vs,e,s,is⟩:=i;exact⟨a,vs,e,.inl s,is⟩
  ·rename_i ds ev;cases e;exact key ds rfl rfl fun P1 v1 H1 i=>by
    rw[ev]at i;obtain⟨a,vs,e,s,is⟩:=i;exact⟨a,vs,e,.inr s,is⟩
  ·cases e
 ·exact aV k e1 q
end
noncomputable def Ec (K:Fgx) (g:G):Sp:=fun vs H Q E=>∀mg,rA K mg 1 g vs H Q E
theorem Wi {P:Program}{w:World}{K:Fgx}{mg:Mgx}{base:Heap}{k:Nat}{f:Addr}{fd:FuncData}{ps:List Str}{g:G}(F:FnOk P w K mg base gn k f fd ps (rA K mg 1 g)):FnOk P w K mg base gn k f fd ps (Ec K g):=
 ⟨fun vs H Q E h=>F.len vs H Q E (h mg),fun A outer s H args us vs Q E hr he hb hv hs=>F.run A outer s H args us vs Q E hr he hb hv (hs mg)⟩
theorem Pz {K:Fgx}{P:Pl}{H:Hp}:∀ns:List Int,aD K P H (ns.map D.int) (ns.map V.int)
 | []=>rfl
 |n::ns=>⟨.int n,_,rfl,rfl,Pz ns⟩
section
variable {X:Cx}{Wx:XW}{m:Mode}{e:Expr}
theorem rz (h:PE X e (tC (.int i))):SE X Wx m e (ak (.int i)):=(DY (d:=.int i) h fun _ _=>rfl).bor
theorem vW (h:PE X e (tC (.str z))):SE X Wx m e (ak (.str z)):=(DY (d:=.str z) h fun _ _=>rfl).bor
theorem K7 (h:PE X e (tC (.bl b))):SE X Wx m e (ak (.bl b)):=(DY (d:=.bl b) h fun _ _=>rfl).bor
theorem vX (hN:X.N[i]? =some x)(hv:X.env.scope.names.lookup x=some .local)(hd:(x==("__debug__":Str))=false:=by x_go)(hcd:(x==("__classdict__":Str))=false:=by x_go):SE X Wx m (.Name x pos) (aj i):=(Ue hN (.inl hv) hd hcd).bor
theorem Lb {i:Nat}{x:Str}{pos:Pos}(hN:X.N[i]? =some x)(hv:X.env.scope.names.lookup x=some .local)(hd:(x==("__debug__":Str))=false:=by x_go)(hcd:(x==("__classdict__":Str))=false:=by x_go):SE X Wx .bor (.Name x pos) (vp i):=zbw hN (.inl hv) hd hcd
theorem SN.sem {f:E}(h:SN X Wx e f)(hf:∀env M r M',f env M=some (.v r,M')->∃ds,r=.lst ds):SE X Wx m e f:=(SN.se h hf).bor
end
noncomputable def putD (f:Str) (d:D):List (Str×D)->List (Str×D)
 | []=>[(f,d)]
 |(g,x)::r=>if g=f then(g,d)::r else(g,x)::putD f d r
section
variable {K:Fgx}{mg:Mgx}{P:Pl}{H:Hp}{M:Mm}
def lV (K:Fgx)(P:Pl)(H:Hp)(fs:List (Str×D))(gs:List (Str×V)):Prop:=gs.map (·.1)=fs.map (·.1)/\aD K P H (fs.map (·.2)) (gs.map (·.2))
theorem O6:∀{fs:List (Str×D)} {gs:List (Str×V)},lV K P H fs gs->fs.lookup f=some d->∃v,gs.lookup f=some v/\Is K P H d v
  | [],_,_,e=>by cases e
  |(g,x)::fs,[],h,_=>by cases h.1
  |(g,x)::fs,(g',y)::gs,h,e=>by
    obtain⟨h1,v,r,e1,p,q⟩:=h;simp only[xau,xb8]at h1 e1;obtain⟨rfl,h1⟩:=h1;obtain⟨rfl,rfl⟩:=e1;simp only[List.lookup]at e ⊢
    cases hg:f==g' with
    |true=>rw[hg]at e;cases e;exact⟨y,rfl,p⟩
    |false=>rw[hg]at e;exact O6 ⟨h1,q⟩ e
theorem O7:∀{fs:List (Str×D)} {gs:List (Str×V)},gs.map (·.1)=fs.map (·.1)->fs.lookup f=none->gs.lookup f=none
  | [],[],_,_=>rfl
  | [],_::_,h,_=>by cases h
  |_::_,[],h,_=>by cases h
  |(g,x)::fs,(g',y)::gs,h,e=>by
    simp only[xau,xb8]at h;obtain⟨rfl,h⟩:=h;simp only[List.lookup]at e ⊢
    cases hg:f==g' with
    |true=>rw[hg]at e;cases e
    |false=>rw[hg]at e;exact O7 h e
theorem O8 (i:Is K P H d v):∀{fs:List (Str×D)} {gs:List (Str×V)},lV K P H fs gs->lV K P H (putD f d fs) (bB f v gs)
  | [],[],_=>⟨rfl,v,[],rfl,i,rfl⟩
  | [],_::_,h=>by cases h.1
  |_::_,[],h=>by cases h.1
  |(g,x)::fs,(g',y)::gs,h=>by
    obtain⟨h1,v',r,e1,p,q⟩:=h;simp only[xau,xb8]at h1 e1;obtain⟨rfl,h1⟩:=h1;obtain⟨rfl,rfl⟩:=e1;unfold putD bB
    split
    · exact⟨by simp[h1],v,_,rfl,i,q⟩
    · obtain⟨a,b⟩:=O8 i (fs:=fs) (gs:=gs) ⟨h1,q⟩;exact⟨by simp[a],y,_,rfl,p,b⟩
theorem Wn (h:lV K P H fs gs):gs.length=fs.length:=by
 have:=congrArg List.length h.1
 simpa using this
end
structure ClsOk (K:Fgx)(mg:Mgx)(c:Str)(C:Addr):Prop where
 mg:mg c=some (.ref C)
 cl:Cls K C
section
variable {X:Cx}{Wx:XW}{m:Mode}{pos:Pos}
noncomputable def u_ (M:Mm) (c:Str) (d:D):Option (Nat×List (Str×D)):=match d with
  | .ref k => (match M[k]? with
    |some (.obj c' fs)=>if c'=c then some (k,fs) else none
    |_=>none)
  |_=>none
theorem JR (h:u_ M c d=some (k,fs)):d=.ref k/\M[k]? =some (.obj c fs):=by
 unfold u_ at h;split at h
 ·split at h
  ·split at h
   ·rename_i e1 e2;cases h;subst e2;exact⟨rfl,e1⟩
   ·cases h
  ·cases h
 ·cases h
noncomputable def xO (c f:Str) (o:E):E:=fun env M=>bnd (o env M) fun d M1=>match u_ M1 c d with
 |some (_,fs)=>(fs.lookup f).map fun z=>(.v z,M1)
 |none=>none
theorem T9 (hc:ClsOk X.K X.mg c C)(hn:mW X.K C f)(he:SE X Wx .val e o)(hb:attributeBase e f X.env (eval e X.env)=eval e X.env:=by rfl):SE X Wx m (.Attribute e f pos) (xO c f o):=by
 refine cj (ZV he hb) ?_;rintro st H Q ⟨P0,H0,P,Os,env,M,r,M',k,e,q⟩;unfold xO at e;rcases cB e with⟨d,M1,e1,e⟩ |⟨c,n,e1,rfl⟩
 ·split at e
  ·rename_i j fs eo;rw[xac]at e;obtain⟨z,ez,e⟩:=e;cases e;obtain⟨rfl,em⟩:=JR eo;refine aV k e1 fun P1 v1 H1 l1 h1 i1=>?_;obtain⟨jl,rfl⟩:j<P1.n/\v1=.ref (P1.io j):=i1;obtain⟨C',dx,gs,ec,eh,en,is⟩:=h1.cell j _ em;have eC:C'=C:=by
    have:=ec.symm.trans hc.mg;cases this;rfl
   subst eC;obtain⟨v,ev,iv⟩:=O6 ⟨en,is⟩ ez;exact⟨_,C',dx,gs,v,rfl,eh,hc.cl,hn,ev,q P1 v H1 l1 h1 (cG.of h1 iv)⟩
  ·cases e
 ·exact aV k e1 q
noncomputable def xT (c f:Str) (o v:E):S:=fun env M=>bY (v env M) fun y M1=>bY (o env M1) fun d M2=>match u_ M2 c d with
 |some (k,fs)=>if fs.length<1000 then some (.nx env,M2.set k (.obj c (putD f y fs))) else none
 |none=>none
theorem zbx {K:Fgx}{mg:Mgx}{P:Pl}{H:Hp}{M:Mm}{j:Nat}{c f:Str}{fs:List (Str×D)}{y:D}{v:V}{C dx:Addr}{gs:List (Str×V)}(h:Hk K mg P H M)(em:M[j]? =some (.obj c fs))(ec:mg c=some (.ref C))(eh:H (P.io j)=some (.ins C dx gs))(fo:lV K P H fs gs)(iv:Is K P H y v):
  Lt P H P (upd H (P.io j) (.ins C dx (bB f v gs)))/\LtE P H P (upd H (P.io j) (.ins C dx (bB f v gs)))/\Hk K mg P (upd H (P.io j) (.ins C dx (bB f v gs))) (M.set j (.obj c (putD f y fs))):=by
 have jl:j<P.n:=by rw[h.n];exact(xad.mp em).1
 have lc:Lt P H P (upd H (P.io j) (.ins C dx (bB f v gs))):=xg (h.bd j jl) eh X_;have fp:=O8 (f:=f) iv fo;exact h.set (c':=.obj c (putD f y fs)) (o':=.ins C dx (bB f v gs)) em ⟨C,dx,bB f v gs,ec,bU,fp.1,aD.lt lc fp.2⟩
theorem Um {c f:Str}{C:Addr}{o e:Expr}{fo fv:E}{pos':Pos}(hc:ClsOk X.K X.mg c C)(hn:mW X.K C f)(ho:SE X Wx .val o fo)(he:SE X Wx .val e fv)(hs:swapsWith e (some (.Attribute o f pos')) pos.line X.env=pure false:=by rfl):SS X Wx (.Assign [.Attribute o f pos'] e pos) (xT c f fo fv):=by
 refine fP (zdi ho he hs) ?_;rintro D st H ⟨P0,H0,P,Os,env,M,out,M',k,e,q⟩;unfold xT at e;rcases gJ e with⟨y,M1,e1,e⟩ |⟨c,n,e1,rfl⟩
 ·refine aV k e1 fun P1 v1 H1 l1 h1 i1=>?_;have k1:=k.next l1 h1
  rcases gJ e with⟨d,M2,e2,e⟩ |⟨c,n,e2,rfl⟩
  ·split at e
   ·rename_i j fs eo;split at e
    ·rename_i hl;cases e;obtain⟨rfl,em⟩:=JR eo;refine aV k1 e2 fun P2 v2 H2 l2 h2 i2=>?_;obtain⟨jl,rfl⟩:j<P2.n/\v2=.ref (P2.io j):=i2;obtain⟨C',dx,gs,ec,eh,en,is⟩:=h2.cell j _ em;have eC:C'=C:=by
      have:=ec.symm.trans hc.mg;cases this;rfl
     subst eC;obtain⟨l3,l3e,h3⟩:=zbx (f:=f) h2 em ec eh ⟨en,is⟩ (Is.lt (l2.lt h1) i1);exact⟨_,C',dx,gs,rfl,eh,hc.cl,hn,by rw[Wn ⟨en,is⟩];exact hl,q _ _ _ _ ((l1.lt k.hk).trans ((l2.lt h1).trans l3)) ((k1.next l2 h2).next l3e h3)⟩
    ·cases e
   ·cases e
  ·exact aV k1 e2 q
 ·exact aV k e1 q
def lA (P:Program)(w:World)(K:Fgx)(mg:Mgx)(base:Heap)(k:Nat)(C:Addr)(m:Str)(n:Nat)(g:G):Prop:=
 ∃f fd ps,Meth K C m f/\FnOk P w K mg base gn k f fd ps (rA K mg n g)/\Binds K fd ps []
theorem lA.mono {P:Program}{w:World}{K:Fgx}{mg:Mgx}{base:Heap}{j k:Nat}{C:Addr}{m:Str}{n:Nat}{g:G}(a:lA P w K mg base j C m n g)(h:j<=k):lA P w K mg base k C m n g:=by
 obtain⟨f,fd,ps,h1,h2,h3⟩:=a;exact⟨f,fd,ps,h1,h2.mono h,h3⟩
noncomputable def sE (c m:Str) (g:G) (o:E) (fs:EA):E:=fun env M=>bnd (o env M) fun d M1=>match u_ M1 c d with
  | some (_, gs) => if gs.lookup m = none then cQ (fs env M1) fun ds M2 => (match g (d::ds) M2 with
    |some (.v z,M3)=>some (.v z,M3)
    |_=>none) else none
  |none=>none
theorem Uc (hc:ClsOk X.K X.mg c C)(a:lA X.prog X.w X.K X.mg X.base k C me (n + 1) g)(hr:Room k X.A)(ho:SE X Wx .val o fo)(ha:SA X Wx .val (e::es) fs)(hn:rJ n fs)
    (hst:starEach (e::es) X.env=(false,eval e X.env)::starEach es X.env:=by rfl) (hpl:(backTo pos (starEach es X.env)).any (·.1)=false:=by rfl)
    (ht : eval (.Call (.Attribute o me apos) (e :: es) [] pos) X.env = (do
      let ov <-eval o X.env
      standAt apos.atName
      let (f,first) <-holding [ov] (getMethod ov me pl)
      callWith pos f first (backTo pos (starEach (e::es) X.env)) (backToKw pos (keywordEach [] X.env))):=by rfl):
    SE X Wx m (.Call (.Attribute o me apos) (e::es) [] pos) (sE c me g fo fs):=by
  obtain⟨f,fd,ps,hm,F,hb⟩:=a;refine cj (Z6 ho hc.cl hm F hr hb .nil JV ha hst hpl ht) ?_;rintro st H Q ⟨P0,H0,P,Os,env,M,r,M',k,e,q⟩;unfold sE at e;rcases cB e with⟨d,M1,e1,e⟩ |⟨c,n,e1,rfl⟩
  · split at e
    · rename_i j gs eo;split at e
      · rename_i hl;obtain⟨rfl,em⟩:=JR eo;refine aV k e1 fun P1 v1 H1 l1 h1 i1=>?_;have k1:=k.next l1 h1
        obtain⟨jl,rfl⟩:j<P1.n/\v1=.ref (P1.io j):=i1;obtain⟨C',dx,vs,ec,eh,en,is⟩:=h1.cell j _ em;have eC:C'=C:=by
          have:=ec.symm.trans hc.mg;cases this;rfl
        subst eC;refine⟨_,dx,vs,rfl,eh,O7 en hl,?_⟩;rcases o_ e with⟨ds,M2,e2,e⟩ |⟨c,n,e2,rfl⟩
        · split at e
          · rename_i z M3 eg;cases e;refine⟨P0,H0,P1,Os,env,M1,_,_,k1,e2,fun P2 us H2 l2 h2 i2=>?_⟩;dsimp only;rw[xaR];exact⟨by rw[xao,i2.len,hn _ _ _ _ e2],P2,M2,.ref j::ds,z,_,h2,⟨_,_,rfl,⟨xag jl l2.n,by rw[l2.io j jl]⟩,i2.iss⟩,eg,fun P3 v H3 l3 h3 i3=>q P3 v H3 (l1.trans (l2.trans l3)) h3 (cG.of h3 i3)⟩
          · cases e
        · exact⟨P0,H0,P1,Os,env,M1,_,_,k1,e2,q⟩
      · cases e
    · cases e
  · exact aV k e1 q
end
section
variable {X:Cx}{Wx:XW}{m:Mode}{pos:Pos}
theorem NP {K:Fgx}{mg:Mgx}{P:Pl}{H H':Hp}{M:Mm}{a:Addr}{c:Cl}(h:Hk K mg P H M)(s:Same H H')(ha:H a=none)(ea:H' a≠none)(hc:∀P',P'.n=P.n + 1->P'.io P.n=a->LtE P H P' H'->wD K mg P' H' a c):∃P',P'.n=P.n + 1/\P'.io P.n=a/\LtE P H P' H'/\Hk K mg P' H' (M ++ [c]):=by
 let P2:Pl:={io:=fun j=>if j=P.n then a else P.io j,n:=P.n + 1,bd:=fun b=>P.bd b\/b=a}
 have io : ∀ j, j < P.n -> P2.io j = P.io j := fun j hj => xaf (by omega);have ioN : P2.io P.n = a := xab rfl;have nc : ∀ j, j < P.n -> P.io j ≠ a := fun j hj z => h.here _ (h.bd j hj) (z ▸ ha);have l : LtE P H P2 H' := ⟨xbM _,io,fun b z=>Or.imp (fun q=>q) (fun(q:b=a)=>by rw[q];exact ha) z,fun _ z=>.inl z,fun b o e _=>s b o e,fun b z=>s.free z,fun j h2 h3=>by
  have:j=P.n:=xa2 (xaZ h3) h2;rw[this,ioN];exact ha⟩
 refine⟨P2,rfl,ioN,l,⟨by rw[xak, <-h.n];rfl,fun j d ej=>?_,fun i j hi hj e=>?_,fun j hj=>?_,fun b z=>?_⟩⟩
 ·rcases xaV j P.n with z |z
  ·rw[xax (by rw[<-h.n];exact z)]at ej;rw[io j z];exact(h.cell j d ej).lt (l.lt h) fun o eo=>s _ _ eo
  ·have jl:=(xad.mp ej).1;rw[xak,xas, <-h.n]at jl;have:j=P.n:=by omega
   subst this;rw[xaH (by rw[h.n];exact xai _),h.n,xdE]at ej;cases ej;rw[ioN];exact hc P2 rfl ioN l
 ·rcases xaV i P.n with z |z
  ·rcases xaV j P.n with y |y
   ·rw[io i z,io j y]at e;exact h.inj i j z y e
   ·have:j=P.n:=xa2 (xaZ hj) y;rw[io i z,this,ioN]at e;exact absurd e (nc i z)
  ·have iN:i=P.n:=xa2 (xaZ hi) z;rcases xaV j P.n with y |y
   ·rw[iN,ioN,io j y]at e;exact absurd e.symm (nc j y)
   ·rw[iN];exact xa2 y (xaZ hj)
 ·rcases xaV j P.n with z |z
  ·rw[io j z];exact .inl (h.bd j z)
  ·have:j=P.n:=xa2 (xaZ hj) z;rw[this,ioN];exact .inr rfl
 ·rcases z with z |z
  ·exact fun q=>h.here b z (s.free q)
  ·rw[z];exact ea
def lu (P:Program)(w:World)(K:Fgx)(mg:Mgx)(base:Heap)(k:Nat)(C:Addr)(n:Nat)(g:G):Prop:=
 ∃f fd ps,Mk K C f/\FnOk P w K mg base gn k f fd ps (rA K mg n g)/\Binds K fd ps []
noncomputable def xP (c:Str) (g:G) (fs:EA):E:=fun env M=>cQ (fs env M) fun ds M1=>match g (.ref M1.length::ds) (M1 ++ [.obj c []]) with
 |some (.v .non,M2)=>some (.v (.ref M1.length),M2)
 |_=>none
theorem Ub {c:Str}{C:Addr}{k n:Nat}{g:G}{e:Expr}{es:List Expr}{fs:EA}{p:Pos}(hc:ClsOk X.K X.mg c C)(a:lu X.prog X.w X.K X.mg X.base k C (n + 1) g)(hr:Room (k + 1) X.A)(hg:Gl X c)(ha:SA X Wx .val (e::es) fs)(hn:rJ n fs)(hdb:(c==("__debug__":Str))=false:=by x_go)
  (he:starEach (e::es) X.env=(false,eval e X.env)::starEach es X.env:=by rfl) (hpl:(backTo pos (starEach es X.env)).any (·.1)=false:=by rfl):SE X Wx m (.Call (.Name c p) (e::es) [] pos) (xP c g fs):=by
 obtain⟨f,fd,ps,mk,F,hb⟩:=a;refine cj (Z4 mk F hr hg hc.mg hb .nil JV ha hdb he hpl) ?_;rintro st H Q ⟨P0,H0,P,Os,env,M,r,M',k,e,q⟩;unfold xP at e;rcases o_ e with⟨ds,M1,e1,e⟩ |⟨c,n,e1,rfl⟩
 ·split at e
  ·rename_i M2 eg;cases e;refine⟨P0,H0,P,Os,env,M,_,_,k,e1,fun P1 vs H1 l1 h1 i1=>fun x dx hx hdx ne=>?_⟩;have s2:Same H1 (upd (upd H1 dx (.own x)) x (.ins C dx [])):=fun b o eb=>by
    rw[aQ (kj eb hx),aQ (kj eb hdx)];exact eb
   obtain⟨P2,n2,io2,l2,h2⟩:=NP (c:=.obj c []) h1 s2 hx (by rw[bU];exact fun z=>nomatch z) fun P' _ _ _=>⟨C,dx,[],hc.mg,bU,rfl,rfl⟩
   have el:P1.n=M1.length:=h1.n;have iref:Is X.K P2 (upd (upd H1 dx (.own x)) x (.ins C dx [])) (.ref M1.length) (.ref x):=⟨by rw[n2,el];exact xa3 _,by rw[<-el,io2]⟩;refine⟨by rw[xaR,xao,i1.len,hn _ _ _ _ e1],P2,M1 ++ [.obj c []],.ref M1.length::ds,.non,_,h2,⟨_,_,rfl,iref,by rw[xaR];exact aD.lt (l2.lt h1) i1.iss⟩,eg,fun P3 v H3 l3 h3 i3=>⟨i3,?_⟩⟩;refine q P3 _ H3 (l1.trans (l2.trans l3)) h3 (cG.of h3 (Is.lt (l3.lt h2) iref))
  ·cases e
 ·exact⟨P0,H0,P,Os,env,M,_,_,k,e1,q⟩
end
end E3
namespace E3
open PySem PySem.Spec PyProof.Rows L2 PySem.W
def ze1 (a:Addr)(h h':Heap):Prop:=∀b o,b≠a->h.get? b=some o->h'.get? b=some o
def Low (n:Nat)(p:Array Nat):Prop:=p.size=n/\∀x∈p.toList,x<n
section
variable {n:Nat}{lt:Nat->Nat->Option Bool}(hn:0<n)(tot:∀i j,i<n->j<n->∃b,lt i j=some b)
include hn tot
end
end E3
namespace E3
open PySem L2
section
variable {env:Env}{M M1:Mm}{f g h c:E}{d e:D}{i j:Int}{n k:Nat}{z:Str}{b:Bool}{ds es:List D}{s t:S}{x:Str}
def eU (g:S):OS->OS
 |some (.nx e,M1)=>g e M1
 |o=>o
theorem xK:ao s t env M=eU t (s env M):=rfl
theorem Kw {e:Env}:eU t (some (.nx e,M))=t e M:=rfl
theorem Ky:eU t (some (.rt d,M))=some (.rt d,M):=rfl
theorem Kp {e:Env}:eU t (some (.bk e,M))=some (.bk e,M):=rfl
theorem Kr {e:Env}:eU t (some (.ct e,M))=some (.ct e,M):=rfl
theorem Ks {a:Int}:eU t (some (.ex x a,M))=some (.ex x a,M):=rfl
theorem zen:aq env M=some (.nx env,M):=rfl
noncomputable def Bg (M:Mm):Option Slot->O
 |some (.val d)=>some (.v d,M)
 |_=>none
noncomputable def wB (M:Mm):Option Slot->O
 |some (.val d)=>some (.v d,M)
 |some (.own ds)=>some (.v (.lst ds),M)
 |_=>none
theorem Ke:aj k env M=Bg M env[k]? :=rfl
theorem Kf:vp k env M=wB M env[k]? :=rfl
theorem Kz:Bg M (some (.val d))=some (.v d,M):=rfl
theorem KC:wB M (some (.val d))=some (.v d,M):=rfl
theorem KD:wB M (some (.own ds))=some (.v (.lst ds),M):=rfl
theorem zdX:ak d env M=some (.v d,M):=rfl
def mapR (M:Mm)(o:Option D):O:=o.map fun z=>(.v z,M)
theorem zd5:mapR M (some d)=some (.v d,M):=rfl
def pO (o:D->Option D)(r:O):O:=bnd r fun d M=>mapR M (o (vw M d))
theorem q_1 {o:D->Option D}:s1 o f env M=pO o (f env M):=rfl
theorem r_1 {o:D->Option D}:pO o (some (.v d,M))=mapR M (o (vw M d)):=rfl
noncomputable def wA (o:D->D->Option D) (d:D) (r:O):O:=bnd r fun e M=>mapR M (o (vw M d) (vw M e))
noncomputable def Bc (o:D->D->Option D) (k:Mm->O) (r:O):O:=bnd r fun d M=>wA o d (k M)
theorem q_2 {o:D->D->Option D}:s2 o f g env M=Bc o (g env) (f env M):=rfl
theorem r_2 {o:D->D->Option D}{q:Mm->O}:Bc o q (some (.v d,M))=wA o d (q M):=rfl
theorem Ko {o:D->D->Option D}:wA o d (some (.v e,M))=mapR M (o (vw M d) (vw M e)):=rfl
theorem zeS:vw M (.int i)=.int i:=rfl
theorem zef:vw M (.str z)=.str z:=rfl
theorem MJ:vw M (.bl b)=.bl b:=rfl
theorem zeF:vw M .non=.non:=rfl
theorem zdD:vw M (.tup ds)=.tup ds:=rfl
theorem zdx:vw M (.lst ds)=.lst ds:=rfl
theorem zeZ:cD f env M=pO (fun d=>(fV d).map .bl) (f env M):=rfl
theorem zcl:xR f env M=pO (fun d=>(fV d).map fun b=>.bl (!b)) (f env M):=rfl
noncomputable def zN (r:O):O:=bnd r fun d M=>match d with
 |.bl b=>some (.v (.bl (!b)),M)
 |_=>none
theorem zeR:dw f env M=zN (f env M):=rfl
theorem zep:zN (some (.v (.bl b),M))=some (.v (.bl (!b)),M):=rfl
noncomputable def pI (k1 k2:Mm->O) (r:O):O:=bnd r fun d M=>match d with
 |.bl b=>if b=true then k1 M else k2 M
 |_=>none
theorem zeh:bN f g env M=pI (g env) (fun M=>some (.v (.bl false),M)) (f env M):=rfl
theorem J_:kZ f g env M=pI (fun M=>some (.v (.bl true),M)) (g env) (f env M):=rfl
theorem zeU:pY c f g env M=pI (f env) (g env) (c env M):=rfl
theorem zeg {k1 k2:Mm->O}:pI k1 k2 (some (.v (.bl b),M))=if b=true then k1 M else k2 M:=rfl
noncomputable def pq (d:D):Option (ResA×Mm)->Option (ResA×Mm)
 |some (.v ds,M2)=>some (.v (d::ds),M2)
 |some (.x c n,M2)=>some (.x c n,M2)
 |none=>none
noncomputable def GX (k:Mm->Option (ResA×Mm)):O->Option (ResA×Mm)
 |some (.v d,M1)=>pq d (k M1)
 |some (.x c n,M1)=>some (.x c n,M1)
 |none=>none
theorem zer:au env M=some (.v [],M):=rfl
theorem zcS {fs:EA}:aA f fs env M=GX (fs env) (f env M):=rfl
theorem zdq {q:Mm->Option (ResA×Mm)}:GX q (some (.v d,M))=pq d (q M):=rfl
theorem zc7:pq d (some (.v ds,M))=some (.v (d::ds),M):=rfl
noncomputable def n6 (o:List D->Option D) (r:Option (ResA×Mm)):O:=cQ r fun ds M=>mapR M (o (ds.map (vw M)))
theorem q_n {o:List D->Option D}{fs:EA}:sN o fs env M=n6 o (fs env M):=rfl
theorem r_n {o:List D->Option D}:n6 o (some (.v ds,M))=mapR M (o (ds.map (vw M))):=rfl
noncomputable def g8 (k:List D->Mm->O):Option (ResA×Mm)->O
 |some (.v ds,M)=>k ds M
 |some (.x c n,M)=>some (.x c n,M)
 |none=>none
theorem zdc {q:List D->Mm->O}:g8 q (some (.v ds,M))=q ds M:=rfl
theorem zdT {fs:EA}:aU fs env M=g8 (fun ds M1=>if ds.length<=sizeLine then some (.v (.lst ds),M1) else none) (fs env M):=rfl
def Np:O->O
 |some (.v d,M)=>some (.v d,M)
 |_=>none
theorem zby:Np (some (.v d,M))=some (.v d,M):=rfl
theorem zdf {u:G}{fs:EA}:bV u fs env M=g8 (fun ds M1=>Np (u ds M1)) (fs env M):=rfl
noncomputable def cY (k:D->Mm->O):O->O
 |some (.v d,M)=>k d M
 |some (.x c n,M)=>some (.x c n,M)
 |none=>none
theorem Kq {q:D->Mm->O}:cY q (some (.v d,M))=q d M:=rfl
noncomputable def NK (M:Mm):D->O
 |.lst ds=>some (.v (.ref M.length),M ++ [.lst ds])
 |_=>none
theorem zca:NK M (.lst ds)=some (.v (.ref M.length),M ++ [.lst ds]):=rfl
theorem zc3:lN f env M=cY (fun d M1=>NK M1 d) (f env M):=rfl
noncomputable def Qm (M:Mm):D->O
 |.lst ds=>some (.v (.lst ds),M)
 |.tup ds=>some (.v (.lst ds),M)
 |_=>none
theorem zbr:Qm M (.lst ds)=some (.v (.lst ds),M):=rfl
theorem zdm:Dk f env M=cY (fun d M1=>Qm M1 (vw M1 d)) (f env M):=rfl
noncomputable def Le (d:D) (lo:Option Int):Option (Option Int×Mm)->O
 |some (hi,M3)=>mapR M3 (xX (vw M3 d) lo hi)
 |none=>none
noncomputable def Ui (d:D) (k:Mm->Option (Option Int×Mm)):Option (Option Int×Mm)->O
 |some (lo,M2)=>Le d lo (k M2)
 |none=>none
theorem Kd {l u:Env->Mm->Option (Option Int×Mm)}:xU f l u env M=cY (fun d M1=>Ui d (u env) (l env M1)) (f env M):=rfl
theorem zem {lo:Option Int}{q:Mm->Option (Option Int×Mm)}:Ui d q (some (lo,M))=Le d lo (q M):=rfl
theorem zdz {lo hi:Option Int}:Le d lo (some (hi,M))=mapR M (xX (vw M d) lo hi):=rfl
theorem zeb:zR env M=some (none,M):=rfl
noncomputable def zT:O->Option (Option Int×Mm)
 |some (.v (.int i),M)=>some (some i,M)
 |_=>none
theorem zej:xu f env M=zT (f env M):=rfl
theorem zdN:zT (some (.v (.int i),M))=some (some i,M):=rfl
noncomputable def cU (k:D->Mm->OS):O->OS
 |some (.v d,M)=>k d M
 |some (.x c n,M)=>some (.ex c n,M)
 |none=>none
theorem zcP {q:D->Mm->OS}:cU q (some (.v d,M))=q d M:=rfl
theorem Ry:aN k f env M=cU (fun d M1=>if k<env.length then some (.nx (env.set k (.val d)),M1) else none) (f env M):=rfl
noncomputable def QG (k:Nat) (env:Env) (M:Mm):D->OS
 |.lst ds=>if k<env.length then some (.nx (env.set k (.own ds)),M) else none
 |_=>none
theorem zdr:QG k env M (.lst ds)=if k<env.length then some (.nx (env.set k (.own ds)),M) else none:=rfl
theorem zcm:xQ k f env M=cU (fun d M1=>QG k env M1 d) (f env M):=rfl
theorem zeY:aJ f env M=cU (fun d M1=>some (.rt d,M1)) (f env M):=rfl
theorem zc2:nJ f env M=cU (fun _ M1=>some (.nx env,M1)) (f env M):=rfl
noncomputable def Pk (s t:Mm->OS) (M:Mm):D->OS
 |.bl b=>if b=true then s M else t M
 |_=>none
theorem Ku {q r:Mm->OS}:Pk q r M (.bl b)=if b=true then q M else r M:=rfl
theorem J6:bC c s t env M=cU (fun d M1=>Pk (s env) (t env) M1 d) (c env M):=rfl
noncomputable def yO (k:Nat) (env:Env) (M:Mm):Option Slot->OS
 |some (.own ds)=>some (.nx (env.set k (.val (.lst ds))),M)
 |_=>none
theorem zdC:kJ k env M=yO k env M env[k]? :=rfl
theorem zei:yO k env M (some (.own ds))=some (.nx (env.set k (.val (.lst ds))),M):=rfl
noncomputable def yD (k:Nat) (env:Env) (o:O):Option Slot->OS
 |some (.own ds)=>cU (fun d M1=>if ds.length<sizeLine then some (.nx (env.set k (.own (ds ++ [d]))),M1) else none) o
 |_=>none
theorem zdS:dI k f env M=yD k env (f env M) env[k]? :=rfl
theorem zeC {o:O}:yD k env o (some (.own ds))=cU (fun d M1=>if ds.length<sizeLine then some (.nx (env.set k (.own (ds ++ [d]))),M1) else none) o:=rfl
noncomputable def forR (k:Nat) (t:S) (env:Env):Option (ResA×Mm)->OS
 |some (.v ds,M1)=>loopS k t ds env M1
 |some (.x c n,M1)=>some (.ex c n,M1)
 |none=>none
theorem J4 {fs:EA}:dj k fs t env M=forR k t env (fs env M):=rfl
theorem zd3:forR k t env (some (.v ds,M))=loopS k t ds env M:=rfl
noncomputable def zJ:O->Option (ResA×Mm)
 |some (.v (.lst ds),M1)=>some (.v ds,M1)
 |some (.x c n,M1)=>some (.x c n,M1)
 |_=>none
theorem zcz:j_ f env M=zJ (f env M):=rfl
theorem zch:zJ (some (.v (.lst ds),M))=some (.v ds,M):=rfl
noncomputable def RZ:Option (ResA×Mm)->Option (ResA×Mm)
 |some (.v [.int j],M1)=>if -1000000000<=j/\j<=1000000000 then some (.v ((List.range j.toNat).map fun(k:Nat)=>.int (0 + k)),M1) else none
 |some (.x c n,M1)=>some (.x c n,M1)
 |_=>none
theorem Kc {fs:EA}:ni fs env M=RZ (fs env M):=rfl
theorem xM (h: -1000000000<=i/\i<=1000000000):RZ (some (.v [.int i],M))=some (.v ((List.range i.toNat).map fun(k:Nat)=>.int (0 + k)),M):=xab h
theorem z_ {m:Nat}{t:S}:bJ m t ds M=b_ (t (ds.map .val ++ List.replicate (m - ds.length) .un) M):=rfl
theorem zck:b_ (some (.rt d,M))=some (.v d,M):=rfl
theorem zcO {e:Env}:b_ (some (.nx e,M))=some (.v .non,M):=rfl
theorem Yr:aR (.int i) (.int j)=some (.int (i + j)):=rfl
theorem Ys:aR (.lst ds) (.lst es)=if ds.length + es.length<=sizeLine then some (.lst (ds ++ es)) else none:=rfl
theorem Zb:cT (.int i) (.int j)=some (.int (i - j)):=rfl
theorem YW:bF (.int i) (.int j)=if i.natAbs<18446744073709551616\/j.natAbs<18446744073709551616\/(i.natAbs.log2<10000/\j.natAbs.log2<10000) then some (.int (i * j)) else none:=rfl
theorem Yy:gM (.int i) (.int j)=if 0<j/\j.natAbs<1073741824 then some (.int (i / j)) else none:=rfl
theorem YT:oMod (.int i) (.int j)=if 0<j then some (.int (i % j)) else none:=rfl
theorem Y8:cg (.int i) (.int j)=if 0<=j/\j.natAbs<=1000000/\i.natAbs<18446744073709551616 then some (.int (i ^ j.toNat)) else none:=rfl
theorem Y6:fO (.int i)=some (.int (-i)):=rfl
theorem JQ:aG .lt (.int i) (.int j)=some (.bl (decide (i<j))):=rfl
theorem JN:aG .le (.int i) (.int j)=some (.bl (decide (i<=j))):=rfl
theorem JM:aG .gt (.int i) (.int j)=some (.bl (decide (j<i))):=rfl
theorem JL:aG .ge (.int i) (.int j)=some (.bl (decide (j<=i))):=rfl
theorem Yw:aG .eq (.int i) (.int j)=some (.bl (decide (i=j))):=by
 show(wH _ _).map D.bl=_
 simp[wH,cZ,D.flat,D.dep,D.eq]
 rw[xaI];simp
theorem YZ:aG .ne (.int i) (.int j)=some (.bl (!decide (i=j))):=by
 show(mz _ _).map D.bl=_
 simp[mz,cZ,D.flat,D.dep,D.eq]
 rw[xaI];simp
theorem YX (h:D.deps ds<=49):aG .ne (.lst ds) (.lst [])=some (.bl (!ds.isEmpty)):=by
 show(mz _ _).map D.bl=_;unfold mz;rw[xab ⟨by simp[cZ,D.flat,D.dep,D.deps],by show D.deps ds + 1<=50;omega⟩];cases ds<;>rfl
theorem Q_ (h:d.dep<=50):aG .ne d d=some (.bl false):=by
 show(mz d d).map D.bl=_;unfold mz;rw[xab ⟨by simp[cZ,h],h⟩,D.eq_refl];rfl
theorem YG:bG (.lst ds) (.int i)=bR ds i:=rfl
theorem YJ:bG (.tup ds) (.int i)=bR ds i:=rfl
theorem YK:dF [.lst ds]=some (.int ds.length):=rfl
theorem YM:dF [.tup ds]=some (.int ds.length):=rfl
theorem YS:fG [.int i,.int j]=some (.int (if j<i then j else i)):=rfl
theorem YQ:gq [.int i,.int j]=some (.int (if j > i then j else i)):=rfl
theorem Zd:fV (.lst ds)=some (!ds.isEmpty):=rfl
theorem Zc:fV (.bl b)=some b:=rfl
theorem Y_ {lo hi:Option Int}:xX (.str z) lo hi=if z.length<=sizeLine then some (.str (Txt.slice z lo hi)) else none:=rfl
theorem Y9 {lo hi:Option Int}:xX (.lst ds) lo hi=some (.lst (dU ds lo hi)):=rfl
end
noncomputable def Step (J:Env->Mm->Prop) (Q:OS->Prop):OS->Prop
 |some (.nx e,M)=>J e M
 |some (.ct e,M)=>J e M
 |some (.bk e,M)=>Q (some (.nx e,M))
 |some (.rt d,M)=>Q (some (.rt d,M))
 |some (.ex c n,M)=>Q (some (.ex c n,M))
 |none=>False
theorem w6 {i:Nat}{body:S}{ds:List D}{env:Env}{M:Mm}(Q:OS->Prop)(J:Nat->Env->Mm->Prop)(h0:J 0 env M)
    (hs:∀(k:Nat) d env M,ds[k]? =some d->J k env M->i<env.length/\Step (J (k + 1)) Q (body (env.set i (.val d)) M)) (hd:∀env M,J ds.length env M->Q (some (.nx env,M))):Q (loopS i body ds env M):=by
  have key:∀(m k:Nat) (env:Env) (M:Mm),m + k=ds.length->J k env M->Q (loopS i body (ds.drop k) env M):=by
    intro m
    induction m with
    |zero=>
      intro k env M hk hJ;have e:k=ds.length:=by omega
      subst e;rw[xck];exact hd env M hJ
    |succ m ih=>
      intro k env M hk hJ;have hlt:k<ds.length:=by omega
      obtain⟨hi,h1⟩:=hs k ds[k] env M (xae hlt) hJ;rw[xbE hlt];simp only[loopS,hi,xaP]
      cases e:body (env.set i (.val ds[k])) M with
      |none=>rw[e]at h1;exact h1.elim
      |some o=>
        rw[e]at h1;obtain⟨o,M'⟩:=o
        cases o with
        |nx e'=>exact ih (k + 1) e' M' (by omega) h1
        |ct e'=>exact ih (k + 1) e' M' (by omega) h1
        |bk e'=>exact h1
        |rt d=>exact h1
        |ex c n=>exact h1
  have:=key ds.length 0 env M (by omega) h0
  rwa [List.drop_zero]at this
end E3
namespace E3
open PySem PySem.Spec PyProof.Rows L2
noncomputable def XN (H:Hp) (n:Int):Option Addr->Prop
 |none=>n=0
 |some d=>∃fs,H d=some (.xd fs)/\fs.lookup ("at":Str)=some (.int (n - 1))/\n≠0
noncomputable def XQ (K:Fgx) (mg:Mgx) (P:Pl) (H:Hp) (M':Mm) (Q:VK) (E:XK):Res->Prop
 |.v d=>∀P' v H',LtE P H P' H'->Hk K mg P' H' M'->Is K P' H' d v->Q v H'
 |.x c n=>∀P' H' C dx,LtE P H P' H'->Hk K mg P' H' M'->mg c=some (.ref C)->XN H' n dx->E (.ref C) dx H'
noncomputable def xY (K:Fgx) (mg:Mgx) (n:Nat) (g:G):Sp:=fun vs H Q E=>vs.length=n/\∃P M ds r M',Hk K mg P H M/\aD K P H ds vs/\g ds M=some (r,M')/\XQ K mg P H M' Q E r
mutual
theorem Is.away {K:Fgx}{P:Pl}{H H':Hp}(s:∀b o,H b=some o->(∀g,o≠ .ext g)->H' b=some o):∀{d:D} {v:V},Is K P H d v->Is K P H' d v
  |.non,_,h=>h
  |.bl _,_,h=>h
  |.int _,_,h=>h
  |.str _,_,h=>h
  |.tup ds,_,h=>by
    obtain⟨a,vs,e,q,r⟩:=h;refine⟨a,vs,e,?_,aD.away s r⟩;rcases q with(q |⟨o,q⟩) |q
    · exact .inl (.inl (s _ _ q fun _ z=>nomatch z))
    · exact .inl (.inr ⟨o,s _ _ q fun _ z=>nomatch z⟩)
    · exact .inr q
  |.lst ds,_,h=>by
    obtain⟨a,vs,e,q,r⟩:=h;refine⟨a,vs,e,?_,aD.away s r⟩;rcases q with⟨n,q |⟨o,q⟩⟩ |q
    · exact .inl ⟨n,.inl (s _ _ q fun _ z=>nomatch z)⟩
    · exact .inl ⟨n,.inr ⟨o,s _ _ q fun _ z=>nomatch z⟩⟩
    · exact .inr q
  |.ref k,_,h=>h
theorem aD.away {K:Fgx}{P:Pl}{H H':Hp}(s:∀b o,H b=some o->(∀g,o≠ .ext g)->H' b=some o):∀{ds:List D} {vs:List V},aD K P H ds vs->aD K P H' ds vs
  | [],_,h=>h
  |_::_,_,h=>by
    obtain⟨v,r,e,p,q⟩:=h;exact⟨v,r,e,Is.away s p,aD.away s q⟩
end
theorem Hk.away {K:Fgx}{mg:Mgx}{P:Pl}{H H':Hp}{M:Mm}(h:Hk K mg P H M)(s:∀b o,H b=some o->(∀g,o≠ .ext g)->H' b=some o)(t:∀b,H' b=none->H b=none):Hk K mg P H' M:=by
  refine⟨h.n,fun k c e=>?_,h.inj,h.bd,fun a z q=>h.here a z (t a q)⟩;have:=h.cell k c e
  cases c with
  |lst ds=>
    obtain⟨vs,e1,q⟩:=this;exact⟨vs,s _ _ e1 (fun _ z=>nomatch z),aD.away s q⟩
  |obj c fs=>
    obtain⟨C,dx,gs,e1,e2,e3,q⟩:=this;exact⟨C,dx,gs,e1,s _ _ e2 (fun _ z=>nomatch z),e3,aD.away s q⟩
  |dct kvs=>
    obtain⟨vs,e1,e2,q⟩:=this;exact⟨vs,s _ _ e1 (fun _ z=>nomatch z),e2,aD.away s q⟩
  |dcf kvs=>
    obtain⟨vs,ob,es,ep,e1,eD,e2,q⟩:=this;exact⟨vs,ob,es,ep,s _ _ e1 (fun _ z=>nomatch z),eD,e2,aD.away s q⟩
  |fn i caps=>exact lD.up this (fun b o u e=>s b _ e fun _ z=>nomatch z) fun _ _ q=>aD.away s q
  |tbl nm i=>
    obtain⟨c,ps,e1,e2,e3⟩:=this;exact⟨c,ps,e1,s _ _ e2 (fun _ z=>nomatch z),e3.imp id fun⟨c',z,q⟩=>⟨c',z,q.up fun b o u e=>s b _ e fun _ z=>nomatch z⟩⟩
structure XFit (X:Cx)(Wx:XW):Prop where
 xr:∀pins σ H s a C dx c n P0 H0 P M,Inv X pins σ H s->H a=some (xo a C dx true)->¬ P.bd a->H0 a=none->LtE P0 H0 P H->Hk X.K X.mg P H M->X.mg c=some (.ref C)->XN H n dx->Wx P0 H0 M c n->X.xe (.ref a) s
section
variable {X:Cx}{Wx:XW}{pos:Pos}
noncomputable def p7 (c:Str) (f:E):S:=fun env M=>bY (f env M) fun _ M1=>some (.ex c 0,M1)
theorem Lk (F:XFit X Wx)(hc:X.calm=true)(m:X.mg c=some (.ref C))(q1:bW X.K C=true)(q2:Bj X.K C=true)(kp:PySem.W.keepIn X.K (.ref C)=true)(hg:Gl X c)(he:SE X Wx .val e f)(hdb:(c==("__debug__":Str))=false:=by x_go)
  (hs:starEach [e] X.env=[(false,eval e X.env)]:=by rfl):SS X Wx (.Raise (some (.Call (.Name c p) [e] [] q)) none pos) (p7 c f):=by
 refine fP (zaY (W:=fun a C' dx H=>dx=none/\C'=C/\∃P0 H0 P M,¬ P.bd a/\H0 a=none/\LtE P0 H0 P H/\Hk X.K X.mg P H M/\Wx P0 H0 M c 0) (zaW q1 q2 kp hg m he hdb hs) hc fun pins σ H s a C' dx I ea ⟨e1,e2,P0,H0,P,M,b,n,l,h,w⟩=>?_) ?_
 ·subst e1 e2;exact F.xr pins σ H s a _ none c 0 P0 H0 P M I ea b n l h m rfl w
 ·rintro D st H ⟨P0,H0,P,Os,env,M,out,M',k,e,q⟩;unfold p7 at e;rcases gJ e with⟨d,M1,e1,e⟩ |⟨c,n,e1,rfl⟩
  ·cases e;refine⟨P0,H0,P,Os,env,M,_,_,k,e1,fun P1 v H1 l1 h1 i1=>⟨rfl,fun a ha=>⟨a,C,none,rfl,bU,q1,rfl,rfl,P0,H0,P1,_,h1.new a ha,?_,?_,?_,q⟩⟩⟩
   ·exact k.base.sure a (l1.sure a ha)
   ·exact k.base.trans (l1.trans (LtE.same (vU ha)))
   ·exact h1.same (vU ha)
  ·exact⟨P0,H0,P,Os,env,M,_,_,k,e1,q⟩
end
section
variable {P:Program}{w:World}{K:Fgx}{mg:Mgx}{base:Heap}{k:Nat}{x qual:Str}{st:Stmt}{f:Addr}{fd:FuncData}{N ps:List Str}{b:S}
abbrev d8 (P:Program)(w:World)(K:Fgx)(mg:Mgx)(base:Heap)(N:List Str)(qual:Str)(st:Stmt)(f:Addr)(cdv:Value)(A:Around)(outer:List PySem.Env)(s:Shared)(H:Hp)(E:XK):Cx:=cV (fY P w) P w K mg base N qual (aL st) f cdv A outer s H E
end
section
variable {P:Program}{w:World}{K:Fgx}{mg:Mgx}{base:Heap}{k:Nat}{x qual:Str}{st:Stmt}{f:Addr}{fd:FuncData}{N ps:List Str}{b:S}
theorem Wj (F:FnOk P w K mg base (fY P w) k f fd ps sp):FnOk P w K mg base gn k f fd ps (fun vs H Q _=>sp vs H Q E0):=
 ⟨fun vs H Q E h=>F.len vs H Q E0 h,fun A outer s H args us vs Q E hr he hb hv hs=>xbO (F.run A outer s H args us vs Q E0 hr he hb hv hs) fun r s' z=>by
  cases r with
  |error e=>obtain⟨_,_,_,_,_,_,_,_,_,_,_,_,_,_,z⟩:=z;exact z
  |ok fl=>cases fl<;>exact z⟩
theorem Hf (F:FnOk P w K mg base (fY P w) k f fd ps (xY K mg n g)):FnOk P w K mg base gn k f fd ps (rA K mg n g):=by
 have F0:=Wj F;refine⟨fun vs H Q E h=>F0.len vs H Q E ?_,fun A outer s H args us vs Q E hr he hb hv hs=>F0.run A outer s H args us vs Q E hr he hb hv ?_⟩
 ·obtain⟨hl,P,M,ds,d,M',hk,is,e,q⟩:=h;exact⟨hl,P,M,ds,.v d,M',hk,is,e,q⟩
 ·obtain⟨hl,P,M,ds,d,M',hk,is,e,q⟩:=hs;exact⟨hl,P,M,ds,.v d,M',hk,is,e,q⟩
def fB (P:Program)(w:World)(K:Fgx)(mg:Mgx)(base:Heap)(k:Nat)(C:Addr)(m:Str)(n:Nat)(g:G):Prop:=
 ∃f fd ps,Meth K C m f/\FnOk P w K mg base (fY P w) k f fd ps (xY K mg n g)/\Binds K fd ps []
def fu (P:Program)(w:World)(K:Fgx)(mg:Mgx)(base:Heap)(k:Nat)(C:Addr)(n:Nat)(g:G):Prop:=
 ∃f fd ps,Mk K C f/\FnOk P w K mg base (fY P w) k f fd ps (xY K mg n g)/\Binds K fd ps []
def dz (P:Program)(w:World)(K:Fgx)(mg:Mgx)(base:Heap)(k:Nat)(f:Str)(n:Nat)(g:G):Prop:=
 ∃fa fd ps,mg f=some (.ref fa)/\PySem.W.keepIn K (.ref fa)=true/\FnOk P w K mg base (fY P w) k fa fd ps (xY K mg n g)/\Binds K fd ps []
theorem fB.quiet (a:fB P w K mg base k C m n g):lA P w K mg base k C m n g:=by
 obtain⟨f,fd,ps,h1,h2,h3⟩:=a;exact⟨f,fd,ps,h1,Hf h2,h3⟩
theorem fu.quiet (a:fu P w K mg base k C n g):lu P w K mg base k C n g:=by
 obtain⟨f,fd,ps,h1,h2,h3⟩:=a;exact⟨f,fd,ps,h1,Hf h2,h3⟩
theorem dz.quiet (a:dz P w K mg base k x n g):bf P w K mg base k x n g:=by
 obtain⟨fa,fd,ps,h1,h2,h3,h4⟩:=a;exact⟨fa,fd,ps,[],[],_,h1,h2,Hf h3,h4,.nil,fun vs H Q E h=>by rw[xaR];exact h⟩
theorem fB.mono (a:fB P w K mg base j C m n g)(h:j<=k):fB P w K mg base k C m n g:=by
 obtain⟨f,fd,ps,h1,h2,h3⟩:=a;exact⟨f,fd,ps,h1,h2.mono h,h3⟩
theorem fu.mono (a:fu P w K mg base j C n g)(h:j<=k):fu P w K mg base k C n g:=by
 obtain⟨f,fd,ps,h1,h2,h3⟩:=a;exact⟨f,fd,ps,h1,h2.mono h,h3⟩
theorem dz.mono (a:dz P w K mg base j x n g)(h:j<=k):dz P w K mg base k x n g:=by
 obtain⟨f,fd,ps,h1,h2,h3,h4⟩:=a;exact⟨f,fd,ps,h1,h2,h3.mono h,h4⟩
end
end E3
namespace L2
open PySem PySem.Spec PyProof.Rows
section
variable {X:Cx}{CX:eV}{k:Nat}{f C:Addr}{fd:FuncData}{ps:List Str}{sp:Sp}{x m:Str}{p pos apos:Pos}{e o:Expr}{es:List Expr}{ta:TE}{t:TA}{Ex:St->XK}
def Fq (CX:eV)(X:Cx)(Ex:St->XK):Prop:=∀pins σ H s e s',Inv X pins σ H s->CX X.stack H s (Ex σ) e s'->X.xe e s'
end
end L2
namespace E3
open PySem PySem.Spec PyProof.Rows L2
section
variable {X:Cx}{Wx:XW}{pos:Pos}
def SX (X:Cx)(e:Expr)(f:E):Prop:=∀Ex:L2.St->XK,Fq (fY X.prog X.w) X Ex->PE X e fun st H Q=>∃P0 H0 P Os env M r M',Ok X.K X.mg P0 H0 P Os H M st env/\f env M=some (r,M')/\XQ X.K X.mg P H M' Q (Ex st) r
theorem XQ.lt {K:Fgx}{mg:Mgx}{P P1:Pl}{H H1:Hp}{M':Mm}{Q:VK}{E:XK}{r:Res}(l:LtE P H P1 H1)(q:XQ K mg P H M' Q E r):XQ K mg P1 H1 M' Q E r:=by
 cases r with
 |v d=>exact fun P' v H' l' h i=>q P' v H' (l.trans l') h i
 |x c n=>exact fun P' H' C dx l' h m xn=>q P' H' C dx (l.trans l') h m xn
noncomputable def nG (g:G) (fs:EA):E:=fun env M=>match fs env M with
 |some (.v ds,M1)=>g ds M1
 |_=>none
theorem wj (a:dz X.prog X.w X.K X.mg X.base k f n g)(hr:Room k X.A)(hg:Gl X f)(ha:SA X W0 .val (e::es) fs)(hn:rJ n fs)(hdb:(f==("__debug__":Str))=false:=by x_go)
  (he:starEach (e::es) X.env=(false,eval e X.env)::starEach es X.env:=by rfl) (hpl:(backTo pos (starEach es X.env)).any (·.1)=false:=by rfl):SX X (.Call (.Name f p) (e::es) [] pos) (nG g fs):=by
 obtain⟨fa,fd,ps,hm,hk,F,hb⟩:=a;intro Ex hx;refine cj (ZQ F hr hg hm hk hb .nil hx ha hdb he hpl) ?_;rintro st H Q ⟨P0,H0,P,Os,env,M,r,M',k,e,q⟩;unfold nG at e;split at e
 ·rename_i ds M1 e1;exact ⟨P0,H0,P,Os,env,M,_,_,k,e1,fun P1 vs H1 l1 h1 i1=>by
   dsimp only;rw[xaR];exact⟨by rw[i1.len];exact hn _ _ _ _ e1,P1,M1,ds,r,_,h1,i1.iss,e,q.lt l1⟩⟩
 ·cases e
noncomputable def Bo (K:Fgx) (mg:Mgx) (E:XK) (P0:Pl) (H0:Hp) (P:Pl) (H:Hp) (M':Mm) (D:Ends):Out->Prop
 |.ex c n=>∀P' H' C dx,LtE P H P' H'->Hk K mg P' H' M'->mg c=some (.ref C)->XN H' n dx->E (.ref C) dx H'
 |.nx env=>Post K mg W0 P0 H0 P H M' D (.nx env)
 |.bk env=>Post K mg W0 P0 H0 P H M' D (.bk env)
 |.ct env=>Post K mg W0 P0 H0 P H M' D (.ct env)
 |.rt d=>Post K mg W0 P0 H0 P H M' D (.rt d)
theorem Bo.lt {K:Fgx}{mg:Mgx}{E:XK}{P0 P P1:Pl}{H0 H H1:Hp}{M M':Mm}{D:Ends}{o:Out}(h:Hk K mg P H M)(l:LtE P H P1 H1)(q:Bo K mg E P0 H0 P H M' D o):Bo K mg E P0 H0 P1 H1 M' D o:=by
 cases o with
 |ex c n=>exact fun P' H' C dx l' h m xn=>q P' H' C dx (l.trans l') h m xn
 |nx env=>exact Post.lt (Wx:=W0) (o:=.nx env) (l.lt h) q
 |bk env=>exact Post.lt (Wx:=W0) (o:=.bk env) (l.lt h) q
 |ct env=>exact Post.lt (Wx:=W0) (o:=.ct env) (l.lt h) q
 |rt d=>exact Post.lt (Wx:=W0) (o:=.rt d) (l.lt h) q
noncomputable def Lz (K:Fgx) (mg:Mgx) (Ex:L2.St->XK) (b:S):TS:=fun D st H=>∃P0 H0 P Os env M out M',Ok K mg P0 H0 P Os H M st env/\b env M=some (out,M')/\Bo K mg (Ex st) P0 H0 P H M' D out
def Fz (X:Cx)(s:Stmt)(b:S):Prop:=∀Ex:L2.St->XK,Fq (fY X.prog X.w) X Ex->PS X s (Lz X.K X.mg Ex b)
def BX (X:Cx)(ss:List Stmt)(b:S):Prop:=∀Ex:L2.St->XK,Fq (fY X.prog X.w) X Ex->eF X ss (Lz X.K X.mg Ex b)
theorem Gz (h:Fz X s b):BX X [s] b:=fun Ex hx=>zbH (h Ex hx)
theorem Uu (h:SX X e f)(hs:swapsWith e none pos.line X.env=pure false:=by rfl):Fz X (.Expr e pos) (nJ f):=by
 intro Ex hx;refine fP (z6 (h Ex hx) hs) ?_;rintro D st H ⟨P0,H0,P,Os,env,M,out,M',k,e,q⟩;unfold nJ at e;rcases gJ e with⟨d,M1,e1,e⟩ |⟨c,n,e1,rfl⟩
 ·cases e;exact⟨P0,H0,P,Os,env,M,_,_,k,e1,fun P1 v H1 l1 h1 i1=>q _ _ _ _ (l1.lt k.hk) (k.next l1 h1)⟩
 ·exact⟨P0,H0,P,Os,env,M,_,_,k,e1,q⟩
noncomputable def gG (c:E) (f g:S):S:=fun env M=>match c env M with
 |some (.v (.bl b),M1)=>if b=true then f env M1 else g env M1
 |_=>none
theorem zeT (hc:ST X W0 c t)(ha:BX X a f)(hb:BX X b g):Fz X (.If c a b pos) (gG t f g):=by
  intro Ex hx;refine fP (Rq hc (ha Ex hx) (hb Ex hx)) ?_;rintro D st H ⟨P0,H0,P,Os,env,M,out,M',k,e,q⟩;unfold gG at e;split at e
  · rename_i b M1 e1;refine eZ k e1 ⟨b,rfl,fun P1 H1 l1 h1=>?_⟩
    cases b with
    |true=>
      rw[xab rfl]at e ⊢;exact⟨P0,H0,P1,Os,env,M1,_,_,k.next l1 h1,e,q.lt k.hk l1⟩
    |false=>
      rw[xaf (by decide)]at e ⊢;exact⟨P0,H0,P1,Os,env,M1,_,_,k.next l1 h1,e,q.lt k.hk l1⟩
  · cases e
end
end E3
namespace L2
open PySem PySem.Spec PyProof.Rows
section
variable {prog:Program}{w:World}{A:Around}{E:Value->Shared->Prop}{s:Shared}{K:Fgx}{x C:Addr}{ox:Obj}{od:Option Obj}{name:Str}{tk:Tok}
theorem Wd (hc:(PySem.W.clsIn K C).isSome=true)(ha:PySem.W.findIn K (.ref C) name=some (some a))(hg:PySem.W.specialIn K a "__get__"=some (some g))(ht:PySem.W.takesIn K a=some true):PySem.W.findObj K C od name=some (.bind g a):=by
 obtain⟨cd,hc⟩:=xcW.mp hc;unfold PySem.W.findObj;rw[hc,Option.bind_some,ha,Option.bind_some]
 simp[hg,ht]
theorem zaX (X:K.In s.heap)(q:wC K C=true)(I:PySem.W.InstAt s.heap x ox C od)(h1:PySem.W.hasDictIn K C=true)(h2:PySem.W.findIn K (.ref C) "__class__"=some (some (.builtin "object.__class__")))
  (h3:PySem.W.specialIn K (.builtin "object.__class__") "__get__"=some (some (.builtin "getset_descriptor.__get__"))) (h4:PySem.W.takesIn K (.builtin "object.__class__")=some true) (h5:PySem.W.mroIn K C (.type "object")=some true)
  (k:Q (some (.ref C)) {s with toks:=s.toks + 1}):wpAny (model prog w) A (getAttr? (.ref x) "__class__") Q E s:=by
 have hf:PySem.W.findObj K C od "__class__"=some (.bind (.builtin "getset_descriptor.__get__") (.builtin "object.__class__")):=Wd (by obtain⟨cd,hc,_⟩:=xcU h1;rw[hc];rfl) h2 h3 h4;unfold getAttr? getAttrBy?;refine tG (wpAny_mkText (tG (xcj (MP (s:={s with toks:=s.toks + 1}) X q I ?_))));refine zbO (s:={s with toks:=s.toks + 1}) X I hf (xcq (PySem.W.class_get (s:={s with toks:=s.toks + 1}) X I h5 ?_));exact PySem.W.handed_on rfl (xaj k)
end
def RK (K:Fgx):List V->Hp->VK->Prop:=fun xs H Q=>∃a C dx b0 c cv b,xs=[.ref a,cv]/\H a=some (xo a C dx b0)/\sY K C=true/\(∀d,dx=some d->∃fs,H d=some (.xd fs))/\nZ cv=some c/\PySem.W.kitOne K (.ref C) c=some b/\Q (.bl b) H
theorem Vz:dN X (.builtin "isinstance") (RK X.K):=by
  intro pins s σ H vs us Q I r h;obtain⟨a,C,dx,b0,c,cv,b,rfl,ea,q,hdx,hc,hk,hq⟩:=h;simp only[sY,xam,xaY]at q;obtain⟨q1,q2,q3,q4,q5,q6⟩:=q;obtain⟨oe,ws,t,e1,e2,e3,e4,_⟩:=Eu I.hok ea;have J:∃od,PySem.W.InstAt s.heap a oe C od:=by
    cases dx with
    |none=>exact⟨none,e1,e2,by unfold PySem.W.notCls;rw[e4],by rw[e3];exact True.intro⟩
    |some d=>
      obtain⟨fs,ed⟩:=hdx d rfl;obtain⟨mA,n,_⟩:=(show cX X.prog X.w H s.heap d (.xd fs) from I.hok d _ ed);obtain⟨od,d1,_⟩:=Qn n;exact⟨some od,e1,e2,by unfold PySem.W.notCls;rw[e4],by rw[e3];exact d1⟩
  obtain⟨od,J⟩:=J;have Z:PySem.W.KitX X.K (.ref a) (.ref C) (fun h=>PySem.W.InstAt h a oe C od):=by
    obtain⟨cd0,hc0,_⟩:=xcU q2;have lk0:∃c' d' cd' sl',X.K.lookup C=some ⟨c',d',.cls cd',sl'⟩:=by
      unfold PySem.W.clsIn at hc0;split at hc0
      · rename_i ho;exact⟨_,_,_,_,ho⟩
      · cases hc0
    obtain⟨c',d',cd',sl',ho⟩:=lk0;refine⟨fun _ _ _ I=>I.type,fun _ _ XX _=>?_,fun h tp dd its n sl XX ht=>Bool.eq_false_iff.mpr fun z=>?_,fun XX I k=>zaX XX q1 I q2 q3 q4 q5 q6 k⟩
    · intro A' Q' E' s' k z;unfold isType loadHead;exact tG (wpAny_loadPart (k _ _ (XX _ _ ho)) (xaj z))
    · have z:=xaY.mp z;cases z;have y:=(XX _ _ ho).symm.trans ht;cases y
  cases r with
  |cons r1 r2=>
    cases r2 with
    |cons r3 r4=>
      cases r4;cases r1;rw[Vf r3 hc];exact xaK Z I.kIn J hk (fun z=>nomatch z) fun tk=>⟨.bl b,H,I.tok tk,rfl,hq⟩
end L2
namespace E3
open PySem PySem.Spec PyProof.Rows L2
section
variable {K:Fgx}{mg:Mgx}{P0 P:Pl}{H0 H:Hp}{M:Mm}{Os:List (Option Addr)}{st:L2.St}{env:Env}{i:Nat}
theorem Ok.put (k:Ok K mg P0 H0 P Os H M st env)(hi:i<env.length)(h:FJ K mg P H none sv s):Ok K mg P0 H0 P (Os.set i none) H M (st.set i sv) (env.set i s) where
 hk:=k.hk
 base:=k.base
 b0:=k.b0
 slot:=fun j s e=>by
  rw[vY _ _ _ _ (by rw[k.olen];exact hi),vY _ _ _ _ (by rw[k.slen];exact hi)];rw[xaL]at e;split at e
  ·rename_i ij;subst ij;cases e;rw[xab rfl,xab rfl];exact h
  ·rename_i ij;rw[xaf ij,xaf ij];exact k.slot j s e
 own := fun a h => k.own a (by
  rcases xb7 h with h |h
  ·exact h
  ·cases h)
 inj:=fun j l a e1 e2=>by
  rw[xaL]at e1 e2;split at e1
  ·split at e1<;>cases e1
  ·split at e2
   ·split at e2<;>cases e2
   ·exact k.inj j l a e1 e2
 olen:=by rw[xaG,xaG,k.olen]
 slen:=by rw[xaG,xaG,k.slen]
end
section
variable {X:Cx}{Wx:XW}{m:Mode}{pos:Pos}
noncomputable def p8 (i:Nat) (cat:Str->Bool) (b h:S):S:=fun env M=>match b env M with
  | some (.ex c n, M1) => if cat c = true then (if i < env.length then (match h (env.set i (.exc c n)) M1 with
    | some (.nx env', M2) => (match env'[i]? with
      |some (.exc _ _)=>some (.nx (env'.set i .un),M2)
      |_=>none)
    |some (.rt d,M2)=>some (.rt d,M2)
    |_=>none) else none) else none
  |o=>o
theorem zcY 
    (hs:X.stack=X.env::X.outer) (hf:X.env.frame=some X.env.locals) (hc:X.calm=true) (hN:X.N.Nodup) (hi:X.N[i]? =some n) (hl:X.env.scope.names.lookup n=some .local) (hg:Gl X cn) (hm:X.mg cn=some (.ref c)) (q:bW X.K c=true)
    (hcat:∀c',cat c'=true->∃C,X.mg c'=some (.ref C)/\bW X.K C=true/\wg X.K C c=true) (hb:∀pins E,BX (X.pin pins E) body b) (hh:∀e,SB (X.suite e) W0 (b0::suite) h) (hdb:(cn==("__debug__":Str))=false:=by x_go):
    SS X Wx (.Try body [.ExceptHandler (some (.Name cn np)) (some n) (b0::suite) hp] [] [] pos) (p8 i cat b h):=by
  let Ex:Ends->L2.St->XK:=fun D σ Cv dx H'=>∀a C,Cv=.ref C->H' a=some (xo a C dx false)->bW X.K C=true/\wg X.K C c=true/\tS X.K X.mg W0 h {D with nx:=fun σ H=>∃v,σ[i]? =some (some v)/\D.nx (σ.set i none) H,bk:=fun _ _=>False,ct:=fun _ _=>False} (σ.set i (some (.ref a))) H'
  refine fP (zb4 (tb:=fun D=>Lz X.K X.mg (Ex D) b) (th:=tS X.K X.mg W0 h) hs hf hc hN hi hl hg hm q hdb (fun pins D=>hb pins _ (Ex D) fun pins' σ H s e s' I z=>?_) hh) ?_
  · obtain⟨a,C,dx,H',T,rfl,K1,hE⟩:=Nx (X:=X) I.of_pin z;obtain⟨z1,z2,z3⟩:=hE a C rfl K1.obj;exact⟨σ,H',a,C,dx,T,rfl,K1,z1,z2,z3⟩
  · rintro D st H ⟨P0,H0,P,Os,env,M,out,M',k,e,q⟩;unfold p8 at e;split at e
    · rename_i c' n' M1 e1;split at e
      · rename_i hct;split at e
        · rename_i hil;obtain⟨C,hmC,x1,x2⟩:=hcat c' hct;refine⟨P0,H0,P,Os,env,M,_,_,k,e1,fun P1 H1 C1 dx l1 h1 m1 xn a C2 eC ea=>?_⟩;cases eC;cases hmC.symm.trans m1;have k1:=(k.next l1 h1).put (s:=.exc c' n') (sv:=some (.ref a)) hil ⟨_,rfl,a,C,dx,rfl,m1,ea,xn⟩
          refine⟨x1,x2,?_⟩;split at e
          · rename_i env' M2 e2;split at e
            · rename_i c3 n3 ex;cases e;refine⟨P0,H0,P1,_,_,M1,_,_,k1,e2,fun P2 Os2 H2 st2 l2 k2=>?_⟩;obtain⟨v,ev,_⟩:=k2.slot i _ ex;exact⟨v,mL ev,q P2 _ H2 _ ((l1.lt k.hk).trans l2) (k2.put (s:=.un) (sv:=none) (xad.mp ex).1 True.intro)⟩
            · cases e
          · rename_i d M2 e2;cases e;exact⟨P0,H0,P1,_,_,M1,_,_,k1,e2,q⟩
          · cases e
        · cases e
      · cases e
    · rename_i o hne;refine⟨P0,H0,P,Os,env,M,_,_,k,e,?_⟩
      cases out with
      |ex c n=>exact absurd e (hne c n M')
      |nx env=>exact q
      |bk env=>exact q
      |ct env=>exact q
      |rt d=>exact q
noncomputable def mR (i:Nat) (tb:Str->Option Bool):E:=fun env M=>match env[i]? with
 |some (.exc c _)=>(tb c).map fun b=>(.v (.bl b),M)
 |_=>none
def yw (X:Cx)(u:Value)(tb:Str->Option Bool):Prop:=∀c b,tb c=some b->∃C,X.mg c=some (.ref C)/\sY X.K C=true/\PySem.W.kitOne X.K (.ref C) u=some b
theorem W3 {i:Nat}{tb:Str->Option Bool}{u:Value}{cv:V}{st:L2.St}{H:Hp}{Q:VK}(hu:nZ cv=some u)(ht:yw X u tb)(w:tE X.K X.mg Wx m (mR i tb) st H Q):∃v,st[i]? =some (some v)/\RK X.K [v,cv] H Q:=by
 obtain⟨P0,H0,P,Os,env,M,r,M',k,e,q⟩:=w;unfold mR at e;split at e
 ·rename_i c n hs;rw[xac]at e;obtain⟨b,eb,e⟩:=e;cases e;obtain⟨v,ev,a,C,dx,rfl,m1,ea,xn⟩:=k.slot i _ hs;obtain⟨C2,m2,x2,k2⟩:=ht c b eb;cases m1.symm.trans m2;refine⟨_,mL ev,a,C,dx,false,u,cv,b,rfl,ea,x2,fun d hd=>?_,hu,k2,q P _ H (LtE.refl P H) k.hk (cG.of k.hk (show Is _ _ _ (.bl b) _ from rfl))⟩;subst hd;obtain⟨fs,ed,_⟩:=xn;exact⟨fs,ed⟩
 ·cases e
theorem zb0 {i:Nat}{x:Str}{T:String}{tb:Str->Option Bool}{p p' p2:Pos}(hN:X.N[i]? =some x)(hv:X.env.scope.names.lookup x=some .local)(ht:yw X (.type T) tb)(hg:Gl X "isinstance")(hm:X.mg "isinstance"=none)(hg':Gl X (Str.ofString T))(hm':X.mg (Str.ofString T)=none)(hT:bootBuiltins (Str.ofString T)=some (.type T))(hd:(x==("__debug__":Str))=false:=by x_go)(hcd:(x==("__classdict__":Str))=false:=by x_go)
  (n1:Str.ofString T≠"__name__":=by x_go) (n2:(Str.ofString T==("__debug__":Str))=false:=by x_go)
  (hs:starEach [.Name x p2,.Name (Str.ofString T) p'] X.env=(false,eval (.Name x p2) X.env)::starEach [.Name (Str.ofString T) p'] X.env:=by rfl):SE X Wx m (.Call (.Name "isinstance" p) [.Name x p2,.Name (Str.ofString T) p'] [] pos) (mR i tb):=by
 refine cj (J1 Vz hg hm boot_isinstance (pQ (zW hN (.inl hv) hd hcd) (pQ (Rf hg' hm' hT (v:=.ty T) rfl n1 n2) vd) hs) (by x_go) (by x_go) hs rfl) ?_;intro st H Q w;exact W3 rfl ht w
end
section
variable {X:Cx}{Wx:XW}{m:Mode}{pos:Pos}
noncomputable def Aj (f:E):S:=fun env M=>bY (f env M) fun d M1=>match d with
  | .ref j => (match M1[j]? with
    |some (.lst _)=>some (.nx env,M1.set j (.lst []))
    |_=>none)
  |_=>none
theorem zbP {o:Expr}{f:E}{p q:Pos}(ho:SE X Wx .val o f)(hbase:attributeBase o "clear" X.env (eval o X.env)=eval o X.env:=by rfl)
  (hline:(p.endLine==q.line)=true:=by rfl) (hw:swapsWith (.Call (.Attribute o "clear" p) [] [] q) none pos.line X.env=pure false:=by rfl):
  SS X Wx (.Expr (.Call (.Attribute o "clear" p) [] [] q) pos) (Aj f):=by
 refine fP (z6 (Rg xbn PySem.F.slot_list_clear PySem.F.type_list_clear XM ho hbase hline) hw) ?_;rintro D st H ⟨P0,H0,P,Os,env,M,out,M',k,e,q⟩;unfold Aj at e;rcases gJ e with⟨d,M1,e1,e⟩ |⟨c,n,e1,rfl⟩
 ·cases d<;>simp only[reduceCtorEq]at e
  rename_i j;split at e
  ·rename_i ds em;cases e;refine⟨P0,H0,P,Os,env,M,_,_,k,e1,fun P1 v1 H1 l1 h1 i1=>?_⟩;obtain⟨jl,rfl⟩:j<P1.n/\v1=.ref (P1.io j):=i1;obtain⟨vs,ev,_⟩:=h1.cell j _ em;refine⟨.inl ⟨rfl,vs,.inl (.inl ev)⟩,_,vs,rfl,rfl,ev,?_⟩;obtain⟨l3,l3e,h3⟩:=h1.set (c':=.lst []) (o':=.lst []) em ⟨[],bU,rfl⟩;exact q _ _ _ _ ((l1.lt k.hk).trans l3) ((k.next l1 h1).next l3e h3)
  ·cases e
 ·exact⟨P0,H0,P,Os,env,M,_,_,k,e1,q⟩
end
theorem zcW {K:Fgx}{C:Addr}(h1:PySem.W.findIn K (.ref C) "__getattribute__"=some (some (.builtin "BaseException.__getattribute__")))(h2:PySem.W.findIn K (.ref C) "__getattr__"=some none)(h3:PySem.W.mroIn K C (.type "BaseException")=some true):wC K C=true:=by
 simp only[wC,h1,h2,h3,xbg,xbC]
theorem zdj {K:Fgx}{C:Addr}(h1:wC K C=true)(h2:PySem.W.hasDictIn K C=true)(h3:PySem.W.findIn K (.ref C) "__class__"=some (some (.builtin "object.__class__")))(h4:PySem.W.specialIn K (.builtin "object.__class__") "__get__"=some (some (.builtin "getset_descriptor.__get__")))
  (h5:PySem.W.takesIn K (.builtin "object.__class__")=some true) (h6:PySem.W.mroIn K C (.type "object")=some true):sY K C=true:=by
 simp only[sY,h1,h2,h3,h4,h5,h6,xbg,xbC]
end E3
namespace E3
open PySem L2
section
variable {env:Env}{M M1 M2:Mm}{f g o v:E}{d e x:D}{i:Int}{k:Nat}{ds:List D}{s t:S}{c me fl:Str}{fs:List (Str×D)}{gg:G}{fa:EA}
theorem JT (h:M[k]? =some (.obj c fs)):u_ M c (.ref k)=some (k,fs):=by unfold u_;simp only[h,xaP]
theorem Ow (h1:o env M=some (.v (.ref k),M1))(h2:M1[k]? =some (.obj c fs))(h3:fs.lookup fl=some x):xO c fl o env M=some (.v x,M1):=by
 simp only[xO,bnd,h1,JT h2,h3,xaD]
theorem Ox (h1:v env M=some (.v x,M1))(h2:o env M1=some (.v (.ref k),M2))(h3:M2[k]? =some (.obj c fs))(h4:fs.length<1000):xT c fl o v env M=some (.nx env,M2.set k (.obj c (putD fl x fs))):=by
 simp only[xT,bY,h1,h2,JT h3,h4,xaP]
theorem QF (h1:o env M=some (.v (.ref k),M1))(h2:M1[k]? =some (.obj c fs))(h3:fs.lookup me=none)(h4:fa env M1=some (.v ds,M2))(h5:gg (.ref k::ds) M2=some (.v x,M3)):sE c me gg o fa env M=some (.v x,M3):=by
 simp only[sE,bnd,h1,JT h2,h3,xaP,cQ,h4,h5]
theorem QD (h4:fa env M=some (.v ds,M1))(h5:gg (.ref M1.length::ds) (M1 ++ [.obj c []])=some (.v .non,M3)):xP c gg fa env M=some (.v (.ref M1.length),M3):=by
 simp only[xP,cQ,h4,h5]
theorem Vr (h1:f env M=some (.v (.ref k),M1))(h2:M1[k]? =some (.lst ds0)):Aj f env M=some (.nx env,M1.set k (.lst [])):=by
 simp only[Aj,bY,h1,h2]
theorem zda {a:Int}:b_ (some (.ex c a,M))=some (.x c a,M):=rfl
end
theorem lu.mono (a:lu P w K mg base j C n g)(h:j<=k):lu P w K mg base k C n g:=by
 obtain⟨f,fd,ps,h1,h2,h3⟩:=a;exact⟨f,fd,ps,h1,h2.mono h,h3⟩
end E3
namespace E3
open PySem PySem.Spec PyProof.Rows L2
theorem sO (hN:X.N[i]? =some x)(hv:wG X.env.scope x)(hd:(x==("__debug__":Str))=false:=by x_go)(hcd:(x==("__classdict__":Str))=false:=by x_go):SE X Wx m (.Name x pos) (aj i):=(Ue hN hv hd hcd).bor
noncomputable def cR (cs:List (Str×Nat)) (env:Env):Env:=cs.map fun p=>(env[p.2]?).getD .un
noncomputable def h_ (cs:List (Str×Nat)) (Os:List (Option Addr)):List (Option Addr):=cs.map fun p=>(Os[p.2]?).join
section
variable {K:Fgx}{mg:Mgx}{P0 P:Pl}{H0 H:Hp}{M:Mm}{Os:List (Option Addr)}{st:L2.St}{env:Env}{d:D}{v:V}
theorem GF {cs:List (Str×Nat)}{i:Nat}{a:Addr}(h:(h_ cs Os)[i]? =some (some a)):∃p,cs[i]? =some p/\Os[p.2]? =some (some a):=by
 unfold h_ at h;rw[xan,xac]at h;obtain⟨p,e,h⟩:=h;exact⟨p,e,mL h⟩
theorem Ok.cap {cs:List (Str×Nat)}(k:Ok K mg P0 H0 P Os H M st env)(nd:(cs.map (·.2)).Nodup)(h:Is K P H d v):Ok K mg P0 H0 P (none::h_ cs Os) H M (some v::iB cs st) (.val d::cR cs env) where
  hk:=k.hk
  base:=k.base
  b0:=k.b0
  slot:=fun i s e=>by
    cases i with
    |zero=>cases e;exact⟨v,rfl,h⟩
    |succ i=>
      rw[xcc]at e ⊢;rw[xcc];unfold cR at e;rw[xan,xac]at e;obtain⟨p,ep,e⟩:=e;have eo:((h_ cs Os)[i]?).join=(Os[p.2]?).join:=by unfold h_;rw[xan,ep];rfl
      have es:((iB cs st)[i]?).join=(st[p.2]?).join:=by unfold iB;rw[xan,ep];rfl
      rw[eo,es]
      cases e':env[p.2]? with
      |none=>rw[e']at e;cases e;exact True.intro
      |some s'=>rw[e']at e;cases e;exact k.slot _ _ e'
  own:=fun a h=>by
    rw[xaJ]at h;rcases h with h |h
    · cases h
    · obtain⟨i,hi⟩:=xde.mp h;obtain⟨p,_,e⟩:=GF hi;exact k.own a (xaw e)
  inj:=fun i j a e1 e2=>by
    cases i with
    |zero=>cases e1
    |succ i=>
      cases j with
      |zero=>cases e2
      |succ j=>
        rw[xcc]at e1 e2;obtain⟨p,h1,h2⟩:=GF e1;obtain⟨q,h3,h4⟩:=GF e2;have e:=k.inj _ _ a h2 h4;congr 1;have hi:(cs.map (·.2))[i]? =some p.2:=by rw[xan,h1];rfl
        have hj:(cs.map (·.2))[j]? =some p.2:=by rw[xan,h3,e];rfl
        have il:=(xad.mp hi).1;exact(List.getElem?_inj il nd).mp (hi.trans hj.symm)
  olen:=by simp[h_,cR]
  slen:=by simp[iB,cR]
end
section
variable {X:Cx}{Wx:XW}{m:Mode}{pos:Pos}
noncomputable def mD (q e:E) (env:Env):List D->List D->Mm->Option (List D×Mm)
  | [],acc,M=>some (acc,M)
  |d::ds,acc,M=>match q (.val d::env) M with
    | some (.v (.bl true), M1) => (match e (.val d::env) M1 with
      |some (.v y,M2)=>if acc.length + 1<sizeLine then mD q e env ds (acc ++ [y]) M2 else none
      |_=>none)
    |some (.v (.bl false),M1)=>mD q e env ds acc M1
    |_=>none
noncomputable def su (cs:List (Str×Nat)) (fs:EA) (q e:E):E:=fun env M=>match fs env M with
  | some (.v ds, M1) => (match mD q e (cR cs env) ds [] M1 with
    |some (ys,M2)=>some (.v (.lst ys),M2)
    |none=>none)
  |some (.x c n,M1)=>some (.x c n,M1)
  |none=>none
theorem Oc:∀env M r M',su cs fs q e env M=some (.v r,M')->∃ds,r=.lst ds:=fun env M r M' h=>by
 unfold su at h;split at h
 ·split at h
  ·cases h;exact⟨_,rfl⟩
  ·cases h
 ·cases h
 ·cases h
theorem Pg {K:Fgx}{mg:Mgx}{P1 P:Pl}{H1 H:Hp}{M:Mm}{D:Addr}{vs vs':List V}(l:LtE P1 H1 P H)(h:Hk K mg P H M)(hD:H1 D=none)(bD:P.bd D)(nc:∀k,k<P.n->P.io k≠D)(e:H D=some (.lst vs)):
  Lt P H P (upd H D (.lst vs'))/\LtE P1 H1 P (upd H D (.lst vs'))/\Hk K mg P (upd H D (.lst vs')) M:=by
 have lc:Lt P H P (upd H D (.lst vs')):=xg bD e Ip;refine⟨lc,⟨l.n,l.io,l.bd,l.bm,fun c o ec n=>?_,fun c z=>l.sure c (lc.sure c z),l.nw⟩,⟨h.n,fun j c ej=>(h.cell j c ej).lt lc fun o eo=>?_,h.inj,h.bd,fun c z q=>h.here c z (lc.sure c q)⟩⟩
 ·rw[aQ (fun z=>by subst z;rw[hD]at ec;cases ec)];exact l.keep c o ec n
 ·rw[aQ (nc j (by rw[h.n];exact(xad.mp ej).1))];exact eo
noncomputable def NR (K:Fgx) (mg:Mgx) (Wx:XW) (P0:Pl) (H0:Hp) (P:Pl) (H:Hp) (M':Mm) (R:Addr->Hp->Prop):Res->Prop
 |.v d=>∃ds,d=.lst ds/\∀P' a vs H',LtE P H P' H'->Hk K mg P' H' M'->H a=none->P'.bd a->(∀k,k<P'.n->P'.io k≠a)->H' a=some (.lst vs)->aD K P' H' ds vs->R a H'
 |.x c n=>Wx P0 H0 M' c n
theorem VR {K:Fgx}{mg:Mgx}{cs:List (Str×Nat)}{fs:EA}{q e:E}{P0 P:Pl}{H0 H:Hp}{Os:List (Option Addr)}{M M':Mm}{st:L2.St}{env:Env}{r:Res}{R:Addr->Hp->Prop}(nd:(cs.map (·.2)).Nodup)
    (k:Ok K mg P0 H0 P Os H M st env) (h:su cs fs q e env M=some (r,M')) (w:NR K mg Wx P0 H0 P H M' R r):Ba (tI K mg Wx fs) (wu K mg W0 q) (tE K mg W0 .val e) cs st H R:=by
  unfold su at h;split at h
  · rename_i ds M1 ef;split at h
    rotate_left
    · cases h
    rename_i ys M2 ec;cases h;obtain ⟨ds', e', w⟩ := w;cases e';refine ⟨P0, H0, P, Os, env, M, _, _, k, ef, fun P1 H1 J l1 h1 wk D hD => ?_⟩;obtain ⟨l2, h2, nc⟩ := yG (vs := []) h1 hD;refine ⟨fun i m vs H2=>m=ds.length - i/\i<=ds.length/\∃P2 M3 acc,LtE P1 H1 P2 H2/\Hk K mg P2 H2 M3/\P2.bd D/\(∀k,k<P2.n->P2.io k≠D)/\H2 D=some (.lst vs)/\aD K P2 H2 acc vs/\acc.length<sizeLine/\mD q e (cR cs env) (ds.drop i) acc M3=some (ys,M'),
      ⟨ds.length,by simp,xcF _,P1.bar D,M1,[],l2,h2,.inr rfl,nc,bU,rfl,by x_go,by rw[List.drop_zero];exact ec⟩,?_⟩
    rintro i m vs H2 ⟨rfl,hi,P2,M3,acc,l3,h3,bD,nD,eD,is,hz,ec⟩;refine⟨eD,?_⟩;obtain⟨w1,w2,w3⟩:=wk P2 H2 (l3.lt h1)
    by_cases hlt:i<ds.length
    · refine .inr ⟨w1 i hlt,by rw[is.len];exact hz,fun vs' H'=>∃P2 M3 acc,LtE P1 H1 P2 H'/\Hk K mg P2 H' M3/\P2.bd D/\(∀k,k<P2.n->P2.io k≠D)/\H' D=some (.lst vs')/\aD K P2 H' acc vs'/\acc.length<sizeLine/\mD q e (cR cs env) (ds.drop (i + 1)) acc M3=some (ys,M'),
        fun vs' H' z=>⟨ds.length - (i + 1),by omega,rfl,hlt,z⟩,fun x H' y=>?_⟩
      obtain⟨e3,d,ed,iv⟩:=w3 i x H' y hlt;subst e3;have ed':ds.drop i=d::ds.drop (i + 1):=by
        rw[xbE hlt];rw[xae hlt]at ed;rw[xay ed]
      rw[ed']at ec;have kk:=((k.next l1 h1).next l3 h3).cap (cs:=cs) nd iv
      simp only[mD]at ec;split at ec
      · rename_i M4 eq;refine eZ kk eq ⟨true,rfl,fun P4 H4 l4 h4=>?_⟩;dsimp only;rw[xab rfl];split at ec
        · rename_i y' M5 ee;split at ec
          · rename_i hz';refine aV (kk.next l4 h4) ee fun P5 v5 H5 l5 h5 i5=>?_
            have l45:=l4.trans l5;have eD5:H5 D=some (.lst vs):=l45.keep D _ eD (.inr nD);have nD5:∀k,k<P5.n->P5.io k≠D:=l45.nc eD nD;obtain⟨g1,g2,g3⟩:=Pg (vs':=vs ++ [v5]) (l3.trans l45) h5 hD (l45.bm D bD) nD5 eD5;refine⟨eD5,P5,M5,acc ++ [y'],g2,g3,l45.bm D bD,nD5,bU,aD.append (aD.lt ((l45.lt h3).trans g1) is) (aD.one (Is.lt g1 i5)),by rw[xak];exact hz',ec⟩
          · cases ec
        · cases ec
      · rename_i M4 eq;refine eZ kk eq ⟨false,rfl,fun P4 H4 l4 h4=>?_⟩;dsimp only;rw[xaf (by decide)];exact⟨P4,M4,acc,l3.trans l4,h4,l4.bm D bD,l4.nc eD nD,l4.keep D _ eD (.inr nD),aD.lt (l4.lt h3) is,hz,ec⟩
      · cases ec
    · have ei:i=ds.length:=by omega
      subst ei;rw[xck]at ec;cases ec;exact .inl ⟨w2 _ (xai _) (xai _),w P2 D vs H2 (l1.trans l3) h3 (l1.sure D hD) bD nD eD is⟩
  · rename_i c n M1 ef;cases h;exact⟨P0,H0,P,Os,env,M,_,_,k,ef,w⟩
  · cases h
def SQ (X:Cx)(ifs:List Expr)(q:E):Prop:=lW X ifs (wu X.K X.mg W0 q)
theorem Ul:SQ X [] (ak (.bl true)):=fun pins s σ H Q I h=>by
 obtain⟨P0,H0,P,Os,env,M,r,M',k,e,q⟩:=h;cases e;obtain⟨b,e2,q⟩:=q;cases e2;exact Rn pins s σ H Q I (q P H (LtE.refl P H) k.hk)
section
variable {elt iter:Expr}{ifs:List Expr}{scope:Scope}{fs:EA}{q e:E}
theorem Uk (x:Str)(cs:List (Str×Nat))(hc:X.calm=true)(nd:(cs.map (·.2)).Nodup)(hi:SI X Wx (.Name x px) iter fs)
  (hq:∀(cl:List (Str×Addr)) (C:Addr) (s₀:Shared) (H₀:Hp) (ex:List Addr) (pn:Pnx),SQ (d7 X (x::cs.map (·.1)) scope cl C s₀ H₀ ex pn) ifs q)
  (he:∀(cl:List (Str×Addr)) (C:Addr) (s₀:Shared) (H₀:Hp) (ex:List Addr) (pn:Pnx),SE (d7 X (x::cs.map (·.1)) scope cl C s₀ H₀ ex pn) W0 .val elt e)
  (ok:wK X.N X.env.scope x cs scope=true:=by kernel_rfl) (hs:∀x,foldedSetIterable iter X.env x=pure x:=by intro _;rfl):
  SN X Wx (.ListComp elt [⟨.Name x px,iter,ifs,0⟩] scope pos) (su cs fs q e):=by
 refine cj (ZS (tq:=wu X.K X.mg W0 q) (te:=tE X.K X.mg W0 .val e) x cs hc hi hq he ok hs) ?_;rintro st H Q ⟨P0,H0,P,Os,env,M,r,M',k,e,w⟩;refine VR nd k e ?_
 cases r with
 |v d=>exact w
 |x c n=>exact w
theorem Wm {K:Fgx}{mg:Mgx}{P P':Pl}{H H':Hp}{M M':Mm}{a:Addr}{vs:List V}{ds:List D}(k:Hk K mg P H M)(l:LtE P H P' H')(h:Hk K mg P' H' M')(ha:H a=none)(nc:∀j,j<P'.n->P'.io j≠a)(ea:H' a=some (.lst vs))(is:aD K P' H' ds vs):
  LtE P H (P'.less (· ≠a)) H'/\Hk K mg (P'.less (· ≠a)) H' M'/\Is K (P'.less (· ≠a)) H' (.lst ds) (.ref a):=by
 have l2 : Lt P' H' (P'.less (· ≠ a)) H' := ⟨xai _, fun _ _ => rfl, fun c z => .inl z.1, fun _ _ e _ => e, fun _ z => z⟩;exact ⟨⟨l.n,l.io,fun b z=>l.bd b z.1,fun b z=>⟨l.bm b z,fun q=>k.here b z (q ▸ ha)⟩,l.keep,l.sure,l.nw⟩,
  ⟨h.n,fun j c e=>(h.cell j c e).lt l2 fun _ z=>z,h.inj,fun j hj=>⟨h.bd j hj,nc j hj⟩,fun b z=>h.here b z.1⟩,
  a,vs,rfl,.inl ⟨fun z=>z.2 rfl,.inl ea⟩,aD.less is⟩
end
end
section
variable {X:Cx}{Wx:XW}{m:Mode}{pos:Pos}
noncomputable def dM (f:E):E:=fun env M=>bnd (f env M) fun d M1=>match d with
  | .ref j => (match M1[j]? with
    | some (.lst ds) => (match ds[ds.length - 1]? with
      |some z=>some (.v z,M1.set j (.lst ds.dropLast))
      |none=>none)
    |_=>none)
  |_=>none
theorem aD.dropLast {K:Fgx}{P:Pl}{H:Hp}{ds:List D}{vs:List V}(h:aD K P H ds vs):aD K P H ds.dropLast vs.dropLast:=by
 rw[xdf,xdf,h.len];exact h.take _
theorem sJ {o:Expr}{f:E}{p:Pos}(ho:SE X Wx .val o f)(hbase:attributeBase o "pop" X.env (eval o X.env)=eval o X.env:=by rfl)(hline:(p.endLine==pos.line)=true:=by rfl):
  SE X Wx m (.Call (.Attribute o "pop" p) [] [] pos) (dM f):=by
 refine cj (Rg xbn PySem.F.slot_list_pop PySem.F.type_list_pop X3 ho hbase hline) ?_;rintro st H Q ⟨P0,H0,P,Os,env,M,r,M',k,e,q⟩;unfold dM at e;rcases cB e with⟨d,M1,e1,e⟩ |⟨c,n,e1,rfl⟩
 ·cases d<;>simp only[reduceCtorEq]at e
  rename_i j;split at e
  rotate_left
  ·cases e
  rename_i ds em;split at e
  rotate_left
  ·cases e
  rename_i z ez;cases e;refine aV k e1 fun P1 v1 H1 l1 h1 i1=>?_;obtain⟨jl,rfl⟩:j<P1.n/\v1=.ref (P1.io j):=i1;obtain⟨vs,ev,is⟩:=h1.cell j _ em;obtain⟨v,evt,iv⟩:=is.get ez;have lc:Lt P1 H1 P1 (upd H1 (P1.io j) (.lst vs.dropLast)):=xg (h1.bd j jl) ev Ip;obtain⟨l3,l3e,h3⟩:=h1.set (c':=.lst ds.dropLast) (o':=.lst vs.dropLast) em ⟨_,bU,(aD.lt lc is).dropLast⟩;refine⟨.inl ⟨rfl,vs,.inl (.inl ev)⟩,P1.io j,vs,v,rfl,rfl,ev,by rw[is.len];exact evt,?_⟩;exact q P1 v _ (l1.trans l3e) h3 (cG.of h3 (Is.lt l3 iv))
 ·exact aV k e1 q
end
section
variable {X:Cx}{Wx:XW}{m:Mode}{pos:Pos}
inductive ResP where
 |v (ps:List (D×D)) |x (c:Str) (n:Int)
noncomputable def d9 (M:Mm) (d:D):String:=match d with
  | .ref k => (match M[k]? with
    |some (.lst _)=>"list"
    |some (.dct _)=>"dict"
    |_=>"")
  |d=>Bd d
noncomputable def kO (tb:String->String->Option Bool) (T:String) (f:E):E:=fun env M=>bnd (f env M) fun d M1=>if d9 M1 d="" then none else(tb (d9 M1 d) T).map fun b=>(.v (.bl b),M1)
theorem Vu:dN X (.builtin "isinstance") (fun xs H Q=>∃(x:V) (T:String) (d:D) (P:Pl) (M:Mm) (b:Bool),xs=[x,.ty T]/\Hk X.K X.mg P H M/\cF X.K P H d x/\d9 M d≠""/\PySem.W.kitOne X.K (.type (d9 M d)) (.type T)=some b/\Q (.bl b) H):=by
  intro pins s σ H xs us Q I r h;obtain⟨x,T,d,P,M,b,rfl,hk,i,ne,e,q⟩:=h;have old:d9 M d=Bd (vw M d)->wpAny (model X.prog X.w) X.A (call (.builtin "isinstance") us) (EP X pins σ Q) X.xe s:=fun et=>by
    rw[et]at ne e;exact Vt pins s σ H _ us Q I r ⟨x,T,vw M d,P,b,rfl,cF.vw hk i,ne,e,q⟩
  cases d with
  |ref k=>
    cases em:M[k]? with
    |none=>simp[d9,em]at ne
    |some c=>
      cases c with
      |lst ds=>exact old (by simp[d9,vw,em,Bd])
      |obj c fs=>simp[d9,em]at ne
      |dcf kvs=>simp[d9,em]at ne
      |fn i caps=>simp[d9,em]at ne
      |tbl nm i=>simp[d9,em]at ne
      |dct kvs=>
        obtain⟨u,w',rfl,rx,rT⟩:=vals2 r;cases rT;obtain⟨kl,rfl⟩:k<P.n/\x=.ref (P.io k):=i;cases rx;obtain⟨vs,ev,_⟩:=hk.cell k _ em;obtain⟨_,_,vs',_,o,es,ep,h1,h2,_⟩:=I.hok _ _ ev;simp only[d9,em]at e;exact xaK xcQ I.kIn ⟨o,h1,h2.1⟩ e (fun z=>nomatch z) fun tk=>⟨.bl b,H,I.tok _,rfl,q⟩
  |non=>exact old rfl
  |bl _=>exact old rfl
  |int _=>exact old rfl
  |str _=>exact old rfl
  |tup _=>exact old rfl
  |lst _=>exact old rfl
theorem K9 (ht:∀t b,tb t T=some b->PySem.W.kitOne X.K (.type t) (.type T)=some b)(he:SE X Wx .bor e f)(hg:Gl X "isinstance")(hm:X.mg "isinstance"=none)(hg':Gl X (Str.ofString T))(hm':X.mg (Str.ofString T)=none)(hT:bootBuiltins (Str.ofString T)=some (.type T))
  (n1:Str.ofString T≠"__name__":=by x_go) (n2:(Str.ofString T==("__debug__":Str))=false:=by x_go) (hs:starEach [e,.Name (Str.ofString T) p'] X.env=(false,eval e X.env)::starEach [.Name (Str.ofString T) p'] X.env:=by rfl):
  SE X Wx m (.Call (.Name "isinstance" p) [e,.Name (Str.ofString T) p'] [] pos) (kO tb T f):=by
 have pT:PE X (.Name (Str.ofString T) p') (tC (.ty T)):=Rf hg' hm' hT rfl n1 n2;refine cj (J1 Vu hg hm boot_isinstance (pQ he (pQ pT vd) hs) (by x_go) (by x_go) hs rfl) ?_;rintro st H Q ⟨P0,H0,P,Os,env,M,r,M',k,e,q⟩;unfold kO at e;rcases cB e with⟨d,M1,e1,e⟩ |⟨c,n,e1,rfl⟩
 ·split at e
  ·cases e
  ·rename_i hne;rw[xac]at e;obtain⟨b,eb,e⟩:=e;cases e;exact aV k e1 fun P1 v1 H1 l1 h1 i1=>⟨v1,T,d,P1,_,b,rfl,h1,i1,hne,ht _ _ eb,q P1 _ H1 l1 h1 (cG.of h1 (show Is _ _ _ (.bl b) _ from rfl))⟩
 ·exact aV k e1 q
end
section
variable {X:Cx}{Wx:XW}{m:Mode}{pos:Pos}
noncomputable def yh:D->Option Str
 |.str z=>if z.length<=sizeLine then some z else none
 |.int i=>if i.natAbs.log2<1920 then some (toString i) else none
 |_=>none
abbrev EJ:=Str->Env->Mm->O
noncomputable def fL:EJ:=fun out _ M=>if out.length<=sizeLine then some (.v (.str out),M) else none
noncomputable def fK (z:Str) (ps:EJ):EJ:=fun out env M=>if (out ++ z).length<=sizeLine then ps (out ++ z) env M else none
noncomputable def kh (f:E) (ps:EJ):EJ:=fun out env M=>bnd (f env M) fun d M1=>match yh d with
 |some y=>if (out ++ y).length<=sizeLine then ps (out ++ y) env M1 else none
 |none=>none
noncomputable def tJ (K:Fgx) (mg:Mgx) (Wx:XW) (ps:EJ):TJ:=fun out st H Q=>tE K mg Wx .val (ps out) st H Q
def SJ (X:Cx)(Wx:XW)(vs:List Expr)(ps:EJ):Prop:=PJ X vs (tJ X.K X.mg Wx ps)
theorem Dd (h:PJ X vs t)(w:∀out σ H Q,t' out σ H Q->t out σ H Q):PJ X vs t':=fun pins s σ H out Q I hw=>h pins s σ H out Q I (w out σ H Q hw)
theorem Uh:SJ X Wx [] fL:=by
 refine Dd zcn ?_;rintro out st H Q ⟨P0,H0,P,Os,env,M,r,M',k,e,q⟩;unfold fL at e;split at e
 ·rename_i hl;cases e;exact⟨hl,q P _ H (LtE.refl P H) k.hk rfl⟩
 ·cases e
theorem Ug (h:SJ X Wx vs ps)(hz:z.length<=sizeLine:=by x_go):SJ X Wx (.Constant (.str z) n pos::vs) (fK z ps):=by
 refine Dd (zcN h hz) ?_;rintro out st H Q ⟨P0,H0,P,Os,env,M,r,M',k,e,q⟩;unfold fK at e;split at e
 ·rename_i hl;exact⟨hl,P0,H0,P,Os,env,M,r,M',k,e,q⟩
 ·cases e
theorem zbN {K:Fgx}{P:Pl}{H:Hp}{d:D}{v:V}{y:Str}(h:yh d=some y)(i:Is K P H d v):textV v=some y:=by
 unfold yh at h;split at h
 ·cases i;exact h
 ·cases i;exact h
 ·cases h
theorem zcL (he:SE X Wx .val e f)(h:SJ X Wx vs ps):SJ X Wx (.FormattedValue e (-1) none pos::vs) (kh f ps):=by
 refine Dd (zdu he h) ?_;rintro out st H Q ⟨P0,H0,P,Os,env,M,r,M',k,e,q⟩;unfold kh at e;rcases cB e with⟨d,M1,e1,e⟩ |⟨c,n,e1,rfl⟩
 ·split at e
  ·rename_i y ey;split at e
   ·rename_i hl;exact aV k e1 fun P1 v1 H1 l1 h1 i1=>⟨y,zbN ey i1,hl,P0,H0,P1,Os,env,M1,r,M',k.next l1 h1,e,RQ.imp l1 q⟩
   ·cases e
  ·cases e
 ·exact aV k e1 q
def fU (ps:EJ):E:=ps Str.empty
theorem T_ (h:SJ X Wx (v::w::vs) ps):SE X Wx m (.JoinedStr (v::w::vs) pos) (fU ps):=by
 have h':SE X Wx .val (.JoinedStr (v::w::vs) pos) (fU ps):=cj (ZW h) fun st H Q z=>z;exact h'.bor
noncomputable def pN (c:E) (b:S):Nat->Env->Mm->OS
  |0,_,_=>none
  |n + 1,env,M=>match c env M with
    | some (.v (.bl true), M1) => (match b env M1 with
      |some (.nx e,M2)=>pN c b n e M2
      |some (.ct e,M2)=>pN c b n e M2
      |some (.bk e,M2)=>some (.nx e,M2)
      |some (.rt d,M2)=>some (.rt d,M2)
      |some (.ex x k,M2)=>some (.ex x k,M2)
      |none=>none)
    |some (.v (.bl false),M1)=>some (.nx env,M1)
    |some (.x x k,M1)=>some (.ex x k,M1)
    |_=>none
def xV (n:Nat)(c:E)(b:S):S:=fun env M=>pN c b n env M
theorem Uo (n:Nat){c:Expr}{body:List Stmt}{t:E}{b:S}(hp:PassesOwn (model X.prog X.w) X.A X.env X.xe)(hc:ST X Wx c t)(hb:SB X Wx body b):SS X Wx (.While c body [] pos) (xV n t b):=by
  refine fP (za8 hp hc hb) ?_;rintro D st H ⟨P0,H0,P,Os,env,M,out,M',k,e,q⟩;refine⟨fun m σ H1=>∃P1 Os1 M1 env1,Lt P H P1 H1/\Ok X.K X.mg P0 H0 P1 Os1 H1 M1 σ env1/\pN t b m env1 M1=some (out,M'),⟨n,P,Os,M,env,Lt.refl _ _,k,e⟩,?_⟩;rintro m σ H1 ⟨P1,Os1,M1,env1,lt,k1,e1⟩
  cases m with
  |zero=>cases e1
  |succ m=>
    simp only[pN]at e1;split at e1
    · rename_i M2 ec;refine eZ k1 ec ⟨true,rfl,fun P2 H2 l2 h2=>?_⟩;dsimp only;rw[xab rfl];have k2:=k1.next l2 h2
      have lt2:=lt.trans (l2.lt k1.hk);refine⟨fun σ' H'=>∃P1 Os1 M1 env1,Lt P H P1 H'/\Ok X.K X.mg P0 H0 P1 Os1 H' M1 σ' env1/\pN t b m env1 M1=some (out,M'),fun σ' H' z=>⟨m,xa3 m,z⟩,?_⟩;split at e1
      · rename_i e' M3 eb;exact⟨P0,H0,P2,Os1,env1,M2,_,_,k2,eb,fun P' Os2 H2 st2 l2 k3=>⟨P',Os2,_,e',lt2.trans l2,k3,e1⟩⟩
      · rename_i e' M3 eb;exact⟨P0,H0,P2,Os1,env1,M2,_,_,k2,eb,fun P' Os2 H2 st2 l2 k3=>⟨P',Os2,_,e',lt2.trans l2,k3,e1⟩⟩
      · rename_i e' M3 eb;cases e1;exact⟨P0,H0,P2,Os1,env1,M2,_,_,k2,eb,fun P' Os2 H2 st2 l2 k3=>q P' Os2 H2 st2 (lt2.trans l2) k3⟩
      · rename_i d M3 eb;cases e1;exact⟨P0,H0,P2,Os1,env1,M2,_,_,k2,eb,q⟩
      · rename_i x k' M3 eb;cases e1;exact⟨P0,H0,P2,Os1,env1,M2,_,_,k2,eb,q⟩
      · cases e1
    · rename_i M2 ec;cases e1;refine eZ k1 ec ⟨false,rfl,fun P2 H2 l2 h2=>?_⟩;dsimp only;rw[xaf (by decide)];exact q P2 Os1 H2 σ (lt.trans (l2.lt k1.hk)) (k1.next l2 h2)
    · rename_i x k' M2 ec;cases e1;exact eZ k1 ec q
    · cases e1
end
end E3
namespace E3
open PySem L2
section
variable {env:Env}{M M1 M2:Mm}{f g o v:E}{d e x:D}{i:Int}{k:Nat}{ds es:List D}{s t:S}{z:Str}{fa:EA}{b:Bool}
noncomputable def GQ:Option (List D×Mm)->O
 |some (ys,M)=>some (.v (.lst ys),M)
 |none=>none
noncomputable def Oa (q e:E) (env:Env):Option (ResA×Mm)->O
 |some (.v ds,M1)=>GQ (mD q e env ds [] M1)
 |some (.x c n,M1)=>some (.x c n,M1)
 |none=>none
theorem zco {cs:List (Str×Nat)}{q e:E}:su cs fa q e env M=Oa q e (cR cs env) (fa env M):=rfl
theorem zcs {q e:E}:Oa q e env (some (.v ds,M))=GQ (mD q e env ds [] M):=rfl
theorem zbT:GQ (some (ds,M))=some (.v (.lst ds),M):=rfl
theorem zdo:cR [] env=[]:=rfl
theorem zcG {x:Str}{n:Nat}{cs:List (Str×Nat)}:cR ((x,n)::cs) env=(env[n]?).getD .un::cR cs env:=rfl
noncomputable def eN (tb:String->String->Option Bool) (T:String) (M:Mm) (ty:String):O:=if ty="" then none else(tb ty T).map fun b=>(.v (.bl b),M)
noncomputable def zu (tb:String->String->Option Bool) (T:String) (r:O):O:=bnd r fun d M=>eN tb T M (d9 M d)
theorem zdZ {tb:String->String->Option Bool}{T:String}:kO tb T f env M=zu tb T (f env M):=rfl
theorem zeq {tb:String->String->Option Bool}{T:String}:zu tb T (some (.v d,M))=eN tb T M (d9 M d):=rfl
theorem ty_int:d9 M (.int i)="int":=rfl
theorem ty_str:d9 M (.str z)="str":=rfl
theorem zdO:d9 M (.bl b)="bool":=rfl
theorem zc8:d9 M .non="NoneType":=rfl
theorem zcx:d9 M (.tup ds)="tuple":=rfl
theorem zcK:d9 M (.lst ds)="list":=rfl
theorem zeA {tb:String->String->Option Bool}{T:String}:eN tb T M "int"=(tb "int" T).map fun b=>(.v (.bl b),M):=rfl
theorem zeO {tb:String->String->Option Bool}{T:String}:eN tb T M "str"=(tb "str" T).map fun b=>(.v (.bl b),M):=rfl
theorem Mx {tb:String->String->Option Bool}{T:String}:eN tb T M "bool"=(tb "bool" T).map fun b=>(.v (.bl b),M):=rfl
theorem zdM {tb:String->String->Option Bool}{T:String}:eN tb T M "NoneType"=(tb "NoneType" T).map fun b=>(.v (.bl b),M):=rfl
theorem zdP {tb:String->String->Option Bool}{T:String}:eN tb T M "tuple"=(tb "tuple" T).map fun b=>(.v (.bl b),M):=rfl
theorem zd6 {tb:String->String->Option Bool}{T:String}:eN tb T M "list"=(tb "list" T).map fun b=>(.v (.bl b),M):=rfl
theorem zeL {tb:String->String->Option Bool}{T:String}:eN tb T M "dict"=(tb "dict" T).map fun b=>(.v (.bl b),M):=rfl
theorem MK {c:E}{b:S}(Q:OS->Prop)(J:Nat->Env->Mm->Prop){n:Nat}(h0:∃m,m<n/\J m env M)
    (hs:∀m env M,J m env M->∃y M1,c env M=some (.v (.bl y),M1)/\if y=true then Step (fun e M=>∃m',m'<m/\J m' e M) Q (b env M1) else Q (some (.nx env,M1))):Q (xV n c b env M):=by
  have key:∀(n m:Nat) (env:Env) (M:Mm),m<n->J m env M->Q (pN c b n env M):=by
    intro n
    induction n with
    |zero=>intro m env M h;exact absurd h (xcu _)
    |succ n ih=>
      intro m env M hm hJ;obtain⟨y,M1,h1,h2⟩:=hs m env M hJ
      cases y with
      |false=>simp only[pN,h1];exact h2
      |true=>
        simp only[pN,h1];rw[xab rfl]at h2
        cases eb:b env M1 with
        |none=>rw[eb]at h2;exact h2.elim
        |some o=>
          rw[eb]at h2;obtain⟨o,M'⟩:=o
          cases o with
          |nx e'=>obtain⟨m',h3,h4⟩:=h2;exact ih m' e' M' (by omega) h4
          |ct e'=>obtain⟨m',h3,h4⟩:=h2;exact ih m' e' M' (by omega) h4
          |bk e'=>exact h2
          |rt d=>exact h2
          |ex c n=>exact h2
  obtain⟨m,h1,h2⟩:=h0;exact key n m env M h1 h2
end
end E3
namespace L2
open PySem PySem.Spec PyProof.Rows
end L2
namespace E3
open PySem PySem.Spec PyProof.Rows L2
section
variable {es:List Expr}{env:PySem.Env}{pos:Pos}
theorem aY:starEach (.Constant c k pos::es) env=(false,eval (.Constant c k pos) env)::starEach es env:=by rfl
theorem aO:starEach (.Name x pos::es) env=(false,eval (.Name x pos) env)::starEach es env:=by rfl
theorem k_:starEach (.BinOp a o b pos::es) env=(false,eval (.BinOp a o b pos) env)::starEach es env:=by rfl
theorem Ed:starEach (.UnaryOp o a pos::es) env=(false,eval (.UnaryOp o a pos) env)::starEach es env:=by rfl
theorem eY:starEach (.Call f as ks pos::es) env=(false,eval (.Call f as ks pos) env)::starEach es env:=by rfl
theorem Uq:starEach (.Attribute a x pos::es) env=(false,eval (.Attribute a x pos) env)::starEach es env:=by rfl
theorem lq:starEach (.Subscript a b pos::es) env=(false,eval (.Subscript a b pos) env)::starEach es env:=by rfl
theorem zau:starEach (.ListComp a gs sc pos::es) env=(false,eval (.ListComp a gs sc pos) env)::starEach es env:=by rfl
end
end E3
namespace L2
open PySem PySem.Spec PyProof.Rows
theorem Qi {P:Program}{w:World}{K:Fgx}{mg:Mgx}{base:Heap}{N:List Str}{qual:Str}{scope:Scope}{f:Addr}{cd:Value}{A:Around}{outer:List PySem.Env}{E:XK}{s:Shared}{H H1:Hp}{s1:Shared}{pins:Pnx}{σ:St}{a C T:Addr}{dx:Option Addr}
  (c:Caught (cV (fY P w) P w K mg base N qual scope f cd A outer s H E) pins σ H1 s1 a C dx T) (hE:E (.ref C) dx H1):(cV (fY P w) P w K mg base N qual scope f cd A outer s H E).xe (.ref a) s1:=by
 show wpAny _ _ (leaving _ _) _ _ _;unfold leaving;refine tG (Caught.note c rfl rfl fun s' T' c'=>?_);have I:=c'.inv;have hL:s.heap.get? (envOfC qual scope s.heap.objs.size f cd).locals=none:=xco I.ok.above;have u1:Un (s.heap.objs.size::frs outer) [] H H1 s.heap s'.heap:=Un.mono (fs':=s.heap.objs.size::frs outer) (ex':=[]) I.base (fun b hb=>xar _ hb) fun b hb=>hb;exact⟨a,C,dx,H1,T',rfl,I.os,I.bare,u1.less hL,I.hok,c'.obj,c'.hT,c'.t1,c'.fl,hE⟩
end L2
namespace E3
open PySem PySem.Spec PyProof.Rows L2
structure XPass (X:Cx)(Wx:XW):Prop where
 xc:∀pins σ H s a C dx T c n P0 H0 P M,Caught X pins σ H s a C dx T->LtE P0 H0 P H->Hk X.K X.mg P H M->X.mg c=some (.ref C)->XN H n dx->Wx P0 H0 M c n->X.xe (.ref a) s
section
variable {X:Cx}{Wx:XW}{m:Mode}{pos:Pos}
theorem SX.se (F:XPass X Wx)(h:SX X e f):SE X Wx m e f:=by
  have h':SE X Wx .val e f:=by
    let Ex:L2.St->XK:=fun σ Cv dx H'=>∀pins s' a C T,Cv=.ref C->Caught X pins σ H' s' a C dx T->X.xe (.ref a) s'
    refine cj (h Ex fun pins σ H s e s' I z=>?_) ?_
    · obtain⟨a,C,dx,H',T,rfl,K1,hE⟩:=Nx I z;exact hE pins s' a C T rfl K1
    · rintro st H Q ⟨P0,H0,P,Os,env,M,r,M',k,e,q⟩;refine⟨P0,H0,P,Os,env,M,r,M',k,e,?_⟩
      cases r with
      |v d=>exact q
      |x c n=>
        intro P' H' C dx l hk hm xn pins s' a C' T eC ca;cases eC;exact F.xc pins st H' s' a C dx T c n P0 H0 P' M' ca (k.base.trans l) hk hm xn q
  exact h'.bor
end
section
variable {P:Program}{w:World}{K:Fgx}{mg:Mgx}{base:Heap}{k:Nat}{x qual:Str}{st:Stmt}{f:Addr}{fd:FuncData}{N ps:List Str}{b:S}
theorem Wh (F:FunD K x qual st f fd)(S:FnScope N ps (aL st))(hp:ps.length<=N.length)
    (hb:∀cdv A outer s H E Wx,Room k (A.deeper (envOfC qual (aL st) s.heap.objs.size f cdv))->XFit (d8 P w K mg base N qual st f cdv A outer s H E) Wx->XPass (d8 P w K mg base N qual st f cdv A outer s H E) Wx->SB (d8 P w K mg base N qual st f cdv A outer s H E) Wx (bO st) b):FnOk P w K mg base (fY P w) (k + 1) f fd ps (xY K mg ps.length (bJ N.length b)):=by
  obtain ⟨oc, od, dV, kV, doc, pm, an, cdv, ct, osl, rfl, lk, hcd⟩ := F.ex;refine O1 lk hcd S (fun vs H Q E h => h.1) fun A outer s H vs Q E hr h => ?_;obtain ⟨hl, Pl, M, ds, r, M', hk, is, e, q⟩ := h;have XF : XFit (d8 P w K mg base N qual st f cdv A outer s H E) (fun P0 H0 M1 c n => P0 = Pl /\ H0 = H /\ M1 = M' /\ r = .x c n) := ⟨fun pins σ H1 s1 a C dx c n P0 H0 P1 M1 I ea nb n0 l h m xn ⟨e1,e2,e3,e4⟩=>by
    subst e1 e2 e3 e4;have sure:∀b,upd H1 a (xo a C dx false) b=none->H1 b=none:=fun b z=>by
      by_cases hb:b=a
      · subst hb;rw[bU]at z;cases z
      · rw[aQ hb]at z;exact z
    have l1 : LtE P0 H0 P1 (upd H1 a (xo a C dx false)) := ⟨l.n,l.io,l.bd,l.bm,fun b o eb nb=>by
      rw[aQ (fun z=>by rw[z,n0]at eb;cases eb)];exact l.keep b o eb nb,fun b z=>l.sure b (sure b z),l.nw⟩
    have h1 := h.away (H' := upd H1 a (xo a C dx false)) (fun b o eb nx=>by
      rw[aQ (fun z=>by rw[z,ea]at eb;cases eb;exact nx _ rfl)];exact eb) sure
    refine Qh I ea (q P1 _ C dx l1 h1 m ?_)
    cases dx with
    |none=>exact xn
    |some d=>
      obtain⟨fs,ed,el⟩:=xn;exact⟨fs,by rw[aQ (fun z=>by rw[z,ea]at ed;cases ed)];exact ed,el⟩⟩
  have XP : XPass (d8 P w K mg base N qual st f cdv A outer s H E) (fun P0 H0 M1 c n => P0 = Pl /\ H0 = H /\ M1 = M' /\ r = .x c n) := ⟨fun pins σ H1 s1 a C dx T c n P0 H0 P1 M1 ca l h m xn ⟨e1,e2,e3,e4⟩=>by
    subst e1 e2 e3 e4;exact Qi ca (q P1 _ C dx l h m xn)⟩
  refine⟨_,hb cdv A outer s H E _ hr XF XP,?_⟩;unfold bJ b_ at e;have st0:=Lp (N:=N) hk (by omega) is;split at e
  · rename_i d' M2 eb;cases e;exact⟨Pl,H,Pl,_,_,M,_,_,st0,eb,fun P' v H' l h i=>q P' v H' l h i⟩
  · rename_i env M2 eb;cases e;exact⟨Pl,H,Pl,_,_,M,_,_,st0,eb,fun P' Os' H' st' _ k'=>q P' .non H' k'.base k'.hk rfl⟩
  · rename_i c n M2 eb;cases e;exact⟨Pl,H,Pl,_,_,M,_,_,st0,eb,⟨rfl,rfl,rfl,rfl⟩⟩
  · cases e
end
section
variable {K:Fgx}{P:Pl}{H:Hp}
noncomputable def rK:List D->Option (List Bool)
 | []=>some []
 |.bl b::ds=>(rK ds).map (b:: ·)
 |_::_=>none
theorem Nk:∀{ds:List D} {bs:List Bool} {vs:List V},rK ds=some bs->aD K P H ds vs->vs=bs.map V.bl
  | [],_,_,e,h=>by cases e;exact h
  |d::ds,bs,vs,e,h=>by
    obtain⟨v,r,rfl,i,h⟩:=h
    cases d with
    |bl n=>
      simp only[rK,xac]at e;obtain⟨bs',e',rfl⟩:=e;cases i;rw[Nk e' h];rfl
    |_=>simp[rK]at e
theorem Nm:∀(bs:List Bool),rK (bs.map D.bl)=some bs
 | []=>rfl
 |b::bs=>by simp[rK,Nm bs]
noncomputable def A_:List D->Option (List Str)
 | []=>some []
 |.str z::ds=>(A_ ds).map (z:: ·)
 |_::_=>none
theorem Ut:∀{ds:List D} {zs:List Str} {vs:List V},A_ ds=some zs->aD K P H ds vs->vs=zs.map V.str
  | [],_,_,e,h=>by cases e;exact h
  |d::ds,zs,vs,e,h=>by
    obtain⟨v,r,rfl,i,h⟩:=h
    cases d with
    |str n=>
      simp only[A_,xac]at e;obtain⟨zs',e',rfl⟩:=e;cases i;rw[Ut e' h];rfl
    |_=>simp[A_]at e
noncomputable def mj:List D->Option D
 | [.int i]=>if i.natAbs.log2<1920 then some (.str (toString i)) else none
 |_=>none
theorem Rv:mX K (fun xs H Q=>∃i,xs=[.int i]/\i.natAbs.log2<1920/\Q (.str (toString i)) H) mj:=fun P H ds z vs Q h i _ q=>by
 unfold mj at h;split at h
 ·split at h
  ·rename_i hl;obtain⟨v,ws,rfl,p,rfl⟩:=i;cases h;cases p;exact⟨_,rfl,hl,q _ H (Same.refl H) rfl⟩
  ·cases h
 ·cases h
noncomputable def lZ:List D->Option D
 | [.str z]=>if z.length<=640 then(intText? z).map .int else none
 |_=>none
theorem Ru:mX K (fun xs H Q=>∃z n,xs=[.str z]/\intText? z=some n/\z.length<=640/\Q (.int n) H) lZ:=fun P H ds z vs Q h i _ q=>by
 unfold lZ at h;split at h
 ·split at h
  ·rename_i hl;rw[xac]at h;obtain⟨n,en,rfl⟩:=h;obtain⟨v,ws,rfl,p,rfl⟩:=i;cases p;exact⟨_,n,rfl,en,hl,q _ H (Same.refl H) rfl⟩
  ·cases h
 ·cases h
noncomputable def n_:List D->Option D
 | [.lst ds]=>(rK ds).map fun bs=>.bl (bs.any id)
 |_=>none
theorem zcQ:mX K (fun xs H Q=>∃(p:Addr) (bs:List Bool),xs=[.ref p]/\bI K H p (bs.map V.bl)/\Q (.bl (bs.any id)) H) n_:=fun P H ds z vs Q h i _ q=>by
 unfold n_ at h;split at h
 ·rw[xac]at h;obtain⟨is,ei,rfl⟩:=h;obtain⟨v,ws,rfl,p,rfl⟩:=i;obtain⟨a,us,rfl,r,s⟩:=p;rw[Nk ei s]at r;exact⟨a,is,rfl,r,q _ H (Same.refl H) rfl⟩
 ·cases h
noncomputable def mq:List D->Option D
 | [.lst ds]=>some (.tup ds)
 | [.tup ds]=>some (.tup ds)
 |_=>none
theorem Rw:mX K (fun xs H Q=>∃p ys,xs=[.ref p]/\((bI K H p ys/\∀l,H l=none->Q (.ref l) (upd H l (.tup ys)))\/(dZ K H p ys/\Q (.ref p) H))) mq:=fun P H ds z vs Q h i _ q=>by
 unfold mq at h;split at h
 ·obtain⟨v,ws,rfl,p,rfl⟩:=i;cases h;obtain⟨a,us,rfl,r,s⟩:=p;exact⟨a,us,rfl,.inl ⟨r,X7 s q⟩⟩
 ·obtain⟨v,ws,rfl,p,rfl⟩:=i;cases h;obtain⟨a,us,rfl,r,s⟩:=p;exact⟨a,us,rfl,.inr ⟨r,q _ H (Same.refl H) ⟨a,us,rfl,r,s⟩⟩⟩
 ·cases h
end
section
variable {X:Cx}{Wx:XW}{m:Mode}{pos:Pos}
def Fw (K:Fgx)(r:V->List V->Hp->VK->Prop)(o:Str->List D->Option D):Prop:=∀(P:Pl) (H:Hp) (y:Str) (ds:List D) (z:D) (vs:List V) (Q:VK),o y ds=some z->nQ K P H ds vs->(∀p,H p=none->¬ P.bd p)->(∀u H',Same H H'->Is K P H' z u->Q u H')->r (.str y) vs H Q
noncomputable def Am (o:Str->List D->Option D) (f:E) (fs:EA):E:=fun env M=>bnd (f env M) fun d M1=>match d with
 |.str y=>cQ (fs env M1) fun ds M2=>(o y (ds.map (vw M2))).map fun z=>(.v z,M2)
 |_=>none
theorem Ud {a e:Expr}{es:List Expr}{name:Str}{id:String}{r:V->List V->Hp->VK->Prop}{o:Str->List D->Option D}{f:E}{fs:EA}{p:Pos}(slot:PySem.Slot "str" name id)(hty:typeOf (.builtin id)=pure (.type "method_descriptor"))(hm:wF X id r)(po:Fw X.K r o)(ha:SE X Wx .val a f)(hs:SA X Wx .bor (e::es) fs)
  (hbase:attributeBase a name X.env (eval a X.env)=eval a X.env:=by rfl)
  (hfew:((backTo pos (starEach (e::es) X.env)).all (fun x=> !x.1) && (backToKw pos (keywordEach [] X.env)).all (fun x=>x.1.isSome) && decide ((e::es).length + ([]:List Keyword).length + (if ([]:List Keyword).isEmpty then 0 else 1)<30))=true:=by rfl)
  (hline:(p.endLine==pos.line)=true:=by rfl) (hst:starEach (e::es) X.env=(false,eval e X.env)::starEach es X.env:=by rfl) (hplain:(backTo pos (starEach es X.env)).any (·.1)=false:=by rfl):
  SE X Wx m (.Call (.Attribute a name p) (e::es) [] pos) (Am o f fs):=by
 refine cj (Dc PySem.F.plainAttrs_str slot hty hm ha hs hbase hfew hline hst hplain) ?_;rintro st H Q ⟨P0,H0,P,Os,env,M,r,M',k,e,q⟩;unfold Am at e;rcases cB e with⟨d,M1,e1,e⟩ |⟨c,n,e1,rfl⟩
 ·cases d<;>simp only[reduceCtorEq]at e
  rename_i y;refine aV k e1 fun P1 v1 H1 l1 h1 i1=>?_;have k1:=k.next l1 h1
  cases i1;refine⟨rfl,?_⟩;rcases o_ e with⟨ds,M2,e2,e⟩ |⟨c,n,e2,rfl⟩
  ·rw[xac]at e;obtain⟨z,ez,e⟩:=e;cases e;exact⟨P0,H0,P1,Os,env,M1,_,_,k1,e2,fun P2 vs H2 l2 h2 i2=>po P2 H2 y _ z vs Q ez (cP.w h2 i2) h2.new fun u H' s i=>q P2 u H' (l1.trans (l2.trans (LtE.same s))) (h2.same s) (cG.of (h2.same s) i)⟩
  ·exact⟨P0,H0,P1,Os,env,M1,_,_,k1,e2,q⟩
 ·exact aV k e1 q
noncomputable def Eo (z:Str):List D->Option D
 | [.str y]=>some (.bl (Txt.startswith z y))
 |_=>none
theorem zaR {K:Fgx}:Fw K RJ Eo:=fun P H y ds z vs Q h i _ q=>by
 unfold Eo at h;split at h
 ·cases h;obtain⟨v,ws,rfl,p,rfl⟩:=i;cases p;exact⟨_,_,rfl,rfl,q _ H (Same.refl H) rfl⟩
 ·cases h
noncomputable def En (z:Str):List D->Option D
 | [.str y]=>if z.length<=sizeLine then some (.str (Txt.lstripChars z y)) else none
 |_=>none
theorem zaT {K:Fgx}:Fw K RG En:=fun P H y ds z vs Q h i _ q=>by
 unfold En at h;split at h
 ·split at h
  ·rename_i hl;cases h;obtain⟨v,ws,rfl,p,rfl⟩:=i;cases p;exact⟨_,_,rfl,rfl,hl,q _ H (Same.refl H) rfl⟩
  ·cases h
 ·cases h
end
noncomputable def dH (tb:List (Str×D)) (z:Str):Option D:=(tb.find? fun p=>decide (p.1=z)).map (·.2)
inductive KRows (K:Fgx)(w:World):List (Str×D)->List DictEntry->List (Key×Value)->Prop
 |nil:KRows K w [] [] []
 |cons {z:Str} {d:D} {t:Tok} {u:Value} {v:V} {hs:Int} {tb:List (Str×D)} {es:List DictEntry} {vs:List (Key×Value)}:hs=hashStr w z->RelV v u->(∀P H,Is K P H d v)->KRows K w tb es vs->KRows K w ((z,d)::tb) (⟨hs,.str z t,u⟩::es) ((.inr z,u)::vs)
def KTab (K:Fgx)(w:World)(a:Addr)(tb:List (Str×D)):Prop:=∃o es ep vs,K.lookup a=some o/\o.ExactDict/\o.data=.dict es ep/\KRows K w tb es.toList vs/\(tb.map (·.1)).Nodup/\(a==sysModules)=false
section
variable {K:Fgx}{w:World}{prog:Program}
theorem Qf:∀{tb:List (Str×D)} {es:List DictEntry} {vs:List (Key×Value)},KRows K w tb es vs->(∀e∈es,∃k,(nA prog w).is k e.key=true/\e.hash=(nA prog w).hash k)/\Pairs (nA prog w) es vs/\vs.map (·.1)=tb.map fun p=>(.inr p.1:Key)
  |_,_,_,.nil=>⟨fun e h=>(by cases h),.nil,rfl⟩
  |_,_,_,.cons (z:=z) (t:=t) h1 h2 h3 r=>by
    obtain⟨a,b,c⟩:=Qf r;refine⟨fun e he=>?_,.cons (Ik prog w z t) rfl b,by rw[xau,xau,c]⟩;rw[xaJ]at he;rcases he with rfl |he
    · exact⟨.inr z,Ik prog w z t,h1⟩
    · exact a e he
theorem HN:∀{tb:List (Str×D)} {es:List DictEntry} {vs:List (Key×Value)},KRows K w tb es vs->match dH tb z with
    |some d=>∃u v,valueAt vs (.inr z:Key)=some u/\RelV v u/\∀P H,Is K P H d v
    |none=>valueAt vs (.inr z:Key)=none
  |_,_,_,.nil=>rfl
  |_,_,_,.cons (z:=y) (d:=d) (u:=u) (v:=v) (tb:=tb) (vs:=vs) h1 h2 h3 r=>by
    by_cases e:y=z
    · subst e;have a:dH ((y,d)::tb) y=some d:=by simp[dH,xbK]
      have b:valueAt ((.inr y,u)::vs) (.inr y:Key)=some u:=by simp[valueAt,xbK]
      rw[a];exact⟨u,v,b,h2,h3⟩
    · have a:dH ((y,d)::tb) z=dH tb z:=by simp[dH,xbK,e]
      have b:valueAt ((.inr y,u)::vs) (.inr z:Key)=valueAt vs (.inr z):=by simp[valueAt,xbK,e]
      rw[a,b];exact HN r
theorem KTab.dict (t:KTab K w a tb)(X:K.In h):∃es vs,KRows K w tb es vs/\h.DictOf (nA prog w) a vs/\(a==sysModules)=false:=by
 obtain⟨o,es,ep,vs,l,x,d,r,nd,ns⟩:=t;obtain⟨r1,r2,r3⟩:=Qf (prog:=prog) r;refine⟨es.toList,vs,r,⟨o,es,ep,X a o l,x,d,fun e he=>r1 e (by simpa using he),r2,?_⟩,ns⟩;rw[r3];have:(tb.map fun p=>(Sum.inr p.1:Key))=(tb.map (·.1)).map Sum.inr:=by rw[List.map_map];rfl
 rw[this];exact List.pairwise_map.mpr (List.Pairwise.imp (fun h q=>h (Sum.inr.inj q)) nd)
end
section
variable {X:Cx}{Wx:XW}{m:Mode}{pos:Pos}
noncomputable def kW (b:Bool) (tb:List (Str×D)) (f:E):E:=fun env M=>bnd (f env M) fun d M1=>match d with
 |.str z=>some (.v (.bl (if b then(dH tb z).isSome else !(dH tb z).isSome)),M1)
 |_=>none
noncomputable def Al (tb:List (Str×D)) (f:E):E:=fun env M=>bnd (f env M) fun d M1=>match d with
 |.str z=>(dH tb z).map fun y=>(.v y,M1)
 |_=>none
theorem Xi {z:Str}{K:Fgx}{w:World}{tb:List (Str×D)}{es:List DictEntry}{vs:List (Key×Value)}(r:KRows K w tb es vs):(valueAt vs (.inr z:Key)).isSome=(dH tb z).isSome:=by
 have g:=HN (z:=z) r
 cases h:dH tb z with
 |none=>rw[h]at g;have g':valueAt vs (.inr z:Key)=none:=g;rw[g'];rfl
 |some d=>rw[h]at g;obtain⟨u,v,e,_⟩:=g;rw[e];rfl
theorem ZK {i:Expr}{ty:TE}{nm:Str}{p:Pos}{a:Addr}{tb:List (Str×D)}(hi:PE X i ty)(hg:Gl X nm)(hm:X.mg nm=some (.ref a))(t:KTab X.K X.w a tb)(hdb:(nm==("__debug__":Str))=false):
  PC X .In i (.Name nm p) (fun σ H Q=>ty σ H fun y H1=>∃z,y=.str z/\Q (.bl (dH tb z).isSome) H1):=by
 intro pins s σ H Q I h;refine aP (hi pins s σ H _ I h) fun iv s1 ⟨y,H1,I1,ry,z,ey,q⟩=>rR I1 hg hm ?_ hdb;subst ey;obtain⟨es,vs,r,dd,ns⟩:=t.dict (prog:=X.prog) I1.kIn;refine wpAny_in_of (k:=(.inr z:Key)) (Qc (k:=.inr z) ry) ns dd.mapOf ?_;rw[Xi r];exact⟨.bl _,H1,I1.tok _,rfl,q⟩
theorem Xh {b:Bool}{tb:List (Str×D)}{f:E}{st:L2.St}{H:Hp}{Q:VK}(w:tE X.K X.mg Wx m (kW b tb f) st H Q):tE X.K X.mg Wx .val f st H fun y H1=>∃z,y=.str z/\Q (.bl (if b then(dH tb z).isSome else !(dH tb z).isSome)) H1:=by
 obtain⟨P0,H0,P,Os,env,M,r,M',k,e,q⟩:=w;unfold kW at e;rcases cB e with⟨d,N1,e1,e⟩ |⟨c,n,e1,rfl⟩
 ·cases d<;>simp only[reduceCtorEq]at e
  rename_i z;cases e;exact aV k e1 fun P1 v1 H1 l1 h1 i1=>⟨z,i1,q P1 _ H1 l1 h1 (cG.of h1 (show Is _ _ _ (.bl _) _ from rfl))⟩
 ·exact aV k e1 q
theorem Us (hi:SE X Wx .val i f)(hg:Gl X nm)(hm:X.mg nm=some (.ref a))(t:KTab X.K X.w a tb)(hdb:(nm==("__debug__":Str))=false:=by x_go)(hb:behindInMarks .In (.Name nm p)=false:=by rfl):ST X Wx (.Compare i [.In] [.Name nm p] pos) (kW true tb f):=
 z7 (zdl (ZK hi hg hm t hdb) hb) fun _ _ _ w=>Xh (b:=true) (Mu w)
theorem Ua (hi:SE X Wx .val i f)(hg:Gl X nm)(hm:X.mg nm=some (.ref a))(t:KTab X.K X.w a tb)(hdb:(nm==("__debug__":Str))=false:=by x_go)(hs:yt i:=by exact fun _ _=>rfl):SE X Wx m (.Subscript (.Name nm p) i pos) (Al tb f):=by
 have h':PE X (.Subscript (.Name nm p) i pos) (fun σ H Q=>tE X.K X.mg Wx .val f σ H fun y H1=>∃z d,y=.str z/\dH tb z=some d/\∀v,(∀P H,Is X.K P H d v)->Q v H1):=by
  intro pins s σ H Q I h;refine zbu PySem.F.slot_dict_getitem.lookup hs (rR I hg hm ?_ hdb);refine aP (hi pins s σ H _ I h) fun iv s2 ⟨y,H2,I2,ry,z,d,ey,ed,q2⟩=>?_;subst ey;obtain⟨es,vs,r,dd,ns⟩:=t.dict (prog:=X.prog) I2.kIn;have g:=HN (z:=z) r;rw[ed]at g;obtain⟨u,v,e1,e2,e3⟩:=g;exact⟨dd.typeIs,wpAny_getItem_of (k:=(.inr z:Key)) (Qc (k:=.inr z) ry) dd.mapOf e1 ⟨v,H2,I2.tok _,e2,q2 v e3⟩⟩
 refine cj h' ?_;rintro st H Q ⟨P0,H0,P,Os,env,M,r,M',k,e,q⟩;unfold Al at e;rcases cB e with⟨d,N1,e1,e⟩ |⟨c,n,e1,rfl⟩
 ·cases d<;>simp only[reduceCtorEq]at e
  rename_i z;rw[xac]at e;obtain⟨y,ey,e⟩:=e;cases e;exact aV k e1 fun P1 v1 H1 l1 h1 i1=>⟨z,y,i1,ey,fun v iv=>q P1 v H1 l1 h1 (cG.of h1 (iv P1 H1))⟩
 ·exact aV k e1 q
end
section
variable {X:Cx}{Wx:XW}{pos:Pos}
noncomputable def Cu (f:E):EA:=fun env M=>match f env M with
 |some (.v (.str z),M1)=>some (.v (z.cps.toList.map fun c=>.str ⟨#[c]⟩),M1)
 |some (.x c n,M1)=>some (.x c n,M1)
 |_=>none
theorem zdy (h:SE X Wx .val e f):SI X Wx tg e (Cu f):=by
 refine zX (zcT h) ?_;rintro st H R ⟨P0,H0,P,Os,env,M,r,M',k,e,q⟩;unfold Cu at e;split at e
 ·rename_i z M1 ef;cases e;refine⟨P0,H0,P,Os,env,M,_,_,k,ef,fun P1 v1 H1 l1 h1 i1=>⟨z,i1,q P1 H1 _ l1 h1 fun P2 H2 l2=>?_⟩⟩;have hl:(z.cps.toList.map fun c=>(D.str ⟨#[c]⟩)).length=z.cps.size:=by simp
  rw[hl];refine⟨fun j hj=>hj,fun j h1 h2=>xa2 h2 h1,fun j x H' y hj=>⟨y.1,?_⟩⟩;obtain⟨c,ec,rfl⟩:=y.2;refine⟨.str ⟨#[c]⟩,?_,rfl⟩;rw[xan,xdc,ec];rfl
 ·rename_i c n M1 ef;cases e;exact⟨P0,H0,P,Os,env,M,_,_,k,ef,q⟩
 ·cases e
noncomputable def Cr (fs:EA):EA:=fun env M=>match fs env M with
 |some (.v [.lst ds],M1)=>some (.v ds.reverse,M1)
 |some (.x c n,M1)=>some (.x c n,M1)
 |_=>none
theorem zeB {tg a:Expr}{fs:EA}{p:Pos}(hg:Gl X "reversed")(hm:X.mg "reversed"=none)(ha:SA X Wx .val [a] fs)(hs:starEach [a] X.env=[(false,eval a X.env)]:=by rfl):SI X Wx tg (.Call (.Name "reversed" p) [a] [] pos) (Cr fs):=by
 refine zX (Rm hg hm ha hs) ?_;rintro st H R ⟨P0,H0,P,Os,env,M,r,M',k,e,q⟩;unfold Cr at e;split at e
 ·rename_i ds M1 ef;cases e;refine⟨P0,H0,P,Os,env,M,_,_,k,ef,fun P1 vs H1 l1 h1 i1=>?_⟩;obtain⟨v,ws,rfl,i1,rfl⟩:=i1;obtain⟨a,us,rfl,ra,is⟩:=i1;refine⟨a,us,rfl,ra.imp (·.2) id,q P1 H1 _ l1 h1 fun P2 H2 l2=>?_⟩;have ra2:=l2.rda ra;have is2:=aD.lt l2 is;have sq:bI X.K H2 a us:=ra2.imp (·.2) id;have hn:us.length=ds.length:=is2.len;rw[xal];refine⟨fun j hj=>⟨by omega,us,sq,rfl⟩,fun j h1 h2=>by show j=us.length;omega,fun j x H' y hj=>⟨y.1,?_⟩⟩;have hj':ds.length - 1 - j<ds.length:=by omega
  obtain⟨v,ev,iv⟩:=aD.get is2 (xae hj');have:=y.2 us sq;rw[hn,ev]at this;cases this;exact⟨_,by rw[xbR hj,xae hj'],iv⟩
 ·rename_i c n M1 ef;cases e;exact⟨P0,H0,P,Os,env,M,_,_,k,ef,q⟩
 ·cases e
end
end E3
namespace L2
open PySem PySem.Spec PyProof.Rows
theorem R5:Manifest.owners.lookup (String.ofList ['d','e','s','r','e','v','e','r'].reverse)=some Manifest.sig_reversed:=by kernel_rfl
theorem zcb:Slot "reversed" "__init__" "object.__init__":=
 .of (owner:="object") (n:="__init__") (by rw[xcv,xbS];kernel_rfl) (by x_go) (by x_go) (by x_go)
  (by first |exact .inl (by x_go) |exact .inr (by x_go)) (by rw[xcD];kernel_rfl)
theorem Ag:Slot "reversed" "__next__" "reversed.__next__":=
 .of (owner:="reversed") (n:="__next__") (by rw[xcv,xbS];kernel_rfl) (by x_go) (by x_go) (by x_go)
  (by first |exact .inl (by x_go) |exact .inr (by x_go)) (by rw[xcD];kernel_rfl)
theorem R0:Slot "reversed" "__iter__" "reversed.__iter__":=
 .of (owner:="reversed") (n:="__iter__") (by rw[xcv,xbS];kernel_rfl) (by x_go) (by x_go) (by x_go)
  (by first |exact .inl (by x_go) |exact .inr (by x_go)) (by rw[xcD];kernel_rfl)
theorem R4:entryFor table "reversed.__next__"=some Builtin.«reversed.__next__» :=entryFor_of_tree (by kernel_rfl)
theorem R3 (a:Value):argsOk "reversed.__next__" ⟨[a],[]⟩:=by
 unfold argsOk;rw[signature?_of (id:="reversed.__next__") (n:=['_','_','t','x','e','n','_','_']) (o:=['d','e','s','r','e','v','e','r']) (by kernel_rfl) R5];kernel_rfl
theorem zan:entryFor table "reversed.__iter__"=some Builtin.«dict_keyiterator.__iter__» :=
 entryFor_alias (id':="dict_keyiterator.__iter__") (by kernel_rfl) (by first |rfl |decide +kernel |(unfold String.splitOn;simp +decide [String.splitOnAux])) (by x_go) (by kernel_rfl)
theorem zao (a:Value):argsOk "reversed.__iter__" ⟨[a],[]⟩:=by
 unfold argsOk;rw[signature?_of (id:="reversed.__iter__") (n:=['_','_','r','e','t','i','_','_']) (o:=['d','e','s','r','e','v','e','r']) (by kernel_rfl) R5];kernel_rfl
theorem zaO:TypeCalled "reversed" "reversed.__new__" "object.__init__":=
 ⟨by x_go,by x_go,⟨_,_,F.mro_reversed⟩,F.made_reversed,F.plain_reversed_new,F.sub_reversed_self,zcb⟩
theorem zb2:typeLookup (.type "tuple") "__reversed__"=pure none:=by rw[xcv,xbS];kernel_rfl
theorem zbs:isSubtype (.type "tuple") (.type "dict")=pure false:=by rw[xcD];kernel_rfl
noncomputable def R_ (a:Addr) (i:Int):Obj:={cls:=.type "reversed",data:=.fields #[.ref a,rawInt i]}
def gY (h:Heap)(a t:Addr)(i:Int):Prop:=∃o,h.get? a=some o/\o.cls=.type "reversed"/\o.data=.fields #[.ref t,rawInt i]
theorem gY.typeIs {s:Shared}{a l:Addr}{i:Int}(x:gY s.heap a l i):s.TypeIs (.ref a) "reversed":=let ⟨o,ho,hc,_⟩:=x;⟨o,ho,hc⟩
theorem gY.at (x:gY h a l i)(e:∀o,h.get? a=some o->h'.get? a=some o):gY h' a l i:=let ⟨o,ho,r⟩:=x;⟨o,e _ ho,r⟩
theorem zcq (t : Addr) (items : Array Value) : Meets (Builtin.«reversed.__new__» ⟨[.type "reversed", .ref t], []⟩) (fun _ R s=>IsTup s.heap t items/\(items.size:Int)<2 ^ 63/\
    R (.ok (.ret (.ref s.heap.objs.size))) {s with heap:=s.heap.push (R_ t ((items.size:Int) - 1)),toks:=s.toks + 1 + 1}):=
  .of_wp fun prog w A R s ⟨ht,hf,h⟩=>by
    unfold Builtin.«reversed.__new__»;refine tG (xb2 (newClass_reversed _) ?_)
    try dsimp only
    refine tG (xb2 (a:=()) (by first |rfl |kernel_rfl) ?_)
    refine tG (xb2 (a:=()) (by first |rfl |kernel_rfl) ?_)
    try dsimp only
    refine tG (xcs ht.typeIs zb2 ?_)
    try dsimp only
    refine tG ?_;show wpAny _ _ (do
      if <-isInstance (.ref t) (.type "dict") then return false
      match <-specialOf (.ref t) "__getitem__" with
      |none=>return false
      |some (.builtin id)=>
        if ["tuple.__getitem__","str.__getitem__","bytes.__getitem__","bytearray.__getitem__","memoryview.__getitem__","numpy.ndarray.__getitem__","sqlite3.Row.__getitem__"].contains id then return true
        if id=="sqlite3.Blob.__getitem__" then return false
        unsupported "reversed.__new__:is-it-a-sequence"
      |some _=>return true:Sem Bool) _ _ s
    refine tG (wpAny_isInstance ht.typeIs zbs ?_);rw[xaf (by decide)];refine tG (xcs ht.typeIs xcI.lookup ?_)
    try dsimp only
    rw[xab (by x_go)];refine xaj ?_;rw[xaf (by decide)];refine tG (len_tuple ht hf ?_);refine tG (m:=asInt? _) (xb2 (a:=some (items.size:Int)) (by first |rfl |kernel_rfl) ?_)
    try dsimp only
    unfold Builtin.SmallTypes.newRecord
    try dsimp only
    refine tG (xa7 ?_ (by size_fits));exact xaj ⟨_,rfl,h⟩
section
variable {prog:Program}{w:World}{A:Around}{E:Value->Shared->Prop}{s:Shared}
theorem Vy (ht:IsTup s.heap t items)(hf:(items.size:Int)<2 ^ 63)
  (h:Q (.ref s.heap.objs.size) {s with heap:=s.heap.push (R_ t ((items.size:Int) - 1)),toks:=s.toks + 1 + 1}):wpAny (model prog w) A (call (.type "reversed") [.ref t]) Q E s:=
 callType_new zaO (by decide) (F.typeCall_reversed_1 _) (F.newCall_reversed_1 _) (fun obj=>F.args_object_init_2 obj _) F.entry_reversed_new (zcq t items) ⟨ht,hf,⟨_,xav _ rfl,rfl⟩,h⟩
theorem PN {it l:Addr}{i:Int}{Q:Value->Shared->Prop}(hit:gY s.heap it l i)(h:Q (.ref it) s):wpAny (model prog w) A (pyIter (.ref it)) Q E s:=by
 refine wpAny_pyIter_slot hit.typeIs R0 (xc8 R0 hit.typeIs zan ?_ (zao _));show wpAny _ _ (ret (.ref it)) _ _ s;exact xaj ⟨_,rfl,"reversed",_,hit.typeIs,Ag.lookup,h⟩
theorem X8 {it l:Addr}{i:Nat}{items:Array Value}{x:Value}{Q:Option Value->Shared->Prop}(hit:gY s.heap it l (i:Int))(hl:IsTup s.heap l items)(hx:items[i]? =some x)(hf:(items.size:Int)<2 ^ 63)
  (hQ:∀h',gY h' it l ((i:Int) - 1)->Heap.SameBut it s.heap h'->Q (some x) {s with heap:=h',toks:=s.toks + 1}):wpAny (model prog w) A (pyNext (.ref it)) Q E s:=by
 obtain⟨o,ho,hc,hd⟩:=id hit;have hi:i<items.size:=by
  rcases xaV i items.size with z |z
  ·exact z
  ·rw[Array.getElem?_eq_none z]at hx;cases hx
 unfold pyNext;refine tG (xcj (xc9 (name:=Str.ofString "__next__") hit.typeIs Ag
  (xc8 Ag hit.typeIs R4 ?_ (R3 _))))
 unfold Builtin.«reversed.__next__»;refine tG (xb2 (a:=(Value.ref it,[])) rfl ?_)
 try dsimp only
 refine tG (xbr ho hd (x:=.ref l) rfl ?_);refine tG (xbr ho hd (x:=rawInt (i:Int)) rfl ?_);show wpAny _ _ (if (i:Int)<0 then _ else _) _ _ s
 rw[xaf (by omega)];refine tG (xcs hl.typeIs xcI.lookup ?_);rw[xaf (by simp)];refine tG (wpAny_mkInt ?_);refine tG (xcj (getItem_tuple (k:=(i:Int)) (j:=i) (s:={s with toks:=s.toks + 1}) hl (by omega) (by omega) ?_ hx ?_))
 ·exact seqIndex_of (by omega) (by omega)
 show wpAny _ _ (field (Value.ref it) 1 >>= _) _ _ _;refine tG (xbr (s := { s with toks := s.toks + 1 }) ho hd (x := rawInt (i : Int)) rfl ?_);show wpAny _ _ (setField (Value.ref it) 1 (rawInt ((i : Int) - 1)) >>= _) _ _ _;refine tG (xbQ (s := { s with toks := s.toks + 1 }) ho hd (by simp) ?_);refine xaj ⟨x, rfl, xaj (hQ _ ?_ (xcA ..))⟩;exact ⟨_,xby _ ho (xbx (xaN hd _)),(Obj.cls_mapFields ..).trans hc,by
  rw[xaN hd];simp⟩
theorem V_ {it l:Addr}{Q:Option Value->Shared->Prop}(hh:A.handled=none)(hit:gY s.heap it l (-1))
  (hQ:∀h',Heap.ExtBut it s.heap h'->Q none {s with heap:=h'}):wpAny (model prog w) A (pyNext (.ref it)) Q E s:=by
 obtain ⟨o, ho, hc, hd⟩ := id hit;unfold pyNext;refine tG (xcj (xc9 (name:=Str.ofString "__next__") hit.typeIs Ag
  (xc8 Ag hit.typeIs R4 ?_ (R3 _))))
 unfold Builtin.«reversed.__next__»;refine tG (xb2 (a:=(Value.ref it,[])) rfl ?_)
 try dsimp only
 refine tG (xbr ho hd (x:=.ref l) rfl ?_);refine tG (xbr ho hd (x:=rawInt (-1)) rfl ?_);show wpAny _ _ (if (-1:Int)<0 then _ else _) _ _ s
 rw[xab (by decide)];refine tG (wpAny_rule ?_);refine tG ?_;show wpAny _ _ (setField (.ref it) 1 (rawInt (-1)) >>=fun _=>setField (.ref it) 0 .none) _ _ s;refine tG (xbQ ho hd (by simp) ?_);refine xbQ (xby _ ho (xbx (xaN hd _))) (xaN hd _) (by simp) ?_;refine tG ?_;show wpAny _ _ (newExc (.type "StopIteration") [] >>=_) _ _ _;refine tG ?_;simp only[newExc,newTuple];refine tG (xa7 ?_ (by size_fits));refine tG (m:=firstArgMember _ _) (xb2 (a:=Value.none) (by first |rfl |(simp only[firstArgMember];rfl)) ?_)
 refine xa7 ?_ (by size_fits);simp only[raiseNew];refine tG (wpAny_handled ?_)
 first |rw[show A.in1.handled=none from hh] |rw[hh]
 refine tG (xaj (wpAny_throw ?_));refine tG (wpAny_isInstance (T:="StopIteration") (b:=true) ⟨_,xav _ rfl,rfl⟩ isSubtype_stop ?_);exact xaj (hQ _ ((((xcA _ _ _).extBut).trans ((xcA _ _ _).extBut)).push _ |>.push _))
end
noncomputable def M7 (K:Fgx) (a:Addr) (n:Nat):It:=
 ⟨fun i H=>i<n/\∃xs,dZ K H a xs/\xs.length=n,fun i H x H'=>H'=H/\∀xs,dZ K H a xs->xs[n - 1 - i]? =some x,fun i _=>i=n⟩
theorem za4 {P:Program}{w:World}{K:Fgx}{tg:Expr}(a it:Addr)(n:Nat):Turn P w K tg (M7 K a n) [it] it (fun i h=>gY h it a ((n:Int) - 1 - (i:Int))) where
 mem:=by simp
 obj:=fun i h st b hb=>by
  have e:b=it:=by simpa using hb
  subst e;obtain⟨o,e,c,d⟩:=st;exact⟨o,e,fun v z=>by rw[d]at z;cases z⟩
 keep:=fun i h h' st k=>st.at fun o e=>k it (by simp) o e
 item:=by
  intro X hP hw hK hc i pins s σ H E I hf st hg;subst hP hw hK;obtain⟨hi,xs,hq,hlen⟩:=hg;obtain⟨its,rv,p,hz⟩:=I.tuple hq;have hx:xs[n - 1 - i]? =some (xs[n - 1 - i]'(by omega)):=xae (by omega);obtain⟨u,hu,ru⟩:=rv.get hx;obtain⟨f0,f1,f2,f3,f4,f5⟩:=hf it (by simp);have e:(n:Int) - 1 - (i:Int)=((n - 1 - i:Nat):Int):=by omega
  have st0:gY s.heap it a ((n - 1 - i:Nat):Int):=by rw[<-e];exact st
  have hn:=pL;have hl:=rv.length;refine X8 st0 p (x:=u) (by simpa using hu) (by simp only[xah];omega) fun h' st' sb=>?_;have e2:((n - 1 - i:Nat):Int) - 1=(n:Int) - 1 - ((i + 1:Nat):Int):=by omega
  rw[e2]at st';have I1:Inv X pins σ H {s with heap:=h',toks:=s.toks + 1}:=I.turned (t':=s.toks + 1) (fun b o hb e=>(sb.2 b hb).trans e) f0 f1 f3 f4 f5;obtain⟨o,eo,c,d⟩:=id st';exact⟨u,rfl,t_ (s:={s with heap:=h',toks:=s.toks + 1}) eo c d (by decide) ⟨_,H,I1,ru,⟨rfl,fun ys hy=>by rw[I.tuple_inj hy hq];exact hx⟩,st',fun b hb=>(hf b hb).1⟩⟩
 done:=by
  intro X hP hw hK hc i pins s σ H E I hf st hg;subst hP hw hK;have hg':i=n:=hg;subst hg';obtain⟨f0,f1,f2,f3,f4,f5⟩:=hf it (by simp);have e:(i:Int) - 1 - (i:Int)= -1:=by omega
  have st0:gY s.heap it a (-1):=by rw[<-e];exact st
  exact V_ (I.ok.hd hc) st0 fun h' eb=>⟨rfl,I.turned (t':=s.toks) (fun b o hb e=>eb b o hb e) f0 f1 f3 f4 f5⟩
 self:=fun _ _ _ _ _ st h=>PN st h
section
variable {X:Cx}{tg:Expr}
noncomputable def Wz (K:Fgx) (ta:TA):TI:=fun σ H R=>ta σ H fun vs H1=>∃a xs,vs=[.ref a]/\dZ K H1 a xs/\R (M7 K a xs.length) H1
theorem zcy (hg:Gl X "reversed")(hm:X.mg "reversed"=none)(ha:PA X [a] ta)(hs:starEach [a] X.env=[(false,eval a X.env)]:=by rfl):PI X tg (.Call (.Name "reversed" p) [a] [] pos) (Wz X.K ta):=by
 intro pins s σ H R I h;refine Call_ (w5 I hg hm boot_reversed (xbs (aP (ha pos pins s σ H _ I h) fun us s1 ⟨vs,H1,I1,r1,q1⟩=>?_) hs rfl));obtain⟨b,xs,e,hq,q⟩:=q1;subst e;obtain⟨u,e,ru⟩:=vals1 r1;subst e;cases ru;obtain⟨its,rv,pl,hz⟩:=I1.tuple hq;have hlen:its.toArray.size=xs.length:=by rw[xah];exact rv.length.symm
 have hn:=pL;refine Vy pl (by rw[hlen];omega) ?_;rw[hlen];refine PN (l:=b) (i:=(xs.length:Int) - 1) ⟨_,xav _ rfl,rfl,rfl⟩ ?_;refine⟨s1.heap.objs.size,[s1.heap.objs.size],_,_,H1,rfl,I1.kept (t':=s1.toks + 1 + 1) fun b o e=>xaa _ e,za4 b _ xs.length,?_,fun c hc=>?_,q⟩
 ·have e:(xs.length:Int) - 1 - ((0:Nat):Int)=(xs.length:Int) - 1:=by omega
  show gY _ _ b ((xs.length:Int) - 1 - ((0:Nat):Int));rw[e];exact⟨_,xav _ rfl,rfl,rfl⟩
 ·have e:c=s1.heap.objs.size:=by simpa using hc
  subst e;exact I1.fpOk (xai _) (I1.hok.fresh (xai _))
end
end L2
namespace E3
open PySem PySem.Spec PyProof.Rows L2
section
variable {X:Cx}{Wx:XW}{m:Mode}{pos:Pos}
noncomputable def gF:D->D->Option D
 |.lst xs,.lst ys=>if xs.length + ys.length<=sizeLine then some (.lst (xs ++ ys)) else none
 |_,_=>none
theorem Yq {K:Fgx}{P:Pl}{H:Hp}{d e z:D}{v w:V}(h:gF d e=some z)(h1:bL K P H d v)(h2:bL K P H e w):∃ds a b vs ws,z=.lst ds/\v=.ref a/\w=.ref b/\bI K H a vs/\bI K H b ws/\vs.length + ws.length<=sizeLine/\aD K P H ds (vs ++ ws):=by
 unfold gF at h;split at h
 ·split at h
  ·rename_i hl;cases h;obtain⟨a,vs,rfl,r1,s1⟩:=h1;obtain⟨b,ws,rfl,r2,s2⟩:=h2;exact⟨_,a,b,vs,ws,rfl,rfl,rfl,r1,r2,by rw[s1.len,s2.len];exact hl,s1.append s2⟩
  ·cases h
 ·cases h
theorem Lf {a b:Expr}{f g:E}(ha:SE X Wx .bor a f)(hb:SE X Wx .bor b g):SN X Wx (.BinOp a .Add b pos) (s2 gF f g):=by
 refine cj (Ri Ra ha hb) ?_;rintro st H Q ⟨P0,H0,P,Os,env,M,r,M',k,e,q⟩;unfold s2 at e;rcases cB e with⟨d,M1,e1,e⟩ |⟨c,n,e1,rfl⟩
 ·refine aV k e1 fun P1 v1 H1 l1 h1 i1=>?_;have k1:=k.next l1 h1
  rcases cB e with⟨d2,M2,e2,e⟩ |⟨c,n,e2,rfl⟩
  ·refine aV k1 e2 fun P2 v2 H2 l2 h2 i2=>?_;rw[xac]at e;obtain⟨z,ez,e⟩:=e;cases e;obtain⟨ds',e',q⟩:=q;obtain⟨ds,a,b,vs,ws,ed,ea,eb,r1,r2,hl,is⟩:=Yq ez (cF.vw h2 (cF.lt l2 h1 i1)) (cF.vw h2 i2);cases ed.symm.trans e';refine⟨a,b,vs,ws,ea,eb,r1,r2,hl,fun p hp=>?_⟩;obtain⟨l3,h3,nc⟩:=yG (vs:=vs ++ ws) h2 hp;exact q (P2.bar p) p (vs ++ ws) _ (l1.trans (l2.trans l3)) h3 (l1.sure p (l2.sure p hp)) (.inr rfl) nc bU (aD.lt (l3.lt h2) is)
  ·exact aV k1 e2 q
 ·exact aV k e1 q
noncomputable def mK (f:E) (ps:EJ):EJ:=fun out env M=>bnd (f env M) fun d M1=>match d with
 |.str z=>if (reprText z).length<=sizeLine/\(out ++ reprText z).length<=sizeLine then ps (out ++ reprText z) env M1 else none
 |_=>none
theorem zcD (he:PE X e te)(hv:PJ X vs tj):PJ X (.FormattedValue e 114 none pos::vs) (fun out σ H Q=>te σ H fun v H1=>∃z,v=.str z/\(reprText z).length<=sizeLine/\(out ++ reprText z).length<=sizeLine/\tj (out ++ reprText z) σ H1 Q):=fun pins s σ H out Q I h=>by
 refine joinParts_cons (wpAny_FormattedValue_repr (aP (he pins s σ H _ I h) fun u s1 ⟨x,H1,I1,r1,z,ez,hz,hl,q⟩=>?_));subst ez;obtain⟨t,rfl⟩:=r1;refine pyReprObj_str ?_ hz;exact formatField_str (fun t' tk=>⟨hl,hv pins _ σ H1 _ Q (I1.tok _) q⟩) hz
theorem zcM (he:SE X Wx .val e f)(h:SJ X Wx vs ps):SJ X Wx (.FormattedValue e 114 none pos::vs) (mK f ps):=by
 refine Dd (zcD he h) ?_;rintro out st H Q ⟨P0,H0,P,Os,env,M,r,M',k,e,q⟩;unfold mK at e;rcases cB e with⟨d,M1,e1,e⟩ |⟨c,n,e1,rfl⟩
 ·cases d<;>simp only[reduceCtorEq]at e
  rename_i z;split at e
  ·rename_i hl;exact aV k e1 fun P1 v1 H1 l1 h1 i1=>⟨z,i1,hl.1,hl.2,P0,H0,P1,Os,env,M1,r,M',k.next l1 h1,e,RQ.imp l1 q⟩
  ·cases e
 ·exact aV k e1 q
theorem zeV (hg:Gl X nm)(hm:X.mg nm=some (.ref a))(hd:∀P H,Is X.K P H d (.ref a))(hdb:(nm==("__debug__":Str))=false:=by x_go):SE X Wx m (.Name nm p) (ak d):=
 (DY (xG hg hm (v:=.ref a) rfl hdb) hd).bor
theorem Py {K:Fgx}{a:Addr}{o:Obj}{its:Array Value}{n:Nat}{ds:List D}{vs:List V}(l:K.lookup a=some o)(c:o.cls=.type "tuple")(e:o.data=.seq its n)(z:its.size<=sizeLine)(r:Vals vs its.toList)(i:∀P H,aD K P H ds vs):∀P H,Is K P H (.tup ds) (.ref a):=
 fun P H=>⟨a,vs,rfl,.inr ⟨o,its,n,l,c,e,z,r⟩,i P H⟩
def gW (P:Program)(w:World)(K:Fgx)(mg:Mgx)(base:Heap)(k:Nat)(C:Addr)(m:Str)(n:Nat)(g:G):Prop:=
 ∃f fd ps ds dvs sp,Meth K C m f/\FnOk P w K mg base gn k f fd ps sp/\Binds K fd ps ds/\Vals dvs ds/\∀vs H Q E,rA K mg n g vs H Q E->sp (vs ++ dvs) H Q E
theorem gW.mono {P:Program}{w:World}{K:Fgx}{mg:Mgx}{base:Heap}{j k:Nat}{C:Addr}{m:Str}{n:Nat}{g:G}(a:gW P w K mg base j C m n g)(h:j<=k):gW P w K mg base k C m n g:=by
 obtain⟨f,fd,ps,ds,dvs,sp,h1,h2,h3⟩:=a;exact⟨f,fd,ps,ds,dvs,sp,h1,h2.mono h,h3⟩
structure OwnIs (K:Fgx)(C:Addr):Prop where
 ca:PySem.W.findIn K (.ref C) "__class__"=some (some (.builtin "object.__class__"))
 gt:PySem.W.specialIn K (.builtin "object.__class__") "__get__"=some (some (.builtin "getset_descriptor.__get__"))
 tk:PySem.W.takesIn K (.builtin "object.__class__")=some true
 mr:PySem.W.mroIn K C (.type "object")=some true
 me:PySem.W.kitOne K (.ref C) (.ref C)=some true
noncomputable def pH (fs:EA):EA:=fun env M=>match fs env M with
 |some (.v [.tup ds],M1)=>some (.v ds.reverse,M1)
 |some (.x c n,M1)=>some (.x c n,M1)
 |_=>none
theorem zcu (hg:Gl X "reversed")(hm:X.mg "reversed"=none)(ha:SA X Wx .val [a] fs)(hs:starEach [a] X.env=[(false,eval a X.env)]:=by rfl):SI X Wx tg (.Call (.Name "reversed" p) [a] [] pos) (pH fs):=by
 refine zX (zcy hg hm ha hs) ?_;rintro st H R ⟨P0,H0,P,Os,env,M,r,M',k,e,q⟩;unfold pH at e;split at e
 ·rename_i ds M1 ef;cases e;refine⟨P0,H0,P,Os,env,M,_,_,k,ef,fun P1 vs H1 l1 h1 i1=>?_⟩;obtain⟨v,ws,rfl,i1,rfl⟩:=i1;obtain⟨a,us,rfl,ra,is⟩:=i1;refine⟨a,us,rfl,ra,q P1 H1 _ l1 h1 fun P2 H2 l2=>?_⟩;have ra2:=l2.tup ra;have is2:=aD.lt l2 is;have hn:us.length=ds.length:=is2.len;rw[xal];refine⟨fun j hj=>⟨by omega,us,ra2,rfl⟩,fun j h1 h2=>by show j=us.length;omega,fun j x H' y hj=>⟨y.1,?_⟩⟩;have hj':ds.length - 1 - j<ds.length:=by omega
  obtain⟨v,ev,iv⟩:=aD.get is2 (xae hj');have:=y.2 us ra2;rw[hn,ev]at this;cases this;exact⟨_,by rw[xbR hj,xae hj'],iv⟩
 ·rename_i c n M1 ef;cases e;exact⟨P0,H0,P,Os,env,M,_,_,k,ef,q⟩
 ·cases e
end
end E3
namespace E3
open PySem L2
noncomputable def dg (n:Nat):List Nat:=(Nat.toDigits 10 n).map Char.toNat
theorem G4 (n:Nat):NumText.AllDigits (dg n):=fun c hc=>by
 obtain⟨d,hd,rfl⟩:=xbc.mp hc;have h:=Nat.isDigit_of_mem_toDigits (by decide) (by decide) hd;simp only[Char.isDigit,xam,xaC]at h;exact⟨h.1,h.2⟩
theorem Om (n:Nat):dg n≠ []:=fun e=>Nat.toDigits_ne_nil (xds.mp e)
theorem G5 (h1:1<=k)(h:n<10 ^ k):(dg n).length<=k:=by
 rw[dg,xap];exact toDigits_len_pow (by decide) h1 h
theorem V8:dg 0=[48]:=by x_go
theorem Ol (n:Nat)(h:n≠0):∃c r,dg n=c::r/\49<=c:=by
  induction n using Nat.strongRecOn with
  |ind n ih=>
    unfold dg;rw[Nat.toDigits_eq_if (by decide)]
    by_cases hn:n<10
    · rw[xab hn];exact⟨(Nat.digitChar n).toNat,[],rfl,(show ∀n<10,n≠0->49<=(Nat.digitChar n).toNat by decide) n hn h⟩
    · rw[xaf hn];obtain⟨c,r,e,hc⟩:=ih (n / 10) (by omega) (by omega);unfold dg at e;exact⟨c,r ++ _,by rw[xbv,e];rfl,hc⟩
noncomputable def gU (i:Int):Str:=Str.ofString (toString i)
theorem Ea (h:0<=i):(gU i).cps.toList=dg i.toNat:=by
 have:=W.KIN.signs_num i.toNat;rw[xbF h]at this;exact this
theorem zbJ (h:i<0):(gU i).cps.toList=45::dg i.natAbs:=by
 obtain⟨m,rfl⟩:∃m,i=Int.negSucc m:=by
  cases i with
  |ofNat n=>exact absurd h (by simp)
  |negSucc m=>exact⟨m,rfl⟩
 unfold gU dg;rw[PyProof.Rows.signs_ofString];show List.map Char.toNat ("-" ++ toString (m + 1)).toList=_;rw[String.toList_append,xbv,Nat.toString_eq_ofList_toDigits]
 simp
theorem zbv (h1:1<=k)(h:i.natAbs<10 ^ k):(gU i).length<=k + 1:=by
 show(gU i).cps.size<=k + 1;rw[<-xb3]
 by_cases h0:0<=i
 ·rw[Ea h0];have:=G5 (n:=i.toNat) h1 (by rw[<-Int.natAbs_of_nonneg h0]at *;simpa using h);omega
 ·rw[zbJ (by omega),xao];have:=G5 h1 h;omega
noncomputable def cd (s:Str):List Nat:=s.cps.toList
theorem VF (h:cd a=cd b):a=b:=by
 obtain⟨x⟩:=a;obtain⟨y⟩:=b;have:x=y:=Array.toList_inj.mp h;rw[this]
theorem Ny (a b:Str):cd (a ++ b)=cd a ++ cd b:=by
 unfold cd;rw[Str.cps_append,Array.toList_append]
theorem za0 (h:cd x=c::r):cd (Txt.slice x (some 1) none)=r:=by
 have hl:(cd x).length=r.length + 1:=by rw[h];rfl
 have:=PyProof.Rows.slice_closes_from (x:=x) (i:=1) ⟨by decide,by show(1:Int)<=((cd x).length:Int);omega⟩;have e:=eq_of_beq this;rw[e];show List.take (((cd x).length:Int) - 1).toNat (List.drop (1:Int).toNat (cd x))=r;rw[h]
 simp
theorem zaM (h:cd x=c::r):Txt.startswith x (Str.ofString "-")=decide (c=45):=by
 have hl:x.length=r.length + 1:=by
  show x.cps.size=_;rw[<-xb3];show(cd x).length=_;rw[h];rfl
 have e1:(Str.ofString "-").cps= #[45]:=by x_go
 have e2:(Str.ofString "-").length=1:=by x_go
 unfold Txt.startswith Builtin.Str.subAt;rw[e1,e2,hl];have e3:x.cps=(c::r).toArray:=by
  rw[<-h];simp[cd]
 rw[e3,xbf (by omega),Bool.true_and];have e4:((c::r).toArray).extract 0 (0 + 1)= #[c]:=by simp
 rw[e4];rw[xaI]
 simp
theorem u5 (x:Str):x.length=(cd x).length:=by
 show x.cps.size=x.cps.toList.length
 simp
theorem GJ:x=y ↔ cd x=cd y:=⟨fun h=>by rw[h],VF⟩
theorem tW:(x=Str.ofString "")=(cd x=[]):=propext (GJ.trans (by rw[show cd (Str.ofString "")=[] by x_go]))
theorem eq_0:(x=Str.ofString "0")=(cd x=[48]):=propext (GJ.trans (by rw[show cd (Str.ofString "0")=[48] by x_go]))
theorem Ov:(x=Str.ofString "-0")=(cd x=[45,48]):=propext (GJ.trans (by rw[show cd (Str.ofString "-0")=[45,48] by x_go]))
theorem Nz (c:Nat):cd ⟨#[c]⟩=[c]:=rfl
noncomputable def gw (c:Nat):Bool:=decide (48<=c) && decide (c<=57)
theorem WL (c:Nat):nj ⟨#[c]⟩ (Str.ofString "0123456789")=gw c:=by
 by_cases h:c<58
 ·exact(show ∀c<58,nj ⟨#[c]⟩ (Str.ofString "0123456789")=gw c by x_go) c h
 ·unfold nj gw;rw[StrLaws.found_one,xaI];simp only[xaC,xam];exact⟨fun m=>absurd ((show ∀x∈(Str.ofString "0123456789").cps.toList,x<58 by x_go) c m) h,fun m=>absurd (Nat.lt_succ_of_le m.2) h⟩
noncomputable def eG (cs:List Nat):Bool:= !decide (cs=[]) && cs.all gw && (decide (cs=[48]) || !decide (cs.head? =some 48))
theorem Vg (cs:List Nat):((cs.map fun c=> !gw c).any id)= !cs.all gw:=by
 induction cs with
 |nil=>rfl
 |cons c r ih=>simp only[xau,xbH,xbA,ih,id,Bool.not_and]
noncomputable def fJ (cs:List Nat):List Nat:=if cs.head? =some 45 then cs.tail else cs
def good (cs:List Nat):Bool:= !decide (cs=[45,48]) && eG (fJ cs)
noncomputable def Er (cs:List Nat):Int:=if cs.head? =some 45 then -((NumText.digitsVal cs.tail:Nat):Int) else((NumText.digitsVal cs:Nat):Int)
theorem zeI (x:Str):Txt.startswith x (Str.ofString "-")=decide ((cd x).head? =some 45):=by
  cases h:cd x with
  |nil=>
    have:x=Str.ofString "":=by rw[tW];exact h
    rw[this]
    decide +kernel
  |cons c r=>
    rw[zaM h]
    simp
theorem V6 (h:cs.all gw=true):NumText.AllDigits cs:=fun c hc=>by
 have:=xbb.mp h c hc;unfold gw at this
 simpa using this
theorem G_ (h:eG cs=true):cs≠ []/\NumText.AllDigits cs/\(cs=[48]\/cs.head? ≠some 48):=by
 unfold eG at h;simp only[xam,xbm,xcR,xaC,xcd]at h;exact⟨h.1.1,V6 h.1.2,h.2⟩
theorem Pq (h:eG (fJ (cd x))=true)(hl:x.length<=600):intText? x=some (Er (cd x)):=by
 obtain⟨h1,h2,h3⟩:=G_ h;unfold fJ at h1 h2;unfold Er
 by_cases hh:(cd x).head? =some 45
 ·rw[xab hh]at h1 h2 ⊢;obtain⟨r,e⟩:∃r,cd x=45::r:=by
   cases hc:cd x with
   |nil=>rw[hc]at hh;cases hh
   |cons c r=>rw[hc]at hh;simp at hh;exact⟨r,by rw[hh]⟩
  rw[e,xdh]at h1 h2 ⊢;exact intText_neg e h2 h1 (by omega)
 ·rw[xaf hh]at h1 h2 ⊢;exact intText_digits h2 h1 (by omega)
theorem Xp (x:Str):(Txt.lstripChars x (Str.ofString "-")).length=x.length - ((cd x).takeWhile fun c=>decide (c=45)).length:=by
 have hg:(fun c=>((Str.ofString "-").cps.contains c:Bool))=fun c=>decide (c=45):=by
  funext c;rw[show(Str.ofString "-").cps= #[45] by x_go]
  simp
 have hlo:stripLo (Str.ofString "-").cps.contains true x=((cd x).takeWhile fun c=>decide (c=45)).length:=by
  unfold stripLo;rw[xab rfl];show((cd x).takeWhile fun c=>((Str.ofString "-").cps.contains c:Bool)).length=_;rw[hg]
 have hle:=PyProof.Rows.takeWhile_len_le (fun c=>decide (c=45)) (cd x);unfold Txt.lstripChars Txt.stripBy
 split
 ·rename_i h;unfold stripSame at h;rw[xam,xaY,hlo]at h;omega
 ·unfold stripped;rw[hlo];show(x.cps.extract _ (stripHi _ false x _)).size=_;unfold stripHi;rw[xaf (by decide),Array.size_extract];show min x.cps.size x.cps.size - _=x.cps.size - _;omega
theorem Xw (h:good (cd x)=true):(Txt.lstripChars x (Str.ofString "-")).length=(fJ (cd x)).length:=by
  unfold good at h;rw[xam]at h;obtain⟨h1,h2,h3⟩:=G_ h.2;rw[Xp,u5];have no:∀cs:List Nat,NumText.AllDigits cs->(cs.takeWhile fun c=>decide (c=45))=[]:=fun cs hd=>by
    cases cs with
    |nil=>rfl
    |cons c r=>
      have:=hd c xaF;rw[xdt,xaf (by simp;omega)]
  unfold fJ at h1 h2 ⊢
  by_cases hh:(cd x).head? =some 45
  · rw[xab hh]at h1 h2 ⊢;obtain⟨r,e⟩:∃r,cd x=45::r:=by
      cases hc:cd x with
      |nil=>rw[hc]at hh;cases hh
      |cons c r=>rw[hc]at hh;simp at hh;exact⟨r,by rw[hh]⟩
    rw[e,xdh]at h1 h2 ⊢;rw[xdt,xab (by simp),no _ h2]
    simp
  · rw[xaf hh]at h1 h2 ⊢;rw[no _ h2]
    simp
theorem Xr (h:n<340282366920938463463374607431768211456):n.log2<1920:=by
 by_cases h0:n=0
 ·rw[h0];decide
 ·have:=(Nat.log2_lt h0 (k:=128)).mpr h;omega
section
variable {env:Env}{M M1:Mm}{f g h c:E}{d e:D}{i j:Int}{n k:Nat}{z:Str}{b:Bool}{ds es:List D}{s t:S}{x:Str}{fa:EA}{u:G}
theorem zbU {q:D->Mm->OS}:cU q (some (.x x i,M))=some (.ex x i,M):=rfl
theorem zbt {q:D->Mm->O}:cY q (some (.x x i,M))=some (.x x i,M):=rfl
theorem zbC {q:List D->Mm->O}:g8 q (some (.x x i,M))=some (.x x i,M):=rfl
theorem zbY {q:Mm->Option (ResA×Mm)}:GX q (some (.x x i,M))=some (.x x i,M):=rfl
theorem zbR:pq d (some (.x x i,M))=some (.x x i,M):=rfl
def Ia (q:List D->O):Option Cl->O
 |some (.lst ds)=>q ds
 |_=>none
theorem zeP {q:List D->O}:Ia q (some (.lst ds))=q ds:=rfl
noncomputable def pR (M:Mm) (k:Nat) (ds:List D):Option D->O
 |some z=>some (.v z,M.set k (.lst ds.dropLast))
 |none=>none
theorem RV:pR M k ds (some d)=some (.v d,M.set k (.lst ds.dropLast)):=rfl
noncomputable def zZ (M:Mm):D->O
 |.ref k=>Ia (fun ds=>pR M k ds ds[ds.length - 1]?) M[k]?
 |_=>none
theorem zcJ:zZ M (.ref k)=Ia (fun ds=>pR M k ds ds[ds.length - 1]?) M[k]? :=rfl
theorem zeG:dM f env M=cY (fun d M1=>zZ M1 d) (f env M):=rfl
noncomputable def u6 (q:List D->OS):Option Cl->OS
 |some (.lst ds)=>q ds
 |_=>none
theorem RP {q:List D->OS}:u6 q (some (.lst ds))=q ds:=rfl
noncomputable def yC (env:Env) (g:Mm->O) (M:Mm):D->OS
 |.ref k=>u6 (fun _=>cU (fun y M2=>u6 (fun ds=>if ds.length<sizeLine then some (.nx env,M2.set k (.lst (ds ++ [y]))) else none) M2[k]?) (g M)) M[k]?
 |_=>none
theorem zcA {q:Mm->O}:yC env q M (.ref k)=u6 (fun _=>cU (fun y M2=>u6 (fun ds=>if ds.length<sizeLine then some (.nx env,M2.set k (.lst (ds ++ [y]))) else none) M2[k]?) (q M)) M[k]? :=rfl
theorem zdp:gR f g env M=cU (fun d M1=>yC env (g env) M1 d) (f env M):=rfl
theorem sX (h:M[k]? =some (.lst ds)):vw M (.ref k)=.lst ds:=by unfold vw;simp only[h]
noncomputable def yE (q:List D->Mm->O):Option (ResA×Mm)->O
 |some (.v ds,M)=>q ds M
 |_=>none
theorem zcw {q:List D->Mm->O}:yE q (some (.v ds,M))=q ds M:=rfl
theorem zb7:nG u fa env M=yE (fun ds M1=>u ds M1) (fa env M):=rfl
theorem Ka:p7 x f env M=cU (fun _ M1=>some (.ex x 0,M1)) (f env M):=rfl
noncomputable def Mw (k:Nat) (M:Mm) (env:Env):Option Slot->OS
 |some (.exc _ _)=>some (.nx (env.set k .un),M)
 |_=>none
theorem zey {e':Env}:Mw k M e' (some (.exc x i))=some (.nx (e'.set k .un),M):=rfl
noncomputable def rF (k:Nat):OS->OS
 |some (.nx e,M2)=>Mw k M2 e e[k]?
 |some (.rt d,M2)=>some (.rt d,M2)
 |_=>none
theorem zbD {e':Env}:rF k (some (.nx e',M))=Mw k M e' e'[k]? :=rfl
theorem zbK:rF k (some (.rt d,M))=some (.rt d,M):=rfl
noncomputable def rG (k:Nat) (cat:Str->Bool) (q:S) (env:Env):OS->OS
 |some (.ex c n,M1)=>if cat c=true then(if k<env.length then rF k (q (env.set k (.exc c n)) M1) else none) else none
 |o=>o
theorem zc0 {cat:Str->Bool}{e':Env}:rG k cat t env (some (.nx e',M))=some (.nx e',M):=rfl
theorem zbZ {cat:Str->Bool}:rG k cat t env (some (.rt d,M))=some (.rt d,M):=rfl
theorem zcB {cat:Str->Bool}:rG k cat t env (some (.ex x i,M))=if cat x=true then(if k<env.length then rF k (t (env.set k (.exc x i)) M) else none) else none:=rfl
theorem zex {cat:Str->Bool}:p8 k cat s t env M=rG k cat t env (s env M):=rfl
noncomputable def zx (tb:Str->Option Bool) (M:Mm):Option Slot->O
 |some (.exc c _)=>(tb c).map fun b=>(.v (.bl b),M)
 |_=>none
theorem zd4 {tb:Str->Option Bool}:zx tb M (some (.exc x i))=(tb x).map fun b=>(.v (.bl b),M):=rfl
theorem zeQ {tb:Str->Option Bool}:mR k tb env M=zx tb M env[k]? :=rfl
noncomputable def zA (b:Bool) (tb:List (Str×D)) (M:Mm):D->O
 |.str z=>some (.v (.bl (if b then(dH tb z).isSome else !(dH tb z).isSome)),M)
 |_=>none
theorem zd7 {tb:List (Str×D)}:zA b tb M (.str z)=some (.v (.bl (if b then(dH tb z).isSome else !(dH tb z).isSome)),M):=rfl
theorem zeD {tb:List (Str×D)}:kW b tb f env M=cY (fun d M1=>zA b tb M1 d) (f env M):=rfl
noncomputable def Qe (tb:List (Str×D)) (M:Mm):D->O
 |.str z=>(dH tb z).map fun y=>(.v y,M)
 |_=>none
theorem zcr {tb:List (Str×D)}:Qe tb M (.str z)=(dH tb z).map fun y=>(.v y,M):=rfl
theorem zc9 {tb:List (Str×D)}:Al tb f env M=cY (fun d M1=>Qe tb M1 d) (f env M):=rfl
noncomputable def U5:O->Option (ResA×Mm)
 |some (.v (.str z),M1)=>some (.v (z.cps.toList.map fun c=>.str ⟨#[c]⟩),M1)
 |some (.x c n,M1)=>some (.x c n,M1)
 |_=>none
theorem zeK:Cu f env M=U5 (f env M):=rfl
theorem zd8:U5 (some (.v (.str z),M))=some (.v (z.cps.toList.map fun c=>.str ⟨#[c]⟩),M):=rfl
noncomputable def R9:Option (ResA×Mm)->Option (ResA×Mm)
 |some (.v [.lst ds],M1)=>some (.v ds.reverse,M1)
 |some (.x c n,M1)=>some (.x c n,M1)
 |_=>none
theorem zdY:Cr fa env M=R9 (fa env M):=rfl
theorem zd9:R9 (some (.v [.lst ds],M))=some (.v ds.reverse,M):=rfl
noncomputable def Ai:Option (ResA×Mm)->Option (ResA×Mm)
 |some (.v [.tup ds],M1)=>some (.v ds.reverse,M1)
 |some (.x c n,M1)=>some (.x c n,M1)
 |_=>none
theorem zdv:pH fa env M=Ai (fa env M):=rfl
theorem zci:Ai (some (.v [.tup ds],M))=some (.v ds.reverse,M):=rfl
noncomputable def QL (o:Str->List D->Option D) (q:Mm->Option (ResA×Mm)) (M:Mm):D->O
 |.str y=>n6 (o y) (q M)
 |_=>none
theorem Kv {o:Str->List D->Option D}{q:Mm->Option (ResA×Mm)}:QL o q M (.str z)=n6 (o z) (q M):=rfl
theorem J9 {o:Str->List D->Option D}:Am o f fa env M=cY (fun d M1=>QL o (fa env) M1 d) (f env M):=rfl
theorem Mr {y:Str}:Eo z [.str y]=some (.bl (Txt.startswith z y)):=rfl
theorem Mq {y:Str}:En z [.str y]=if z.length<=sizeLine then some (.str (Txt.lstripChars z y)) else none:=rfl
theorem J5 {ps:EJ}:fU ps env M=ps Str.empty env M:=rfl
theorem J8 {out:Str}:fL out env M=if out.length<=sizeLine then some (.v (.str out),M) else none:=rfl
theorem J7 {ps:EJ}{out:Str}:fK z ps out env M=if (out ++ z).length<=sizeLine then ps (out ++ z) env M else none:=rfl
noncomputable def Qa (ps:EJ) (out:Str) (env:Env) (M:Mm):Option Str->O
 |some y=>if (out ++ y).length<=sizeLine then ps (out ++ y) env M else none
 |none=>none
theorem Ac {ps:EJ}{out y:Str}:Qa ps out env M (some y)=if (out ++ y).length<=sizeLine then ps (out ++ y) env M else none:=rfl
theorem RB {ps:EJ}{out:Str}:kh f ps out env M=cY (fun d M1=>Qa ps out env M1 (yh d)) (f env M):=rfl
theorem Uy:yh (.str z)=if z.length<=sizeLine then some z else none:=rfl
theorem zeH:yh (.int i)=if i.natAbs.log2<1920 then some (Str.ofString (toString i)) else none:=rfl
noncomputable def P_ (ps:EJ) (out:Str) (env:Env) (M:Mm):D->O
 |.str z=>if (reprText z).length<=sizeLine/\(out ++ reprText z).length<=sizeLine then ps (out ++ reprText z) env M else none
 |_=>none
theorem Ab {ps:EJ}{out:Str}:P_ ps out env M (.str z)=if (reprText z).length<=sizeLine/\(out ++ reprText z).length<=sizeLine then ps (out ++ reprText z) env M else none:=rfl
theorem Rz {ps:EJ}{out:Str}:mK f ps out env M=cY (fun d M1=>P_ ps out env M1 d) (f env M):=rfl
theorem Yv:gF (.lst ds) (.lst es)=if ds.length + es.length<=sizeLine then some (.lst (ds ++ es)) else none:=rfl
theorem Yt {y:Str}:aR (.str z) (.str y)=if z.length + y.length<=sizeLine then some (.str (z ++ y)) else none:=rfl
theorem YH:bG (.str z) (.int i)=if z.length<=sizeLine then(bR z.cps.toList i).map fun c=>.str ⟨#[c]⟩ else none:=rfl
theorem YL:dF [.str z]=if z.length<=sizeLine then some (.int z.length) else none:=rfl
theorem Za:mj [.int i]=if i.natAbs.log2<1920 then some (.str (toString i)) else none:=rfl
theorem YB:lZ [.str z]=if z.length<=640 then(intText? z).map .int else none:=rfl
theorem Yu:n_ [.lst ds]=(rK ds).map fun bs=>.bl (bs.any id):=rfl
theorem Ze:mq [.lst ds]=some (.tup ds):=rfl
theorem Yz {y:Str}:aG .isin (.str z) (.str y)=some (.bl (nj z y)):=rfl
theorem Y7 {y:Str}:aG .notin (.str z) (.str y)=some (.bl (!nj z y)):=rfl
theorem Yx {y:Str}:aG .eq (.str z) (.str y)=some (.bl (decide (z=y))):=by
 unfold aG bZ wH;rw[xab (by constructor<;>first |rfl |simp[D.dep])]
 have:(z==y)=decide (z=y):=by rw[xaI];simp
 simp[D.eq,this]
theorem Y4 {y:Str}:aG .ne (.str z) (.str y)=some (.bl (!decide (z=y))):=by
 unfold aG bZ mz;rw[xab (by constructor<;>first |rfl |simp[D.dep])]
 have:(z==y)=decide (z=y):=by rw[xaI];simp
 simp[D.eq,this]
theorem YC:aG .same .non .non=some (.bl true):=rfl
theorem YD:aG .other (.int i) .non=some (.bl true):=rfl
theorem YF:aG .other .non .non=some (.bl false):=rfl
theorem GR {α:Type}{e:E}(A B:α->D):∀(as:List α) (acc:List D),(∀a∈as,e (.val (A a)::env) M=some (.v (B a),M))->acc.length + as.length<sizeLine->mD (ak (.bl true)) e env (as.map A) acc M=some (acc ++ as.map B,M)
  | [],acc,_,_=>by simp[mD]
  |a::as,acc,h,hl=>by
    rw[xao]at hl;have hr:=GR A B as (acc ++ [B a]) (fun a' ha'=>h a' (by simp[ha'])) (by rw[xak,xas];omega);rw[xau];unfold mD;rw[show ak (.bl true) (.val (A a)::env) M=some (.v (.bl true),M) from rfl];dsimp only;rw[h a xaF];dsimp only;rw[xab (by omega),hr]
    simp
noncomputable def xZ (k:Nat) (t:S) (ds:List D):OS->OS
 |some (.nx e,M1)=>loopS k t ds e M1
 |some (.ct e,M1)=>loopS k t ds e M1
 |some (.bk e,M1)=>some (.nx e,M1)
 |some (.rt d,M1)=>some (.rt d,M1)
 |some (.ex c n,M1)=>some (.ex c n,M1)
 |none=>none
theorem zbp:loopS k t [] env M=some (.nx env,M):=rfl
theorem zb1:loopS k t (d::ds) env M=if k<env.length then xZ k t ds (t (env.set k (.val d)) M) else none:=rfl
theorem RW {e':Env}:xZ k t ds (some (.nx e',M))=loopS k t ds e' M:=rfl
theorem zdB {e':Env}:xZ k t ds (some (.ct e',M))=loopS k t ds e' M:=rfl
theorem zdV {e':Env}:xZ k t ds (some (.bk e',M))=some (.nx e',M):=rfl
theorem zdL:xZ k t ds (some (.rt d,M))=some (.rt d,M):=rfl
theorem zee:xZ k t ds (some (.ex x i,M))=some (.ex x i,M):=rfl
theorem Ga {α β:Type}(F:α->β)(xs:List α)(i:Int):bR (xs.map F) i=(bR xs i).map F:=by
 unfold bR;rw[xap];cases pJ xs.length i<;>simp
theorem Vj {α:Type}{xs:List α}{i:Int}(d:α)(h0:0<=i)(h1:i<xs.length):bR xs i=some (xs.getD i.toNat d):=by
 obtain⟨k,rfl⟩:∃k:Nat,i=k:=⟨i.toNat,by omega⟩;have hk:k<xs.length:=by omega
 exact mY (by simp[hk])
theorem at0 {α:Type}{a:α}{xs:List α}:bR (a::xs) 0=some a:=mY (j:=0) rfl
theorem at1 {α:Type}{a b:α}{xs:List α}:bR (a::b::xs) 1=some b:=mY (j:=1) rfl
theorem at2 {α:Type}{a b c:α}{xs:List α}:bR (a::b::c::xs) 2=some c:=mY (j:=2) rfl
theorem FW {α:Type}{a b c d:α}{xs:List α}:bR (a::b::c::d::xs) 3=some d:=mY (j:=3) rfl
theorem gK {M:Mm}{cl:Cl}:(M ++ [cl])[M.length]? =some cl:=List.getElem?_concat_length ..
theorem s_end {M:Mm}{cl cl':Cl}:(M ++ [cl]).set M.length cl'=M ++ [cl']:=by simp
theorem w_end {M:Mm}:vw (M ++ [.lst ds]) (.ref M.length)=.lst ds:=sX gK
theorem V3 {α:Type}(xs:List α){i:Int}(h:0<=i):dU xs (some i) none=xs.drop i.toNat:=by
 obtain⟨k,rfl⟩:∃k:Nat,i=k:=⟨i.toNat,by omega⟩;unfold dU;rw[HT.zbj,HT.zbE];rw[List.take_of_length_le (by rw[xcY];omega),xce]
 by_cases hk:k<=xs.length
 ·rw[Nat.min_eq_left hk]
 ·rw[Nat.min_eq_right (by omega),xck,List.drop_of_length_le (by omega)]
theorem V5 {α:Type}(xs:List α)(a:α):dU (xs ++ [a]) none (some (-1))=xs:=by
 unfold dU;rw[show HT.dJ (xs ++ [a]).length 0 none=0 from rfl,show HT.dJ (xs ++ [a]).length (xs ++ [a]).length (some (-1))=xs.length by simp only[HT.dJ];simp;omega]
 simp
end
end E3
namespace L2
open PySem PySem.Spec PyProof.Rows
end L2
namespace E3
open PySem PySem.Spec PyProof.Rows L2
section
variable {X:Cx}{Wx:XW}{m:Mode}{pos:Pos}
noncomputable def lG (i j n:Nat) (body:S):Nat->Env->Mm->OS
  |0,env,M=>some (.nx env,M)
  |r + 1,env,M=>match M[j]? with
    | some (.lst ds) => if ds.length = n then (match ds[r]? with
      |none=>none
      | some d => if i < env.length then (match body (env.set i (.val d)) M with
        |some (.nx e,M1)=>lG i j n body r e M1
        |some (.ct e,M1)=>lG i j n body r e M1
        |some (.bk e,M1)=>some (.nx e,M1)
        |some (.rt d,M1)=>some (.rt d,M1)
        |some (.ex c k,M1)=>some (.ex c k,M1)
        |none=>none) else none) else none
    |_=>none
theorem Xv {K:Fgx}{mg:Mgx}{P0 P1:Pl}{H0 H1:Hp}{Os:List (Option Addr)}{M M':Mm}{st:L2.St}{env:Env}{i j n:Nat}{b:S}{out:Out}{D:Ends}(k:Ok K mg P0 H0 P1 Os H1 M st env)(hj:j<P1.n)
    (h:lG i j n b n env M=some (out,M')) (q:Post K mg Wx P0 H0 P1 H1 M' D out):
    ∃W:Nat->Nat->L2.St->Hp->Prop,(∃m,W 0 m st H1)/\∀t m σ H,W t m σ H->
      ((yr K (P1.io j) n).stop t H/\D.nx σ H)\/((yr K (P1.io j) n).go t H/\∃Nn:L2.St->Hp->Prop,(∀σ' H',Nn σ' H'->∃m',m'<m/\W (t + 1) m' σ' H')/\∀x H',(yr K (P1.io j) n).yld t H x H'->Cj i x σ H' fun σ2 H2=>tS K mg Wx b {D with nx:=Nn,ct:=Nn,bk:=D.nx} σ2 H2):=by
  refine⟨fun t m σ H=>t + m=n/\∃P Os' M1 env',Lt P1 H1 P H/\Ok K mg P0 H0 P Os' H M1 σ env'/\lG i j n b m env' M1=some (out,M'),⟨n,Nat.zero_add n,P1,Os,M,env,Lt.refl _ _,k,h⟩,?_⟩;rintro t m σ H ⟨htm,P,Os',M1,env',lt,k',h'⟩
  cases m with
  |zero=>
    cases h';exact .inl ⟨by show t=n;omega,q P Os' H σ lt k'⟩
  |succ m=>
    simp only[lG]at h';split at h'
    · rename_i ds em;obtain⟨vs,ev,is⟩:=k'.hk.cell j _ em;rw[lt.io j hj]at ev;have sq:bI K H (P1.io j) vs:=.inl (.inl ev);split at h'
      · rename_i hln;split at h'
        · cases h'
        · rename_i d et;obtain⟨v,evt,iv⟩:=is.get et;have hvl:vs.length=n:=by rw[is.len];exact hln
          split at h'
          · rename_i hi;refine .inr ⟨⟨by omega,vs,sq,hvl⟩,fun σ' H'=>t + 1 + m=n/\∃P Os' M1 env',Lt P1 H1 P H'/\Ok K mg P0 H0 P Os' H' M1 σ' env'/\lG i j n b m env' M1=some (out,M'),fun σ' H' z=>⟨m,xa3 m,z⟩,fun x H' y=>?_⟩;obtain⟨rfl,y⟩:=y;have ex:=y vs sq;rw[show n - 1 - t=m by omega,evt]at ex;cases ex;have k2:=k'.asg hi iv;split at h'
            · rename_i e M2 eb;exact⟨P0,H0,P,_,_,M1,_,_,k2,eb,fun P' Os2 H2 st2 l2 k3=>⟨by omega,P',Os2,_,e,lt.trans l2,k3,h'⟩⟩
            · rename_i e M2 eb;exact⟨P0,H0,P,_,_,M1,_,_,k2,eb,fun P' Os2 H2 st2 l2 k3=>⟨by omega,P',Os2,_,e,lt.trans l2,k3,h'⟩⟩
            · rename_i e M2 eb;cases h';exact⟨P0,H0,P,_,_,M1,_,_,k2,eb,fun P' Os2 H2 st2 l2 k3=>q P' Os2 H2 st2 (lt.trans l2) k3⟩
            · rename_i e M2 eb;cases h';exact⟨P0,H0,P,_,_,M1,_,_,k2,eb,q⟩
            · rename_i c n M2 eb;cases h';exact⟨P0,H0,P,_,_,M1,_,_,k2,eb,q⟩
            · cases h'
          · cases h'
      · cases h'
    · cases h'
noncomputable def Ak (i:Nat) (fs:EA) (body:S):S:=fun env M=>match fs env M with
  |some (.v [.lst ds],M1)=>loopS i body ds.reverse env M1
  | some (.v [.ref j], M1) => (match M1[j]? with
    |some (.lst ds)=>lG i j ds.length body ds.length env M1
    |_=>none)
  |some (.x c n,M1)=>some (.ex c n,M1)
  |_=>none
theorem zbV (hp:PassesOwn (model X.prog X.w) X.A X.env X.xe)(hc:X.calm=true)(hN:X.N.Nodup)(hi:X.N[i]? =some x)(hx:Loc X.env.scope x)(hg:Gl X "reversed")(hm:X.mg "reversed"=none)(ha:SA X Wx .val [a] fs)(hb:SB X Wx body b)
  (hst:starEach [a] X.env=[(false,eval a X.env)]:=by rfl) (hf:X.fn x=true\/X.env.scope.names.lookup x=some .local:=by first |exact .inl rfl |exact .inr rfl) (hs:∀x,foldedSetIterable (.Call (.Name "reversed" pr) [a] [] pc) X.env x=pure x:=by intro _;rfl):SS X Wx (.For (.Name x p) (.Call (.Name "reversed" pr) [a] [] pc) body [] pos) (Ak i fs b):=by
 refine fP (Rp hp hc (Rm hg hm ha hst) (Rj hN hi hx hf) hb hs) ?_;rintro D st H ⟨P0,H0,P,Os,env,M,out,M',k,e,q⟩;unfold Ak at e;split at e
 ·rename_i ds M1 ef;refine⟨P0,H0,P,Os,env,M,_,_,k,ef,fun P1 vs H1 l1 h1 i1=>?_⟩;obtain⟨v,ws,rfl,i1,rfl⟩:=i1;obtain⟨a,us,rfl,ra,is⟩:=i1;refine⟨a,us,rfl,ra.imp (·.2) id,Qp (k.next l1 h1) (fun P2 H2 l2=>?_) e (q.lt (l1.lt k.hk))⟩
  have ra2:=l2.rda ra;have is2:=aD.lt l2 is;have sq:bI X.K H2 a us:=ra2.imp (·.2) id;have hn:us.length=ds.length:=is2.len;rw[xal];refine⟨fun j hj=>⟨by omega,us,sq,rfl⟩,fun j h1 h2=>by show j=us.length;omega,fun j x H' y hj=>⟨y.1,?_⟩⟩;have hj':ds.length - 1 - j<ds.length:=by omega
  obtain⟨v,ev,iv⟩:=aD.get is2 (xae hj');have:=y.2 us sq;rw[hn,ev]at this;cases this;exact⟨_,by rw[xbR hj,xae hj'],iv⟩
 ·rename_i j M1 ef;split at e
  ·rename_i ds em;refine⟨P0,H0,P,Os,env,M,_,_,k,ef,fun P1 vs H1 l1 h1 i1=>?_⟩;obtain⟨v,ws,rfl,i1,rfl⟩:=i1;obtain⟨jl,rfl⟩:j<P1.n/\v=.ref (P1.io j):=i1;obtain⟨us,ev,is⟩:=h1.cell j _ em;refine⟨P1.io j,us,rfl,.inl (.inl ev),?_⟩;rw[show us.length=ds.length from is.len];exact Xv (k.next l1 h1) jl e (q.lt (l1.lt k.hk))
  ·cases e
 ·rename_i c n M1 ef;cases e;exact⟨P0,H0,P,Os,env,M,_,_,k,ef,q⟩
 ·cases e
end
section
variable {env:Env}{M:Mm}{ds:List D}{d:D}{i j k n:Nat}{t:S}{fa:EA}{x:Str}
noncomputable def gB (i:Nat) (t:S) (env:Env):Option (ResA×Mm)->OS
 |some (.v [.lst ds],M1)=>loopS i t ds.reverse env M1
 |some (.v [.ref j],M1)=>u6 (fun ds=>lG i j ds.length t ds.length env M1) M1[j]?
 |some (.x c n,M1)=>some (.ex c n,M1)
 |_=>none
theorem zcX:Ak i fa t env M=gB i t env (fa env M):=by
 unfold Ak gB
 split<;>rfl
theorem RM:gB i t env (some (.v [.lst ds],M))=loopS i t ds.reverse env M:=rfl
theorem RN:gB i t env (some (.v [.ref j],M))=u6 (fun ds=>lG i j ds.length t ds.length env M) M[j]? :=rfl
theorem Xu (Q:OS->Prop)(J:Nat->Env->Mm->Prop)(h0:J ds.length env M)
    (hs:∀(r:Nat) d env M,ds[r]? =some d->J (r + 1) env M->M[j]? =some (.lst ds)/\i<env.length/\Step (J r) Q (body (env.set i (.val d)) M)) (hd:∀env M,J 0 env M->Q (some (.nx env,M))):Q (lG i j ds.length body ds.length env M):=by
  have key:∀(r:Nat) (env:Env) (M:Mm),r<=ds.length->J r env M->Q (lG i j ds.length body r env M):=by
    intro r
    induction r with
    |zero=>intro env M _ hJ;exact hd env M hJ
    |succ r ih=>
      intro env M hr hJ;obtain⟨hM,hi,h1⟩:=hs r ds[r] env M (xae (by omega)) hJ;simp only[lG,hM,xaP,xae (show r<ds.length by omega),hi]
      cases e:body (env.set i (.val ds[r])) M with
      |none=>rw[e]at h1;exact h1.elim
      |some o=>
        rw[e]at h1;obtain⟨o,M'⟩:=o
        cases o with
        |nx e'=>exact ih e' M' (by omega) h1
        |ct e'=>exact ih e' M' (by omega) h1
        |bk e'=>exact h1
        |rt d=>exact h1
        |ex c n=>exact h1
  exact key ds.length env M (xai _) h0
end
end E3
namespace L2
open PySem PySem.Spec PyProof.Rows
theorem XR:wF X "list.index" (fun x xs H Q=>∃(p:Addr) (zs:List Str) (y:Str) (j:Nat),x=.ref p/\xs=[.str y]/\bI X.K H p (zs.map V.str)/\zs.findIdx? (fun z=>decide (z=y))=some j/\Q (.int j) H):=by
 intro pins s σ H x xs v us Q I rx rs h;obtain⟨p,zs,y,j,rfl,rfl,hq,hj,q⟩:=h;cases rx;obtain⟨u,rfl,t,rfl⟩:=vals1 rs;obtain⟨its,rv,⟨⟨cls,dd,data,sl⟩,n,ho,hc,hdn,hd⟩,hz⟩:=I.list hq;simp only at hc hd;subst hc hd;have hl:its.length=zs.length:=by rw[<-rv.length,xap]
 have item:∀(m:Nat) (hm:m<its.length),∃t',its[m]=.str (zs[m]'(by omega)) t':=fun m hm=>by
  obtain⟨u,hu,ru⟩:=rv.get (i:=m) (x:=.str (zs[m]'(by omega))) (by rw[xan,xae (by omega)];rfl);obtain⟨t',ru⟩:=ru;rw[xae hm]at hu;exact⟨t',by rw[xay hu,ru]⟩
 rw[List.findIdx?_eq_some_iff_getElem]at hj;obtain⟨hj1,hj2,hj3⟩:=hj;have hn:=pL;rw[xap]at hz;refine xdj xda ⟨_,ho,rfl⟩ PySem.F.entry_list_index (PySem.F.args_list_index_2 _ _)
  (PySem.SeqAt.list_indexAt p its.toArray n dd sl (.str y t) (fun u=>match u with |.str z _=>z==y |_=>false) j (by simp only[xah];omega) (by omega) ?_ ?_) ⟨ho,fun u hu=>?_,⟨.int j,H,I.tok _,⟨_,rfl⟩,q⟩⟩
 ·obtain⟨t',e⟩:=item j (by omega);simp only[xdl,e];exact xaY.mpr (xch hj2)
 ·intro m hm hlt;simp only[xah]at hm;obtain⟨t',e⟩:=item m hm;simp only[xdl,e];have:=hj3 m hlt
  simpa using this
 ·have hu':u∈its:=by simpa using hu
  obtain⟨m,hm,rfl⟩:=List.getElem_of_mem hu';obtain⟨t',e⟩:=item m hm;rw[e];exact(eqGives_str _ _ _ _).at _ _
end L2
namespace E3
open PySem PySem.Spec PyProof.Rows L2
section
variable {X:Cx}{Wx:XW}{m:Mode}{pos:Pos}
noncomputable def gC (ds:List D):List D->Option D
  | [.str y]=>match A_ ds with
    |some zs=>(zs.findIdx? (fun z=>decide (z=y))).map fun(j:Nat)=>D.int (j:Int)
    |none=>none
  |_=>none
noncomputable def pZ (f:E) (fs:EA):E:=fun env M=>bnd (f env M) fun d M1=>match d with
 |.lst ds=>cQ (fs env M1) fun es M2=>(gC ds es).map fun z=>(.v z,M2)
 |_=>none
theorem zct {a e:Expr}{es:List Expr}{f:E}{fs:EA}{p:Pos}(ha:SE X Wx .val a f)(hs:SA X Wx .val (e::es) fs)
  (hbase:attributeBase a "index" X.env (eval a X.env)=eval a X.env:=by rfl)
  (hfew:((backTo pos (starEach (e::es) X.env)).all (fun x=> !x.1) && (backToKw pos (keywordEach [] X.env)).all (fun x=>x.1.isSome) && decide ((e::es).length + ([]:List Keyword).length + (if ([]:List Keyword).isEmpty then 0 else 1)<30))=true:=by rfl)
  (hline:(p.endLine==pos.line)=true:=by rfl) (hst:starEach (e::es) X.env=(false,eval e X.env)::starEach es X.env:=by rfl) (hplain:(backTo pos (starEach es X.env)).any (·.1)=false:=by rfl):
  SE X Wx m (.Call (.Attribute a "index" p) (e::es) [] pos) (pZ f fs):=by
 refine cj (Dc xbn xda PySem.F.type_list_index XR ha hs hbase hfew hline hst hplain) ?_;rintro st H Q ⟨P0,H0,P,Os,env,M,r,M',k,e,q⟩;unfold pZ at e;rcases cB e with⟨d,M1,e1,e⟩ |⟨c,n,e1,rfl⟩
 ·cases d<;>simp only[reduceCtorEq]at e
  rename_i ds;refine aV k e1 fun P1 v1 H1 l1 h1 i1=>?_;have k1:=k.next l1 h1
  obtain⟨a,us,rfl,ra,is⟩:=i1;refine⟨.inl ⟨rfl,us,ra.imp (·.2) id⟩,?_⟩;rcases o_ e with⟨es,M2,e2,e⟩ |⟨c,n,e2,rfl⟩
  ·rw[xac]at e;obtain⟨z,ez,e⟩:=e;cases e;refine⟨P0,H0,P1,Os,env,M1,_,_,k1,e2,fun P2 vs H2 l2 h2 i2=>?_⟩;unfold gC at ez;split at ez
   ·rename_i y;split at ez
    ·rename_i zs ey;rw[xac]at ez;obtain⟨j,ej,rfl⟩:=ez;obtain⟨w,ws,rfl,iw,rfl⟩:=i2;cases (show w=.str y from iw);have ra2:=(l2.lt h1).rda ra;have is2:=aD.lt (l2.lt h1) is;refine⟨a,zs,y,j,rfl,rfl,?_,ej,q P2 _ H2 (l1.trans l2) h2 (cG.of h2 (show Is _ _ _ (.int _) _ from rfl))⟩;rw[Ut ey is2]at ra2;exact ra2.imp (·.2) id
    ·cases ez
   ·cases ez
  ·exact⟨P0,H0,P1,Os,env,M1,_,_,k1,e2,q⟩
 ·exact aV k e1 q
end
section
variable {env:Env}{M:Mm}{ds es:List D}{f:E}{fa:EA}
noncomputable def zG (q:Mm->Option (ResA×Mm)) (M:Mm):D->O
 |.lst ds=>g8 (fun es M2=>mapR M2 (gC ds es)) (q M)
 |_=>none
theorem zed {q:Mm->Option (ResA×Mm)}:zG q M (.lst ds)=g8 (fun es M2=>mapR M2 (gC ds es)) (q M):=rfl
theorem zeX:pZ f fa env M=cY (fun d M1=>zG (fa env) M1 d) (f env M):=rfl
end
end E3
namespace L2
open PySem PySem.Spec PyProof.Rows
end L2
namespace E3
open PySem PySem.Spec PyProof.Rows L2
section
variable {X:Cx}{Wx:XW}{m:Mode}{pos:Pos}
open Classical in
end
end E3
namespace E3
open PySem PySem.Spec PyProof.Rows L2
end E3
namespace L2
open PySem PySem.Spec PyProof.Rows
end L2
namespace E3
open PySem PySem.Spec PyProof.Rows L2
end E3
namespace E3
end E3
namespace E3
open PySem PySem.Spec PyProof.Rows L2
mutual
def D.nr:D->Bool
 |.tup xs=>D.nrs xs
 |.lst xs=>D.nrs xs
 |.ref _=>false
 |_=>true
def D.nrs:List D->Bool
 | []=>true
 |a::as=>D.nr a && D.nrs as
end
noncomputable def Pf:Pl:=⟨fun _=>0,0,fun _=>False⟩
section
variable {K:Fgx}{mg:Mgx}{P P':Pl}{H H':Hp}{M:Mm}
mutual
theorem Is.fre:∀{d:D} {v:V},D.nr d=true->Is K P H d v->Is K Pf H d v
 |.non,_,_,h=>h
 |.bl _,_,_,h=>h
 |.int _,_,_,h=>h
 |.str _,_,_,h=>h
 |.tup _,_,n,h=>by obtain⟨a,vs,e,s,q⟩:=h;exact⟨a,vs,e,s,aD.fre n q⟩
 |.lst _,_,n,h=>by obtain⟨a,vs,e,s,q⟩:=h;exact⟨a,vs,e,s.imp (fun z=>⟨fun z=>z,z.2⟩) id,aD.fre n q⟩
 |.ref _,_,n,_=>by cases n
theorem aD.fre:∀{ds:List D} {vs:List V},D.nrs ds=true->aD K P H ds vs->aD K Pf H ds vs
  | [],_,_,h=>h
  |_::_,_,n,h=>by
    obtain⟨v,r,e,p,q⟩:=h;have n:=xdm.mp n;exact⟨v,r,e,Is.fre n.1 p,aD.fre n.2 q⟩
end
mutual
theorem Is.lf_any:∀{d:D} {v:V},D.lf d=true->Is K P H d v->Is K P' H d v
 |.non,_,_,h=>h
 |.bl _,_,_,h=>h
 |.int _,_,_,h=>h
 |.str _,_,_,h=>h
 |.tup _,_,n,h=>by obtain⟨a,vs,e,s,q⟩:=h;exact⟨a,vs,e,s,aD.lf_any n q⟩
 |.lst _,_,n,_=>by cases n
 |.ref _,_,n,_=>by cases n
theorem aD.lf_any:∀{ds:List D} {vs:List V},D.lfs ds=true->aD K P H ds vs->aD K P' H ds vs
  | [],_,_,h=>h
  |_::_,_,n,h=>by
    obtain⟨v,r,e,p,q⟩:=h;have n:=xdm.mp n;exact⟨v,r,e,Is.lf_any n.1 p,aD.lf_any n.2 q⟩
end
end
section
variable {X:Cx}{Wx:XW}{m:Mode}{pos:Pos}
theorem cN {k:Nat}{ss:List Stmt}{b:S}(hr:Room k X.A)(h:X.A.units + 60<cLine->SB X Wx ss b):SB X Wx ss b:=h (xcJ (xdu (by decide) _) hr.units)
theorem gj {e:Expr}{es:List Expr}{x:Str}{id:String}{r:List V->Hp->VK->Prop}{o:List D->Option D}{fs:EA}{p:Pos}(hc:dN X (.builtin id) r)(hg:Gl X x)(hm:X.mg x=none)(hv:bootBuiltins x=some (.builtin id))(po:mX X.K r o)(ha:SA X Wx .bor (e::es) fs)
  (hn:x≠"__name__":=by x_go) (hdb:(x==("__debug__":Str))=false:=by x_go) (he:starEach (e::es) X.env=(false,eval e X.env)::starEach es X.env:=by rfl) (hpl:(backTo pos (starEach es X.env)).any (·.1)=false:=by rfl):SE X Wx m (.Call (.Name x p) (e::es) [] pos) (sN o fs):=
 T7 (fun _ ha=>J1 hc hg hm hv ha hn hdb he hpl) po ha
theorem xW {e:Expr}{es:List Expr}{x:Str}{T:String}{r:List V->Hp->VK->Prop}{o:List D->Option D}{fs:EA}{p:Pos}(hc:dN X (.type T) r)(hg:Gl X x)(hm:X.mg x=none)(hv:bootBuiltins x=some (.type T))(po:mX X.K r o)(ha:SA X Wx .bor (e::es) fs)
  (hn:x≠"__name__":=by x_go) (hdb:(x==("__debug__":Str))=false:=by x_go) (he:starEach (e::es) X.env=(false,eval e X.env)::starEach es X.env:=by rfl) (hpl:(backTo pos (starEach es X.env)).any (·.1)=false:=by rfl):SE X Wx m (.Call (.Name x p) (e::es) [] pos) (sN o fs):=
 T7 (fun _ ha=>Rh hc hg hm hv ha hn hdb he hpl) po ha
end
section
variable (P:Program)(w:World)(K:Fgx)(mg:Mgx)(base:Heap)(k:Nat)(f:Addr)(N:List Str)(q:Str)(st:Stmt)(b:S)
abbrev RT:Prop:=∀(cdv:Value) (A:Around) (outer:List PySem.Env) (s:Shared) (H:Hp) (E:XK),Room k (A.deeper (envOfC q (aL st) s.heap.objs.size f cdv))->SB (yL P w K mg base N q st f cdv A outer s H E) W0 (bO st) b
abbrev yu:Prop:=∀(cdv:Value) (A:Around) (outer:List PySem.Env) (s:Shared) (H:Hp) (E:XK) (Wx:XW),Room k (A.deeper (envOfC q (aL st) s.heap.objs.size f cdv))->XFit (d8 P w K mg base N q st f cdv A outer s H E) Wx->XPass (d8 P w K mg base N q st f cdv A outer s H E) Wx->SB (d8 P w K mg base N q st f cdv A outer s H E) Wx (bO st) b
end
theorem cO (h1:sc.kind=.function:=by rfl)(h2:sc.isCoroutine=false:=by rfl)(h3:sc.isGenerator=false:=by rfl)(h4:N.Nodup:=by x_go)(h5:N.take P.length=P:=by rfl)
  (h6:∀x∈P,sc.names.lookup x=some .local\/sc.names.lookup x=some .cell:=by x_go) (h7:∀y∈sc.names,y.2≠ .free:=by x_go):FnScope N P sc:=⟨h1,h2,h3,h4,h5,h6,h7⟩
abbrev LV (st:Stmt)(x:Str):Prop:=(aL st).names.lookup x=some .local
abbrev LC (st:Stmt)(x:Str):Prop:=(aL st).names.lookup x=some .cell
structure DefAt (K:Fgx)(mg:Mgx)(x:Str)(st:Stmt)(ps:List Str)(f:Addr)(fd:FuncData):Prop where
 mg:mg x=some (.ref f)
 F:FunD K x x st f fd
 b:Binds K fd ps []
theorem DefAt.ok {P:Program}{w:World}{K:Fgx}{mg:Mgx}{base:Heap}{k:Nat}{x:Str}{st:Stmt}{f:Addr}{fd:FuncData}{N ps:List Str}{b:S}(D:DefAt K mg x st ps f fd)(S:FnScope N ps (aL st))(hr:RT P w K mg base k f N x st b)(hp:ps.length<=N.length:=by decide):bf P w K mg base (k + 1) x ps.length (bJ N.length b):=Wf D.F S hp D.mg D.b hr
def aW (K:Fgx)(x:Str)(st:Stmt):Prop:=∃(f:Addr) (oc kV dc pm cd ct:Value) (od an:Option Addr) (sl:Array (Option Value)),PySem.W.nsIn K mainGlobals x=some (some (.ref f))/\K.lookup f=some ⟨oc,od,.func (PySem.W.fnOf x x (cH st) (bO st) (aL st) .none kV dc pm an cd ct),sl⟩/\PySem.W.codeIn K cd x=true/\PySem.W.keepIn K (.ref f)=true
theorem aW.mk {K:Fgx}{x:Str}{st:Stmt}{f:Addr}{oc kV dc pm cd ct:Value}{od an:Option Addr}{sl:Array (Option Value)}(a:PySem.W.nsIn K mainGlobals x=some (some (.ref f)))(l:K.lookup f=some ⟨oc,od,.func (PySem.W.fnOf x x (cH st) (bO st) (aL st) .none kV dc pm an cd ct),sl⟩)(c:PySem.W.codeIn K cd x=true)(k:PySem.W.keepIn K (.ref f)=true):aW K x st:=⟨f,oc,kV,dc,pm,cd,ct,od,an,sl,a,l,c,k⟩
theorem aW.at {K:Fgx}{h:Heap}{mg:Mgx}{x:Str}{st:Stmt}{ps:List Str}(F:aW K x st)(X:K.In h)(G:h.Ns mainGlobals mg)
  (hb:∀(kV doc pm:Value) (an:Option Addr) (cdv ct:Value) (us:List Value),us.length=ps.length->bindArgs (PySem.W.fnOf x x (cH st) (bO st) (aL st) .none kV doc pm an cdv ct) ⟨us,[]⟩=pure (ps.zip us)):∃f fd,DefAt K mg x st ps f fd:=by
 obtain⟨f,oc,kV,dc,pm,cd,ct,od,an,sl,a,l,c,k⟩:=F;exact⟨f,_,PySem.W.mg_of X G a,wN l c k,(yP (st:=st) l c k).binds hb⟩
end E3
namespace L2
open PySem PySem.Spec PyProof.Rows
abbrev TH:=Ends->Addr->Addr->Option Addr->St->Hp->Prop
def HB (X:Cx)(hs:List ExceptHandler)(t:TH):Prop:=∀(pins:Pnx) (s:Shared) (σ:St) (H:Hp) (a C:Addr) (dx:Option Addr) (T:Addr) (D:Ends),
 Caught X pins σ H s a C dx T->bW X.K C=true->X.A.handled=none->t D C a dx σ H->wpAny (model X.prog X.w) X.A (handleBy (.ref a) X.env hs) (SP X pins D) X.xe s
end L2
namespace E3
open PySem PySem.Spec PyProof.Rows L2
abbrev HE:=Str->Int->Env->Mm->OS
section
variable {X:Cx}{Wx:XW}{m:Mode}{pos:Pos}
noncomputable def tH (X:Cx) (hh:HE):TH:=fun D C a dx st H=>∃P0 H0 P Os env M c n out M',Ok X.K X.mg P0 H0 P Os H M st env/\X.mg c=some (.ref C)/\FJ X.K X.mg P H none (some (.ref a)) (.exc c n)/\hh c n env M=some (out,M')/\Post X.K X.mg W0 P0 H0 P H M' D out
def Fo (out:Out):Prop:=(∃e,out=.nx e)\/∃d,out=.rt d
structure SH (X:Cx)(hs:List ExceptHandler)(hh:HE):Prop where
 hb:HB X hs (tH X hh)
 ok:∀c n env M out M',hh c n env M=some (out,M')->(∃C,X.mg c=some (.ref C)/\bW X.K C=true)/\Fo out
variable {suite:List Stmt}{b0:Stmt}{cn n:Str}{np hp:Pos}{c:Addr}{i:Nat}{h:S}{hs:List ExceptHandler}{r:HE}{cat:Str->Option Bool}
end
end E3
namespace L2
open PySem PySem.Spec PyProof.Rows
section
variable {X:Cx}{e:Expr}{es:List Expr}{te:TE}{t:TA}{pos:Pos}
open Builtin Builtin.Str in
open Builtin Builtin.Str in
open Builtin Builtin.Str in
end
end L2
namespace E3
open PySem PySem.Spec PyProof.Rows L2
section
variable {X:Cx}{Wx:XW}{m:Mode}
theorem Sv {P:Program}{w:World}{K:Fgx}{mg:Mgx}{base:Heap}{N:List Str}{q:Str}{st:Stmt}{f:Addr}{cdv:Value}{A:Around}{outer:List PySem.Env}{s:Shared}{H:Hp}{E:XK}{i:Nat}{x:Str}{pos:Pos}(hN:N[i]? =some x:=by rfl)(hv:LV st x:=by kernel_rfl)(hd:(x==("__debug__":Str))=false:=by x_go)(hcd:(x==("__classdict__":Str))=false:=by x_go):SE (yL P w K mg base N q st f cdv A outer s H E) Wx m (.Name x pos) (aj i):=vX hN hv hd hcd
theorem Lv {P:Program}{w:World}{K:Fgx}{mg:Mgx}{base:Heap}{N:List Str}{q:Str}{st:Stmt}{f:Addr}{cdv:Value}{A:Around}{outer:List PySem.Env}{s:Shared}{H:Hp}{E:XK}{x:Str}(hv:LV st x:=by kernel_rfl):Loc (yL P w K mg base N q st f cdv A outer s H E).env.scope x:=.inl hv
theorem Sw {P:Program}{w:World}{K:Fgx}{mg:Mgx}{base:Heap}{N:List Str}{q:Str}{st:Stmt}{f:Addr}{cdv:Value}{A:Around}{outer:List PySem.Env}{s:Shared}{H:Hp}{E:XK}{i:Nat}{x:Str}{pos:Pos}(hN:N[i]? =some x:=by rfl)(hv:LV st x:=by kernel_rfl)(hd:(x==("__debug__":Str))=false:=by x_go)(hcd:(x==("__classdict__":Str))=false:=by x_go):SE (d8 P w K mg base N q st f cdv A outer s H E) Wx m (.Name x pos) (aj i):=vX hN hv hd hcd
theorem Lw {P:Program}{w:World}{K:Fgx}{mg:Mgx}{base:Heap}{N:List Str}{q:Str}{st:Stmt}{f:Addr}{cdv:Value}{A:Around}{outer:List PySem.Env}{s:Shared}{H:Hp}{E:XK}{x:Str}(hv:LV st x:=by kernel_rfl):Loc (d8 P w K mg base N q st f cdv A outer s H E).env.scope x:=.inl hv
theorem Su {i:Nat}{x:Str}{pos:Pos}(hN:X.N[i]? =some x:=by rfl)(hv:X.env.scope.names.lookup x=some .local:=by kernel_rfl)(hd:(x==("__debug__":Str))=false:=by x_go)(hcd:(x==("__classdict__":Str))=false:=by x_go):SE X Wx m (.Name x pos) (aj i):=vX hN hv hd hcd
theorem Lu {a b:Prop}(h:a:=by kernel_rfl):a\/b:=.inl h
theorem Ei {i:Int}{j pos}:SE X Wx m (.Constant (.int i) j pos) (ak (.int i)):=rz Z0
theorem Es {z:Str}{j pos}:SE X Wx m (.Constant (.str z) j pos) (ak (.str z)):=vW zcZ
theorem Eb {b:Bool}{j pos}:SE X Wx m (.Constant (.bool b) j pos) (ak (.bl b)):=K7 ZM
theorem Ek {a b:Expr}{pos:Pos}{f g:E}(ha:SE X Wx .bor a f)(hb:SE X Wx .bor b g)(hs:Ft b:=by exact fun _ _=>rfl):SE X Wx m (.Subscript a b pos) (s2 bG f g):=gk gb gh ha hb hs
theorem Cm {a b:Expr}{op:CmpOp}{c:Cp}{pos:Pos}{f g:E}(hu:X.A.units + 60<cLine)(ha:SE X Wx .bor a f)(hb:SE X Wx .bor b g)(ho:op=yK c:=by rfl)(hm:behindInMarks op b=false:=by rfl):SE X Wx m (.Compare a [op] [b] pos) (s2 (aG c) f g):=by subst ho;exact T8 (eX hu c) fQ ha hb hm
theorem Ct {a b:Expr}{op:CmpOp}{c:Cp}{pos:Pos}{f g:E}(hu:X.A.units + 60<cLine)(ha:SE X Wx .bor a f)(hb:SE X Wx .bor b g)(ho:op=yK c:=by rfl)(hm:behindInMarks op b=false:=by rfl):ST X Wx (.Compare a [op] [b] pos) (s2 (aG c) f g):=by subst ho;exact gH (eX hu c) fQ ha hb hm
end
section
variable {P:Program}{w:World}{K:Fgx}{h base:Heap}{mg:Mgx}{k:Nat}{x:Str}{st:Stmt}{N ps:List Str}{b:S}
abbrev HB (x:Str)(st:Stmt)(ps:List Str):Prop:=∀(kV doc pm:Value) (an:Option Addr) (cdv ct:Value) (us:List Value),us.length=ps.length->bindArgs (PySem.W.fnOf x x (cH st) (bO st) (aL st) .none kV doc pm an cdv ct) ⟨us,[]⟩=pure (ps.zip us)
theorem Ez {a0:Str}(h:∀{kV doc pm:Value} {an:Option Addr} {cdv ct u0:Value},bindArgs (PySem.W.fnOf x x (cH st) (bO st) (aL st) .none kV doc pm an cdv ct) ⟨[u0],[]⟩=pure [(a0,u0)]):HB x st [a0]:=fun _ _ _ _ _ _ us hl=>match us,hl with | [_],_=>h
theorem EY {a0 a1:Str}(h:∀{kV doc pm:Value} {an:Option Addr} {cdv ct u0 u1:Value},bindArgs (PySem.W.fnOf x x (cH st) (bO st) (aL st) .none kV doc pm an cdv ct) ⟨[u0,u1],[]⟩=pure [(a0,u0),(a1,u1)]):HB x st [a0,a1]:=fun _ _ _ _ _ _ us hl=>match us,hl with | [_,_],_=>h
theorem E_ {a0 a1 a2:Str}(h:∀{kV doc pm:Value} {an:Option Addr} {cdv ct u0 u1 u2:Value},bindArgs (PySem.W.fnOf x x (cH st) (bO st) (aL st) .none kV doc pm an cdv ct) ⟨[u0,u1,u2],[]⟩=pure [(a0,u0),(a1,u1),(a2,u2)]):HB x st [a0,a1,a2]:=fun _ _ _ _ _ _ us hl=>match us,hl with | [_,_,_],_=>h
theorem Fb {a0 a1 a2 a3:Str}(h:∀{kV doc pm:Value} {an:Option Addr} {cdv ct u0 u1 u2 u3:Value},bindArgs (PySem.W.fnOf x x (cH st) (bO st) (aL st) .none kV doc pm an cdv ct) ⟨[u0,u1,u2,u3],[]⟩=pure [(a0,u0),(a1,u1),(a2,u2),(a3,u3)]):HB x st [a0,a1,a2,a3]:=fun _ _ _ _ _ _ us hl=>match us,hl with | [_,_,_,_],_=>h
theorem Fd {a0 a1 a2 a3 a4:Str}(h:∀{kV doc pm:Value} {an:Option Addr} {cdv ct u0 u1 u2 u3 u4:Value},bindArgs (PySem.W.fnOf x x (cH st) (bO st) (aL st) .none kV doc pm an cdv ct) ⟨[u0,u1,u2,u3,u4],[]⟩=pure [(a0,u0),(a1,u1),(a2,u2),(a3,u3),(a4,u4)]):HB x st [a0,a1,a2,a3,a4]:=fun _ _ _ _ _ _ us hl=>match us,hl with | [_,_,_,_,_],_=>h
theorem aW.ok (F:aW K x st)(X:K.In h)(G:h.Ns mainGlobals mg)(S:FnScope N ps (aL st))(hr:∀f,RT P w K mg base k f N x st b)
  (hb:HB x st ps:=by first |exact Ez rfl |exact EY rfl |exact E_ rfl |exact Fb rfl |exact Fd rfl) (hp:ps.length<=N.length:=by decide):bf P w K mg base (k + 1) x ps.length (bJ N.length b):=by
 obtain⟨f,d,D⟩:=F.at X G hb;exact D.ok S (hr f) hp
theorem aW.okX (F:aW K x st)(X:K.In h)(G:h.Ns mainGlobals mg)(S:FnScope N ps (aL st))(hr:∀f,yu P w K mg base k f N x st b)
  (hb:HB x st ps:=by first |exact Ez rfl |exact EY rfl |exact E_ rfl |exact Fb rfl |exact Fd rfl) (hp:ps.length<=N.length:=by decide):dz P w K mg base (k + 1) x ps.length (bJ N.length b):=by
 obtain⟨f,d,D⟩:=F.at X G hb;exact⟨_,_,_,D.mg,D.F.kp,Wh D.F S hp (hr f),D.b⟩
theorem bf.up {j n:Nat}{g:G}(a:bf P w K mg base j x n g)(h:j<=k:=by decide):bf P w K mg base k x n g:=a.mono h
theorem dz.up {j n:Nat}{g:G}(a:dz P w K mg base j x n g)(h:j<=k:=by decide):dz P w K mg base k x n g:=a.mono h
theorem lu.up {j n:Nat}{C:Addr}{g:G}(a:lu P w K mg base j C n g)(h:j<=k:=by decide):lu P w K mg base k C n g:=a.mono h
theorem lA.up {j n:Nat}{C:Addr}{m:Str}{g:G}(a:lA P w K mg base j C m n g)(h:j<=k:=by decide):lA P w K mg base k C m n g:=a.mono h
theorem fB.up {j n:Nat}{C:Addr}{m:Str}{g:G}(a:fB P w K mg base j C m n g)(h:j<=k:=by decide):fB P w K mg base k C m n g:=a.mono h
theorem fu.up {j n:Nat}{C:Addr}{g:G}(a:fu P w K mg base j C n g)(h:j<=k:=by decide):fu P w K mg base k C n g:=a.mono h
theorem gW.up {j n:Nat}{C:Addr}{m:Str}{g:G}(a:gW P w K mg base j C m n g)(h:j<=k:=by decide):gW P w K mg base k C m n g:=a.mono h
theorem nq {K:Fgx}{t:Addr}{d m s j0 j1 j2}{a b:Str}{i:Int}(l:K.lookup t=some ⟨.type "tuple",d,.seq #[.str a j0,.str b j1,.int i j2] m,s⟩):∀P H,Is K P H (.tup [.str a,.str b,.int i]) (.ref t):=Py (vs:=[.str a,.str b,.int i]) l rfl rfl (by show 3<=sizeLine;decide) (.cons ⟨_,rfl⟩ (.cons ⟨_,rfl⟩ (.cons ⟨_,rfl⟩ .nil))) (fun _ _=>⟨_,_,rfl,rfl,⟨_,_,rfl,rfl,⟨_,_,rfl,rfl,rfl⟩⟩⟩)
end
end E3
namespace L2
open PySem PySem.Spec PyProof.Rows
noncomputable def zdw (N:List Str) (psc:Scope) (xs:List Str) (cs:List (Str×Nat)) (scope:Scope):Bool:=
 scope.kind==.function && xs.all (fun x=>scope.names.lookup x==some .local) && decide ((xs ++ cs.map (·.1)).Nodup) &&
 scope.names.all (fun y=>y.2 !=.cell && (y.2 !=.local || scope.names.lookup y.1==some .local) && (y.2 !=.free || (psc.names.lookup y.1==some .cell || psc.names.lookup y.1==some .free))) &&
 cs.all (fun p=>N[p.2]? ==some p.1 && (psc.names.lookup p.1==some .cell || psc.names.lookup p.1==some .free) && ((dh psc scope.names).lookup p.1==some .cell || (dh psc scope.names).lookup p.1==some .free))
structure CompOkT (N:List Str)(psc:Scope)(xs:List Str)(cs:List (Str×Nat))(scope:Scope):Prop where
 kind:scope.kind=.function
 own:∀x∈xs,scope.names.lookup x=some .local
 nd:(xs ++ cs.map (·.1)).Nodup
 cell:∀y∈scope.names,y.2≠ .cell
 names:∀y∈scope.names,y.2=.local->scope.names.lookup y.1=some .local
 has:∀y∈scope.names,y.2=.free->psc.names.lookup y.1=some .cell\/psc.names.lookup y.1=some .free
 cap:∀p∈cs,N[p.2]? =some p.1/\(psc.names.lookup p.1=some .cell\/psc.names.lookup p.1=some .free)/\((dh psc scope.names).lookup p.1=some .cell\/(dh psc scope.names).lookup p.1=some .free)
end L2
namespace E3
open PySem PySem.Spec PyProof.Rows L2
section
variable {X:Cx}{Wx:XW}{m:Mode}{pos:Pos}
open Classical in
end
end E3
namespace E3
open PySem PySem.Spec PyProof.Rows L2
end E3
namespace L2
open PySem PySem.Spec PyProof.Rows
end L2
namespace E3
open PySem PySem.Spec PyProof.Rows L2
end E3
namespace L2
open PySem PySem.Spec PyProof.Rows
end L2
namespace E3
open PySem PySem.Spec PyProof.Rows L2
section
variable {X:Cx}{Wx:XW}{m:Mode}{pos:Pos}
noncomputable def mC (j:Nat) (e:E) (env:Env):Nat->Nat->List D->Mm->Option (List D×Mm)
  |0,_,_,_=>none
  |n + 1,t,acc,M=>match M[j]? with
    | some (.lst ds) => (match ds[t]? with
      |none=>some (acc,M)
      | some d => (match e (.val d::env) M with
        |some (.v y,M2)=>if acc.length + 1<sizeLine then mC j e env n (t + 1) (acc ++ [y]) M2 else none
        |_=>none))
    |_=>none
noncomputable def sy (n:Nat) (cs:List (Str×Nat)) (f e:E):E:=fun env M=>bnd (f env M) fun d M1=>match d with
  | .ref j => (match mC j e (cR cs env) n 0 [] M1 with
    |some (ys,M2)=>some (.v (.lst ys),M2)
    |none=>none)
  |_=>none
theorem VP {n:Nat}{cs:List (Str×Nat)}{f e:E}:∀env M r M',sy n cs f e env M=some (.v r,M')->∃ds,r=.lst ds:=fun env M r M' h=>by
 unfold sy at h;rcases cB h with⟨d,M1,e1,h⟩ |⟨c,n,e1,h⟩
 ·split at h
  ·split at h
   ·cases h;exact⟨_,rfl⟩
   ·cases h
  ·cases h
 ·cases h
theorem N_ {K:Fgx}{mg:Mgx}{n:Nat}{cs:List (Str×Nat)}{f e:E}{P0 P:Pl}{H0 H:Hp}{Os:List (Option Addr)}{M M':Mm}{st:L2.St}{env:Env}{r:Res}{R:Addr->Hp->Prop}(nd:(cs.map (·.2)).Nodup)
    (k:Ok K mg P0 H0 P Os H M st env) (ee:sy n cs f e env M=some (r,M')) (w:NR K mg Wx P0 H0 P H M' R r):Ba (Pj K (tE K mg Wx .val f)) rD (tE K mg W0 .val e) cs st H R:=by
  unfold sy at ee;rcases cB ee with⟨d,M1,e1,ee⟩ |⟨c,n,e1,rfl⟩
  · split at ee
    · rename_i j;split at ee
      · rename_i ys M2 ec;cases ee;obtain⟨ds',e',w⟩:=w;cases e';refine⟨P0,H0,P,Os,env,M,_,_,k,e1,fun P1 v1 H1 l1 h1 i1=>?_⟩;obtain⟨jl,rfl⟩:j<P1.n/\v1=.ref (P1.io j):=i1;have hl:∃vs,bI K H1 (P1.io j) vs:=by
          cases n with
          |zero=>cases ec
          |succ n=>
            simp only[mC]at ec;split at ec
            · rename_i ds em;obtain⟨vs,ev,is⟩:=h1.cell j _ em;exact⟨vs,.inl (.inl ev)⟩
            · cases ec
        refine ⟨P1.io j, rfl, hl, fun D hD => ?_⟩;obtain ⟨l2, h2, nc⟩ := yG (vs := []) h1 hD;refine ⟨fun i m vs H2=>∃P2 M3 acc,LtE P1 H1 P2 H2/\Hk K mg P2 H2 M3/\P2.bd D/\(∀k,k<P2.n->P2.io k≠D)/\H2 D=some (.lst vs)/\aD K P2 H2 acc vs/\acc.length<sizeLine/\mC j e (cR cs env) m i acc M3=some (ys,M'),
          ⟨n,P1.bar D,M1,[],l2,h2,.inr rfl,nc,bU,rfl,by x_go,ec⟩,?_⟩
        rintro i m vs H2 ⟨P2,M3,acc,l3,h3,bD,nD,eD,is,hz,ec⟩;refine⟨eD,?_⟩
        cases m with
        |zero=>cases ec
        |succ m=>
          simp only[mC]at ec;split at ec
          · rename_i ds em;obtain⟨us,ev,iu⟩:=h3.cell j _ em;rw[l3.io j jl]at ev;have sq:bI K H2 (P1.io j) us:=.inl (.inl ev);split at ec
            · rename_i et;cases ec;exact .inl ⟨⟨us,sq,by rw[iu.len];exact List.getElem?_eq_none_iff.mp et⟩,w P2 D vs H2 (l1.trans l3) h3 (l1.sure D hD) bD nD eD is⟩
            · rename_i d et;obtain⟨v,evt,iv⟩:=iu.get et;split at ec
              · rename_i y' M5 ey;split at ec
                · rename_i hz';refine .inr ⟨⟨us,v,sq,evt⟩,by rw[is.len];exact hz,fun vs' H'=>∃P2 M3 acc,LtE P1 H1 P2 H'/\Hk K mg P2 H' M3/\P2.bd D/\(∀k,k<P2.n->P2.io k≠D)/\H' D=some (.lst vs')/\aD K P2 H' acc vs'/\acc.length<sizeLine/\mC j e (cR cs env) m (i + 1) acc M3=some (ys,M'),
                    fun vs' H' z=>⟨m,xa3 _,z⟩,fun x' H' y=>?_⟩
                  obtain⟨rfl,hy⟩:=y;have ex':v=x':=xay (evt.symm.trans (hy us sq));subst ex';have kk:=((k.next l1 h1).next l3 h3).cap (cs:=cs) nd iv
                  unfold rD;dsimp only;rw[xab rfl];refine aV kk ey fun P5 v5 H5 l5 h5 i5=>?_;have eD5:H5 D=some (.lst vs):=l5.keep D _ eD (.inr nD);have nD5:∀k,k<P5.n->P5.io k≠D:=l5.nc eD nD;obtain⟨g1,g2,g3⟩:=Pg (vs':=vs ++ [v5]) (l3.trans l5) h5 hD (l5.bm D bD) nD5 eD5;exact⟨eD5,P5,M5,acc ++ [y'],g2,g3,l5.bm D bD,nD5,bU,aD.append (aD.lt ((l5.lt h3).trans g1) is) (aD.one (Is.lt g1 i5)),by rw[xak];exact hz',ec⟩
                · cases ec
              · cases ec
          · cases ec
      · cases ee
    · cases ee
  · exact⟨P0,H0,P,Os,env,M,_,_,k,e1,w⟩
theorem zbe (n:Nat)(x:Str)(cs:List (Str×Nat)){px py spos:Pos}{y:Str}{i:Nat}{iter elt:Expr}{scope:Scope}{f e:E}(hN:X.N.Nodup)(hk:X.N[i]? =some y)(hy:Loc X.env.scope y)(hc:X.calm=true)(nd:(cs.map (·.2)).Nodup)(hi:SE X Wx .val iter f)
  (he:∀(cl:List (Str×Addr)) (C:Addr) (s₀:Shared) (H₀:Hp) (ex:List Addr) (pn:Pnx),SE (d7 X (x::cs.map (·.1)) scope cl C s₀ H₀ ex pn) W0 .val elt e)
  (ok:wK X.N X.env.scope x cs scope=true:=by kernel_rfl) (hs:∀x,foldedSetIterable iter X.env x=pure x:=by intro _;rfl)
  (hsw:swapsWith (.ListComp elt [⟨.Name x px,iter,[],0⟩] scope pos) (some (.Name y py)) spos.line X.env=pure true:=by rfl)
  (hf:X.fn y=true\/X.env.scope.names.lookup y=some .local:=by first |exact .inl rfl |exact .inr rfl):
  SS X Wx (.Assign [.Name y py] (.ListComp elt [⟨.Name x px,iter,[],0⟩] scope pos) spos) (aN i (sy n cs f e)):=by
 refine fP (zbn (tq:=rD) (te:=tE X.K X.mg W0 .val e) x cs hN hk hy hc (Rk hi) (fun _ _ _ _ _ _=>Rn) he ok hs hsw hf) ?_;rintro D st H ⟨P0,H0,P,Os,env,M,out,M',k,ee,w⟩;unfold aN at ee;rcases gJ ee with⟨d,M1,e1,ee⟩ |⟨c,n,e1,rfl⟩
 ·obtain⟨ds,rfl⟩:=VP _ _ _ _ e1;split at ee
  ·rename_i hl;cases ee;refine N_ nd k e1 ⟨ds,rfl,fun P1 a vs H1 l1 h1 ha ba nc ea is=>?_⟩;obtain⟨l2,h2,i2⟩:=Wm k.hk l1 h1 ha nc ea is;exact w _ _ _ _ (l2.lt k.hk) ((k.next l2 h2).asg hl i2)
  ·cases ee
 ·exact N_ nd k e1 w
end
end E3
namespace E3
open PySem L2
end E3
namespace L2
open PySem PySem.Spec PyProof.Rows
end L2
namespace E3
open PySem PySem.Spec PyProof.Rows L2
end E3
namespace E3
open PySem PySem.Spec PyProof.Rows L2 PySem.W
section
variable {n:Nat}{lt:Nat->Nat->Option Bool}{le:Nat->Nat->Prop}
def Pm (n:Nat)(p:Array Nat):Prop:=p.Perm (List.range n).toArray
def Up (le:Nat->Nat->Prop)(p:Array Nat)(m:Nat):Prop:=∀i j,i<=j->j<m->le (p.getD i 0) (p.getD j 0)
def Dn (le:Nat->Nat->Prop)(p:Array Nat)(m:Nat):Prop:=∀i j,i<=j->j<m->le (p.getD j 0) (p.getD i 0)
variable (hn:0<n)(rf:∀i,le i i)(tr:∀i j k,le i j->le j k->le i k)(H:∀i j,i<n->j<n->∃b,lt i j=some b/\(b=true->le i j)/\(b=false->le j i))
include rf tr
include hn H
end
end E3
namespace L2
open PySem PySem.Spec PyProof.Rows
end L2
namespace E3
open PySem PySem.Spec PyProof.Rows L2
section
variable {X:Cx}{pins:Pnx}{σ:L2.St}{H:Hp}{s:Shared}
open Classical in
end
end E3
namespace E3
open PySem PySem.Spec PyProof.Rows L2
section
variable {X:Cx}{Wx:XW}
def XP (X:Cx)(D:Ends)(f:Flow)(s':Shared):Prop:=match f with
 |.ret u=>∃v H',s'.os=X.s₀.os/\AllBare s'.gens/\Un X.fs [] X.H₀ H' X.s₀.heap s'.heap/\cA X.prog X.w H' s'.heap/\RelV v u/\D.rt v H'
 |.brk=>∃σ' H',D.bk σ' H'
 |.cont=>∃σ' H',D.ct σ' H'
 |.next=>False
def PX (X:Cx)(b:List Stmt)(t:TS):Prop:=∀(s:Shared) (σ:L2.St) (H:Hp) (D:Ends),Inv X [] σ H s->t D σ H->wpAny (model X.prog X.w) X.A (execs b X.env) (XP X D) X.xe s
theorem zb8 {st:Stmt}{rest:List Stmt}{t u:TS}(hx:X.ex=[])(h1:PS X st t)(h2:PX X rest u):PX X (st::rest) (Bb t u):=by
  intro s σ H D I h;refine xbV (aP (h1 [] s σ H {D with nx:=u D} I h) fun f s1 q=>?_)
  cases f with
  |next=>
    obtain⟨σ',H',I',q⟩:=q;exact h2 s1 σ' H' D I' q
  |ret v=>
    obtain⟨v,σ',H',J,r,q⟩:=q;exact⟨v,H',J.os,J.bare,hx ▸ J.base,J.hok,r,q⟩
  |brk=>
    obtain⟨σ',H',_,q⟩:=q;exact⟨σ',H',q⟩
  |cont=>
    obtain⟨σ',H',_,q⟩:=q;exact⟨σ',H',q⟩
def tD (X:Cx)(Wx:XW)(b:List Stmt)(f:S):Prop:=PX X b (tS X.K X.mg Wx f)
theorem Sd {s:Stmt}{ss:List Stmt}{f g:S}(hx:X.ex=[])(h1:SS X Wx s f)(h2:tD X Wx ss g):tD X Wx (s::ss) (ao f g):=by
  intro s0 σ0 Hh D I hh;refine zb8 hx h1 h2 s0 σ0 Hh D I ?_;obtain⟨P0,H0,P,Os,env,M,out,M',k,e,q⟩:=hh;unfold ao at e;split at e
  · rename_i e1 M1 ef;refine⟨P0,H0,P,Os,env,M,_,_,k,ef,fun P1 Os1 H1 st1 l1 k1=>?_⟩;exact⟨P0,H0,P1,Os1,e1,M1,_,_,k1,e,q.lt l1⟩
  · rename_i o ho
    cases ef:f env M with
    |none=>rw[ef]at e;cases e
    |some om=>
      obtain⟨o1,M1⟩:=om;rw[ef]at e;cases e;refine⟨P0,H0,P,Os,env,M,_,_,k,ef,?_⟩
      cases out with
      |nx env'=>exact(ho _ _ ef).elim
      |bk env'=>exact q
      |ct env'=>exact q
      |rt d=>exact q
      |ex c n=>exact q
end
section
variable {X:Cx}{σ:L2.St}{H H1:Hp}{s:Shared}{Pt:Addr}{ps:Array Value}
theorem Pr {h2:Heap}{tk:Nat}(I:Inv X [] σ H s)(hP:H Pt=some (.tbl ps))(kp:∀b o,b≠Pt->s.heap.get? b=some o->h2.get? b=some o)(hH:∀b,b<s.heap.objs.size->b≠Pt->H1 b=H b)
    (hPt:∃more,H1 Pt=some (.tbl (ps ++ more))/\h2.get? Pt=some {cls:=.none,data:=.fields (ps ++ more)}) (hnew:∀a o,s.heap.objs.size<=a->H1 a=some o->∃ob,o=.frz ob (.own a)/\h2.get? a=some ob):Inv X [] σ H1 {s with heap:=h2,toks:=tk}:=by
  have lt:∀{b:Addr} {u:HO},H b=some u->b<s.heap.objs.size:=fun e=>(I.hok _ _ e).lt;have nP:∀{b:Addr},H b=none->b≠Pt:=fun e z=>by rw[z,hP]at e;cases e
  have nT:∀{b:Addr} {u:HO},H b=some u->(∀p,u≠ .tbl p)->b≠Pt:=fun e n z=>by rw[z,hP]at e;cases e;exact n _ rfl
  obtain⟨more,e1,e2⟩:=hPt;have hok:cA X.prog X.w H1 h2:=fun a o e=>by
    by_cases hs:s.heap.objs.size<=a
    · obtain⟨ob,rfl,g⟩:=hnew a o hs e;exact⟨g,ob,g⟩
    · have hs:=Nat.lt_of_not_le hs
      by_cases ha:a=Pt
      · subst ha;rw[e1]at e;cases e;exact e2
      · rw[hH a hs ha]at e;refine(I.hok a o e).stay (fun b u hb g=>kp b u ?_ g) (fun b g=>?_) fun b xs g=>?_
        · rcases hb with rfl |hb
          · exact ha
          · exact nT hb fun _ z=>nomatch z
        · rw[hH b (lt g) (nT g fun _ z=>nomatch z)];exact g
        · rw[hH b (lt g) (nT g fun _ z=>nomatch z)];exact g
  refine I.step (g':=s.gens) (d':=s.drawn) (t':=tk) (ch:=[]) (fun _ z=>nomatch z) (fun b o _ _ _ g n=>kp b o (nP n) g) (fun b o _ _ _ g n=>⟨o.slots,kp b o (nP n) g⟩) (fun b o _ g n=>by rw[hH b (xaq g) (nP n)];exact n) (fun b o _ g=>?_)
    (fun b xs g=>by rw[hH b (lt g) (nT g fun _ z=>nomatch z)];exact g) (fun b o u g=>by rw[hH b (lt g) (nT g fun _ z=>nomatch z)];exact g) (fun b p g=>?_) (fun m hm=>?_) hok I.bare
  · by_cases hb:b=Pt
    · subst hb;exact⟨_,e2⟩
    · exact⟨o,kp b o hb g⟩
  · by_cases hb:b=Pt
    · subst hb;rw[hP]at g;cases g;exact⟨more,e1⟩
    · exact⟨#[],by rw[hH b (lt g) hb,g];simp⟩
  · obtain⟨o,es,ep,g,r⟩:=hm;exact⟨o,es,ep,kp _ _ (nP I.free) g,r⟩
noncomputable def rH (H:Hp) (h:Heap) (cs:List Addr):Hp:=fun b=>if b∈cs then(h.get? b).map fun o=>HO.frz o (.own b) else H b
theorem Xn {cs:List Addr}(I:Inv X [] σ H s)(hx:X.ex=[])(hc:∀c∈cs,H c=none/\X.s₀.heap.objs.size<=c/\∃o,s.heap.get? c=some o):
  Un X.fs [] X.H₀ (rH H s.heap cs) X.s₀.heap s.heap/\cA X.prog X.w (rH H s.heap cs) s.heap/\Same H (rH H s.heap cs)/\∀c∈cs,∀o,s.heap.get? c=some o->rH H s.heap cs c=some (.frz o (.own c)):=by
 have out:∀{b:Addr} {u:HO},H b=some u->rH H s.heap cs b=H b:=fun {b u} e=>xaf fun z=>by rw[(hc b z).1]at e;cases e
 have old:∀{b:Addr} {o:Obj},X.s₀.heap.get? b=some o->b∉cs:=fun {b o} e z=>absurd (xag (xaq e) (hc b z).2.1) (xa0 _);have B:=I.base;rw[hx]at B;refine⟨⟨B.keep,B.slot,fun b o e n h=>?_,B.there,fun b xs e=>?_,fun b o u e=>?_,fun b p e=>?_⟩,fun a o e=>?_,fun b o e=>?_,fun c z o e=>?_⟩
 ·unfold rH;rw[xaf (old e)];exact B.free b o e n h
 ·rw[out (B.tups b xs e)];exact B.tups b xs e
 ·rw[out (B.frzs b o u e)];exact B.frzs b o u e
 ·obtain⟨m,g⟩:=B.tbls b p e;exact⟨m,by rw[out g];exact g⟩
 ·unfold rH at e;split at e
  ·rename_i ha;obtain⟨ob,g⟩:=(hc a ha).2.2;rw[g]at e;cases e;exact⟨g,ob,g⟩
  ·exact(I.hok a o e).stay (fun _ _ _ g=>g) (fun b g=>by rw[out g];exact g) fun b xs g=>by rw[out g];exact g
 ·rw[out e];exact e
 ·unfold rH;rw[xab z,e];rfl
end
def lB (mg:Mgx)(base:Heap):Prop:=∃bm o,mg "__builtins__"=some (.ref bm)/\bm≠builtinsNs/\bm≠mainGlobals/\base.get? bm=some o/\o.cls=.type "module"/\o.dict=some builtinsNs/\o.data=.plain
noncomputable def g_ (env:Env):List (Str×Nat)->Option (List (Str×D))
  | []=>some []
  |p::r=>match env[p.2]? with
    |some (.val d)=>(g_ env r).map ((p.1,d):: ·)
    |_=>none
open Classical in
noncomputable def kY (kt:Nat) (nm:Str) (i:FnT) (caps:List (Str×Nat)):S:=fun env M=>match M[kt]? with
 |some (.tbl nm' i')=>if nm'=nm/\i'=i then(g_ env caps).map fun cs=>(.rt (.ref M.length),M ++ [.fn i cs]) else none
 |_=>none
structure MkOk (X:Cx)(nm:Str)(i:FnT)(caps:List (Str×Nat))(cl:List (Str×Addr))(c Pt:Addr)(j:Nat):Prop where
 ex:X.ex=[]
 fn:∀x,X.fn x=true
 st:∃params body scope,i.st=.FunctionDef i.x params body [] none [] scope none i.x i.pos/\((params.defaults=[]/\i.dd=[])\/∃n a p,params.defaults=[.Constant (.int n) a p]/\i.dd=[n]/\cl≠ [])/\params.kw_defaults=[]/\params.kwonlyargs=[]/\annTrees params none X.env=[]
 q:qualnameIn X.env i.x i.x=i.q
 code:X.env.code=.ref c
 tab:PySem.W.tabIn X.K nm=some (c,Pt)
 hd:PySem.W.codeHdIn X.K c Pt=true
 bm:lB X.mg X.base
 clo:closureFor (aL i.st) X.env=pure cl
 nam:cl.map (·.1)=caps.map (·.1)
 m9:caps.map (·.1)=i.fr
 cel:∀p∈cl,X.env.cells.lookup p.1=some p.2
 cap:∀p∈caps,X.N[p.2]? =some p.1/\X.env.scope.names.lookup p.1=some .cell/\p.2≠j
 nd:X.N.Nodup
 jx:X.N[j]? =some i.x
 jl:X.env.scope.names.lookup i.x=some .local
 db:(i.x==("__debug__":Str))=false
 cd:(i.x==("__classdict__":Str))=false
theorem Nu {X:Cx}{H Hh:Hp}{s:Shared}{K:Fgx}{mg:Mgx}{P0 P:Pl}{H0:Hp}{Os:List (Option Addr)}{M:Mm}{st:L2.St}{env:Env}{j:Nat}{v0:V}{H2:Hp}
    (I:Inv X [] (st.set j (some v0)) Hh s) (k:Ok K mg P0 H0 P Os H M st env):
    ∀{caps:List (Str×Nat)} {cl:List (Str×Addr)} {cs:List (Str×D)},g_ env caps=some cs->cl.map (·.1)=caps.map (·.1)->(∀p∈cl,X.env.cells.lookup p.1=some p.2)->(∀p∈caps,X.N[p.2]? =some p.1/\X.env.scope.names.lookup p.1=some .cell/\p.2≠j)->
    (∀p∈cl,∀o,s.heap.get? p.2=some o->H2 p.2=some (.frz o (.own p.2)))->cs.map (·.1)=caps.map (·.1)/\∃vs,aD K P H (cs.map (·.2)) vs/\lC H2 cl vs
  | [],[],cs,e,_,_,_,_=>by
    cases e;exact⟨rfl,[],rfl,rfl⟩
  | [],_::_,_,_,n,_,_,_=>by cases n
  |_::_,[],_,_,n,_,_,_=>by cases n
  |p::caps,q::cl,cs,e,n,hc,hp,h2=>by
    rw[xau,xau,xb8]at n;unfold g_ at e;split at e
    · rename_i d ed;rw[xac]at e;obtain⟨cs',e',rfl⟩:=e;obtain⟨n2,vs,i2,c2⟩:=Nu I k e' n.2 (fun z hz=>hc z (xar _ hz)) (fun z hz=>hp z (xar _ hz)) fun z hz=>h2 z (xar _ hz);obtain⟨hN,hk,hj⟩:=hp p (by simp);obtain⟨v,ev,iv⟩:=k.slot p.2 _ ed;have ev':(st.set j (some v0))[p.2]? =some (some v):=by
        rw[xbe (xbh hj)]
        cases q:st[p.2]? with
        |none=>rw[q]at ev;cases ev
        |some w=>rw[q]at ev;exact congrArg some ev
      obtain⟨m,_,hl⟩:=I.loc;obtain⟨u,ru,lk⟩:=hl p.2 p.1 v hN ev' (.inr (.inl hk));refine⟨by simp[n2],v::vs,⟨v,vs,rfl,iv,i2⟩,?_⟩;rcases lk with⟨k0,_⟩ |⟨_,c,hcell,o,ho,hd⟩
      · have k0':X.env.scope.names.lookup p.1=some .local:=k0;rw[hk]at k0';cases k0'
      · have eq:q.2=c:=by
          have:=hc q (by simp);rw[n.1,hcell]at this;cases this;rfl
        exact⟨v,vs,u,o,rfl,ru,h2 q (by simp) o (by rw[eq];exact ho),hd,c2⟩
    · cases e
theorem set_same {α:Type}{l:List α}{k:Nat}{x:α}(h:l[k]? =some x):l.set k x=l:=by
 obtain⟨hl,rfl⟩:=xad.mp h;exact List.set_getElem_self hl
theorem QK {X:Cx}{Wx:XW}{nm:Str}{i:FnT}{caps:List (Str×Nat)}{cl:List (Str×Addr)}{c Pt:Addr}{j:Nat}{p1 p2:Pos}{s:Shared}{σ:L2.St}{H:Hp}{D:Ends}{P0 P:Pl}{H0:Hp}{Os:List (Option Addr)}{env:Env}{M:Mm}{cs:List (Str×E3.D)}(m:MkOk X nm i caps cl c Pt j)
  (I:Inv X [] σ H s) (k:Ok X.K X.mg P0 H0 P Os H M σ env) (ec:g_ env caps=some cs) (q:Post X.K X.mg Wx P0 H0 P H (M ++ [.fn i cs]) D (.rt (.ref M.length)))
  (h2:Heap) (tk:Nat) (f c':Addr) (dV doc ctv:Value) (Hb:Hp) (I1:Inv X [] σ (upd Hb f (.frz (m8 X.mg i cl dV doc ctv c') (.own f))) {s with heap:=h2,toks:=tk}) (lb:LtE P H P Hb) (hkb:Hk X.K X.mg P Hb M) (hf:Hb f=none) (hcod:fD Hb c' i.q) (hdf:eE Hb i.dd dV):
  wpAny (model X.prog X.w) X.A (storeName X.env i.x (.ref f)) (fun _ s''=>wpAny (model X.prog X.w) X.A (execs [.Return (some (.Name i.x p1)) p2] X.env) (XP X D) X.xe s'') X.xe {s with heap:=h2,toks:=tk}:=by
 refine sV I1 m.nd m.jx (.inl m.jl) (show RelV (.ref f) (.ref f) from rfl) (fun s2 I2=>?_) (.inr m.jl);have jσ:j<σ.length:=by rw[I.len];exact(xad.mp m.jx).1
 refine xbV (wpAny_Return_some (aP (zW m.jx (.inl m.jl) m.db m.cd [] s2 _ _ (fun v H'=>v=.ref f/\H'=upd Hb f (.frz (m8 X.mg i cl dV doc ctv c') (.own f))) I2 ⟨.ref f,xbq jσ,rfl,rfl⟩) fun u s3 h3=>?_));obtain⟨v,H3,I3,rv,ev,eH⟩:=h3;subst ev eH;obtain rfl:u=Value.ref f:=rv;have hcl:∀a∈cl.map (·.2),upd Hb f (.frz (m8 X.mg i cl dV doc ctv c') (.own f)) a=none/\X.s₀.heap.objs.size<=a/\∃o,s3.heap.get? a=some o:=by
  intro a ha;obtain⟨p,hp,rfl⟩:=xbc.mp ha;have e1:=m.cel p hp;obtain⟨v,o,ho,_⟩:=I3.cell p.1 p.2 e1;exact⟨(I3.freeC p.1 p.2 e1).resolve_right fun z=>(by have z1:=z.1;rw[m.fn]at z1;cases z1),I3.ok.cab p.1 p.2 (m.fn _) e1,o,ho⟩
 obtain⟨un,hok,same,atc⟩:=Xn I3 m.ex hcl;obtain⟨n2,vs,iv,cv⟩:=Nu I3 k ec m.nam m.cel m.cap fun p hp o ho=>atc p.2 (xbc.mpr ⟨p,hp,rfl⟩) o ho;have sb:Same Hb (rH (upd Hb f (.frz (m8 X.mg i cl dV doc ctv c') (.own f))) s3.heap (cl.map (·.2))):=Same.trans (vU hf) same;obtain⟨P2,pn,pio,l2,hk2⟩:=NP (c:=.fn i cs) hkb sb hf (by rw[same f _ bU];exact fun z=>nomatch z) fun P' _ _ l=>⟨cl,dV,doc,ctv,c',vs,same f _ bU,⟨hcod.up (fun b o u e=>sb b _ e),hdf.up (fun b o u e=>sb b _ e)⟩,⟨m.nam.trans n2.symm,n2.trans m.m9⟩,aD.lt (l.lt hkb) (aD.lt (lb.lt k.hk) iv),cv,fun x y a e1 e2=>I.ok.inj x y a (m.cel (x,a) (xaS e1)) (m.cel (y,a) (xaS e2))⟩
 exact⟨.ref f,_,I3.os,I3.bare,un,hok,rfl,q P2 (.ref f) _ (k.base.trans (lb.trans l2)) hk2 ⟨by rw[pn,k.hk.n];exact xa3 _,by rw[<-k.hk.n,pio]⟩⟩
section
variable {M:Model}{A:Around}{E:Value->Shared->Prop}{s:Shared}{name qual:Str}{params:Arguments}{body:List Stmt}{scope:Scope}{env:PySem.Env}{c Pt:Addr}{ps:Array Value}{pos:Pos}{ln:Nat}{mg:Mgx}{cl:List (Str×Addr)}{dV:Value}{Q:Value->Shared->Prop}
theorem za6 (hcl:closureFor scope env=pure cl)(hne:cl≠ [])(hge:env.globals=mainGlobals)(hg:s.heap.Ns mainGlobals mg)(hcode:env.code=.ref c)(C:PySem.W.CodeHd s.heap c Pt)(hP:s.heap.get? Pt=some (PySem.W.tabObj ps))(ht:TriplesOk ps.toList)(hnf:codeAmong pos ps.toList=none)(hgP:mainGlobals≠Pt)(hb:s.heap.BuiltinsAt mg Pt)
  (h:∀c' ctv doc h' tk,Heap.ExtBut Pt s.heap h'->s.heap.objs.size<=c'->c'<h'.objs.size->h'.CodeRec (.ref c') qual->h'.get? Pt=some (PySem.W.tabObj (ps ++ #[rawInt pos.line,rawInt pos.col,.ref c']))->
   Q (.ref h'.objs.size) {s with heap:=h'.push {cls:=.type "function",data:=.func (PySem.W.fnX name qual params body scope cl dV .none doc ((mg "__name__").getD .none) none (.ref c') ctv)},toks:=tk}):wpAny M A (makeTail name qual params (.stmts body) scope env dV .none none pos ln) Q E s:=by
 have ie:cl.isEmpty=false:=by cases cl with |nil=>exact absurd rfl hne |cons a r=>rfl
 obtain⟨bm,ob,b1,b2,_,b4,b5,b6,b7,b8⟩:=hb;have kp:∀(o:Obj) (b:Addr) (u:Obj),s.heap.get? b=some u->(s.heap.push o).get? b=some u:=fun o b u e=>xaa o e;unfold makeTail;rw[hcl,hge];refine tG (xaj ?_);simp only[ie,xbu,xcC];refine tG (xcK ?_);refine tG (wpAny_functionCodeX hcode ((C.keeps fun b o e=>xaa _ e).code (xaa _ hP) ht) ((C.keeps fun b o e=>xaa _ e).tab (xaa _ hP)) hnf fun c' h' tk hx hge' hlt _ hrec htb _=>?_);have hx':Heap.ExtBut Pt s.heap h':=fun b o n e=>hx b o n (kp _ b o e);have sz:s.heap.objs.size<=c':=xaB (by rw[xbN];exact xbM _) hge';have hg':=(hg.push _).extBut hx hgP;refine tG (wpAny_builtinsFor hg' b1 b2 (hx' _ _ b4 b5) b6 b7 b8 (tG (wpAny_nsGet hg' ?_)))
 cases hdoc:docOf body with
 |none=>exact tG (xaj (xa7 (h c' _ .none h' tk hx' sz hlt hrec htb.2) (by size_fits)))
 |some t=>exact tG (wpAny_mkText (xa7 (h c' _ _ h' _ hx' sz hlt hrec htb.2) (by size_fits)))
theorem zbi {cv:Value}(hcl:closureFor scope env=pure cl)(hne:cl≠ [])(hge:env.globals=mainGlobals)(hg:s.heap.Ns mainGlobals mg)(hcode:env.code=.ref c)(C:PySem.W.CodeHd s.heap c Pt)(hP:s.heap.get? Pt=some (PySem.W.tabObj ps))(ht:TriplesOk ps.toList)(hf:codeAmong pos ps.toList=some cv)(hb:s.heap.BuiltinsAt mg Pt)
  (h:∀(ctv doc:Value) (h':Heap) (tk:Nat),(∀b o,s.heap.get? b=some o->h'.get? b=some o)->s.heap.objs.size<=h'.objs.size->
   Q (.ref h'.objs.size) {s with heap:=h'.push {cls:=.type "function",data:=.func (PySem.W.fnX name qual params body scope cl dV .none doc ((mg "__name__").getD .none) none cv ctv)},toks:=tk}):wpAny M A (makeTail name qual params (.stmts body) scope env dV .none none pos ln) Q E s:=by
 have ie:cl.isEmpty=false:=by cases cl with |nil=>exact absurd rfl hne |cons a r=>rfl
 obtain⟨bm,ob,b1,b2,_,b4,b5,b6,b7,b8⟩:=hb;have kp:∀(o:Obj) (b:Addr) (u:Obj),s.heap.get? b=some u->(s.heap.push o).get? b=some u:=fun o b u e=>xaa o e;unfold makeTail;rw[hcl,hge];refine tG (xaj ?_);simp only[ie,xbu,xcC];refine tG (xcK ?_);refine tG (wpAny_functionCode_hit hcode ((C.keeps fun b o e=>xaa _ e).code (xaa _ hP) ht) hf ?_);refine tG (wpAny_builtinsFor (hg.push _) b1 b2 (xaa _ b5) b6 b7 b8 (tG (wpAny_nsGet (hg.push _) ?_)));have sz:∀o:Obj,s.heap.objs.size<=(s.heap.push o).objs.size:=fun o=>by rw[xbN];exact xbM _
 cases hdoc:docOf body with
 |none=>exact tG (xaj (xa7 (h _ .none _ s.toks (fun b o e=>xaa _ e) (sz _)) (by size_fits)))
 |some t=>exact tG (wpAny_mkText (xa7 (h _ _ _ _ (fun b o e=>xaa _ e) (sz _)) (by size_fits)))
theorem def_dflt {Q:Flow->Shared->Prop}{n:Int}{a:Nat}{p:Pos}(hd:params.defaults=[.Constant (.int n) a p])(hk:params.kw_defaults=[])(hko:params.kwonlyargs=[])(ha:annTrees params none env=[])
  (h:wpAny M A (makeTail name (qualnameIn env name name) params (.stmts body) scope env (.ref s.heap.objs.size) .none none pos pos.line) (fun v s'=>wpAny M A (storeName env name v) (fun _ s''=>Q .next s'') E s') E {s with heap:=s.heap.push {cls:=.type "tuple",data:=.seq #[.int n s.toks]},toks:=s.toks + 1}):
  wpAny M A (exec (.FunctionDef name params body [] none [] scope none name pos) env) Q E s:=by
 rw[exec_def];refine tG (xb0 (tG (xb1 ?_)));rw[defaultsOf_eq,hd,hk,ha];refine tG (wpAny_evalAll_cons (wpAny_Constant_int (wpAny_evalAll_nil ?_)));refine tG (xb1 (xaj ?_));refine xb1 (tG (xaj ?_));rw[makeFunction_eq,hko];refine tG (xcK ?_);exact xaM h (fun v s' h'=>tG (xb0 (tG (xdd (xaM h' (fun _ _ h''=>xaj h'') fun _ _ x=>x))))) fun _ _ x=>x
end
theorem Sh {X:Cx}{Wx:XW}{kt:Nat}{nm:Str}{i:FnT}{caps:List (Str×Nat)}{cl:List (Str×Addr)}{c Pt:Addr}{j:Nat}{p1 p2:Pos}(m:MkOk X nm i caps cl c Pt j):tD X Wx [i.st,.Return (some (.Name i.x p1)) p2] (kY kt nm i caps):=by
  intro s σ H D I hh;obtain⟨P0,H0,P,Os,env,M,out,M',k,e,q⟩:=hh;unfold kY at e;split at e
  · rename_i nm' i' hM;split at e
    · rename_i hni;obtain⟨rfl,rfl⟩:=hni;rw[xac]at e;obtain⟨cs,ec,e⟩:=e;cases e;obtain⟨c0,ps,ht,hPt0,hps⟩:nW X.K H (P.io kt) nm' i':=k.hk.cell kt _ hM;obtain⟨rfl,rfl⟩:c=c0/\Pt=P.io kt:=by
        have z:=m.tab.symm.trans ht;cases z;exact⟨rfl,rfl⟩
      have KX:=I.kIn;have C:=xdv KX m.hd;have hP:s.heap.get? (P.io kt)=some (PySem.W.tabObj ps):=I.hok _ _ hPt0;have hg:s.heap.Ns mainGlobals X.mg:=I.ok.mod.glob.keeps I.bk;have tr:∀{b:Addr} {o:Obj},X.base.get? b=some o->b≠P.io kt:=fun g z=>by
        have:=(I.bs _ _ g).2;rw[z,hPt0]at this;cases this
      have hgP:mainGlobals≠P.io kt:=by
        obtain⟨o,_,_,g,_⟩:=I.ok.mod.glob;exact tr g
      obtain⟨bm,ob,b1,b2,b3,b4,b5,b6,b7⟩:=m.bm;have hbm:s.heap.BuiltinsAt X.mg (P.io kt):=⟨bm,ob,b1,b2,b3,tr b4,I.bk _ _ b4,b5,b6,b7⟩;obtain⟨params,body,scope,hst,dd,d2,d3,d4⟩:=m.st;have efo:∀dV doc ctv c',({cls:=.type "function",data:=.func (PySem.W.fnX i'.x i'.q params body scope cl dV .none doc ((X.mg "__name__").getD .none) none (.ref c') ctv)}:Obj)=m8 X.mg i' cl dV doc ctv c':=fun dV doc ctv c'=>by
        unfold m8;rw[hst];rfl
      have hcl':closureFor scope X.env=pure cl:=by
        have:=m.clo;rw[hst]at this;exact this
      -- a state behind the making:what is new is tracked
      have lay:∀(hn:Hp) (h':Heap) (tk:Nat) (c':Addr) (dV doc ctv:Value) (ps':Array Value) (oc:Obj) (fs:Array Value) (t:Tok) (hd:eE hn i'.dd dV),(∀b,b<s.heap.objs.size->hn b=H b)->(∀b u,s.heap.objs.size<=b->hn b=some u->b<h'.objs.size/\b≠c'/\∃ob,u=.frz ob (.own b)/\h'.get? b=some ob)->
          (∀b o,b≠P.io kt->s.heap.get? b=some o->h'.get? b=some o)->s.heap.objs.size<=c'->c'<h'.objs.size->h'.get? c'=some oc->oc.data=.fields fs->fs[1]? =some (.str i'.q t)->h'.get? (P.io kt)=some (PySem.W.tabObj #[rawInt i'.pos.line,rawInt i'.pos.col,.ref c'])->ps= #[]->
          wpAny (model X.prog X.w) X.A (storeName X.env i'.x (.ref h'.objs.size)) (fun _ s''=>wpAny (model X.prog X.w) X.A (execs [.Return (some (.Name i'.x p1)) p2] X.env) (XP X D) X.xe s'') X.xe {s with heap:=h'.push (m8 X.mg i' cl dV doc ctv c'),toks:=tk}:=by
        intro hn h' tk c' dV doc ctv ps' oc fs t hd hold hnew kp hge hlt hoc hdat hv htb hps0;subst hps0;have ltH:∀{b:Addr} {u:HO},H b=some u->b<s.heap.objs.size:=fun e=>(I.hok _ _ e).lt;have sN:Same H hn:=fun b u e=>by rw[hold b (ltH e)];exact e
        have hPn:hn (P.io kt)=some (.tbl #[]):=sN _ _ hPt0;have hc0:hn c'=none:=by
          cases z:hn c' with
          |none=>rfl
          |some u=>exact absurd rfl (hnew c' u hge z).2.1
        have neP:c'≠P.io kt:=fun z=>by rw[z,hPn]at hc0;cases hc0
        have fge:s.heap.objs.size<=h'.objs.size:=xaB hge (xb9 hlt);have hf0:hn h'.objs.size=none:=by
          cases z:hn h'.objs.size with
          |none=>rfl
          |some u=>exact absurd (hnew _ u fge z).1 (xa0 _)
        have nfP:h'.objs.size≠P.io kt:=fun z=>by rw[z,hPn]at hf0;cases hf0
        have nfc:h'.objs.size≠c':=xcT hlt;have sa:Same H (upd hn c' (.frz oc (.own c'))):=Same.trans sN (vU hc0);have hka:=k.hk.same sa;have frz1:∀b o u,hn b=some (.frz o u)->upd (upd hn c' (.frz oc (.own c'))) (P.io kt) (.tbl #[rawInt i'.pos.line,rawInt i'.pos.col,.ref c']) b=some (.frz o u):=fun b o u e=>by
          rw[aQ (fun z=>by rw[z,hPn]at e;cases e),aQ (fun z=>by rw[z,hc0]at e;cases e)];exact e
        have cod:fD (upd (upd hn c' (.frz oc (.own c'))) (P.io kt) (.tbl #[rawInt i'.pos.line,rawInt i'.pos.col,.ref c'])) c' i'.q:=⟨oc,fs,t,by rw[aQ neP];exact bU,hdat,hv⟩;obtain⟨_,lE,hkb⟩:=hka.set (c':=.tbl nm' i') (o':=.tbl #[rawInt i'.pos.line,rawInt i'.pos.col,.ref c']) hM ⟨c,_,m.tab,bU,.inr ⟨c',rfl,cod⟩⟩;rw[set_same hM]at hkb;refine QK m I k ec q _ tk h'.objs.size c' dV doc ctv _ (Pr (tk:=tk) I hPt0 (fun b o hb g=>xaa _ (kp b o hb g)) (fun b hb hbp=>?_) ⟨#[rawInt i'.pos.line,rawInt i'.pos.col,.ref c'],?_,?_⟩ fun a o ha ea=>?_) ((LtE.same sa).trans lE) hkb (by rw[aQ nfP,aQ nfc];exact hf0) cod (hd.up frz1)
        · rw[aQ (xaA (xag hb fge)),aQ hbp,aQ (xaA (xag hb hge))];exact hold b hb
        · rw[aQ nfP.symm,bU]
          simp
        · refine xaa _ ?_;rw[htb]
          simp[PySem.W.tabObj]
        · by_cases h1:a=h'.objs.size
          · subst h1;rw[bU]at ea;cases ea;exact⟨_,rfl,xav _ rfl⟩
          · rw[aQ h1]at ea
            by_cases h2:a=P.io kt
            · exact absurd (xag (ltH hPt0) (h2 ▸ ha)) (xa0 _)
            · rw[aQ h2]at ea
              by_cases h3:a=c'
              · subst h3;rw[bU]at ea;cases ea;exact⟨_,rfl,xaa _ hoc⟩
              · rw[aQ h3]at ea;obtain⟨_,_,ob,e1,e2⟩:=hnew a o ha ea;exact⟨ob,e1,xaa _ e2⟩
      have lay2:∀(hn:Hp) (h':Heap) (tk:Nat) (c':Addr) (dV doc ctv:Value) (hd:eE hn i'.dd dV),fD H c' i'.q->(∀b,b<s.heap.objs.size->hn b=H b)->(∀b u,s.heap.objs.size<=b->hn b=some u->b<h'.objs.size/\∃ob,u=.frz ob (.own b)/\h'.get? b=some ob)->
          (∀b o,s.heap.get? b=some o->h'.get? b=some o)->s.heap.objs.size<=h'.objs.size->
          wpAny (model X.prog X.w) X.A (storeName X.env i'.x (.ref h'.objs.size)) (fun _ s''=>wpAny (model X.prog X.w) X.A (execs [.Return (some (.Name i'.x p1)) p2] X.env) (XP X D) X.xe s'') X.xe {s with heap:=h'.push (m8 X.mg i' cl dV doc ctv c'),toks:=tk}:=by
        intro hn h' tk c' dV doc ctv hd hcod hold hnew kp fge;have ltH:∀{b:Addr} {u:HO},H b=some u->b<s.heap.objs.size:=fun e=>(I.hok _ _ e).lt;have sN:Same H hn:=fun b u e=>by rw[hold b (ltH e)];exact e
        have hf0:hn h'.objs.size=none:=by
          cases z:hn h'.objs.size with
          |none=>rfl
          |some u=>exact absurd (hnew _ u fge z).1 (xa0 _)
        have nfP:h'.objs.size≠P.io kt:=fun z=>by rw[z,sN _ _ hPt0]at hf0;cases hf0
        refine QK m I k ec q _ tk h'.objs.size c' dV doc ctv hn (Pr (tk:=tk) I hPt0 (fun b o _ g=>xaa _ (kp b o g)) (fun b hb hbp=>?_) ⟨#[],?_,?_⟩ fun a o ha ea=>?_) (LtE.same sN) (k.hk.same sN) hf0 (hcod.up fun b o u e=>sN b _ e) hd
        · rw[aQ (xaA (xag hb fge))];exact hold b hb
        · rw[aQ nfP.symm,sN _ _ hPt0]
          simp
        · refine xaa _ ?_;rw[kp _ _ hP]
          simp[PySem.W.tabObj]
        · by_cases h1:a=h'.objs.size
          · subst h1;rw[bU]at ea;cases ea;exact⟨_,rfl,xav _ rfl⟩
          · rw[aQ h1]at ea;obtain⟨_,ob,e1,e2⟩:=hnew a o ha ea;exact⟨ob,e1,xaa _ e2⟩
      have nH:∀{b:Addr} {u:HO},s.heap.objs.size<=b->H b=some u->False:=fun hb e=>absurd (xag (I.hok _ _ e).lt hb) (xa0 _);refine xbV ?_;rw[hst];rcases dd with⟨d1,e1⟩ |⟨n,a,p,d1,e1,ne⟩
      · refine PySem.W.nestDef_K d1 d2 d4 ?_;rw[m.q];rcases hps with rfl |⟨c',rfl,hcod⟩
        · refine PySem.W.makeFunction_K hcl' I.ok.glob hg m.code C hP trivial rfl hgP hbm fun c' ctv doc h' tk hx hge hlt hrec htb=>?_;obtain⟨c2,oc,fs,t,e2,hoc,hdat,hv⟩:=hrec;cases e2;have key:=lay H h' tk c' .none doc ctv #[] oc fs t (.inl ⟨e1,rfl⟩) (fun _ _=>rfl) (fun b u hb e=>(nH hb e).elim) hx hge hlt hoc hdat hv (by rw[htb];simp) rfl;rw[<-efo]at key;exact key
        · refine PySem.W.makeFunction_hit hcl' I.ok.glob hg m.code C hP (by simp[TriplesOk,rawInt]) (show codeAmong i'.pos _=some (.ref c') by simp[codeAmong,rawInt]) hbm fun ctv doc h' tk hkp hsz=>?_;have key:=lay2 H h' tk c' .none doc ctv (.inl ⟨e1,rfl⟩) hcod (fun _ _=>rfl) (fun b u hb e=>(nH hb e).elim) hkp hsz;rw[<-efo]at key;exact key
      · refine def_dflt d1 d2 d3 d4 ?_;rw[m.q];have pk:∀(o:Obj) (b:Addr) (u:Obj),s.heap.get? b=some u->(s.heap.push o).get? b=some u:=fun o b u e=>xaa o e;have psz:(s.heap.push {cls:=.type "tuple",data:=.seq #[.int n s.toks]}).objs.size=s.heap.objs.size + 1:=xbN ..;have td:(s.heap.push {cls:=.type "tuple",data:=.seq #[.int n s.toks]}).get? s.heap.objs.size=some {cls:=.type "tuple",data:=.seq #[.int n s.toks]}:=xav _ rfl;have tP:s.heap.objs.size≠P.io kt:=fun z=>nH (xcV z) hPt0;have hbm2:(s.heap.push {cls:=.type "tuple",data:=.seq #[.int n s.toks]}).BuiltinsAt X.mg (P.io kt):=⟨bm,ob,b1,b2,b3,tr b4,pk _ _ _ (I.bk _ _ b4),b5,b6,b7⟩;have hdf:eE (upd H s.heap.objs.size (.frz {cls:=.type "tuple",data:=.seq #[.int n s.toks]} (.own s.heap.objs.size))) i'.dd (.ref s.heap.objs.size):=.inr ⟨by rw[e1];exact fun z=>(nomatch z),s.heap.objs.size,_,_,_,rfl,bU,rfl,by rw[e1];exact .cons ⟨_,rfl⟩ .nil⟩
        have hold:∀b,b<s.heap.objs.size->upd H s.heap.objs.size (.frz {cls:=.type "tuple",data:=.seq #[.int n s.toks]} (.own s.heap.objs.size)) b=H b:=fun b hb=>aQ (xaA hb);have hnw:∀b u,s.heap.objs.size<=b->upd H s.heap.objs.size (.frz {cls:=.type "tuple",data:=.seq #[.int n s.toks]} (.own s.heap.objs.size)) b=some u->b=s.heap.objs.size/\u=.frz {cls:=.type "tuple",data:=.seq #[.int n s.toks]} (.own b):=fun b u hb e=>by
          by_cases z:b=s.heap.objs.size
          · subst z;rw[bU]at e;cases e;exact⟨rfl,rfl⟩
          · rw[aQ z]at e;exact(nH hb e).elim
        rcases hps with rfl |⟨c',rfl,hcod⟩
        · refine za6 (mg:=X.mg) (c:=c) (Pt:=P.io kt) (ps:= #[]) hcl' ne I.ok.glob (hg.push _) m.code (C.keeps (pk _)) (pk _ _ _ hP) trivial rfl hgP hbm2 fun c' ctv doc h' tk hx hge hlt hrec htb=>?_;obtain⟨c2,oc,fs,t,e2,hoc,hdat,hv⟩:=hrec;cases e2;have hge':s.heap.objs.size + 1<=c':=by rw[<-psz];exact hge
          have key := lay _ h' tk c' _ doc ctv #[] oc fs t hdf hold (fun b u hb e=>by
            obtain⟨rfl,rfl⟩:=hnw b u hb e;exact⟨xag (xa3 _) (xaB hge' (xb9 hlt)),xaA hge',_,rfl,hx _ _ tP td⟩) (fun b o hb g=>hx b o hb (pk _ b o g)) (xaB (xbM _) hge') hlt hoc hdat hv (by rw[htb];simp) rfl
          rw[<-efo]at key;exact key
        · refine zbi (mg:=X.mg) (c:=c) (Pt:=P.io kt) hcl' ne I.ok.glob (hg.push _) m.code (C.keeps (pk _)) (pk _ _ _ hP) (by simp[TriplesOk,rawInt]) (show codeAmong i'.pos _=some (.ref c') by simp[codeAmong,rawInt]) hbm2 fun ctv doc h' tk hkp hsz=>?_;have hsz':s.heap.objs.size + 1<=h'.objs.size:=by rw[<-psz];exact hsz
          have key := lay2 _ h' tk c' _ doc ctv hdf hcod hold (fun b u hb e=>by
            obtain⟨rfl,rfl⟩:=hnw b u hb e;exact⟨hsz',_,rfl,hkp _ _ td⟩) (fun b o g=>hkp b o (pk _ b o g)) (xaB (xbM _) hsz')
          rw[<-efo]at key;exact key
    · cases e
  · cases e
end E3
namespace E3
open PySem PySem.Spec PyProof.Rows L2
section
variable {P:Program}{w:World}{K:Fgx}{mg:Mgx}{base:Heap}{k:Nat}{x qual:Str}{st:Stmt}{f:Addr}{fd:FuncData}{N ps:List Str}{b:S}
theorem Wg {c Pt:Addr}(F:FunD K x qual st f fd)(S:FnScope N ps (aL st))(hp:ps.length<=N.length)(hm:mg x=some (.ref f))(ht:PySem.W.tabIn K x=some (c,Pt))
    (hb:∀A outer s H E Wx,Room k (A.deeper (envOfC qual (aL st) s.heap.objs.size f (.ref c)))->XFit (d8 P w K mg base N qual st f (.ref c) A outer s H E) Wx->XPass (d8 P w K mg base N qual st f (.ref c) A outer s H E) Wx->tD (d8 P w K mg base N qual st f (.ref c) A outer s H E) Wx (bO st) b):FnOk P w K mg base (fY P w) (k + 1) f fd ps (xY K mg ps.length (bJ N.length b)):=by
  obtain⟨oc,od,dV,kV,doc,pm,an,cdv,ct,osl,rfl,lk,hcd⟩:=F.ex;refine⟨fun vs H Q E h=>h.1,fun A outer s H args us vs Q E hr e0 hbd r hsp=>?_⟩;have hl:vs.length=ps.length:=hsp.1;have KX:K.In s.heap:=e0.mod.kin.keeps fun b o e=>(e0.bs b o e).1;obtain rfl:cdv=.ref c:=PySem.W.law_code e0.mod.kin e0.mod.glob ht hm (e0.mod.kin _ _ lk) rfl;have lim:s.heap.NoLimit:=e0.mod.nolimit.keeps fun b o e=>(e0.bs b o e).1;have hkind:∀y∈ps.zip us,(aL st).names.lookup y.1=some .local\/((aL st).names.lookup y.1=some .cell/\((cellsFrom (s.heap.objs.size + 1) (aL st).names []).lookup y.1).isSome=true):=fun⟨n,v⟩ hy=>by
    rcases S.par n (xb5 hy).1 with q |q
    · exact .inl q
    · exact .inr ⟨q,xci _ _ _ (.inl q)⟩
  refine xcn hr.depth (KX _ _ lk) rfl S.co S.gen rfl (xdB KX hcd) (hbd _ _ _ _ ?_);refine xcN S.kind hkind fun env he s1 x => ?_;subst he;refine ⟨lim.keeps x.toInCall.keep, codeAny_func ?_⟩;have I : Inv (d8 P w K mg base N qual st f (.ref c) A outer s H E) [] (start N vs) H s1 := Pu S hr.hd e0 hl r x;obtain ⟨_, Pl, M, ds, rr, M', hk, is, e, q⟩ := hsp;have XF : XFit (d8 P w K mg base N qual st f (.ref c) A outer s H E) (fun P0 H0 M1 c n => P0 = Pl /\ H0 = H /\ M1 = M' /\ rr = .x c n) := ⟨fun pins σ H1 s1 a C dx c n P0 H0 P1 M1 I ea nb n0 l h m xn ⟨e1,e2,e3,e4⟩=>by
    subst e1 e2 e3 e4;have sure:∀b,upd H1 a (xo a C dx false) b=none->H1 b=none:=fun b z=>by
      by_cases hb:b=a
      · subst hb;rw[bU]at z;cases z
      · rw[aQ hb]at z;exact z
    have l1 : LtE P0 H0 P1 (upd H1 a (xo a C dx false)) := ⟨l.n,l.io,l.bd,l.bm,fun b o eb nb=>by
      rw[aQ (fun z=>by rw[z,n0]at eb;cases eb)];exact l.keep b o eb nb,fun b z=>l.sure b (sure b z),l.nw⟩
    have h1 := h.away (H' := upd H1 a (xo a C dx false)) (fun b o eb nx=>by
      rw[aQ (fun z=>by rw[z,ea]at eb;cases eb;exact nx _ rfl)];exact eb) sure
    refine Qh I ea (q P1 _ C dx l1 h1 m ?_)
    cases dx with
    |none=>exact xn
    |some d=>
      obtain⟨fs,ed,el⟩:=xn;exact⟨fs,by rw[aQ (fun z=>by rw[z,ea]at ed;cases ed)];exact ed,el⟩⟩
  have XQ : XPass (d8 P w K mg base N qual st f (.ref c) A outer s H E) (fun P0 H0 M1 c n => P0 = Pl /\ H0 = H /\ M1 = M' /\ rr = .x c n) := ⟨fun pins σ H1 s1 a C dx T c n P0 H0 P1 M1 ca l h m xn ⟨e1,e2,e3,e4⟩=>by
    subst e1 e2 e3 e4;exact Qi ca (q P1 _ C dx l h m xn)⟩
  have st0:=Lp (N:=N) hk (by omega) is;have hq:tS K mg (fun P0 H0 M1 c n=>P0=Pl/\H0=H/\M1=M'/\rr=.x c n) b {nx:=fun _ H'=>Q .non H',rt:=Q} (start N vs) H:=by
    unfold bJ b_ at e;split at e
    · rename_i d' M2 eb;cases e;exact⟨Pl,H,Pl,_,_,M,_,_,st0,eb,fun P' v H' l h i=>q P' v H' l h i⟩
    · rename_i env M2 eb;cases e;exact⟨Pl,H,Pl,_,_,M,_,_,st0,eb,fun P' Os' H' st' _ k'=>q P' .non H' k'.base k'.hk rfl⟩
    · rename_i c n M2 eb;cases e;exact⟨Pl,H,Pl,_,_,M,_,_,st0,eb,⟨rfl,rfl,rfl,rfl⟩⟩
    · cases e
  refine xaM (hb A outer s H E _ (hr.deeper _) XF XQ s1 (start N vs) H _ I hq) (fun fl s' hs=>?_) fun e s' hs=>hs
  cases fl with
  |ret u=>
    obtain⟨v,H',h1,h2,h3,h4,h5,h6⟩:=hs;exact⟨v,H',h1,h2,h3,h4,h5,h6⟩
  |next=>exact False.elim hs
  |brk=>
    obtain⟨_,_,z⟩:=hs;exact False.elim z
  |cont=>
    obtain⟨_,_,z⟩:=hs;exact False.elim z
end
structure FnScopeC (N ps fr:List Str)(sc:Scope):Prop where
 kind:sc.kind=.function
 co:sc.isCoroutine=false
 gen:sc.isGenerator=false
 nd:N.Nodup
 pre:N.take ps.length=ps
 suf:N.drop (N.length - fr.length)=fr
 len:ps.length + fr.length<=N.length
 par:∀x∈ps,sc.names.lookup x=some .local
 fre:∀x∈fr,sc.names.lookup x=some .free
 all:∀y∈sc.names,y.2=.free->y.1∈fr
 noc:∀y∈sc.names,y.2≠ .cell
noncomputable def sU (N:List Str) (vs cvs:List V):L2.St:=vs.map some ++ (List.replicate (N.length - vs.length - cvs.length) none ++ cvs.map some)
noncomputable def pA (np n:Nat) (ds:List D):Env:=(ds.take np).map .val ++ (List.replicate (n - ds.length) .un ++ (ds.drop np).map .val)
def jj (np n:Nat)(b:S):G:=fun ds M=>b_ (b (pA np n ds) M)
noncomputable def Ce (P:Program) (w:World) (K:Fgx) (mg:Mgx) (base:Heap) (N:List Str) (i:FnT) (f:Addr) (cd:Value) (cl:List (Str×Addr)) (A:Around) (outer:List PySem.Env) (s:Shared) (H:Hp):Cx where
 prog:=P
 w:=w
 K:=K
 mg:=mg
 base:=base
 A:=A.deeper (PySem.W.envX i.q (aL i.st) s.heap.objs.size f cd cl)
 N:=N
 s₀:=s
 H₀:=H
 env:=PySem.W.envX i.q (aL i.st) s.heap.objs.size f cd cl
 outer:=outer
 stack:=PySem.W.envX i.q (aL i.st) s.heap.objs.size f cd cl::outer
 ex:=[]
 calm:=true
 fn:=fun _=>false
 pn:=[]
 xe:=fun _ _=>False
theorem lC.get {H:Hp}:∀{cl:List (Str×Addr)} {vs:List V} {j:Nat} {p:Str×Addr},lC H cl vs->cl[j]? =some p->∃v u o,vs[j]? =some v/\RelV v u/\H p.2=some (.frz o (.own p.2))/\o.data=.cell (some u)
  | [],_,_,_,_,e=>by simp at e
  |q::cl,_,0,p,h,e=>by
    obtain⟨v,ws,u,o,e1,r,g,d,_⟩:=h
    simp at e
    subst e e1;exact⟨v,u,o,rfl,r,g,d⟩
  |q::cl,_,j + 1,p,h,e=>by
    obtain⟨v,ws,u,o,e1,_,_,_,h⟩:=h;subst e1;exact lC.get (j:=j) h (by simpa using e)
theorem lC.len {H:Hp}:∀{cl:List (Str×Addr)} {vs:List V},lC H cl vs->vs.length=cl.length
  | [],_,h=>by rw[show _=[] from h];rfl
  |q::cl,_,h=>by
    obtain⟨v,ws,u,o,e1,_,_,_,h⟩:=h;subst e1
    simp[h.len]
theorem CN {β:Type}:∀{l:List (Str×β)} {y:Str} {u:β},(l.map (·.1)).Nodup->(y,u)∈l->l.lookup y=some u
  | [],_,_,_,h=>nomatch h
  |(z,v)::l,y,u,nd,h=>by
    have nd':=xbl.mp nd;rw[xbp];rcases xaJ.mp h with hm |hm
    · obtain⟨rfl,rfl⟩:=Prod.mk.inj hm;rw[xbg]
    · have:(y==z)=false:=by
        rw[xa8];exact fun z'=>nd'.1 (xbc.mpr ⟨_,hm,z'⟩)
      rw[this];exact CN nd'.2 hm
theorem Vc {α β:Type}:∀{l:List α} {m:List β},l.length=m.length->(l.zip m).map (·.1)=l
  | [],[],_=>rfl
  | [],_::_,h=>by simp at h
  |_::_,[],h=>by simp at h
  |a::l,b::m,h=>by
    rw[xdF,xau,Vc (by simpa using h)]
theorem zip_get {α β:Type}:∀{l:List α} {m:List β} {i:Nat} {a:α} {b:β},l[i]? =some a->m[i]? =some b->(a,b)∈l.zip m
  | [],_,_,_,_,h,_=>by simp at h
  |_::_,[],_,_,_,_,h=>by simp at h
  |a::l,b::m,0,_,_,h1,h2=>by
    simp at h1 h2
    subst h1 h2
    simp
  |a::l,b::m,i + 1,_,_,h1,h2=>by
    rw[xdF];exact xar _ (zip_get (i:=i) (by simpa using h1) (by simpa using h2))
section
variable {P:Program}{w:World}{K:Fgx}{mg:Mgx}{base:Heap}{k:Nat}{i:FnT}{N ps:List Str}{b:S}
theorem WR {fr:List Str}{f:Addr}{cd:Value}{cl:List (Str×Addr)}{A:Around}{outer:List PySem.Env}{s:Shared}{H:Hp}{us:List Value}{vs cvs:List V}{h':Heap}{tk:Nat}(S:FnScopeC N ps fr (aL i.st))(hd:A.handled=none)(e0:Env0 P w K mg base A outer s H)
    (hl:vs.length=ps.length) (r:Vals vs us) (hfr:cl.map (·.1)=fr) (hc:lC H cl cvs) (hi:∀x y a,cl.lookup x=some a->cl.lookup y=some a->x=y)
    (hns:h'.Ns s.heap.objs.size (fun x=>(ps.zip us).reverse.lookup x)) (hk:∀b o,s.heap.get? b=some o->h'.get? b=some o):
    Inv (Ce P w K mg base N i f cd cl A outer s H) [] (sU N vs cvs) H {s with heap:=h',toks:=tk}:=by
  have noA:∀b:Addr,b∉(Ce P w K mg base N i f cd cl A outer s H).ex:=fun b z=>absurd (show b∈([]:List Addr) from z) (by simp);have ndf:(cl.map (·.1)).Nodup:=by rw[hfr, <-S.suf];exact S.nd.sublist (List.drop_sublist _ _)
  have cll:cvs.length=fr.length:=by rw[hc.len, <-hfr,xap]
  have S_len:=S.len;have cellAt:∀y c,cl.lookup y=some c->∃u o,H c=some (.frz o (.own c))/\o.data=.cell (some u)/\h'.get? c=some o:=fun y c e=>by
    obtain⟨j,hj⟩:=List.getElem?_of_mem (xaS e);obtain⟨v,u,o,_,_,g,d⟩:=hc.get hj;exact⟨u,o,g,d,hk _ _ (e0.hok _ _ g).1⟩
  have ulen:us.length=ps.length:=by rw[<-r.length];exact hl
  have ndP:ps.Nodup:=by rw[<-S.pre];exact S.nd.sublist (xdI _ _)
  refine ⟨⟨e0.mod,S.kind,rfl,rfl,xai _,hi,fun y hy=>?_,(fun y c z=>nomatch z),fun _=>hd,Around.frames_deeper e0.frames,.inr ⟨rfl,rfl⟩,fun b z=>absurd z (noA b),e0.bs,e0.bsz,fun b _ _=>noA b,fun b z=>absurd z (noA b),e0.funs,e0.frf⟩,
    rfl,e0.bare,Un.kept hk,⟨_,hns,fun n y v h1 h2 h3=>?_⟩,fun y c h=>?_,e0.hok.fresh (xai _),fun y c h=>?_,fun p hp=>absurd (show p∈([]:Pnx) from hp) (by simp),e0.hok.kept hk,?_⟩
  · have hy:(aL i.st).names.lookup y=some .cell\/(aL i.st).names.lookup y=some .free:=hy;rcases hy with hy |hy
    · exact absurd rfl (S.noc _ (xaS hy))
    · have:y∈cl.map (·.1):=by rw[hfr];exact S.all _ (xaS hy) rfl
      obtain⟨p,hp,rfl⟩:=xbc.mp this;exact⟨p.2,CN ndf hp⟩
  · unfold sU at h2
    by_cases hn:n<vs.length
    · rw[xax (by simpa using hn),xan]at h2;have ha:vs[n]? =some v:=by
        cases e:vs[n]? with
        |none=>rw[e]at h2;cases h2
        |some a=>rw[e]at h2;cases h2;rfl
      obtain⟨u,hu,rv⟩:=r.get ha;have hp:ps[n]? =some y:=by rw[<-S.pre,xcX (by omega)];exact h1
      refine⟨u,rv,.inl ⟨S.par y (xaw hp),?_⟩⟩;refine CN ?_ (List.mem_reverse.mpr (zip_get hp hu));rw[xbX,Vc ulen.symm];exact(List.reverse_perm _).nodup_iff.mpr ndP
    · rw[xaH (by simpa using hn),xap]at h2
      by_cases hn2:n - vs.length<N.length - vs.length - cvs.length
      · rw[xax (by simpa using hn2),xaU,xab hn2]at h2;cases h2
      · rw[xaH (by simpa using hn2),xbi,xan]at h2;have ha:cvs[n - vs.length - (N.length - vs.length - cvs.length)]? =some v:=by
          cases e:cvs[n - vs.length - (N.length - vs.length - cvs.length)]? with
          |none=>rw[e]at h2;cases h2
          |some a=>rw[e]at h2;cases h2;rfl
        have hf:fr[n - vs.length - (N.length - vs.length - cvs.length)]? =some y:=by
          have:(N.drop (N.length - fr.length))[n - vs.length - (N.length - vs.length - cvs.length)]? =some y:=by
            rw[List.getElem?_drop, <-h1];congr 1;omega
          rw[S.suf]at this;exact this
        rw[<-hfr,xan,xac]at hf;obtain⟨p,hp,rfl⟩:=hf;obtain⟨v',u,o,ev,ru,g,d⟩:=hc.get hp;rw[ha]at ev;cases ev;refine⟨u,ru,.inr ⟨.inr (S.fre _ (by rw[<-hfr];exact xbc.mpr ⟨p,xaw hp,rfl⟩)),p.2,CN ndf (xaw hp),o,hk _ _ (e0.hok _ _ g).1,d⟩⟩
  · obtain⟨u,o,_,d,g⟩:=cellAt y c h;exact⟨some u,o,g,d⟩
  · obtain⟨u,o,g,_,_⟩:=cellAt y c h;exact .inr ⟨rfl,o,_,g⟩
  · unfold sU;show _=N.length;rw[xak,xak,xap,xbi,xap];omega
theorem zaG {Pl:Pl}{H:Hp}{M:Mm}{ds cds:List D}{vs cvs:List V}(hk:Hk K mg Pl H M)(hl:vs.length + cvs.length<=N.length)(h:aD K Pl H ds vs)(hc:aD K Pl H cds cvs):
  Ok K mg Pl H Pl (List.replicate N.length none) H M (sU N vs cvs) (pA ds.length N.length (ds ++ cds)):=by
 have hd:=h.len;have hd2:=hc.len;have ee:pA ds.length N.length (ds ++ cds)=ds.map .val ++ (List.replicate (N.length - vs.length - cvs.length) .un ++ cds.map .val):=by
  unfold pA;rw[List.take_left,List.drop_left,xak,hd,hd2,Nat.sub_sub]
 rw[ee];refine⟨hk,LtE.refl Pl H,hk.here,fun n s e=>?_,fun a z=>?_,fun n j a e1 _=>?_,by simp;omega,by simp[sU];omega⟩
 ·have e0:((List.replicate N.length (none:Option Addr))[n]?).join=none:=by
   rw[xaU]
   split<;>rfl
  rw[e0];unfold sU
  by_cases hi:n<ds.length
  ·rw[xax (by simpa using hi),xan,xae hi]at e;simp only[xaD,xcS]at e;subst e;obtain⟨v,ev,p⟩:=h.get (xae hi);refine⟨v,?_,p⟩;rw[xax (by rw[xap];omega),xan,ev];rfl
  ·rw[xaH (by simpa using hi),xap]at e
   by_cases h2:n - ds.length<N.length - vs.length - cvs.length
   ·rw[xax (by simpa using h2),xaU,xab h2]at e;cases e;exact True.intro
   ·rw[xaH (by simpa using h2),xbi,xan,xac]at e;obtain⟨d,ed,rfl⟩:=e;obtain⟨v,ev,p⟩:=hc.get ed;rw[<-hd]at ev;refine⟨v,?_,p⟩;rw[xaH (by rw[xap];omega),xap,xaH (by rw[xbi];omega),xbi,xan,ev];rfl
 ·exact absurd (xc7 z) (by simp)
 ·rw[xaU]at e1;split at e1<;>cases e1
def fX (P:Program)(w:World)(K:Fgx)(mg:Mgx)(base:Heap)(k:Nat)(i:FnT)(n:Nat)(g:G):Prop:=
 ∀(A:Around) (outer:List PySem.Env) (s:Shared) (H:Hp) (us:List Value) (vs:List V) (Q:VK) (E:XK) (f:Addr) (caps:List (Str×D)) (Pl:Pl) (M:Mm) (ds:List D) (d:D) (M':Mm),Room k A->Env0 P w K mg base A outer s H->Vals vs us->vs.length=n->
  Hk K mg Pl H M->lD K mg Pl H f i caps->aD K Pl H ds vs->g (ds ++ caps.map (·.2)) M=some (.v d,M')->(∀P' v H',LtE Pl H P' H'->Hk K mg P' H' M'->Is K P' H' d v->Q v H')->codeAny (model P w) A (.call (.ref f) ⟨us,[]⟩) (CR gn outer P w H s Q E) s
theorem fX.mono {j:Nat}{n:Nat}{g:G}(a:fX P w K mg base j i n g)(h:j<=k):fX P w K mg base k i n g:=fun A outer s H us vs Q E f caps Pl M ds d M' hr=>a A outer s H us vs Q E f caps Pl M ds d M' (hr.mono h)
def lU (i:FnT)(ps:List Str)(n:Nat)(dn:List Int):Prop:=n + dn.length=ps.length/\∀(H:Hp) (s:Shared) (mgv:Value) (cl:List (Str×Addr)) (dV doc ctv cd:Value) (us:List Value),us.length=n->eE H i.dd dV->(∀a o u,H a=some (.frz o u)->s.heap.get? a=some o)->
 ∃us',Vals (dn.map V.int) us'/\BindsTo s (PySem.W.fnX i.x i.q (cH i.st) (bO i.st) (aL i.st) cl dV .none doc mgv none cd ctv) ⟨us,[]⟩ (ps.zip (us ++ us'))
theorem PB {K:Fgx}{P:Pl}{H:Hp}:∀dn:List Int,aD K P H (dn.map D.int) (dn.map V.int)
 | []=>rfl
 |_::r=>⟨_,_,rfl,rfl,PB r⟩
theorem PK {K:Fgx}{P:Pl}{H:Hp}:∀{ds es:List D} {vs ws:List V},aD K P H ds vs->aD K P H es ws->aD K P H (ds ++ es) (vs ++ ws)
  | [],_,_,_,h,g=>by
    obtain rfl:=h;exact g
  |_::_,_,_,_,⟨v,r,e,h,t⟩,g=>by
    subst e;exact⟨v,_,rfl,h,PK t g⟩
theorem O2 {n:Nat}{dn:List Int}{g:G}(S:FnScopeC N ps i.fr (aL i.st))(hbn:lU i ps n dn)(hg:∀ds cs M,ds.length=n->g (ds ++ cs) M=jj ps.length N.length b ((ds ++ dn.map .int) ++ cs) M)
    (hb:∀f cd cl A outer s H,Room k (A.deeper (PySem.W.envX i.q (aL i.st) s.heap.objs.size f cd cl))->SB (Ce P w K mg base N i f cd cl A outer s H) W0 (bO i.st) b):fX P w K mg base (k + 1) i n g:=by
  intro A outer s H us0 vs0 Q E f caps Pl M ds0 d M' hr e0 r0 hn0 hk fc is0 e q;obtain⟨cl,dV,doc,ctv,c,cvs,e1,⟨e2,edf⟩,⟨e3,hfr'⟩,e4,e5,e6⟩:=fc;obtain⟨oc,fs,t,c1,c2,c3⟩:=e2;have ho:s.heap.get? f=some (m8 mg i cl dV doc ctv c):=(e0.hok f _ e1).1;have hcr:s.heap.CodeRec (.ref c) i.q:=⟨c,oc,fs,t,rfl,(e0.hok c _ c1).1,c2,c3⟩;have lim:s.heap.NoLimit:=e0.mod.nolimit.keeps fun b o e=>(e0.bs b o e).1;obtain⟨us',rd,hbt⟩:=hbn.2 H s ((mg "__name__").getD .none) cl dV doc ctv (.ref c) us0 (by rw[<-r0.length];exact hn0) edf fun a o u z=>(e0.hok a _ z).1;rw[hg _ _ _ (by rw[<-hn0];exact is0.len.symm)]at e;have r:Vals (vs0 ++ dn.map V.int) (us0 ++ us'):=r0.append rd;have hn:(vs0 ++ dn.map V.int).length=ps.length:=by rw[xak,xap,hn0];exact hbn.1
  have is:aD K Pl H (ds0 ++ dn.map D.int) (vs0 ++ dn.map V.int):=PK is0 (PB dn);clear is0 r0 rd hn0 hg;generalize us0 ++ us'=us at r hbt;generalize vs0 ++ dn.map V.int=vs at r hn is;generalize ds0 ++ dn.map D.int=ds at is e;have ulen:us.length=ps.length:=by rw[<-r.length];exact hn
  have kept:∀h':Heap,Heap.SameBut s.heap.objs.size (s.heap.push {cls:=.type "frame",data:=.dict #[]}) h'->∀b o,s.heap.get? b=some o->h'.get? b=some o:=fun h' hs b o g=>by
    rw[hs.2 b (xaA (xaq g))];exact xaa _ g
  refine xcn hr.depth ho rfl S.co S.gen rfl hcr (hbt _ _ _ _ ?_);refine wpAny_newFunctionEnv S.noc (fun y hy=>S.par _ (xb5 hy).1) (fun h' hns hsame=>⟨lim.keeps (kept h' hsame),codeAny_func ?_⟩) S.kind;have cll:cvs.length=i.fr.length:=by rw[e5.len, <-hfr', <-e3,xap]
  have S_len:=S.len;have dl:=is.len;have I:=WR (P:=P) (w:=w) (base:=base) (f:=f) (cd:=.ref c) (A:=A) (outer:=outer) (tk:=s.toks + (ps.zip us).length) S hr.hd e0 hn r (e3.trans hfr') e5 e6 hns (kept h' hsame);have st0:=zaG (N:=N) (ds:=ds) (cds:=caps.map (·.2)) hk (by omega) is e4;rw[show ds.length=ps.length by omega]at st0;have hq:tS K mg W0 b {nx:=fun _ H'=>Q .non H',rt:=Q} (sU N vs cvs) H:=by
    unfold jj b_ at e;split at e
    · rename_i d' M2 eb;cases e;exact⟨Pl,H,Pl,_,_,M,_,_,st0,eb,fun P' v H' l h i=>q P' v H' l h i⟩
    · rename_i env M2 eb;cases e;exact⟨Pl,H,Pl,_,_,M,_,_,st0,eb,fun P' Os' H' st' _ k'=>q P' .non H' k'.base k'.hk rfl⟩
    · rename_i c n M2 eb;cases e
    · cases e
  refine xaM (hb f (.ref c) cl A outer s H (hr.deeper _) [] _ (sU N vs cvs) H _ I hq) (fun fl s' hs=>?_) fun e s' hs=>False.elim hs
  cases fl with
  |ret u=>
    obtain⟨v,σ',H',J,rv,z⟩:=hs;exact⟨v,H',J.os,J.bare,J.base,J.hok,rv,z⟩
  |next=>
    obtain⟨σ',H',J,z⟩:=hs;exact⟨.non,H',J.os,J.bare,J.base,J.hok,rfl,z⟩
  |brk=>
    obtain⟨_,_,_,z⟩:=hs;exact False.elim z
  |cont=>
    obtain⟨_,_,_,z⟩:=hs;exact False.elim z
end
open Classical in
noncomputable def nF (i:FnT) (g:G) (f:E) (fs:EA):E:=fun env M=>bnd (f env M) fun d M1=>match d with
  | .ref k => (match M1[k]? with
    | some (.fn i' caps) => if i' = i then cQ (fs env M1) fun ds M2 => (match g (ds ++ caps.map (·.2)) M2 with
      |some (.v z,M3)=>some (.v z,M3)
      |_=>none) else none
    |_=>none)
  |_=>none
section
variable {X:Cx}{Wx:XW}{m:Mode}{pos:Pos}
theorem K8 {k n:Nat}{hd:Expr}{i:FnT}{g:G}{e:Expr}{es:List Expr}{f:E}{fs:EA}(a:fX X.prog X.w X.K X.mg X.base k i n g)(hr:Room k X.A)(hf:SE X Wx .val hd f)(ha:SA X Wx .val (e::es) fs)(hn:rJ n fs)
    (he:starEach (e::es) X.env=(false,eval e X.env)::starEach es X.env:=by rfl) (hpl:(backTo pos (starEach es X.env)).any (·.1)=false:=by rfl) (hce:eval (.Call hd (e::es) [] pos) X.env=(eval hd X.env >>=fun v=>callWith pos v [] (backTo pos (starEach (e::es) X.env)) (backToKw pos (keywordEach [] X.env))):=by rfl):SE X Wx m (.Call hd (e::es) [] pos) (nF i g f fs):=by
  intro pins s σ H Q I hh;rw[hce];obtain⟨P0,H0,P,Os,env,M,r,M',k,e,q⟩:=hh;unfold nF at e;rcases cB e with⟨d,M1,e1,e3⟩ |⟨c,n,e1,rfl⟩
  · clear e;split at e3
    · rename_i kk;split at e3
      · rename_i i' caps em;split at e3
        · rename_i hi;subst hi;refine tG (aP (hf pins s σ H (fun v H1=>∃P1,LtE P H P1 H1/\Hk X.K X.mg P1 H1 M1/\Is X.K P1 H1 (.ref kk) v) I ⟨P0,H0,P,Os,env,M,_,_,k,e1,fun P1 v H1 l h i=>⟨P1,l,h,i⟩⟩) fun u s1 h1=>?_);obtain⟨v,H1,I1,rv,P1,l1,h1,kl,rfl⟩:=h1;obtain rfl:u=Value.ref (P1.io kk):=rv;have fc:lD X.K X.mg P1 H1 (P1.io kk) i' caps:=h1.cell kk _ em;have fat:∀{s2:Shared} {H2:Hp},Inv X pins σ H2 s2->(∀b o u,H1 b=some (.frz o u)->H2 b=some (.frz o u))->PySem.W.FnAt (P1.io kk) s2.heap:=fun {s2 H2} J sm=>by
            obtain⟨cl,dV,doc,ctv,c,cvs,g1,_⟩:=fc;exact⟨_,_,_,_,(J.hok _ _ (sm _ _ _ g1)).1⟩
          have k1:=k.next l1 h1
          rcases o_ e3 with⟨ds,M2,e2,e4⟩ |⟨c,n',e2,rfl⟩
          · split at e4
            · rename_i z M3 eg;cases e4;refine xdG (fat I1 fun _ _ _ z=>z) (aP (ha pos pins s1 σ H1 (fun vs H2=>∃P2,LtE P1 H1 P2 H2/\Hk X.K X.mg P2 H2 M2/\cP X.K P2 H2 .val ds vs) I1 ⟨P0,H0,P1,Os,env,M1,_,_,k1,e2,fun P2 vs H2 l2 h2 i2=>⟨P2,l2,h2,i2⟩⟩) fun us s2 h2=>?_) he hpl;obtain⟨vs,H2,I2,rvs,P2,l2,h2,i2⟩:=h2;have l2t:=l2.lt h1;refine⟨fat I2 l2t.frz,?_⟩;have fc2:lD X.K X.mg P2 H2 (P1.io kk) i' caps:=fc.up l2t.frz fun _ _ q=>aD.lt l2t q;refine xcq (xbO (a X.A X.stack s2 H2 us vs Q E0 (P1.io kk) caps P2 M2 ds z _ hr I2.env0 rvs (by rw[i2.len];exact hn _ _ _ _ e2) h2 fc2 i2.iss eg fun P3 v H3 l3 h3 i3=>q P3 v H3 (l1.trans (l2.trans l3)) h3 (cG.of h3 i3)) fun r s' hq=>?_)
              cases r with
              |error e=>exact False.elim hq
              |ok fl=>
                cases fl with
                |ret u=>exact I2.after hq
                |next=>exact False.elim hq
                |brk=>exact False.elim hq
                |cont=>exact False.elim hq
            · cases e4
          · refine xdG (fat I1 fun _ _ _ z=>z) (aP (ha pos pins s1 σ H1 (fun _ _=>False) I1 ⟨P0,H0,P1,Os,env,M1,_,_,k1,e2,q⟩) fun us s2 h2=>?_) he hpl;obtain⟨_,_,_,_,z⟩:=h2;exact z.elim
        · cases e3
      · cases e3
    · cases e3
  · refine tG (aP (hf pins s σ H (fun _ _=>False) I ⟨P0,H0,P,Os,env,M,_,_,k,e1,q⟩) fun u s1 h1=>?_);obtain⟨_,_,_,_,z⟩:=h1;exact z.elim
end
end E3
namespace E3
open PySem PySem.Spec PyProof.Rows L2
noncomputable def aX (K:Fgx) (nm:Str):Addr:=((PySem.W.tabIn K nm).getD (0,0)).2
noncomputable def tabsOk (K : Fgx) (T : List (Str × FnT)) (ts : List Addr) : Bool := (T.all fun p=>match PySem.W.tabIn K p.1 with
 |some (c,P)=>PySem.W.codeHdIn K c P && (K.lookup P).isNone && ts.contains P
 |none=>false) && decide ((T.map fun p=>aX K p.1).Nodup)
theorem UG {K:Fgx}{T:List (Str×FnT)}{ts:List Addr}(h:tabsOk K T ts=true):(∀p∈T,∃c,PySem.W.tabIn K p.1=some (c,aX K p.1)/\PySem.W.codeHdIn K c (aX K p.1)=true/\K.lookup (aX K p.1)=none/\aX K p.1∈ts)/\(T.map fun p=>aX K p.1).Nodup:=by
  unfold tabsOk at h;rw[xam,xbb]at h;refine⟨fun p hp=>?_,xch h.2⟩;have:=h.1 p hp;unfold aX
  cases e:PySem.W.tabIn K p.1 with
  |none=>rw[e]at this;cases this
  |some q=>
    obtain⟨c,P⟩:=q;rw[e]at this;simp only[xam,Option.isNone_iff_eq_none,List.contains_iff_mem]at this;exact⟨c,rfl,this.1.1,this.1.2,this.2⟩
def fM (T:List (Str×FnT)):Mm:=T.map fun p=>Cl.tbl p.1 p.2
def Fp (K:Fgx)(T:List (Str×FnT))(H:Hp):Prop:=∀p∈T,H (aX K p.1)=some (.tbl #[])
theorem Xl {P:Program}{w:World}{K:Fgx}{mg mb:Mgx}{CX:eV}{k:Nat}{fa a:Addr}{fd:FuncData}{x:Str}{sp:Sp}{s₁:Shared}{vs:List Value}{ns:List Int}{T:List (Str×FnT)}{ts:List Addr}
    (hT:tabsOk K T ts=true) (hts:∀P∈ts,s₁.heap.get? P=some (PySem.W.tabObj #[])) (hbm:lB mg s₁.heap)
    (KX:K.In s₁.heap) (hns:s₁.heap.Ns mainGlobals mg) (hb:s₁.heap.Ns builtinsNs mb) (hbb:∀x:Str,x≠"__name__"->mb x=bootBuiltins x) (hlim:s₁.heap.NoLimit) (hg:s₁.gens= #[])
    (ha:s₁.heap.get? a=some {cls:=.type "list",data:=.seq vs.toArray}) (hi:IntsAre vs ns) (hl:ns.length<=sizeLine) (hr:Room k callerA)
    (F:∀base:Heap,K.In base->base.Ns mainGlobals mg->lB mg base->FnOk P w K mg base CX k fa fd [x] sp) (hbind:∀(s:Shared) (u:Value),BindsTo s fd ⟨[u],[]⟩ [(x,u)])
    (hsp:∀H:Hp,Fp K T H->bI K H a (ns.map V.int)->sp [.ref a] H (fun v _=>v=.bl true) fun _ _ _=>False)
    (hCX:∀H e s',CX [] H s₁ (fun _ _ _=>False) e s'->False):
    codeAny (model P w) callerA (.call (.ref fa) ⟨[.ref a],[]⟩) (fun r s'=>r=.ok (.ret (.bool true))/\OldK s₁.heap s'.heap/\s'.os=s₁.os/\AllBare s'.gens) s₁:=by
  have rv:=U_ hi;have lenV:=hi.length;obtain⟨tb,tnd⟩:=UG hT;have inT:∀{b:Addr},(b∈T.map fun p=>aX K p.1)->(∃c,PySem.W.codeHdIn K c b=true)/\K.lookup b=none/\s₁.heap.get? b=some (PySem.W.tabObj #[]):=fun {b} h=>by
    obtain⟨p,hp,rfl⟩:=xbc.mp h;obtain⟨c,_,e2,e3,e4⟩:=tb p hp;exact⟨⟨c,e2⟩,e3,hts _ e4⟩
  have naT:(a∈T.map fun p=>aX K p.1)->False:=fun h=>by
    have:=(inT h).2.2;rw[ha]at this;cases this
  have core:∀H:Hp,(∀b,H b=none\/(∃o xs,H b=some (.frz o (.lst xs))/\b=a)\/((b∈T.map fun p=>aX K p.1)/\H b=some (.tbl #[])))->Fp K T H->bI K H a (ns.map V.int)->cA P w H s₁.heap->(H a≠none->K.lookup a=none)->
      codeAny (model P w) callerA (.call (.ref fa) ⟨[.ref a],[]⟩) (fun r s'=>r=.ok (.ret (.bool true))/\OldK s₁.heap s'.heap/\s'.os=s₁.os/\AllBare s'.gens) s₁:=by
    intro H hO hTT hS hok hK;have base_of:∀{b:Addr} {o:Obj},s₁.heap.get? b=some o->H b=none->(dW s₁.heap H).get? b=some o:=fun e n=>Wv e n;have noA:∀{b:Addr} {o:Obj} {es:Array DictEntry} {ep:Nat},s₁.heap.get? b=some o->o.data=.dict es ep->H b=none:=fun {b o es ep} e d=>by
      rcases hO b with z |⟨_,_,_,z⟩ |⟨z,_⟩
      · exact z
      · subst z;rw[ha]at e;cases e;have d':Data.seq vs.toArray _=Data.dict es ep:=d;cases d'
      · rw[(inT z).2.2]at e;cases e;have d':Data.fields _=Data.dict es ep:=d;cases d'
    have nsK : ∀ {b : Addr} {m : Mgx}, s₁.heap.Ns b m -> (dW s₁.heap H).Ns b m := fun {b m} ⟨o, es, ep, e, d, r⟩ => ⟨o, es, ep, base_of e (noA e d), d, r⟩;have hKb : K.In (dW s₁.heap H) := fun b o e => base_of (KX b o e) (by
      rcases hO b with z |⟨o',xs,q,z⟩ |⟨z,_⟩
      · exact z
      · subst z;rw[hK (by rw[q];exact fun z=>nomatch z)]at e
        cases e
      · rw[(inT z).2.1]at e;cases e)
    have hB:lB mg (dW s₁.heap H):=by
      obtain⟨bm,ob,b1,b2,b3,b4,b5,b6,b7⟩:=hbm;refine⟨bm,ob,b1,b2,b3,base_of b4 ?_,b5,b6,b7⟩;rcases hO bm with z |⟨_,_,_,z⟩ |⟨z,_⟩
      · exact z
      · subst z;rw[ha]at b4;cases b4;cases b7
      · rw[(inT z).2.2]at b4;cases b4;cases b7
    have hM:Mod K mg (dW s₁.heap H):=⟨hKb,nsK hns,⟨mb,nsK hb,hbb⟩,let ⟨mc,h1,h2⟩:=hlim;⟨mc,nsK h1,h2⟩⟩
    have e0:Env0 P w K mg (dW s₁.heap H) callerA [] s₁ H:=⟨rfl,hM,fun b o e=>Zg e,xcV (Ww _ _),trivial,fun b hb=>absurd (show b∈([]:List Addr) from hb) (by simp),hok,.of_eq hg⟩;refine xbO ((F _ hKb (nsK hns) hB).run callerA [] s₁ H ⟨[.ref a],[]⟩ [.ref a] [.ref a] _ _ hr e0 (hbind s₁ (.ref a)) (.cons rfl .nil) (hsp H hTT hS)) fun r s' h=>?_
    cases r with
    |error e=>exact(hCX H e s' h).elim
    |ok fl=>
      cases fl with
      |next=>exact False.elim h
      |brk=>exact False.elim h
      |cont=>exact False.elim h
      |ret u=>
        obtain⟨v,H',os,bare,un,hok',r',q⟩:=h;have q':v=.bl true:=q;subst q';obtain rfl:u=Value.bool true:=r';refine⟨rfl,⟨fun b o e=>?_,fun b o e=>un.there b o e (by simp)⟩,os,bare⟩;rcases hO b with z |⟨ob,xs,z,_⟩ |⟨hm,z⟩
        · exact .inl (un.keep b o e z (by intro y;exact absurd (show b∈([]:List Addr) from y) (by simp)) (by simp))
        · have z2:=un.frzs b ob _ z;obtain⟨e1,_⟩:=hok b _ z;obtain⟨e2,_⟩:=hok' b _ z2;rw[e]at e1;cases e1;exact .inl e2
        · obtain⟨⟨c,hc⟩,_,hg⟩:=inT hm;obtain⟨more,z2⟩:=un.tbls b _ z;have g2:s'.heap.get? b=some {cls:=.none,data:=.fields (#[] ++ more)}:=hok' b _ z2;rw[hg]at e;cases e;exact .inr (.inl ⟨((xdv KX hc).tab hg).isCodeTable,rfl, #[],more,rfl,g2⟩)
  cases hk:K.lookup a with
  |some o=>
    have e:=KX a o hk;rw[ha]at e;cases e;refine core (fun b=>if (b∈T.map fun p=>aX K p.1) then some (.tbl #[]) else none) (fun b=>?_) (fun p hp=>xab (xbc.mpr ⟨p,hp,rfl⟩)) (.inr ⟨_,vs.toArray,_,hk,rfl,rfl,rfl,by rw[xah,lenV];exact hl,by simpa using rv⟩) (fun b u z=>?_) fun z=>absurd (xaf naT) z
    · by_cases hb:(b∈T.map fun p=>aX K p.1)
      · exact .inr (.inr ⟨hb,xab hb⟩)
      · exact .inl (xaf hb)
    · by_cases hb:(b∈T.map fun p=>aX K p.1)
      · have z':=(xab hb).symm.trans z;cases z';exact(inT hb).2.2
      · have z':=(xaf hb).symm.trans z;cases z'
  |none=>
    refine core (fun b=>if b=a then some (.frz {cls:=.type "list",data:=.seq vs.toArray} (.lst (ns.map V.int))) else if (b∈T.map fun p=>aX K p.1) then some (.tbl #[]) else none) (fun b=>?_) (fun p hp=>?_) (.inl (.inr ⟨{cls:=.type "list",data:=.seq vs.toArray},xab rfl⟩)) (fun b u z=>?_) fun _=>hk
    · by_cases hb:b=a
      · exact .inr (.inl ⟨_,_,xab hb,hb⟩)
      · by_cases ht:(b∈T.map fun p=>aX K p.1)
        · exact .inr (.inr ⟨ht,(xaf hb).trans (xab ht)⟩)
        · exact .inl ((xaf hb).trans (xaf ht))
    · have hm:(aX K p.1∈T.map fun p=>aX K p.1):=xbc.mpr ⟨p,hp,rfl⟩;have hne:aX K p.1≠a:=fun z=>naT (by rw[<-z];exact hm);exact(xaf hne).trans (xab hm)
    · by_cases hb:b=a
      · have z':=(xab hb).symm.trans z;cases z';subst hb;exact⟨ha,by rw[xap];exact hl,vs,_,rv,ha⟩
      · have z1:=(xaf hb).symm.trans z
        by_cases ht:(b∈T.map fun p=>aX K p.1)
        · have z':=(xab ht).symm.trans z1;cases z';exact(inT ht).2.2
        · have z':=(xaf ht).symm.trans z1;cases z'
theorem Q5 {α:Type}:∀{l:List α} {i j:Nat} {x:α},l.Nodup->l[i]? =some x->l[j]? =some x->i=j
  | [],_,_,_,_,h,_=>by simp at h
  |a::l,0,0,_,_,_,_=>rfl
  |a::l,0,j + 1,x,nd,h1,h2=>by
    simp at h1
    subst h1;exact absurd (xaw (by simpa using h2)) (xbl.mp nd).1
  |a::l,i + 1,0,x,nd,h1,h2=>by
    simp at h2
    subst h2;exact absurd (xaw (by simpa using h1)) (xbl.mp nd).1
  |a::l,i + 1,j + 1,x,nd,h1,h2=>congrArg (· + 1) (Q5 (xbl.mp nd).2 (by simpa using h1) (by simpa using h2))
theorem Xm {K:Fgx}{g:G}{H:Hp}{a:Addr}{ns:List Int}{T:List (Str×FnT)}{ts:List Addr}(hT:tabsOk K T ts=true)(hg:∃M,g [.lst (ns.map D.int)] (fM T)=some (.v (.bl true),M))(hO:Fp K T H)(hS:bI K H a (ns.map V.int)):Ec K g [.ref a] H (fun v _=>v=.bl true) fun _ _ _=>False:=by
 intro mg;obtain⟨M,e⟩:=hg;obtain⟨tb,tnd⟩:=UG hT;have at_:∀{k:Nat} {p:Str×FnT},T[k]? =some p->(T[k]?.map fun p=>aX K p.1).getD 0=aX K p.1:=fun h=>by rw[h];rfl
 refine⟨rfl,⟨fun k=>(T[k]?.map fun p=>aX K p.1).getD 0,T.length,fun b=>∃p∈T,aX K p.1=b⟩,fM T,[.lst (ns.map D.int)],.bl true,M,⟨by simp[fM],fun k c e=>?_,fun j k h1 h2 z=>?_,fun k h=>?_,fun b z=>?_⟩,⟨.ref a,[],rfl,⟨a,ns.map V.int,rfl,?_,Pz ns⟩,rfl⟩,e,fun P' v H' _ _ i=>i⟩
 ·unfold fM at e;rw[xan,xac]at e;obtain⟨p,hp,rfl⟩:=e;have hm:=xaw hp;obtain⟨c,e1,_⟩:=tb p hm;show nW K H ((T[k]?.map fun p=>aX K p.1).getD 0) p.1 p.2;rw[at_ hp];exact⟨c, #[],e1,hO p hm,.inl rfl⟩
 ·have g1:T[j]? =some T[j]:=xae h1;have g2:T[k]? =some T[k]:=xae h2;have z':(T[j]?.map fun p=>aX K p.1).getD 0=(T[k]?.map fun p=>aX K p.1).getD 0:=z;rw[at_ g1,at_ g2]at z';exact Q5 tnd (x:=aX K T[k].1) (by rw[xan,g1];exact congrArg some z') (by rw[xan,g2];rfl)
 ·have g1:T[k]? =some T[k]:=xae h;refine⟨T[k],xc2 h,?_⟩;show _=(T[k]?.map fun p=>aX K p.1).getD 0;rw[at_ g1]
 ·obtain⟨p,hp,rfl⟩:=z;rw[hO p hp];exact fun z=>nomatch z
 ·rcases hS with h |h
  ·refine .inl ⟨fun⟨p,hp,z⟩=>?_,h⟩;have:=hO p hp;rw[z]at this;rcases h with h |⟨o,h⟩<;>rw[this]at h<;>cases h
  ·exact .inr h
theorem zbf {l:PySem.W.OpenLaw}{k:Nat}{q:Program}{loose:List Str}{XP:(Mgx)->Heap->Prop}{YP:World->Heap->Prop}{d:DefRec}{K:Params->Fgx}{x:Str}{g:G}{T:List (Str×FnT)}
  (hn:l.most=some 63) (hdf:d.params.defaults=[]) (hr:Room k callerA) (hY:∀(w:World) (h:Heap),YP w h->(K w.params).In h) (hZ:∀(w:World) (h:Heap),YP w h->∃ts,tabsOk (K w.params) T ts=true/\∀P∈ts,h.get? P=some (PySem.W.tabObj #[]))
  (F:∀(w:World) (mg:Mgx) (fa:Addr) (h:Heap),(K w.params).In h->h.Ns mainGlobals mg->mg d.name=some (.ref fa)->
   ∃fd:FuncData,(∀(s:Shared) (u:Value),BindsTo s fd ⟨[u],[]⟩ [(x,u)])/\
    ∀base:Heap,(K w.params).In base->base.Ns mainGlobals mg->lB mg base->FnOk l.prog w (K w.params) mg base gn k fa fd [x] (Ec (K w.params) g))
  (hg:∀ns:List Int,ns.length<=63->∃M,g [.lst (ns.map D.int)] (fM T)=some (.v (.bl true),M)):PySem.W.WalkO q loose XP YP l.row.toRowW d [] (fun f vs=>PySem.call f vs):=by
 refine Att.Vl hn hdf fun w s₀ s₁ mg mb fa o pm cd doc a vs ns G Y ho hd hcd hmg hobj hints hlen hgn=>?_;have KX:=hY w _ Y;obtain⟨ts,hT,hts⟩:=hZ w _ Y;obtain⟨fd,hb,hF⟩:=F w mg fa _ KX G.T.g hmg;have hbm:lB mg s₁.heap:=by
  obtain⟨bm,ob,b1,b2,b3,b4,b5,b6⟩:=G.T.bmain;refine⟨bm,ob,b1,b2,fun z=>?_,b3,b4,b5,b6⟩;obtain⟨o,es,ep,e,d,_⟩:=G.T.g;rw[z,e]at b3;cases b3;rw[d]at b6;cases b6
 exact Xl hT hts hbm KX G.T.g G.T.b G.T.builtins G.T.nolimit hgn hobj hints (xaB hlen (by decide)) hr hF hb (fun H hO hS=>Xm hT (hg ns hlen) hO hS) fun H e s' z=>z
def inDef (s:Stmt)(j:Nat):Stmt:=(bO s).getD j s
noncomputable def Oh (s:Stmt):Pos:=match s with
 |.FunctionDef _ _ _ _ _ _ _ _ _ p=>p
 |_=>⟨0,0,0,0⟩
noncomputable def dB (caps:List (Str×Nat)) (env:PySem.Env):List (Str×Addr):=caps.map fun p=>(p.1,(env.cells.lookup p.1).getD 0)
abbrev LF (st:Stmt)(x:Str):Prop:=(aL st).names.lookup x=some .free
section
variable {X:Cx}{Wx:XW}
theorem Sg {k:Nat}{ss:List Stmt}{b:S}(hr:Room k X.A)(h:X.A.units + 60<cLine->tD X Wx ss b):tD X Wx ss b:=h (xcJ (xdu (by decide) _) hr.units)
end
section
variable (P:Program)(w:World)(K:Fgx)(mg:Mgx)(base:Heap)(k:Nat)(f:Addr)(N:List Str)(q:Str)(st:Stmt)(b:S)(c:Addr)(i:FnT)
abbrev tu:Prop:=∀(A:Around) (outer:List PySem.Env) (s:Shared) (H:Hp) (E:XK) (Wx:XW),Room k (A.deeper (envOfC q (aL st) s.heap.objs.size f (.ref c)))->XFit (d8 P w K mg base N q st f (.ref c) A outer s H E) Wx->XPass (d8 P w K mg base N q st f (.ref c) A outer s H E) Wx->tD (d8 P w K mg base N q st f (.ref c) A outer s H E) Wx (bO st) b
abbrev nU:Prop:=∀(f:Addr) (cd:Value) (cl:List (Str×Addr)) (A:Around) (outer:List PySem.Env) (s:Shared) (H:Hp),Room k (A.deeper (PySem.W.envX i.q (aL i.st) s.heap.objs.size f cd cl))->SB (Ce P w K mg base N i f cd cl A outer s H) W0 (bO i.st) b
end
section
variable {P:Program}{w:World}{K:Fgx}{mg:Mgx}{h base:Heap}{k:Nat}{f:Addr}{N ps:List Str}{x q:Str}{st:Stmt}{b:S}{c Pt:Addr}{i:FnT}
theorem XD {CX:eV}{A:Around}{outer:List PySem.Env}{s:Shared}{H:Hp}{E:XK}{nm:Str}{caps:List (Str×Nat)}{j:Nat}{X:Cx}(hX:X=cV CX P w K mg base N q (aL st) f (.ref c) A outer s H E\/X=(cV CX P w K mg base N q (aL st) f (.ref c) A outer s H E).nox)(tab:PySem.W.tabIn K nm=some (c,Pt))(hd:PySem.W.codeHdIn K c Pt=true)(bm:lB mg base)(nd:N.Nodup)
  (hst:∃params body scope,i.st=.FunctionDef i.x params body [] none [] scope none i.x i.pos/\((params.defaults=[]/\i.dd=[])\/∃n a p,params.defaults=[.Constant (.int n) a p]/\i.dd=[n]/\caps≠ [])/\params.kw_defaults=[]/\params.kwonlyargs=[]/\annTrees params none (envOfC q (aL st) s.heap.objs.size f (.ref c))=[])
  (hq:qualnameIn (envOfC q (aL st) s.heap.objs.size f (.ref c)) i.x i.x=i.q)
  (clo:closureFor (aL i.st) (envOfC q (aL st) s.heap.objs.size f (.ref c))=pure (dB caps (envOfC q (aL st) s.heap.objs.size f (.ref c))))
  (m9:caps.map (·.1)=i.fr) (cap:∀p∈caps,N[p.2]? =some p.1/\LC st p.1/\p.2≠j) (jx:N[j]? =some i.x) (jl:LV st i.x)
  (db:(i.x==("__debug__":Str))=false) (cd:(i.x==("__classdict__":Str))=false):
  MkOk X nm i caps (dB caps (envOfC q (aL st) s.heap.objs.size f (.ref c))) c Pt j:=by
 have cel:∀p∈dB caps (envOfC q (aL st) s.heap.objs.size f (.ref c)),(envOfC q (aL st) s.heap.objs.size f (.ref c)).cells.lookup p.1=some p.2:=fun p hp=>by
  obtain⟨r,hr,rfl⟩:=xbc.mp hp;obtain⟨a,e⟩:=GK (n:=s.heap.objs.size + 1) (cap r hr).2.1;have e':(envOfC q (aL st) s.heap.objs.size f (.ref c)).cells.lookup r.1=some a:=e;show _=some ((_:Option Addr).getD 0);rw[e'];rfl
 have hst':∃params body scope,i.st=.FunctionDef i.x params body [] none [] scope none i.x i.pos/\((params.defaults=[]/\i.dd=[])\/∃n a p,params.defaults=[.Constant (.int n) a p]/\i.dd=[n]/\dB caps (envOfC q (aL st) s.heap.objs.size f (.ref c))≠ [])/\params.kw_defaults=[]/\params.kwonlyargs=[]/\annTrees params none (envOfC q (aL st) s.heap.objs.size f (.ref c))=[]:=by
  obtain⟨p,b,sc,e1,e2,r⟩:=hst;refine⟨p,b,sc,e1,e2.imp id fun⟨n,a,p,z1,z2,z3⟩=>⟨n,a,p,z1,z2,fun z=>z3 ?_⟩,r⟩;unfold dB at z;exact xds.mp z
 rcases hX with rfl |rfl
 ·exact⟨rfl,fun _=>rfl,hst',hq,rfl,tab,hd,bm,clo,by simp[dB],m9,cel,cap,nd,jx,jl,db,cd⟩
 ·exact⟨rfl,fun _=>rfl,hst',hq,rfl,tab,hd,bm,clo,by simp[dB],m9,cel,cap,nd,jx,jl,db,cd⟩
theorem QJ {A:Around}{outer:List PySem.Env}{s:Shared}{H:Hp}{E:XK}{nm:Str}{caps:List (Str×Nat)}{j:Nat}(tab:PySem.W.tabIn K nm=some (c,Pt))(hd:PySem.W.codeHdIn K c Pt=true)(bm:lB mg base)(nd:N.Nodup)
  (hst:∃params body scope,i.st=.FunctionDef i.x params body [] none [] scope none i.x i.pos/\((params.defaults=[]/\i.dd=[])\/∃n a p,params.defaults=[.Constant (.int n) a p]/\i.dd=[n]/\caps≠ [])/\params.kw_defaults=[]/\params.kwonlyargs=[]/\annTrees params none (envOfC q (aL st) s.heap.objs.size f (.ref c))=[]:=by first |exact⟨_,_,_,rfl,.inl ⟨rfl,rfl⟩,rfl,rfl,rfl⟩ |exact⟨_,_,_,rfl,.inr ⟨_,_,_,rfl,rfl,fun z=>nomatch z⟩,rfl,rfl,rfl⟩)
  (hq:qualnameIn (envOfC q (aL st) s.heap.objs.size f (.ref c)) i.x i.x=i.q:=by kernel_rfl)
  (clo:closureFor (aL i.st) (envOfC q (aL st) s.heap.objs.size f (.ref c))=pure (dB caps (envOfC q (aL st) s.heap.objs.size f (.ref c))):=by kernel_rfl)
  (m9:caps.map (·.1)=i.fr:=by rfl) (cap:∀p∈caps,N[p.2]? =some p.1/\LC st p.1/\p.2≠j:=by x_go) (jx:N[j]? =some i.x:=by rfl) (jl:LV st i.x:=by kernel_rfl)
  (db:(i.x==("__debug__":Str))=false:=by x_go) (cd:(i.x==("__classdict__":Str))=false:=by x_go):
  MkOk (d8 P w K mg base N q st f (.ref c) A outer s H E) nm i caps (dB caps (envOfC q (aL st) s.heap.objs.size f (.ref c))) c Pt j:=XD (.inl rfl) tab hd bm nd hst hq clo m9 cap jx jl db cd
theorem T6 {N ps fr:List Str}{sc:Scope}(h1:sc.kind=.function:=by rfl)(h2:sc.isCoroutine=false:=by rfl)(h3:sc.isGenerator=false:=by rfl)(h4:N.Nodup:=by x_go)(h5:N.take ps.length=ps:=by rfl)(h6:N.drop (N.length - fr.length)=fr:=by rfl)(h7:ps.length + fr.length<=N.length:=by decide)
  (h8:∀x∈ps,sc.names.lookup x=some .local:=by x_go) (h9:∀x∈fr,sc.names.lookup x=some .free:=by x_go) (h10:∀y∈sc.names,y.2=.free->y.1∈fr:=by x_go) (h11:∀y∈sc.names,y.2≠ .cell:=by x_go):FnScopeC N ps fr sc:=⟨h1,h2,h3,h4,h5,h6,h7,h8,h9,h10,h11⟩
theorem lU.of {n:Nat}{dn:List Int}(hl:n + dn.length=ps.length)(hd:i.dd=[])(h:dn=[]/\∀(s:Shared) (mgv:Value) (cl:List (Str×Addr)) (doc ctv cd:Value) (us:List Value),us.length=ps.length->BindsTo s (PySem.W.fnX i.x i.q (cH i.st) (bO i.st) (aL i.st) cl .none .none doc mgv none cd ctv) ⟨us,[]⟩ (ps.zip us)):lU i ps n dn:=
 ⟨hl,fun H s mgv cl dV doc ctv cd us hu hD hH=>by
  obtain⟨rfl,h⟩:=h;rcases hD with⟨_,rfl⟩ |⟨z,_⟩
  ·exact⟨[],.nil,by rw[xaR];exact h s mgv cl doc ctv cd us (by rw[hu, <-hl];rfl)⟩
  ·exact absurd hd z⟩
theorem lU.dfl {n:Nat}{dn:List Int}{z:Int}(hl:n + dn.length=ps.length)(hd:i.dd=[z])
    (h:∀(s:Shared) (mgv:Value) (cl:List (Str×Addr)) (td:Addr) (doc ctv cd:Value) (us:List Value) (o:Obj) (m t:Nat),us.length=n->s.heap.get? td=some o->o.data=.seq #[.int z t] m->∃us',Vals (dn.map V.int) us'/\BindsTo s (PySem.W.fnX i.x i.q (cH i.st) (bO i.st) (aL i.st) cl (.ref td) .none doc mgv none cd ctv) ⟨us,[]⟩ (ps.zip (us ++ us'))):lU i ps n dn:=
  ⟨hl,fun H s mgv cl dV doc ctv cd us hu hD hH=>by
    rcases hD with⟨e,_⟩ |⟨_,td,o,its,m,rfl,g,ed,r⟩
    · rw[hd]at e;cases e
    · rw[hd]at r;obtain⟨t,rfl⟩:∃t,its= #[.int z t]:=by
        rcases its with⟨l⟩;have r:Vals [V.int z] l:=r
        cases r with
        |cons a b=>
          cases b;obtain⟨t,rfl⟩:=a;exact⟨t,rfl⟩
      exact h s mgv cl td doc ctv cd us o m t hu (hH td o _ g) ed⟩
theorem Fe {a0:Str}(hd:i.dd=[])(h:∀{mgv:Value} {cl:List (Str×Addr)} {doc ctv cd u0:Value},bindArgs (PySem.W.fnX i.x i.q (cH i.st) (bO i.st) (aL i.st) cl .none .none doc mgv none cd ctv) ⟨[u0],[]⟩=pure [(a0,u0)]):lU i [a0] 1 []:=
 .of rfl hd ⟨rfl,fun _ _ _ _ _ _ us hl=>match us,hl with | [_],_=>.of_eq h⟩
theorem Fg {a0 a1:Str}(hd:i.dd=[])(h:∀{mgv:Value} {cl:List (Str×Addr)} {doc ctv cd u0 u1:Value},bindArgs (PySem.W.fnX i.x i.q (cH i.st) (bO i.st) (aL i.st) cl .none .none doc mgv none cd ctv) ⟨[u0,u1],[]⟩=pure [(a0,u0),(a1,u1)]):lU i [a0,a1] 2 []:=
 .of rfl hd ⟨rfl,fun _ _ _ _ _ _ us hl=>match us,hl with | [_,_],_=>.of_eq h⟩
theorem Fj {a0 a1 a2:Str}{z:Int}(hd:i.dd=[z])(h:∀{s:Shared} {mgv:Value} {cl:List (Str×Addr)} {td:Addr} {doc ctv cd u0 u1 u2:Value} {o:Obj} {m t:Nat},s.heap.get? td=some o->o.data=.seq #[.int z t] m->BindsTo s (PySem.W.fnX i.x i.q (cH i.st) (bO i.st) (aL i.st) cl (.ref td) .none doc mgv none cd ctv) ⟨[u0,u1,u2],[]⟩ [(a0,u0),(a1,u1),(a2,u2)]):lU i [a0,a1,a2] 3 []:=
 .dfl rfl hd fun _ _ _ _ _ _ _ us _ _ _ hl g e=>match us,hl with | [_,_,_],_=>⟨[],.nil,h g e⟩
theorem Fi {a0 a1 a2:Str}{z:Int}(hd:i.dd=[z])(h:∀{s:Shared} {mgv:Value} {cl:List (Str×Addr)} {td:Addr} {doc ctv cd u0 u1:Value} {o:Obj} {m t:Nat},s.heap.get? td=some o->o.data=.seq #[.int z t] m->BindsTo s (PySem.W.fnX i.x i.q (cH i.st) (bO i.st) (aL i.st) cl (.ref td) .none doc mgv none cd ctv) ⟨[u0,u1],[]⟩ [(a0,u0),(a1,u1),(a2,.int z t)]):lU i [a0,a1,a2] 2 [z]:=
 .dfl rfl hd fun _ _ _ _ _ _ _ us _ _ t hl g e=>match us,hl with | [_,_],_=>⟨[.int z t],.cons ⟨t,rfl⟩ .nil,h g e⟩
theorem nU.ok (S:FnScopeC N ps i.fr (aL i.st))(hb:nU P w K mg base k N b i)(hp:lU i ps ps.length []:=by first |exact Fe rfl rfl |exact Fg rfl rfl |exact Fj rfl fun h₁ h₂=>BindsTo.of_defaults rfl h₁ h₂ rfl rfl):fX P w K mg base (k + 1) i ps.length (jj ps.length N.length b):=O2 S hp (fun ds cs M _=>by rw[xbP,xaR]) hb
noncomputable def tR (n:Nat) (dn:List Int) (g:G):G:=fun ds M=>g ((ds.take n ++ dn.map .int) ++ ds.drop n) M
theorem nU.okD {n : Nat} {dn : List Int} (S : FnScopeC N ps i.fr (aL i.st)) (hb : nU P w K mg base k N b i) (hp : lU i ps n dn := by exact Fi rfl fun h₁ h₂ => BindsTo.of_defaults rfl h₁ h₂ rfl rfl) : fX P w K mg base (k + 1) i n (tR n dn (jj ps.length N.length b)) := O2 S hp (fun ds cs M hl=>by
 unfold tR;rw[<-hl,List.take_left,List.drop_left]) hb
theorem aW.okMX (F:aW K x st)(X:K.In h)(G:h.Ns mainGlobals mg)(S:FnScope N ps (aL st))(ht:PySem.W.tabIn K x=some (c,Pt))(hr:∀f,tu P w K mg base k f N x st b c)
  (hb:HB x st ps:=by first |exact Ez rfl |exact EY rfl |exact E_ rfl |exact Fb rfl |exact Fd rfl) (hp:ps.length<=N.length:=by decide):dz P w K mg base (k + 1) x ps.length (bJ N.length b):=by
 obtain⟨f,d,D⟩:=F.at X G hb;exact⟨_,_,_,D.mg,D.F.kp,Wg D.F S hp D.mg ht (hr f),D.b⟩
theorem fX.up {j n:Nat}{g:G}(a:fX P w K mg base j i n g)(h:j<=k:=by decide):fX P w K mg base k i n g:=a.mono h
end
noncomputable def rE (K:Fgx) (x:Str):Bool:=match PySem.W.tabIn K x with
 |some (c,P)=>PySem.W.codeHdIn K c P
 |none=>false
theorem Uz {K:Fgx}{x:Str}(h:rE K x=true):∃c P,PySem.W.tabIn K x=some (c,P)/\PySem.W.codeHdIn K c P=true:=by
 unfold rE at h;split at h
 ·exact⟨_,_,by assumption,h⟩
 ·cases h
section
variable {env:Env}{M:Mm}{kt n np:Nat}{nm:Str}{i:FnT}{caps:List (Str×Nat)}{cs:List (Str×D)}{b:S}{ds:List D}
theorem zL (h1:M[kt]? =some (.tbl nm i))(h2:g_ env caps=some cs):kY kt nm i caps env M=some (.rt (.ref M.length),M ++ [.fn i cs]):=by
 unfold kY;simp only[h1,and_self,xaP,h2,xaD]
theorem GC {g:G}{f:E}{fs:EA}{M1 M2 M3:Mm}{k:Nat}{fc:List (Str×D)}{z:D}(h1:f env M=some (.v (.ref k),M1))(h2:M1[k]? =some (.fn i fc))(h3:fs env M1=some (.v ds,M2))(h4:g (ds ++ fc.map (·.2)) M2=some (.v z,M3)):nF i g f fs env M=some (.v z,M3):=by
 unfold nF bnd;simp only[h1,h2,xaP,cQ,h3,h4]
end
end E3
namespace L2
open PySem PySem.Spec PyProof.Rows
end L2
namespace E3
open PySem PySem.Spec PyProof.Rows L2
end E3
namespace L2
open PySem PySem.Spec PyProof.Rows
end L2
namespace E3
open PySem PySem.Spec PyProof.Rows L2
mutual
def D.plain:D->Bool
 |.ref _=>false
 |.tup ds=>D.plains ds
 |.lst ds=>D.plains ds
 |_=>true
def D.plains:List D->Bool
 | []=>true
 |d::ds=>D.plain d && D.plains ds
end
noncomputable def m6 (M:Mm) (d:D):Option D:=match vw M d with
 |.lst ds=>if D.plains (ds.map (vw M))=true then some (.lst (ds.map (vw M))) else none
 |e=>if D.plain e=true then some e else none
noncomputable def kI (neg:Bool) (f g:E):E:=fun env M=>bnd (f env M) fun d M1=>bnd (g env M1) fun e M2=>match m6 M2 d,m6 M2 e with
 |some a,some b=>(aG (if neg then .ne else .eq) a b).map fun z=>(.v z,M2)
 |_,_=>none
section
variable {K:Fgx}{P:Pl}{H:Hp}{io:Nat->Addr}
mutual
theorem Hu:∀{d:D} {v:V},D.plain d=true->Is K P H d v->Is K ⟨io,0,fun _=>False⟩ H d v
 |.non,_,_,h |.bl _,_,_,h |.int _,_,_,h |.str _,_,_,h=>h
 |.ref _,_,p,_=>by simp[D.plain]at p
 |.tup ds,_,p,⟨a,vs,e,t,q⟩=>⟨a,vs,e,t,CG (by simpa [D.plain] using p) q⟩
 |.lst ds,_,p,⟨a,vs,e,t,q⟩=>⟨a,vs,e,t.imp (fun z=>⟨fun y=>y,z.2⟩) id,CG (by simpa [D.plain] using p) q⟩
theorem CG:∀{ds:List D} {vs:List V},D.plains ds=true->aD K P H ds vs->aD K ⟨io,0,fun _=>False⟩ H ds vs
  | [],_,_,h=>h
  |d::ds,_,p,⟨v,r,e,h,t⟩=>by
    simp only[D.plains,xam]at p;exact⟨v,r,e,Hu p.1 h,CG p.2 t⟩
end
theorem PL {mg:Mgx}{M:Mm}(hk:Hk K mg P H M):∀{ds:List D} {vs:List V},D.plains (ds.map (vw M))=true->aD K P H ds vs->aD K ⟨io,0,fun _=>False⟩ H (ds.map (vw M)) vs
  | [],_,_,h=>h
  |d::ds,_,p,⟨v,r,e,h,t⟩=>by
    simp only[xau,D.plains,xam]at p;refine⟨v,r,e,?_,PL hk p.2 t⟩;have p1:=p.1
    cases d with
    |ref k=>
      unfold vw at p1 ⊢;dsimp only at p1 ⊢
      split
      · rename_i es em;rw[em]at p1;obtain⟨i1,i2⟩:k<P.n/\v=.ref (P.io k):=h;obtain⟨vs,e1,q⟩:=hk.cell k _ em;exact⟨_,vs,i2,.inl ⟨fun y=>y,.inl e1⟩,CG (by simpa [D.plain] using p1) q⟩
      · rename_i nl;split at p1
        · rename_i es em;exact absurd em (nl es)
        · simp[D.plain]at p1
    |_=>exact Hu (P:=P) p1 h
theorem Oq {mg:Mgx}{M:Mm}{d a:D}{v:V}(hk:Hk K mg P H M)(e:m6 M d=some a)(h:bL K P H (vw M d) v):bL K ⟨io,0,fun _=>False⟩ H a v:=by
 unfold m6 at e;split at e
 ·rename_i ds ed;split at e
  ·rename_i hp;cases e;rw[ed]at h;obtain⟨b,vs,e1,t,q⟩:=h;exact⟨b,vs,e1,t,PL hk hp q⟩
  ·cases e
 ·rename_i y hy;split at e
  ·rename_i hp;cases e;generalize vw M d=z at h hp hy
   cases z with
   |lst ds=>exact absurd rfl (hy ds)
   |_=>exact Hu (P:=P) hp h
  ·cases e
end
section
variable {X:Cx}{Wx:XW}{m:Mode}{pos:Pos}
theorem Ms {neg:Bool}{f g:E}{st:L2.St}{H:Hp}{Q:VK}(h:tE X.K X.mg Wx m (kI neg f g) st H Q):yd (Dg X.K (if neg then .ne else .eq)) (tE X.K X.mg Wx .bor f) (tE X.K X.mg Wx .bor g) st H Q:=by
 obtain⟨P0,H0,P,Os,env,M,rr,M',k,e,q⟩:=h;unfold kI at e;rcases cB e with⟨d,M1,e1,e⟩ |⟨c,n,e1,rfl⟩
 ·refine aV k e1 fun P1 v1 H1 l1 h1 i1=>?_;have k1:=k.next l1 h1
  rcases cB e with⟨d2,M2,e2,e⟩ |⟨c,n,e2,rfl⟩
  ·refine aV k1 e2 fun P2 v2 H2 l2 h2 i2=>?_;split at e
   ·rename_i a b ea eb;rw[xac]at e;obtain⟨z,ez,e⟩:=e;cases e;unfold aG at ez;rw[xac]at ez;obtain⟨t,et,rfl⟩:=ez;exact N8 et (Oq (io:=P2.io) h2 ea (cF.vw h2 (cF.lt l2 h1 i1))) (Oq (io:=P2.io) h2 eb (cF.vw h2 i2)) (q P2 (.bl t) H2 (l1.trans l2) h2 (cG.of h2 rfl))
   ·cases e
  ·exact aV k1 e2 q
 ·exact aV k e1 q
theorem zdn {neg:Bool}{a b:Expr}{f g:E}(hu:X.A.units + 60<cLine)(ha:SE X Wx .bor a f)(hb:SE X Wx .bor b g)(hm:behindInMarks (yK (if neg then .ne else .eq)) b=false:=by rfl):ST X Wx (.Compare a [yK (if neg then .ne else .eq)] [b] pos) (kI neg f g):=
 z7 (Rt (eX hu _) ha hb hm) fun _ _ _ h=>Ms (Mu h)
end
end E3
namespace My
open PySem PySem.Spec PyProof.Rows L2 E3
noncomputable def wz:List (Str×D):=[("+",(.tup [(.str "number"),(.str "number"),(.int 2)])),("-",(.tup [(.str "number"),(.str "number"),(.int 2)])),("*",(.tup [(.str "number"),(.str "number"),(.int 2)])),("least",(.tup [(.str "number"),(.str "number"),(.int 2)])),("most",(.tup [(.str "number"),(.str "number"),(.int 2)])),("<",(.tup [(.str "truth"),(.str "number"),(.int 2)])),("=",(.tup [(.str "truth"),(.str "number"),(.int 2)])),("not",(.tup [(.str "truth"),(.str "truth"),(.int 1)])),("and",(.tup [(.str "truth"),(.str "truth"),(.int 2)])),("or",(.tup [(.str "truth"),(.str "truth"),(.int 2)]))]
noncomputable def top (i:Nat):Stmt:=PySem.Challenge.pw_rowdam_k13_two_functions.main.body.getD i (.Pass ⟨0,0,0,0⟩)
noncomputable def yH:List Str:=["any","len","min","max","range","reversed","int","str","isinstance","bool","ValueError","list","tuple"]
noncomputable def Cw (s:Stmt) (j:Nat):Stmt:=match s with
 |.ClassDef _ _ _ body _ _ _ _ _ _ _=>body.getD j s
 |_=>s
structure Ad where
 Cond:Addr
 Expr:Addr
 DamError:Addr
 NoExpr:Addr
structure Txt (K:Fgx)(mg:Mgx)(C:Ad)(w:World):Prop where
 blt:∀b∈yH,mg b=none
 cl_Cond:ClsOk K mg "Cond" C.Cond
 cl_Expr:ClsOk K mg "Expr" C.Expr
 na_Expr_parts:mW K C.Expr "parts"
 na_Cond_parts:mW K C.Cond "parts"
 xm_DamError:mg "DamError"=some (.ref C.DamError)
 xc_DamError:bW K C.DamError=true
 xm_NoExpr:mg "NoExpr"=some (.ref C.NoExpr)
 xc_NoExpr:bW K C.NoExpr=true
 tb_sieve_of:∃c P,PySem.W.tabIn K "sieve_of"=some (c,P)/\PySem.W.codeHdIn K c P=true
 tb_change_of:∃c P,PySem.W.tabIn K "change_of"=some (c,P)/\PySem.W.codeHdIn K c P=true
 xn_NoExpr:Bj K C.NoExpr=true
 xk_NoExpr:PySem.W.keepIn K (.ref C.NoExpr)=true
 xs_NoExpr:sY K C.NoExpr=true
 pk_NoExpr_ValueError:PySem.W.kitOne K (.ref C.NoExpr) (.type "ValueError")=some true
 qk_NoExpr_NoExpr:wg K C.NoExpr C.NoExpr=true
 k_ALL_LETTERS:∃a,mg "ALL_LETTERS"=some (.ref a)/\∀P H,Is K P H (.tup [(.str "t"),(.str "v"),(.str "w")]) (.ref a)
 k_NEEDS:∃a,mg "NEEDS"=some (.ref a)/\KTab K w a wz
 k_FIGURES:∃t,mg "FIGURES"=some (.str "0123456789" t)
 k_MOST_FIGURES:∃t,mg "MOST_FIGURES"=some (.int 20 t)
 k_MOST_VALUE:∃t,mg "MOST_VALUE"=some (.int 1000000000000000000000000000000000000000000000000000000000000 t)
 k_COND_LETTERS:∃t,mg "COND_LETTERS"=some (.str "tv" t)
structure MetAt (K:Fgx)(C:Addr)(x q:Str)(st:Stmt)(ps:List Str)(f:Addr)(fd:FuncData):Prop where
 M:Meth K C x f
 F:FunD K x q st f fd
 b:Binds K fd ps []
structure IniAt (K:Fgx)(C:Addr)(q:Str)(st:Stmt)(ps:List Str)(f:Addr)(fd:FuncData):Prop where
 M:Mk K C f
 F:FunD K "__init__" q st f fd
 b:Binds K fd ps []
structure MetAtD (K:Fgx)(C:Addr)(x q:Str)(st:Stmt)(ps:List Str)(dd:List D)(f:Addr)(fd:FuncData):Prop where
 M:Meth K C x f
 F:FunD K x q st f fd
 b:Binds K fd ps []
 bd:∃(dv:List V) (du:List Value),Binds K fd ps du/\Vals dv du/\(∀P H,aD K P H dd dv)/\dv.length=dd.length
noncomputable def yg (c:Str):Option Bool:=if c="NoExpr" then some true else none
theorem zaf {K:Fgx}{mg:Mgx}{C:Ad}{w:World}(T:Txt K mg C w):∀c b,yg c=some b->∃D,mg c=some (.ref D)/\sY K D=true/\PySem.W.kitOne K (.ref D) (.type "ValueError")=some b:=by
 intro c b h;unfold yg at h;split at h
 ·rename_i e;subst e;cases h;exact⟨_,T.xm_NoExpr,T.xs_NoExpr,T.pk_NoExpr_ValueError⟩
 cases h
noncomputable def wJ (c:Str):Bool:=if c="NoExpr" then true else false
theorem VB {K:Fgx}{mg:Mgx}{C:Ad}{w:World}(T:Txt K mg C w):∀c,wJ c=true->∃D,mg c=some (.ref D)/\bW K D=true/\wg K D C.NoExpr=true:=by
 intro c h;unfold wJ at h;split at h
 ·rename_i e;subst e;exact⟨_,T.xm_NoExpr,T.xc_NoExpr,T.qk_NoExpr_NoExpr⟩
 cases h
noncomputable def Hw (t:String):Option Bool:=if t="int" then some false else if t="bool" then some true else if t="str" then some false else if t="list" then some false else if t="tuple" then some false else if t="NoneType" then some false else if t="dict" then some false else none
theorem WW {K:Fgx}:∀t b,Hw t=some b->PySem.W.kitOne K (.type t) (.type "bool")=some b:=by
 intro t b h;unfold Hw at h;split at h
 ·rename_i e;subst e;cases h;kernel_rfl
 split at h
 ·rename_i e;subst e;cases h;kernel_rfl
 split at h
 ·rename_i e;subst e;cases h;kernel_rfl
 split at h
 ·rename_i e;subst e;cases h;kernel_rfl
 split at h
 ·rename_i e;subst e;cases h;kernel_rfl
 split at h
 ·rename_i e;subst e;cases h;kernel_rfl
 split at h
 ·rename_i e;subst e;cases h;kernel_rfl
 cases h
noncomputable def Hx (t:String):Option Bool:=if t="int" then some true else if t="bool" then some true else if t="str" then some false else if t="list" then some false else if t="tuple" then some false else if t="NoneType" then some false else if t="dict" then some false else none
theorem WX {K:Fgx}:∀t b,Hx t=some b->PySem.W.kitOne K (.type t) (.type "int")=some b:=by
 intro t b h;unfold Hx at h;split at h
 ·rename_i e;subst e;cases h;kernel_rfl
 split at h
 ·rename_i e;subst e;cases h;kernel_rfl
 split at h
 ·rename_i e;subst e;cases h;kernel_rfl
 split at h
 ·rename_i e;subst e;cases h;kernel_rfl
 split at h
 ·rename_i e;subst e;cases h;kernel_rfl
 split at h
 ·rename_i e;subst e;cases h;kernel_rfl
 split at h
 ·rename_i e;subst e;cases h;kernel_rfl
 cases h
noncomputable def bT (t T:String):Option Bool:=if T="bool" then Hw t else if T="int" then Hx t else none
theorem W_:bT "int" "bool"=some false:=by x_go
theorem Xa:bT "int" "int"=some true:=by x_go
theorem W9:bT "bool" "bool"=some true:=by x_go
theorem zcd:bT "bool" "int"=some true:=by x_go
theorem zce:bT "str" "bool"=some false:=by x_go
theorem zcj:bT "str" "int"=some false:=by x_go
theorem zbB:bT "list" "bool"=some false:=by x_go
theorem zcg:bT "list" "int"=some false:=by x_go
theorem zbk:bT "tuple" "bool"=some false:=by x_go
theorem zbL:bT "tuple" "int"=some false:=by x_go
theorem zaJ:bT "NoneType" "bool"=some false:=by x_go
theorem zaU:bT "NoneType" "int"=some false:=by x_go
theorem zbm:bT "dict" "bool"=some false:=by x_go
theorem zcf:bT "dict" "int"=some false:=by x_go
theorem Hv {K:Fgx}:∀t T b,bT t T=some b->PySem.W.kitOne K (.type t) (.type T)=some b:=by
 intro t T b h;unfold bT at h;split at h
 ·rename_i e;subst e;exact WW t b h
 split at h
 ·rename_i e;subst e;exact WX t b h
 cases h
abbrev Dz:Stmt:=top 6
theorem Tp:FnScope ["text"] ["text"] (aL Dz):=cO
def G6:E:=(s2 (aG .notin) (aj 0) (ak (.str "0123456789")))
noncomputable def Gq:S:=(ao (bC (kZ (s2 (aG .eq) (aj 0) (ak (.str ""))) (cD (sN n_ (aA (su [] (Cu (aj 0)) (ak (.bl true)) G6) au)))) (ao (aJ (ak (.bl false))) aq) aq) (ao (aJ (kZ (s2 (aG .eq) (aj 0) (ak (.str "0"))) (s2 (aG .ne) (s2 bG (aj 0) (ak (.int 0))) (ak (.str "0"))))) aq))
def za:G:=bJ 1 Gq
abbrev DN:Stmt:=top 7
theorem Tt:FnScope ["text","figures"] ["text"] (aL DN):=cO
noncomputable def Gv:S:=(ao (aN 1 (pY (cD (Am Eo (aj 0) (aA (ak (.str "-")) au))) (xU (aj 0) (xu (ak (.int 1))) zR) (aj 0))) (ao (aJ (bN (s2 (aG .ne) (aj 0) (ak (.str "-0"))) (bV za (aA (aj 1) au)))) aq))
def zj:G:=bJ 2 Gv
abbrev DK:Stmt:=top 8
theorem Tr:FnScope ["text"] ["text"] (aL DK):=cO
noncomputable def Gu:S:=(ao (aJ (bN (bV zj (aA (aj 0) au)) (s2 (aG .le) (sN dF (aA (Am En (aj 0) (aA (ak (.str "-")) au)) au)) (ak (.int 20))))) aq)
def zf:G:=bJ 1 Gu
abbrev Dy:Stmt:=top 14
theorem Tn:FnScope ["number"] ["number"] (aL Dy):=cO
noncomputable def Gp:S:=(ao (aJ (sN gq (aA (s1 fO (ak (.int 1000000000000000000000000000000000000000000000000000000000000))) (aA (sN fG (aA (ak (.int 1000000000000000000000000000000000000000000000000000000000000)) (aA (aj 0) au))) au)))) aq)
def rP:G:=bJ 1 Gp
abbrev DG:Stmt:=top 15
theorem Tq:FnScope ["word","letters"] ["word","letters"] (aL DG):=cO
noncomputable def Gs:S:=(ao (aJ (kZ (bV zf (aA (aj 0) au)) (bN (s2 (aG .isin) (aj 0) (ak (.tup [(.str "t"),(.str "v"),(.str "w")]))) (s2 (aG .isin) (aj 0) (aj 1))))) aq)
def zc:G:=bJ 2 Gs
abbrev DX:Stmt:=top 16
theorem T4:FnScope ["word","kinds","needed","place"] ["word","kinds"] (aL DX):=cO
noncomputable def HX:S:=(ao (bC (kZ (dw (cD (aj 1))) (s2 (aG .ne) (dM (aj 1)) (s2 bG (aj 2) (ak (.int 1))))) (ao (p7 "NoExpr" (fU (kh (aj 0) (fK " needs other words behind it" fL)))) aq) aq) aq)
noncomputable def Gy:S:=(ao (aN 2 (Al wz (aj 0))) (ao (dj 3 (ni (aA (s2 bG (aj 2) (ak (.int 2))) au)) HX) aq))
def wW:G:=bJ 4 Gy
abbrev Dv:Stmt:=top 17
theorem Ti:FnScope ["words","letters","wanted","kinds","word"] ["words","letters","wanted"] (aL Dv):=cO
noncomputable def nu:S:=(ao (bC (kW true wz (aj 4)) (ao (nJ (nG wW (aA (aj 4) (aA (aj 3) au)))) (ao (gR (aj 3) (s2 bG (Al wz (aj 4)) (ak (.int 0)))) aq)) (ao (bC (cD (bV zc (aA (aj 4) (aA (aj 1) au)))) (ao (gR (aj 3) (ak (.str "number"))) aq) (ao (p7 "NoExpr" (fU (mK (aj 4) (fK " may not stand here" fL)))) aq)) aq)) aq)
noncomputable def Gm:S:=(ao (aN 3 (lN (aU au))) (ao (Ak 4 (aA (aj 0) au) nu) (ao (bC (s2 (aG .ne) (aj 3) (aU (aA (aj 2) au))) (ao (p7 "NoExpr" (ak (.str "too many words, or too few"))) aq) aq) aq)))
def rO:G:=bJ 5 Gm
abbrev Dw:Stmt:=top 18
theorem Tj:FnScope ["word","left","right"] ["word","left","right"] (aL Dw):=cO
noncomputable def Gn:S:=(ao (bC (s2 (aG .eq) (aj 0) (ak (.str "+"))) (ao (aJ (s2 aR (aj 1) (aj 2))) aq) aq) (ao (bC (s2 (aG .eq) (aj 0) (ak (.str "-"))) (ao (aJ (s2 cT (aj 1) (aj 2))) aq) aq) (ao (bC (s2 (aG .eq) (aj 0) (ak (.str "*"))) (ao (aJ (s2 bF (aj 1) (aj 2))) aq) aq) (ao (bC (s2 (aG .eq) (aj 0) (ak (.str "least"))) (ao (aJ (sN fG (aA (aj 1) (aA (aj 2) au)))) aq) aq) (ao (bC (s2 (aG .eq) (aj 0) (ak (.str "most"))) (ao (aJ (sN gq (aA (aj 1) (aA (aj 2) au)))) aq) aq) (ao (bC (s2 (aG .eq) (aj 0) (ak (.str "<"))) (ao (aJ (s2 (aG .lt) (aj 1) (aj 2))) aq) aq) (ao (bC (s2 (aG .eq) (aj 0) (ak (.str "="))) (ao (aJ (s2 (aG .eq) (aj 1) (aj 2))) aq) aq) (ao (bC (s2 (aG .eq) (aj 0) (ak (.str "and"))) (ao (aJ (bN (aj 1) (aj 2))) aq) aq) (ao (aJ (kZ (aj 1) (aj 2))) aq)))))))))
def yZ:G:=bJ 3 Gn
abbrev DP:Stmt:=top 19
theorem Tw:FnScope ["word","time","value","other"] ["word","time","value","other"] (aL DP):=cO
noncomputable def Gw:S:=(ao (bC (s2 (aG .eq) (aj 0) (ak (.str "t"))) (ao (aJ (aj 1)) aq) aq) (ao (bC (s2 (aG .eq) (aj 0) (ak (.str "v"))) (ao (aJ (aj 2)) aq) aq) (ao (bC (s2 (aG .eq) (aj 0) (ak (.str "w"))) (ao (aJ (aj 3)) aq) aq) (ao (aJ (sN lZ (aA (aj 0) au))) aq))))
def zm:G:=bJ 4 Gw
abbrev DW:Stmt:=top 20
theorem TV:FnScope ["words","time","value","other","results","word","left","right"] ["words","time","value","other"] (aL DW):=cO
noncomputable def zF:S:=(ao (bC (s2 (aG .eq) (aj 5) (ak (.str "not"))) (ao (gR (aj 4) (xR (dM (aj 4)))) aq) (ao (bC (kW true wz (aj 5)) (ao (aN 6 (dM (aj 4))) (ao (aN 7 (dM (aj 4))) (ao (gR (aj 4) (bV yZ (aA (aj 5) (aA (aj 6) (aA (aj 7) au))))) aq))) (ao (gR (aj 4) (bV zm (aA (aj 5) (aA (aj 1) (aA (aj 2) (aA (aj 3) au)))))) aq)) aq)) aq)
noncomputable def Gx:S:=(ao (aN 4 (lN (aU au))) (ao (dj 5 (pH (aA (aj 0) au)) zF) (ao (aJ (s2 bG (aj 4) (ak (.int 0)))) aq)))
def mF:G:=bJ 8 Gx
abbrev sI:Stmt:=Cw (top 21) 0
theorem Sx:FnScope ["self","words"] ["self","words"] (aL sI):=cO
noncomputable def Bu:S:=(ao (xT "Expr" "parts" (aj 0) (sN mq (aA (aj 1) au))) aq)
def yR:G:=bJ 2 Bu
abbrev DR:Stmt:=top 23
theorem TF:FnScope ["words","letters"] ["words","letters"] (aL DR):=cO
noncomputable def BP:S:=(ao (nJ (nG rO (aA (aj 0) (aA (aj 1) (aA (ak (.str "number")) au))))) (ao (aJ (xP "Expr" yR (aA (aj 0) au))) aq))
def tZ:G:=bJ 2 BP
abbrev sG:Stmt:=Cw (top 22) 0
theorem Sq:FnScope ["self","words"] ["self","words"] (aL sG):=cO
noncomputable def Bs:S:=(ao (xT "Cond" "parts" (aj 0) (sN mq (aA (aj 1) au))) aq)
def yQ:G:=bJ 2 Bs
abbrev DQ:Stmt:=top 24
theorem Tz:FnScope ["words"] ["words"] (aL DQ):=cO
noncomputable def BL:S:=(ao (nJ (nG rO (aA (aj 0) (aA (ak (.str "tv")) (aA (ak (.str "truth")) au))))) (ao (aJ (xP "Cond" yQ (aA (aj 0) au))) aq))
def tY:G:=bJ 1 BL
abbrev sH:Stmt:=Cw (top 22) 1
theorem Ss:FnScope ["self","time","value"] ["self","time","value"] (aL sH):=cO
noncomputable def Bt:S:=(ao (aJ (bV mF (aA (xO "Cond" "parts" (aj 0)) (aA (aj 1) (aA (aj 2) (aA (ak (.int 0)) au)))))) aq)
def wO:G:=bJ 3 Bt
abbrev K4:Stmt:=inDef (top 25) 1
noncomputable def lF:FnT:=⟨K4,"sieve","sieve_of.<locals>.sieve",Oh K4,["cond"],[]⟩
theorem TY:FnScopeC ["time","value","cond"] ["time","value"] lF.fr (aL lF.st):=T6
theorem zab:LF K4 "cond":=by kernel_rfl
noncomputable def BW:S:=(ao (aJ (sE "Cond" "holds" wO (aj 2) (aA (aj 0) (aA (aj 1) au)))) aq)
def zp:G:=jj 2 3 BW
abbrev Ax:Stmt:=top 25
theorem TX:FnScope ["words","cond","sieve"] ["words"] (aL Ax):=cO
theorem zai:LC Ax "cond":=by kernel_rfl
noncomputable def BR:S:=(ao (aN 1 (nG tY (aA (aj 0) au))) (kY 0 "sieve_of" lF [("cond",1)]))
def pG:G:=bJ 3 BR
abbrev vq:Stmt:=Cw (top 21) 1
theorem Sy:FnScope ["self","time","value","other"] ["self","time","value","other"] (aL vq):=cO
noncomputable def Bv:S:=(ao (aJ (bV mF (aA (xO "Expr" "parts" (aj 0)) (aA (aj 1) (aA (aj 2) (aA (aj 3) au)))))) aq)
def wQ:G:=bJ 4 Bv
abbrev KZ:Stmt:=inDef (top 26) 1
noncomputable def f9:FnT:=⟨KZ,"change","change_of.<locals>.change",Oh KZ,["expr"],[0]⟩
theorem K6:FnScopeC ["time","value","other","expr"] ["time","value","other"] f9.fr (aL f9.st):=T6
theorem zaa:LF KZ "expr":=by kernel_rfl
noncomputable def BJ:S:=(ao (aJ (bV rP (aA (sE "Expr" "value" wQ (aj 3) (aA (aj 0) (aA (aj 1) (aA (aj 2) au)))) au))) aq)
def wV:G:=jj 3 4 BJ
def Ck:G:=tR 2 [0] wV
abbrev Aw:Stmt:=top 26
theorem Tg:FnScope ["words","letters","expr","change"] ["words","letters"] (aL Aw):=cO
theorem zae:LC Aw "expr":=by kernel_rfl
noncomputable def Bx:S:=(ao (aN 2 (nG tZ (aA (aj 0) (aA (aj 1) au)))) (kY 1 "change_of" f9 [("expr",2)]))
def m_:G:=bJ 4 Bx
abbrev Dp:Stmt:=top 28
theorem S7:FnScope ["_law_number","_law_many","_law_found","_law_x","_law_k"] ["_law_number","_law_many"] (aL Dp):=cO
noncomputable def CJ:S:=(ao (aN 3 (s2 oMod (s2 aR (s2 aR (s2 aR (s2 bF (aj 3) (aj 3)) (s2 bF (ak (.int 40692)) (aj 3))) (s2 bF (ak (.int 2)) (aj 4))) (ak (.int 1))) (ak (.int 2147483629)))) (ao (dI 2 (s2 gM (aj 3) (ak (.int 3)))) aq))
noncomputable def Gf:S:=(ao (xQ 2 (aU au)) (ao (aN 3 (s2 oMod (aj 0) (ak (.int 2147483629)))) (ao (dj 4 (ni (aA (aj 1) au)) CJ) (ao (kJ 2) (ao (aJ (aj 2)) aq)))))
def wR:G:=bJ 5 Gf
abbrev Dr:Stmt:=top 29
theorem S_:FnScope ["_law_x","_law_letters","_law_number"] ["_law_x","_law_letters"] (aL Dr):=cO
def QZ:S:=(ao (aJ (sN mj (aA (aj 2) au))) aq)
noncomputable def CW:S:=(ao (bC (bN (s2 (aG .eq) (s2 oMod (s2 gM (aj 0) (ak (.int 2))) (ak (.int 2))) (ak (.int 1))) (s2 (aG .gt) (aj 2) (ak (.int 0)))) (ao (aJ (s2 aR (ak (.str "-")) (sN mj (aA (aj 2) au)))) aq) aq) QZ)
noncomputable def QX:S:=(ao (aN 2 (s2 oMod (s2 bF (s2 bF (s2 bF (aj 0) (ak (.int 1000003))) (ak (.int 104729))) (ak (.int 7919))) (s2 bG (aU (aA (ak (.int 10)) (aA (ak (.int 100)) (aA (s2 cg (ak (.int 10)) (ak (.int 6))) (aA (s2 cg (ak (.int 10)) (ak (.int 12))) (aA (s2 cg (ak (.int 10)) (ak (.int 20))) au)))))) (s2 oMod (s2 gM (aj 0) (ak (.int 9))) (ak (.int 5)))))) CW)
noncomputable def Bw:S:=(ao (bC (bN (s2 (aG .gt) (s2 oMod (aj 0) (ak (.int 3))) (ak (.int 0))) (s2 (aG .ne) (aj 1) (ak (.str "")))) (ao (aJ (s2 bG (aj 1) (s2 oMod (s2 gM (aj 0) (ak (.int 3))) (sN dF (aA (aj 1) au))))) aq) aq) QX)
def pC:G:=bJ 3 Bw
abbrev Aq:Stmt:=top 30
theorem S8:FnScope ["_law_number","_law_letters","_law_most","_law_words","_law_need","_law_x","_law_pick"] ["_law_number","_law_letters","_law_most"] (aL Aq):=cO
theorem U8:LV Aq "_law_words":=by kernel_rfl
def Mp:E:=(s2 (aG .gt) (aj 4) (ak (.int 0)))
noncomputable def wZ:S:=(ao (aN 5 (s2 oMod (s2 aR (s2 aR (s2 aR (s2 bF (aj 5) (aj 5)) (s2 bF (ak (.int 40692)) (aj 5))) (sN dF (aA (vp 3) au))) (ak (.int 1))) (ak (.int 2147483629)))) (ao (aN 6 (s2 gM (aj 5) (ak (.int 7)))) (ao (bC (bN (s2 (aG .eq) (s2 oMod (aj 6) (ak (.int 2))) (ak (.int 1))) (s2 (aG .le) (s2 aR (s2 aR (sN dF (aA (vp 3) au)) (aj 4)) (ak (.int 2))) (aj 2))) (ao (dI 3 (s2 bG (aU (aA (ak (.str "+")) (aA (ak (.str "-")) (aA (ak (.str "*")) (aA (ak (.str "least")) (aA (ak (.str "most")) au)))))) (s2 oMod (s2 gM (aj 6) (ak (.int 2))) (ak (.int 5))))) (ao (aN 4 (s2 aR (aj 4) (ak (.int 1)))) aq)) (ao (dI 3 (bV pC (aA (s2 gM (aj 6) (ak (.int 2))) (aA (aj 1) au)))) (ao (aN 4 (s2 cT (aj 4) (ak (.int 1)))) aq))) aq)))
noncomputable def Gg:S:=(ao (xQ 3 (aU au)) (ao (aN 4 (ak (.int 1))) (ao (aN 5 (s2 oMod (aj 0) (ak (.int 2147483629)))) (ao (xV 1000 Mp wZ) (ao (kJ 3) (ao (aJ (aj 3)) aq))))))
def wU:G:=bJ 7 Gg
abbrev Ao:Stmt:=top 31
theorem S6:FnScope ["_law_number","_law_most","_law_words","_law_pending","_law_room","_law_x","_law_pick","_law_kind"] ["_law_number","_law_most"] (aL Ao):=cO
theorem zaj:LV Ao "_law_words":=by kernel_rfl
def QW:S:=(ao (kJ 2) (ao (aJ (aj 2)) aq))
noncomputable def rY:S:=(ao (bC (bN (s2 (aG .eq) (aj 7) (ak (.str "cond"))) (bN (s2 (aG .ge) (aj 4) (ak (.int 4))) (s2 (aG .eq) (s2 oMod (aj 6) (ak (.int 4))) (ak (.int 1))))) (ao (dI 2 (s2 bG (aU (aA (ak (.str "and")) (aA (ak (.str "or")) au))) (s2 oMod (s2 gM (aj 6) (ak (.int 4))) (ak (.int 2))))) (ao (aN 3 (lN (s2 gF (aj 3) (aU (aA (ak (.str "cond")) (aA (ak (.str "cond")) au)))))) (ao (aN 4 (s2 cT (aj 4) (ak (.int 4)))) aq))) (ao (bC (bN (s2 (aG .eq) (aj 7) (ak (.str "cond"))) (bN (s2 (aG .ge) (aj 4) (ak (.int 1))) (s2 (aG .eq) (s2 oMod (aj 6) (ak (.int 4))) (ak (.int 2))))) (ao (dI 2 (ak (.str "not"))) (ao (gR (aj 3) (ak (.str "cond"))) (ao (aN 4 (s2 cT (aj 4) (ak (.int 1)))) aq))) (ao (bC (s2 (aG .eq) (aj 7) (ak (.str "cond"))) (ao (dI 2 (s2 bG (aU (aA (ak (.str "<")) (aA (ak (.str "=")) au))) (s2 oMod (s2 gM (aj 6) (ak (.int 4))) (ak (.int 2))))) (ao (aN 3 (lN (s2 gF (aj 3) (aU (aA (ak (.str "expr")) (aA (ak (.str "expr")) au)))))) aq)) (ao (bC (bN (s2 (aG .ge) (aj 4) (ak (.int 2))) (s2 (aG .eq) (s2 oMod (aj 6) (ak (.int 3))) (ak (.int 1)))) (ao (dI 2 (s2 bG (aU (aA (ak (.str "+")) (aA (ak (.str "-")) (aA (ak (.str "*")) (aA (ak (.str "least")) (aA (ak (.str "most")) au)))))) (s2 oMod (s2 gM (aj 6) (ak (.int 3))) (ak (.int 5))))) (ao (aN 3 (lN (s2 gF (aj 3) (aU (aA (ak (.str "expr")) (aA (ak (.str "expr")) au)))))) (ao (aN 4 (s2 cT (aj 4) (ak (.int 2)))) aq))) (ao (dI 2 (bV pC (aA (s2 gM (aj 6) (ak (.int 3))) (aA (ak (.str "tv")) au)))) aq)) aq)) aq)) aq)) aq)
def xq:S:=(ao (aN 7 (dM (aj 3))) rY)
noncomputable def Qs:S:=(ao (aN 6 (s2 gM (aj 5) (ak (.int 7)))) xq)
def Ml:E:=(s2 (aG .ne) (aj 3) (aU au))
noncomputable def zB:S:=(ao (aN 5 (s2 oMod (s2 aR (s2 aR (s2 aR (s2 bF (aj 5) (aj 5)) (s2 bF (ak (.int 40692)) (aj 5))) (sN dF (aA (vp 2) au))) (ak (.int 1))) (ak (.int 2147483629)))) Qs)
def QV:S:=(ao (xV 1000 Ml zB) QW)
noncomputable def QT:S:=(ao (aN 5 (s2 oMod (aj 0) (ak (.int 2147483629)))) QV)
noncomputable def QS:S:=(ao (aN 4 (s2 cT (aj 1) (ak (.int 3)))) QT)
noncomputable def QM:S:=(ao (aN 3 (lN (aU (aA (ak (.str "cond")) au)))) QS)
def Ge:S:=(ao (xQ 2 (aU au)) QM)
def yV:G:=bJ 8 Ge
abbrev Dt:Stmt:=top 32
theorem Te:FnScope ["_law_word","_law_one","_law_two_here"] ["_law_word","_law_one","_law_two_here"] (aL Dt):=cO
noncomputable def Gj:S:=(ao (bC (s2 (aG .eq) (aj 0) (ak (.str "+"))) (ao (aJ (s2 aR (aj 1) (aj 2))) aq) aq) (ao (bC (s2 (aG .eq) (aj 0) (ak (.str "-"))) (ao (aJ (s2 cT (aj 1) (aj 2))) aq) aq) (ao (bC (s2 (aG .eq) (aj 0) (ak (.str "*"))) (ao (aJ (s2 bF (aj 1) (aj 2))) aq) aq) (ao (bC (s2 (aG .eq) (aj 0) (ak (.str "least"))) (ao (aJ (sN fG (aA (aj 1) (aA (aj 2) au)))) aq) aq) (ao (bC (s2 (aG .eq) (aj 0) (ak (.str "most"))) (ao (aJ (sN gq (aA (aj 1) (aA (aj 2) au)))) aq) aq) (ao (bC (s2 (aG .eq) (aj 0) (ak (.str "and"))) (ao (aJ (bN (aj 1) (aj 2))) aq) aq) (ao (bC (s2 (aG .eq) (aj 0) (ak (.str "or"))) (ao (aJ (kZ (aj 1) (aj 2))) aq) aq) (ao (bC (s2 (aG .eq) (aj 0) (ak (.str "<"))) (ao (aJ (s2 (aG .lt) (aj 1) (aj 2))) aq) aq) (ao (aJ (s2 (aG .eq) (aj 1) (aj 2))) aq)))))))))
def yX:G:=bJ 3 Gj
abbrev Du:Stmt:=top 33
theorem Tf:FnScope ["_law_words","_law_time","_law_value","_law_other","_law_kept","_law_word","_law_one"] ["_law_words","_law_time","_law_value","_law_other"] (aL Du):=cO
noncomputable def zE:S:=(ao (bC (s2 (aG .isin) (aj 5) (aU (aA (ak (.str "+")) (aA (ak (.str "-")) (aA (ak (.str "*")) (aA (ak (.str "least")) (aA (ak (.str "most")) (aA (ak (.str "and")) (aA (ak (.str "or")) (aA (ak (.str "<")) (aA (ak (.str "=")) au))))))))))) (ao (aN 6 (dM (aj 4))) (ao (gR (aj 4) (bV yX (aA (aj 5) (aA (aj 6) (aA (dM (aj 4)) au))))) aq)) (ao (bC (s2 (aG .eq) (aj 5) (ak (.str "not"))) (ao (gR (aj 4) (xR (dM (aj 4)))) aq) (ao (bC (s2 (aG .isin) (aj 5) (aU (aA (ak (.str "t")) (aA (ak (.str "v")) (aA (ak (.str "w")) au))))) (ao (gR (aj 4) (s2 bG (aU (aA (aj 1) (aA (aj 2) (aA (aj 3) au)))) (pZ (aU (aA (ak (.str "t")) (aA (ak (.str "v")) (aA (ak (.str "w")) au)))) (aA (aj 5) au)))) aq) (ao (gR (aj 4) (sN lZ (aA (aj 5) au))) aq)) aq)) aq)) aq)
noncomputable def Gk:S:=(ao (aN 4 (lN (aU au))) (ao (dj 5 (Cr (aA (aj 0) au)) zE) (ao (aJ (s2 bG (aj 4) (ak (.int 0)))) aq)))
def tX:G:=bJ 7 Gk
abbrev Dq:Stmt:=top 34
theorem S9:FnScope ["_law_number"] ["_law_number"] (aL Dq):=cO
noncomputable def Gh:S:=(ao (aJ (sN gq (aA (s1 fO (s2 cg (ak (.int 10)) (ak (.int 60)))) (aA (sN fG (aA (s2 cg (ak (.int 10)) (ak (.int 60))) (aA (aj 0) au))) au)))) aq)
def yW:G:=bJ 1 Gh
abbrev Ds:Stmt:=top 35
theorem Td:FnScope ["_law_found","_law_due"] ["_law_found","_law_due"] (aL Ds):=cO
noncomputable def Gi:S:=(ao (aJ (bN (kO bT "int" (aj 0)) (bN (xR (kO bT "bool" (aj 0))) (s2 (aG .eq) (aj 0) (bV yW (aA (aj 1) au)))))) aq)
def pF:G:=bJ 2 Gi
abbrev Dm:Stmt:=top 36
theorem S5:FnScope ["_law_cell","_law_one"] ["_law_cell"] (aL Dm):=cO
noncomputable def HS:S:=(ao (bC (kZ (dw (cD (bV pF (aA (bV rP (aA (aj 1) au)) (aA (aj 1) au))))) (dw (cD (bV pF (aA (bV rP (aA (s1 fO (aj 1)) au)) (aA (s1 fO (aj 1)) au)))))) (ao (aJ (ak (.bl false))) aq) aq) aq)
noncomputable def Gd:S:=(ao (dj 1 (j_ (aU (aA (s2 cT (s2 aR (s2 cg (ak (.int 10)) (ak (.int 60))) (s2 oMod (aj 0) (ak (.int 7)))) (ak (.int 3))) (aA (s2 oMod (aj 0) (ak (.int 10))) (aA (s2 oMod (aj 0) (s2 bF (ak (.int 2)) (s2 cg (ak (.int 10)) (ak (.int 60))))) (aA (s2 bF (s2 aR (ak (.int 1)) (s2 oMod (aj 0) (s2 cg (ak (.int 10)) (ak (.int 60))))) (s2 cg (ak (.int 10)) (ak (.int 60)))) au)))))) HS) (ao (aJ (ak (.bl true))) aq))
def yU:G:=bJ 2 Gd
abbrev Av:Stmt:=top 37
theorem Tc:FnScope ["_law_words","_law_kind","_law_refused_here","e"] ["_law_words","_law_kind"] (aL Av):=cO
theorem U9:LV Av "e":=by kernel_rfl
noncomputable def Ew:S:=(gG (s2 (aG .eq) (aj 1) (ak (.int 0))) (nJ (nG pG (aA (aj 0) au))) (nJ (nG m_ (aA (aj 0) (aA (s2 bG (aU (aA (ak (.str "tv")) (aA (ak (.str "tvw")) au))) (s2 cT (aj 1) (ak (.int 1)))) au)))))
def Cq:S:=(ao (aN 2 (mR 3 yg)) aq)
noncomputable def yF:S:=(ao (aN 2 (ak (.bl false))) (ao (p8 3 wJ Ew Cq) (ao (aJ (aj 2)) aq)))
def pD:G:=bJ 4 yF
abbrev Dl:Stmt:=top 38
theorem SM:FnScope ["_law_made","_law_told","_law_cell","_law_xs","_law_turn","_law_time","_law_value","_law_other","_law_lets"] ["_law_made","_law_told","_law_cell","_law_xs"] (aL Dl):=cO
def CV:S:=(ao (aJ (ak (.bl true))) aq)
noncomputable def Ig:S:=(ao (bC (dw (cD (bV pF (aA (nF f9 wV (s2 bG (aj 0) (ak (.int 2))) (aA (aj 5) (aA (aj 6) (aA (aj 7) au)))) (aA (bV tX (aA (s2 bG (aj 1) (ak (.int 2))) (aA (aj 5) (aA (aj 6) (aA (aj 7) au))))) au))))) (ao (aJ (ak (.bl false))) aq) aq) aq)
noncomputable def Ie:S:=(ao (bC (dw (cD (bV pF (aA (nF f9 Ck (s2 bG (aj 0) (ak (.int 1))) (aA (aj 5) (aA (aj 6) au))) (aA (bV tX (aA (s2 bG (aj 1) (ak (.int 1))) (aA (aj 5) (aA (aj 6) (aA (ak (.int 0)) au))))) au))))) (ao (aJ (ak (.bl false))) aq) aq) Ig)
noncomputable def Qv:S:=(ao (bC (kZ (dw (cD (kO bT "bool" (aj 8)))) (s2 (aG .ne) (aj 8) (bV tX (aA (s2 bG (aj 1) (ak (.int 0))) (aA (aj 5) (aA (aj 6) (aA (ak (.int 0)) au))))))) (ao (aJ (ak (.bl false))) aq) aq) Ie)
noncomputable def Ib:S:=(ao (aN 8 (nF lF zp (s2 bG (aj 0) (ak (.int 0))) (aA (aj 5) (aA (aj 6) au)))) Qv)
noncomputable def CQ:S:=(ao (bC (s2 (aG .eq) (aj 4) (ak (.int 1))) (ao (aN 6 (s2 cT (s2 oMod (s2 bG (aj 3) (aj 4)) (ak (.int 11))) (ak (.int 5)))) aq) aq) Ib)
noncomputable def zK:S:=(ao (bC (s2 (aG .eq) (aj 4) (ak (.int 2))) (ao (aN 6 (s2 bF (aj 6) (ak (.int 997)))) aq) aq) CQ)
noncomputable def Qu:S:=(ao (aN 7 (s2 bF (s2 cT (s2 oMod (s2 aR (s2 bF (aj 2) (ak (.int 69621))) (s2 bG (aj 3) (s2 aR (aj 4) (ak (.int 2))))) (s2 aR (s2 bF (ak (.int 2)) (s2 cg (ak (.int 10)) (ak (.int 60)))) (ak (.int 1)))) (s2 cg (ak (.int 10)) (ak (.int 60)))) (ak (.int 1009)))) zK)
noncomputable def Qt:S:=(ao (aN 6 (s2 cT (s2 oMod (s2 aR (s2 bF (aj 2) (ak (.int 48271))) (s2 bG (aj 3) (s2 aR (aj 4) (ak (.int 1))))) (s2 aR (s2 bF (ak (.int 2)) (s2 cg (ak (.int 10)) (ak (.int 60)))) (ak (.int 1)))) (s2 cg (ak (.int 10)) (ak (.int 60))))) Qu)
noncomputable def wY:S:=(ao (aN 5 (s2 oMod (s2 aR (aj 2) (s2 bG (aj 3) (aj 4))) (s2 aR (s2 cg (ak (.int 10)) (ak (.int 15))) (ak (.int 1))))) Qt)
noncomputable def Gb:S:=(ao (dj 4 (ni (aA (ak (.int 3)) au)) wY) CV)
def yS:G:=bJ 9 Gb
abbrev lO:Stmt:=top 39
theorem Tv:FnScope ["_law_script","_law_cell","_law_xs","_law_told","_law_handed","_law_made","_law_words","_law_kind"] ["_law_script"] (aL lO):=cO
def Im:S:=(ao (aJ (ak (.bl true))) aq)
noncomputable def rQ:S:=(ao (bC (dw (cD (bV pD (aA (xU (s2 bG (aj 3) (aj 7)) zR (xu (s1 fO (ak (.int 1))))) (aA (aj 7) au))))) (ao (aJ (ak (.bl false))) aq) aq) aq)
noncomputable def Ij:S:=(ao (dj 7 (ni (aA (ak (.int 3)) au)) rQ) aq)
noncomputable def Ii:S:=(ao (bC (dw (cD (bV yS (aA (aj 5) (aA (aj 3) (aA (aj 1) (aA (xU (aj 2) (xu (ak (.int 6))) zR) au))))))) (ao (aJ (ak (.bl false))) aq) aq) Ij)
def HW:S:=(ao (Aj (aj 6)) aq)
def QC:S:=(ao (dj 6 (j_ (aj 4)) HW) Ii)
noncomputable def QB:S:=(ao (bC (kI true (aj 4) (aj 3)) (ao (aJ (ak (.bl false))) aq) aq) QC)
noncomputable def Ih:S:=(ao (aN 5 (aU (aA (bV pG (aA (s2 bG (aj 4) (ak (.int 0))) au)) (aA (bV m_ (aA (s2 bG (aj 4) (ak (.int 1))) (aA (ak (.str "tv")) au))) (aA (bV m_ (aA (s2 bG (aj 4) (ak (.int 2))) (aA (ak (.str "tvw")) au))) au))))) QB)
noncomputable def Qz:S:=(ao (bC (dw (cD (bV yU (aA (aj 1) au)))) (ao (aJ (ak (.bl false))) aq) aq) Ih)
def Ci:E:=(lN (Dk (aj 0)))
noncomputable def Qy:S:=(ao (aN 4 (sy 1000 [] (aj 3) Ci)) Qz)
noncomputable def Qx:S:=(ao (gR (aj 3) (bV wU (aA (s2 bG (aj 2) (ak (.int 4))) (aA (ak (.str "tvw")) (aA (s2 aR (ak (.int 1)) (s2 oMod (s2 bG (aj 2) (ak (.int 5))) (ak (.int 30)))) au))))) Qy)
noncomputable def Qw:S:=(ao (aN 3 (lN (aU (aA (bV yV (aA (s2 bG (aj 2) (ak (.int 0))) (aA (s2 aR (ak (.int 3)) (s2 oMod (s2 bG (aj 2) (ak (.int 1))) (ak (.int 28)))) au))) (aA (bV wU (aA (s2 bG (aj 2) (ak (.int 2))) (aA (ak (.str "tv")) (aA (s2 aR (ak (.int 1)) (s2 oMod (s2 bG (aj 2) (ak (.int 3))) (ak (.int 30)))) au)))) au))))) Qx)
noncomputable def CK:S:=(ao (aN 2 (bV wR (aA (aj 1) (aA (ak (.int 12)) au)))) Qw)
noncomputable def Ot:E:=(s2 aR (s2 bG (aj 1) (aj 0)) (s2 bF (ak (.int 1009)) (aj 0)))
noncomputable def BK:S:=(ao (dj 1 (j_ (s2 aR (aU (aA (ak (.int 7)) au)) (su [("_law_script",0)] (ni (aA (sN fG (aA (ak (.int 4)) (aA (sN dF (aA (aj 0) au)) au))) au)) (ak (.bl true)) Ot))) CK) Im)
def O_:G:=bJ 8 BK
section
variable {P:Program}{w:World}{K:Fgx}{mg:Mgx}{C:Ad}{base:Heap}{k k0:Nat}{f:Addr}
theorem zaq (T:Txt K mg C w):RT P w K mg base k f ["text"] "is_figures" Dz Gq:=fun cdv A outer s H E hr=>by
 refine cN hr fun hu=>?_;have nd:=(Tp).nd;have B_any:=T.blt "any" (by x_go);obtain⟨t_FIGURES,m_FIGURES⟩:=T.k_FIGURES;refine aF (bH (SW.st (Ej (Ct hu Sv Es) (El (lQ (gj (Vs rfl) rfl B_any boot_any zcQ (aC (SN.sem (Uk "sign" [] rfl (by x_go) (zdy Sv) (fun _ _ _ _ _ _=>Ul) (fun _ _ _ _ _ _=>(T8 (eX (X:=d7 _ _ _ _ _ _ _ _ _) hu .notin) fQ (sO rfl (.inl (by kernel_rfl))) (vW (xG (v:=(.str "0123456789")) rfl m_FIGURES ⟨t_FIGURES,rfl⟩))))) Oc) aM zau)))))) (aF (aZ Eb) aH) aH) ?_;exact aF (aZ (D_ (Cm hu Sv Es) (nM (Cm hu (Ek Sv Ei) Es)))) aH
theorem zac (T:Txt K mg C w)(a_is_figures:bf P w K mg base k "is_figures" 1 za):RT P w K mg base k f ["text","figures"] "is_signed_figures" DN Gv:=fun cdv A outer s H E hr=>by
 refine cN hr fun hu=>?_;have nd:=(Tt).nd;refine aF (bK (i:=1) nd rfl Lv (zde (lQ (Ud PySem.F.slot_str_startswith PySem.F.type_str_startswith X4 zaR Sv (aC Es aM aY))) (La Sv (Lg (Wx:=W0) Ei) Lh) Sv)) ?_;exact aF (aZ (vV (Cm hu Sv Es) (nM (cu a_is_figures hr rfl (aC Sv aM aO) (cnt_cons cnt_nil))))) aH
theorem zaw (T:Txt K mg C w)(a_is_signed_figures:bf P w K mg base k "is_signed_figures" 1 zj):RT P w K mg base k f ["text"] "is_number" DK Gu:=fun cdv A outer s H E hr=>by
 refine cN hr fun hu=>?_;have nd:=(Tr).nd;have B_len:=T.blt "len" (by x_go);obtain⟨t_MOST_FIGURES,m_MOST_FIGURES⟩:=T.k_MOST_FIGURES;exact aF (aZ (vV (cu a_is_signed_figures hr rfl (aC Sv aM aO) (cnt_cons cnt_nil)) (nM (Cm hu (gj wI rfl B_len xbT xH (aC (Ud PySem.F.slot_str_lstrip PySem.F.type_str_lstrip XS zaT Sv (aC Es aM aY)) aM eY)) (rz (xG (v:=(.int 20)) rfl m_MOST_FIGURES ⟨t_MOST_FIGURES,rfl⟩)))))) aH
theorem zcR (T:Txt K mg C w):RT P w K mg base k f ["number"] "held" Dy Gp:=fun cdv A outer s H E hr=>by
 refine cN hr fun hu=>?_;have nd:=(Tn).nd;have B_max:=T.blt "max" (by x_go);have B_min:=T.blt "min" (by x_go);obtain⟨t_MOST_VALUE,m_MOST_VALUE⟩:=T.k_MOST_VALUE;exact aF (aZ (gj (B_ rfl) rfl B_max boot_max Df (aC (Ay Bf z9 (rz (xG (v:=(.int 1000000000000000000000000000000000000000000000000000000000000)) rfl m_MOST_VALUE ⟨t_MOST_VALUE,rfl⟩))) (aC (gj (yJ rfl) rfl B_min boot_min z8 (aC (rz (xG (v:=(.int 1000000000000000000000000000000000000000000000000000000000000)) rfl m_MOST_VALUE ⟨t_MOST_VALUE,rfl⟩)) (aC Sv aM aO) aO)) aM eY) Ed))) aH
theorem zaN (T:Txt K mg C w)(a_is_number:bf P w K mg base k "is_number" 1 zf):RT P w K mg base k f ["word","letters"] "is_leaf" DG Gs:=fun cdv A outer s H E hr=>by
 refine cN hr fun hu=>?_;have nd:=(Tq).nd;obtain⟨t_ALL_LETTERS,m_ALL_LETTERS⟩:=T.k_ALL_LETTERS;exact aF (aZ (D_ (cu a_is_number hr rfl (aC Sv aM aO) (cnt_cons cnt_nil)) (nM (vV (Cm hu Sv (zeV rfl m_ALL_LETTERS.1 m_ALL_LETTERS.2)) (nM (Cm hu Sv Sv)))))) aH
theorem zal (T:Txt K mg C w):yu P w K mg base k f ["word","kinds","needed","place"] "take_needed" DX Gy:=fun cdv A outer s H E Wx hr XF XP=>by
 refine cN hr fun hu=>?_;have nd:=(T4).nd;have B_range:=T.blt "range" (by x_go);obtain⟨t_NEEDS,m_NEEDS⟩:=T.k_NEEDS;refine aF (bK (i:=2) nd rfl Lw (Ua Sw rfl m_NEEDS.1 m_NEEDS.2)) ?_;exact aF (rB PassesOwn.leaving rfl nd rfl Lw (Az rfl B_range (aC (Ek Sw Ei) aM lq)) (aF (bH (SW.st (Ej (rC (lQ Sw)) (El (Ct hu (sJ Sw) (Ek Sw Ei))))) (aF (Lk XF rfl T.xm_NoExpr T.xc_NoExpr T.xn_NoExpr T.xk_NoExpr rfl (T_ (zcL Sw (Ug Uh)))) aH) aH) aH)) aH
theorem zak (T:Txt K mg C w)(a_is_leaf:bf P w K mg base k "is_leaf" 2 zc)(x_take_needed:dz P w K mg base k "take_needed" 2 wW):yu P w K mg base k f ["words","letters","wanted","kinds","word"] "check_words" Dv Gm:=fun cdv A outer s H E Wx hr XF XP=>by
 refine cN hr fun hu=>?_;have nd:=(Ti).nd;have B_reversed:=T.blt "reversed" (by x_go);obtain⟨t_NEEDS,m_NEEDS⟩:=T.k_NEEDS;refine aF (bK (i:=3) nd rfl Lw (rm (cW aM))) ?_;refine aF (zbV PassesOwn.leaving rfl nd rfl Lw rfl B_reversed (aC Sw aM aO) (aF (bH (Us Sw rfl m_NEEDS.1 m_NEEDS.2) (aF (Li (SX.se XP (wj x_take_needed hr rfl (aC Sw (aC Sw aM aO) aO) (cnt_cons (cnt_cons cnt_nil))))) (aF (mU Sw (Ek (Ua Sw rfl m_NEEDS.1 m_NEEDS.2) Ei)) aH)) (aF (bH (lQ (cu a_is_leaf hr rfl (aC Sw (aC Sw aM aO) aO) (cnt_cons (cnt_cons cnt_nil)))) (aF (mU Sw Es) aH) (aF (Lk XF rfl T.xm_NoExpr T.xc_NoExpr T.xn_NoExpr T.xk_NoExpr rfl (T_ (zcM Sw (Ug Uh)))) aH)) aH)) aH)) ?_;exact aF (bH (Ct hu Sw (SN.sem (cW (aC Sw aM aO)) lst_is)) (aF (Lk XF rfl T.xm_NoExpr T.xc_NoExpr T.xn_NoExpr T.xk_NoExpr rfl Es) aH) aH) aH
theorem zaD (T:Txt K mg C w):RT P w K mg base k f ["word","left","right"] "combined" Dw Gn:=fun cdv A outer s H E hr=>by
 refine cN hr fun hu=>?_;have nd:=(Tj).nd;have B_max:=T.blt "max" (by x_go);have B_min:=T.blt "min" (by x_go);refine aF (bH (Ct hu Sv Es) (aF (aZ (aK cI cL Sv Sv)) aH) aH) ?_;refine aF (bH (Ct hu Sv Es) (aF (aZ (aK lJ lM Sv Sv)) aH) aH) ?_;refine aF (bH (Ct hu Sv Es) (aF (aZ (aK dX dY Sv Sv)) aH) aH) ?_;refine aF (bH (Ct hu Sv Es) (aF (aZ (gj (yJ rfl) rfl B_min boot_min z8 (aC Sv (aC Sv aM aO) aO))) aH) aH) ?_;refine aF (bH (Ct hu Sv Es) (aF (aZ (gj (B_ rfl) rfl B_max boot_max Df (aC Sv (aC Sv aM aO) aO))) aH) aH) ?_;refine aF (bH (Ct hu Sv Es) (aF (aZ (Cm hu Sv Sv)) aH) aH) ?_;refine aF (bH (Ct hu Sv Es) (aF (aZ (Cm hu Sv Sv)) aH) aH) ?_;refine aF (bH (Ct hu Sv Es) (aF (aZ (vV Sv (nM Sv))) aH) aH) ?_;exact aF (aZ (D_ Sv (nM Sv))) aH
theorem zap (T:Txt K mg C w):RT P w K mg base k f ["word","time","value","other"] "leaf_value" DP Gw:=fun cdv A outer s H E hr=>by
 refine cN hr fun hu=>?_;have nd:=(Tw).nd;have B_int:=T.blt "int" (by x_go);refine aF (bH (Ct hu Sv Es) (aF (aZ Sv) aH) aH) ?_;refine aF (bH (Ct hu Sv Es) (aF (aZ Sv) aH) aH) ?_;refine aF (bH (Ct hu Sv Es) (aF (aZ Sv) aH) aH) ?_;exact aF (aZ (xW Nq rfl B_int boot_int Ru (aC Sv aM aO))) aH
theorem zaA (T:Txt K mg C w)(a_combined:bf P w K mg base k "combined" 3 yZ)(a_leaf_value:bf P w K mg base k "leaf_value" 4 zm):RT P w K mg base k f ["words","time","value","other","results","word","left","right"] "reckoned" DW Gx:=fun cdv A outer s H E hr=>by
 refine cN hr fun hu=>?_;have nd:=(TV).nd;have B_reversed:=T.blt "reversed" (by x_go);obtain⟨t_NEEDS,m_NEEDS⟩:=T.k_NEEDS;refine aF (bK (i:=4) nd rfl Lv (rm (cW aM))) ?_;refine aF (rB xba rfl nd rfl Lv (zcu rfl B_reversed (aC Sv aM aO)) (aF (bH (Ct hu Sv Es) (aF (mU Sv (K_ (sJ Sv))) aH) (aF (bH (Us Sv rfl m_NEEDS.1 m_NEEDS.2) (aF (bK (i:=6) nd rfl Lv (sJ Sv)) (aF (bK (i:=7) nd rfl Lv (sJ Sv)) (aF (mU Sv (cu a_combined hr rfl (aC Sv (aC Sv (aC Sv aM aO) aO) aO) (cnt_cons (cnt_cons (cnt_cons cnt_nil))))) aH))) (aF (mU Sv (cu a_leaf_value hr rfl (aC Sv (aC Sv (aC Sv (aC Sv aM aO) aO) aO) aO) (cnt_cons (cnt_cons (cnt_cons (cnt_cons cnt_nil)))))) aH)) aH)) aH)) ?_;exact aF (aZ (Ek Sv Ei)) aH
theorem zah (T:Txt K mg C w):RT P w K mg base k f ["self","words"] "Expr.__init__" sI Bu:=fun cdv A outer s H E hr=>by
 refine cN hr fun hu=>?_;have nd:=(Sx).nd;have B_tuple:=T.blt "tuple" (by x_go);exact aF (Um T.cl_Expr T.na_Expr_parts Sv (xW Nt rfl B_tuple boot_tuple Rw (aC Sv aM aO))) aH
theorem zay (T:Txt K mg C w)(hk0:k0 + 1=k)(a_Expr___init__:lu P w K mg base k0 C.Expr 2 yR)(x_check_words:dz P w K mg base k "check_words" 3 rO):yu P w K mg base k f ["words","letters"] "read_expr" DR BP:=fun cdv A outer s H E Wx hr XF XP=>by
 refine cN hr fun hu=>?_;have hr1:=hr;rw[<-hk0]at hr1;have nd:=(TF).nd;refine aF (Li (SX.se XP (wj x_check_words hr rfl (aC Sw (aC Sw (aC Es aM aY) aO) aO) (cnt_cons (cnt_cons (cnt_cons cnt_nil)))))) ?_;exact aF (aZ (Ub T.cl_Expr a_Expr___init__ hr1 rfl (aC Sw aM aO) (cnt_cons cnt_nil))) aH
theorem zag (T:Txt K mg C w):RT P w K mg base k f ["self","words"] "Cond.__init__" sG Bs:=fun cdv A outer s H E hr=>by
 refine cN hr fun hu=>?_;have nd:=(Sq).nd;have B_tuple:=T.blt "tuple" (by x_go);exact aF (Um T.cl_Cond T.na_Cond_parts Sv (xW Nt rfl B_tuple boot_tuple Rw (aC Sv aM aO))) aH
theorem zav (T:Txt K mg C w)(hk0:k0 + 1=k)(a_Cond___init__:lu P w K mg base k0 C.Cond 2 yQ)(x_check_words:dz P w K mg base k "check_words" 3 rO):yu P w K mg base k f ["words"] "read_cond" DQ BL:=fun cdv A outer s H E Wx hr XF XP=>by
 refine cN hr fun hu=>?_;have hr1:=hr;rw[<-hk0]at hr1;have nd:=(Tz).nd;obtain⟨t_COND_LETTERS,m_COND_LETTERS⟩:=T.k_COND_LETTERS;refine aF (Li (SX.se XP (wj x_check_words hr rfl (aC Sw (aC (vW (xG (v:=(.str "tv")) rfl m_COND_LETTERS ⟨t_COND_LETTERS,rfl⟩)) (aC Es aM aY) aO) aO) (cnt_cons (cnt_cons (cnt_cons cnt_nil)))))) ?_;exact aF (aZ (Ub T.cl_Cond a_Cond___init__ hr1 rfl (aC Sw aM aO) (cnt_cons cnt_nil))) aH
theorem zar (T:Txt K mg C w)(a_reckoned:bf P w K mg base k "reckoned" 4 mF):RT P w K mg base k f ["self","time","value"] "Cond.holds" sH Bt:=fun cdv A outer s H E hr=>by
 refine cN hr fun hu=>?_;have nd:=(Ss).nd;exact aF (aZ (cu a_reckoned hr rfl (aC (T9 T.cl_Cond T.na_Cond_parts Sv) (aC Sv (aC Sv (aC Ei aM aY) aO) aO) Uq) (cnt_cons (cnt_cons (cnt_cons (cnt_cons cnt_nil)))))) aH
theorem zad (T:Txt K mg C w)(a_Cond_holds:lA P w K mg base k C.Cond "holds" 3 wO):nU P w K mg base k ["time","value","cond"] BW lF:=fun f cd cl A outer s H hr=>by
 refine cN hr fun hu=>?_;have nd:=(TY).nd;exact aF (aZ (Uc T.cl_Cond a_Cond_holds hr (sO rfl (.inr (.inr zab))) (aC Su (aC Su aM aO) aO) (cnt_cons (cnt_cons cnt_nil)))) aH
theorem zaE (T:Txt K mg C w){c Pt:Addr}(ht:PySem.W.tabIn K "sieve_of"=some (c,Pt))(hc:PySem.W.codeHdIn K c Pt=true)(hB:lB mg base)(x_read_cond:dz P w K mg base k "read_cond" 1 tY):tu P w K mg base k f ["words","cond","sieve"] "sieve_of" Ax BR c:=fun A outer s H E Wx hr XF XP=>by
 refine Sg hr fun hu=>?_;have nd:=(TX).nd;refine Sd rfl ?_ ?_
 ·exact(bK (i:=1) nd rfl (.inr zai) (SX.se XP (wj x_read_cond hr rfl (aC Sw aM aO) (cnt_cons cnt_nil))))
 exact Sh (QJ (j:=2) ht hc hB nd)
theorem zat (T:Txt K mg C w)(a_reckoned:bf P w K mg base k "reckoned" 4 mF):RT P w K mg base k f ["self","time","value","other"] "Expr.value" vq Bv:=fun cdv A outer s H E hr=>by
 refine cN hr fun hu=>?_;have nd:=(Sy).nd;exact aF (aZ (cu a_reckoned hr rfl (aC (T9 T.cl_Expr T.na_Expr_parts Sv) (aC Sv (aC Sv (aC Sv aM aO) aO) aO) Uq) (cnt_cons (cnt_cons (cnt_cons (cnt_cons cnt_nil)))))) aH
theorem RL (T:Txt K mg C w)(a_held:bf P w K mg base k "held" 1 rP)(a_Expr_value:lA P w K mg base k C.Expr "value" 4 wQ):nU P w K mg base k ["time","value","other","expr"] BJ f9:=fun f cd cl A outer s H hr=>by
 refine cN hr fun hu=>?_;have nd:=(K6).nd;exact aF (aZ (cu a_held hr rfl (aC (Uc T.cl_Expr a_Expr_value hr (sO rfl (.inr (.inr zaa))) (aC Su (aC Su (aC Su aM aO) aO) aO) (cnt_cons (cnt_cons (cnt_cons cnt_nil)))) aM eY) (cnt_cons cnt_nil))) aH
theorem zax (T:Txt K mg C w){c Pt:Addr}(ht:PySem.W.tabIn K "change_of"=some (c,Pt))(hc:PySem.W.codeHdIn K c Pt=true)(hB:lB mg base)(x_read_expr:dz P w K mg base k "read_expr" 2 tZ):tu P w K mg base k f ["words","letters","expr","change"] "change_of" Aw Bx c:=fun A outer s H E Wx hr XF XP=>by
 refine Sg hr fun hu=>?_;have nd:=(Tg).nd;refine Sd rfl ?_ ?_
 ·exact(bK (i:=2) nd rfl (.inr zae) (SX.se XP (wj x_read_expr hr rfl (aC Sw (aC Sw aM aO) aO) (cnt_cons (cnt_cons cnt_nil)))))
 exact Sh (QJ (j:=3) ht hc hB nd)
theorem za1 (T:Txt K mg C w):RT P w K mg base k f ["_law_number","_law_many","_law_found","_law_x","_law_k"] "_law_drawn" Dp Gf:=fun cdv A outer s H E hr=>by
 refine cN hr fun hu=>?_;have nd:=(S7).nd;have B_range:=T.blt "range" (by x_go);refine aF (Lj (i:=2) nd rfl Lv (cW aM)) ?_;refine aF (bK (i:=3) nd rfl Lv (aK cJ cM Sv Ei)) ?_;refine aF (rB xba rfl nd rfl Lv (Az rfl B_range (aC Sv aM aO)) (aF (bK (i:=3) nd rfl Lv (aK cJ cM (aK cI cL (aK cI cL (aK cI cL (aK dX dY Sv Sv) (aK dX dY Ei Sv)) (aK dX dY Ei Sv)) Ei) Ei)) (aF (sS rfl Lu (aK lH lK Sv Ei)) aH))) ?_;refine K5 ?_;exact aF (aZ Sv) aH
theorem zbW (T:Txt K mg C w):RT P w K mg base k f ["_law_x","_law_letters","_law_number"] "_law_leaf" Dr Bw:=fun cdv A outer s H E hr=>by
 refine cN hr fun hu=>?_;have nd:=(S_).nd;have B_len:=T.blt "len" (by x_go);have B_str:=T.blt "str" (by x_go);refine aF (bH (SW.st (sW (Ct hu (aK cJ cM Sv Ei) Ei) (yc (Ct hu Sv Es)))) (aF (aZ (Ek Sv (aK cJ cM (aK lH lK Sv Ei) (gj wI rfl B_len xbT xH (aC Sv aM aO))))) aH) aH) ?_;refine aF (bK (i:=2) nd rfl Lv (aK cJ cM (aK dX dY (aK dX dY (aK dX dY Sv Ei) Ei) Ei) (Ek (SN.sem (cW (aC Ei (aC Ei (aC (aK gO gP Ei Ei) (aC (aK gO gP Ei Ei) (aC (aK gO gP Ei Ei) aM k_) k_) k_) aY) aY)) lst_is) (aK cJ cM (aK lH lK Sv Ei) Ei)))) ?_;refine aF (bH (SW.st (sW (Ct hu (aK cJ cM (aK lH lK Sv Ei) Ei) Ei) (yc (Ct hu Sv Ei)))) (aF (aZ (aK cI cL Es (xW Nr rfl B_str boot_str Rv (aC Sv aM aO)))) aH) aH) ?_;exact aF (aZ (xW Nr rfl B_str boot_str Rv (aC Sv aM aO))) aH
theorem zbI (T:Txt K mg C w)(a__leaf:bf P w K mg base k "_law_leaf" 2 pC):RT P w K mg base k f ["_law_number","_law_letters","_law_most","_law_words","_law_need","_law_x","_law_pick"] "_law_expr" Aq Gg:=fun cdv A outer s H E hr=>by
 refine cN hr fun hu=>?_;have nd:=(S8).nd;have B_len:=T.blt "len" (by x_go);refine aF (Lj (i:=3) nd rfl Lv (cW aM)) ?_;refine aF (bK (i:=4) nd rfl Lv Ei) ?_;refine aF (bK (i:=5) nd rfl Lv (aK cJ cM Sv Ei)) ?_;refine aF (Uo 1000 xba (Ct hu Sv Ei) (aF (bK (i:=5) nd rfl Lv (aK cJ cM (aK cI cL (aK cI cL (aK cI cL (aK dX dY Sv Sv) (aK dX dY Ei Sv)) (gj wI rfl B_len xbT xH (aC (Lb rfl (U8)) aM aO))) Ei) Ei)) (aF (bK (i:=6) nd rfl Lv (aK lH lK Sv Ei)) (aF (bH (SW.st (sW (Ct hu (aK cJ cM Sv Ei) Ei) (yc (Ct hu (aK cI cL (aK cI cL (gj wI rfl B_len xbT xH (aC (Lb rfl (U8)) aM aO)) Sv) Ei) Sv)))) (aF (sS rfl Lu (Ek (SN.sem (cW (aC Es (aC Es (aC Es (aC Es (aC Es aM aY) aY) aY) aY) aY)) lst_is) (aK cJ cM (aK lH lK Sv Ei) Ei))) (aF (bK (i:=4) nd rfl Lv (aK cI cL Sv Ei)) aH)) (aF (sS rfl Lu (cu a__leaf hr rfl (aC (aK lH lK Sv Ei) (aC Sv aM aO) k_) (cnt_cons (cnt_cons cnt_nil)))) (aF (bK (i:=4) nd rfl Lv (aK lJ lM Sv Ei)) aH))) aH)))) ?_;refine K5 ?_;exact aF (aZ Sv) aH
theorem zbo (T:Txt K mg C w)(a__leaf:bf P w K mg base k "_law_leaf" 2 pC):RT P w K mg base k f ["_law_number","_law_most","_law_words","_law_pending","_law_room","_law_x","_law_pick","_law_kind"] "_law_cond" Ao Ge:=fun cdv A outer s H E hr=>by
  refine @cN _ _ _ _ _ hr fun hu=>?_;have nd:=(S6).nd;have B_len:=T.blt "len" (by x_go);refine @aF _ _ _ _ _ _ ?_ ?_
  · refine @Lj _ _ _ 2 _ _ _ _ nd rfl Lv ?_ (by first |rfl |exact .inl rfl |exact .inr rfl |exact fun _ _=>rfl |exact fun _=>rfl |exact⟨rfl,rfl,rfl,rfl⟩ |decide +kernel |kernel_rfl) (by first |rfl |exact .inl rfl |exact .inr rfl |exact fun _ _=>rfl |exact fun _=>rfl |exact⟨rfl,rfl,rfl,rfl⟩ |decide +kernel |kernel_rfl)
    · refine @cW _ _ _ _ _ aM
  refine @aF _ _ _ _ _ _ ?_ ?_
  · refine @bK _ _ _ 3 _ _ _ _ nd rfl Lv ?_ (by first |rfl |exact .inl rfl |exact .inr rfl |exact fun _ _=>rfl |exact fun _=>rfl |exact⟨rfl,rfl,rfl,rfl⟩ |decide +kernel |kernel_rfl) (by first |rfl |exact .inl rfl |exact .inr rfl |exact fun _ _=>rfl |exact fun _=>rfl |exact⟨rfl,rfl,rfl,rfl⟩ |decide +kernel |kernel_rfl)
    · refine @rm _ _ _ _ _ ?_
      · refine @cW _ _ _ _ _ ?_
        · refine @aC _ _ _ _ _ _ _ Es aM aY
  refine @aF _ _ _ _ _ _ ?_ ?_
  · refine @bK _ _ _ 4 _ _ _ _ nd rfl Lv ?_ (by first |rfl |exact .inl rfl |exact .inr rfl |exact fun _ _=>rfl |exact fun _=>rfl |exact⟨rfl,rfl,rfl,rfl⟩ |decide +kernel |kernel_rfl) (by first |rfl |exact .inl rfl |exact .inr rfl |exact fun _ _=>rfl |exact fun _=>rfl |exact⟨rfl,rfl,rfl,rfl⟩ |decide +kernel |kernel_rfl)
    · refine @aK _ _ _ _ _ _ _ _ _ _ _ lJ lM Sv Ei
  refine @aF _ _ _ _ _ _ ?_ ?_
  · refine @bK _ _ _ 5 _ _ _ _ nd rfl Lv ?_ (by first |rfl |exact .inl rfl |exact .inr rfl |exact fun _ _=>rfl |exact fun _=>rfl |exact⟨rfl,rfl,rfl,rfl⟩ |decide +kernel |kernel_rfl) (by first |rfl |exact .inl rfl |exact .inr rfl |exact fun _ _=>rfl |exact fun _=>rfl |exact⟨rfl,rfl,rfl,rfl⟩ |decide +kernel |kernel_rfl)
    · refine @aK _ _ _ _ _ _ _ _ _ _ _ cJ cM Sv Ei
  refine @aF _ _ _ _ _ _ ?_ ?_
  · refine @Uo _ _ _ 1000 _ _ _ _ xba ?_ ?_
    · refine @gH _ _ _ _ _ _ _ _ _ _ (eX hu .ne) fQ Sv ?_ (by first |rfl |exact .inl rfl |exact .inr rfl |exact fun _ _=>rfl |exact fun _=>rfl |exact⟨rfl,rfl,rfl,rfl⟩ |decide +kernel |kernel_rfl)
      · refine @SN.sem _ _ _ _ _ ?_ lst_is
        · refine @cW _ _ _ _ _ aM
    · refine @aF _ _ _ _ _ _ ?_ ?_
      · refine @bK _ _ _ 5 _ _ _ _ nd rfl Lv ?_ (by first |rfl |exact .inl rfl |exact .inr rfl |exact fun _ _=>rfl |exact fun _=>rfl |exact⟨rfl,rfl,rfl,rfl⟩ |decide +kernel |kernel_rfl) (by first |rfl |exact .inl rfl |exact .inr rfl |exact fun _ _=>rfl |exact fun _=>rfl |exact⟨rfl,rfl,rfl,rfl⟩ |decide +kernel |kernel_rfl)
        · refine @aK _ _ _ _ _ _ _ _ _ _ _ cJ cM ?_ Ei
          · refine @aK _ _ _ _ _ _ _ _ _ _ _ cI cL ?_ Ei
            · refine @aK _ _ _ _ _ _ _ _ _ _ _ cI cL ?_ ?_
              · refine @aK _ _ _ _ _ _ _ _ _ _ _ cI cL ?_ ?_
                · refine @aK _ _ _ _ _ _ _ _ _ _ _ dX dY Sv Sv
                · refine @aK _ _ _ _ _ _ _ _ _ _ _ dX dY Ei Sv
              · refine @gj _ _ _ _ _ _ _ _ _ _ _ _ wI rfl B_len xbT xH ?_ (by first |rfl |exact .inl rfl |exact .inr rfl |exact fun _ _=>rfl |exact fun _=>rfl |exact⟨rfl,rfl,rfl,rfl⟩ |decide +kernel |kernel_rfl) (by first |rfl |exact .inl rfl |exact .inr rfl |exact fun _ _=>rfl |exact fun _=>rfl |exact⟨rfl,rfl,rfl,rfl⟩ |decide +kernel |kernel_rfl) (by first |rfl |exact .inl rfl |exact .inr rfl |exact fun _ _=>rfl |exact fun _=>rfl |exact⟨rfl,rfl,rfl,rfl⟩ |decide +kernel |kernel_rfl) (by first |rfl |exact .inl rfl |exact .inr rfl |exact fun _ _=>rfl |exact fun _=>rfl |exact⟨rfl,rfl,rfl,rfl⟩ |decide +kernel |kernel_rfl)
                · refine @aC _ _ _ _ _ _ _ ?_ aM aO
                  · refine @Lb _ _ _ _ _ rfl zaj (by first |rfl |exact .inl rfl |exact .inr rfl |exact fun _ _=>rfl |exact fun _=>rfl |exact⟨rfl,rfl,rfl,rfl⟩ |decide +kernel |kernel_rfl) (by first |rfl |exact .inl rfl |exact .inr rfl |exact fun _ _=>rfl |exact fun _=>rfl |exact⟨rfl,rfl,rfl,rfl⟩ |decide +kernel |kernel_rfl)
      · refine @aF _ _ _ _ _ _ ?_ ?_
        · refine @bK _ _ _ 6 _ _ _ _ nd rfl Lv ?_ (by first |rfl |exact .inl rfl |exact .inr rfl |exact fun _ _=>rfl |exact fun _=>rfl |exact⟨rfl,rfl,rfl,rfl⟩ |decide +kernel |kernel_rfl) (by first |rfl |exact .inl rfl |exact .inr rfl |exact fun _ _=>rfl |exact fun _=>rfl |exact⟨rfl,rfl,rfl,rfl⟩ |decide +kernel |kernel_rfl)
          · refine @aK _ _ _ _ _ _ _ _ _ _ _ lH lK Sv Ei
        · refine @aF _ _ _ _ _ _ ?_ ?_
          · refine @bK _ _ _ 7 _ _ _ _ nd rfl Lv ?_ (by first |rfl |exact .inl rfl |exact .inr rfl |exact fun _ _=>rfl |exact fun _=>rfl |exact⟨rfl,rfl,rfl,rfl⟩ |decide +kernel |kernel_rfl) (by first |rfl |exact .inl rfl |exact .inr rfl |exact fun _ _=>rfl |exact fun _=>rfl |exact⟨rfl,rfl,rfl,rfl⟩ |decide +kernel |kernel_rfl)
            · refine @sJ _ _ _ _ _ _ _ Sv (by first |rfl |exact .inl rfl |exact .inr rfl |exact fun _ _=>rfl |exact fun _=>rfl |exact⟨rfl,rfl,rfl,rfl⟩ |decide +kernel |kernel_rfl) (by first |rfl |exact .inl rfl |exact .inr rfl |exact fun _ _=>rfl |exact fun _=>rfl |exact⟨rfl,rfl,rfl,rfl⟩ |decide +kernel |kernel_rfl)
          · refine @aF _ _ _ _ _ _ ?_ aH
            · refine @bH _ _ _ _ _ _ _ _ _ ?_ ?_ ?_
              · refine @SW.st _ _ _ _ ?_
                · refine @sW _ _ _ _ _ _ _ _ ?_ ?_
                  · refine @gH _ _ _ _ _ _ _ _ _ _ (eX hu .eq) fQ Sv Es (by first |rfl |exact .inl rfl |exact .inr rfl |exact fun _ _=>rfl |exact fun _=>rfl |exact⟨rfl,rfl,rfl,rfl⟩ |decide +kernel |kernel_rfl)
                  · refine @sW _ _ _ _ _ _ _ _ ?_ ?_
                    · refine @gH _ _ _ _ _ _ _ _ _ _ (eX hu .ge) fQ Sv Ei (by first |rfl |exact .inl rfl |exact .inr rfl |exact fun _ _=>rfl |exact fun _=>rfl |exact⟨rfl,rfl,rfl,rfl⟩ |decide +kernel |kernel_rfl)
                    · refine @yc _ _ _ _ _ ?_
                      · refine @gH _ _ _ _ _ _ _ _ _ _ (eX hu .eq) fQ ?_ Ei (by first |rfl |exact .inl rfl |exact .inr rfl |exact fun _ _=>rfl |exact fun _=>rfl |exact⟨rfl,rfl,rfl,rfl⟩ |decide +kernel |kernel_rfl)
                        · refine @aK _ _ _ _ _ _ _ _ _ _ _ cJ cM Sv Ei
              · refine @aF _ _ _ _ _ _ ?_ ?_
                · refine @sS _ _ _ _ _ _ _ _ _ _ rfl Lu ?_ (by first |rfl |exact .inl rfl |exact .inr rfl |exact fun _ _=>rfl |exact fun _=>rfl |exact⟨rfl,rfl,rfl,rfl⟩ |decide +kernel |kernel_rfl) (by first |rfl |exact .inl rfl |exact .inr rfl |exact fun _ _=>rfl |exact fun _=>rfl |exact⟨rfl,rfl,rfl,rfl⟩ |decide +kernel |kernel_rfl) (by first |rfl |exact .inl rfl |exact .inr rfl |exact fun _ _=>rfl |exact fun _=>rfl |exact⟨rfl,rfl,rfl,rfl⟩ |decide +kernel |kernel_rfl) (by first |rfl |exact .inl rfl |exact .inr rfl |exact fun _ _=>rfl |exact fun _=>rfl |exact⟨rfl,rfl,rfl,rfl⟩ |decide +kernel |kernel_rfl) (by first |rfl |exact .inl rfl |exact .inr rfl |exact fun _ _=>rfl |exact fun _=>rfl |exact⟨rfl,rfl,rfl,rfl⟩ |decide +kernel |kernel_rfl) (by first |rfl |exact .inl rfl |exact .inr rfl |exact fun _ _=>rfl |exact fun _=>rfl |exact⟨rfl,rfl,rfl,rfl⟩ |decide +kernel |kernel_rfl)
                  · refine @gk _ _ _ _ _ _ _ _ _ _ gb gh ?_ ?_ (by first |rfl |exact .inl rfl |exact .inr rfl |exact fun _ _=>rfl |exact fun _=>rfl |exact⟨rfl,rfl,rfl,rfl⟩ |decide +kernel |kernel_rfl)
                    · refine @SN.sem _ _ _ _ _ ?_ lst_is
                      · refine @cW _ _ _ _ _ ?_
                        · refine @aC _ _ _ _ _ _ _ Es ?_ aY
                          · refine @aC _ _ _ _ _ _ _ Es aM aY
                    · refine @aK _ _ _ _ _ _ _ _ _ _ _ cJ cM ?_ Ei
                      · refine @aK _ _ _ _ _ _ _ _ _ _ _ lH lK Sv Ei
                · refine @aF _ _ _ _ _ _ ?_ ?_
                  · refine @bK _ _ _ 3 _ _ _ _ nd rfl Lv ?_ (by first |rfl |exact .inl rfl |exact .inr rfl |exact fun _ _=>rfl |exact fun _=>rfl |exact⟨rfl,rfl,rfl,rfl⟩ |decide +kernel |kernel_rfl) (by first |rfl |exact .inl rfl |exact .inr rfl |exact fun _ _=>rfl |exact fun _=>rfl |exact⟨rfl,rfl,rfl,rfl⟩ |decide +kernel |kernel_rfl)
                    · refine @rm _ _ _ _ _ ?_
                      · refine @Lf _ _ _ _ _ _ _ Sv ?_
                        · refine @SN.sem _ _ _ _ _ ?_ lst_is
                          · refine @cW _ _ _ _ _ ?_
                            · refine @aC _ _ _ _ _ _ _ Es ?_ aY
                              · refine @aC _ _ _ _ _ _ _ Es aM aY
                  · refine @aF _ _ _ _ _ _ ?_ aH
                    · refine @bK _ _ _ 4 _ _ _ _ nd rfl Lv ?_ (by first |rfl |exact .inl rfl |exact .inr rfl |exact fun _ _=>rfl |exact fun _=>rfl |exact⟨rfl,rfl,rfl,rfl⟩ |decide +kernel |kernel_rfl) (by first |rfl |exact .inl rfl |exact .inr rfl |exact fun _ _=>rfl |exact fun _=>rfl |exact⟨rfl,rfl,rfl,rfl⟩ |decide +kernel |kernel_rfl)
                      · refine @aK _ _ _ _ _ _ _ _ _ _ _ lJ lM Sv Ei
              · refine @aF _ _ _ _ _ _ ?_ aH
                · refine @bH _ _ _ _ _ _ _ _ _ ?_ ?_ ?_
                  · refine @SW.st _ _ _ _ ?_
                    · refine @sW _ _ _ _ _ _ _ _ ?_ ?_
                      · refine @gH _ _ _ _ _ _ _ _ _ _ (eX hu .eq) fQ Sv Es (by first |rfl |exact .inl rfl |exact .inr rfl |exact fun _ _=>rfl |exact fun _=>rfl |exact⟨rfl,rfl,rfl,rfl⟩ |decide +kernel |kernel_rfl)
                      · refine @sW _ _ _ _ _ _ _ _ ?_ ?_
                        · refine @gH _ _ _ _ _ _ _ _ _ _ (eX hu .ge) fQ Sv Ei (by first |rfl |exact .inl rfl |exact .inr rfl |exact fun _ _=>rfl |exact fun _=>rfl |exact⟨rfl,rfl,rfl,rfl⟩ |decide +kernel |kernel_rfl)
                        · refine @yc _ _ _ _ _ ?_
                          · refine @gH _ _ _ _ _ _ _ _ _ _ (eX hu .eq) fQ ?_ Ei (by first |rfl |exact .inl rfl |exact .inr rfl |exact fun _ _=>rfl |exact fun _=>rfl |exact⟨rfl,rfl,rfl,rfl⟩ |decide +kernel |kernel_rfl)
                            · refine @aK _ _ _ _ _ _ _ _ _ _ _ cJ cM Sv Ei
                  · refine @aF _ _ _ _ _ _ ?_ ?_
                    · refine @sS _ _ _ _ _ _ _ _ _ _ rfl Lu Es (by first |rfl |exact .inl rfl |exact .inr rfl |exact fun _ _=>rfl |exact fun _=>rfl |exact⟨rfl,rfl,rfl,rfl⟩ |decide +kernel |kernel_rfl) (by first |rfl |exact .inl rfl |exact .inr rfl |exact fun _ _=>rfl |exact fun _=>rfl |exact⟨rfl,rfl,rfl,rfl⟩ |decide +kernel |kernel_rfl) (by first |rfl |exact .inl rfl |exact .inr rfl |exact fun _ _=>rfl |exact fun _=>rfl |exact⟨rfl,rfl,rfl,rfl⟩ |decide +kernel |kernel_rfl) (by first |rfl |exact .inl rfl |exact .inr rfl |exact fun _ _=>rfl |exact fun _=>rfl |exact⟨rfl,rfl,rfl,rfl⟩ |decide +kernel |kernel_rfl) (by first |rfl |exact .inl rfl |exact .inr rfl |exact fun _ _=>rfl |exact fun _=>rfl |exact⟨rfl,rfl,rfl,rfl⟩ |decide +kernel |kernel_rfl) (by first |rfl |exact .inl rfl |exact .inr rfl |exact fun _ _=>rfl |exact fun _=>rfl |exact⟨rfl,rfl,rfl,rfl⟩ |decide +kernel |kernel_rfl)
                    · refine @aF _ _ _ _ _ _ ?_ ?_
                      · refine @mU _ _ _ _ _ _ _ _ _ Sv Es (by first |rfl |exact .inl rfl |exact .inr rfl |exact fun _ _=>rfl |exact fun _=>rfl |exact⟨rfl,rfl,rfl,rfl⟩ |decide +kernel |kernel_rfl) (by first |rfl |exact .inl rfl |exact .inr rfl |exact fun _ _=>rfl |exact fun _=>rfl |exact⟨rfl,rfl,rfl,rfl⟩ |decide +kernel |kernel_rfl) (by first |rfl |exact .inl rfl |exact .inr rfl |exact fun _ _=>rfl |exact fun _=>rfl |exact⟨rfl,rfl,rfl,rfl⟩ |decide +kernel |kernel_rfl) (by first |rfl |exact .inl rfl |exact .inr rfl |exact fun _ _=>rfl |exact fun _=>rfl |exact⟨rfl,rfl,rfl,rfl⟩ |decide +kernel |kernel_rfl) (by first |rfl |exact .inl rfl |exact .inr rfl |exact fun _ _=>rfl |exact fun _=>rfl |exact⟨rfl,rfl,rfl,rfl⟩ |decide +kernel |kernel_rfl)
                      · refine @aF _ _ _ _ _ _ ?_ aH
                        · refine @bK _ _ _ 4 _ _ _ _ nd rfl Lv ?_ (by first |rfl |exact .inl rfl |exact .inr rfl |exact fun _ _=>rfl |exact fun _=>rfl |exact⟨rfl,rfl,rfl,rfl⟩ |decide +kernel |kernel_rfl) (by first |rfl |exact .inl rfl |exact .inr rfl |exact fun _ _=>rfl |exact fun _=>rfl |exact⟨rfl,rfl,rfl,rfl⟩ |decide +kernel |kernel_rfl)
                          · refine @aK _ _ _ _ _ _ _ _ _ _ _ lJ lM Sv Ei
                  · refine @aF _ _ _ _ _ _ ?_ aH
                    · refine @bH _ _ _ _ _ _ _ _ _ ?_ ?_ ?_
                      · refine @gH _ _ _ _ _ _ _ _ _ _ (eX hu .eq) fQ Sv Es (by first |rfl |exact .inl rfl |exact .inr rfl |exact fun _ _=>rfl |exact fun _=>rfl |exact⟨rfl,rfl,rfl,rfl⟩ |decide +kernel |kernel_rfl)
                      · refine @aF _ _ _ _ _ _ ?_ ?_
                        · refine @sS _ _ _ _ _ _ _ _ _ _ rfl Lu ?_ (by first |rfl |exact .inl rfl |exact .inr rfl |exact fun _ _=>rfl |exact fun _=>rfl |exact⟨rfl,rfl,rfl,rfl⟩ |decide +kernel |kernel_rfl) (by first |rfl |exact .inl rfl |exact .inr rfl |exact fun _ _=>rfl |exact fun _=>rfl |exact⟨rfl,rfl,rfl,rfl⟩ |decide +kernel |kernel_rfl) (by first |rfl |exact .inl rfl |exact .inr rfl |exact fun _ _=>rfl |exact fun _=>rfl |exact⟨rfl,rfl,rfl,rfl⟩ |decide +kernel |kernel_rfl) (by first |rfl |exact .inl rfl |exact .inr rfl |exact fun _ _=>rfl |exact fun _=>rfl |exact⟨rfl,rfl,rfl,rfl⟩ |decide +kernel |kernel_rfl) (by first |rfl |exact .inl rfl |exact .inr rfl |exact fun _ _=>rfl |exact fun _=>rfl |exact⟨rfl,rfl,rfl,rfl⟩ |decide +kernel |kernel_rfl) (by first |rfl |exact .inl rfl |exact .inr rfl |exact fun _ _=>rfl |exact fun _=>rfl |exact⟨rfl,rfl,rfl,rfl⟩ |decide +kernel |kernel_rfl)
                          · refine @gk _ _ _ _ _ _ _ _ _ _ gb gh ?_ ?_ (by first |rfl |exact .inl rfl |exact .inr rfl |exact fun _ _=>rfl |exact fun _=>rfl |exact⟨rfl,rfl,rfl,rfl⟩ |decide +kernel |kernel_rfl)
                            · refine @SN.sem _ _ _ _ _ ?_ lst_is
                              · refine @cW _ _ _ _ _ ?_
                                · refine @aC _ _ _ _ _ _ _ Es ?_ aY
                                  · refine @aC _ _ _ _ _ _ _ Es aM aY
                            · refine @aK _ _ _ _ _ _ _ _ _ _ _ cJ cM ?_ Ei
                              · refine @aK _ _ _ _ _ _ _ _ _ _ _ lH lK Sv Ei
                        · refine @aF _ _ _ _ _ _ ?_ aH
                          · refine @bK _ _ _ 3 _ _ _ _ nd rfl Lv ?_ (by first |rfl |exact .inl rfl |exact .inr rfl |exact fun _ _=>rfl |exact fun _=>rfl |exact⟨rfl,rfl,rfl,rfl⟩ |decide +kernel |kernel_rfl) (by first |rfl |exact .inl rfl |exact .inr rfl |exact fun _ _=>rfl |exact fun _=>rfl |exact⟨rfl,rfl,rfl,rfl⟩ |decide +kernel |kernel_rfl)
                            · refine @rm _ _ _ _ _ ?_
                              · refine @Lf _ _ _ _ _ _ _ Sv ?_
                                · refine @SN.sem _ _ _ _ _ ?_ lst_is
                                  · refine @cW _ _ _ _ _ ?_
                                    · refine @aC _ _ _ _ _ _ _ Es ?_ aY
                                      · refine @aC _ _ _ _ _ _ _ Es aM aY
                      · refine @aF _ _ _ _ _ _ ?_ aH
                        · refine @bH _ _ _ _ _ _ _ _ _ ?_ ?_ ?_
                          · refine @SW.st _ _ _ _ ?_
                            · refine @sW _ _ _ _ _ _ _ _ ?_ ?_
                              · refine @gH _ _ _ _ _ _ _ _ _ _ (eX hu .ge) fQ Sv Ei (by first |rfl |exact .inl rfl |exact .inr rfl |exact fun _ _=>rfl |exact fun _=>rfl |exact⟨rfl,rfl,rfl,rfl⟩ |decide +kernel |kernel_rfl)
                              · refine @yc _ _ _ _ _ ?_
                                · refine @gH _ _ _ _ _ _ _ _ _ _ (eX hu .eq) fQ ?_ Ei (by first |rfl |exact .inl rfl |exact .inr rfl |exact fun _ _=>rfl |exact fun _=>rfl |exact⟨rfl,rfl,rfl,rfl⟩ |decide +kernel |kernel_rfl)
                                  · refine @aK _ _ _ _ _ _ _ _ _ _ _ cJ cM Sv Ei
                          · refine @aF _ _ _ _ _ _ ?_ ?_
                            · refine @sS _ _ _ _ _ _ _ _ _ _ rfl Lu ?_ (by first |rfl |exact .inl rfl |exact .inr rfl |exact fun _ _=>rfl |exact fun _=>rfl |exact⟨rfl,rfl,rfl,rfl⟩ |decide +kernel |kernel_rfl) (by first |rfl |exact .inl rfl |exact .inr rfl |exact fun _ _=>rfl |exact fun _=>rfl |exact⟨rfl,rfl,rfl,rfl⟩ |decide +kernel |kernel_rfl) (by first |rfl |exact .inl rfl |exact .inr rfl |exact fun _ _=>rfl |exact fun _=>rfl |exact⟨rfl,rfl,rfl,rfl⟩ |decide +kernel |kernel_rfl) (by first |rfl |exact .inl rfl |exact .inr rfl |exact fun _ _=>rfl |exact fun _=>rfl |exact⟨rfl,rfl,rfl,rfl⟩ |decide +kernel |kernel_rfl) (by first |rfl |exact .inl rfl |exact .inr rfl |exact fun _ _=>rfl |exact fun _=>rfl |exact⟨rfl,rfl,rfl,rfl⟩ |decide +kernel |kernel_rfl) (by first |rfl |exact .inl rfl |exact .inr rfl |exact fun _ _=>rfl |exact fun _=>rfl |exact⟨rfl,rfl,rfl,rfl⟩ |decide +kernel |kernel_rfl)
                              · refine @gk _ _ _ _ _ _ _ _ _ _ gb gh ?_ ?_ (by first |rfl |exact .inl rfl |exact .inr rfl |exact fun _ _=>rfl |exact fun _=>rfl |exact⟨rfl,rfl,rfl,rfl⟩ |decide +kernel |kernel_rfl)
                                · refine @SN.sem _ _ _ _ _ ?_ lst_is
                                  · refine @cW _ _ _ _ _ ?_
                                    · refine @aC _ _ _ _ _ _ _ Es ?_ aY
                                      · refine @aC _ _ _ _ _ _ _ Es ?_ aY
                                        · refine @aC _ _ _ _ _ _ _ Es ?_ aY
                                          · refine @aC _ _ _ _ _ _ _ Es ?_ aY
                                            · refine @aC _ _ _ _ _ _ _ Es aM aY
                                · refine @aK _ _ _ _ _ _ _ _ _ _ _ cJ cM ?_ Ei
                                  · refine @aK _ _ _ _ _ _ _ _ _ _ _ lH lK Sv Ei
                            · refine @aF _ _ _ _ _ _ ?_ ?_
                              · refine @bK _ _ _ 3 _ _ _ _ nd rfl Lv ?_ (by first |rfl |exact .inl rfl |exact .inr rfl |exact fun _ _=>rfl |exact fun _=>rfl |exact⟨rfl,rfl,rfl,rfl⟩ |decide +kernel |kernel_rfl) (by first |rfl |exact .inl rfl |exact .inr rfl |exact fun _ _=>rfl |exact fun _=>rfl |exact⟨rfl,rfl,rfl,rfl⟩ |decide +kernel |kernel_rfl)
                                · refine @rm _ _ _ _ _ ?_
                                  · refine @Lf _ _ _ _ _ _ _ Sv ?_
                                    · refine @SN.sem _ _ _ _ _ ?_ lst_is
                                      · refine @cW _ _ _ _ _ ?_
                                        · refine @aC _ _ _ _ _ _ _ Es ?_ aY
                                          · refine @aC _ _ _ _ _ _ _ Es aM aY
                              · refine @aF _ _ _ _ _ _ ?_ aH
                                · refine @bK _ _ _ 4 _ _ _ _ nd rfl Lv ?_ (by first |rfl |exact .inl rfl |exact .inr rfl |exact fun _ _=>rfl |exact fun _=>rfl |exact⟨rfl,rfl,rfl,rfl⟩ |decide +kernel |kernel_rfl) (by first |rfl |exact .inl rfl |exact .inr rfl |exact fun _ _=>rfl |exact fun _=>rfl |exact⟨rfl,rfl,rfl,rfl⟩ |decide +kernel |kernel_rfl)
                                  · refine @aK _ _ _ _ _ _ _ _ _ _ _ lJ lM Sv Ei
                          · refine @aF _ _ _ _ _ _ ?_ aH
                            · refine @sS _ _ _ _ _ _ _ _ _ _ rfl Lu ?_ (by first |rfl |exact .inl rfl |exact .inr rfl |exact fun _ _=>rfl |exact fun _=>rfl |exact⟨rfl,rfl,rfl,rfl⟩ |decide +kernel |kernel_rfl) (by first |rfl |exact .inl rfl |exact .inr rfl |exact fun _ _=>rfl |exact fun _=>rfl |exact⟨rfl,rfl,rfl,rfl⟩ |decide +kernel |kernel_rfl) (by first |rfl |exact .inl rfl |exact .inr rfl |exact fun _ _=>rfl |exact fun _=>rfl |exact⟨rfl,rfl,rfl,rfl⟩ |decide +kernel |kernel_rfl) (by first |rfl |exact .inl rfl |exact .inr rfl |exact fun _ _=>rfl |exact fun _=>rfl |exact⟨rfl,rfl,rfl,rfl⟩ |decide +kernel |kernel_rfl) (by first |rfl |exact .inl rfl |exact .inr rfl |exact fun _ _=>rfl |exact fun _=>rfl |exact⟨rfl,rfl,rfl,rfl⟩ |decide +kernel |kernel_rfl) (by first |rfl |exact .inl rfl |exact .inr rfl |exact fun _ _=>rfl |exact fun _=>rfl |exact⟨rfl,rfl,rfl,rfl⟩ |decide +kernel |kernel_rfl)
                              · refine @cu _ _ _ _ _ _ _ _ _ _ _ _ a__leaf hr rfl ?_ ?_ (by first |rfl |exact .inl rfl |exact .inr rfl |exact fun _ _=>rfl |exact fun _=>rfl |exact⟨rfl,rfl,rfl,rfl⟩ |decide +kernel |kernel_rfl) (by first |rfl |exact .inl rfl |exact .inr rfl |exact fun _ _=>rfl |exact fun _=>rfl |exact⟨rfl,rfl,rfl,rfl⟩ |decide +kernel |kernel_rfl) (by first |rfl |exact .inl rfl |exact .inr rfl |exact fun _ _=>rfl |exact fun _=>rfl |exact⟨rfl,rfl,rfl,rfl⟩ |decide +kernel |kernel_rfl)
                                · refine @aC _ _ _ _ _ _ _ ?_ ?_ k_
                                  · refine @aK _ _ _ _ _ _ _ _ _ _ _ lH lK Sv Ei
                                  · refine @aC _ _ _ _ _ _ _ Es aM aY
                                · exact(cnt_cons (cnt_cons cnt_nil))
  refine K5 ?_;refine @aF _ _ _ _ _ _ ?_ ?_
  · refine @aZ _ _ _ _ _ Sv
  exact aH
theorem zcU (T:Txt K mg C w):RT P w K mg base k f ["_law_word","_law_one","_law_two_here"] "_law_two" Dt Gj:=fun cdv A outer s H E hr=>by
 refine cN hr fun hu=>?_;have nd:=(Te).nd;have B_max:=T.blt "max" (by x_go);have B_min:=T.blt "min" (by x_go);refine aF (bH (Ct hu Sv Es) (aF (aZ (aK cI cL Sv Sv)) aH) aH) ?_;refine aF (bH (Ct hu Sv Es) (aF (aZ (aK lJ lM Sv Sv)) aH) aH) ?_;refine aF (bH (Ct hu Sv Es) (aF (aZ (aK dX dY Sv Sv)) aH) aH) ?_;refine aF (bH (Ct hu Sv Es) (aF (aZ (gj (yJ rfl) rfl B_min boot_min z8 (aC Sv (aC Sv aM aO) aO))) aH) aH) ?_;refine aF (bH (Ct hu Sv Es) (aF (aZ (gj (B_ rfl) rfl B_max boot_max Df (aC Sv (aC Sv aM aO) aO))) aH) aH) ?_;refine aF (bH (Ct hu Sv Es) (aF (aZ (vV Sv (nM Sv))) aH) aH) ?_;refine aF (bH (Ct hu Sv Es) (aF (aZ (D_ Sv (nM Sv))) aH) aH) ?_;refine aF (bH (Ct hu Sv Es) (aF (aZ (Cm hu Sv Sv)) aH) aH) ?_;exact aF (aZ (Cm hu Sv Sv)) aH
theorem za3 (T:Txt K mg C w)(a__two:bf P w K mg base k "_law_two" 3 yX):RT P w K mg base k f ["_law_words","_law_time","_law_value","_law_other","_law_kept","_law_word","_law_one"] "_law_worth" Du Gk:=fun cdv A outer s H E hr=>by
  refine @cN _ _ _ _ _ hr fun hu=>?_;have nd:=(Tf).nd;have B_int:=T.blt "int" (by x_go);have B_reversed:=T.blt "reversed" (by x_go);refine @aF _ _ _ _ _ _ ?_ ?_
  · refine @bK _ _ _ 4 _ _ _ _ nd rfl Lv ?_ (by first |rfl |exact .inl rfl |exact .inr rfl |exact fun _ _=>rfl |exact fun _=>rfl |exact⟨rfl,rfl,rfl,rfl⟩ |decide +kernel |kernel_rfl) (by first |rfl |exact .inl rfl |exact .inr rfl |exact fun _ _=>rfl |exact fun _=>rfl |exact⟨rfl,rfl,rfl,rfl⟩ |decide +kernel |kernel_rfl)
    · refine @rm _ _ _ _ _ ?_
      · refine @cW _ _ _ _ _ aM
  refine @aF _ _ _ _ _ _ ?_ ?_
  · refine @rB _ _ _ _ _ _ _ _ _ _ xba rfl nd rfl Lv ?_ ?_ (by first |rfl |exact .inl rfl |exact .inr rfl |exact fun _ _=>rfl |exact fun _=>rfl |exact⟨rfl,rfl,rfl,rfl⟩ |decide +kernel |kernel_rfl) (by first |rfl |exact .inl rfl |exact .inr rfl |exact fun _ _=>rfl |exact fun _=>rfl |exact⟨rfl,rfl,rfl,rfl⟩ |decide +kernel |kernel_rfl)
    · refine @zeB _ _ _ _ _ _ _ rfl B_reversed ?_ (by first |rfl |exact .inl rfl |exact .inr rfl |exact fun _ _=>rfl |exact fun _=>rfl |exact⟨rfl,rfl,rfl,rfl⟩ |decide +kernel |kernel_rfl)
      · refine @aC _ _ _ _ _ _ _ Sv aM aO
    · refine @aF _ _ _ _ _ _ ?_ aH
      · refine @bH _ _ _ _ _ _ _ _ _ ?_ ?_ ?_
        · refine @gH _ _ _ _ _ _ _ _ _ _ (eX hu .isin) fQ Sv ?_ (by first |rfl |exact .inl rfl |exact .inr rfl |exact fun _ _=>rfl |exact fun _=>rfl |exact⟨rfl,rfl,rfl,rfl⟩ |decide +kernel |kernel_rfl)
          · refine @SN.sem _ _ _ _ _ ?_ lst_is
            · refine @cW _ _ _ _ _ ?_
              · refine @aC _ _ _ _ _ _ _ Es ?_ aY
                · refine @aC _ _ _ _ _ _ _ Es ?_ aY
                  · refine @aC _ _ _ _ _ _ _ Es ?_ aY
                    · refine @aC _ _ _ _ _ _ _ Es ?_ aY
                      · refine @aC _ _ _ _ _ _ _ Es ?_ aY
                        · refine @aC _ _ _ _ _ _ _ Es ?_ aY
                          · refine @aC _ _ _ _ _ _ _ Es ?_ aY
                            · refine @aC _ _ _ _ _ _ _ Es ?_ aY
                              · refine @aC _ _ _ _ _ _ _ Es aM aY
        · refine @aF _ _ _ _ _ _ ?_ ?_
          · refine @bK _ _ _ 6 _ _ _ _ nd rfl Lv ?_ (by first |rfl |exact .inl rfl |exact .inr rfl |exact fun _ _=>rfl |exact fun _=>rfl |exact⟨rfl,rfl,rfl,rfl⟩ |decide +kernel |kernel_rfl) (by first |rfl |exact .inl rfl |exact .inr rfl |exact fun _ _=>rfl |exact fun _=>rfl |exact⟨rfl,rfl,rfl,rfl⟩ |decide +kernel |kernel_rfl)
            · refine @sJ _ _ _ _ _ _ _ Sv (by first |rfl |exact .inl rfl |exact .inr rfl |exact fun _ _=>rfl |exact fun _=>rfl |exact⟨rfl,rfl,rfl,rfl⟩ |decide +kernel |kernel_rfl) (by first |rfl |exact .inl rfl |exact .inr rfl |exact fun _ _=>rfl |exact fun _=>rfl |exact⟨rfl,rfl,rfl,rfl⟩ |decide +kernel |kernel_rfl)
          · refine @aF _ _ _ _ _ _ ?_ aH
            · refine @mU _ _ _ _ _ _ _ _ _ Sv ?_ (by first |rfl |exact .inl rfl |exact .inr rfl |exact fun _ _=>rfl |exact fun _=>rfl |exact⟨rfl,rfl,rfl,rfl⟩ |decide +kernel |kernel_rfl) (by first |rfl |exact .inl rfl |exact .inr rfl |exact fun _ _=>rfl |exact fun _=>rfl |exact⟨rfl,rfl,rfl,rfl⟩ |decide +kernel |kernel_rfl) (by first |rfl |exact .inl rfl |exact .inr rfl |exact fun _ _=>rfl |exact fun _=>rfl |exact⟨rfl,rfl,rfl,rfl⟩ |decide +kernel |kernel_rfl) (by first |rfl |exact .inl rfl |exact .inr rfl |exact fun _ _=>rfl |exact fun _=>rfl |exact⟨rfl,rfl,rfl,rfl⟩ |decide +kernel |kernel_rfl) (by first |rfl |exact .inl rfl |exact .inr rfl |exact fun _ _=>rfl |exact fun _=>rfl |exact⟨rfl,rfl,rfl,rfl⟩ |decide +kernel |kernel_rfl)
              · refine @cu _ _ _ _ _ _ _ _ _ _ _ _ a__two hr rfl ?_ ?_ (by first |rfl |exact .inl rfl |exact .inr rfl |exact fun _ _=>rfl |exact fun _=>rfl |exact⟨rfl,rfl,rfl,rfl⟩ |decide +kernel |kernel_rfl) (by first |rfl |exact .inl rfl |exact .inr rfl |exact fun _ _=>rfl |exact fun _=>rfl |exact⟨rfl,rfl,rfl,rfl⟩ |decide +kernel |kernel_rfl) (by first |rfl |exact .inl rfl |exact .inr rfl |exact fun _ _=>rfl |exact fun _=>rfl |exact⟨rfl,rfl,rfl,rfl⟩ |decide +kernel |kernel_rfl)
                · refine @aC _ _ _ _ _ _ _ Sv ?_ aO
                  · refine @aC _ _ _ _ _ _ _ Sv ?_ aO
                    · refine @aC _ _ _ _ _ _ _ ?_ aM eY
                      · refine @sJ _ _ _ _ _ _ _ Sv (by first |rfl |exact .inl rfl |exact .inr rfl |exact fun _ _=>rfl |exact fun _=>rfl |exact⟨rfl,rfl,rfl,rfl⟩ |decide +kernel |kernel_rfl) (by first |rfl |exact .inl rfl |exact .inr rfl |exact fun _ _=>rfl |exact fun _=>rfl |exact⟨rfl,rfl,rfl,rfl⟩ |decide +kernel |kernel_rfl)
                · exact(cnt_cons (cnt_cons (cnt_cons cnt_nil)))
        · refine @aF _ _ _ _ _ _ ?_ aH
          · refine @bH _ _ _ _ _ _ _ _ _ ?_ ?_ ?_
            · refine @gH _ _ _ _ _ _ _ _ _ _ (eX hu .eq) fQ Sv Es (by first |rfl |exact .inl rfl |exact .inr rfl |exact fun _ _=>rfl |exact fun _=>rfl |exact⟨rfl,rfl,rfl,rfl⟩ |decide +kernel |kernel_rfl)
            · refine @aF _ _ _ _ _ _ ?_ aH
              · refine @mU _ _ _ _ _ _ _ _ _ Sv ?_ (by first |rfl |exact .inl rfl |exact .inr rfl |exact fun _ _=>rfl |exact fun _=>rfl |exact⟨rfl,rfl,rfl,rfl⟩ |decide +kernel |kernel_rfl) (by first |rfl |exact .inl rfl |exact .inr rfl |exact fun _ _=>rfl |exact fun _=>rfl |exact⟨rfl,rfl,rfl,rfl⟩ |decide +kernel |kernel_rfl) (by first |rfl |exact .inl rfl |exact .inr rfl |exact fun _ _=>rfl |exact fun _=>rfl |exact⟨rfl,rfl,rfl,rfl⟩ |decide +kernel |kernel_rfl) (by first |rfl |exact .inl rfl |exact .inr rfl |exact fun _ _=>rfl |exact fun _=>rfl |exact⟨rfl,rfl,rfl,rfl⟩ |decide +kernel |kernel_rfl) (by first |rfl |exact .inl rfl |exact .inr rfl |exact fun _ _=>rfl |exact fun _=>rfl |exact⟨rfl,rfl,rfl,rfl⟩ |decide +kernel |kernel_rfl)
                · refine @K_ _ _ _ _ _ _ ?_
                  · refine @sJ _ _ _ _ _ _ _ Sv (by first |rfl |exact .inl rfl |exact .inr rfl |exact fun _ _=>rfl |exact fun _=>rfl |exact⟨rfl,rfl,rfl,rfl⟩ |decide +kernel |kernel_rfl) (by first |rfl |exact .inl rfl |exact .inr rfl |exact fun _ _=>rfl |exact fun _=>rfl |exact⟨rfl,rfl,rfl,rfl⟩ |decide +kernel |kernel_rfl)
            · refine @aF _ _ _ _ _ _ ?_ aH
              · refine @bH _ _ _ _ _ _ _ _ _ ?_ ?_ ?_
                · refine @gH _ _ _ _ _ _ _ _ _ _ (eX hu .isin) fQ Sv ?_ (by first |rfl |exact .inl rfl |exact .inr rfl |exact fun _ _=>rfl |exact fun _=>rfl |exact⟨rfl,rfl,rfl,rfl⟩ |decide +kernel |kernel_rfl)
                  · refine @SN.sem _ _ _ _ _ ?_ lst_is
                    · refine @cW _ _ _ _ _ ?_
                      · refine @aC _ _ _ _ _ _ _ Es ?_ aY
                        · refine @aC _ _ _ _ _ _ _ Es ?_ aY
                          · refine @aC _ _ _ _ _ _ _ Es aM aY
                · refine @aF _ _ _ _ _ _ ?_ aH
                  · refine @mU _ _ _ _ _ _ _ _ _ Sv ?_ (by first |rfl |exact .inl rfl |exact .inr rfl |exact fun _ _=>rfl |exact fun _=>rfl |exact⟨rfl,rfl,rfl,rfl⟩ |decide +kernel |kernel_rfl) (by first |rfl |exact .inl rfl |exact .inr rfl |exact fun _ _=>rfl |exact fun _=>rfl |exact⟨rfl,rfl,rfl,rfl⟩ |decide +kernel |kernel_rfl) (by first |rfl |exact .inl rfl |exact .inr rfl |exact fun _ _=>rfl |exact fun _=>rfl |exact⟨rfl,rfl,rfl,rfl⟩ |decide +kernel |kernel_rfl) (by first |rfl |exact .inl rfl |exact .inr rfl |exact fun _ _=>rfl |exact fun _=>rfl |exact⟨rfl,rfl,rfl,rfl⟩ |decide +kernel |kernel_rfl) (by first |rfl |exact .inl rfl |exact .inr rfl |exact fun _ _=>rfl |exact fun _=>rfl |exact⟨rfl,rfl,rfl,rfl⟩ |decide +kernel |kernel_rfl)
                    · refine @gk _ _ _ _ _ _ _ _ _ _ gb gh ?_ ?_ (by first |rfl |exact .inl rfl |exact .inr rfl |exact fun _ _=>rfl |exact fun _=>rfl |exact⟨rfl,rfl,rfl,rfl⟩ |decide +kernel |kernel_rfl)
                      · refine @SN.sem _ _ _ _ _ ?_ lst_is
                        · refine @cW _ _ _ _ _ ?_
                          · refine @aC _ _ _ _ _ _ _ Sv ?_ aO
                            · refine @aC _ _ _ _ _ _ _ Sv ?_ aO
                              · refine @aC _ _ _ _ _ _ _ Sv aM aO
                      · refine @zct _ _ _ _ _ _ _ _ _ _ ?_ ?_ (by first |rfl |exact .inl rfl |exact .inr rfl |exact fun _ _=>rfl |exact fun _=>rfl |exact⟨rfl,rfl,rfl,rfl⟩ |decide +kernel |kernel_rfl) (by first |rfl |exact .inl rfl |exact .inr rfl |exact fun _ _=>rfl |exact fun _=>rfl |exact⟨rfl,rfl,rfl,rfl⟩ |decide +kernel |kernel_rfl) (by first |rfl |exact .inl rfl |exact .inr rfl |exact fun _ _=>rfl |exact fun _=>rfl |exact⟨rfl,rfl,rfl,rfl⟩ |decide +kernel |kernel_rfl) (by first |rfl |exact .inl rfl |exact .inr rfl |exact fun _ _=>rfl |exact fun _=>rfl |exact⟨rfl,rfl,rfl,rfl⟩ |decide +kernel |kernel_rfl) (by first |rfl |exact .inl rfl |exact .inr rfl |exact fun _ _=>rfl |exact fun _=>rfl |exact⟨rfl,rfl,rfl,rfl⟩ |decide +kernel |kernel_rfl)
                        · refine @SN.sem _ _ _ _ _ ?_ lst_is
                          · refine @cW _ _ _ _ _ ?_
                            · refine @aC _ _ _ _ _ _ _ Es ?_ aY
                              · refine @aC _ _ _ _ _ _ _ Es ?_ aY
                                · refine @aC _ _ _ _ _ _ _ Es aM aY
                        · refine @aC _ _ _ _ _ _ _ Sv aM aO
                · refine @aF _ _ _ _ _ _ ?_ aH
                  · refine @mU _ _ _ _ _ _ _ _ _ Sv ?_ (by first |rfl |exact .inl rfl |exact .inr rfl |exact fun _ _=>rfl |exact fun _=>rfl |exact⟨rfl,rfl,rfl,rfl⟩ |decide +kernel |kernel_rfl) (by first |rfl |exact .inl rfl |exact .inr rfl |exact fun _ _=>rfl |exact fun _=>rfl |exact⟨rfl,rfl,rfl,rfl⟩ |decide +kernel |kernel_rfl) (by first |rfl |exact .inl rfl |exact .inr rfl |exact fun _ _=>rfl |exact fun _=>rfl |exact⟨rfl,rfl,rfl,rfl⟩ |decide +kernel |kernel_rfl) (by first |rfl |exact .inl rfl |exact .inr rfl |exact fun _ _=>rfl |exact fun _=>rfl |exact⟨rfl,rfl,rfl,rfl⟩ |decide +kernel |kernel_rfl) (by first |rfl |exact .inl rfl |exact .inr rfl |exact fun _ _=>rfl |exact fun _=>rfl |exact⟨rfl,rfl,rfl,rfl⟩ |decide +kernel |kernel_rfl)
                    · refine @xW _ _ _ _ _ _ _ _ _ _ _ _ Nq rfl B_int boot_int Ru ?_ (by first |rfl |exact .inl rfl |exact .inr rfl |exact fun _ _=>rfl |exact fun _=>rfl |exact⟨rfl,rfl,rfl,rfl⟩ |decide +kernel |kernel_rfl) (by first |rfl |exact .inl rfl |exact .inr rfl |exact fun _ _=>rfl |exact fun _=>rfl |exact⟨rfl,rfl,rfl,rfl⟩ |decide +kernel |kernel_rfl) (by first |rfl |exact .inl rfl |exact .inr rfl |exact fun _ _=>rfl |exact fun _=>rfl |exact⟨rfl,rfl,rfl,rfl⟩ |decide +kernel |kernel_rfl) (by first |rfl |exact .inl rfl |exact .inr rfl |exact fun _ _=>rfl |exact fun _=>rfl |exact⟨rfl,rfl,rfl,rfl⟩ |decide +kernel |kernel_rfl)
                      · refine @aC _ _ _ _ _ _ _ Sv aM aO
  refine @aF _ _ _ _ _ _ ?_ ?_
  · refine @aZ _ _ _ _ _ ?_
    · refine @gk _ _ _ _ _ _ _ _ _ _ gb gh Sv Ei (by first |rfl |exact .inl rfl |exact .inr rfl |exact fun _ _=>rfl |exact fun _=>rfl |exact⟨rfl,rfl,rfl,rfl⟩ |decide +kernel |kernel_rfl)
  exact aH
theorem zb9 (T:Txt K mg C w):RT P w K mg base k f ["_law_number"] "_law_held" Dq Gh:=fun cdv A outer s H E hr=>by
 refine cN hr fun hu=>?_;have nd:=(S9).nd;have B_max:=T.blt "max" (by x_go);have B_min:=T.blt "min" (by x_go);exact aF (aZ (gj (B_ rfl) rfl B_max boot_max Df (aC (Ay Bf z9 (aK gO gP Ei Ei)) (aC (gj (yJ rfl) rfl B_min boot_min z8 (aC (aK gO gP Ei Ei) (aC Sv aM aO) k_)) aM eY) Ed))) aH
theorem za9 (T:Txt K mg C w)(a__held:bf P w K mg base k "_law_held" 1 yW):RT P w K mg base k f ["_law_found","_law_due"] "_law_right" Ds Gi:=fun cdv A outer s H E hr=>by
 refine cN hr fun hu=>?_;have nd:=(Td).nd;have B_bool:=T.blt "bool" (by x_go);have B_int:=T.blt "int" (by x_go);have B_isinstance:=T.blt "isinstance" (by x_go);exact aF (aZ (vV (K9 (T:="int") (fun t b h=>Hv t "int" b h) Sv rfl B_isinstance rfl B_int boot_int) (vV (K_ (K9 (T:="bool") (fun t b h=>Hv t "bool" b h) Sv rfl B_isinstance rfl B_bool boot_bool)) (nM (Cm hu Sv (cu a__held hr rfl (aC Sv aM aO) (cnt_cons cnt_nil))))))) aH
theorem zaL (T:Txt K mg C w)(a_held:bf P w K mg base k "held" 1 rP)(a__right:bf P w K mg base k "_law_right" 2 pF):RT P w K mg base k f ["_law_cell","_law_one"] "_law_bounds" Dm Gd:=fun cdv A outer s H E hr=>by
 refine cN hr fun hu=>?_;have nd:=(S5).nd;refine aF (rB xba rfl nd rfl Lv (Ld (SN.sem (cW (aC (aK lJ lM (aK cI cL (aK gO gP Ei Ei) (aK cJ cM Sv Ei)) Ei) (aC (aK cJ cM Sv Ei) (aC (aK cJ cM Sv (aK dX dY Ei (aK gO gP Ei Ei))) (aC (aK dX dY (aK cI cL Ei (aK cJ cM Sv (aK gO gP Ei Ei))) (aK gO gP Ei Ei)) aM k_) k_) k_) k_)) lst_is)) (aF (bH (SW.st (Ej (rC (lQ (cu a__right hr rfl (aC (cu a_held hr rfl (aC Sv aM aO) (cnt_cons cnt_nil)) (aC Sv aM aO) eY) (cnt_cons (cnt_cons cnt_nil))))) (El (rC (lQ (cu a__right hr rfl (aC (cu a_held hr rfl (aC (Ay Bf z9 Sv) aM Ed) (cnt_cons cnt_nil)) (aC (Ay Bf z9 Sv) aM Ed) eY) (cnt_cons (cnt_cons cnt_nil)))))))) (aF (aZ Eb) aH) aH) aH)) ?_;exact aF (aZ Eb) aH
theorem zaB (T:Txt K mg C w)(x_sieve_of:dz P w K mg base k "sieve_of" 1 pG)(x_change_of:dz P w K mg base k "change_of" 2 m_):RT P w K mg base k f ["_law_words","_law_kind","_law_refused_here","e"] "_law_refused" Av yF:=fun cdv A outer s H E hr=>by
 refine cN hr fun hu=>?_;have nd:=(Tc).nd;have B_ValueError:=T.blt "ValueError" (by x_go);have B_isinstance:=T.blt "isinstance" (by x_go);refine aF (bK (i:=2) nd rfl Lu Eb) ?_;refine aF (zcY (i:=3) rfl rfl rfl nd rfl U9 rfl T.xm_NoExpr T.xc_NoExpr (fun c h=>VB T c h) (fun pins E'=>(Gz (zeT (gH (eX (X:=Cx.pin _ pins E') hu .eq) fQ Su Ei) (Gz (Uu (wj x_sieve_of hr rfl (aC Su aM aO) (cnt_cons cnt_nil)))) (Gz (Uu (wj x_change_of hr rfl (aC Su (aC (Ek (SN.sem (cW (aC Es (aC Es aM aY) aY)) lst_is) (aK lJ lM Su Ei)) aM lq) aO) (cnt_cons (cnt_cons cnt_nil)))))))) (fun e'=>(aF (bK (i:=2) nd rfl Lu (zb0 (T:="ValueError") rfl U9 (fun c b h=>zaf T c b h) rfl B_isinstance rfl B_ValueError PyProof.Rows.Boot.«ValueError»)) aH))) ?_;exact aF (aZ Su) aH
theorem zba (T:Txt K mg C w)(a__worth:bf P w K mg base k "_law_worth" 4 tX)(a__right:bf P w K mg base k "_law_right" 2 pF)(a_sieve_of__sieve:fX P w K mg base k lF 2 zp)(a_change_of__change:fX P w K mg base k f9 3 wV)(a_change_of__change_d1:fX P w K mg base k f9 2 Ck):RT P w K mg base k f ["_law_made","_law_told","_law_cell","_law_xs","_law_turn","_law_time","_law_value","_law_other","_law_lets"] "_law_asked" Dl Gb:=fun cdv A outer s H E hr=>by
 refine cN hr fun hu=>?_;have nd:=(SM).nd;have B_bool:=T.blt "bool" (by x_go);have B_isinstance:=T.blt "isinstance" (by x_go);have B_range:=T.blt "range" (by x_go);refine aF (rB xba rfl nd rfl Lv (Az rfl B_range (aC Ei aM aY)) (aF (bK (i:=5) nd rfl Lv (aK cJ cM (aK cI cL Sv (Ek Sv Sv)) (aK cI cL (aK gO gP Ei Ei) Ei))) (aF (bK (i:=6) nd rfl Lv (aK lJ lM (aK cJ cM (aK cI cL (aK dX dY Sv Ei) (Ek Sv (aK cI cL Sv Ei))) (aK cI cL (aK dX dY Ei (aK gO gP Ei Ei)) Ei)) (aK gO gP Ei Ei))) (aF (bK (i:=7) nd rfl Lv (aK dX dY (aK lJ lM (aK cJ cM (aK cI cL (aK dX dY Sv Ei) (Ek Sv (aK cI cL Sv Ei))) (aK cI cL (aK dX dY Ei (aK gO gP Ei Ei)) Ei)) (aK gO gP Ei Ei)) Ei)) (aF (bH (Ct hu Sv Ei) (aF (bK (i:=6) nd rfl Lv (aK dX dY Sv Ei)) aH) aH) (aF (bH (Ct hu Sv Ei) (aF (bK (i:=6) nd rfl Lv (aK lJ lM (aK cJ cM (Ek Sv Sv) Ei) Ei)) aH) aH) (aF (bK (i:=8) nd rfl Lv (K8 a_sieve_of__sieve hr (Ek Sv Ei) (aC Sv (aC Sv aM aO) aO) (cnt_cons (cnt_cons cnt_nil)))) (aF (bH (SW.st (Ej (rC (lQ (K9 (T:="bool") (fun t b h=>Hv t "bool" b h) Sv rfl B_isinstance rfl B_bool boot_bool))) (El (Ct hu Sv (cu a__worth hr rfl (aC (Ek Sv Ei) (aC Sv (aC Sv (aC Ei aM aY) aO) aO) lq) (cnt_cons (cnt_cons (cnt_cons (cnt_cons cnt_nil))))))))) (aF (aZ Eb) aH) aH) (aF (bH (rC (lQ (cu a__right hr rfl (aC (K8 a_change_of__change_d1 hr (Ek Sv Ei) (aC Sv (aC Sv aM aO) aO) (cnt_cons (cnt_cons cnt_nil))) (aC (cu a__worth hr rfl (aC (Ek Sv Ei) (aC Sv (aC Sv (aC Ei aM aY) aO) aO) lq) (cnt_cons (cnt_cons (cnt_cons (cnt_cons cnt_nil))))) aM eY) eY) (cnt_cons (cnt_cons cnt_nil))))) (aF (aZ Eb) aH) aH) (aF (bH (rC (lQ (cu a__right hr rfl (aC (K8 a_change_of__change hr (Ek Sv Ei) (aC Sv (aC Sv (aC Sv aM aO) aO) aO) (cnt_cons (cnt_cons (cnt_cons cnt_nil)))) (aC (cu a__worth hr rfl (aC (Ek Sv Ei) (aC Sv (aC Sv (aC Sv aM aO) aO) aO) lq) (cnt_cons (cnt_cons (cnt_cons (cnt_cons cnt_nil))))) aM eY) eY) (cnt_cons (cnt_cons cnt_nil))))) (aF (aZ Eb) aH) aH) aH)))))))))) ?_;exact aF (aZ Eb) aH
theorem zd0 (T:Txt K mg C w)(a_sieve_of:bf P w K mg base k "sieve_of" 1 pG)(a_change_of:bf P w K mg base k "change_of" 2 m_)(a__drawn:bf P w K mg base k "_law_drawn" 2 wR)(a__expr:bf P w K mg base k "_law_expr" 3 wU)(a__cond:bf P w K mg base k "_law_cond" 2 yV)(a__bounds:bf P w K mg base k "_law_bounds" 1 yU)(a__refused:bf P w K mg base k "_law_refused" 2 pD)(a__asked:bf P w K mg base k "_law_asked" 4 yS):RT P w K mg base k f ["_law_script","_law_cell","_law_xs","_law_told","_law_handed","_law_made","_law_words","_law_kind"] "law" lO BK:=fun cdv A outer s H E hr=>by
  refine @cN _ _ _ _ _ hr fun hu=>?_;have nd:=(Tv).nd;have B_len:=T.blt "len" (by x_go);have B_list:=T.blt "list" (by x_go);have B_min:=T.blt "min" (by x_go);have B_range:=T.blt "range" (by x_go);refine @aF _ _ _ _ _ _ ?_ ?_
  · refine @rB _ _ _ _ _ _ _ _ _ _ xba rfl nd rfl Lv ?_ ?_ (by first |rfl |exact .inl rfl |exact .inr rfl |exact fun _ _=>rfl |exact fun _=>rfl |exact⟨rfl,rfl,rfl,rfl⟩ |decide +kernel |kernel_rfl) (by first |rfl |exact .inl rfl |exact .inr rfl |exact fun _ _=>rfl |exact fun _=>rfl |exact⟨rfl,rfl,rfl,rfl⟩ |decide +kernel |kernel_rfl)
    · refine @Ld _ _ _ _ _ ?_
      · refine @aK _ _ _ _ _ _ _ _ _ _ _ cI cL ?_ ?_
        · refine @SN.sem _ _ _ _ _ ?_ lst_is
          · refine @cW _ _ _ _ _ ?_
            · refine @aC _ _ _ _ _ _ _ Ei aM aY
        · refine @SN.sem _ _ _ _ _ (Uk "_law_k" [("_law_script",0)] rfl (by x_go) (Az rfl B_range (aC (gj (yJ rfl) rfl B_min boot_min z8 (aC Ei (aC (gj wI rfl B_len xbT xH (aC (sO rfl (.inr Lu)) aM aO)) aM eY) aY)) aM eY)) (fun _ _ _ _ _ _=>Ul) (fun _ _ _ _ _ _=>(aK cI cL (Ek (sO rfl (.inr (.inl (by kernel_rfl)))) (sO rfl (.inl (by kernel_rfl)))) (aK dX dY Ei (sO rfl (.inl (by kernel_rfl))))))) Oc
    · refine @aF _ _ _ _ _ _ ?_ ?_
      · refine @bK _ _ _ 2 _ _ _ _ nd rfl Lv ?_ (by first |rfl |exact .inl rfl |exact .inr rfl |exact fun _ _=>rfl |exact fun _=>rfl |exact⟨rfl,rfl,rfl,rfl⟩ |decide +kernel |kernel_rfl) (by first |rfl |exact .inl rfl |exact .inr rfl |exact fun _ _=>rfl |exact fun _=>rfl |exact⟨rfl,rfl,rfl,rfl⟩ |decide +kernel |kernel_rfl)
        · refine @cu _ _ _ _ _ _ _ _ _ _ _ _ a__drawn hr rfl ?_ ?_ (by first |rfl |exact .inl rfl |exact .inr rfl |exact fun _ _=>rfl |exact fun _=>rfl |exact⟨rfl,rfl,rfl,rfl⟩ |decide +kernel |kernel_rfl) (by first |rfl |exact .inl rfl |exact .inr rfl |exact fun _ _=>rfl |exact fun _=>rfl |exact⟨rfl,rfl,rfl,rfl⟩ |decide +kernel |kernel_rfl) (by first |rfl |exact .inl rfl |exact .inr rfl |exact fun _ _=>rfl |exact fun _=>rfl |exact⟨rfl,rfl,rfl,rfl⟩ |decide +kernel |kernel_rfl)
          · refine @aC _ _ _ _ _ _ _ Sv ?_ aO
            · refine @aC _ _ _ _ _ _ _ Ei aM aY
          · exact(cnt_cons (cnt_cons cnt_nil))
      · refine @aF _ _ _ _ _ _ ?_ ?_
        · refine @bK _ _ _ 3 _ _ _ _ nd rfl Lv ?_ (by first |rfl |exact .inl rfl |exact .inr rfl |exact fun _ _=>rfl |exact fun _=>rfl |exact⟨rfl,rfl,rfl,rfl⟩ |decide +kernel |kernel_rfl) (by first |rfl |exact .inl rfl |exact .inr rfl |exact fun _ _=>rfl |exact fun _=>rfl |exact⟨rfl,rfl,rfl,rfl⟩ |decide +kernel |kernel_rfl)
          · refine @rm _ _ _ _ _ ?_
            · refine @cW _ _ _ _ _ ?_
              · refine @aC _ _ _ _ _ _ _ ?_ ?_ eY
                · refine @cu _ _ _ _ _ _ _ _ _ _ _ _ a__cond hr rfl ?_ ?_ (by first |rfl |exact .inl rfl |exact .inr rfl |exact fun _ _=>rfl |exact fun _=>rfl |exact⟨rfl,rfl,rfl,rfl⟩ |decide +kernel |kernel_rfl) (by first |rfl |exact .inl rfl |exact .inr rfl |exact fun _ _=>rfl |exact fun _=>rfl |exact⟨rfl,rfl,rfl,rfl⟩ |decide +kernel |kernel_rfl) (by first |rfl |exact .inl rfl |exact .inr rfl |exact fun _ _=>rfl |exact fun _=>rfl |exact⟨rfl,rfl,rfl,rfl⟩ |decide +kernel |kernel_rfl)
                  · refine @aC _ _ _ _ _ _ _ ?_ ?_ lq
                    · refine @gk _ _ _ _ _ _ _ _ _ _ gb gh Sv Ei (by first |rfl |exact .inl rfl |exact .inr rfl |exact fun _ _=>rfl |exact fun _=>rfl |exact⟨rfl,rfl,rfl,rfl⟩ |decide +kernel |kernel_rfl)
                    · refine @aC _ _ _ _ _ _ _ ?_ aM k_
                      · refine @aK _ _ _ _ _ _ _ _ _ _ _ cI cL Ei ?_
                        · refine @aK _ _ _ _ _ _ _ _ _ _ _ cJ cM ?_ Ei
                          · refine @gk _ _ _ _ _ _ _ _ _ _ gb gh Sv Ei (by first |rfl |exact .inl rfl |exact .inr rfl |exact fun _ _=>rfl |exact fun _=>rfl |exact⟨rfl,rfl,rfl,rfl⟩ |decide +kernel |kernel_rfl)
                  · exact(cnt_cons (cnt_cons cnt_nil))
                · refine @aC _ _ _ _ _ _ _ ?_ aM eY
                  · refine @cu _ _ _ _ _ _ _ _ _ _ _ _ a__expr hr rfl ?_ ?_ (by first |rfl |exact .inl rfl |exact .inr rfl |exact fun _ _=>rfl |exact fun _=>rfl |exact⟨rfl,rfl,rfl,rfl⟩ |decide +kernel |kernel_rfl) (by first |rfl |exact .inl rfl |exact .inr rfl |exact fun _ _=>rfl |exact fun _=>rfl |exact⟨rfl,rfl,rfl,rfl⟩ |decide +kernel |kernel_rfl) (by first |rfl |exact .inl rfl |exact .inr rfl |exact fun _ _=>rfl |exact fun _=>rfl |exact⟨rfl,rfl,rfl,rfl⟩ |decide +kernel |kernel_rfl)
                    · refine @aC _ _ _ _ _ _ _ ?_ ?_ lq
                      · refine @gk _ _ _ _ _ _ _ _ _ _ gb gh Sv Ei (by first |rfl |exact .inl rfl |exact .inr rfl |exact fun _ _=>rfl |exact fun _=>rfl |exact⟨rfl,rfl,rfl,rfl⟩ |decide +kernel |kernel_rfl)
                      · refine @aC _ _ _ _ _ _ _ Es ?_ aY
                        · refine @aC _ _ _ _ _ _ _ ?_ aM k_
                          · refine @aK _ _ _ _ _ _ _ _ _ _ _ cI cL Ei ?_
                            · refine @aK _ _ _ _ _ _ _ _ _ _ _ cJ cM ?_ Ei
                              · refine @gk _ _ _ _ _ _ _ _ _ _ gb gh Sv Ei (by first |rfl |exact .inl rfl |exact .inr rfl |exact fun _ _=>rfl |exact fun _=>rfl |exact⟨rfl,rfl,rfl,rfl⟩ |decide +kernel |kernel_rfl)
                    · exact(cnt_cons (cnt_cons (cnt_cons cnt_nil)))
        · refine @aF _ _ _ _ _ _ ?_ ?_
          · refine @mU _ _ _ _ _ _ _ _ _ Sv ?_ (by first |rfl |exact .inl rfl |exact .inr rfl |exact fun _ _=>rfl |exact fun _=>rfl |exact⟨rfl,rfl,rfl,rfl⟩ |decide +kernel |kernel_rfl) (by first |rfl |exact .inl rfl |exact .inr rfl |exact fun _ _=>rfl |exact fun _=>rfl |exact⟨rfl,rfl,rfl,rfl⟩ |decide +kernel |kernel_rfl) (by first |rfl |exact .inl rfl |exact .inr rfl |exact fun _ _=>rfl |exact fun _=>rfl |exact⟨rfl,rfl,rfl,rfl⟩ |decide +kernel |kernel_rfl) (by first |rfl |exact .inl rfl |exact .inr rfl |exact fun _ _=>rfl |exact fun _=>rfl |exact⟨rfl,rfl,rfl,rfl⟩ |decide +kernel |kernel_rfl) (by first |rfl |exact .inl rfl |exact .inr rfl |exact fun _ _=>rfl |exact fun _=>rfl |exact⟨rfl,rfl,rfl,rfl⟩ |decide +kernel |kernel_rfl)
            · refine @cu _ _ _ _ _ _ _ _ _ _ _ _ a__expr hr rfl ?_ ?_ (by first |rfl |exact .inl rfl |exact .inr rfl |exact fun _ _=>rfl |exact fun _=>rfl |exact⟨rfl,rfl,rfl,rfl⟩ |decide +kernel |kernel_rfl) (by first |rfl |exact .inl rfl |exact .inr rfl |exact fun _ _=>rfl |exact fun _=>rfl |exact⟨rfl,rfl,rfl,rfl⟩ |decide +kernel |kernel_rfl) (by first |rfl |exact .inl rfl |exact .inr rfl |exact fun _ _=>rfl |exact fun _=>rfl |exact⟨rfl,rfl,rfl,rfl⟩ |decide +kernel |kernel_rfl)
              · refine @aC _ _ _ _ _ _ _ ?_ ?_ lq
                · refine @gk _ _ _ _ _ _ _ _ _ _ gb gh Sv Ei (by first |rfl |exact .inl rfl |exact .inr rfl |exact fun _ _=>rfl |exact fun _=>rfl |exact⟨rfl,rfl,rfl,rfl⟩ |decide +kernel |kernel_rfl)
                · refine @aC _ _ _ _ _ _ _ Es ?_ aY
                  · refine @aC _ _ _ _ _ _ _ ?_ aM k_
                    · refine @aK _ _ _ _ _ _ _ _ _ _ _ cI cL Ei ?_
                      · refine @aK _ _ _ _ _ _ _ _ _ _ _ cJ cM ?_ Ei
                        · refine @gk _ _ _ _ _ _ _ _ _ _ gb gh Sv Ei (by first |rfl |exact .inl rfl |exact .inr rfl |exact fun _ _=>rfl |exact fun _=>rfl |exact⟨rfl,rfl,rfl,rfl⟩ |decide +kernel |kernel_rfl)
              · exact(cnt_cons (cnt_cons (cnt_cons cnt_nil)))
          · refine @aF _ _ _ _ _ _ (zbe 1000 "_law_words" [] (i:=4) nd rfl Lv rfl (by x_go) Sv (fun _ _ _ _ _ _=>(rm (zbS rfl B_list (sO rfl (.inl (by kernel_rfl))))))) ?_
            · refine @aF _ _ _ _ _ _ ?_ ?_
              · refine @bH _ _ _ _ _ _ _ _ _ ?_ ?_ aH
                · refine @rC _ _ _ _ _ ?_
                  · refine @lQ _ _ _ _ ?_ (by first |rfl |exact .inl rfl |exact .inr rfl |exact fun _ _=>rfl |exact fun _=>rfl |exact⟨rfl,rfl,rfl,rfl⟩ |decide +kernel |kernel_rfl)
                    · refine @cu _ _ _ _ _ _ _ _ _ _ _ _ a__bounds hr rfl ?_ ?_ (by first |rfl |exact .inl rfl |exact .inr rfl |exact fun _ _=>rfl |exact fun _=>rfl |exact⟨rfl,rfl,rfl,rfl⟩ |decide +kernel |kernel_rfl) (by first |rfl |exact .inl rfl |exact .inr rfl |exact fun _ _=>rfl |exact fun _=>rfl |exact⟨rfl,rfl,rfl,rfl⟩ |decide +kernel |kernel_rfl) (by first |rfl |exact .inl rfl |exact .inr rfl |exact fun _ _=>rfl |exact fun _=>rfl |exact⟨rfl,rfl,rfl,rfl⟩ |decide +kernel |kernel_rfl)
                      · refine @aC _ _ _ _ _ _ _ Sv aM aO
                      · exact(cnt_cons cnt_nil)
                · refine @aF _ _ _ _ _ _ ?_ aH
                  · refine @aZ _ _ _ _ _ Eb
              · refine @aF _ _ _ _ _ _ ?_ ?_
                · refine @bK _ _ _ 5 _ _ _ _ nd rfl Lv ?_ (by first |rfl |exact .inl rfl |exact .inr rfl |exact fun _ _=>rfl |exact fun _=>rfl |exact⟨rfl,rfl,rfl,rfl⟩ |decide +kernel |kernel_rfl) (by first |rfl |exact .inl rfl |exact .inr rfl |exact fun _ _=>rfl |exact fun _=>rfl |exact⟨rfl,rfl,rfl,rfl⟩ |decide +kernel |kernel_rfl)
                  · refine @SN.sem _ _ _ _ _ ?_ lst_is
                    · refine @cW _ _ _ _ _ ?_
                      · refine @aC _ _ _ _ _ _ _ ?_ ?_ eY
                        · refine @cu _ _ _ _ _ _ _ _ _ _ _ _ a_sieve_of hr rfl ?_ ?_ (by first |rfl |exact .inl rfl |exact .inr rfl |exact fun _ _=>rfl |exact fun _=>rfl |exact⟨rfl,rfl,rfl,rfl⟩ |decide +kernel |kernel_rfl) (by first |rfl |exact .inl rfl |exact .inr rfl |exact fun _ _=>rfl |exact fun _=>rfl |exact⟨rfl,rfl,rfl,rfl⟩ |decide +kernel |kernel_rfl) (by first |rfl |exact .inl rfl |exact .inr rfl |exact fun _ _=>rfl |exact fun _=>rfl |exact⟨rfl,rfl,rfl,rfl⟩ |decide +kernel |kernel_rfl)
                          · refine @aC _ _ _ _ _ _ _ ?_ aM lq
                            · refine @gk _ _ _ _ _ _ _ _ _ _ gb gh Sv Ei (by first |rfl |exact .inl rfl |exact .inr rfl |exact fun _ _=>rfl |exact fun _=>rfl |exact⟨rfl,rfl,rfl,rfl⟩ |decide +kernel |kernel_rfl)
                          · exact(cnt_cons cnt_nil)
                        · refine @aC _ _ _ _ _ _ _ ?_ ?_ eY
                          · refine @cu _ _ _ _ _ _ _ _ _ _ _ _ a_change_of hr rfl ?_ ?_ (by first |rfl |exact .inl rfl |exact .inr rfl |exact fun _ _=>rfl |exact fun _=>rfl |exact⟨rfl,rfl,rfl,rfl⟩ |decide +kernel |kernel_rfl) (by first |rfl |exact .inl rfl |exact .inr rfl |exact fun _ _=>rfl |exact fun _=>rfl |exact⟨rfl,rfl,rfl,rfl⟩ |decide +kernel |kernel_rfl) (by first |rfl |exact .inl rfl |exact .inr rfl |exact fun _ _=>rfl |exact fun _=>rfl |exact⟨rfl,rfl,rfl,rfl⟩ |decide +kernel |kernel_rfl)
                            · refine @aC _ _ _ _ _ _ _ ?_ ?_ lq
                              · refine @gk _ _ _ _ _ _ _ _ _ _ gb gh Sv Ei (by first |rfl |exact .inl rfl |exact .inr rfl |exact fun _ _=>rfl |exact fun _=>rfl |exact⟨rfl,rfl,rfl,rfl⟩ |decide +kernel |kernel_rfl)
                              · refine @aC _ _ _ _ _ _ _ Es aM aY
                            · exact(cnt_cons (cnt_cons cnt_nil))
                          · refine @aC _ _ _ _ _ _ _ ?_ aM eY
                            · refine @cu _ _ _ _ _ _ _ _ _ _ _ _ a_change_of hr rfl ?_ ?_ (by first |rfl |exact .inl rfl |exact .inr rfl |exact fun _ _=>rfl |exact fun _=>rfl |exact⟨rfl,rfl,rfl,rfl⟩ |decide +kernel |kernel_rfl) (by first |rfl |exact .inl rfl |exact .inr rfl |exact fun _ _=>rfl |exact fun _=>rfl |exact⟨rfl,rfl,rfl,rfl⟩ |decide +kernel |kernel_rfl) (by first |rfl |exact .inl rfl |exact .inr rfl |exact fun _ _=>rfl |exact fun _=>rfl |exact⟨rfl,rfl,rfl,rfl⟩ |decide +kernel |kernel_rfl)
                              · refine @aC _ _ _ _ _ _ _ ?_ ?_ lq
                                · refine @gk _ _ _ _ _ _ _ _ _ _ gb gh Sv Ei (by first |rfl |exact .inl rfl |exact .inr rfl |exact fun _ _=>rfl |exact fun _=>rfl |exact⟨rfl,rfl,rfl,rfl⟩ |decide +kernel |kernel_rfl)
                                · refine @aC _ _ _ _ _ _ _ Es aM aY
                              · exact(cnt_cons (cnt_cons cnt_nil))
                · refine @aF _ _ _ _ _ _ ?_ ?_
                  · refine @bH _ _ _ _ _ _ _ _ _ ?_ ?_ aH
                    · exact(zdn (neg:=true) hu Sv Sv)
                    · refine @aF _ _ _ _ _ _ ?_ aH
                      · refine @aZ _ _ _ _ _ Eb
                  · refine @aF _ _ _ _ _ _ ?_ ?_
                    · refine @rB _ _ _ _ _ _ _ _ _ _ xba rfl nd rfl Lv ?_ ?_ (by first |rfl |exact .inl rfl |exact .inr rfl |exact fun _ _=>rfl |exact fun _=>rfl |exact⟨rfl,rfl,rfl,rfl⟩ |decide +kernel |kernel_rfl) (by first |rfl |exact .inl rfl |exact .inr rfl |exact fun _ _=>rfl |exact fun _=>rfl |exact⟨rfl,rfl,rfl,rfl⟩ |decide +kernel |kernel_rfl)
                      · refine @Ld _ _ _ _ _ Sv
                      · refine @aF _ _ _ _ _ _ ?_ aH
                        · refine @zbP _ _ _ _ _ _ _ Sv (by first |rfl |exact .inl rfl |exact .inr rfl |exact fun _ _=>rfl |exact fun _=>rfl |exact⟨rfl,rfl,rfl,rfl⟩ |decide +kernel |kernel_rfl) (by first |rfl |exact .inl rfl |exact .inr rfl |exact fun _ _=>rfl |exact fun _=>rfl |exact⟨rfl,rfl,rfl,rfl⟩ |decide +kernel |kernel_rfl) (by first |rfl |exact .inl rfl |exact .inr rfl |exact fun _ _=>rfl |exact fun _=>rfl |exact⟨rfl,rfl,rfl,rfl⟩ |decide +kernel |kernel_rfl)
                    · refine @aF _ _ _ _ _ _ ?_ ?_
                      · refine @bH _ _ _ _ _ _ _ _ _ ?_ ?_ aH
                        · refine @rC _ _ _ _ _ ?_
                          · refine @lQ _ _ _ _ ?_ (by first |rfl |exact .inl rfl |exact .inr rfl |exact fun _ _=>rfl |exact fun _=>rfl |exact⟨rfl,rfl,rfl,rfl⟩ |decide +kernel |kernel_rfl)
                            · refine @cu _ _ _ _ _ _ _ _ _ _ _ _ a__asked hr rfl ?_ ?_ (by first |rfl |exact .inl rfl |exact .inr rfl |exact fun _ _=>rfl |exact fun _=>rfl |exact⟨rfl,rfl,rfl,rfl⟩ |decide +kernel |kernel_rfl) (by first |rfl |exact .inl rfl |exact .inr rfl |exact fun _ _=>rfl |exact fun _=>rfl |exact⟨rfl,rfl,rfl,rfl⟩ |decide +kernel |kernel_rfl) (by first |rfl |exact .inl rfl |exact .inr rfl |exact fun _ _=>rfl |exact fun _=>rfl |exact⟨rfl,rfl,rfl,rfl⟩ |decide +kernel |kernel_rfl)
                              · refine @aC _ _ _ _ _ _ _ Sv ?_ aO
                                · refine @aC _ _ _ _ _ _ _ Sv ?_ aO
                                  · refine @aC _ _ _ _ _ _ _ Sv ?_ aO
                                    · refine @aC _ _ _ _ _ _ _ ?_ aM lq
                                      · refine @La _ _ _ _ _ _ _ _ _ _ _ Sv ?_ Lh
                                        · refine @Lg _ W0 _ _ Ei
                              · exact(cnt_cons (cnt_cons (cnt_cons (cnt_cons cnt_nil))))
                        · refine @aF _ _ _ _ _ _ ?_ aH
                          · refine @aZ _ _ _ _ _ Eb
                      · refine @aF _ _ _ _ _ _ ?_ aH
                        · refine @rB _ _ _ _ _ _ _ _ _ _ xba rfl nd rfl Lv ?_ ?_ (by first |rfl |exact .inl rfl |exact .inr rfl |exact fun _ _=>rfl |exact fun _=>rfl |exact⟨rfl,rfl,rfl,rfl⟩ |decide +kernel |kernel_rfl) (by first |rfl |exact .inl rfl |exact .inr rfl |exact fun _ _=>rfl |exact fun _=>rfl |exact⟨rfl,rfl,rfl,rfl⟩ |decide +kernel |kernel_rfl)
                          · refine @Az _ _ _ _ _ _ _ rfl B_range ?_ (by first |rfl |exact .inl rfl |exact .inr rfl |exact fun _ _=>rfl |exact fun _=>rfl |exact⟨rfl,rfl,rfl,rfl⟩ |decide +kernel |kernel_rfl)
                            · refine @aC _ _ _ _ _ _ _ Ei aM aY
                          · refine @aF _ _ _ _ _ _ ?_ aH
                            · refine @bH _ _ _ _ _ _ _ _ _ ?_ ?_ aH
                              · refine @rC _ _ _ _ _ ?_
                                · refine @lQ _ _ _ _ ?_ (by first |rfl |exact .inl rfl |exact .inr rfl |exact fun _ _=>rfl |exact fun _=>rfl |exact⟨rfl,rfl,rfl,rfl⟩ |decide +kernel |kernel_rfl)
                                  · refine @cu _ _ _ _ _ _ _ _ _ _ _ _ a__refused hr rfl ?_ ?_ (by first |rfl |exact .inl rfl |exact .inr rfl |exact fun _ _=>rfl |exact fun _=>rfl |exact⟨rfl,rfl,rfl,rfl⟩ |decide +kernel |kernel_rfl) (by first |rfl |exact .inl rfl |exact .inr rfl |exact fun _ _=>rfl |exact fun _=>rfl |exact⟨rfl,rfl,rfl,rfl⟩ |decide +kernel |kernel_rfl) (by first |rfl |exact .inl rfl |exact .inr rfl |exact fun _ _=>rfl |exact fun _=>rfl |exact⟨rfl,rfl,rfl,rfl⟩ |decide +kernel |kernel_rfl)
                                    · refine @aC _ _ _ _ _ _ _ ?_ ?_ lq
                                      · refine @La _ _ _ _ _ _ _ _ _ _ _ ?_ Lh ?_
                                        · refine @gk _ _ _ _ _ _ _ _ _ _ gb gh Sv Sv (by first |rfl |exact .inl rfl |exact .inr rfl |exact fun _ _=>rfl |exact fun _=>rfl |exact⟨rfl,rfl,rfl,rfl⟩ |decide +kernel |kernel_rfl)
                                        · refine @Lg _ W0 _ _ ?_
                                          · refine @Ay _ _ _ _ _ _ _ _ _ Bf z9 Ei
                                      · refine @aC _ _ _ _ _ _ _ Sv aM aO
                                    · exact(cnt_cons (cnt_cons cnt_nil))
                              · refine @aF _ _ _ _ _ _ ?_ aH
                                · refine @aZ _ _ _ _ _ Eb
  refine @aF _ _ _ _ _ _ ?_ ?_
  · refine @aZ _ _ _ _ _ Eb
  exact aH
end
noncomputable def tabs:List (Str×FnT):=[("sieve_of",lF),("change_of",f9)]
noncomputable def uc:Nat:=9
def mO:G:=O_
abbrev wNs:String:="xK Kw Ky Kp Kr Ks zen Ke Kf Kz KC KD zdX zd5 q_1 r_1 q_2 r_2 Ko zeS zef MJ zeF zdD zdx zeZ zcl zeR zep zeh J_ zeU zeg zer zcS zdq zc7 q_n r_n zdc zdT zby zdf Kq zca zc3 zbr zdm Kd zem zdz zeb zej zdN zcP Ry zdr zcm zeY zc2 Ku J6 zdC zei zdS zeC J4 zd3 zcz zch Kc z_ zck zcO Yr Ys Zb Yy YT Y8 Y6 JQ JN JM JL Yw YZ YG YJ YK YM YS YQ Zd Zc Y_ Y9 sizeLine_eq Option.map_some Option.map_none List.getElem?_cons_zero List.getElem?_cons_succ List.set_cons_zero List.set_cons_succ List.map_cons List.map_nil List.length_cons List.length_nil List.length_map List.replicate List.cons_append List.nil_append List.append_nil reduceCtorEq if_true if_false reduceIte Bool.not_true Bool.not_false Nat.reduceSub Nat.reduceAdd Nat.reduceLeDiff Nat.reduceLT Int.reduceLT Int.reduceLE Int.reduceAdd Int.reduceSub Int.reduceMul Int.reduceNeg Int.reduceAbs Int.reduceEq Int.reducePow Int.reduceMod Int.reduceDiv Int.reduceToNat Nat.zero_le and_true true_and and_self or_true true_or Bool.false_eq_true decide_eq_true_eq decide_true decide_false Bool.not_eq_true' decide_eq_false_iff_not not_true_eq_false not_false_eq_true eq_self zco zcs zbT zdo zcG Option.getD_some zdZ zeq ty_int ty_str zdO zc8 zcx zcK zeA zeO Mx zdM zdP zd6 zeL zda YW List.isEmpty_cons List.isEmpty_nil Bool.true_eq_false Bool.and_self Bool.and_true Bool.true_and Bool.and_false Bool.false_and zbU zbt zbC zbY zbR zeP RV zcJ zeG RP zcA zdp zcw zb7 zey zbD zbK zc0 zbZ zcB zex zd4 zeQ zd7 zeD zcr zc9 zeK zd8 zdY zd9 zdv zci Kv J9 Mr J5 J8 J7 Ac RB Ab Rz Yv Yt YH YL Za YB Yu Ze Yz Y7 Yx Y4 YC YD YF Mq Uy zeH Bool.true_or Bool.false_or Bool.or_true Bool.or_false at0 at1 at2 FW gK s_end w_end zbp zb1 RW zdB zdV zdL zee W9 W_ Xa zcX RM RN zeX zed"
local macro_rules | `(tactic| z_go)=>do
 let l <-(wNs.splitOn " ").toArray.mapM fun n=> `(Lean.Parser.Tactic.simpLemma| $(Lean.mkIdent n.toName):term)
 `(tactic| try simp only[$l,*])
variable {M:Mm}
theorem zes (c:Nat):G6 [.val (.str ⟨#[c]⟩)] M=some (.v (.bl (!gw c)),M):=by
 unfold G6;z_go;rw[WL]
theorem O9 (x:Str)(hx:x.length<=100000):za [.str x] M=some (.v (.bl (eG (cd x))),M):=by
 unfold za Gq;z_go;rw[show x.cps.toList=cd x from rfl];simp only[tW,eq_0];have hl:(cd x).length<=100000:=by rw[<-u5];exact hx
 by_cases h:cd x=[]
 ·simp only[h];z_go;rfl
 ·simp only[h];rw[GR (fun c=>D.str ⟨#[c]⟩) (fun c=>D.bl (!gw c)) (cd x) [] (fun c _=>zes c) (by rw[xa6];simp;omega)];z_go;rw[show((cd x).map fun c=>D.bl (!gw c))=((cd x).map fun c=> !gw c).map D.bl by rw[List.map_map];rfl,Nm];z_go;simp only[Vg];obtain⟨c,r,e⟩:=List.exists_cons_of_ne_nil h;unfold eG;cases hd:(cd x).all gw
  ·z_go
  ·z_go;rw[xab (show x.length<=16777216 by omega),show x.cps.toList=cd x from rfl];simp only[h,eq_0];rw[e,show bR (c::r) 0=some c by simp[bR,pJ]]
   by_cases h0:(c::r)=[48]
   ·simp only[h0];z_go
   ·simp only[h0];z_go;simp only[eq_0,Nz,List.head?_cons,xcS,xb8];z_go
theorem Wo (x:Str)(hx:x.length<=10000):zj [.str x] M=some (.v (.bl (good (cd x))),M):=by
 unfold zj Gv;z_go;rw[zeI];have hl:=u5 x
 by_cases h:(cd x).head? =some 45
 ·obtain⟨r,e⟩:∃r,cd x=45::r:=by
   cases hc:cd x with
   |nil=>rw[hc]at h;cases h
   |cons c r=>rw[hc]at h;simp at h;exact⟨r,by rw[h]⟩
  have hs:=za0 e;have hr:(Txt.slice x (some 1) none).length<=10000:=by
   rw[u5,hs];rw[e]at hl
   simp at hl
   omega
  simp only[h];z_go;rw[xab (show x.length<=16777216 by omega)];z_go;simp only[Ov,O9 _ (show(Txt.slice x (some 1) none).length<=100000 by omega),hs];unfold good fJ;rw[xab h];simp only[e,xdh]
  by_cases h2:45::r=[45,48]
  ·simp only[h2];z_go
  ·simp only[h2];z_go
 ·simp only[h];z_go;simp only[Ov,O9 _ (show x.length<=100000 by omega)];unfold good fJ;rw[xaf h]
  by_cases h2:cd x=[45,48]
  ·simp only[h2];z_go
  ·simp only[h2];z_go
def eO (x:Str):Bool:=good (cd x) && decide ((fJ (cd x)).length<=20)
theorem g_num (x:Str)(hx:x.length<=10000):zf [.str x] M=some (.v (.bl (eO x)),M):=by
 unfold zf Gu eO;z_go;simp only[Wo x hx];z_go;rw[xab (show x.length<=16777216 by omega)];z_go;cases hg:good (cd x)
 ·z_go
 ·have hl:=Xw hg;have:=PyProof.Rows.len_lstripChars x (Str.ofString "-");z_go;rw[xab (by omega),hl];z_go;congr 4;rw[xaI];simp only[xaC];omega
noncomputable def tvw (x:Str):Bool:=decide (x="t") || decide (x="v") || decide (x="w")
def lf (x L:Str):Bool:=eO x || (tvw x && nj x L)
theorem Zf {x:Str}:aG .isin (.str x) (.tup [.str "t",.str "v",.str "w"])=some (.bl (tvw x)):=by
 have q:∀y:Str,D.eq (.str y) (.str x)=decide (x=y):=fun y=>by
  simp only[D.eq];rw[xaI]
  simp
  exact eq_comm
 unfold aG bZ mZ tvw;simp only[D.flat,xbA,List.all_nil,xbC,xaP,xbH,List.any_nil,Bool.or_false,q,xaD];rw[Bool.or_assoc]
theorem Pa (x L:Str)(hx:x.length<=10000):zc [.str x,.str L] M=some (.v (.bl (lf x L)),M):=by
 unfold zc Gs lf;z_go;simp only[g_num x hx];cases eO x
 ·z_go;rw[Zf];cases tvw x
  ·z_go
  ·z_go
 ·z_go
theorem XJ {x z c:Str}{env:E3.Env}{k:Nat}(he:env[k]? =some (.val (.str x)))(hx:x.length<=100000)(hz:z.length<=1000):p7 c (fU (kh (aj k) (fK z fL))) env M=some (.ex c 0,M):=by
 rw[Ka,J5,RB,Ke,he,Kz,Kq,Uy,xa6,xab (show x.length<=16777216 by omega),Ac,xa6];have e:(Str.empty ++ x).length=x.length:=by rw[xbI,show Str.empty.length=0 from rfl];omega
 rw[xab (by omega),J7,xa6,xab (by rw[xbI];omega),J8,xa6,xab (by rw[xbI];omega)];rfl
theorem XH {x z c:Str}{env:E3.Env}{k:Nat}(he:env[k]? =some (.val (.str x)))(hx:(reprText x).length<=100000)(hz:z.length<=1000):p7 c (fU (mK (aj k) (fK z fL))) env M=some (.ex c 0,M):=by
 rw[Ka,J5,Rz,Ke,he,Kz,Kq];have e:(Str.empty ++ reprText x).length=(reprText x).length:=by rw[xbI,show Str.empty.length=0 from rfl];omega
 rw[Ab,xa6,xab ⟨by omega,by omega⟩,J7,xa6,xab (by rw[xbI];omega),J8,xa6,xab (by rw[xbI];omega)];rfl
def sm (x:Str):Prop:=x.length<=9000/\∀c∈cd x,c<4294967296
theorem sm.rp {x:Str}(h:sm x):(reprText x).length<=100000:=by
 have:=StrLaws.reprText_len x (fun c hc=>h.2 c hc);have:=h.1;omega
noncomputable def NT:List (Str×(Str×Str×Nat)):=[("+","number","number",2),("-","number","number",2),("*","number","number",2),("least","number","number",2),("most","number","number",2),("<","truth","number",2),("=","truth","number",2),("not","truth","truth",1),("and","truth","truth",2),("or","truth","truth",2)]
noncomputable def bM (x:Str):Option (Str×Str×Nat):=(NT.find? fun p=>decide (p.1=x)).map (·.2)
noncomputable def gD (q:Str×Str×Nat):D:=.tup [.str q.1,.str q.2.1,.int q.2.2]
theorem zcp:wz=NT.map fun p=>(p.1,gD p.2):=rfl
theorem rW {x:Str}:dH wz x=(bM x).map gD:=by
 rw[zcp];unfold dH bM;rw[List.find?_map];show Option.map _ (Option.map _ (NT.find? fun p=>decide (p.1=x)))=_;cases NT.find? fun p=>decide (p.1=x)<;>rfl
theorem Io {x:Str}{q:Str×Str×Nat}(h:bM x=some q):(x,q)∈NT:=by
 unfold bM at h;rw[xac]at h;obtain⟨p,hp,rfl⟩:=h;have h1:=List.find?_some hp;have h2:=List.mem_of_find?_eq_some hp;rw[<-xch h1];exact h2
theorem Yp:NT.all (fun p=>(decide (p.2.2.2=1) || decide (p.2.2.2=2)) && (!eO p.1 && (!tvw p.1 && decide (p.1.length<=5))))=true:=by x_go
theorem zO {x:Str}{q:Str×Str×Nat}(h:bM x=some q):(q.2.2=1\/q.2.2=2)/\eO x=false/\tvw x=false/\x.length<=5:=by
 have:=xbb.mp Yp _ (Io h);simp only[xam,xbm,xaC,xcR]at this;exact this
theorem X5 {x:Str}(h:eO x=true\/tvw x=true):bM x=none:=by
  cases hn:bM x with
  |none=>rfl
  |some d=>
    obtain⟨_,h1,h2,_⟩:=zO hn;rw[h1,h2]at h;rcases h with h |h<;>cases h
theorem H_ {x L:Str}(h:lf x L=true):bM x=none:=by
 unfold lf at h;rw[xbm,xam]at h;exact X5 (h.imp id (·.1))
noncomputable def dD (a:Str):Nat->List Str->Option (List Str)
 |0,ks=>some ks
 |_ + 1,[]=>none
 |n + 1,b::ks=>if b=a then dD a n ks else none
noncomputable def stepK (L x:Str) (ks:List Str):Option (List Str):=match bM x with
 |some q=>(dD q.2.1 q.2.2 ks).map (q.1:: ·)
 |none=>if lf x L=true then some ("number"::ks) else none
noncomputable def runK (L:Str):List Str->List Str->Option (List Str)
 | [],ks=>some ks
 |x::xs,ks=>(stepK L x ks).bind (runK L xs)
theorem vo {L:Str}:∀{xs ys ks:List Str},runK L (xs ++ ys) ks=(runK L xs ks).bind (runK L ys)
  | [],_,_=>rfl
  |x::xs,ys,ks=>by
    rw[xbY,runK,runK]
    cases stepK L x ks with
    |none=>rfl
    |some k=>exact vo
abbrev kc (ks:List Str):E3.Cl:=.lst (ks.map D.str).reverse
theorem pU {k:Nat}{d:D}{ds:List D}:pR M k (d::ds).reverse (d::ds).reverse[(d::ds).reverse.length - 1]? =some (.v d,M.set k (.lst ds.reverse)):=by
 have e1:(d::ds).reverse[(d::ds).reverse.length - 1]? =some d:=by simp
 have e2:(d::ds).reverse.dropLast=ds.reverse:=by simp
 rw[e1,RV,e2]
theorem Mt {x:Str}{q:Str×Str×Nat}{i:Int}{ks:List Str}(hl:x.length<=5):HX [.val (.str x),.val (.ref M.length),.val (gD q),.val (.int i)] (M ++ [kc ks])=match ks with
    | []=>some (.ex "NoExpr" 0,M ++ [kc []])
    |b::ks=>if b=q.2.1 then some (.nx [.val (.str x),.val (.ref M.length),.val (gD q),.val (.int i)],M ++ [kc ks]) else some (.ex "NoExpr" 0,M ++ [kc ks]):=by
  have mg:∀N:Mm,p7 "NoExpr" (fU (kh (aj 0) (fK " needs other words behind it" fL))) [.val (.str x),.val (.ref M.length),.val (gD q),.val (.int i)] N=some (.ex "NoExpr" 0,N):=fun N=>XJ (M:=N) (k:=0) rfl (show x.length<=100000 by omega) (by x_go);unfold HX kc gD;unfold gD at mg
  cases ks with
  |nil=>
    z_go;rw[show([]:List D).reverse=[] from rfl];z_go;rw[mg];rfl
  |cons b ks=>
    z_go;rw[xdn];z_go;rw[pU];z_go
    by_cases h:b=q.2.1
    · simp only[h];z_go
    · simp only[h];z_go;rw[mg];rfl
theorem zdF {x:Str}{q:Str×Str×Nat}(h:bM x=some q)(ks:List Str):(∃ks',dD q.2.1 q.2.2 ks=some ks'/\wW [.str x,.ref M.length] (M ++ [kc ks])=some (.v .non,M ++ [kc ks']))\/(dD q.2.1 q.2.2 ks=none/\∃ks',wW [.str x,.ref M.length] (M ++ [kc ks])=some (.x "NoExpr" 0,M ++ [kc ks'])):=by
  obtain⟨hn,_,_,hl⟩:=zO h;unfold wW Gy;z_go;rw[rW,h];z_go;have i2:∀N:Mm,mapR N (bG (gD q) (.int 2))=some (.v (.int q.2.2),N):=fun N=>by
    unfold gD;z_go
  have w0:∀N:Mm,vw N (gD q)=gD q:=fun N=>rfl;simp only[w0,i2];z_go;rcases hn with hn |hn
  · rw[hn,xM (by omega),show((List.range ((1:Nat):Int).toNat).map fun(k:Nat)=>D.int (0 + k))=[.int 0] from rfl];z_go;rw[Mt hl]
    cases ks with
    |nil=>exact .inr ⟨rfl,[],rfl⟩
    |cons b ks=>
      dsimp only;unfold dD
      by_cases hb:b=q.2.1
      · rw[xab hb,xab hb];exact .inl ⟨ks,rfl,rfl⟩
      · rw[xaf hb,xaf hb];exact .inr ⟨rfl,ks,rfl⟩
  · rw[hn,xM (by omega),show((List.range ((2:Nat):Int).toNat).map fun(k:Nat)=>D.int (0 + k))=[.int 0,.int 1] from rfl];z_go;rw[Mt hl]
    cases ks with
    |nil=>exact .inr ⟨rfl,[],rfl⟩
    |cons b ks=>
      dsimp only;unfold dD
      by_cases hb:b=q.2.1
      · rw[xab hb,xab hb];z_go;rw[Mt hl]
        cases ks with
        |nil=>exact .inr ⟨rfl,[],rfl⟩
        |cons b ks=>
          dsimp only;unfold dD
          by_cases hb:b=q.2.1
          · rw[xab hb,xab hb];exact .inl ⟨ks,rfl,rfl⟩
          · rw[xaf hb,xaf hb];exact .inr ⟨rfl,ks,rfl⟩
      · rw[xaf hb,xaf hb];exact .inr ⟨rfl,ks,rfl⟩
theorem Qd {ks:List Str}{y:Str}:(ks.map D.str).reverse ++ [D.str y]=((y::ks).map D.str).reverse:=by rw[xau,xdJ]
theorem VL {d0:D}{x L wt:Str}{ks:List Str}(hx:sm x)(hk:ks.length<1000):(∃ks',stepK L x ks=some ks'/\nu [.val d0,.val (.str L),.val (.str wt),.val (.ref M.length),.val (.str x)] (M ++ [kc ks])=some (.nx [.val d0,.val (.str L),.val (.str wt),.val (.ref M.length),.val (.str x)],M ++ [kc ks']))\/(stepK L x ks=none/\∃ks',nu [.val d0,.val (.str L),.val (.str wt),.val (.ref M.length),.val (.str x)] (M ++ [kc ks])=some (.ex "NoExpr" 0,M ++ [kc ks'])):=by
  have mg:=XH (M:=M ++ [kc ks]) (c:="NoExpr") (z:=" may not stand here") (k:=4) (env:=[.val d0,.val (.str L),.val (.str wt),.val (.ref M.length),.val (.str x)]) rfl hx.rp (by x_go);unfold nu stepK
  cases hn:bM x with
  |some q=>
    have i0:∀N:Mm,mapR N (bG (gD q) (.int 0))=some (.v (.str q.1),N):=fun N=>by
      unfold gD;z_go
    have w0:∀N:Mm,vw N (gD q)=gD q:=fun N=>rfl;dsimp only;rcases zdF (M:=M) hn ks with⟨ks',e1,e2⟩ |⟨e1,ks',e2⟩
    · have hk':ks'.length<=ks.length:=by
        have:∀(n:Nat) (ks ks':List Str),dD q.2.1 n ks=some ks'->ks'.length<=ks.length:=fun n=>by
          induction n with
          |zero=>intro ks ks' h;cases h;exact xai _
          |succ n ih=>
            intro ks ks' h
            cases ks with
            |nil=>cases h
            |cons b ks=>
              unfold dD at h;split at h
              · have:=ih ks ks' h;rw[xao];omega
              · cases h
        exact this _ _ _ e1
      refine .inl ⟨q.1::ks',by rw[e1];rfl,?_⟩;z_go;rw[rW,hn];simp only[xaD,xca];z_go;rw[e2];z_go;rw[rW,hn];z_go;simp only[w0,i0];unfold kc;z_go;rw[xal,xap,xab (by omega),Qd];z_go
    · refine .inr ⟨by rw[e1];rfl,ks',?_⟩;z_go;rw[rW,hn];simp only[xaD,xca];z_go;rw[e2];rfl
  |none=>
    dsimp only;cases hf:lf x L
    · refine .inr ⟨rfl,ks,?_⟩;z_go;rw[rW,hn];simp only[xdb,xcL];z_go;rw[Pa x L (by have:=hx.1;omega),hf];z_go;rw[mg];rfl
    · refine .inl ⟨"number"::ks,rfl,?_⟩;z_go;rw[rW,hn];simp only[xdb,xcL];z_go;rw[Pa x L (by have:=hx.1;omega),hf];unfold kc;z_go;rw[xal,xap,xab (by omega),Qd];z_go
theorem zaI {L x:Str}{ks ks':List Str}(h:stepK L x ks=some ks'):ks'.length<=ks.length + 1:=by
  have tk:∀(a:Str) (n:Nat) (ks ks':List Str),dD a n ks=some ks'->ks'.length<=ks.length:=fun a n=>by
    induction n with
    |zero=>intro ks ks' h;cases h;exact xai _
    |succ n ih=>
      intro ks ks' h
      cases ks with
      |nil=>cases h
      |cons b ks=>
        unfold dD at h;split at h
        · have:=ih ks ks' h;rw[xao];omega
        · cases h
  unfold stepK at h;split at h
  · rw[xac]at h;obtain⟨k1,h1,rfl⟩:=h;have:=tk _ _ _ _ h1;rw[xao];omega
  · split at h
    · cases h;rw[xao];omega
    · cases h
theorem Dj {L:Str}:∀{xs ks ks':List Str},runK L xs ks=some ks'->ks'.length<=ks.length + xs.length
  | [],_,_,h=>by cases h;exact Nat.le_add_right _ _
  |x::xs,ks,ks',h=>by
    unfold runK at h;rw[xbo]at h;obtain⟨k1,h1,h2⟩:=h;have:=zaI h1;have:=Dj h2;rw[xao];omega
theorem Ef:∀ys:List Str,D.deps (ys.map D.str)=0
 | []=>by simp[D.deps]
 |y::ys=>by simp[D.deps,D.dep,Ef ys]
theorem Ur:∀(as bs:List Str),D.eqs (as.map D.str) (bs.map D.str)=decide (as=bs)
  | [],[]=>by simp[D.eqs]
  | [],b::bs=>by simp[D.eqs]
  |a::as,[]=>by simp[D.eqs]
  |a::as,b::bs=>by
    simp only[xau,D.eqs,D.eq,Ur as bs];rw[xaI]
    simp
theorem Y5 {as bs:List Str}:aG .ne (.lst (as.map D.str)) (.lst (bs.map D.str))=some (.bl (!decide (as=bs))):=by
 unfold aG bZ mz;rw[xab ⟨by simp[cZ,D.flat,D.dep,Ef],by simp[D.dep,Ef]⟩];simp only[D.eq,Ur,xaD]
theorem Y0 {ks:List Str}{wt:Str}:aG .ne (.lst (ks.map D.str).reverse) (.lst [.str wt])=some (.bl (!decide (ks=[wt]))):=by
 rw[<-xbX,show [D.str wt]=[wt].map D.str from rfl,Y5];have:(ks.reverse=[wt])=(ks=[wt]):=propext ⟨fun h=>by rw[<-List.reverse_reverse ks,h];rfl,fun h=>by rw[h];rfl⟩;simp only[this]
def Bk (M:Mm)(d0:D)(L wt:Str)(ws:List Str)(o:E3.OS):Prop:=(∃ks s4,o=some (.nx [.val d0,.val (.str L),.val (.str wt),.val (.ref M.length),s4],M ++ [kc ks])/\runK L ws.reverse []=some ks)\/(runK L ws.reverse []=none/\∃ks,o=some (.ex "NoExpr" 0,M ++ [kc ks]))
def fZ (M:Mm)(d0:D)(ws:List Str):Prop:=d0=.lst (ws.map D.str)\/∃j,d0=.ref j/\M[j]? =some (.lst (ws.map D.str))
theorem take_snoc {ws:List Str}{k:Nat}{x:Str}(h:ws[k]? =some x):ws.take (k + 1)=ws.take k ++ [x]:=by
 rw[List.take_add_one,h];rfl
theorem VJ {d0:D}{L wt:Str}{ws:List Str}(hd:fZ M d0 ws)(hs:∀x∈ws,sm x)(hl:ws.length<=900):Bk M d0 L wt ws (gB 4 nu [.val d0,.val (.str L),.val (.str wt),.val (.ref M.length),.un] (some (.v [d0],M ++ [kc []]))):=by
  -- a turn
  have turn:∀(k:Nat) (x:Str) (env:E3.Env) (N:Mm),ws.reverse[k]? =some x->(∃ks s4,env=[.val d0,.val (.str L),.val (.str wt),.val (.ref M.length),s4]/\N=M ++ [kc ks]/\runK L (ws.reverse.take k) []=some ks)->4<env.length/\Step (fun env N=>∃ks s4,env=[.val d0,.val (.str L),.val (.str wt),.val (.ref M.length),s4]/\N=M ++ [kc ks]/\runK L (ws.reverse.take (k + 1)) []=some ks) (Bk M d0 L wt ws) (nu (env.set 4 (.val (.str x))) N):=by
    rintro k x env N hx ⟨ks,s4,rfl,rfl,hk⟩;refine⟨by show 4<5;decide,?_⟩;have hlen:=Dj hk;have hkl:(ws.reverse.take k).length<=ws.length:=by rw[xbW,xal];exact Nat.min_le_right _ _
    rw[xbL]at hlen;show Step _ _ (nu [.val d0,.val (.str L),.val (.str wt),.val (.ref M.length),.val (.str x)] (M ++ [kc ks]));rcases VL (M:=M) (d0:=d0) (L:=L) (wt:=wt) (ks:=ks) (hs x (by have:=xaw hx;simpa using this)) (by omega) with⟨ks',e1,e2⟩ |⟨e1,ks',e2⟩
    · rw[e2];refine⟨ks',_,rfl,rfl,?_⟩;rw[take_snoc hx,vo,hk];show(stepK L x ks).bind _=_;rw[e1];rfl
    · rw[e2];refine .inr ⟨?_,ks',rfl⟩;have:ws.reverse=ws.reverse.take k ++ x::ws.reverse.drop (k + 1):=by
        have hlt:=(xad.mp hx).1;have hxe:=(xad.mp hx).2;rw[<-hxe, <-xbE hlt,xdi]
      rw[this,vo,hk];show(stepK L x ks).bind _=_;rw[e1];rfl
  rcases hd with rfl |⟨j,rfl,hj⟩
  · rw[RM];refine w6 (Bk M _ L wt ws) (fun k env N=>∃ks s4,env=[.val (.lst (ws.map D.str)),.val (.str L),.val (.str wt),.val (.ref M.length),s4]/\N=M ++ [kc ks]/\runK L (ws.reverse.take k) []=some ks) ⟨[],.un,rfl,rfl,by rw[xcE];rfl⟩ ?_ ?_
    · intro k d env N hd hJ;rw[<-xbX,xan,xac]at hd;obtain⟨x,hx,rfl⟩:=hd;exact turn k x env N hx hJ
    · rintro env N ⟨ks,s4,rfl,rfl,hk⟩;rw[xal,xap, <-xal,xcl]at hk;exact .inl ⟨ks,s4,rfl,hk⟩
  · have hjl:j<M.length:=(xad.mp hj).1;have hjN:∀c:E3.Cl,(M ++ [c])[j]? =some (.lst (ws.map D.str)):=fun c=>by rw[xax hjl];exact hj
    rw[RN,hjN,RP];refine Xu (ds:=ws.map D.str) (Bk M _ L wt ws) (fun r env N=>r<=ws.length/\∃ks s4,env=[.val (.ref j),.val (.str L),.val (.str wt),.val (.ref M.length),s4]/\N=M ++ [kc ks]/\runK L (ws.reverse.take (ws.length - r)) []=some ks) ⟨by rw[xap];exact xai _,[],.un,rfl,rfl,by rw[xap,xdE,xcE];rfl⟩ ?_ ?_
    · rintro r d env N hd ⟨hr,hJ⟩;rw[xan,xac]at hd;obtain⟨x,hx,rfl⟩:=hd;have hx':ws.reverse[ws.length - (r + 1)]? =some x:=by
        rw[xbR (by omega),show ws.length - 1 - (ws.length - (r + 1))=r by omega];exact hx
      have t:=turn _ x env N hx' hJ;obtain⟨ks,s4,_,rfl,_⟩:=hJ;refine⟨hjN _,t.1,?_⟩;have t2:=t.2;rw[show ws.length - (r + 1) + 1=ws.length - r by omega]at t2;revert t2
      cases nu (env.set 4 (.val (.str x))) (M ++ [kc ks]) with
      |none=>exact id
      |some o=>
        obtain⟨o,N⟩:=o
        cases o with
        |nx e=>exact fun z=>⟨by omega,z⟩
        |ct e=>exact fun z=>⟨by omega,z⟩
        |bk e=>exact id
        |rt d=>exact id
        |ex c n=>exact id
    · rintro env N ⟨_,ks,s4,rfl,rfl,hk⟩;rw[Nat.sub_zero, <-xal,xcl]at hk;exact .inl ⟨ks,s4,rfl,hk⟩
theorem Ca {d0:D}{L wt:Str}{ws:List Str}(hd:fZ M d0 ws)(hs:∀x∈ws,sm x)(hl:ws.length<=900):(runK L ws.reverse []=some [wt]/\rO [d0,.str L,.str wt] M=some (.v .non,M ++ [kc [wt]]))\/(runK L ws.reverse []≠some [wt]/\∃ks,rO [d0,.str L,.str wt] M=some (.x "NoExpr" 0,M ++ [kc ks])):=by
 have lp:=VJ (M:=M) (L:=L) (wt:=wt) hd hs hl;unfold rO Gm;z_go;have e0:gB 4 nu [.val d0,.val (.str L),.val (.str wt),.val (.ref M.length),.un] (some (.v [d0],M ++ [.lst []]))=gB 4 nu [.val d0,.val (.str L),.val (.str wt),.val (.ref M.length),.un] (some (.v [d0],M ++ [kc []])):=rfl;rw[e0];rcases lp with⟨ks,s4,e,hk⟩ |⟨hk,ks,e⟩
 ·rw[e];unfold kc;z_go;rw[Y0]
  by_cases h:ks=[wt]
  ·subst h;refine .inl ⟨hk,?_⟩;z_go
  ·refine .inr ⟨fun z=>h (by rw[hk]at z;exact xay z),ks,?_⟩;simp only[h];z_go;rw[Ka];z_go
 ·rw[e];refine .inr ⟨by rw[hk];exact nofun,ks,rfl⟩
def Vk (k:Str)(d:D)(m:Nat):Prop:=(k="number"/\∃i:Int,d=.int i/\i.natAbs<2 ^ (210 * m))\/(k="truth"/\∃b,d=.bl b)
inductive TyS:List Str->List D->Nat->Prop
 |nil:TyS [] [] 0
 |cons {k:Str} {d:D} {ks:List Str} {ds:List D} {m n:Nat}:Vk k d m->TyS ks ds n->TyS (k::ks) (d::ds) (m + n)
noncomputable def kE (x:Str) (a b:D):D:=match a,b with
 |.int i,.int j=>if x="+" then .int (i + j) else if x="-" then .int (i - j) else if x="*" then .int (i * j) else if x="least" then .int (if j<i then j else i) else if x="most" then .int (if j > i then j else i) else if x="<" then .bl (decide (i<j)) else .bl (decide (i=j))
 |.bl p,.bl q=>if x="and" then .bl (p && q) else .bl (p || q)
 |_,_=>.non
theorem zH {n m:Nat}(hm:m<=47)(h:n<2 ^ (210 * m)):n.log2<10000:=by
 by_cases h0:n=0
 ·rw[h0];decide
 ·have:=(Nat.log2_lt h0).mpr h;omega
theorem xJ {n a b:Nat}(h:n<2 ^ (210 * a))(hab:a<=b):n<2 ^ (210 * b):=xag h (xbZ (by decide) (by omega))
theorem zcC {i j:Int}{a b:Nat}(hi:i.natAbs<2 ^ (210 * a))(hj:j.natAbs<2 ^ (210 * b)):(i + j).natAbs<2 ^ (210 * (a + b + 1))/\(i - j).natAbs<2 ^ (210 * (a + b + 1))/\(i * j).natAbs<2 ^ (210 * (a + b + 1)):=by
 have h1:=xJ hi (Nat.le_add_right a b);have h2:=xJ hj (Nat.le_add_left b a);have h3:2 ^ (210 * (a + b)) + 2 ^ (210 * (a + b))<=2 ^ (210 * (a + b + 1)):=by
  rw[<-Nat.two_mul, <-Nat.pow_succ'];exact xbZ (by decide) (by omega)
 refine⟨by omega,by omega,?_⟩;rw[Int.natAbs_mul];have h4:i.natAbs * j.natAbs<2 ^ (210 * a) * 2 ^ (210 * b):=Nat.mul_lt_mul_of_lt_of_le hi (xb9 hj) (Nat.pos_of_ne_zero (by intro z;rw[z]at hj;exact absurd hj (xcu _)));rw[<-Nat.pow_add,show 210 * a + 210 * b=210 * (a + b) by omega]at h4;exact xag h4 (xbZ (by decide) (by omega))
theorem CZ {x:Str}{q:Str×Str×Nat}(h:bM x=some q)(h2:q.2.2=2):(x="+"\/x="-"\/x="*"\/x="least"\/x="most")/\q.1="number"/\q.2.1="number"\/(x="<"\/x="=")/\q.1="truth"/\q.2.1="number"\/(x="and"\/x="or")/\q.1="truth"/\q.2.1="truth":=by
 have:=Io h;unfold NT at this;simp only[xaJ,xcm,xdK,xdp]at this;rcases this with⟨rfl,rfl⟩ |⟨rfl,rfl⟩ |⟨rfl,rfl⟩ |⟨rfl,rfl⟩ |⟨rfl,rfl⟩ |⟨rfl,rfl⟩ |⟨rfl,rfl⟩ |⟨rfl,rfl⟩ |⟨rfl,rfl⟩ |⟨rfl,rfl⟩
 ·exact .inl ⟨.inl rfl,rfl,rfl⟩
 ·exact .inl ⟨.inr (.inl rfl),rfl,rfl⟩
 ·exact .inl ⟨.inr (.inr (.inl rfl)),rfl,rfl⟩
 ·exact .inl ⟨.inr (.inr (.inr (.inl rfl))),rfl,rfl⟩
 ·exact .inl ⟨.inr (.inr (.inr (.inr rfl))),rfl,rfl⟩
 ·exact .inr (.inl ⟨.inl rfl,rfl,rfl⟩)
 ·exact .inr (.inl ⟨.inr rfl,rfl,rfl⟩)
 ·cases h2
 ·exact .inr (.inr ⟨.inl rfl,rfl,rfl⟩)
 ·exact .inr (.inr ⟨.inr rfl,rfl,rfl⟩)
theorem X6 {x:Str}{q:Str×Str×Nat}(h:bM x=some q)(h1:q.2.2=1):x="not"/\q.1="truth"/\q.2.1="truth":=by
 have:=Io h;unfold NT at this;simp only[xaJ,xcm,xdK,xdp]at this;rcases this with⟨rfl,rfl⟩ |⟨rfl,rfl⟩ |⟨rfl,rfl⟩ |⟨rfl,rfl⟩ |⟨rfl,rfl⟩ |⟨rfl,rfl⟩ |⟨rfl,rfl⟩ |⟨rfl,rfl⟩ |⟨rfl,rfl⟩ |⟨rfl,rfl⟩<;>first |(cases h1;done) |exact⟨rfl,rfl,rfl⟩
theorem ZG {x:Str}{q:Str×Str×Nat}{a b:D}{m n:Nat}(h:bM x=some q)(h2:q.2.2=2)(ha:Vk q.2.1 a m)(hb:Vk q.2.1 b n):Vk q.1 (kE x a b) (m + n + 1):=by
 have nt:¬ (("number":Str)="truth"):=by x_go
 have tn:¬ (("truth":Str)="number"):=by x_go
 rcases CZ h h2 with⟨hx,e1,e2⟩ |⟨hx,e1,e2⟩ |⟨hx,e1,e2⟩
 ·rw[e2]at ha hb;rcases ha with⟨_,i,rfl,hi⟩ |⟨z,_⟩
  ·rcases hb with⟨_,j,rfl,hj⟩ |⟨z,_⟩
   ·obtain⟨p1,p2,p3⟩:=zcC hi hj;rw[e1];refine .inl ⟨rfl,?_⟩;have dd:∀{a b:Str},decide (a=b)=false->¬ a=b:=fun h=>xdH h;unfold kE;dsimp only;rcases hx with rfl |rfl |rfl |rfl |rfl
    ·rw[xab rfl];exact⟨_,rfl,p1⟩
    ·rw[xaf (dd (by x_go)),xab rfl];exact⟨_,rfl,p2⟩
    ·rw[xaf (dd (by x_go)),xaf (dd (by x_go)),xab rfl];exact⟨_,rfl,p3⟩
    ·rw[xaf (dd (by x_go)),xaf (dd (by x_go)),xaf (dd (by x_go)),xab rfl];refine⟨_,rfl,?_⟩
     split
     ·exact xJ hj (by omega)
     ·exact xJ hi (by omega)
    ·rw[xaf (dd (by x_go)),xaf (dd (by x_go)),xaf (dd (by x_go)),xaf (dd (by x_go)),xab rfl];refine⟨_,rfl,?_⟩
     split
     ·exact xJ hj (by omega)
     ·exact xJ hi (by omega)
   ·exact absurd z nt
  ·exact absurd z nt
 ·rw[e2]at ha hb;rcases ha with⟨_,i,rfl,hi⟩ |⟨z,_⟩
  ·rcases hb with⟨_,j,rfl,hj⟩ |⟨z,_⟩
   ·rw[e1];refine .inr ⟨rfl,?_⟩;unfold kE;dsimp only;have d1:¬ (x="+"):=by rcases hx with rfl |rfl<;>decide +kernel
    have d2:¬ (x="-"):=by rcases hx with rfl |rfl<;>decide +kernel
    have d3:¬ (x="*"):=by rcases hx with rfl |rfl<;>decide +kernel
    have d4:¬ (x="least"):=by rcases hx with rfl |rfl<;>decide +kernel
    have d5:¬ (x="most"):=by rcases hx with rfl |rfl<;>decide +kernel
    rw[xaf d1,xaf d2,xaf d3,xaf d4,xaf d5]
    split<;>exact⟨_,rfl⟩
   ·exact absurd z nt
  ·exact absurd z nt
 ·rw[e2]at ha hb;rcases ha with⟨z,_⟩ |⟨_,p,rfl⟩
  ·exact absurd z tn
  ·rcases hb with⟨z,_⟩ |⟨_,p',rfl⟩
   ·exact absurd z tn
   ·rw[e1];refine .inr ⟨rfl,?_⟩;unfold kE;dsimp only
    split<;>exact⟨_,rfl⟩
theorem bA {a b:Str}(h:decide (a=b)=false):(a=b)=False:=xdL (xdH h)
theorem Ye:(Str.ofString "-"=Str.ofString "+")=False:=bA (by x_go)
theorem Yg:(Str.ofString "*"=Str.ofString "+")=False:=bA (by x_go)
theorem Yh:(Str.ofString "*"=Str.ofString "-")=False:=bA (by x_go)
theorem Yi:(Str.ofString "least"=Str.ofString "+")=False:=bA (by x_go)
theorem Yj:(Str.ofString "least"=Str.ofString "-")=False:=bA (by x_go)
theorem Yk:(Str.ofString "least"=Str.ofString "*")=False:=bA (by x_go)
theorem Yl:(Str.ofString "most"=Str.ofString "+")=False:=bA (by x_go)
theorem Ym:(Str.ofString "most"=Str.ofString "-")=False:=bA (by x_go)
theorem Yn:(Str.ofString "most"=Str.ofString "*")=False:=bA (by x_go)
theorem Yo:(Str.ofString "most"=Str.ofString "least")=False:=bA (by x_go)
theorem Iv:(Str.ofString "<"=Str.ofString "+")=False:=bA (by x_go)
theorem Iw:(Str.ofString "<"=Str.ofString "-")=False:=bA (by x_go)
theorem Iz:(Str.ofString "<"=Str.ofString "*")=False:=bA (by x_go)
theorem IK:(Str.ofString "<"=Str.ofString "least")=False:=bA (by x_go)
theorem IV:(Str.ofString "<"=Str.ofString "most")=False:=bA (by x_go)
theorem IW:(Str.ofString "="=Str.ofString "+")=False:=bA (by x_go)
theorem I_:(Str.ofString "="=Str.ofString "-")=False:=bA (by x_go)
theorem Ja:(Str.ofString "="=Str.ofString "*")=False:=bA (by x_go)
theorem Jb:(Str.ofString "="=Str.ofString "least")=False:=bA (by x_go)
theorem Jc:(Str.ofString "="=Str.ofString "most")=False:=bA (by x_go)
theorem Jd:(Str.ofString "="=Str.ofString "<")=False:=bA (by x_go)
theorem Je:(Str.ofString "and"=Str.ofString "+")=False:=bA (by x_go)
theorem Jf:(Str.ofString "and"=Str.ofString "-")=False:=bA (by x_go)
theorem Jg:(Str.ofString "and"=Str.ofString "*")=False:=bA (by x_go)
theorem Jh:(Str.ofString "and"=Str.ofString "least")=False:=bA (by x_go)
theorem Ji:(Str.ofString "and"=Str.ofString "most")=False:=bA (by x_go)
theorem Jj:(Str.ofString "and"=Str.ofString "<")=False:=bA (by x_go)
theorem Jk:(Str.ofString "and"=Str.ofString "=")=False:=bA (by x_go)
theorem Jl:(Str.ofString "or"=Str.ofString "+")=False:=bA (by x_go)
theorem Jm:(Str.ofString "or"=Str.ofString "-")=False:=bA (by x_go)
theorem Jo:(Str.ofString "or"=Str.ofString "*")=False:=bA (by x_go)
theorem Jp:(Str.ofString "or"=Str.ofString "least")=False:=bA (by x_go)
theorem Jq:(Str.ofString "or"=Str.ofString "most")=False:=bA (by x_go)
theorem Jr:(Str.ofString "or"=Str.ofString "<")=False:=bA (by x_go)
theorem Js:(Str.ofString "or"=Str.ofString "=")=False:=bA (by x_go)
theorem Jt:(Str.ofString "or"=Str.ofString "and")=False:=bA (by x_go)
theorem Ju:(Str.ofString "<"=Str.ofString "and")=False:=bA (by x_go)
theorem Jv:(Str.ofString "<"=Str.ofString "or")=False:=bA (by x_go)
theorem Jw:(Str.ofString "="=Str.ofString "and")=False:=bA (by x_go)
theorem Jx:(Str.ofString "="=Str.ofString "or")=False:=bA (by x_go)
theorem Jy:(Str.ofString "+"=Str.ofString "not")=False:=bA (by x_go)
theorem Jz:(Str.ofString "-"=Str.ofString "not")=False:=bA (by x_go)
theorem JB:(Str.ofString "*"=Str.ofString "not")=False:=bA (by x_go)
theorem JC:(Str.ofString "least"=Str.ofString "not")=False:=bA (by x_go)
theorem JD:(Str.ofString "most"=Str.ofString "not")=False:=bA (by x_go)
theorem JF:(Str.ofString "<"=Str.ofString "not")=False:=bA (by x_go)
theorem JG:(Str.ofString "="=Str.ofString "not")=False:=bA (by x_go)
theorem JH:(Str.ofString "and"=Str.ofString "not")=False:=bA (by x_go)
theorem JK:(Str.ofString "or"=Str.ofString "not")=False:=bA (by x_go)
local macro_rules | `(tactic| walk_at "ops")=> `(tactic| try simp only[Ye,Yg,Yh,Yi,Yj,Yk,Yl,Ym,Yn,Yo,Iv,Iw,Iz,IK,IV,IW,I_,Ja,Jb,Jc,Jd,Je,Jf,Jg,Jh,Ji,Jj,Jk,Jl,Jm,Jo,Jp,Jq,Jr,Js,Jt,Ju,Jv,Jw,Jx,Jy,Jz,JB,JC,JD,JF,JG,JH,JK])
theorem VD {x:Str}{q:Str×Str×Nat}{a b:D}{m n:Nat}(h:bM x=some q)(h2:q.2.2=2)(ha:Vk q.2.1 a m)(hb:Vk q.2.1 b n)(hm:m<=47)(hn:n<=47):yZ [.str x,a,b] M=some (.v (kE x a b),M):=by
 have nt:¬ (("number":Str)="truth"):=by x_go
 have tn:¬ (("truth":Str)="number"):=by x_go
 unfold yZ Gn;rcases CZ h h2 with⟨hx,e1,e2⟩ |⟨hx,e1,e2⟩ |⟨hx,e1,e2⟩
 ·rw[e2]at ha hb;rcases ha with⟨_,i,rfl,hi⟩ |⟨z,_⟩
  ·rcases hb with⟨_,j,rfl,hj⟩ |⟨z,_⟩
   ·have li:=zH hm hi;have lj:=zH hn hj;unfold kE;dsimp only;rcases hx with rfl |rfl |rfl |rfl |rfl
    all_goals
     iterate 5 (z_go;walk_at "ops")
     try rw[xab (.inr (.inr ⟨li,lj⟩))]
     try z_go
   ·exact absurd z nt
  ·exact absurd z nt
 ·rw[e2]at ha hb;rcases ha with⟨_,i,rfl,hi⟩ |⟨z,_⟩
  ·rcases hb with⟨_,j,rfl,hj⟩ |⟨z,_⟩
   ·unfold kE;dsimp only;rcases hx with rfl |rfl
    all_goals
     iterate 9 (z_go;walk_at "ops")
     try z_go
   ·exact absurd z nt
  ·exact absurd z nt
 ·rw[e2]at ha hb;rcases ha with⟨z,_⟩ |⟨_,p,rfl⟩
  ·exact absurd z tn
  ·rcases hb with⟨z,_⟩ |⟨_,p',rfl⟩
   ·exact absurd z tn
   ·unfold kE;dsimp only;rcases hx with rfl |rfl
    all_goals
     iterate 9 (z_go;walk_at "ops")
     cases p<;>cases p'
     all_goals (try z_go;try rfl)
theorem zdK {x:Str}{q:Str×Str×Nat}{a b:D}{m n:Nat}(h:bM x=some q)(h2:q.2.2=2)(ha:Vk q.2.1 a m)(hb:Vk q.2.1 b n)(hm:m<=47)(hn:n<=47):yX [.str x,a,b] M=some (.v (kE x a b),M):=by
 have nt:¬ (("number":Str)="truth"):=by x_go
 have tn:¬ (("truth":Str)="number"):=by x_go
 unfold yX Gj;rcases CZ h h2 with⟨hx,e1,e2⟩ |⟨hx,e1,e2⟩ |⟨hx,e1,e2⟩
 ·rw[e2]at ha hb;rcases ha with⟨_,i,rfl,hi⟩ |⟨z,_⟩
  ·rcases hb with⟨_,j,rfl,hj⟩ |⟨z,_⟩
   ·have li:=zH hm hi;have lj:=zH hn hj;unfold kE;dsimp only;rcases hx with rfl |rfl |rfl |rfl |rfl
    all_goals
     iterate 5 (z_go;walk_at "ops")
     try rw[xab (.inr (.inr ⟨li,lj⟩))]
     try z_go
   ·exact absurd z nt
  ·exact absurd z nt
 ·rw[e2]at ha hb;rcases ha with⟨_,i,rfl,hi⟩ |⟨z,_⟩
  ·rcases hb with⟨_,j,rfl,hj⟩ |⟨z,_⟩
   ·unfold kE;dsimp only;rcases hx with rfl |rfl
    all_goals
     iterate 9 (z_go;walk_at "ops")
     try z_go
   ·exact absurd z nt
  ·exact absurd z nt
 ·rw[e2]at ha hb;rcases ha with⟨z,_⟩ |⟨_,p,rfl⟩
  ·exact absurd z tn
  ·rcases hb with⟨z,_⟩ |⟨_,p',rfl⟩
   ·exact absurd z tn
   ·unfold kE;dsimp only;rcases hx with rfl |rfl
    all_goals
     iterate 9 (z_go;walk_at "ops")
     cases p<;>cases p'
     all_goals (try z_go;try rfl)
theorem Oo:∀(cs:List Nat) (acc:Nat),NumText.AllDigits cs->cs.foldl (fun acc c=>acc * 10 + (c - 48)) acc<(acc + 1) * 10 ^ cs.length
  | [],acc,_=>by simp
  |c::cs,acc,h=>by
    have hc:=h c xaF;have:=Oo cs (acc * 10 + (c - 48)) fun d hd=>h d (xar _ hd);rw[xb6,xao,Nat.pow_succ];refine xag this ?_;rw[Nat.mul_comm (10 ^ cs.length) 10, <-Nat.mul_assoc];exact Nat.mul_le_mul_right _ (by omega)
theorem V9 (cs:List Nat)(h:NumText.AllDigits cs):NumText.digitsVal cs<10 ^ cs.length:=by
 have:=Oo cs 0 h;rw[Nat.zero_add,Nat.one_mul]at this;exact this
noncomputable def yj (x:Str) (t v o:D):D:=if x="t" then t else if x="v" then v else if x="w" then o else .int (Er (cd x))
theorem Hy {x:Str}(h:eO x=true):x.length<=600/\eG (fJ (cd x))=true/\(fJ (cd x)).length<=20:=by
 unfold eO good at h;simp only[xam,xaC]at h;refine⟨?_,h.1.2,h.2⟩;have:=h.2;rw[u5];unfold fJ at this;split at this
 ·rw[List.length_tail]at this;omega
 ·omega
theorem Hl {x:Str}{t v o:D}(h:eO x=true\/tvw x=true):zm [.str x,t,v,o] M=some (.v (yj x t v o),M):=by
 unfold zm Gw yj;z_go
 by_cases h1:x="t"
 ·simp only[h1];z_go
 ·simp only[h1];z_go
  by_cases h2:x="v"
  ·simp only[h2];z_go
  ·simp only[h2];z_go
   by_cases h3:x="w"
   ·simp only[h3];z_go
   ·simp only[h3];z_go;have hh:eO x=true:=by
     rcases h with h |h
     ·exact h
     ·unfold tvw at h
      simp[h1,h2,h3]at h
    obtain⟨hl,hf,_⟩:=Hy hh;rw[xab (show x.length<=640 by omega),Pq hf hl];z_go
def Sn (d:D):Prop:=∃i:Int,d=.int i/\i.natAbs<2 ^ 210
theorem Sn.vk {d:D}(h:Sn d):Vk "number" d 1:=by
 obtain⟨i,rfl,hi⟩:=h;exact .inl ⟨rfl,i,rfl,hi⟩
theorem zdI {x:Str}{t v o:D}(h:eO x=true\/tvw x=true)(ht:Sn t)(hv:Sn v)(ho:Sn o):Sn (yj x t v o):=by
 unfold yj
 by_cases h1:x="t"
 ·rw[xab h1];exact ht
 ·rw[xaf h1]
  by_cases h2:x="v"
  ·rw[xab h2];exact hv
  ·rw[xaf h2]
   by_cases h3:x="w"
   ·rw[xab h3];exact ho
   ·rw[xaf h3];have hh:eO x=true:=by
     rcases h with h |h
     ·exact h
     ·unfold tvw at h
      simp[h1,h2,h3]at h
    obtain⟨_,hf,hl⟩:=Hy hh;obtain⟨_,hd,_⟩:=G_ hf;have b:=V9 _ hd;have b2:10 ^ (fJ (cd x)).length<=10 ^ 20:=xbZ (by decide) hl;have b3:(10:Nat) ^ 20<2 ^ 210:=by x_go
    refine⟨_,rfl,?_⟩;unfold Er;unfold fJ at b b2
    split
    ·rename_i hh;rw[xab hh]at b b2;omega
    ·rename_i hh;rw[xaf hh]at b b2;omega
noncomputable def stepV (t v o:D) (x:Str) (rs:List D):List D:=match bM x with
  | some q => if q.2.2 = 2 then (match rs with
    |a::b::r=>kE x a b::r
    | _ => []) else (match rs with
    |.bl p::r=>.bl (!p)::r
    |_=>[])
  |none=>yj x t v o::rs
noncomputable def cC (t v o:D):List Str->List D->List D
 | [],rs=>rs
 |x::xs,rs=>cC t v o xs (stepV t v o x rs)
theorem KR {t v o:D}:∀{xs ys:List Str} {rs:List D},cC t v o (xs ++ ys) rs=cC t v o ys (cC t v o xs rs)
 | [],_,_=>rfl
 |_::xs,_,_=>KR (xs:=xs)
theorem Lq {L x:Str}{ks ks':List Str}{rs:List D}{n:Nat}(h:stepK L x ks=some ks')(ty:TyS ks rs n):
    (∃q a b r m m',bM x=some q/\q.2.2=2/\rs=a::b::r/\Vk q.2.1 a m/\Vk q.2.1 b m'/\m<=n/\m'<=n/\∃ks'' n'',ks'=q.1::ks''/\TyS ks'' r n''/\m + m' + n''=n)\/(x="not"/\∃p r,rs=.bl p::r/\∃ks'' n'' m,ks'=("truth":Str)::ks''/\TyS ks'' r n''/\m + n''=n)\/(bM x=none/\lf x L=true/\ks'=("number":Str)::ks):=by
  unfold stepK at h
  cases hn:bM x with
  |none=>
    rw[hn]at h;dsimp only at h;split at h
    · rename_i hf;cases h;exact .inr (.inr ⟨rfl,hf,rfl⟩)
    · cases h
  |some q=>
    rw[hn]at h;dsimp only at h;rw[xac]at h;obtain⟨k1,h1,rfl⟩:=h;rcases(zO hn).1 with e |e
    · obtain⟨hx,e1,e2⟩:=X6 hn e;rw[e]at h1
      cases ty with
      |nil=>cases h1
      |cons vk ty'=>
        rename_i k d ks0 ds0 m n0;simp only[dD]at h1;split at h1
        · rename_i hk;cases h1;rw[hk,e2]at vk;rcases vk with⟨z,_⟩ |⟨_,p,rfl⟩
          · exact absurd z (by x_go)
          · exact .inr (.inl ⟨hx,p,_,rfl,_,_,_,by rw[e1],ty',rfl⟩)
        · cases h1
    · rw[e]at h1
      cases ty with
      |nil=>cases h1
      |cons vk ty'=>
        rename_i k d ks0 ds0 m n0;simp only[dD]at h1;split at h1
        · rename_i hk
          cases ty' with
          |nil=>cases h1
          |cons vk2 ty2=>
            rename_i k' d' ks2 ds2 m' n2;simp only[dD]at h1;split at h1
            · rename_i hk2;cases h1;exact .inl ⟨q,_,_,_,m,m',rfl,e,rfl,hk ▸ vk,hk2 ▸ vk2,by omega,by omega,_,n2,rfl,ty2,by omega⟩
            · cases h1
        · cases h1
theorem rZ:bM "not"=some (Str.ofString "truth",Str.ofString "truth",1):=by x_go
theorem zbQ {L x:Str}{ks ks':List Str}{rs:List D}{n:Nat}{t v o:D}(h:stepK L x ks=some ks')(ty:TyS ks rs n)(ht:Sn t)(hv:Sn v)(ho:Sn o):∃n',TyS ks' (stepV t v o x rs) n'/\n'<=n + 1:=by
 unfold stepV;rcases Lq h ty with⟨q,a,b,r,m,m',hn,h2,rfl,va,vb,_,_,ks2,n2,rfl,ty2,hs⟩ |⟨rfl,p,r,rfl,ks2,n2,m,rfl,ty2,hs⟩ |⟨hn,hf,rfl⟩
 ·rw[hn];dsimp only;rw[xab h2];exact⟨_,.cons (ZG hn h2 va vb) ty2,by omega⟩
 ·rw[rZ];exact⟨0 + n2,.cons (.inr ⟨rfl,_,rfl⟩) ty2,by omega⟩
 ·rw[hn];refine⟨1 + n,.cons (zdI ?_ ht hv ho).vk ty,by omega⟩;unfold lf at hf;rw[xbm,xam]at hf;exact hf.imp id (·.1)
theorem pX {rs:List D}{y:D}:rs.reverse ++ [y]=(y::rs).reverse:=by rw[xdJ]
theorem Qk {x L:Str}(hf:lf x L=true):eO x=true\/tvw x=true:=by
 unfold lf at hf;rw[xbm,xam]at hf;exact hf.imp id (·.1)
theorem zbG {L x:Str}{ks ks':List Str}{rs:List D}{n:Nat}{w0 t v o:D}{s6 s7:E3.Slot}(h:stepK L x ks=some ks')(ty:TyS ks rs n)(hn:n<=46)(hr:rs.length<=1000):∃t6 t7,zF [.val w0,.val t,.val v,.val o,.val (.ref M.length),.val (.str x),s6,s7] (M ++ [.lst rs.reverse])=some (.nx [.val w0,.val t,.val v,.val o,.val (.ref M.length),.val (.str x),t6,t7],M ++ [.lst (stepV t v o x rs).reverse]):=by
 unfold zF stepV;rcases Lq h ty with⟨q,a,b,r,m,m',hq,h2,rfl,va,vb,hm,hm',_⟩ |⟨rfl,p,r,rfl,_⟩ |⟨hq,hf,_⟩
 ·refine⟨.val a,.val b,?_⟩;have nx:(x=Str.ofString "not")=False:=xdL fun z=>by
   rw[z,rZ]at hq;cases hq;cases h2
  rw[hq];dsimp only;rw[xab h2];z_go;simp only[nx];z_go;rw[rW,hq];simp only[xaD,xca];z_go;rw[pU];z_go;rw[pU];z_go;rw[VD hq h2 va vb (by omega) (by omega)];z_go;rw[xal,xab (by simp only[xao]at hr;omega),pX];z_go
 ·refine⟨s6,s7,?_⟩;rw[rZ];dsimp only;z_go;rw[pU];z_go;rw[xal,xab (by simp only[xao]at hr;omega),pX];z_go;rfl
 ·refine⟨s6,s7,?_⟩;have nx:(x=Str.ofString "not")=False:=xdL fun z=>by
   rw[z,rZ]at hq;cases hq
  rw[hq];dsimp only;z_go;simp only[nx];z_go;rw[rW,hq];simp only[xdb,xcL];z_go;rw[Hl (Qk hf)];z_go;rw[xal,xab (by omega),pX];z_go
theorem Eh {x:Str}{ys:List Str}:aG .isin (.str x) (.lst (ys.map D.str))=some (.bl (decide (x∈ys))):=by
 have fl:(ys.map D.str).all D.flat=true:=by
  rw[List.all_map];exact xbb.mpr fun y _=>rfl
 have an:((ys.map D.str).any fun y=>D.eq y (.str x))=decide (x∈ys):=by
  rw[List.any_map,xaI,xc1,xaC]
  constructor
  ·rintro⟨y,hy,e⟩;have:y=x:=by simpa [D.eq] using e
   rw[<-this];exact hy
  ·intro hy;exact⟨x,hy,by simp[D.eq]⟩
 unfold aG bZ mZ;simp only[fl,an,D.flat,xbC,xaP,xaD]
noncomputable def nine:List Str:=["+","-","*","least","most","and","or","<","="]
theorem Ht {x:Str}{q:Str×Str×Nat}(h:bM x=some q)(h2:q.2.2=2):decide (x∈nine)=true:=by
 rcases CZ h h2 with⟨hx,_⟩ |⟨hx,_⟩ |⟨hx,_⟩
 ·rcases hx with rfl |rfl |rfl |rfl |rfl<;>decide +kernel
 ·rcases hx with rfl |rfl<;>decide +kernel
 ·rcases hx with rfl |rfl<;>decide +kernel
theorem ZJ {x:Str}(h:bM x=none):decide (x∈nine)=false:=by
 rw[xcd];intro hx;have:nine.all (fun y=>(bM y).isSome)=true:=by x_go
 have:=xbb.mp this x hx;rw[h]at this;cases this
theorem zcH {x:Str}:decide (x∈ [Str.ofString "t",Str.ofString "v",Str.ofString "w"])=tvw x:=by
 unfold tvw;rw[xaI]
 simp[or_assoc]
theorem zb5 {L x:Str}{ks ks':List Str}{rs:List D}{n:Nat}{w0 t v o:D}{s6:E3.Slot}(h:stepK L x ks=some ks')(ty:TyS ks rs n)(hn:n<=46)(hr:rs.length<=1000):∃t6,zE [.val w0,.val t,.val v,.val o,.val (.ref M.length),.val (.str x),s6] (M ++ [.lst rs.reverse])=some (.nx [.val w0,.val t,.val v,.val o,.val (.ref M.length),.val (.str x),t6],M ++ [.lst (stepV t v o x rs).reverse]):=by
 have e9:(aU (aA (ak (.str "+")) (aA (ak (.str "-")) (aA (ak (.str "*")) (aA (ak (.str "least")) (aA (ak (.str "most")) (aA (ak (.str "and")) (aA (ak (.str "or")) (aA (ak (.str "<")) (aA (ak (.str "=")) au))))))))):E3.E)=fun _ M=>some (.v (.lst (nine.map D.str)),M):=rfl;have e3:(aU (aA (ak (.str "t")) (aA (ak (.str "v")) (aA (ak (.str "w")) au))):E3.E)=fun _ M=>some (.v (.lst ([Str.ofString "t",Str.ofString "v",Str.ofString "w"].map D.str)),M):=rfl;unfold zE;rw[e9,e3];generalize hk:([Str.ofString "t",Str.ofString "v",Str.ofString "w"]:List Str)=tl;have tin:decide (x∈tl)=tvw x:=by rw[<-hk];exact zcH
 rcases Lq h ty with⟨q,a,b,r,m,m',hq,h2,rfl,va,vb,hm,hm',_⟩ |⟨rfl,p,r,rfl,_⟩ |⟨hq,hf,_⟩
 ·refine⟨.val a,?_⟩;unfold stepV;rw[hq];dsimp only;rw[xab h2];z_go;rw[Eh,Ht hq h2];z_go;rw[pU];z_go;rw[pU];z_go;rw[zdK hq h2 va vb (by omega) (by omega)];z_go;rw[xal,xab (by simp only[xao]at hr;omega),pX];z_go
 ·refine⟨s6,?_⟩;unfold stepV;rw[rZ];dsimp only;z_go;rw[Eh,show decide (Str.ofString "not"∈nine)=false by x_go];z_go;rw[pU];z_go;rw[xal,xab (by simp only[xao]at hr;omega),pX];z_go;rfl
 ·refine⟨s6,?_⟩;have nx:(x=Str.ofString "not")=False:=xdL fun z=>by
   rw[z,rZ]at hq;cases hq
  unfold stepV;rw[hq];dsimp only;z_go;rw[Eh,ZJ hq];z_go;simp only[nx];z_go;rw[Eh,tin];unfold yj;cases ht:tvw x
  ·have hs:eO x=true:=by
    rcases Qk hf with z |z
    ·exact z
    ·rw[ht]at z;cases z
   obtain⟨hl,hg,_⟩:=Hy hs;z_go;rw[xab (show x.length<=640 by omega),Pq hg hl];z_go;unfold tvw at ht;simp only[Bool.or_eq_false_iff,xcd]at ht;rw[xal,xab (by omega),pX,xaf ht.1.1,xaf ht.1.2,xaf ht.2];z_go
  ·z_go;rw[<-hk];have ht':x="t"\/x="v"\/x="w":=by
    unfold tvw at ht;simp only[xbm,xaC]at ht;rcases ht with(ht |ht) |ht
    ·exact .inl ht
    ·exact .inr (.inl ht)
    ·exact .inr (.inr ht)
   rcases ht' with rfl |rfl |rfl
   ·rw[show gC ([Str.ofString "t",Str.ofString "v",Str.ofString "w"].map D.str) [.str "t"]=some (.int 0) by kernel_rfl];z_go;rw[xal,xab (by omega),pX];z_go
   ·rw[show gC ([Str.ofString "t",Str.ofString "v",Str.ofString "w"].map D.str) [.str "v"]=some (.int 1) by kernel_rfl];z_go;rw[xal,xab (by omega),pX,xaf (show ¬ (Str.ofString "v"=Str.ofString "t") by x_go)];z_go
   ·rw[show gC ([Str.ofString "t",Str.ofString "v",Str.ofString "w"].map D.str) [.str "w"]=some (.int 2) by kernel_rfl];z_go;rw[xal,xab (by omega),pX,xaf (show ¬ (Str.ofString "w"=Str.ofString "t") by x_go),xaf (show ¬ (Str.ofString "w"=Str.ofString "v") by x_go)];z_go
theorem TyS.len {ks:List Str}{rs:List D}{n:Nat}(h:TyS ks rs n):rs.length=ks.length:=by
 induction h with
 |nil=>rfl
 |cons _ _ ih=>rw[xao,xao,ih]
theorem Ah {L:Str}{t v o:D}(ht:Sn t)(hv:Sn v)(ho:Sn o):∀{xs ks ks':List Str} {rs:List D} {n:Nat},runK L xs ks=some ks'->TyS ks rs n->∃n',TyS ks' (cC t v o xs rs) n'/\n'<=n + xs.length
  | [],_,_,_,n,h,ty=>by cases h;exact⟨n,ty,xai _⟩
  |x::xs,ks,ks',rs,n,h,ty=>by
    unfold runK at h;rw[xbo]at h;obtain⟨k1,h1,h2⟩:=h;obtain⟨n1,ty1,hn1⟩:=zbQ h1 ty ht hv ho;obtain⟨n2,ty2,hn2⟩:=Ah ht hv ho h2 ty1;exact⟨n2,ty2,by rw[xao];omega⟩
theorem zbq {L:Str}{xs:List Str}{k:Nat}{ks:List Str}(h:runK L xs []=some ks):∃k1,runK L (xs.take k) []=some k1:=by
 rw[<-xdi k xs,vo]at h
 cases e:runK L (xs.take k) [] with
 |none=>rw[e]at h;cases h
 |some k1=>exact⟨k1,rfl⟩
theorem R8 {L:Str}{xs:List Str}{k:Nat}{x:Str}{k1 ks:List Str}(h:runK L xs []=some ks)(hk:runK L (xs.take k) []=some k1)(hx:xs[k]? =some x):∃k2,stepK L x k1=some k2/\runK L (xs.take (k + 1)) []=some k2:=by
 obtain⟨k2,h2⟩:=zbq (k:=k + 1) h;refine⟨k2,?_,h2⟩;rw[take_snoc hx,vo,hk]at h2;have h3:(stepK L x k1).bind (runK L [])=some k2:=h2
 cases e:stepK L x k1 with
 |none=>rw[e]at h3;cases h3
 |some k3=>rw[e]at h3;exact h3
theorem KQ {L wt:Str}{ws:List Str}{t v o:D}(h:runK L ws.reverse []=some [wt])(hl:ws.length<=46)(ht:Sn t)(hv:Sn v)(ho:Sn o):∃d n,cC t v o ws.reverse []=[d]/\Vk wt d n/\n<=46/\∀M:Mm,mF [.tup (ws.map D.str),t,v,o] M=some (.v d,M ++ [.lst [d]]):=by
  obtain⟨n,ty,hn⟩:=Ah ht hv ho h .nil;rw[xal]at hn;generalize er:cC t v o ws.reverse []=rs at ty
  cases ty with
  |cons vk ty'=>
    cases ty' with
    |nil=>
      rename_i d m;refine⟨d,m,rfl,vk,by omega,fun M=>?_⟩;have lp:∃s5 s6 s7,loopS 5 zF (ws.map D.str).reverse [.val (.tup (ws.map D.str)),.val t,.val v,.val o,.val (.ref M.length),.un,.un,.un] (M ++ [.lst ([]:List D).reverse])=some (.nx [.val (.tup (ws.map D.str)),.val t,.val v,.val o,.val (.ref M.length),s5,s6,s7],M ++ [.lst (cC t v o ws.reverse []).reverse]):=by
        refine w6 (fun q=>∃s5 s6 s7,q=some (.nx [.val (.tup (ws.map D.str)),.val t,.val v,.val o,.val (.ref M.length),s5,s6,s7],M ++ [.lst (cC t v o ws.reverse []).reverse])) (fun k env N=>∃s5 s6 s7 k1,env=[.val (.tup (ws.map D.str)),.val t,.val v,.val o,.val (.ref M.length),s5,s6,s7]/\N=M ++ [.lst (cC t v o (ws.reverse.take k) []).reverse]/\runK L (ws.reverse.take k) []=some k1) ⟨_,_,_,[],rfl,rfl,by rw[xcE];rfl⟩ ?_ ?_
        · rintro k d env N hd ⟨s5,s6,s7,k1,rfl,rfl,hk⟩;rw[<-xbX,xan,xac]at hd;obtain⟨x,hx,rfl⟩:=hd;refine⟨by show 5<8;decide,?_⟩;obtain⟨k2,st,hk2⟩:=R8 h hk hx;obtain⟨n1,ty1,hn1⟩:=Ah ht hv ho hk .nil;have hkl:k<ws.length:=by have:=(xad.mp hx).1;rwa [xal]at this
          have hl1:(ws.reverse.take k).length=k:=by rw[xbW,xal];omega
          rw[hl1]at hn1;have hlr:=ty1.len;have hlk:=Dj hk;rw[xbL,hl1]at hlk;show Step _ _ (zF [.val (.tup (ws.map D.str)),.val t,.val v,.val o,.val (.ref M.length),.val (.str x),s6,s7] _);obtain⟨t6,t7,e⟩:=zbG (M:=M) (w0:=.tup (ws.map D.str)) (t:=t) (v:=v) (o:=o) (s6:=s6) (s7:=s7) st ty1 (by omega) (by omega);rw[e];refine⟨_,_,_,k2,rfl,?_,hk2⟩;rw[take_snoc hx,KR];rfl
        · rintro env N ⟨s5,s6,s7,k1,rfl,rfl,hk⟩;rw[show(ws.map D.str).reverse.length=ws.reverse.length by simp,xcl];exact⟨_,_,_,rfl⟩
      obtain⟨s5,s6,s7,lp⟩:=lp;rw[er]at lp;unfold mF Gx;z_go;rw[show(Cl.lst ([]:List D))=.lst ([]:List D).reverse from rfl,lp];z_go;rw[show [d].reverse=[d] from rfl];z_go
theorem MN {L wt:Str}{ws:List Str}{t v o:D}(h:runK L ws.reverse []=some [wt])(hl:ws.length<=46)(ht:Sn t)(hv:Sn v)(ho:Sn o):∃d n,cC t v o ws.reverse []=[d]/\Vk wt d n/\n<=46/\∀M:Mm,tX [.lst (ws.map D.str),t,v,o] M=some (.v d,M ++ [.lst [d]]):=by
  obtain⟨n,ty,hn⟩:=Ah ht hv ho h .nil;rw[xal]at hn;generalize er:cC t v o ws.reverse []=rs at ty
  cases ty with
  |cons vk ty'=>
    cases ty' with
    |nil=>
      rename_i d m;refine⟨d,m,rfl,vk,by omega,fun M=>?_⟩;have lp:∃s5 s6,loopS 5 zE (ws.map D.str).reverse [.val (.lst (ws.map D.str)),.val t,.val v,.val o,.val (.ref M.length),.un,.un] (M ++ [.lst ([]:List D).reverse])=some (.nx [.val (.lst (ws.map D.str)),.val t,.val v,.val o,.val (.ref M.length),s5,s6],M ++ [.lst (cC t v o ws.reverse []).reverse]):=by
        refine w6 (fun q=>∃s5 s6,q=some (.nx [.val (.lst (ws.map D.str)),.val t,.val v,.val o,.val (.ref M.length),s5,s6],M ++ [.lst (cC t v o ws.reverse []).reverse])) (fun k env N=>∃s5 s6 k1,env=[.val (.lst (ws.map D.str)),.val t,.val v,.val o,.val (.ref M.length),s5,s6]/\N=M ++ [.lst (cC t v o (ws.reverse.take k) []).reverse]/\runK L (ws.reverse.take k) []=some k1) ⟨_,_,[],rfl,rfl,by rw[xcE];rfl⟩ ?_ ?_
        · rintro k d env N hd ⟨s5,s6,k1,rfl,rfl,hk⟩;rw[<-xbX,xan,xac]at hd;obtain⟨x,hx,rfl⟩:=hd;refine⟨by show 5<7;decide,?_⟩;obtain⟨k2,st,hk2⟩:=R8 h hk hx;obtain⟨n1,ty1,hn1⟩:=Ah ht hv ho hk .nil;have hkl:k<ws.length:=by have:=(xad.mp hx).1;rwa [xal]at this
          have hl1:(ws.reverse.take k).length=k:=by rw[xbW,xal];omega
          rw[hl1]at hn1;have hlr:=ty1.len;have hlk:=Dj hk;rw[xbL,hl1]at hlk;show Step _ _ (zE [.val (.lst (ws.map D.str)),.val t,.val v,.val o,.val (.ref M.length),.val (.str x),s6] _);obtain⟨t6,e⟩:=zb5 (M:=M) (w0:=.lst (ws.map D.str)) (t:=t) (v:=v) (o:=o) (s6:=s6) st ty1 (by omega) (by omega);rw[e];refine⟨_,_,k2,rfl,?_,hk2⟩;rw[take_snoc hx,KR];rfl
        · rintro env N ⟨s5,s6,k1,rfl,rfl,hk⟩;rw[show(ws.map D.str).reverse.length=ws.reverse.length by simp,xcl];exact⟨_,_,rfl⟩
      obtain⟨s5,s6,lp⟩:=lp;rw[er]at lp;unfold tX Gk;z_go;rw[show(Cl.lst ([]:List D))=.lst ([]:List D).reverse from rfl,lp];z_go;rw[show [d].reverse=[d] from rfl];z_go
def tU (xs:List Int):Prop:=∀x∈xs,0<=x/\x<715827877
theorem Hi {n:Int}{m:Nat}(hm:m<=1000):∃xs:List Int,xs.length=m/\tU xs/\∀M:Mm,wR [.int n,.int m] M=some (.v (.lst (xs.map .int)),M):=by
  let P:E3.OS->Mm->List Int->Prop:=fun o M xs=>∃s3 s4,o=some (.nx [.val (.int n),.val (.int m),.own (xs.map .int),s3,s4],M)
  have key:∃xs:List Int,xs.length=m/\tU xs/\∀M:Mm,P (loopS 4 CJ ((List.range m).map fun(k:Nat)=>D.int (0 + k)) [.val (.int n),.val (.int m),.own [],.val (.int (n % 2147483629)),.un] M) M xs:=by
    -- the numbers by themselves
    let st:Int×List Int->Nat->Int×List Int:=fun p k=>let x:=(p.1 * p.1 + 40692 * p.1 + 2 * (0 + (k:Int)) + 1) % 2147483629;(x,p.2 ++ [x / 3])
    let at_:Nat->Int×List Int:=fun k=>(List.range k).foldl st (n % 2147483629,[])
    have hst:∀k,at_ (k + 1)=st (at_ k) k:=fun k=>by simp only[at_,List.range_succ,List.foldl_append,xb6,List.foldl_nil]
    have hb:∀k,0<=(at_ k).1/\(at_ k).1<2147483629/\(at_ k).2.length=k/\tU (at_ k).2:=fun k=>by
      induction k with
      |zero=>exact⟨xaW _ (by decide),xaO _ (by decide),rfl,fun x hx=>by cases hx⟩
      |succ k ih=>
        rw[hst];refine⟨xaW _ (by decide),xaO _ (by decide),by simp only[st,xak,ih.2.2.1,xas],fun x hx=>?_⟩;simp only[st,xa9,xbj]at hx;rcases hx with hx |hx
        · exact ih.2.2.2 x hx
        · have h1:=xaW ((at_ k).1 * (at_ k).1 + 40692 * (at_ k).1 + 2 * (0 + (k:Int)) + 1) (show(2147483629:Int)≠0 by decide);have h2:=xaO ((at_ k).1 * (at_ k).1 + 40692 * (at_ k).1 + 2 * (0 + (k:Int)) + 1) (show(0:Int)<2147483629 by decide);subst hx;omega
    refine⟨(at_ m).2,(hb m).2.2.1,(hb m).2.2.2,fun M=>?_⟩;refine w6 (fun o=>P o M (at_ m).2) (fun k env M'=>M'=M/\∃s4,env=[.val (.int n),.val (.int m),.own ((at_ k).2.map .int),.val (.int (at_ k).1),s4]) ⟨rfl,.un,rfl⟩ ?_ ?_
    · rintro k d env M' hd ⟨rfl,s4,rfl⟩;have hk:k<m:=by
        have:=(xad.mp hd).1
        simpa using this
      rw[xan,xdr hk,xaD]at hd;cases hd;refine⟨by show 4<5;decide,?_⟩;have hx:=hb k;have hq:=hb (k + 1);rw[hst]at hq;show Step _ _ (CJ [.val (.int n),.val (.int m),.own ((at_ k).2.map .int),.val (.int (at_ k).1),.val (.int (0 + k))] M');generalize e1:(at_ k).1=x at *;generalize e2:(at_ k).2=xs at *;unfold CJ;z_go;rw[xab (.inl (by omega))];z_go;rw[xab (show xs.length<16777216 by omega)];refine⟨rfl,.val (.int (0 + k)),?_⟩;rw[hst];simp only[st,e1,e2,xbv,xau,xbP]
    · rintro env M' ⟨rfl,s4,rfl⟩;rw[xap,xcg];exact⟨_,_,rfl⟩
  obtain⟨xs,h1,h2,h3⟩:=key;refine⟨xs,h1,h2,fun M=>?_⟩;obtain⟨s3,s4,h3⟩:=h3 M;unfold wR Gf;z_go;rw[xM (by omega),xce];z_go;rw[h3];z_go
theorem zcI {x y:Str}(hx:x.length<=4000)(hy:y.length<=4000)(h1:∀c∈cd x,c<4294967296)(h2:∀c∈cd y,c<4294967296):sm (x ++ y):=by
 refine⟨by rw[xbI];omega,fun c hc=>?_⟩;rw[Ny,xa9]at hc;exact hc.elim (h1 c) (h2 c)
theorem V7 {i:Int}(h0:0<=i)(h1:i<1000000000000000000000):(gU i).length<=22/\∀c∈cd (gU i),c<4294967296:=by
 refine⟨zbv (k:=21) (by decide) (by rw[show(10:Nat) ^ 21=1000000000000000000000 by decide];omega),fun c hc=>?_⟩;unfold cd at hc;rw[Ea h0]at hc;have:=G4 i.toNat c hc;omega
theorem Oz {n:Nat}:eG (dg n)=true:=by
 have hall:(dg n).all gw=true:=xbb.mpr fun c hc=>by
  have:=G4 n c hc;unfold gw;rw[xbf this.1,xbf this.2];rfl
 unfold eG;rw[hall,xaE (Om n)]
 by_cases h0:n=0
 ·subst h0;rw[V8];rfl
 ·obtain⟨c,r,e,hc⟩:=Ol n h0;rw[e,List.head?_cons,xaE (show ¬ (some c=some 48) from fun z=>by have:=xay z;omega)]
  simp
theorem Oi {n:Int}(h0:0<=n)(h1:n<100000000000000000000):(dg n.toNat).length<=20:=G5 (by decide) (by rw[show(10:Nat) ^ 20=100000000000000000000 by decide];omega)
theorem Oj {n:Nat}:(dg n).head? ≠some 45:=fun h=>by
  cases e:dg n with
  |nil=>exact Om n e
  |cons c r=>
    rw[e]at h;have:=G4 n c (by rw[e];exact xaF)
    simp at h
    omega
theorem W2 {n:Int}(h0:0<=n)(h1:n<100000000000000000000):eO (gU n)=true:=by
 have e:cd (gU n)=dg n.toNat:=Ea h0;have ef:fJ (dg n.toNat)=dg n.toNat:=by unfold fJ;rw[xaf Oj]
 unfold eO good;rw[e,ef,Oz,xbf (Oi h0 h1),xaE (fun z=>Oj (n:=n.toNat) (by rw[z];rfl))];rfl
theorem WY {n:Int}(h0:0<n)(h1:n<100000000000000000000):eO (Str.ofString "-" ++ gU n)=true:=by
 have e:cd (Str.ofString "-" ++ gU n)=45::dg n.toNat:=by
  rw[Ny,show cd (Str.ofString "-")=[45] by x_go,show cd (gU n)=dg n.toNat from Ea (by omega)];rfl
 have ef:fJ (45::dg n.toNat)=dg n.toNat:=by unfold fJ;rw[xab (show(45::dg n.toNat).head? =some 45 from rfl)];rfl
 unfold eO good;rw [e, ef, Oz, xbf (Oi (by omega) h1), xaE (fun z=>by
  have z2:dg n.toNat=[48]:=by simpa using z
  obtain⟨c,r,e2,hc⟩:=Ol n.toNat (by omega);rw[e2]at z2
  simp at z2
  omega)]
 rfl
def LG (L:Str):Prop:=L.length<=10/\∀c∈cd L,c=116\/c=118\/c=119
theorem WM {c:Nat}{L:Str}:nj ⟨#[c]⟩ L=decide (c∈cd L):=by
 unfold nj;rw[StrLaws.found_one];rfl
theorem Xq {c:Nat}{L:Str}(hL:LG L)(hc:c∈cd L):lf ⟨#[c]⟩ L=true:=by
 unfold lf;rw[WM,xbf hc];have:tvw ⟨#[c]⟩=true:=by
  rcases hL.2 c hc with rfl |rfl |rfl<;>decide +kernel
 rw[this]
 simp
theorem zds {c:Nat}(h:c<4294967296):sm ⟨#[c]⟩:=⟨by show 1<=9000;decide,fun d hd=>by rw[Nz,xbj]at hd;rw[hd];exact h⟩
theorem Qg {x:Int}{L:Str}(hL:LG L):∃w,lf w L=true/\sm w/\∀M:Mm,pC [.int x,.str L] M=some (.v (.str w),M):=by
 have hll:=hL.1
 by_cases h:0<x % 3/\L≠Str.ofString ""
 ·have hp:0<L.length:=by
   rcases Nat.eq_zero_or_pos L.length with z |z
   ·exfalso
    apply h.2;rw[tW];exact List.length_eq_zero_iff.mp (by rw[<-u5];exact z)
   ·exact z
  have p0:=xaW (x / 3) (show(L.length:Int)≠0 by omega);have p1:=xaO (x / 3) (show(0:Int)<(L.length:Int) by omega);have hl:=u5 L;have hx:=xae (show((x / 3) % (L.length:Int)).toNat<(cd L).length by omega);generalize (cd L)[((x / 3) % (L.length:Int)).toNat]=c at hx;have hc:=xaw hx;have ha:=mY hx;rw[xbF p0]at ha;refine⟨⟨#[c]⟩,Xq hL hc,zds (by rcases hL.2 c hc with z |z |z<;>omega),fun M=>?_⟩
  have hL6:L.length<=16777216:=by clear p0 p1 hx h ha hl;omega
  unfold pC Bw;z_go;simp only[h.1,h.2];z_go;rw[xab hL6];z_go;rw[xab (show(0:Int)<(L.length:Int) from Int.ofNat_lt.mpr hp)];z_go;rw[xab hL6,show L.cps.toList=cd L from rfl,ha];z_go
 ·have hm:∃q:Int,0<q/\q<=100000000000000000000/\bR [D.int 10,.int 100,.int 1000000,.int 1000000000000,.int 100000000000000000000] (x / 9 % 5)=some (.int q):=by
   have:x / 9 % 5=0\/x / 9 % 5=1\/x / 9 % 5=2\/x / 9 % 5=3\/x / 9 % 5=4:=by omega
   rcases this with e |e |e |e |e<;>rw[e]
   ·exact⟨_,by decide,by decide,at0⟩
   ·exact⟨_,by decide,by decide,at1⟩
   ·exact⟨_,by decide,by decide,at2⟩
   ·exact⟨_,by decide,by decide,FW⟩
   ·exact⟨_,by decide,by decide,mY (j:=4) rfl⟩
  obtain⟨q,q0,q1,eq⟩:=hm;have n0:=xaW (x * 1000003 * 104729 * 7919) (show q≠0 by omega);have n1:=xaO (x * 1000003 * 104729 * 7919) q0;generalize en:(x * 1000003 * 104729 * 7919) % q=n at n0 n1;obtain⟨wl,ws⟩:=V7 (i:=n) n0 (by omega);have lg:n.natAbs.log2<1920:=Xr (by omega);have go:∀M:Mm,pC [.int x,.str L] M=b_ (CW [.val (.int x),.val (.str L),.val (.int n)] M):=fun M=>by
   unfold pC Bw;z_go;have st:(if 0<x % 3 then some (Res.v (D.bl (!decide (L=Str.ofString ""))),M) else some (Res.v (D.bl false),M))=some (Res.v (D.bl false),M):=by
    by_cases z:0<x % 3
    ·have z2:L=Str.ofString "":=Classical.byContradiction fun z2=>h ⟨z,z2⟩;rw[xab z,xbf z2];rfl
    ·rw[xaf z]
   rw[st];z_go;unfold QX;z_go;rw[eq];z_go;rw[xab q0,en];z_go
  simp only[go]
  by_cases h2:x / 2 % 2=1/\0<n
  ·refine⟨Str.ofString "-" ++ gU n,?_,zcI (by x_go) (by omega) (fun c hc=>by revert c;decide +kernel) ws,fun M=>?_⟩
   ·unfold lf;rw[WY h2.2 (by omega)];rfl
   ·unfold CW;z_go;simp only[h2.1,h2.2];z_go;rw[xab lg];z_go;rw[show(Str.ofString "-").length=1 by x_go,xab (show 1 + (Str.ofString (toString n)).length<=16777216 from by have:(Str.ofString (toString n)).length<=22:=wl;omega)];rfl
  ·refine⟨gU n,?_,⟨by omega,ws⟩,fun M=>?_⟩
   ·unfold lf;rw[W2 n0 (by omega)];rfl
   ·unfold CW;z_go;have st:(if x / 2 % 2=1 then some (Res.v (D.bl (decide (0<n))),M) else some (Res.v (D.bl false),M))=some (Res.v (D.bl false),M):=by
     by_cases z:x / 2 % 2=1
     ·rw[xab z,xaE (fun z2=>h2 ⟨z,z2⟩)]
     ·rw[xaf z]
    rw[st];unfold QZ;z_go;rw[xab lg];z_go;rfl
def NW (L x:Str):Prop:=(bM x=some (Str.ofString "number",Str.ofString "number",2)\/(bM x=none/\lf x L=true))/\sm x
noncomputable def nums (n:Nat):List Str:=List.replicate n "number"
theorem Uj {x:Str}(h:(decide (x.length<=9000) && (cd x).all fun c=>decide (c<4294967296))=true):sm x:=by
 rw[xam,xaC,xbb]at h;exact⟨h.1,fun c hc=>xch (h.2 c hc)⟩
theorem OD {L:Str}{k:Int}:∃x:Str,NW L x/\bM x=some (Str.ofString "number",Str.ofString "number",2)/\bR [D.str "+",.str "-",.str "*",.str "least",.str "most"] (k % 5)=some (.str x):=by
 have mk:∀x:Str,bM x=some (Str.ofString "number",Str.ofString "number",2)->(decide (x.length<=9000) && (cd x).all fun c=>decide (c<4294967296))=true->NW L x/\bM x=some (Str.ofString "number",Str.ofString "number",2):=fun x h s=>⟨⟨.inl h,Uj s⟩,h⟩;have:k % 5=0\/k % 5=1\/k % 5=2\/k % 5=3\/k % 5=4:=by omega
 rcases this with e |e |e |e |e<;>rw[e]
 ·obtain⟨a,b⟩:=mk "+" (by x_go) (by x_go);exact⟨_,a,b,at0⟩
 ·obtain⟨a,b⟩:=mk "-" (by x_go) (by x_go);exact⟨_,a,b,at1⟩
 ·obtain⟨a,b⟩:=mk "*" (by x_go) (by x_go);exact⟨_,a,b,at2⟩
 ·obtain⟨a,b⟩:=mk "least" (by x_go) (by x_go);exact⟨_,a,b,FW⟩
 ·obtain⟨a,b⟩:=mk "most" (by x_go) (by x_go);exact⟨_,a,b,mY (j:=4) rfl⟩
theorem zdA {L x:Str}{n:Nat}(h:bM x=some (Str.ofString "number",Str.ofString "number",2))(hn:1<=n):stepK L x (nums (n + 1))=some (nums n):=by
 obtain⟨m,rfl⟩:∃m,n=m + 1:=⟨n - 1,by omega⟩;unfold stepK;rw[h];unfold nums;simp only[xdw,dD,xaP,xaD]
theorem zew {L x:Str}{n:Nat}(h:lf x L=true)(hn:1<=n):stepK L x (nums (n - 1))=some (nums n):=by
 obtain⟨m,rfl⟩:∃m,n=m + 1:=⟨n - 1,by omega⟩;unfold stepK;rw[H_ h];dsimp only;rw[xab h];unfold nums;rw[Nat.add_sub_cancel,xdw]
theorem Pb {L:Str}{num:Int}{most:Nat}(hL:LG L)(hm:1<=most/\most<=45):∃ws:List Str,runK L ws.reverse []=some [Str.ofString "number"]/\(∀w∈ws,NW L w)/\1<=ws.length/\ws.length<=most/\wU [.int num,.str L,.int most] M=some (.v (.lst (ws.map D.str)),M):=by
  have lp:∃ws:List Str,∃s5 s6,runK L ws.reverse []=some [Str.ofString "number"]/\(∀w∈ws,NW L w)/\1<=ws.length/\ws.length<=most/\xV 1000 Mp wZ [.val (.int num),.val (.str L),.val (.int most),.own [],.val (.int 1),.val (.int (num % 2147483629)),.un] M=some (.nx [.val (.int num),.val (.str L),.val (.int most),.own (ws.map D.str),.val (.int 0),s5,s6],M):=by
    refine MK (Q:=fun o=>∃ws:List Str,∃s5 s6,runK L ws.reverse []=some [Str.ofString "number"]/\(∀w∈ws,NW L w)/\1<=ws.length/\ws.length<=most/\o=some (.nx [.val (.int num),.val (.str L),.val (.int most),.own (ws.map D.str),.val (.int 0),s5,s6],M)) (fun m env N=>N=M/\∃(ws:List Str) (need:Nat) (x:Int) (s6:E3.Slot),env=[.val (.int num),.val (.str L),.val (.int most),.own (ws.map D.str),.val (.int need),.val (.int x),s6]/\m=most - ws.length/\ws.length + need<=most/\runK L ws.reverse (nums need)=some [Str.ofString "number"]/\(∀w∈ws,NW L w)/\0<=x/\x<2147483629) ⟨most,by omega,rfl,[],1,_,.un,rfl,rfl,by simpa using hm.1,rfl,(fun w hw=>by cases hw),xaW _ (by decide),xaO _ (by decide)⟩ ?_;rintro m env N ⟨rfl,ws,need,x,s6,rfl,rfl,hb,hr,hw,x0,x1⟩;refine⟨decide (0<(need:Int)),N,?_,?_⟩
    · unfold Mp;z_go
    · by_cases hn:0<(need:Int)
      · rw[xbf hn,xab rfl];have y0:=xaW (x * x + 40692 * x + ((ws.length:Nat):Int) + 1) (show(2147483629:Int)≠0 by decide);have y1:=xaO (x * x + 40692 * x + ((ws.length:Nat):Int) + 1) (show(0:Int)<2147483629 by decide);generalize ey:(x * x + 40692 * x + ((ws.length:Nat):Int) + 1) % 2147483629=y at y0 y1
        replace ey:id (_=_):=ey
        obtain⟨op,nwo,ndo,eo⟩:=OD (L:=L) (k:=y / 7 / 2);obtain⟨w,lw,sw,ew⟩:=Qg (x:=y / 7 / 2) hL;have hx64:x.natAbs<18446744073709551616:=by omega
        by_cases c:y / 7 % 2=1/\((ws.length:Nat):Int) + (need:Int) + 2<=(most:Int)
        · have e:wZ [.val (.int num),.val (.str L),.val (.int most),.own (ws.map D.str),.val (.int need),.val (.int x),s6] N=some (.nx [.val (.int num),.val (.str L),.val (.int most),.own ((ws ++ [op]).map D.str),.val (.int ((need + 1:Nat):Int)),.val (.int y),.val (.int (y / 7))],N):=by
            unfold wZ;z_go;rw[xab (.inl hx64)];z_go;rw[show _=y from ey];z_go;simp only[c.1,c.2];z_go;rw[eo];z_go;rw[xab (by omega)];z_go;rw[xbv];rfl
          rw[e];refine⟨most - (ws ++ [op]).length,by rw[xak,xas];omega,rfl,ws ++ [op],need + 1,y,_,rfl,rfl,by rw[xak,xas];omega,?_,fun u hu=>?_,y0,y1⟩
          · rw[xaX,show [op].reverse=[op] from rfl,xbz];show(stepK L op (nums (need + 1))).bind (runK L ws.reverse)=_;rw[zdA ndo (by omega)];exact hr
          · rw[xa9,xbj]at hu;rcases hu with hu |rfl
            · exact hw u hu
            · exact nwo
        · have e:wZ [.val (.int num),.val (.str L),.val (.int most),.own (ws.map D.str),.val (.int need),.val (.int x),s6] N=some (.nx [.val (.int num),.val (.str L),.val (.int most),.own ((ws ++ [w]).map D.str),.val (.int ((need - 1:Nat):Int)),.val (.int y),.val (.int (y / 7))],N):=by
            have st:(if y / 7 % 2=1 then some (Res.v (D.bl (decide (((ws.length:Nat):Int) + (need:Int) + 2<=(most:Int)))),N) else some (Res.v (D.bl false),N))=some (Res.v (D.bl false),N):=by
              by_cases z:y / 7 % 2=1
              · rw[xab z,xaE (fun z2=>c ⟨z,z2⟩)]
              · rw[xaf z]
            unfold wZ;z_go;rw[xab (.inl hx64)];z_go;rw[show _=y from ey];z_go;rw[st];z_go;rw[ew];z_go;rw[xab (by omega)];z_go;rw[xbv,show(need:Int) - 1=((need - 1:Nat):Int) by omega];rfl
          rw[e];refine⟨most - (ws ++ [w]).length,by rw[xak,xas];omega,rfl,ws ++ [w],need - 1,y,_,rfl,rfl,by rw[xak,xas];omega,?_,fun u hu=>?_,y0,y1⟩
          · rw[xaX,show [w].reverse=[w] from rfl,xbz];show(stepK L w (nums (need - 1))).bind (runK L ws.reverse)=_;rw[zew lw (by omega)];exact hr
          · rw[xa9,xbj]at hu;rcases hu with hu |rfl
            · exact hw u hu
            · exact⟨.inr ⟨H_ lw,lw⟩,sw⟩
      · rw[xaE hn,xaf (by decide)];have hz:need=0:=by omega
        subst hz;refine⟨ws,_,_,hr,hw,?_,by omega,rfl⟩
        cases ws with
        |nil=>cases hr
        |cons a b=>simp
  obtain⟨ws,s5,s6,h1,h2,h3,h4,lp⟩:=lp;refine⟨ws,h1,h2,h3,h4,?_⟩;unfold wU Gg;z_go;rw[lp];z_go
def mJ (x:Str):Nat:=match bM x with
 |some q=>q.2.2 - 1
 |none=>0
def mH (x:Str):Nat:=match bM x with
 |some _=>0
 |none=>1
def ops (xs:List Str):Nat:=(xs.map mJ).sum
def CP (xs:List Str):Nat:=(xs.map mH).sum
theorem UJ {a:Str}:∀{n:Nat} {ks ks':List Str},dD a n ks=some ks'->ks'.length + n=ks.length
  |0,_,_,h=>by cases h;rfl
  |n + 1,[],_,h=>by cases h
  |n + 1,b::ks,ks',h=>by
    unfold dD at h;split at h
    · have:=UJ h;rw[xao];omega
    · cases h
theorem zdh {L x:Str}{ks ks':List Str}(h:stepK L x ks=some ks'):ks'.length + mJ x=ks.length + mH x:=by
  unfold stepK at h;unfold mJ mH
  cases hn:bM x with
  |some q=>
    rw[hn]at h;dsimp only at h ⊢;rw[xac]at h;obtain⟨k1,h1,rfl⟩:=h;have:=UJ h1;have:=(zO hn).1;rw[xao];omega
  |none=>
    rw[hn]at h;dsimp only at h ⊢;split at h
    · cases h;rw[xao]
    · cases h
theorem Af {L:Str}:∀{xs ks ks':List Str},runK L xs ks=some ks'->ks'.length + ops xs=ks.length + CP xs
  | [],_,_,h=>by cases h;rfl
  |x::xs,ks,ks',h=>by
    unfold runK at h;rw[xbo]at h;obtain⟨k1,h1,h2⟩:=h;have:=zdh h1;have:=Af h2;simp only[ops,CP,xau,xbd]at *;omega
theorem zdk {L x:Str}{ks:List Str}(h:stepK L x []=some ks):bM x=none:=by
  cases hn:bM x with
  |none=>rfl
  |some q=>
    unfold stepK at h;rw[hn]at h;dsimp only at h;rcases(zO hn).1 with e |e<;>(rw[e]at h;cases h)
theorem Ir {L wt wt':Str}{ws:List Str}{a:Str}(h:runK L (ws ++ [a]).reverse []=some [wt]):runK L ws.reverse []≠some [wt']:=fun h2=>by
 rw[xaX,show [a].reverse=[a] from rfl,xbz]at h;have b1:=Af h;have b2:=Af h2;unfold runK at h;rw[xbo]at h;obtain⟨k1,h1,_⟩:=h;have hn:=zdk h1;simp only[ops,CP,xau,xbd,mJ,mH,hn,xao,xbL]at b1 b2;omega
theorem zdQ {L wt wt':Str}{ws:List Str}{a:Str}(h:runK L ws.reverse []=some [wt])(ha:bM a=none):runK L (ws ++ [a]).reverse []≠some [wt']:=fun h2=>by
 rw[xaX,show [a].reverse=[a] from rfl,xbz]at h2;have b1:=Af h;have b2:=Af h2;simp only[ops,CP,xau,xbd,mJ,mH,ha,xao,xbL]at b1 b2;omega
theorem R7 {L:Str}:∀{xs ks ks':List Str},(∀x∈xs,NW L x)->(∀k∈ks,k="number")->runK L xs ks=some ks'->∀k∈ks',k="number"
  | [],_,_,_,hk,h=>by cases h;exact hk
  |x::xs,ks,ks',hw,hk,h=>by
    unfold runK at h;rw[xbo]at h;obtain⟨k1,h1,h2⟩:=h;refine R7 (fun y hy=>hw y (xar _ hy)) ?_ h2;have tk:∀(n:Nat) (ks ks':List Str),(∀k∈ks,k="number")->dD "number" n ks=some ks'->∀k∈ks',k="number":=fun n=>by
      induction n with
      |zero=>intro ks ks' hk h;cases h;exact hk
      |succ n ih=>
        intro ks ks' hk h
        cases ks with
        |nil=>cases h
        |cons b ks=>
          unfold dD at h;split at h
          · exact ih ks ks' (fun k hk'=>hk k (xar _ hk')) h
          · cases h
    unfold stepK at h1;rcases(hw x xaF).1 with hn |⟨hn,hf⟩
    · rw[hn]at h1;dsimp only at h1;rw[xac]at h1;obtain⟨k2,h3,rfl⟩:=h1;intro k hk';rcases xaJ.mp hk' with rfl |hk'
      · rfl
      · exact tk _ _ _ hk h3 k hk'
    · rw[hn]at h1;dsimp only at h1;rw[xab hf]at h1;cases h1;intro k hk';rcases xaJ.mp hk' with rfl |hk'
      · rfl
      · exact hk k hk'
theorem ze0 {L wt:Str}{p s:List Str}{x:Str}(hs:∀y∈s,NW L y)(hx:(bM x=none/\lf x L=false)\/x="not"):runK L (p ++ [x] ++ s).reverse []≠some [wt]:=fun h=>by
  rw[xaX,xaX,show [x].reverse=[x] from rfl,vo]at h
  cases e:runK L s.reverse [] with
  |none=>rw[e]at h;cases h
  |some ks=>
    rw[e]at h;have hk:=R7 (fun y hy=>hs y (by simpa using hy)) (fun k hk=>by cases hk) e;have:stepK L x ks=none:=by
      rcases hx with⟨hn,hf⟩ |rfl
      · unfold stepK;rw[hn];dsimp only;rw[hf];rfl
      · unfold stepK;rw[rZ];dsimp only
        cases ks with
        |nil=>rfl
        |cons b ks=>
          unfold dD;rw[xaf (by rw[hk b xaF];decide +kernel)];rfl
    have h':(stepK L x ks).bind (runK L p.reverse)=some [wt]:=h;rw[this]at h';cases h'
theorem zdR {L wt:Str}{p s:List Str}{x:Str}(hn:bM x=none)(hf:lf x L=false):runK L (p ++ [x] ++ s).reverse []≠some [wt]:=fun h=>by
  rw[xaX,xaX,show [x].reverse=[x] from rfl,vo]at h
  cases e:runK L s.reverse [] with
  |none=>rw[e]at h;cases h
  |some ks=>
    rw[e]at h;have:stepK L x ks=none:=by
      unfold stepK;rw[hn];dsimp only;rw[hf];rfl
    have h':(stepK L x ks).bind (runK L p.reverse)=some [wt]:=h;rw[this]at h';cases h'
noncomputable def mQ (p:Bool):D:=.str (if p then "cond" else "expr")
noncomputable def zV (p:Bool):Str:=if p then "truth" else "number"
def pc (pd:List Bool):E3.Cl:=.lst (pd.map mQ).reverse
noncomputable def pw (pd:List Bool):Nat:=(pd.map fun p=>if p then 3 else 1).sum
theorem U4 {a b:Str}{k:Int}:∃x:Str,(x=a\/x=b)/\bR [D.str a,.str b] (k % 2)=some (.str x):=by
 have:k % 2=0\/k % 2=1:=by omega
 rcases this with e |e<;>rw[e]
 ·exact⟨a,.inl rfl,at0⟩
 ·exact⟨b,.inr rfl,at1⟩
theorem zdH {L x:Str}{ks:List Str}(h:x="and"\/x="or"):stepK L x ((("truth":Str)::("truth":Str)::ks):List Str)=some (("truth":Str)::ks):=by
 have:bM x=some (Str.ofString "truth",Str.ofString "truth",2):=by rcases h with rfl |rfl<;>decide +kernel
 unfold stepK;rw[this];simp only[dD,xaP,xaD]
theorem zdG {L:Str}{ks:List Str}:stepK L "not" (("truth":Str)::ks)=some (("truth":Str)::ks):=by
 unfold stepK;rw[rZ];simp only[dD,xaP,xaD]
theorem zeu {L x:Str}{ks:List Str}(h:x="<"\/x="="):stepK L x (("number":Str)::("number":Str)::ks)=some (("truth":Str)::ks):=by
 have:bM x=some (Str.ofString "truth",Str.ofString "number",2):=by rcases h with rfl |rfl<;>decide +kernel
 unfold stepK;rw[this];simp only[dD,xaP,xaD]
theorem zeJ {L x:Str}{ks:List Str}(h:bM x=some (Str.ofString "number",Str.ofString "number",2)):stepK L x (("number":Str)::("number":Str)::ks)=some (("number":Str)::ks):=by
 unfold stepK;rw[h];simp only[dD,xaP,xaD]
theorem Ln {L x:Str}{ks:List Str}(h:lf x L=true):stepK L x ks=some (("number":Str)::ks):=by
 unfold stepK;rw[H_ h];dsimp only;rw[xab h]
theorem ze2:(Str.ofString "cond"=Str.ofString "cond")=True:=eq_true rfl
theorem wL:(Str.ofString "expr"=Str.ofString "cond")=False:=bA (by x_go)
theorem JX {ds:List D}:ds.reverse ++ [D.str "cond",.str "cond"]=(mQ true::mQ true::ds).reverse:=by simp[mQ]
theorem zU {ds:List D}:ds.reverse ++ [D.str "expr",.str "expr"]=(mQ false::mQ false::ds).reverse:=by simp[mQ]
theorem JW {ds:List D}:ds.reverse ++ [D.str "cond"]=(mQ true::ds).reverse:=by simp[mQ]
theorem Bh {ws:List Str}{w:Str}:ws.map D.str ++ [D.str w]=(ws ++ [w]).map D.str:=by simp
theorem J0 {pd:List Bool}:pc (true::pd)=.lst (D.str "cond"::pd.map mQ).reverse:=rfl
theorem JZ {pd:List Bool}:pc (false::pd)=.lst (D.str "expr"::pd.map mQ).reverse:=rfl
theorem VH {num most x:Int}{ws:List Str}{p:Bool}{pd:List Bool}{room:Nat}{s6 s7:E3.Slot}(hw:ws.length<=100)(hp:pd.length<=100)(x0:0<=x)(x1:x<2147483629):∃(y:Int) (w:Str) (pd':List Bool) (room':Nat) (t6 t7:E3.Slot) (E:Mm),zB [.val (.int num),.val (.int most),.own (ws.map D.str),.val (.ref M.length),.val (.int room),.val (.int x),s6,s7] (M ++ [pc (p::pd)])=some (.nx [.val (.int num),.val (.int most),.own ((ws ++ [w]).map D.str),.val (.ref (M ++ E).length),.val (.int room'),.val (.int y),t6,t7],M ++ E ++ [pc pd'])/\0<=y/\y<2147483629/\sm w/\stepK "tv" w (pd'.map zV)=some (zV p::pd.map zV)/\pw pd' + room' + 1=pw (p::pd) + room:=by
  have y0:=xaW (x * x + 40692 * x + ((ws.length:Nat):Int) + 1) (show(2147483629:Int)≠0 by decide);have y1:=xaO (x * x + 40692 * x + ((ws.length:Nat):Int) + 1) (show(0:Int)<2147483629 by decide);generalize ey:(x * x + 40692 * x + ((ws.length:Nat):Int) + 1) % 2147483629=y at y0 y1;have hx64:x.natAbs<18446744073709551616:=by omega
  have go:∀N:Mm,zB [.val (.int num),.val (.int most),.own (ws.map D.str),.val (.ref M.length),.val (.int room),.val (.int x),s6,s7] N=xq [.val (.int num),.val (.int most),.own (ws.map D.str),.val (.ref M.length),.val (.int room),.val (.int y),.val (.int (y / 7)),s7] N:=fun N=>by
    unfold zB;z_go;rw[xab (.inl hx64)];z_go;rw[ey];unfold Qs;z_go
  rw[go];generalize y / 7=z;have wl:(ws.map D.str).length<16777216:=by rw[xap];omega
  have smw:∀w:Str,(decide (w.length<=9000) && (cd w).all fun c=>decide (c<4294967296))=true->sm w:=fun w h=>Uj h
  cases p with
  |true=>
    have go2:xq [.val (.int num),.val (.int most),.own (ws.map D.str),.val (.ref M.length),.val (.int room),.val (.int y),.val (.int z),s7] (M ++ [pc (true::pd)])=rY [.val (.int num),.val (.int most),.own (ws.map D.str),.val (.ref M.length),.val (.int room),.val (.int y),.val (.int z),.val (.str "cond")] (M ++ [pc pd]):=by
      rw[J0];unfold xq;z_go;rw[pU];z_go;rfl
    rw[go2]
    by_cases c1:(4:Int)<=room/\z % 4=1
    · obtain⟨w,hw2,ew⟩:=U4 (a:="and") (b:="or") (k:=z / 4);refine⟨y,w,true::true::pd,room - 4,.val (.int z),.val (.str "cond"),[pc pd],?_,y0,y1,?_,?_,?_⟩
      · unfold rY;z_go;simp only[c1.1,c1.2];z_go;rw[ew];z_go;rw[xab (by omega)];unfold pc;z_go;rw[xal,xap,xab (by omega)];z_go;rw[JX,Bh,show(room:Int) - 4=((room - 4:Nat):Int) by omega]
        try rfl
      · rcases hw2 with rfl |rfl<;>exact smw _ (by x_go)
      · exact zdH hw2
      · simp only[pw,xau,xbd,xaP];omega
    · have s1:(if (4:Int)<=(room:Int) then some (Res.v (D.bl (decide (z % 4=1))),M ++ [pc pd]) else some (Res.v (D.bl false),M ++ [pc pd]))=some (Res.v (D.bl false),M ++ [pc pd]):=by
        by_cases q:(4:Int)<=room
        · rw[xab q,xaE (fun q2=>c1 ⟨q,q2⟩)]
        · rw[xaf q]
      by_cases c2:(1:Int)<=room/\z % 4=2
      · refine⟨y,"not",true::pd,room - 1,.val (.int z),.val (.str "cond"),[],?_,y0,y1,smw _ (by x_go),zdG,?_⟩
        · unfold rY;z_go;rw[s1];z_go;simp only[c2.1,c2.2];z_go;rw[xab (by omega)];unfold pc;z_go;rw[xal,xap,xab (by omega)];z_go;rw[JW,Bh,show(room:Int) - 1=((room - 1:Nat):Int) by omega]
          try rfl
        · simp only[pw,xau,xbd,xaP];omega
      · have s2:(if (1:Int)<=(room:Int) then some (Res.v (D.bl (decide (z % 4=2))),M ++ [pc pd]) else some (Res.v (D.bl false),M ++ [pc pd]))=some (Res.v (D.bl false),M ++ [pc pd]):=by
          by_cases q:(1:Int)<=room
          · rw[xab q,xaE (fun q2=>c2 ⟨q,q2⟩)]
          · rw[xaf q]
        obtain⟨w,hw2,ew⟩:=U4 (a:="<") (b:="=") (k:=z / 4);refine⟨y,w,false::false::pd,room,.val (.int z),.val (.str "cond"),[pc pd],?_,y0,y1,?_,?_,?_⟩
        · unfold rY;z_go;rw[s1];z_go;rw[s2];z_go;rw[ew];z_go;rw[xab (by omega)];unfold pc;z_go;rw[xal,xap,xab (by omega)];z_go;rw[zU,Bh]
          try rfl
        · rcases hw2 with rfl |rfl<;>exact smw _ (by x_go)
        · exact zeu hw2
        · simp only[pw,xau,xbd,xaP]
          simp
          omega
  |false=>
    have go2:xq [.val (.int num),.val (.int most),.own (ws.map D.str),.val (.ref M.length),.val (.int room),.val (.int y),.val (.int z),s7] (M ++ [pc (false::pd)])=rY [.val (.int num),.val (.int most),.own (ws.map D.str),.val (.ref M.length),.val (.int room),.val (.int y),.val (.int z),.val (.str "expr")] (M ++ [pc pd]):=by
      rw[JZ];unfold xq;z_go;rw[pU];z_go;rfl
    rw[go2]
    by_cases c1:(2:Int)<=room/\z % 3=1
    · obtain⟨w,nw,nd,ew⟩:=OD (L:="tv") (k:=z / 3);refine⟨y,w,false::false::pd,room - 2,.val (.int z),.val (.str "expr"),[pc pd],?_,y0,y1,nw.2,zeJ nd,?_⟩
      · unfold rY;z_go;simp only[wL];z_go;simp only[wL];z_go;simp only[wL];z_go;simp only[c1.1,c1.2];z_go;rw[ew];z_go;rw[xab (by omega)];unfold pc;z_go;rw[xal,xap,xab (by omega)];z_go;rw[zU,Bh,show(room:Int) - 2=((room - 2:Nat):Int) by omega]
        try rfl
      · simp only[pw,xau,xbd]
        simp
        omega
    · have s1:(if (2:Int)<=(room:Int) then some (Res.v (D.bl (decide (z % 3=1))),M ++ [pc pd]) else some (Res.v (D.bl false),M ++ [pc pd]))=some (Res.v (D.bl false),M ++ [pc pd]):=by
        by_cases q:(2:Int)<=room
        · rw[xab q,xaE (fun q2=>c1 ⟨q,q2⟩)]
        · rw[xaf q]
      obtain⟨w,lw,sw,ew⟩:=Qg (x:=z / 3) (L:="tv") ⟨by x_go,fun c hc=>by revert c;decide +kernel⟩;refine⟨y,w,pd,room,.val (.int z),.val (.str "expr"),[],?_,y0,y1,sw,Ln lw,?_⟩
      · unfold rY;z_go;simp only[wL];z_go;simp only[wL];z_go;simp only[wL];z_go;rw[s1];z_go;rw[ew];z_go;rw[xab (by omega),Bh];z_go
      · simp only[pw,xau,xbd]
        simp
        omega
theorem VG {num:Int}{most:Nat}(hm:3<=most/\most<=40):∃(ws:List Str) (E:Mm),runK "tv" ws.reverse []=some [Str.ofString "truth"]/\(∀w∈ws,sm w)/\1<=ws.length/\ws.length<=most/\yV [.int num,.int most] M=some (.v (.lst (ws.map D.str)),M ++ E):=by
  have lp:∃(ws:List Str) (E:Mm) (s3 s4 s5 s6 s7:E3.Slot),runK "tv" ws.reverse []=some [Str.ofString "truth"]/\(∀w∈ws,sm w)/\1<=ws.length/\ws.length<=most/\xV 1000 Ml zB [.val (.int num),.val (.int most),.own [],.val (.ref M.length),.val (.int ((most - 3:Nat):Int)),.val (.int (num % 2147483629)),.un,.un] (M ++ [pc [true]])=some (.nx [.val (.int num),.val (.int most),.own (ws.map D.str),s3,s4,s5,s6,s7],M ++ E):=by
    refine MK (Q:=fun o=>∃(ws:List Str) (E:Mm) (s3 s4 s5 s6 s7:E3.Slot),runK "tv" ws.reverse []=some [Str.ofString "truth"]/\(∀w∈ws,sm w)/\1<=ws.length/\ws.length<=most/\o=some (.nx [.val (.int num),.val (.int most),.own (ws.map D.str),s3,s4,s5,s6,s7],M ++ E)) (fun m env N=>∃(ws:List Str) (E:Mm) (pd:List Bool) (room:Nat) (x:Int) (s6 s7:E3.Slot),env=[.val (.int num),.val (.int most),.own (ws.map D.str),.val (.ref (M ++ E).length),.val (.int room),.val (.int x),s6,s7]/\N=M ++ E ++ [pc pd]/\m=pw pd + room/\ws.length + pw pd + room=most/\runK "tv" ws.reverse (pd.map zV)=some [Str.ofString "truth"]/\(∀w∈ws,sm w)/\0<=x/\x<2147483629) ⟨pw [true] + (most - 3),by simp only[pw,xau,xbP,xbd,List.sum_nil,xaP];omega,[],[],[true],most - 3,_,.un,.un,by rw[xaR];rfl,by rw[xaR],rfl,by simp only[pw,xau,xbP,xbd,List.sum_nil,xaP,xbL];omega,rfl,(fun w hw=>by cases hw),xaW _ (by decide),xaO _ (by decide)⟩ ?_;rintro m env N ⟨ws,E,pd,room,x,s6,s7,rfl,rfl,rfl,hb,hr,hw,x0,x1⟩;have hlp:pd.length<=pw pd:=by
      clear hr hb
      induction pd with
      |nil=>exact xai _
      |cons p pd ih=>
        simp only[pw,xau,xbd,xao]at *;cases p<;>simp<;>omega
    refine⟨!pd.isEmpty,M ++ E ++ [pc pd],?_,?_⟩
    · unfold Ml pc;z_go;rw[YX]
      · z_go;rw[xdn,List.isEmpty_map]
      · have:∀ds:List D,(∀d∈ds,d.dep=0)->D.deps ds=0:=fun ds=>by
          induction ds with
          |nil=>intro _;rfl
          |cons d ds ih=>intro h;simp only[D.deps,h d xaF,ih (fun e he=>h e (xar _ he))];rfl
        rw [this _ (fun d hd=>by
          rw[List.mem_reverse,xbc]at hd;obtain⟨p,_,rfl⟩:=hd;rfl)]
        omega
    · cases pd with
      |nil=>
        rw[xaf (by simp)];refine⟨ws,E ++ [pc []],_,_,_,_,_,hr,hw,?_,by omega,by rw[xaT]⟩
        cases ws with
        |nil=>cases hr
        |cons a b=>simp
      |cons p pd=>
        rw[xab (by simp)];obtain⟨y,w,pd',room',t6,t7,E2,e,y0,y1,sw,st,hpw⟩:=VH (M:=M ++ E) (num:=num) (most:=most) (s6:=s6) (s7:=s7) (ws:=ws) (p:=p) (pd:=pd) (room:=room) (by omega) (by rw[xao]at hlp;omega) x0 x1;rw[e];refine⟨pw pd' + room',by omega,ws ++ [w],E ++ E2,pd',room',y,t6,t7,by rw[xaT],by rw[xaT M E E2],rfl,by rw[xak,xas];omega,?_,fun u hu=>?_,y0,y1⟩
        · rw[xaX,show [w].reverse=[w] from rfl,xbz];show(stepK "tv" w (pd'.map zV)).bind (runK "tv" ws.reverse)=_;rw[st];exact hr
        · rw[xa9,xbj]at hu;rcases hu with hu |rfl
          · exact hw u hu
          · exact sw
  obtain⟨ws,E,s3,s4,s5,s6,s7,h1,h2,h3,h4,lp⟩:=lp;refine⟨ws,E,h1,h2,h3,h4,?_⟩;have e0:M ++ [Cl.lst [.str "cond"]]=M ++ [pc [true]]:=rfl;unfold yV Ge;z_go;unfold QM;z_go;unfold QS;z_go;unfold QT;z_go;unfold QV;rw[xK,e0,show(most:Int) - 3=((most - 3:Nat):Int) by omega,lp];unfold QW;z_go
noncomputable def lR (ws:List Str):E3.Cl:=.obj "Cond" [("parts",.tup (ws.map D.str))]
noncomputable def fj (ws:List Str):E3.Cl:=.obj "Expr" [("parts",.tup (ws.map D.str))]
theorem Va {d0:D}{ws:List Str}(h:fZ M d0 ws):vw M d0=.lst (ws.map D.str):=by
 rcases h with rfl |⟨j,rfl,hj⟩
 ·rfl
 ·exact sX hj
theorem fZ.app {d0:D}{ws:List Str}{c:E3.Cl}(h:fZ M d0 ws):fZ (M ++ [c]) d0 ws:=by
 rcases h with rfl |⟨j,rfl,hj⟩
 ·exact .inl rfl
 ·exact .inr ⟨j,rfl,by rw[xax (xad.mp hj).1];exact hj⟩
theorem inC {d0:D}{ws:List Str}(h:fZ M d0 ws):yQ [.ref M.length,d0] (M ++ [.obj "Cond" []])=some (.v .non,M ++ [lR ws]):=by
 unfold yQ Bs;z_go;rw[Ox (k:=M.length) (fs:=[]) (M1:=M ++ [.obj "Cond" []]) (M2:=M ++ [.obj "Cond" []]) (x:=.tup (ws.map D.str)) ?_ ?_ gK (by decide),s_end]
 ·rfl
 ·z_go;rw[Va h.app];z_go
 ·z_go
theorem rdC {d0:D}{ws:List Str}(hd:fZ M d0 ws)(hs:∀x∈ws,sm x)(hl:ws.length<=900)(h:runK "tv" ws.reverse []=some [Str.ofString "truth"]):tY [d0] M=some (.v (.ref (M ++ [kc ["truth"]]).length),M ++ [kc ["truth"]] ++ [lR ws]):=by
 rcases Ca (M:=M) (L:="tv") (wt:="truth") hd hs hl with⟨_,e⟩ |⟨z,_⟩
 ·unfold tY BL;z_go;rw[e];z_go;rw[QD (ds:=[d0]) (M1:=M ++ [kc ["truth"]]) (by z_go) (inC hd.app)];rfl
 ·exact absurd h z
theorem zc1 {d0:D}{ws:List Str}(hd:fZ M d0 ws)(hs:∀x∈ws,sm x)(hl:ws.length<=900)(h:runK "tv" ws.reverse []≠some [Str.ofString "truth"]):∃c,tY [d0] M=some (.x "NoExpr" 0,M ++ [c]):=by
 rcases Ca (M:=M) (L:="tv") (wt:="truth") hd hs hl with⟨z,_⟩ |⟨_,ks,e⟩
 ·exact absurd z h
 ·refine⟨kc ks,?_⟩;unfold tY BL;z_go;rw[e];rfl
theorem Hj {ws:List Str}{k:Nat}{t v d:D}(hM:M[k]? =some (lR ws))(hr:∀M:Mm,mF [.tup (ws.map D.str),t,v,.int 0] M=some (.v d,M ++ [.lst [d]])):wO [.ref k,t,v] M=some (.v d,M ++ [.lst [d]]):=by
 unfold wO Bt;z_go;rw[Ow (k:=k) (M1:=M) (by z_go) hM rfl];z_go;rw[hr];z_go
theorem WK {d0:D}{ws:List Str}(h:fZ M d0 ws):yR [.ref M.length,d0] (M ++ [.obj "Expr" []])=some (.v .non,M ++ [fj ws]):=by
 unfold yR Bu;z_go;rw[Ox (k:=M.length) (fs:=[]) (M1:=M ++ [.obj "Expr" []]) (M2:=M ++ [.obj "Expr" []]) (x:=.tup (ws.map D.str)) ?_ ?_ gK (by decide),s_end]
 ·rfl
 ·z_go;rw[Va h.app];z_go
 ·z_go
theorem rdE {d0:D}{L:Str}{ws:List Str}(hd:fZ M d0 ws)(hs:∀x∈ws,sm x)(hl:ws.length<=900)(h:runK L ws.reverse []=some [Str.ofString "number"]):tZ [d0,.str L] M=some (.v (.ref (M ++ [kc ["number"]]).length),M ++ [kc ["number"]] ++ [fj ws]):=by
 rcases Ca (M:=M) (L:=L) (wt:="number") hd hs hl with⟨_,e⟩ |⟨z,_⟩
 ·unfold tZ BP;z_go;rw[e];z_go;rw[QD (ds:=[d0]) (M1:=M ++ [kc ["number"]]) (by z_go) (WK hd.app)];rfl
 ·exact absurd h z
theorem zc6 {d0:D}{L:Str}{ws:List Str}(hd:fZ M d0 ws)(hs:∀x∈ws,sm x)(hl:ws.length<=900)(h:runK L ws.reverse []≠some [Str.ofString "number"]):∃c,tZ [d0,.str L] M=some (.x "NoExpr" 0,M ++ [c]):=by
 rcases Ca (M:=M) (L:=L) (wt:="number") hd hs hl with⟨z,_⟩ |⟨_,ks,e⟩
 ·exact absurd z h
 ·refine⟨kc ks,?_⟩;unfold tZ BP;z_go;rw[e];rfl
theorem Ho {L:Str}{ws:List Str}{k:Nat}{t v o d:D}(hM:M[k]? =some (fj ws))(hr:∀M:Mm,mF [.tup (ws.map D.str),t,v,o] M=some (.v d,M ++ [.lst [d]])):wQ [.ref k,t,v,o] M=some (.v d,M ++ [.lst [d]]):=by
 unfold wQ Bv;z_go;rw[Ow (k:=k) (M1:=M) (by z_go) hM rfl];z_go;rw[hr];z_go
theorem vZ {i:Int}(h:i.natAbs<2 ^ 210):Sn (.int i):=⟨i,rfl,h⟩
theorem bw {N E:Mm}{k:Nat}{c:E3.Cl}(h:N[k]? =some c):(N ++ E)[k]? =some c:=by rw[xax (xad.mp h).1];exact h
def Cd (k:Nat):E3.Cl:=.fn lF [("cond",.ref k)]
def tQ (k:Nat):E3.Cl:=.fn f9 [("expr",.ref k)]
theorem zdE {d0:D}{ws:List Str}(hT:M[0]? =some (.tbl "sieve_of" lF))(hd:fZ M d0 ws)(hs:∀x∈ws,sm x)(hl:ws.length<=900)(h:runK "tv" ws.reverse []=some [Str.ofString "truth"]):
  pG [d0] M=some (.v (.ref (M ++ [kc ["truth"]] ++ [lR ws]).length),M ++ [kc ["truth"]] ++ [lR ws] ++ [Cd (M ++ [kc ["truth"]]).length]):=by
 unfold pG BR;z_go;rw[rdC hd hs hl h];z_go;rw[zL (cs:=[("cond",.ref (M ++ [kc ["truth"]]).length)]) (bw (bw hT)) rfl];rfl
theorem zet {d0:D}{ws:List Str}(hd:fZ M d0 ws)(hs:∀x∈ws,sm x)(hl:ws.length<=900)(h:runK "tv" ws.reverse []≠some [Str.ofString "truth"]):∃c,pG [d0] M=some (.x "NoExpr" 0,M ++ [c]):=by
 obtain⟨c,e⟩:=zc1 hd hs hl h;refine⟨c,?_⟩;unfold pG BR;z_go;rw[e];z_go
theorem N5 {d0:D}{L:Str}{ws:List Str}(hT:M[1]? =some (.tbl "change_of" f9))(hd:fZ M d0 ws)(hs:∀x∈ws,sm x)(hl:ws.length<=900)(h:runK L ws.reverse []=some [Str.ofString "number"]):
  m_ [d0,.str L] M=some (.v (.ref (M ++ [kc ["number"]] ++ [fj ws]).length),M ++ [kc ["number"]] ++ [fj ws] ++ [tQ (M ++ [kc ["number"]]).length]):=by
 unfold m_ Bx;z_go;rw[rdE hd hs hl h];z_go;rw[zL (cs:=[("expr",.ref (M ++ [kc ["number"]]).length)]) (bw (bw hT)) rfl];rfl
theorem NZ {d0:D}{L:Str}{ws:List Str}(hd:fZ M d0 ws)(hs:∀x∈ws,sm x)(hl:ws.length<=900)(h:runK L ws.reverse []≠some [Str.ofString "number"]):∃c,m_ [d0,.str L] M=some (.x "NoExpr" 0,M ++ [c]):=by
 obtain⟨c,e⟩:=zc6 hd hs hl h;refine⟨c,?_⟩;unfold m_ Bx;z_go;rw[e];z_go
noncomputable def hold (i:Int):Int:=if (if i<1000000000000000000000000000000000000000000000000000000000000 then i else 1000000000000000000000000000000000000000000000000000000000000) > -1000000000000000000000000000000000000000000000000000000000000 then if i<1000000000000000000000000000000000000000000000000000000000000 then i else 1000000000000000000000000000000000000000000000000000000000000 else -1000000000000000000000000000000000000000000000000000000000000
theorem Hq {i:Int}:rP [.int i] M=some (.v (.int (hold i)),M):=by
 unfold hold rP Gp;z_go
theorem Wy {i:Int}:yW [.int i] M=some (.v (.int (hold i)),M):=by
 unfold hold yW Gh;z_go
theorem Di {i:Int}:pF [.int (hold i),.int i] M=some (.v (.bl true),M):=by
 unfold pF Gi;z_go;rw[Wy];z_go
theorem GD {k:Nat}{ws:List Str}{t v d:D}(hM:M[k]? =some (lR ws))(hr:∀M:Mm,mF [.tup (ws.map D.str),t,v,.int 0] M=some (.v d,M ++ [.lst [d]])):zp [t,v,.ref k] M=some (.v d,M ++ [.lst [d]]):=by
 have a1:sE "Cond" "holds" wO (aj 2) (aA (aj 0) (aA (aj 1) au)) [.val t,.val v,.val (.ref k)] M=some (.v d,M ++ [.lst [d]]):=QF (M1:=M) (M2:=M) (k:=k) (ds:=[t,v]) rfl hM (by kernel_rfl) rfl (Hj hM hr);show b_ (BW [.val t,.val v,.val (.ref k)] M)=_;unfold BW;z_go;rw[a1];z_go
theorem yI {k:Nat}{L:Str}{ws:List Str}{t v o:D}{i:Int}(hM:M[k]? =some (fj ws))(hr:∀M:Mm,mF [.tup (ws.map D.str),t,v,o] M=some (.v (.int i),M ++ [.lst [.int i]])):wV [t,v,o,.ref k] M=some (.v (.int (hold i)),M ++ [.lst [.int i]]):=by
 have a1:sE "Expr" "value" wQ (aj 3) (aA (aj 0) (aA (aj 1) (aA (aj 2) au))) [.val t,.val v,.val o,.val (.ref k)] M=some (.v (.int i),M ++ [.lst [.int i]]):=QF (M1:=M) (M2:=M) (k:=k) (ds:=[t,v,o]) rfl hM (by kernel_rfl) rfl (Ho (L:=L) hM hr);show b_ (BJ [.val t,.val v,.val o,.val (.ref k)] M)=_;unfold BJ;z_go;rw[a1];z_go;rw[Hq];z_go
structure Wok (w0 w1 w2:List Str):Prop where
 r0:runK "tv" w0.reverse []=some [Str.ofString "truth"]
 r1:runK "tv" w1.reverse []=some [Str.ofString "number"]
 r2:runK "tvw" w2.reverse []=some [Str.ofString "number"]
 l0:1<=w0.length/\w0.length<=46
 l1:1<=w1.length/\w1.length<=46
 l2:1<=w2.length/\w2.length<=46
 s0:∀x∈w0,sm x
 s1:∀x∈w1,sm x
 s2:∀x∈w2,sm x
structure Mad (M:Mm)(f0 f1 f2 k0 k1 k2 kt:Nat)(w0 w1 w2:List Str):Prop where
 a0:M[f0]? =some (Cd k0)
 a1:M[f1]? =some (tQ k1)
 a2:M[f2]? =some (tQ k2)
 b0:M[k0]? =some (lR w0)
 b1:M[k1]? =some (fj w1)
 b2:M[k2]? =some (fj w2)
 t:M[kt]? =some (.lst [.lst (w0.map D.str),.lst (w1.map D.str),.lst (w2.map D.str)])
theorem Mad.app {f0 f1 f2 k0 k1 k2 kt:Nat}{w0 w1 w2:List Str}{E:Mm}(h:Mad M f0 f1 f2 k0 k1 k2 kt w0 w1 w2):Mad (M ++ E) f0 f1 f2 k0 k1 k2 kt w0 w1 w2:=⟨bw h.a0,bw h.a1,bw h.a2,bw h.b0,bw h.b1,bw h.b2,bw h.t⟩
def c7 (f0 f1 f2:Nat):D:=.lst [.ref f0,.ref f1,.ref f2]
theorem Q9 {d:D}{n:Nat}(h:Vk "number" d n):∃i,d=.int i:=by
 rcases h with⟨_,i,e,_⟩ |⟨z,_⟩
 ·exact⟨i,e⟩
 ·exact absurd z (by x_go)
theorem FT {f0 f1 f2 k0 k1 k2 kt:Nat}{w0 w1 w2:List Str}{u2 s3 s4 s8:E3.Slot}{t v o:Int}(W:Wok w0 w1 w2)(h:Mad M f0 f1 f2 k0 k1 k2 kt w0 w1 w2)(st:Sn (.int t))(sv:Sn (.int v))(so:Sn (.int o)):∃E,Ig [.val (c7 f0 f1 f2),.val (.ref kt),u2,s3,s4,.val (.int t),.val (.int v),.val (.int o),s8] M=some (.nx [.val (c7 f0 f1 f2),.val (.ref kt),u2,s3,s4,.val (.int t),.val (.int v),.val (.int o),s8],M ++ E):=by
 obtain⟨d1,n1,r1,k1',_,g1⟩:=KQ W.r2 W.l2.2 st sv so;obtain⟨d1',n1',r1',_,_,w1'⟩:=MN W.r2 W.l2.2 st sv so;rw[r1]at r1';cases r1';obtain⟨i,rfl⟩:=Q9 k1';have a1:nF f9 wV (s2 bG (aj 0) (ak (.int 2))) (aA (aj 5) (aA (aj 6) (aA (aj 7) au))) [.val (c7 f0 f1 f2),.val (.ref kt),u2,s3,s4,.val (.int t),.val (.int v),.val (.int o),s8] M=some (.v (.int (hold i)),M ++ [.lst [.int i]]):=
  GC (M1:=M) (M2:=M) (k:=f2) (ds:=[.int t,.int v,.int o]) rfl h.a2 rfl (yI (L:="tvw") h.b2 g1)
 refine⟨[.lst [.int i]] ++ [.lst [.int i]],?_⟩;unfold Ig;z_go;rw[a1];z_go;rw[sX h.app.t];z_go;rw[w1'];z_go;rw[Di];z_go;simp only[xaT,xbY,xcw]
theorem FQ {f0 f1 f2 k0 k1 k2 kt:Nat}{w0 w1 w2:List Str}{u2 s3 s4 s8:E3.Slot}{t v o:Int}(W:Wok w0 w1 w2)(h:Mad M f0 f1 f2 k0 k1 k2 kt w0 w1 w2)(st:Sn (.int t))(sv:Sn (.int v))(so:Sn (.int o)):∃E,Ie [.val (c7 f0 f1 f2),.val (.ref kt),u2,s3,s4,.val (.int t),.val (.int v),.val (.int o),s8] M=some (.nx [.val (c7 f0 f1 f2),.val (.ref kt),u2,s3,s4,.val (.int t),.val (.int v),.val (.int o),s8],M ++ E):=by
 have sz:Sn (.int 0):=vZ (by decide);obtain⟨d1,n1,r1,k1',_,g1⟩:=KQ W.r1 W.l1.2 st sv sz;obtain⟨d1',n1',r1',_,_,w1'⟩:=MN W.r1 W.l1.2 st sv sz;rw[r1]at r1';cases r1';obtain⟨i,rfl⟩:=Q9 k1';have a1:nF f9 Ck (s2 bG (aj 0) (ak (.int 1))) (aA (aj 5) (aA (aj 6) au)) [.val (c7 f0 f1 f2),.val (.ref kt),u2,s3,s4,.val (.int t),.val (.int v),.val (.int o),s8] M=some (.v (.int (hold i)),M ++ [.lst [.int i]]):=
  GC (M1:=M) (M2:=M) (k:=f1) (ds:=[.int t,.int v]) rfl h.a1 rfl (yI (L:="tv") h.b1 g1)
 obtain⟨E,e⟩:=FT (M:=M ++ [.lst [.int i]] ++ [.lst [.int i]]) (u2:=u2) (s3:=s3) (s4:=s4) (s8:=s8) W h.app.app st sv so;refine⟨[.lst [.int i]] ++ [.lst [.int i]] ++ E,?_⟩;unfold Ie;z_go;rw[a1];z_go;rw[sX h.app.t];z_go;rw[w1'];z_go;rw[Di];z_go;rw[e];simp only[xaT,xbY,xcw]
theorem tM {f0 f1 f2 k0 k1 k2 kt:Nat}{w0 w1 w2:List Str}{u2 s3 s4 s8:E3.Slot}{t v o:Int}(W:Wok w0 w1 w2)(h:Mad M f0 f1 f2 k0 k1 k2 kt w0 w1 w2)(st:Sn (.int t))(sv:Sn (.int v))(so:Sn (.int o)):∃t8 E,Ib [.val (c7 f0 f1 f2),.val (.ref kt),u2,s3,s4,.val (.int t),.val (.int v),.val (.int o),s8] M=some (.nx [.val (c7 f0 f1 f2),.val (.ref kt),u2,s3,s4,.val (.int t),.val (.int v),.val (.int o),t8],M ++ E):=by
 have sz:Sn (.int 0):=vZ (by decide);obtain⟨d1,n1,r1,k1',_,g1⟩:=KQ W.r0 W.l0.2 st sv sz;obtain⟨d1',n1',r1',_,_,w1'⟩:=MN W.r0 W.l0.2 st sv sz;rw[r1]at r1';cases r1';obtain⟨b,rfl⟩:∃b,d1=.bl b:=by
  rcases k1' with⟨z,_⟩ |⟨_,b,e⟩
  ·exact absurd z (by x_go)
  ·exact⟨b,e⟩
 have a1:nF lF zp (s2 bG (aj 0) (ak (.int 0))) (aA (aj 5) (aA (aj 6) au)) [.val (c7 f0 f1 f2),.val (.ref kt),u2,s3,s4,.val (.int t),.val (.int v),.val (.int o),s8] M=some (.v (.bl b),M ++ [.lst [.bl b]]):=
  GC (M1:=M) (M2:=M) (k:=f0) (ds:=[.int t,.int v]) rfl h.a0 rfl (GD h.b0 g1)
 obtain⟨E,e⟩:=FQ (M:=M ++ [.lst [.bl b]] ++ [.lst [.bl b]]) (u2:=u2) (s3:=s3) (s4:=s4) (s8:=.val (.bl b)) W h.app.app st sv so;refine⟨.val (.bl b),[.lst [.bl b]] ++ [.lst [.bl b]] ++ E,?_⟩;unfold Ib;z_go;rw[a1];z_go;unfold Qv;z_go;rw[sX h.app.t];z_go;rw[w1'];z_go;rw[Q_ (by simp[D.dep])];z_go;rw[e];simp only[xaT,xbY,xcw]
theorem Vi {f0 f1 f2 k0 k1 k2 kt j:Nat}{w0 w1 w2:List Str}{cell:Int}{as:List Int}{s5 s6 s7 s8:E3.Slot}(W:Wok w0 w1 w2)(h:Mad M f0 f1 f2 k0 k1 k2 kt w0 w1 w2)(ha:as.length=6)(hj:j<3)(hd:tU as):
  ∃t5 t6 t7 t8 E,wY [.val (c7 f0 f1 f2),.val (.ref kt),.val (.int cell),.val (.lst (as.map D.int)),.val (.int j),s5,s6,s7,s8] M=some (.nx [.val (c7 f0 f1 f2),.val (.ref kt),.val (.int cell),.val (.lst (as.map D.int)),.val (.int j),t5,t6,t7,t8],M ++ E):=by
 have ix:∀i:Nat,i<6->∃a:Int,bR (as.map D.int) (i:Int)=some (.int a):=fun i hi=>⟨as[i]'(by omega),by rw[Ga,mY (xae (by omega))];rfl⟩;obtain⟨a,ea⟩:=ix j (by omega);obtain⟨b,eb⟩:=ix (j + 1) (by omega);obtain⟨c,ec⟩:=ix (j + 2) (by omega);have eb':bR (as.map D.int) ((j:Int) + 1)=some (.int b):=by rw[<-eb];congr 1
 have ec':bR (as.map D.int) ((j:Int) + 2)=some (.int c):=by rw[<-ec];congr 1
 have t0:=xaW (cell + a) (show(1000000000000001:Int)≠0 by decide);have t1:=xaO (cell + a) (show(0:Int)<1000000000000001 by decide);generalize et:(cell + a) % 1000000000000001=t at t0 t1;have v0:=xaW (cell * 48271 + b) (show(2000000000000000000000000000000000000000000000000000000000001:Int)≠0 by decide);have v1:=xaO (cell * 48271 + b) (show(0:Int)<2000000000000000000000000000000000000000000000000000000000001 by decide);generalize ev:(cell * 48271 + b) % 2000000000000000000000000000000000000000000000000000000000001=v at v0 v1;have o0:=xaW (cell * 69621 + c) (show(2000000000000000000000000000000000000000000000000000000000001:Int)≠0 by decide);have o1:=xaO (cell * 69621 + c) (show(0:Int)<2000000000000000000000000000000000000000000000000000000000001 by decide);generalize eo:(cell * 69621 + c) % 2000000000000000000000000000000000000000000000000000000000001=o at o0 o1;have p210:(1009000000000000000000000000000000000000000000000000000000000000:Nat)<2 ^ 210:=by x_go
 have st:Sn (.int t):=vZ (by omega);have sv:Sn (.int (v - 1000000000000000000000000000000000000000000000000000000000000)):=vZ (by omega);have sv2:Sn (.int ((v - 1000000000000000000000000000000000000000000000000000000000000) * 997)):=vZ (by omega);have sv3:Sn (.int (a % 11 - 5)):=vZ (by omega);have so:Sn (.int ((o - 1000000000000000000000000000000000000000000000000000000000000) * 1009)):=vZ (by omega);generalize ev':v - 1000000000000000000000000000000000000000000000000000000000000=v' at sv sv2;generalize eo':(o - 1000000000000000000000000000000000000000000000000000000000000) * 1009=o' at so;have go:wY [.val (c7 f0 f1 f2),.val (.ref kt),.val (.int cell),.val (.lst (as.map D.int)),.val (.int j),s5,s6,s7,s8] M=zK [.val (c7 f0 f1 f2),.val (.ref kt),.val (.int cell),.val (.lst (as.map D.int)),.val (.int j),.val (.int t),.val (.int v'),.val (.int o'),s8] M:=by
  unfold wY;z_go;simp only[ea];z_go;rw[et];unfold Qt;z_go;simp only[eb'];z_go;rw[ev,ev'];unfold Qu;z_go;simp only[ec'];z_go;rw[eo,eo']
 rw[go];have cs:(j:Int)=0\/(j:Int)=1\/(j:Int)=2:=by omega
 rcases cs with q |q |q
 ·obtain⟨t8,E,e⟩:=tM (M:=M) (u2:=.val (.int cell)) (s3:=.val (.lst (as.map D.int))) (s4:=.val (.int j)) (s8:=s8) W h st sv so;refine⟨_,_,_,t8,E,xdo ?_ e⟩;rw[q];unfold zK;z_go;unfold CQ;z_go
 ·obtain⟨t8,E,e⟩:=tM (M:=M) (u2:=.val (.int cell)) (s3:=.val (.lst (as.map D.int))) (s4:=.val (.int j)) (s8:=s8) W h st sv3 so;refine⟨_,_,_,t8,E,xdo ?_ e⟩;rw[q]at ea ⊢;unfold zK;z_go;unfold CQ;z_go;simp only[ea];z_go
 ·obtain⟨t8,E,e⟩:=tM (M:=M) (u2:=.val (.int cell)) (s3:=.val (.lst (as.map D.int))) (s4:=.val (.int j)) (s8:=s8) W h st sv2 so;refine⟨_,_,_,t8,E,xdo ?_ e⟩;rw[q];unfold zK;z_go;unfold CQ;z_go
theorem Vh {f0 f1 f2 k0 k1 k2 kt:Nat}{w0 w1 w2:List Str}{cell:Int}{as:List Int}(W:Wok w0 w1 w2)(h:Mad M f0 f1 f2 k0 k1 k2 kt w0 w1 w2)(ha:as.length=6)(hd:tU as):∃E,yS [c7 f0 f1 f2,.ref kt,.int cell,.lst (as.map D.int)] M=some (.v (.bl true),M ++ E):=by
 have lp:∃E,b_ (eU CV (loopS 4 wY [.int 0,.int 1,.int 2] [.val (c7 f0 f1 f2),.val (.ref kt),.val (.int cell),.val (.lst (as.map D.int)),.un,.un,.un,.un,.un] M))=some (.v (.bl true),M ++ E):=by
  refine w6 (fun o=>∃E,b_ (eU CV o)=some (.v (.bl true),M ++ E)) (fun _ env N=>∃s4 s5 s6 s7 s8 E,env=[.val (c7 f0 f1 f2),.val (.ref kt),.val (.int cell),.val (.lst (as.map D.int)),s4,s5,s6,s7,s8]/\N=M ++ E) ⟨_,_,_,_,_,[],rfl,(xaR M).symm⟩ ?_ ?_
  ·rintro q d env N hq ⟨s4,s5,s6,s7,s8,E,rfl,rfl⟩;refine⟨by show 4<9;decide,?_⟩;obtain⟨j,rfl,hj⟩:∃j:Nat,d=.int j/\j<3:=by
    have:=xaw hq;simp only[xaJ,xcm,xdK]at this;rcases this with rfl |rfl |rfl
    ·exact⟨0,rfl,by decide⟩
    ·exact⟨1,rfl,by decide⟩
    ·exact⟨2,rfl,by decide⟩
   show Step _ _ (wY [.val (c7 f0 f1 f2),.val (.ref kt),.val (.int cell),.val (.lst (as.map D.int)),.val (.int j),s5,s6,s7,s8] (M ++ E));obtain⟨t5,t6,t7,t8,E2,e⟩:=Vi (M:=M ++ E) (cell:=cell) (s5:=s5) (s6:=s6) (s7:=s7) (s8:=s8) W h.app ha hj hd;rw[e];exact⟨_,_,_,_,_,E ++ E2,rfl,xaT ..⟩
  ·rintro env N ⟨s4,s5,s6,s7,s8,E,rfl,rfl⟩;refine⟨E,?_⟩;unfold CV;z_go
 obtain⟨E,lp⟩:=lp;refine⟨E,?_⟩;unfold yS Gb;rw[<-lp,z_,xK,J4,Kc];z_go;rw[xM (by omega),show((List.range (3:Int).toNat).map fun(k:Nat)=>D.int (0 + k))=[.int 0,.int 1,.int 2] from rfl];rfl
theorem BZ {x:Int}{s0:E3.Slot}:HS [s0,.val (.int x)] M=some (.nx [s0,.val (.int x)],M):=by
 unfold HS;z_go;rw[Hq];z_go;rw[Di];z_go;rw[Hq];z_go;rw[Di];z_go
theorem Vp {x:Int}:yU [.int x] M=some (.v (.bl true),M):=by
 have p210:(1000000000000000000000000000000000000000000000000000000000000:Nat)<2 ^ (210 * 1):=by x_go
 unfold yU Gd;z_go;rw[xab (.inr (.inr ⟨zH (m:=1) (by decide) (xcJ (m:=1000000000000000000000000000000000000000000000000000000000000) (by omega) p210),by x_go⟩))];z_go;rw[BZ];z_go;rw[BZ];z_go;rw[BZ];z_go;rw[BZ];z_go
theorem WD {c:E3.E}{f g:E3.S}{env:E3.Env}{N:Mm}(h:c env M=some (.v (.bl true),N)):gG c f g env M=f env N:=by simp only[gG,h,xaP]
theorem Pn {c:E3.E}{f g:E3.S}{env:E3.Env}{N:Mm}(h:c env M=some (.v (.bl false),N)):gG c f g env M=g env N:=by simp only[gG,h,xbu,xcC]
theorem KH {ws:List Str}(hs:∀x∈ws,sm x)(hl:ws.length<=900)(h:runK "tv" ws.reverse []≠some [Str.ofString "truth"]):∃c,pD [.lst (ws.map D.str),.int 0] M=some (.v (.bl true),M ++ [c]):=by
 obtain⟨c,e⟩:=zet (M:=M) (d0:=.lst (ws.map D.str)) (.inl rfl) hs hl h;refine⟨c,?_⟩;unfold pD yF Ew Cq;z_go;rw[WD (N:=M) (by z_go)];z_go;rw[e];z_go;rw[show wJ "NoExpr"=true by x_go];z_go;rw[show yg "NoExpr"=some true by x_go];z_go
theorem KJ {ws:List Str}(hs:∀x∈ws,sm x)(hl:ws.length<=900)(h:runK "tv" ws.reverse []≠some [Str.ofString "number"]):∃c,pD [.lst (ws.map D.str),.int 1] M=some (.v (.bl true),M ++ [c]):=by
 obtain⟨c,e⟩:=NZ (M:=M) (L:="tv") (d0:=.lst (ws.map D.str)) (.inl rfl) hs hl h;refine⟨c,?_⟩;unfold pD yF Ew Cq;z_go;rw[Pn (N:=M) (by z_go)];z_go;rw[e];z_go;rw[show wJ "NoExpr"=true by x_go];z_go;rw[show yg "NoExpr"=some true by x_go];z_go
theorem KN {ws:List Str}(hs:∀x∈ws,sm x)(hl:ws.length<=900)(h:runK "tvw" ws.reverse []≠some [Str.ofString "number"]):∃c,pD [.lst (ws.map D.str),.int 2] M=some (.v (.bl true),M ++ [c]):=by
 obtain⟨c,e⟩:=NZ (M:=M) (L:="tvw") (d0:=.lst (ws.map D.str)) (.inl rfl) hs hl h;refine⟨c,?_⟩;unfold pD yF Ew Cq;z_go;rw[Pn (N:=M) (by z_go)];z_go;rw[e];z_go;rw[show wJ "NoExpr"=true by x_go];z_go;rw[show yg "NoExpr"=some true by x_go];z_go
def TT (M:Mm):Prop:=M[0]? =some (.tbl "sieve_of" lF)/\M[1]? =some (.tbl "change_of" f9)
theorem TT.app {E:Mm}(h:TT M):TT (M ++ E):=⟨bw h.1,bw h.2⟩
theorem TT.set {k:Nat}{c:E3.Cl}(h:TT M)(hk:2<=k):TT (M.set k c):=⟨by rw[xbe (by omega)];exact h.1,by rw[xbe (by omega)];exact h.2⟩
theorem HY (ws:List Str)(h:1<=ws.length):∃u a,ws=u ++ [a]:=by
 rcases List.eq_nil_or_concat ws with z |⟨u,a,z⟩
 ·rw[z]at h;exact absurd h (by decide)
 ·exact⟨u,a,by rw[z,List.concat_eq_append]⟩
theorem G3 {ws u:List Str}{a:Str}(h:ws=u ++ [a]):dU (ws.map D.str) none (some (-1))=u.map D.str:=by rw[h,xbv];exact V5 _ _
theorem HD {kt j:Nat}{w0 w1 w2:List Str}{s0 s1 u2 s4 s5 s6:E3.Slot}(W:Wok w0 w1 w2)(h:M[kt]? =some (.lst [.lst (w0.map D.str),.lst (w1.map D.str),.lst (w2.map D.str)]))(hj:j<3):
  ∃c,rQ [s0,s1,u2,.val (.ref kt),s4,s5,s6,.val (.int j)] M=some (.nx [s0,s1,u2,.val (.ref kt),s4,s5,s6,.val (.int j)],M ++ [c]):=by
 have cs:(j:Int)=0\/(j:Int)=1\/(j:Int)=2:=by omega
 have r0:=W.r0;have r1:=W.r1;have r2:=W.r2;have m0:=W.s0;have m1:=W.s1;have m2:=W.s2;have l0:=W.l0;have l1:=W.l1;have l2:=W.l2;obtain⟨u0,a0,rfl⟩:=HY w0 l0.1;obtain⟨u1,a1,rfl⟩:=HY w1 l1.1;obtain⟨v2,a2,rfl⟩:=HY w2 l2.1;rw[xak,xas]at l0 l1 l2;rcases cs with q |q |q
 ·obtain⟨c,e⟩:=KH (M:=M) (ws:=u0) (fun y hy=>m0 y (xbk _ hy)) (by omega) (Ir r0);refine⟨c,?_⟩;rw[q];unfold rQ;z_go;rw[sX h];z_go;rw[G3 rfl,e];z_go
 ·obtain⟨c,e⟩:=KJ (M:=M) (ws:=u1) (fun y hy=>m1 y (xbk _ hy)) (by omega) (Ir r1);refine⟨c,?_⟩;rw[q];unfold rQ;z_go;rw[sX h];z_go;rw[G3 rfl,e];z_go
 ·obtain⟨c,e⟩:=KN (M:=M) (ws:=v2) (fun y hy=>m2 y (xbk _ hy)) (by omega) (Ir r2);refine⟨c,?_⟩;rw[q];unfold rQ;z_go;rw[sX h];z_go;rw[G3 rfl,e];z_go
theorem Z9 {kt:Nat}{w0 w1 w2:List Str}{s0 s1 u2 s4 s5 s6 s7:E3.Slot}(W:Wok w0 w1 w2)(h:M[kt]? =some (.lst [.lst (w0.map D.str),.lst (w1.map D.str),.lst (w2.map D.str)])):
  ∃t7 E,Ij [s0,s1,u2,.val (.ref kt),s4,s5,s6,s7] M=some (.nx [s0,s1,u2,.val (.ref kt),s4,s5,s6,t7],M ++ E):=by
 obtain⟨c0,e0⟩:=HD (M:=M) (j:=0) (s0:=s0) (s1:=s1) (u2:=u2) (s4:=s4) (s5:=s5) (s6:=s6) W h (by decide);obtain⟨c1,e1⟩:=HD (M:=M ++ [c0]) (j:=1) (s0:=s0) (s1:=s1) (u2:=u2) (s4:=s4) (s5:=s5) (s6:=s6) W (bw h) (by decide);obtain⟨c2,e2⟩:=HD (M:=M ++ [c0] ++ [c1]) (j:=2) (s0:=s0) (s1:=s1) (u2:=u2) (s4:=s4) (s5:=s5) (s6:=s6) W (bw (bw h)) (by decide);have e0':rQ [s0,s1,u2,.val (.ref kt),s4,s5,s6,.val (.int 0)] M=_:=e0;have e1':rQ [s0,s1,u2,.val (.ref kt),s4,s5,s6,.val (.int 1)] (M ++ [c0])=_:=e1;have e2':rQ [s0,s1,u2,.val (.ref kt),s4,s5,s6,.val (.int 2)] (M ++ [c0] ++ [c1])=_:=e2;refine⟨.val (.int 2),[c0] ++ [c1] ++ [c2],?_⟩;unfold Ij;rw[xK,J4,Kc];z_go;rw[xM (by omega),show((List.range (3:Int).toNat).map fun(k:Nat)=>D.int (0 + k))=[.int 0,.int 1,.int 2] from rfl];z_go;rw[e0'];z_go;rw[e1'];z_go;rw[e2'];z_go;simp only[xaT,Int.cast_ofNat_Int,xbY,xcw]
theorem Z8 {f0 f1 f2 k0 k1 k2 kt:Nat}{w0 w1 w2:List Str}{cell:Int}{xs:List Int}{s0 s4 s6 s7:E3.Slot}(W:Wok w0 w1 w2)(h:Mad M f0 f1 f2 k0 k1 k2 kt w0 w1 w2)(hx:xs.length=12)(hb:tU xs):
  ∃t7 E,Ii [s0,.val (.int cell),.val (.lst (xs.map D.int)),.val (.ref kt),s4,.val (c7 f0 f1 f2),s6,s7] M=some (.nx [s0,.val (.int cell),.val (.lst (xs.map D.int)),.val (.ref kt),s4,.val (c7 f0 f1 f2),s6,t7],M ++ E):=by
 have hcut:dU (xs.map D.int) (some 6) none=(xs.drop 6).map D.int:=by rw[V3 _ (by decide),List.map_drop];rfl
 obtain⟨E,as⟩:=Vh (M:=M) (cell:=cell) (as:=xs.drop 6) W h (by rw[xcY];omega) (fun y hy=>hb y (List.mem_of_mem_drop hy));obtain⟨t7,E2,e⟩:=Z9 (M:=M ++ E) (s0:=s0) (s1:=.val (.int cell)) (u2:=.val (.lst (xs.map D.int))) (s4:=s4) (s5:=.val (c7 f0 f1 f2)) (s6:=s6) (s7:=s7) W h.app.t;refine⟨t7,E ++ E2,?_⟩;unfold Ii;z_go;rw[hcut,as];z_go;rw[e,xaT]
theorem Wb {d e a:D}{f g:E3.E}{env:E3.Env}{M1 M2:Mm}(h1:f env M=some (.v d,M1))(h2:g env M1=some (.v e,M2))(h3:m6 M2 d=some a)(h4:m6 M2 e=some a)(h5:a.dep<=50):kI true f g env M=some (.v (.bl false),M2):=by
 simp only[kI,bnd,h1,h2,h3,h4,xaP,Q_ h5,xaD]
theorem J2:∀ws:List Str,D.plains (ws.map D.str)=true
 | []=>rfl
 |_::r=>by simp only[xau,D.plains,D.plain,J2 r,xbC]
theorem GZ {j n t:Nat}{e:E3.E}{env:E3.Env}{ds acc:List D}{d y:D}{M2:Mm}(hM:M[j]? =some (.lst ds))(hd:ds[t]? =some d)(he:e (.val d::env) M=some (.v y,M2))(hl:acc.length + 1<sizeLine):mC j e env (n + 1) t acc M=mC j e env n (t + 1) (acc ++ [y]) M2:=by
 simp only[mC,hM,hd,he,xab hl]
theorem V1 {j n t:Nat}{e:E3.E}{env:E3.Env}{ds acc:List D}(hM:M[j]? =some (.lst ds))(hd:ds[t]? =none):mC j e env (n + 1) t acc M=some (acc,M):=by
 simp only[mC,hM,hd]
theorem G7 {a:List D}{env:E3.Env}:Ci (.val (.lst a)::env) M=some (.v (.ref M.length),M ++ [.lst a]):=by
 unfold Ci;z_go
theorem V0 {kt:Nat}{a b c:List D}{env:E3.Env}{f:E3.E}(hf:f env M=some (.v (.ref kt),M))(h:M[kt]? =some (.lst [.lst a,.lst b,.lst c])):
  sy 1000 [] f Ci env M=some (.v (.lst [.ref M.length,.ref (M.length + 1),.ref (M.length + 2)]),M ++ [.lst a] ++ [.lst b] ++ [.lst c]):=by
 have sl:sizeLine=16777216:=xa6;simp only[sy,bnd,hf];rw[show(1000:Nat)=996 + 1 + 1 + 1 + 1 from rfl,GZ h rfl G7 (by rw[sl];decide),GZ (bw h) rfl G7 (by rw[sl];simp),GZ (bw (bw h)) rfl G7 (by rw[sl];simp),V1 (bw (bw (bw h))) rfl]
 simp
theorem tL {A B C D:Mm}:∃E,A ++ B ++ C ++ D=A ++ E:=⟨B ++ C ++ D,by simp only[xaT]⟩
theorem Z5 {h0 h1 h2 kt:Nat}{w0 w1 w2:List Str}{cell:Int}{xs:List Int}{s0 s5 s6 s7:E3.Slot}(T:TT M)(W:Wok w0 w1 w2)(hk:M[kt]? =some (.lst [.lst (w0.map D.str),.lst (w1.map D.str),.lst (w2.map D.str)]))(e0:M[h0]? =some (.lst (w0.map D.str)))(e1:M[h1]? =some (.lst (w1.map D.str)))(e2:M[h2]? =some (.lst (w2.map D.str)))
  (d01:h0≠h1) (d02:h0≠h2) (d12:h1≠h2) (dk0:h0≠kt) (dk1:h1≠kt) (dk2:h2≠kt) (g0:2<=h0) (g1:2<=h1) (g2:2<=h2) (hx:xs.length=12) (hb:tU xs):
  ∃t5 t6 t7 M',Ih [s0,.val (.int cell),.val (.lst (xs.map D.int)),.val (.ref kt),.val (.lst [.ref h0,.ref h1,.ref h2]),s5,s6,s7] M=some (.nx [s0,.val (.int cell),.val (.lst (xs.map D.int)),.val (.ref kt),.val (.lst [.ref h0,.ref h1,.ref h2]),t5,t6,t7],M')/\TT M':=by
 have lt0:=(xad.mp e0).1;have lt1:=(xad.mp e1).1;have lt2:=(xad.mp e2).1;have ltk:=(xad.mp hk).1;have l0:=W.l0;have l1:=W.l1;have l2:=W.l2;have c0:=zdE (M:=M) (d0:=.ref h0) T.1 (.inr ⟨h0,rfl,e0⟩) W.s0 (by omega) W.r0;obtain⟨N1,eN1⟩:∃N,N=M ++ [kc ["truth"]] ++ [lR w0] ++ [Cd (M ++ [kc ["truth"]]).length]:=⟨_,rfl⟩;have x1:∃E,N1=M ++ E:=by rw[eN1];exact tL
 have f0e:N1[(M ++ [kc ["truth"]] ++ [lR w0]).length]? =some (Cd (M ++ [kc ["truth"]]).length):=by rw[eN1];exact gK
 have k0e:N1[(M ++ [kc ["truth"]]).length]? =some (lR w0):=by rw[eN1];exact bw gK
 rw[<-eN1]at c0;have f0g:M.length<(M ++ [kc ["truth"]] ++ [lR w0]).length:=by simp only[xak,xas];omega
 have k0g:M.length<(M ++ [kc ["truth"]]).length:=by simp only[xak,xas];omega
 generalize (M ++ [kc ["truth"]] ++ [lR w0]).length=f0 at c0 f0e f0g;generalize (M ++ [kc ["truth"]]).length=k0 at f0e k0e k0g;clear eN1;obtain⟨E1,rfl⟩:=x1;have c1:=N5 (M:=M ++ E1) (L:="tv") (d0:=.ref h1) T.app.2 (.inr ⟨h1,rfl,bw e1⟩) W.s1 (by omega) W.r1;obtain⟨N2,eN2⟩:∃N,N=M ++ E1 ++ [kc ["number"]] ++ [fj w1] ++ [tQ (M ++ E1 ++ [kc ["number"]]).length]:=⟨_,rfl⟩;have x2:∃E,N2=M ++ E1 ++ E:=by rw[eN2];exact tL
 have f1e:N2[(M ++ E1 ++ [kc ["number"]] ++ [fj w1]).length]? =some (tQ (M ++ E1 ++ [kc ["number"]]).length):=by rw[eN2];exact gK
 have k1e:N2[(M ++ E1 ++ [kc ["number"]]).length]? =some (fj w1):=by rw[eN2];exact bw gK
 rw[<-eN2]at c1;have f1g:M.length<(M ++ E1 ++ [kc ["number"]] ++ [fj w1]).length:=by simp only[xak,xas];omega
 have k1g:M.length<(M ++ E1 ++ [kc ["number"]]).length:=by simp only[xak,xas];omega
 generalize (M ++ E1 ++ [kc ["number"]] ++ [fj w1]).length=f1 at c1 f1e f1g;generalize (M ++ E1 ++ [kc ["number"]]).length=k1 at f1e k1e k1g;clear eN2;obtain⟨E2,rfl⟩:=x2;have c2:=N5 (M:=M ++ E1 ++ E2) (L:="tvw") (d0:=.ref h2) T.app.app.2 (.inr ⟨h2,rfl,bw (bw e2)⟩) W.s2 (by omega) W.r2;obtain⟨N3,eN3⟩:∃N,N=M ++ E1 ++ E2 ++ [kc ["number"]] ++ [fj w2] ++ [tQ (M ++ E1 ++ E2 ++ [kc ["number"]]).length]:=⟨_,rfl⟩;have x3:∃E,N3=M ++ E1 ++ E2 ++ E:=by rw[eN3];exact tL
 have f2e:N3[(M ++ E1 ++ E2 ++ [kc ["number"]] ++ [fj w2]).length]? =some (tQ (M ++ E1 ++ E2 ++ [kc ["number"]]).length):=by rw[eN3];exact gK
 have k2e:N3[(M ++ E1 ++ E2 ++ [kc ["number"]]).length]? =some (fj w2):=by rw[eN3];exact bw gK
 rw[<-eN3]at c2;have f2g:M.length<(M ++ E1 ++ E2 ++ [kc ["number"]] ++ [fj w2]).length:=by simp only[xak,xas];omega
 have k2g:M.length<(M ++ E1 ++ E2 ++ [kc ["number"]]).length:=by simp only[xak,xas];omega
 generalize (M ++ E1 ++ E2 ++ [kc ["number"]] ++ [fj w2]).length=f2 at c2 f2e f2g;generalize (M ++ E1 ++ E2 ++ [kc ["number"]]).length=k2 at f2e k2e k2g;clear eN3;obtain⟨E3',rfl⟩:=x3;have q0:(M ++ E1 ++ E2 ++ E3')[h0]? =some (.lst (w0.map D.str)):=bw (bw (bw e0));have q1:(M ++ E1 ++ E2 ++ E3')[h1]? =some (.lst (w1.map D.str)):=bw (bw (bw e1));have q2:(M ++ E1 ++ E2 ++ E3')[h2]? =some (.lst (w2.map D.str)):=bw (bw (bw e2));have md:Mad (M ++ E1 ++ E2 ++ E3') f0 f1 f2 k0 k1 k2 kt w0 w1 w2:=⟨bw (bw f0e),bw f1e,f2e,bw (bw k0e),bw k1e,k2e,bw (bw (bw hk))⟩;have TN:TT (M ++ E1 ++ E2 ++ E3'):=T.app.app.app;generalize (M ++ E1 ++ E2 ++ E3')=N at c2 q0 q1 q2 md TN;have sd:∀{Q:Mm} {i j:Nat} {c x:E3.Cl},i≠j->Q[j]? =some c->(Q.set i x)[j]? =some c:=fun hne hq=>by rw[xbe hne];exact hq
 have mset:∀{Q:Mm} {i:Nat} {x:E3.Cl},i<M.length->i≠kt->Mad Q f0 f1 f2 k0 k1 k2 kt w0 w1 w2->Mad (Q.set i x) f0 f1 f2 k0 k1 k2 kt w0 w1 w2:=fun hi hn m=>⟨sd (by omega) m.a0,sd (by omega) m.a1,sd (by omega) m.a2,sd (by omega) m.b0,sd (by omega) m.b1,sd (by omega) m.b2,sd hn m.t⟩;have nd:m6 N (.lst [.ref h0,.ref h1,.ref h2])=some (.lst [.lst (w0.map D.str),.lst (w1.map D.str),.lst (w2.map D.str)]):=by
  simp only[m6,vw,xau,xbP,q0,q1,q2,D.plains,D.plain,J2,xbC,xaP]
 have nk:m6 N (.ref kt)=some (.lst [.lst (w0.map D.str),.lst (w1.map D.str),.lst (w2.map D.str)]):=by
  simp only[m6,vw,xau,xbP,md.t,D.plains,D.plain,J2,xbC,xaP]
 have ev:=Wb (M:=N) (f:=aj 4) (g:=aj 3) (env:=[s0,.val (.int cell),.val (.lst (xs.map D.int)),.val (.ref kt),.val (.lst [.ref h0,.ref h1,.ref h2]),.val (c7 f0 f1 f2),s6,s7]) rfl rfl nd nk (by simp[D.dep,D.deps,Ef]);obtain⟨t7,E,e⟩:=Z8 (M:=((N.set h0 (.lst [])).set h1 (.lst [])).set h2 (.lst [])) (cell:=cell) (xs:=xs) (s0:=s0) (s4:=.val (.lst [.ref h0,.ref h1,.ref h2])) (s6:=.val (.ref h2)) (s7:=s7) W (mset lt2 dk2 (mset lt1 dk1 (mset lt0 dk0 md))) hx hb;refine⟨.val (c7 f0 f1 f2),.val (.ref h2),t7,_,xdo ?_ e,TT.app (((TN.set g0).set g1).set g2)⟩;have cl:∀{h:Nat} {Q:Mm} {ds:List D},Q[h]? =some (.lst ds)->HW [s0,.val (.int cell),.val (.lst (xs.map D.int)),.val (.ref kt),.val (.lst [.ref h0,.ref h1,.ref h2]),.val (c7 f0 f1 f2),.val (.ref h),s7] Q=some (.nx [s0,.val (.int cell),.val (.lst (xs.map D.int)),.val (.ref kt),.val (.lst [.ref h0,.ref h1,.ref h2]),.val (c7 f0 f1 f2),.val (.ref h),s7],Q.set h (.lst [])):=fun {h Q ds} hq=>by
  unfold HW;rw[xK,Vr (k:=h) (M1:=Q) rfl hq];rfl
 unfold Ih;z_go;rw[c0];z_go;rw[c1];z_go;rw[c2];z_go;unfold QB;rw[show D.lst [.ref f0,.ref f1,.ref f2]=c7 f0 f1 f2 from rfl];z_go;rw[ev];z_go;unfold QC;z_go;rw[cl q0];z_go;rw[cl (sd d01 q1)];z_go;rw[cl (sd d12 (sd d02 q2))];z_go
theorem Ql {L:Str}(h:(decide (L.length<=10) && (cd L).all fun c=>decide (c=116) || decide (c=118) || decide (c=119))=true):LG L:=by
 rw[xam,xaC,xbb]at h;refine⟨h.1,fun c hc=>?_⟩;have:=h.2 c hc;simp only[xbm,xaC,or_assoc]at this;exact this
theorem turn {s0 s2 s3 s4 s5 s6 s7:E3.Slot}{cell:Int}(T:TT M):∃t2 t3 t4 t5 t6 t7 M',CK [s0,.val (.int cell),s2,s3,s4,s5,s6,s7] M=some (.nx [s0,.val (.int cell),t2,t3,t4,t5,t6,t7],M')/\TT M':=by
 obtain⟨xs,hx,hb,hd⟩:=Hi (n:=cell) (m:=12) (by decide);have hd':∀M:Mm,wR [.int cell,.int 12] M=some (.v (.lst (xs.map D.int)),M):=hd;have ix:∀i:Nat,i<12->∃a:Int,bR (xs.map D.int) (i:Int)=some (.int a)/\0<=a:=fun i hi=>⟨xs[i]'(by omega),by rw[Ga,mY (xae (by omega))];rfl,(hb _ (xc2 _)).1⟩;obtain⟨a0,e0,_⟩:=ix 0 (by decide);obtain⟨a1,e1,_⟩:=ix 1 (by decide);obtain⟨a2,e2,_⟩:=ix 2 (by decide);obtain⟨a3,e3,_⟩:=ix 3 (by decide);obtain⟨a4,e4,_⟩:=ix 4 (by decide);obtain⟨a5,e5,_⟩:=ix 5 (by decide);have e0':bR (xs.map D.int) 0=some (.int a0):=e0;have e1':bR (xs.map D.int) 1=some (.int a1):=e1;have e2':bR (xs.map D.int) 2=some (.int a2):=e2;have e3':bR (xs.map D.int) 3=some (.int a3):=e3;have e4':bR (xs.map D.int) 4=some (.int a4):=e4;have e5':bR (xs.map D.int) 5=some (.int a5):=e5;obtain⟨w0,E,r0,m0,l0,l0',g0⟩:=VG (M:=M) (num:=a0) (most:=(3 + a1 % 28).toNat) (by omega);rw[xbF (by omega)]at g0;obtain⟨w1,r1,m1,l1,l1',g1⟩:=Pb (M:=M ++ E) (L:="tv") (num:=a2) (most:=(1 + a3 % 30).toNat) (Ql (by x_go)) (by omega);rw[xbF (by omega)]at g1;obtain⟨w2,r2,m2,l2,l2',g2⟩:=Pb (M:=M ++ E ++ [.lst [.lst (w0.map D.str),.lst (w1.map D.str)]]) (L:="tvw") (num:=a4) (most:=(1 + a5 % 30).toNat) (Ql (by x_go)) (by omega);rw[xbF (by omega)]at g2;have W:Wok w0 w1 w2:=⟨r0,r1,r2,⟨l0,by omega⟩,⟨l1,by omega⟩,⟨l2,by omega⟩,m0,fun x hx=>(m1 x hx).2,fun x hx=>(m2 x hx).2⟩;have T2:TT (M ++ E):=T.app;have g2':2<=(M ++ E).length:=by
  have:=(xad.mp T2.2).1;omega
 have kt : (M ++ E ++ [Cl.lst [.lst (w0.map D.str), .lst (w1.map D.str), .lst (w2.map D.str)]])[(M ++ E).length]? = some (.lst [.lst (w0.map D.str), .lst (w1.map D.str), .lst (w2.map D.str)]) := gK;have T3 : TT (M ++ E ++ [Cl.lst [.lst (w0.map D.str), .lst (w1.map D.str), .lst (w2.map D.str)]]) := T2.app;have ltk := (xad.mp kt).1;generalize hN : (M ++ E ++ [Cl.lst [.lst (w0.map D.str), .lst (w1.map D.str), .lst (w2.map D.str)]]) = N at kt T3 ltk;generalize hK : (M ++ E).length = K at kt ltk g2';have h0 : (N ++ [Cl.lst (w0.map D.str)] ++ [Cl.lst (w1.map D.str)] ++ [Cl.lst (w2.map D.str)])[N.length]? = some (.lst (w0.map D.str)) := bw (bw gK);have h1 : (N ++ [Cl.lst (w0.map D.str)] ++ [Cl.lst (w1.map D.str)] ++ [Cl.lst (w2.map D.str)])[N.length + 1]? = some (.lst (w1.map D.str)) := bw (by
  have:=gK (M:=N ++ [Cl.lst (w0.map D.str)]) (cl:=Cl.lst (w1.map D.str));rw[xak,xas]at this;exact this)
 have h2:(N ++ [Cl.lst (w0.map D.str)] ++ [Cl.lst (w1.map D.str)] ++ [Cl.lst (w2.map D.str)])[N.length + 2]? =some (.lst (w2.map D.str)):=by
  have:=gK (M:=N ++ [Cl.lst (w0.map D.str)] ++ [Cl.lst (w1.map D.str)]) (cl:=Cl.lst (w2.map D.str));rw[xak,xak,xas,xas]at this;exact this
 obtain⟨t5,t6,t7,M',z,TM⟩:=Z5 (M:=N ++ [Cl.lst (w0.map D.str)] ++ [Cl.lst (w1.map D.str)] ++ [Cl.lst (w2.map D.str)]) (cell:=cell) (xs:=xs) (s0:=s0) (s5:=s5) (s6:=s6) (s7:=s7) T3.app.app.app W (bw (bw (bw kt))) h0 h1 h2 (by omega) (by omega) (by omega) (by omega) (by omega) (by omega) (by omega) (by omega) (by omega) hx hb;refine⟨_,_,_,t5,t6,t7,M',xdo ?_ z,TM⟩;unfold CK;z_go;rw[hd'];z_go;unfold Qw;z_go;simp only[e0'];z_go;simp only[e1'];z_go;rw[g0];z_go;simp only[e2'];z_go;simp only[e3'];z_go;rw[g1];z_go;unfold Qx;z_go;simp only[e4'];z_go;simp only[e5'];z_go;rw[g2];z_go;rw[hN,hK];unfold Qy;rw[xK,Ry,V0 rfl kt];z_go;unfold Qz;z_go;rw[Vp];z_go
theorem Xj:∀ns:List Int,ns.length<=63->∃M,mO [.lst (ns.map D.int)] (fM tabs)=some (.v (.bl true),M):=by
 intro ns hn;have T0:TT (fM tabs):=⟨rfl,rfl⟩;generalize fM tabs=M0 at T0;obtain⟨m,em,hm⟩:∃m:Nat,(if (ns.length:Int)<4 then(ns.length:Int) else 4)=m/\m<=ns.length/\m<=4:=by
  split
  ·exact⟨ns.length,rfl,by omega,by omega⟩
  ·exact⟨4,rfl,by omega,by omega⟩
 unfold mO O_ BK;z_go;rw[em,xM (by omega),xce];z_go;rw[GR (fun(k:Nat)=>D.int (0 + k)) (fun(k:Nat)=>D.int (ns.getD k 0 + 1009 * (0 + k))) (List.range m) [] (fun k hk=>?_) (by rw[xa6,xcg];simp;omega)]
 ·z_go;rw[xcg,xab (by omega)];z_go;obtain⟨t2,t3,t4,t5,t6,t7,M',e,T1⟩:=turn (s0:=.val (.lst (ns.map D.int))) (cell:=7) (s2:=.un) (s3:=.un) (s4:=.un) (s5:=.un) (s6:=.un) (s7:=.un) T0;rw[e,RW];refine w6 (fun o=>∃M,b_ (eU Im o)=some (.v (.bl true),M)) (fun k env M=>(∃s1 s2 s3 s4 s5 s6 s7,env=[.val (.lst (ns.map D.int)),s1,s2,s3,s4,s5,s6,s7])/\TT M) ⟨⟨_,_,_,_,_,_,_,rfl⟩,T1⟩ ?_ ?_
  ·rintro k d env M hd ⟨⟨s1,s2,s3,s4,s5,s6,s7,rfl⟩,TM⟩;refine⟨by show 1<8;decide,?_⟩;obtain⟨cell,rfl⟩:∃i,d=.int i:=by
    obtain⟨k,_,e⟩:=xbc.mp (xaw hd);exact⟨_,e.symm⟩
   show Step _ _ (CK [.val (.lst (ns.map D.int)),.val (.int cell),s2,s3,s4,s5,s6,s7] M);obtain⟨t2,t3,t4,t5,t6,t7,M',e,T2⟩:=turn (M:=M) (s0:=.val (.lst (ns.map D.int))) (cell:=cell) (s2:=s2) (s3:=s3) (s4:=s4) (s5:=s5) (s6:=s6) (s7:=s7) TM;rw[e];exact⟨⟨_,_,_,_,_,_,_,rfl⟩,T2⟩
  ·rintro env M ⟨⟨s1,s2,s3,s4,s5,s6,s7,rfl⟩,_⟩;refine⟨M,?_⟩;unfold Im;z_go
 ·have hk':k<m:=xcB.mp hk;unfold Ot;z_go;rw[Ga,Vj 0 (by omega) (by omega)];z_go;congr 4
  simp
theorem Xk {l:PySem.W.OpenLaw}{w:World}{K:Fgx}{mg:Mgx}{C:Ad}{h base:Heap}{f25 f26 f27 f28 f29:Addr}{d25 d26 d27 d28 d29:FuncData}(X:K.In h)(G:h.Ns mainGlobals mg)(T:Txt K mg C w)(hB:lB mg base)
  (F0:aW K "is_figures" Dz)
  (F1:aW K "is_signed_figures" DN)
  (F2:aW K "is_number" DK)
  (F3:aW K "held" Dy)
  (F4:aW K "is_leaf" DG)
  (F5:aW K "take_needed" DX)
  (F6:aW K "check_words" Dv)
  (F7:aW K "combined" Dw)
  (F8:aW K "leaf_value" DP)
  (F9:aW K "reckoned" DW)
  (F10:aW K "read_expr" DR)
  (F11:aW K "read_cond" DQ)
  (F12:aW K "sieve_of" Ax)
  (F13:aW K "change_of" Aw)
  (F14:aW K "_law_drawn" Dp)
  (F15:aW K "_law_leaf" Dr)
  (F16:aW K "_law_expr" Aq)
  (F17:aW K "_law_cond" Ao)
  (F18:aW K "_law_two" Dt)
  (F19:aW K "_law_worth" Du)
  (F20:aW K "_law_held" Dq)
  (F21:aW K "_law_right" Ds)
  (F22:aW K "_law_bounds" Dm)
  (F23:aW K "_law_refused" Av)
  (F24:aW K "_law_asked" Dl)
  (D25:DefAt K mg "law" lO ["_law_script"] f25 d25)
  (D26:IniAt K C.Expr "Expr.__init__" sI ["self","words"] f26 d26)
  (D27:MetAtD K C.Expr "value" "Expr.value" vq ["self","time","value","other"] [(.int 0)] f27 d27)
  (D28:IniAt K C.Cond "Cond.__init__" sG ["self","words"] f28 d28)
  (D29:MetAt K C.Cond "holds" "Cond.holds" sH ["self","time","value"] f29 d29)
  :FnOk l.prog w K mg base gn uc f25 d25 ["_law_script"] (rA K mg 1 mO):=by
 have A0:bf l.prog w K mg base 1 "is_figures" 1 za:=(F0.ok X G Tp (fun _=>zaq (k:=0) T) :);have A1:bf l.prog w K mg base 2 "is_signed_figures" 1 zj:=(F1.ok X G Tt (fun _=>zac (k:=1) T A0.up) :);have A2:bf l.prog w K mg base 3 "is_number" 1 zf:=(F2.ok X G Tr (fun _=>zaw (k:=2) T A1.up) :);have A3:bf l.prog w K mg base 1 "held" 1 rP:=(F3.ok X G Tn (fun _=>zcR (k:=0) T) :);have A4:bf l.prog w K mg base 4 "is_leaf" 2 zc:=(F4.ok X G Tq (fun _=>zaN (k:=3) T A2.up) :);have B5:dz l.prog w K mg base 1 "take_needed" 2 wW:=(F5.okX X G T4 (fun _=>zal (k:=0) T) :);have A5:=B5.quiet;have B6:dz l.prog w K mg base 5 "check_words" 3 rO:=(F6.okX X G Ti (fun _=>zak (k:=4) T A4.up B5.up) :);have A6:=B6.quiet;have A7:bf l.prog w K mg base 1 "combined" 3 yZ:=(F7.ok X G Tj (fun _=>zaD (k:=0) T) :);have A8:bf l.prog w K mg base 1 "leaf_value" 4 zm:=(F8.ok X G Tw (fun _=>zap (k:=0) T) :);have A9:bf l.prog w K mg base 2 "reckoned" 4 mF:=(F9.ok X G TV (fun _=>zaA (k:=1) T A7.up A8.up) :);have A26:lu l.prog w K mg base 1 C.Expr 2 yR:=⟨_,_,_,D26.M,wM (b:=Bu) D26.F Sx (by decide) (zah (k:=0) T),D26.b⟩;have B10:dz l.prog w K mg base 6 "read_expr" 2 tZ:=(F10.okX X G TF (fun _=>zay (k:=5) (k0:=4) T rfl A26.up B6.up) :);have A10:=B10.quiet;have A28:lu l.prog w K mg base 1 C.Cond 2 yQ:=⟨_,_,_,D28.M,wM (b:=Bs) D28.F Sq (by decide) (zag (k:=0) T),D28.b⟩;have B11:dz l.prog w K mg base 6 "read_cond" 1 tY:=(F11.okX X G Tz (fun _=>zav (k:=5) (k0:=4) T rfl A28.up B6.up) :);have A11:=B11.quiet;have A29:lA l.prog w K mg base 3 C.Cond "holds" 3 wO:=⟨_,_,_,D29.M,wM (b:=Bt) D29.F Ss (by decide) (zar (k:=2) T A9.up),D29.b⟩;have A30:fX l.prog w K mg base 4 lF 2 zp:=(nU.ok TY (zad (k:=3) T A29.up) :);obtain⟨c12,P12,ht12,hc12⟩:=T.tb_sieve_of;have B12:dz l.prog w K mg base 7 "sieve_of" 1 pG:=(F12.okMX X G TX ht12 (fun _=>zaE (k:=6) T ht12 hc12 hB B11.up) :);have A12:=B12.quiet;have A27:lA l.prog w K mg base 3 C.Expr "value" 4 wQ:=⟨_,_,_,D27.M,wM (b:=Bv) D27.F Sy (by decide) (zat (k:=2) T A9.up),D27.b⟩;have A31:fX l.prog w K mg base 4 f9 3 wV:=(nU.ok K6 (RL (k:=3) T A3.up A27.up) :);have A31_d1:fX l.prog w K mg base 4 f9 2 Ck:=(nU.okD K6 (RL (k:=3) T A3.up A27.up) :);obtain⟨c13,P13,ht13,hc13⟩:=T.tb_change_of;have B13:dz l.prog w K mg base 7 "change_of" 2 m_:=(F13.okMX X G Tg ht13 (fun _=>zax (k:=6) T ht13 hc13 hB B10.up) :);have A13:=B13.quiet;have A14:bf l.prog w K mg base 1 "_law_drawn" 2 wR:=(F14.ok X G S7 (fun _=>za1 (k:=0) T) :);have A15:bf l.prog w K mg base 1 "_law_leaf" 2 pC:=(F15.ok X G S_ (fun _=>zbW (k:=0) T) :);have A16:bf l.prog w K mg base 2 "_law_expr" 3 wU:=(F16.ok X G S8 (fun _=>zbI (k:=1) T A15.up) :);have A17:bf l.prog w K mg base 2 "_law_cond" 2 yV:=(F17.ok X G S6 (fun _=>zbo (k:=1) T A15.up) :);have A18:bf l.prog w K mg base 1 "_law_two" 3 yX:=(F18.ok X G Te (fun _=>zcU (k:=0) T) :);have A19:bf l.prog w K mg base 2 "_law_worth" 4 tX:=(F19.ok X G Tf (fun _=>za3 (k:=1) T A18.up) :);have A20:bf l.prog w K mg base 1 "_law_held" 1 yW:=(F20.ok X G S9 (fun _=>zb9 (k:=0) T) :);have A21:bf l.prog w K mg base 2 "_law_right" 2 pF:=(F21.ok X G Td (fun _=>za9 (k:=1) T A20.up) :);have A22:bf l.prog w K mg base 3 "_law_bounds" 1 yU:=(F22.ok X G S5 (fun _=>zaL (k:=2) T A3.up A21.up) :);have A23:bf l.prog w K mg base 8 "_law_refused" 2 pD:=(F23.ok X G Tc (fun _=>zaB (k:=7) T B12.up B13.up) :);have A24:bf l.prog w K mg base 5 "_law_asked" 4 yS:=(F24.ok X G SM (fun _=>zba (k:=4) T A19.up A21.up A30.up A31.up A31_d1.up) :);refine @wM l.prog w K mg base 8 "law" "law" lO f25 d25 ["_law_script","_law_cell","_law_xs","_law_told","_law_handed","_law_made","_law_words","_law_kind"] ["_law_script"] BK ?_ ?_ ?_ ?_
 ·exact D25.F
 ·exact Tv
 ·decide
 ·exact @zd0 l.prog w K mg C base 8 f25 T A12.up A13.up A14.up A16.up A17.up A22.up A23.up A24.up
theorem all_mk {l:W.OpenLaw}{w:World}{K:W.Frag}{h:Heap}{mg:Mgx}{fa:Addr}(X:K.In h)(G:h.Ns mainGlobals mg)(hfa:mg "law"=some (.ref fa))
  (j4:W.nsIn K mainGlobals "Cond"=some (some (.ref j6)))
  (j7:W.nsIn K mainGlobals "Expr"=some (some (.ref j8)))
  (j9:W.nsIn K mainGlobals "DamError"=some (some (.ref jc)))
  (jd:W.nsIn K mainGlobals "NoExpr"=some (some (.ref je)))
  (jf:W.plainGet K j6 Str.empty=true) (jg:W.hasDictIn K j6=true) (jh:W.plainOver K j6=true) (ji:W.findIn K (.ref j6) "__setattr__"=some (some (.builtin "object.__setattr__")))
  (jm:W.plainGet K j8 Str.empty=true) (jo:W.hasDictIn K j8=true) (jq:W.plainOver K j8=true) (jr:W.findIn K (.ref j8) "__setattr__"=some (some (.builtin "object.__setattr__")))
  (jt:W.findIn K (.ref j8) "parts"=some none)
  (ju:W.findIn K (.ref j6) "parts"=some none)
  (jw:bW K jc=true)
  (jy:bW K je=true)
  (jz:rE K "sieve_of"=true)
  (jA:rE K "change_of"=true)
  (jB:Bj K je=true) (jC:W.keepIn K (.ref je)=true) (jD:sY K je=true)
  (jE:W.kitOne K (.ref je) (.type "ValueError")=some true)
  (jF:wg K je je=true)
  (F0:aW K "is_figures" Dz)
  (F1:aW K "is_signed_figures" DN)
  (F2:aW K "is_number" DK)
  (F3:aW K "held" Dy)
  (F4:aW K "is_leaf" DG)
  (F5:aW K "take_needed" DX)
  (F6:aW K "check_words" Dv)
  (F7:aW K "combined" Dw)
  (F8:aW K "leaf_value" DP)
  (F9:aW K "reckoned" DW)
  (F10:aW K "read_expr" DR)
  (F11:aW K "read_cond" DQ)
  (F12:aW K "sieve_of" Ax)
  (F13:aW K "change_of" Aw)
  (F14:aW K "_law_drawn" Dp)
  (F15:aW K "_law_leaf" Dr)
  (F16:aW K "_law_expr" Aq)
  (F17:aW K "_law_cond" Ao)
  (F18:aW K "_law_two" Dt)
  (F19:aW K "_law_worth" Du)
  (F20:aW K "_law_held" Dq)
  (F21:aW K "_law_right" Ds)
  (F22:aW K "_law_bounds" Dm)
  (F23:aW K "_law_refused" Av)
  (F24:aW K "_law_asked" Dl)
  (a25:W.nsIn K mainGlobals "law"=some (some (.ref f25))) (l25:K.lookup f25=some ⟨oc25,od25,.func (W.fnOf "law" "law" (cH lO) (bO lO) (aL lO) .none kV25 dc25 pm25 an25 cd25 ct25),sl25⟩) (c25:W.codeIn K cd25 "law"=true) (k25:W.keepIn K (.ref f25)=true)
  (a26:W.findIn K (.ref j8) "__init__"=some (some (.ref f26))) (l26:K.lookup f26=some ⟨oc26,od26,.func (W.fnOf "__init__" "Expr.__init__" (cH sI) (bO sI) (aL sI) .none kV26 dc26 pm26 an26 cd26 ct26),sl26⟩) (c26:W.codeIn K cd26 "Expr.__init__"=true) (k26:W.keepIn K (.ref f26)=true)
  (n26:W.isFn K (.ref f26)=true)
  (w26:W.makesIn K j8=true) (y26:W.keepIn K (.ref j8)=true)
  (a27:W.findIn K (.ref j8) "value"=some (some (.ref f27))) (l27:K.lookup f27=some ⟨oc27,od27,.func (W.fnOf "value" "Expr.value" (cH vq) (bO vq) (aL vq) (.ref tt27) kV27 dc27 pm27 an27 cd27 ct27),sl27⟩) (c27:W.codeIn K cd27 "Expr.value"=true) (k27:W.keepIn K (.ref f27)=true)
  (q27:K.lookup tt27=some ⟨ot27,td27,.seq #[(Value.int 0 tk27_0)] tn27,ts27⟩)
  (n27:W.isFn K (.ref f27)=true)
  (a28:W.findIn K (.ref j6) "__init__"=some (some (.ref f28))) (l28:K.lookup f28=some ⟨oc28,od28,.func (W.fnOf "__init__" "Cond.__init__" (cH sG) (bO sG) (aL sG) .none kV28 dc28 pm28 an28 cd28 ct28),sl28⟩) (c28:W.codeIn K cd28 "Cond.__init__"=true) (k28:W.keepIn K (.ref f28)=true)
  (n28:W.isFn K (.ref f28)=true)
  (w28:W.makesIn K j6=true) (y28:W.keepIn K (.ref j6)=true)
  (a29:W.findIn K (.ref j6) "holds"=some (some (.ref f29))) (l29:K.lookup f29=some ⟨oc29,od29,.func (W.fnOf "holds" "Cond.holds" (cH sH) (bO sH) (aL sH) .none kV29 dc29 pm29 an29 cd29 ct29),sl29⟩) (c29:W.codeIn K cd29 "Cond.holds"=true) (k29:W.keepIn K (.ref f29)=true)
  (n29:W.isFn K (.ref f29)=true)
  (jG:W.nsIn K mainGlobals "any"=some none)
  (jH:W.nsIn K mainGlobals "len"=some none)
  (jJ:W.nsIn K mainGlobals "min"=some none)
  (jK:W.nsIn K mainGlobals "max"=some none)
  (jL:W.nsIn K mainGlobals "range"=some none)
  (jM:W.nsIn K mainGlobals "reversed"=some none)
  (jN:W.nsIn K mainGlobals "int"=some none)
  (jO:W.nsIn K mainGlobals "str"=some none)
  (jP:W.nsIn K mainGlobals "isinstance"=some none)
  (jQ:W.nsIn K mainGlobals "bool"=some none)
  (jR:W.nsIn K mainGlobals "ValueError"=some none)
  (jT:W.nsIn K mainGlobals "list"=some none)
  (jU:W.nsIn K mainGlobals "tuple"=some none)
  (jV:W.nsIn K mainGlobals "ALL_LETTERS"=some (some (.ref jW))) (jX:K.lookup jW=some ⟨.type "tuple",jY,.seq #[.str "t" jZ,.str "v" qb,.str "w" qe] qg,qj⟩)
  (ql:W.nsIn K mainGlobals "NEEDS"=some (some (.ref qm)))
  (qp:K.lookup qm=some ⟨.type "dict",none,.dict #[⟨qt,.str "+" qu,.ref qw⟩,⟨qx,.str "-" qy,.ref qz⟩,⟨qC,.str "*" qD,.ref qF⟩,⟨qG,.str "least" qH,.ref qI⟩,⟨qJ,.str "most" qK,.ref qL⟩,⟨qM,.str "<" qN,.ref qO⟩,⟨qP,.str "=" qQ,.ref qR⟩,⟨qT,.str "not" qU,.ref qW⟩,⟨qX,.str "and" qY,.ref qZ⟩,⟨o7,.str "or" o8,.ref o9⟩] oh, #[]⟩) (ou:(qm==sysModules)=false)
  (oA:qt=hashStr w "+")
  (oE:K.lookup qw=some ⟨.type "tuple",oF,.seq #[.str "number" oG,.str "number" oH,.int 2 oJ] oK,oM⟩)
  (oN:qx=hashStr w "-")
  (oO:K.lookup qz=some ⟨.type "tuple",oR,.seq #[.str "number" oU,.str "number" oV,.int 2 oW] oX,oY⟩)
  (oZ:qC=hashStr w "*")
  (iy:K.lookup qF=some ⟨.type "tuple",iz,.seq #[.str "number" iC,.str "number" iD,.int 2 iG] iH,iI⟩)
  (iJ:qG=hashStr w "least")
  (iK:K.lookup qI=some ⟨.type "tuple",iM,.seq #[.str "number" iQ,.str "number" iR,.int 2 iT] iU,iV⟩)
  (iW:qJ=hashStr w "most")
  (iY:K.lookup qL=some ⟨.type "tuple",iZ,.seq #[.str "number" u9,.str "number" ud,.int 2 uf] ug,uh⟩)
  (uo:qM=hashStr w "<")
  (uq:K.lookup qO=some ⟨.type "tuple",ur,.seq #[.str "truth" uw,.str "number" ux,.int 2 uy] uz,uD⟩)
  (uE:qP=hashStr w "=")
  (uF:K.lookup qR=some ⟨.type "tuple",uG,.seq #[.str "truth" uH,.str "number" uI,.int 2 uJ] uK,uL⟩)
  (uM:qT=hashStr w "not")
  (uN:K.lookup qW=some ⟨.type "tuple",uO,.seq #[.str "truth" uP,.str "truth" uQ,.int 1 uR] uT,uU⟩)
  (uV:qX=hashStr w "and")
  (uW:K.lookup qZ=some ⟨.type "tuple",uX,.seq #[.str "truth" uY,.str "truth" uZ,.int 2 v7] v8,v9⟩)
  (vA:o7=hashStr w "or")
  (vB:K.lookup o9=some ⟨.type "tuple",vC,.seq #[.str "truth" vD,.str "truth" vG,.int 2 vH] vI,vJ⟩)
  (vK:W.nsIn K mainGlobals "FIGURES"=some (some (.str "0123456789" vL)))
  (vM:W.nsIn K mainGlobals "MOST_FIGURES"=some (some (.int 20 vN)))
  (vO:W.nsIn K mainGlobals "MOST_VALUE"=some (some (.int 1000000000000000000000000000000000000000000000000000000000000 vP)))
  (vQ:W.nsIn K mainGlobals "COND_LETTERS"=some (some (.str "tv" vR)))
  :∃fd:FuncData,(∀(s:Shared) (v:Value),BindsTo s fd ⟨[v],[]⟩ [("_law_script",v)])/\∀base:Heap,K.In base->base.Ns mainGlobals mg->lB mg base->FnOk l.prog w K mg base gn uc fa fd ["_law_script"] (Ec K mO):=by
 have e:=hfa.symm.trans (xbU X G a25);cases e;have T:Txt (w:=w) K mg ⟨j6,j8,jc,je⟩:=⟨by simp only[yH,xaJ,xcm,xdK,forall_eq_or_imp,forall_eq];exact⟨xa5 X G jG,xa5 X G jH,xa5 X G jJ,xa5 X G jK,xa5 X G jL,xa5 X G jM,xa5 X G jN,xa5 X G jO,xa5 X G jP,xa5 X G jQ,xa5 X G jR,xa5 X G jT,xa5 X G jU⟩,⟨xbU X G j4,jf,jg,jh,ji⟩,⟨xbU X G j7,jm,jo,jq,jr⟩,jt,ju,xbU X G j9,jw,xbU X G jd,jy,Uz jz,Uz jA,jB,jC,jD,jE,jF,⟨_,xbU X G jV,Py (vs:=[(.str "t"),(.str "v"),(.str "w")]) (its:= #[.str "t" _,.str "v" _,.str "w" _]) (o:=⟨.type "tuple",_,.seq #[.str "t" _,.str "v" _,.str "w" _] _,_⟩) jX rfl rfl (by show 3<=sizeLine;decide) (.cons ⟨_,rfl⟩ (.cons ⟨_,rfl⟩ (.cons ⟨_,rfl⟩ (.nil)))) (fun _ _=>⟨_,_,rfl,rfl,⟨_,_,rfl,rfl,⟨_,_,rfl,rfl,rfl⟩⟩⟩)⟩,⟨_,xbU X G ql,_,_,_,_,qp,⟨rfl,rfl,rfl⟩,rfl,.cons (v:=.ref qw) oA rfl (nq oE) (.cons (v:=.ref qz) oN rfl (nq oO) (.cons (v:=.ref qF) oZ rfl (nq iy) (.cons (v:=.ref qI) iJ rfl (nq iK) (.cons (v:=.ref qL) iW rfl (nq iY) (.cons (v:=.ref qO) uo rfl (nq uq) (.cons (v:=.ref qR) uE rfl (nq uF) (.cons (v:=.ref qW) uM rfl (nq uN) (.cons (v:=.ref qZ) uV rfl (nq uW) (.cons (v:=.ref o9) vA rfl (nq vB) (.nil)))))))))),by x_go,ou⟩,⟨_,xbU X G vK⟩,⟨_,xbU X G vM⟩,⟨_,xbU X G vO⟩,⟨_,xbU X G vQ⟩⟩;have D25:DefAt K mg "law" lO ["_law_script"] _ _:=⟨xbU X G a25,wN l25 c25 k25,(yP (st:=lO) l25 c25 k25).binds (ps:=["_law_script"]) fun _ _ _ _ _ _ us hl=>match us,hl with | [_],_=>rfl⟩
 have D26:IniAt K j8 "Expr.__init__" sI ["self","words"] _ _:=⟨⟨w26,a26,n26,y26⟩,wN l26 c26 k26,(yP (st:=sI) l26 c26 k26).binds (ps:=["self","words"]) fun _ _ _ _ _ _ us hl=>match us,hl with | [_,_],_=>rfl⟩
 have D27:MetAtD K j8 "value" "Expr.value" vq ["self","time","value","other"] [(.int 0)] _ _:=⟨⟨a27,n27,k27⟩,wN l27 c27 k27,fun s us hK hl=>by(rcases us with _ |⟨_,_ |⟨_,_ |⟨_,_ |⟨_,_ |⟨_,us⟩⟩⟩⟩⟩<;>first |exact W.binds_K hK rfl q27 rfl rfl rfl |(exfalso;simp at hl;done)),[V.int 0],[(Value.int 0 tk27_0)],fun s us hK hl=>by(rcases us with _ |⟨_,_ |⟨_,_ |⟨_,_ |⟨_,us⟩⟩⟩⟩<;>first |exact W.binds_K hK rfl q27 rfl rfl rfl |(exfalso;simp at hl;done)),.cons ⟨_,rfl⟩ (.nil),fun _ _=>⟨_,_,rfl,rfl,rfl⟩,rfl⟩
 have D28:IniAt K j6 "Cond.__init__" sG ["self","words"] _ _:=⟨⟨w28,a28,n28,y28⟩,wN l28 c28 k28,(yP (st:=sG) l28 c28 k28).binds (ps:=["self","words"]) fun _ _ _ _ _ _ us hl=>match us,hl with | [_,_],_=>rfl⟩
 have D29:MetAt K j6 "holds" "Cond.holds" sH ["self","time","value"] _ _:=⟨⟨a29,n29,k29⟩,wN l29 c29 k29,(yP (st:=sH) l29 c29 k29).binds (ps:=["self","time","value"]) fun _ _ _ _ _ _ us hl=>match us,hl with | [_,_,_],_=>rfl⟩
 refine⟨W.fnOf "law" "law" (cH lO) (bO lO) (aL lO) .none kV25 dc25 pm25 an25 cd25 ct25,fun s v=>.of_eq rfl,fun base _ _ hB=>Wi ?_⟩;exact Xk X G T hB F0 F1 F2 F3 F4 F5 F6 F7 F8 F9 F10 F11 F12 F13 F14 F15 F16 F17 F18 F19 F20 F21 F22 F23 F24 D25 D26 D27 D28 D29
end My
open PySem PySem.W PyProof.Rows
set_option maxRecDepth 100000 in
set_option maxHeartbeats 0 in
theorem PySem.Challenge.cw_rowdam_k13_two_functions_holds : PySem.Challenge.rw_rowdam_k13_two_functions.Holds := by
 w_on;refine HQ.two "special-get-raises" My.he My.hAf My.hBf My.hAt My.hBt ?_
 k_fill
 refine E3.zbf (T:=My.tabs) (l:=PySem.Challenge.rw_rowdam_k13_two_functions) (k:=My.uc) (g:=My.mO) (x:="_law_script") rfl rfl ⟨rfl,by decide,by decide⟩ (fun w h Y=>by first |exact PySem.W.kIn_of Y |exact PySem.W.km_in_of Y) (fun w h Y=>by refine⟨_,?_,PySem.W.km_tabs_of Y⟩;kernel_rfl) ?F My.Xj
 case F=>
  intro w mg fa h KX G hmg
  refine' My.all_mk KX G hmg ?j4 ?j7 ?j9 ?jd ?jf ?jg ?jh ?ji ?jm ?jo ?jq ?jr ?jt ?ju ?jw ?jy ?jz ?jA ?jB ?jC ?jD ?jE ?jF ?F0 ?F1 ?F2 ?F3 ?F4 ?F5 ?F6 ?F7 ?F8 ?F9 ?F10 ?F11 ?F12 ?F13 ?F14 ?F15 ?F16 ?F17 ?F18 ?F19 ?F20 ?F21 ?F22 ?F23 ?F24 ?a25 ?l25 ?c25 ?k25 ?a26 ?l26 ?c26 ?k26 ?n26 ?w26 ?y26 ?q27 ?a27 ?l27 ?c27 ?k27 ?n27 ?a28 ?l28 ?c28 ?k28 ?n28 ?w28 ?y28 ?a29 ?l29 ?c29 ?k29 ?n29 ?jG ?jH ?jJ ?jK ?jL ?jM ?jN ?jO ?jP ?jQ ?jR ?jT ?jU ?jV ?jX ?ql ?qp ?ou ?oA ?oE ?oN ?oO ?oZ ?iy ?iJ ?iK ?iW ?iY ?uo ?uq ?uE ?uF ?uM ?uN ?uV ?uW ?vA ?vB ?vK ?vM ?vO ?vQ
  (case j4 |j7 |j9 |jd |jf |jg |jh |ji |jm |jo |jq |jr |jt |ju=>k_is);(case jw |jy |jz |jA |jB=>kernel_rfl);(case jC=>k_is);(case jD=>refine E3.zdj (E3.zcW ?_ ?_ ?_) ?_ ?_ ?_ ?_ ?_<;>k_is);(case jE |jF=>kernel_rfl);(case a25 |l25 |c25 |k25 |a26 |l26 |c26 |k26=>k_is);(case n26 |w26=>kernel_rfl);(case y26 |q27 |a27 |l27 |c27 |k27=>k_is);(case n27=>kernel_rfl);(case a28 |l28 |c28 |k28=>k_is);(case n28 |w28=>kernel_rfl);(case y28 |a29 |l29 |c29 |k29=>k_is);(case n29=>kernel_rfl);(case jG |jH |jJ |jK |jL |jM |jN |jO |jP |jQ |jR |jT |jU |jV |jX |ql |qp=>k_is);(case ou=>first |decide +kernel |kernel_rfl);(case oA=>rfl);(case oE=>k_is);(case oN=>rfl);(case oO=>k_is);(case oZ=>rfl);(case iy=>k_is);(case iJ=>rfl);(case iK=>k_is);(case iW=>rfl);(case iY=>k_is);(case uo=>rfl);(case uq=>k_is);(case uE=>rfl);(case uF=>k_is);(case uM=>rfl);(case uN=>k_is);(case uV=>rfl);(case uW=>k_is);(case vA=>rfl);(case vB |vK |vM |vO |vQ=>k_is);all_goals (refine' E3.aW.mk ?a ?l ?c ?k;(case a=>k_is);(case l=>k_is);(case c=>k_is);(case k=>k_is))
