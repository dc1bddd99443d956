import PyProof.Rows.All
import Wide.All
import OpenK.AllK
import Wide.FinOn
import Lean
import PyProof.EqAt
import PyProof.EqKinds
import PyProof.TupleCall
import KE.KIsAll
import KE.KMinKey
import KE.KTupSum
import KE.KxSplit
import KE.KxAffix
import KE.KIntText
import PyProof.NeKinds
import PyProof.Rows.EqBoolInt
import KE.KSortTup
import KE.KDictLaws
import KE.KNestM
import PyProof.Conv_int_bool
import PySem.Challenge.RW_rowdam_k26_shares_poured
noncomputable section
set_option Elab.async false
set_option linter.all false
set_option compiler.extract_closed false
set_option maxRecDepth 100000
def tG:=@PySem.Heap.get?_push_of_some
def Wn:=@PySem.wpAny_bind
def Wo:=@Nat.lt_of_lt_of_le
def Wq:=@Nat.le_refl
def Wr:=@List.size_toArray
def Ws:=@PySem.Heap.lt_size
def Wt:=@PySem.wpAny_pure
def Wu:=@List.getElem?_eq_getElem
def Wv:=@if_pos
def Ww:=@Option.map_eq_some_iff
def Wy:=@List.getElem?_map
def Wz:=@List.length_append
def WD:=@List.getElem?_eq_some_iff
def WK:=@List.length_map
def WL:=@PySem.Heap.get?_push_size
def WM:=@Bool.false_ne_true
def WQ:=@Nat.ne_of_lt
def WR:=@List.getElem?_append_right
def WT:=@List.mem_append_right
def WW:=@List.getElem?_append_left
def WX:=@List.mem_of_getElem?
def WY:=@if_neg
def W2:=@Bool.and_eq_true
def W3:=@Option.some.inj
def W4:=@List.mem_cons_of_mem
def W5:=@Nat.le_trans
def W6:=@List.mem_cons
def W7:=@List.getD_eq_getElem?_getD
def W8:=@Nat.lt_or_ge
def W9:=@PySem.W.kia_one
def W_:=@List.length_set
def Xa:=@PySem.mem_of_lookup
def Xb:=@List.getElem?_eq_none
def Xc:=@List.getElem?_replicate
def Xd:=@List.mem_append
def Xe:=@Bool.false_eq_true
def Xf:=@PySem.Heap.get?_update_other
def Xg:=@PySem.wpAny_mono
def Xh:=@List.getElem?_set
def Xi:=@Nat.le_of_lt_succ
def Xj:=@Nat.le_antisymm
def Xk:=@Int.emod_lt_of_pos
def Xl:=@beq_self_eq_true
def Xm:=@Nat.lt_irrefl
def Xn:=@List.mem_map
def Xo:=@decide_false
def Xp:=@Nat.zero_le
def Xq:=@List.length_range
def Xr:=@List.append_nil
def Xu:=@List.mem_cons_self
def Xv:=@PySem.sizeLine_eq
def Xw:=@decide_eq_true_eq
def Xx:=@Bool.eq_iff_iff
def Xy:=@Array.getD_eq_getD_getElem?
def Xz:=@Int.emod_nonneg
def XC:=@beq_eq_false_iff_ne
theorem XD:type_of%@Array.length_toList:=by intros;rfl
def XF:=@List.all_eq_true
def XH:=@List.length_replicate
theorem XJ:type_of%@List.length_singleton:=by intros;rfl
def XM:=@List.drop_eq_getElem_cons
def XR:=@List.getElem?_eq_none_iff
def XS:=@PySem.wpAny_field
def X3:=@decide_eq_false
def X4:=@List.nodup_cons
def X5:=@PySem.W.mg_none_of
def X6:=@if_true
def X7:=@List.map_cons
def X8:=@List.filter_cons_of_neg
theorem X_:type_of%@List.filterMap_cons:=by intros;rfl
theorem Yb:type_of%@List.lookup_cons:=by intros;rfl
def Yc:=@PySem.Heap.size_push
def Yd:=@PySem.Obj.data_mapFields
def Ye:=@PySem.wpAny_setField_rec
theorem Yg:type_of%@List.set_cons_succ:=by intros;rfl
theorem Yh:type_of%@List.set_cons_zero:=by intros;rfl
def Yi:=@PySem.PassesOwn.never
def Yj:=@Array.getElem?_eq_some_iff
def Yk:=@PySem.wpAny_newObj_type
def Yl:=@of_decide_eq_true
def Ym:=@Nat.le_succ
def Yn:=@Ne.symm
def Yo:=@List.getElem_mem
def Yp:=@List.not_mem_nil
def Yq:=@eq_false
def Yr:=@List.getElem?_range
def Ys:=@PySem.wpAny_getItem_str_slice
def Yt:=@PySem.F.plainAttrs_list
def Yu:=@List.filter_cons_of_pos
theorem Yv:type_of%@List.all_cons:=by intros;rfl
def Yw:=@PySem.wpAny_holding
def Yx:=@List.mem_singleton
def Yy:=@if_false
def Yz:=@List.reverse_cons
theorem YB:type_of%@List.flatten_cons:=by intros;rfl
def YC:=@Nat.ne_of_gt
def YD:=@PySem.wpAny_seqItems
def YF:=@PySem.boot_len
def YG:=@PyProof.Rows.callWith_type1
theorem YH:type_of%@Option.getD_some:=by intros;rfl
def YJ:=@Nat.lt_succ_self
def YK:=@decide_true
def YL:=@PySem.W.mg_of
def YM:=@List.map_append
theorem YQ:type_of%@Option.map_some:=by intros;rfl
def YS:=@PySem.wpAny_passesOwn
def YT:=@List.of_mem_zip
theorem YW:type_of%@List.zip_cons_cons:=by intros;rfl
theorem YX:type_of%@List.getElem?_cons_succ:=by intros;rfl
def YZ:=@Nat.lt_succ_of_lt
def Y0:=@List.getElem?_set_self
def Y4:=@PySem.W.cellsFrom_some
def Y5:=@PySem.wpAny_nextOf_list_item
def Y6:=@PySem.F.slot_str_index
def Y7:=@PySem.F.type_str_index
def Y8:=@PySem.wpAny_execs_cons
def Y9:=@List.length_take
theorem Y_:type_of%@List.length_cons:=by intros;rfl
def Za:=@List.drop_length
def Zb:=@PySem.wpAny_call_entry
def Zc:=@Nat.le_add_right
def Zd:=@PySem.codeAny_call_function
def Ze:=@List.mem_filter
def Zf:=@Nat.le_of_lt
def Zg:=@List.getElem?_set_ne
def Zh:=@PySem.codeAny_mono
def Zi:=@PySem.SeqAt.EqAt.same
def Zj:=@PySem.post_val_or_str
def Zk:=@Nat.sub_self
def Zm:=@PyProof.Rows.get?_update_seq
def Zn:=@PySem.wpAny_updateSeq_pair
def Zo:=@PySem.F.slot_zip_next
def Zq:=@List.flatten_append
def Zr:=@List.mem_range
def Zt:=@Bool.and_false
def Zu:=@List.drop_zero
def Zv:=@List.lt_irrefl
def Zw:=@PySem.SeqAt.EqAt.int_str
def Zx:=@PySem.SeqAt.EqAt.str_int
def Zy:=@PySem.wpAny_Call_Name_kw
def Zz:=@PySem.SeqAt.EqAt.int_int
def ZC:=@PySem.SeqAt.EqAt.str_str
def ZD:=@PySem.wpAny_newTextTuple
def ZF:=@of_decide_eq_false
def ZG:=@PySem.Calls.Name_function_global
def ZJ:=@PySem.wpAny_newFunctionEnv_cells
theorem ZK:type_of%@List.any_cons:=by intros;rfl
def ZL:=@PySem.wpAny_standAt
def ZM:=@PyProof.Rows.listUpdate_at
def ZP:=@PySem.wpAny_newList
def ZQ:=@PySem.wpAny_onRaise
def ZR:=@List.append_assoc
def ZS:=@PySem.wpAny_truthy_bool
def ZV:=@PySem.wpAny_assign_Name
def ZW:=@PySem.wpAny_pyIter_list
def ZX:=@PySem.W.kitx_list
def Z0:=@PySem.W.kitx_dict
theorem Z1:type_of%@Int.toNat_natCast:=by intros;rfl
def Z2:=@Nat.le_succ_of_le
def Z4:=@beq_iff_eq
def Z5:=@List.mem_or_eq_of_mem_set
def Z6:=@PySem.Calls.call_function_entry
def Z7:=@Array.getElem?_eq_getElem
def Z8:=@List.getElem?_take_of_lt
def Z9:=@List.length_drop
def Z_:=@Nat.le_of_not_lt
def xaa:=@PySem.Txt.slice_le
def xab:=@PySem.wpAny_comprehension_free
def xac:=@PySem.SeqAt.RcAt.lists_lengths
def xad:=@PySem.F.slot_list_append
def xae:=@PySem.F.type_list_append
def xaf:=@List.eq_of_mem_replicate
def xag:=@PySem.AutoSeq1.wpAny_loadPart'
def xah:=@or_false
theorem xai:type_of%@List.flatten_nil:=by intros;rfl
def xaj:=@PySem.wpAny_callSpecial?_slot
def xak:=@List.forIn_cons
theorem xal:type_of%@List.foldl_cons:=by intros;rfl
def xam:=@Nat.not_lt_zero
def xan:=@List.take_of_length_le
def xao:=@PySem.wpAny_setField
def xap:=@List.mem_iff_getElem?
def xaq:=@PySem.wpAny_newTuple
def xar:=@List.Perm.refl
def xas:=@List.mem_append_left
def xat:=@Array.mem_toList_iff
theorem xau:type_of%@PySem.typeIs_str:=by intros;rfl
def xav:=@Nat.not_le
def xaw:=@Bool.and_eq_true_iff
def xax:=@List.mem_of_mem_take
def xay:=@Bool.and_self
def xaz:=@Bool.and_true
def xaA:=@List.map_eq_nil_iff
def xaB:=@Int.toNat_of_nonneg
def xaC:=@Nat.add_le_add_left
def xaD:=@PySem.W.codeHd_of_K
def xaE:=@List.length_reverse
def xaF:=@Array.append_assoc
def xaG:=@List.mem_filterMap
def xaH:=@PySem.W.kitx_tuple
def xaI:=@PySem.W.codeRec_of
def xaJ:=@Nat.le_of_eq
def xaK:=@Nat.min_self
def xaL:=@Nat.lt_of_le_of_lt
def xaM:=@PySem.W.callWith_F
def xaN:=@List.pairwise_cons
def xaO:=@Int.zero_add
def xaP:=@List.take_sublist
def xaQ:=@Option.some.injEq
def xaR:=@bne_self_eq_false
def xaS:=@Array.Perm.toList
abbrev Fgx:=PySem.W.Frag
abbrev Mgx:=PySem.Str->Option PySem.Value
abbrev Pnx:=List (PySem.Addr×PySem.Obj)
local macro_rules | `(tactic| x_go)=> `(tactic| decide +kernel)
namespace HQ
open PySem PySem.W PySem.Calls PyProof.Rows
noncomputable def Fp {α:Type} (t:BT):(BT->α)->α:= @BT.rec (fun _=>(BT->α)->α) (fun k=>k .nil) (fun v _ _ a b k=>a fun l=>b fun r=>k (.node v l r)) t
theorem zL {α:Type}:∀(t:BT) (k:BT->α),Fp t k=k t
 |.nil,_=>rfl
 |.node _ l r,_=>(zL l _).trans (zL r _)
noncomputable def g_ {α:Type} (n:Nat) (k:Nat->α):α:= @Nat.rec (fun _=>α) (k 0) (fun n _=>k (Nat.succ n)) n
theorem Fq {α:Type}(n:Nat)(k:Nat->α):g_ n k=k n:=by cases n<;>rfl
def frs {α:Type}(s:SharedT)(k:SharedT->α):α:= @SharedT.rec (fun _=>α) (fun T n l g d i o=>Fp T fun T=>g_ n fun n=>g_ i fun i=>k ⟨T,n,l,g,d,i,o⟩) s
theorem Kl {α:Type}(s:SharedT)(k:SharedT->α):frs s k=k s:=(zL _ _).trans ((Fq _ _).trans (Fq _ _))
abbrev qd:Code->Sem Fin:=Fast.tw11892475500146522536 Fast.tw14364793385576792824
noncomputable def Cy (p:Program) (w:World):SharedT->Thread->Option (SharedT×Thread)
  |⟨T,n,l,g,d,i,o⟩,⟨c,cd,q,fs⟩=>match c with
    |.load .. |.update .. |.alloc .. |.loadIfAlive .. =>Fast.tw10156331382660048174 qd p w ⟨T,n,l,g,d,i,o⟩ ⟨c,cd,q,fs⟩
    |c=>match Fast.tw8437177126325714943 qd p w ⟨{},g,d,i,o⟩ ⟨c,cd,q,fs⟩ with
      |.go ⟨_,g,d,i,o⟩ t=>some (⟨T,n,l,g,d,i,o⟩,t)
      |.halt _ _=>none
theorem Uc {p:Program}{w:World}(s:SharedT)(t:Thread):Cy p w s t=stepT (denote treeTable) p w s t:=by
 obtain⟨T,n,l,g,d,i,o⟩:=s;obtain⟨c,cd,q,fs⟩:=t;rw[show denote treeTable=qd by unfold qd;rw[<-Fast.te11892475500146522536, <-Fast.te14364793385576792824]];cases c<;>(unfold Cy;dsimp only;first |rw[<-Fast.te10156331382660048174] |(unfold stepT;dsimp only;rw[<-Fast.te8437177126325714943];cases step qd p w _ _<;>rfl))
abbrev OS:=Option SharedT
noncomputable def bd (p:Program) (w:World) (n:Nat) (ih:SharedT->Thread->OS) (s:SharedT) (t:Thread):OS:=
 @Bool.rec (fun _=>OS) (@Bool.rec (fun _=>OS) none (@Option.rec _ (fun _=>OS) none (fun r=> @Prod.rec _ _ (fun _=>OS) (fun s t=> @Bool.rec (fun _=>OS) (ih s t) (frs s fun s=>ih s t) (Nat.beq (n % 64) 0)) r) (Cy p w s t)) (Fast.tw6613529449190102663 11 (some (.ref 6)) t)) (some s) (through t)
noncomputable def go (p:Program) (w:World) (n:Nat):SharedT->Thread->OS:= @Nat.rec (fun _=>SharedT->Thread->OS) (fun _ _=>none) (bd p w) n
theorem sO {p:Program}{w:World}:∀{n:Nat} {s s':SharedT} {t:Thread},go p w n s t=some s'->topRun treeTable p w 11 (some (.ref 6)) n s.abs t=some s'.abs
  |0,_,_,_,h=>by cases h
  |n + 1,s,s',t,h=>by
    rw[show go p w (n + 1) s t=bd p w n (go p w n) s t from rfl]at h;unfold bd at h;rw[Uc, <-Fast.te6613529449190102663]at h;unfold topRun
    cases ht:through t with
    |true=>rw[ht]at h;cases h;rfl
    |false=>
      rw[ht]at h
      cases hk:stepOk 11 (some (.ref 6)) t with
      |false=>rw[hk]at h;cases h
      |true=>
        rw[hk]at h
        cases hs:stepT (denote treeTable) p w s t with
        |none=>rw[hs]at h;cases h
        |some r=>
          obtain⟨s₂,t₂⟩:=r;rw[hs]at h;dsimp only at h ⊢;rw[stepT_spec hs];rw[Kl]at h;exact sO (by revert h;cases Nat.beq (n % 64) 0<;>exact id)
noncomputable def mkT:List Obj->Nat->BT->BT
 | [],_,t=>t
 |o::l,i,t=>mkT l (i + 1) (t.ins i o)
noncomputable def bS (w:World) (o:OsState):SharedT:=⟨mkT (boot_heap w.params).objs.toList 0 .nil,11,{},⟨[]⟩,boot_drawn,boot_toks,o⟩
theorem Jt (w:World)(o:OsState):(bS w o).abs=⟨boot_heap w.params,⟨[]⟩,boot_drawn,boot_toks,o⟩:=by kernel_rfl
theorem Ju (P:Params):((boot_heap P).isNs mainGlobals && (Array.mk []:Array GenState).size==0,(boot_heap P).objs.size,(boot_heap P).nsMap mainGlobals "__annotations__")=(true,11,some (.ref 6)):=by kernel_rfl
noncomputable def lst {α:Type} (T:BT) (n:Nat):List Obj->(List Obj->α)->α:=
 @Nat.rec (fun _=>List Obj->(List Obj->α)->α) (fun a k=>k a) (fun i ih a k=> @Option.rec Obj (fun _=>α) (ih (default::a) k) (fun o=> @Obj.rec (fun _=>α) (fun c d t l=>ih (⟨c,d,t,l⟩::a) k) o) (T.get i)) n
theorem Gu {α:Type}(T:BT):∀(n:Nat) (a:List Obj) (k:List Obj->α),lst T n a k=k (T.list n ++ a)
  |0,_,_=>rfl
  |n + 1,a,k=>by
    rw[show T.list (n + 1)=T.list n ++ [(T.get n).getD default] by unfold BT.list;rw[List.range_succ,YM];rfl,ZR];unfold lst;dsimp only;cases T.get n<;>exact Gu T n _ k
noncomputable def DG {α:Type} (s:SharedT) (k:Shared->α):α:= @SharedT.rec (fun _=>α) (fun T n l g d i o=>lst T n [] fun a=>k ⟨⟨⟨a⟩,l⟩,g,d,i,o⟩) s
theorem DK {α:Type}(s:SharedT)(k:Shared->α):DG s k=k s.abs:=(Gu _ _ _ _).trans (by rw[Xr];rfl)
section
variable {p q:Program}{lo:List Str}{Xt:Shared->Bool}{α:Type}{Yf:Shared->α}{Ya:World->α}{N:Nat}{g0:Bool}{B C:Prop}
abbrev Pre (_:LeftO p q lo Xt Yf Ya N g0/\B->C):Prop:=(opening p=plainProg p.main.scope.names/\∀s,fenceModules? p s=some s)/\Nat.ble 600 N=true
abbrev See {β:Type}(p:Program)(N:Nat)(v:World->World)(f:World->Shared->β)(y:World->β):Prop:=∀w o,(go p (v w) N (bS (v w) o) (topStub p)).map (fun s=>DG s (f (v w)))=some (y (v w))
abbrev gC (v:World->World)(_:LeftO p q lo Xt Yf Ya N g0/\B->C):Prop:=
 See p N v (fun w s=>(staticsOk (importedModules p.main.body) (boot_heap w.params) s.heap && namesBound p s.heap && gensDone s && laidKept (boot_heap w.params) s.heap,Yf s)) fun w=>(true,Ya w)
abbrev gD (v:World->World)(_:LeftO p q lo Xt Yf Ya N g0/\B->C):Prop:=See p N v (fun _ s=>Fast.tw4187177175401517315 q lo (importedModules p.main.body) Xt g0 s) fun _=>openGood q lo
theorem left {v:World->World}{H:LeftO p q lo Xt Yf Ya N g0/\B->C}(e:Pre H)(a:gC v H)(b:gD v H)(w:World):
  (openEnds treeTable p (v w) N).map (fun s=>(openSeen q lo (importedModules p.main.body) Xt g0 s,Yf s))=some (openGood q lo,Ya (v w)):=by
 obtain⟨⟨h,gs,d,k,o⟩,e1,e2⟩:=Ww.mp (boot_open e.1.1 e.2 e.1.2 (v w));obtain⟨rfl,rfl,rfl,rfl⟩:h=boot_heap (v w).params/\gs=⟨[]⟩/\d=boot_drawn/\k=boot_toks:=by simpa using e2
 obtain⟨s,hs,hv⟩:=Ww.mp (a w o);have hb:=b w o;rw[hs,YQ,DK, <-Fast.te4187177175401517315]at hb;rw[DK]at hv;obtain⟨l1,l3⟩:=Prod.mk.inj hv;obtain⟨z1,z2,z3⟩:_/\_/\_:=by simpa only[Prod.mk.injEq] using Ju (v w).params
 have hr:=sO hs;rw[Jt]at hr;have t:topFrom treeTable p (v w) N ⟨boot_heap (v w).params,⟨[]⟩,boot_drawn,boot_toks,o⟩=some s.abs:=by
  unfold topFrom;dsimp only;rw[z1,z2,z3,hr];dsimp only[Option.bind_some];rw[l1]
 unfold openEnds;rw[e1,Option.bind_some,t];exact congrArg some (Prod.ext (W3 hb) l3)
theorem two (row:String){H:LeftO p q lo Xt Yf Ya N g0/\B->C}(e:Pre H)(a:gC (·.withFollow row false) H)(b:gD (·.withFollow row false) H)(c:gC (·.withFollow row true) H)(d:gD (·.withFollow row true) H)(hB:B):C:=
 H ⟨fun w=>by
  have x:=left e a b w;have y:=left e c d w;have z:=World.withFollow_self w row;cases h:w.params.followText row<;>rw[h]at z<;>simp only[z]at x y<;>assumption,hB⟩
end
end HQ
section
local macro_rules
  | `(tactic| refine $f:term $as:term*)=>do
    let mut bs:= #[]
    let mut hit:=false
    for a in as do
      if a.raw.isOfKind ``Lean.Parser.Term.syntheticHole && a.raw[1].getId== `hl then
        hit:=true
        bs:=bs.push (<- `((And.left ?hx)))
      else if a.raw.isOfKind ``Lean.Parser.Term.syntheticHole && a.raw[1].getId== `hc then
        bs:=bs.push (<- `((And.right ?hx)))
      else bs:=bs.push a
    if hit then `(tactic| refine $f $bs*) else Lean.Macro.throwUnsupported
set_option maxHeartbeats 0 in
open_top My.hdAll for PySem.Challenge.rw_rowdam_k26_shares_poured
theorem My.he:HQ.Pre My.hdAll:=⟨⟨by kernel_rfl,fun _=>by kernel_rfl⟩,by kernel_rfl⟩
theorem My.hBf:HQ.gD (·.withFollow "special-get-raises" false) My.hdAll:=fun _ _=>by kernel_rfl
theorem My.hBt:HQ.gD (·.withFollow "special-get-raises" true) My.hdAll:=fun _ _=>by kernel_rfl
theorem My.hAf:HQ.gC (·.withFollow "special-get-raises" false) My.hdAll:=fun _ _=>by kernel_rfl
theorem My.hAt:HQ.gC (·.withFollow "special-get-raises" true) My.hdAll:=fun _ _=>by kernel_rfl
end
namespace L2
open PySem PySem.Spec PyProof.Rows
abbrev Key:=Sum Int Str
noncomputable def Gg:Key->Value->Bool
 |.inl k,v=>Value.isInt k v
 |.inr x,v=>Value.isStrOf x v
def zU (w:World):Key->Int
 |.inl k=>hashInt k
 |.inr x=>hashStr w x
theorem lC:∀{k:Key} {v:Value},Gg k v=true->(∃i t,k=Sum.inl i/\v=Value.int i t)\/(∃x t,k=Sum.inr x/\v=Value.str x t)
  |.inl i,v,h=>by
    obtain⟨t,e⟩:=Value.isInt_shape (k:=i) (v:=v) h;exact .inl ⟨i,t,rfl,e⟩
  |.inr x,v,h=>by
    obtain⟨t,e⟩:=Value.isStrOf_shape (x:=x) (v:=v) h;exact .inr ⟨x,t,rfl,e⟩
theorem K6 (a b:Int):decide ((Sum.inl a:Key)=Sum.inl b)=(a==b):=by
 by_cases e:a=b
 ·subst e;simp
 ·have h:¬ (Sum.inl a:Key)=Sum.inl b:=fun q=>e (Sum.inl.inj q);rw[X3 h];exact(XC.mpr e).symm
theorem La (a b:Str):decide ((Sum.inr a:Key)=Sum.inr b)=decide (a=b):=by
 by_cases e:a=b
 ·subst e;simp
 ·have h:¬ (Sum.inr a:Key)=Sum.inr b:=fun q=>e (Sum.inr.inj q);rw[X3 h,X3 e]
theorem K8 (a:Int)(b:Str):decide ((Sum.inl a:Key)=Sum.inr b)=false:=X3 (fun q=>nomatch q)
theorem K_ (a:Str)(b:Int):decide ((Sum.inr a:Key)=Sum.inl b)=false:=X3 (fun q=>nomatch q)
noncomputable def z_ (prog:Program) (w:World):PySem.KeyKind prog w Key where
 is:=Gg
 hash:=zU w
 inj:=fun v a b ha hb=>by
  rcases lC ha with⟨i,t,rfl,rfl⟩ |⟨x,t,rfl,rfl⟩
  ·rcases lC hb with⟨j,u,rfl,e⟩ |⟨y,u,rfl,e⟩
   ·injection e with e1 _;rw[e1]
   ·exact nomatch e
  ·rcases lC hb with⟨j,u,rfl,e⟩ |⟨y,u,rfl,e⟩
   ·exact nomatch e
   ·injection e with e1 _;rw[e1]
 byValue:=fun k v h=>by
  rcases lC h with⟨i,t,rfl,rfl⟩ |⟨x,t,rfl,rfl⟩<;>rfl
 pyHash:=fun hv h=>by
  rcases lC hv with⟨i,t,rfl,rfl⟩ |⟨x,t,rfl,rfl⟩
  ·exact wpAny_pyHash_int h
  ·exact wpAny_pyHash_str h
 eqBool:=fun hu hv h=>by
  rcases lC hu with⟨i,t,rfl,rfl⟩ |⟨x,t,rfl,rfl⟩
  ·rcases lC hv with⟨j,u,rfl,rfl⟩ |⟨y,u,rfl,rfl⟩
   ·rw[K6]at h;exact wpAny_eqBool_int h
   ·rw[K8]at h;exact Zw i t y u _ _ _ _ h
  ·rcases lC hv with⟨j,u,rfl,rfl⟩ |⟨y,u,rfl,rfl⟩
   ·rw[K_]at h;exact Zx x t j u _ _ _ _ h
   ·rw[La]at h;exact wpAny_eqBool_str h
 «strs» :=fun k x t v h=>by
  rcases lC h with⟨i,u,rfl,e⟩ |⟨y,u,rfl,e⟩
  ·exact nomatch e
  ·injection e with e1 _
   subst e1;cases v<;>rfl
inductive V where
 |non |bl (b:Bool) |int (i:Int) |str (x:Str) |byt (b:Array UInt8) |flt (b:UInt64) |ref (a:Addr) |ty (n:String)
 deriving DecidableEq
noncomputable def RelV:V->Value->Prop
 |.non,u=>u=Value.none
 |.bl b,u=>u=Value.bool b
 |.int i,u=>∃t,u=Value.int i t
 |.str x,u=>∃t,u=Value.str x t
 |.byt b,u=>∃t,u=Value.bytes b t
 |.flt b,u=>∃t,u=Value.float b t
 |.ref a,u=>u=Value.ref a
 |.ty n,u=>u=Value.type n
abbrev Vals:List V->List Value->Prop:=Paired RelV
theorem Vals.length (r:Vals xs us):xs.length=us.length:=Paired.length r
theorem Vals.get:∀{xs:List V} {us:List Value} {i:Nat} {x:V},Vals xs us->xs[i]? =some x->∃u,us[i]? =some u/\RelV x u
  |_,_,_,_,.nil,e=>by simp at e
  |_,_,0,_,.cons r _,e=>by simp at e;subst e;exact⟨_,rfl,r⟩
  |_,_,i + 1,x,.cons _ t,e=>by
    obtain⟨u,h1,h2⟩:=Vals.get (i:=i) (x:=x) t (by simpa using e);exact⟨u,by simpa using h1,h2⟩
theorem Vals.append:∀{xs ys:List V} {us ws:List Value},Vals xs us->Vals ys ws->Vals (xs ++ ys) (us ++ ws)
 |_,_,_,_,.nil,s=>s
 |_,_,_,_,.cons r t,s=>.cons r (Vals.append t s)
theorem Vals.take:∀{xs:List V} {us:List Value} (n:Nat),Vals xs us->Vals (xs.take n) (us.take n)
 |_,_,0,_=>.nil
 |_,_,_ + 1,.nil=>.nil
 |_,_,n + 1,.cons r t=>.cons r (Vals.take n t)
theorem Vals.drop:∀{xs:List V} {us:List Value} (n:Nat),Vals xs us->Vals (xs.drop n) (us.drop n)
 |_,_,0,r=>r
 |_,_,_ + 1,.nil=>.nil
 |_,_,n + 1,.cons _ t=>Vals.drop n t
noncomputable def mX:Option V->Option Value->Prop
 |some v,some u=>RelV v u
 |none,none=>True
 |_,_=>False
def KV {κ:Type}:List (κ×V)->List (κ×Value)->Prop:=Paired fun(p:κ×V) (q:κ×Value)=>p.1=q.1/\RelV p.2 q.2
def kV:Key->V
 |.inl i=>.int i
 |.inr x=>.str x
inductive HO where
  |lst (xs:List V)
  |tup (xs:List V)
  |dK (kvs:List (Key×V)) |dT (kvs:List (List Key×V))
  |set (S:Int->Bool) (n:Nat)
  |ins (C dx:Addr) (fs:List (Str×V))
  |own (x:Addr)
  |xd (fs:List (Str×V))
  |met (f x:Addr)
  |rng (lo hi:Int)
  |frz (o:Obj) (u:HO)
  |tbl (ps:Array Value)
  |ext (φ:Heap->Prop)
abbrev Hp:=Addr->Option HO
noncomputable def upd (H:Hp) (a:Addr) (o:HO):Hp:=fun b=>if b=a then some o else H b
theorem bJ:upd H a o a=some o:=by unfold upd;rw[Wv rfl]
theorem aM (h:b≠a):upd H a o b=H b:=by unfold upd;rw[WY h]
theorem U9:upd (upd H a o) a u=upd H a u:=by
 funext b;unfold upd;split<;>rfl
theorem gJ {H:Hp}{a b:Addr}{o:HO}(h:H a=some o)(h':H b=none):a≠b:=by
 intro e;subst e;rw[h]at h';cases h'
section
variable (P:Program)(w:World)
noncomputable def cI (H:Hp) (h:Heap) (a:Addr):HO->Prop
 |.lst xs=>xs.length<=sizeLine/\∃(its:List Value) (n:Nat),Vals xs its/\h.get? a=some {cls:=.type "list",data:=.seq its.toArray n}
 |.tup xs=>xs.length<=sizeLine/\∃its:List Value,Vals xs its/\IsTup h a its.toArray
 |.dK kvs=>kvs.length<=sizeLine/\(a==sysModules)=false/\∃vs,KV kvs vs/\h.DictOf (z_ P w) a vs
 |.dT kvs=>kvs.length<=sizeLine/\(a==sysModules)=false/\∃xs:List (List Key×Addr×Value),
   Paired (fun(p:List Key×V) (q:List Key×Addr×Value)=>p.1=q.1/\H q.2.1=some (.tup (p.1.map kV))/\RelV p.2 q.2.2) kvs xs/\
   ∃o es ep,h.get? a=some o/\o.ExactDict/\o.data=.dict es ep/\es.toList=xs.map (entryOfKey (tupleKind (z_ P w)))/\(xs.map (·.1)).Nodup
 |.set S n=>h.SetOf (intKind P w) a S n
 |.ins C dx fs=>H dx=some (.own a)/\fs.length<=1000/\dx≠a/\h.get? a=some (PySem.W.instObj C dx)/\
   ∃mA,h.Ns1 dx mA/\(∀f,mX (fs.lookup f) (mA f))/\PySem.Within mA (fs.map (·.1))
 |.own _=>∃o,h.get? a=some o
 |.xd fs=>∃mA,h.Ns1 a mA/\∀f,mX (fs.lookup f) (mA f)
 |.rng lo hi=>∃t u v,h.get? a=some {cls:=.type "range",data:=.fields #[.int lo t,.int hi u,.int 1 v]}
 |.frz o u=>h.get? a=some o/\cI H h a u
 |.tbl ps=>h.get? a=some {cls:=.none,data:=.fields ps}
 |.met f x=>h.get? a=some (PySem.W.methodObj (.ref f) (.ref x))
 |.ext φ=>φ h/\(∃o,h.get? a=some o)/\∀h1 h2:Heap,φ h1->(∀o,h1.get? a=some o->h2.get? a=some o)->φ h2
def bL (H:Hp)(h:Heap):Prop:=∀a o,H a=some o->cI P w H h a o
end
section
variable {P:Program}{w:World}{H H':Hp}{h h':Heap}{a:Addr}{o:HO}
theorem cI.lt (x:cI P w H h a o):a<h.objs.size:=by
 cases o with
 |lst xs=>obtain⟨_,_,_,_,e⟩:=x;exact Ws e
 |tup xs=>obtain⟨_,_,_,p⟩:=x;exact p.lt
 |dK kvs=>obtain⟨_,_,_,_,o,_,_,e,_⟩:=x;exact Ws e
 |dT kvs=>obtain⟨_,_,_,_,o,_,_,e,_⟩:=x;exact Ws e
 |set S n=>obtain⟨o,_,_,_,e,_⟩:=x;exact Ws e
 |ins C dx fs=>obtain⟨_,_,_,e,_⟩:=x;exact Ws e
 |own y=>obtain⟨_,e⟩:=x;exact Ws e
 |xd fs=>obtain⟨_,⟨_,_,_,e,_⟩,_⟩:=x;exact Ws e
 |rng lo hi=>obtain⟨_,_,_,e⟩:=x;exact Ws e
 |frz ob u=>obtain⟨e,_⟩:=x;exact Ws e
 |tbl ps=>exact Ws (show h.get? a=some _ from x)
 |met f y=>exact Ws (show h.get? a=some _ from x)
 |ext φ=>obtain⟨_,⟨_,e⟩,_⟩:=x;exact Ws e
theorem Paired.mapP:∀{l₁:List α} {l₂:List β},Paired F l₁ l₂->(∀a b,F a b->G a b)->Paired G l₁ l₂
 |_,_,.nil,_=>.nil
 |_,_,.cons r t,f=>.cons (f _ _ r) (Paired.mapP t f)
theorem cI.stay (x:cI P w H h a o)(k:∀b u,(b=a\/H b=some (.own a))->h.get? b=some u->h'.get? b=some u)
    (ho:∀b,H b=some (.own a)->H' b=some (.own a)) (ht:∀b xs,H b=some (.tup xs)->H' b=some (.tup xs)):cI P w H' h' a o:=by
  induction o with
  |lst xs=>obtain⟨z,its,n,r,e⟩:=x;exact⟨z,its,n,r,k _ _ (.inl rfl) e⟩
  |tup xs=>obtain⟨z,its,r,ob,e,c⟩:=x;exact⟨z,its,r,ob,k _ _ (.inl rfl) e,c⟩
  |dK kvs=>obtain⟨z,y,vs,r,ob,es,ep,e,c⟩:=x;exact⟨z,y,vs,r,ob,es,ep,k _ _ (.inl rfl) e,c⟩
  |dT kvs=>
    obtain⟨z,y,xs,r,ob,es,ep,e,c⟩:=x;exact⟨z,y,xs,Paired.mapP r fun p q z=>⟨z.1,ht _ _ z.2.1,z.2.2⟩,ob,es,ep,k _ _ (.inl rfl) e,c⟩
  |set S n=>obtain⟨ob,es,ep,t,e,c⟩:=x;exact⟨ob,es,ep,t,k _ _ (.inl rfl) e,c⟩
  |ins C dx fs=>
    obtain⟨d,z,ne,e,mA,⟨od,es,ep,e2,c⟩,r⟩:=x;exact⟨ho _ d,z,ne,k _ _ (.inl rfl) e,mA,⟨od,es,ep,k _ _ (.inr d) e2,c⟩,r⟩
  |own y=>obtain⟨ob,e⟩:=x;exact⟨ob,k _ _ (.inl rfl) e⟩
  |xd fs=>obtain⟨mA,⟨od,es,ep,e,c⟩,r⟩:=x;exact⟨mA,⟨od,es,ep,k _ _ (.inl rfl) e,c⟩,r⟩
  |rng lo hi=>obtain⟨t,u,v,e⟩:=x;exact⟨t,u,v,k _ _ (.inl rfl) e⟩
  |frz ob u ih=>obtain⟨e,q⟩:=x;exact⟨k _ _ (.inl rfl) e,ih q⟩
  |tbl ps=>
    have e:h.get? a=some {cls:=.none,data:=.fields ps}:=x;show h'.get? a=some {cls:=.none,data:=.fields ps};exact k a _ (.inl rfl) e
  |met f y=>
    have e:h.get? a=some (PySem.W.methodObj (.ref f) (.ref y)):=x;show h'.get? a=some (PySem.W.methodObj (.ref f) (.ref y));exact k a _ (.inl rfl) e
  |ext φ=>obtain⟨p,⟨o,e⟩,st⟩:=x;exact⟨st _ _ p fun o q=>k _ _ (.inl rfl) q,⟨o,k _ _ (.inl rfl) e⟩,st⟩
theorem bL.lt (x:bL P w H h)(e:H a=some o):a<h.objs.size:=(x a o e).lt
theorem bL.fresh (x:bL P w H h)(e:h.objs.size<=a):H a=none:=by
 cases q:H a with
 |none=>rfl
 |some u=>exact absurd (Wo (x.lt q) e) (Xm _)
theorem bL.kept (x:bL P w H h)(k:∀b u,h.get? b=some u->h'.get? b=some u):bL P w H h':=fun a o e=>
 (x a o e).stay (fun b u _ q=>k b u q) (fun _ q=>q) fun _ _ q=>q
theorem bL.laid (x:bL P w H h)(k:∀b u,h.get? b=some u->h'.get? b=some u)(hp:h.objs.size<=a)(new:cI P w (upd H a o) h' a o):bL P w (upd H a o) h':=fun b u e=>by
 have hn:=x.fresh hp
 by_cases hb:b=a
 ·subst hb;rw[bJ]at e;cases e;exact new
 ·rw[aM hb]at e;exact(x b u e).stay (fun c v _ q=>k c v q) (fun c q=>by rw[aM (gJ q hn)];exact q) fun c xs q=>by rw[aM (gJ q hn)];exact q
end
def Rd (H:Hp)(a:Addr)(u:HO):Prop:=H a=some u\/∃o,H a=some (.frz o u)
theorem Rd.ok (r:Rd H a u)(x:bL P w H h):cI P w H h a u:=by
 rcases r with r |⟨o,r⟩
 ·exact x a u r
 ·obtain⟨_,q⟩:=x a _ r;exact q
noncomputable def vH:Option HO->Prop
 |some (.lst _)=>True
 |some (.dK _)=>True
 |some (.dT _)=>True
 |some (.set _ _)=>True
 |some (.ins _ _ _)=>True
 |some (.ext _)=>True
 |_=>False
section
variable {P:Program}{w:World}{H:Hp}{h h':Heap}{x e:Addr}{o':HO}
theorem bL.write (ok:bL P w H h)(mu:vH (H x))(he:e=x\/H e=some (.own x))(k:∀b u,b≠e->h.get? b=some u->h'.get? b=some u)(heo:∃u,h'.get? e=some u)
  (new:cI P w (upd H x o') h' x o'):bL P w (upd H x o') h':=fun b u q=>by
 have nown:∀c y,H c=some (.own y)->c≠x:=fun c y r z=>by subst z;rw[r]at mu;exact mu
 have ntup:∀c xs,H c=some (.tup xs)->c≠x:=fun c xs r z=>by subst z;rw[r]at mu;exact mu
 by_cases hb:b=x
 ·subst hb;rw[bJ]at q;cases q;exact new
 ·rw[aM hb]at q
  by_cases hbe:b=e
  ·have q':H b=some (.own x):=by
    rcases he with z |z
    ·exact absurd (hbe.trans z) hb
    ·rw[hbe];exact z
   rw[q]at q';cases q';obtain⟨v,hv⟩:=heo;exact⟨v,by rw[hbe];exact hv⟩
  ·refine(ok b u q).stay (fun c v hc r=>k c v ?_ r) (fun c r=>by rw[aM (nown c b r)];exact r) fun c xs r=>by rw[aM (ntup c xs r)];exact r
   rcases hc with rfl |hc
   ·exact hbe
   ·rintro rfl;rcases he with z |z
    ·exact nown c b hc z
    ·rw[hc]at z;cases z;exact hb rfl
end
structure Un (fs ex:List Addr)(H H':Hp)(h h':Heap):Prop where
 keep:∀b o,h.get? b=some o->H b=none->b∉fs->b∉ex->h'.get? b=some o
 slot:∀b o,h.get? b=some o->H b=none->b∈fs->b∉ex->∃sl,h'.get? b=some {o with slots:=sl}
 free:∀b o,h.get? b=some o->H b=none->b∉ex->H' b=none
 there:∀b o,h.get? b=some o->b∉ex->∃o',h'.get? b=some o'
 tups:∀b xs,H b=some (.tup xs)->H' b=some (.tup xs)
 frzs:∀b o u,H b=some (.frz o u)->H' b=some (.frz o u)
 tbls:∀b ps,H b=some (.tbl ps)->∃more,H' b=some (.tbl (ps ++ more))
section
variable {fs fs' ex ex':List Addr}{H H1 H2:Hp}{h h1 h2 h':Heap}{a x e:Addr}{o:HO}
theorem Un.any (u:Un fs ex H H1 h h1)(q:h.get? b=some ob)(n:H b=none)(hx:b∉ex):∃sl,h1.get? b=some {ob with slots:=sl}:=by
 by_cases hb:b∈fs
 ·exact u.slot b ob q n hb hx
 ·exact⟨ob.slots,u.keep b ob q n hb hx⟩
theorem Un.trans (a:Un fs ex H H1 h h1)(b:Un fs ex H1 H2 h1 h2):Un fs ex H H2 h h2 where
 keep:=fun c ob q n hc hx=>b.keep c ob (a.keep c ob q n hc hx) (a.free c ob q n hx) hc hx
 slot:=fun c ob q n hc hx=>by
  obtain⟨sl,e1⟩:=a.slot c ob q n hc hx;obtain⟨sl',e2⟩:=b.slot c _ e1 (a.free c ob q n hx) hc hx;exact⟨sl',e2⟩
 free:=fun c ob q n hx=>by
  obtain⟨o',e1⟩:=a.there c ob q hx;exact b.free c o' e1 (a.free c ob q n hx) hx
 there:=fun c ob q hx=>by
  obtain⟨o',e1⟩:=a.there c ob q hx;exact b.there c o' e1 hx
 tups:=fun c xs q=>b.tups c xs (a.tups c xs q)
 frzs:=fun c ob xs q=>b.frzs c ob xs (a.frzs c ob xs q)
 tbls:=fun c ps q=>by
  obtain⟨m1,e1⟩:=a.tbls c ps q;obtain⟨m2,e2⟩:=b.tbls c _ e1;exact⟨m1 ++ m2,by rw[e2,xaF]⟩
theorem Un.kept (k:∀b u,h.get? b=some u->h'.get? b=some u):Un fs ex H H h h':=
 ⟨fun b ob q _ _ _=>k b ob q,fun b ob q _ _ _=>⟨ob.slots,k b ob q⟩,fun _ _ _ n _=>n,fun b ob q _=>⟨ob,k b ob q⟩,fun _ _ q=>q,fun _ _ _ q=>q,fun _ ps q=>⟨#[],by rw[q];simp⟩⟩
theorem Un.refl:Un fs ex H H h h:=Un.kept fun _ _ q=>q
theorem Un.laid (k:∀b u,h.get? b=some u->h'.get? b=some u)(hp:h.objs.size<=a)(hn:H a=none):Un fs ex H (upd H a o) h h' where
 keep:=fun b u q _ _ _=>k b u q
 slot:=fun b u q _ _ _=>⟨u.slots,k b u q⟩
 free:=fun b u q n _=>by rw[aM (WQ (Wo (Ws q) hp))];exact n
 there:=fun b u q _=>⟨u,k b u q⟩
 tups:=fun b xs q=>by rw[aM (gJ q hn)];exact q
 frzs:=fun b u xs q=>by rw[aM (gJ q hn)];exact q
 tbls:=fun b ps q=>⟨#[],by rw[aM (gJ q hn),q];simp⟩
theorem Un.write (mu:vH (H x))(he:e=x\/H e=some (.own x))(k:∀b u,b≠e->h.get? b=some u->h'.get? b=some u)(heo:∃u,h'.get? e=some u):Un fs ex H (upd H x o) h h':=by
 have hx:∀b,H b=none->b≠x:=fun b n z=>by subst z;rw[n]at mu;exact mu
 have hb:∀b,H b=none->b≠e:=fun b n z=>by
  subst z;rcases he with r |r
  ·exact hx b n r
  ·rw[n]at r;cases r
 have hm:∀b u,H b=some u->¬ vH (some u)->b≠x:=fun b u q nm z=>by subst z;rw[q]at mu;exact nm mu
 refine ⟨fun b u q n _ _=>k b u (hb b n) q,fun b u q n _ _=>⟨u.slots,k b u (hb b n) q⟩,fun b u q n _=>by rw[aM (hx b n)];exact n,fun b u q _=>?_,
  fun b xs q=>by rw[aM (hm b _ q fun z=>z)];exact q,fun b u xs q=>by rw[aM (hm b _ q fun z=>z)];exact q,fun b ps q=>⟨#[],by rw[aM (hm b _ q fun z=>z),q];simp⟩⟩
 by_cases hbe:b=e
 ·subst hbe;exact heo
 ·exact⟨u,k b u hbe q⟩
theorem Un.mono (u:Un fs ex H H1 h h1)(hs:∀b∈fs,b∈fs')(hx:∀b∈ex,b∈ex'):Un fs' ex' H H1 h h1:=
 ⟨fun b ob q n hb he=>u.keep b ob q n (fun z=>hb (hs b z)) fun z=>he (hx b z),fun _ _ q n _ he=>u.any q n fun z=>he (hx _ z),fun b ob q n he=>u.free b ob q n fun z=>he (hx b z),fun b ob q he=>u.there b ob q fun z=>he (hx b z),u.tups,u.frzs,u.tbls⟩
end
noncomputable def xZ (h:Heap) (H:Hp):List Addr:=(List.range h.objs.size).filter fun a=>(H a).isSome
def cQ (h:Heap)(H:Hp):Heap:=PySem.W.hideAll h (xZ h H)
theorem Ku (h:Heap)(H:Hp):(cQ h H).objs.size=h.objs.size:=PySem.W.hideAll_size _ _
theorem Ks (e:h.get? b=some o)(n:H b=none):(cQ h H).get? b=some o:=
 PySem.W.hideAll_get _ e fun hm=>by
  have q:(H b).isSome=true:=(Ze.mp hm).2;rw[n]at q;simp at q
theorem Np (e:(cQ h H).get? b=some o):h.get? b=some o/\H b=none:=by
  have e':h.get? b=some o:=PySem.W.of_hideAll (xZ h H) e;refine⟨e',?_⟩
  cases q:H b with
  |none=>rfl
  |some x=>
    have hm:b∈xZ h H:=Ze.mpr ⟨Zr.mpr (Ws e'),by simp[q]⟩;have z:(cQ h H).get? b=none:=PySem.W.hideAll_none (xZ h H) hm;rw[z]at e;cases e
structure Mod (K:Fgx)(mg:Mgx)(base:Heap):Prop where
 kin:K.In base
 glob:base.Ns mainGlobals mg
 blt:∃mb,base.Ns builtinsNs mb/\∀x:Str,x≠"__name__"->mb x=bootBuiltins x
 nolimit:base.NoLimit
structure Cx where
 prog:Program
 w:World
 K:Fgx
 mg:Mgx
 base:Heap
 A:Around
 N:List Str
 s₀:Shared
 H₀:Hp
 env:Env
 outer:List Env
 stack:List Env
 ex:List Addr
 fn:Str->Bool
 calm:Bool
 pn:Pnx
 xe:Value->Shared->Prop
def frs (l:List Env):List Addr:=l.filterMap (·.frame)
abbrev Cx.fs (X:Cx):List Addr:=frs X.outer
def m5 (sc:Scope)(x:Str):Prop:=sc.names.lookup x=some .local\/sc.names.lookup x=some .cell\/sc.names.lookup x=some .free
def Loc (sc:Scope)(x:Str):Prop:=sc.names.lookup x=some .local\/sc.names.lookup x=some .cell
def Look (env:Env)(h:Heap)(m:Mgx)(x:Str)(u:Value):Prop:=
 (env.kindOf x=some .local/\m x=some u)\/((env.kindOf x=some .cell\/env.kindOf x=some .free)/\∃c,env.cells.lookup x=some c/\h.IsCell c (some u))
structure Cx.Ok (X:Cx):Prop where
 mod:Mod X.K X.mg X.base
 kind:X.env.scope.kind=.function
 glob:X.env.globals=mainGlobals
 blt:X.env.builtins=builtinsNs
 above:X.s₀.heap.objs.size<=X.env.locals
 inj:∀x y c,X.env.cells.lookup x=some c->X.env.cells.lookup y=some c->x=y
 has:∀x,(X.env.kindOf x=some .cell\/X.env.kindOf x=some .free)->∃c,X.env.cells.lookup x=some c
 cab:∀x c,X.fn x=true->X.env.cells.lookup x=some c->X.s₀.heap.objs.size<=c
 hd:X.calm=true->X.A.handled=none
 frames:X.A.frames=some X.stack
 stk:X.stack=X.outer\/(X.stack=X.env::X.outer/\X.env.frame=some X.env.locals)
 exf:∀b∈X.ex,b≠X.env.locals/\∀x c,X.env.cells.lookup x=some c->c≠b
 bs:∀b o,X.base.get? b=some o->X.s₀.heap.get? b=some o/\X.H₀ b=none
 bsz:X.base.objs.size<=X.s₀.heap.objs.size
 noex:∀b o,X.base.get? b=some o->b∉X.ex
 exfs:∀b∈X.ex,b∉X.fs
 funs:X.s₀.heap.FunFrames X.base X.outer
 frf:∀b∈X.fs,X.H₀ b=none
structure Inv (X:Cx)(pins:Pnx)(σ:List (Option V))(H:Hp)(s:Shared):Prop where
 ok:X.Ok
 os:s.os=X.s₀.os
 bare:AllBare s.gens
 base:Un X.fs X.ex X.H₀ H X.s₀.heap s.heap
 loc:∃m,s.heap.Ns X.env.locals m/\∀(i:Nat) (x:Str) (v:V),X.N[i]? =some x->σ[i]? =some (some v)->m5 X.env.scope x->∃u,RelV v u/\Look X.env s.heap m x u
 cell:∀x c,X.env.cells.lookup x=some c->∃v,s.heap.IsCell c v
 free:H X.env.locals=none
 freeC:∀x c,X.env.cells.lookup x=some c->H c=none\/(X.fn x=false/\∃o u,H c=some (.frz o u))
 pin:∀p∈X.pn ++ pins,s.heap.get? p.1=some p.2/\H p.1=none/\p.1≠X.env.locals/\p.1∉X.fs/\∀v,p.2.data≠ .cell v
 hok:bL X.prog X.w H s.heap
 len:σ.length=X.N.length
section
variable {X:Cx}{pins:Pnx}{σ:List (Option V)}{H H':Hp}{s:Shared}{h':Heap}
theorem Cx.Ok.nofr (ok:X.Ok)(e:X.base.get? b=some o):b∉X.fs:=fun hb=>by
 have:=(ok.funs.mem hb).1;rw[e]at this;cases this
theorem Inv.bs (I:Inv X pins σ H s):∀b o,X.base.get? b=some o->s.heap.get? b=some o/\H b=none:=fun b o e=>
 ⟨I.base.keep b o (I.ok.bs b o e).1 (I.ok.bs b o e).2 (I.ok.nofr e) (I.ok.noex b o e),I.base.free b o (I.ok.bs b o e).1 (I.ok.bs b o e).2 (I.ok.noex b o e)⟩
theorem Inv.bk (I:Inv X pins σ H s):∀b o,X.base.get? b=some o->s.heap.get? b=some o:=fun b o e=>(I.bs b o e).1
theorem Inv.mod (I:Inv X pins σ H s):Mod X.K X.mg X.base:=I.ok.mod
theorem Inv.kIn (I:Inv X pins σ H s):X.K.In s.heap:=I.ok.mod.kin.keeps I.bk
theorem Inv.lt (I:Inv X pins σ H s):X.env.locals<s.heap.objs.size:=let ⟨_,hn,_⟩:=I.loc;hn.lt
theorem Inv.sz (I:Inv X pins σ H s):X.s₀.heap.objs.size<=s.heap.objs.size:=W5 I.ok.above (Zf I.lt)
theorem Inv.nofs (I:Inv X pins σ H s)(h:s.heap.objs.size<=a):a∉X.fs:=fun hb=>by
 obtain⟨_,o,ho,_⟩:=I.ok.funs.mem hb;exact absurd (Wo (Ws ho) (W5 I.sz h)) (Xm _)
theorem Inv.cne (I:Inv X pins σ H s):∀x c,X.env.cells.lookup x=some c->c≠X.env.locals:=fun x c e z=>by
 obtain⟨v,o,ho,hd⟩:=I.cell x c e;obtain⟨m,⟨o',es,ep,ho',hd',_⟩,_⟩:=I.loc;rw[z,ho']at ho;cases ho;rw[hd']at hd;cases hd
theorem Inv.funs (I:Inv X pins σ H s):s.heap.FunFrames X.base X.outer:=by
  have all:∀(l:List Env),(∀b∈frs l,b∈X.fs)->X.s₀.heap.FunFrames X.base l->s.heap.FunFrames X.base l:=by
    intro l
    induction l with
    |nil=>intro _ _;trivial
    |cons env r ih=>
      intro hs hl;obtain⟨hk,⟨L,o,hf,hn,ho,hd⟩,hr⟩:=hl;have hL:L∈X.fs:=hs L (by unfold frs;rw[X_,hf];exact Xu);obtain⟨sl,e⟩:=I.base.slot L o ho (I.ok.frf L hL) hL fun z=>I.ok.exfs L z hL;exact⟨hk,⟨L,_,hf,hn,e,hd⟩,ih (fun b hb=>hs b (by unfold frs;rw[X_,hf];exact W4 _ hb)) hr⟩
  exact all X.outer (fun _ hb=>hb) I.ok.funs
theorem Inv.stack (I:Inv X pins σ H s):s.heap.FunFrames X.base X.stack:=by
 rcases I.ok.stk with e |⟨e,hf⟩
 ·rw[e];exact I.funs
 ·rw[e];obtain⟨m,hn,_⟩:=I.loc;refine .cons (by rw[I.ok.kind];decide) hf hn ?_ I.funs;exact Heap.get?_none_of_le (W5 I.ok.bsz I.ok.above)
theorem Inv.stkSub (I:Inv X pins σ H s):∀b∈frs X.stack,b∈X.env.locals::X.fs:=fun b hb=>by
 rcases I.ok.stk with e |⟨e,hf⟩
 ·rw[e]at hb;exact W4 _ hb
 ·rw[e]at hb;unfold frs at hb;rw[X_,hf]at hb;exact hb
theorem Inv.stkFree (I:Inv X pins σ H s):∀b∈frs X.stack,H b=none:=fun b hb=>by
 rcases W6.mp (I.stkSub b hb) with e |hb
 ·rw[e];exact I.free
 ·obtain⟨_,o,ho,_⟩:=I.ok.funs.mem hb;exact I.base.free b o ho (I.ok.frf b hb) fun z=>I.ok.exfs b z hb
theorem Inv.step {g':Array GenState}{t':Nat}{d':Drawn}{ch:List Addr}(I:Inv X pins σ H s)
  (hch:∀b∈ch,(b∈X.ex\/X.s₀.heap.objs.size<=b)/\b≠X.env.locals/\(∀x c,X.env.cells.lookup x=some c->c≠b)/\∀p∈X.pn ++ pins,p.1≠b)
  (keep:∀b o,b≠X.env.locals->b∉X.fs->b∉ch->s.heap.get? b=some o->H b=none->h'.get? b=some o)
  (slot:∀b o,b≠X.env.locals->b∈X.fs->b∉ch->s.heap.get? b=some o->H b=none->∃sl,h'.get? b=some {o with slots:=sl}) (free:∀b o,b∉ch->s.heap.get? b=some o->H b=none->H' b=none)
  (there:∀b o,b∉ch->s.heap.get? b=some o->∃o',h'.get? b=some o')
  (tups:∀b xs,H b=some (.tup xs)->H' b=some (.tup xs)) (frzs:∀b o u,H b=some (.frz o u)->H' b=some (.frz o u)) (tbls:∀b ps,H b=some (.tbl ps)->∃more,H' b=some (.tbl (ps ++ more)))
  (ns:∀m,s.heap.Ns X.env.locals m->h'.Ns X.env.locals m) (hok:bL X.prog X.w H' h') (hg:AllBare g'):
  Inv X pins σ H' {s with heap:=h',gens:=g',drawn:=d',toks:=t'}:=by
 have neL:∀b o,X.s₀.heap.get? b=some o->b≠X.env.locals:=fun b o e=>WQ (Wo (Ws e) I.ok.above);have neC:∀b o,X.s₀.heap.get? b=some o->b∉X.ex->b∉ch:=fun b o e hx hb=>by
  rcases(hch b hb).1 with z |z
  ·exact hx z
  ·exact absurd (Wo (Ws e) z) (Xm _)
 have cellK:∀x c,X.env.cells.lookup x=some c->∀v,s.heap.IsCell c v->h'.IsCell c v:=fun x c e v ⟨o,ho,hd⟩=>by
  have nch:c∉ch:=fun z=>(hch c z).2.2.1 x c e rfl;rcases I.freeC x c e with fc |⟨_,o',u',fc⟩
  ·by_cases hc:c∈X.fs
   ·obtain⟨sl,q⟩:=slot c o (I.cne x c e) hc nch ho fc;exact⟨_,q,hd⟩
   ·exact⟨o,keep c o (I.cne x c e) hc nch ho fc,hd⟩
  ·obtain⟨e1,_⟩:=I.hok c _ fc;obtain⟨e2,_⟩:=hok c _ (frzs c _ _ fc);rw[ho]at e1;cases e1;exact⟨o,e2,hd⟩
 refine⟨I.ok,I.os,hg,⟨fun b o e n hb hx=>?_,fun b o e n hb hx=>?_,fun b o e n hx=>?_,fun b o e hx=>?_,fun b xs e=>tups b xs (I.base.tups b xs e),fun b o xs e=>frzs b o xs (I.base.frzs b o xs e),fun b ps e=>?_⟩,?_,fun x c e=>?_,?_,fun x c e=>?_,fun p hp=>?_,hok,I.len⟩
 ·exact keep b o (neL b o e) hb (neC b o e hx) (I.base.keep b o e n hb hx) (I.base.free b o e n hx)
 ·obtain⟨sl,e1⟩:=I.base.slot b o e n hb hx;obtain⟨sl',e2⟩:=slot b _ (neL b o e) hb (neC b o e hx) e1 (I.base.free b o e n hx);exact⟨sl',e2⟩
 ·obtain⟨o',e1⟩:=I.base.there b o e hx;exact free b o' (neC b o e hx) e1 (I.base.free b o e n hx)
 ·obtain⟨o',e1⟩:=I.base.there b o e hx;exact there b o' (neC b o e hx) e1
 ·obtain⟨m1,e1⟩:=I.base.tbls b ps e;obtain⟨m2,e2⟩:=tbls b _ e1;exact⟨m1 ++ m2,by rw[e2,xaF]⟩
 ·obtain⟨m,hn,hl⟩:=I.loc;refine⟨m,ns m hn,fun i x v e1 e2 e3=>?_⟩;obtain⟨u,r,l⟩:=hl i x v e1 e2 e3;refine⟨u,r,?_⟩;rcases l with l |⟨k,c,e,z⟩
  ·exact .inl l
  ·exact .inr ⟨k,c,e,cellK x c e _ z⟩
 ·obtain⟨v,z⟩:=I.cell x c e;exact⟨v,cellK x c e v z⟩
 ·obtain⟨m,⟨o,_,_,ho,_⟩,_⟩:=I.loc;exact free _ o (fun z=>(hch _ z).2.1 rfl) ho I.free
 ·obtain⟨v,o,ho,hd⟩:=I.cell x c e;rcases I.freeC x c e with fc |⟨fn,o',u',fc⟩
  ·exact .inl (free c o (fun z=>(hch c z).2.2.1 x c e rfl) ho fc)
  ·exact .inr ⟨fn,o',u',frzs c _ _ fc⟩
 ·obtain⟨e,n,ne,nf,d⟩:=I.pin p hp;have nch:p.1∉ch:=fun z=>(hch p.1 z).2.2.2 p hp rfl;exact⟨keep p.1 p.2 ne nf nch e n,free p.1 p.2 nch e n,ne,nf,d⟩
theorem Inv.un {t':Nat}(I:Inv X pins σ H s)(u:Un X.fs [] H H' s.heap h')(hok:bL X.prog X.w H' h'):Inv X pins σ H' {s with heap:=h',toks:=t'}:=by
 obtain ⟨m, ⟨o, es, ep, ho, r⟩, _⟩ := id I.loc;obtain ⟨sl, hL⟩ := u.any ho I.free (by simp);exact I.step (g' := s.gens) (d' := s.drawn) (ch := []) (fun _ z => nomatch z) (fun b o _ hb _ e n => u.keep b o e n hb (by simp)) (fun b o _ hb _ e n => u.slot b o e n hb (by simp)) (fun b o _ e n => u.free b o e n (by simp)) (fun b o _ e => u.there b o e (by simp)) u.tups u.frzs u.tbls (fun m' hm=>by
  obtain⟨o',es',ep',ho',r'⟩:=hm;rw[ho]at ho';cases ho';exact⟨_,es',ep',hL,r'⟩) hok I.bare
theorem Inv.call {g':Array GenState}{t':Nat}{d':Drawn}{ch:List Addr}(I:Inv X pins σ H s)(u:Un (frs X.stack) ch H H' s.heap h')(hok:bL X.prog X.w H' h')(hg:AllBare g')
  (hch:∀b∈ch,(b∈X.ex\/X.s₀.heap.objs.size<=b)/\b≠X.env.locals/\(∀x c,X.env.cells.lookup x=some c->c≠b)/\∀p∈X.pn ++ pins,p.1≠b):
  Inv X pins σ H' {s with heap:=h',gens:=g',drawn:=d',toks:=t'}:=by
 obtain ⟨m, ⟨o, es, ep, ho, r⟩, _⟩ := id I.loc;obtain ⟨sl, hL⟩ := u.any ho I.free fun z => (hch _ z).2.1 rfl;exact I.step (ch := ch) hch (fun b o hL hb hc e n => u.keep b o e n (fun z => (W6.mp (I.stkSub b z)).elim hL hb) hc) (fun b o _ _ hc e n => u.any e n hc) (fun b o hc e n => u.free b o e n hc) (fun b o hc e => u.there b o e hc) u.tups u.frzs u.tbls (fun m' hm=>by
  obtain⟨o',es',ep',ho',r'⟩:=hm;rw[ho]at ho';cases ho';exact⟨_,es',ep',hL,r'⟩) hok hg
theorem Inv.turned {t':Nat}{it:Addr}(I:Inv X pins σ H s)(k:∀b o,b≠it->s.heap.get? b=some o->h'.get? b=some o)(hn:H it=none)(hL:it≠X.env.locals)
  (h1:it∈X.ex\/X.s₀.heap.objs.size<=it) (h2:∀x c,X.env.cells.lookup x=some c->c≠it) (h3:∀p∈X.pn ++ pins,p.1≠it):Inv X pins σ H {s with heap:=h',toks:=t'}:=by
 have nit:∀b u,H b=some u->b≠it:=fun b u e z=>by rw[z,hn]at e;cases e
 refine I.step (g':=s.gens) (d':=s.drawn) (ch:=[it]) (fun b hb=>?_) (fun b o _ _ hc e _=>k b o (fun z=>hc (by simp[z])) e) (fun b o _ _ hc e _=>⟨o.slots,k b o (fun z=>hc (by simp[z])) e⟩) (fun _ _ _ _ n=>n)
  (fun b o hc e=>⟨o,k b o (fun z=>hc (by simp[z])) e⟩) (fun _ _ e=>e) (fun _ _ _ e=>e) (fun b ps e=>⟨#[],by rw[e];simp⟩) (fun m hm=>?_) (fun b u e=>?_) I.bare
 ·have e:b=it:=by simpa using hb
  subst e;exact⟨h1,hL,h2,h3⟩
 ·obtain⟨o,es,ep,ho,r⟩:=hm;exact⟨o,es,ep,k _ o (Yn hL) ho,r⟩
 ·refine(I.hok b u e).stay (fun c v hc q=>k c v ?_ q) (fun _ q=>q) fun _ _ q=>q;rcases hc with z |z
  ·rw[z];exact nit b u e
  ·exact nit c _ z
theorem Inv.tok (I:Inv X pins σ H s)(t:Nat):Inv X pins σ H {s with toks:=t}:=I.un (h':=s.heap) (t':=t) Un.refl I.hok
theorem Inv.kept (I:Inv X pins σ H s)(k:∀b u,s.heap.get? b=some u->h'.get? b=some u):Inv X pins σ H {s with heap:=h',toks:=t'}:=I.un (Un.kept k) (I.hok.kept k)
theorem Inv.laid (I:Inv X pins σ H s)(k:∀b u,s.heap.get? b=some u->h'.get? b=some u)(hp:s.heap.objs.size<=a)(new:cI X.prog X.w (upd H a o) h' a o):
  Inv X pins σ (upd H a o) {s with heap:=h',toks:=t'}:=I.un (Un.laid k hp (I.hok.fresh hp)) (I.hok.laid k hp new)
theorem Inv.write (I:Inv X pins σ H s)(mu:vH (H x))(he:e=x\/H e=some (.own x))(k:∀b u,b≠e->s.heap.get? b=some u->h'.get? b=some u)(heo:∃u,h'.get? e=some u)
  (new:cI X.prog X.w (upd H x o) h' x o):Inv X pins σ (upd H x o) {s with heap:=h',toks:=t'}:=I.un (Un.write mu he k heo) (I.hok.write mu he k heo new)
theorem Inv.pins_of (I:Inv X pins σ H s)(h:∀p∈pins',s.heap.get? p.1=some p.2/\H p.1=none/\p.1≠X.env.locals/\p.1∉X.fs/\∀v,p.2.data≠ .cell v):Inv X pins' σ H s:=
 ⟨I.ok,I.os,I.bare,I.base,I.loc,I.cell,I.free,I.freeC,fun p hp=>(Xd.mp hp).elim (fun z=>I.pin p (xas _ z)) (h p),I.hok,I.len⟩
theorem GF {N:List Str}(hN:N.Nodup){i j:Nat}{x:Str}(a:N[i]? =some x)(b:N[j]? =some x):i=j:=by
 obtain⟨h1,e1⟩:=WD.mp a;obtain⟨h2,e2⟩:=WD.mp b;exact(List.getElem_inj hN).mp (e1.trans e2.symm)
theorem Ub {M:Model}{A:Around}{E:Value->Shared->Prop}{i:Nat}{x:Str}{v:V}{u:Value}{Q:Unit->Shared->Prop}(I:Inv X pins σ H s)(hN:X.N.Nodup)(hi:X.N[i]? =some x)(hx:Loc X.env.scope x)(r:RelV v u)
    (h:∀s',Inv X pins (σ.set i (some v)) H s'->(∃a,Heap.SameBut a s.heap s'.heap/\(a=X.env.locals\/X.env.cells.lookup x=some a))->Q () s') (hf:X.fn x=true\/X.env.scope.names.lookup x=some .local:=by first |exact .inl rfl |exact .inr rfl |assumption):wpAny M A (storeName X.env x u) Q E s:=by
  obtain⟨m,hn,hl⟩:=id I.loc;have hcls:(X.env.scope.kind==.class || (X.env.scope.kind==.module && X.env.locals !=X.env.globals))=false:=by rw[I.ok.kind];rfl
  have hiσ:i<σ.length:=by rw[I.len];exact(WD.mp hi).1
  have cne:=I.cne;have tracked:∀{a:Addr} {h':Heap},(∃o,s.heap.get? a=some o/\H a=none)->Heap.SameBut a s.heap h'->bL X.prog X.w H h':=fun {a h'} ha hs b ob e=>by
    obtain⟨_,_,hfree⟩:=ha;refine(I.hok b ob e).stay (fun c w' hc q=>(hs.2 c ?_).trans q) (fun _ q=>q) fun _ _ q=>q;rintro rfl;rcases hc with rfl |hc
    · rw[hfree]at e;cases e
    · rw[hfree]at hc;cases hc
  rcases hx with hk |hk
  · refine wpAny_storeName_local hk hn (fun h' hn' hs=>?_) hcls;obtain⟨oL,_,_,hoL,_⟩:=id hn;refine h _ ⟨I.ok,I.os,I.bare,⟨fun b o e n hb hx=>?_,fun b o e n hb hx=>?_,I.base.free,fun b o e hx=>?_,I.base.tups,I.base.frzs,I.base.tbls⟩,⟨_,hn',fun j y v' e1 e2 e3=>?_⟩,fun y c e=>?_,I.free,I.freeC,fun p hp=>?_,tracked ⟨oL,hoL,I.free⟩ hs,by simpa using I.len⟩ ⟨_,hs,.inl rfl⟩
    · exact(hs.2 b (WQ (Wo (Ws e) I.ok.above))).trans (I.base.keep b o e n hb hx)
    · obtain⟨sl,e1⟩:=I.base.slot b o e n hb hx;exact⟨sl,(hs.2 b (WQ (Wo (Ws e) I.ok.above))).trans e1⟩
    · obtain⟨o',e1⟩:=I.base.there b o e hx;exact⟨o',(hs.2 b (WQ (Wo (Ws e) I.ok.above))).trans e1⟩
    · by_cases hj:j=i
      · subst hj;rw[hi]at e1;cases e1;rw[Y0 hiσ]at e2;cases e2;exact⟨u,r,.inl ⟨hk,by simp⟩⟩
      · rw[Zg (Yn hj)]at e2;obtain⟨u',r',q⟩:=hl j y v' e1 e2 e3;refine⟨u',r',?_⟩;rcases q with⟨k,e⟩ |⟨k,c,e,z⟩
        · refine .inl ⟨k,?_⟩;have:y≠x:=fun e=>hj (GF hN e1 (e ▸ hi))
          simp[this,e]
        · exact .inr ⟨k,c,e,z.sameBut hs (cne y c e)⟩
    · obtain⟨w',z⟩:=I.cell y c e;exact⟨w',z.sameBut hs (cne y c e)⟩
    · obtain⟨e,n,ne,nf,d⟩:=I.pin p hp;exact⟨(hs.2 p.1 ne).trans e,n,ne,nf,d⟩
  · have hfn:X.fn x=true:=by
      rcases hf with z |z
      · exact z
      · rw[z]at hk;cases hk
    obtain⟨c,hc⟩:=I.ok.has x (.inl hk);obtain⟨w',z⟩:=I.cell x c hc;refine wpAny_storeName_cell I.ok.kind hk hc z (fun h' hc' hs=>?_);obtain⟨oc,hoc,hocd⟩:=id z;refine h {s with heap:=h'} ⟨I.ok,I.os,I.bare,⟨fun b o e n hb hx=>?_,fun b o e n hb hx=>?_,I.base.free,fun b o e hx=>?_,I.base.tups,I.base.frzs,I.base.tbls⟩,⟨m,hn.sameBut hs (Yn (cne x c hc)),fun j y v' e1 e2 e3=>?_⟩,fun y c' e=>?_,I.free,I.freeC,fun p hp=>?_,tracked ⟨oc,hoc,(I.freeC x c hc).resolve_right fun z=>by rw[z.1]at hfn;cases hfn⟩ hs,by simpa using I.len⟩ ⟨c,hs,.inr hc⟩
    · exact(hs.2 b (WQ (Wo (Ws e) (I.ok.cab x c hfn hc)))).trans (I.base.keep b o e n hb hx)
    · obtain⟨sl,e1⟩:=I.base.slot b o e n hb hx;exact⟨sl,(hs.2 b (WQ (Wo (Ws e) (I.ok.cab x c hfn hc)))).trans e1⟩
    · obtain⟨o',e1⟩:=I.base.there b o e hx;exact⟨o',(hs.2 b (WQ (Wo (Ws e) (I.ok.cab x c hfn hc)))).trans e1⟩
    · by_cases hj:j=i
      · subst hj;rw[hi]at e1;cases e1;rw[Y0 hiσ]at e2;cases e2;exact⟨u,r,.inr ⟨.inl hk,c,hc,hc'⟩⟩
      · rw[Zg (Yn hj)]at e2;obtain⟨u',r',q⟩:=hl j y v' e1 e2 e3;refine⟨u',r',?_⟩;rcases q with q |⟨k,c',e,z'⟩
        · exact .inl q
        · refine .inr ⟨k,c',e,z'.sameBut hs ?_⟩;rintro rfl;exact hj (GF hN e1 (I.ok.inj _ _ _ e hc ▸ hi))
    · by_cases hcc:c'=c
      · subst hcc;exact⟨_,hc'⟩
      · obtain⟨w2,z2⟩:=I.cell y c' e;exact⟨w2,z2.sameBut hs hcc⟩
    · obtain⟨e,n,ne,nf,d⟩:=I.pin p hp;refine⟨(hs.2 p.1 ?_).trans e,n,ne,nf,d⟩;intro q;rw[q,hoc]at e;have q':oc=p.2:=W3 e;exact d w' (by rw[<-q'];exact hocd)
theorem vh (I:Inv X pins σ H s)(hN:X.N.Nodup)(hi:X.N[i]? =some x)(hx:Loc X.env.scope x)(r:RelV v u)
  (h:∀s',Inv X pins (σ.set i (some v)) H s'->Q () s') (hf:X.fn x=true\/X.env.scope.names.lookup x=some .local:=by first |exact .inl rfl |exact .inr rfl |assumption):wpAny M A (storeName X.env x u) Q E s:=
 Ub I hN hi hx r (fun s' I' _=>h s' I') hf
theorem Inv.call' (I:Inv X pins σ H s)(ho:s'.os=s.os)(u:Un (frs X.stack) ch H H' s.heap s'.heap)(hok:bL X.prog X.w H' s'.heap)(hg:AllBare s'.gens)
  (hch:∀b∈ch,(b∈X.ex\/X.s₀.heap.objs.size<=b)/\b≠X.env.locals/\(∀x c,X.env.cells.lookup x=some c->c≠b)/\∀p∈X.pn ++ pins,p.1≠b):Inv X pins σ H' s':=by
 obtain⟨h',g',d',t',o'⟩:=s';have e:o'=s.os:=ho;subst e;exact I.call (g':=g') (t':=t') (d':=d') u hok hg hch
end
abbrev XK:=Value->Option Addr->Hp->Prop
abbrev St:=List (Option V)
abbrev VK:=V->Hp->Prop
abbrev TE:=St->Hp->VK->Prop
abbrev TT:=St->Hp->(Bool->Hp->Prop)->Prop
abbrev TA:=St->Hp->(List V->Hp->Prop)->Prop
structure Ends where
 nx:St->Hp->Prop
 rt:VK
 bk:St->Hp->Prop:=fun _ _=>False
 ct:St->Hp->Prop:=fun _ _=>False
abbrev TS:=Ends->St->Hp->Prop
def EP (X:Cx)(pins:Pnx)(σ:St)(Q:VK)(u:Value)(s':Shared):Prop:=∃v H',Inv X pins σ H' s'/\RelV v u/\Q v H'
def TP (X:Cx)(pins:Pnx)(σ:St)(Q:Bool->Hp->Prop)(b:Bool)(s':Shared):Prop:=∃H',Inv X pins σ H' s'/\Q b H'
def AP (X:Cx)(pins:Pnx)(σ:St)(Q:List V->Hp->Prop)(us:List Value)(s':Shared):Prop:=∃vs H',Inv X pins σ H' s'/\Vals vs us/\Q vs H'
def SP (X:Cx)(pins:Pnx)(D:Ends)(f:Flow)(s':Shared):Prop:=
 match f with
 |.next=>∃σ' H',Inv X pins σ' H' s'/\D.nx σ' H'
 |.brk=>∃σ' H',Inv X pins σ' H' s'/\D.bk σ' H'
 |.cont=>∃σ' H',Inv X pins σ' H' s'/\D.ct σ' H'
 |.ret u=>∃v σ' H',Inv X pins σ' H' s'/\RelV v u/\D.rt v H'
def PE (X:Cx)(e:Expr)(t:TE):Prop:=
 ∀(pins:Pnx) (s:Shared) (σ:St) (H:Hp) (Q:VK),Inv X pins σ H s->t σ H Q->wpAny (model X.prog X.w) X.A (eval e X.env) (EP X pins σ Q) X.xe s
def PT (X:Cx)(e:Expr)(t:TT):Prop:=
 ∀(pins:Pnx) (s:Shared) (σ:St) (H:Hp) (Q:Bool->Hp->Prop),Inv X pins σ H s->t σ H Q->wpAny (model X.prog X.w) X.A (isTrue e X.env (eval e X.env)) (TP X pins σ Q) X.xe s
def PW (X:Cx)(e:Expr)(t:TT):Prop:=
 ∀(whole:Sem Value) (pins:Pnx) (s:Shared) (σ:St) (H:Hp) (Q:Bool->Hp->Prop),Inv X pins σ H s->t σ H Q->wpAny (model X.prog X.w) X.A (isTrue e X.env whole) (TP X pins σ Q) X.xe s
theorem PW.pt (h:PW X e t):PT X e t:=h _
def PA (X:Cx)(es:List Expr)(t:TA):Prop:=
 ∀(pos:Pos) (pins:Pnx) (s:Shared) (σ:St) (H:Hp) (Q:List V->Hp->Prop),Inv X pins σ H s->t σ H Q->wpAny (model X.prog X.w) X.A (spliced (backTo pos (starEach es X.env))) (AP X pins σ Q) X.xe s
def PS (X:Cx)(st:Stmt)(t:TS):Prop:=
 ∀(pins:Pnx) (s:Shared) (σ:St) (H:Hp) (D:Ends),Inv X pins σ H s->t D σ H->wpAny (model X.prog X.w) X.A (exec st X.env) (SP X pins D) X.xe s
def eY (X:Cx)(st:List Stmt)(t:TS):Prop:=
 ∀(pins:Pnx) (s:Shared) (σ:St) (H:Hp) (D:Ends),Inv X pins σ H s->t D σ H->wpAny (model X.prog X.w) X.A (execs st X.env) (SP X pins D) X.xe s
theorem aR (h:wpAny M A t Q E s)(hQ:∀a s,Q a s->Q' a s):wpAny M A t Q' E s:=Xg h hQ fun _ _ x=>x
section
variable {X:Cx}
def CZ (i:Nat):TE:=fun σ H Q=>∃v,σ[i]? =some (some v)/\Q v H
def tC (v:V):TE:=fun _ H Q=>Q v H
theorem tO (hN:X.N[i]? =some x)(hv:m5 X.env.scope x)(hd:(x==("__debug__":Str))=false:=by decide)(hcd:(x==("__classdict__":Str))=false:=by decide):PE X (.Name x pos) (CZ i):=by
 intro pins s σ H Q I h;obtain⟨v,e,h⟩:=h;obtain⟨m,hn,hl⟩:=I.loc;obtain⟨u,r,l⟩:=hl i x v hN e hv;have fin:EP X pins σ Q u s:=⟨v,H,I,r,h⟩;rcases l with⟨hk,hm⟩ |⟨hk,c,hc,hcell⟩
 ·exact wpAny_Name (wpAny_loadName_local I.ok.kind hk hn hm fin) hd
 ·rcases hk with hk |hk
  ·exact wpAny_Name (wpAny_loadName_cell I.ok.kind hk hc hcell fin) hd
  ·exact wpAny_Name (wpAny_loadName_free I.ok.kind hk hc hcell fin hcd) hd
theorem Om {i j pos}:PE X (.Constant (.int i) j pos) (tC (.int i)):=fun _ _ _ H _ I h=>wpAny_Constant_int ⟨.int i,H,I.tok _,⟨_,rfl⟩,h⟩
theorem Oe {b j pos}:PE X (.Constant (.bool b) j pos) (tC (.bl b)):=fun _ _ _ H _ I h=>Constant_bool ⟨.bl b,H,I,rfl,h⟩
theorem Ov {x j pos}:PE X (.Constant (.str x) j pos) (tC (.str x)):=fun _ _ _ H _ I h=>Calls.Constant_str ⟨.str x,H,I.tok _,⟨_,rfl⟩,h⟩
def Gl (X:Cx)(x:Str):Prop:=X.env.kindOf x=some .globalImplicit
theorem Gj (I:Inv X pins σ H s)(hg:Gl X x)(hm:X.mg x=some u)(h:Q u s)
  (hd:(x==("__debug__":Str))=false:=by decide):wpAny (model X.prog X.w) X.A (eval (.Name x pos) X.env) Q E s:=
 ZG I.ok.kind hg (Calls.loadGlobal_global (by rw[I.ok.glob];exact I.mod.glob.keeps I.bk) hm h) hd
theorem sW (I:Inv X pins σ H s)(hg:Gl X x)(hm:X.mg x=none)(hv:bootBuiltins x=some u)(h:Q u s)
  (hn:x≠"__name__":=by decide) (hd:(x==("__debug__":Str))=false:=by decide):wpAny (model X.prog X.w) X.A (eval (.Name x pos) X.env) Q E s:=by
 obtain⟨mb,h1,h2⟩:=I.mod.blt;exact ZG I.ok.kind hg (Calls.loadGlobal_builtin (by rw[I.ok.glob];exact I.mod.glob.keeps I.bk) hm (by rw[I.ok.blt];exact h1.keeps I.bk) ((h2 x hn).trans hv) h) hd
theorem GR (hg:Gl X x)(hm:X.mg x=some u)(r:RelV v u)(hd:(x==("__debug__":Str))=false:=by decide):PE X (.Name x pos) (tC v):=
 fun _ _ _ H _ I h=>Gj I hg hm ⟨v,H,I,r,h⟩ hd
theorem Og (hg:Gl X x)(hm:X.mg x=none)(hv:bootBuiltins x=some u)(r:RelV v u)(hn:x≠"__name__":=by decide)(hd:(x==("__debug__":Str))=false:=by decide):PE X (.Name x pos) (tC v):=
 fun _ _ _ H _ I h=>sW I hg hm hv ⟨v,H,I,r,h⟩ hn hd
variable {a b:Expr}{ta tb:TE}{pos:Pos}
variable {tA tB':TT}{rest:List Expr}
noncomputable def Uq (t u:TT):TT:=fun σ H Q=>t σ H fun c H1=>if c=true then Q true H1 else u σ H1 Q
def CT (t:TT):TT:=fun σ H Q=>t σ H fun c H1=>Q (!c) H1
theorem Pu (ha:PT X a tA):PW X (.BoolOp .Or [a] pos) tA:=by
 intro wh pins s σ H Q I h;refine isTrue_or (aR (ha pins s σ H Q I h) fun c s1 e=>?_)
 cases c with
 |false=>exact isTrue_or_nil e
 |true=>exact e
theorem Pr (ha:PT X a tA)(hb:PW X (.BoolOp .Or (b::rest) pos) tB'):PW X (.BoolOp .Or (a::b::rest) pos) (Uq tA tB'):=by
 intro wh pins s σ H Q I h;refine isTrue_or (aR (ha pins s σ H _ I h) fun c s1 ⟨H1,I1,q1⟩=>?_)
 cases c with
 |true=>exact⟨H1,I1,q1⟩
 |false=>exact hb wh pins s1 σ H1 Q I1 q1
theorem Ph (ha:PT X a tA):PT X (.UnaryOp .Not a pos) (CT tA):=by
 intro pins s σ H Q I h;exact isTrue_not (ha pins s σ H (fun c H1=>Q (!c) H1) I h)
noncomputable def Ud (ta tb:TE):TE:=fun σ H Q=>ta σ H fun x H1=>∃c,x=.bl c/\if c=true then tb σ H1 Q else Q (.bl false) H1
theorem Ot {op}(h:PE X a t):PE X (.BoolOp op [a] pos) t:=fun pins s σ H Q I hw=>BoolOp_one (h pins s σ H Q I hw)
theorem Od (ha:PE X a ta)(hb:PE X (.BoolOp .And (b::rest) pos) tb):PE X (.BoolOp .And (a::b::rest) pos) (Ud ta tb):=by
 intro pins s σ H Q I h;refine BoolOp_and (aR (ha pins s σ H _ I h) fun v s1 ⟨x,H1,I1,r1,q1⟩=>?_);obtain⟨c,rfl,q1⟩:=q1;cases r1;refine ZS ?_
 cases c with
 |true=>exact hb pins s1 σ H1 Q I1 q1
 |false=>exact⟨.bl false,H1,I1,rfl,q1⟩
end
def aY (K:Fgx)(H:Hp)(a:Addr)(xs:List V):Prop:=
 Rd H a (.lst xs)\/
  ∃(o:Obj) (its:Array Value) (n:Nat),K.lookup a=some o/\o.cls=.type "list"/\o.dict=none/\o.data=.seq its n/\its.size<=sizeLine/\Vals xs its.toList
def dD (K:Fgx)(H:Hp)(a:Addr)(xs:List V):Prop:=
 Rd H a (.tup xs)\/
  ∃(o:Obj) (its:Array Value) (n:Nat),K.lookup a=some o/\o.cls=.type "tuple"/\o.data=.seq its n/\its.size<=sizeLine/\Vals xs its.toList
noncomputable def yG:Value->Option V
 |.none=>some .non
 |.bool b=>some (.bl b)
 |.int i _=>some (.int i)
 |.str x _=>some (.str x)
 |.bytes b _=>some (.byt b)
 |.float b _=>some (.flt b)
 |.ref a=>some (.ref a)
 |.type n=>some (.ty n)
 |_=>none
theorem RelV.abs (r:RelV x u):yG u=some x:=by
 cases x with
 |non=>cases r;rfl
 |bl _=>cases r;rfl
 |int _=>obtain⟨t,rfl⟩:=r;rfl
 |str _=>obtain⟨t,rfl⟩:=r;rfl
 |byt _=>obtain⟨t,rfl⟩:=r;rfl
 |flt _=>obtain⟨t,rfl⟩:=r;rfl
 |ref _=>cases r;rfl
 |ty _=>cases r;rfl
theorem RelV.inj (r:RelV x u)(q:RelV y u):x=y:=W3 (r.abs.symm.trans q.abs)
theorem Vals.inj:∀{xs ys:List V} {us:List Value},Vals xs us->Vals ys us->xs=ys
 |_,_,_,.nil,.nil=>rfl
 |_,_,_,.cons r t,.cons r' t'=>by rw[r.inj r',Vals.inj t t']
section
variable {X:Cx}{pins:Pnx}{σ:St}{H:Hp}{s:Shared}{a:Addr}{xs ys:List V}
theorem Inv.list (I:Inv X pins σ H s)(h:aY X.K H a xs):∃its:List Value,Vals xs its/\PlainL s.heap a its.toArray/\xs.length<=sizeLine:=by
 rcases h with h |⟨o,its,n,hk,hc,hd,hs,hz,r⟩
 ·obtain⟨z,its,n,r,e⟩:=h.ok I.hok;exact⟨its,r,⟨_,n,e,rfl,rfl,rfl⟩,z⟩
 ·refine⟨its.toList,r,⟨o,n,I.kIn a o hk,hc,hd,by simpa using hs⟩,?_⟩;have e:=r.length;simp only[XD]at e;omega
theorem Inv.tuple (I:Inv X pins σ H s)(h:dD X.K H a xs):∃its:List Value,Vals xs its/\IsTup s.heap a its.toArray/\xs.length<=sizeLine:=by
 rcases h with h |⟨o,its,n,hk,hc,hs,hz,r⟩
 ·obtain⟨z,its,r,p⟩:=h.ok I.hok;exact⟨its,r,p,z⟩
 ·refine⟨its.toList,r,⟨o,I.kIn a o hk,hc,n,by simpa using hs⟩,?_⟩;have e:=r.length;simp only[XD]at e;omega
theorem Inv.list_inj (I:Inv X pins σ H s)(h:aY X.K H a xs)(h':aY X.K H a ys):xs=ys:=by
 obtain⟨its,r,⟨o,n,e,_,_,d⟩,_⟩:=I.list h;obtain⟨its',r',⟨o',n',e',_,_,d'⟩,_⟩:=I.list h';rw[e]at e';cases e';rw[d]at d'
 injection d' with d1 _
 have:its=its':=by simpa using congrArg Array.toList d1
 subst this;exact r.inj r'
theorem Inv.tuple_inj (I:Inv X pins σ H s)(h:dD X.K H a xs)(h':dD X.K H a ys):xs=ys:=by
 obtain⟨its,r,⟨o,e,_,n,d⟩,_⟩:=I.tuple h;obtain⟨its',r',⟨o',e',_,n',d'⟩,_⟩:=I.tuple h';rw[e]at e';cases e';rw[d]at d'
 injection d' with d1 _
 have:its=its':=by simpa using congrArg Array.toList d1
 subst this;exact r.inj r'
end
abbrev Cx.wish (X:Cx)(E:Value->Shared->Prop):Cx:={X with xe:=E}
abbrev Cx.nox (X:Cx):Cx:=X.wish fun _ _=>False
theorem Cx.Ok.wish {X:Cx}(ok:X.Ok)(E:Value->Shared->Prop):(X.wish E).Ok:=
 ⟨ok.mod,ok.kind,ok.glob,ok.blt,ok.above,ok.inj,ok.has,ok.cab,ok.hd,ok.frames,ok.stk,ok.exf,ok.bs,ok.bsz,ok.noex,ok.exfs,ok.funs,ok.frf⟩
theorem Cx.Ok.unwish {X:Cx}{E:Value->Shared->Prop}(ok:(X.wish E).Ok):X.Ok:=
 ⟨ok.mod,ok.kind,ok.glob,ok.blt,ok.above,ok.inj,ok.has,ok.cab,ok.hd,ok.frames,ok.stk,ok.exf,ok.bs,ok.bsz,ok.noex,ok.exfs,ok.funs,ok.frf⟩
section
variable {X:Cx}{pins:Pnx}{σ:St}{H:Hp}{s:Shared}{E:Value->Shared->Prop}
theorem Inv.wish (I:Inv X pins σ H s)(E:Value->Shared->Prop):Inv (X.wish E) pins σ H s:=⟨I.ok.wish E,I.os,I.bare,I.base,I.loc,I.cell,I.free,I.freeC,I.pin,I.hok,I.len⟩
theorem Inv.unwish (I:Inv (X.wish E) pins σ H s):Inv X pins σ H s:=⟨I.ok.unwish,I.os,I.bare,I.base,I.loc,I.cell,I.free,I.freeC,I.pin,I.hok,I.len⟩
theorem SP.unwish (h:SP (X.wish E) pins D f s'):SP X pins D f s':=by
 cases f with
 |next=>obtain⟨σ',H',I,q⟩:=h;exact⟨σ',H',I.unwish,q⟩
 |brk=>obtain⟨σ',H',I,q⟩:=h;exact⟨σ',H',I.unwish,q⟩
 |cont=>obtain⟨σ',H',I,q⟩:=h;exact⟨σ',H',I.unwish,q⟩
 |ret u=>obtain⟨v,σ',H',I,r,q⟩:=h;exact⟨v,σ',H',I.unwish,r,q⟩
theorem eY.nox {st:List Stmt}{t:TS}(h:eY X.nox st t):eY X st t:=fun pins s σ H D I hw=>
 Xg (h pins s σ H D (I.wish _) hw) (fun _ _ q=>q.unwish) fun _ _ z=>False.elim z
end
section
variable {X:Cx}{st:Stmt}{rest:List Stmt}{t u:TS}{e:Expr}{te:TE}{pos:Pos}
def Um:TS:=fun D σ H=>D.nx σ H
def vp (t u:TS):TS:=fun D σ H=>t {D with nx:=u D} σ H
theorem Pb:eY X [] Um:=fun _ _ σ H _ I h=>wpAny_execs_nil ⟨σ,H,I,h⟩
theorem Pa (h1:PS X st t)(h2:eY X rest u):eY X (st::rest) (vp t u):=by
  intro pins s σ H D I h;refine Y8 (aR (h1 pins s σ H {D with nx:=u D} I h) fun f s1 q=>?_)
  cases f with
  |next=>
    obtain⟨σ',H',I',q⟩:=q;exact h2 pins s1 σ' H' D I' q
  |ret v=>exact q
  |brk=>exact q
  |cont=>exact q
theorem Inv.quiet (I:Inv X pins σ H s):interactive X.env=false:=by simp[interactive,I.ok.kind]
def Ul (te:TE):TS:=fun D σ H=>te σ H fun _ H1=>D.nx σ H1
theorem wQ (he:PE X e te)(hs:swapsWith e none pos.line X.env=pure false:=by rfl):PS X (.Expr e pos) (Ul te):=by
 intro pins s σ H D I h;exact wpAny_Expr_any (aR (he pins s σ H _ I h) fun v s1 ⟨x,H1,I1,r1,q1⟩=>⟨σ,H1,I1,q1⟩) I.quiet hs
def CV (te:TE):TS:=fun D σ H=>te σ H D.rt
theorem O9 (he:PE X e te):PS X (.Return (some e) pos) (CV te):=by
 intro pins s σ H D I h;exact wpAny_Return_some (aR (he pins s σ H _ I h) fun v s1 ⟨x,H1,I1,r1,q1⟩=>⟨x,σ,H1,I1,r1,q1⟩)
noncomputable def CN (c:TT) (t u:TS):TS:=fun D σ H=>c σ H fun b H1=>if b=true then t D σ H1 else u D σ H1
theorem O8 (hc:PT X c tc)(ha:eY X a t)(hb:eY X b u):PS X (.If c a b pos) (CN tc t u):=by
 intro pins s σ H D I h;refine wpAny_If (aR (hc pins s σ H _ I h) fun d s1 ⟨H1,I1,q1⟩=>?_)
 cases d with
 |true=>exact ha pins s1 σ H1 D I1 q1
 |false=>exact hb pins s1 σ H1 D I1 q1
end
abbrev TG:=V->St->Hp->(St->Hp->Prop)->Prop
abbrev rM:=List V->St->Hp->(St->Hp->Prop)->Prop
def PG (X:Cx)(target:Expr)(t:TG):Prop:=
 ∀(pins:Pnx) (s:Shared) (σ:St) (H:Hp) (v:V) (u:Value) (Q:St->Hp->Prop),Inv X pins σ H s->RelV v u->t v σ H Q->
  wpAny (model X.prog X.w) X.A (assign target X.env u) (fun _ s'=>∃σ' H',Inv X pins σ' H' s'/\Q σ' H') X.xe s
def rK (X:Cx)(ts:List Expr)(t:rM):Prop:=
 ∀(pins:Pnx) (s:Shared) (σ:St) (H:Hp) (vs:List V) (us:List Value) (Q:St->Hp->Prop),Inv X pins σ H s->Vals vs us->t vs σ H Q->
  wpAny (model X.prog X.w) X.A (assignInOrder ((assignEach ts X.env).map (·.2)) us) (fun _ s'=>∃σ' H',Inv X pins σ' H' s'/\Q σ' H') X.xe s
section
variable {X:Cx}{pos:Pos}
def zM (i:Nat):TG:=fun v σ H Q=>Q (σ.set i (some v)) H
theorem GZ (hN:X.N.Nodup)(hi:X.N[i]? =some x)(hx:Loc X.env.scope x)(hf:X.fn x=true\/X.env.scope.names.lookup x=some .local:=by first |exact .inl rfl |exact .inr rfl |assumption):PG X (.Name x pos) (zM i):=by
 intro pins s σ H v u Q I r h;exact ZV (vh I hN hi hx r (fun s' I'=>⟨_,H,I',h⟩) hf)
def zN:rM:=fun vs σ H Q=>vs=[]/\Q σ H
noncomputable def Kp (t:TG) (u:rM):rM:=fun vs σ H Q=>∃v r,vs=v::r/\t v σ H fun σ' H'=>u r σ' H' Q
theorem OD:rK X [] zN:=by
 intro pins s σ H vs us Q I r h;obtain⟨e,h⟩:=h;subst e;cases r;exact assignInOrder_nil ⟨σ,H,I,h⟩
theorem Oz (h1:PG X e t)(h2:rK X es u)
    (hs:(assignEach (e::es) X.env).map (·.2)=assign e X.env::(assignEach es X.env).map (·.2):=by rfl):rK X (e::es) (Kp t u):=by
  intro pins s σ H vs us Q I r h;obtain⟨v,vr,e1,h⟩:=h;subst e1
  cases r with
  |cons r rr=>
    rw[hs];refine assignInOrder_cons (aR (h1 pins s σ H _ _ _ I r h) fun _ s1 ⟨σ1,H1,I1,q1⟩=>?_);exact h2 pins s1 σ1 H1 _ _ Q I1 rr q1
noncomputable def zO (K:Fgx) (n:Nat) (t:rM):TG:=fun v σ H Q=>∃a xs,v=.ref a/\dD K H a xs/\xs.length=n/\t xs σ H Q
theorem Ox (hc:X.calm=true)(h:rK X es t)
  (hn:(assignEach es X.env).length=n:=by rfl) (hst:(assignEach es X.env).findIdx? (·.1)=none:=by rfl):PG X (.Tuple es k pos) (zO X.K n t):=by
 intro pins s σ H v u Q I r hw;obtain⟨a,xs,e1,hq,hl,hw⟩:=hw;subst e1;cases r;obtain⟨its,rv,ht,hz⟩:=I.tuple hq;refine assign_Tuple_tuple (I.ok.hd hc) ht (by simp[hn, <-hl,rv.length]) hst fun h' hx=>?_;have I1:Inv X pins σ H {s with heap:=h'}:=I.kept (t':=s.toks) fun b o e=>hx b o (WQ (Ws e)) e;exact h pins _ σ H xs _ Q I1 (by simpa using rv) hw
noncomputable def Cz (te:TE) (g:TG):TS:=fun D σ H=>te σ H fun x H1=>g x σ H1 D.nx
theorem G8 (hN:X.N.Nodup)(hi:X.N[i]? =some x)(hx:Loc X.env.scope x)(he:PE X e te)(hs:swapsWith e (some (.Name x pos')) pos.line X.env=pure false:=by rfl)(hf:X.fn x=true\/X.env.scope.names.lookup x=some .local:=by first |exact .inl rfl |exact .inr rfl |assumption):
  PS X (.Assign [.Name x pos'] e pos) (Cz te (zM i)):=by
 intro pins s σ H D I h;refine wpAny_Assign_Name (aR (he pins s σ H _ I h) fun v s1 ⟨y,H1,I1,r1,q1⟩=>?_) hs;exact vh I1 hN hi hx r1 (fun s2 I2=>⟨_,H1,I2,q1⟩) hf
end
structure It where
 go:Nat->Hp->Prop
 yld:Nat->Hp->V->Hp->Prop
 stop:Nat->Hp->Prop
def bY (X:Cx)(pins:Pnx)(H:Hp)(b:Addr):Prop:=
 H b=none/\b≠X.env.locals/\b∉X.fs/\(b∈X.ex\/X.s₀.heap.objs.size<=b)/\(∀x c,X.env.cells.lookup x=some c->c≠b)/\∀p∈X.pn ++ pins,p.1≠b
theorem Inv.fpOk (I:Inv X pins σ H s)(hb:s.heap.objs.size<=b)(hn:H' b=none):bY X pins H' b:=by
 refine⟨hn,YC (Wo I.lt hb),I.nofs hb,.inr (W5 I.sz hb),fun x c e z=>?_,fun p hp z=>?_⟩
 ·obtain⟨v,q⟩:=I.cell x c e;exact absurd (Wo q.lt (by rw[z];exact hb)) (Xm _)
 ·exact absurd (Wo (Ws (I.pin p hp).1) (by rw[z];exact hb)) (Xm _)
structure Turn (P:Program)(w:World)(K:Fgx)(tg:Expr)(J:It)(fp:List Addr)(it:Addr)(tn:Nat->Heap->Prop):Prop where
 mem:it∈fp
 obj:∀i h,tn i h->∀b∈fp,∃o,h.get? b=some o/\∀v,o.data≠ .cell v
 keep:∀i h h',tn i h->(∀b∈fp,∀o,h.get? b=some o->h'.get? b=some o)->tn i h'
 item:∀(X:Cx),X.prog=P->X.w=w->X.K=K->X.calm=true->∀(i:Nat) (pins:Pnx) (s:Shared) (σ:St) (H:Hp) (E:Value->Shared->Prop),Inv X pins σ H s->(∀b∈fp,bY X pins H b)->tn i s.heap->J.go i H->
  wpAny (model P w) X.A (pyNext (.ref it)) (fun r s1=>∃u,r=some u/\
   wpAny (model P w) X.A (letOwnedTupleGo tg (.ref it) u) (fun _ s2=>∃x H',Inv X pins σ H' s2/\RelV x u/\J.yld i H x H'/\tn (i + 1) s2.heap/\∀b∈fp,H' b=none) E s1) E s
 done:∀(X:Cx),X.prog=P->X.w=w->X.K=K->X.calm=true->∀(i:Nat) (pins:Pnx) (s:Shared) (σ:St) (H:Hp) (E:Value->Shared->Prop),Inv X pins σ H s->(∀b∈fp,bY X pins H b)->tn i s.heap->J.stop i H->
  wpAny (model P w) X.A (pyNext (.ref it)) (fun r s1=>r=none/\Inv X pins σ H s1) E s
 self:∀(A:Around) (i:Nat) (s:Shared) (Q:Value->Shared->Prop) (E:Value->Shared->Prop),tn i s.heap->Q (.ref it) s->wpAny (model P w) A (pyIter (.ref it)) Q E s
abbrev TI:=St->Hp->(It->Hp->Prop)->Prop
def PIE (X:Cx)(pins:Pnx)(σ:St)(tg:Expr)(R:It->Hp->Prop)(itv:Value)(s2:Shared):Prop:=
 ∃(it:Addr) (fp:List Addr) (tn:Nat->Heap->Prop) (J:It) (H':Hp),itv=.ref it/\Inv X pins σ H' s2/\Turn X.prog X.w X.K tg J fp it tn/\tn 0 s2.heap/\(∀b∈fp,bY X pins H' b)/\R J H'
def PI (X:Cx)(tg iter:Expr)(wi:TI):Prop:=
 ∀(pins:Pnx) (s:Shared) (σ:St) (H:Hp) (R:It->Hp->Prop),Inv X pins σ H s->wi σ H R->
  wpAny (model X.prog X.w) X.A (eval iter X.env) (fun v s1=>wpAny (model X.prog X.w) X.A (pyIter v) (PIE X pins σ tg R) X.xe s1) X.xe s
theorem sO {M:Model}{A:Around}{E:Value->Shared->Prop}{s:Shared}{tg:Expr}{it:Addr}{u:Value}{o:Obj}{n:String}{vs:Array Value}{Q:Unit->Shared->Prop}(ho:s.heap.get? it=some o)(hc:o.cls=.type n)(hd:o.data=.fields vs)
    (hn:["enumerate","zip","dict_itemiterator","dict_reverseitemiterator","odict_iterator","itertools.zip_longest","itertools.pairwise"].contains n=false) (hQ:Q () s):wpAny M A (letOwnedTupleGo tg (.ref it) u) Q E s:=by
  unfold letOwnedTupleGo;cases tg<;>first
    |exact Wt hQ
    | (cases u<;>first
        |exact Wt hQ
        | (refine Wn (wpAny_load ho ?_)
           rw[hc,hd];show wpAny M A (if (["enumerate","zip","dict_itemiterator","dict_reverseitemiterator","odict_iterator","itertools.zip_longest","itertools.pairwise"].contains n && vs[0]? ==some (rawInt _))=true then _ else _) Q E s
           rw[WY (by intro h;rw[hn,Bool.false_and]at h;cases h)];exact Wt hQ))
noncomputable def Dt (K:Fgx) (a:Addr):It:=
 ⟨fun i H=>∃xs x,aY K H a xs/\xs[i]? =some x,fun i H x H'=>H'=H/\∀xs,aY K H a xs->xs[i]? =some x,fun i H=>∃xs,aY K H a xs/\xs.length<=i⟩
noncomputable def vD (lo:Int) (n:Nat):It:=⟨fun i _=>i<n,fun i H x H'=>H'=H/\x=.int (lo + i),fun i _=>n<=i⟩
theorem UL {P:Program}{w:World}{K:Fgx}{tg:Expr}(a it:Addr):Turn P w K tg (Dt K a) [it] it (fun i h=>h.IsListIter it a i) where
 mem:=by simp
 obj:=fun i h st b hb=>by
  have e:b=it:=by simpa using hb
  subst e;obtain⟨o,e,c,d⟩:=st;exact⟨o,e,fun v z=>by rw[d]at z;cases z⟩
 keep:=fun i h h' st k=>st.at fun o e=>k it (by simp) o e
 item:=by
  intro X hP hw hK hc i pins s σ H E I hf st hg;subst hP hw hK;obtain⟨xs,x,hq,hx⟩:=hg;obtain⟨its,rv,p,hz⟩:=I.list hq;obtain⟨u,hu,ru⟩:=rv.get hx;obtain⟨f0,f1,f2,f3,f4,f5⟩:=hf it (by simp);refine wpAny_pyNext_list_item st p.isList (x:=u) (by simpa using hu) fun h' st' sb=>?_;have I1:Inv X pins σ H {s with heap:=h'}:=I.turned (t':=s.toks) (fun b o hb e=>(sb.2 b hb).trans e) f0 f1 f3 f4 f5;obtain⟨o,e,c,d⟩:=id st';exact⟨u,rfl,sO (s:={s with heap:=h'}) e c d (by decide) ⟨x,H,I1,ru,⟨rfl,fun ys hy=>by rw[I.list_inj hy hq];exact hx⟩,st',fun b hb=>(hf b hb).1⟩⟩
 done:=by
  intro X hP hw hK hc i pins s σ H E I hf st hg;subst hP hw hK;obtain⟨xs,hq,hx⟩:=hg;obtain⟨its,rv,p,hz⟩:=I.list hq;obtain⟨f0,f1,f2,f3,f4,f5⟩:=hf it (by simp);have hl:=rv.length;exact wpAny_pyNext_list_end (I.ok.hd hc) st p.isList (by simp;omega) fun h' eb=>⟨rfl,I.turned (t':=s.toks) (fun b o hb e=>eb b o hb e) f0 f1 f3 f4 f5⟩
 self:=fun _ _ _ _ _ st h=>wpAny_pyIter_listiter st h
theorem UW {P:Program}{w:World}{K:Fgx}{tg:Expr}(it:Addr)(lo:Int)(n:Nat):Turn P w K tg (vD lo n) [it] it (fun i h=>IsRangeIter h it (lo + (i:Nat) * 1) ((n:Int) - (i:Nat)) 1) where
 mem:=by simp
 obj:=fun i h st b hb=>by
  have e:b=it:=by simpa using hb
  subst e;exact ⟨_,st,fun v z=>by
   have z':Data.fields _=Data.cell v:=z;cases z'⟩
 keep:=fun i h h' st k=>k it (by simp) _ st
 item:=by
  intro X hP hw hK hc i pins s σ H E I hf st hg;subst hP hw hK;obtain⟨f0,f1,f2,f3,f4,f5⟩:=hf it (by simp);have W:=Walks.range (prog:=X.prog) (w:=X.w) (I.ok.hd hc) it lo 1 n;refine W.item i s _ _ hg st fun v h' tk hv st' kk=>?_;obtain⟨t,rfl⟩:=hv;have I1:Inv X pins σ H {s with heap:=h',toks:=tk}:=I.turned (fun b o hb e=>kk b o (by simpa using hb) e) f0 f1 f3 f4 f5;refine⟨_,rfl,sO (s:={s with heap:=h',toks:=tk}) (n:="range_iterator") st' rfl rfl (by decide) ⟨.int (lo + i),H,I1,⟨t,?_⟩,⟨rfl,rfl⟩,st',fun b hb=>(hf b hb).1⟩⟩;rw[Int.mul_one]
 done:=by
  intro X hP hw hK hc i pins s σ H E I hf st hg;subst hP hw hK;obtain⟨f0,f1,f2,f3,f4,f5⟩:=hf it (by simp);exact wpAny_pyNext_range_end (I.ok.hd hc) st (by have:n<=i:=hg;omega) fun h' eb=>⟨rfl,I.turned (t':=s.toks) (fun b o hb e=>eb b o hb e) f0 f1 f3 f4 f5⟩
 self:=fun _ _ _ _ _ st h=>wpAny_pyIter_rangeiter st h
section
variable {X:Cx}{tg:Expr}
noncomputable def FJ (K:Fgx) (tl:TE):TI:=fun σ H R=>tl σ H fun x H1=>∃a,x=.ref a/\(∃xs,aY K H1 a xs)/\R (Dt K a) H1
theorem G3 {l:Expr}{tl:TE}(hl:PE X l tl):PI X tg l (FJ X.K tl):=by
 intro pins s σ H R I h;refine aR (hl pins s σ H _ I h) fun v s1 ⟨x,H1,I1,r1,q1⟩=>?_;obtain⟨a,e,⟨xs,hq⟩,q⟩:=q1;subst e;cases r1;obtain⟨its,rv,p,hz⟩:=I1.list hq;refine ZW p.isList ?_;refine⟨s1.heap.objs.size,[s1.heap.objs.size],_,_,H1,rfl,I1.kept (t':=s1.toks) fun b o e=>tG _ e,UL a _,⟨_,WL _ rfl,rfl,rfl⟩,fun b hb=>?_,q⟩;have e:b=s1.heap.objs.size:=by simpa using hb
 subst e;exact I1.fpOk (Wq _) (I1.hok.fresh (Wq _))
theorem Sq {pins:Pnx}{σ:St}{H:Hp}{s:Shared}{R:It->Hp->Prop}{E:Value->Shared->Prop}{lo hi:Int}{t u v:Tok}{tk:Nat}(I:Inv X pins σ H s)(h1: -(2 ^ 62)<=lo)(h2:lo<2 ^ 62)(h3: -(2 ^ 62)<=hi)(h4:hi<2 ^ 62)
  (q:R (vD lo (hi - lo).toNat) H):wpAny (model X.prog X.w) X.A (pyIter (.ref s.heap.objs.size)) (PIE X pins σ tg R) E {s with heap:=s.heap.push {cls:=.type "range",data:=.fields #[.int lo t,.int hi u,.int 1 v]},toks:=tk}:=by
 refine wpAny_pyIter_range (IsRange.new ..) (small_one h1 h2 h3 h4) ?_;have I1 : Inv X pins σ H { s with heap := s.heap.push { cls := .type "range", data := .fields #[.int lo t, .int hi u, .int 1 v] }, toks := tk } := I.kept fun b o e => tG _ e;refine ⟨(s.heap.push {cls:=.type "range",data:=.fields #[.int lo t,.int hi u,.int 1 v]}).objs.size,[(s.heap.push {cls:=.type "range",data:=.fields #[.int lo t,.int hi u,.int 1 v]}).objs.size],_,_,H,rfl,
  I1.kept (t':=tk) fun b o e=>tG _ e,UW _ lo (hi - lo).toNat,?_,fun b hb=>?_,q⟩
 ·have e1:lo + ((0:Nat):Int) * 1=lo:=by simp
  have e2:(((hi - lo).toNat:Nat):Int) - ((0:Nat):Int)=Builtin.Range.rangeSize lo hi 1:=by rw[rangeSize_one];split<;>omega
  show IsRangeIter _ _ (lo + ((0:Nat):Int) * 1) ((((hi - lo).toNat:Nat):Int) - ((0:Nat):Int)) 1;rw[e1,e2];exact WL _ rfl
 ·have e:b=(s.heap.push {cls:=.type "range",data:=.fields #[.int lo t,.int hi u,.int 1 v]}).objs.size:=by simpa using hb
  subst e;exact I1.fpOk (Wq _) (I1.hok.fresh (Wq _))
noncomputable def lB (ta:TA):TI:=fun σ H R=>ta σ H fun vs H1=>∃j:Int,vs=[.int j]/\ -(2 ^ 62)<=j/\j<2 ^ 62/\R (vD 0 j.toNat) H1
theorem OJ {a:Expr}{ta:TA}{p pos:Pos}(hg:Gl X "range")(hm:X.mg "range"=none)(ha:PA X [a] ta)(hs:starEach [a] X.env=[(false,eval a X.env)]:=by rfl):PI X tg (.Call (.Name "range" p) [a] [] pos) (lB ta):=by
  intro pins s σ H R I h;refine Call_ (sW I hg hm boot_range (YG (aR (ha pos pins s σ H _ I h) fun us s1 ⟨vs,H1,I1,r1,q1⟩=>?_) hs rfl));obtain⟨j,e,q1,q2,q⟩:=q1;subst e
  cases r1 with
  |cons r rr=>
    cases rr;obtain⟨t,rfl⟩:=r;exact call_range_1 (Sq I1 (by omega) (by omega) q1 q2 (by simpa using q))
noncomputable def CK (wi:TI) (g:TG) (tb:TS):TS:=fun D σ H=>wi σ H fun J H1=>∃W:Nat->Nat->St->Hp->Prop,(∃m,W 0 m σ H1)/\∀i m σ H,W i m σ H->
 (J.stop i H/\D.nx σ H)\/(J.go i H/\∃N:St->Hp->Prop,(∀σ' H',N σ' H'->∃m',m'<m/\W (i + 1) m' σ' H')/\∀x H',J.yld i H x H'->g x σ H' fun σ2 H2=>tb {D with nx:=N,ct:=N,bk:=D.nx} σ2 H2)
noncomputable def tQ (fp:List Addr) (h:Heap):Pnx:=fp.filterMap fun b=>(h.get? b).map fun o=>(b,o)
theorem wG (hb:b∈fp)(e:h.get? b=some o):(b,o)∈tQ fp h:=xaG.mpr ⟨b,hb,by rw[e];rfl⟩
theorem Nq (hp:p∈tQ fp h):p.1∈fp/\h.get? p.1=some p.2:=by
  obtain⟨b,hb,e⟩:=xaG.mp hp
  cases q:h.get? b with
  |none=>rw[q]at e;cases e
  |some o=>
    rw[q]at e;have e':(b,o)=p:=W3 e;subst e';exact⟨hb,q⟩
theorem Inv.pinned (I:Inv X pins σ H s)(hf:∀b∈fp,bY X pins H b)(ho:∀b∈fp,∃o,s.heap.get? b=some o/\∀v,o.data≠ .cell v):Inv X (pins ++ tQ fp s.heap) σ H s:=
 I.pins_of fun p hp=>(Xd.mp hp).elim (fun z=>I.pin p (WT _ z)) fun z=>by
  obtain⟨hb,e⟩:=Nq z;obtain⟨f0,f1,f2,_⟩:=hf p.1 hb;obtain⟨o,e',d⟩:=ho p.1 hb;rw[e]at e';cases e';exact⟨e,f0,f1,f2,d⟩
theorem Inv.unpinned (I:Inv X (pins ++ pl) σ H s):Inv X pins σ H s:=I.pins_of fun p hp=>I.pin p (WT _ (xas _ hp))
theorem G7 (hp:PassesOwn (model X.prog X.w) X.A X.env X.xe)(hc:X.calm=true)(hi:PI X tg iter wi)(hg:PG X tg g)(hb:eY X body tb)
  (hs:∀x,foldedSetIterable iter X.env x=pure x:=by intro _;rfl):PS X (.For tg iter body [] pos) (CK wi g tb):=by
 intro pins s σ H D I h;refine wpAny_For (aR (hi pins s σ H _ I h) fun v s1 h1=>aR h1 fun itv s2 h2=>?_) hs;obtain⟨it,fp,tn,J,H2,e,I2,T,st2,f2,W,⟨m0,w0⟩,turn⟩:=h2;subst e
 -- what stays true of the iterator's objects through the loop
 have stat:∀{H':Hp},(∀b∈fp,H' b=none)->∀b∈fp,bY X pins H' b:=fun hn b hb=>⟨hn b hb,(f2 b hb).2⟩;refine codeAny_forLoop_any (fun n s'=>∃i σ' H',Inv X pins σ' H' s'/\tn i s'.heap/\(∀b∈fp,H' b=none)/\W i n σ' H') ?_ m0 ⟨0,σ,H2,I2,st2,fun b hb=>(f2 b hb).1,w0⟩;rintro n s3 ⟨i,σ3,H3,I3,st3,fr3,w3⟩;rcases turn i n σ3 H3 w3 with⟨stop,qn⟩ |⟨go,N,hN,step⟩
 ·refine YS hp (aR (T.done X rfl rfl rfl hc i pins s3 σ3 H3 X.xe I3 (stat fr3) st3 stop) fun r s4 ⟨hr,I4⟩=>?_);subst hr;exact wpAny_execs_nil ⟨σ3,H3,I4,qn⟩
 ·refine YS hp (aR (T.item X rfl rfl rfl hc i pins s3 σ3 H3 X.xe I3 (stat fr3) st3 go) fun r s4 ⟨u,hr,h4⟩=>?_);subst hr;refine YS hp (aR h4 fun _ s5 ⟨x,H5,I5,r5,y5,st5,fr5⟩=>?_);have I5':=I5.pinned (stat fr5) (T.obj _ _ st5);refine YS hp (aR (hg _ s5 σ3 H5 x u _ I5' r5 (step x H5 y5)) fun _ s6 ⟨σ6,H6,I6,q6⟩=>?_);refine YS hp (aR (hb _ s6 σ6 H6 _ I6 q6) fun f s7 q7=>?_);have again:∀{σ7:St} {H7:Hp},Inv X (pins ++ tQ fp s5.heap) σ7 H7 s7->N σ7 H7->∃m,m<n/\∃i σ' H',Inv X pins σ' H' s7/\tn i s7.heap/\(∀b∈fp,H' b=none)/\W i m σ' H':=fun {σ7 H7} I7 n7=>by
   obtain⟨m',hm,w7⟩:=hN σ7 H7 n7;refine⟨m',hm,i + 1,σ7,H7,I7.unpinned,T.keep _ _ _ st5 fun b hb o e=>(I7.pin (b,o) (WT _ (WT _ (wG hb e)))).1,fun b hb=>?_,w7⟩;obtain⟨o,e,d⟩:=T.obj _ _ st5 b hb;exact(I7.pin (b,o) (WT _ (WT _ (wG hb e)))).2.1
  cases f with
  |next=>obtain⟨σ7,H7,I7,n7⟩:=q7;exact again I7 n7
  |cont=>obtain⟨σ7,H7,I7,n7⟩:=q7;exact again I7 n7
  |brk=>obtain⟨σ7,H7,I7,q7⟩:=q7;exact⟨σ7,H7,I7.unpinned,q7⟩
  |ret v=>obtain⟨x7,σ7,H7,I7,r7,q7⟩:=q7;exact⟨x7,σ7,H7,I7.unpinned,r7,q7⟩
end
abbrev R2:=V->V->Hp->VK->Prop
def bw (X:Cx)(f:Value->Value->Sem Value)(r:R2):Prop:=
 ∀(pins:Pnx) (s:Shared) (σ:St) (H:Hp) (x y:V) (v u:Value) (Q:VK),Inv X pins σ H s->RelV x v->RelV y u->r x y H Q->
  wpAny (model X.prog X.w) X.A (f v u) (EP X pins σ Q) X.xe s
def cY (X:Cx)(f:Value)(r:List V->Hp->VK->Prop):Prop:=
 ∀(pins:Pnx) (s:Shared) (σ:St) (H:Hp) (xs:List V) (us:List Value) (Q:VK),Inv X pins σ H s->Vals xs us->r xs H Q->
  wpAny (model X.prog X.w) X.A (call f us) (EP X pins σ Q) X.xe s
def yF (X:Cx)(r:V->Hp->(Bool->Hp->Prop)->Prop):Prop:=
 ∀(pins:Pnx) (s:Shared) (σ:St) (H:Hp) (x:V) (v:Value) (Q:Bool->Hp->Prop),Inv X pins σ H s->RelV x v->r x H Q->
  wpAny (model X.prog X.w) X.A (truthy v) (TP X pins σ Q) X.xe s
noncomputable def vo (r:R2) (ta tb:TE):TE:=fun σ H Q=>ta σ H fun x H1=>tb σ H1 fun y H2=>r x y H2 Q
noncomputable def rI (C:Int->Int->Prop) (g:Int->Int->V):R2:=fun x y H Q=>∃i j,x=.int i/\y=.int j/\C i j/\Q (g i j) H
noncomputable def fB (g:Int->Int->V):R2:=fun x y H Q=>∃i j,x=.int i/\y=.int j/\Q (g i j) H
section
variable {X:Cx}{a b c:Expr}{ta tb tc:TE}{pos:Pos}
theorem m6 (ha:PE X a ta)(hb:PE X b tb){pins:Pnx}{s:Shared}{σ:St}{H:Hp}{R:V->V->Hp->Prop}(I:Inv X pins σ H s)
  (h:ta σ H fun x H1=>tb σ H1 fun y H2=>R x y H2) {Q:Value->Shared->Prop} {f:Value->Value->Sem Value}
  (hf:∀v u s2 x y H2,Inv X pins σ H2 s2->RelV x v->RelV y u->R x y H2->wpAny (model X.prog X.w) X.A (f v u) Q X.xe s2):
  wpAny (model X.prog X.w) X.A (eval a X.env) (fun v s₁=>wpAny (model X.prog X.w) X.A (eval b X.env) (fun u s₂=>wpAny (model X.prog X.w) X.A (f v u) Q X.xe s₂) X.xe s₁) X.xe s:=by
 refine aR (ha pins s σ H _ I h) fun v s1 ⟨x,H1,I1,r1,q1⟩=>?_;refine aR (hb pins s1 σ H1 _ I1 q1) fun u s2 ⟨y,H2,I2,r2,q2⟩=>?_;exact hf v u s2 x y H2 I2 r1 r2 q2
theorem GX {op:Operator}{r:R2}(ho:bw X (binaryOp op) r)(ha:PE X a ta)(hb:PE X b tb):PE X (.BinOp a op b pos) (vo r ta tb):=by
 intro pins s σ H Q I h;exact wpAny_BinOp (m6 ha hb I h fun v u s2 x y H2 I2 rx ry q=>ho pins s2 σ H2 x y v u Q I2 rx ry q)
theorem wN {f:Value->Value->Sem Value}{C:Int->Int->Prop}{g:Int->Int->Int}
  (rule:∀(i j:Int) (t u:Tok) (s:Shared) (Q:Value->Shared->Prop) (E:Value->Shared->Prop),C i j->Q (.int (g i j) s.toks) {s with toks:=s.toks + 1}->wpAny (model X.prog X.w) X.A (f (.int i t) (.int j u)) Q E s):
  bw X f (rI C fun i j=>.int (g i j)):=by
 intro pins s σ H x y v u Q I rx ry h;obtain⟨i,j,rfl,rfl,hc,q⟩:=h;obtain⟨t,rfl⟩:=rx;obtain⟨t',rfl⟩:=ry;exact rule i j t t' s _ _ hc ⟨.int (g i j),H,I.tok _,⟨_,rfl⟩,q⟩
theorem tK {f:Value->Value->Sem Value}{g:Int->Int->Int}
  (rule:∀(i j:Int) (t u:Tok) (s:Shared) (Q:Value->Shared->Prop) (E:Value->Shared->Prop),Q (.int (g i j) s.toks) {s with toks:=s.toks + 1}->wpAny (model X.prog X.w) X.A (f (.int i t) (.int j u)) Q E s):
  bw X f (fB fun i j=>.int (g i j)):=by
 intro pins s σ H x y v u Q I rx ry h;obtain⟨i,j,rfl,rfl,q⟩:=h;obtain⟨t,rfl⟩:=rx;obtain⟨t',rfl⟩:=ry;exact rule i j t t' s _ _ ⟨.int (g i j),H,I.tok _,⟨_,rfl⟩,q⟩
theorem lH {f:Value->Value->Sem Value}{g:Int->Int->Bool}
  (rule:∀(i j:Int) (t u:Tok) (s:Shared) (Q:Value->Shared->Prop) (E:Value->Shared->Prop),Q (.bool (g i j)) s->wpAny (model X.prog X.w) X.A (f (.int i t) (.int j u)) Q E s):
  bw X f (fB fun i j=>.bl (g i j)):=by
 intro pins s σ H x y v u Q I rx ry h;obtain⟨i,j,rfl,rfl,q⟩:=h;obtain⟨t,rfl⟩:=rx;obtain⟨t',rfl⟩:=ry;exact rule i j t t' s _ _ ⟨.bl (g i j),H,I,rfl,q⟩
def rF (i j:Int):Prop:=0<j/\j<1073741824
def mV (i j:Int):Prop:=0<=j/\j<=1000000/\i.natAbs<2 ^ 64
def kJ (i j:Int):Prop:=(-(2 ^ 64)<i/\i<2 ^ 64)\/(-(2 ^ 64)<j/\j<2 ^ 64)
theorem kJ.ok (h:kJ i j):IntMulOk i j:=by
 rcases h with⟨h1,h2⟩ |⟨h1,h2⟩
 ·exact .of_left (intBits_le_64 h1 h2)
 ·exact .of_right (intBits_le_64 h1 h2)
theorem Nr:bw X (binaryOp .Add) (fB fun i j=>.int (i + j)):=tK fun _ _ _ _ _ _ _ q=>add_int q
theorem GK:bw X (binaryOp .Sub) (fB fun i j=>.int (i - j)):=tK fun _ _ _ _ _ _ _ q=>sub_int q
theorem gn:bw X (binaryOp .FloorDiv) (rI rF fun i j=>.int (i / j)):=wN fun i j _ _ _ _ _ hc q=>by
 have h1:(0:Int)<j:=hc.1;have h2:j<1073741824:=hc.2;exact floordiv_int (by omega) (by rw[Int.fdiv_eq_ediv_of_nonneg i (by omega)];exact q) (.inl (PyProof.noPylong_small (by omega)))
theorem cL:bw X (binaryOp .Mod) (rI (fun _ j=>0<j) fun i j=>.int (i % j)):=wN fun i j _ _ _ _ _ hc q=>by
 have h1:(0:Int)<j:=hc;exact mod_int' (by omega) (by rw[Int.fmod_eq_emod_of_nonneg i (by omega)];exact q)
theorem pQ:bw X (binaryOp .Pow) (rI mV fun i j=>.int (i ^ j.toNat)):=wN fun _ _ _ _ _ _ _ hc q=>pow_int_small hc.1 hc.2.1 hc.2.2 q
end
noncomputable def lO:V->V->Bool
 |.non,.non=>true |.non,.int _=>true |.int _,.non=>true |.non,.bl _=>true |.bl _,.non=>true |.non,.str _=>true |.str _,.non=>true
 |.int _,.int _=>true |.bl _,.bl _=>true |.str _,.str _=>true |.byt _,.byt _=>true
 |.int _,.str _=>true |.str _,.int _=>true |.bl _,.str _=>true |.str _,.bl _=>true
 |_,_=>false
def QJ:R2:=fun x y H Q=>lO x y=true/\Q (.bl (decide (x=y))) H
def QL:R2:=fun x y H Q=>lO x y=true/\Q (.bl (!decide (x=y))) H
theorem Ey:decide (V.int i=V.int j)=(i==j):=by
 rw[Xx]
 simp
theorem vY:decide (V.bl i=V.bl j)=(i==j):=by
 rw[Xx]
 simp
theorem Ez:decide (V.str i=V.str j)=(i==j):=by
 rw[Xx]
 simp
theorem Ew:decide (V.byt i=V.byt j)=(i.toList==j.toList):=by
 rw[Xx];cases i;cases j
 simp
section
variable {X:Cx}{a b c:Expr}{ta tb tc:TE}{pos:Pos}
theorem aX (I:Inv X pins σ H s)(q:Q (.bl k) H)(e:k=k'):EP X pins σ Q (.bool k') s:=by
 subst e;exact⟨.bl k,H,I,rfl,q⟩
theorem Nu:bw X (compareOp .Eq) QJ:=by
  intro pins s σ H x y v u Q I rx ry h;obtain⟨hs,q⟩:=h
  cases x with
  |non=>
    cases rx
    cases y with
    |non=>cases ry;exact PySem.EqNone.eq_none_none (aX I q (by simp))
    |bl j=>cases ry;exact PySem.EqNone.eq_none_bool (aX I q (by simp))
    |int j=>obtain⟨t',rfl⟩:=ry;exact PySem.EqNone.eq_none_int (aX I q (by simp))
    |str j=>obtain⟨t',rfl⟩:=ry;exact PySem.EqNone.eq_none_str (aX I q (by simp))
    |_=>exact absurd (show false=true from hs) WM
  |bl i=>
    cases rx
    cases y with
    |non=>cases ry;exact PySem.EqNone.eq_bool_none (aX I q (by simp))
    |bl j=>cases ry;exact eq_bool (aX I q vY)
    |str j=>obtain⟨t',rfl⟩:=ry;exact PySem.EqMixed.eq_bool_str (aX I q (by simp))
    |_=>exact absurd (show false=true from hs) WM
  |int i=>
    obtain⟨t,rfl⟩:=rx
    cases y with
    |non=>cases ry;exact PySem.EqNone.eq_int_none (aX I q (by simp))
    |int j=>obtain⟨t',rfl⟩:=ry;exact eq_int (aX I q Ey)
    |str j=>obtain⟨t',rfl⟩:=ry;exact PySem.EqMixed.eq_int_str (aX I q (by simp))
    |_=>exact absurd (show false=true from hs) WM
  |str i=>
    obtain⟨t,rfl⟩:=rx
    cases y with
    |non=>cases ry;exact PySem.EqNone.eq_str_none (aX I q (by simp))
    |bl j=>cases ry;exact PySem.EqMixed.eq_str_bool (aX I q (by simp))
    |int j=>obtain⟨t',rfl⟩:=ry;exact PySem.EqMixed.eq_str_int (aX I q (by simp))
    |str j=>obtain⟨t',rfl⟩:=ry;exact eq_str (aX I q Ez)
    |_=>exact absurd (show false=true from hs) WM
  |byt i=>
    obtain⟨t,rfl⟩:=rx
    cases y with
    |byt j=>obtain⟨t',rfl⟩:=ry;exact PySem.W.eq_bytes (aX I q Ew)
    |_=>exact absurd (show false=true from hs) WM
  |_=>cases y<;>exact absurd (show false=true from hs) WM
theorem N7:bw X (compareOp .NotEq) QL:=by
  intro pins s σ H x y v u Q I rx ry h;obtain⟨hs,q⟩:=h
  cases x with
  |non=>
    cases rx
    cases y with
    |non=>cases ry;exact PySem.EqNone.ne_none_none (aX I q (by simp))
    |bl j=>cases ry;exact PySem.EqNone.ne_none_bool (aX I q (by simp))
    |int j=>obtain⟨t',rfl⟩:=ry;exact PySem.EqNone.ne_none_int (aX I q (by simp))
    |str j=>obtain⟨t',rfl⟩:=ry;exact PySem.EqNone.ne_none_str (aX I q (by simp))
    |_=>exact absurd (show false=true from hs) WM
  |bl i=>
    cases rx
    cases y with
    |non=>cases ry;exact PySem.EqNone.ne_bool_none (aX I q (by simp))
    |bl j=>cases ry;exact ne_bool (aX I q (congrArg not vY))
    |str j=>obtain⟨t',rfl⟩:=ry;exact PySem.EqMixed.ne_bool_str (aX I q (by simp))
    |_=>exact absurd (show false=true from hs) WM
  |int i=>
    obtain⟨t,rfl⟩:=rx
    cases y with
    |non=>cases ry;exact PySem.EqNone.ne_int_none (aX I q (by simp))
    |int j=>obtain⟨t',rfl⟩:=ry;exact ne_int (aX I q (congrArg not Ey))
    |str j=>obtain⟨t',rfl⟩:=ry;exact PySem.EqMixed.ne_int_str (aX I q (by simp))
    |_=>exact absurd (show false=true from hs) WM
  |str i=>
    obtain⟨t,rfl⟩:=rx
    cases y with
    |non=>cases ry;exact PySem.EqNone.ne_str_none (aX I q (by simp))
    |bl j=>cases ry;exact PySem.EqMixed.ne_str_bool (aX I q (by simp))
    |int j=>obtain⟨t',rfl⟩:=ry;exact PySem.EqMixed.ne_str_int (aX I q (by simp))
    |str j=>obtain⟨t',rfl⟩:=ry;exact ne_str (aX I q (congrArg not Ez))
    |_=>exact absurd (show false=true from hs) WM
  |byt i=>
    obtain⟨t,rfl⟩:=rx
    cases y with
    |byt j=>obtain⟨t',rfl⟩:=ry;exact PySem.W.ne_bytes (aX I q (congrArg not Ew))
    |_=>exact absurd (show false=true from hs) WM
  |_=>cases y<;>exact absurd (show false=true from hs) WM
theorem N6:bw X (compareOp .Lt) (fB fun i j=>.bl (decide (i<j))):=lH fun _ _ _ _ _ _ _ q=>lt_int q
theorem N5:bw X (compareOp .LtE) (fB fun i j=>.bl (decide (i<=j))):=lH fun _ _ _ _ _ _ _ q=>le_int q
theorem Ny:bw X (compareOp .Gt) (fB fun i j=>.bl (decide (j<i))):=lH fun _ _ _ _ _ _ _ q=>gt_int q
theorem Nx:bw X (compareOp .GtE) (fB fun i j=>.bl (decide (j<=i))):=lH fun _ _ _ _ _ _ _ q=>ge_int q
theorem NK:bw X (compareOp .In) (fun x y H Q=>∃i j,x=.str i/\y=.str j/\Q (.bl (!(Builtin.Str.occurrences j i 0 j.length 1).isEmpty)) H):=by
 intro pins s σ H x y v u Q I rx ry h;obtain⟨i,j,rfl,rfl,q⟩:=h;obtain⟨t,rfl⟩:=rx;obtain⟨t',rfl⟩:=ry;exact in_str (aX I q rfl)
theorem NT:bw X (compareOp .Is) (fun x y H Q=>y=.non/\Q (.bl (decide (x=.non))) H):=by
 intro pins s σ H x y v u Q I rx ry h;obtain⟨rfl,q⟩:=h;cases ry;refine is_none_gen (aX I q ?_);cases x<;>first
  |(cases rx;rfl)
  |(obtain⟨t,rfl⟩:=rx;rfl)
theorem Oa:bw X (compareOp .IsNot) (fun x y H Q=>y=.non/\Q (.bl (!decide (x=.non))) H):=by
 intro pins s σ H x y v u Q I rx ry h;obtain⟨rfl,q⟩:=h;cases ry;refine isnot_none_gen (aX I q ?_);cases x<;>first
  |(cases rx;rfl)
  |(obtain⟨t,rfl⟩:=rx;rfl)
theorem Ob:bw X (compareOp .NotIn) (fun x y H Q=>∃i j,x=.str i/\y=.str j/\Q (.bl (!(!(Builtin.Str.occurrences j i 0 j.length 1).isEmpty))) H):=by
 intro pins s σ H x y v u Q I rx ry h;obtain⟨i,j,rfl,rfl,q⟩:=h;obtain⟨t,rfl⟩:=rx;obtain⟨t',rfl⟩:=ry;exact notIn_str (aX I q rfl)
theorem bw.or (h:bw X f r)(h':bw X f r'):bw X f (fun x y H Q=>r x y H Q\/r' x y H Q):=by
 intro pins s σ H x y v u Q I rx ry q;rcases q with q |q
 ·exact h pins s σ H x y v u Q I rx ry q
 ·exact h' pins s σ H x y v u Q I rx ry q
theorem Oj {op:CmpOp}{r:R2}(ho:bw X (compareOp op) r)(ha:PE X a ta)(hb:PE X b tb)(hm:behindInMarks op b=false):PE X (.Compare a [op] [b] pos) (vo r ta tb):=by
 intro pins s σ H Q I h;exact wpAny_Compare1 (m6 ha hb I h fun v u s2 x y H2 I2 rx ry q=>ho pins s2 σ H2 x y v u Q I2 rx ry q) hm
noncomputable def IW (t:TE):TT:=fun σ H Q=>t σ H fun x H'=>∃k,x=.bl k/\Q k H'
theorem Pg (ho:bw X (compareOp op) r)(ha:PE X a ta)(hb:PE X b tb)(hm:behindInMarks op b=false):PT X (.Compare a [op] [b] pos) (IW (vo r ta tb)):=by
 intro pins s σ H Q I h;refine wpAny_isTrue_Compare1 (aR (ha pins s σ H _ I h) fun v s1 ⟨x,H1,I1,r1,q1⟩=>aR (hb pins s1 σ H1 _ I1 q1) fun u s2 ⟨y,H2,I2,r2,q2⟩=>
  aR (ho pins s2 σ H2 x y v u _ I2 r1 r2 q2) fun c s3 ⟨z,H3,I3,r3,k,e,q3⟩=>?_) hm
 subst e;cases r3;exact ZS ⟨H3,I3,q3⟩
def mZ (K:Fgx)(x:V)(H:Hp)(k:Bool):Prop:=
 match x with
 |.non=>k=false
 |.bl b=>k=b
 |.int i=>k=(i !=0)
 |.str y=>y.length<=sizeLine/\k=((y.length:Int) !=0)
 |.byt y=>y.size<=sizeLine/\k=((y.size:Int) !=0)
 |.ref p=>(∃xs,aY K H p xs/\k= !xs.isEmpty)\/(∃xs,dD K H p xs/\k= !xs.isEmpty)\/∃kvs,H p=some (.dK kvs)/\k= !kvs.isEmpty
 |_=>False
theorem KH (r:KV kvs vs):(!vs.isEmpty)= !kvs.isEmpty:=by
 cases r<;>rfl
theorem FT (r:Vals xs its):(!its.toArray.isEmpty)= !xs.isEmpty:=by
 cases r<;>simp
theorem pN:(sizeLine:Nat)<2 ^ 63:=by rw[Xv];decide
theorem UG:yF X (fun x H Q=>∃k,mZ X.K x H k/\Q k H):=by
  intro pins s σ H x v Q I rx h;obtain⟨k,e,q⟩:=h;have hl:=pN;have hs:sizeLine=16777216:=Xv
  cases x with
  |non=>
    cases rx;have e':k=false:=e;subst e';exact truthy_none ⟨H,I,q⟩
  |bl b=>
    cases rx;have e':k=b:=e;subst e';exact ZS ⟨H,I,q⟩
  |int i=>
    obtain⟨t,rfl⟩:=rx;have e':k=(i !=0):=e;subst e';exact PySem.P.truthy_int ⟨H,I,q⟩
  |str y=>
    obtain⟨t,rfl⟩:=rx;obtain⟨hy,e'⟩:y.length<=sizeLine/\k=((y.length:Int) !=0):=e;subst e';exact PySem.P.truthy_str (by omega) ⟨H,I.tok _,q⟩
  |byt y=>
    obtain⟨t,rfl⟩:=rx;obtain⟨hy,e'⟩:y.size<=sizeLine/\k=((y.size:Int) !=0):=e;subst e';exact PySem.W.truthy_bytes (by omega) ⟨H,I.tok _,q⟩
  |ref p=>
    cases rx;have e':(∃xs,aY X.K H p xs/\k= !xs.isEmpty)\/(∃xs,dD X.K H p xs/\k= !xs.isEmpty)\/∃kvs,H p=some (.dK kvs)/\k= !kvs.isEmpty:=e;rcases e' with⟨xs,hx,e'⟩ |⟨xs,hx,e'⟩ |⟨kvs,hx,e'⟩
    · subst e';obtain⟨its,r,pl,hz⟩:=I.list hx;have hlen:=r.length;exact wpAny_truthy_list pl.isList (by simp only[Wr];omega) ⟨H,I.tok _,by rw[FT r];exact q⟩
    · subst e';obtain⟨its,r,pl,hz⟩:=I.tuple hx;have hlen:=r.length;exact truthy_tuple pl (by simp only[Wr];omega) ⟨H,I.tok _,by rw[FT r];exact q⟩
    · subst e';obtain⟨hz,hS,vs,r,m⟩:kvs.length<=sizeLine/\(p==sysModules)=false/\∃vs,KV kvs vs/\s.heap.DictOf (z_ X.prog X.w) p vs:=I.hok p _ hx;have hlen:kvs.length=vs.length:=Paired.length r;exact wpAny_truthy_dict hS m (by omega) ⟨H,I.tok _,by rw[KH r];exact q⟩
  |_=>exact(show False from e).elim
theorem Pj (ha:PE X a ta)(he:∀whole,isTrue a X.env whole=(do let v <-whole;standAt a.pos;holding [v] (truthy v))):
  PT X a (fun σ H Q=>ta σ H fun x H'=>∃k,mZ X.K x H' k/\Q k H'):=by
 intro pins s σ H Q I h;exact isTrue_plain (aR (ha pins s σ H _ I h) fun v s1 ⟨x,H1,I1,r1,q1⟩=>UG pins s1 σ H1 x v Q I1 r1 q1) (he _)
theorem Nt:bw X (binaryOp .Add) (fun x y H Q=>∃i j,x=.str i/\y=.str j/\i.length + j.length<=sizeLine/\Q (.str (i ++ j)) H):=by
 intro pins s σ H x y v u Q I rx ry h;obtain⟨i,j,rfl,rfl,hz,q⟩:=h;obtain⟨t,rfl⟩:=rx;obtain⟨t',rfl⟩:=ry;exact add_str (fun t' tk=>⟨.str (i ++ j),H,I.tok _,⟨_,rfl⟩,q⟩) hz
theorem vals1 (r:Vals [x] us):∃u,us=[u]/\RelV x u:=by
 cases r with
 |cons r1 r2=>cases r2;exact⟨_,rfl,r1⟩
theorem vals2 (r:Vals [x,y] us):∃u w',us=[u,w']/\RelV x u/\RelV y w':=by
  cases r with
  |cons r1 r2=>
    cases r2 with
    |cons r3 r4=>cases r4;exact⟨_,_,rfl,r1,r3⟩
theorem vR:cY X (.type "str") (fun xs H Q=>∃i,xs=[.int i]/\i.natAbs.log2<1920/\Q (.str (toString i)) H):=by
 intro pins s σ H xs us Q I r h;obtain⟨i,rfl,hz,q⟩:=h;obtain⟨u,rfl,t,rfl⟩:=vals1 r;exact PySem.P.str_of_int hz ⟨.str _,H,I.tok _,⟨_,rfl⟩,q⟩
end
structure ObjM (h:Heap)(x dx C:Addr)(mA:Mgx):Prop where
 obj:h.get? x=some (PySem.W.instObj C dx)
 ns:h.Ns1 dx mA
 ne:dx≠x
theorem Lk {h:Heap}{dx:Addr}{mA:Mgx}(n:h.Ns1 dx mA):∃od,h.get? dx=some od/\∀name,PySem.W.lookIn name od=some (mA name):=by
 obtain⟨o,es,ep,ho,hd,hk,_,hm⟩:=n;refine⟨o,ho,fun name=>?_⟩;have e:=hm name;unfold nsFind findBy at e;rw[<-Array.find?_toList]at e;unfold PySem.W.lookIn;rw[hd];dsimp only
 split
 ·rename_i y q;rw[q]at e;exact congrArg some e
 ·rename_i q;rw[q]at e;have a:es.toList.any (·.refKey)=false:=by
   rw[List.any_eq_false];intro y hy;obtain⟨z,t,hkey⟩:=hk y (xat.mp hy)
   simp[DictEntry.refKey,hkey]
  have a':¬ es.toList.any (·.refKey)=true:=by rw[a];exact WM
  rw[WY a'];exact congrArg some e
theorem ObjM.look (I:ObjM h x dx C mA):∃od,PySem.W.InstAt h x (PySem.W.instObj C dx) C (some od)/\∀name,PySem.W.lookIn name od=some (mA name):=
 let ⟨od,ho,hl⟩:=Lk I.ns
 ⟨od,⟨I.obj,rfl,rfl,ho⟩,hl⟩
section
variable {P:Program}{w:World}{H H':Hp}{h h':Heap}{a C dx:Addr}{fs fs':List (Str×V)}
theorem Ky (hok:bL P w H h)(e:H a=some (.ins C dx fs)):∃mA,ObjM h a dx C mA/\(∀f,mX (fs.lookup f) (mA f))/\PySem.Within mA (fs.map (·.1))/\fs.length<=1000/\H dx=some (.own a):=by
 obtain⟨d,z,ne,ob,mA,n,r,q⟩:=(show cI P w H h a (.ins C dx fs) from hok a _ e);exact⟨mA,⟨ob,n,ne⟩,r,q,z,d⟩
end
structure Cls (K:Fgx)(C:Addr):Prop where
 pg:PySem.W.plainGet K C Str.empty=true
 hd:PySem.W.hasDictIn K C=true
 po:PySem.W.plainOver K C=true
 sa:PySem.W.findIn K (.ref C) "__setattr__"=some (some (.builtin "object.__setattr__"))
theorem Cls.get {K:Fgx}{C:Addr}(c:Cls K C)(f:Str):PySem.W.plainGet K C f=true:=c.pg
structure Con (K:Fgx)(C:Addr)(f:Str)(v:V)(u:Value):Prop where
 at_:PySem.W.findIn K (.ref C) f=some (some u)
 rel:RelV v u
 get:PySem.W.specialIn K u "__get__"=some none
 cp:PySem.W.copiedNames.contains f=false
structure Meth (K:Fgx)(C:Addr)(m:Str)(f:Addr):Prop where
 at_:PySem.W.findIn K (.ref C) m=some (some (.ref f))
 fn:PySem.W.isFn K (.ref f)=true
 kp:PySem.W.keepIn K (.ref f)=true
section
variable {X:Cx}{o e value:Expr}{f:Str}{pos pos' tpos:Pos}{ta tv:TE}
noncomputable def nu:V->V->Hp->VK->Prop:=fun x y H Q=>∃i j,x=.int i/\y=.int j/\Q (.int (i + j)) H
end
section
variable {X:Cx}{pins:Pnx}{σ:St}{H:Hp}{s:Shared}{A:Around}{E:Value->Shared->Prop}{Q:Value->Shared->Prop}{c:Value}{b:Bool}
inductive TyOf (K:Fgx)(H:Hp):V->Value->Prop where
 |non:TyOf K H .non (.type "NoneType")
 |bl (x:Bool):TyOf K H (.bl x) (.type "bool")
 |int (i:Int):TyOf K H (.int i) (.type "int")
 |str (x:Str):TyOf K H (.str x) (.type "str")
 |flt (x:UInt64):TyOf K H (.flt x) (.type "float")
 |lst {a:Addr} {xs:List V} (e:H a=some (.lst xs)):TyOf K H (.ref a) (.type "list")
 |frz {a:Addr} {o:Obj} {xs:List V} (e:H a=some (.frz o (.lst xs))):TyOf K H (.ref a) (.type "list")
 |tup {a:Addr} {xs:List V} (e:H a=some (.tup xs)):TyOf K H (.ref a) (.type "tuple")
 |dK {a:Addr} {kvs:List (Key×V)} (e:H a=some (.dK kvs)):TyOf K H (.ref a) (.type "dict")
 |dT {a:Addr} {kvs:List (List Key×V)} (e:H a=some (.dT kvs)):TyOf K H (.ref a) (.type "dict")
 |ins {a C dx:Addr} {fs:List (Str×V)} (e:H a=some (.ins C dx fs)) (cl:Cls K C) (ha:PySem.W.findIn K (.ref C) "__class__"=some (some (.builtin "object.__class__")))
   (hn:PySem.W.specialIn K (.builtin "object.__class__") "__get__"=some (some (.builtin "getset_descriptor.__get__"))) (htk:PySem.W.takesIn K (.builtin "object.__class__")=some true)
   (hm:PySem.W.mroIn K C (.type "object")=some true):TyOf K H (.ref a) (.ref C)
theorem wj (I:Inv X pins σ H s)(rx:RelV x u)(ty:TyOf X.K H x t)(e:PySem.W.kitOne X.K t c=some b)(h:∀tk,Q (.bool b) {s with toks:=tk}):
    wpAny (model X.prog X.w) A (call (.builtin "isinstance") [u,c]) Q E s:=by
  cases ty with
  |non=>cases (show u=Value.none from rx);exact W9 PySem.W.kitx_none I.kIn True.intro e (fun z=>nomatch z) h
  |bl y=>cases (show u=Value.bool y from rx);exact W9 PySem.W.kitx_bool I.kIn True.intro e (fun z=>nomatch z) h
  |int i=>obtain⟨t,q⟩:=(show ∃t,u=Value.int i t from rx);cases q;exact W9 PySem.W.kitx_int I.kIn True.intro e (fun z=>nomatch z) h
  |str y=>obtain⟨t,q⟩:=(show ∃t,u=Value.str y t from rx);cases q;exact W9 PySem.W.kitx_str I.kIn True.intro e (fun z=>nomatch z) h
  |flt y=>obtain⟨t,q⟩:=(show ∃t,u=Value.float y t from rx);cases q;exact W9 PySem.W.kitx_float I.kIn True.intro e (fun z=>nomatch z) h
  | @lst a xs ea=>
    cases (show u=Value.ref a from rx);obtain⟨_,_,n,_,h1⟩:=(show cI X.prog X.w H s.heap a (.lst xs) from I.hok a _ ea);exact W9 ZX I.kIn ⟨_,h1,rfl⟩ e (fun z=>nomatch z) h
  | @frz a ob xs ea=>
    cases (show u=Value.ref a from rx);obtain⟨_,_,_,n,_,h1⟩:=(show cI X.prog X.w H s.heap a (.frz ob (.lst xs)) from I.hok a _ ea);exact W9 ZX I.kIn ⟨_,h1,rfl⟩ e (fun z=>nomatch z) h
  | @tup a xs ea=>
    cases (show u=Value.ref a from rx);obtain⟨_,_,_,p⟩:=(show cI X.prog X.w H s.heap a (.tup xs) from I.hok a _ ea);obtain⟨o,h1,h2,_⟩:=p;exact W9 xaH I.kIn ⟨o,h1,h2⟩ e (fun z=>nomatch z) h
  | @dK a kvs ea=>
    cases (show u=Value.ref a from rx);obtain⟨_,_,vs,_,p⟩:=(show cI X.prog X.w H s.heap a (.dK kvs) from I.hok a _ ea);obtain⟨o,es,ep,h1,h2,_⟩:=p;exact W9 Z0 I.kIn ⟨o,h1,h2.1⟩ e (fun z=>nomatch z) h
  | @dT a kvs ea=>
    cases (show u=Value.ref a from rx);obtain⟨_,_,xs,_,o,es,ep,h1,h2,_⟩:=(show cI X.prog X.w H s.heap a (.dT kvs) from I.hok a _ ea);exact W9 Z0 I.kIn ⟨o,h1,h2.1⟩ e (fun z=>nomatch z) h
  | @ins a C dx fs ea cl ha hn htk hm=>
    cases (show u=Value.ref a from rx);obtain⟨mA,O,_⟩:=Ky I.hok ea;obtain⟨od,J,_⟩:=O.look;exact W9 (PySem.W.kitx_own (cl.get _) cl.hd ha hn htk hm) I.kIn J e (fun z=>nomatch z) h
end
structure Room (k:Nat)(A:Around):Prop where
 hd:A.handled=none
 dp:A.depth + 3 * k + 5<recursionLimit
 un:A.units + 16 * k + 200<cLine
theorem Room.mono (r:Room k A)(h:j<=k):Room j A:=⟨r.hd,by have:=r.dp;omega,by have:=r.un;omega⟩
theorem Room.deeper (r:Room (k + 1) A)(env:Env):Room k (A.deeper env):=
 ⟨r.hd,by have:=r.dp;show A.depth + 1 + 3 * k + 5<_;omega,by have:=r.un;show A.units + 3 + 16 * k + 200<_;omega⟩
theorem Wh {A:Around}{C:Addr}{us:List Value}{kw:List (Str×Value)}:(A.under (.builtin "type.__call__" ⟨.ref C::us,kw⟩)).depth=A.depth + 1:=by
 first |rfl |simp[Around.under,Code.weight,Code.isCreation,Code.isGuard,Code.isCaller,Code.frames,Code.isFrame,guardIds]
theorem Wi {A:Around}{C:Addr}{us:List Value}{kw:List (Str×Value)}:(A.under (.builtin "type.__call__" ⟨.ref C::us,kw⟩)).units=A.units + 1:=by
 first |rfl |simp[Around.under,Code.cUnits,Code.frames,Code.isFrame]
theorem Room.depth (r:Room k A):A.depth<recursionLimit:=by have:=r.dp;omega
theorem Room.units (r:Room k A):A.units + 64<cLine:=by have:=r.un;omega
def CQ:TA:=fun _ H Q=>Q [] H
noncomputable def Uk (ta:TE) (tr:TA):TA:=fun σ H Q=>ta σ H fun x H1=>tr σ H1 fun xs H2=>Q (x::xs) H2
section
variable {X:Cx}{e:Expr}{es:List Expr}{te:TE}{t:TA}{pos:Pos}
theorem nq:PA X [] CQ:=fun _ _ _ _ H Q I h=>Calls.spliced_nil ⟨[],H,I,.nil,h⟩
theorem mH (ha:PE X e te)(hr:PA X es t)(hs:starEach (e::es) X.env=(false,eval e X.env)::starEach es X.env:=by rfl):PA X (e::es) (Uk te t):=by
 intro pos pins s σ H Q I h;rw[hs];show wpAny _ _ (spliced ((false,eval e X.env)::backTo pos (starEach es X.env))) _ _ s;refine Calls.spliced_cons (aR (ha pins s σ H _ I h) fun u s1 ⟨x,H1,I1,r1,q1⟩=>?_);exact aR (hr pos pins s1 σ H1 _ I1 q1) fun us s2 ⟨xs,H2,I2,r2,q2⟩=>⟨x::xs,H2,I2,.cons r1 r2,q2⟩
noncomputable def CW (t:TA):TE:=fun σ H Q=>t σ H fun xs H1=>xs.length<=sizeLine/\∀p,H1 p=none->Q (.ref p) (upd H1 p (.tup xs))
noncomputable def CP (t:TA):TE:=fun σ H Q=>t σ H fun xs H1=>xs.length<=sizeLine/\∀p,H1 p=none->Q (.ref p) (upd H1 p (.lst xs))
theorem Ow {x1}(h:PA X es t):PE X (.Tuple es x1 pos) (CW t):=by
 intro pins s σ H Q I hq;refine wpAny_Tuple_spliced (aR (h pos pins s σ H _ I hq) fun us s1 ⟨xs,H1,I1,r,z,q⟩=>⟨by rw[<-r.length];exact z,?_⟩);have hf:H1 s1.heap.objs.size=none:=I1.hok.fresh (Wq _);refine⟨.ref s1.heap.objs.size,upd H1 s1.heap.objs.size (.tup xs),I1.laid (t':=s1.toks) (fun b u e=>tG _ e) (Wq _) ?_,rfl,q _ hf⟩;exact⟨z,us,r,⟨_,WL _ rfl,rfl,_,rfl⟩⟩
theorem Oq (h:PA X es t):PE X (.List es pos) (CP t):=by
 intro pins s σ H Q I hq;refine wpAny_List_spliced (aR (h pos pins s σ H _ I hq) fun us s1 ⟨xs,H1,I1,r,z,q⟩=>⟨by rw[<-r.length];exact z,?_⟩);have hf:H1 s1.heap.objs.size=none:=I1.hok.fresh (Wq _);refine⟨.ref s1.heap.objs.size,upd H1 s1.heap.objs.size (.lst xs),I1.laid (t':=s1.toks) (fun b u e=>tG _ e) (Wq _) ?_,rfl,q _ hf⟩;exact⟨z,us,0,r,WL _ rfl⟩
end
abbrev Sp:=List V->Hp->VK->XK->Prop
abbrev dJ:=List Env->Hp->Shared->XK->Value->Shared->Prop
structure Env0 (P:Program)(w:World)(K:Fgx)(mg:Mgx)(base:Heap)(A:Around)(outer:List Env)(s:Shared)(H:Hp):Prop where
 frames:A.frames=some outer
 mod:Mod K mg base
 bs:∀b o,base.get? b=some o->s.heap.get? b=some o/\H b=none
 bsz:base.objs.size<=s.heap.objs.size
 funs:s.heap.FunFrames base outer
 frf:∀b∈frs outer,H b=none
 hok:bL P w H s.heap
 bare:AllBare s.gens
def CE (outer:List Env)(P:Program)(w:World)(H:Hp)(s:Shared)(Q:VK)(u:Value)(s':Shared):Prop:=
 ∃v H',s'.os=s.os/\AllBare s'.gens/\Un (frs outer) [] H H' s.heap s'.heap/\bL P w H' s'.heap/\RelV v u/\Q v H'
def CR (CX:dJ)(outer:List Env)(P:Program)(w:World)(H:Hp)(s:Shared)(Q:VK)(E:XK)(r:Result)(s':Shared):Prop:=
 match r with
 |.ok (.ret u)=>CE outer P w H s Q u s'
 |.ok _=>False
 |.error e=>CX outer H s E e s'
structure FnOk (P:Program)(w:World)(K:Fgx)(mg:Mgx)(base:Heap)(CX:dJ)(k:Nat)(f:Addr)(fd:FuncData)(ps:List Str)(sp:Sp):Prop where
 len:∀vs H Q E,sp vs H Q E->vs.length=ps.length
 run:∀(A:Around) (outer:List Env) (s:Shared) (H:Hp) (args:Args) (us:List Value) (vs:List V) (Q:VK) (E:XK),Room k A->Env0 P w K mg base A outer s H->BindsTo s fd args (ps.zip us)->Vals vs us->sp vs H Q E->
  codeAny (model P w) A (.call (.ref f) args) (CR CX outer P w H s Q E) s
theorem FnOk.mono {P:Program}{w:World}{K:Fgx}{mg:Mgx}{base:Heap}{CX:dJ}{j k:Nat}{f:Addr}{fd:FuncData}{ps:List Str}{sp:Sp}(F:FnOk P w K mg base CX j f fd ps sp)(h:j<=k):
  FnOk P w K mg base CX k f fd ps sp:=⟨F.len,fun A outer s H args us vs Q E hr=>F.run A outer s H args us vs Q E (hr.mono h)⟩
section
variable {X:Cx}{pins:Pnx}{σ:St}{H:Hp}{s s':Shared}
theorem Inv.env0 (I:Inv X pins σ H s):Env0 X.prog X.w X.K X.mg X.base X.A X.stack s H:=
 ⟨I.ok.frames,I.ok.mod,I.bs,W5 I.ok.bsz I.sz,I.stack,I.stkFree,I.hok,I.bare⟩
theorem Inv.after (I:Inv X pins σ H s)(h:CE X.stack X.prog X.w H s Q u s'):EP X pins σ Q u s':=by
 obtain⟨v,H',os,bare,un,hok,r,q⟩:=h;obtain⟨hh,g,d,t,os'⟩:=s';obtain rfl:os'=s.os:=os;exact⟨v,H',I.call (h':=hh) (g':=g) (d':=d) (t':=t) (ch:=[]) un hok bare (fun b z=>absurd z (by simp)),r,q⟩
end
noncomputable def Ui (sp:Sp) (dvs:List V) (E:XK) (t:TA):TE:=fun σ H Q=>t σ H fun vs H1=>sp (vs ++ dvs) H1 Q E
def Binds (K:Fgx)(fd:FuncData)(ps:List Str)(ds:List Value):Prop:=
 ∀(s:Shared) (us:List Value),K.In s.heap->(us ++ ds).length=ps.length->BindsTo s fd ⟨us,[]⟩ (ps.zip (us ++ ds))
theorem Binds.all {K:Fgx}{fd:FuncData}{ps:List Str}(h:∀us:List Value,us.length=ps.length->bindArgs fd ⟨us,[]⟩=pure (ps.zip us)):Binds K fd ps []:=fun s us _ hl=>by
 rw[Xr]at hl ⊢;exact .of_eq (h us hl)
def Passes (CX:dJ)(X:Cx)(E:XK):Prop:=∀(pins:Pnx) (σ:St) (H:Hp) (s:Shared) (e:Value) (s':Shared),Inv X pins σ H s->CX X.stack H s E e s'->X.xe e s'
section
variable {X:Cx}{CX:dJ}{k:Nat}{f C:Addr}{fd:FuncData}{ps:List Str}{sp:Sp}{dvs:List V}{ds:List Value}{E:XK}{x m:Str}{p pos apos:Pos}{e o:Expr}{es:List Expr}{ta:TE}{t:TA}
theorem Ss (F:FnOk X.prog X.w X.K X.mg X.base CX k f fd ps sp)(hr:Room k X.A)(hb:Binds X.K fd ps ds)(hd:Vals dvs ds)(hx:Passes CX X E)
    (I:Inv X pins σ H s) (r:Vals vs us) (h:sp (vs ++ dvs) H Q E):wpAny (model X.prog X.w) X.A (call (.ref f) us) (EP X pins σ Q) X.xe s:=by
  have r2:Vals (vs ++ dvs) (us ++ ds):=r.append hd;have hl:(us ++ ds).length=ps.length:=by rw[<-r2.length];exact F.len _ _ _ _ h
  refine wpAny_call (Zh (F.run X.A X.stack s H ⟨us,[]⟩ (us ++ ds) (vs ++ dvs) Q E hr I.env0 (hb s us I.kIn hl) r2 h) fun r s' hq=>?_)
  cases r with
  |error e=>exact hx pins σ H s e s' I hq
  |ok fl=>
    cases fl with
    |ret u=>exact I.after hq
    |next=>exact False.elim hq
    |brk=>exact False.elim hq
    |cont=>exact False.elim hq
theorem Oi (F:FnOk X.prog X.w X.K X.mg X.base CX k f fd ps sp)(hr:Room k X.A)(hg:Gl X x)(hm:X.mg x=some (.ref f))(hk:PySem.W.keepIn X.K (.ref f)=true)(hb:Binds X.K fd ps ds)(hd:Vals dvs ds)(hx:Passes CX X E)
  (ha:PA X (e::es) t) (hdb:(x==("__debug__":Str))=false:=by decide) (he:starEach (e::es) X.env=(false,eval e X.env)::starEach es X.env:=by rfl) (hpl:(backTo pos (starEach es X.env)).any (·.1)=false:=by rfl):
  PE X (.Call (.Name x p) (e::es) [] pos) (Ui sp dvs E t):=by
 intro pins s σ H Q I h;refine Zy (Gj I hg hm ?_ hdb);refine PySem.W.callWith_K (h₀:=X.base) I.ok.mod.kin hk (aR (ha pos pins s σ H _ I h) fun us s1 ⟨vs,H1,I1,r,q⟩=>⟨I1.kIn,?_⟩) he hpl;exact Ss F hr hb hd hx I1 r q
structure Mk (K:Fgx)(C f:Addr):Prop where
 makes:PySem.W.makesIn K C=true
 init:PySem.W.findIn K (.ref C) "__init__"=some (some (.ref f))
 fn:PySem.W.isFn K (.ref f)=true
 kp:PySem.W.keepIn K (.ref C)=true
end
section
variable {X:Cx}{CX:dJ}{k:Nat}{f C:Addr}{fd:FuncData}{ps ks:List Str}{sp:Sp}{E:XK}{x m:Str}{p pos apos kpos:Pos}{e o:Expr}{es:List Expr}{kws:List Keyword}{te ta:TE}{t tk:TA}{nm:Option Str}
structure KBinds (K:Fgx)(fd:FuncData)(ps ks:List Str)(g:List Value->List Value->List Value)(gV:List V->List V->List V):Prop where
 to:∀(s:Shared) (us ws:List Value),K.In s.heap->(g us ws).length=ps.length->BindsTo s fd ⟨us,ks.zip ws⟩ (ps.zip (g us ws))
 rel:∀{vs:List V} {us:List Value} {zs:List V} {ws:List Value},Vals vs us->Vals zs ws->Vals (gV vs zs) (g us ws)
variable {g:List Value->List Value->List Value}{gV:List V->List V->List V}
end
structure FnScope (N P:List Str)(sc:Scope):Prop where
 kind:sc.kind=.function
 co:sc.isCoroutine=false
 gen:sc.isGenerator=false
 nd:N.Nodup
 pre:N.take P.length=P
 par:∀x∈P,sc.names.lookup x=some .local\/sc.names.lookup x=some .cell
 nofree:∀y∈sc.names,y.2≠ .free
theorem Ea {kindOf:Str->Option NameKind}{x:Str}:∀{binds:List (Str×Value)} {m:Mgx},(∀v,(x,v)∉binds)->bindL kindOf binds m x=m x
  | [],_,_=>rfl
  |(n,v)::r,m,h=>by
    unfold bindL;rw[Ea fun w hw=>h w (W4 _ hw)]
    split
    · have:x≠n:=by rintro rfl;exact h v Xu
      simp[this]
    · rfl
theorem DY {kindOf:Str->Option NameKind}{x:Str}:∀{binds:List (Str×Value)} {m:Mgx},(∀v,(x,v)∉binds)->bindC kindOf binds m x=m x
  | [],_,_=>rfl
  |(n,v)::r,m,h=>by
    unfold bindC;rw[DY fun w hw=>h w (W4 _ hw)]
    split
    · rfl
    · have:x≠n:=by rintro rfl;exact h v Xu
      simp[this]
theorem D_ {kindOf:Str->Option NameKind}{x:Str}{v:Value}:∀{P:List Str} {vs:List Value} {i:Nat} {m:Mgx},P.Nodup->P[i]? =some x->vs[i]? =some v->kindOf x=some .local->
    bindL kindOf (P.zip vs) m x=some v
  | [],_,_,_,_,h,_,_=>by simp at h
  |_::_,[],_,_,_,_,h,_=>by simp at h
  |p::P,w::vs,0,m,nd,h1,h2,hk=>by
    simp at h1 h2;subst h1;subst h2
    show bindL kindOf ((p,w)::P.zip vs) m p=_;unfold bindL;rw[Ea fun v hv=>(X4.mp nd).1 (YT hv).1,Wv hk]
    simp
  |p::P,w::vs,i + 1,m,nd,h1,h2,hk=>by
    show bindL kindOf ((p,w)::P.zip vs) m x=_;unfold bindL;exact D_ (i:=i) (X4.mp nd).2 (by simpa using h1) (by simpa using h2) hk
theorem DX {kindOf:Str->Option NameKind}{x:Str}{v:Value}:∀{P:List Str} {vs:List Value} {i:Nat} {m:Mgx},P.Nodup->P[i]? =some x->vs[i]? =some v->kindOf x≠some .local->
    bindC kindOf (P.zip vs) m x=some v
  | [],_,_,_,_,h,_,_=>by simp at h
  |_::_,[],_,_,_,_,h,_=>by simp at h
  |p::P,w::vs,0,m,nd,h1,h2,hk=>by
    simp at h1 h2;subst h1;subst h2
    show bindC kindOf ((p,w)::P.zip vs) m p=_;unfold bindC;rw[DY fun v hv=>(X4.mp nd).1 (YT hv).1,WY hk]
    simp
  |p::P,w::vs,i + 1,m,nd,h1,h2,hk=>by
    show bindC kindOf ((p,w)::P.zip vs) m x=_;unfold bindC;exact DX (i:=i) (X4.mp nd).2 (by simpa using h1) (by simpa using h2) hk
noncomputable def start (N:List Str) (vs:List V):St:=vs.map some ++ List.replicate (N.length - vs.length) none
noncomputable def dw (CX:dJ) (P:Program) (w:World) (K:Fgx) (mg:Mgx) (base:Heap) (N:List Str) (qual:Str) (scope:Scope) (f:Addr) (cd:Value) (A:Around) (outer:List Env) (s:Shared) (H:Hp) (E:XK):Cx where
 prog:=P
 w:=w
 K:=K
 mg:=mg
 base:=base
 A:=A.deeper (envOfC qual scope s.heap.objs.size f cd)
 N:=N
 s₀:=s
 H₀:=H
 env:=envOfC qual scope s.heap.objs.size f cd
 outer:=outer
 stack:=envOfC qual scope s.heap.objs.size f cd::outer
 ex:=[]
 calm:=true
 fn:=fun _=>true
 pn:=[]
 xe:=fun e s'=>wpAny (model P w) (A.deeper (envOfC qual scope s.heap.objs.size f cd)) (leaving (envOfC qual scope s.heap.objs.size f cd) e) (fun _ s''=>CX outer H s E e s'') (fun e' s''=>CX outer H s E e' s'') s'
theorem za {sc:Scope}{n:Nat}{x:Str}(h:sc.names.lookup x=some .cell):∃c,(cellsFrom n sc.names []).lookup x=some c:=by
 have q:=Y4 sc.names n [] (.inl h);exact Option.isSome_iff_exists.mp q
theorem FQ {CX:dJ}{P:Program}{w:World}{K:Fgx}{mg:Mgx}{base:Heap}{N ps:List Str}{qual:Str}{scope:Scope}{f:Addr}{cd:Value}{A:Around}{outer:List Env}{s s1:Shared}{H:Hp}{E:XK}{us:List Value}{vs:List V}
  (S:FnScope N ps scope) (hd:A.handled=none) (e0:Env0 P w K mg base A outer s H) (hl:vs.length=ps.length) (r:Vals vs us)
  (x:InCallC s s.heap.objs.size (bindL (envOfC qual scope s.heap.objs.size f cd).kindOf (ps.zip us) fun _=>none) (cellsFrom (s.heap.objs.size + 1) scope.names []) (bindC (envOfC qual scope s.heap.objs.size f cd).kindOf (ps.zip us) fun _=>none) s1):
  Inv (dw CX P w K mg base N qual scope f cd A outer s H E) [] (start N vs) H s1:=by
 have hpl:ps.length<=N.length:=by have:=congrArg List.length S.pre;rw[Y9]at this;omega
 obtain ⟨h1, tk, rfl, hk⟩ := x.done;have noA : ∀ b : Addr, b ∉ (dw CX P w K mg base N qual scope f cd A outer s H E).ex := fun b z => absurd (show b ∈ ([] : List Addr) from z) (by simp);refine ⟨⟨e0.mod,S.kind,rfl,rfl,Wq _,fun y z c h1 h2=>?_,fun y hy=>?_,fun y c _ h=>?_,fun _=>hd,Around.frames_deeper e0.frames,.inr ⟨rfl,rfl⟩,fun b z=>absurd z (noA b),e0.bs,e0.bsz,fun b _ _=>noA b,fun b z=>absurd z (noA b),e0.funs,e0.frf⟩,
  rfl,e0.bare,Un.kept hk,⟨_,x.toInCall.ns,fun i y v h1 h2 h3=>?_⟩,fun y c h=>⟨_,x.cell y c h⟩,e0.hok.fresh (Wq _),fun y c h=>?_,fun p hp=>absurd (show p∈([]:Pnx) from hp) (by simp),e0.hok.kept hk,?_⟩
 ·exact name_of_addr x.apart (Xa h1) (Xa h2)
 ·have hy:scope.names.lookup y=some .cell\/scope.names.lookup y=some .free:=hy;rcases hy with hy |hy
  ·exact za hy
  ·exact absurd rfl (S.nofree _ (Xa hy))
 ·exact Zf (x.above y c (Xa h))
 ·have hi:i<vs.length:=by
   unfold start at h2
   by_cases hi:i<vs.length
   ·exact hi
   ·rw[WR (by simpa using hi)]at h2;rw[Xc]at h2;split at h2<;>cases h2
  have ha:vs[i]? =some v:=by
   unfold start at h2;rw[WW (by simpa using hi),Wy]at h2
   cases e:vs[i]? with
   |none=>rw[e]at h2;cases h2
   |some a=>rw[e]at h2;cases h2;rfl
  obtain⟨u,hu,rv⟩:=r.get ha;have hp:ps[i]? =some y:=by
   rw[<-S.pre,Z8 (by omega)];exact h1
  have ndP:ps.Nodup:=by rw[<-S.pre];exact S.nd.sublist (xaP _ _)
  refine⟨u,rv,?_⟩;rcases S.par y (WX hp) with k |k
  ·exact .inl ⟨k,D_ ndP hp hu k⟩
  ·obtain⟨c,e⟩:=za (n:=s.heap.objs.size + 1) k;refine .inr ⟨.inl k,c,e,?_⟩;have q:=x.cell y c e;rw[DX ndP hp hu (by show scope.names.lookup y≠_;rw[k];decide)]at q;exact q
 ·exact .inl (e0.hok.fresh (Zf (x.above y c (Xa h))))
 ·unfold start;show _=N.length;rw[Wz,WK,XH];omega
theorem Kd {CX:dJ}{P:Program}{w:World}{K:Fgx}{mg:Mgx}{base:Heap}{k:Nat}{f:Addr}{name qual:Str}{params:Arguments}{body:List Stmt}{scope:Scope}{dV kV doc pm cdv ct oc:Value}{an od:Option Addr}
    {osl:Array (Option Value)} {N ps:List Str} {sp:Sp} (lk:K.lookup f=some ⟨oc,od,.func (PySem.W.fnOf name qual params body scope dV kV doc pm an cdv ct),osl⟩) (hcd:PySem.W.codeIn K cdv qual=true) (S:FnScope N ps scope)
    (len:∀vs H Q E,sp vs H Q E->vs.length=ps.length)
    (hbody:∀(A:Around) (outer:List Env) (s:Shared) (H:Hp) (vs:List V) (Q:VK) (E:XK),Room k (A.deeper (envOfC qual scope s.heap.objs.size f cdv))->sp vs H Q E->
      ∃t,eY (dw CX P w K mg base N qual scope f cdv A outer s H E) body t/\t {nx:=fun _ H'=>Q .non H',rt:=Q} (start N vs) H):
    FnOk P w K mg base CX (k + 1) f (PySem.W.fnOf name qual params body scope dV kV doc pm an cdv ct) ps sp:=by
  refine⟨len,fun A outer s H args us vs Q E hr e0 hb r hsp=>?_⟩;have hl:=len _ _ _ _ hsp;have KX:K.In s.heap:=e0.mod.kin.keeps fun b o e=>(e0.bs b o e).1;have lim:s.heap.NoLimit:=e0.mod.nolimit.keeps fun b o e=>(e0.bs b o e).1;have hkind:∀y∈ps.zip us,scope.names.lookup y.1=some .local\/(scope.names.lookup y.1=some .cell/\((cellsFrom (s.heap.objs.size + 1) scope.names []).lookup y.1).isSome=true):=fun⟨n,v⟩ hy=>by
    rcases S.par n (YT hy).1 with q |q
    · exact .inl q
    · exact .inr ⟨q,Y4 _ _ _ (.inl q)⟩
  refine Zd hr.depth (KX _ _ lk) rfl S.co S.gen rfl (xaI KX hcd) (hb _ _ _ _ ?_);refine ZJ S.kind hkind fun env he s1 x=>?_;subst he;refine⟨lim.keeps x.toInCall.keep,codeAny_func ?_⟩;obtain⟨t,ht,hq⟩:=hbody A outer s H vs Q E (hr.deeper _) hsp;have I:Inv (dw CX P w K mg base N qual scope f cdv A outer s H E) [] (start N vs) H s1:=FQ S hr.hd e0 hl r x;refine Xg (ht [] s1 (start N vs) H _ I hq) (fun fl s' hs=>?_) fun e s' hs=>hs;have fin:∀{σ':St} {H':Hp} {v:V} {u:Value},Inv (dw CX P w K mg base N qual scope f cdv A outer s H E) [] σ' H' s'->RelV v u->Q v H'->CE outer P w H s Q u s':=
    fun {σ' H' v u} J rv q=>⟨v,H',J.os,J.bare,J.base,J.hok,rv,q⟩
  cases fl with
  |ret u=>
    obtain⟨v,σ',H',J,rv,q⟩:=hs;exact fin J rv q
  |next=>
    obtain⟨σ',H',J,q⟩:=hs;exact fin (v:=V.non) (u:=Value.none) J rfl q
  |brk=>
    obtain⟨_,_,_,q⟩:=hs;exact False.elim q
  |cont=>
    obtain⟨_,_,_,q⟩:=hs;exact False.elim q
section
variable {X:Cx}{x:Str}{p pos:Pos}{e:Expr}{es:List Expr}{t:TA}{id T:String}{r:List V->Hp->VK->Prop}
noncomputable def CJ (r:List V->Hp->VK->Prop) (t:TA):TE:=fun σ H Q=>t σ H fun vs H1=>r vs H1 Q
theorem Bb (hc:cY X (.builtin id) r)(hg:Gl X x)(hm:X.mg x=none)(hv:bootBuiltins x=some (.builtin id))(ha:PA X (e::es) t)(hn:x≠"__name__":=by decide)(hdb:(x==("__debug__":Str))=false:=by decide)
  (he:starEach (e::es) X.env=(false,eval e X.env)::starEach es X.env:=by rfl) (hpl:(backTo pos (starEach es X.env)).any (·.1)=false:=by rfl):PE X (.Call (.Name x p) (e::es) [] pos) (CJ r t):=by
 intro pins s σ H Q I h;refine Zy (sW I hg hm hv ?_ hn hdb);exact PyProof.Rows.callWith_builtin1 (aR (ha pos pins s σ H _ I h) fun us s1 ⟨vs,H1,I1,r1,q1⟩=>hc pins s1 σ H1 vs us Q I1 r1 q1) he hpl
theorem GQ (hc:cY X (.type T) r)(hg:Gl X x)(hm:X.mg x=none)(hv:bootBuiltins x=some (.type T))(ha:PA X (e::es) t)(hn:x≠"__name__":=by decide)(hdb:(x==("__debug__":Str))=false:=by decide)
  (he:starEach (e::es) X.env=(false,eval e X.env)::starEach es X.env:=by rfl) (hpl:(backTo pos (starEach es X.env)).any (·.1)=false:=by rfl):PE X (.Call (.Name x p) (e::es) [] pos) (CJ r t):=by
 intro pins s σ H Q I h;refine Zy (sW I hg hm hv ?_ hn hdb);exact YG (aR (ha pos pins s σ H _ I h) fun us s1 ⟨vs,H1,I1,r1,q1⟩=>hc pins s1 σ H1 vs us Q I1 r1 q1) he hpl
end
end L2
namespace HT
open PySem PyProof.Rows
section
open PySem.SeqAt
open PySem.AutoSeq1 (wpAny_loadPart')
open PySem.MeetsSeq PySem.MeetsSeq2 PySem.MeetsSeq3
end
section
variable {prog:Program}{w:World}{A:Around}{E:Value->Shared->Prop}{s:Shared}
noncomputable def cW (n d:Nat):Option Int->Nat
 |none=>d
 |some v=>if v<0 then(v + (n:Int)).toNat else min v.toNat n
theorem Sx (n d:Nat):cW n d none=d:=rfl
theorem Sw (n d k:Nat):cW n d (some (k:Int))=min k n:=by
 show(if (k:Int)<0 then((k:Int) + (n:Int)).toNat else min (k:Int).toNat n)=min k n
 rw[WY (by omega),Z1]
end
end HT
namespace L2
open PySem PySem.Spec PyProof.Rows
abbrev TO:=St->Hp->(Option Int->Hp->Prop)->Prop
def PO (X:Cx)(e:Option Expr)(t:TO):Prop:=
 ∀(pins:Pnx) (s:Shared) (σ:St) (H:Hp) (Q:Option Int->Hp->Prop),Inv X pins σ H s->t σ H Q->
  wpAny (model X.prog X.w) X.A (evalPart e X.env) (fun u s'=>∃o H',Inv X pins σ H' s'/\IsPart u o/\Q o H') X.xe s
def Uo:TO:=fun _ H Q=>Q none H
noncomputable def Ur (t:TE):TO:=fun σ H Q=>t σ H fun x H1=>∃i,x=.int i/\Q (some i) H1
section
variable {X:Cx}{e:Expr}{te:TE}{lo hi:Option Expr}{tl th:TO}{pos p2:Pos}
theorem O4:PO X none Uo:=by
 intro pins s σ H Q I h;rw[evalPart_none];exact Wt ⟨none,H,I,.none,h⟩
theorem O5 (h:PE X e te):PO X (some e) (Ur te):=by
 intro pins s σ H Q I hw;rw[evalPart_some];refine aR (h pins s σ H _ I hw) fun u s1 ⟨x,H1,I1,r1,q1⟩=>?_;obtain⟨i,rfl,q⟩:=q1;obtain⟨t,rfl⟩:=r1;exact⟨some i,H1,I1,.int i t,q⟩
def mY (X:Cx)(r:V->Option Int->Option Int->Hp->VK->Prop):Prop:=
 ∀(pins:Pnx) (s:Shared) (σ:St) (H:Hp) (x:V) (v vl vu:Value) (lo hi:Option Int) (sl:Addr) (Q:VK),Inv X pins σ H s->RelV x v->s.heap.IsSliceOf sl vl vu .none->IsPart vl lo->IsPart vu hi->r x lo hi H Q->
  ∃T id,typeLookup (.type T) "__getitem__"=pure (some (.builtin id))/\s.TypeIs v T/\wpAny (model X.prog X.w) X.A (getItem v (.ref sl)) (EP X pins σ Q) X.xe s
theorem mY.or (h:mY X r)(h':mY X r'):mY X (fun x lo hi H Q=>r x lo hi H Q\/r' x lo hi H Q):=by
 intro pins s σ H x v vl vu lo hi sl Q I rx hs pl pu q;rcases q with q |q
 ·exact h pins s σ H x v vl vu lo hi sl Q I rx hs pl pu q
 ·exact h' pins s σ H x v vl vu lo hi sl Q I rx hs pl pu q
noncomputable def Us (r:V->Option Int->Option Int->Hp->VK->Prop) (te:TE) (tl th:TO):TE:=fun σ H Q=>te σ H fun x H1=>tl σ H1 fun l H2=>th σ H2 fun u H3=>r x l u H3 Q
theorem Ou (hr:mY X r)(he:PE X e te)(hl:PO X lo tl)(hu:PO X hi th):PE X (.Subscript e (.Slice lo hi none p2) pos) (Us r te tl th):=by
 intro pins s σ H Q I h;refine Subscript_ (aR (he pins s σ H _ I h) fun v s1 ⟨x,H1,I1,r1,q1⟩=>?_);refine wpAny_Slice (aR (hl pins s1 σ H1 _ I1 q1) fun vl s2 ⟨l,H2,I2,pl,q2⟩=>aR (hu pins s2 σ H2 _ I2 q2) fun vu s3 ⟨u,H3,I3,pu,q3⟩=>?_);rw[evalPart_none];refine Wt ?_;have I4:Inv X pins σ H3 {s3 with heap:=s3.heap.push {cls:=.type "slice",data:=.fields #[vl,vu,.none]}}:=I3.kept (t':=s3.toks) fun b ob q=>tG _ q;obtain⟨T,id,hT,ht,hg⟩:=hr pins {s3 with heap:=s3.heap.push {cls:=.type "slice",data:=.fields #[vl,vu,.none]}} σ H3 x v vl vu l u s3.heap.objs.size Q I4 r1 (Heap.IsSliceOf.new ..) pl pu q3;show wpAny (model X.prog X.w) X.A (subscriptTail e (.Slice lo hi none p2) v (.ref s3.heap.objs.size)) (EP X pins σ Q) X.xe {s3 with heap:=s3.heap.push {cls:=.type "slice",data:=.fields #[vl,vu,.none]}};exact tail_any (ops:=[.ref s3.heap.objs.size,v]) ht hT hg (by with_unfolding_all rfl)
noncomputable def fM (xs:List V) (lo hi:Option Int):List V:=(xs.drop (HT.cW xs.length 0 lo)).take (HT.cW xs.length xs.length hi - HT.cW xs.length 0 lo)
theorem JW (xs:List V)(lo hi:Option Int):(fM xs lo hi).length<=xs.length:=by
 unfold fM;rw[Y9,Z9];omega
end
noncomputable def m_ (n:Nat) (i:Int):Option Nat:=if 0<=i then(if i<n then some i.toNat else none) else if -(n:Int)<=i then some (i + n).toNat else none
noncomputable def bZ {α:Type} (xs:List α) (i:Int):Option α:=(m_ xs.length i).bind fun j=>xs[j]?
theorem KR (h:m_ n i=some j):seqIndex? i n=some j/\j<n/\ -(n:Int)<=i/\i<n:=by
 unfold m_ at h
 by_cases h0:0<=i
 ·rw[Wv h0]at h
  by_cases h1:i<n
  ·rw[Wv h1]at h;have e:i.toNat=j:=W3 h;exact⟨by rw[seqIndex_of h0 h1,e],by omega,by omega,h1⟩
  ·rw[WY h1]at h;cases h
 ·rw[WY h0]at h
  by_cases h1: -(n:Int)<=i
  ·rw[Wv h1]at h;have e:(i + n).toNat=j:=W3 h;exact⟨by rw[seqIndex_neg (by omega) h1,e],by omega,h1,by omega⟩
  ·rw[WY h1]at h;cases h
theorem yI (h:bZ xs i=some v):∃j,seqIndex? i xs.length=some j/\xs[j]? =some v/\j<xs.length/\ -(xs.length:Int)<=i/\i<xs.length:=by
  unfold bZ at h
  cases e:m_ xs.length i with
  |none=>rw[e]at h;cases h
  |some j=>
    rw[e]at h;obtain⟨h1,h2,h3,h4⟩:=KR e;exact⟨j,h1,h,h2,h3,h4⟩
theorem pC {α:Type}{xs:List α}{j:Nat}{v:α}(h:xs[j]? =some v):bZ xs (j:Int)=some v:=by
 have hj:j<xs.length:=(WD.mp h).1;have e:m_ xs.length (j:Int)=some j:=by
  unfold m_;rw[Wv (by omega),Wv (by omega)];simp
 unfold bZ;rw[e];exact h
def yD (b:Expr):Prop:=∀o i,subscripted b false o i=operate [o,i] (getItem o i)
def gR (X:Cx)(r:R2):Prop:=
 ∀(value slice:Expr) (pins:Pnx) (s:Shared) (σ:St) (H:Hp) (x y:V) (v u:Value) (Q:VK),Inv X pins σ H s->RelV x v->RelV y u->r x y H Q->
  subscripted slice false v u=operate [v,u] (getItem v u)->wpAny (model X.prog X.w) X.A (subscriptTail value slice v u) (EP X pins σ Q) X.xe s
def vG (X:Cx)(id:String)(r:V->List V->Hp->VK->Prop):Prop:=
 ∀(pins:Pnx) (s:Shared) (σ:St) (H:Hp) (x:V) (xs:List V) (v:Value) (us:List Value) (Q:VK),Inv X pins σ H s->RelV x v->Vals xs us->r x xs H Q->
  wpAny (model X.prog X.w) X.A (call (.builtin id) (v::us)) (EP X pins σ Q) X.xe s
section
variable {X:Cx}{a b:Expr}{ta tb:TE}{pos:Pos}
theorem gR.or (h:gR X r)(h':gR X r'):gR X (fun x y H Q=>r x y H Q\/r' x y H Q):=by
 intro value slice pins s σ H x y v u Q I rx ry q hs;rcases q with q |q
 ·exact h value slice pins s σ H x y v u Q I rx ry q hs
 ·exact h' value slice pins s σ H x y v u Q I rx ry q hs
theorem Oo (hr:gR X r)(ha:PE X a ta)(hb:PE X b tb)(hs:yD b):PE X (.Subscript a b pos) (vo r ta tb):=by
 intro pins s σ H Q I h;exact Subscript_ (m6 ha hb I h fun v u s2 x y H2 I2 rx ry q=>hr a b pins s2 σ H2 x y v u Q I2 rx ry q (hs _ _))
noncomputable def nA (K:Fgx):R2:=fun x y H Q=>∃p xs i v,x=.ref p/\y=.int i/\aY K H p xs/\bZ xs i=some v/\Q v H
noncomputable def nG (K:Fgx):R2:=fun x y H Q=>∃p xs i v,x=.ref p/\y=.int i/\dD K H p xs/\bZ xs i=some v/\Q v H
noncomputable def nF:R2:=fun x y H Q=>∃z i c,x=.str z/\y=.int i/\z.length<=sizeLine/\bZ z.cps.toList i=some c/\Q (.str ⟨#[c]⟩) H
theorem K1:gR X (nA X.K):=by
 intro value slice pins s σ H x y v u Q I rx ry h hs;obtain⟨p,xs,i,z,rfl,rfl,hq,he,q⟩:=h;cases rx;obtain⟨t,rfl⟩:=ry;obtain⟨its,r,pl,hz⟩:=I.list hq;obtain⟨j,h1,h2,h3,h4,h5⟩:=yI he;obtain⟨w,ew,rw'⟩:=r.get h2;have hl:=r.length;have hn:=pN;have fin:EP X pins σ Q w s:=⟨z,H,I,rw',q⟩
 by_cases h0:0<=i
 ·have hj:i.toNat=j:=by
   rw[seqIndex_of h0 h5]at h1;exact W3 h1
  exact item_listR pl.isList h0 (by omega) (by rw[hj];simpa using ew) fin hs
 ·have hj:(i + (its.toArray.size:Int)).toNat=j:=by
   rw[seqIndex_neg (by omega) h4]at h1;rw[Wr, <-hl];exact W3 h1
  exact subscriptTail_builtinR (x:=w) pl.isList.typeIs slot_list_getitem.lookup
   (wpAny_getItem_list_neg (Q:=fun r s'=>r=w/\EP X pins σ Q r s') pl.isList (by omega) (by rw[Wr]<;>omega) (by omega) (by rw[hj];simpa using ew) ⟨rfl,fin⟩) hs
theorem K4:gR X (nG X.K):=by
 intro value slice pins s σ H x y v u Q I rx ry h hs;obtain⟨p,xs,i,z,rfl,rfl,hq,he,q⟩:=h;cases rx;obtain⟨t,rfl⟩:=ry;obtain⟨its,r,pl,hz⟩:=I.tuple hq;obtain⟨j,h1,h2,h3,h4,h5⟩:=yI he;obtain⟨w,ew,rw'⟩:=r.get h2;have hl:=r.length;have hn:=pN;have fin:EP X pins σ Q w s:=⟨z,H,I,rw',q⟩;exact subscriptTail_builtinR (x:=w) pl.typeIs slot_tuple_getitem.lookup
  (getItem_tuple (j:=j) (Q:=fun r s'=>r=w/\EP X pins σ Q r s') pl (by omega) (by omega) (by rw[Wr, <-hl];exact h1) (by simpa using ew) ⟨rfl,fin⟩) hs
theorem K3:gR X nF:=by
 intro value slice pins s σ H x y v u Q I rx ry h hs;obtain⟨z,i,c,rfl,rfl,hz,he,q⟩:=h;obtain⟨t,rfl⟩:=rx;obtain⟨t',rfl⟩:=ry;obtain⟨j,h1,h2,h3,h4,h5⟩:=yI he;have hl:z.cps.toList.length=z.length:=by simp[Str.length]
 rw [hl] at h1 h4 h5;have hn := pN;exact tail_any (xau s z t) slot_str_getitem.lookup (getItem_str (c := c) (by
  have e1:decide (i< -(2 ^ 63:Int))=false:=X3 (by omega);have e2:decide (i >=2 ^ 63)=false:=X3 (by omega);rw[e1,e2,Bool.or_false]) (by rw[h1];simpa using h2) ⟨.str ⟨#[c]⟩,H,I.tok _,⟨_,rfl⟩,q⟩) hs
noncomputable def Bs (K:Fgx):R2:=fun x y H Q=>nA K x y H Q\/nG K x y H Q\/nF x y H Q
theorem Tn (lo hi:Option Int)(n:Nat):(sliceBounds lo hi none n).1=((HT.cW n 0 lo:Nat):Int)/\(sliceBounds lo hi none n).2.1=((HT.cW n n hi:Nat):Int)/\(sliceBounds lo hi none n).2.2=1:=by
  refine⟨?_,?_,rfl⟩
  · cases lo with
    |none=>simp[sliceBounds,HT.cW]
    |some i=>
      simp only[sliceBounds,HT.cW,Option.getD_none,show(1:Int) > 0 by decide,X6]
      by_cases h:i<0
      · simp only[h,X6]<;>omega
      · simp only[h,Yy]<;>omega
  · cases hi with
    |none=>simp[sliceBounds,HT.cW]
    |some i=>
      simp only[sliceBounds,HT.cW,Option.getD_none,show(1:Int) > 0 by decide,X6]
      by_cases h:i<0
      · simp only[h,X6]<;>omega
      · simp only[h,Yy]<;>omega
theorem Tj (its:List Value)(lo hi:Option Int):slicePick its.toArray lo hi none=((its.drop (HT.cW its.length 0 lo)).take (HT.cW its.length its.length hi - HT.cW its.length 0 lo)).toArray:=by
 obtain⟨h1,h2,h3⟩:=Tn lo hi its.toArray.size;unfold slicePick;rw[h1,h2,h3];simp only[sliceRange_one,pick_run,Wr]<;>rfl
def Bt (K:Fgx):V->Option Int->Option Int->Hp->VK->Prop:=fun x lo hi H Q=>∃a xs,x=.ref a/\aY K H a xs/\∀p,H p=none->Q (.ref p) (upd H p (.lst (fM xs lo hi)))
theorem Tf:mY X (Bt X.K):=by
 intro pins s σ H x v vl vu lo hi sl Q I rx hs pl pu h;obtain⟨a,xs,rfl,hx,q⟩:=h;cases rx;obtain⟨its,r,ht,hz⟩:=I.list hx;have hlen:=r.length;refine⟨"list",_,slot_list_getitem.lookup,ht.isList.typeIs,?_⟩;refine wpAny_getItem_list_slice ht.isList hs pl pu .none (by simp) ?_ (by rw[Wr]<;>omega)
 rw[Tj, <-hlen];refine⟨.ref s.heap.objs.size,_,I.laid (t':=s.toks) (o:=.lst (fM xs lo hi)) (fun b ob q=>tG _ q) (Wq _) ?_,rfl,q _ (I.hok.fresh (Wq _))⟩;exact⟨W5 (JW xs lo hi) hz,_,0,(r.drop (HT.cW xs.length 0 lo)).take (HT.cW xs.length xs.length hi - HT.cW xs.length 0 lo),WL _ rfl⟩
noncomputable def gY:V->Bool
 |.non=>true
 |.bl _=>true
 |.int _=>true
 |.str _=>true
 |_=>false
noncomputable def lu:V->V->Bool
 |.non,.non=>true
 |.bl a,.bl b=>a==b
 |.bl a,.int b=>(if a then 1 else 0)==b
 |.int a,.bl b=>a==(if b then 1 else 0)
 |.int a,.int b=>a==b
 |.str a,.str b=>a==b
 |_,_=>false
theorem J1 (ry:RelV y u)(rx:RelV x v)(fy:gY y=true)(fx:gY x=true):SeqAt.EqAt A s u v (lu y x):=by
  cases y with
  |non=>
    cases ry
    cases x with
    |non=>cases rx;exact Zi _
    |bl b=>cases rx;exact SeqAt.EqAt.none_bool b
    |int b=>obtain⟨t,rfl⟩:=rx;exact SeqAt.EqAt.none_int b t
    |str b=>obtain⟨t,rfl⟩:=rx;exact SeqAt.EqAt.none_str b t
    |_=>exact absurd (show false=true from fx) WM
  |bl a=>
    cases ry
    cases x with
    |non=>cases rx;exact SeqAt.EqAt.bool_none a
    |bl b=>cases rx;exact SeqAt.EqAt.bool_bool a b
    |int b=>obtain⟨t,rfl⟩:=rx;exact SeqAt.EqAt.bool_int a b t
    |str b=>obtain⟨t,rfl⟩:=rx;exact SeqAt.EqAt.bool_str a b t
    |_=>exact absurd (show false=true from fx) WM
  |int a=>
    obtain⟨t',rfl⟩:=ry
    cases x with
    |non=>cases rx;exact SeqAt.EqAt.int_none a t'
    |bl b=>cases rx;exact SeqAt.EqAt.int_bool a t' b
    |int b=>obtain⟨t,rfl⟩:=rx;exact Zz a t' b t
    |str b=>obtain⟨t,rfl⟩:=rx;exact Zw a t' b t
    |_=>exact absurd (show false=true from fx) WM
  |str a=>
    obtain⟨t',rfl⟩:=ry
    cases x with
    |non=>cases rx;exact SeqAt.EqAt.str_none a t'
    |bl b=>cases rx;exact SeqAt.EqAt.str_bool a t' b
    |int b=>obtain⟨t,rfl⟩:=rx;exact Zx a t' b t
    |str b=>obtain⟨t,rfl⟩:=rx;exact ZC a t' b t
    |_=>exact absurd (show false=true from fx) WM
  |_=>exact absurd (show false=true from fy) WM
noncomputable def eE (x:V) (u:Value):Bool:=match u with
 |.none=>lu .non x
 |.bool b=>lu (.bl b) x
 |.int i _=>lu (.int i) x
 |.str z _=>lu (.str z) x
 |_=>false
theorem Fg (r:RelV y u)(f:gY y=true):eE x u=lu y x:=by
 cases y with
 |non=>cases r;rfl
 |bl b=>cases r;rfl
 |int i=>obtain⟨t,rfl⟩:=r;rfl
 |str z=>obtain⟨t,rfl⟩:=r;rfl
 |_=>exact absurd (show false=true from f) WM
theorem rN:∀{xs:List V} {us:List Value},Vals xs us->xs.all gY=true->us.any (eE x)=xs.any fun y=>lu y x
  |_,_,.nil,_=>rfl
  |y::xs,u::us,.cons r t,f=>by
    rw[Yv,W2]at f;rw[ZK,ZK,Fg r f.1,rN t f.2]
theorem tu (rx:RelV x v)(fx:gY x=true):∀{xs:List V} {us:List Value},Vals xs us->xs.all gY=true->∀u∈us,SeqAt.EqAt A s u v (eE x u)
  |_,_,.nil,_=>fun u hu=>by cases hu
  |y::xs,u::us,.cons r t,f=>fun u' hu=>by
    rw[Yv,W2]at f;rcases W6.mp hu with rfl |hu
    · rw[Fg r f.1];exact J1 r rx f.1 fx
    · exact tu rx fx t f.2 u' hu
def inV (x:V)(xs:List V):Bool:=xs.any fun y=>lu y x
noncomputable def wW (K:Fgx) (neg:Bool):R2:=fun x y H Q=>∃p xs,y=.ref p/\(aY K H p xs\/dD K H p xs)/\gY x=true/\xs.all gY=true/\Q (.bl (if neg then !inV x xs else inV x xs)) H
theorem Nz:bw X (compareOp .In) (wW X.K false):=by
 intro pins s σ H x y v u Q I rx ry h;obtain⟨p,xs,rfl,hq,fx,fs,q⟩:=h;cases ry;rcases hq with hq |hq
 ·obtain⟨its,r,pl,hz⟩:=I.list hq;refine SeqAt.in_listAt (eE x) pl.isList (fun w hw=>tu rx fx r fs w (by simpa using hw)) ⟨.bl _,H,I,rfl,?_⟩;rw[show its.toArray.any (eE x)=its.any (eE x) by simp,rN r fs];exact q
 ·obtain⟨its,r,pl,hz⟩:=I.tuple hq;refine SeqAt.in_tupleAt (eE x) pl (fun w hw=>tu rx fx r fs w (by simpa using hw)) ⟨.bl _,H,I,rfl,?_⟩;rw[show its.toArray.any (eE x)=its.any (eE x) by simp,rN r fs];exact q
theorem N_:bw X (compareOp .NotIn) (wW X.K true):=by
 intro pins s σ H x y v u Q I rx ry h;obtain⟨p,xs,rfl,hq,fx,fs,q⟩:=h;cases ry;rcases hq with hq |hq
 ·obtain⟨its,r,pl,hz⟩:=I.list hq;refine SeqAt.notIn_listAt (eE x) pl.isList (fun w hw=>tu rx fx r fs w (by simpa using hw)) ⟨.bl _,H,I,rfl,?_⟩;rw[show its.toArray.any (eE x)=its.any (eE x) by simp,rN r fs];exact q
 ·obtain⟨its,r,pl,hz⟩:=I.tuple hq;refine SeqAt.notIn_tupleAt (eE x) pl (fun w hw=>tu rx fx r fs w (by simpa using hw)) ⟨.bl _,H,I,rfl,?_⟩;rw[show its.toArray.any (eE x)=its.any (eE x) by simp,rN r fs];exact q
theorem JC:cY X (.builtin "len") (fun xs H Q=>∃p ys,xs=[.ref p]/\(aY X.K H p ys\/dD X.K H p ys)/\Q (.int ys.length) H):=by
 intro pins s σ H xs us Q I r h;obtain⟨p,ys,rfl,hq,q⟩:=h;obtain⟨u,rfl,rx⟩:=vals1 r;cases rx;have hn:=pN;rcases hq with hq |hq
 ·obtain⟨its,r',pl,hz⟩:=I.list hq;have hlen:=r'.length;exact Calls.call_len_list pl.isList (by simp only[Wr]<;>omega) ⟨.int ys.length,H,I.tok _,⟨s.toks + 1,by rw[Wr,hlen]⟩,q⟩
 ·obtain⟨its,r',pl,hz⟩:=I.tuple hq;have hlen:=r'.length;exact len_tuple pl (by simp only[Wr]<;>omega) ⟨.int ys.length,H,I.tok _,⟨s.toks + 1,by rw[Wr,hlen]⟩,q⟩
theorem JD:cY X (.builtin "len") (fun xs H Q=>∃z,xs=[.str z]/\z.length<=sizeLine/\Q (.int z.length) H):=by
 intro pins s σ H xs us Q I r h;obtain⟨z,rfl,hz,q⟩:=h;obtain⟨u,rfl,t,rfl⟩:=vals1 r;have hn:=pN;exact len_str (by omega) ⟨.int z.length,H,I.tok _,⟨_,rfl⟩,q⟩
theorem cY.or (h:cY X f r)(h':cY X f r'):cY X f (fun xs H Q=>r xs H Q\/r' xs H Q):=by
 intro pins s σ H xs us Q I rs q;rcases q with q |q
 ·exact h pins s σ H xs us Q I rs q
 ·exact h' pins s σ H xs us Q I rs q
theorem JF:cY X (.type "list") (fun xs H Q=>∃p ys,xs=[.ref p]/\(aY X.K H p ys\/dD X.K H p ys)/\∀l,H l=none->Q (.ref l) (upd H l (.lst ys))):=by
 intro pins s σ H xs us Q I r h;obtain⟨p,ys,rfl,hq,q⟩:=h;obtain⟨u,rfl,rx⟩:=vals1 r;cases rx;have fin:∀(its:List Value),Vals ys its->ys.length<=sizeLine->∀(h':Heap) (c':Nat),(∀b o',s.heap.get? b=some o'->h'.get? b=some o')->
   h'.get? s.heap.objs.size=some {cls:=.type "list",dict:=none,data:=.seq its.toArray c',slots:= #[]}->EP X pins σ Q (.ref s.heap.objs.size) {s with heap:=h'}:=fun its r' hz h' c' kp e=>
  ⟨.ref s.heap.objs.size,_,I.laid (t':=s.toks) kp (Wq _) (show cI X.prog X.w _ h' _ (.lst ys) from⟨hz,its,c',r',e⟩),rfl,q _ (I.hok.fresh (Wq _))⟩
 rcases hq with hq |hq
 ·obtain⟨its,r',pl,hz⟩:=I.list hq;have hlen:=r'.length;obtain⟨o,ho,hc,n,hd⟩:=pl.isList;exact call_list_seq p (.inl rfl) ho hc hd (fun h' c' kp e=>fin its r' hz h' c' kp e) (by simp only[Wr]<;>omega)
 ·obtain⟨its,r',pl,hz⟩:=I.tuple hq;have hlen:=r'.length;obtain⟨o,ho,hc,n,hd⟩:=pl;exact call_list_seq p (.inr rfl) ho hc hd (fun h' c' kp e=>fin its r' hz h' c' kp e) (by simp only[Wr]<;>omega)
theorem JH:cY X (.type "tuple") (fun xs H Q=>∃p ys,xs=[.ref p]/\((aY X.K H p ys/\∀l,H l=none->Q (.ref l) (upd H l (.tup ys)))\/(dD X.K H p ys/\Q (.ref p) H))):=by
 intro pins s σ H xs us Q I r h;obtain⟨p,ys,rfl,h⟩:=h;obtain⟨u,rfl,rx⟩:=vals1 r;cases rx;rcases h with⟨hq,q⟩ |⟨hq,q⟩
 ·obtain⟨its,r',pl,hz⟩:=I.list hq;have hlen:=r'.length;refine call_tuple_list pl.isList (fun h' kp=>?_) (by simp only[Wr]<;>omega)
  have I1:Inv X pins σ H {s with heap:=h'}:=I.kept (t':=s.toks) kp;have I2:Inv X pins σ (upd H h'.objs.size (.tup ys)) {s with heap:=h'.push {cls:=.type "tuple",data:=.seq its.toArray}}:=
   I1.laid (t':=s.toks) (fun b o e=>tG _ e) (Wq _) (show cI X.prog X.w _ _ _ (.tup ys) from⟨hz,its,r',IsTup.new _ _⟩)
  exact⟨.ref h'.objs.size,_,I2,rfl,q _ (I1.hok.fresh (Wq _))⟩
 ·obtain⟨its,r',pl,hz⟩:=I.tuple hq;exact call_tuple_same pl ⟨.ref p,H,I,rfl,q⟩
def Df (K:Fgx)(T:String)(x:V)(H:Hp):Prop:=match x with
 |.str _=>T="str"
 |.int _=>T="int"
 |.ref p=>(T="list"/\∃xs,aY K H p xs)\/(T="tuple"/\∃o,K.lookup p=some o/\o.cls=.type "tuple"/\o.dict=none)\/
   (T="dict"/\((∃kvs,H p=some (.dK kvs))\/∃kvs,H p=some (.dT kvs)))\/(T="set"/\∃S n,H p=some (.set S n))
 |_=>False
theorem Je (I:Inv X pins σ H s)(r:RelV x v)(ty:Df X.K T x H):
    s.TypeIs v T/\∀a,v=.ref a->∃ob,s.heap.get? a=some ob/\ob.dict=none:=by
  cases x with
  |str z=>
    obtain⟨t,rfl⟩:=r;cases (show T="str" from ty);exact⟨xau s z t,fun _ e=>nomatch e⟩
  |int i=>
    obtain⟨t,rfl⟩:=r;cases (show T="int" from ty);exact⟨typeIs_int s i t,fun _ e=>nomatch e⟩
  |ref p=>
    cases r;rcases ty with⟨rfl,xs,hq⟩ |⟨rfl,o,hk,hc,hd⟩ |⟨rfl,hk⟩ |⟨rfl,S,n,hk⟩
    · obtain⟨its,_,pl,_⟩:=I.list hq;refine⟨pl.isList.typeIs,fun a e=>?_⟩;cases e;obtain⟨o,n,e,c,hd,_⟩:=pl;exact⟨o,e,hd⟩
    · refine⟨⟨o,I.kIn p o hk,hc⟩,fun a e=>?_⟩;cases e;exact⟨o,I.kIn _ o hk,hd⟩
    · have z:∃o,s.heap.get? p=some o/\o.ExactDict:=by
        rcases hk with⟨kvs,hk⟩ |⟨kvs,hk⟩
        · obtain⟨_,_,_,_,o,_,_,e,ex,_⟩:=I.hok p _ hk;exact⟨o,e,ex⟩
        · obtain⟨_,_,_,_,o,_,_,e,ex,_⟩:=I.hok p _ hk;exact⟨o,e,ex⟩
      obtain⟨o,e,ex⟩:=z;refine⟨⟨o,e,ex.1⟩,fun a e2=>?_⟩;cases e2;exact⟨o,e,ex.2.1⟩
    · obtain⟨o,_,_,_,e,ex,_⟩:=I.hok p _ hk;refine⟨⟨o,e,ex.1⟩,fun a e2=>?_⟩;cases e2;exact⟨o,e,ex.2.1⟩
  |_=>exact False.elim ty
noncomputable def CG (K:Fgx) (T:String) (r:V->List V->Hp->VK->Prop) (to:TE):TE:=fun σ H Q=>to σ H fun x H1=>Df K T x H1/\r x [] H1 Q
noncomputable def Uh (K:Fgx) (T:String) (r:V->List V->Hp->VK->Prop) (to:TE) (t:TA):TE:=fun σ H Q=>to σ H fun x H1=>Df K T x H1/\t σ H1 fun xs H2=>r x xs H2 Q
variable {o e:Expr}{es:List Expr}{to:TE}{t:TA}{name:Str}{apos cpos:Pos}{T id:String}{r:V->List V->Hp->VK->Prop}
theorem Oh (pa:PlainAttrs T)(slot:Slot T name id)(hty:typeOf (.builtin id)=pure (.type "method_descriptor"))(hm:vG X id r)(ho:PE X o to)
  (hbase:attributeBase o name X.env (eval o X.env)=eval o X.env:=by rfl) (hline:(apos.endLine==cpos.line)=true:=by rfl):PE X (.Call (.Attribute o name apos) [] [] cpos) (CG X.K T r to):=by
 intro pins s σ H Q I h;refine wpAny_Call_method0_late hbase hline (aR (ho pins s σ H _ I h) fun v s1 ⟨x,H1,I1,r1,ty,q1⟩=>?_);obtain⟨h1,h2⟩:=Je I1 r1 ty;exact⟨T,id,pa,slot,hty,h1,h2,Calls.callWith_builtin rfl (PySem.evalArgs_none (hm pins s1 σ H1 x [] v [] Q I1 r1 .nil q1))⟩
theorem wO (pa:PlainAttrs T)(slot:Slot T name id)(hty:typeOf (.builtin id)=pure (.type "method_descriptor"))(hm:vG X id r)(ho:PE X o to)(ha:PA X (e::es) t)
  (hbase:attributeBase o name X.env (eval o X.env)=eval o X.env:=by rfl)
  (hfew : ((backTo cpos (starEach (e::es) X.env)).all (fun x=> !x.1) && (backToKw cpos (keywordEach [] X.env)).all (fun x=>x.1.isSome)
   && decide ((e::es).length + ([]:List Keyword).length + (if ([]:List Keyword).isEmpty then 0 else 1)<30))=true:=by rfl)
  (hline:(apos.endLine==cpos.line)=true:=by rfl) (hs:starEach (e::es) X.env=(false,eval e X.env)::starEach es X.env:=by rfl) (hplain:(backTo cpos (starEach es X.env)).any (·.1)=false:=by rfl):
  PE X (.Call (.Attribute o name apos) (e::es) [] cpos) (Uh X.K T r to t):=by
 intro pins s σ H Q I h;refine wpAny_Call_method_late hbase hfew hline rfl (aR (ho pins s σ H _ I h) fun v s1 ⟨x,H1,I1,r1,ty,q1⟩=>?_);obtain⟨h1,h2⟩:=Je I1 r1 ty;refine⟨T,id,pa,slot,hty,h1,h2,?_⟩;have hA:=ha cpos pins s1 σ H1 _ I1 q1;rw[hs]at hA ⊢;refine Calls.callWith_builtin (by show(false || (backTo cpos (starEach es X.env)).any (·.1))=false;rw[hplain]<;>rfl) (Calls.evalArgs_plain ?_)
 exact aR hA fun us s2 ⟨vs,H2,I2,r2,q2⟩=>hm pins s2 σ H2 x vs v us Q I2 r1 r2 q2
end
def yw (X:Cx)(id:String)(r:V->List V->Hp->VK->Prop):Prop:=
 ∀(pins:Pnx) (s:Shared) (σ:St) (H:Hp) (x:V) (xs:List V) (v:Value) (us:List Value) (Q:VK),Inv X pins σ H s->RelV x v->Vals xs us->r x xs H Q->
  wpAny (model X.prog X.w) X.A (call (.builtin id) (v::us)) (EP X pins σ Q) X.xe s
theorem Vals.one:∀{x:V} {us:List Value},Vals [x] us->∃u,us=[u]/\RelV x u
 |_,_,.cons r .nil=>⟨_,rfl,r⟩
theorem Vals.zero:∀{us:List Value},Vals [] us->us=[]
 |_,.nil=>rfl
section
variable {X:Cx}{pins:Pnx}{σ:St}{H:Hp}{s:Shared}{l b:Addr}{xs ys zs:List V}
theorem Inv.lset {its its':List Value}{n:Nat}{f:Array Value->Array Value}{t':Nat}(I:Inv X pins σ H s)(hH:H l=some (.lst xs))
  (e:s.heap.get? l=some {cls:=.type "list",data:=.seq its.toArray n}) (hf:f its.toArray=its'.toArray) (hv:Vals ys its') (hz:ys.length<=sizeLine):
  Inv X pins σ (upd H l (.lst ys)) {s with heap:=s.heap.update l (Obj.mapSeq f),toks:=t'}:=by
 have q:=PySem.IsL.update e f;rw[hf]at q;refine I.write (x:=l) (e:=l) (by rw[hH];exact trivial) (.inl rfl) (fun b' u hb hu=>(Xf s.heap (Obj.mapSeq f) (Yn hb)).trans hu) ⟨_,q⟩ ?_;exact⟨hz,its',_,hv,q⟩
theorem Inv.lnew (I:Inv X pins σ H s)(hv:Vals ys its)(hz:ys.length<=sizeLine):
  Inv X pins σ (upd H s.heap.objs.size (.lst ys)) {s with heap:=s.heap.push {cls:=.type "list",data:=.seq its.toArray},toks:=t'}:=
 I.laid (fun _ _ q=>tG _ q) (Wq _) ⟨hz,its,0,hv,WL _ rfl⟩
theorem Inv.fresh (I:Inv X pins σ H s):H s.heap.objs.size=none:=I.hok.fresh (Wq _)
theorem Inv.lstM (I:Inv X pins σ H s)(hH:H l=some (.lst xs)):xs.length<=sizeLine/\∃(its:List Value) (n:Nat),Vals xs its/\xs.length=its.length/\s.heap.get? l=some {cls:=.type "list",data:=.seq its.toArray n}:=by
 obtain⟨z,its,n,r,e⟩:=I.hok l _ hH;exact⟨z,its,n,r,r.length,e⟩
end
section
variable {X:Cx}
def QG:V->List V->Hp->VK->Prop:=fun x vs H Q=>∃l xs y,x=.ref l/\vs=[y]/\H l=some (.lst xs)/\xs.length<sizeLine/\Q .non (upd H l (.lst (xs ++ [y])))
theorem Ac:yw X "list.append" QG:=by
 intro pins s σ H x vs v us Q I rx rv h;obtain⟨l,xs,y,rfl,rfl,hH,hz,q⟩:=h;cases rx;obtain⟨u,rfl,ru⟩:=rv.one;obtain⟨z,its,n,r,hl,e⟩:=I.lstM hH;refine call_meets F.slot_list_append ⟨_,e,rfl⟩ F.entry_list_append (F.args_list_append_2 _ _) (PySem.list_append l its.toArray n u (by rw[Wr];omega)) ⟨e,?_⟩;refine⟨.non,_,I.lset (its':=its ++ [u]) hH e (by simp) (r.append (.cons ru .nil)) ?_,rfl,q⟩;rw[Wz,XJ];omega
end
end L2
namespace Att
open PySem PySem.W PySem.Calls PyProof.Rows
theorem KC:∀(ns:List Int) (vs:List Value),WellAll P h vs (ns.map WData.int)->IntsAre vs ns:=by
  intro ns
  induction ns with
  |nil=>
    intro vs w;rw[List.map_nil]at w;cases w;exact .nil
  |cons n ns ih=>
    intro vs w;rw[X7]at w
    cases w with
    |cons a b=>
      cases a;exact .cons _ _ (ih _ b)
theorem S5 {l:OpenLaw}{n:Nat}(hn:l.most=some n){P:Params}{h:Heap}{args:List WData}{vals:List Value}
    (hpre:l.row.toRowW.claim.pre args=true) (hwl:WellAll P h vals args):
    ∃a vs ns,vals=[Value.ref a]/\args=[WData.list (ns.map WData.int)]/\h.get? a=some {cls:=.type "list",data:=.seq vs.toArray}/\IntsAre vs ns/\ns.length<=n:=by
  have hsh:WShape.hasAll [] args [.list .int]=true:=(pre_splitW hpre).1;have hc:l.pre.holds [] {args:=args}=true:=(pre_splitW hpre).2;obtain⟨d,r,rfl,h1,h2⟩:=hasAllW_cons hsh;obtain rfl:=hasAllW_nil h2;obtain⟨xs,rfl,h3⟩:=hasW_list h1;obtain⟨ns,rfl⟩:=items_int h3;have hlen:ns.length<=n:=by
    unfold OpenLaw.pre at hc;have h4:(WTm.not (.lt (.lit (.int (n:Int))) (.len (.arg 0)))).holds [] {args:=[.list (ns.map .int)]}=true:=by
      have h4:=(holds_andW hc).1;rw[hn]at h4;exact h4
    have h5:=condW_of h4 (w_not (w_lt w_lit (w_len_list (w_arg rfl))));rw[WK]at h5;refine Z_ fun q=>?_;have q':(n:Int)<((ns.length:Nat):Int):=by omega
    first
      |(rw[decide_eq_true q']at h5;exact absurd h5 (by decide))
      |(simp at h5;omega)
  cases hwl with
  |cons w1 w2=>
    cases w2
    cases w1 with
    |list ho hall=>exact⟨_,_,ns,rfl,rfl,ho,KC ns _ hall,hlen⟩
theorem O6 (l:OpenLaw)(args:List WData):l.row.toRowW.claim.post args (.bool true) args=true:=
 postW_of (r:=l.row.toRowW) (X:=(true==true))
  (show WShape.has [] (.bool true) .bool=true by first |rfl |decide |simp[WShape.has,WShape.arms,WShape.armsAll])
  (show(WTm.eq .res (.lit (.bool true))).value [] {args:=args,res:=some (.bool true),after:=args}=some (.bool (true==true)) from w_eq_bool (w_res rfl) w_lit) rfl
theorem Js {l:OpenLaw}{n:Nat}{q:Program}{loose:List Str}{XP:(Mgx)->Heap->Prop}{YP:World->Heap->Prop}{d:DefRec}
  (hn:l.most=some n) (hdf:d.params.defaults=[])
  (call:∀(w:World) (s₀ s₁:Shared) (mg mb:Mgx) (fa:Addr) (o:Obj) (pm cd doc:Value) (a:Addr) (vs:List Value) (ns:List Int),
   Ground q loose [] XP w s₀ mg mb s₁.heap->YP w s₁.heap->
   s₁.heap.get? fa=some o->o.data=.func (docDef d.name d.params d.body d.scope pm cd doc)->s₁.heap.CodeRec cd d.name->mg d.name=some (.ref fa)->
   s₁.heap.get? a=some {cls:=.type "list",data:=.seq vs.toArray}->IntsAre vs ns->ns.length<=n->s₁.gens= #[]->
   codeAny (model l.prog w) callerA (.call (.ref fa) ⟨[.ref a],[]⟩) (fun r s'=>r=.ok (.ret (.bool true))/\OldK s₁.heap s'.heap/\s'.os=s₁.os/\AllBare s'.gens) s₁):
  WalkO q loose XP YP l.row.toRowW d [] (fun f vs=>PySem.call f vs):=by
 intro w s₀ s₁ mg mb G Y fa o pm cd doc dV kV ho hd hcd hD hmg hg args vals as hpre hlay hrd hwl hlo;obtain rfl:dV=.none:=Dflts.none hD hdf;obtain rfl:kV=.none:=Dflts.noKw hD;obtain⟨a,vs,ns,rfl,rfl,hobj,hints,hlen⟩:=S5 hn hpre hwl;refine enter_call (Zh (call w s₀ s₁ mg mb fa o pm cd doc a vs ns G Y ho (fd_plain hd) hcd hmg hobj hints hlen hg) fun r s' hq=>?_);obtain⟨rfl,h2,h3,h4⟩:=hq;exact⟨.inl ⟨.bool true,.bool true,[],rfl,fun _=>rfl,.bool true,O6 l _,fun _=>⟨List.Pairwise.nil,fun _ hm=>(nomatch hm)⟩⟩,h2,h3,h4⟩
end Att
namespace L2
open PySem PySem.Spec PyProof.Rows
theorem Jg:∀{vs:List Value} {ns:List Int},IntsAre vs ns->Vals (ns.map V.int) vs
 |_,_,.nil=>.nil
 |_,_,.cons n t h=>.cons ⟨t,rfl⟩ (Jg h)
noncomputable def cg (s:Stmt):Arguments:=match s with
 |.FunctionDef _ a _ _ _ _ _ _ _ _=>a
 |_=>{posonlyargs:=[],args:=[],vararg:=none,kwonlyargs:=[],kw_defaults:=[],kwarg:=none,defaults:=[]}
noncomputable def bC (s:Stmt):List Stmt:=match s with
 |.FunctionDef _ _ b _ _ _ _ _ _ _=>b
 |_=>[]
noncomputable def aF (s:Stmt):Scope:=match s with
 |.FunctionDef _ _ _ _ _ _ sc _ _ _=>sc
 |_=>{kind:=.function,names:=[],isGenerator:=false,isCoroutine:=false}
abbrev dI:dJ:=fun _ _ _ _ _ _=>False
abbrev E0:XK:=fun _ _ _=>False
theorem Oc:Passes dI X E0:=fun _ _ _ _ _ _ _ h=>h.elim
structure Fun (K:Fgx)(x qual:Str)(st:Stmt)(f:Addr)(fd:FuncData):Prop where
 ex:∃(oc:Value) (od:Option Addr) (kV doc pm:Value) (an:Option Addr) (cdv ct:Value) (osl:Array (Option Value)),
  fd=PySem.W.fnOf x qual (cg st) (bC st) (aF st) .none kV doc pm an cdv ct/\K.lookup f=some ⟨oc,od,.func fd,osl⟩/\PySem.W.codeIn K cdv qual=true
 kp:PySem.W.keepIn K (.ref f)=true
section
variable {P:Program}{w:World}{K:Fgx}{mg:Mgx}{base:Heap}
theorem Fun.binds {x qual:Str}{st:Stmt}{f:Addr}{fd:FuncData}{ps:List Str}(F:Fun K x qual st f fd)
  (h:∀(kV doc pm:Value) (an:Option Addr) (cdv ct:Value) (us:List Value),us.length=ps.length->bindArgs (PySem.W.fnOf x qual (cg st) (bC st) (aF st) .none kV doc pm an cdv ct) ⟨us,[]⟩=pure (ps.zip us)):Binds K fd ps []:=by
 obtain⟨oc,od,kV,doc,pm,an,cdv,ct,osl,rfl,lk,hcd⟩:=F.ex;exact .all (h kV doc pm an cdv ct)
theorem Fv {x qual:Str}{st:Stmt}{f:Addr}{oc:Value}{od an:Option Addr}{osl:Array (Option Value)}{kV doc pm cdv ct:Value}(l:K.lookup f=some ⟨oc,od,.func (PySem.W.fnOf x qual (cg st) (bC st) (aF st) .none kV doc pm an cdv ct),osl⟩)
  (c:PySem.W.codeIn K cdv qual=true) (k:PySem.W.keepIn K (.ref f)=true):Fun K x qual st f (PySem.W.fnOf x qual (cg st) (bC st) (aF st) .none kV doc pm an cdv ct):=⟨⟨oc,od,kV,doc,pm,an,cdv,ct,osl,rfl,l,c⟩,k⟩
end
def Same (H H':Hp):Prop:=∀b o,H b=some o->H' b=some o
theorem Same.refl (H:Hp):Same H H:=fun _ _ h=>h
theorem Same.trans (a:Same H H1)(b:Same H1 H2):Same H H2:=fun c o h=>b c o (a c o h)
theorem Same.free (e:Same H H')(h:H' l=Option.none):H l=Option.none:=by
  cases q:H l with
  |none=>rfl
  |some o=>
    rw[e l o q]at h;cases h
end L2
set_option maxHeartbeats 0
namespace L2
open PySem PySem.Spec PyProof.Rows
section
variable {κ:Type}[DecidableEq κ]
noncomputable def eX (kvs:List (κ×V)) (k:κ):Option V:=(kvs.find? fun kv=>decide (kv.1=k)).map (·.2)
noncomputable def putK (kvs:List (κ×V)) (k:κ) (v:V):List (κ×V):=
 if (kvs.any fun kv=>decide (kv.1=k))=true then kvs.map (fun kv=>if kv.1=k then(kv.1,v) else kv) else kvs ++ [(k,v)]
theorem Wm {p:κ×V}{r:List (κ×V)}{k:κ}(e:p.1=k):eX (p::r) k=some p.2:=by simp[eX,List.find?_cons,e]
theorem Wl {p:κ×V}{r:List (κ×V)}{k:κ}(e:¬ p.1=k):eX (p::r) k=eX r k:=by simp[eX,List.find?_cons,e]
end
abbrev KT (H:Hp):List (List Key×V)->List (List Key×Addr×Value)->Prop:=Paired fun p q=>p.1=q.1/\H q.2.1=some (.tup (p.1.map kV))/\RelV p.2 q.2.2
def Jl (H:Hp)(a:Addr)(y:V)(r:Option V):Prop:=
 (∃kvs k,Rd H a (.dK kvs)/\y=kV k/\r=eX kvs k)\/∃kvs k b,Rd H a (.dT kvs)/\y=.ref b/\H b=some (.tup (k.map kV))/\r=eX kvs k
def Jm (H:Hp)(a:Addr)(y v:V)(H':Hp):Prop:=
 (∃kvs k,H a=some (.dK kvs)/\y=kV k/\kvs.length<sizeLine/\H'=upd H a (.dK (putK kvs k v)))\/
 ∃kvs k b,H a=some (.dT kvs)/\y=.ref b/\H b=some (.tup (k.map kV))/\kvs.length<sizeLine/\H'=upd H a (.dT (putK kvs k v))
structure M1 (X:Cx)(o:Expr)(m:Str)(apos:Pos)(e:Expr)(cpos:Pos):Prop where
 base:attributeBase o m X.env (eval o X.env)=eval o X.env
 few : ((backTo cpos (starEach [e] X.env)).all (fun x=> !x.1) && (backToKw cpos (keywordEach [] X.env)).all (fun x=>x.1.isSome)
  && decide (([e]:List Expr).length + ([]:List Keyword).length + (if ([]:List Keyword).isEmpty then 0 else 1)<30))=true
 line:(apos.endLine==cpos.line)=true
 trees:backTo cpos (starEach [e] X.env)=[(false,eval e X.env)]
structure M2 (X:Cx)(o:Expr)(m:Str)(apos:Pos)(e f:Expr)(cpos:Pos):Prop where
 base:attributeBase o m X.env (eval o X.env)=eval o X.env
 few : ((backTo cpos (starEach [e,f] X.env)).all (fun x=> !x.1) && (backToKw cpos (keywordEach [] X.env)).all (fun x=>x.1.isSome)
  && decide (([e,f]:List Expr).length + ([]:List Keyword).length + (if ([]:List Keyword).isEmpty then 0 else 1)<30))=true
 line:(apos.endLine==cpos.line)=true
 trees:backTo cpos (starEach [e,f] X.env)=[(false,eval e X.env),(false,eval f X.env)]
end L2
namespace Att
open PySem PySem.W PySem.Calls PyProof.Rows
end Att
namespace L2
open PySem PySem.Spec PyProof.Rows
noncomputable def Its (z:Str):It:=⟨fun i _=>i<z.cps.size,fun i H x H'=>H'=H/\∃c,z.cps[i]? =some c/\x=.str ⟨#[c]⟩,fun i _=>i=z.cps.size⟩
theorem Kr (hQ:Q () s):wpAny M A (letOwnedTupleGo tg (.ref it) (.str x t)) Q E s:=by
 unfold letOwnedTupleGo;cases tg<;>exact Wt hQ
theorem Jb {P:Program}{w:World}{K:Fgx}{tg:Expr}{ty:String}{z:Str}{t:Tok}{it:Addr}
  (W:∀A:Around,A.handled=none->Walks P w A it [it] [it] z.cps.size (SignAt z) (fun i h=>h.IsStrIter it ty z t i))
  (hself:∀(A:Around) (i:Nat) (s:Shared) (Q:Value->Shared->Prop) (E:Value->Shared->Prop),s.heap.IsStrIter it ty z t i->Q (.ref it) s->wpAny (model P w) A (pyIter (.ref it)) Q E s):
  Turn P w K tg (Its z) [it] it (fun i h=>h.IsStrIter it ty z t i) where
 mem:=by simp
 obj:=fun i h st b hb=>by
  have e:b=it:=by simpa using hb
  subst e;obtain⟨o,e,c,d⟩:=st;exact⟨o,e,fun v z=>by rw[d]at z;cases z⟩
 keep:=fun i h h' st k=>by
  obtain⟨o,e,c,d⟩:=st;exact⟨o,k it (by simp) o e,c,d⟩
 item:=by
  intro X hP hw hK hc i pins s σ H E I hf st hg;subst hP hw hK;obtain⟨f0,f1,f2,f3,f4,f5⟩:=hf it (by simp);refine(W X.A (I.ok.hd hc)).item i s _ _ hg st fun v h' tk hv st' kk=>?_;obtain⟨c,u,hcc,rfl⟩:=hv;have I1:Inv X pins σ H {s with heap:=h',toks:=tk}:=I.turned (fun b o hb e=>kk b o (by simpa using hb) e) f0 f1 f3 f4 f5;exact⟨_,rfl,Kr ⟨.str ⟨#[c]⟩,H,I1,⟨_,rfl⟩,⟨rfl,c,hcc,rfl⟩,st',fun b hb=>(hf b hb).1⟩⟩
 done:=by
  intro X hP hw hK hc i pins s σ H E I hf st hg;subst hP hw hK;have hg':i=z.cps.size:=hg;subst hg';obtain⟨f0,f1,f2,f3,f4,f5⟩:=hf it (by simp);exact(W X.A (I.ok.hd hc)).done s _ _ st fun h' tk kk=>⟨rfl,I.turned (fun b o hb e=>kk b o (by simpa using hb) e) f0 f1 f3 f4 f5⟩
 self:=fun A i s Q E st q=>hself A i s Q E st q
section
variable {X:Cx}{tg:Expr}
noncomputable def zP (tl:TE):TI:=fun σ H R=>tl σ H fun x H1=>∃z,x=.str z/\R (Its z) H1
theorem O1 {l:Expr}{tl:TE}(hl:PE X l tl):PI X tg l (zP tl):=by
 intro pins s σ H R I h;refine aR (hl pins s σ H _ I h) fun v s1 ⟨x,H1,I1,r1,q1⟩=>?_;obtain⟨z,e,q⟩:=q1;subst e;obtain⟨t,e⟩:=r1;subst e;have fp:∀b∈ [s1.heap.objs.size],bY X pins H1 b:=fun b hb=>by
  have e:b=s1.heap.objs.size:=by simpa using hb
  subst e;exact I1.fpOk (Wq _) (I1.hok.fresh (Wq _))
 cases ha:z.cps.all (· <128)
 ·refine wpAny_pyIter_wide ha ?_;exact ⟨s1.heap.objs.size,[s1.heap.objs.size],_,_,H1,rfl,I1.kept (t':=s1.toks) fun b o e=>tG _ e,
   Jb (ty:="str_iterator") (z:=z) (t:=t) (fun A hA=>Walks.strWide hA _ z t) (fun _ _ _ _ _ st q=>wpAny_pyIter_striter_wide st q),⟨_,WL _ rfl,rfl,rfl⟩,fp,q⟩
 ·refine wpAny_pyIter_ascii ha ?_;exact ⟨s1.heap.objs.size,[s1.heap.objs.size],_,_,H1,rfl,I1.kept (t':=s1.toks) fun b o e=>tG _ e,
   Jb (ty:="str_ascii_iterator") (z:=z) (t:=t) (fun A hA=>Walks.strAscii hA _ z t) (fun _ _ _ _ _ st q=>wpAny_pyIter_striter_ascii st q),⟨_,WL _ rfl,rfl,rfl⟩,fp,q⟩
end
section
variable {X:Cx}
def Hg:V->List V->Hp->VK->Prop:=fun x vs H Q=>∃z y i rest,x=.str z/\vs=[.str y]/\Builtin.Str.occurrences z y 0 z.length 1=i::rest/\Q (.int (i:Nat)) H
theorem Ae:vG X "str.index" Hg:=by
 intro pins s σ H x vs v us Q I rx rv h;obtain⟨z,y,i,rest,rfl,rfl,ho,q⟩:=h;obtain⟨t,rfl⟩:=rx;obtain⟨u,rfl,t',rfl⟩:=rv.one;exact call_givesAt (P:=fun _=>True) F.slot_str_index (xau _ _ _) F.entry_str_index (F.args_str_index_2 _ _) (fun prog w A R s _ h=>gives_str_index z y t t' i rest ho prog w A R s h) True.intro ⟨.int _,H,I.tok _,⟨_,rfl⟩,q⟩
def Bu:V->Option Int->Option Int->Hp->VK->Prop:=fun x lo hi H Q=>∃z,x=.str z/\z.length<=sizeLine/\Q (.str (Txt.slice z lo hi)) H
theorem Ti:mY X Bu:=by
 intro pins s σ H x v vl vu lo hi sl Q I rx hs pl pu h;obtain⟨z,rfl,hz,q⟩:=h;obtain⟨t,rfl⟩:=rx;refine⟨"str",_,F.slot_str_getitem.lookup,xau _ _ _,?_⟩;obtain⟨o,ho,hc,hd⟩:=hs;cases pl<;>cases pu
 ·exact Ys (l:=none) (u:=none) (st:=none) ⟨o,ho,hc,hd⟩ rfl (Zj ⟨W5 (xaa z none none) hz,fun t' k=>⟨.str _,H,I.tok _,⟨_,rfl⟩,q⟩⟩)
 ·rename_i j uj;exact Ys (l:=none) (u:=some (j,uj)) (st:=none) ⟨o,ho,hc,hd⟩ rfl (Zj ⟨W5 (xaa z none (some j)) hz,fun t' k=>⟨.str _,H,I.tok _,⟨_,rfl⟩,q⟩⟩)
 ·rename_i i ui;exact Ys (l:=some (i,ui)) (u:=none) (st:=none) ⟨o,ho,hc,hd⟩ rfl (Zj ⟨W5 (xaa z (some i) none) hz,fun t' k=>⟨.str _,H,I.tok _,⟨_,rfl⟩,q⟩⟩)
 ·rename_i i ui j uj;exact Ys (l:=some (i,ui)) (u:=some (j,uj)) (st:=none) ⟨o,ho,hc,hd⟩ rfl (Zj ⟨W5 (xaa z (some i) (some j)) hz,fun t' k=>⟨.str _,H,I.tok _,⟨_,rfl⟩,q⟩⟩)
theorem NP:bw X (compareOp .Is) (fun x y H Q=>∃b,y=.bl b/\Q (.bl (decide (x=.bl b))) H):=by
 intro pins s σ H x y v u Q I rx ry h;obtain⟨b,rfl,q⟩:=h;cases ry
 cases x with
 |bl c=>cases rx;exact Wt (aX I q (by cases b<;>cases c<;>rfl))
 |non=>cases rx;exact Wt (aX I q (by simp))
 |int _=>obtain⟨t,rfl⟩:=rx;exact Wt (aX I q (by simp))
 |str _=>obtain⟨t,rfl⟩:=rx;exact Wt (aX I q (by simp))
 |byt _=>obtain⟨t,rfl⟩:=rx;exact Wt (aX I q (by simp))
 |flt _=>obtain⟨t,rfl⟩:=rx;exact Wt (aX I q (by simp))
 |ref _=>cases rx;exact Wt (aX I q (by simp))
 |ty _=>cases rx;exact Wt (aX I q (by simp))
theorem NZ:bw X (compareOp .IsNot) (fun x y H Q=>∃b,y=.bl b/\Q (.bl (!decide (x=.bl b))) H):=by
 intro pins s σ H x y v u Q I rx ry h;obtain⟨b,rfl,q⟩:=h;cases ry
 cases x with
 |bl c=>cases rx;exact Wt (aX I q (by cases b<;>cases c<;>rfl))
 |non=>cases rx;exact Wt (aX I q (by simp))
 |int _=>obtain⟨t,rfl⟩:=rx;exact Wt (aX I q (by simp))
 |str _=>obtain⟨t,rfl⟩:=rx;exact Wt (aX I q (by simp))
 |byt _=>obtain⟨t,rfl⟩:=rx;exact Wt (aX I q (by simp))
 |flt _=>obtain⟨t,rfl⟩:=rx;exact Wt (aX I q (by simp))
 |ref _=>cases rx;exact Wt (aX I q (by simp))
 |ty _=>cases rx;exact Wt (aX I q (by simp))
end
section
variable {X:Cx}{pins:Pnx}{σ:St}{H:Hp}{s:Shared}
theorem Eh:cY X (.type "int") (fun xs H Q=>∃z n,xs=[.str z]/\intText? z=some n/\z.length<=640/\Q (.int n) H):=by
 intro pins s σ H xs us Q I r h;obtain⟨z,n,rfl,h1,h2,q⟩:=h;obtain⟨u,rfl,t,rfl⟩:=vals1 r;exact W.KIN.call_text h1 h2 ⟨.int n,H,I.tok _,⟨_,rfl⟩,q⟩
end
section
variable {X:Cx}{pins:Pnx}{σ:St}{H:Hp}{s:Shared}{h':Heap}
theorem Inv.turnedL {t':Nat}{fp:List Addr}(I:Inv X pins σ H s)(k:∀b o,b∉fp->s.heap.get? b=some o->h'.get? b=some o)(hf:∀b∈fp,bY X pins H b):Inv X pins σ H {s with heap:=h',toks:=t'}:=by
 refine I.step (g':=s.gens) (d':=s.drawn) (ch:=fp) (fun b hb=>⟨(hf b hb).2.2.2.1,(hf b hb).2.1,(hf b hb).2.2.2.2.1,(hf b hb).2.2.2.2.2⟩) (fun b o _ _ hc e _=>k b o hc e) (fun b o _ _ hc e _=>⟨o.slots,k b o hc e⟩) (fun _ _ _ _ n=>n)
  (fun b o hc e=>⟨o,k b o hc e⟩) (fun _ _ e=>e) (fun _ _ _ e=>e) (fun b ps e=>⟨#[],by rw[e];simp⟩) (fun m hm=>?_) (fun b u e=>?_) I.bare
 ·obtain⟨o,es,ep,ho,r⟩:=hm;exact⟨o,es,ep,k _ o (fun z=>(hf _ z).2.1 rfl) ho,r⟩
 ·refine(I.hok b u e).stay (fun c v hc q=>k c v (fun z=>?_) q) (fun _ q=>q) fun _ _ q=>q;have hn:=(hf c z).1;rcases hc with y |y
  ·rw[y,e]at hn;cases hn
  ·rw[y]at hn;cases hn
theorem Inv.turnLaid {t':Nat}{fp:List Addr}{T:Addr}{o:HO}(I:Inv X pins σ H s)(k:∀b u,b∉fp->s.heap.get? b=some u->h'.get? b=some u)(hf:∀b∈fp,bY X pins H b)(hp:s.heap.objs.size<=T)(new:cI X.prog X.w (upd H T o) h' T o):
  Inv X pins σ (upd H T o) {s with heap:=h',toks:=t'}:=by
 have hn:H T=none:=I.hok.fresh hp;have neT:∀b u,s.heap.get? b=some u->b≠T:=fun b u e=>WQ (Wo (Ws e) hp);refine I.step (g':=s.gens) (d':=s.drawn) (ch:=fp) (fun b hb=>⟨(hf b hb).2.2.2.1,(hf b hb).2.1,(hf b hb).2.2.2.2.1,(hf b hb).2.2.2.2.2⟩) (fun b o _ _ hc e _=>k b o hc e) (fun b o _ _ hc e _=>⟨o.slots,k b o hc e⟩) (fun b u _ e n=>by rw[aM (neT b u e)];exact n)
  (fun b o hc e=>⟨o,k b o hc e⟩) (fun b xs e=>by rw[aM (gJ e hn)];exact e) (fun b u xs e=>by rw[aM (gJ e hn)];exact e) (fun b ps e=>⟨#[],by rw[aM (gJ e hn),e];simp⟩) (fun m hm=>?_) (fun b u e=>?_) I.bare
 ·obtain⟨o,es,ep,ho,r⟩:=hm;exact⟨o,es,ep,k _ o (fun z=>(hf _ z).2.1 rfl) ho,r⟩
 ·by_cases hb:b=T
  ·subst hb;rw[bJ]at e;cases e;exact new
  ·rw[aM hb]at e;refine(I.hok b u e).stay (fun c v hc q=>k c v (fun z=>?_) q) (fun c q=>by rw[aM (gJ q hn)];exact q) fun c xs q=>by rw[aM (gJ q hn)];exact q
   have hn':=(hf c z).1;rcases hc with y |y
   ·rw[y,e]at hn';cases hn'
   ·rw[y]at hn';cases hn'
end
abbrev TJ:=Str->St->Hp->VK->Prop
theorem Fo (g:α->β->β):∀(l:List α) (b:β),(∀x∈l,∀b,f x b=pure (.yield (g x b)))->(forIn l b f:Sem β)=pure (l.foldl (fun b x=>g x b) b)
  | [],b,_=>rfl
  |x::l,b,h=>by
    rw[xak,h x Xu b];simp only[pure_bind,xal];exact Fo g l (g x b) fun y hy=>h y (W4 _ hy)
noncomputable def gW (cells:List (Str×Addr)) (cs:List (Str×Addr)) (x:Str×NameKind):List (Str×Addr):=if x.2=.free then(x.1,(cells.lookup x.1).getD 0)::cs else cs
noncomputable def cA (cells:List (Str×Addr)) (names:List (Str×NameKind)):List (Str×Addr):=names.foldl (gW cells) []
theorem En (h:∀y∈scope.names,y.2=.free->∃c,env.cells.lookup y.1=some c):closureFor scope env=pure (cA env.cells scope.names):=by
 simp only [closureFor];rw [Fo (fun x cs => gW env.cells cs x) scope.names [] (fun x hx c=>by
  obtain⟨n,kind⟩:=x
  by_cases hk:kind=.free
  ·obtain⟨a,ha⟩:=h _ hx hk;subst hk;have ha':env.cells.lookup n=some a:=ha
   simp[cellOf,ha',gW]
  ·have hk':(kind==NameKind.free)=false:=by simpa using hk
   simp[hk',hk,gW])]
 rfl
theorem Em:∀(names:List (Str×NameKind)) (acc:List (Str×Addr)),(∀y∈names,y.2=.free->∃c,cells.lookup y.1=some c)->
    (∀x c,acc.lookup x=some c->cells.lookup x=some c)->∀x c,(names.foldl (gW cells) acc).lookup x=some c->cells.lookup x=some c
  | [],_,_,h,x,c,e=>h x c e
  |(n,k)::r,acc,hc,h,x,c,e=>by
    rw[xal]at e;refine Em r _ (fun y hy=>hc y (W4 _ hy)) ?_ x c e;intro y d hd;unfold gW at hd
    by_cases hk:k=.free
    · obtain⟨a,ha⟩:=hc (n,k) Xu hk;have ha':cells.lookup n=some a:=ha;simp only[hk,X6,ha',YH,Yb]at hd
      cases hyn:y==n with
      |true=>
        rw[hyn]at hd;have e2:=eq_of_beq hyn;subst e2;exact ha'.trans hd
      |false=>
        rw[hyn]at hd;exact h y d hd
    · simp only[hk,Yy]at hd;exact h y d hd
theorem zc:∀(names:List (Str×NameKind)) (acc:List (Str×Addr)) (x:Str),((x,NameKind.free)∈names\/∃c,acc.lookup x=some c)->∃c,(names.foldl (gW cells) acc).lookup x=some c
  | [],acc,x,h=>by
    rcases h with h |h
    · exact absurd h (by simp)
    · exact h
  |(n,k)::r,acc,x,h=>by
    rw[xal];refine zc r _ x ?_;have keep:(∃c,acc.lookup x=some c)->∃c,(gW cells acc (n,k)).lookup x=some c:=fun⟨c,hc⟩=>by
      unfold gW
      by_cases hk:k=.free
      · simp only[hk,X6,Yb]
        cases hxn:x==n with
        |true=>exact⟨_,rfl⟩
        |false=>exact⟨c,hc⟩
      · simp only[hk,Yy];exact⟨c,hc⟩
    rcases h with h |h
    · rcases W6.mp h with h |h
      · cases h;refine .inr ?_;unfold gW;simp only[X6,Yb,Xl];exact⟨_,rfl⟩
      · exact .inl h
    · exact .inr (keep h)
noncomputable def cu (psc:Scope) (names:List (Str×NameKind)):List (Str×NameKind):=names.map fun(n,k)=>if (k==.free && psc.kind==.function && psc.names.lookup n==some .cell) then(n,.cell) else(n,k)
theorem tV:∀{names:List (Str×NameKind)} {x:Str} {k':NameKind},(cu psc names).lookup x=some k'->(k'=.cell\/k'=.free)->(∀y∈names,y.2≠ .cell)->(x,NameKind.free)∈names
  | [],_,_,h,_,_=>by simp[cu]at h
  |(n,k)::r,x,k',h,hk,hn=>by
    have ih:= @tV psc r x k';have h':List.lookup x ((if (k==NameKind.free && psc.kind==.function && psc.names.lookup n==some .cell)=true then(n,NameKind.cell) else(n,k))::cu psc r)=some k':=h
    cases hx:x==n with
    |true=>
      have e:=eq_of_beq hx;subst e
      by_cases hc:(k==NameKind.free && psc.kind==.function && psc.names.lookup x==some .cell)=true
      · have hkf:k=.free:=by
          cases k<;>first |rfl |(exfalso;simp at hc)
        rw[hkf];exact Xu
      · rw[WY hc]at h';simp only[Yb,Xl]at h';have e2:k=k':=W3 h';subst e2;rcases hk with hk |hk
        · exact absurd hk (hn (x,k) Xu)
        · rw[hk];exact Xu
    |false=>
      refine W4 _ (ih ?_ hk fun y hy=>hn y (W4 _ hy))
      by_cases hc:(k==NameKind.free && psc.kind==.function && psc.names.lookup n==some .cell)=true
      · rw[Wv hc]at h';simp only[Yb,hx]at h';exact h'
      · rw[WY hc]at h';simp only[Yb,hx]at h';exact h'
noncomputable def dF (cs:List (Str×Nat)) (σ:St):St:=cs.map fun p=>(σ[p.2]?).join
abbrev cU (X:Cx)(Nc:List Str)(scope:Scope)(cl:List (Str×Addr))(C:Addr)(s₀:Shared)(H₀:Hp)(ex:List Addr)(pn:Pnx):Cx:=
 {X with N:=Nc,s₀:=s₀,H₀:=H₀,env:=compEnvC scope cl C X.env,outer:=X.stack,ex:=ex,fn:=fun _=>false,pn:=pn,xe:=fun _ _=>False}
noncomputable def pH (N:List Str) (psc:Scope) (x:Str) (cs:List (Str×Nat)) (scope:Scope):Bool:=
 scope.kind==.function && scope.names.lookup x==some .local && decide ((x::cs.map (·.1)).Nodup) &&
 scope.names.all (fun y=>y.2 !=.cell && (y.2 !=.local || scope.names.lookup y.1==some .local) && (y.2 !=.free || (psc.names.lookup y.1==some .cell || psc.names.lookup y.1==some .free))) &&
 cs.all (fun p=>N[p.2]? ==some p.1 && (psc.names.lookup p.1==some .cell || psc.names.lookup p.1==some .free) && ((cu psc scope.names).lookup p.1==some .cell || (cu psc scope.names).lookup p.1==some .free))
structure CompOk (N:List Str)(psc:Scope)(x:Str)(cs:List (Str×Nat))(scope:Scope):Prop where
 kind:scope.kind=.function
 own:scope.names.lookup x=some .local
 nd:(x::cs.map (·.1)).Nodup
 cell:∀y∈scope.names,y.2≠ .cell
 names:∀y∈scope.names,y.2=.local->scope.names.lookup y.1=some .local
 has:∀y∈scope.names,y.2=.free->psc.names.lookup y.1=some .cell\/psc.names.lookup y.1=some .free
 cap:∀p∈cs,N[p.2]? =some p.1/\(psc.names.lookup p.1=some .cell\/psc.names.lookup p.1=some .free)/\((cu psc scope.names).lookup p.1=some .cell\/(cu psc scope.names).lookup p.1=some .free)
theorem CompOk.of (h:pH N psc x cs scope=true):CompOk N psc x cs scope:=by
 unfold pH at h;simp only[W2,Bool.or_eq_true,XF,Z4,Xw,bne_iff_ne,ne_eq]at h;obtain⟨⟨⟨⟨h1,h2⟩,h3⟩,h4⟩,h5⟩:=h;refine⟨h1,h2,h3,fun y hy=>(h4 y hy).1.1,fun y hy e=>?_,fun y hy e=>?_,fun p hp=>⟨(h5 p hp).1.1,(h5 p hp).1.2,(h5 p hp).2⟩⟩
 ·rcases(h4 y hy).1.2 with z |z
  ·exact absurd e z
  ·exact z
 ·rcases(h4 y hy).2 with z |z
  ·exact absurd e z
  ·exact z
def fG (X:Cx)(ifs:List Expr)(t:TT):Prop:=
 ∀(pins:Pnx) (s:Shared) (σ:St) (H:Hp) (Q:Bool->Hp->Prop),Inv X pins σ H s->t σ H Q->
  wpAny (model X.prog X.w) X.A (forIn ifs true fun c r=>if r=true then do let ok <-isTrue c X.env (eval c X.env);pure (ForInStep.yield ok) else pure (ForInStep.yield r)) (TP X pins σ Q) X.xe s
def fZ:TT:=fun _ H Q=>Q true H
theorem G4:fG X [] fZ:=fun _ _ _ H _ I h=>wpAny_tests_nil ⟨H,I,h⟩
theorem O3 (h:PT X c t):fG X [c] t:=fun pins s σ H Q I hw=>wpAny_tests_one (h pins s σ H Q I hw)
def vm (wi:TI)(tq:TT)(te:TE)(cs:List (Str×Nat)):St->Hp->(Addr->Hp->Prop)->Prop:=fun σ H R=>wi σ H fun J H1=>∀D,H1 D=none->
  ∃W:Nat->Nat->List V->Hp->Prop,(∃m,W 0 m [] (upd H1 D (.lst [])))/\∀i m ys H2,W i m ys H2->H2 D=some (.lst ys)/\
    ((J.stop i H2 /\ R D H2) \/ (J.go i H2/\ys.length<sizeLine/\∃N:List V->Hp->Prop,(∀ys' H',N ys' H'->∃m',m'<m/\W (i + 1) m' ys' H')/\∀v H3,J.yld i H2 v H3->tq (some v::dF cs σ) H3 fun b H4=>
      if b=true then te (some v::dF cs σ) H4 fun y H5=>H5 D=some (.lst ys)/\N (ys ++ [y]) (upd H5 D (.lst (ys ++ [y]))) else N ys H4))
section
variable {prog:Program}{w:World}{A:Around}{R:Result->Shared->Prop}{s:Shared}
theorem JQ (I:Nat->Shared->Prop)
    (turn : ∀ n s, I n s -> wpAny (model prog w) A (pyNext it) (fun r s₁=>match r with
      |none=>R (.ok .next) s₁
      | some v => wpAny (model prog w) A (letOwnedTupleGo target it v) (fun _ s₁' => wpAny (model prog w) A (assign target env v) (fun _ s₂=>
          wpAny (model prog w) A (forIn ifs true fun c r => if r = true then do let ok <- isTrue c env (eval c env); pure (ForInStep.yield ok) else pure (ForInStep.yield r)) (fun ok s₃=>
            if ok = true then wpAny (model prog w) A (eval elt env) (fun x s₄=>
              wpAny (model prog w) A (call (.builtin "list.append") [acc,x]) (fun _ s₅=>∃m,m<n/\I m s₅) (fun _ _=>False) s₄) (fun _ _=>False) s₃
            else ∃m,m<n/\I m s₃) (fun _ _=>False) s₂) (fun _ _=>False) s₁') (fun _ _=>False) s₁) (fun _ _=>False) s)
    (n:Nat) (h:I n s):
    codeAny (model prog w) A (.compLoop (.ListComp elt [⟨target,iter,ifs,0⟩] scope pos) 0 it acc env) R s:=by
  refine codeAny_loop rfl I (fun n s hI=>?_) n h;show wpAny _ A ((compTurn (.ListComp elt [⟨target,iter,ifs,0⟩] scope pos) 0 it acc env).onRaise (fun x=>do noteFrame x env;theTreesLotGoes x)) _ _ s
  refine wpAny_noted ?_;rw[compTurn_list];refine Wn (ZL (Wn (Xg (turn n s hI) (fun r s₁ h₁=>?_) fun _ _ h'=>h'.elim)))
  cases r with
  |none=>exact Wt h₁
  |some v=>
    refine Wn (Xg h₁ (fun _ s₁' h₁'=>?_) fun _ _ h'=>h'.elim);refine Wn (Xg h₁' (fun _ s₂ h₂=>Wn (Xg h₂ (fun ok s₃ h₃=>?_) fun _ _ h'=>h'.elim)) fun _ _ h'=>h'.elim)
    cases ok with
    |false=>exact Wt ⟨rfl,h₃⟩
    |true=>
      exact Wn (Wn (Xg h₃ (fun x s₄ h₄=>Wn (Xg h₄ (fun _ s₅ h₅=>Wt (Wt ⟨rfl,h₅⟩)) fun _ _ h'=>h'.elim)) fun _ _ h'=>h'.elim))
end
section
variable {X:Cx}{elt iter:Expr}{ifs:List Expr}{x:Str}{px:Pos}{scope:Scope}{pos:Pos}{wi:TI}{tq:TT}{te:TE}{cs:List (Str×Nat)}
theorem Et (hc:X.calm=true)(hi:PI X (.Name x px) iter wi)
    (hq:∀(cl:List (Str×Addr)) (C:Addr) (s₀:Shared) (H₀:Hp) (ex:List Addr) (pn:Pnx),fG (cU X (x::cs.map (·.1)) scope cl C s₀ H₀ ex pn) ifs tq)
    (he:∀(cl:List (Str×Addr)) (C:Addr) (s₀:Shared) (H₀:Hp) (ex:List Addr) (pn:Pnx),PE (cU X (x::cs.map (·.1)) scope cl C s₀ H₀ ex pn) elt te)
    (ok:CompOk X.N X.env.scope x cs scope) {pins:Pnx} {s:Shared} {σ:St} {H:Hp} {R:Addr->Hp->Prop} (I:Inv X pins σ H s) (h:vm wi tq te cs σ H R)
    {RR:Value->Addr->Result->Shared->Prop}
    (hRR:∀(D C:Addr) (oC:Obj) (H':Hp) (s':Shared),Inv X (pins ++ [(C,oC)]) σ H' s'->(∀h':Heap,h'.get? C=some oC->∃m,h'.Ns C m)->bY X pins H' C->R D H'->RR (.ref D) C (.ok .next) s'):
    wpAny (model X.prog X.w) X.A (eval iter X.env) (fun xv s₁ => wpAny (model X.prog X.w) X.A (pyIter xv) (fun itv s₂ => wpAny (model X.prog X.w) X.A (newList []) (fun acc s₃=>
      wpAny (model X.prog X.w) X.A (newFunctionEnv scope X.env.globals (cA X.env.cells scope.names) [] X.env.qual none .none (some X.env)) (fun cenv s₄=>
        codeAny (model X.prog X.w) X.A (.compStart (.ListComp elt [⟨.Name x px,iter,ifs,0⟩] scope pos) 0 itv acc {cenv with scope:=relabel scope X.env}) (RR acc cenv.locals) s₄) X.xe s₃) X.xe s₂) X.xe s₁) X.xe s:=by
  refine aR (hi pins s σ H _ I h) fun v s1 h1=>aR h1 fun itv s2 h2=>?_;obtain⟨it,fp,tn,J,H2,e,I2,T,st2,f2,h2⟩:=h2;subst e;have hhas:∀y∈scope.names,y.2=.free->∃c,X.env.cells.lookup y.1=some c:=fun y hy hk=>I2.ok.has y.1 (ok.has y hy hk);refine Yk (wpAny_newFunctionEnv ok.cell (by intro y hy;simp at hy) (fun h₁ hns₁ hsb₁=>?_) ok.kind);dsimp only at hns₁ hsb₁ ⊢;generalize hHH:s2.heap.push {cls:=.type "list",dict:=none,data:=.seq ([]:List Value).toArray}=HH at hns₁ hsb₁ ⊢;have hC:HH.objs.size=s2.heap.objs.size + 1:=by rw[<-hHH,Yc]
  have hDC:s2.heap.objs.size≠HH.objs.size:=by rw[hC];exact WQ (YJ _)
  have hCle:s2.heap.objs.size<=HH.objs.size:=by rw[hC];exact Ym _
  have below:∀b,b<s2.heap.objs.size->b≠HH.objs.size:=fun b hb=>by rw[hC];exact WQ (YZ hb)
  have old:∀b o,s2.heap.get? b=some o->h₁.get? b=some o:=fun b o e=>hsb₁.extBut b o (below b (Ws e)) (tG _ (hHH ▸ tG _ e));have hacc:h₁.get? s2.heap.objs.size=some {cls:=.type "list",dict:=none,data:=.seq ([]:List Value).toArray}:=hsb₁.extBut _ _ hDC (tG _ (hHH ▸ WL _ rfl));have nD:H2 s2.heap.objs.size=none:=I2.hok.fresh (Wq _);have nC:H2 HH.objs.size=none:=I2.hok.fresh hCle;obtain⟨W,⟨m0,w0⟩,turn⟩:=h2 s2.heap.objs.size nD
  -- the block's context
  have fpC:∀b∈fp,b≠HH.objs.size:=fun b hb=>by
    obtain⟨o,ho,_⟩:=T.obj 0 _ st2 b hb;exact below b (Ws ho)
  have fpD:∀b∈fp,b≠s2.heap.objs.size:=fun b hb=>by
    obtain⟨o,ho,_⟩:=T.obj 0 _ st2 b hb;exact WQ (Ws ho)
  have pinC:∀p∈X.pn ++ pins,p.1≠HH.objs.size:=fun p hp=>below _ (Ws (I2.pin p hp).1);have clIn:∀y c,(cA X.env.cells scope.names).lookup y=some c->X.env.cells.lookup y=some c:=Em scope.names [] hhas (fun y c e=>by cases e);have kindRel:∀y,(relabel scope X.env).names.lookup y=(cu X.env.scope scope.names).lookup y:=fun _=>rfl;have okC:(cU X (x::cs.map (·.1)) scope (cA X.env.cells scope.names) HH.objs.size s2 H2 fp (X.pn ++ pins)).Ok:=
    { mod:=I2.ok.mod
      kind:=ok.kind
      glob:=I2.ok.glob
      blt:=I2.ok.blt
      above:=hCle
      inj:=fun y z c e1 e2=>I2.ok.inj y z c (clIn y c e1) (clIn z c e2)
      has:=fun y hk=>by
        have hm:(y,NameKind.free)∈scope.names:=by
          rcases hk with hk |hk
          · exact tV (psc:=X.env.scope) (k':=.cell) hk (.inl rfl) ok.cell
          · exact tV (psc:=X.env.scope) (k':=.free) hk (.inr rfl) ok.cell
        exact zc scope.names [] y (.inl hm)
      cab:=fun y c hf _=>by cases hf
      hd:=I2.ok.hd
      frames:=I2.ok.frames
      stk:=.inl rfl
      exf:=fun b hb=>⟨fpC b hb,fun y c e z=>(f2 b hb).2.2.2.2.1 y c (clIn y c e) z⟩
      bs:=fun b o e=>I2.bs b o e
      bsz:=W5 I2.ok.bsz I2.sz
      noex:=fun b o e hb=>by
        rcases(f2 b hb).2.2.2.1 with z |z
        · exact I2.ok.noex b o e z
        · exact absurd (Wo (Ws e) (W5 I2.ok.bsz z)) (Xm _)
      exfs:=fun b hb z=>by
        rcases W6.mp (I2.stkSub b z) with q |q
        · exact(f2 b hb).2.1 q
        · exact(f2 b hb).2.2.1 q
      funs:=I2.stack
      frf:=I2.stkFree}
  have IC:Inv (cU X (x::cs.map (·.1)) scope (cA X.env.cells scope.names) HH.objs.size s2 H2 fp (X.pn ++ pins)) [] (none::dF cs σ) (upd H2 s2.heap.objs.size (.lst [])) {s2 with heap:=h₁,toks:=s2.toks + ([]:List (Str×Value)).length}:=
    { ok:=okC
      os:=rfl
      bare:=I2.bare
      base:=Un.laid old (Wq _) nD
      loc:=by
        refine⟨_,hns₁,fun i y u e1 e2 _=>?_⟩
        cases i with
        |zero=>
          have e2':(none:Option V)=some u:=W3 e2;cases e2'
        |succ i=>
          have e1':(cs.map (·.1))[i]? =some y:=e1;have e2':(dF cs σ)[i]? =some (some u):=e2;rw[Wy]at e1';unfold dF at e2';rw[Wy]at e2'
          cases ep:cs[i]? with
          |none=>rw[ep]at e1';cases e1'
          |some p=>
            rw[ep]at e1' e2';have e1'':p.1=y:=W3 e1';have e2'':(σ[p.2]?).join=some u:=W3 e2';have e3:σ[p.2]? =some (some u):=by
              cases q:σ[p.2]? with
              |none=>rw[q]at e2'';cases e2''
              |some z=>rw[q]at e2'';exact congrArg some e2''
            subst e1'';obtain⟨hN,hkp,hkc⟩:=ok.cap p (WX ep);obtain⟨mP,_,hl⟩:=I2.loc;obtain⟨u',ru,lk⟩:=hl p.2 p.1 u hN e3 (.inr hkp);refine⟨u',ru,.inr ⟨hkc,?_⟩⟩;rcases lk with⟨k0,_⟩ |⟨_,c,hcell,his⟩
            · exfalso
              have k0':X.env.scope.names.lookup p.1=some .local:=k0;rcases hkp with z |z<;>(rw[k0']at z;cases z)
            · have hm:(p.1,NameKind.free)∈scope.names:=by
                rcases hkc with z |z
                · exact tV z (.inl rfl) ok.cell
                · exact tV z (.inr rfl) ok.cell
              obtain⟨c',hc'⟩:=zc (cells:=X.env.cells) scope.names [] p.1 (.inl hm);have e5:c'=c:=W3 ((clIn p.1 c' hc').symm.trans hcell);exact⟨c',hc',by rw[e5];exact his.keeps old⟩
      cell:=fun y c e=>by
        obtain⟨v',q⟩:=I2.cell y c (clIn y c e);exact⟨v',q.keeps old⟩
      free:=by
        show upd H2 s2.heap.objs.size (.lst []) HH.objs.size=none;rw[aM hDC.symm];exact nC
      freeC:=fun y c e=>by
        have hcl:c<s2.heap.objs.size:=by
          obtain⟨_,q⟩:=I2.cell y c (clIn y c e);exact q.lt
        rw[aM (WQ hcl)];exact(I2.freeC y c (clIn y c e)).imp id fun z=>⟨rfl,z.2⟩
      pin:=fun p hp=>by
        have hp':p∈X.pn ++ pins:=by
          rcases Xd.mp hp with z |z
          · exact z
          · cases z
        obtain⟨e1,e2,e3,e4,e5⟩:=I2.pin p hp';refine⟨old _ _ e1,?_,pinC p hp',fun z=>?_,e5⟩
        · rw[aM (WQ (Ws e1))];exact e2
        · rcases W6.mp (I2.stkSub p.1 z) with q |q
          · exact e3 q
          · exact e4 q
      hok:=I2.hok.laid old (Wq _) ⟨Xp _,[],0,.nil,hacc⟩
      len:=by simp[dF]}
  have stC:tn 0 h₁:=T.keep 0 _ _ st2 fun b _ o e=>old b o e;have frC:∀b∈fp,upd H2 s2.heap.objs.size (HO.lst []) b=none:=fun b hb=>by
    rw[aM (fpD b hb)];exact(f2 b hb).1
  -- what stays true of the iterator's objects in the block
  have stat:∀{H':Hp},(∀b∈fp,H' b=none)->∀b∈fp,bY (cU X (x::cs.map (·.1)) scope (cA X.env.cells scope.names) HH.objs.size s2 H2 fp (X.pn ++ pins)) [] H' b:=fun {H'} hn b hb=>
    ⟨hn b hb, fpC b hb, okC.exfs b hb, .inl hb, fun y c e => (okC.exf b hb).2 y c e, fun p hp => (f2 b hb).2.2.2.2.2 p (by
      rcases Xd.mp hp with z |z
      · exact z
      · cases z)⟩
  have loop:∀s₃:Shared,s₃={s2 with heap:=h₁,toks:=s2.toks + ([]:List (Str×Value)).length}->
      codeAny (model X.prog X.w) X.A (.compLoop (.ListComp elt [⟨.Name x px,iter,ifs,0⟩] scope pos) 0 (.ref it) (.ref s2.heap.objs.size) (compEnvC scope (cA X.env.cells scope.names) HH.objs.size X.env)) (RR (.ref s2.heap.objs.size) HH.objs.size) s₃:=by
    rintro s₃ rfl;refine JQ (fun n s'=>∃(i:Nat) (v:Option V) (ys:List V) (H':Hp),Inv (cU X (x::cs.map (·.1)) scope (cA X.env.cells scope.names) HH.objs.size s2 H2 fp (X.pn ++ pins)) [] (v::dF cs σ) H' s'/\tn i s'.heap/\(∀b∈fp,H' b=none)/\W i n ys H')
      ?_ m0 ⟨0,none,[],_,IC,stC,frC,w0⟩
    rintro n s3 ⟨i,v3,ys,H3,I3,st3,fr3,w3⟩;obtain⟨hD3,tr⟩:=turn i n ys H3 w3;rcases tr with⟨stop,qn⟩ |⟨go,hsz,N,hN,step⟩
    · refine aR (T.done (cU X (x::cs.map (·.1)) scope (cA X.env.cells scope.names) HH.objs.size s2 H2 fp (X.pn ++ pins)) rfl rfl rfl hc i [] s3 _ H3 _ I3 (stat fr3) st3 stop) fun r s4 ⟨hr,I4⟩=>?_;subst hr;show RR (.ref s2.heap.objs.size) HH.objs.size (.ok .next) s4
      have IP:Inv X pins σ H3 s4:=I2.call' (ch:=fp) I4.os I4.base I4.hok I4.bare fun b hb=>⟨(f2 b hb).2.2.2.1,(f2 b hb).2.1,(f2 b hb).2.2.2.2.1,(f2 b hb).2.2.2.2.2⟩;obtain⟨m4,⟨oC,es,ep,hoC,hdC,hk1,hk2⟩,_⟩:=I4.loc;have nC3:H3 HH.objs.size=none:=I4.free;have fC:bY X pins H3 HH.objs.size:=I2.fpOk hCle nC3;refine hRR _ _ oC H3 s4 (IP.pins_of fun p hp=>?_) (fun h' e=>⟨m4,oC,es,ep,e,hdC,hk1,hk2⟩) fC qn;rcases Xd.mp hp with z |z
      · exact IP.pin p (WT _ z)
      · have e:p=(HH.objs.size,oC):=by simpa using z
        subst e;exact ⟨hoC,nC3,fC.2.1,fC.2.2.1,fun v z=>by
          have z':oC.data=.cell v:=z;rw[hdC]at z';cases z'⟩
    · refine aR (T.item (cU X (x::cs.map (·.1)) scope (cA X.env.cells scope.names) HH.objs.size s2 H2 fp (X.pn ++ pins)) rfl rfl rfl hc i [] s3 _ H3 _ I3 (stat fr3) st3 go) fun r s4 ⟨u,hr,h4⟩=>?_;subst hr;refine aR h4 fun _ s5 ⟨y,H5,I5,r5,y5,st5,fr5⟩=>?_;have I5':=I5.pinned (stat fr5) (T.obj _ _ st5);have hloc:Loc (cU X (x::cs.map (·.1)) scope (cA X.env.cells scope.names) HH.objs.size s2 H2 fp (X.pn ++ pins)).env.scope x:=.inl (lookup_relabel_local ok.own);refine ZV (vh (i:=0) I5' ok.nd rfl hloc r5 (fun s6 I6=>?_) (.inr (lookup_relabel_local ok.own)));refine aR (hq _ _ _ _ _ _ _ s6 _ H5 _ I6 (step y H5 y5)) fun b s7 ⟨H7,I7,q7⟩=>?_;have again:∀{v':Option V} {H8:Hp} {s8:Shared} {ys':List V} {m':Nat},Inv (cU X (x::cs.map (·.1)) scope (cA X.env.cells scope.names) HH.objs.size s2 H2 fp (X.pn ++ pins)) ([] ++ tQ fp s5.heap) (v'::dF cs σ) H8 s8->W (i + 1) m' ys' H8->
          ∃(i:Nat) (v:Option V) (ys:List V) (H':Hp),Inv (cU X (x::cs.map (·.1)) scope (cA X.env.cells scope.names) HH.objs.size s2 H2 fp (X.pn ++ pins)) [] (v::dF cs σ) H' s8/\tn i s8.heap/\(∀b∈fp,H' b=none)/\W i m' ys H':=fun {v' H8 s8 ys' m'} I8 w8=>by
        refine⟨i + 1,v',ys',H8,I8.unpinned,T.keep _ _ _ st5 fun b hb o e=>(I8.pin (b,o) (WT _ (WT _ (wG hb e)))).1,fun b hb=>?_,w8⟩;obtain⟨o,e,d⟩:=T.obj _ _ st5 b hb;exact(I8.pin (b,o) (WT _ (WT _ (wG hb e)))).2.1
      cases b with
      |false=>
        rw[WY WM]at q7;rw[WY WM];obtain⟨m',hm,w8⟩:=hN _ _ q7;exact⟨m',hm,again I7 w8⟩
      |true=>
        rw[Wv rfl]at q7;rw[Wv rfl];refine aR (he _ _ _ _ _ _ _ s7 _ H7 _ I7 q7) fun z s8 ⟨zv,H8,I8,r8,hD8,n8⟩=>?_;obtain⟨m',hm,w8⟩:=hN _ _ n8;refine aR (Ac (X:=cU X (x::cs.map (·.1)) scope (cA X.env.cells scope.names) HH.objs.size s2 H2 fp (X.pn ++ pins)) _ s8 _ H8 (.ref s2.heap.objs.size) [zv] (.ref s2.heap.objs.size) [z] (fun _ H9=>H9=upd H8 s2.heap.objs.size (.lst (ys ++ [zv]))) I8 rfl (.cons r8 .nil) ⟨_,ys,zv,rfl,rfl,hD8,hsz,rfl⟩) fun _ s9 ⟨_,H9,I9,_,e9⟩=>?_;subst e9;exact⟨m',hm,again I9 w8⟩
  exact codeAny_compStart_list (loop _ rfl) (T.self _ 0 _ _ _ stC (loop _ rfl))
noncomputable def Uj (wi:TI) (tq:TT) (te:TE) (cs:List (Str×Nat)):TE:=fun σ H Q=>vm wi tq te cs σ H fun D H'=>Q (.ref D) H'
theorem Ol (x:Str)(cs:List (Str×Nat))(hc:X.calm=true)(hi:PI X (.Name x px) iter wi)
  (hq:∀(cl:List (Str×Addr)) (C:Addr) (s₀:Shared) (H₀:Hp) (ex:List Addr) (pn:Pnx),fG (cU X (x::cs.map (·.1)) scope cl C s₀ H₀ ex pn) ifs tq)
  (he:∀(cl:List (Str×Addr)) (C:Addr) (s₀:Shared) (H₀:Hp) (ex:List Addr) (pn:Pnx),PE (cU X (x::cs.map (·.1)) scope cl C s₀ H₀ ex pn) elt te)
  (ok:pH X.N X.env.scope x cs scope=true:=by kernel_rfl) (hs:∀x,foldedSetIterable iter X.env x=pure x:=by intro _;rfl):
  PE X (.ListComp elt [⟨.Name x px,iter,ifs,0⟩] scope pos) (Uj wi tq te cs):=by
 intro pins s σ H Q I h;have ok':=CompOk.of ok;rw[eval_ListComp];refine xab (use:=none) rfl hs (En fun y hy hk=>I.ok.has y.1 (ok'.has y hy hk)) ok'.kind ok'.names ?_;refine Et (RR:=fun acc C=>compPost (model X.prog X.w) X.A X.xe none (EP X pins σ Q) acc C) hc hi hq he ok' I h ?_;intro D C oC H' s' I' hns fC q;refine⟨_,(hns _ (I'.pin (C,oC) (WT _ (WT _ (by simp)))).1).choose_spec,fun h' hs'=>?_⟩;have I1:Inv X pins σ H' s':=I'.unpinned;exact⟨.ref D,H',I1.turned (t':=s'.toks) (fun b o hb e=>(hs'.2 b hb).trans e) fC.1 fC.2.1 fC.2.2.2.1 fC.2.2.2.2.1 fC.2.2.2.2.2,rfl,q⟩
noncomputable def Ug (k:Nat) (wi:TI) (tq:TT) (te:TE) (cs:List (Str×Nat)):TS:=fun D σ H=>vm wi tq te cs σ H fun l H'=>D.nx (σ.set k (some (.ref l))) H'
theorem O_ (x:Str)(cs:List (Str×Nat))(hN:X.N.Nodup)(hk:X.N[k]? =some y)(hy:Loc X.env.scope y)(hc:X.calm=true)(hi:PI X (.Name x px) iter wi)
  (hq:∀(cl:List (Str×Addr)) (C:Addr) (s₀:Shared) (H₀:Hp) (ex:List Addr) (pn:Pnx),fG (cU X (x::cs.map (·.1)) scope cl C s₀ H₀ ex pn) ifs tq)
  (he:∀(cl:List (Str×Addr)) (C:Addr) (s₀:Shared) (H₀:Hp) (ex:List Addr) (pn:Pnx),PE (cU X (x::cs.map (·.1)) scope cl C s₀ H₀ ex pn) elt te)
  (ok:pH X.N X.env.scope x cs scope=true:=by kernel_rfl) (hs:∀x,foldedSetIterable iter X.env x=pure x:=by intro _;rfl)
  (hsw:swapsWith (.ListComp elt [⟨.Name x px,iter,ifs,0⟩] scope pos) (some (.Name y py)) spos.line X.env=pure true:=by rfl)
  (hf:X.fn y=true\/X.env.scope.names.lookup y=some .local:=by first |exact .inl rfl |exact .inr rfl |assumption):
  PS X (.Assign [.Name y py] (.ListComp elt [⟨.Name x px,iter,ifs,0⟩] scope pos) spos) (Ug k wi tq te cs):=by
 intro pins s σ H D I h;have ok':=CompOk.of ok;rw[exec_Assign_Name_used _ _ _ _ hsw];refine Wn (ZL (Wn ?_));show wpAny _ X.A (do let _ <-comprehension (.ListComp elt [⟨.Name x px,iter,ifs,0⟩] scope pos) scope X.env _ (newList []) false (eval iter X.env) (some (assign (.Name y py) X.env))) _ _ s
 refine Wn (Xg (xab (use:=some (assign (.Name y py) X.env)) (Q:=fun _ s'=>SP X pins D .next s') rfl hs (En fun y hy hk=>I.ok.has y.1 (ok'.has y hy hk)) ok'.kind ok'.names
  (Et (RR:=fun acc C=>compPost (model X.prog X.w) X.A X.xe (some (assign (.Name y py) X.env)) (fun _ s'=>SP X pins D .next s') acc C) hc hi hq he ok' I h ?_)) (fun _ s' hq=>Wt (Wt hq)) fun _ _ e=>e)
 intro l C oC H' s' I' hns fC q;show wpAny _ X.A (assign (.Name y py) X.env (.ref l)) _ _ _;refine ZV (vh (v:=.ref l) I' hN hk hy rfl (fun s'' I''=>?_) hf);refine⟨_,(hns _ (I''.pin (C,oC) (WT _ (WT _ (by simp)))).1).choose_spec,fun h' hs'=>?_⟩;have I1:Inv X pins _ H' s'':=I''.unpinned;exact⟨_,H',I1.turned (t':=s''.toks) (fun b o hb e=>(hs'.2 b hb).trans e) fC.1 fC.2.1 fC.2.2.2.1 fC.2.2.2.2.1 fC.2.2.2.2.2,q⟩
end
def Dl (J:It)(tq:TT)(te:TE)(cs:List (Str×Nat))(σ:St)(H1:Hp)(R:Addr->Hp->Prop):Prop:=∀D,H1 D=none->
  ∃W:Nat->Nat->List V->Hp->Prop,(∃m,W 0 m [] (upd H1 D (.lst [])))/\∀i m ys H2,W i m ys H2->H2 D=some (.lst ys)/\
    ((J.stop i H2 /\ R D H2) \/ (J.go i H2/\ys.length<sizeLine/\∃N:List V->Hp->Prop,(∀ys' H',N ys' H'->∃m',m'<m/\W (i + 1) m' ys' H')/\∀v H3,J.yld i H2 v H3->tq (some v::dF cs σ) H3 fun b H4=>
      if b=true then te (some v::dF cs σ) H4 fun y H5=>H5 D=some (.lst ys)/\N (ys ++ [y]) (upd H5 D (.lst (ys ++ [y]))) else N ys H4))
theorem JT (n:Nat)(P:Addr->Nat->List V->Hp->Prop)
  (h0:∀D,H1 D=none->P D 0 [] (upd H1 D (.lst []))) (hl:∀D i ys H2,i<=n->P D i ys H2->H2 D=some (.lst ys)/\ys.length<sizeLine)
  (hgo:∀D i ys H2,i<n->P D i ys H2->J.go i H2) (hst:∀D ys H2,H1 D=none->P D n ys H2->J.stop n H2/\R D H2)
  (hs:∀D i v ys H2 H3,i<n->P D i ys H2->J.yld i H2 v H3->tq (some v::dF cs σ) H3 fun b H4=>if b=true then te (some v::dF cs σ) H4 fun y H5=>H5 D=some (.lst ys)/\P D (i + 1) (ys ++ [y]) (upd H5 D (.lst (ys ++ [y]))) else P D (i + 1) ys H4):
  Dl J tq te cs σ H1 R:=by
 intro D hD;refine⟨fun i m ys H=>m=n - i/\i<=n/\P D i ys H,⟨n,by simp,Xp _,h0 D hD⟩,?_⟩;rintro i m ys H2 ⟨rfl,hi,p⟩;obtain⟨q2,q3⟩:=hl D i ys H2 hi p;refine⟨q2,?_⟩
 by_cases hlt:i<n
 ·exact .inr ⟨hgo D i ys H2 hlt p,q3,P D (i + 1),fun ys' H' p'=>⟨n - (i + 1),by omega,rfl,hlt,p'⟩,fun v H3 y=>hs D i v ys H2 H3 hlt p y⟩
 ·have e:i=n:=by omega
  subst e;exact .inl (hst D ys H2 hD p)
theorem j_ (hD:H D=none):Same H (upd H D o):=fun b ob e=>by
 rw[aM (gJ e hD)];exact e
theorem comp_map {J:It}{te:TE}{cs:List (Str×Nat)}{σ:St}{H1:Hp}{R:Addr->Hp->Prop}(n:Nat)(f:Nat->V)(hn:n<sizeLine)
  (hgo:∀i H2,i<n->Same H1 H2->J.go i H2) (hst:∀H2,Same H1 H2->J.stop n H2)
  (hy:∀i v H2 H3,i<n->Same H1 H2->J.yld i H2 v H3->H3=H2/\∀Q:VK,Q (f i) H2->te (some v::dF cs σ) H2 Q)
  (hd:∀D,H1 D=none->R D (upd H1 D (.lst ((List.range n).map f)))):Dl J fZ te cs σ H1 R:=by
 refine JT n (fun D i ys H2=>i<=n/\H1 D=none/\ys=(List.range i).map f/\H2=upd H1 D (.lst ys)) (fun D hD=>⟨Xp _,hD,rfl,rfl⟩) ?_ ?_ ?_ ?_
 ·rintro D i ys H2 hi ⟨_,hD,e1,e2⟩;subst e1 e2;exact⟨bJ,by rw[WK,Xq];omega⟩
 ·rintro D i ys H2 hi ⟨_,hD,e1,e2⟩;subst e2;exact hgo i _ hi (j_ hD)
 ·rintro D ys H2 _ ⟨_,hD,e1,e2⟩;subst e2;refine⟨hst _ (j_ hD),?_⟩;subst e1;exact hd D hD
 ·rintro D i v ys H2 H3 hi ⟨_,hD,e1,e2⟩ y;subst e2;obtain⟨e3,q⟩:=hy i v _ H3 hi (j_ hD) y;subst e3;unfold fZ;dsimp only;rw[Wv rfl];refine q _ ⟨bJ,hi,hD,?_,U9⟩;rw[e1,List.range_succ,YM];rfl
structure Noted (fs:List Addr)(z:Addr)(h h':Heap)(e:Addr)(oe:Obj)(T:Addr)(fl:Value):Prop where
 keep:∀b o,b∉fs->b≠e->b≠z->h.get? b=some o->h'.get? b=some o
 slot:∀b o,b∈fs->b≠e->b≠z->h.get? b=some o->∃sl,h'.get? b=some {o with slots:=sl}
 exc:h'.get? e=some (oe.mapFields (·.setIfInBounds 1 (.ref T)))
 new:h.objs.size<=T
 tb:∃oT ts,h'.get? T=some oT/\oT.data=.fields ts/\ts[3]? =some fl
section
variable {M:Model}{A:Around}{E:Value->Shared->Prop}{s:Shared}{base:Heap}{env:Env}{outer:List Env}{L e z:Addr}{oe:Obj}{vs:Array Value}{Q:Unit->Shared->Prop}
theorem LQ (a1:A.frames=some (env::outer))(a2:s.heap.FunFrames base (env::outer))(a3:env.frame=some L)
  (a4:s.heap.get? e=some oe) (a5:oe.data=.fields vs) (a6:1<vs.size)
  (k:∀h' T,Noted (frs (env::outer)) e s.heap h' e oe T (rawInt L)->Q () {s with heap:=h'}):
  wpAny M A (do
   let a <-frameOf env
   let pl <-entryPlaceOf L hadNext
   let b <-EntryCells.newEntry head a .none (rawInt L) .none pl
   setField (.ref e) 1 b) Q E s:=by
 have ne:e∉frs (env::outer):=fun m=>by
  obtain⟨_,o,e1,e2⟩:=a2.mem m;rw[a4]at e1;cases e1;exact e2 vs a5
 refine Wn (wpAny_frameOf_fun a1 a2 a3 fun h1 S=>?_);refine Wn (wpAny_entryPlaceOf fun pl hpl=>?_);unfold EntryCells.newEntry newFields;refine Wn (Yk ?_ (hpl.sizeOk5 _ _ _ _ _));have b1:h1.get? e=some oe:=(S.2.1 e ne).trans a4;have b2:=tG (h:=h1) {cls:=.type "traceback",dict:=none,data:=.fields ([head,.ref L,.none,rawInt L,.none] ++ (if pl.isEmpty then List.replicate 6 Value.none else pl)).toArray} b1
 refine xao b2 a5 a6 (k _ h1.objs.size ?_);have n1:h1.objs.size≠e:=YC (Ws b1);have frd:=Obj.isFreed_of_fields (Yd a5 (·.setIfInBounds 1 (Value.ref h1.objs.size)));refine⟨fun b o nb nbe _ hb=>?_,fun b o _ nbe _ hb=>?_,Heap.get?_update_self _ b2 frd,xaJ S.1.symm,?_⟩
 ·rw[Xf _ _ (Yn nbe)];exact tG _ ((S.2.1 b nb).trans hb)
 ·obtain⟨sl,q⟩:=S.2.2 b o hb;refine⟨sl,?_⟩;rw[Xf _ _ (Yn nbe)];exact tG _ q
 ·refine⟨_,_,(Xf _ _ (Yn n1)).trans (WL h1 rfl),rfl,?_⟩;rcases hpl with rfl |⟨_,_,_,_,_,_,_,rfl⟩<;>simp
theorem J_ (b1:s.heap.get? e=some oe)(b2:oe.data=.fields vs)(b3:vs[1]? =some (.ref T))(b4:s.heap.get? T=some oT)(b5:oT.data=.fields ts)(b6:3<ts.size)
  (k:Q () {s with heap:=s.heap.update T (Obj.mapFields (·.setIfInBounds 3 .none))}):wpAny M A (setFlight (.ref e) none) Q E s:=by
 unfold setFlight;refine Wn (XS b1 b2 b3 ?_);rw[Wv (by simp)];exact xao b4 b5 b6 k
theorem Mf (N:Noted fs z h h1 e oe T fl)(a4:h.get? e=some oe)(a5:oe.data=.fields vs):Noted fs z h (h1.update T (Obj.mapFields (·.setIfInBounds 3 .none))) e oe T .none:=by
 obtain⟨oT,ts,t1,t2,t3⟩:=N.tb;have ne:∀b o,h.get? b=some o->b≠T:=fun b o q=>WQ (Wo (Ws q) N.new);refine⟨fun b o n1 n2 n3 hb=>?_,fun b o n1 n2 n3 hb=>?_,?_,N.new,?_⟩
 ·rw[Xf _ _ (Yn (ne b o hb))];exact N.keep b o n1 n2 n3 hb
 ·obtain⟨sl,q⟩:=N.slot b o n1 n2 n3 hb;exact⟨sl,by rw[Xf _ _ (Yn (ne b o hb))];exact q⟩
 ·rw[Xf _ _ (Yn (ne e oe a4))];exact N.exc
 ·have z3:3<ts.size:=(Yj.mp t3).1;exact⟨_,_,Heap.get?_update_self _ t1 (Obj.isFreed_of_fields (Yd t2 _)),Yd t2 _,by simp[z3]⟩
theorem Ma (N:Noted fs z h s.heap e oe T fl)(a4:h.get? e=some oe)(a5:oe.data=.fields vs)(a6:1<vs.size)
  (k:∀h',Noted fs z h h' e oe T .none->Q () {s with heap:=h'}):wpAny M A (setFlight (.ref e) none) Q E s:=by
 obtain⟨oT,ts,t1,t2,t3⟩:=N.tb;refine J_ N.exc (Yd a5 _) (by simp[a6]) t1 t2 (Yj.mp t3).1 (k _ (Mf N a4 a5))
theorem LR (a1:A.frames=some (env::outer))(a2:s.heap.FunFrames base (env::outer))(a3:env.frame=some L)
  (a4:s.heap.get? e=some oe) (a5:oe.data=.fields vs) (a6:vs[1]? =some (.ref T0)) (b1:T0≠e) (b2:s.heap.get? T0=some oT) (b3:oT.data=.fields ts) (b4:ts[3]? =some .none)
  (k:∀h' T,Noted (frs (env::outer)) T0 s.heap h' e oe T (rawInt L)->Q () {s with heap:=h'}):wpAny M A (noteFrame (.ref e) env) Q E s:=by
 have z1:=(Yj.mp a6).1;unfold noteFrame;simp only[a3];refine Wn (XS a4 a5 a6 ?_);rw[Wv (by simp)];refine Wn (XS b2 b3 b4 ?_);rw[WY (by simp[rawInt])];refine Wn (xao b2 b3 (Yj.mp b4).1 ?_);have oth:∀b,b≠T0->(s.heap.update T0 (Obj.mapFields (·.setIfInBounds 3 Value.none))).get? b=s.heap.get? b:=fun b hb=>Xf _ _ (Yn hb);have fr:∀b o,s.heap.get? b=some o->(∀us,o.data≠ .fields us)->b≠T0:=fun b o hb n r=>by
  rw[r,b2]at hb;cases hb;exact n ts b3
 refine LQ (s:={s with heap:=s.heap.update T0 (Obj.mapFields (·.setIfInBounds 3 Value.none))}) a1 (a2.of_keeps fun b o hb n=>⟨o,(oth b (fr b o hb n)).trans hb,rfl⟩) a3 ((oth e (Yn b1)).trans a4) a5 z1 fun h' T N=>k h' T ?_;exact⟨fun b o n1 n2 n3 hb=>N.keep b o n1 n2 n2 ((oth b n3).trans hb),fun b o n1 n2 n3 hb=>N.slot b o n1 n2 n2 ((oth b n3).trans hb),N.exc,by rw[<-Heap.size_after_update s.heap T0 (Obj.mapFields (·.setIfInBounds 3 Value.none))];exact N.new,N.tb⟩
end
abbrev Dj:List Value:=[.type "ValueError",.type "Exception",.type "BaseException",.type "object"]
def Di:List Value->Bool
 |.ref _::r=>Di r
 |l=>l==Dj
noncomputable def gb (K:Fgx) (C:Addr):Bool:=match K.lookup C with
  | some ⟨.type "type", _, .cls cd, sl⟩ => (match cd.mro,sl.toList with
    |.ref c::bm,[_,_,_,_,some (.builtin n),_]=>c==C && (n=="ValueError.__new__" && (!cd.hasDel && (PySem.W.tailIn K Dj bm && (PySem.W.nsOkIn K cd.ns && (cd.hasDict && Di bm)))))
    |_,_=>false)
  |_=>false
structure XCls (h:Heap)(C:Addr)(nm qn:Str)(N:Addr)(bs bm:List Value)(sn:List Str)(sub:List Value)(ab:Bool)(col:Option Bool)(dd:Option Addr)(k0 k1 k2 k3 k5:Option Value):Prop where
 obj:h.get? C=some (excClassObj nm qn C N bs bm true sn sub ab col dd k0 k1 k2 k3 k5 "ValueError.__new__")
 tail:OwnTail h Dj bm
 ns:h.Ns N (h.nsMap N)
 over:Di bm=true
noncomputable def Ji (K:Fgx) (C:Addr):Bool:=match K.lookup C with
 |some ⟨_,_,.cls cd,_⟩=>PySem.W.nsIn K cd.ns "__init__"==some none
 |_=>false
noncomputable def yc (K:Fgx) (C:Addr):Bool:=PySem.W.findIn K (.ref C) "__getattribute__"==some (some (.builtin "BaseException.__getattribute__")) &&
 (PySem.W.findIn K (.ref C) "__getattr__"==some none && PySem.W.mroIn K C (.type "BaseException")==some true)
noncomputable def xo (a C:Addr) (dx:Option Addr) (b:Bool):HO:=.ext fun h=>∃oe vs t,h.get? a=some oe/\oe.cls=.ref C/\oe.dict=dx/\oe.data=.fields vs/\vs.size=6/\vs[0]? =some (.ref t)/\(b=true->vs[1]? =some .none)
theorem VB (x:∃oe vs t,h.get? a=some oe/\oe.cls=.ref C/\oe.dict=dx/\oe.data=.fields vs/\vs.size=6/\vs[0]? =some (.ref t)/\(b=true->vs[1]? =some .none)):
  cI P w H h a (xo a C dx b):=by
 obtain⟨oe,vs,t,e,r⟩:=x;exact⟨⟨oe,vs,t,e,r⟩,⟨oe,e⟩,fun h1 h2 ⟨oe,vs,t,e,r⟩ k=>⟨oe,vs,t,k _ e,r⟩⟩
def yq (h:Heap)(a T:Addr):Prop:=∃oe vs oT ts,h.get? a=some oe/\oe.data=.fields vs/\vs[1]? =some (.ref T)/\T≠a/\h.get? T=some oT/\oT.data=.fields ts/\ts[3]? =some .none
section
variable {P:Program}{w:World}{H:Hp}{h h':Heap}{fs ch:List Addr}{z a C T:Addr}{oe:Obj}{fl:Value}{dx:Option Addr}{b:Bool}{vs:Array Value}
theorem L_ (N:Noted fs z h h' a oe T .none)(e1:h.get? a=some oe)(e2:oe.data=.fields vs)(e3:vs.size=6):yq h' a T:=by
 obtain⟨oT,ts,t1,t2,t3⟩:=N.tb;refine⟨_,_,oT,ts,N.exc,Yd e2 _,by simp[e3],fun q=>?_,t1,t2,t3⟩;have z:=Wo (Ws e1) N.new;rw[q]at z;exact absurd z (Xm _)
theorem Mg (N:Noted fs z h h' a oe T fl)(x:∃vs t,oe.cls=.ref C/\oe.dict=dx/\oe.data=.fields vs/\vs.size=6/\vs[0]? =some (.ref t)):∃oe vs t,h'.get? a=some oe/\oe.cls=.ref C/\oe.dict=dx/\oe.data=.fields vs/\vs.size=6/\vs[0]? =some (.ref t)/\(false=true->vs[1]? =some .none):=by
 obtain⟨vs,t,c1,c2,c3,c4,c5⟩:=x;refine⟨_,_,t,N.exc,(Obj.cls_mapFields _ _).trans c1,?_,Yd c3 _,by simp[c4],?_,fun q=>by cases q⟩
 ·obtain⟨_,_,od,_⟩:=oe;dsimp only at c3;subst c3;exact c2
 ·rw[Array.getElem?_setIfInBounds_ne (by decide)];exact c5
theorem U7 (N:Noted fs z h h' a oe T fl)(ha:H a=some (xo a C dx b))(hz:z=a\/z∈ch):Un fs ch H (upd H a (xo a C dx false)) h h':=by
 have n1:∀c,H c=none->c≠a:=fun c n q=>by rw[q,ha]at n;cases n
 have n2:∀c,c≠a->c∉ch->c≠z:=fun c n m q=>by
  rcases hz with r |r
  ·exact n (q.trans r)
  ·exact m (q ▸ r)
 have n3:∀c u,H c=some u->(∀φ,u≠ .ext φ)->c≠a:=fun c u q m r=>by
  rw[r,ha]at q;exact m _ (W3 q).symm
 refine ⟨fun c o q n hc hx=>N.keep c o hc (n1 c n) (n2 c (n1 c n) hx) q,fun c o q n hc hx=>N.slot c o hc (n1 c n) (n2 c (n1 c n) hx) q,fun c o q n hx=>by rw[aM (n1 c n)];exact n,fun c o q hx=>?_,
  fun c xs q=>by rw[aM (n3 c _ q (by intro _ z;cases z))];exact q,fun c o u q=>by rw[aM (n3 c _ q (by intro _ z;cases z))];exact q,fun c ps q=>⟨#[],by rw[aM (n3 c _ q (by intro _ z;cases z)),q];simp⟩⟩
 by_cases ca:c=a
 ·rw[ca];exact⟨_,N.exc⟩
 ·by_cases cf:c∈fs
  ·obtain⟨sl,r⟩:=N.slot c o cf ca (n2 c ca hx) q;exact⟨_,r⟩
  ·exact⟨o,N.keep c o cf ca (n2 c ca hx) q⟩
theorem Kv (ok:bL P w H h)(N:Noted fs z h h' a oe T fl)(ha:H a=some (xo a C dx b))(hz:z=a\/H z=none)(hf:∀c∈fs,H c=none)
  (x:∃vs t,oe.cls=.ref C/\oe.dict=dx/\oe.data=.fields vs/\vs.size=6/\vs[0]? =some (.ref t)):bL P w (upd H a (xo a C dx false)) h':=fun c u q=>by
 have n3:∀c u,H c=some u->(∀φ,u≠ .ext φ)->c≠a:=fun c u q m r=>by
  rw[r,ha]at q;exact m _ (W3 q).symm
 by_cases hc:c=a
 ·subst hc;rw[bJ]at q;cases q;exact VB (Mg N x)
 ·rw [aM hc] at q;have kp : ∀ d u v, H d = some u -> d ≠ a -> h.get? d = some v -> h'.get? d = some v := fun d u v q nd r => N.keep d v (fun m => by rw [hf d m] at q; cases q) nd (fun e=>by
   rcases hz with g |g
   ·exact nd (e.trans g)
   ·rw[e,g]at q;cases q) r
  refine(ok c u q).stay (fun d v hd r=>?_) (fun d r=>by rw[aM (n3 d _ r (by intro _ z;cases z))];exact r) fun d xs r=>by rw[aM (n3 d _ r (by intro _ z;cases z))];exact r
  rcases hd with rfl |hd
  ·exact kp d u v q hc r
  ·exact kp d _ v hd (n3 d _ hd (by intro _ z;cases z)) r
theorem Un.less (u:Un (L::fs) ch H H' h h')(n:h.get? L=none):Un fs ch H H' h h':=by
 have m:∀c o,h.get? c=some o->c≠L:=fun c o q e=>by rw[e,n]at q;cases q
 exact⟨fun c o q k hc hx=>u.keep c o q k (fun z=>(W6.mp z).elim (m c o q) hc) hx,fun c o q k hc hx=>u.slot c o q k (W4 _ hc) hx,u.free,u.there,u.tups,u.frzs,u.tbls⟩
end
noncomputable def pA (P:Program) (w:World):dJ:=fun outer H s E e s'=>∃a C dx H' T,e=.ref a/\s'.os=s.os/\AllBare s'.gens/\Un (frs outer) [] H H' s.heap s'.heap/\bL P w H' s'.heap/\H' a=some (xo a C dx false)/\H' T=none/\s.heap.objs.size<=T/\yq s'.heap a T/\E (.ref C) dx H'
theorem U8 (e:H a=some o):upd H a o=H:=by
 funext b;unfold upd
 split
 ·subst_vars;exact e.symm
 ·rfl
theorem Vz (ok:bL P w H h)(e:H a=some (xo a C dx b)):
  ∃oe vs t,h.get? a=some oe/\oe.cls=.ref C/\oe.dict=dx/\oe.data=.fields vs/\vs.size=6/\vs[0]? =some (.ref t)/\(b=true->vs[1]? =some .none):=(ok a _ e).1
section
variable {X:Cx}{pins:Pnx}{σ:St}{H:Hp}{s:Shared}
noncomputable def yd (K : Fgx) (C : Addr) : Bool := yc K C && (PySem.W.hasDictIn K C && (PySem.W.findIn K (.ref C) "__class__"==some (some (.builtin "object.__class__")) &&
 (PySem.W.specialIn K (.builtin "object.__class__") "__get__"==some (some (.builtin "getset_descriptor.__get__")) && (PySem.W.takesIn K (.builtin "object.__class__")==some true && PySem.W.mroIn K C (.type "object")==some true))))
end
section
variable {X:Cx}{pins:Pnx}{σ:St}{H:Hp}{s:Shared}
structure Caught (X:Cx)(pins:Pnx)(σ:St)(H:Hp)(s:Shared)(a C:Addr)(dx:Option Addr)(T:Addr):Prop where
 inv:Inv X pins σ H s
 obj:H a=some (xo a C dx false)
 fl:yq s.heap a T
 hT:H T=none
 t1:X.s₀.heap.objs.size<=T
 t2:T≠X.env.locals
 t3:∀x c,X.env.cells.lookup x=some c->c≠T
 t4:∀p∈X.pn ++ pins,p.1≠T
theorem JL (I:Inv X pins σ H s)(h:s.heap.objs.size<=T):X.s₀.heap.objs.size<=T/\T≠X.env.locals/\(∀x c,X.env.cells.lookup x=some c->c≠T)/\∀p∈X.pn ++ pins,p.1≠T:=by
 refine⟨W5 I.sz h,YC (Wo I.lt h),fun x c e=>?_,fun p hp=>?_⟩
 ·obtain⟨v,o,ho,_⟩:=I.cell x c e;exact WQ (Wo (Ws ho) h)
 ·exact WQ (Wo (Ws (I.pin p hp).1) h)
variable {a C T:Addr}{dx:Option Addr}{Q:Unit->Shared->Prop}{E:Value->Shared->Prop}{M:Model}
theorem Caught.note (c:Caught X pins σ H s a C dx T)(hs:X.stack=X.env::X.outer)(hf:X.env.frame=some X.env.locals)(k:∀s' T',Caught X pins σ H s' a C dx T'->Q () s'):
  wpAny M X.A (noteFrame (.ref a) X.env) (fun _ s2=>wpAny M X.A (setFlight (.ref a) none) Q E s2) E s:=by
 obtain ⟨oe, vs, t, e1, e2, e3, e4, e5, e6, _⟩ := Vz c.inv.hok c.obj;obtain ⟨oe', vs', oT, ts, f1, f2, f3, f4, f5, f6, f7⟩ := c.fl;rw [e1] at f1;cases f1;rw [e4] at f2;cases f2;have fr := c.inv.ok.frames;have st := c.inv.stack;rw [hs] at fr st;refine LR fr st hf e1 e4 f3 f4 f5 f6 f7 fun h' T' N => Ma (s := { s with heap := h' }) N e1 e4 (by omega) fun h2 N2 => k _ T' ?_;have hx : ∃ vs t, oe.cls = .ref C /\ oe.dict = dx /\ oe.data = .fields vs /\ vs.size = 6 /\ vs[0]? = some (.ref t) := ⟨vs, t, e2, e3, e4, e5, e6⟩;rw [<- hs] at N2;have u := U7 (ch := [T]) N2 c.obj (.inr (Yx.mpr rfl));have hk := Kv c.inv.hok N2 c.obj (.inr c.hT) (fun b hb => c.inv.stkFree b hb) hx;rw [U8 c.obj] at u hk;have I2 : Inv X pins σ H { s with heap := h2 } := c.inv.call' (s' := { s with heap := h2 }) rfl u hk c.inv.bare (fun b hb=>by
  rw[Yx.mp hb];exact⟨.inr c.t1,c.t2,c.t3,c.t4⟩)
 obtain⟨z1,z2,z3,z4⟩:=JL c.inv N2.new;exact⟨I2,c.obj,L_ N2 e1 e4 e5,c.inv.hok.fresh N2.new,z1,z2,z3,z4⟩
end
abbrev Cx.pin (X:Cx)(pins:Pnx)(E:Value->Shared->Prop):Cx:={X with pn:=X.pn ++ pins,xe:=E}
abbrev Cx.suite (X:Cx)(e:Value):Cx:={X with A:=X.A.mark (some e),calm:=false,xe:=fun _ _=>False}
end L2
namespace E3
open PySem PySem.Spec PyProof.Rows L2
inductive D where
 |non |bl (b:Bool) |int (i:Int) |str (s:Str) |tup (xs:List D) |lst (xs:List D) |ref (n:Nat)
structure FnT where
 st:Stmt
 x:Str
 q:Str
 pos:Pos
 fr:List Str
 dd:List Int:=[]
inductive Cl where
  |lst (ds:List D) |obj (c:Str) (fs:List (Str×D)) |dct (kvs:List (L2.Key×D))
    |dcf (kvs:List (L2.Key×D))
    |fn (i:FnT) (caps:List (Str×D)) |tbl (nm:Str) (i:FnT)
abbrev Mm:=List Cl
inductive Slot where
 |un |val (d:D) |own (ds:List D) |exc (c:Str) (n:Int)
abbrev Env:=List Slot
mutual
def D.lf:D->Bool
 |.tup xs=>D.lfs xs
 |.lst _=>false
 |.ref _=>false
 |_=>true
def D.lfs:List D->Bool
 | []=>true
 |a::as=>D.lf a && D.lfs as
end
def KL (K:Fgx)(a:Addr)(vs:List V):Prop:=∃(o:Obj) (its:Array Value) (n:Nat),K.lookup a=some o/\o.cls=.type "list"/\o.dict=none/\o.data=.seq its n/\its.size<=sizeLine/\Vals vs its.toList
structure Pl where
 io:Nat->Addr
 n:Nat
 bd:Addr->Prop
def yE (K:Fgx)(P:Pl)(H:Hp)(a:Addr)(vs:List V):Prop:=(¬ P.bd a/\Rd H a (.lst vs))\/KL K a vs
def Dw (K:Fgx)(P:Pl)(H:Hp)(a:Addr)(vs:List V):Prop:=((∀k,k<P.n->P.io k≠a)/\Rd H a (.lst vs))\/KL K a vs
mutual
def Is (K:Fgx)(P:Pl)(H:Hp):D->V->Prop
 |.non,v=>v=.non
 |.bl b,v=>v=.bl b
 |.int i,v=>v=.int i
 |.str s,v=>v=.str s
 |.tup ds,v=>∃a vs,v=.ref a/\dD K H a vs/\aq K P H ds vs
 |.lst ds,v=>∃a vs,v=.ref a/\yE K P H a vs/\aq K P H ds vs
 |.ref k,v=>k<P.n/\v=.ref (P.io k)
def aq (K:Fgx)(P:Pl)(H:Hp):List D->List V->Prop
 | [],vs=>vs=[]
 |d::ds,vs=>∃v r,vs=v::r/\Is K P H d v/\aq K P H ds r
end
def Fx (o:HO):Prop:=(∃xs,o=.tup xs)\/(∃u w,o=.frz u w)\/(∃g,o=.ext g)\/∃fs,o=.xd fs
structure Lt (P:Pl)(H:Hp)(P':Pl)(H':Hp):Prop where
 n:P.n<=P'.n
 io:∀k,k<P.n->P'.io k=P.io k
 bd:∀a,P'.bd a->P.bd a\/H a=none
 keep:∀a o,H a=some o->(Fx o\/¬ P.bd a)->H' a=some o
 sure:∀a,H' a=none->H a=none
section
variable {K:Fgx}{P P' P'':Pl}{H H' H'':Hp}
theorem Lt.refl (P:Pl)(H:Hp):Lt P H P H:=⟨Wq _,fun _ _=>rfl,fun _ z=>.inl z,fun _ _ e _=>e,fun _ z=>z⟩
theorem Lt.frz (l:Lt P H P' H'):∀b o u,H b=some (.frz o u)->H' b=some (.frz o u):=fun b o u e=>l.keep b _ e (.inl (.inr (.inl ⟨_,_,rfl⟩)))
theorem Lt.not (l:Lt P H P' H')(e:H a=some o)(n:¬ P.bd a):¬ P'.bd a:=fun z=>(l.bd a z).elim n fun z=>by rw[e]at z;cases z
theorem Lt.trans (l:Lt P H P' H')(m:Lt P' H' P'' H''):Lt P H P'' H'' where
 n:=W5 l.n m.n
 io:=fun k h=>(m.io k (Wo h l.n)).trans (l.io k h)
 bd:=fun a z=>(m.bd a z).elim (l.bd a) fun z=>.inr (l.sure a z)
 keep:=fun a o e h=>m.keep a o (l.keep a o e h) (h.imp id fun n=>l.not e n)
 sure:=fun a z=>l.sure a (m.sure a z)
theorem Lt.rd (l:Lt P H P' H')(n:¬ P.bd a)(h:Rd H a (.lst xs)):Rd H' a (.lst xs):=by
 rcases h with h |⟨o,h⟩
 ·exact .inl (l.keep _ _ h (.inr n))
 ·exact .inr ⟨o,l.keep _ _ h (.inr n)⟩
theorem Hi (h:Rd H a o):∃o',H a=some o':=h.elim (fun h=>⟨_,h⟩) fun⟨_,h⟩=>⟨_,h⟩
theorem Lt.rda (l:Lt P H P' H')(h:yE K P H a xs):yE K P' H' a xs:=h.imp (fun⟨n,h⟩=>⟨by obtain⟨o,e⟩:=Hi h;exact l.not e n,l.rd n h⟩) id
theorem Lt.tup (l:Lt P H P' H')(h:dD K H a xs):dD K H' a xs:=by
 rcases h with(h |⟨o,h⟩) |h
 ·exact .inl (.inl (l.keep _ _ h (.inl (.inl ⟨_,rfl⟩))))
 ·exact .inl (.inr ⟨o,l.keep _ _ h (.inl (.inr (.inl ⟨_,_,rfl⟩)))⟩)
 ·exact .inr h
mutual
theorem Is.lt (l:Lt P H P' H'):∀{d:D} {v:V},Is K P H d v->Is K P' H' d v
  |.non,_,h=>h
  |.bl _,_,h=>h
  |.int _,_,h=>h
  |.str _,_,h=>h
  |.tup ds,_,h=>by
    obtain⟨a,vs,e,s,r⟩:=h;exact⟨a,vs,e,l.tup s,aq.lt l r⟩
  |.lst ds,_,h=>by
    obtain⟨a,vs,e,s,r⟩:=h;exact⟨a,vs,e,l.rda s,aq.lt l r⟩
  |.ref k,_,h=>⟨Wo h.1 l.n,by rw[l.io k h.1];exact h.2⟩
theorem aq.lt (l:Lt P H P' H'):∀{ds:List D} {vs:List V},aq K P H ds vs->aq K P' H' ds vs
  | [],_,h=>h
  |_::_,_,h=>by
    obtain⟨v,r,e,p,q⟩:=h;exact⟨v,r,e,Is.lt l p,aq.lt l q⟩
end
noncomputable def Pl.less (P:Pl) (B:Addr->Prop):Pl:={P with bd:=fun a=>P.bd a/\B a}
mutual
theorem Is.less:∀{d:D} {v:V},Is K P H d v->Is K (P.less B) H d v
  |.non,_,h=>h
  |.bl _,_,h=>h
  |.int _,_,h=>h
  |.str _,_,h=>h
  |.tup ds,_,h=>by
    obtain⟨a,vs,e,s,r⟩:=h;exact⟨a,vs,e,s,aq.less r⟩
  |.lst ds,_,h=>by
    obtain⟨a,vs,e,s,r⟩:=h;exact⟨a,vs,e,s.imp (fun⟨n,h⟩=>⟨fun z=>n z.1,h⟩) id,aq.less r⟩
  |.ref k,_,h=>h
theorem aq.less:∀{ds:List D} {vs:List V},aq K P H ds vs->aq K (P.less B) H ds vs
  | [],_,h=>h
  |_::_,_,h=>by
    obtain⟨v,r,e,p,q⟩:=h;exact⟨v,r,e,Is.less p,aq.less q⟩
end
mutual
theorem Is.free (P':Pl):∀{d:D} {v:V},d.lf=true->Is K P H d v->Is K P' H d v
  |.non,_,_,h=>h
  |.bl _,_,_,h=>h
  |.int _,_,_,h=>h
  |.str _,_,_,h=>h
  |.tup ds,_,l,h=>by
    obtain⟨a,vs,e,s,r⟩:=h;exact⟨a,vs,e,s,aq.free P' (by simpa only[D.lf] using l) r⟩
  |.lst _,_,l,_=>by simp[D.lf]at l
  |.ref _,_,l,_=>by simp[D.lf]at l
theorem aq.free (P':Pl):∀{ds:List D} {vs:List V},D.lfs ds=true->aq K P H ds vs->aq K P' H ds vs
  | [],_,_,h=>h
  |_::_,_,l,h=>by
    obtain⟨v,r,e,p,q⟩:=h;simp only[D.lfs,W2]at l;exact⟨v,r,e,Is.free P' l.1 p,aq.free P' l.2 q⟩
end
theorem aq.len:∀{ds:List D} {vs:List V},aq K P H ds vs->vs.length=ds.length
  | [],_,h=>by rw[show _=[] from h];rfl
  |d::ds,_,h=>by
    obtain⟨v,r,e,_,q⟩:=h;subst e
    simp[aq.len q]
theorem aq.get:∀{ds:List D} {vs:List V} {i:Nat} {d:D},aq K P H ds vs->ds[i]? =some d->∃v,vs[i]? =some v/\Is K P H d v
  | [],_,_,_,_,e=>by simp at e
  |d::ds,_,0,_,h,e=>by
    obtain⟨v,r,e',p,_⟩:=h
    simp at e
    subst e e';exact⟨v,rfl,p⟩
  |d::ds,_,i + 1,_,h,e=>by
    obtain⟨v,r,e',_,q⟩:=h;subst e'
    simpa using aq.get (i:=i) q (by simpa using e)
theorem aq.append:∀{ds es:List D} {vs ws:List V},aq K P H ds vs->aq K P H es ws->aq K P H (ds ++ es) (vs ++ ws)
  | [],_,_,_,h,q=>by rw[show _=[] from h];exact q
  |d::ds,_,_,_,h,q=>by
    obtain⟨v,r,e,p,h⟩:=h;subst e;exact⟨v,r ++ _,rfl,p,aq.append h q⟩
theorem aq.take:∀{ds:List D} {vs:List V} (n:Nat),aq K P H ds vs->aq K P H (ds.take n) (vs.take n)
  |_,_,0,_=>rfl
  | [],_,n + 1,h=>by rw[show _=[] from h];rfl
  |d::ds,_,n + 1,h=>by
    obtain⟨v,r,e,p,h⟩:=h;subst e;exact⟨v,_,rfl,p,aq.take n h⟩
theorem aq.drop:∀{ds:List D} {vs:List V} (n:Nat),aq K P H ds vs->aq K P H (ds.drop n) (vs.drop n)
  |_,_,0,h=>h
  | [],_,n + 1,h=>by rw[show _=[] from h];rfl
  |d::ds,_,n + 1,h=>by
    obtain⟨v,r,e,p,h⟩:=h;subst e;exact aq.drop n h
theorem aq.one (h:Is K P H d v):aq K P H [d] [v]:=⟨v,[],rfl,h,rfl⟩
end
noncomputable def gh (H:Hp):List (Str×Addr)->List V->Prop
 | [],vs=>vs=[]
 |p::r,vs=>∃v ws u o,vs=v::ws/\RelV v u/\H p.2=some (.frz o (.own p.2))/\o.data=.cell (some u)/\gh H r ws
theorem gh.up {H H':Hp}(s:∀b o u,H b=some (.frz o u)->H' b=some (.frz o u)):∀{cl:List (Str×Addr)} {vs:List V},gh H cl vs->gh H' cl vs
  | [],_,h=>h
  |_::_,_,h=>by
    obtain⟨v,ws,u,o,e,r,q,d,h⟩:=h;exact⟨v,ws,u,o,e,r,s _ _ _ q,d,h.up s⟩
def dM (H:Hp)(c:Addr)(q:Str):Prop:=∃(o:Obj) (fs:Array Value) (t:Tok),H c=some (.frz o (.own c))/\o.data=.fields fs/\fs[1]? =some (.str q t)
theorem dM.up {H H':Hp}{c:Addr}{q:Str}(s:∀b o u,H b=some (.frz o u)->H' b=some (.frz o u))(h:dM H c q):dM H' c q:=by
 obtain⟨o,fs,t,e,r⟩:=h;exact⟨o,fs,t,s _ _ _ e,r⟩
def cZ (H:Hp)(dd:List Int)(dV:Value):Prop:=(dd=[]/\dV=.none)\/(dd≠ []/\∃(td:Addr) (o:Obj) (its:Array Value) (n:Nat),dV=.ref td/\H td=some (.frz o (.own td))/\o.data=.seq its n/\Vals (dd.map V.int) its.toList)
theorem cZ.up {H H':Hp}{dd:List Int}{dV:Value}(s:∀b o u,H b=some (.frz o u)->H' b=some (.frz o u))(h:cZ H dd dV):cZ H' dd dV:=
 h.imp id fun⟨e,td,o,its,n,e1,e2,r⟩=>⟨e,td,o,its,n,e1,s _ _ _ e2,r⟩
noncomputable def gZ (mg:Mgx) (i:FnT) (cl:List (Str×Addr)) (dV doc ctv:Value) (c:Addr):Obj:={cls:=.type "function",data:=.func (PySem.W.fnX i.x i.q (cg i.st) (bC i.st) (aF i.st) cl dV .none doc ((mg "__name__").getD .none) none (.ref c) ctv)}
def gj (K:Fgx)(mg:Mgx)(P:Pl)(H:Hp)(a:Addr)(i:FnT)(caps:List (Str×D)):Prop:=
 ∃(cl:List (Str×Addr)) (dV doc ctv:Value) (c:Addr) (vs:List V),H a=some (.frz (gZ mg i cl dV doc ctv c) (.own a))/\(dM H c i.q/\cZ H i.dd dV)/\(cl.map (·.1)=caps.map (·.1)/\caps.map (·.1)=i.fr)/\aq K P H (caps.map (·.2)) vs/\gh H cl vs/\∀x y a,cl.lookup x=some a->cl.lookup y=some a->x=y
theorem gj.up {K:Fgx}{mg:Mgx}{P P':Pl}{H H':Hp}{a:Addr}{i:FnT}{caps:List (Str×D)}(h:gj K mg P H a i caps)(s:∀b o u,H b=some (.frz o u)->H' b=some (.frz o u))(q:∀ds vs,aq K P H ds vs->aq K P' H' ds vs):gj K mg P' H' a i caps:=by
 obtain⟨cl,dV,doc,ctv,c,vs,e1,e2,e3,e4,e5,e6⟩:=h;exact⟨cl,dV,doc,ctv,c,vs,s _ _ _ e1,⟨e2.1.up s,e2.2.up s⟩,e3,q _ _ e4,e5.up s,e6⟩
def kO (K:Fgx)(H:Hp)(a:Addr)(nm:Str)(i:FnT):Prop:=
 ∃(c:Addr) (ps:Array Value),PySem.W.tabIn K nm=some (c,a)/\H a=some (.tbl ps)/\(ps= #[]\/∃c',ps= #[rawInt i.pos.line,rawInt i.pos.col,.ref c']/\dM H c' i.q)
theorem kO.up {K:Fgx}{H H':Hp}{a:Addr}{nm:Str}{i:FnT}(h:kO K H a nm i)(e:∀o,H a=some o->H' a=some o)(s:∀b o u,H b=some (.frz o u)->H' b=some (.frz o u)):kO K H' a nm i:=by
 obtain⟨c,ps,e1,e2,e3⟩:=h;exact⟨c,ps,e1,e _ e2,e3.imp id fun⟨c',z,q⟩=>⟨c',z,q.up s⟩⟩
noncomputable def pB (K:Fgx) (mg:Mgx) (P:Pl) (H:Hp) (a:Addr):Cl->Prop
 |.lst ds=>∃vs,H a=some (.lst vs)/\aq K P H ds vs
 |.obj c fs=>∃C dx gs,mg c=some (.ref C)/\H a=some (.ins C dx gs)/\gs.map (·.1)=fs.map (·.1)/\aq K P H (fs.map (·.2)) (gs.map (·.2))
 |.dct kvs=>∃vs:List (L2.Key×V),H a=some (.dK vs)/\vs.map (·.1)=kvs.map (·.1)/\aq K P H (kvs.map (·.2)) (vs.map (·.2))
 |.dcf kvs=>∃(vs:List (L2.Key×V)) (ob:Obj) (es:Array DictEntry) (ep:Nat),H a=some (.frz ob (.dK vs))/\ob.data=.dict es ep/\vs.map (·.1)=kvs.map (·.1)/\aq K P H (kvs.map (·.2)) (vs.map (·.2))
 |.fn i caps=>gj K mg P H a i caps
 |.tbl nm i=>kO K H a nm i
noncomputable def Cl.fix:Cl->Bool
 |.dcf _=>true
 |.fn _ _=>true
 |_=>false
structure Hk (K:Fgx)(mg:Mgx)(P:Pl)(H:Hp)(M:Mm):Prop where
 n:P.n=M.length
 cell:∀(k:Nat) c,M[k]? =some c->pB K mg P H (P.io k) c
 inj:∀j k,j<P.n->k<P.n->P.io j=P.io k->j=k
 bd:∀k,k<P.n->P.bd (P.io k)
 here:∀a,P.bd a->H a≠none
structure LtE (P:Pl)(H:Hp)(P':Pl)(H':Hp):Prop where
 n:P.n<=P'.n
 io:∀k,k<P.n->P'.io k=P.io k
 bd:∀a,P'.bd a->P.bd a\/H a=none
 bm:∀a,P.bd a->P'.bd a
 keep:∀a o,H a=some o->(Fx o\/∀k,k<P.n->P.io k≠a)->H' a=some o
 sure:∀a,H' a=none->H a=none
 nw:∀k,P.n<=k->k<P'.n->H (P'.io k)=none
section
variable {K:Fgx}{mg:Mgx}{P P' P'':Pl}{H H' H'':Hp}{M M':Mm}
theorem LtE.refl (P:Pl)(H:Hp):LtE P H P H:=⟨Wq _,fun _ _=>rfl,fun _ z=>.inl z,fun _ z=>z,fun _ _ e _=>e,fun _ z=>z,fun k h1 h2=>absurd h1 (xav.mpr h2)⟩
theorem LtE.same (s:Same H H'):LtE P H P H':=⟨Wq _,fun _ _=>rfl,fun _ z=>.inl z,fun _ z=>z,fun a o e _=>s a o e,fun a z=>s.free z,fun k h1 h2=>absurd h1 (xav.mpr h2)⟩
theorem Hk.cellAt (h:Hk K mg P H M)(hc:M[k]? =some c)(nd:c.fix=false:=by rfl):∃o,H (P.io k)=some o/\¬ Fx o:=by
  have:=h.cell k c hc
  cases c with
  |lst ds=>
    obtain⟨vs,e,_⟩:=this;exact⟨_,e,fun z=>by rcases z with⟨_,z⟩ |⟨_,_,z⟩ |⟨_,z⟩ |⟨_,z⟩<;>cases z⟩
  |obj c fs=>
    obtain⟨C,dx,gs,_,e,_⟩:=this;exact⟨_,e,fun z=>by rcases z with⟨_,z⟩ |⟨_,_,z⟩ |⟨_,z⟩ |⟨_,z⟩<;>cases z⟩
  |dct kvs=>
    obtain⟨vs,e,_⟩:=this;exact⟨_,e,fun z=>by rcases z with⟨_,z⟩ |⟨_,_,z⟩ |⟨_,z⟩ |⟨_,z⟩<;>cases z⟩
  |dcf kvs=>cases nd
  |fn i caps=>cases nd
  |tbl nm i=>
    obtain⟨c,ps,_,e,_⟩:=this;exact⟨_,e,fun z=>by rcases z with⟨_,z⟩ |⟨_,_,z⟩ |⟨_,z⟩ |⟨_,z⟩<;>cases z⟩
theorem LtE.lt (l:LtE P H P' H')(h:Hk K mg P H M):Lt P H P' H' where
 n:=l.n
 io:=l.io
 bd:=l.bd
 sure:=l.sure
 keep:=fun a o e z=>l.keep a o e (z.imp id fun z k hk q=>z (q ▸ h.bd k hk))
theorem LtE.trans (l:LtE P H P' H')(m:LtE P' H' P'' H''):LtE P H P'' H'' where
 n:=W5 l.n m.n
 io:=fun k h=>(m.io k (Wo h l.n)).trans (l.io k h)
 bd:=fun a z=>(m.bd a z).elim (l.bd a) fun z=>.inr (l.sure a z)
 bm:=fun a z=>m.bm a (l.bm a z)
 keep:=fun a o e h=>m.keep a o (l.keep a o e h) <| h.imp id fun h k hk q=>by
  rcases W8 k P.n with z |z
  ·rw[l.io k z]at q;exact h k z q
  ·rw[<-q,l.nw k z hk]at e;cases e
 sure:=fun a z=>l.sure a (m.sure a z)
 nw:=fun k h1 h2=>by
  rcases W8 k P'.n with z |z
  ·rw[m.io k z];exact l.nw k h1 z
  ·exact l.sure _ (m.nw k z h2)
end
inductive Cp where
 |eq |ne |lt |le |gt |ge |isin |notin |same |other
mutual
def D.eq:D->D->Bool
 |.non,.non=>true
 |.bl a,.bl b=>a==b
 |.bl a,.int b=>(if a then 1 else 0)==b
 |.int a,.bl b=>a==(if b then 1 else 0)
 |.int a,.int b=>a==b
 |.str a,.str b=>a==b
 |.tup a,.tup b=>D.eqs a b
 |.lst a,.lst b=>D.eqs a b
 |.ref a,.ref b=>a==b
 |_,_=>false
def D.eqs:List D->List D->Bool
 | [],[]=>true
 |a::as,b::bs=>D.eq a b && D.eqs as bs
 |_,_=>false
end
mutual
def D.dep:D->Nat
 |.tup xs=>D.deps xs + 1
 |.lst xs=>D.deps xs + 1
 |.ref _=>101
 |_=>0
def D.deps:List D->Nat
 | []=>0
 |a::as=>max (D.dep a) (D.deps as)
end
noncomputable def D.flat:D->Bool
 |.tup _=>false
 |.lst _=>false
 |.ref _=>false
 |_=>true
noncomputable def wg (i j:Str):Bool:= !(Builtin.Str.occurrences j i 0 j.length 1).isEmpty
def cP (a b:D):Bool:=a.flat==b.flat && decide (b.dep<=50)
noncomputable def pF (a b:D):Option Bool:=if cP a b=true/\a.dep<=50 then some (D.eq a b) else none
noncomputable def mq (a b:D):Option Bool:=if cP a b=true/\a.dep<=50 then some (!D.eq a b) else none
noncomputable def cF (f:Int->Int->Bool) (a b:D):Option Bool:=match a with
 |.int i=>(match b with |.int j=>some (f i j) |_=>none)
 |_=>none
noncomputable def mj (a b:D):Option Bool:=match b with
 |.str j=>(match a with |.str i=>some (wg i j) |_=>none)
 |.lst xs=>if (a.flat && xs.all D.flat)=true then some (xs.any fun y=>D.eq y a) else none
 |.tup xs=>if (a.flat && xs.all D.flat)=true then some (xs.any fun y=>D.eq y a) else none
 |_=>none
noncomputable def dR (a b:D):Option Bool:=match b with
 |.str j=>(match a with |.str i=>some (!wg i j) |_=>none)
 |.lst xs=>if (a.flat && xs.all D.flat)=true then some (!xs.any fun y=>D.eq y a) else none
 |.tup xs=>if (a.flat && xs.all D.flat)=true then some (!xs.any fun y=>D.eq y a) else none
 |_=>none
noncomputable def mC (a b:D):Option Bool:=match b with
 |.bl b=>(match a with |.bl a=>some (a==b) |_=>some false)
 |.non=>(match a with |.non=>some true |_=>some false)
 |_=>none
noncomputable def mz (a b:D):Option Bool:=match b with
 |.bl b=>(match a with |.bl a=>some (!(a==b)) |_=>some true)
 |.non=>(match a with |.non=>some false |_=>some true)
 |_=>none
noncomputable def bV (c:Cp) (a b:D):Option Bool:=match c with
 |.eq=>pF a b
 |.ne=>mq a b
 |.lt=>cF (fun i j=>decide (i<j)) a b
 |.le=>cF (fun i j=>decide (i<=j)) a b
 |.gt=>cF (fun i j=>decide (j<i)) a b
 |.ge=>cF (fun i j=>decide (j<=i)) a b
 |.isin=>mj a b
 |.notin=>dR a b
 |.same=>mC a b
 |.other=>mz a b
noncomputable def bW (K:Fgx) (P:Pl) (H:Hp):D->V->Prop
 |.lst ds,v=>∃a vs,v=.ref a/\Dw K P H a vs/\aq K P H ds vs
 |d,v=>Is K P H d v
section
variable {X:Cx}{pins:Pnx}{σ:L2.St}{H:Hp}{s:Shared}
theorem T3 {K:Fgx}{P:Pl}{a:Addr}{xs:List V}(h:Dw K P H a xs):aY K H a xs:=h.imp (·.2) id
noncomputable def bx (K:Fgx) (P:Pl) (H:Hp):D->V->Prop
 |.lst ds,v=>∃a vs,v=.ref a/\aY K H a vs/\aq K P H ds vs
 |d,v=>Is K P H d v
theorem bW.w {K:Fgx}{P:Pl}{d:D}{v:V}(h:bW K P H d v):bx K P H d v:=by
 cases d<;>first |exact h |(obtain⟨a,vs,e,r,q⟩:=h;exact⟨a,vs,e,T3 r,q⟩)
theorem Is.w {K:Fgx}{P:Pl}{d:D}{v:V}(h:Is K P H d v):bx K P H d v:=by
 cases d<;>first |exact h |(obtain⟨a,vs,e,r,q⟩:=h;exact⟨a,vs,e,r.imp (·.2) id,q⟩)
theorem sql (I:Inv X pins σ H s)(h:aY X.K H l xs):xs.length<=sizeLine/\∃its:List Value,Vals xs its/\s.heap.IsList l its.toArray:=by
 obtain⟨its,r,p,z⟩:=I.list h;exact⟨z,its,r,p.isList⟩
mutual
theorem Is.inj (I:Inv X pins σ H s):∀(d e:D) (v:V),bx X.K A H d v->bx X.K B H e v->d.dep<=100->e.dep<=100->d=e
  |.ref _,e,v,h,h',hd,he=>by simp[D.dep]at hd
  |.non,e,v,h,h',hd,he=>by
    have hv:v=.non:=h;subst hv;cases e<;>first |(simp[D.dep]at he;done) |(simp[bx,Is]at h'<;>rfl)
  |.bl b,e,v,h,h',hd,he=>by
    have hv:v=.bl b:=h;subst hv;cases e<;>first |(simp[D.dep]at he;done) |(simp[bx,Is]at h'<;>simp[h'])
  |.int b,e,v,h,h',hd,he=>by
    have hv:v=.int b:=h;subst hv;cases e<;>first |(simp[D.dep]at he;done) |(simp[bx,Is]at h'<;>simp[h'])
  |.str b,e,v,h,h',hd,he=>by
    have hv:v=.str b:=h;subst hv;cases e<;>first |(simp[D.dep]at he;done) |(simp[bx,Is]at h'<;>simp[h'])
  |.tup ds,e,v,h,h',hd,he=>by
    simp only[D.dep]at hd;simp only[bx,Is]at h;obtain⟨a,vs,rfl,t,r⟩:=h
    cases e with
    |tup es=>
      simp only[bx,Is]at h';obtain⟨b,ws,e1,t',r'⟩:=h';cases e1;have e2:=I.tuple_inj t t';subst e2;simp only[D.dep]at he;rw[aq.inj I ds es vs r r' (by omega) (by omega)]
    |lst es=>
      obtain⟨b,ws,e1,t',r'⟩:=h';cases e1;obtain⟨_,its,_,o2,e2,c2,_⟩:=sql I t';obtain⟨its2,_,⟨o,e3,c3,_⟩,_⟩:=I.tuple t;rw[e2]at e3;cases e3;rw[c2]at c3;exact absurd c3 (by simp)
    |ref _=>simp[D.dep]at he
    |_=>simp[bx,Is]at h'
  |.lst ds,e,v,h,h',hd,he=>by
    simp only[D.dep]at hd;obtain⟨a,vs,rfl,t,r⟩:=h
    cases e with
    |lst es=>
      obtain⟨b,ws,e1,t',r'⟩:=h';cases e1;have e2:=I.list_inj (t) (t');subst e2;simp only[D.dep]at he;rw[aq.inj I ds es vs r r' (by omega) (by omega)]
    |tup es=>
      simp only[bx,Is]at h';obtain⟨b,ws,e1,t',r'⟩:=h';cases e1;obtain⟨_,its,_,o2,e2,c2,_⟩:=sql I t;obtain⟨its2,_,⟨o,e3,c3,_⟩,_⟩:=I.tuple t';rw[e2]at e3;cases e3;rw[c2]at c3;exact absurd c3 (by simp)
    |ref _=>simp[D.dep]at he
    |_=>simp[bx,Is]at h'
theorem aq.inj (I:Inv X pins σ H s):∀(ds es:List D) (vs:List V),aq X.K A H ds vs->aq X.K B H es vs->D.deps ds<=100->D.deps es<=100->ds=es
  | [],es,vs,h,h',hd,he=>by
    have hv:vs=[]:=h;subst hv
    cases es with
    |nil=>rfl
    |cons=>simp[aq]at h'
  |d::ds,es,vs,h,h',hd,he=>by
    simp only[D.deps]at hd;obtain⟨v,r,rfl,p,q⟩:=h
    cases es with
    |nil=>simp[aq]at h'
    |cons e es=>
      obtain⟨v',r',e1,p',q'⟩:=h';cases e1;simp only[D.deps]at he;rw[Is.inj I d e v p.w p'.w (by omega) (by omega),aq.inj I ds es r q q' (by omega) (by omega)]
end
mutual
theorem D.eq_refl:∀d:D,D.eq d d=true
 |.non=>rfl
 |.bl b=>by simp[D.eq]
 |.int b=>by simp[D.eq]
 |.str b=>by simp[D.eq]
 |.tup ds=>by simp only[D.eq];exact D.eqs_refl ds
 |.lst ds=>by simp only[D.eq];exact D.eqs_refl ds
 |.ref n=>by simp[D.eq]
theorem D.eqs_refl:∀d:List D,D.eqs d d=true
 | []=>rfl
 |d::ds=>by simp only[D.eqs,D.eq_refl d,D.eqs_refl ds,xay]
end
theorem D.eqs_len:∀(ds es:List D),ds.length≠es.length->D.eqs ds es=false
  | [],[],h=>absurd rfl h
  | [],_::_,_=>rfl
  |_::_,[],_=>rfl
  |d::ds,e::es,h=>by
    simp only[D.eqs,D.eqs_len ds es (by simpa using h),Zt]
theorem D.eqs_all:∀(ds es:List D),ds.length=es.length->D.eqs ds es=(List.range ds.length).all fun j=>D.eq (ds.getD j .non) (es.getD j .non)
  | [],[],_=>rfl
  |d::ds,e::es,h=>by
    rw[D.eqs,D.eqs_all ds es (by simpa using h),Y_,List.range_succ_eq_map,Yv,List.all_map];rfl
mutual
theorem zE (I:Inv X pins σ H s):∀(d e:D) (v w:V) (u u':Value),bx X.K A H d v->bx X.K B H e w->RelV v u->RelV w u'->Ar.units + d.dep<cLine->d.dep<=100->e.dep<=100->SeqAt.EqAt Ar s u u' (D.eq d e)
  |.ref _,e,v,w,u,u',h1,h2,r1,r2,hu,hd,he=>by simp[D.dep]at hd
  |.non,e,v,w,u,u',h1,h2,r1,r2,hu,hd,he=>by
    have hv:v=.non:=h1;subst hv;cases r1;have hu':Ar.units<cLine:=by omega
    cases e with
    |ref _=>simp[D.dep]at he
    |non=>have hw:w=.non:=h2;subst hw;cases r2;exact Zi _
    |bl b=>have hw:w=.bl b:=h2;subst hw;cases r2;exact SeqAt.EqAt.none_bool _
    |int b=>have hw:w=.int b:=h2;subst hw;obtain⟨t,rfl⟩:=r2;exact SeqAt.EqAt.none_int _ _
    |str b=>have hw:w=.str b:=h2;subst hw;obtain⟨t,rfl⟩:=r2;exact SeqAt.EqAt.none_str _ _
    |tup es=>obtain⟨a,vs,rfl,t,_⟩:=h2;cases r2;obtain⟨its,_,p,_⟩:=I.tuple t;exact SeqAt.EqAt.none_tuple p hu'
    |lst es=>obtain⟨a,vs,rfl,t,_⟩:=h2;cases r2;obtain⟨_,its,_,p⟩:=sql I t;exact SeqAt.EqAt.none_list p hu'
  |.bl x,e,v,w,u,u',h1,h2,r1,r2,hu,hd,he=>by
    have hv:v=.bl x:=h1;subst hv;cases r1;have hu':Ar.units<cLine:=by omega
    cases e with
    |ref _=>simp[D.dep]at he
    |non=>have hw:w=.non:=h2;subst hw;cases r2;exact SeqAt.EqAt.bool_none _
    |bl b=>have hw:w=.bl b:=h2;subst hw;cases r2;exact SeqAt.EqAt.bool_bool _ _
    |int b=>have hw:w=.int b:=h2;subst hw;obtain⟨t,rfl⟩:=r2;exact SeqAt.EqAt.bool_int _ _ _
    |str b=>have hw:w=.str b:=h2;subst hw;obtain⟨t,rfl⟩:=r2;exact SeqAt.EqAt.bool_str _ _ _
    |tup es=>obtain⟨a,vs,rfl,t,_⟩:=h2;cases r2;obtain⟨its,_,p,_⟩:=I.tuple t;exact SeqAt.EqAt.bool_tuple _ p hu'
    |lst es=>obtain⟨a,vs,rfl,t,_⟩:=h2;cases r2;obtain⟨_,its,_,p⟩:=sql I t;exact SeqAt.EqAt.bool_list _ p hu'
  |.int x,e,v,w,u,u',h1,h2,r1,r2,hu,hd,he=>by
    have hv:v=.int x:=h1;subst hv;obtain⟨t0,rfl⟩:=r1;have hu':Ar.units<cLine:=by omega
    cases e with
    |ref _=>simp[D.dep]at he
    |non=>have hw:w=.non:=h2;subst hw;cases r2;exact SeqAt.EqAt.int_none _ _
    |bl b=>have hw:w=.bl b:=h2;subst hw;cases r2;exact SeqAt.EqAt.int_bool _ _ _
    |int b=>have hw:w=.int b:=h2;subst hw;obtain⟨t,rfl⟩:=r2;exact Zz _ _ _ _
    |str b=>have hw:w=.str b:=h2;subst hw;obtain⟨t,rfl⟩:=r2;exact Zw _ _ _ _
    |tup es=>obtain⟨a,vs,rfl,t,_⟩:=h2;cases r2;obtain⟨its,_,p,_⟩:=I.tuple t;exact SeqAt.EqAt.int_tuple _ _ p hu'
    |lst es=>obtain⟨a,vs,rfl,t,_⟩:=h2;cases r2;obtain⟨_,its,_,p⟩:=sql I t;exact SeqAt.EqAt.int_list _ _ p hu'
  |.str x,e,v,w,u,u',h1,h2,r1,r2,hu,hd,he=>by
    have hv:v=.str x:=h1;subst hv;obtain⟨t0,rfl⟩:=r1;have hu':Ar.units<cLine:=by omega
    cases e with
    |ref _=>simp[D.dep]at he
    |non=>have hw:w=.non:=h2;subst hw;cases r2;exact SeqAt.EqAt.str_none _ _
    |bl b=>have hw:w=.bl b:=h2;subst hw;cases r2;exact SeqAt.EqAt.str_bool _ _ _
    |int b=>have hw:w=.int b:=h2;subst hw;obtain⟨t,rfl⟩:=r2;exact Zx _ _ _ _
    |str b=>have hw:w=.str b:=h2;subst hw;obtain⟨t,rfl⟩:=r2;exact ZC _ _ _ _
    |tup es=>obtain⟨a,vs,rfl,t,_⟩:=h2;cases r2;obtain⟨its,_,p,_⟩:=I.tuple t;exact SeqAt.EqAt.str_tuple _ _ p hu'
    |lst es=>obtain⟨a,vs,rfl,t,_⟩:=h2;cases r2;obtain⟨_,its,_,p⟩:=sql I t;exact SeqAt.EqAt.str_list _ _ p hu'
  |.tup ds,e,v,w,u,u',h1,h2,r1,r2,hu,hd,he=>by
    have h1':=h1;have hd':=hd;simp only[D.dep]at hu hd;have hu':Ar.units<cLine:=by omega
    obtain⟨a,vs,rfl,t,q⟩:=h1;cases r1;obtain⟨its,rv,p,hz⟩:=I.tuple t
    cases e with
    |ref _=>simp[D.dep]at he
    |non=>have hw:w=.non:=h2;subst hw;cases r2;exact SeqAt.EqAt.tuple_none p hu'
    |bl b=>have hw:w=.bl b:=h2;subst hw;cases r2;exact SeqAt.EqAt.tuple_bool _ p hu'
    |int b=>have hw:w=.int b:=h2;subst hw;obtain⟨t,rfl⟩:=r2;exact SeqAt.EqAt.tuple_int _ _ p hu'
    |str b=>have hw:w=.str b:=h2;subst hw;obtain⟨t,rfl⟩:=r2;exact SeqAt.EqAt.tuple_str _ _ p hu'
    |tup es=>
      have h2':=h2;have he':=he;simp only[D.dep]at he;obtain⟨b,ws,rfl,t',q'⟩:=h2;cases r2
      by_cases hab:a=b
      · subst hab;rw[Is.inj I _ _ _ h1' h2' hd' he',D.eq_refl];exact Zi _
      · obtain⟨its',rv',p',hz'⟩:=I.tuple t';refine SeqAt.EqAt.of_refs hab ?_;have l1:its.toArray.size=ds.length:=by rw[Wr, <-rv.length,q.len]
        have l2:its'.toArray.size=es.length:=by rw[Wr, <-rv'.length,q'.len]
        have key:=SeqAt.RcAt.tuples (A:=Ar) (s:=s) (e:=fun j=>D.eq (ds.getD j .non) (es.getD j .non)) p p' hu' fun j j1 j2=>by
          simpa using m8 I ds es vs ws its its' q q' rv rv' (Ar:=Ar.in1) (by show Ar.units + 1 + _<_;omega) (by omega) (by omega) j (by simpa using j1) (by simpa using j2)
        rw[l1,l2]at key
        by_cases hl:ds.length=es.length
        · rw[show D.eq (.tup ds) (.tup es)=D.eqs ds es from rfl,D.eqs_all ds es hl];rw[hl,xaK,Xl,xaz]at key;rw[hl];exact key
        · rw[show D.eq (.tup ds) (.tup es)=D.eqs ds es from rfl,D.eqs_len ds es hl];rw[XC.mpr hl,Zt]at key;exact key
    |lst es=>obtain⟨b,ws,rfl,t',_⟩:=h2;cases r2;obtain⟨_,its',_,p'⟩:=sql I t';exact SeqAt.EqAt.tuple_list p p' hu'
  |.lst ds,e,v,w,u,u',h1,h2,r1,r2,hu,hd,he=>by
    have h1':=h1;have hd':=hd;simp only[D.dep]at hu hd;have hu':Ar.units<cLine:=by omega
    obtain⟨a,vs,rfl,t,q⟩:=h1;cases r1;obtain⟨hz,its,rv,p⟩:=sql I t
    cases e with
    |ref _=>simp[D.dep]at he
    |non=>have hw:w=.non:=h2;subst hw;cases r2;exact SeqAt.EqAt.list_none p hu'
    |bl b=>have hw:w=.bl b:=h2;subst hw;cases r2;exact SeqAt.EqAt.list_bool _ p hu'
    |int b=>have hw:w=.int b:=h2;subst hw;obtain⟨t,rfl⟩:=r2;exact SeqAt.EqAt.list_int _ _ p hu'
    |str b=>have hw:w=.str b:=h2;subst hw;obtain⟨t,rfl⟩:=r2;exact SeqAt.EqAt.list_str _ _ p hu'
    |tup es=>obtain⟨b,ws,rfl,t',_⟩:=h2;cases r2;obtain⟨its',_,p',_⟩:=I.tuple t';exact SeqAt.EqAt.list_tuple p p' hu'
    |lst es=>
      have h2':=h2;have he':=he;simp only[D.dep]at he;obtain⟨b,ws,rfl,t',q'⟩:=h2;cases r2
      by_cases hab:a=b
      · subst hab;rw[Is.inj I _ _ _ h1' h2' hd' he',D.eq_refl];exact Zi _
      · obtain⟨hz',its',rv',p'⟩:=sql I t';refine SeqAt.EqAt.of_refs hab ?_;have l1:its.toArray.size=ds.length:=by rw[Wr, <-rv.length,q.len]
        have l2:its'.toArray.size=es.length:=by rw[Wr, <-rv'.length,q'.len]
        by_cases hl:ds.length=es.length
        · have key:=SeqAt.RcAt.lists (A:=Ar) (s:=s) (e:=fun j=>D.eq (ds.getD j .non) (es.getD j .non)) p p' (by rw[l1,l2,hl]) hu' fun j j1 j2=>by
            simpa using m8 I ds es vs ws its its' q q' rv rv' (Ar:=Ar.in1) (by show Ar.units + 1 + _<_;omega) (by omega) (by omega) j (by simpa using j1) (by simpa using j2)
          rw[show D.eq (.lst ds) (.lst es)=D.eqs ds es from rfl,D.eqs_all ds es hl];rw[l1]at key;exact key
        · rw[show D.eq (.lst ds) (.lst es)=D.eqs ds es from rfl,D.eqs_len ds es hl];exact xac p p' (by rw[l1,l2];simpa using hl) hu'
theorem m8 (I:Inv X pins σ H s):∀(ds es:List D) (vs ws:List V) (its its':List Value),aq X.K A H ds vs->aq X.K B H es ws->Vals vs its->Vals ws its'->Ar.units + D.deps ds<cLine->D.deps ds<=100->D.deps es<=100->
    ∀(j:Nat) (h1:j<its.length) (h2:j<its'.length),SeqAt.EqAt Ar s its[j] its'[j] (D.eq (ds.getD j .non) (es.getD j .non))
  | [],es,vs,ws,its,its',h,h',r,r',hu,hd,he,j,j1,j2=>by
    have hv:vs=[]:=h;subst hv;cases r;exact absurd j1 (xam _)
  |d::ds,[],vs,ws,its,its',h,h',r,r',hu,hd,he,j,j1,j2=>by
    have hv:ws=[]:=h';subst hv;cases r';exact absurd j2 (xam _)
  |d::ds,e::es,vs,ws,its,its',h,h',r,r',hu,hd,he,j,j1,j2=>by
    obtain⟨v,vr,rfl,p,q⟩:=h;obtain⟨w,wr,rfl,p',q'⟩:=h';simp only[D.deps]at hu hd he
    cases r with
    |cons r1 r2=>
      cases r' with
      |cons r1' r2'=>
        cases j with
        |zero=>exact zE I d e v w _ _ p.w p'.w r1 r1' (by omega) (by omega) (by omega)
        |succ j=>exact m8 I ds es vr wr _ _ q q' r2 r2' (by omega) (by omega) (by omega) j (by simpa using j1) (by simpa using j2)
end
theorem H_ {d e:D}{A B:Pl}{K:Fgx}{v w:V}(fd:d.flat=true)(fe:e.flat=true)(h1:bx K A H d v)(h2:bx K B H e w):
  (lO v w=true/\D.eq d e=decide (v=w))\/(∃a i,v=.bl a/\w=.int i/\D.eq d e=((if a then 1 else 0)==i))\/∃a i,v=.int i/\w=.bl a/\D.eq d e=(i==(if a then 1 else 0)):=by
 cases d<;>cases e<;>simp only[D.flat,Xe]at fd fe<;>simp only[bx,Is]at h1 h2<;>subst h1 h2<;>simp[lO,D.eq]
 all_goals first |rfl |(rw[Xx];simp)
noncomputable def lJ (K:Fgx) (neg:Bool):R2:=fun x y H Q=>∃(A B:Pl) (d e:D),bx K A H d x/\bx K B H e y/\cP d e=true/\d.dep<=50/\Q (.bl (if neg then !D.eq d e else D.eq d e)) H
theorem Nv (hu:X.A.units + 60<cLine):bw X (compareOp .Eq) (lJ X.K false):=by
  intro pins s σ H x y v u Q I rx ry h;obtain⟨A,B,d,e,h1,h2,hk,hd,q⟩:=h;have q:Q (.bl (D.eq d e)) H:=q;have fin:SeqAt.RcAt X.A s v u (D.eq d e)->wpAny (model X.prog X.w) X.A (compareOp .Eq v u) (EP X pins σ Q) X.xe s:=fun r=>EqBoolInt.of_rc r ⟨.bl _,H,I,rfl,q⟩;have hu':X.A.units<cLine:=by omega
  cases fd:d.flat with
  |true=>
    simp only[cP,W2,Xw,Z4]at hk;have fe:e.flat=true:=hk.1.symm.trans fd;rcases H_ fd fe h1 h2 with⟨sc,eq⟩ |⟨a,i,rfl,rfl,eq⟩ |⟨a,i,rfl,rfl,eq⟩
    · exact Nu pins s σ H x y v u Q I rx ry ⟨sc,by rw[<-eq];exact q⟩
    · cases rx;obtain⟨t,rfl⟩:=ry;exact EqBoolInt.eq_bool_int ⟨.bl _,H,I,rfl,by rw[<-eq];exact q⟩
    · cases ry;obtain⟨t,rfl⟩:=rx;exact EqBoolInt.eq_int_bool ⟨.bl _,H,I,rfl,by rw[<-eq];exact q⟩
  |false=>
    simp only[cP,W2,Xw,Z4]at hk;have he:=hk.2;have fe:e.flat=false:=hk.1.symm.trans fd
    cases d with
    |tup ds=>
      obtain⟨a,vs,rfl,t,p⟩:=h1;cases rx;obtain⟨its,rv,pt,hz⟩:=I.tuple t;simp only[D.dep]at hd
      cases e with
      |tup es=>
        obtain⟨b,ws,rfl,t',p'⟩:=h2;cases ry;obtain⟨its',rv',pt',hz'⟩:=I.tuple t';have l1:its.toArray.size=ds.length:=by rw[Wr, <-rv.length,p.len]
        have l2:its'.toArray.size=es.length:=by rw[Wr, <-rv'.length,p'.len]
        have key:=SeqAt.RcAt.tuples (A:=X.A) (s:=s) (e:=fun j=>D.eq (ds.getD j .non) (es.getD j .non)) pt pt' hu' fun j j1 j2=>by
          simpa using m8 I ds es vs ws its its' p p' rv rv' (Ar:=X.A.in1) (by show X.A.units + 1 + _<_;omega) (by omega) (by simp only[D.dep]at he;omega) j (by simpa using j1) (by simpa using j2)
        rw[l1,l2]at key;refine fin ?_
        by_cases hl:ds.length=es.length
        · rw[show D.eq (.tup ds) (.tup es)=D.eqs ds es from rfl,D.eqs_all ds es hl];rw[hl,xaK,Xl,xaz]at key;rw[hl];exact key
        · rw[show D.eq (.tup ds) (.tup es)=D.eqs ds es from rfl,D.eqs_len ds es hl];rw[XC.mpr hl,Zt]at key;exact key
      |lst es=>
        obtain⟨b,ws,rfl,t',p'⟩:=h2;cases ry;obtain⟨_,its',rv',e'⟩:=sql I t';exact fin (SeqAt.RcAt.tuple_list pt e' hu')
      |ref _=>simp[D.dep]at he
      |_=>cases fe
    |lst ds=>
      obtain⟨a,vs,rfl,t,p⟩:=h1;cases rx;obtain⟨hz,its,rv,pt⟩:=sql I t;simp only[D.dep]at hd
      cases e with
      |tup es=>
        obtain⟨b,ws,rfl,t',p'⟩:=h2;cases ry;obtain⟨its',rv',pt',hz'⟩:=I.tuple t';exact fin (SeqAt.RcAt.list_tuple pt pt' hu')
      |lst es=>
        obtain⟨b,ws,rfl,t',p'⟩:=h2;cases ry;obtain⟨_,its',rv',pt'⟩:=sql I t';have l1:its.toArray.size=ds.length:=by rw[Wr, <-rv.length,p.len]
        have l2:its'.toArray.size=es.length:=by rw[Wr, <-rv'.length,p'.len]
        refine fin ?_
        by_cases hl:ds.length=es.length
        · have key:=SeqAt.RcAt.lists (A:=X.A) (s:=s) (e:=fun j=>D.eq (ds.getD j .non) (es.getD j .non)) pt pt' (by rw[l1,l2,hl]) hu' fun j j1 j2=>by
            simpa using m8 I ds es vs ws its its' p p' rv rv' (Ar:=X.A.in1) (by show X.A.units + 1 + _<_;omega) (by omega) (by simp only[D.dep]at he;omega) j (by simpa using j1) (by simpa using j2)
          rw[show D.eq (.lst ds) (.lst es)=D.eqs ds es from rfl,D.eqs_all ds es hl];rw[l1]at key;exact key
        · rw[show D.eq (.lst ds) (.lst es)=D.eqs ds es from rfl,D.eqs_len ds es hl];exact xac pt pt' (by rw[l1,l2];simpa using hl) hu'
      |ref _=>simp[D.dep]at he
      |_=>cases fe
    |ref _=>simp[D.dep]at hd
    |_=>cases fd
theorem N8 (hu:X.A.units + 60<cLine):bw X (compareOp .NotEq) (lJ X.K true):=by
  intro pins s σ H x y v u Q I rx ry h;obtain⟨A,B,d,e,h1,h2,hk,hd,q⟩:=h;have q:Q (.bl (!D.eq d e)) H:=q;have fin:SeqAt.RcNeAt X.A s v u (!D.eq d e)->wpAny (model X.prog X.w) X.A (compareOp .NotEq v u) (EP X pins σ Q) X.xe s:=fun r=>EqBoolInt.of_rcne r ⟨.bl _,H,I,rfl,q⟩;have hu':X.A.units<cLine:=by omega
  cases fd:d.flat with
  |true=>
    simp only[cP,W2,Xw,Z4]at hk;have fe:e.flat=true:=hk.1.symm.trans fd;rcases H_ fd fe h1 h2 with⟨sc,eq⟩ |⟨a,i,rfl,rfl,eq⟩ |⟨a,i,rfl,rfl,eq⟩
    · exact N7 pins s σ H x y v u Q I rx ry ⟨sc,by rw[<-eq];exact q⟩
    · cases rx;obtain⟨t,rfl⟩:=ry;exact EqBoolInt.ne_bool_int ⟨.bl _,H,I,rfl,by rw[<-eq];exact q⟩
    · cases ry;obtain⟨t,rfl⟩:=rx;exact EqBoolInt.ne_int_bool ⟨.bl _,H,I,rfl,by rw[<-eq];exact q⟩
  |false=>
    simp only[cP,W2,Xw,Z4]at hk;have he:=hk.2;have fe:e.flat=false:=hk.1.symm.trans fd
    cases d with
    |tup ds=>
      obtain⟨a,vs,rfl,t,p⟩:=h1;cases rx;obtain⟨its,rv,pt,hz⟩:=I.tuple t;simp only[D.dep]at hd
      cases e with
      |tup es=>
        obtain⟨b,ws,rfl,t',p'⟩:=h2;cases ry;obtain⟨its',rv',pt',hz'⟩:=I.tuple t';have l1:its.toArray.size=ds.length:=by rw[Wr, <-rv.length,p.len]
        have l2:its'.toArray.size=es.length:=by rw[Wr, <-rv'.length,p'.len]
        have key:=SeqAt.RcNeAt.tuples (A:=X.A) (s:=s) (e:=fun j=>D.eq (ds.getD j .non) (es.getD j .non)) pt pt' hu' fun j j1 j2=>by
          simpa using m8 I ds es vs ws its its' p p' rv rv' (Ar:=X.A.in1) (by show X.A.units + 1 + _<_;omega) (by omega) (by simp only[D.dep]at he;omega) j (by simpa using j1) (by simpa using j2)
        rw[l1,l2]at key;refine fin ?_
        by_cases hl:ds.length=es.length
        · rw[show D.eq (.tup ds) (.tup es)=D.eqs ds es from rfl,D.eqs_all ds es hl];rw[hl,xaK,Xl,xaz]at key;rw[hl];exact key
        · rw[show D.eq (.tup ds) (.tup es)=D.eqs ds es from rfl,D.eqs_len ds es hl];rw[XC.mpr hl,Zt]at key;exact key
      |lst es=>
        obtain⟨b,ws,rfl,t',p'⟩:=h2;cases ry;obtain⟨_,its',rv',e'⟩:=sql I t';exact fin (SeqAt.RcNeAt.tuple_list pt e' hu')
      |ref _=>simp[D.dep]at he
      |_=>cases fe
    |lst ds=>
      obtain⟨a,vs,rfl,t,p⟩:=h1;cases rx;obtain⟨hz,its,rv,pt⟩:=sql I t;simp only[D.dep]at hd
      cases e with
      |tup es=>
        obtain⟨b,ws,rfl,t',p'⟩:=h2;cases ry;obtain⟨its',rv',pt',hz'⟩:=I.tuple t';exact fin (SeqAt.RcNeAt.list_tuple pt pt' hu')
      |lst es=>
        obtain⟨b,ws,rfl,t',p'⟩:=h2;cases ry;obtain⟨_,its',rv',pt'⟩:=sql I t';have l1:its.toArray.size=ds.length:=by rw[Wr, <-rv.length,p.len]
        have l2:its'.toArray.size=es.length:=by rw[Wr, <-rv'.length,p'.len]
        refine fin ?_
        by_cases hl:ds.length=es.length
        · have key:=SeqAt.RcNeAt.lists (A:=X.A) (s:=s) (e:=fun j=>D.eq (ds.getD j .non) (es.getD j .non)) pt pt' (by rw[l1,l2,hl]) hu' fun j j1 j2=>by
            simpa using m8 I ds es vs ws its its' p p' rv rv' (Ar:=X.A.in1) (by show X.A.units + 1 + _<_;omega) (by omega) (by simp only[D.dep]at he;omega) j (by simpa using j1) (by simpa using j2)
          rw[show D.eq (.lst ds) (.lst es)=D.eqs ds es from rfl,D.eqs_all ds es hl];rw[l1]at key;exact key
        · rw[show D.eq (.lst ds) (.lst es)=D.eqs ds es from rfl,D.eqs_len ds es hl];exact SeqAt.RcNeAt.lists_lengths pt pt' (by rw[l1,l2];simpa using hl) hu'
      |ref _=>simp[D.dep]at he
      |_=>cases fe
    |ref _=>simp[D.dep]at hd
    |_=>cases fd
noncomputable def zp:Cp->CmpOp
 |.eq=>.Eq
 |.ne=>.NotEq
 |.lt=>.Lt
 |.le=>.LtE
 |.gt=>.Gt
 |.ge=>.GtE
 |.isin=>.In
 |.notin=>.NotIn
 |.same=>.Is
 |.other=>.IsNot
noncomputable def Bq (K:Fgx):Cp->R2
 |.eq=>lJ K false
 |.ne=>lJ K true
 |.lt=>fB fun i j=>.bl (decide (i<j))
 |.le=>fB fun i j=>.bl (decide (i<=j))
 |.gt=>fB fun i j=>.bl (decide (j<i))
 |.ge=>fB fun i j=>.bl (decide (j<=i))
 |.isin=>fun x y H Q=>(∃i j,x=.str i/\y=.str j/\Q (.bl (!(Builtin.Str.occurrences j i 0 j.length 1).isEmpty)) H)\/wW K false x y H Q
 |.notin=>fun x y H Q=>(∃i j,x=.str i/\y=.str j/\Q (.bl (!(!(Builtin.Str.occurrences j i 0 j.length 1).isEmpty))) H)\/wW K true x y H Q
 |.same=>fun x y H Q=>(y=.non/\Q (.bl (decide (x=.non))) H)\/(∃b,y=.bl b/\Q (.bl (decide (x=.bl b))) H)
 |.other=>fun x y H Q=>(y=.non/\Q (.bl (!decide (x=.non))) H)\/(∃b,y=.bl b/\Q (.bl (!decide (x=.bl b))) H)
theorem zu (hu:X.A.units + 60<cLine):∀c:Cp,bw X (compareOp (zp c)) (Bq X.K c)
 |.eq=>Nv hu
 |.ne=>N8 hu
 |.lt=>N6
 |.le=>N5
 |.gt=>Ny
 |.ge=>Nx
 |.isin=>NK.or Nz
 |.notin=>Ob.or N_
 |.same=>NT.or NP
 |.other=>Oa.or NZ
theorem rU {K:Fgx}{A:Pl}{d:D}{v:V}(f:d.flat=true)(h:Is K A H d v):gY v=true:=by
 cases d<;>simp only[D.flat,Xe]at f<;>simp only[Is]at h<;>subst h<;>rfl
theorem zF {K:Fgx}{A B:Pl}{d e:D}{v w:V}(f:d.flat=true)(g:e.flat=true)(h:Is K A H d v)(h':Is K B H e w):lu v w=D.eq d e:=by
 cases d<;>cases e<;>simp only[D.flat,Xe]at f g<;>simp only[Is]at h h'<;>subst h h'<;>rfl
theorem rW {K:Fgx}{A:Pl}:∀{ds:List D} {vs:List V},ds.all D.flat=true->aq K A H ds vs->vs.all gY=true
  | [],_,_,h=>by rw[show _=[] from h];rfl
  |d::ds,_,f,h=>by
    obtain⟨v,r,rfl,p,q⟩:=h;rw[Yv,W2]at f;rw[Yv,rU f.1 p,rW f.2 q];rfl
theorem gG {K:Fgx}{A B:Pl}{e:D}{w:V}(g:e.flat=true)(h':Is K B H e w):∀{ds:List D} {vs:List V},ds.all D.flat=true->aq K A H ds vs->inV w vs=ds.any fun y=>D.eq y e
  | [],_,_,h=>by rw[show _=[] from h];rfl
  |d::ds,_,f,h=>by
    obtain⟨v,r,rfl,p,q⟩:=h;rw[Yv,W2]at f;have:=gG g h' f.2 q;unfold inV at this ⊢;rw[ZK,ZK,this,zF f.1 g p h']
theorem JN {K:Fgx}{A B:Pl}{c:Cp}{d e:D}{v w:V}{b:Bool}{Q:VK}(h:bV c d e=some b)(h1:bx K A H d v)(h2:bx K B H e w)(q:Q (.bl b) H):Bq K c v w H Q:=by
  cases c
  case eq=>
    simp only[bV,pF,mq]at h;split at h
    · rename_i hc;cases h;exact⟨A,B,d,e,h1,h2,hc.1,hc.2,q⟩
    · cases h
  case ne=>
    simp only[bV,pF,mq]at h;split at h
    · rename_i hc;cases h;exact⟨A,B,d,e,h1,h2,hc.1,hc.2,q⟩
    · cases h
  case isin=>
    cases e with
    |str j=>
      cases d<;>simp only[bV,cF,mj,dR,mC,mz,reduceCtorEq]at h
      simp only[bx,Is]at h1 h2;subst h1 h2;cases h;exact .inl ⟨_,_,rfl,rfl,q⟩
    |lst xs=>
      have h':(if (d.flat && xs.all D.flat)=true then some (xs.any fun y=>D.eq y d) else none)=some b:=by cases d<;>exact h
      split at h'
      · rename_i hc;rw[W2]at hc;cases h';obtain⟨a,vs,rfl,t,p⟩:=h2;have h1':Is K A H d v:=by cases d<;>first |exact h1 |cases hc.1
        refine .inr ⟨a,vs,rfl,.inl (t),rU hc.1 h1',rW hc.2 p,?_⟩;rw[gG hc.1 h1' hc.2 p];exact q
      · cases h'
    |tup xs=>
      have h':(if (d.flat && xs.all D.flat)=true then some (xs.any fun y=>D.eq y d) else none)=some b:=by cases d<;>exact h
      split at h'
      · rename_i hc;rw[W2]at hc;cases h';obtain⟨a,vs,rfl,t,p⟩:=h2;have h1':Is K A H d v:=by cases d<;>first |exact h1 |cases hc.1
        refine .inr ⟨a,vs,rfl,.inr t,rU hc.1 h1',rW hc.2 p,?_⟩;rw[gG hc.1 h1' hc.2 p];exact q
      · cases h'
    |_=>cases d<;>simp only[bV,cF,mj,dR,mC,mz,reduceCtorEq]at h
  case notin=>
    cases e with
    |str j=>
      cases d<;>simp only[bV,cF,mj,dR,mC,mz,reduceCtorEq]at h
      simp only[bx,Is]at h1 h2;subst h1 h2;cases h;exact .inl ⟨_,_,rfl,rfl,q⟩
    |lst xs=>
      have h':(if (d.flat && xs.all D.flat)=true then some (!xs.any fun y=>D.eq y d) else none)=some b:=by cases d<;>exact h
      split at h'
      · rename_i hc;rw[W2]at hc;cases h';obtain⟨a,vs,rfl,t,p⟩:=h2;have h1':Is K A H d v:=by cases d<;>first |exact h1 |cases hc.1
        refine .inr ⟨a,vs,rfl,.inl (t),rU hc.1 h1',rW hc.2 p,?_⟩;rw[gG hc.1 h1' hc.2 p];exact q
      · cases h'
    |tup xs=>
      have h':(if (d.flat && xs.all D.flat)=true then some (!xs.any fun y=>D.eq y d) else none)=some b:=by cases d<;>exact h
      split at h'
      · rename_i hc;rw[W2]at hc;cases h';obtain⟨a,vs,rfl,t,p⟩:=h2;have h1':Is K A H d v:=by cases d<;>first |exact h1 |cases hc.1
        refine .inr ⟨a,vs,rfl,.inr t,rU hc.1 h1',rW hc.2 p,?_⟩;rw[gG hc.1 h1' hc.2 p];exact q
      · cases h'
    |_=>cases d<;>simp only[bV,cF,mj,dR,mC,mz,reduceCtorEq]at h
  case same=>
    cases d<;>cases e<;>simp only[bV,cF,mj,dR,mC,mz,reduceCtorEq]at h<;>cases h<;>simp only[bx,Is]at h1 h2
    all_goals first
      |(subst h1 h2;first |exact .inr ⟨_,rfl,by rw[vY];exact q⟩ |exact .inl ⟨rfl,by simpa using q⟩ |exact .inr ⟨_,rfl,by simpa using q⟩)
      |(obtain⟨a,vs,rfl,_⟩:=h1;subst h2;first |exact .inl ⟨rfl,by simpa using q⟩ |exact .inr ⟨_,rfl,by simpa using q⟩)
  case other=>
    cases d<;>cases e<;>simp only[bV,cF,mj,dR,mC,mz,reduceCtorEq]at h<;>cases h<;>simp only[bx,Is]at h1 h2
    all_goals first
      |(subst h1 h2;first |exact .inr ⟨_,rfl,by rw[vY];exact q⟩ |exact .inl ⟨rfl,by simpa using q⟩ |exact .inr ⟨_,rfl,by simpa using q⟩)
      |(obtain⟨a,vs,rfl,_⟩:=h1;subst h2;first |exact .inl ⟨rfl,by simpa using q⟩ |exact .inr ⟨_,rfl,by simpa using q⟩)
  all_goals
    cases d<;>cases e<;>simp only[bV,cF,mj,dR,mC,mz,reduceCtorEq]at h
    simp only[bx,Is]at h1 h2;subst h1 h2;cases h;exact⟨_,_,rfl,rfl,q⟩
end
inductive Mode where
 |val |bor
def vK (mg:Mgx)(H:Hp)(c:Str)(n:Int)(v:V):Prop:=∃a C dx,v=.ref a/\mg c=some (.ref C)/\H a=some (xo a C dx false)/\
 match dx with
 |none=>n=0
 |some d=>∃fs,H d=some (.xd fs)/\fs.lookup ("at":Str)=some (.int (n - 1))/\n≠0
theorem vK.lt (l:Lt P H P' H')(h:vK mg H c n v):vK mg H' c n v:=by
  obtain⟨a,C,dx,e,m,ea,q⟩:=h;refine⟨a,C,dx,e,m,l.keep _ _ ea (.inl (.inr (.inr (.inl ⟨_,rfl⟩)))),?_⟩
  cases dx with
  |none=>exact q
  |some d=>
    obtain⟨fs,ed,el⟩:=q;exact⟨fs,l.keep _ _ ed (.inl (.inr (.inr (.inr ⟨_,rfl⟩)))),el⟩
noncomputable def Dy (K:Fgx) (mg:Mgx) (P:Pl) (H:Hp) (o:Option Addr) (sv:Option V):Slot->Prop
 |.un=>True
 |.val d=>∃v,sv=some v/\Is K P H d v
 |.own ds=>∃a vs,o=some a/\sv=some (.ref a)/\H a=some (.lst vs)/\aq K P H ds vs
 |.exc c n=>∃v,sv=some v/\vK mg H c n v
structure Ok (K:Fgx)(mg:Mgx)(P0:Pl)(H0:Hp)(P:Pl)(O:List (Option Addr))(H:Hp)(M:Mm)(st:L2.St)(env:Env):Prop where
 hk:Hk K mg P H M
 base:LtE P0 H0 P H
 b0:∀a,P0.bd a->H0 a≠none
 slot:∀(i:Nat) s,env[i]? =some s->Dy K mg P H (O[i]?).join (st[i]?).join s
 own:∀a,some a∈O->P.bd a/\(∀k,k<P.n->P.io k≠a)/\H0 a=none
 inj:∀(i j:Nat) a,O[i]? =some (some a)->O[j]? =some (some a)->i=j
 olen:O.length=env.length
 slen:st.length=env.length
def c7 (K:Fgx)(P:Pl)(H:Hp)(m:Mode)(d:D)(v:V):Prop:=match m with
 |.val=>Is K P H d v
 |.bor=>bW K P H d v
inductive Res where
 |v (d:D) |x (c:Str) (n:Int)
abbrev O:=Option (Res×Mm)
abbrev E:=Env->Mm->O
noncomputable def bnd (o:O) (k:D->Mm->O):O:=match o with
 |some (.v d,M)=>k d M
 |some (.x c n,M)=>some (.x c n,M)
 |none=>none
theorem dh (h:bnd o k=some (r,M')):(∃d M,o=some (.v d,M)/\k d M=some (r,M'))\/∃c n,o=some (.x c n,M')/\r=.x c n:=by
 unfold bnd at h;split at h
 ·exact .inl ⟨_,_,rfl,h⟩
 ·cases h;exact .inr ⟨_,_,rfl,rfl⟩
 ·cases h
abbrev XW:=Pl->Hp->Mm->Str->Int->Prop
section
variable {K:Fgx}{mg:Mgx}{P0 P P':Pl}{H0 H H':Hp}{M M':Mm}{Os:List (Option Addr)}{st:L2.St}{env:Env}{d:D}{v:V}{m:Mode}
theorem Is.b (h:Hk K mg P H M)(i:Is K P H d v):bW K P H d v:=by
  cases d with
  |lst ds=>
    obtain⟨a,vs,e,r,q⟩:=i;exact⟨a,vs,e,r.imp (fun⟨n,r⟩=>⟨fun k hk z=>n (z ▸ h.bd k hk),r⟩) id,q⟩
  |_=>exact i
theorem c7.of (h:Hk K mg P H M)(i:Is K P H d v):c7 K P H m d v:=by
 cases m with
 |val=>exact i
 |bor=>exact i.b h
theorem c7.b (h:Hk K mg P H M)(i:c7 K P H m d v):bW K P H d v:=by
 cases m with
 |val=>exact Is.b h i
 |bor=>exact i
theorem LtE.nc (l:LtE P H P' H')(e:H a=some o)(n:∀k,k<P.n->P.io k≠a):∀k,k<P'.n->P'.io k≠a:=fun k hk z=>by
 rcases W8 k P.n with q |q
 ·rw[l.io k q]at z;exact n k q z
 ·rw[<-z,l.nw k q hk]at e;cases e
theorem bW.lt (l:LtE P H P' H')(h:Hk K mg P H M)(i:bW K P H d v):bW K P' H' d v:=by
  cases d with
  |lst ds=>
    obtain⟨a,vs,e,r,q⟩:=i;refine⟨a,vs,e,r.imp (fun⟨n,r⟩=>?_) id,aq.lt (l.lt h) q⟩;obtain⟨o,eo⟩:=Hi r;refine⟨l.nc eo n,?_⟩;rcases r with r |⟨o',r⟩
    · exact .inl (l.keep _ _ r (.inr n))
    · exact .inr ⟨o',l.keep _ _ r (.inr n)⟩
  |_=>exact Is.lt (l.lt h) i
theorem Ok.next (k:Ok K mg P0 H0 P Os H M st env)(l:LtE P H P' H')(h:Hk K mg P' H' M'):Ok K mg P0 H0 P' Os H' M' st env where
  hk:=h
  base:=k.base.trans l
  b0:=k.b0
  slot:=fun i s e=>by
    have q:=k.slot i s e
    cases s with
    |un=>exact True.intro
    |val d=>
      obtain⟨v,e1,q⟩:=q;exact⟨v,e1,Is.lt (l.lt k.hk) q⟩
    |own ds=>
      obtain ⟨a, vs, e1, e2, e3, q⟩ := q;have ho := k.own a (by
        cases hx:Os[i]? with
        |none=>rw[hx]at e1;cases e1
        |some o=>rw[hx]at e1;cases o with
          |none=>cases e1
          |some b=>cases e1;exact WX hx)
      exact⟨a,vs,e1,e2,l.keep _ _ e3 (.inr ho.2.1),aq.lt (l.lt k.hk) q⟩
    |exc c n=>
      obtain⟨v,e1,q⟩:=q;exact⟨v,e1,q.lt (l.lt k.hk)⟩
  own:=fun a z=>by
    have ho:=k.own a z;refine⟨l.bm a ho.1,?_,ho.2.2⟩;obtain⟨o,eo⟩:∃o,H a=some o:=by
      cases e:H a with
      |none=>exact absurd e (k.hk.here a ho.1)
      |some o=>exact⟨o,rfl⟩
    exact l.nc eo ho.2.1
  inj:=k.inj
  olen:=k.olen
  slen:=k.slen
theorem Hk.same (h:Hk K mg P H M)(s:Same H H'):Hk K mg P H' M:=by
  have l:Lt P H P H':=(LtE.same s).lt h;refine⟨h.n,fun k c e=>?_,h.inj,h.bd,fun a z q=>h.here a z (s.free q)⟩;have:=h.cell k c e
  cases c with
  |lst ds=>
    obtain⟨vs,e1,q⟩:=this;exact⟨vs,s _ _ e1,aq.lt l q⟩
  |obj c fs=>
    obtain⟨C,dx,gs,e1,e2,e3,q⟩:=this;exact⟨C,dx,gs,e1,s _ _ e2,e3,aq.lt l q⟩
  |dct kvs=>
    obtain⟨vs,e1,e2,q⟩:=this;exact⟨vs,s _ _ e1,e2,aq.lt l q⟩
  |dcf kvs=>
    obtain⟨vs,ob,es,ep,e1,eD,e2,q⟩:=this;exact⟨vs,ob,es,ep,s _ _ e1,eD,e2,aq.lt l q⟩
  |fn i caps=>exact gj.up this l.frz fun _ _ q=>aq.lt l q
  |tbl nm i=>exact kO.up this (fun _ e=>s _ _ e) l.frz
end
noncomputable def RQ (K:Fgx) (mg:Mgx) (Wx:XW) (m:Mode) (P0:Pl) (H0:Hp) (P:Pl) (H:Hp) (M':Mm) (Q:VK):Res->Prop
 |.v d=>∀P' v H',LtE P H P' H'->Hk K mg P' H' M'->c7 K P' H' m d v->Q v H'
 |.x c n=>Wx P0 H0 M' c n
theorem cT (h:PE X e t)(i:∀st H Q,t' st H Q->t st H Q):PE X e t':=fun pins s σ H Q I z=>h pins s σ H Q I (i _ _ _ z)
noncomputable def tE (K:Fgx) (mg:Mgx) (Wx:XW) (m:Mode) (f:E):TE:=fun st H Q=>∃P0 H0 P Os env M r M',Ok K mg P0 H0 P Os H M st env/\f env M=some (r,M')/\RQ K mg Wx m P0 H0 P H M' Q r
structure Fit (X:Cx)(Wx:XW):Prop where
 calm:X.calm=true
 room:X.A.units + 60<cLine
section
variable {X:Cx}{Wx:XW}{m:Mode}
def SE (X:Cx)(Wx:XW)(m:Mode)(e:Expr)(f:E):Prop:=PE X e (tE X.K X.mg Wx m f)
theorem SE.bor (h : SE X Wx .val e f) : SE X Wx m e f := cT h fun st H Q ⟨P0, H0, P, Os, env, M, r, M', k, e, q⟩ => ⟨P0,H0,P,Os,env,M,r,M',k,e,by
 cases r with
 |v d=>exact fun P' v H' l h i=>q P' v H' l h (c7.of h i)
 |x c n=>exact q⟩
theorem bF {f:E}{K:Fgx}{mg:Mgx}{P0 P:Pl}{H0 H:Hp}{Os:List (Option Addr)}{M M':Mm}{st:L2.St}{env:Env}{r:Res}{Q:VK}(k:Ok K mg P0 H0 P Os H M st env)(e:f env M=some (r,M'))
  (q:RQ K mg Wx m P0 H0 P H M' Q r):tE K mg Wx m f st H Q:=⟨P0,H0,P,Os,env,M,r,M',k,e,q⟩
noncomputable def aj (i:Nat):E:=fun env M=>match env[i]? with
 |some (.val d)=>some (.v d,M)
 |_=>none
noncomputable def p8 (i:Nat):E:=fun env M=>match env[i]? with
 |some (.val d)=>some (.v d,M)
 |some (.own ds)=>some (.v (.lst ds),M)
 |_=>none
def ak (d:D):E:=fun _ M=>some (.v d,M)
theorem gH {α:Type}{l:List (Option α)}{i:Nat}{a:α}(h:(l[i]?).join=some a):l[i]? =some (some a):=by
  cases e:l[i]? with
  |none=>rw[e]at h;cases h
  |some o=>rw[e]at h;cases o with
    |none=>cases h
    |some b=>cases h;rfl
theorem Ib {i:Nat}{x:Str}{pos:Pos}(hN:X.N[i]? =some x)(hv:m5 X.env.scope x)(hd:(x==("__debug__":Str))=false:=by x_go)(hcd:(x==("__classdict__":Str))=false:=by x_go):SE X Wx .val (.Name x pos) (aj i):=by
 refine cT (tO hN hv hd hcd) ?_;rintro st H Q ⟨P0,H0,P,Os,env,M,r,M',k,e,q⟩;unfold aj at e;split at e
 ·rename_i d hs;cases e;obtain⟨v,e1,i1⟩:=k.slot i _ hs;exact⟨v,gH e1,q P v H (LtE.refl P H) k.hk i1⟩
 ·cases e
theorem Td {i:Nat}{x:Str}{pos:Pos}(hN:X.N[i]? =some x)(hv:m5 X.env.scope x)(hd:(x==("__debug__":Str))=false:=by x_go)(hcd:(x==("__classdict__":Str))=false:=by x_go):SE X Wx .bor (.Name x pos) (p8 i):=by
 refine cT (tO hN hv hd hcd) ?_;rintro st H Q ⟨P0,H0,P,Os,env,M,r,M',k,e,q⟩;unfold p8 at e;split at e
 ·rename_i d hs;cases e;obtain⟨v,e1,i1⟩:=k.slot i _ hs;exact⟨v,gH e1,q P v H (LtE.refl P H) k.hk (c7.of k.hk i1)⟩
 ·rename_i ds hs;cases e;obtain⟨a,vs,e1,e2,e3,i1⟩:=k.slot i _ hs;exact⟨.ref a,gH e2,q P _ H (LtE.refl P H) k.hk ⟨a,vs,rfl,.inl ⟨(k.own a (WX (gH e1))).2.1,.inl e3⟩,i1⟩⟩
 ·cases e
theorem Ca (h:PE X e (tC v))(hd:∀P H,Is X.K P H d v):SE X Wx .val e (ak d):=by
 refine cT h ?_;rintro st H Q ⟨P0,H0,P,Os,env,M,r,M',k,e,q⟩;cases e;exact q P v H (LtE.refl P H) k.hk (hd P H)
noncomputable def vw (M:Mm) (d:D):D:=match d with
  | .ref k => (match M[k]? with
    |some (.lst ds)=>.lst ds
    |_=>.ref k)
  |d=>d
theorem bW.vw {K:Fgx}{mg:Mgx}{P:Pl}{H:Hp}{M:Mm}{d:D}{v:V}(h:Hk K mg P H M)(i:bW K P H d v):bx K P H (vw M d) v:=by
  cases d with
  |ref k=>
    unfold E3.vw;dsimp only
    split
    · rename_i ds e;obtain⟨i1,i2⟩:k<P.n/\v=.ref (P.io k):=i;obtain⟨vs,e1,q⟩:=h.cell k _ e;exact⟨_,vs,i2,.inl (.inl e1),q⟩
    · exact i
  |lst ds=>exact i.w
  |_=>exact i
noncomputable def s1 (o:D->Option D) (f:E):E:=fun env M=>bnd (f env M) fun d M1=>(o (vw M1 d)).map fun z=>(.v z,M1)
noncomputable def s2 (o:D->D->Option D) (f g:E):E:=fun env M=>bnd (f env M) fun d M1=>bnd (g env M1) fun e M2=>(o (vw M2 d) (vw M2 e)).map fun z=>(.v z,M2)
def fH (K:Fgx)(r:R2)(o:D->D->Option D):Prop:=∀(P:Pl) (H:Hp) (d e z:D) (v w:V) (Q:VK),o d e=some z->bx K P H d v->bx K P H e w->(∀p,H p=none->¬ P.bd p)->(∀u H',Same H H'->Is K P H' z u->Q u H')->r v w H Q
theorem Hk.new {K:Fgx}{mg:Mgx}{P:Pl}{H:Hp}{M:Mm}(h:Hk K mg P H M):∀p,H p=none->¬ P.bd p:=fun p hp z=>h.here p z hp
theorem xY {f g:E}{o:D->D->Option D}{r:R2}{st:L2.St}{H:Hp}{Q:VK}(po:fH X.K r o)(h:tE X.K X.mg Wx m (s2 o f g) st H Q):vo r (tE X.K X.mg Wx .bor f) (tE X.K X.mg Wx .bor g) st H Q:=by
 obtain⟨P0,H0,P,Os,env,M,rr,M',k,e,q⟩:=h;unfold s2 at e;rcases dh e with⟨d,M1,e1,e⟩ |⟨c,n,e1,rfl⟩
 ·refine bF k e1 fun P1 v1 H1 l1 h1 i1=>?_;have k1:=k.next l1 h1
  rcases dh e with⟨d2,M2,e2,e⟩ |⟨c,n,e2,rfl⟩
  ·refine bF k1 e2 fun P2 v2 H2 l2 h2 i2=>?_;rw[Ww]at e;obtain⟨z,ez,e⟩:=e;cases e;exact po P2 H2 _ _ z v1 v2 Q ez (bW.vw h2 (bW.lt l2 h1 i1)) (bW.vw h2 i2) h2.new fun u H' s i=>q P2 u H' (l1.trans (l2.trans (LtE.same s))) (h2.same s) (c7.of (h2.same s) i)
  ·exact bF k1 e2 q
 ·exact bF k e1 q
theorem aK (ho:bw X (binaryOp op) r)(po:fH X.K r o)(ha:SE X Wx .bor a f)(hb:SE X Wx .bor b g):SE X Wx m (.BinOp a op b pos) (s2 o f g):=
 cT (GX ho ha hb) fun _ _ _ h=>xY po h
theorem S9 (ho:bw X (compareOp op) r)(po:fH X.K r o)(ha:SE X Wx .bor a f)(hb:SE X Wx .bor b g)(hm:behindInMarks op b=false:=by rfl):SE X Wx m (.Compare a [op] [b] pos) (s2 o f g):=
 cT (Oj ho ha hb hm) fun _ _ _ h=>xY po h
theorem S_ (ho:gR X r)(po:fH X.K r o)(ha:SE X Wx .bor a f)(hb:SE X Wx .bor b g)(hs:yD b:=by exact fun _ _=>rfl):SE X Wx m (.Subscript a b pos) (s2 o f g):=
 cT (Oo ho ha hb hs) fun _ _ _ h=>xY po h
noncomputable def TQ (K:Fgx) (mg:Mgx) (Wx:XW) (P0:Pl) (H0:Hp) (P:Pl) (H:Hp) (M':Mm) (Q:Bool->Hp->Prop):Res->Prop
 |.v d=>∃b,d=.bl b/\∀P' H',LtE P H P' H'->Hk K mg P' H' M'->Q b H'
 |.x c n=>Wx P0 H0 M' c n
noncomputable def nZ (K:Fgx) (mg:Mgx) (Wx:XW) (f:E):TT:=fun st H Q=>∃P0 H0 P Os env M r M',Ok K mg P0 H0 P Os H M st env/\f env M=some (r,M')/\TQ K mg Wx P0 H0 P H M' Q r
def ST (X:Cx)(Wx:XW)(e:Expr)(f:E):Prop:=PT X e (nZ X.K X.mg Wx f)
theorem Bf (h:PT X e t)(i:∀st H Q,t' st H Q->t st H Q):PT X e t':=fun pins s σ H Q I z=>h pins s σ H Q I (i _ _ _ z)
theorem lV {f:E}{K:Fgx}{mg:Mgx}{P0 P:Pl}{H0 H:Hp}{Os:List (Option Addr)}{M M':Mm}{st:L2.St}{env:Env}{r:Res}{Q:Bool->Hp->Prop}(k:Ok K mg P0 H0 P Os H M st env)(e:f env M=some (r,M'))
  (q:TQ K mg Wx P0 H0 P H M' Q r):nZ K mg Wx f st H Q:=⟨P0,H0,P,Os,env,M,r,M',k,e,q⟩
theorem UJ {f:E}{st:L2.St}{H:Hp}{Q:Bool->Hp->Prop}(h:nZ X.K X.mg Wx f st H Q):IW (tE X.K X.mg Wx .val f) st H Q:=by
  obtain⟨P0,H0,P,Os,env,M,r,M',k,e,q⟩:=h;refine bF k e ?_
  cases r with
  |v d=>
    obtain⟨b,rfl,q⟩:=q;exact fun P' v H' l h i=>⟨b,i,q P' H' l h⟩
  |x c n=>exact q
theorem IK (ho:bw X (compareOp op) r)(po:fH X.K r o)(ha:SE X Wx .bor a f)(hb:SE X Wx .bor b g)(hm:behindInMarks op b=false:=by rfl):ST X Wx (.Compare a [op] [b] pos) (s2 o f g):=
 Bf (Pg ho ha hb hm) fun _ _ _ h=>xY po (UJ h)
noncomputable def f9:D->Option Bool
 |.non=>some false
 |.bl b=>some b
 |.int i=>some (i !=0)
 |.str s=>if s.length<=sizeLine then some ((s.length:Int) !=0) else none
 |.lst ds=>some (!ds.isEmpty)
 |.tup ds=>some (!ds.isEmpty)
 |.ref _=>none
def cG (f:E):E:=s1 (fun d=>(f9 d).map .bl) f
noncomputable def dY (f:E):E:=fun env M=>bnd (f env M) fun d M1=>match d with
 |.bl b=>some (.v (.bl (!b)),M1)
 |_=>none
noncomputable def lK (f g:E):E:=fun env M=>bnd (f env M) fun d M1=>match d with
 |.bl b=>if b=true then g env M1 else some (.v (.bl false),M1)
 |_=>none
noncomputable def j5 (f g:E):E:=fun env M=>bnd (f env M) fun d M1=>match d with
 |.bl b=>if b=true then some (.v (.bl true),M1) else g env M1
 |_=>none
def SW (X:Cx)(Wx:XW)(e:Expr)(f:E):Prop:=PW X e (nZ X.K X.mg Wx f)
theorem Pq (h:PW X e t)(i:∀st H Q,t' st H Q->t st H Q):PW X e t':=fun wh pins s σ H Q I z=>h wh pins s σ H Q I (i _ _ _ z)
theorem vg (ha:ST X Wx a f):ST X Wx (.UnaryOp .Not a pos) (dY f):=by
 refine Bf (Ph ha) ?_;rintro st H Q ⟨P0,H0,P,Os,env,M,r,M',k,e,q⟩;unfold dY at e;rcases dh e with⟨d,M1,e1,e⟩ |⟨c,n,e1,rfl⟩
 ·cases d<;>simp only[reduceCtorEq]at e
  cases e;obtain⟨b,e2,q⟩:=q;cases e2;exact lV k e1 ⟨_,rfl,q⟩
 ·exact lV k e1 q
theorem xX (ha:ST X Wx a f):SW X Wx (.BoolOp .Or [a] pos) f:=Pu ha
theorem nY (ha:ST X Wx a f)(hb:SW X Wx (.BoolOp .Or (b::rest) pos) g):SW X Wx (.BoolOp .Or (a::b::rest) pos) (j5 f g):=by
  refine Pq (Pr ha hb) ?_;rintro st H Q ⟨P0,H0,P,Os,env,M,r,M',k,e,q⟩;unfold j5 at e;rcases dh e with⟨d,M1,e1,e⟩ |⟨c,n,e1,rfl⟩
  · cases d<;>simp only[reduceCtorEq]at e
    rename_i b;refine lV k e1 ⟨b,rfl,fun P1 H1 l1 h1=>?_⟩
    cases b with
    |false=>
      rw[WY (by decide)]at e ⊢;refine lV (k.next l1 h1) e ?_
      cases r with
      |v d=>obtain⟨b,e2,q⟩:=q;exact⟨b,e2,fun P' H' l h=>q P' H' (l1.trans l) h⟩
      |x c n=>exact q
    |true=>
      rw[Wv rfl]at e ⊢;cases e;obtain⟨b,e2,q⟩:=q;cases e2;exact q P1 H1 l1 h1
  · exact lV k e1 q
theorem SW.st (h:SW X Wx e f):ST X Wx e f:=h.pt
end
section
variable {X:Cx}{Wx:XW}{m:Mode}
theorem RQ.imp {K:Fgx}{mg:Mgx}{P0 P P1:Pl}{H0 H H1:Hp}{M':Mm}{Q:VK}{r:Res}(l:LtE P H P1 H1)(q:RQ K mg Wx m P0 H0 P H M' Q r):RQ K mg Wx m P0 H0 P1 H1 M' Q r:=by
 cases r with
 |v d=>exact fun P' v H' l' h i=>q P' v H' (l.trans l') h i
 |x c n=>exact q
theorem Tc (ha:SE X Wx m a f):SE X Wx m (.BoolOp op [a] pos) f:=Ot ha
theorem S6 (ha:SE X Wx .val a f)(hb:SE X Wx m (.BoolOp .And (b::rest) pos) g):SE X Wx m (.BoolOp .And (a::b::rest) pos) (lK f g):=by
  refine cT (Od ha hb) ?_;rintro st H Q ⟨P0,H0,P,Os,env,M,r,M',k,e,q⟩;unfold lK at e;rcases dh e with⟨d,M1,e1,e⟩ |⟨c,n,e1,rfl⟩
  · cases d<;>simp only[reduceCtorEq]at e
    rename_i b;refine bF k e1 fun P1 v1 H1 l1 h1 i1=>⟨b,i1,?_⟩
    cases b with
    |true=>
      rw[Wv rfl]at e ⊢;exact bF (k.next l1 h1) e (RQ.imp l1 q)
    |false=>
      rw[WY (by decide)]at e ⊢;cases e;exact q P1 _ H1 l1 h1 (c7.of h1 (show Is _ _ _ (.bl false) _ from rfl))
  · exact bF k e1 q
theorem Uz {K:Fgx}{P:Pl}{H:Hp}{d:D}{v:V}{b:Bool}(h:f9 d=some b)(i:bx K P H d v):mZ K v H b:=by
  cases d with
  |non=>have e:v=.non:=i;subst e;cases h;rfl
  |bl c=>have e:v=.bl c:=i;subst e;cases h;rfl
  |int c=>have e:v=.int c:=i;subst e;cases h;rfl
  |str c=>
    have e:v=.str c:=i;subst e;simp only[f9]at h;split at h
    · rename_i hl;cases h;exact⟨hl,rfl⟩
    · cases h
  |lst ds=>
    obtain⟨a,vs,rfl,r,q⟩:=i;cases h;refine .inl ⟨vs,r,?_⟩
    cases ds with
    |nil=>rw[show vs=[] from q];rfl
    |cons d ds=>obtain⟨w,r',rfl,_⟩:=q;rfl
  |tup ds=>
    obtain⟨a,vs,rfl,r,q⟩:=i;cases h;refine .inr (.inl ⟨vs,r,?_⟩)
    cases ds with
    |nil=>rw[show vs=[] from q];rfl
    |cons d ds=>obtain⟨w,r',rfl,_⟩:=q;rfl
  |ref k=>cases h
theorem mO (ha:SE X Wx .bor a f)(he:∀whole,isTrue a X.env whole=(do let v <-whole;standAt a.pos;holding [v] (truthy v)):=by exact fun _=>rfl):ST X Wx a (cG f):=by
 refine Bf (Pj ha he) ?_;rintro st H Q ⟨P0,H0,P,Os,env,M,r,M',k,e,q⟩;unfold cG s1 at e;rcases dh e with⟨d,M1,e1,e⟩ |⟨c,n,e1,rfl⟩
 ·rw[Ww]at e;obtain⟨z,ez,e⟩:=e;cases e;rw[Ww]at ez;obtain⟨b,eb,rfl⟩:=ez;obtain⟨b',e2,q⟩:=q;cases e2;exact bF k e1 fun P1 v1 H1 l1 h1 i1=>⟨b,Uz eb (bW.vw h1 i1),q P1 H1 l1 h1⟩
 ·exact bF k e1 q
inductive ResA where
 |v (ds:List D) |x (c:Str) (n:Int)
abbrev EA:=Env->Mm->Option (ResA×Mm)
def au:EA:=fun _ M=>some (.v [],M)
noncomputable def aA (f:E) (fs:EA):EA:=fun env M=>match f env M with
  | some (.v d, M1) => (match fs env M1 with
    |some (.v ds,M2)=>some (.v (d::ds),M2)
    |some (.x c n,M2)=>some (.x c n,M2)
    |none=>none)
  |some (.x c n,M1)=>some (.x c n,M1)
  |none=>none
noncomputable def cO (o:Option (ResA×Mm)) (k:List D->Mm->O):O:=match o with
 |some (.v ds,M)=>k ds M
 |some (.x c n,M)=>some (.x c n,M)
 |none=>none
theorem m7 (h:cO o k=some (r,M')):(∃ds M,o=some (.v ds,M)/\k ds M=some (r,M'))\/∃c n,o=some (.x c n,M')/\r=.x c n:=by
 unfold cO at h;split at h
 ·exact .inl ⟨_,_,rfl,h⟩
 ·cases h;exact .inr ⟨_,_,rfl,rfl⟩
 ·cases h
noncomputable def bN (K:Fgx) (P:Pl) (H:Hp) (m:Mode):List D->List V->Prop
 | [],vs=>vs=[]
 |d::ds,vs=>∃v ws,vs=v::ws/\c7 K P H m d v/\bN K P H m ds ws
theorem bN.iss {K:Fgx}{P:Pl}{H:Hp}:∀{ds:List D} {vs:List V},bN K P H .val ds vs->aq K P H ds vs
  | [],_,h=>h
  |_::_,_,h=>by
    obtain⟨v,ws,e,p,q⟩:=h;exact⟨v,ws,e,p,bN.iss q⟩
noncomputable def AQ (K:Fgx) (mg:Mgx) (Wx:XW) (m:Mode) (P0:Pl) (H0:Hp) (P:Pl) (H:Hp) (M':Mm) (Q:List V->Hp->Prop):ResA->Prop
 |.v ds=>∀P' vs H',LtE P H P' H'->Hk K mg P' H' M'->bN K P' H' m ds vs->Q vs H'
 |.x c n=>Wx P0 H0 M' c n
noncomputable def Ue (K:Fgx) (mg:Mgx) (Wx:XW) (m:Mode) (fs:EA):TA:=fun st H Q=>∃P0 H0 P Os env M r M',Ok K mg P0 H0 P Os H M st env/\fs env M=some (r,M')/\AQ K mg Wx m P0 H0 P H M' Q r
def SA (X:Cx)(Wx:XW)(m:Mode)(es:List Expr)(fs:EA):Prop:=PA X es (Ue X.K X.mg Wx m fs)
theorem GP (h:PA X es t)(w:∀σ H Q,t' σ H Q->t σ H Q):PA X es t':=fun pos pins s σ H Q I hw=>h pos pins s σ H Q I (w σ H Q hw)
theorem aJ:SA X Wx m [] au:=by
 refine GP nq ?_;rintro st H Q ⟨P0,H0,P,Os,env,M,r,M',k,e,q⟩;cases e;exact q P [] H (LtE.refl P H) k.hk rfl
theorem aD (ha:SE X Wx m e f)(hr:SA X Wx m es fs)(hs:starEach (e::es) X.env=(false,eval e X.env)::starEach es X.env:=by rfl):SA X Wx m (e::es) (aA f fs):=by
 refine GP (mH ha hr hs) ?_;rintro st H Q ⟨P0,H0,P,Os,env,M,r,M',k,e,q⟩;unfold aA at e;split at e
 ·rename_i d M1 e1;refine bF k e1 fun P1 v1 H1 l1 h1 i1=>?_;split at e
  ·rename_i ds M2 e2;cases e;refine⟨P0,H0,P1,Os,env,M1,_,_,k.next l1 h1,e2,fun P2 vs H2 l2 h2 i2=>q P2 _ H2 (l1.trans l2) h2 ⟨v1,vs,rfl,?_,i2⟩⟩
   cases m with
   |val=>exact Is.lt (l2.lt h1) i1
   |bor=>exact bW.lt l2 h1 i1
  ·rename_i c n M2 e2;cases e;exact⟨P0,H0,P1,Os,env,M1,_,_,k.next l1 h1,e2,q⟩
  ·cases e
 ·rename_i c n M1 e1;cases e;exact bF k e1 q
 ·cases e
noncomputable def sN (o:List D->Option D) (fs:EA):E:=fun env M=>cO (fs env M) fun ds M1=>(o (ds.map (vw M1))).map fun z=>(.v z,M1)
noncomputable def kE (K:Fgx) (P:Pl) (H:Hp):List D->List V->Prop
 | [],vs=>vs=[]
 |d::ds,vs=>∃v ws,vs=v::ws/\bx K P H d v/\kE K P H ds ws
theorem bN.w {K:Fgx}{mg:Mgx}{P:Pl}{H:Hp}{M:Mm}(h:Hk K mg P H M):∀{ds:List D} {vs:List V},bN K P H m ds vs->kE K P H (ds.map (vw M)) vs
  | [],_,q=>q
  |d::ds,_,q=>by
    obtain⟨v,ws,e,p,q⟩:=q;exact⟨v,ws,e,bW.vw h (p.b h),bN.w h q⟩
def mW (K:Fgx)(r:List V->Hp->VK->Prop)(o:List D->Option D):Prop:=∀(P:Pl) (H:Hp) (ds:List D) (z:D) (vs:List V) (Q:VK),o ds=some z->kE K P H ds vs->(∀p,H p=none->¬ P.bd p)->(∀u H',Same H H'->Is K P H' z u->Q u H')->r vs H Q
theorem Ia (h:∀t,PA X (e::es) t->PE X ex (CJ r t))(po:mW X.K r o)(ha:SA X Wx .bor (e::es) fs):SE X Wx m ex (sN o fs):=by
 refine cT (h _ ha) ?_;rintro st H Q ⟨P0,H0,P,Os,env,M,r,M',k,e,q⟩;unfold sN at e;rcases m7 e with⟨ds,M1,e1,e⟩ |⟨c,n,e1,rfl⟩
 ·rw[Ww]at e;obtain⟨z,ez,e⟩:=e;cases e;exact⟨P0,H0,P,Os,env,M,_,_,k,e1,fun P1 vs H1 l1 h1 i1=>po P1 H1 _ z vs Q ez (bN.w h1 i1) h1.new fun u H' s i=>q P1 u H' (l1.trans (LtE.same s)) (h1.same s) (c7.of (h1.same s) i)⟩
 ·exact⟨P0,H0,P,Os,env,M,_,_,k,e1,q⟩
noncomputable def bI (fs:EA):E:=fun env M=>cO (fs env M) fun ds M1=>if ds.length<=sizeLine then some (.v (.tup ds),M1) else none
theorem fY {es:List Expr}{x1:Nat}{pos:Pos}{fs:EA}(ha:SA X Wx .val es fs):SE X Wx m (.Tuple es x1 pos) (bI fs):=by
 refine cT (Ow ha) ?_;rintro st H Q ⟨P0,H0,P,Os,env,M,r,M',k,e,q⟩;unfold bI at e;rcases m7 e with⟨ds,M1,e1,e⟩ |⟨c,n,e1,rfl⟩
 ·split at e
  ·rename_i hl;cases e;refine⟨P0,H0,P,Os,env,M,_,_,k,e1,fun P1 vs H1 l1 h1 i1=>⟨by rw[i1.iss.len];exact hl,fun p hp=>?_⟩⟩;have s:=j_ (o:=.tup vs) hp;exact q P1 _ _ (l1.trans (LtE.same s)) (h1.same s) (c7.of (h1.same s) ⟨p,vs,rfl,.inl (.inl bJ),aq.lt ((LtE.same s).lt h1) i1.iss⟩)
  ·cases e
 ·exact⟨P0,H0,P,Os,env,M,_,_,k,e1,q⟩
noncomputable def NQ (K:Fgx) (mg:Mgx) (Wx:XW) (P0:Pl) (H0:Hp) (P:Pl) (H:Hp) (M':Mm) (Q:VK):Res->Prop
 |.v d=>∃ds,d=.lst ds/\∀P' a vs H',LtE P H P' H'->Hk K mg P' H' M'->H a=none->P'.bd a->(∀k,k<P'.n->P'.io k≠a)->H' a=some (.lst vs)->aq K P' H' ds vs->Q (.ref a) H'
 |.x c n=>Wx P0 H0 M' c n
noncomputable def tN (K:Fgx) (mg:Mgx) (Wx:XW) (f:E):TE:=fun st H Q=>∃P0 H0 P Os env M r M',Ok K mg P0 H0 P Os H M st env/\f env M=some (r,M')/\NQ K mg Wx P0 H0 P H M' Q r
def SN (X:Cx)(Wx:XW)(e:Expr)(f:E):Prop:=PE X e (tN X.K X.mg Wx f)
def Pl.bar (P:Pl)(p:Addr):Pl:={P with bd:=fun a=>P.bd a\/a=p}
theorem pD {K:Fgx}{mg:Mgx}{P:Pl}{H:Hp}{M:Mm}{p:Addr}{vs:List V}(h:Hk K mg P H M)(hp:H p=none):LtE P H (P.bar p) (upd H p (.lst vs))/\Hk K mg (P.bar p) (upd H p (.lst vs)) M/\∀k,k<P.n->P.io k≠p:=by
  have s:=j_ (o:=.lst vs) hp;have nc:∀k,k<P.n->P.io k≠p:=fun k hk z=>h.here _ (h.bd k hk) (z ▸ hp);have l:LtE P H (P.bar p) (upd H p (.lst vs)):=⟨Wq _,fun _ _=>rfl,fun a z=>Or.imp (fun q=>q) (fun(q:a=p)=>by rw[q];exact hp) z,fun a z=>.inl z,fun a o e _=>s a o e,fun a z=>s.free z,fun k h1 h2=>absurd h1 (xav.mpr h2)⟩;have lt:=l.lt h;refine⟨l,⟨h.n,fun k c e=>?_,h.inj,fun k hk=>.inl (h.bd k hk),fun a z q=>?_⟩,nc⟩
  · have:=h.cell k c e
    cases c with
    |lst ds=>
      obtain⟨vs,e1,q⟩:=this;exact⟨vs,s _ _ e1,aq.lt lt q⟩
    |obj c fs=>
      obtain⟨C,dx,gs,e1,e2,e3,q⟩:=this;exact⟨C,dx,gs,e1,s _ _ e2,e3,aq.lt lt q⟩
    |dct kvs=>
      obtain⟨vs,e1,e2,q⟩:=this;exact⟨vs,s _ _ e1,e2,aq.lt lt q⟩
    |dcf kvs=>
      obtain⟨vs,ob,es,ep,e1,eD,e2,q⟩:=this;exact⟨vs,ob,es,ep,s _ _ e1,eD,e2,aq.lt lt q⟩
    |fn i caps=>exact gj.up this lt.frz fun _ _ q=>aq.lt lt q
    |tbl nm i=>exact kO.up this (fun _ e=>s _ _ e) lt.frz
  · rcases z with z |z
    · exact h.here a z (s.free q)
    · subst z;rw[bJ]at q;cases q
theorem SN.se (h:SN X Wx e f)(hf:∀env M r M',f env M=some (.v r,M')->∃ds,r=.lst ds):SE X Wx .val e f:=by
  refine cT h ?_;rintro st H Q ⟨P0,H0,P,Os,env,M,r,M',k,e,q⟩;refine⟨P0,H0,P,Os,env,M,r,M',k,e,?_⟩
  cases r with
  |x c n=>exact q
  |v d=>
    obtain⟨ds,rfl⟩:=hf _ _ _ _ e;refine⟨ds,rfl,fun P' a vs H' l h ha ba nc ea is=>q (P'.less (· ≠a)) _ H' ?_ ?_ ⟨a,vs,rfl,.inl ⟨fun z=>z.2 rfl,.inl ea⟩,aq.less is⟩⟩
    · exact⟨l.n,l.io,fun b z=>l.bd b z.1,fun b z=>⟨l.bm b z,fun q=>k.hk.here b z (q ▸ ha)⟩,l.keep,l.sure,l.nw⟩
    · refine⟨h.n,fun j c e=>?_,h.inj,fun j hj=>⟨h.bd j hj,nc j hj⟩,fun b z=>h.here b z.1⟩;have:=h.cell j c e
      cases c with
      |lst ds=>
        obtain⟨vs,e1,q⟩:=this;exact⟨vs,e1,aq.less q⟩
      |obj c fs=>
        obtain⟨C,dx,gs,e1,e2,e3,q⟩:=this;exact⟨C,dx,gs,e1,e2,e3,aq.less q⟩
      |dct kvs=>
        obtain⟨vs,e1,e2,q⟩:=this;exact⟨vs,e1,e2,aq.less q⟩
      |dcf kvs=>
        obtain⟨vs,ob,es,ep,e1,eD,e2,q⟩:=this;exact⟨vs,ob,es,ep,e1,eD,e2,aq.less q⟩
      |fn i caps=>exact gj.up this (fun _ _ _ z=>z) fun _ _ q=>aq.less q
      |tbl nm i=>exact this
noncomputable def bH (fs:EA):E:=fun env M=>cO (fs env M) fun ds M1=>if ds.length<=sizeLine then some (.v (.lst ds),M1) else none
theorem mL {es:List Expr}{pos:Pos}{fs:EA}(ha:SA X Wx .val es fs):SN X Wx (.List es pos) (bH fs):=by
 refine cT (Oq ha) ?_;rintro st H Q ⟨P0,H0,P,Os,env,M,r,M',k,e,q⟩;unfold bH at e;rcases m7 e with⟨ds,M1,e1,e⟩ |⟨c,n,e1,rfl⟩
 ·split at e
  ·rename_i hl;cases e;obtain⟨ds',e',q⟩:=q;cases e';refine⟨P0,H0,P,Os,env,M,_,_,k,e1,fun P1 vs H1 l1 h1 i1=>⟨by rw[i1.iss.len];exact hl,fun p hp=>?_⟩⟩;obtain⟨l2,h2,nc⟩:=pD (vs:=vs) h1 hp;exact q (P1.bar p) p vs _ (l1.trans l2) h2 (l1.sure p hp) (.inr rfl) nc bJ (aq.lt (l2.lt h1) i1.iss)
  ·cases e
 ·exact⟨P0,H0,P,Os,env,M,_,_,k,e1,q⟩
theorem lst_is:∀env M r M',bH fs env M=some (.v r,M')->∃ds,r=.lst ds:=fun env M r M' e=>by
 unfold bH at e;rcases m7 e with⟨ds,M1,e1,e⟩ |⟨c,n,e1,e⟩
 ·split at e
  ·cases e;exact⟨_,rfl⟩
  ·cases e
 ·cases e
end
inductive Out where
 |nx (env:Env) |bk (env:Env) |ct (env:Env) |rt (d:D) |ex (c:Str) (n:Int)
abbrev OS:=Option (Out×Mm)
abbrev S:=Env->Mm->OS
noncomputable def Post (K:Fgx) (mg:Mgx) (Wx:XW) (P0:Pl) (H0:Hp) (P:Pl) (H:Hp) (M':Mm) (D:Ends):Out->Prop
 |.nx env=>∀P' Os' H' st',Lt P H P' H'->Ok K mg P0 H0 P' Os' H' M' st' env->D.nx st' H'
 |.bk env=>∀P' Os' H' st',Lt P H P' H'->Ok K mg P0 H0 P' Os' H' M' st' env->D.bk st' H'
 |.ct env=>∀P' Os' H' st',Lt P H P' H'->Ok K mg P0 H0 P' Os' H' M' st' env->D.ct st' H'
 |.rt d=>∀P' v H',LtE P0 H0 P' H'->Hk K mg P' H' M'->Is K P' H' d v->D.rt v H'
 |.ex c n=>Wx P0 H0 M' c n
noncomputable def tS (K:Fgx) (mg:Mgx) (Wx:XW) (f:S):TS:=fun D st H=>∃P0 H0 P Os env M out M',Ok K mg P0 H0 P Os H M st env/\f env M=some (out,M')/\Post K mg Wx P0 H0 P H M' D out
def SS (X:Cx)(Wx:XW)(s:Stmt)(f:S):Prop:=PS X s (tS X.K X.mg Wx f)
def SB (X:Cx)(Wx:XW)(s:List Stmt)(f:S):Prop:=eY X s (tS X.K X.mg Wx f)
noncomputable def bO (o:O) (k:D->Mm->OS):OS:=match o with
 |some (.v d,M)=>k d M
 |some (.x c n,M)=>some (.ex c n,M)
 |none=>none
theorem gU (h:bO o k=some (r,M')):(∃d M,o=some (.v d,M)/\k d M=some (r,M'))\/∃c n,o=some (.x c n,M')/\r=.ex c n:=by
 unfold bO at h;split at h
 ·exact .inl ⟨_,_,rfl,h⟩
 ·cases h;exact .inr ⟨_,_,rfl,rfl⟩
 ·cases h
section
variable {K:Fgx}{mg:Mgx}{Wx:XW}{P0 P P' P1:Pl}{H0 H H' H1:Hp}{M M':Mm}{Os:List (Option Addr)}{st:L2.St}{env:Env}{d:D}{v:V}{i:Nat}
theorem u6 (l:List (Option α))(i j:Nat)(x:Option α)(hi:i<l.length):((l.set i x)[j]?).join=if i=j then x else(l[j]?).join:=by
 rw[Xh]
 by_cases h:i=j
 ·subst h;rw[Wv rfl,Wv hi,Wv rfl];rfl
 ·rw[WY h,WY h]
theorem Ok.asg (k:Ok K mg P0 H0 P Os H M st env)(hi:i<env.length)(h:Is K P H d v):Ok K mg P0 H0 P (Os.set i none) H M (st.set i (some v)) (env.set i (.val d)) where
 hk:=k.hk
 base:=k.base
 b0:=k.b0
 slot:=fun j s e=>by
  rw[u6 _ _ _ _ (by rw[k.olen];exact hi),u6 _ _ _ _ (by rw[k.slen];exact hi)];rw[Xh]at e;split at e
  ·rename_i ij;subst ij;cases e;rw[Wv rfl,Wv rfl];exact⟨v,rfl,h⟩
  ·rename_i ij;rw[WY ij,WY ij];exact k.slot j s e
 own := fun a h => k.own a (by
  rcases Z5 h with h |h
  ·exact h
  ·cases h)
 inj:=fun j l a e1 e2=>by
  rw[Xh]at e1 e2;split at e1
  ·split at e1<;>cases e1
  ·split at e2
   ·split at e2<;>cases e2
   ·exact k.inj j l a e1 e2
 olen:=by rw[W_,W_,k.olen]
 slen:=by rw[W_,W_,k.slen]
theorem Ok.here (k:Ok K mg P0 H0 P Os H M st env)(h:some a∈Os):H a≠none:=k.hk.here a (k.own a h).1
theorem Ok.mine (k0:Ok K mg P0 H0 P Os H M st env)(l:LtE P H P' H')(hk:Hk K mg P' H' M')(hi:i<env.length)(ha:H a=none)(ba:P'.bd a)(nc:∀j,j<P'.n->P'.io j≠a)(e:H' a=some (.lst vs))(h:aq K P' H' ds vs):
  Ok K mg P0 H0 P' (Os.set i (some a)) H' M' (st.set i (some (.ref a))) (env.set i (.own ds)):=by
 have k:=k0.next l hk
 have nO:∀j,Os[j]? ≠some (some a):=fun j z=>k0.here (WX z) ha;exact {
  hk:=k.hk
  base:=k.base
  b0:=k.b0
  slot:=fun j s e'=>by
   rw[u6 _ _ _ _ (by rw[k.olen];exact hi),u6 _ _ _ _ (by rw[k.slen];exact hi)];rw[Xh]at e';split at e'
   ·rename_i ij;subst ij;cases e';rw[Wv rfl,Wv rfl];exact⟨a,vs,rfl,rfl,e,h⟩
   ·rename_i ij;rw[WY ij,WY ij];exact k.slot j s e'
  own:=fun b hb=>by
   rcases Z5 hb with hb |hb
   ·exact k.own b hb
   ·cases hb;exact⟨ba,nc,k0.base.sure a ha⟩
  inj:=fun j l b e1 e2=>by
   rw[Xh]at e1 e2;split at e1
   ·split at e1
    ·cases e1;split at e2
     ·rename_i z1 _ z2;exact z1.symm.trans z2
     ·exact absurd e2 (nO l)
    ·cases e1
   ·split at e2
    ·split at e2
     ·cases e2;exact absurd e1 (nO j)
     ·cases e2
    ·exact k.inj j l b e1 e2
  olen:=by rw[W_,W_,k.olen]
  slen:=by rw[W_,W_,k.slen]}
theorem sZ (b : P.bd a) (e : H a = some o) (nf : ¬ Fx o) : Lt P H P (upd H a o') := ⟨Wq _,fun _ _=>rfl,fun _ z=>.inl z,fun c u ec z=>by
  by_cases h:c=a
  ·subst h;rw[e]at ec;cases ec;exact(z.elim nf fun n=>n b).elim
  ·rw[aM h];exact ec,fun c z=>by
  by_cases h:c=a
  ·subst h;rw[bJ]at z;cases z
  ·rw[aM h]at z;exact z⟩
theorem Ax:¬ Fx (.lst vs):=fun z=>by rcases z with⟨_,z⟩ |⟨_,_,z⟩ |⟨_,z⟩ |⟨_,z⟩<;>cases z
theorem pB.lt (l:Lt P H P' H')(e:∀o,H a=some o->H' a=some o)(h:pB K mg P H a c):pB K mg P' H' a c:=by
  cases c with
  |lst ds=>
    obtain⟨vs,e1,q⟩:=h;exact⟨vs,e _ e1,aq.lt l q⟩
  |obj c fs=>
    obtain⟨C,dx,gs,e1,e2,e3,q⟩:=h;exact⟨C,dx,gs,e1,e _ e2,e3,aq.lt l q⟩
  |dct kvs=>
    obtain⟨vs,e1,e2,q⟩:=h;exact⟨vs,e _ e1,e2,aq.lt l q⟩
  |dcf kvs=>
    obtain⟨vs,ob,es,ep,e1,eD,e2,q⟩:=h;exact⟨vs,ob,es,ep,e _ e1,eD,e2,aq.lt l q⟩
  |fn i caps=>exact gj.up h l.frz fun _ _ q=>aq.lt l q
  |tbl nm i=>exact kO.up h e l.frz
theorem Ok.chg (k:Ok K mg P0 H0 P Os H M st env)(hi:env[i]? =some (.own ds))(ho:Os[i]? =some (some a))(e:H a=some (.lst vs))(h:aq K P H ds' vs'):
    Lt P H P (upd H a (.lst vs'))/\Ok K mg P0 H0 P Os (upd H a (.lst vs')) M st (env.set i (.own ds')):=by
  obtain⟨b1,b2,b3⟩:=k.own a (WX ho);have l:Lt P H P (upd H a (.lst vs')):=sZ b1 e Ax;have ilt:i<env.length:=(WD.mp hi).1;refine⟨l,?_⟩;exact {
    hk:=⟨k.hk.n,fun j c ej=>(k.hk.cell j c ej).lt l fun o eo=>by rw[aM (b2 j (by rw[k.hk.n];exact(WD.mp ej).1))];exact eo,k.hk.inj,k.hk.bd,fun c z q=>k.hk.here c z (l.sure c q)⟩
    base := ⟨k.base.n,k.base.io,k.base.bd,k.base.bm,fun c o ec n=>by
      have:=k.base.keep c o ec n;rw[aM (fun z=>by subst z;rw[b3]at ec;cases ec)];exact this,fun c z=>k.base.sure c (l.sure c z),k.base.nw⟩
    b0:=k.b0
    slot:=fun j s ej=>by
      rw[Xh]at ej;split at ej
      · rename_i ij;subst ij;cases ej;obtain⟨a',vs0,e1,e2,e3,q⟩:=k.slot i _ hi;rw[ho]at e1;cases e1;exact⟨a,vs',by rw[ho];rfl,e2,bJ,aq.lt l h⟩
      · rename_i ij;have q:=k.slot j s ej
        cases s with
        |un=>exact True.intro
        |val d=>obtain⟨v,e1,q⟩:=q;exact⟨v,e1,Is.lt l q⟩
        |own es=>
          obtain⟨a',ws,e1,e2,e3,q⟩:=q;refine⟨a',ws,e1,e2,?_,aq.lt l q⟩;rw[aM (fun z=>ij (k.inj i j a ho (by rw[<-z];exact gH e1)))];exact e3
        |exc c n=>obtain⟨v,e1,q⟩:=q;exact⟨v,e1,q.lt l⟩
    own:=k.own
    inj:=k.inj
    olen:=by rw[W_,k.olen]
    slen:=by rw[W_,k.slen]}
theorem Hk.set (h:Hk K mg P H M)(e:M[j]? =some c)(w:pB K mg P (upd H (P.io j) o') (P.io j) c')(nd:c.fix=false:=by rfl):Lt P H P (upd H (P.io j) o')/\LtE P H P (upd H (P.io j) o')/\Hk K mg P (upd H (P.io j) o') (M.set j c'):=by
 have jl:j<P.n:=by rw[h.n];exact(WD.mp e).1
 obtain ⟨o, eo, nf⟩ := h.cellAt e nd;have l : Lt P H P (upd H (P.io j) o') := sZ (h.bd j jl) eo nf;refine ⟨l, ⟨Wq _,fun _ _=>rfl,fun _ z=>.inl z,fun _ z=>z,fun a u ea n=>by
  have ne:a≠P.io j:=by
   rintro rfl;rw[eo]at ea;cases ea;exact n.elim nf fun nc=>nc j jl rfl
  rw[aM ne];exact ea,l.sure,fun k h1 h2=>absurd h1 (xav.mpr h2)⟩,⟨by rw[W_,h.n],fun k b ek=>?_,h.inj,h.bd,fun a z q=>h.here a z (l.sure a q)⟩⟩
 rw[Xh]at ek;split at ek
 ·rename_i jk;subst jk;rw[Wv (by rw[<-h.n];exact jl)]at ek;cases ek;exact w
 ·rename_i jk;have kl:k<P.n:=by rw[h.n];exact(WD.mp ek).1
  exact(h.cell k b ek).lt l fun u eu=>by rw[aM (fun z=>jk (h.inj j k jl kl z.symm))];exact eu
theorem Ok.frz (k:Ok K mg P0 H0 P Os H M st env)(hi:env[i]? =some (.own ds)):∃P' Os',Lt P H P' H/\Ok K mg P0 H0 P' Os' H M st (env.set i (.val (.lst ds))):=by
 obtain⟨a,vs,e1,e2,e3,q⟩:=k.slot i _ hi;have ho:=gH e1;obtain⟨b1,b2,b3⟩:=k.own a (WX ho);have ilt:i<env.length:=(WD.mp hi).1;have nO:∀b,some b∈Os.set i none->some b∈Os/\b≠a:=fun b z=>by
  obtain⟨j,hj⟩:=xap.mp z;rw[Xh]at hj;split at hj
  ·split at hj<;>cases hj
  ·rename_i ij;exact⟨WX hj,fun z=>by subst z;exact ij (k.inj i j b ho hj)⟩
 have l : Lt P H (P.less (· ≠ a)) H := ⟨Wq _, fun _ _ => rfl, fun c z => .inl z.1, fun _ _ e _ => e, fun _ z => z⟩;refine ⟨P.less (· ≠a),Os.set i none,l,{
  hk:=⟨k.hk.n,fun j c ej=>(k.hk.cell j c ej).lt l fun _ z=>z,k.hk.inj,fun j hj=>⟨k.hk.bd j hj,b2 j hj⟩,fun c z=>k.hk.here c z.1⟩
  base:=⟨k.base.n,k.base.io,fun c z=>k.base.bd c z.1,fun c z=>⟨k.base.bm c z,fun q=>k.b0 c z (q ▸ b3)⟩,k.base.keep,k.base.sure,k.base.nw⟩
  b0:=k.b0
  slot:=fun j s ej=>?_
  own:=fun c z=>?_
  inj:=fun j l b z1 z2=>?_
  olen:=by rw[W_,W_,k.olen]
  slen:=by rw[W_,k.slen]}⟩
 ·rw[u6 _ _ _ _ (by rw[k.olen];exact ilt)];rw[Xh]at ej;split at ej
  ·rename_i ij;subst ij;cases ej;exact⟨.ref a,e2,a,vs,rfl,.inl ⟨fun z=>z.2 rfl,.inl e3⟩,aq.less q⟩
  ·rename_i ij;rw[WY ij];have q:=k.slot j s ej
   cases s with
   |un=>exact True.intro
   |val d=>obtain⟨v,e1,q⟩:=q;exact⟨v,e1,Is.less q⟩
   |own es=>obtain⟨a',ws,e1,e2,e3,q⟩:=q;exact⟨a',ws,e1,e2,e3,aq.less q⟩
   |exc c n=>obtain⟨v,e1,q⟩:=q;exact⟨v,e1,q.lt l⟩
 ·obtain⟨z1,z2⟩:=nO c z;obtain⟨c1,c2,c3⟩:=k.own c z1;exact⟨⟨c1,z2⟩,c2,c3⟩
 ·rw[Xh]at z1 z2;split at z1
  ·split at z1<;>cases z1
  ·split at z2
   ·split at z2<;>cases z2
   ·exact k.inj j l b z1 z2
end
section
variable {X:Cx}{Wx:XW}{pos:Pos}
theorem gq (h:PS X s t)(w:∀D σ H,t' D σ H->t D σ H):PS X s t':=fun pins s σ H D I hw=>h pins s σ H D I (w D σ H hw)
theorem Bd (h:eY X s t)(w:∀D σ H,t' D σ H->t D σ H):eY X s t':=fun pins s σ H D I hw=>h pins s σ H D I (w D σ H hw)
def aC:S:=fun env M=>some (.nx env,M)
noncomputable def ao (f g:S):S:=fun env M=>match f env M with
 |some (.nx e,M1)=>g e M1
 |o=>o
theorem aP:SB X Wx [] aC:=by
 refine Bd Pb ?_;rintro D st H ⟨P0,H0,P,Os,env,M,out,M',k,e,q⟩;cases e;exact q P Os H st (Lt.refl P H) k
theorem Post.lt {K:Fgx}{mg:Mgx}{P0 P P1:Pl}{H0 H H1:Hp}{M':Mm}{D:Ends}{o:Out}(l:Lt P H P1 H1)(q:Post K mg Wx P0 H0 P H M' D o):Post K mg Wx P0 H0 P1 H1 M' D o:=by
 cases o with
 |nx env=>exact fun P' Os' H' st' l' k=>q P' Os' H' st' (l.trans l') k
 |bk env=>exact fun P' Os' H' st' l' k=>q P' Os' H' st' (l.trans l') k
 |ct env=>exact fun P' Os' H' st' l' k=>q P' Os' H' st' (l.trans l') k
 |rt d=>exact q
 |ex c n=>exact q
theorem aG (h1:SS X Wx s f)(h2:SB X Wx ss g):SB X Wx (s::ss) (ao f g):=by
  refine Bd (Pa h1 h2) ?_;rintro D st H ⟨P0,H0,P,Os,env,M,out,M',k,e,q⟩;unfold ao at e;split at e
  · rename_i e1 M1 ef;refine⟨P0,H0,P,Os,env,M,_,_,k,ef,fun P1 Os1 H1 st1 l1 k1=>?_⟩;exact⟨P0,H0,P1,Os1,e1,M1,_,_,k1,e,q.lt l1⟩
  · rename_i o ho
    cases ef:f env M with
    |none=>rw[ef]at e;cases e
    |some om=>
      obtain⟨o1,M1⟩:=om;rw[ef]at e;cases e;refine⟨P0,H0,P,Os,env,M,_,_,k,ef,?_⟩
      cases out with
      |nx env'=>exact(ho _ _ ef).elim
      |bk env'=>exact q
      |ct env'=>exact q
      |rt d=>exact q
      |ex c n=>exact q
noncomputable def aL (i:Nat) (f:E):S:=fun env M=>bO (f env M) fun d M1=>if i<env.length then some (.nx (env.set i (.val d)),M1) else none
theorem bT (hN:X.N.Nodup)(hi:X.N[i]? =some x)(hx:Loc X.env.scope x)(he:SE X Wx .val e f)(hs:swapsWith e (some (.Name x pos')) pos.line X.env=pure false:=by rfl)
  (hf:X.fn x=true\/X.env.scope.names.lookup x=some .local:=by first |exact .inl rfl |exact .inr rfl):SS X Wx (.Assign [.Name x pos'] e pos) (aL i f):=by
 refine gq (G8 hN hi hx he hs hf) ?_;rintro D st H ⟨P0,H0,P,Os,env,M,out,M',k,e,q⟩;unfold aL at e;rcases gU e with⟨d,M1,e1,e⟩ |⟨c,n,e1,rfl⟩
 ·split at e
  ·rename_i hl;cases e;exact⟨P0,H0,P,Os,env,M,_,_,k,e1,fun P1 v1 H1 l1 h1 i1=>q _ _ _ _ (l1.lt k.hk) ((k.next l1 h1).asg hl i1)⟩
  ·cases e
 ·exact⟨P0,H0,P,Os,env,M,_,_,k,e1,q⟩
noncomputable def pY (i:Nat) (f:E):S:=fun env M=>bO (f env M) fun d M1=>match d with
 |.lst ds=>if i<env.length then some (.nx (env.set i (.own ds)),M1) else none
 |_=>none
theorem Cw (hN:X.N.Nodup)(hi:X.N[i]? =some x)(hx:Loc X.env.scope x)(he:SN X Wx e f)(hs:swapsWith e (some (.Name x pos')) pos.line X.env=pure false:=by rfl)
  (hf:X.fn x=true\/X.env.scope.names.lookup x=some .local:=by first |exact .inl rfl |exact .inr rfl):SS X Wx (.Assign [.Name x pos'] e pos) (pY i f):=by
 refine gq (G8 hN hi hx he hs hf) ?_;rintro D st H ⟨P0,H0,P,Os,env,M,out,M',k,e,q⟩;unfold pY at e;rcases gU e with⟨d,M1,e1,e⟩ |⟨c,n,e1,rfl⟩
 ·cases d<;>simp only[reduceCtorEq]at e
  rename_i ds;split at e
  ·rename_i hl;cases e;exact⟨P0,H0,P,Os,env,M,_,_,k,e1,ds,rfl,fun P1 a vs H1 l1 h1 ha ba nc ea is=>q _ _ _ _ (l1.lt k.hk) (k.mine l1 h1 hl ha ba nc ea is)⟩
  ·cases e
 ·exact⟨P0,H0,P,Os,env,M,_,_,k,e1,q⟩
def aU (f:E):S:=fun env M=>bO (f env M) fun d M1=>some (.rt d,M1)
theorem cH (he:SE X Wx .val e f):SS X Wx (.Return (some e) pos) (aU f):=by
 refine gq (O9 he) ?_;rintro D st H ⟨P0,H0,P,Os,env,M,out,M',k,e,q⟩;unfold aU at e;rcases gU e with⟨d,M1,e1,e⟩ |⟨c,n,e1,rfl⟩
 ·cases e;exact⟨P0,H0,P,Os,env,M,_,_,k,e1,fun P1 v1 H1 l1 h1 i1=>q P1 v1 H1 (k.base.trans l1) h1 i1⟩
 ·exact⟨P0,H0,P,Os,env,M,_,_,k,e1,q⟩
noncomputable def cV (c:E) (f g:S):S:=fun env M=>bO (c env M) fun d M1=>match d with
 |.bl b=>if b=true then f env M1 else g env M1
 |_=>none
theorem d7 (hc:ST X Wx c t)(ha:SB X Wx a f)(hb:SB X Wx b g):SS X Wx (.If c a b pos) (cV t f g):=by
  refine gq (O8 hc ha hb) ?_;rintro D st H ⟨P0,H0,P,Os,env,M,out,M',k,e,q⟩;unfold cV at e;rcases gU e with⟨d,M1,e1,e⟩ |⟨c,n,e1,rfl⟩
  · cases d<;>simp only[reduceCtorEq]at e
    rename_i b;refine lV k e1 ⟨b,rfl,fun P1 H1 l1 h1=>?_⟩
    cases b with
    |true=>
      rw[Wv rfl]at e ⊢;exact⟨P0,H0,P1,Os,env,M1,_,_,k.next l1 h1,e,q.lt (l1.lt k.hk)⟩
    |false=>
      rw[WY (by decide)]at e ⊢;exact⟨P0,H0,P1,Os,env,M1,_,_,k.next l1 h1,e,q.lt (l1.lt k.hk)⟩
  · exact lV k e1 q
noncomputable def gO (i:Nat):S:=fun env M=>match env[i]? with
 |some (.own ds)=>some (.nx (env.set i (.val (.lst ds))),M)
 |_=>none
theorem Hq (h:SB X Wx ss g):SB X Wx ss (ao (gO i) g):=by
 refine Bd h ?_;rintro D st H ⟨P0,H0,P,Os,env,M,out,M',k,e,q⟩;unfold ao gO at e;split at e
 ·rename_i e1 M1 ef;split at ef
  ·rename_i ds es;cases ef;obtain⟨P1,Os1,l1,k1⟩:=k.frz es;exact⟨P0,H0,P1,Os1,_,_,_,_,k1,e,q.lt l1⟩
  ·cases ef
 ·rename_i ho;split at e
  ·rename_i es;exact(ho _ _ (by rw[es])).elim
  ·cases e
noncomputable def lM (i:Nat) (f:E):S:=fun env M=>match env[i]? with
 |some (.own ds)=>bO (f env M) fun d M1=>if ds.length<sizeLine then some (.nx (env.set i (.own (ds ++ [d]))),M1) else none
 |_=>none
theorem T4 (hN:X.N[i]? =some x)(hv:m5 X.env.scope x)(he:SE X Wx .val e f)(hd:(x==("__debug__":Str))=false:=by x_go)(hcd:(x==("__classdict__":Str))=false:=by x_go)
  (hfew:((backTo q (starEach [e] X.env)).all (fun x=> !x.1) && (backToKw q (keywordEach [] X.env)).all (fun x=>x.1.isSome) && decide ([e].length + ([]:List Keyword).length + (if ([]:List Keyword).isEmpty then 0 else 1)<30))=true:=by rfl)
  (hline:(p.endLine==q.line)=true:=by rfl) (hs:starEach [e] X.env=(false,eval e X.env)::starEach [] X.env:=by rfl) (hw:swapsWith (.Call (.Attribute (.Name x p0) "append" p) [e] [] q) none pos.line X.env=pure false:=by rfl):
  SS X Wx (.Expr (.Call (.Attribute (.Name x p0) "append" p) [e] [] q) pos) (lM i f):=by
 refine gq (wQ (wO Yt xad xae Ac (tO hN hv hd hcd) (mH he nq hs) rfl hfew hline hs rfl) hw) ?_;rintro D st H ⟨P0,H0,P,Os,env,M,out,M',k,e,q⟩;unfold lM at e;split at e
 ·rename_i ds es;obtain⟨a,vs,o1,o2,o3,o4⟩:=k.slot i _ es;refine⟨.ref a,gH o2,.inl ⟨rfl,vs,.inl (.inl o3)⟩,?_⟩;rcases gU e with⟨d,M1,e1,e⟩ |⟨c,n,e1,rfl⟩
  ·split at e
   ·rename_i hz;cases e;refine bF k e1 fun P1 v1 H1 l1 h1 i1=>?_;have k1:=k.next l1 h1
    obtain⟨a',vs',o1',o2',o3',o4'⟩:=k1.slot i _ es;have ea:a'=a:=by
     have z:=o2'.symm.trans o2;cases z;rfl
    subst ea;refine⟨a',vs',v1,rfl,rfl,o3',by rw[o4'.len];exact hz,?_⟩;obtain⟨l2,k2⟩:=k1.chg es (gH o1') o3' (aq.append o4' (aq.one i1));exact q _ _ _ _ ((l1.lt k.hk).trans l2) k2
   ·cases e
  ·exact bF k e1 q
 ·cases e
def Wk (K:Fgx)(P1:Pl)(H1:Hp)(J:It)(ds:List D):Prop:=∀P H,Lt P1 H1 P H->(∀k,k<ds.length->J.go k H)/\(∀k,ds.length<=k->k<=ds.length->J.stop k H)/\∀k x H',J.yld k H x H'->k<ds.length->H'=H/\∃d,ds[k]? =some d/\Is K P H d x
noncomputable def IQ (K:Fgx) (mg:Mgx) (Wx:XW) (P0:Pl) (H0:Hp) (P:Pl) (H:Hp) (M':Mm) (R:It->Hp->Prop):ResA->Prop
 |.v ds=>∀P' H' J,LtE P H P' H'->Hk K mg P' H' M'->Wk K P' H' J ds->R J H'
 |.x c n=>Wx P0 H0 M' c n
noncomputable def tI (K:Fgx) (mg:Mgx) (Wx:XW) (fs:EA):TI:=fun st H R=>∃P0 H0 P Os env M r M',Ok K mg P0 H0 P Os H M st env/\fs env M=some (r,M')/\IQ K mg Wx P0 H0 P H M' R r
def SI (X:Cx)(Wx:XW)(tg iter:Expr)(fs:EA):Prop:=PI X tg iter (tI X.K X.mg Wx fs)
theorem Bc (h:PI X tg iter t)(w:∀σ H R,t' σ H R->t σ H R):PI X tg iter t':=fun pins s σ H R I hw=>h pins s σ H R I (w σ H R hw)
noncomputable def loopS (i:Nat) (body:S):List D->Env->Mm->OS
  | [],env,M=>some (.nx env,M)
  | d :: ds, env, M => if i < env.length then (match body (env.set i (.val d)) M with
    |some (.nx e,M1)=>loopS i body ds e M1
    |some (.ct e,M1)=>loopS i body ds e M1
    |some (.bk e,M1)=>some (.nx e,M1)
    |some (.rt d,M1)=>some (.rt d,M1)
    |some (.ex c n,M1)=>some (.ex c n,M1)
    |none=>none) else none
noncomputable def dB (i:Nat) (fs:EA) (body:S):S:=fun env M=>match fs env M with
 |some (.v ds,M1)=>loopS i body ds env M1
 |some (.x c n,M1)=>some (.ex c n,M1)
 |none=>none
theorem Ln {K:Fgx}{mg:Mgx}{P0 P1:Pl}{H0 H1:Hp}{Os:List (Option Addr)}{M M':Mm}{st:L2.St}{env:Env}{i:Nat}{b:S}{J:It}{ds:List D}{out:Out}{D:Ends}(k:Ok K mg P0 H0 P1 Os H1 M st env)(wk:Wk K P1 H1 J ds)
  (h:loopS i b ds env M=some (out,M')) (q:Post K mg Wx P0 H0 P1 H1 M' D out):
  ∃W:Nat->Nat->L2.St->Hp->Prop,(∃m,W 0 m st H1)/\∀j m σ H,W j m σ H->
   (J.stop j H/\D.nx σ H)\/(J.go j H/\∃Nn:L2.St->Hp->Prop,(∀σ' H',Nn σ' H'->∃m',m'<m/\W (j + 1) m' σ' H')/\∀x H',J.yld j H x H'->zM i x σ H' fun σ2 H2=>tS K mg Wx b {D with nx:=Nn,ct:=Nn,bk:=D.nx} σ2 H2):=by
 refine⟨fun j m σ H=>m=ds.length - j/\j<=ds.length/\∃P Os' M1 env',Lt P1 H1 P H/\Ok K mg P0 H0 P Os' H M1 σ env'/\loopS i b (ds.drop j) env' M1=some (out,M'),⟨ds.length,by simp,Xp _,P1,Os,M,env,Lt.refl _ _,k,h⟩,?_⟩;rintro j m σ H ⟨rfl,hj,P,Os',M1,env',lt,k',h'⟩;obtain⟨w1,w2,w3⟩:=wk P H lt
 by_cases hlt:j<ds.length
 ·refine .inr ⟨w1 j hlt,fun σ' H'=>∃P Os' M1 env',Lt P1 H1 P H'/\Ok K mg P0 H0 P Os' H' M1 σ' env'/\loopS i b (ds.drop (j + 1)) env' M1=some (out,M'),fun σ' H' z=>⟨ds.length - (j + 1),by omega,rfl,hlt,z⟩,fun x H' y=>?_⟩;obtain⟨e3,d,ed,iv⟩:=w3 j x H' y hlt;subst e3;have ed':ds.drop j=d::ds.drop (j + 1):=by
   rw[XM hlt];rw[Wu hlt]at ed;rw[W3 ed]
  rw[ed']at h';simp only[loopS]at h';split at h'
  ·rename_i hi;have k2:=k'.asg hi iv;split at h'
   ·rename_i e M2 eb;exact⟨P0,H0,P,_,_,M1,_,_,k2,eb,fun P' Os2 H2 st2 l2 k3=>⟨P',Os2,_,e,lt.trans l2,k3,h'⟩⟩
   ·rename_i e M2 eb;exact⟨P0,H0,P,_,_,M1,_,_,k2,eb,fun P' Os2 H2 st2 l2 k3=>⟨P',Os2,_,e,lt.trans l2,k3,h'⟩⟩
   ·rename_i e M2 eb;cases h';exact⟨P0,H0,P,_,_,M1,_,_,k2,eb,fun P' Os2 H2 st2 l2 k3=>q P' Os2 H2 st2 (lt.trans l2) k3⟩
   ·rename_i e M2 eb;cases h';exact⟨P0,H0,P,_,_,M1,_,_,k2,eb,q⟩
   ·rename_i c n M2 eb;cases h';exact⟨P0,H0,P,_,_,M1,_,_,k2,eb,q⟩
   ·cases h'
  ·cases h'
 ·have ej:j=ds.length:=by omega
  subst ej;rw[Za]at h';cases h';exact .inl ⟨w2 _ (Wq _) (Wq _),q P Os' H σ lt k'⟩
theorem rA (hp:PassesOwn (model X.prog X.w) X.A X.env X.xe)(hc:X.calm=true)(hN:X.N.Nodup)(hi:X.N[i]? =some x)(hx:Loc X.env.scope x)(hI:SI X Wx (.Name x p) iter fs)(hb:SB X Wx body b)
  (hf:X.fn x=true\/X.env.scope.names.lookup x=some .local:=by first |exact .inl rfl |exact .inr rfl) (hs:∀x,foldedSetIterable iter X.env x=pure x:=by intro _;rfl):SS X Wx (.For (.Name x p) iter body [] pos) (dB i fs b):=by
 refine gq (G7 hp hc hI (GZ hN hi hx hf) hb hs) ?_;rintro D st H ⟨P0,H0,P,Os,env,M,out,M',k,e,q⟩;unfold dB at e;split at e
 ·rename_i ds M1 ef;exact⟨P0,H0,P,Os,env,M,_,_,k,ef,fun P1 H1 J l1 h1 wk=>Ln (k.next l1 h1) wk e (q.lt (l1.lt k.hk))⟩
 ·rename_i c n M1 ef;cases e;exact⟨P0,H0,P,Os,env,M,_,_,k,ef,q⟩
 ·cases e
noncomputable def fP (f:E):EA:=fun env M=>match f env M with
 |some (.v (.lst ds),M1)=>some (.v ds,M1)
 |some (.x c n,M1)=>some (.x c n,M1)
 |_=>none
theorem Ci (h:SE X Wx .val e f):SI X Wx tg e (fP f):=by
 refine Bc (G3 h) ?_;rintro st H R ⟨P0,H0,P,Os,env,M,r,M',k,e,q⟩;unfold fP at e;split at e
 ·rename_i ds M1 ef;cases e;refine⟨P0,H0,P,Os,env,M,_,_,k,ef,fun P1 v1 H1 l1 h1 i1=>?_⟩;obtain⟨a,vs,rfl,ra,is⟩:=i1;refine⟨a,rfl,⟨vs,ra.imp (·.2) id⟩,q P1 H1 _ l1 h1 fun P2 H2 l2=>?_⟩;have ra2:=l2.rda ra;have is2:=aq.lt l2 is;have sq:aY X.K H2 a vs:=ra2.imp (·.2) id;refine⟨fun j hj=>?_,fun j h1 h2=>⟨vs,sq,by rw[is2.len];exact h1⟩,fun j x H' y hj=>⟨y.1,?_⟩⟩
  ·obtain⟨v,ev,_⟩:=aq.get is2 (Wu hj);exact⟨vs,v,sq,ev⟩
  ·obtain⟨v,ev,iv⟩:=aq.get is2 (Wu hj);have:=y.2 vs sq;rw[ev]at this;cases this;exact⟨_,Wu hj,iv⟩
 ·rename_i c n M1 ef;cases e;exact⟨P0,H0,P,Os,env,M,_,_,k,ef,q⟩
 ·cases e
end
abbrev G:=List D->Mm->O
noncomputable def kh (K:Fgx) (mg:Mgx) (n:Nat) (g:G):Sp:=fun vs H Q _=>vs.length=n/\∃P M ds d M',Hk K mg P H M/\aq K P H ds vs/\g ds M=some (.v d,M')/\∀P' v H',LtE P H P' H'->Hk K mg P' H' M'->Is K P' H' d v->Q v H'
noncomputable def bB (o:OS):O:=match o with
 |some (.rt d,M)=>some (.v d,M)
 |some (.nx _,M)=>some (.v .non,M)
 |some (.ex c n,M)=>some (.x c n,M)
 |_=>none
noncomputable def cj (n:Nat) (b:S):G:=fun ds M=>bB (b (ds.map .val ++ List.replicate (n - ds.length) .un) M)
theorem IV {K:Fgx}{mg:Mgx}{P:Pl}{H:Hp}{M:Mm}{N:List Str}{ds:List D}{vs:List V}(hk:Hk K mg P H M)(hl:vs.length<=N.length)(h:aq K P H ds vs):
  Ok K mg P H P (List.replicate N.length none) H M (L2.start N vs) (ds.map .val ++ List.replicate (N.length - ds.length) .un):=by
 have hd:=h.len;refine⟨hk,LtE.refl P H,hk.here,fun i s e=>?_,fun a z=>?_,fun i j a e1 _=>?_,by simp;omega,by simp[L2.start];omega⟩
 ·have e0:((List.replicate N.length (none:Option Addr))[i]?).join=none:=by
   rw[Xc]
   split<;>rfl
  rw[e0]
  by_cases hi:i<ds.length
  ·rw[WW (by simpa using hi),Wy,Wu hi]at e;simp only[YQ,xaQ]at e;subst e;obtain⟨v,ev,p⟩:=h.get (Wu hi);refine⟨v,?_,p⟩;unfold L2.start;rw[WW (by rw[WK];omega),Wy,ev];rfl
  ·rw[WR (by simpa using hi),Xc]at e;split at e
   ·cases e;exact True.intro
   ·cases e
 ·exact absurd (xaf z) (by simp)
 ·rw[Xc]at e1;split at e1<;>cases e1
structure FunD (K:Fgx)(x qual:Str)(st:Stmt)(f:Addr)(fd:FuncData):Prop where
 ex:∃(oc:Value) (od:Option Addr) (dV kV doc pm:Value) (an:Option Addr) (cdv ct:Value) (osl:Array (Option Value)),
  fd=PySem.W.fnOf x qual (cg st) (bC st) (aF st) dV kV doc pm an cdv ct/\K.lookup f=some ⟨oc,od,.func fd,osl⟩/\PySem.W.codeIn K cdv qual=true
 kp:PySem.W.keepIn K (.ref f)=true
theorem Ft {K:Fgx}{x qual:Str}{st:Stmt}{f:Addr}{oc:Value}{od an:Option Addr}{osl:Array (Option Value)}{dV kV doc pm cdv ct:Value}(l:K.lookup f=some ⟨oc,od,.func (PySem.W.fnOf x qual (cg st) (bC st) (aF st) dV kV doc pm an cdv ct),osl⟩)
  (c:PySem.W.codeIn K cdv qual=true) (k:PySem.W.keepIn K (.ref f)=true):FunD K x qual st f (PySem.W.fnOf x qual (cg st) (bC st) (aF st) dV kV doc pm an cdv ct):=⟨⟨oc,od,dV,kV,doc,pm,an,cdv,ct,osl,rfl,l,c⟩,k⟩
section
variable {P:Program}{w:World}{K:Fgx}{mg:Mgx}{base:Heap}{k:Nat}{x qual:Str}{st:Stmt}{f:Addr}{fd:FuncData}{N ps:List Str}{b:S}
def W0:XW:=fun _ _ _ _ _=>False
abbrev lg (P:Program)(w:World)(K:Fgx)(mg:Mgx)(base:Heap)(N:List Str)(qual:Str)(st:Stmt)(f:Addr)(cdv:Value)(A:Around)(outer:List PySem.Env)(s:Shared)(H:Hp)(E:XK):Cx:=(dw dI P w K mg base N qual (aF st) f cdv A outer s H E).nox
theorem Fl (F:FunD K x qual st f fd)(S:FnScope N ps (aF st))(hp:ps.length<=N.length)
  (hb:∀cdv A outer s H E,Room k (A.deeper (envOfC qual (aF st) s.heap.objs.size f cdv))->SB (lg P w K mg base N qual st f cdv A outer s H E) W0 (bC st) b):FnOk P w K mg base dI (k + 1) f fd ps (kh K mg ps.length (cj N.length b)):=by
 obtain⟨oc,od,dV,kV,doc,pm,an,cdv,ct,osl,rfl,lk,hcd⟩:=F.ex;refine Kd lk hcd S (fun vs H Q E h=>h.1) fun A outer s H vs Q E hr h=>?_;obtain⟨hl,Pl,M,ds,d,M',hk,is,e,q⟩:=h;refine⟨_,eY.nox (hb cdv A outer s H E hr),?_⟩;unfold cj bB at e;have st0:=IV (N:=N) hk (by omega) is;split at e
 ·rename_i d' M2 eb;cases e;exact⟨Pl,H,Pl,_,_,M,_,_,st0,eb,fun P' v H' l h i=>q P' v H' l h i⟩
 ·rename_i env M2 eb;cases e;exact⟨Pl,H,Pl,_,_,M,_,_,st0,eb,fun P' Os' H' st' _ k'=>q P' .non H' k'.base k'.hk rfl⟩
 ·rename_i c n M2 eb;cases e
 ·cases e
def aZ (P:Program)(w:World)(K:Fgx)(mg:Mgx)(base:Heap)(k:Nat)(f:Str)(n:Nat)(g:G):Prop:=
 ∃fa fd ps ds dvs sp,mg f=some (.ref fa)/\PySem.W.keepIn K (.ref fa)=true/\FnOk P w K mg base dI k fa fd ps sp/\Binds K fd ps ds/\Vals dvs ds/\∀vs H Q E,kh K mg n g vs H Q E->sp (vs ++ dvs) H Q E
theorem Ka (F:FunD K x qual st f fd)(S:FnScope N ps (aF st))(hp:ps.length<=N.length)(hm:mg x=some (.ref f))(hd:Binds K fd ps [])
  (hb:∀cdv A outer s H E,Room k (A.deeper (envOfC qual (aF st) s.heap.objs.size f cdv))->SB (lg P w K mg base N qual st f cdv A outer s H E) W0 (bC st) b):aZ P w K mg base (k + 1) x ps.length (cj N.length b):=
 ⟨f,fd,ps,[],[],_,hm,F.kp,Fl F S hp hb,hd,.nil,fun vs H Q E h=>by rw[Xr];exact h⟩
theorem aZ.mono (a:aZ P w K mg base j x n g)(h:j<=k):aZ P w K mg base k x n g:=by
 obtain⟨fa,fd,ps,ds,dvs,sp,h1,h2,h3,h4⟩:=a;exact⟨fa,fd,ps,ds,dvs,sp,h1,h2,h3.mono h,h4⟩
end
section
variable {X:Cx}{Wx:XW}{m:Mode}
noncomputable def bK (g:G) (fs:EA):E:=fun env M=>cO (fs env M) fun ds M1=>match g ds M1 with
 |some (.v d,M2)=>some (.v d,M2)
 |_=>none
theorem bN.len {K:Fgx}{P:Pl}{H:Hp}:∀{ds:List D} {vs:List V},bN K P H m ds vs->vs.length=ds.length
  | [],_,h=>by rw[show _=[] from h];rfl
  |d::ds,_,h=>by
    obtain⟨v,r,e,_,q⟩:=h;subst e
    simp[bN.len q]
def rH (n:Nat)(fs:EA):Prop:=∀env M ds M',fs env M=some (.v ds,M')->ds.length=n
theorem cnt_nil:rH 0 au:=fun env M ds M' e=>by cases e;rfl
theorem cnt_cons (h:rH n fs):rH (n + 1) (aA f fs):=fun env M ds M' e=>by
 unfold aA at e;split at e
 ·split at e
  ·rename_i ef;cases e;rw[Y_,h _ _ _ _ ef]
  ·cases e
  ·cases e
 ·cases e
 ·cases e
theorem bQ {k n:Nat}{f:Str}{g:G}{e:Expr}{es:List Expr}{fs:EA}{p pos:Pos}(a:aZ X.prog X.w X.K X.mg X.base k f n g)(hr:Room k X.A)(hg:Gl X f)(ha:SA X Wx .val (e::es) fs)(hn:rH n fs)(hdb:(f==("__debug__":Str))=false:=by x_go)
  (he:starEach (e::es) X.env=(false,eval e X.env)::starEach es X.env:=by rfl) (hpl:(backTo pos (starEach es X.env)).any (·.1)=false:=by rfl):SE X Wx m (.Call (.Name f p) (e::es) [] pos) (bK g fs):=by
 obtain⟨fa,fd,ps,ds,dvs,sp,hm,hk,F,hb,hv,himp⟩:=a;refine cT (Oi F hr hg hm hk hb hv Oc ha hdb he hpl) ?_;rintro st H Q ⟨P0,H0,P,Os,env,M,r,M',k,e,q⟩;unfold bK at e;rcases m7 e with⟨ds,M1,e1,e⟩ |⟨c,n,e1,rfl⟩
 ·split at e
  ·rename_i d M2 eg;cases e;exact⟨P0,H0,P,Os,env,M,_,_,k,e1,fun P1 vs H1 l1 h1 i1=>himp _ _ _ _ ⟨by rw[i1.len];exact hn _ _ _ _ e1,P1,M1,ds,d,_,h1,i1.iss,eg,fun P2 v H2 l2 h2 i2=>q P2 v H2 (l1.trans l2) h2 (c7.of h2 i2)⟩⟩
  ·cases e
 ·exact⟨P0,H0,P,Os,env,M,_,_,k,e1,q⟩
end
def rG (i j:Int):Prop:=kJ i j\/(i.natAbs.log2<10000/\j.natAbs.log2<10000)
theorem Ec (h:i.natAbs.log2<10000):Builtin.Int.intBits i<=10001:=by
 unfold Builtin.Int.intBits
 split<;>omega
theorem rG.ok (h:rG i j):IntMulOk i j:=by
 rcases h with h |⟨h1,h2⟩
 ·exact h.ok
 ·exact mulOk_of_bits (Ec h1) (Ec h2) (by decide)
theorem mG:bw X (binaryOp .Mult) (rI rG fun i j=>.int (i * j)):=wN fun _ _ _ _ _ _ _ hc q=>mul_int q hc.ok
section
variable {X:Cx}{pins:Pnx}{σ:L2.St}{H:Hp}{s:Shared}{K:Fgx}
noncomputable def Hf (K:Fgx):R2:=fun x y H Q=>∃l b xs zs,x=.ref l/\y=.ref b/\aY K H l xs/\aY K H b zs/\xs.length + zs.length<=sizeLine/\∀p,H p=none->Q (.ref p) (upd H p (.lst (xs ++ zs)))
theorem GJ:bw X (binaryOp .Add) (Hf X.K):=by
 intro pins s σ H x y v u Q I rx ry h;obtain⟨l,b,xs,zs,rfl,rfl,hH,hB,hz,q⟩:=h;cases rx;cases ry;obtain⟨z,its,r,⟨cls,dd,data,sl⟩,ho,hc,n,hd⟩:=sql I hH;obtain⟨z2,its2,r2,⟨cls2,dd2,data2,sl2⟩,ho2,hc2,n2,hd2⟩:=sql I hB;simp only at hc hd hc2 hd2;subst hc hd hc2 hd2;have hl:=r.length;have hl2:=r2.length;refine concat_meets ⟨_,ho,rfl⟩ ⟨_,ho2,rfl⟩ noFill_list_add seq_list_add F.slot_list_add F.entry_list_add (F.args_list_add_2 _ _) (list_addW l b its.toArray its2.toArray n n2 dd dd2 sl sl2 (by rw[Wr,Wr];omega)) ⟨ho,ho2,?_⟩;have ea:its.toArray ++ its2.toArray=(its ++ its2).toArray:=by simp
 rw[ea];exact⟨.ref _,_,I.lnew (t':=s.toks) (r.append r2) (by rw[Wz];omega),rfl,q _ I.fresh⟩
theorem GC {P:Pl}{H:Hp}{ds:List D}{vs:List V}{Q:VK}(hn:∀p,H p=none->¬ P.bd p)(h:aq K P H ds vs)(q:∀u H',Same H H'->Is K P H' (.lst ds) u->Q u H'):∀p,H p=none->Q (.ref p) (upd H p (.lst vs)):=fun p hp=>by
 have s:=j_ (o:=.lst vs) hp;exact q _ _ s ⟨p,vs,rfl,.inl ⟨hn p hp,.inl bJ⟩,aq.lt ⟨Wq _,fun _ _=>rfl,fun _ z=>.inl z,fun a o e _=>s a o e,fun a z=>s.free z⟩ h⟩
theorem LK {P:Pl}{H:Hp}{ds:List D}{vs:List V}{Q:VK}(h:aq K P H ds vs)(q:∀u H',Same H H'->Is K P H' (.tup ds) u->Q u H'):∀p,H p=none->Q (.ref p) (upd H p (.tup vs)):=fun p hp=>by
 have s:=j_ (o:=.tup vs) hp;exact q _ _ s ⟨p,vs,rfl,.inl (.inl bJ),aq.lt ⟨Wq _,fun _ _=>rfl,fun _ z=>.inl z,fun a o e _=>s a o e,fun a z=>s.free z⟩ h⟩
noncomputable def aQ:D->D->Option D
 |.int i,.int j=>some (.int (i + j))
 |.str i,.str j=>if i.length + j.length<=sizeLine then some (.str (i ++ j)) else none
 |.lst xs,.lst ys=>if xs.length + ys.length<=sizeLine then some (.lst (xs ++ ys)) else none
 |_,_=>none
noncomputable def nu (K:Fgx):R2:=fun x y H Q=>fB (fun i j=>.int (i + j)) x y H Q\/(∃i j,x=.str i/\y=.str j/\i.length + j.length<=sizeLine/\Q (.str (i ++ j)) H)\/Hf K x y H Q
theorem cJ:bw X (binaryOp .Add) (nu X.K):=Nr.or (Nt.or GJ)
theorem cM:fH K (nu K) aQ:=fun P H d e z v w Q h h1 h2 hn q=>by
 unfold aQ at h;split at h
 ·cases h;cases h1;cases h2;exact .inl ⟨_,_,rfl,rfl,q _ H (Same.refl H) rfl⟩
 ·split at h
  ·rename_i hl;cases h;cases h1;cases h2;exact .inr (.inl ⟨_,_,rfl,rfl,hl,q _ H (Same.refl H) rfl⟩)
  ·cases h
 ·split at h
  ·rename_i hl;cases h;obtain⟨a,vs,rfl,r1,s1⟩:=h1;obtain⟨b,ws,rfl,r2,s2⟩:=h2;exact .inr (.inr ⟨a,b,vs,ws,rfl,rfl,r1,r2,by rw[s1.len,s2.len];exact hl,GC hn (s1.append s2) q⟩)
  ·cases h
 ·cases h
noncomputable def oI (g:Int->Int->Option D):D->D->Option D
 |.int i,.int j=>g i j
 |_,_=>none
theorem tD (h:oI g d e=some z)(h1:bx K P H d v)(h2:bx K P H e w):∃i j,v=.int i/\w=.int j/\g i j=some z:=by
 unfold oI at h;split at h
 ·cases h1;cases h2;exact⟨_,_,rfl,rfl,h⟩
 ·cases h
def lG:=oI fun i j=>some (.int (i - j))
theorem G_:fH K (fB fun i j=>.int (i - j)) lG:=fun P H d e z v w Q h h1 h2 _ q=>by
 obtain⟨i,j,rfl,rfl,h⟩:=tD h h1 h2;cases h;exact⟨i,j,rfl,rfl,q _ H (Same.refl H) rfl⟩
noncomputable def cR:=oI fun i j=>if i.natAbs<18446744073709551616\/j.natAbs<18446744073709551616\/(i.natAbs.log2<10000/\j.natAbs.log2<10000) then some (.int (i * j)) else none
theorem mJ:fH K (rI rG fun i j=>.int (i * j)) cR:=fun P H d e z v w Q h h1 h2 _ q=>by
 obtain⟨i,j,rfl,rfl,h⟩:=tD h h1 h2;split at h
 ·rename_i hg;cases h;exact⟨i,j,rfl,rfl,by unfold rG kJ;rw[show(2:Int) ^ 64=18446744073709551616 from rfl];exact hg.elim (fun z=>.inl (.inl ⟨by omega,by omega⟩)) (fun z=>z.elim (fun z=>.inl (.inr ⟨by omega,by omega⟩)) .inr),q _ H (Same.refl H) rfl⟩
 ·cases h
noncomputable def fu:=oI fun i j=>if 0<j/\j.natAbs<1073741824 then some (.int (i / j)) else none
theorem gw:fH K (rI rF fun i j=>.int (i / j)) fu:=fun P H d e z v w Q h h1 h2 _ q=>by
 obtain⟨i,j,rfl,rfl,h⟩:=tD h h1 h2;split at h
 ·rename_i hg;cases h;exact⟨i,j,rfl,rfl,⟨hg.1,by omega⟩,q _ H (Same.refl H) rfl⟩
 ·cases h
def oMod:=oI fun i j=>if 0<j then some (.int (i % j)) else none
theorem cN:fH K (rI (fun _ j=>0<j) fun i j=>.int (i % j)) oMod:=fun P H d e z v w Q h h1 h2 _ q=>by
 obtain⟨i,j,rfl,rfl,h⟩:=tD h h1 h2;split at h
 ·rename_i hg;cases h;exact⟨i,j,rfl,rfl,hg,q _ H (Same.refl H) rfl⟩
 ·cases h
noncomputable def dW:=oI fun i j=>if 0<=j/\j.natAbs<=1000000/\i.natAbs<18446744073709551616 then some (.int (i ^ j.toNat)) else none
theorem pW:fH K (rI mV fun i j=>.int (i ^ j.toNat)) dW:=fun P H d e z v w Q h h1 h2 _ q=>by
 obtain⟨i,j,rfl,rfl,h⟩:=tD h h1 h2;split at h
 ·rename_i hg;cases h;exact⟨i,j,rfl,rfl,by unfold mV;rw[show(2:Nat) ^ 64=18446744073709551616 from rfl];exact⟨hg.1,by omega,hg.2.2⟩,q _ H (Same.refl H) rfl⟩
 ·cases h
def aH (c:Cp)(a b:D):Option D:=(bV c a b).map .bl
theorem Bg:fH K (Bq K c) (aH c):=fun P H d e z v w Q h h1 h2 _ q=>by
 unfold aH at h;rw[Ww]at h;obtain⟨b,h,rfl⟩:=h;exact JN h h1 h2 (q _ H (Same.refl H) rfl)
noncomputable def bU:D->D->Option D
 |.lst ds,.int i=>bZ ds i
 |.tup ds,.int i=>bZ ds i
 |.str z,.int i=>if z.length<=sizeLine then(bZ z.cps.toList i).map fun c=>.str ⟨#[c]⟩ else none
 |_,_=>none
noncomputable def Bs (K:Fgx):R2:=fun x y H Q=>nA K x y H Q\/nG K x y H Q\/nF x y H Q
theorem KZ:gR X (Bs X.K):=K1.or (K4.or K3)
theorem DQ (h:bZ ds i=some d)(q:aq K P H ds vs):∃u,bZ vs i=some u/\Is K P H d u:=by
 unfold bZ at h ⊢;rw[q.len]
 cases e:m_ ds.length i with
 |none=>rw[e]at h;cases h
 |some j=>rw[e]at h;exact q.get h
theorem Pk:fH K (Bs K) bU:=fun P H d e z v w Q h h1 h2 _ q=>by
 unfold bU at h;split at h
 ·obtain⟨a,vs,rfl,r,s⟩:=h1;cases h2;obtain⟨u,e,p⟩:=DQ h s;exact .inl ⟨a,vs,_,u,rfl,rfl,r,e,q _ H (Same.refl H) p⟩
 ·obtain⟨a,vs,rfl,r,s⟩:=h1;cases h2;obtain⟨u,e,p⟩:=DQ h s;exact .inr (.inl ⟨a,vs,_,u,rfl,rfl,r,e,q _ H (Same.refl H) p⟩)
 ·split at h
  ·rename_i hl;rw[Ww]at h;obtain⟨c,h,e⟩:=h;cases e;cases h1;cases h2;exact .inr (.inr ⟨_,_,c,rfl,rfl,hl,h,q _ H (Same.refl H) rfl⟩)
  ·cases h
 ·cases h
noncomputable def cC:List D->Option D
 | [.lst ds]=>some (.int ds.length)
 | [.tup ds]=>some (.int ds.length)
 | [.str z]=>if z.length<=sizeLine then some (.int z.length) else none
 |_=>none
def tR (K:Fgx):List V->Hp->VK->Prop:=fun xs H Q=>(∃p ys,xs=[.ref p]/\(aY K H p ys\/dD K H p ys)/\Q (.int ys.length) H)\/∃z,xs=[.str z]/\z.length<=sizeLine/\Q (.int z.length) H
theorem pG:cY X (.builtin "len") (tR X.K):=JC.or JD
theorem pU:mW K (tR K) cC:=fun P H ds z vs Q h i _ q=>by
 unfold cC at h;split at h
 ·obtain⟨v,ws,rfl,p,rfl⟩:=i;cases h;obtain⟨a,us,rfl,r,s⟩:=p;exact .inl ⟨a,us,rfl,.inl r,q _ H (Same.refl H) (by rw[s.len];rfl)⟩
 ·obtain⟨v,ws,rfl,p,rfl⟩:=i;cases h;obtain⟨a,us,rfl,r,s⟩:=p;exact .inl ⟨a,us,rfl,.inr r,q _ H (Same.refl H) (by rw[s.len];rfl)⟩
 ·split at h
  ·rename_i hl;obtain⟨v,ws,rfl,p,rfl⟩:=i;cases h;cases p;exact .inr ⟨_,rfl,hl,q _ H (Same.refl H) rfl⟩
  ·cases h
 ·cases h
end
section
variable {X:Cx}{Wx:XW}{m:Mode}
noncomputable def vB:D->String
 |.non=>"NoneType"
 |.bl _=>"bool"
 |.int _=>"int"
 |.str _=>"str"
 |.tup _=>"tuple"
 |.lst _=>"list"
 |.ref _=>""
theorem Jz:cY X (.builtin "isinstance") (fun xs H Q=>∃(x:V) (T:String) (d:D) (P:Pl) (b:Bool),xs=[x,.ty T]/\bx X.K P H d x/\vB d≠""/\PySem.W.kitOne X.K (.type (vB d)) (.type T)=some b/\Q (.bl b) H):=by
  intro pins s σ H xs us Q I r h;obtain⟨x,T,d,A,b,rfl,i,ne,e,q⟩:=h;obtain⟨u,w',rfl,rx,rT⟩:=vals2 r;cases rT;have fin:∀tk,EP X pins σ Q (.bool b) {s with toks:=tk}:=fun tk=>⟨.bl b,H,I.tok _,rfl,q⟩
  cases d with
  |non=>have hv:x=.non:=i;subst hv;exact wj I rx (TyOf.non) e fin
  |bl y=>have hv:x=.bl y:=i;subst hv;exact wj I rx (TyOf.bl y) e fin
  |int y=>have hv:x=.int y:=i;subst hv;exact wj I rx (TyOf.int y) e fin
  |str y=>have hv:x=.str y:=i;subst hv;exact wj I rx (TyOf.str y) e fin
  |ref n=>exact absurd rfl ne
  |tup ds=>
    obtain⟨a,vs,rfl,t,_⟩:=i;cases rx;obtain⟨its,_,p,_⟩:=I.tuple t;obtain⟨o,h1,h2,_⟩:=p;exact W9 xaH I.kIn ⟨o,h1,h2⟩ e (fun z=>nomatch z) fin
  |lst ds=>
    obtain⟨a,vs,rfl,t,_⟩:=i;cases rx;obtain⟨_,its,_,o,h1,h2,_⟩:=sql I t;exact W9 ZX I.kIn ⟨o,h1,h2⟩ e (fun z=>nomatch z) fin
theorem Vw {K:Fgx}{P:Pl}{H:Hp}{lo:Int}{n:Nat}:Wk K P H (vD lo n) ((List.range n).map fun(k:Nat)=>.int (lo + k)):=fun P' H' l=>by
 rw[WK,Xq];refine⟨fun k hk=>hk,fun k h1 _=>h1,fun k x H2 y hk=>⟨y.1,.int (lo + k),?_,y.2⟩⟩;rw[Wy,Yr hk];rfl
noncomputable def lB (fs:EA):EA:=fun env M=>match fs env M with
 |some (.v [.int j],M1)=>if -1000000000<=j/\j<=1000000000 then some (.v ((List.range j.toNat).map fun(k:Nat)=>.int (0 + k)),M1) else none
 |some (.x c n,M1)=>some (.x c n,M1)
 |_=>none
theorem xR (hg:Gl X "range")(hm:X.mg "range"=none)(ha:SA X Wx .val [a] fs)(hs:starEach [a] X.env=[(false,eval a X.env)]:=by rfl):SI X Wx tg (.Call (.Name "range" p) [a] [] pos) (lB fs):=by
 refine Bc (OJ hg hm ha hs) ?_;rintro st H R ⟨P0,H0,P,Os,env,M,r,M',k,e,q⟩;unfold lB at e;split at e
 ·rename_i j M1 ef;split at e
  ·rename_i hj;cases e;refine⟨P0,H0,P,Os,env,M,_,_,k,ef,fun P1 vs H1 l1 h1 i1=>?_⟩;obtain⟨v,ws,rfl,p,rfl⟩:=i1;exact⟨j,by rw[show v=.int j from p],by omega,by omega,q P1 H1 _ l1 h1 Vw⟩
  ·cases e
 ·rename_i c n M1 ef;cases e;exact⟨P0,H0,P,Os,env,M,_,_,k,ef,q⟩
 ·cases e
def tL:Env->Mm->Option (Option Int×Mm):=fun _ M=>some (none,M)
noncomputable def pR (f:E):Env->Mm->Option (Option Int×Mm):=fun env M=>match f env M with
 |some (.v (.int i),M1)=>some (some i,M1)
 |_=>none
noncomputable def tP (K:Fgx) (mg:Mgx) (f:Env->Mm->Option (Option Int×Mm)):TO:=fun st H Q=>∃P0 H0 P Os env M i M',Ok K mg P0 H0 P Os H M st env/\f env M=some (i,M')/\∀P' H',LtE P H P' H'->Hk K mg P' H' M'->Q i H'
def vJ (X:Cx)(e:Option Expr)(f:Env->Mm->Option (Option Int×Mm)):Prop:=PO X e (tP X.K X.mg f)
theorem G5 (h:PO X e t)(w:∀σ H Q,t' σ H Q->t σ H Q):PO X e t':=fun pins s σ H Q I hw=>h pins s σ H Q I (w σ H Q hw)
theorem Cv:vJ X none tL:=by
 refine G5 O4 ?_;rintro st H Q ⟨P0,H0,P,Os,env,M,i,M',k,e,q⟩;cases e;exact q P H (LtE.refl P H) k.hk
theorem Cu (h:SE X Wx .val e f):vJ X (some e) (pR f):=by
 refine G5 (O5 h) ?_;rintro st H Q ⟨P0,H0,P,Os,env,M,i,M',k,e,q⟩;unfold pR at e;split at e
 ·rename_i j M1 ef;cases e;exact⟨P0,H0,P,Os,env,M,_,_,k,ef,fun P1 v H1 l1 h1 i1=>⟨j,i1,q P1 H1 l1 h1⟩⟩
 ·cases e
noncomputable def fL {α:Type} (xs:List α) (lo hi:Option Int):List α:=(xs.drop (HT.cW xs.length 0 lo)).take (HT.cW xs.length xs.length hi - HT.cW xs.length 0 lo)
theorem JX {K:Fgx}{P:Pl}{H:Hp}{ds:List D}{vs:List V}{lo hi:Option Int}(q:aq K P H ds vs):aq K P H (fL ds lo hi) (fM vs lo hi):=by
 unfold fL fM;rw[q.len];exact(q.drop _).take _
noncomputable def rz (d:D) (lo hi:Option Int):Option D:=match d with
 |.lst ds=>some (.lst (fL ds lo hi))
 |.str z=>if z.length<=sizeLine then some (.str (Txt.slice z lo hi)) else none
 |_=>none
noncomputable def p7 (f:E) (l h:Env->Mm->Option (Option Int×Mm)):E:=fun env M=>bnd (f env M) fun d M1=>match l env M1 with
  | some (lo, M2) => (match h env M2 with
    |some (hi,M3)=>(rz (vw M3 d) lo hi).map fun z=>(.v z,M3)
    |none=>none)
  |none=>none
theorem Cg {e:Expr}{lo hi:Option Expr}{p2 pos:Pos}{f:E}{l h:Env->Mm->Option (Option Int×Mm)}(he:SE X Wx .bor e f)(hl:vJ X lo l)(hh:vJ X hi h):SE X Wx m (.Subscript e (.Slice lo hi none p2) pos) (p7 f l h):=by
 refine cT (Ou (Tf.or Ti) he hl hh) ?_;rintro st H Q ⟨P0,H0,P,Os,env,M,r,M',k,e,q⟩;unfold p7 at e;rcases dh e with⟨d,M1,e1,e⟩ |⟨c,n,e1,rfl⟩
 ·split at e
  ·rename_i lo' M2 el;split at e
   ·rename_i hi' M3 eh;rw[Ww]at e;obtain⟨z,ez,e⟩:=e;cases e;refine bF k e1 fun P1 v1 H1 l1 h1 i1=>⟨P0,H0,P1,Os,env,M1,_,_,k.next l1 h1,el,fun P2 H2 l2 h2=>⟨P0,H0,P2,Os,env,M2,_,_,(k.next l1 h1).next l2 h2,eh,fun P3 H3 l3 h3=>?_⟩⟩
    have i3:=bW.vw h3 (bW.lt l3 h2 (bW.lt l2 h1 i1));have fin:∀u H',Same H3 H'->Is X.K P3 H' z u->Q u H':=fun u H' s i=>q P3 u H' (l1.trans (l2.trans (l3.trans (LtE.same s)))) (h3.same s) (c7.of (h3.same s) i);generalize vw M' d=d' at i3 ez;unfold rz at ez;split at ez
    ·cases ez;obtain⟨a,vs,rfl,r,s⟩:=i3;exact .inl ⟨a,vs,rfl,r,GC h3.new (JX s) fin⟩
    ·split at ez
     ·rename_i hz;cases ez;cases i3;exact .inr ⟨_,rfl,hz,fin _ _ (Same.refl _) rfl⟩
     ·cases ez
    ·cases ez
   ·cases e
  ·cases e
 ·exact bF k e1 q
noncomputable def wY (f:E):E:=fun env M=>bnd (f env M) fun d M1=>match d with
 |.lst ds=>some (.v (.ref M1.length),M1 ++ [.lst ds])
 |_=>none
theorem S8 (h:SN X Wx e f):SE X Wx m e (wY f):=by
  refine cT h ?_;rintro st H Q ⟨P0,H0,P,Os,env,M,r,M',k,e,q⟩;unfold wY at e;rcases dh e with⟨d,M1,e1,e⟩ |⟨c,n,e1,rfl⟩
  · cases d<;>simp only[reduceCtorEq]at e
    rename_i ds;cases e;refine⟨P0,H0,P,Os,env,M,_,_,k,e1,ds,rfl,fun P1 a vs H1 l1 h1 ha ba nc ea is=>?_⟩;have hn:P1.n=M1.length:=h1.n
    let P2:Pl:={io:=fun j=>if j=P1.n then a else P1.io j,n:=P1.n + 1,bd:=P1.bd}
    have io : ∀ j, j < P1.n -> P2.io j = P1.io j := fun j hj => WY (by omega);have ioN : P2.io P1.n = a := Wv rfl;have l2 : Lt P1 H1 P2 H1 := ⟨Ym _, io, fun _ z => .inl z, fun _ _ e _ => e, fun _ z => z⟩;have le : LtE P H P2 H1 := ⟨Z2 l1.n,fun j hj=>(io j (Wo hj l1.n)).trans (l1.io j hj),l1.bd,l1.bm,l1.keep,l1.sure,fun j h2 h3=>by
      rcases W8 j P1.n with z |z
      · rw[io j z];exact l1.nw j h2 z
      · have:j=P1.n:=Xj (Xi h3) z;rw[this,ioN];exact ha⟩
    have hk2:Hk X.K X.mg P2 H1 (M1 ++ [.lst ds]):=by
      refine⟨by rw[Wz, <-hn];rfl,fun j c ej=>?_,fun i j hi hj e=>?_,fun j hj=>?_,h1.here⟩
      · rcases W8 j P1.n with z |z
        · rw[WW (by rw[<-hn];exact z)]at ej;rw[io j z];exact(h1.cell j c ej).lt l2 fun _ z=>z
        · have jl:=(WD.mp ej).1;rw[Wz,XJ, <-hn]at jl;have:j=P1.n:=by omega
          subst this;rw[WR (by rw[hn];exact Wq _),hn,Zk]at ej;cases ej;rw[ioN];exact⟨vs,ea,aq.lt l2 is⟩
      · rcases W8 i P1.n with z |z
        · rcases W8 j P1.n with y |y
          · rw[io i z,io j y]at e;exact h1.inj i j z y e
          · have:j=P1.n:=Xj (Xi hj) y;rw[io i z,this,ioN]at e;exact absurd e (nc i z)
        · have iN:i=P1.n:=Xj (Xi hi) z;rcases W8 j P1.n with y |y
          · rw[iN,ioN,io j y]at e;exact absurd e.symm (nc j y)
          · rw[iN];exact Xj y (Xi hj)
      · rcases W8 j P1.n with z |z
        · rw[io j z];exact h1.bd j z
        · have:j=P1.n:=Xj (Xi hj) z;rw[this,ioN];exact ba
    exact q P2 _ H1 le hk2 (c7.of hk2 (show Is _ _ _ (.ref _) _ from⟨by show _<P1.n + 1;rw[hn];exact YJ _,by rw[<-hn,ioN]⟩))
  · exact⟨P0,H0,P,Os,env,M,_,_,k,e1,q⟩
noncomputable def i_ (f g:E):S:=fun env M=>bO (f env M) fun d M1=>match d with
  | .ref j => (match M1[j]? with
    | some (.lst _) => bO (g env M1) fun y M2 => (match M2[j]? with
      |some (.lst ds)=>if ds.length<sizeLine then some (.nx env,M2.set j (.lst (ds ++ [y]))) else none
      |_=>none)
    |_=>none)
  |_=>none
theorem Iz (ho:SE X Wx .val o f)(he:SE X Wx .val e g)(hbase:attributeBase o "append" X.env (eval o X.env)=eval o X.env:=by rfl)
  (hfew:((backTo q (starEach [e] X.env)).all (fun x=> !x.1) && (backToKw q (keywordEach [] X.env)).all (fun x=>x.1.isSome) && decide ([e].length + ([]:List Keyword).length + (if ([]:List Keyword).isEmpty then 0 else 1)<30))=true:=by rfl)
  (hline:(p.endLine==q.line)=true:=by rfl) (hs:starEach [e] X.env=(false,eval e X.env)::starEach [] X.env:=by rfl) (hw:swapsWith (.Call (.Attribute o "append" p) [e] [] q) none pos.line X.env=pure false:=by rfl):
  SS X Wx (.Expr (.Call (.Attribute o "append" p) [e] [] q) pos) (i_ f g):=by
 refine gq (wQ (wO Yt xad xae Ac ho (mH he nq hs) hbase hfew hline hs rfl) hw) ?_;rintro D st H ⟨P0,H0,P,Os,env,M,out,M',k,e,q⟩;unfold i_ at e;rcases gU e with⟨d,M1,e1,e⟩ |⟨c,n,e1,rfl⟩
 ·cases d<;>simp only[reduceCtorEq]at e
  rename_i j;split at e
  rotate_left
  ·cases e
  rename_i ds0 em0;refine⟨P0,H0,P,Os,env,M,_,_,k,e1,fun P1 v1 H1 l1 h1 i1=>?_⟩;have k1:=k.next l1 h1
  obtain⟨jl,rfl⟩:j<P1.n/\v1=.ref (P1.io j):=i1;obtain⟨vs0,ev0,_⟩:=h1.cell j _ em0;refine⟨.inl ⟨rfl,vs0,.inl (.inl ev0)⟩,?_⟩;rcases gU e with⟨y,M2,e2,e⟩ |⟨c,n,e2,rfl⟩
  ·split at e
   ·rename_i ds em;split at e
    ·rename_i hz;cases e;refine bF k1 e2 fun P2 v2 H2 l2 h2 i2=>?_;obtain⟨vs,ev,is⟩:=h2.cell j _ em;rw[l2.io j jl]at ev;have i3:=Is.lt (Lt.refl P2 H2) i2;refine⟨P1.io j,vs,v2,rfl,rfl,ev,by rw[is.len];exact hz,?_⟩;have eio:P2.io j=P1.io j:=l2.io j jl;have jl2:j<P2.n:=Wo jl l2.n;obtain⟨o0,eo0,nf0⟩:=h2.cellAt em;have lc:Lt P2 H2 P2 (upd H2 (P2.io j) (.lst (vs ++ [v2]))):=sZ (h2.bd j jl2) eo0 nf0;obtain⟨l3,l3e,h3⟩:=h2.set (c':=.lst (ds ++ [y])) (o':=.lst (vs ++ [v2])) em ⟨vs ++ [v2],bJ,aq.append (aq.lt lc is) (aq.one (Is.lt lc i2))⟩;rw[eio]at l3 l3e h3;exact q _ _ _ _ ((l1.lt k.hk).trans ((l2.lt h1).trans l3)) ((k1.next l2 h2).next l3e h3)
    ·cases e
   ·cases e
  ·exact bF k1 e2 q
 ·exact⟨P0,H0,P,Os,env,M,_,_,k,e1,q⟩
end
section
variable {X:Cx}{Wx:XW}{m:Mode}{pos:Pos}
noncomputable def nM (f:E):E:=fun env M=>bnd (f env M) fun d M1=>match vw M1 d with
 |.lst ds=>some (.v (.lst ds),M1)
 |.tup ds=>some (.v (.lst ds),M1)
 |_=>none
theorem Il (hg:Gl X "list")(hm:X.mg "list"=none)(he:SE X Wx .bor e f)(hs:starEach [e] X.env=(false,eval e X.env)::starEach [] X.env:=by rfl):SN X Wx (.Call (.Name "list" p) [e] [] pos) (nM f):=by
 refine cT (GQ JF hg hm boot_list (mH he nq hs) (by x_go) (by x_go) hs rfl) ?_;rintro st H Q ⟨P0,H0,P,Os,env,M,r,M',k,e,q⟩;unfold nM at e;rcases dh e with⟨d,M1,e1,e⟩ |⟨c,n,e1,rfl⟩
 ·refine bF k e1 ?_;have key:∀ds,r=.v (.lst ds)->M'=M1->(∀P1 v1 H1,bx X.K P1 H1 (vw M1 d) v1->∃a vs,v1=.ref a/\(aY X.K H1 a vs\/dD X.K H1 a vs)/\aq X.K P1 H1 ds vs)->∀P1 v1 H1,LtE P H P1 H1->Hk X.K X.mg P1 H1 M1->c7 X.K P1 H1 .bor d v1->
    ∃p ys,[v1]=[V.ref p]/\(aY X.K H1 p ys\/dD X.K H1 p ys)/\∀l,H1 l=none->Q (.ref l) (upd H1 l (.lst ys)):=by
   rintro ds rfl rfl hv P1 v1 H1 l1 h1 i1;obtain⟨ds',e',q⟩:=q;cases e';obtain⟨a,vs,rfl,sq,is⟩:=hv P1 v1 H1 (bW.vw h1 i1);refine⟨a,vs,rfl,sq,fun p hp=>?_⟩;obtain⟨l2,h2,nc⟩:=pD (vs:=vs) h1 hp;exact q (P1.bar p) p vs _ (l1.trans l2) h2 (l1.sure p hp) (.inr rfl) nc bJ (aq.lt (l2.lt h1) is)
  split at e
  ·rename_i ds ev;cases e;exact key ds rfl rfl fun P1 v1 H1 i=>by
    rw[ev]at i;obtain⟨a,vs,e,s,is⟩:=i;exact⟨a,vs,e,.inl s,is⟩
  ·rename_i ds ev;cases e;exact key ds rfl rfl fun P1 v1 H1 i=>by
    rw[ev]at i;obtain⟨a,vs,e,s,is⟩:=i;exact⟨a,vs,e,.inr s,is⟩
  ·cases e
 ·exact bF k e1 q
theorem Gq:∀env M r M',nM f env M=some (.v r,M')->∃ds,r=.lst ds:=fun env M r M' e=>by
 unfold nM at e;rcases dh e with⟨ds,M1,e1,e⟩ |⟨c,n,e1,e⟩
 ·split at e
  ·cases e;exact⟨_,rfl⟩
  ·cases e;exact⟨_,rfl⟩
  ·cases e
 ·cases e
end
noncomputable def xU (K:Fgx) (g:G):Sp:=fun vs H Q E=>∀mg,kh K mg 1 g vs H Q E
theorem Kg {P:Program}{w:World}{K:Fgx}{mg:Mgx}{base:Heap}{k:Nat}{f:Addr}{fd:FuncData}{ps:List Str}{g:G}(F:FnOk P w K mg base dI k f fd ps (kh K mg 1 g)):FnOk P w K mg base dI k f fd ps (xU K g):=
 ⟨fun vs H Q E h=>F.len vs H Q E (h mg),fun A outer s H args us vs Q E hr he hb hv hs=>F.run A outer s H args us vs Q E hr he hb hv (hs mg)⟩
theorem FZ {K:Fgx}{P:Pl}{H:Hp}:∀ns:List Int,aq K P H (ns.map D.int) (ns.map V.int)
 | []=>rfl
 |n::ns=>⟨.int n,_,rfl,rfl,FZ ns⟩
section
variable {X:Cx}{Wx:XW}{m:Mode}{e:Expr}
theorem Cd (h:PE X e (tC (.int i))):SE X Wx m e (ak (.int i)):=(Ca (d:=.int i) h fun _ _=>rfl).bor
theorem nU (h:PE X e (tC (.str z))):SE X Wx m e (ak (.str z)):=(Ca (d:=.str z) h fun _ _=>rfl).bor
theorem B_ (h:PE X e (tC (.bl b))):SE X Wx m e (ak (.bl b)):=(Ca (d:=.bl b) h fun _ _=>rfl).bor
theorem u5 (hN:X.N[i]? =some x)(hv:X.env.scope.names.lookup x=some .local)(hd:(x==("__debug__":Str))=false:=by x_go)(hcd:(x==("__classdict__":Str))=false:=by x_go):SE X Wx m (.Name x pos) (aj i):=(Ib hN (.inl hv) hd hcd).bor
theorem Ie (hN:X.N[i]? =some x)(hv:X.env.scope.names.lookup x=some .local)(hd:(x==("__debug__":Str))=false:=by x_go)(hcd:(x==("__classdict__":Str))=false:=by x_go):SE X Wx .bor (.Name x pos) (p8 i):=Td hN (.inl hv) hd hcd
theorem SN.sem (h:SN X Wx e f)(hf:∀env M r M',f env M=some (.v r,M')->∃ds,r=.lst ds):SE X Wx m e f:=(SN.se h hf).bor
end
structure ClsOk (K:Fgx)(mg:Mgx)(c:Str)(C:Addr):Prop where
 mg:mg c=some (.ref C)
 cl:Cls K C
section
variable {X:Cx}{Wx:XW}{m:Mode}{pos:Pos}
def mU (P:Program)(w:World)(K:Fgx)(mg:Mgx)(base:Heap)(k:Nat)(C:Addr)(m:Str)(n:Nat)(g:G):Prop:=
 ∃f fd ps,Meth K C m f/\FnOk P w K mg base dI k f fd ps (kh K mg n g)/\Binds K fd ps []
theorem mU.mono {P:Program}{w:World}{K:Fgx}{mg:Mgx}{base:Heap}{j k:Nat}{C:Addr}{m:Str}{n:Nat}{g:G}(a:mU P w K mg base j C m n g)(h:j<=k):mU P w K mg base k C m n g:=by
 obtain⟨f,fd,ps,h1,h2,h3⟩:=a;exact⟨f,fd,ps,h1,h2.mono h,h3⟩
end
section
variable {X:Cx}{Wx:XW}{m:Mode}{pos:Pos}
theorem JM {K:Fgx}{mg:Mgx}{P:Pl}{H H':Hp}{M:Mm}{a:Addr}{c:Cl}(h:Hk K mg P H M)(s:Same H H')(ha:H a=none)(ea:H' a≠none)(hc:∀P',P'.n=P.n + 1->P'.io P.n=a->LtE P H P' H'->pB K mg P' H' a c):∃P',P'.n=P.n + 1/\P'.io P.n=a/\LtE P H P' H'/\Hk K mg P' H' (M ++ [c]):=by
 let P2:Pl:={io:=fun j=>if j=P.n then a else P.io j,n:=P.n + 1,bd:=fun b=>P.bd b\/b=a}
 have io : ∀ j, j < P.n -> P2.io j = P.io j := fun j hj => WY (by omega);have ioN : P2.io P.n = a := Wv rfl;have nc : ∀ j, j < P.n -> P.io j ≠ a := fun j hj z => h.here _ (h.bd j hj) (z ▸ ha);have l : LtE P H P2 H' := ⟨Ym _,io,fun b z=>Or.imp (fun q=>q) (fun(q:b=a)=>by rw[q];exact ha) z,fun _ z=>.inl z,fun b o e _=>s b o e,fun b z=>s.free z,fun j h2 h3=>by
  have:j=P.n:=Xj (Xi h3) h2;rw[this,ioN];exact ha⟩
 refine⟨P2,rfl,ioN,l,⟨by rw[Wz, <-h.n];rfl,fun j d ej=>?_,fun i j hi hj e=>?_,fun j hj=>?_,fun b z=>?_⟩⟩
 ·rcases W8 j P.n with z |z
  ·rw[WW (by rw[<-h.n];exact z)]at ej;rw[io j z];exact(h.cell j d ej).lt (l.lt h) fun o eo=>s _ _ eo
  ·have jl:=(WD.mp ej).1;rw[Wz,XJ, <-h.n]at jl;have:j=P.n:=by omega
   subst this;rw[WR (by rw[h.n];exact Wq _),h.n,Zk]at ej;cases ej;rw[ioN];exact hc P2 rfl ioN l
 ·rcases W8 i P.n with z |z
  ·rcases W8 j P.n with y |y
   ·rw[io i z,io j y]at e;exact h.inj i j z y e
   ·have:j=P.n:=Xj (Xi hj) y;rw[io i z,this,ioN]at e;exact absurd e (nc i z)
  ·have iN:i=P.n:=Xj (Xi hi) z;rcases W8 j P.n with y |y
   ·rw[iN,ioN,io j y]at e;exact absurd e.symm (nc j y)
   ·rw[iN];exact Xj y (Xi hj)
 ·rcases W8 j P.n with z |z
  ·rw[io j z];exact .inl (h.bd j z)
  ·have:j=P.n:=Xj (Xi hj) z;rw[this,ioN];exact .inr rfl
 ·rcases z with z |z
  ·exact fun q=>h.here b z (s.free q)
  ·rw[z];exact ea
def mR (P:Program)(w:World)(K:Fgx)(mg:Mgx)(base:Heap)(k:Nat)(C:Addr)(n:Nat)(g:G):Prop:=
 ∃f fd ps,Mk K C f/\FnOk P w K mg base dI k f fd ps (kh K mg n g)/\Binds K fd ps []
end
end E3
namespace E3
open PySem PySem.Spec PyProof.Rows L2 PySem.W
noncomputable def aW {α:Type} (lt:Nat->Nat->Option Bool):KasT α->Option α
  |.ret a=>some a
  |.ask i j k=>match lt i j with
    |some b=>aW lt (k b)
    |none=>none
theorem wp_run {α:Type}{cmp:Nat->Nat->(Bool->Shared->Prop)->Shared->Prop}{lt:Nat->Nat->Option Bool}{R:Shared->Prop}(hc:∀i j b s C,lt i j=some b->R s->(∀s',R s'->C b s')->cmp i j C s):∀(t:KasT α) (a:α) (s:Shared) (Q:α->Shared->Prop),aW lt t=some a->R s->(∀s',R s'->Q a s')->t.kasWp cmp Q s
  |.ret a',a,s,Q,e,r,q=>by
    cases e;exact q s r
  |.ask i j k,a,s,Q,e,r,q=>by
    unfold aW at e;split at e
    · rename_i b eb;exact hc i j b s _ eb r fun s' r'=>wp_run hc (k b) a s' Q e r' q
    · cases e
def d9 (a:Addr)(h h':Heap):Prop:=∀b o,b≠a->h.get? b=some o->h'.get? b=some o
def Grows (h h':Heap):Prop:=∀b o,h.get? b=some o->h'.get? b=some o
noncomputable def eF (h:Heap) (a:Addr) (vs:List Value):Heap:=((h.update a (Obj.mapSeq fun _=> #[])).push (seqObj "tuple" vs.toArray 0)).push (seqObj "list" #[] 0)
noncomputable def dj (h:Heap) (vs:List Value):Heap:=((h.push (seqObj "list" #[] 0)).update h.objs.size (Obj.mapSeq (· ++ vs.toArray))).push (seqObj "list" vs.toArray 0)
theorem d9.upd (h:Heap)(a:Addr)(f:Obj->Obj):d9 a h (h.update a f):=fun b o nb e=>by rw[(Heap.SameBut.update h a f).2 b nb];exact e
theorem d9.push (s:d9 a h h')(o:Obj):d9 a h (h'.push o):=fun b u nb e=>tG _ (s b u nb e)
theorem Gv (h:Heap)(a:Addr)(vs:List Value):d9 a h (eF h a vs):=((d9.upd h a _).push _).push _
theorem vW (h:Heap)(vs:List Value):((h.push (seqObj "list" #[] 0)).update h.objs.size (Obj.mapSeq (· ++ vs.toArray))).objs.size=h.objs.size + 1:=(Heap.size_update ..).trans (size_push' h _)
theorem Eu (h:Heap)(vs:List Value):Grows h (dj h vs):=fun b o e=>by
 have lt:=Ws e;unfold dj;rw[Heap.get?_push_ne _ _ _ (by rw[vW];exact WQ (YZ lt)),Heap.get?_update_ne _ _ _ _ (WQ lt),Heap.get?_push_ne _ _ _ (WQ lt)];exact e
theorem vV (h:Heap)(vs:List Value):(dj h vs).get? (h.objs.size + 1)=some (seqObj "list" vs.toArray 0):=by
 rw[<-vW h vs];exact WL _ rfl
noncomputable def lZ (vs:List Value) (p:Array Nat):Array Value:=List.toArray (p.toList.map fun i=>vs.getD i Value.none)
section
variable {prog:Program}{w:World}{A:Around}{E:Value->Shared->Prop}{s:Shared}
theorem Tz (ho:s.heap.get? a=some (seqObj "list" vs.toArray n))(h2:2<=vs.length)(h64:vs.length<64)
  (hk:∀(h':Heap) (Q':SortKind->Shared->Prop),d9 a s.heap h'->Q' κ {s with heap:=h'}->wpAny (model prog w) A (keyKind' vs.toArray) Q' (fun _ _=>False) {s with heap:=h'})
  (hc:∀(h':Heap),d9 a s.heap h'->∀i j b tk C,lt i j=some b->(∀tk,C b {s with heap:=h',toks:=tk})->kas_ask prog w A κ vs i j C {s with heap:=h',toks:=tk})
  (hr:aW lt (kas_sort vs.length)=some p)
  (q:∀(h':Heap) tk c,p.size=vs.length->d9 a s.heap h'->h'.get? a=some (seqObj "list" (lZ vs p) c)->P (.done (.ret .none)) {s with heap:=h',toks:=tk}):
  wpAny (model prog w) A (Builtin.«list.sort» ⟨[.ref a],[]⟩) P E s:=by
 have hz:vs.length<=sizeLine:=by rw[Xv];omega
 have st:=Gv s.heap a vs;obtain⟨e1,z1⟩:∃e1,(s.heap.update a (Obj.mapSeq fun _=>(#[]:Array Value))).get? a=some (seqObj "list" #[] e1):=⟨_,Zm ho fun _=> #[]⟩;have z2:(eF s.heap a vs).get? a=some (seqObj "list" #[] e1):=tG _ (tG _ z1);rw[list_sort_plain];refine Wn (listItems_at ho rfl (Wn (ZM ho rfl (Wn (seqEpoch_at z1 rfl (Wn (xaq (Wn (ZP (Yw ?_) (Xp _))) hz)))) (by simpa using hz) (Xp _))));show wpAny (model prog w) A _ P E {s with heap:=eF s.heap a vs};dsimp only;have two:¬ vs.toArray.size<2:=by simpa using h2
 rw [WY two, WY two];generalize eF s.heap a vs = h1 at st z2 ⊢;have kind := hk h1 (fun κ' s' => κ' = κ /\ s' = { s with heap := h1 }) st ⟨rfl, rfl⟩;refine Wn (Xg kind (fun κ' s0 z => ?_) fun _ _ x => x.elim);obtain ⟨rfl, rfl⟩ := z;have tree := wp_run (cmp := kas_ask prog w A κ' vs) (R := fun s' => ∃ tk, s' = { s with heap := h1, toks := tk }) (fun i j b s' C el ⟨tk,es⟩ hC=>by
  subst es;exact hc h1 st i j b tk C el fun tk'=>hC _ ⟨tk',rfl⟩) (kas_sort vs.length) p {s with heap:=h1} (fun p' s'=>p'=p/\∃tk,s'={s with heap:=h1,toks:=tk}) hr ⟨s.toks,rfl⟩ fun s' r=>⟨rfl,r⟩
 have runs:=kat_run (E:=E) (Q:=fun st' s'=>p.size=vs.length/\arrOf st'=p.map (kas_item (vs.toArray.zip vs.toArray))/\failedOf st'=none/\∃tk,s'={s with heap:=h1,toks:=tk}) rfl h2 h64
  (fun p' st' s' a1 a2 a3 a4=>by obtain⟨rfl,a4⟩:=a4;exact⟨a1,a2,a3,a4⟩) tree
 refine Wn (Xg runs ?_ fun _ _ e=>e);rintro⟨⟨⟩,st'⟩ s' ⟨hp,har,hf,tk,rfl⟩;dsimp only;have hsz:(lZ vs p).size=vs.length:=by unfold lZ;simp[hp]
 rw[kat_snds rfl har];obtain⟨c2,z3⟩:∃c2,(h1.update a (Obj.mapSeq fun _=>lZ vs p)).get? a=some (seqObj "list" (lZ vs p) c2):=⟨_,Zm z2 fun _=>lZ vs p⟩;refine Wn (seqEpoch_at z2 rfl (Wn (ZM z2 rfl ?_ (Xp _) (by show(lZ vs p).size<=sizeLine + 1;rw[hsz];exact Z2 hz))));rw[hf];simp only[xaR,Xe,Yy];exact Wt (q _ tk c2 hp (fun b o nb e=>d9.upd h1 a _ b o nb (st b o nb e)) z3)
theorem TX (hl:s.heap.IsList l vs.toArray)(h2:2<=vs.length)(h64:vs.length<64)
  (hk:∀(h':Heap) (Q':SortKind->Shared->Prop),Grows s.heap h'->Q' κ {s with heap:=h'}->wpAny (model prog w) A.in1.in1 (keyKind' vs.toArray) Q' (fun _ _=>False) {s with heap:=h'})
  (hc:∀(h':Heap),Grows s.heap h'->∀i j b tk C,lt i j=some b->(∀tk,C b {s with heap:=h',toks:=tk})->kas_ask prog w A.in1.in1 κ vs i j C {s with heap:=h',toks:=tk})
  (hr:aW lt (kas_sort vs.length)=some p)
  (q:∀(h':Heap) tk c a,p.size=vs.length->Grows s.heap h'->s.heap.objs.size<=a->h'.get? a=some (seqObj "list" (lZ vs p) c)->Q (.ref a) {s with heap:=h',toks:=tk}):
  wpAny (model prog w) A (call (.builtin "sorted") [.ref l]) Q E s:=by
 have hz:vs.length<=sizeLine:=by rw[Xv];omega
 have up:∀h',d9 (s.heap.objs.size + 1) (dj s.heap vs) h'->Grows s.heap h':=fun h' st b o e=>st b o (WQ (YZ (Ws e))) (Eu s.heap vs b o e);refine Z6 kind_sorted plain_sorted entry_sorted (args_sorted1 _) ?_;unfold Builtin.«sorted»;refine Wn (m:=checkCount "sorted" 1 1 _) (Wt (Wn (collect_list hl (Wn (ZP ?_ hz)) (by simpa using hz))));rw[vW];show wpAny _ _ _ _ _ {s with heap:=dj s.heap vs};refine Wn (Yw (Zb slot_list_sort ⟨_,vV s.heap vs,rfl⟩ entry_list_sort (Tz (s:={s with heap:=dj s.heap vs}) (vV s.heap vs) h2 h64 (fun h' Q' st=>hk h' Q' (up h' st)) (fun h' st=>hc h' (up h' st)) hr fun h' tk c hp st e=>?_) (args_list_sort _)));exact⟨_,rfl,Wt ⟨_,rfl,q h' tk c _ hp (up h' st) (Ym _) e⟩⟩
end
noncomputable def lF:List D->List D->Option Bool
 | [],[]=>some false
 |.int i::ps,.int j::qs=>if i=j then lF ps qs else some (decide (i<j))
 |.str a::ps,.str b::qs=>if a=b then lF ps qs else some (decide (a.cps.toList<b.cps.toList))
 |_,_=>none
noncomputable def pO (ds:List D) (i j:Nat):Option Bool:=match ds.getD i .non with
  | .tup xs => (match ds.getD j .non with
    |.tup ys=>lF xs ys
    |_=>none)
  |_=>none
section
variable {prog:Program}{w:World}{A:Around}{s:Shared}{K:Fgx}{P:Pl}{H:Hp}
theorem Gn (hq:Q b s):∀(xs ys:List D) (vs ws:List V) (us zs:List Value) (n:Nat),aq K P H xs vs->aq K P H ys ws->Vals vs us->Vals ws zs->lF xs ys=some b->(us.length=zs.length->fin=false)->KatLex prog w A true fin Q (us.zip zs) n s
  | [],ys,vs,ws,us,zs,n,i1,i2,r1,r2,e,hf=>by
    cases ys with
    |cons y ys=>cases e
    |nil=>
      rw[show vs=[] from i1]at r1;rw[show ws=[] from i2]at r2;cases r1;cases r2;cases e;rw[hf rfl];exact hq
  |x::xs,[],vs,ws,us,zs,n,i1,i2,r1,r2,e,hf=>by cases x<;>cases e
  |x::xs,y::ys,vs,ws,us,zs,n,i1,i2,r1,r2,e,hf=>by
    obtain⟨v,vr,rfl,p,i1⟩:=i1;obtain⟨u,wr,rfl,p',i2⟩:=i2
    cases r1 with
    |cons a1 r1=>
      cases r2 with
      |cons a2 r2=>
        have rest:lF xs ys=some b->∀n,KatLex prog w A true fin Q (List.zip _ _) n s:=fun e n=>Gn hq xs ys _ _ _ _ n i1 i2 r1 r2 e fun z=>hf (by simp[z]);rw[YW];cases x<;>cases y<;>simp only[lF,reduceCtorEq]at e
        · rename_i i j;cases p;cases p';obtain⟨t1,rfl⟩:=a1;obtain⟨t2,rfl⟩:=a2;refine kat_cons (Zz _ _ _ _ prog w _ _ ?_);split at e
          · rename_i hij;subst hij;rw[show(i==i)=true from Xl i];exact kat_yes (rest e _)
          · rename_i hij;cases e;rw[show(i==j)=false from XC.mpr hij];refine kat_no ?_
            cases n with
            |zero=>exact oneLt_int hq
            |succ n=>exact kat_one _ _ (lt_int (show PySem.W.BoolBack Q (.bool _) s from hq))
        · rename_i a c;cases p;cases p';obtain⟨t1,rfl⟩:=a1;obtain⟨t2,rfl⟩:=a2;refine kat_cons (ZC _ _ _ _ prog w _ _ ?_);split at e
          · rename_i hij;subst hij;rw[show(a==a)=true from Xl a];exact kat_yes (rest e _)
          · rename_i hij;cases e;rw[show(a==c)=false from XC.mpr hij];refine kat_no ?_
            cases n with
            |zero=>exact oneLt_str hq
            |succ n=>exact kat_one _ _ (lt_str (show PySem.W.BoolBack Q (.bool _) s from hq))
end
noncomputable def tupI:D->Bool
 |.tup (.int _::_)=>true
 |_=>false
def Bv (K:Fgx):List V->Hp->VK->Prop:=fun xs H Q=>∃(P:Pl) (a:Addr) (vs:List V) (ds:List D) (p:Array Nat),xs=[.ref a]/\aY K H a vs/\aq K P H ds vs/\2<=ds.length/\ds.length<64/\ds.all tupI=true/\aW (pO ds) (kas_sort ds.length)=some p/\
 ∀l,H l=none->Q (.ref l) (upd H l (.lst (p.toList.map fun i=>vs.getD i .non)))
section
variable {X:Cx}{pins:Pnx}{σ:L2.St}{H:Hp}{s:Shared}
theorem Dd (I:Inv X pins σ H s)(g:Grows s.heap h')(i:Is X.K P H (.tup xs) v)(r:RelV v u):∃a o its n ws,u=.ref a/\h'.get? a=some o/\o.cls=.type "tuple"/\o.data=.seq its n/\aq X.K P H xs ws/\Vals ws its.toList:=by
 obtain⟨a,ws,rfl,t,is⟩:=i;cases r;obtain⟨its,rv,⟨o,e1,e2,n,e3⟩,_⟩:=I.tuple t;exact⟨a,o,its.toArray,n,ws,rfl,g _ _ e1,e2,e3,is,by simpa using rv⟩
theorem Ja (I:Inv X pins σ H s)(g:Grows s.heap h'):∀(ds:List D) (vs:List V) (us:List Value),ds.all tupI=true->aq X.K P H ds vs->Vals vs us->∃fs,KatTups h' us fs/\fs.length=us.length/\∀f∈fs,∃i t,f=Value.int i t
  | [],vs,us,_,i,r=>by
    rw[show vs=[] from i]at r;cases r;exact⟨[],KatTups.nil,rfl,fun f h=>nomatch h⟩
  |d::ds,vs,us,hd,i,r=>by
    obtain⟨v,vr,rfl,p,i⟩:=i;rw[Yv,W2]at hd
    cases r with
    |cons a1 r=>
      obtain⟨fs,k,kl,kf⟩:=Ja I g ds _ _ hd.2 i r
      cases d with
      |tup xs=>
        cases xs with
        |nil=>cases (show false=true from hd.1)
        |cons x xs=>
          cases x with
          |int z=>
            obtain⟨a,o,its,n,ws,rfl,e1,e2,e3,is,rv⟩:=Dd I g p a1;obtain⟨w,wr,rfl,pw,is⟩:=is;cases pw;obtain⟨its⟩:=its
            cases rv with
            |cons b1 rv=>
              obtain⟨t,rfl⟩:=b1;refine⟨.int z t::fs,KatTups.cons e1 e2 e3 rfl k,by simp[kl],fun f hf=>?_⟩;rcases W6.mp hf with rfl |hf
              · exact⟨z,t,rfl⟩
              · exact kf f hf
          |_=>cases (show false=true from hd.1)
      |_=>cases (show false=true from hd.1)
theorem Dh (r:Vals vs us)(i:Nat):RelV (vs.getD i .non) (us.getD i Value.none):=by
  induction r generalizing i with
  |nil=>exact rfl
  |cons a r ih=>cases i with
    |zero=>simpa using a
    |succ i=>simpa using ih i
theorem JG:cY X (.builtin "sorted") (Bv X.K):=by
  intro pins s σ H xs us Q I r h;obtain⟨P,a,vs,ds,p,rfl,hl,is,h2,h64,ht,hr,q⟩:=h;obtain⟨u,rfl,rx⟩:=vals1 r;cases rx;obtain⟨its,rv,pl,hz⟩:=I.list hl;have l1:its.length=ds.length:=by rw[<-rv.length,is.len]
  refine TX (κ:=tuples' true) (lt:=pO ds) (p:=p) pl.isList (by omega) (by omega) (fun h' Q' g hq=>?_) (fun h' g i j b tk C el hC=>?_) (by rw[l1];exact hr) fun h' tk c D hp g hD eD=>?_
  · obtain ⟨fs, k, kl, kf⟩ := Ja I g ds vs its ht is rv;exact kat_kind (T := .type "int") k (by omega) (fun f hf=>by
      obtain⟨i,t,rfl⟩:=kf f hf;intro A Q E s _ q;exact Wt q) (by x_go) hq
  · unfold kas_ask;unfold pO at el;split at el
    · rename_i xs ei;split at el
      · rename_i ys ej;have gi:∀k zs,ds.getD k .non=.tup zs->Is X.K P H (.tup zs) (vs.getD k .non):=fun k zs ek=>by
          rw[W7]at ek
          cases e:ds[k]? with
          |none=>rw[e]at ek;cases ek
          |some d=>
            rw[e]at ek;obtain⟨v,ev,iv⟩:=is.get e;rw[W7,ev];simp only[YH]at ek ⊢;rw[<-ek];exact iv
        obtain⟨a1,o1,t1,n1,w1,e1,f1,f2,f3,f4,f5⟩:=Dd I g (gi i xs ei) (Dh rv i);obtain⟨a2,o2,t2,n2,w2,e2,g1,g2,g3,g4,g5⟩:=Dd I g (gi j ys ej) (Dh rv j);rw[e1,e2];refine kat_lt (s:={s with heap:=h',toks:=tk}) f1 f3 g1 g3 (Gn (hC tk) xs ys w1 w2 _ _ 0 f4 g4 f5 g5 el fun z=>?_);simp only[XD]at z
        simp[z]
      · cases el
    · cases el
  · have hv:Vals (p.toList.map fun i=>vs.getD i .non) (p.toList.map fun i=>its.getD i Value.none):=by
      induction p.toList with
      |nil=>exact .nil
      |cons i r ih=>exact .cons (Dh rv i) ih
    have hlen:(p.toList.map fun i=>vs.getD i V.non).length<=sizeLine:=by
      rw[WK,XD,hp, <-rv.length];exact hz
    exact⟨.ref D,_,I.laid (o:=.lst (p.toList.map fun i=>vs.getD i .non)) g hD ⟨hlen,_,c,hv,eD⟩,rfl,q D (I.hok.fresh hD)⟩
end
section
variable {prog:Program}{w:World}{A:Around}{E:Value->Shared->Prop}{s:Shared}
theorem Tw {a:Addr}{n:Nat}{vs:List Value}{P:PySem.Fin->Shared->Prop}(ho:s.heap.get? a=some (seqObj "list" vs.toArray n))(h2:vs.length<2)
  (q:∀(h':Heap) c,d9 a s.heap h'->h'.get? a=some (seqObj "list" vs.toArray c)->P (.done (.ret .none)) {s with heap:=h'}):
  wpAny (model prog w) A (Builtin.«list.sort» ⟨[.ref a],[]⟩) P E s:=by
 have hz:vs.length<=sizeLine:=by rw[Xv];omega
 have st:=Gv s.heap a vs;obtain⟨e1,z1⟩:∃e1,(s.heap.update a (Obj.mapSeq fun _=>(#[]:Array Value))).get? a=some (seqObj "list" #[] e1):=⟨_,Zm ho fun _=> #[]⟩;have z2:(eF s.heap a vs).get? a=some (seqObj "list" #[] e1):=tG _ (tG _ z1);rw[list_sort_plain];refine Wn (listItems_at ho rfl (Wn (ZM ho rfl (Wn (seqEpoch_at z1 rfl (Wn (xaq (Wn (ZP (Yw ?_) (Xp _))) hz)))) (by simpa using hz) (Xp _))));show wpAny (model prog w) A _ P E {s with heap:=eF s.heap a vs};dsimp only;have two:vs.toArray.size<2:=by simpa using h2
 rw[Wv two,Wv two];generalize eF s.heap a vs=h1 at st z2 ⊢;refine Wn (Wt (Wn (m:=(pure ():StateT SortSt Sem Unit).run _) (Wt ?_)));dsimp only;have out:(arrOf (SortSt.mk' general' (vs.toArray.zip vs.toArray) #[] 7 none)).map (·.2)=vs.toArray:=by
  show(vs.toArray.zip vs.toArray).map (·.2)=vs.toArray;apply Array.toList_inj.mp;simp only[Array.toList_map,Array.toList_zip];exact List.map_snd_zip (Wq _)
 rw[out];obtain⟨c2,z3⟩:∃c2,(h1.update a (Obj.mapSeq fun _=>vs.toArray)).get? a=some (seqObj "list" vs.toArray c2):=⟨_,Zm z2 fun _=>vs.toArray⟩;refine Wn (seqEpoch_at z2 rfl (Wn (ZM z2 rfl ?_ (Xp _) (by rw[Wr];exact Z2 hz))));simp only[xaR,Xe,Yy];exact Wt (q _ c2 (fun b o nb e=>d9.upd h1 a _ b o nb (st b o nb e)) z3)
theorem TV {l:Addr}{vs:List Value}{Q:Value->Shared->Prop}(hl:s.heap.IsList l vs.toArray)(h2:vs.length<2)
  (q:∀(h':Heap) c a,Grows s.heap h'->s.heap.objs.size<=a->h'.get? a=some (seqObj "list" vs.toArray c)->Q (.ref a) {s with heap:=h'}):
  wpAny (model prog w) A (call (.builtin "sorted") [.ref l]) Q E s:=by
 have hz:vs.length<=sizeLine:=by rw[Xv];omega
 have up:∀h',d9 (s.heap.objs.size + 1) (dj s.heap vs) h'->Grows s.heap h':=fun h' st b o e=>st b o (WQ (YZ (Ws e))) (Eu s.heap vs b o e);refine Z6 kind_sorted plain_sorted entry_sorted (args_sorted1 _) ?_;unfold Builtin.«sorted»;refine Wn (m:=checkCount "sorted" 1 1 _) (Wt (Wn (collect_list hl (Wn (ZP ?_ hz)) (by simpa using hz))));rw[vW];show wpAny _ _ _ _ _ {s with heap:=dj s.heap vs};refine Wn (Yw (Zb slot_list_sort ⟨_,vV s.heap vs,rfl⟩ entry_list_sort (Tw (s:={s with heap:=dj s.heap vs}) (vV s.heap vs) h2 fun h' c st e=>?_) (args_list_sort _)));exact⟨_,rfl,Wt ⟨_,rfl,q h' c _ (up h' st) (Ym _) e⟩⟩
end
section
variable {X:Cx}{Wx:XW}
def Br (K:Fgx):List V->Hp->VK->Prop:=fun xs H Q=>∃(a:Addr) (vs:List V),xs=[.ref a]/\aY K H a vs/\vs.length<2/\∀l,H l=none->Q (.ref l) (upd H l (.lst vs))
theorem Jy:cY X (.builtin "sorted") (Br X.K):=by
 intro pins s σ H xs us Q I r h;obtain⟨a,vs,rfl,hl,h2,q⟩:=h;obtain⟨u,rfl,rx⟩:=vals1 r;cases rx;obtain⟨its,rv,pl,hz⟩:=I.list hl;refine TV pl.isList (by rw[<-rv.length];exact h2) fun h' c D g hD eD=>?_;exact⟨.ref D,_,I.laid (t':=s.toks) (o:=.lst vs) g hD ⟨hz,its,c,rv,eD⟩,rfl,q D (I.hok.fresh hD)⟩
noncomputable def eV (ds:List D):Option (List D):=if ds.length<2 then some ds else if ds.length<64/\ds.all tupI=true then(aW (pO ds) (kas_sort ds.length)).map fun p=>p.toList.map fun i=>ds.getD i .non else none
theorem Ir {K:Fgx}{P:Pl}{H:Hp}{ds:List D}{vs:List V}(is:aq K P H ds vs):∀l:List Nat,aq K P H (l.map fun i=>ds.getD i .non) (l.map fun i=>vs.getD i .non)
  | []=>rfl
  |i::l=>by
    refine⟨_,_,rfl,?_,Ir is l⟩;dsimp only;rw[W7,W7]
    cases e:ds[i]? with
    |none=>
      have:vs[i]? =none:=XR.mpr (by rw[is.len];exact XR.mp e);rw[this];rfl
    |some d=>
      obtain⟨v,ev,iv⟩:=is.get e;rw[ev];exact iv
noncomputable def gP (f:E):E:=fun env M=>bnd (f env M) fun d M1=>match vw M1 d with
 |.lst ds=>(eV ds).map fun es=>(.v (.lst es),M1)
 |_=>none
theorem boot_sorted:bootBuiltins "sorted"=some (.builtin "sorted"):=by kernel_rfl
theorem u_ (hg:Gl X "sorted")(hm:X.mg "sorted"=none)(he:SE X Wx .bor e f)(hs:starEach [e] X.env=(false,eval e X.env)::starEach [] X.env:=by rfl):SN X Wx (.Call (.Name "sorted" p) [e] [] pos) (gP f):=by
 refine cT (Bb (Jy.or JG) hg hm boot_sorted (mH he nq hs) (by x_go) (by x_go) hs rfl) ?_;rintro st H Q ⟨P0,H0,P,Os,env,M,r,M',k,e,q⟩;unfold gP at e;rcases dh e with⟨d,M1,e1,e⟩ |⟨c,n,e1,rfl⟩
 ·refine bF k e1 fun P1 v1 H1 l1 h1 i1=>?_;have iw:=bW.vw h1 i1;split at e
  ·rename_i ds ev;rw[Ww]at e;obtain⟨es,ez,e⟩:=e;cases e;obtain⟨ds',e',q⟩:=q;cases e';rw[ev]at iw;obtain⟨a,vs,rfl,sq,is⟩:=iw;have fin:∀ws,aq X.K P1 H1 es ws->∀l,H1 l=none->Q (.ref l) (upd H1 l (.lst ws)):=fun ws iws l hl=>by
    obtain⟨l2,h2,nc⟩:=pD (vs:=ws) h1 hl;exact q (P1.bar l) l ws _ (l1.trans l2) h2 (l1.sure l hl) (.inr rfl) nc bJ (aq.lt (l2.lt h1) iws)
   unfold eV at ez;split at ez
   ·rename_i hlt;cases ez;exact .inl ⟨a,vs,rfl,sq,by rw[is.len];exact hlt,fin vs is⟩
   ·split at ez
    ·rename_i h2 h3;rw[Ww]at ez;obtain⟨p,ep,rfl⟩:=ez;exact .inr ⟨P1,a,vs,ds,p,rfl,sq,is,by omega,h3.1,h3.2,ep,fin _ (Ir is _)⟩
    ·cases ez
  ·cases e
 ·exact bF k e1 q
theorem vd:∀env M r M',gP f env M=some (.v r,M')->∃ds,r=.lst ds:=fun env M r M' e=>by
 unfold gP at e;rcases dh e with⟨ds,M1,e1,e⟩ |⟨c,n,e1,e⟩
 ·split at e
  ·rw[Ww]at e;obtain⟨es,_,e⟩:=e;cases e;exact⟨_,rfl⟩
  ·cases e
 ·cases e
end
def Low (n:Nat)(p:Array Nat):Prop:=p.size=n/\∀x∈p.toList,x<n
theorem Low.get (h:Low n p)(hn:0<n)(i:Nat):p.getD i 0<n:=by
 rw[Xy]
 cases e:p[i]? with
 |none=>exact hn
 |some x=>exact h.2 x (by rw[xat];exact Array.mem_of_getElem? e)
theorem run_bind:∀t:KasT α,aW lt (t.bind f)=(aW lt t).bind fun a=>aW lt (f a)
  |.ret a=>rfl
  |.ask i j k=>by
    show aW lt (.ask i j fun b=>(k b).bind f)=_;simp only[aW]
    cases lt i j with
    |none=>rfl
    |some b=>exact run_bind (k b)
section
variable {n:Nat}{lt:Nat->Nat->Option Bool}(hn:0<n)(tot:∀i j,i<n->j<n->∃b,lt i j=some b)
include hn tot
end
end E3
namespace E3
open PySem L2
section
variable {env:Env}{M M1:Mm}{f g h c:E}{d e:D}{i j:Int}{n k:Nat}{z:Str}{b:Bool}{ds es:List D}{s t:S}{x:Str}
def dZ (g:S):OS->OS
 |some (.nx e,M1)=>g e M1
 |o=>o
theorem wV:ao s t env M=dZ t (s env M):=rfl
theorem tU {e:Env}:dZ t (some (.nx e,M))=t e M:=rfl
theorem BR:dZ t (some (.rt d,M))=some (.rt d,M):=rfl
theorem Bx {e:Env}:dZ t (some (.bk e,M))=some (.bk e,M):=rfl
theorem BJ {e:Env}:dZ t (some (.ct e,M))=some (.ct e,M):=rfl
theorem BK {a:Int}:dZ t (some (.ex x a,M))=some (.ex x a,M):=rfl
theorem Qh:aC env M=some (.nx env,M):=rfl
noncomputable def vC (M:Mm):Option Slot->O
 |some (.val d)=>some (.v d,M)
 |_=>none
noncomputable def pq (M:Mm):Option Slot->O
 |some (.val d)=>some (.v d,M)
 |some (.own ds)=>some (.v (.lst ds),M)
 |_=>none
theorem QF:aj k env M=vC M env[k]? :=rfl
theorem Bp:p8 k env M=pq M env[k]? :=rfl
theorem Sh:vC M (some (.val d))=some (.v d,M):=rfl
theorem BX:pq M (some (.val d))=some (.v d,M):=rfl
theorem BZ:pq M (some (.own ds))=some (.v (.lst ds),M):=rfl
theorem Qf:ak d env M=some (.v d,M):=rfl
def mapR (M:Mm)(o:Option D):O:=o.map fun z=>(.v z,M)
theorem RN:mapR M (some d)=some (.v d,M):=rfl
def nj (o:D->Option D)(r:O):O:=bnd r fun d M=>mapR M (o (vw M d))
theorem Pz {o:D->Option D}:s1 o f env M=nj o (f env M):=rfl
theorem QS {o:D->Option D}:nj o (some (.v d,M))=mapR M (o (vw M d)):=rfl
noncomputable def o_ (o:D->D->Option D) (d:D) (r:O):O:=bnd r fun e M=>mapR M (o (vw M d) (vw M e))
noncomputable def vA (o:D->D->Option D) (k:Mm->O) (r:O):O:=bnd r fun d M=>o_ o d (k M)
theorem PB {o:D->D->Option D}:s2 o f g env M=vA o (g env) (f env M):=rfl
theorem QT {o:D->D->Option D}{q:Mm->O}:vA o q (some (.v d,M))=o_ o d (q M):=rfl
theorem Bw {o:D->D->Option D}:o_ o d (some (.v e,M))=mapR M (o (vw M d) (vw M e)):=rfl
theorem Vo:vw M (.int i)=.int i:=rfl
theorem Vt:vw M (.str z)=.str z:=rfl
theorem Dk:vw M (.bl b)=.bl b:=rfl
theorem Vq:vw M .non=.non:=rfl
theorem Vu:vw M (.tup ds)=.tup ds:=rfl
theorem Vp:vw M (.lst ds)=.lst ds:=rfl
theorem Vr (h:M[k]? =some (.lst ds)):vw M (.ref k)=.lst ds:=by unfold vw;simp only[h]
theorem QC:cG f env M=nj (fun d=>(f9 d).map .bl) (f env M):=rfl
noncomputable def tB (r:O):O:=bnd r fun d M=>match d with
 |.bl b=>some (.v (.bl (!b)),M)
 |_=>none
theorem Qv:dY f env M=tB (f env M):=rfl
theorem RW:tB (some (.v (.bl b),M))=some (.v (.bl (!b)),M):=rfl
noncomputable def m9 (k1 k2:Mm->O) (r:O):O:=bnd r fun d M=>match d with
 |.bl b=>if b=true then k1 M else k2 M
 |_=>none
theorem PJ:lK f g env M=m9 (g env) (fun M=>some (.v (.bl false),M)) (f env M):=rfl
theorem Bm:j5 f g env M=m9 (fun M=>some (.v (.bl true),M)) (g env) (f env M):=rfl
theorem RD {k1 k2:Mm->O}:m9 k1 k2 (some (.v (.bl b),M))=if b=true then k1 M else k2 M:=rfl
noncomputable def k_ (d:D):Option (ResA×Mm)->Option (ResA×Mm)
 |some (.v ds,M2)=>some (.v (d::ds),M2)
 |some (.x c n,M2)=>some (.x c n,M2)
 |none=>none
noncomputable def zm (k:Mm->Option (ResA×Mm)):O->Option (ResA×Mm)
 |some (.v d,M1)=>k_ d (k M1)
 |some (.x c n,M1)=>some (.x c n,M1)
 |none=>none
theorem Qu:au env M=some (.v [],M):=rfl
theorem Qg {fs:EA}:aA f fs env M=zm (fs env) (f env M):=rfl
theorem Rq {q:Mm->Option (ResA×Mm)}:zm q (some (.v d,M))=k_ d (q M):=rfl
theorem Ro:k_ d (some (.v ds,M))=some (.v (d::ds),M):=rfl
noncomputable def kW (o:List D->Option D) (r:Option (ResA×Mm)):O:=cO r fun ds M=>mapR M (o (ds.map (vw M)))
theorem Qt {o:List D->Option D}{fs:EA}:sN o fs env M=kW o (fs env M):=rfl
theorem RV {o:List D->Option D}:kW o (some (.v ds,M))=mapR M (o (ds.map (vw M))):=rfl
noncomputable def gF (k:List D->Mm->O):Option (ResA×Mm)->O
 |some (.v ds,M)=>k ds M
 |some (.x c n,M)=>some (.x c n,M)
 |none=>none
theorem Ra {q:List D->Mm->O}:gF q (some (.v ds,M))=q ds M:=rfl
theorem QD {fs:EA}:bI fs env M=gF (fun ds M1=>if ds.length<=sizeLine then some (.v (.tup ds),M1) else none) (fs env M):=rfl
theorem Qq {fs:EA}:bH fs env M=gF (fun ds M1=>if ds.length<=sizeLine then some (.v (.lst ds),M1) else none) (fs env M):=rfl
def Ef:O->O
 |some (.v d,M)=>some (.v d,M)
 |_=>none
theorem Rj:Ef (some (.v d,M))=some (.v d,M):=rfl
theorem P_ {u:G}{fs:EA}:bK u fs env M=gF (fun ds M1=>Ef (u ds M1)) (fs env M):=rfl
noncomputable def dO (k:D->Mm->O):O->O
 |some (.v d,M)=>k d M
 |some (.x c n,M)=>some (.x c n,M)
 |none=>none
theorem Rf {q:D->Mm->O}:dO q (some (.v d,M))=q d M:=rfl
noncomputable def El (M:Mm):D->O
 |.lst ds=>some (.v (.ref M.length),M ++ [.lst ds])
 |_=>none
theorem Rk:El M (.lst ds)=some (.v (.ref M.length),M ++ [.lst ds]):=rfl
theorem Qd:wY f env M=dO (fun d M1=>El M1 d) (f env M):=rfl
noncomputable def Gp (M:Mm):D->O
 |.lst ds=>some (.v (.lst ds),M)
 |.tup ds=>some (.v (.lst ds),M)
 |_=>none
theorem RL:Gp M (.lst ds)=some (.v (.lst ds),M):=rfl
theorem Qo:nM f env M=dO (fun d M1=>Gp M1 (vw M1 d)) (f env M):=rfl
noncomputable def nW (M:Mm):D->O
 |.lst ds=>mapR M ((eV ds).map .lst)
 |_=>none
theorem QB:gP f env M=dO (fun d M1=>nW M1 (vw M1 d)) (f env M):=by
  unfold gP dO bnd
  cases f env M with
  |none=>rfl
  |some p=>obtain⟨r,M'⟩:=p;cases r with
    |x c n=>rfl
    |v d=>
      dsimp only;unfold nW;cases vw M' d<;>try rfl
      dsimp only;cases eV _<;>rfl
theorem pX (h:eV ds=some es):nW M (.lst ds)=some (.v (.lst es),M):=by show mapR M ((eV ds).map D.lst)=_;rw[h];rfl
noncomputable def Cj (d:D) (lo:Option Int):Option (Option Int×Mm)->O
 |some (hi,M3)=>mapR M3 (rz (vw M3 d) lo hi)
 |none=>none
noncomputable def Ik (d:D) (k:Mm->Option (Option Int×Mm)):Option (Option Int×Mm)->O
 |some (lo,M2)=>Cj d lo (k M2)
 |none=>none
theorem Bo {l u:Env->Mm->Option (Option Int×Mm)}:p7 f l u env M=dO (fun d M1=>Ik d (u env) (l env M1)) (f env M):=rfl
theorem R6 {lo:Option Int}{q:Mm->Option (Option Int×Mm)}:Ik d q (some (lo,M))=Cj d lo (q M):=rfl
theorem R5 {lo hi:Option Int}:Cj d lo (some (hi,M))=mapR M (rz (vw M d) lo hi):=rfl
theorem Qx:tL env M=some (none,M):=rfl
noncomputable def tM:O->Option (Option Int×Mm)
 |some (.v (.int i),M)=>some (some i,M)
 |_=>none
theorem Qw:pR f env M=tM (f env M):=rfl
theorem RX:tM (some (.v (.int i),M))=some (some i,M):=rfl
noncomputable def cD (k:D->Mm->OS):O->OS
 |some (.v d,M)=>k d M
 |some (.x c n,M)=>some (.ex c n,M)
 |none=>none
theorem Rh {q:D->Mm->OS}:cD q (some (.v d,M))=q d M:=rfl
theorem PN:aL k f env M=cD (fun d M1=>if k<env.length then some (.nx (env.set k (.val d)),M1) else none) (f env M):=rfl
noncomputable def Gw (k:Nat) (env:Env) (M:Mm):D->OS
 |.lst ds=>if k<env.length then some (.nx (env.set k (.own ds)),M) else none
 |_=>none
theorem RP:Gw k env M (.lst ds)=if k<env.length then some (.nx (env.set k (.own ds)),M) else none:=rfl
theorem Qs:pY k f env M=cD (fun d M1=>Gw k env M1 d) (f env M):=rfl
theorem Qy:aU f env M=cD (fun d M1=>some (.rt d,M1)) (f env M):=rfl
noncomputable def FN (s t:Mm->OS) (M:Mm):D->OS
 |.bl b=>if b=true then s M else t M
 |_=>none
theorem BL {q r:Mm->OS}:FN q r M (.bl b)=if b=true then q M else r M:=rfl
theorem Bk:cV c s t env M=cD (fun d M1=>FN (s env) (t env) M1 d) (c env M):=rfl
noncomputable def rY (k:Nat) (env:Env) (M:Mm):Option Slot->OS
 |some (.own ds)=>some (.nx (env.set k (.val (.lst ds))),M)
 |_=>none
theorem Qk:gO k env M=rY k env M env[k]? :=rfl
theorem Rx:rY k env M (some (.own ds))=some (.nx (env.set k (.val (.lst ds))),M):=rfl
noncomputable def rP (k:Nat) (env:Env) (o:O):Option Slot->OS
 |some (.own ds)=>cD (fun d M1=>if ds.length<sizeLine then some (.nx (env.set k (.own (ds ++ [d]))),M1) else none) o
 |_=>none
theorem PK:lM k f env M=rP k env (f env M) env[k]? :=rfl
theorem Q8 {o:O}:rP k env o (some (.own ds))=cD (fun d M1=>if ds.length<sizeLine then some (.nx (env.set k (.own (ds ++ [d]))),M1) else none) o:=rfl
theorem Dz {ds0:List D}{M2:Mm}(h1:f env M=some (.v (.ref k),M1))(h2:M1[k]? =some (.lst ds0))(h3:g env M1=some (.v d,M2))(h4:M2[k]? =some (.lst ds))(hl:ds.length<sizeLine):i_ f g env M=some (.nx env,M2.set k (.lst (ds ++ [d]))):=by
 simp only[i_,bO,h1,h2,h3,h4,hl,X6]
noncomputable def forR (k:Nat) (t:S) (env:Env):Option (ResA×Mm)->OS
 |some (.v ds,M1)=>loopS k t ds env M1
 |some (.x c n,M1)=>some (.ex c n,M1)
 |none=>none
theorem Qj {fs:EA}:dB k fs t env M=forR k t env (fs env M):=rfl
theorem Rw:forR k t env (some (.v ds,M))=loopS k t ds env M:=rfl
noncomputable def sY:O->Option (ResA×Mm)
 |some (.v (.lst ds),M1)=>some (.v ds,M1)
 |some (.x c n,M1)=>some (.x c n,M1)
 |_=>none
theorem Ql:fP f env M=sY (f env M):=rfl
theorem Ry:sY (some (.v (.lst ds),M))=some (.v ds,M):=rfl
noncomputable def Hl:Option (ResA×Mm)->Option (ResA×Mm)
 |some (.v [.int j],M1)=>if -1000000000<=j/\j<=1000000000 then some (.v ((List.range j.toNat).map fun(k:Nat)=>.int (0 + k)),M1) else none
 |some (.x c n,M1)=>some (.x c n,M1)
 |_=>none
theorem Qz {fs:EA}:lB fs env M=Hl (fs env M):=rfl
theorem wX (h: -1000000000<=i/\i<=1000000000):Hl (some (.v [.int i],M))=some (.v ((List.range i.toNat).map fun(k:Nat)=>.int (0 + k)),M):=Wv h
theorem Bj {m:Nat}{t:S}:cj m t ds M=bB (t (ds.map .val ++ List.replicate (m - ds.length) .un) M):=rfl
theorem Ru:bB (some (.rt d,M))=some (.v d,M):=rfl
theorem Rt {e:Env}:bB (some (.nx e,M))=some (.v .non,M):=rfl
theorem Mi:aQ (.int i) (.int j)=some (.int (i + j)):=rfl
theorem Mj:aQ (.lst ds) (.lst es)=if ds.length + es.length<=sizeLine then some (.lst (ds ++ es)) else none:=rfl
theorem Ni:lG (.int i) (.int j)=some (.int (i - j)):=rfl
theorem M8:cR (.int i) (.int j)=if i.natAbs<18446744073709551616\/j.natAbs<18446744073709551616\/(i.natAbs.log2<10000/\j.natAbs.log2<10000) then some (.int (i * j)) else none:=rfl
theorem Mt:fu (.int i) (.int j)=if 0<j/\j.natAbs<1073741824 then some (.int (i / j)) else none:=rfl
theorem M7:oMod (.int i) (.int j)=if 0<j then some (.int (i % j)) else none:=rfl
theorem Nf:dW (.int i) (.int j)=if 0<=j/\j.natAbs<=1000000/\i.natAbs<18446744073709551616 then some (.int (i ^ j.toNat)) else none:=rfl
theorem Ba:aH .lt (.int i) (.int j)=some (.bl (decide (i<j))):=rfl
theorem A_:aH .le (.int i) (.int j)=some (.bl (decide (i<=j))):=rfl
theorem Az:aH .gt (.int i) (.int j)=some (.bl (decide (j<i))):=rfl
theorem Ay:aH .ge (.int i) (.int j)=some (.bl (decide (j<=i))):=rfl
theorem Mr:aH .eq (.int i) (.int j)=some (.bl (decide (i=j))):=by
 show(pF _ _).map D.bl=_
 simp[pF,cP,D.flat,D.dep,D.eq]
 rw[Xx];simp
theorem M9:aH .ne (.int i) (.int j)=some (.bl (!decide (i=j))):=by
 show(mq _ _).map D.bl=_
 simp[mq,cP,D.flat,D.dep,D.eq]
 rw[Xx];simp
theorem wM (h:d.dep<=50):aH .ne d d=some (.bl false):=by
 show(mq d d).map D.bl=_;unfold mq;rw[Wv ⟨by simp[cP,h],h⟩,D.eq_refl];rfl
theorem Mz:bU (.lst ds) (.int i)=bZ ds i:=rfl
theorem MJ:bU (.tup ds) (.int i)=bZ ds i:=rfl
theorem MK:cC [.lst ds]=some (.int ds.length):=rfl
theorem M6:cC [.tup ds]=some (.int ds.length):=rfl
theorem Nk:f9 (.lst ds)=some (!ds.isEmpty):=rfl
theorem Nj:f9 (.bl b)=some b:=rfl
theorem Nh {lo hi:Option Int}:rz (.str z) lo hi=if z.length<=sizeLine then some (.str (Txt.slice z lo hi)) else none:=rfl
theorem Ng {lo hi:Option Int}:rz (.lst ds) lo hi=some (.lst (fL ds lo hi)):=rfl
end
noncomputable def Step (J:Env->Mm->Prop) (Q:OS->Prop):OS->Prop
 |some (.nx e,M)=>J e M
 |some (.ct e,M)=>J e M
 |some (.bk e,M)=>Q (some (.nx e,M))
 |some (.rt d,M)=>Q (some (.rt d,M))
 |some (.ex c n,M)=>Q (some (.ex c n,M))
 |none=>False
theorem zY {i:Nat}{body:S}{ds:List D}{env:Env}{M:Mm}(Q:OS->Prop)(J:Nat->Env->Mm->Prop)(h0:J 0 env M)
    (hs:∀(k:Nat) d env M,ds[k]? =some d->J k env M->i<env.length/\Step (J (k + 1)) Q (body (env.set i (.val d)) M)) (hd:∀env M,J ds.length env M->Q (some (.nx env,M))):Q (loopS i body ds env M):=by
  have key:∀(m k:Nat) (env:Env) (M:Mm),m + k=ds.length->J k env M->Q (loopS i body (ds.drop k) env M):=by
    intro m
    induction m with
    |zero=>
      intro k env M hk hJ;have e:k=ds.length:=by omega
      subst e;rw[Za];exact hd env M hJ
    |succ m ih=>
      intro k env M hk hJ;have hlt:k<ds.length:=by omega
      obtain⟨hi,h1⟩:=hs k ds[k] env M (Wu hlt) hJ;rw[XM hlt];simp only[loopS,hi,X6]
      cases e:body (env.set i (.val ds[k])) M with
      |none=>rw[e]at h1;exact h1.elim
      |some o=>
        rw[e]at h1;obtain⟨o,M'⟩:=o
        cases o with
        |nx e'=>exact ih (k + 1) e' M' (by omega) h1
        |ct e'=>exact ih (k + 1) e' M' (by omega) h1
        |bk e'=>exact h1
        |rt d=>exact h1
        |ex c n=>exact h1
  have:=key ds.length 0 env M (by omega) h0
  rwa [Zu]at this
end E3
namespace E3
open PySem PySem.Spec PyProof.Rows L2
noncomputable def XN (H:Hp) (n:Int):Option Addr->Prop
 |none=>n=0
 |some d=>∃fs,H d=some (.xd fs)/\fs.lookup ("at":Str)=some (.int (n - 1))/\n≠0
noncomputable def XQ (K:Fgx) (mg:Mgx) (P:Pl) (H:Hp) (M':Mm) (Q:VK) (E:XK):Res->Prop
 |.v d=>∀P' v H',LtE P H P' H'->Hk K mg P' H' M'->Is K P' H' d v->Q v H'
 |.x c n=>∀P' H' C dx,LtE P H P' H'->Hk K mg P' H' M'->mg c=some (.ref C)->XN H' n dx->E (.ref C) dx H'
noncomputable def xV (K:Fgx) (mg:Mgx) (n:Nat) (g:G):Sp:=fun vs H Q E=>vs.length=n/\∃P M ds r M',Hk K mg P H M/\aq K P H ds vs/\g ds M=some (r,M')/\XQ K mg P H M' Q E r
mutual
theorem Is.away {K:Fgx}{P:Pl}{H H':Hp}(s:∀b o,H b=some o->(∀g,o≠ .ext g)->H' b=some o):∀{d:D} {v:V},Is K P H d v->Is K P H' d v
  |.non,_,h=>h
  |.bl _,_,h=>h
  |.int _,_,h=>h
  |.str _,_,h=>h
  |.tup ds,_,h=>by
    obtain⟨a,vs,e,q,r⟩:=h;refine⟨a,vs,e,?_,aq.away s r⟩;rcases q with(q |⟨o,q⟩) |q
    · exact .inl (.inl (s _ _ q fun _ z=>nomatch z))
    · exact .inl (.inr ⟨o,s _ _ q fun _ z=>nomatch z⟩)
    · exact .inr q
  |.lst ds,_,h=>by
    obtain⟨a,vs,e,q,r⟩:=h;refine⟨a,vs,e,?_,aq.away s r⟩;rcases q with⟨n,q |⟨o,q⟩⟩ |q
    · exact .inl ⟨n,.inl (s _ _ q fun _ z=>nomatch z)⟩
    · exact .inl ⟨n,.inr ⟨o,s _ _ q fun _ z=>nomatch z⟩⟩
    · exact .inr q
  |.ref k,_,h=>h
theorem aq.away {K:Fgx}{P:Pl}{H H':Hp}(s:∀b o,H b=some o->(∀g,o≠ .ext g)->H' b=some o):∀{ds:List D} {vs:List V},aq K P H ds vs->aq K P H' ds vs
  | [],_,h=>h
  |_::_,_,h=>by
    obtain⟨v,r,e,p,q⟩:=h;exact⟨v,r,e,Is.away s p,aq.away s q⟩
end
theorem Hk.away {K:Fgx}{mg:Mgx}{P:Pl}{H H':Hp}{M:Mm}(h:Hk K mg P H M)(s:∀b o,H b=some o->(∀g,o≠ .ext g)->H' b=some o)(t:∀b,H' b=none->H b=none):Hk K mg P H' M:=by
  refine⟨h.n,fun k c e=>?_,h.inj,h.bd,fun a z q=>h.here a z (t a q)⟩;have:=h.cell k c e
  cases c with
  |lst ds=>
    obtain⟨vs,e1,q⟩:=this;exact⟨vs,s _ _ e1 (fun _ z=>nomatch z),aq.away s q⟩
  |obj c fs=>
    obtain⟨C,dx,gs,e1,e2,e3,q⟩:=this;exact⟨C,dx,gs,e1,s _ _ e2 (fun _ z=>nomatch z),e3,aq.away s q⟩
  |dct kvs=>
    obtain⟨vs,e1,e2,q⟩:=this;exact⟨vs,s _ _ e1 (fun _ z=>nomatch z),e2,aq.away s q⟩
  |dcf kvs=>
    obtain⟨vs,ob,es,ep,e1,eD,e2,q⟩:=this;exact⟨vs,ob,es,ep,s _ _ e1 (fun _ z=>nomatch z),eD,e2,aq.away s q⟩
  |fn i caps=>exact gj.up this (fun b o u e=>s b _ e fun _ z=>nomatch z) fun _ _ q=>aq.away s q
  |tbl nm i=>
    obtain⟨c,ps,e1,e2,e3⟩:=this;exact⟨c,ps,e1,s _ _ e2 (fun _ z=>nomatch z),e3.imp id fun⟨c',z,q⟩=>⟨c',z,q.up fun b o u e=>s b _ e fun _ z=>nomatch z⟩⟩
structure XFit (X:Cx)(Wx:XW):Prop where
 xr:∀pins σ H s a C dx c n P0 H0 P M,Inv X pins σ H s->H a=some (xo a C dx true)->¬ P.bd a->H0 a=none->LtE P0 H0 P H->Hk X.K X.mg P H M->X.mg c=some (.ref C)->XN H n dx->Wx P0 H0 M c n->X.xe (.ref a) s
section
variable {P:Program}{w:World}{K:Fgx}{mg:Mgx}{base:Heap}{k:Nat}{x qual:Str}{st:Stmt}{f:Addr}{fd:FuncData}{N ps:List Str}{b:S}
theorem Kh (F:FnOk P w K mg base (pA P w) k f fd ps sp):FnOk P w K mg base dI k f fd ps (fun vs H Q _=>sp vs H Q E0):=
 ⟨fun vs H Q E h=>F.len vs H Q E0 h,fun A outer s H args us vs Q E hr he hb hv hs=>Zh (F.run A outer s H args us vs Q E0 hr he hb hv hs) fun r s' z=>by
  cases r with
  |error e=>obtain⟨_,_,_,_,_,_,_,_,_,_,_,_,_,_,z⟩:=z;exact z
  |ok fl=>cases fl<;>exact z⟩
theorem zK (F:FnOk P w K mg base (pA P w) k f fd ps (xV K mg n g)):FnOk P w K mg base dI k f fd ps (kh K mg n g):=by
 have F0:=Kh F;refine⟨fun vs H Q E h=>F0.len vs H Q E ?_,fun A outer s H args us vs Q E hr he hb hv hs=>F0.run A outer s H args us vs Q E hr he hb hv ?_⟩
 ·obtain⟨hl,P,M,ds,d,M',hk,is,e,q⟩:=h;exact⟨hl,P,M,ds,.v d,M',hk,is,e,q⟩
 ·obtain⟨hl,P,M,ds,d,M',hk,is,e,q⟩:=hs;exact⟨hl,P,M,ds,.v d,M',hk,is,e,q⟩
def dH (P:Program)(w:World)(K:Fgx)(mg:Mgx)(base:Heap)(k:Nat)(C:Addr)(m:Str)(n:Nat)(g:G):Prop:=
 ∃f fd ps,Meth K C m f/\FnOk P w K mg base (pA P w) k f fd ps (xV K mg n g)/\Binds K fd ps []
def dG (P:Program)(w:World)(K:Fgx)(mg:Mgx)(base:Heap)(k:Nat)(C:Addr)(n:Nat)(g:G):Prop:=
 ∃f fd ps,Mk K C f/\FnOk P w K mg base (pA P w) k f fd ps (xV K mg n g)/\Binds K fd ps []
def lX (P:Program)(w:World)(K:Fgx)(mg:Mgx)(base:Heap)(k:Nat)(f:Str)(n:Nat)(g:G):Prop:=
 ∃fa fd ps,mg f=some (.ref fa)/\PySem.W.keepIn K (.ref fa)=true/\FnOk P w K mg base (pA P w) k fa fd ps (xV K mg n g)/\Binds K fd ps []
theorem dH.quiet (a:dH P w K mg base k C m n g):mU P w K mg base k C m n g:=by
 obtain⟨f,fd,ps,h1,h2,h3⟩:=a;exact⟨f,fd,ps,h1,zK h2,h3⟩
theorem dG.quiet (a:dG P w K mg base k C n g):mR P w K mg base k C n g:=by
 obtain⟨f,fd,ps,h1,h2,h3⟩:=a;exact⟨f,fd,ps,h1,zK h2,h3⟩
theorem lX.quiet (a:lX P w K mg base k x n g):aZ P w K mg base k x n g:=by
 obtain⟨fa,fd,ps,h1,h2,h3,h4⟩:=a;exact⟨fa,fd,ps,[],[],_,h1,h2,zK h3,h4,.nil,fun vs H Q E h=>by rw[Xr];exact h⟩
theorem dH.mono (a:dH P w K mg base j C m n g)(h:j<=k):dH P w K mg base k C m n g:=by
 obtain⟨f,fd,ps,h1,h2,h3⟩:=a;exact⟨f,fd,ps,h1,h2.mono h,h3⟩
theorem dG.mono (a:dG P w K mg base j C n g)(h:j<=k):dG P w K mg base k C n g:=by
 obtain⟨f,fd,ps,h1,h2,h3⟩:=a;exact⟨f,fd,ps,h1,h2.mono h,h3⟩
theorem lX.mono (a:lX P w K mg base j x n g)(h:j<=k):lX P w K mg base k x n g:=by
 obtain⟨f,fd,ps,h1,h2,h3,h4⟩:=a;exact⟨f,fd,ps,h1,h2,h3.mono h,h4⟩
end
end E3
namespace L2
open PySem PySem.Spec PyProof.Rows
section
variable {X:Cx}{CX:dJ}{k:Nat}{f C:Addr}{fd:FuncData}{ps:List Str}{sp:Sp}{x m:Str}{p pos apos:Pos}{e o:Expr}{es:List Expr}{ta:TE}{t:TA}{Ex:St->XK}
def Jo (CX:dJ)(X:Cx)(Ex:St->XK):Prop:=∀pins σ H s e s',Inv X pins σ H s->CX X.stack H s (Ex σ) e s'->X.xe e s'
end
end L2
namespace E3
open PySem PySem.Spec PyProof.Rows L2
section
variable {X:Cx}{Wx:XW}{pos:Pos}
def SX (X:Cx)(e:Expr)(f:E):Prop:=∀Ex:L2.St->XK,Jo (pA X.prog X.w) X Ex->PE X e fun st H Q=>∃P0 H0 P Os env M r M',Ok X.K X.mg P0 H0 P Os H M st env/\f env M=some (r,M')/\XQ X.K X.mg P H M' Q (Ex st) r
noncomputable def VJ (K:Fgx) (mg:Mgx) (E:XK) (P0:Pl) (H0:Hp) (P:Pl) (H:Hp) (M':Mm) (D:Ends):Out->Prop
 |.ex c n=>∀P' H' C dx,LtE P H P' H'->Hk K mg P' H' M'->mg c=some (.ref C)->XN H' n dx->E (.ref C) dx H'
 |.nx env=>Post K mg W0 P0 H0 P H M' D (.nx env)
 |.bk env=>Post K mg W0 P0 H0 P H M' D (.bk env)
 |.ct env=>Post K mg W0 P0 H0 P H M' D (.ct env)
 |.rt d=>Post K mg W0 P0 H0 P H M' D (.rt d)
end
end E3
namespace L2
open PySem PySem.Spec PyProof.Rows
end L2
namespace E3
open PySem PySem.Spec PyProof.Rows L2
theorem Vx {K:Fgx}{C:Addr}(h1:PySem.W.findIn K (.ref C) "__getattribute__"=some (some (.builtin "BaseException.__getattribute__")))(h2:PySem.W.findIn K (.ref C) "__getattr__"=some none)(h3:PySem.W.mroIn K C (.type "BaseException")=some true):yc K C=true:=by
 simp only[yc,h1,h2,h3,Xl,xay]
theorem Vy {K:Fgx}{C:Addr}(h1:yc K C=true)(h2:PySem.W.hasDictIn K C=true)(h3:PySem.W.findIn K (.ref C) "__class__"=some (some (.builtin "object.__class__")))(h4:PySem.W.specialIn K (.builtin "object.__class__") "__get__"=some (some (.builtin "getset_descriptor.__get__")))
  (h5:PySem.W.takesIn K (.builtin "object.__class__")=some true) (h6:PySem.W.mroIn K C (.type "object")=some true):yd K C=true:=by
 simp only[yd,h1,h2,h3,h4,h5,h6,Xl,xay]
end E3
namespace E3
open PySem L2
section
variable {env:Env}{M M1 M2:Mm}{f g o v:E}{d e x:D}{i:Int}{k:Nat}{ds:List D}{s t:S}{c me fl:Str}{fs:List (Str×D)}{gg:G}{fa:EA}
theorem Rv {a:Int}:bB (some (.ex c a,M))=some (.x c a,M):=rfl
end
theorem mR.mono (a:mR P w K mg base j C n g)(h:j<=k):mR P w K mg base k C n g:=by
 obtain⟨f,fd,ps,h1,h2,h3⟩:=a;exact⟨f,fd,ps,h1,h2.mono h,h3⟩
end E3
namespace E3
open PySem PySem.Spec PyProof.Rows L2
theorem d8 (hN:X.N[i]? =some x)(hv:m5 X.env.scope x)(hd:(x==("__debug__":Str))=false:=by x_go)(hcd:(x==("__classdict__":Str))=false:=by x_go):SE X Wx m (.Name x pos) (aj i):=(Ib hN hv hd hcd).bor
noncomputable def bM (cs:List (Str×Nat)) (env:Env):Env:=cs.map fun p=>(env[p.2]?).getD .un
noncomputable def fK (cs:List (Str×Nat)) (Os:List (Option Addr)):List (Option Addr):=cs.map fun p=>(Os[p.2]?).join
section
variable {K:Fgx}{mg:Mgx}{P0 P:Pl}{H0 H:Hp}{M:Mm}{Os:List (Option Addr)}{st:L2.St}{env:Env}{d:D}{v:V}
theorem yX {cs:List (Str×Nat)}{i:Nat}{a:Addr}(h:(fK cs Os)[i]? =some (some a)):∃p,cs[i]? =some p/\Os[p.2]? =some (some a):=by
 unfold fK at h;rw[Wy,Ww]at h;obtain⟨p,e,h⟩:=h;exact⟨p,e,gH h⟩
theorem Ok.cap {cs:List (Str×Nat)}(k:Ok K mg P0 H0 P Os H M st env)(nd:(cs.map (·.2)).Nodup)(h:Is K P H d v):Ok K mg P0 H0 P (none::fK cs Os) H M (some v::dF cs st) (.val d::bM cs env) where
  hk:=k.hk
  base:=k.base
  b0:=k.b0
  slot:=fun i s e=>by
    cases i with
    |zero=>cases e;exact⟨v,rfl,h⟩
    |succ i=>
      rw[YX]at e ⊢;rw[YX];unfold bM at e;rw[Wy,Ww]at e;obtain⟨p,ep,e⟩:=e;have eo:((fK cs Os)[i]?).join=(Os[p.2]?).join:=by unfold fK;rw[Wy,ep];rfl
      have es:((dF cs st)[i]?).join=(st[p.2]?).join:=by unfold dF;rw[Wy,ep];rfl
      rw[eo,es]
      cases e':env[p.2]? with
      |none=>rw[e']at e;cases e;exact True.intro
      |some s'=>rw[e']at e;cases e;exact k.slot _ _ e'
  own:=fun a h=>by
    rw[W6]at h;rcases h with h |h
    · cases h
    · obtain⟨i,hi⟩:=xap.mp h;obtain⟨p,_,e⟩:=yX hi;exact k.own a (WX e)
  inj:=fun i j a e1 e2=>by
    cases i with
    |zero=>cases e1
    |succ i=>
      cases j with
      |zero=>cases e2
      |succ j=>
        rw[YX]at e1 e2;obtain⟨p,h1,h2⟩:=yX e1;obtain⟨q,h3,h4⟩:=yX e2;have e:=k.inj _ _ a h2 h4;congr 1;have hi:(cs.map (·.2))[i]? =some p.2:=by rw[Wy,h1];rfl
        have hj:(cs.map (·.2))[j]? =some p.2:=by rw[Wy,h3,e];rfl
        have il:=(WD.mp hi).1;exact(List.getElem?_inj il nd).mp (hi.trans hj.symm)
  olen:=by simp[fK,bM]
  slen:=by simp[dF,bM]
end
section
variable {X:Cx}{Wx:XW}{m:Mode}{pos:Pos}
noncomputable def dU (q e:E) (env:Env):List D->List D->Mm->Option (List D×Mm)
  | [],acc,M=>some (acc,M)
  |d::ds,acc,M=>match q (.val d::env) M with
    | some (.v (.bl true), M1) => (match e (.val d::env) M1 with
      |some (.v y,M2)=>if acc.length + 1<sizeLine then dU q e env ds (acc ++ [y]) M2 else none
      |_=>none)
    |some (.v (.bl false),M1)=>dU q e env ds acc M1
    |_=>none
noncomputable def lN (cs:List (Str×Nat)) (fs:EA) (q e:E):E:=fun env M=>match fs env M with
  | some (.v ds, M1) => (match dU q e (bM cs env) ds [] M1 with
    |some (ys,M2)=>some (.v (.lst ys),M2)
    |none=>none)
  |some (.x c n,M1)=>some (.x c n,M1)
  |none=>none
theorem zj:∀env M r M',lN cs fs q e env M=some (.v r,M')->∃ds,r=.lst ds:=fun env M r M' h=>by
 unfold lN at h;split at h
 ·split at h
  ·cases h;exact⟨_,rfl⟩
  ·cases h
 ·cases h
 ·cases h
theorem Fz {K:Fgx}{mg:Mgx}{P1 P:Pl}{H1 H:Hp}{M:Mm}{D:Addr}{vs vs':List V}(l:LtE P1 H1 P H)(h:Hk K mg P H M)(hD:H1 D=none)(bD:P.bd D)(nc:∀k,k<P.n->P.io k≠D)(e:H D=some (.lst vs)):
  Lt P H P (upd H D (.lst vs'))/\LtE P1 H1 P (upd H D (.lst vs'))/\Hk K mg P (upd H D (.lst vs')) M:=by
 have lc:Lt P H P (upd H D (.lst vs')):=sZ bD e Ax;refine⟨lc,⟨l.n,l.io,l.bd,l.bm,fun c o ec n=>?_,fun c z=>l.sure c (lc.sure c z),l.nw⟩,⟨h.n,fun j c ej=>(h.cell j c ej).lt lc fun o eo=>?_,h.inj,h.bd,fun c z q=>h.here c z (lc.sure c q)⟩⟩
 ·rw[aM (fun z=>by subst z;rw[hD]at ec;cases ec)];exact l.keep c o ec n
 ·rw[aM (nc j (by rw[h.n];exact(WD.mp ej).1))];exact eo
noncomputable def NR (K:Fgx) (mg:Mgx) (Wx:XW) (P0:Pl) (H0:Hp) (P:Pl) (H:Hp) (M':Mm) (R:Addr->Hp->Prop):Res->Prop
 |.v d=>∃ds,d=.lst ds/\∀P' a vs H',LtE P H P' H'->Hk K mg P' H' M'->H a=none->P'.bd a->(∀k,k<P'.n->P'.io k≠a)->H' a=some (.lst vs)->aq K P' H' ds vs->R a H'
 |.x c n=>Wx P0 H0 M' c n
theorem JV {K:Fgx}{mg:Mgx}{cs:List (Str×Nat)}{fs:EA}{q e:E}{P0 P:Pl}{H0 H:Hp}{Os:List (Option Addr)}{M M':Mm}{st:L2.St}{env:Env}{r:Res}{R:Addr->Hp->Prop}(nd:(cs.map (·.2)).Nodup)
    (k:Ok K mg P0 H0 P Os H M st env) (h:lN cs fs q e env M=some (r,M')) (w:NR K mg Wx P0 H0 P H M' R r):vm (tI K mg Wx fs) (nZ K mg W0 q) (tE K mg W0 .val e) cs st H R:=by
  unfold lN at h;split at h
  · rename_i ds M1 ef;split at h
    rotate_left
    · cases h
    rename_i ys M2 ec;cases h;obtain ⟨ds', e', w⟩ := w;cases e';refine ⟨P0, H0, P, Os, env, M, _, _, k, ef, fun P1 H1 J l1 h1 wk D hD => ?_⟩;obtain ⟨l2, h2, nc⟩ := pD (vs := []) h1 hD;refine ⟨fun i m vs H2=>m=ds.length - i/\i<=ds.length/\∃P2 M3 acc,LtE P1 H1 P2 H2/\Hk K mg P2 H2 M3/\P2.bd D/\(∀k,k<P2.n->P2.io k≠D)/\H2 D=some (.lst vs)/\aq K P2 H2 acc vs/\acc.length<sizeLine/\dU q e (bM cs env) (ds.drop i) acc M3=some (ys,M'),
      ⟨ds.length,by simp,Xp _,P1.bar D,M1,[],l2,h2,.inr rfl,nc,bJ,rfl,by x_go,by rw[Zu];exact ec⟩,?_⟩
    rintro i m vs H2 ⟨rfl,hi,P2,M3,acc,l3,h3,bD,nD,eD,is,hz,ec⟩;refine⟨eD,?_⟩;obtain⟨w1,w2,w3⟩:=wk P2 H2 (l3.lt h1)
    by_cases hlt:i<ds.length
    · refine .inr ⟨w1 i hlt,by rw[is.len];exact hz,fun vs' H'=>∃P2 M3 acc,LtE P1 H1 P2 H'/\Hk K mg P2 H' M3/\P2.bd D/\(∀k,k<P2.n->P2.io k≠D)/\H' D=some (.lst vs')/\aq K P2 H' acc vs'/\acc.length<sizeLine/\dU q e (bM cs env) (ds.drop (i + 1)) acc M3=some (ys,M'),
        fun vs' H' z=>⟨ds.length - (i + 1),by omega,rfl,hlt,z⟩,fun x H' y=>?_⟩
      obtain⟨e3,d,ed,iv⟩:=w3 i x H' y hlt;subst e3;have ed':ds.drop i=d::ds.drop (i + 1):=by
        rw[XM hlt];rw[Wu hlt]at ed;rw[W3 ed]
      rw[ed']at ec;have kk:=((k.next l1 h1).next l3 h3).cap (cs:=cs) nd iv
      simp only[dU]at ec;split at ec
      · rename_i M4 eq;refine lV kk eq ⟨true,rfl,fun P4 H4 l4 h4=>?_⟩;dsimp only;rw[Wv rfl];split at ec
        · rename_i y' M5 ee;split at ec
          · rename_i hz';refine bF (kk.next l4 h4) ee fun P5 v5 H5 l5 h5 i5=>?_
            have l45:=l4.trans l5;have eD5:H5 D=some (.lst vs):=l45.keep D _ eD (.inr nD);have nD5:∀k,k<P5.n->P5.io k≠D:=l45.nc eD nD;obtain⟨g1,g2,g3⟩:=Fz (vs':=vs ++ [v5]) (l3.trans l45) h5 hD (l45.bm D bD) nD5 eD5;refine⟨eD5,P5,M5,acc ++ [y'],g2,g3,l45.bm D bD,nD5,bJ,aq.append (aq.lt ((l45.lt h3).trans g1) is) (aq.one (Is.lt g1 i5)),by rw[Wz];exact hz',ec⟩
          · cases ec
        · cases ec
      · rename_i M4 eq;refine lV kk eq ⟨false,rfl,fun P4 H4 l4 h4=>?_⟩;dsimp only;rw[WY (by decide)];exact⟨P4,M4,acc,l3.trans l4,h4,l4.bm D bD,l4.nc eD nD,l4.keep D _ eD (.inr nD),aq.lt (l4.lt h3) is,hz,ec⟩
      · cases ec
    · have ei:i=ds.length:=by omega
      subst ei;rw[Za]at ec;cases ec;exact .inl ⟨w2 _ (Wq _) (Wq _),w P2 D vs H2 (l1.trans l3) h3 (l1.sure D hD) bD nD eD is⟩
  · rename_i c n M1 ef;cases h;exact⟨P0,H0,P,Os,env,M,_,_,k,ef,w⟩
  · cases h
def SQ (X:Cx)(ifs:List Expr)(q:E):Prop:=fG X ifs (nZ X.K X.mg W0 q)
theorem TY:SQ X [] (ak (.bl true)):=fun pins s σ H Q I h=>by
 obtain⟨P0,H0,P,Os,env,M,r,M',k,e,q⟩:=h;cases e;obtain⟨b,e2,q⟩:=q;cases e2;exact G4 pins s σ H Q I (q P H (LtE.refl P H) k.hk)
theorem Iu (h:ST X W0 c q):SQ X [c] q:=O3 h
section
variable {elt iter:Expr}{ifs:List Expr}{scope:Scope}{fs:EA}{q e:E}
theorem Ck (x:Str)(cs:List (Str×Nat))(hc:X.calm=true)(nd:(cs.map (·.2)).Nodup)(hi:SI X Wx (.Name x px) iter fs)
  (hq:∀(cl:List (Str×Addr)) (C:Addr) (s₀:Shared) (H₀:Hp) (ex:List Addr) (pn:Pnx),SQ (cU X (x::cs.map (·.1)) scope cl C s₀ H₀ ex pn) ifs q)
  (he:∀(cl:List (Str×Addr)) (C:Addr) (s₀:Shared) (H₀:Hp) (ex:List Addr) (pn:Pnx),SE (cU X (x::cs.map (·.1)) scope cl C s₀ H₀ ex pn) W0 .val elt e)
  (ok:pH X.N X.env.scope x cs scope=true:=by kernel_rfl) (hs:∀x,foldedSetIterable iter X.env x=pure x:=by intro _;rfl):
  SN X Wx (.ListComp elt [⟨.Name x px,iter,ifs,0⟩] scope pos) (lN cs fs q e):=by
 refine cT (Ol (tq:=nZ X.K X.mg W0 q) (te:=tE X.K X.mg W0 .val e) x cs hc hi hq he ok hs) ?_;rintro st H Q ⟨P0,H0,P,Os,env,M,r,M',k,e,w⟩;refine JV nd k e ?_
 cases r with
 |v d=>exact w
 |x c n=>exact w
theorem Ko {K:Fgx}{mg:Mgx}{P P':Pl}{H H':Hp}{M M':Mm}{a:Addr}{vs:List V}{ds:List D}(k:Hk K mg P H M)(l:LtE P H P' H')(h:Hk K mg P' H' M')(ha:H a=none)(nc:∀j,j<P'.n->P'.io j≠a)(ea:H' a=some (.lst vs))(is:aq K P' H' ds vs):
  LtE P H (P'.less (· ≠a)) H'/\Hk K mg (P'.less (· ≠a)) H' M'/\Is K (P'.less (· ≠a)) H' (.lst ds) (.ref a):=by
 have l2 : Lt P' H' (P'.less (· ≠ a)) H' := ⟨Wq _, fun _ _ => rfl, fun c z => .inl z.1, fun _ _ e _ => e, fun _ z => z⟩;exact ⟨⟨l.n,l.io,fun b z=>l.bd b z.1,fun b z=>⟨l.bm b z,fun q=>k.here b z (q ▸ ha)⟩,l.keep,l.sure,l.nw⟩,
  ⟨h.n,fun j c e=>(h.cell j c e).lt l2 fun _ z=>z,h.inj,fun j hj=>⟨h.bd j hj,nc j hj⟩,fun b z=>h.here b z.1⟩,
  a,vs,rfl,.inl ⟨fun z=>z.2 rfl,.inl ea⟩,aq.less is⟩
end
end
section
variable {X:Cx}{Wx:XW}{m:Mode}{pos:Pos}
inductive ResP where
 |v (ps:List (D×D)) |x (c:Str) (n:Int)
noncomputable def cX (M:Mm) (d:D):String:=match d with
  | .ref k => (match M[k]? with
    |some (.lst _)=>"list"
    |some (.dct _)=>"dict"
    |_=>"")
  |d=>vB d
noncomputable def dX (tb:String->String->Option Bool) (T:String) (f:E):E:=fun env M=>bnd (f env M) fun d M1=>if cX M1 d="" then none else(tb (cX M1 d) T).map fun b=>(.v (.bl b),M1)
theorem JB:cY X (.builtin "isinstance") (fun xs H Q=>∃(x:V) (T:String) (d:D) (P:Pl) (M:Mm) (b:Bool),xs=[x,.ty T]/\Hk X.K X.mg P H M/\bW X.K P H d x/\cX M d≠""/\PySem.W.kitOne X.K (.type (cX M d)) (.type T)=some b/\Q (.bl b) H):=by
  intro pins s σ H xs us Q I r h;obtain⟨x,T,d,P,M,b,rfl,hk,i,ne,e,q⟩:=h;have old:cX M d=vB (vw M d)->wpAny (model X.prog X.w) X.A (call (.builtin "isinstance") us) (EP X pins σ Q) X.xe s:=fun et=>by
    rw[et]at ne e;exact Jz pins s σ H _ us Q I r ⟨x,T,vw M d,P,b,rfl,bW.vw hk i,ne,e,q⟩
  cases d with
  |ref k=>
    cases em:M[k]? with
    |none=>simp[cX,em]at ne
    |some c=>
      cases c with
      |lst ds=>exact old (by simp[cX,vw,em,vB])
      |obj c fs=>simp[cX,em]at ne
      |dcf kvs=>simp[cX,em]at ne
      |fn i caps=>simp[cX,em]at ne
      |tbl nm i=>simp[cX,em]at ne
      |dct kvs=>
        obtain⟨u,w',rfl,rx,rT⟩:=vals2 r;cases rT;obtain⟨kl,rfl⟩:k<P.n/\x=.ref (P.io k):=i;cases rx;obtain⟨vs,ev,_⟩:=hk.cell k _ em;obtain⟨_,_,vs',_,o,es,ep,h1,h2,_⟩:=I.hok _ _ ev;simp only[cX,em]at e;exact W9 Z0 I.kIn ⟨o,h1,h2.1⟩ e (fun z=>nomatch z) fun tk=>⟨.bl b,H,I.tok _,rfl,q⟩
  |non=>exact old rfl
  |bl _=>exact old rfl
  |int _=>exact old rfl
  |str _=>exact old rfl
  |tup _=>exact old rfl
  |lst _=>exact old rfl
theorem t_ (ht:∀t b,tb t T=some b->PySem.W.kitOne X.K (.type t) (.type T)=some b)(he:SE X Wx .bor e f)(hg:Gl X "isinstance")(hm:X.mg "isinstance"=none)(hg':Gl X (Str.ofString T))(hm':X.mg (Str.ofString T)=none)(hT:bootBuiltins (Str.ofString T)=some (.type T))
  (n1:Str.ofString T≠"__name__":=by x_go) (n2:(Str.ofString T==("__debug__":Str))=false:=by x_go) (hs:starEach [e,.Name (Str.ofString T) p'] X.env=(false,eval e X.env)::starEach [.Name (Str.ofString T) p'] X.env:=by rfl):
  SE X Wx m (.Call (.Name "isinstance" p) [e,.Name (Str.ofString T) p'] [] pos) (dX tb T f):=by
 have pT:PE X (.Name (Str.ofString T) p') (tC (.ty T)):=Og hg' hm' hT rfl n1 n2;refine cT (Bb JB hg hm boot_isinstance (mH he (mH pT nq) hs) (by x_go) (by x_go) hs rfl) ?_;rintro st H Q ⟨P0,H0,P,Os,env,M,r,M',k,e,q⟩;unfold dX at e;rcases dh e with⟨d,M1,e1,e⟩ |⟨c,n,e1,rfl⟩
 ·split at e
  ·cases e
  ·rename_i hne;rw[Ww]at e;obtain⟨b,eb,e⟩:=e;cases e;exact bF k e1 fun P1 v1 H1 l1 h1 i1=>⟨v1,T,d,P1,_,b,rfl,h1,i1,hne,ht _ _ eb,q P1 _ H1 l1 h1 (c7.of h1 (show Is _ _ _ (.bl b) _ from rfl))⟩
 ·exact bF k e1 q
end
section
variable {X:Cx}{Wx:XW}{m:Mode}{pos:Pos}
noncomputable def lQ:List Nat->List D->Env->Option Env
 | [],[],env=>some env
 |i::is,d::ds,env=>if i<env.length then lQ is ds (env.set i (.val d)) else none
 |_,_,_=>none
def SG (X:Cx)(ts:List Expr)(is:List Nat):Prop:=∃t,rK X ts t/\∀P0 H0 P Os st H M env env' ds vs Q,Ok X.K X.mg P0 H0 P Os H M st env->aq X.K P H ds vs->lQ is ds env=some env'->(∀Os' st',Ok X.K X.mg P0 H0 P Os' H M st' env'->Q st' H)->t vs st H Q
theorem Te : SG X [] [] := ⟨_,OD,fun P0 H0 P Os st H M env env' ds vs Q k is e q=>by
 cases ds with
 |nil=>cases e;exact⟨is,q _ _ k⟩
 |cons d ds=>cases e⟩
theorem Ig (hN:X.N.Nodup)(hi:X.N[i]? =some x)(hx:Loc X.env.scope x)(hr:SG X ts is)(hf:X.fn x=true\/X.env.scope.names.lookup x=some .local:=by first |exact .inl rfl |exact .inr rfl)
    (hs:(assignEach (.Name x p::ts) X.env).map (·.2)=assign (.Name x p) X.env::(assignEach ts X.env).map (·.2):=by rfl):SG X (.Name x p::ts) (i::is):=by
  obtain⟨t,h1,h2⟩:=hr;refine⟨_,Oz (GZ hN hi hx hf) h1 hs,fun P0 H0 P Os st H M env env' ds vs Q k is e q=>?_⟩
  cases ds with
  |nil=>cases e
  |cons d ds=>
    obtain⟨v,r,rfl,iv,is⟩:=is;simp only[lQ]at e;split at e
    · rename_i hl;exact⟨v,r,rfl,h2 _ _ _ _ _ _ _ _ _ _ _ _ (k.asg hl iv) is e q⟩
    · cases e
end
end E3
namespace E3
open PySem L2
section
variable {env:Env}{M M1 M2:Mm}{f g o v:E}{d e x:D}{i:Int}{k:Nat}{ds es:List D}{s t:S}{z:Str}{fa:EA}{b:Bool}
noncomputable def zf:Option (List D×Mm)->O
 |some (ys,M)=>some (.v (.lst ys),M)
 |none=>none
noncomputable def Ep (q e:E) (env:Env):Option (ResA×Mm)->O
 |some (.v ds,M1)=>zf (dU q e env ds [] M1)
 |some (.x c n,M1)=>some (.x c n,M1)
 |none=>none
theorem Qe {cs:List (Str×Nat)}{q e:E}:lN cs fa q e env M=Ep q e (bM cs env) (fa env M):=rfl
theorem Rm {q e:E}:Ep q e env (some (.v ds,M))=zf (dU q e env ds [] M):=rfl
theorem Rn:zf (some (ds,M))=some (.v (.lst ds),M):=rfl
theorem vU {q e : E} (F : D -> Option D) : ∀ (ds acc : List D), (∀d∈ds,match F d with
    |some y=>q (.val d::env) M=some (.v (.bl true),M)/\e (.val d::env) M=some (.v y,M)
    |none=>q (.val d::env) M=some (.v (.bl false),M))->acc.length + ds.length<sizeLine->dU q e env ds acc M=some (acc ++ ds.filterMap F,M)
  | [],acc,_,_=>by simp[dU]
  |d::ds,acc,h,hl=>by
    have hd:=h d (by simp);have hr:∀acc',acc'.length + ds.length<sizeLine->dU q e env ds acc' M=some (acc' ++ ds.filterMap F,M):=fun acc' hl'=>vU F ds acc' (fun d' hd'=>h d' (by simp[hd'])) hl';rw[Y_]at hl
    cases hF:F d with
    |none=>
      rw[hF]at hd;simp only[dU,hd,X_,hF];exact hr acc (by omega)
    |some y=>
      rw[hF]at hd;simp only[dU,hd.1,hd.2,X_,hF];rw[Wv (by omega),hr (acc ++ [y]) (by rw[Wz,XJ];omega)]
      simp
theorem comp_map {e:E}(F:D->D)(ds:List D)(h:∀d∈ds,e (.val d::env) M=some (.v (F d),M))(hl:ds.length<sizeLine):dU (ak (.bl true)) e env ds [] M=some (ds.map F,M):=by
 rw[vU (fun d=>some (F d)) ds [] (fun d hd=>⟨rfl,h d hd⟩) (by simpa using hl),List.filterMap_eq_map'];rfl
theorem Qc:bM [] env=[]:=rfl
theorem Qa {x:Str}{n:Nat}{cs:List (Str×Nat)}:bM ((x,n)::cs) env=(env[n]?).getD .un::bM cs env:=rfl
noncomputable def dz (tb:String->String->Option Bool) (T:String) (M:Mm) (ty:String):O:=if ty="" then none else(tb ty T).map fun b=>(.v (.bl b),M)
noncomputable def sU (tb:String->String->Option Bool) (T:String) (r:O):O:=bnd r fun d M=>dz tb T M (cX M d)
theorem Qm {tb:String->String->Option Bool}{T:String}:dX tb T f env M=sU tb T (f env M):=rfl
theorem RB {tb:String->String->Option Bool}{T:String}:sU tb T (some (.v d,M))=dz tb T M (cX M d):=rfl
theorem ty_int:cX M (.int i)="int":=rfl
theorem ty_str:cX M (.str z)="str":=rfl
theorem U3:cX M (.bl b)="bool":=rfl
theorem U5:cX M .non="NoneType":=rfl
theorem U6:cX M (.tup ds)="tuple":=rfl
theorem U4:cX M (.lst ds)="list":=rfl
theorem Va {tb:String->String->Option Bool}{T:String}:dz tb T M "int"=(tb "int" T).map fun b=>(.v (.bl b),M):=rfl
theorem Vk {tb:String->String->Option Bool}{T:String}:dz tb T M "str"=(tb "str" T).map fun b=>(.v (.bl b),M):=rfl
theorem Dg {tb:String->String->Option Bool}{T:String}:dz tb T M "bool"=(tb "bool" T).map fun b=>(.v (.bl b),M):=rfl
theorem Ve {tb:String->String->Option Bool}{T:String}:dz tb T M "NoneType"=(tb "NoneType" T).map fun b=>(.v (.bl b),M):=rfl
theorem Vl {tb:String->String->Option Bool}{T:String}:dz tb T M "tuple"=(tb "tuple" T).map fun b=>(.v (.bl b),M):=rfl
theorem Vd {tb:String->String->Option Bool}{T:String}:dz tb T M "list"=(tb "list" T).map fun b=>(.v (.bl b),M):=rfl
theorem U_ {tb:String->String->Option Bool}{T:String}:dz tb T M "dict"=(tb "dict" T).map fun b=>(.v (.bl b),M):=rfl
end
end E3
namespace L2
open PySem PySem.Spec PyProof.Rows
end L2
namespace E3
open PySem PySem.Spec PyProof.Rows L2
section
variable {es:List Expr}{env:PySem.Env}{pos:Pos}
theorem cB:starEach (.Constant c k pos::es) env=(false,eval (.Constant c k pos) env)::starEach es env:=by rfl
theorem aV:starEach (.Name x pos::es) env=(false,eval (.Name x pos) env)::starEach es env:=by rfl
theorem lR:starEach (.BinOp a o b pos::es) env=(false,eval (.BinOp a o b pos) env)::starEach es env:=by rfl
theorem kj:starEach (.Call f as ks pos::es) env=(false,eval (.Call f as ks pos) env)::starEach es env:=by rfl
theorem rB:starEach (.Subscript a b pos::es) env=(false,eval (.Subscript a b pos) env)::starEach es env:=by rfl
theorem gQ:starEach (.Tuple as k pos::es) env=(false,eval (.Tuple as k pos) env)::starEach es env:=by rfl
theorem T_:starEach (.ListComp a gs sc pos::es) env=(false,eval (.ListComp a gs sc pos) env)::starEach es env:=by rfl
end
end E3
namespace L2
open PySem PySem.Spec PyProof.Rows
end L2
namespace E3
open PySem PySem.Spec PyProof.Rows L2
structure XPass (X:Cx)(Wx:XW):Prop where
 xc:∀pins σ H s a C dx T c n P0 H0 P M,Caught X pins σ H s a C dx T->LtE P0 H0 P H->Hk X.K X.mg P H M->X.mg c=some (.ref C)->XN H n dx->Wx P0 H0 M c n->X.xe (.ref a) s
section
variable {K:Fgx}{P:Pl}{H:Hp}
noncomputable def dN:List D->Option D
 | [.int i]=>if i.natAbs.log2<1920 then some (.str (toString i)) else none
 |_=>none
theorem wR:mW K (fun xs H Q=>∃i,xs=[.int i]/\i.natAbs.log2<1920/\Q (.str (toString i)) H) dN:=fun P H ds z vs Q h i _ q=>by
 unfold dN at h;split at h
 ·split at h
  ·rename_i hl;obtain⟨v,ws,rfl,p,rfl⟩:=i;cases h;cases p;exact⟨_,rfl,hl,q _ H (Same.refl H) rfl⟩
  ·cases h
 ·cases h
noncomputable def b_:List D->Option D
 | [.str z]=>if z.length<=640 then(intText? z).map .int else none
 |_=>none
theorem G9:mW K (fun xs H Q=>∃z n,xs=[.str z]/\intText? z=some n/\z.length<=640/\Q (.int n) H) b_:=fun P H ds z vs Q h i _ q=>by
 unfold b_ at h;split at h
 ·split at h
  ·rename_i hl;rw[Ww]at h;obtain⟨n,en,rfl⟩:=h;obtain⟨v,ws,rfl,p,rfl⟩:=i;cases p;exact⟨_,n,rfl,en,hl,q _ H (Same.refl H) rfl⟩
  ·cases h
 ·cases h
noncomputable def kY:List D->Option D
 | [.lst ds]=>some (.tup ds)
 | [.tup ds]=>some (.tup ds)
 |_=>none
theorem Pn:mW K (fun xs H Q=>∃p ys,xs=[.ref p]/\((aY K H p ys/\∀l,H l=none->Q (.ref l) (upd H l (.tup ys)))\/(dD K H p ys/\Q (.ref p) H))) kY:=fun P H ds z vs Q h i _ q=>by
 unfold kY at h;split at h
 ·obtain⟨v,ws,rfl,p,rfl⟩:=i;cases h;obtain⟨a,us,rfl,r,s⟩:=p;exact⟨a,us,rfl,.inl ⟨r,LK s q⟩⟩
 ·obtain⟨v,ws,rfl,p,rfl⟩:=i;cases h;obtain⟨a,us,rfl,r,s⟩:=p;exact⟨a,us,rfl,.inr ⟨r,q _ H (Same.refl H) ⟨a,us,rfl,r,s⟩⟩⟩
 ·cases h
end
section
variable {X:Cx}{Wx:XW}{m:Mode}{pos:Pos}
def Du (K:Fgx)(r:V->List V->Hp->VK->Prop)(o:Str->List D->Option D):Prop:=∀(P:Pl) (H:Hp) (y:Str) (ds:List D) (z:D) (vs:List V) (Q:VK),o y ds=some z->kE K P H ds vs->(∀p,H p=none->¬ P.bd p)->(∀u H',Same H H'->Is K P H' z u->Q u H')->r (.str y) vs H Q
noncomputable def pZ (o:Str->List D->Option D) (f:E) (fs:EA):E:=fun env M=>bnd (f env M) fun d M1=>match d with
 |.str y=>cO (fs env M1) fun ds M2=>(o y (ds.map (vw M2))).map fun z=>(.v z,M2)
 |_=>none
theorem Ce {a e:Expr}{es:List Expr}{name:Str}{id:String}{r:V->List V->Hp->VK->Prop}{o:Str->List D->Option D}{f:E}{fs:EA}{p:Pos}(slot:PySem.Slot "str" name id)(hty:typeOf (.builtin id)=pure (.type "method_descriptor"))(hm:vG X id r)(po:Du X.K r o)(ha:SE X Wx .val a f)(hs:SA X Wx .bor (e::es) fs)
  (hbase:attributeBase a name X.env (eval a X.env)=eval a X.env:=by rfl)
  (hfew:((backTo pos (starEach (e::es) X.env)).all (fun x=> !x.1) && (backToKw pos (keywordEach [] X.env)).all (fun x=>x.1.isSome) && decide ((e::es).length + ([]:List Keyword).length + (if ([]:List Keyword).isEmpty then 0 else 1)<30))=true:=by rfl)
  (hline:(p.endLine==pos.line)=true:=by rfl) (hst:starEach (e::es) X.env=(false,eval e X.env)::starEach es X.env:=by rfl) (hplain:(backTo pos (starEach es X.env)).any (·.1)=false:=by rfl):
  SE X Wx m (.Call (.Attribute a name p) (e::es) [] pos) (pZ o f fs):=by
 refine cT (wO PySem.F.plainAttrs_str slot hty hm ha hs hbase hfew hline hst hplain) ?_;rintro st H Q ⟨P0,H0,P,Os,env,M,r,M',k,e,q⟩;unfold pZ at e;rcases dh e with⟨d,M1,e1,e⟩ |⟨c,n,e1,rfl⟩
 ·cases d<;>simp only[reduceCtorEq]at e
  rename_i y;refine bF k e1 fun P1 v1 H1 l1 h1 i1=>?_;have k1:=k.next l1 h1
  cases i1;refine⟨rfl,?_⟩;rcases m7 e with⟨ds,M2,e2,e⟩ |⟨c,n,e2,rfl⟩
  ·rw[Ww]at e;obtain⟨z,ez,e⟩:=e;cases e;exact⟨P0,H0,P1,Os,env,M1,_,_,k1,e2,fun P2 vs H2 l2 h2 i2=>po P2 H2 y _ z vs Q ez (bN.w h2 i2) h2.new fun u H' s i=>q P2 u H' (l1.trans (l2.trans (LtE.same s))) (h2.same s) (c7.of (h2.same s) i)⟩
  ·exact⟨P0,H0,P1,Os,env,M1,_,_,k1,e2,q⟩
 ·exact bF k e1 q
noncomputable def lU (z:Str):List D->Option D
  | [.str y]=>match Builtin.Str.occurrences z y 0 z.length 1 with
    |i::_=>some (.int (i:Nat))
    | []=>none
  |_=>none
theorem Bh {K:Fgx}:Du K Hg lU:=fun P H y ds z vs Q h i _ q=>by
 unfold lU at h;split at h
 ·split at h
  ·rename_i eo;cases h;obtain⟨v,ws,rfl,p,rfl⟩:=i;cases p;exact⟨_,_,_,_,rfl,rfl,eo,q _ H (Same.refl H) rfl⟩
  ·cases h
 ·cases h
end
def nQ:S:=fun _ _=>none
theorem T8 (h:PS X s fun _ _ _=>False):SS X Wx s nQ:=gq h fun D st H ⟨_,_,_,_,_,_,_,_,_,e,_⟩=>by cases e
theorem O7:PS X s fun _ _ _=>False:=fun pins s σ H D I h=>h.elim
theorem vf:SS X Wx s nQ:=T8 O7
inductive KRows (K:Fgx)(w:World):List (Str×D)->List DictEntry->List (Key×Value)->Prop
 |nil:KRows K w [] [] []
 |cons {z:Str} {d:D} {t:Tok} {u:Value} {v:V} {hs:Int} {tb:List (Str×D)} {es:List DictEntry} {vs:List (Key×Value)}:hs=hashStr w z->RelV v u->(∀P H,Is K P H d v)->KRows K w tb es vs->KRows K w ((z,d)::tb) (⟨hs,.str z t,u⟩::es) ((.inr z,u)::vs)
def KTab (K:Fgx)(w:World)(a:Addr)(tb:List (Str×D)):Prop:=∃o es ep vs,K.lookup a=some o/\o.ExactDict/\o.data=.dict es ep/\KRows K w tb es.toList vs/\(tb.map (·.1)).Nodup/\(a==sysModules)=false
section
variable {X:Cx}{Wx:XW}{pos:Pos}
noncomputable def sS (f:E):EA:=fun env M=>match f env M with
 |some (.v (.str z),M1)=>some (.v (z.cps.toList.map fun c=>.str ⟨#[c]⟩),M1)
 |some (.x c n,M1)=>some (.x c n,M1)
 |_=>none
theorem Ij (h:SE X Wx .val e f):SI X Wx tg e (sS f):=by
 refine Bc (O1 h) ?_;rintro st H R ⟨P0,H0,P,Os,env,M,r,M',k,e,q⟩;unfold sS at e;split at e
 ·rename_i z M1 ef;cases e;refine⟨P0,H0,P,Os,env,M,_,_,k,ef,fun P1 v1 H1 l1 h1 i1=>⟨z,i1,q P1 H1 _ l1 h1 fun P2 H2 l2=>?_⟩⟩;have hl:(z.cps.toList.map fun c=>(D.str ⟨#[c]⟩)).length=z.cps.size:=by simp
  rw[hl];refine⟨fun j hj=>hj,fun j h1 h2=>Xj h2 h1,fun j x H' y hj=>⟨y.1,?_⟩⟩;obtain⟨c,ec,rfl⟩:=y.2;refine⟨.str ⟨#[c]⟩,?_,rfl⟩;rw[Wy,Array.getElem?_toList,ec];rfl
 ·rename_i c n M1 ef;cases e;exact⟨P0,H0,P,Os,env,M,_,_,k,ef,q⟩
 ·cases e
end
end E3
namespace L2
open PySem PySem.Spec PyProof.Rows
def VH (h:Heap)(a t:Addr)(i:Int):Prop:=∃o,h.get? a=some o/\o.cls=.type "reversed"/\o.data=.fields #[.ref t,rawInt i]
end L2
namespace E3
open PySem PySem.Spec PyProof.Rows L2
section
variable {X:Cx}{Wx:XW}{m:Mode}{pos:Pos}
noncomputable def gK:D->D->Option D
 |.lst xs,.lst ys=>if xs.length + ys.length<=sizeLine then some (.lst (xs ++ ys)) else none
 |_,_=>none
theorem Mh {K:Fgx}{P:Pl}{H:Hp}{d e z:D}{v w:V}(h:gK d e=some z)(h1:bx K P H d v)(h2:bx K P H e w):∃ds a b vs ws,z=.lst ds/\v=.ref a/\w=.ref b/\aY K H a vs/\aY K H b ws/\vs.length + ws.length<=sizeLine/\aq K P H ds (vs ++ ws):=by
 unfold gK at h;split at h
 ·split at h
  ·rename_i hl;cases h;obtain⟨a,vs,rfl,r1,s1⟩:=h1;obtain⟨b,ws,rfl,r2,s2⟩:=h2;exact⟨_,a,b,vs,ws,rfl,rfl,rfl,r1,r2,by rw[s1.len,s2.len];exact hl,s1.append s2⟩
  ·cases h
 ·cases h
theorem Tr {a b:Expr}{f g:E}(ha:SE X Wx .bor a f)(hb:SE X Wx .bor b g):SN X Wx (.BinOp a .Add b pos) (s2 gK f g):=by
 refine cT (GX GJ ha hb) ?_;rintro st H Q ⟨P0,H0,P,Os,env,M,r,M',k,e,q⟩;unfold s2 at e;rcases dh e with⟨d,M1,e1,e⟩ |⟨c,n,e1,rfl⟩
 ·refine bF k e1 fun P1 v1 H1 l1 h1 i1=>?_;have k1:=k.next l1 h1
  rcases dh e with⟨d2,M2,e2,e⟩ |⟨c,n,e2,rfl⟩
  ·refine bF k1 e2 fun P2 v2 H2 l2 h2 i2=>?_;rw[Ww]at e;obtain⟨z,ez,e⟩:=e;cases e;obtain⟨ds',e',q⟩:=q;obtain⟨ds,a,b,vs,ws,ed,ea,eb,r1,r2,hl,is⟩:=Mh ez (bW.vw h2 (bW.lt l2 h1 i1)) (bW.vw h2 i2);cases ed.symm.trans e';refine⟨a,b,vs,ws,ea,eb,r1,r2,hl,fun p hp=>?_⟩;obtain⟨l3,h3,nc⟩:=pD (vs:=vs ++ ws) h2 hp;exact q (P2.bar p) p (vs ++ ws) _ (l1.trans (l2.trans l3)) h3 (l1.sure p (l2.sure p hp)) (.inr rfl) nc bJ (aq.lt (l3.lt h2) is)
  ·exact bF k1 e2 q
 ·exact bF k e1 q
theorem FW {K:Fgx}{a:Addr}{o:Obj}{its:Array Value}{n:Nat}{ds:List D}{vs:List V}(l:K.lookup a=some o)(c:o.cls=.type "tuple")(e:o.data=.seq its n)(z:its.size<=sizeLine)(r:Vals vs its.toList)(i:∀P H,aq K P H ds vs):∀P H,Is K P H (.tup ds) (.ref a):=
 fun P H=>⟨a,vs,rfl,.inr ⟨o,its,n,l,c,e,z,r⟩,i P H⟩
def fD (P:Program)(w:World)(K:Fgx)(mg:Mgx)(base:Heap)(k:Nat)(C:Addr)(m:Str)(n:Nat)(g:G):Prop:=
 ∃f fd ps ds dvs sp,Meth K C m f/\FnOk P w K mg base dI k f fd ps sp/\Binds K fd ps ds/\Vals dvs ds/\∀vs H Q E,kh K mg n g vs H Q E->sp (vs ++ dvs) H Q E
theorem fD.mono {P:Program}{w:World}{K:Fgx}{mg:Mgx}{base:Heap}{j k:Nat}{C:Addr}{m:Str}{n:Nat}{g:G}(a:fD P w K mg base j C m n g)(h:j<=k):fD P w K mg base k C m n g:=by
 obtain⟨f,fd,ps,ds,dvs,sp,h1,h2,h3⟩:=a;exact⟨f,fd,ps,ds,dvs,sp,h1,h2.mono h,h3⟩
structure OwnIs (K:Fgx)(C:Addr):Prop where
 ca:PySem.W.findIn K (.ref C) "__class__"=some (some (.builtin "object.__class__"))
 gt:PySem.W.specialIn K (.builtin "object.__class__") "__get__"=some (some (.builtin "getset_descriptor.__get__"))
 tk:PySem.W.takesIn K (.builtin "object.__class__")=some true
 mr:PySem.W.mroIn K C (.type "object")=some true
 me:PySem.W.kitOne K (.ref C) (.ref C)=some true
end
end E3
namespace E3
open PySem L2
noncomputable def dg (n:Nat):List Nat:=(Nat.toDigits 10 n).map Char.toNat
theorem E_ (n:Nat):NumText.AllDigits (dg n):=fun c hc=>by
 obtain⟨d,hd,rfl⟩:=Xn.mp hc;have h:=Nat.isDigit_of_mem_toDigits (by decide) (by decide) hd;simp only[Char.isDigit,W2,Xw]at h;exact⟨h.1,h.2⟩
theorem Fd (n:Nat):dg n≠ []:=fun e=>Nat.toDigits_ne_nil (xaA.mp e)
theorem Fb (h1:1<=k)(h:n<10 ^ k):(dg n).length<=k:=by
 rw[dg,WK];exact toDigits_len_pow (by decide) h1 h
noncomputable def bR (i:Int):Str:=Str.ofString (toString i)
theorem xP (h:0<=i):(bR i).cps.toList=dg i.toNat:=by
 have:=W.KIN.signs_num i.toNat;rw[xaB h]at this;exact this
theorem Ii (h:i<0):(bR i).cps.toList=45::dg i.natAbs:=by
 obtain⟨m,rfl⟩:∃m,i=Int.negSucc m:=by
  cases i with
  |ofNat n=>exact absurd h (by simp)
  |negSucc m=>exact⟨m,rfl⟩
 unfold bR dg;rw[PyProof.Rows.signs_ofString];show List.map Char.toNat ("-" ++ toString (m + 1)).toList=_;rw[String.toList_append,YM,Nat.toString_eq_ofList_toDigits]
 simp
theorem Ih (h1:1<=k)(h:i.natAbs<10 ^ k):(bR i).length<=k + 1:=by
 show(bR i).cps.size<=k + 1;rw[<-XD]
 by_cases h0:0<=i
 ·rw[xP h0];have:=Fb (n:=i.toNat) h1 (by rw[<-Int.natAbs_of_nonneg h0]at *;simpa using h);omega
 ·rw[Ii (by omega),Y_];have:=Fb h1 h;omega
theorem Kz (h:i.natAbs<10 ^ 600):intText? (bR i)=some i:=by
 have hl:=Ih (by decide) h
 by_cases h0:0<=i
 ·rw[intText_digits (by rw[xP h0];exact E_ _) (by rw[xP h0];exact Fd _) (by omega),xP h0];have:=W.KIN.val_back i.toNat;unfold dg;rw[this,xaB h0]
 ·rw[intText_neg (Ii (by omega)) (E_ _) (Fd _) (by omega)];have:=W.KIN.val_back i.natAbs;unfold dg;rw[this];congr 1;omega
noncomputable def cd (s:Str):List Nat:=s.cps.toList
theorem rR (a b:Str):cd (a ++ b)=cd a ++ cd b:=by
 unfold cd;rw[Str.cps_append,Array.toList_append]
theorem fU (x:Str):x.length=(cd x).length:=by
 show x.cps.size=x.cps.toList.length
 simp
theorem yZ (c:Nat):cd ⟨#[c]⟩=[c]:=rfl
theorem Lj (h:n<340282366920938463463374607431768211456):n.log2<1920:=by
 by_cases h0:n=0
 ·rw[h0];decide
 ·have:=(Nat.log2_lt h0 (k:=128)).mpr h;omega
section
variable {env:Env}{M M1:Mm}{f g h c:E}{d e:D}{i j:Int}{n k:Nat}{z:Str}{b:Bool}{ds es:List D}{s t:S}{x:Str}{fa:EA}{u:G}
theorem Ri {q:D->Mm->OS}:cD q (some (.x x i,M))=some (.ex x i,M):=rfl
theorem Rg {q:D->Mm->O}:dO q (some (.x x i,M))=some (.x x i,M):=rfl
theorem Rb {q:List D->Mm->O}:gF q (some (.x x i,M))=some (.x x i,M):=rfl
theorem Rr {q:Mm->Option (ResA×Mm)}:zm q (some (.x x i,M))=some (.x x i,M):=rfl
theorem Rp:k_ d (some (.x x i,M))=some (.x x i,M):=rfl
noncomputable def sX (q:List D->OS):Option Cl->OS
 |some (.lst ds)=>q ds
 |_=>none
theorem RM {q:List D->OS}:sX q (some (.lst ds))=q ds:=rfl
noncomputable def rO (env:Env) (g:Mm->O) (M:Mm):D->OS
 |.ref k=>sX (fun _=>cD (fun y M2=>sX (fun ds=>if ds.length<sizeLine then some (.nx env,M2.set k (.lst (ds ++ [y]))) else none) M2[k]?) (g M)) M[k]?
 |_=>none
theorem Q_ {q:Mm->O}:rO env q M (.ref k)=sX (fun _=>cD (fun y M2=>sX (fun ds=>if ds.length<sizeLine then some (.nx env,M2.set k (.lst (ds ++ [y]))) else none) M2[k]?) (q M)) M[k]? :=rfl
theorem PL:i_ f g env M=cD (fun d M1=>rO env (g env) M1 d) (f env M):=rfl
theorem Vs (h:M[k]? =some (.lst ds)):vw M (.ref k)=.lst ds:=by unfold vw;simp only[h]
noncomputable def Jd:O->Option (ResA×Mm)
 |some (.v (.str z),M1)=>some (.v (z.cps.toList.map fun c=>.str ⟨#[c]⟩),M1)
 |some (.x c n,M1)=>some (.x c n,M1)
 |_=>none
theorem Qn:sS f env M=Jd (f env M):=rfl
theorem RG:Jd (some (.v (.str z),M))=some (.v (z.cps.toList.map fun c=>.str ⟨#[c]⟩),M):=rfl
noncomputable def Gz (o:Str->List D->Option D) (q:Mm->Option (ResA×Mm)) (M:Mm):D->O
 |.str y=>kW (o y) (q M)
 |_=>none
theorem BP {o:Str->List D->Option D}{q:Mm->Option (ResA×Mm)}:Gz o q M (.str z)=kW (o z) (q M):=rfl
theorem Bl {o:Str->List D->Option D}:pZ o f fa env M=dO (fun d M1=>Gz o (fa env) M1 d) (f env M):=rfl
theorem Mp:gK (.lst ds) (.lst es)=if ds.length + es.length<=sizeLine then some (.lst (ds ++ es)) else none:=rfl
theorem Ml {y:Str}:aQ (.str z) (.str y)=if z.length + y.length<=sizeLine then some (.str (z ++ y)) else none:=rfl
theorem MF:bU (.str z) (.int i)=if z.length<=sizeLine then(bZ z.cps.toList i).map fun c=>.str ⟨#[c]⟩ else none:=rfl
theorem MP:cC [.str z]=if z.length<=sizeLine then some (.int z.length) else none:=rfl
theorem pP:dN [.int i]=if i.natAbs.log2<1920 then some (.str (toString i)) else none:=rfl
theorem wL:b_ [.str z]=if z.length<=640 then(intText? z).map .int else none:=rfl
theorem Nm:kY [.lst ds]=some (.tup ds):=rfl
theorem Mu {y:Str}:aH .isin (.str z) (.str y)=some (.bl (wg z y)):=rfl
theorem Nb {y:Str}:aH .notin (.str z) (.str y)=some (.bl (!wg z y)):=rfl
theorem Ms {y:Str}:aH .eq (.str z) (.str y)=some (.bl (decide (z=y))):=by
 unfold aH bV pF;rw[Wv (by constructor<;>first |rfl |simp[D.dep])]
 have:(z==y)=decide (z=y):=by rw[Xx];simp
 simp[D.eq,this]
theorem M_ {y:Str}:aH .ne (.str z) (.str y)=some (.bl (!decide (z=y))):=by
 unfold aH bV mq;rw[Wv (by constructor<;>first |rfl |simp[D.dep])]
 have:(z==y)=decide (z=y):=by rw[Xx];simp
 simp[D.eq,this]
theorem Mv:aH .same .non .non=some (.bl true):=rfl
theorem Mw:aH .other (.int i) .non=some (.bl true):=rfl
theorem Mx:aH .other .non .non=some (.bl false):=rfl
noncomputable def rC (k:Nat) (t:S) (ds:List D):OS->OS
 |some (.nx e,M1)=>loopS k t ds e M1
 |some (.ct e,M1)=>loopS k t ds e M1
 |some (.bk e,M1)=>some (.nx e,M1)
 |some (.rt d,M1)=>some (.rt d,M1)
 |some (.ex c n,M1)=>some (.ex c n,M1)
 |none=>none
theorem Qp:loopS k t [] env M=some (.nx env,M):=rfl
theorem wU:loopS k t (d::ds) env M=if k<env.length then rC k t ds (t (env.set k (.val d)) M) else none:=rfl
theorem BW {e':Env}:rC k t ds (some (.nx e',M))=loopS k t ds e' M:=rfl
theorem R8 {e':Env}:rC k t ds (some (.ct e',M))=loopS k t ds e' M:=rfl
theorem R7 {e':Env}:rC k t ds (some (.bk e',M))=some (.nx e',M):=rfl
theorem R9:rC k t ds (some (.rt d,M))=some (.rt d,M):=rfl
theorem R_:rC k t ds (some (.ex x i,M))=some (.ex x i,M):=rfl
theorem DR {α:Type}{xs:List α}{i:Int}(d:α)(h0:0<=i)(h1:i<xs.length):bZ xs i=some (xs.getD i.toNat d):=by
 obtain⟨k,rfl⟩:∃k:Nat,i=k:=⟨i.toNat,by omega⟩;have hk:k<xs.length:=by omega
 exact pC (by simp[hk])
theorem at0 {α:Type}{a:α}{xs:List α}:bZ (a::xs) 0=some a:=pC (j:=0) rfl
theorem at1 {α:Type}{a b:α}{xs:List α}:bZ (a::b::xs) 1=some b:=pC (j:=1) rfl
theorem at2 {α:Type}{a b c:α}{xs:List α}:bZ (a::b::c::xs) 2=some c:=pC (j:=2) rfl
theorem Jr {α:Type}{a b c d:α}{xs:List α}:bZ (a::b::c::d::xs) 3=some d:=pC (j:=3) rfl
theorem Fw {M:Mm}{cl:Cl}:(M ++ [cl])[M.length]? =some cl:=List.getElem?_concat_length ..
theorem s_end {M:Mm}{cl cl':Cl}:(M ++ [cl]).set M.length cl'=M ++ [cl']:=by simp
theorem w_end {M:Mm}:vw (M ++ [.lst ds]) (.ref M.length)=.lst ds:=Vs Fw
theorem JZ {α:Type}(xs:List α){i:Int}(h:0<=i):fL xs none (some i)=xs.take i.toNat:=by
 obtain⟨k,rfl⟩:∃k:Nat,i=k:=⟨i.toNat,by omega⟩;unfold fL;rw[HT.Sx,HT.Sw,Zu,Nat.sub_zero,Z1]
 by_cases hk:k<=xs.length
 ·rw[Nat.min_eq_left hk]
 ·rw[Nat.min_eq_right (by omega),List.take_length,xan (by omega)]
end
end E3
namespace L2
open PySem PySem.Spec PyProof.Rows
end L2
namespace E3
open PySem PySem.Spec PyProof.Rows L2
end E3
namespace L2
open PySem PySem.Spec PyProof.Rows
end L2
namespace E3
open PySem PySem.Spec PyProof.Rows L2
end E3
namespace L2
open PySem PySem.Spec PyProof.Rows
end L2
namespace E3
open PySem PySem.Spec PyProof.Rows L2
section
variable {X:Cx}{Wx:XW}{m:Mode}{pos:Pos}
open Classical in
end
end E3
namespace E3
open PySem PySem.Spec PyProof.Rows L2
section
variable {X:Cx}{Wx:XW}{pos:Pos}
noncomputable def n_ (is:List Nat) (d:D) (env:Env):Option Env:=match d with
 |.tup es=>if es.length=is.length then lQ is es env else none
 |_=>none
noncomputable def lD (is:List Nat) (body:S):List D->Env->Mm->OS
  | [],env,M=>some (.nx env,M)
  |d::ds,env,M=>match n_ is d env with
    | some env1 => (match body env1 M with
      |some (.nx e,M1)=>lD is body ds e M1
      |some (.ct e,M1)=>lD is body ds e M1
      |some (.bk e,M1)=>some (.nx e,M1)
      |some (.rt d,M1)=>some (.rt d,M1)
      |some (.ex c n,M1)=>some (.ex c n,M1)
      |none=>none)
    |none=>none
end
end E3
namespace L2
open PySem PySem.Spec PyProof.Rows
theorem J2 (l b:Addr)(as bs:Array Value)(n n2:Nat)(dd2:Option Addr)(sl2:Array (Option Value))(h0:¬(!as.isEmpty && Builtin.List.listTooLong (as.size + bs.size))=true)(h1:as.size<=sizeLine)(h2:as.size + bs.size<=sizeLine + 1):
  Meets (Builtin.«list.extend» ⟨[.ref l,.ref b],[]⟩) (fun _ R s=>s.heap.get? l=some {cls:=.type "list",data:=.seq as n}/\s.heap.get? b=some ⟨.type "list",dd2,.seq bs n2,sl2⟩/\R (.ok (.ret Value.none)) {s with heap:=s.heap.update l (Obj.mapSeq fun x=>x ++ bs)}):=
 .of_wp fun prog w A R s h=>by
  obtain⟨hp,g,d,tk,os⟩:=s;obtain⟨hl,hb,h⟩:=h;have f1:=AutoSeq1.idx_int;have f2:=AutoSeq1.sub_tuple_tuple;have f3:=AutoSeq1.sub_list_list;have f4:=AutoSeq1.sub_tuple_list;have f5:=AutoSeq1.sub_list_tuple;have hz:(as ++ bs).size<=sizeLine + 1:=by rw[Array.size_append];omega
  wp_walk using (wpAny_updateSeq hl rfl (hz:=h1) (_hz':=hz)),xag hl,xag hb
  exact⟨_,rfl,h⟩
section
variable {X:Cx}
def QK (K:Fgx):V->List V->Hp->VK->Prop:=fun x vs H Q=>∃l b xs zs,x=.ref l/\vs=[.ref b]/\H l=some (.lst xs)/\aY K H b zs/\xs.length + zs.length<=sizeLine/\Q .non (upd H l (.lst (xs ++ zs)))
theorem Ly:yw X "list.extend" (QK X.K):=by
 intro pins s σ H x vs v us Q I rx rv h;obtain⟨l,b,xs,zs,rfl,rfl,hH,hB,hz,q⟩:=h;cases rx;obtain⟨u,rfl,ru⟩:=rv.one;cases ru;obtain⟨z,its,n,r,hl,e⟩:=I.lstM hH;obtain⟨z2,its2,r2,⟨cls2,dd2,data2,sl2⟩,ho2,hc2,n2,hd2⟩:=E3.sql I hB;simp only at hc2 hd2;subst hc2 hd2;have hl2:=r2.length;have hsz:its.toArray.size + its2.toArray.size<=sizeLine:=by rw[Wr,Wr];omega
 refine call_meets F.slot_list_extend ⟨_,e,rfl⟩ F.entry_list_extend (F.args_list_extend_2 _ _) (J2 l b its.toArray its2.toArray n n2 dd2 sl2 (extend_door hsz) (by rw[Wr];omega) (by omega)) ⟨e,ho2,?_⟩;refine⟨.non,_,I.lset (its':=its ++ its2) hH e (by simp) (r.append r2) ?_,rfl,q⟩;rw[Wz];omega
end
end L2
namespace E3
open PySem PySem.Spec PyProof.Rows L2
section
variable {X:Cx}{Wx:XW}{pos:Pos}
noncomputable def gM (i:Nat) (f:E):S:=fun env M=>match env[i]? with
  |some (.own ds)=>bO (f env M) fun d M1=>match d with
    |.lst es=>if ds.length + es.length<=sizeLine then some (.nx (env.set i (.own (ds ++ es))),M1) else none
    |_=>none
  |_=>none
theorem T6 {i:Nat}{x:Str}{e:Expr}{f:E}{p0 p q:Pos}(hN:X.N[i]? =some x)(hv:m5 X.env.scope x)(he:SE X Wx .val e f)(hd:(x==("__debug__":Str))=false:=by x_go)(hcd:(x==("__classdict__":Str))=false:=by x_go)
    (hfew:((backTo q (starEach [e] X.env)).all (fun x=> !x.1) && (backToKw q (keywordEach [] X.env)).all (fun x=>x.1.isSome) && decide ([e].length + ([]:List Keyword).length + (if ([]:List Keyword).isEmpty then 0 else 1)<30))=true:=by rfl)
    (hline:(p.endLine==q.line)=true:=by rfl) (hs:starEach [e] X.env=(false,eval e X.env)::starEach [] X.env:=by rfl) (hw:swapsWith (.Call (.Attribute (.Name x p0) "extend" p) [e] [] q) none pos.line X.env=pure false:=by rfl):
    SS X Wx (.Expr (.Call (.Attribute (.Name x p0) "extend" p) [e] [] q) pos) (gM i f):=by
  refine gq (wQ (wO Yt PySem.F.slot_list_extend PySem.F.type_list_extend Ly (tO hN hv hd hcd) (mH he nq hs) rfl hfew hline hs rfl) hw) ?_;rintro D st H ⟨P0,H0,P,Os,env,M,out,M',k,e,q⟩;unfold gM at e;split at e
  · rename_i ds es;obtain⟨a,vs,o1,o2,o3,o4⟩:=k.slot i _ es;refine⟨.ref a,gH o2,.inl ⟨rfl,vs,.inl (.inl o3)⟩,?_⟩;rcases gU e with⟨d,M1,e1,e⟩ |⟨c,n,e1,rfl⟩
    · split at e
      · rename_i zs;split at e
        · rename_i hz;cases e;refine bF k e1 fun P1 v1 H1 l1 h1 i1=>?_;have k1:=k.next l1 h1
          obtain⟨a',vs',o1',o2',o3',o4'⟩:=k1.slot i _ es;have ea:a'=a:=by
            have z:=o2'.symm.trans o2;cases z;rfl
          subst ea;obtain⟨b,ws,rfl,r,is⟩:=i1;refine⟨a',b,vs',ws,rfl,rfl,o3',r.imp (fun z=>z.2) id,by rw[o4'.len,is.len];exact hz,?_⟩;obtain⟨l2,k2⟩:=k1.chg es (gH o1') o3' (aq.append o4' is);exact q _ _ _ _ ((l1.lt k.hk).trans l2) k2
        · cases e
      · cases e
    · exact bF k e1 q
  · cases e
end
section
variable {env:Env}{M:Mm}{f:E}{ds es:List D}{b:Bool}{k:Nat}
theorem Qi (h:env[k]? =some (.own ds))(h1:f env M=some (.v (.lst es),M))(hl:ds.length + es.length<=1000000):gM k f env M=some (.nx (env.set k (.own (ds ++ es))),M):=by
 simp only[gM,h,bO,h1];rw[Wv (by rw[Xv];omega)]
end
end E3
namespace E3
end E3
namespace E3
open PySem PySem.Spec PyProof.Rows L2
mutual
def D.nr:D->Bool
 |.tup xs=>D.nrs xs
 |.lst xs=>D.nrs xs
 |.ref _=>false
 |_=>true
def D.nrs:List D->Bool
 | []=>true
 |a::as=>D.nr a && D.nrs as
end
noncomputable def Pf:Pl:=⟨fun _=>0,0,fun _=>False⟩
section
variable {K:Fgx}{mg:Mgx}{P P':Pl}{H H':Hp}{M:Mm}
mutual
theorem Is.fre:∀{d:D} {v:V},D.nr d=true->Is K P H d v->Is K Pf H d v
 |.non,_,_,h=>h
 |.bl _,_,_,h=>h
 |.int _,_,_,h=>h
 |.str _,_,_,h=>h
 |.tup _,_,n,h=>by obtain⟨a,vs,e,s,q⟩:=h;exact⟨a,vs,e,s,aq.fre n q⟩
 |.lst _,_,n,h=>by obtain⟨a,vs,e,s,q⟩:=h;exact⟨a,vs,e,s.imp (fun z=>⟨fun z=>z,z.2⟩) id,aq.fre n q⟩
 |.ref _,_,n,_=>by cases n
theorem aq.fre:∀{ds:List D} {vs:List V},D.nrs ds=true->aq K P H ds vs->aq K Pf H ds vs
  | [],_,_,h=>h
  |_::_,_,n,h=>by
    obtain⟨v,r,e,p,q⟩:=h;have n:=xaw.mp n;exact⟨v,r,e,Is.fre n.1 p,aq.fre n.2 q⟩
end
mutual
theorem Is.lf_any:∀{d:D} {v:V},D.lf d=true->Is K P H d v->Is K P' H d v
 |.non,_,_,h=>h
 |.bl _,_,_,h=>h
 |.int _,_,_,h=>h
 |.str _,_,_,h=>h
 |.tup _,_,n,h=>by obtain⟨a,vs,e,s,q⟩:=h;exact⟨a,vs,e,s,aq.lf_any n q⟩
 |.lst _,_,n,_=>by cases n
 |.ref _,_,n,_=>by cases n
theorem aq.lf_any:∀{ds:List D} {vs:List V},D.lfs ds=true->aq K P H ds vs->aq K P' H ds vs
  | [],_,_,h=>h
  |_::_,_,n,h=>by
    obtain⟨v,r,e,p,q⟩:=h;have n:=xaw.mp n;exact⟨v,r,e,Is.lf_any n.1 p,aq.lf_any n.2 q⟩
end
end
section
variable {X:Cx}{Wx:XW}{m:Mode}{pos:Pos}
theorem eN (hr:Room k X.A)(h:X.A.units + 60<cLine->SB X Wx ss b):SB X Wx ss b:=h (xaL (xaC (by decide) _) hr.units)
theorem rm {e:Expr}{es:List Expr}{x:Str}{id:String}{r:List V->Hp->VK->Prop}{o:List D->Option D}{fs:EA}{p:Pos}(hc:cY X (.builtin id) r)(hg:Gl X x)(hm:X.mg x=none)(hv:bootBuiltins x=some (.builtin id))(po:mW X.K r o)(ha:SA X Wx .bor (e::es) fs)
  (hn:x≠"__name__":=by x_go) (hdb:(x==("__debug__":Str))=false:=by x_go) (he:starEach (e::es) X.env=(false,eval e X.env)::starEach es X.env:=by rfl) (hpl:(backTo pos (starEach es X.env)).any (·.1)=false:=by rfl):SE X Wx m (.Call (.Name x p) (e::es) [] pos) (sN o fs):=
 Ia (fun _ ha=>Bb hc hg hm hv ha hn hdb he hpl) po ha
theorem nR (hc:cY X (.type T) r)(hg:Gl X x)(hm:X.mg x=none)(hv:bootBuiltins x=some (.type T))(po:mW X.K r o)(ha:SA X Wx .bor (e::es) fs)
  (hn:x≠"__name__":=by x_go) (hdb:(x==("__debug__":Str))=false:=by x_go) (he:starEach (e::es) X.env=(false,eval e X.env)::starEach es X.env:=by rfl) (hpl:(backTo pos (starEach es X.env)).any (·.1)=false:=by rfl):SE X Wx m (.Call (.Name x p) (e::es) [] pos) (sN o fs):=
 Ia (fun _ ha=>GQ hc hg hm hv ha hn hdb he hpl) po ha
end
section
variable (P:Program)(w:World)(K:Fgx)(mg:Mgx)(base:Heap)(k:Nat)(f:Addr)(N:List Str)(q:Str)(st:Stmt)(b:S)
abbrev RT:Prop:=∀(cdv:Value) (A:Around) (outer:List PySem.Env) (s:Shared) (H:Hp) (E:XK),Room k (A.deeper (envOfC q (aF st) s.heap.objs.size f cdv))->SB (lg P w K mg base N q st f cdv A outer s H E) W0 (bC st) b
end
theorem eU (h1:sc.kind=.function:=by rfl)(h2:sc.isCoroutine=false:=by rfl)(h3:sc.isGenerator=false:=by rfl)(h4:N.Nodup:=by x_go)(h5:N.take P.length=P:=by rfl)
  (h6:∀x∈P,sc.names.lookup x=some .local\/sc.names.lookup x=some .cell:=by x_go) (h7:∀y∈sc.names,y.2≠ .free:=by x_go):FnScope N P sc:=⟨h1,h2,h3,h4,h5,h6,h7⟩
abbrev LV (st:Stmt)(x:Str):Prop:=(aF st).names.lookup x=some .local
abbrev LC (st:Stmt)(x:Str):Prop:=(aF st).names.lookup x=some .cell
structure DefAt (K:Fgx)(mg:Mgx)(x:Str)(st:Stmt)(ps:List Str)(f:Addr)(fd:FuncData):Prop where
 mg:mg x=some (.ref f)
 F:FunD K x x st f fd
 b:Binds K fd ps []
theorem DefAt.ok {P:Program}{w:World}{K:Fgx}{mg:Mgx}{base:Heap}{k:Nat}{x:Str}{st:Stmt}{f:Addr}{fd:FuncData}{N ps:List Str}{b:S}(D:DefAt K mg x st ps f fd)(S:FnScope N ps (aF st))(hr:RT P w K mg base k f N x st b)(hp:ps.length<=N.length:=by decide):aZ P w K mg base (k + 1) x ps.length (cj N.length b):=Ka D.F S hp D.mg D.b hr
def bA (K:Fgx)(x:Str)(st:Stmt):Prop:=∃(f:Addr) (oc kV dc pm cd ct:Value) (od an:Option Addr) (sl:Array (Option Value)),PySem.W.nsIn K mainGlobals x=some (some (.ref f))/\K.lookup f=some ⟨oc,od,.func (PySem.W.fnOf x x (cg st) (bC st) (aF st) .none kV dc pm an cd ct),sl⟩/\PySem.W.codeIn K cd x=true/\PySem.W.keepIn K (.ref f)=true
theorem bA.mk {K:Fgx}{x:Str}{st:Stmt}{f:Addr}{oc kV dc pm cd ct:Value}{od an:Option Addr}{sl:Array (Option Value)}(a:PySem.W.nsIn K mainGlobals x=some (some (.ref f)))(l:K.lookup f=some ⟨oc,od,.func (PySem.W.fnOf x x (cg st) (bC st) (aF st) .none kV dc pm an cd ct),sl⟩)(c:PySem.W.codeIn K cd x=true)(k:PySem.W.keepIn K (.ref f)=true):bA K x st:=⟨f,oc,kV,dc,pm,cd,ct,od,an,sl,a,l,c,k⟩
theorem bA.at {K:Fgx}{h:Heap}{mg:Mgx}{x:Str}{st:Stmt}{ps:List Str}(F:bA K x st)(X:K.In h)(G:h.Ns mainGlobals mg)
  (hb:∀(kV doc pm:Value) (an:Option Addr) (cdv ct:Value) (us:List Value),us.length=ps.length->bindArgs (PySem.W.fnOf x x (cg st) (bC st) (aF st) .none kV doc pm an cdv ct) ⟨us,[]⟩=pure (ps.zip us)):∃f fd,DefAt K mg x st ps f fd:=by
 obtain⟨f,oc,kV,dc,pm,cd,ct,od,an,sl,a,l,c,k⟩:=F;exact⟨f,_,PySem.W.mg_of X G a,Ft l c k,(Fv (st:=st) l c k).binds hb⟩
end E3
namespace L2
open PySem PySem.Spec PyProof.Rows
abbrev TH:=Ends->Addr->Addr->Option Addr->St->Hp->Prop
def HB (X:Cx)(hs:List ExceptHandler)(t:TH):Prop:=∀(pins:Pnx) (s:Shared) (σ:St) (H:Hp) (a C:Addr) (dx:Option Addr) (T:Addr) (D:Ends),
 Caught X pins σ H s a C dx T->gb X.K C=true->X.A.handled=none->t D C a dx σ H->wpAny (model X.prog X.w) X.A (handleBy (.ref a) X.env hs) (SP X pins D) X.xe s
end L2
namespace E3
open PySem PySem.Spec PyProof.Rows L2
abbrev HE:=Str->Int->Env->Mm->OS
section
variable {X:Cx}{Wx:XW}{m:Mode}{pos:Pos}
noncomputable def tH (X:Cx) (hh:HE):TH:=fun D C a dx st H=>∃P0 H0 P Os env M c n out M',Ok X.K X.mg P0 H0 P Os H M st env/\X.mg c=some (.ref C)/\Dy X.K X.mg P H none (some (.ref a)) (.exc c n)/\hh c n env M=some (out,M')/\Post X.K X.mg W0 P0 H0 P H M' D out
def yx (out:Out):Prop:=(∃e,out=.nx e)\/∃d,out=.rt d
structure SH (X:Cx)(hs:List ExceptHandler)(hh:HE):Prop where
 hb:HB X hs (tH X hh)
 ok:∀c n env M out M',hh c n env M=some (out,M')->(∃C,X.mg c=some (.ref C)/\gb X.K C=true)/\yx out
variable {suite:List Stmt}{b0:Stmt}{cn n:Str}{np hp:Pos}{c:Addr}{i:Nat}{h:S}{hs:List ExceptHandler}{r:HE}{cat:Str->Option Bool}
end
end E3
namespace L2
open PySem PySem.Spec PyProof.Rows
section
variable {X:Cx}{e:Expr}{es:List Expr}{te:TE}{t:TA}{pos:Pos}
open Builtin Builtin.Str in
open Builtin Builtin.Str in
open Builtin Builtin.Str in
end
end L2
namespace E3
open PySem PySem.Spec PyProof.Rows L2
section
variable {X:Cx}{Wx:XW}{m:Mode}
theorem Sv {P:Program}{w:World}{K:Fgx}{mg:Mgx}{base:Heap}{N:List Str}{q:Str}{st:Stmt}{f:Addr}{cdv:Value}{A:Around}{outer:List PySem.Env}{s:Shared}{H:Hp}{E:XK}{i:Nat}{x:Str}{pos:Pos}(hN:N[i]? =some x:=by rfl)(hv:LV st x:=by kernel_rfl)(hd:(x==("__debug__":Str))=false:=by x_go)(hcd:(x==("__classdict__":Str))=false:=by x_go):SE (lg P w K mg base N q st f cdv A outer s H E) Wx m (.Name x pos) (aj i):=u5 hN hv hd hcd
theorem Lv {P:Program}{w:World}{K:Fgx}{mg:Mgx}{base:Heap}{N:List Str}{q:Str}{st:Stmt}{f:Addr}{cdv:Value}{A:Around}{outer:List PySem.Env}{s:Shared}{H:Hp}{E:XK}{x:Str}(hv:LV st x:=by kernel_rfl):Loc (lg P w K mg base N q st f cdv A outer s H E).env.scope x:=.inl hv
theorem Su {i:Nat}{x:Str}{pos:Pos}(hN:X.N[i]? =some x:=by rfl)(hv:X.env.scope.names.lookup x=some .local:=by kernel_rfl)(hd:(x==("__debug__":Str))=false:=by x_go)(hcd:(x==("__classdict__":Str))=false:=by x_go):SE X Wx m (.Name x pos) (aj i):=u5 hN hv hd hcd
theorem Lu {a b:Prop}(h:a:=by kernel_rfl):a\/b:=.inl h
theorem Ei {i:Int}{j pos}:SE X Wx m (.Constant (.int i) j pos) (ak (.int i)):=Cd Om
theorem Es {z:Str}{j pos}:SE X Wx m (.Constant (.str z) j pos) (ak (.str z)):=nU Ov
theorem Eb {b:Bool}{j pos}:SE X Wx m (.Constant (.bool b) j pos) (ak (.bl b)):=B_ Oe
theorem Ek {a b:Expr}{pos:Pos}{f g:E}(ha:SE X Wx .bor a f)(hb:SE X Wx .bor b g)(hs:yD b:=by exact fun _ _=>rfl):SE X Wx m (.Subscript a b pos) (s2 bU f g):=S_ KZ Pk ha hb hs
theorem Cm {a b:Expr}{op:CmpOp}{c:Cp}{pos:Pos}{f g:E}(hu:X.A.units + 60<cLine)(ha:SE X Wx .bor a f)(hb:SE X Wx .bor b g)(ho:op=zp c:=by rfl)(hm:behindInMarks op b=false:=by rfl):SE X Wx m (.Compare a [op] [b] pos) (s2 (aH c) f g):=by subst ho;exact S9 (zu hu c) Bg ha hb hm
theorem Ct {a b:Expr}{op:CmpOp}{c:Cp}{pos:Pos}{f g:E}(hu:X.A.units + 60<cLine)(ha:SE X Wx .bor a f)(hb:SE X Wx .bor b g)(ho:op=zp c:=by rfl)(hm:behindInMarks op b=false:=by rfl):ST X Wx (.Compare a [op] [b] pos) (s2 (aH c) f g):=by subst ho;exact IK (zu hu c) Bg ha hb hm
end
section
variable {P:Program}{w:World}{K:Fgx}{h base:Heap}{mg:Mgx}{k:Nat}{x:Str}{st:Stmt}{N ps:List Str}{b:S}
abbrev HB (x:Str)(st:Stmt)(ps:List Str):Prop:=∀(kV doc pm:Value) (an:Option Addr) (cdv ct:Value) (us:List Value),us.length=ps.length->bindArgs (PySem.W.fnOf x x (cg st) (bC st) (aF st) .none kV doc pm an cdv ct) ⟨us,[]⟩=pure (ps.zip us)
theorem Dm {a0:Str}(h:∀{kV doc pm:Value} {an:Option Addr} {cdv ct u0:Value},bindArgs (PySem.W.fnOf x x (cg st) (bC st) (aF st) .none kV doc pm an cdv ct) ⟨[u0],[]⟩=pure [(a0,u0)]):HB x st [a0]:=fun _ _ _ _ _ _ us hl=>match us,hl with | [_],_=>h
theorem Dp {a0 a1:Str}(h:∀{kV doc pm:Value} {an:Option Addr} {cdv ct u0 u1:Value},bindArgs (PySem.W.fnOf x x (cg st) (bC st) (aF st) .none kV doc pm an cdv ct) ⟨[u0,u1],[]⟩=pure [(a0,u0),(a1,u1)]):HB x st [a0,a1]:=fun _ _ _ _ _ _ us hl=>match us,hl with | [_,_],_=>h
theorem Dq {a0 a1 a2:Str}(h:∀{kV doc pm:Value} {an:Option Addr} {cdv ct u0 u1 u2:Value},bindArgs (PySem.W.fnOf x x (cg st) (bC st) (aF st) .none kV doc pm an cdv ct) ⟨[u0,u1,u2],[]⟩=pure [(a0,u0),(a1,u1),(a2,u2)]):HB x st [a0,a1,a2]:=fun _ _ _ _ _ _ us hl=>match us,hl with | [_,_,_],_=>h
theorem Dr {a0 a1 a2 a3:Str}(h:∀{kV doc pm:Value} {an:Option Addr} {cdv ct u0 u1 u2 u3:Value},bindArgs (PySem.W.fnOf x x (cg st) (bC st) (aF st) .none kV doc pm an cdv ct) ⟨[u0,u1,u2,u3],[]⟩=pure [(a0,u0),(a1,u1),(a2,u2),(a3,u3)]):HB x st [a0,a1,a2,a3]:=fun _ _ _ _ _ _ us hl=>match us,hl with | [_,_,_,_],_=>h
theorem Ds {a0 a1 a2 a3 a4:Str}(h:∀{kV doc pm:Value} {an:Option Addr} {cdv ct u0 u1 u2 u3 u4:Value},bindArgs (PySem.W.fnOf x x (cg st) (bC st) (aF st) .none kV doc pm an cdv ct) ⟨[u0,u1,u2,u3,u4],[]⟩=pure [(a0,u0),(a1,u1),(a2,u2),(a3,u3),(a4,u4)]):HB x st [a0,a1,a2,a3,a4]:=fun _ _ _ _ _ _ us hl=>match us,hl with | [_,_,_,_,_],_=>h
theorem bA.ok (F:bA K x st)(X:K.In h)(G:h.Ns mainGlobals mg)(S:FnScope N ps (aF st))(hr:∀f,RT P w K mg base k f N x st b)
  (hb:HB x st ps:=by first |exact Dm rfl |exact Dp rfl |exact Dq rfl |exact Dr rfl |exact Ds rfl) (hp:ps.length<=N.length:=by decide):aZ P w K mg base (k + 1) x ps.length (cj N.length b):=by
 obtain⟨f,d,D⟩:=F.at X G hb;exact D.ok S (hr f) hp
theorem aZ.up {j n:Nat}{g:G}(a:aZ P w K mg base j x n g)(h:j<=k:=by decide):aZ P w K mg base k x n g:=a.mono h
theorem lX.up {j n:Nat}{g:G}(a:lX P w K mg base j x n g)(h:j<=k:=by decide):lX P w K mg base k x n g:=a.mono h
theorem mR.up {j n:Nat}{C:Addr}{g:G}(a:mR P w K mg base j C n g)(h:j<=k:=by decide):mR P w K mg base k C n g:=a.mono h
theorem mU.up {j n:Nat}{C:Addr}{m:Str}{g:G}(a:mU P w K mg base j C m n g)(h:j<=k:=by decide):mU P w K mg base k C m n g:=a.mono h
theorem dH.up {j n:Nat}{C:Addr}{m:Str}{g:G}(a:dH P w K mg base j C m n g)(h:j<=k:=by decide):dH P w K mg base k C m n g:=a.mono h
theorem dG.up {j n:Nat}{C:Addr}{g:G}(a:dG P w K mg base j C n g)(h:j<=k:=by decide):dG P w K mg base k C n g:=a.mono h
theorem fD.up {j n:Nat}{C:Addr}{m:Str}{g:G}(a:fD P w K mg base j C m n g)(h:j<=k:=by decide):fD P w K mg base k C m n g:=a.mono h
theorem h_ {K:Fgx}{t:Addr}{d m s j0 j1 j2}{a b:Str}{i:Int}(l:K.lookup t=some ⟨.type "tuple",d,.seq #[.str a j0,.str b j1,.int i j2] m,s⟩):∀P H,Is K P H (.tup [.str a,.str b,.int i]) (.ref t):=FW (vs:=[.str a,.str b,.int i]) l rfl rfl (by show 3<=sizeLine;decide) (.cons ⟨_,rfl⟩ (.cons ⟨_,rfl⟩ (.cons ⟨_,rfl⟩ .nil))) (fun _ _=>⟨_,_,rfl,rfl,⟨_,_,rfl,rfl,⟨_,_,rfl,rfl,rfl⟩⟩⟩)
end
end E3
namespace L2
open PySem PySem.Spec PyProof.Rows
noncomputable def VL (N:List Str) (psc:Scope) (xs:List Str) (cs:List (Str×Nat)) (scope:Scope):Bool:=
 scope.kind==.function && xs.all (fun x=>scope.names.lookup x==some .local) && decide ((xs ++ cs.map (·.1)).Nodup) &&
 scope.names.all (fun y=>y.2 !=.cell && (y.2 !=.local || scope.names.lookup y.1==some .local) && (y.2 !=.free || (psc.names.lookup y.1==some .cell || psc.names.lookup y.1==some .free))) &&
 cs.all (fun p=>N[p.2]? ==some p.1 && (psc.names.lookup p.1==some .cell || psc.names.lookup p.1==some .free) && ((cu psc scope.names).lookup p.1==some .cell || (cu psc scope.names).lookup p.1==some .free))
structure CompOkT (N:List Str)(psc:Scope)(xs:List Str)(cs:List (Str×Nat))(scope:Scope):Prop where
 kind:scope.kind=.function
 own:∀x∈xs,scope.names.lookup x=some .local
 nd:(xs ++ cs.map (·.1)).Nodup
 cell:∀y∈scope.names,y.2≠ .cell
 names:∀y∈scope.names,y.2=.local->scope.names.lookup y.1=some .local
 has:∀y∈scope.names,y.2=.free->psc.names.lookup y.1=some .cell\/psc.names.lookup y.1=some .free
 cap:∀p∈cs,N[p.2]? =some p.1/\(psc.names.lookup p.1=some .cell\/psc.names.lookup p.1=some .free)/\((cu psc scope.names).lookup p.1=some .cell\/(cu psc scope.names).lookup p.1=some .free)
end L2
namespace E3
open PySem PySem.Spec PyProof.Rows L2
section
variable {X:Cx}{Wx:XW}{m:Mode}{pos:Pos}
open Classical in
end
end E3
namespace E3
open PySem PySem.Spec PyProof.Rows L2
end E3
namespace L2
open PySem PySem.Spec PyProof.Rows
end L2
namespace E3
open PySem PySem.Spec PyProof.Rows L2
end E3
namespace L2
open PySem PySem.Spec PyProof.Rows
end L2
namespace E3
open PySem PySem.Spec PyProof.Rows L2
section
variable {X:Cx}{Wx:XW}{m:Mode}{pos:Pos}
noncomputable def kZ (j:Nat) (e:E) (env:Env):Nat->Nat->List D->Mm->Option (List D×Mm)
  |0,_,_,_=>none
  |n + 1,t,acc,M=>match M[j]? with
    | some (.lst ds) => (match ds[t]? with
      |none=>some (acc,M)
      | some d => (match e (.val d::env) M with
        |some (.v y,M2)=>if acc.length + 1<sizeLine then kZ j e env n (t + 1) (acc ++ [y]) M2 else none
        |_=>none))
    |_=>none
noncomputable def jj (n:Nat) (cs:List (Str×Nat)) (f e:E):E:=fun env M=>bnd (f env M) fun d M1=>match d with
  | .ref j => (match kZ j e (bM cs env) n 0 [] M1 with
    |some (ys,M2)=>some (.v (.lst ys),M2)
    |none=>none)
  |_=>none
theorem JR {n:Nat}{cs:List (Str×Nat)}{f e:E}:∀env M r M',jj n cs f e env M=some (.v r,M')->∃ds,r=.lst ds:=fun env M r M' h=>by
 unfold jj at h;rcases dh h with⟨d,M1,e1,h⟩ |⟨c,n,e1,h⟩
 ·split at h
  ·split at h
   ·cases h;exact⟨_,rfl⟩
   ·cases h
  ·cases h
 ·cases h
theorem Eo {K:Fgx}{mg:Mgx}{n:Nat}{cs:List (Str×Nat)}{f e:E}{P0 P:Pl}{H0 H:Hp}{Os:List (Option Addr)}{M M':Mm}{st:L2.St}{env:Env}{r:Res}{R:Addr->Hp->Prop}(nd:(cs.map (·.2)).Nodup)
    (k:Ok K mg P0 H0 P Os H M st env) (ee:jj n cs f e env M=some (r,M')) (w:NR K mg Wx P0 H0 P H M' R r):vm (FJ K (tE K mg Wx .val f)) fZ (tE K mg W0 .val e) cs st H R:=by
  unfold jj at ee;rcases dh ee with⟨d,M1,e1,ee⟩ |⟨c,n,e1,rfl⟩
  · split at ee
    · rename_i j;split at ee
      · rename_i ys M2 ec;cases ee;obtain⟨ds',e',w⟩:=w;cases e';refine⟨P0,H0,P,Os,env,M,_,_,k,e1,fun P1 v1 H1 l1 h1 i1=>?_⟩;obtain⟨jl,rfl⟩:j<P1.n/\v1=.ref (P1.io j):=i1;have hl:∃vs,aY K H1 (P1.io j) vs:=by
          cases n with
          |zero=>cases ec
          |succ n=>
            simp only[kZ]at ec;split at ec
            · rename_i ds em;obtain⟨vs,ev,is⟩:=h1.cell j _ em;exact⟨vs,.inl (.inl ev)⟩
            · cases ec
        refine ⟨P1.io j, rfl, hl, fun D hD => ?_⟩;obtain ⟨l2, h2, nc⟩ := pD (vs := []) h1 hD;refine ⟨fun i m vs H2=>∃P2 M3 acc,LtE P1 H1 P2 H2/\Hk K mg P2 H2 M3/\P2.bd D/\(∀k,k<P2.n->P2.io k≠D)/\H2 D=some (.lst vs)/\aq K P2 H2 acc vs/\acc.length<sizeLine/\kZ j e (bM cs env) m i acc M3=some (ys,M'),
          ⟨n,P1.bar D,M1,[],l2,h2,.inr rfl,nc,bJ,rfl,by x_go,ec⟩,?_⟩
        rintro i m vs H2 ⟨P2,M3,acc,l3,h3,bD,nD,eD,is,hz,ec⟩;refine⟨eD,?_⟩
        cases m with
        |zero=>cases ec
        |succ m=>
          simp only[kZ]at ec;split at ec
          · rename_i ds em;obtain⟨us,ev,iu⟩:=h3.cell j _ em;rw[l3.io j jl]at ev;have sq:aY K H2 (P1.io j) us:=.inl (.inl ev);split at ec
            · rename_i et;cases ec;exact .inl ⟨⟨us,sq,by rw[iu.len];exact XR.mp et⟩,w P2 D vs H2 (l1.trans l3) h3 (l1.sure D hD) bD nD eD is⟩
            · rename_i d et;obtain⟨v,evt,iv⟩:=iu.get et;split at ec
              · rename_i y' M5 ey;split at ec
                · rename_i hz';refine .inr ⟨⟨us,v,sq,evt⟩,by rw[is.len];exact hz,fun vs' H'=>∃P2 M3 acc,LtE P1 H1 P2 H'/\Hk K mg P2 H' M3/\P2.bd D/\(∀k,k<P2.n->P2.io k≠D)/\H' D=some (.lst vs')/\aq K P2 H' acc vs'/\acc.length<sizeLine/\kZ j e (bM cs env) m (i + 1) acc M3=some (ys,M'),
                    fun vs' H' z=>⟨m,YJ _,z⟩,fun x' H' y=>?_⟩
                  obtain⟨rfl,hy⟩:=y;have ex':v=x':=W3 (evt.symm.trans (hy us sq));subst ex';have kk:=((k.next l1 h1).next l3 h3).cap (cs:=cs) nd iv
                  unfold fZ;dsimp only;rw[Wv rfl];refine bF kk ey fun P5 v5 H5 l5 h5 i5=>?_;have eD5:H5 D=some (.lst vs):=l5.keep D _ eD (.inr nD);have nD5:∀k,k<P5.n->P5.io k≠D:=l5.nc eD nD;obtain⟨g1,g2,g3⟩:=Fz (vs':=vs ++ [v5]) (l3.trans l5) h5 hD (l5.bm D bD) nD5 eD5;exact⟨eD5,P5,M5,acc ++ [y'],g2,g3,l5.bm D bD,nD5,bJ,aq.append (aq.lt ((l5.lt h3).trans g1) is) (aq.one (Is.lt g1 i5)),by rw[Wz];exact hz',ec⟩
                · cases ec
              · cases ec
          · cases ec
      · cases ee
    · cases ee
  · exact⟨P0,H0,P,Os,env,M,_,_,k,e1,w⟩
theorem T5 (n:Nat)(x:Str)(cs:List (Str×Nat)){px py spos:Pos}{y:Str}{i:Nat}{iter elt:Expr}{scope:Scope}{f e:E}(hN:X.N.Nodup)(hk:X.N[i]? =some y)(hy:Loc X.env.scope y)(hc:X.calm=true)(nd:(cs.map (·.2)).Nodup)(hi:SE X Wx .val iter f)
  (he:∀(cl:List (Str×Addr)) (C:Addr) (s₀:Shared) (H₀:Hp) (ex:List Addr) (pn:Pnx),SE (cU X (x::cs.map (·.1)) scope cl C s₀ H₀ ex pn) W0 .val elt e)
  (ok:pH X.N X.env.scope x cs scope=true:=by kernel_rfl) (hs:∀x,foldedSetIterable iter X.env x=pure x:=by intro _;rfl)
  (hsw:swapsWith (.ListComp elt [⟨.Name x px,iter,[],0⟩] scope pos) (some (.Name y py)) spos.line X.env=pure true:=by rfl)
  (hf:X.fn y=true\/X.env.scope.names.lookup y=some .local:=by first |exact .inl rfl |exact .inr rfl):
  SS X Wx (.Assign [.Name y py] (.ListComp elt [⟨.Name x px,iter,[],0⟩] scope pos) spos) (aL i (jj n cs f e)):=by
 refine gq (O_ (tq:=fZ) (te:=tE X.K X.mg W0 .val e) x cs hN hk hy hc (G3 hi) (fun _ _ _ _ _ _=>G4) he ok hs hsw hf) ?_;rintro D st H ⟨P0,H0,P,Os,env,M,out,M',k,ee,w⟩;unfold aL at ee;rcases gU ee with⟨d,M1,e1,ee⟩ |⟨c,n,e1,rfl⟩
 ·obtain⟨ds,rfl⟩:=JR _ _ _ _ e1;split at ee
  ·rename_i hl;cases ee;refine Eo nd k e1 ⟨ds,rfl,fun P1 a vs H1 l1 h1 ha ba nc ea is=>?_⟩;obtain⟨l2,h2,i2⟩:=Ko k.hk l1 h1 ha nc ea is;exact w _ _ _ _ (l2.lt k.hk) ((k.next l2 h2).asg hl i2)
  ·cases ee
 ·exact Eo nd k e1 w
end
end E3
namespace E3
open PySem L2
section
variable {env:Env}{M M1 M2 M3 M4:Mm}{f g h v:E}{d e x y:D}{i:Int}{n k:Nat}{ds es:List D}{kvs:List (Key×D)}{key:Key}
theorem Er {j:Nat}{e:E}(F:D->D)(hM:M[j]? =some (.lst ds))(he:∀d∈ds,e (.val d::env) M=some (.v (F d),M)):∀(n t:Nat) (acc:List D),ds.length - t<n->t<=ds.length->acc.length + (ds.length - t)<sizeLine->kZ j e env n t acc M=some (acc ++ (ds.drop t).map F,M)
  |0,t,acc,h,_,_=>absurd h (xam _)
  |n + 1,t,acc,h,ht,hl=>by
    by_cases q:t<ds.length
    · simp only[kZ,hM,Wu q,he _ (Yo q)];rw[Wv (by omega),Er F hM he n (t + 1) (acc ++ [F ds[t]]) (by omega) q (by rw[Wz,XJ];omega),XM q,X7,ZR];rfl
    · simp only[kZ,hM,Xb (Z_ q)];rw[List.drop_of_length_le (Z_ q)]
      simp
theorem Jw {cs:List (Str×Nat)}{j:Nat}{e:E}(F:D->D)(h1:f env M=some (.v (.ref j),M1))(hM:M1[j]? =some (.lst ds))(he:∀d∈ds,e (.val d::bM cs env) M1=some (.v (F d),M1))(hn:ds.length<n)(hl:ds.length<sizeLine):
  jj n cs f e env M=some (.v (.lst (ds.map F)),M1):=by
 simp only[jj,bnd,h1,Er F hM he n 0 [] (by omega) (Xp _) (by simpa using hl),Zu,List.nil_append]
end
end E3
namespace L2
open PySem PySem.Spec PyProof.Rows
end L2
namespace E3
open PySem PySem.Spec PyProof.Rows L2
end E3
namespace E3
open PySem PySem.Spec PyProof.Rows L2 PySem.W
section
variable {n:Nat}{lt:Nat->Nat->Option Bool}{le:Nat->Nat->Prop}
def Pm (n:Nat)(p:Array Nat):Prop:=p.Perm (List.range n).toArray
theorem Pm.size {p:Array Nat}(h:Pm n p):p.size=n:=by
 have:=Array.Perm.size_eq h
 simpa using this
theorem Pm.low {p : Array Nat} (h : Pm n p) : Low n p := ⟨h.size,fun x hx=>by
 have:=(xaS h).mem_iff.mp hx
 simpa using this⟩
theorem Pm.rev {p:Array Nat}{i j:Nat}(h:Pm n p):Pm n (kas_rev p i j):=(mirror_perm _ _ _ _).trans h
theorem Pm.bub {p:Array Nat}{i j:Nat}(h:Pm n p):Pm n (bubble p i j):=(bubble_perm _ _ _).trans h
theorem sJ {p q:Array Nat}{i j:Nat}(h:p[i]? =q[j]?):p.getD i 0=q.getD j 0:=by
 rw[Xy,Xy,h]
theorem mK {p:Array Nat}{i j:Nat}(hj:j<=p.size)(k:Nat):(kas_rev p i j).getD k 0=if i<=k/\k<j then p.getD (i + j - 1 - k) 0 else p.getD k 0:=by
 have:=getElem?_mirror_all (xs:=p) (i:=i) hj k
 split
 ·rename_i h;rw[Wv h]at this;exact sJ this
 ·rename_i h;rw[WY h]at this;exact sJ this
theorem Ed {p:Array Nat}{s d:Nat}(hs:s<p.size)(hd:d<=s)(k:Nat):(bubble p s d).getD k 0=if k=s - d then p.getD s 0 else if s - d<k/\k<=s then p.getD (k - 1) 0 else p.getD k 0:=by
 have:=getElem?_bubble hs d hd k
 by_cases h:k=s - d
 ·rw[Wv h]at this ⊢;exact sJ this
 ·rw[WY h]at this ⊢
  by_cases h':s - d<k/\k<=s
  ·rw[Wv h']at this ⊢;exact sJ this
  ·rw[WY h']at this ⊢;exact sJ this
def Up (le:Nat->Nat->Prop)(p:Array Nat)(m:Nat):Prop:=∀i j,i<=j->j<m->le (p.getD i 0) (p.getD j 0)
def Dn (le:Nat->Nat->Prop)(p:Array Nat)(m:Nat):Prop:=∀i j,i<=j->j<m->le (p.getD j 0) (p.getD i 0)
def Al (le:Nat->Nat->Prop)(p:Array Nat)(m q:Nat):Prop:=∀i j,m - (q + 1)<=i->i<m->m - (q + 1)<=j->j<m->le (p.getD i 0) (p.getD j 0)
variable (hn:0<n)(rf:∀i,le i i)(tr:∀i j k,le i j->le j k->le i k)(H:∀i j,i<n->j<n->∃b,lt i j=some b/\(b=true->le i j)/\(b=false->le j i))
include rf tr
theorem Dn.al {p:Array Nat}{m q:Nat}(hm:m<=p.size)(hq:q + 1<=m)(h:Dn le p m)(ha:Al le p m q):Dn le (kas_rev p (m - (q + 1)) m) m:=by
 intro i j hij hj;rw[mK hm,mK hm]
 split
 ·split
  ·exact ha _ _ (by omega) (by omega) (by omega) (by omega)
  ·exact h _ _ (by omega) (by omega)
 ·split
  ·exact(by omega:False).elim
  ·exact h _ _ hij hj
theorem Dn.succ {p:Array Nat}{m:Nat}(hm:0<m)(h:Dn le p m)(hl:le (p.getD m 0) (p.getD (m - 1) 0)):Dn le p (m + 1):=by
 intro i j hij hj
 by_cases hjm:j<m
 ·exact h i j hij hjm
 ·obtain rfl:j=m:=by omega
  by_cases hi:i=j
  ·subst hi;exact rf _
  ·exact tr _ _ _ hl (h i (j - 1) (by omega) (by omega))
theorem Up.succ {p:Array Nat}{m:Nat}(hm:0<m)(h:Up le p m)(hl:le (p.getD (m - 1) 0) (p.getD m 0)):Up le p (m + 1):=by
 intro i j hij hj
 by_cases hjm:j<m
 ·exact h i j hij hjm
 ·obtain rfl:j=m:=by omega
  by_cases hi:i=j
  ·subst hi;exact rf _
  ·exact tr _ _ _ (h i (j - 1) (by omega) (by omega)) hl
include hn H
theorem Cq {p:Array Nat}(h:Pm n p):∀f m,1<=m->Up le p m->∃r,aW lt (kas_asc p f m)=some r/\m<=r/\r<=m + f/\Up le p r/\(r=m + f\/le (p.getD r 0) (p.getD (r - 1) 0))
  |0,m,_,hu=>⟨m,rfl,Wq _,Wq _,hu,.inl rfl⟩
  |f + 1,m,h1,hu=>by
    obtain⟨b,eb,b1,b0⟩:=H _ _ (h.low.get hn m) (h.low.get hn (m - 1));simp only[kas_asc,aW,eb];cases b
    · obtain⟨r,er,l1,l2,u,z⟩:=Cq h f (m + 1) (by omega) (Up.succ rf tr (by omega) hu (b0 rfl));exact⟨r,er,by omega,by omega,u,z.imp (fun e=>by omega) id⟩
    · exact⟨m,rfl,Wq _,by omega,hu,.inr (b1 rfl)⟩
theorem xT:∀f {p:Array Nat} m q,Pm n p->1<=m->m + f<=n->q + 1<=m->Dn le p m->Al le p m q->
    ∃r,aW lt (kas_desc f p m q)=some r/\Pm n r.1/\m<=r.2.1/\r.2.1<=m + f/\r.2.2 + 1<=r.2.1/\Dn le r.1 r.2.1/\Al le r.1 r.2.1 r.2.2
  |0,p,m,q,h,h1,hf,hq,hd,ha=>⟨_,rfl,h,Wq _,Wq _,hq,hd,ha⟩
  |f + 1,p,m,q,h,h1,hf,hq,hd,ha=>by
    obtain⟨b,eb,b1,b0⟩:=H _ _ (h.low.get hn m) (h.low.get hn (m - 1));obtain⟨c,ec,c1,c0⟩:=H _ _ (h.low.get hn (m - 1)) (h.low.get hn m);have hs:=h.size;have one:∀p':Array Nat,Al le p' (m + 1) 0:=fun p' i j a1 a2 a3 a4=>by
      obtain rfl:i=j:=by omega
      exact rf _
    simp only[kas_desc,aW,eb];cases b
    · simp only[Xe,Yy,aW,ec];cases c
      · have e1 := b0 rfl;have e2 := c0 rfl;obtain ⟨r, er, g1, g2, g3, g4⟩ := xT f (m + 1) (q + 1) h (by omega) (by omega) (by omega) (Dn.succ rf tr (by omega) hd e2) (fun i j a1 a2 a3 a4=>by
          have k1:∀x,m - (q + 1)<=x->x<m->le (p.getD x 0) (p.getD m 0):=fun x y1 y2=>tr _ _ _ (ha x (m - 1) y1 y2 (by omega) (by omega)) e1;have k2:∀x,m - (q + 1)<=x->x<m->le (p.getD m 0) (p.getD x 0):=fun x y1 y2=>tr _ _ _ e2 (ha (m - 1) x (by omega) (by omega) y1 y2)
          by_cases hi:i=m
          · subst hi
            by_cases hj:j=i
            · subst hj;exact rf _
            · exact k2 j (by omega) (by omega)
          · by_cases hj:j=m
            · subst hj;exact k1 i (by omega) (by omega)
            · exact ha i j (by omega) (by omega) (by omega) (by omega))
        exact⟨r,er,g1,by omega,by omega,g4⟩
      · exact⟨_,rfl,h,Wq _,Zc m (f + 1),hq,hd,ha⟩
    · simp only[X6];have e1:=b1 rfl
      split
      · have hd':=Dn.al rf tr (by omega) hq hd ha;have hl:le ((kas_rev p (m - (q + 1)) m).getD m 0) ((kas_rev p (m - (q + 1)) m).getD (m - 1) 0):=by
          rw[mK (by omega),mK (by omega),WY (by omega),Wv (by omega)];exact tr _ _ _ e1 (ha (m - 1) _ (by omega) (by omega) (by omega) (by omega))
        obtain⟨r,er,g1,g2,g3,g4⟩:=xT f (m + 1) 0 h.rev (by omega) (by omega) (by omega) (Dn.succ rf tr (by omega) hd' hl) (one _);exact⟨r,er,g1,by omega,by omega,g4⟩
      · obtain⟨r,er,g1,g2,g3,g4⟩:=xT f (m + 1) 0 h (by omega) (by omega) (by omega) (Dn.succ rf tr (by omega) hd e1) (one _);exact⟨r,er,g1,by omega,by omega,g4⟩
theorem Ip {p:Array Nat}{a:Nat}(h:Pm n p)(h1:1<=a)(ha:a<=n)(hd:Dn le p a):∃r,aW lt (kas_tail3 a n p)=some r/\Pm n r.2/\1<=r.1/\r.1<=n/\Up le r.2 r.1:=by
 unfold kas_tail3;have hs := h.size;obtain ⟨r, er, l1, l2, u, -⟩ := Cq hn rf tr H (p := kas_rev p 0 a) h.rev (n - a) a h1 (fun i j hij hj=>by
  rw[mK (by omega),mK (by omega),Wv (by omega),Wv (by omega)];exact hd _ _ (by omega) (by omega))
 rw[run_bind,er];exact⟨_,rfl,h.rev,by omega,by omega,u⟩
theorem Io {p:Array Nat}{a:Nat}(h:Pm n p)(ha:a + 1<=n)(hd:Dn le p (a + 1)):∃r,aW lt (kas_descPart a n p)=some r/\Pm n r.2/\1<=r.1/\r.1<=n/\Up le r.2 r.1:=by
 unfold kas_descPart;have hs := h.size;obtain ⟨r, er, g1, g2, g3, g4, g5, g6⟩ := xT hn rf tr H (n - (a + 1)) (a + 1) 0 h (by omega) (by omega) (by omega) hd (fun i j a1 a2 a3 a4=>by
  obtain rfl:i=j:=by omega
  exact rf _)
 rw[run_bind,er,Option.bind_some];have gs:=g1.size
 split
 ·exact Ip hn rf tr H g1.rev (by omega) (by omega) (Dn.al rf tr (by omega) g4 g5 g6)
 ·exact Ip hn rf tr H g1 (by omega) (by omega) g5
theorem Tt {p:Array Nat}(h:Pm n p):∃r,aW lt (kas_count n p)=some r/\Pm n r.2/\1<=r.1/\r.1<=n/\Up le r.2 r.1:=by
  unfold kas_count;have hs := h.size;obtain ⟨r, er, l1, l2, u, z⟩ := Cq hn rf tr H h (n - 1) 1 (Wq _) (fun i j hij hj=>by
    obtain rfl:i=j:=by omega
    exact rf _)
  rw[run_bind,er,Option.bind_some]
  split
  · exact⟨_,rfl,h,l1,by omega,u⟩
  · rename_i hr;have hrn:r≠n:=fun e=>hr (by simp[e]);have hl:=z.resolve_left (by omega)
    split
    · obtain⟨c,ec,c1,c0⟩:=H _ _ (h.low.get hn 0) (h.low.get hn (r - 1));simp only[aW,ec];cases c
      · have e0:=c0 rfl;have all:∀i j,i<r->j<r->le (p.getD i 0) (p.getD j 0):=fun i j hi hj=>tr _ _ _ (u i (r - 1) (by omega) (by omega)) (tr _ _ _ e0 (u 0 j (by omega) hj));refine Io hn rf tr H h.rev (by omega) ?_;intro i j hij hj;rw[mK (by omega),mK (by omega)]
        split
        · rw[Wv (by omega)];exact all _ _ (by omega) (by omega)
        · obtain rfl:j=r:=by omega
          split
          · exact tr _ _ _ hl (all _ _ (by omega) (by omega))
          · obtain rfl:i=j:=by omega
            exact rf _
      · exact⟨_,rfl,h,l1,by omega,u⟩
    · obtain rfl:r=1:=by omega
      refine Io hn rf tr H h (by omega) ?_;intro i j hij hj
      by_cases hi:i=j
      · subst hi;exact rf _
      · obtain rfl:i=0:=by omega
        obtain rfl:j=1:=by omega
        exact hl
theorem Cr {p:Array Nat}{k:Nat}(h:Pm n p)(hk:k<n)(u:Up le p k):∀f l r,l<=r->r<=k->r - l<=f->(∀i,i<l->le (p.getD i 0) (p.getD k 0))->(∀i,r<=i->i<k->le (p.getD k 0) (p.getD i 0))->
    ∃x,aW lt (kas_place p k f l r)=some x/\x<=k/\(∀i,i<x->le (p.getD i 0) (p.getD k 0))/\(∀i,x<=i->i<k->le (p.getD k 0) (p.getD i 0))
  |0,l,r,h1,h2,h3,lo,hi=>by
    obtain rfl:l=r:=by omega
    exact⟨l,rfl,h2,lo,hi⟩
  |f + 1,l,r,h1,h2,h3,lo,hi=>by
    unfold kas_place
    split
    · obtain rfl:l=r:=by omega
      exact⟨l,rfl,h2,lo,hi⟩
    · obtain⟨c,ec,c1,c0⟩:=H _ _ (h.low.get hn k) (h.low.get hn ((l + r) / 2));simp only[aW,ec];cases c
      · simp only[Xe,Yy];exact Cr h hk u f _ _ (by omega) h2 (by omega) (fun i hi'=>tr _ _ _ (u i ((l + r) / 2) (by omega) (by omega)) (c0 rfl)) hi
      · simp only[X6];exact Cr h hk u f _ _ (by omega) (by omega) (by omega) lo (fun i h1' h2'=>tr _ _ _ (c1 rfl) (u _ _ h1' h2'))
theorem Im:∀f {p:Array Nat} k,Pm n p->k + f=n->Up le p k->∃r,aW lt (kas_bin f p k)=some r/\Pm n r/\Up le r n
  |0,p,k,h,e,u=>⟨p,rfl,h,by rw[<-e];exact u⟩
  |f + 1,p,k,h,e,u=>by
    unfold kas_bin;have hs:=h.size;obtain⟨x,ex,xk,lo,hi⟩:=Cr hn rf tr H h (by omega) u k 0 k (by omega) (by omega) (by omega) (fun i hi=>by omega) (fun i h1 h2=>by omega);rw[run_bind,ex,Option.bind_some];refine Im f (k + 1) h.bub (by omega) ?_;intro i j hij hj;rw[Ed (by omega) (by omega),Ed (by omega) (by omega),show k - (k - x)=x by omega]
    repeat' split
    all_goals first
      |(exfalso;omega)
      |exact rf _
      |exact lo _ (by omega)
      |exact hi _ (by omega) (by omega)
      |exact u _ _ (by omega) (by omega)
theorem Tv:∃p,aW lt (kas_sort n)=some p/\Pm n p/\Up le p n:=by
 unfold kas_sort;obtain⟨r,er,g1,g2,g3,g4⟩:=Tt hn rf tr H (p:=(List.range n).toArray) (Array.Perm.refl _);rw[run_bind,er,Option.bind_some]
 split
 ·rw[show max r.1 1=r.1 by omega];exact Im hn rf tr H _ _ g1 (by omega) g4
 ·exact⟨_,rfl,g1,by rw[show n=r.1 by omega];exact g4⟩
end
theorem TF {ds:List D}{le:D->D->Prop}(h64:ds.length<64)(ht:ds.all tupI=true)(rf:∀d,le d d)(tr:∀a b c,le a b->le b c->le a c)
    (H:∀xs ys,.tup xs∈ds->.tup ys∈ds->∃b,lF xs ys=some b/\(b=true->le (.tup xs) (.tup ys))/\(b=false->le (.tup ys) (.tup xs))):∃es,eV ds=some es/\es.Perm ds/\es.Pairwise le:=by
  unfold eV
  split
  · rename_i h2;refine⟨ds,rfl,xar _,?_⟩
    match ds,h2 with
    | [],_=>exact .nil
    | [d],_=>exact List.pairwise_singleton _ _
  · rename_i h2;rw [Wv ⟨h64, ht⟩];obtain ⟨p, ep, hp, hu⟩ := Tv (n := ds.length) (lt := pO ds) (le := fun i j => le (ds.getD i .non) (ds.getD j .non)) (by omega) (fun i => rf _) (fun i j k => tr _ _ _) (fun i j hi hj=>by
      have m1:=Yo hi;have m2:=Yo hj;have t1:=XF.mp ht _ m1;have t2:=XF.mp ht _ m2;have g1:ds.getD i .non=ds[i]:=by rw[W7,Wu hi,YH]
      have g2:ds.getD j .non=ds[j]:=by rw[W7,Wu hj,YH]
      unfold pO;rw[g1,g2];generalize ds[i]=a at *;generalize ds[j]=b at *;cases a<;>try cases t1
      cases b<;>try cases t2
      exact H _ _ m1 m2)
    have hl:=xaS hp;refine⟨_,by rw[ep];rfl,?_,?_⟩
    · have:=List.Perm.map (fun i=>ds.getD i .non) hl;refine this.trans ?_;rw[show(List.range ds.length).toArray.toList=List.range ds.length from rfl];have e:(List.range ds.length).map (fun i=>ds.getD i .non)=ds:=by
        apply List.ext_getElem?;intro k;rw[Wy]
        by_cases hk:k<ds.length
        · rw[Yr hk,Wu hk,YQ,W7,Wu hk,YH]
        · rw[Xb (by simpa using hk),Xb (by omega)];rfl
      rw[e]
    · rw[List.pairwise_map,List.pairwise_iff_getElem];intro i j hi hj hij;have sz:=hp.size;have:=hu i j (by omega) (by rw[XD]at hj;omega);rw[Xy,Xy]at this;rw[XD]at hi hj;rw[Z7 hi,Z7 hj]at this;exact this
noncomputable def v9:List D->List D->Option Bool
 | [],[]=>some true
 |.int i::ps,.int j::qs=>if i=j then v9 ps qs else some (decide (j<=i))
 |.str a::ps,.str b::qs=>if a=b then v9 ps qs else some (!decide (a.cps.toList<b.cps.toList))
 |_,_=>none
end E3
namespace L2
open PySem PySem.Spec PyProof.Rows
end L2
namespace E3
open PySem PySem.Spec PyProof.Rows L2
section
variable {X:Cx}{pins:Pnx}{σ:L2.St}{H:Hp}{s:Shared}
open Classical in
end
end E3
namespace E3
open PySem PySem.Spec PyProof.Rows L2
section
variable {X:Cx}{Wx:XW}
def XP (X:Cx)(D:Ends)(f:Flow)(s':Shared):Prop:=match f with
 |.ret u=>∃v H',s'.os=X.s₀.os/\AllBare s'.gens/\Un X.fs [] X.H₀ H' X.s₀.heap s'.heap/\bL X.prog X.w H' s'.heap/\RelV v u/\D.rt v H'
 |.brk=>∃σ' H',D.bk σ' H'
 |.cont=>∃σ' H',D.ct σ' H'
 |.next=>False
def PX (X:Cx)(b:List Stmt)(t:TS):Prop:=∀(s:Shared) (σ:L2.St) (H:Hp) (D:Ends),Inv X [] σ H s->t D σ H->wpAny (model X.prog X.w) X.A (execs b X.env) (XP X D) X.xe s
theorem Px {st:Stmt}{rest:List Stmt}{t u:TS}(hx:X.ex=[])(h1:PS X st t)(h2:PX X rest u):PX X (st::rest) (vp t u):=by
  intro s σ H D I h;refine Y8 (aR (h1 [] s σ H {D with nx:=u D} I h) fun f s1 q=>?_)
  cases f with
  |next=>
    obtain⟨σ',H',I',q⟩:=q;exact h2 s1 σ' H' D I' q
  |ret v=>
    obtain⟨v,σ',H',J,r,q⟩:=q;exact⟨v,H',J.os,J.bare,hx ▸ J.base,J.hok,r,q⟩
  |brk=>
    obtain⟨σ',H',_,q⟩:=q;exact⟨σ',H',q⟩
  |cont=>
    obtain⟨σ',H',_,q⟩:=q;exact⟨σ',H',q⟩
def lY (X:Cx)(Wx:XW)(b:List Stmt)(f:S):Prop:=PX X b (tS X.K X.mg Wx f)
theorem Hr {s:Stmt}{ss:List Stmt}{f g:S}(hx:X.ex=[])(h1:SS X Wx s f)(h2:lY X Wx ss g):lY X Wx (s::ss) (ao f g):=by
  intro s0 σ0 Hh D I hh;refine Px hx h1 h2 s0 σ0 Hh D I ?_;obtain⟨P0,H0,P,Os,env,M,out,M',k,e,q⟩:=hh;unfold ao at e;split at e
  · rename_i e1 M1 ef;refine⟨P0,H0,P,Os,env,M,_,_,k,ef,fun P1 Os1 H1 st1 l1 k1=>?_⟩;exact⟨P0,H0,P1,Os1,e1,M1,_,_,k1,e,q.lt l1⟩
  · rename_i o ho
    cases ef:f env M with
    |none=>rw[ef]at e;cases e
    |some om=>
      obtain⟨o1,M1⟩:=om;rw[ef]at e;cases e;refine⟨P0,H0,P,Os,env,M,_,_,k,ef,?_⟩
      cases out with
      |nx env'=>exact(ho _ _ ef).elim
      |bk env'=>exact q
      |ct env'=>exact q
      |rt d=>exact q
      |ex c n=>exact q
end
section
variable {X:Cx}{σ:L2.St}{H H1:Hp}{s:Shared}{Pt:Addr}{ps:Array Value}
theorem FP {h2:Heap}{tk:Nat}(I:Inv X [] σ H s)(hP:H Pt=some (.tbl ps))(kp:∀b o,b≠Pt->s.heap.get? b=some o->h2.get? b=some o)(hH:∀b,b<s.heap.objs.size->b≠Pt->H1 b=H b)
    (hPt:∃more,H1 Pt=some (.tbl (ps ++ more))/\h2.get? Pt=some {cls:=.none,data:=.fields (ps ++ more)}) (hnew:∀a o,s.heap.objs.size<=a->H1 a=some o->∃ob,o=.frz ob (.own a)/\h2.get? a=some ob):Inv X [] σ H1 {s with heap:=h2,toks:=tk}:=by
  have lt:∀{b:Addr} {u:HO},H b=some u->b<s.heap.objs.size:=fun e=>(I.hok _ _ e).lt;have nP:∀{b:Addr},H b=none->b≠Pt:=fun e z=>by rw[z,hP]at e;cases e
  have nT:∀{b:Addr} {u:HO},H b=some u->(∀p,u≠ .tbl p)->b≠Pt:=fun e n z=>by rw[z,hP]at e;cases e;exact n _ rfl
  obtain⟨more,e1,e2⟩:=hPt;have hok:bL X.prog X.w H1 h2:=fun a o e=>by
    by_cases hs:s.heap.objs.size<=a
    · obtain⟨ob,rfl,g⟩:=hnew a o hs e;exact⟨g,ob,g⟩
    · have hs:=Nat.lt_of_not_le hs
      by_cases ha:a=Pt
      · subst ha;rw[e1]at e;cases e;exact e2
      · rw[hH a hs ha]at e;refine(I.hok a o e).stay (fun b u hb g=>kp b u ?_ g) (fun b g=>?_) fun b xs g=>?_
        · rcases hb with rfl |hb
          · exact ha
          · exact nT hb fun _ z=>nomatch z
        · rw[hH b (lt g) (nT g fun _ z=>nomatch z)];exact g
        · rw[hH b (lt g) (nT g fun _ z=>nomatch z)];exact g
  refine I.step (g':=s.gens) (d':=s.drawn) (t':=tk) (ch:=[]) (fun _ z=>nomatch z) (fun b o _ _ _ g n=>kp b o (nP n) g) (fun b o _ _ _ g n=>⟨o.slots,kp b o (nP n) g⟩) (fun b o _ g n=>by rw[hH b (Ws g) (nP n)];exact n) (fun b o _ g=>?_)
    (fun b xs g=>by rw[hH b (lt g) (nT g fun _ z=>nomatch z)];exact g) (fun b o u g=>by rw[hH b (lt g) (nT g fun _ z=>nomatch z)];exact g) (fun b p g=>?_) (fun m hm=>?_) hok I.bare
  · by_cases hb:b=Pt
    · subst hb;exact⟨_,e2⟩
    · exact⟨o,kp b o hb g⟩
  · by_cases hb:b=Pt
    · subst hb;rw[hP]at g;cases g;exact⟨more,e1⟩
    · exact⟨#[],by rw[hH b (lt g) hb,g];simp⟩
  · obtain⟨o,es,ep,g,r⟩:=hm;exact⟨o,es,ep,kp _ _ (nP I.free) g,r⟩
noncomputable def lW (H:Hp) (h:Heap) (cs:List Addr):Hp:=fun b=>if b∈cs then(h.get? b).map fun o=>HO.frz o (.own b) else H b
theorem Li {cs:List Addr}(I:Inv X [] σ H s)(hx:X.ex=[])(hc:∀c∈cs,H c=none/\X.s₀.heap.objs.size<=c/\∃o,s.heap.get? c=some o):
  Un X.fs [] X.H₀ (lW H s.heap cs) X.s₀.heap s.heap/\bL X.prog X.w (lW H s.heap cs) s.heap/\Same H (lW H s.heap cs)/\∀c∈cs,∀o,s.heap.get? c=some o->lW H s.heap cs c=some (.frz o (.own c)):=by
 have out:∀{b:Addr} {u:HO},H b=some u->lW H s.heap cs b=H b:=fun {b u} e=>WY fun z=>by rw[(hc b z).1]at e;cases e
 have old:∀{b:Addr} {o:Obj},X.s₀.heap.get? b=some o->b∉cs:=fun {b o} e z=>absurd (Wo (Ws e) (hc b z).2.1) (Xm _);have B:=I.base;rw[hx]at B;refine⟨⟨B.keep,B.slot,fun b o e n h=>?_,B.there,fun b xs e=>?_,fun b o u e=>?_,fun b p e=>?_⟩,fun a o e=>?_,fun b o e=>?_,fun c z o e=>?_⟩
 ·unfold lW;rw[WY (old e)];exact B.free b o e n h
 ·rw[out (B.tups b xs e)];exact B.tups b xs e
 ·rw[out (B.frzs b o u e)];exact B.frzs b o u e
 ·obtain⟨m,g⟩:=B.tbls b p e;exact⟨m,by rw[out g];exact g⟩
 ·unfold lW at e;split at e
  ·rename_i ha;obtain⟨ob,g⟩:=(hc a ha).2.2;rw[g]at e;cases e;exact⟨g,ob,g⟩
  ·exact(I.hok a o e).stay (fun _ _ _ g=>g) (fun b g=>by rw[out g];exact g) fun b xs g=>by rw[out g];exact g
 ·rw[out e];exact e
 ·unfold lW;rw[Wv z,e];rfl
end
def gB (mg:Mgx)(base:Heap):Prop:=∃bm o,mg "__builtins__"=some (.ref bm)/\bm≠builtinsNs/\bm≠mainGlobals/\base.get? bm=some o/\o.cls=.type "module"/\o.dict=some builtinsNs/\o.data=.plain
noncomputable def fJ (env:Env):List (Str×Nat)->Option (List (Str×D))
  | []=>some []
  |p::r=>match env[p.2]? with
    |some (.val d)=>(fJ env r).map ((p.1,d):: ·)
    |_=>none
open Classical in
noncomputable def fW (kt:Nat) (nm:Str) (i:FnT) (caps:List (Str×Nat)):S:=fun env M=>match M[kt]? with
 |some (.tbl nm' i')=>if nm'=nm/\i'=i then(fJ env caps).map fun cs=>(.rt (.ref M.length),M ++ [.fn i cs]) else none
 |_=>none
structure MkOk (X:Cx)(nm:Str)(i:FnT)(caps:List (Str×Nat))(cl:List (Str×Addr))(c Pt:Addr)(j:Nat):Prop where
 ex:X.ex=[]
 fn:∀x,X.fn x=true
 st:∃params body scope,i.st=.FunctionDef i.x params body [] none [] scope none i.x i.pos/\((params.defaults=[]/\i.dd=[])\/∃n a p,params.defaults=[.Constant (.int n) a p]/\i.dd=[n]/\cl≠ [])/\params.kw_defaults=[]/\params.kwonlyargs=[]/\annTrees params none X.env=[]
 q:qualnameIn X.env i.x i.x=i.q
 code:X.env.code=.ref c
 tab:PySem.W.tabIn X.K nm=some (c,Pt)
 hd:PySem.W.codeHdIn X.K c Pt=true
 bm:gB X.mg X.base
 clo:closureFor (aF i.st) X.env=pure cl
 nam:cl.map (·.1)=caps.map (·.1)
 g_:caps.map (·.1)=i.fr
 cel:∀p∈cl,X.env.cells.lookup p.1=some p.2
 cap:∀p∈caps,X.N[p.2]? =some p.1/\X.env.scope.names.lookup p.1=some .cell/\p.2≠j
 nd:X.N.Nodup
 jx:X.N[j]? =some i.x
 jl:X.env.scope.names.lookup i.x=some .local
 db:(i.x==("__debug__":Str))=false
 cd:(i.x==("__classdict__":Str))=false
theorem Ej {X:Cx}{H Hh:Hp}{s:Shared}{K:Fgx}{mg:Mgx}{P0 P:Pl}{H0:Hp}{Os:List (Option Addr)}{M:Mm}{st:L2.St}{env:Env}{j:Nat}{v0:V}{H2:Hp}
    (I:Inv X [] (st.set j (some v0)) Hh s) (k:Ok K mg P0 H0 P Os H M st env):
    ∀{caps:List (Str×Nat)} {cl:List (Str×Addr)} {cs:List (Str×D)},fJ env caps=some cs->cl.map (·.1)=caps.map (·.1)->(∀p∈cl,X.env.cells.lookup p.1=some p.2)->(∀p∈caps,X.N[p.2]? =some p.1/\X.env.scope.names.lookup p.1=some .cell/\p.2≠j)->
    (∀p∈cl,∀o,s.heap.get? p.2=some o->H2 p.2=some (.frz o (.own p.2)))->cs.map (·.1)=caps.map (·.1)/\∃vs,aq K P H (cs.map (·.2)) vs/\gh H2 cl vs
  | [],[],cs,e,_,_,_,_=>by
    cases e;exact⟨rfl,[],rfl,rfl⟩
  | [],_::_,_,_,n,_,_,_=>by cases n
  |_::_,[],_,_,n,_,_,_=>by cases n
  |p::caps,q::cl,cs,e,n,hc,hp,h2=>by
    rw[X7,X7,List.cons.injEq]at n;unfold fJ at e;split at e
    · rename_i d ed;rw[Ww]at e;obtain⟨cs',e',rfl⟩:=e;obtain⟨n2,vs,i2,c2⟩:=Ej I k e' n.2 (fun z hz=>hc z (W4 _ hz)) (fun z hz=>hp z (W4 _ hz)) fun z hz=>h2 z (W4 _ hz);obtain⟨hN,hk,hj⟩:=hp p (by simp);obtain⟨v,ev,iv⟩:=k.slot p.2 _ ed;have ev':(st.set j (some v0))[p.2]? =some (some v):=by
        rw[Zg (Yn hj)]
        cases q:st[p.2]? with
        |none=>rw[q]at ev;cases ev
        |some w=>rw[q]at ev;exact congrArg some ev
      obtain⟨m,_,hl⟩:=I.loc;obtain⟨u,ru,lk⟩:=hl p.2 p.1 v hN ev' (.inr (.inl hk));refine⟨by simp[n2],v::vs,⟨v,vs,rfl,iv,i2⟩,?_⟩;rcases lk with⟨k0,_⟩ |⟨_,c,hcell,o,ho,hd⟩
      · have k0':X.env.scope.names.lookup p.1=some .local:=k0;rw[hk]at k0';cases k0'
      · have eq:q.2=c:=by
          have:=hc q (by simp);rw[n.1,hcell]at this;cases this;rfl
        exact⟨v,vs,u,o,rfl,ru,h2 q (by simp) o (by rw[eq];exact ho),hd,c2⟩
    · cases e
theorem set_same {α:Type}{l:List α}{k:Nat}{x:α}(h:l[k]? =some x):l.set k x=l:=by
 obtain⟨hl,rfl⟩:=WD.mp h;exact List.set_getElem_self hl
theorem Gy {X:Cx}{Wx:XW}{nm:Str}{i:FnT}{caps:List (Str×Nat)}{cl:List (Str×Addr)}{c Pt:Addr}{j:Nat}{p1 p2:Pos}{s:Shared}{σ:L2.St}{H:Hp}{D:Ends}{P0 P:Pl}{H0:Hp}{Os:List (Option Addr)}{env:Env}{M:Mm}{cs:List (Str×E3.D)}(m:MkOk X nm i caps cl c Pt j)
  (I:Inv X [] σ H s) (k:Ok X.K X.mg P0 H0 P Os H M σ env) (ec:fJ env caps=some cs) (q:Post X.K X.mg Wx P0 H0 P H (M ++ [.fn i cs]) D (.rt (.ref M.length)))
  (h2:Heap) (tk:Nat) (f c':Addr) (dV doc ctv:Value) (Hb:Hp) (I1:Inv X [] σ (upd Hb f (.frz (gZ X.mg i cl dV doc ctv c') (.own f))) {s with heap:=h2,toks:=tk}) (lb:LtE P H P Hb) (hkb:Hk X.K X.mg P Hb M) (hf:Hb f=none) (hcod:dM Hb c' i.q) (hdf:cZ Hb i.dd dV):
  wpAny (model X.prog X.w) X.A (storeName X.env i.x (.ref f)) (fun _ s''=>wpAny (model X.prog X.w) X.A (execs [.Return (some (.Name i.x p1)) p2] X.env) (XP X D) X.xe s'') X.xe {s with heap:=h2,toks:=tk}:=by
 refine vh I1 m.nd m.jx (.inl m.jl) (show RelV (.ref f) (.ref f) from rfl) (fun s2 I2=>?_) (.inr m.jl);have jσ:j<σ.length:=by rw[I.len];exact(WD.mp m.jx).1
 refine Y8 (wpAny_Return_some (aR (tO m.jx (.inl m.jl) m.db m.cd [] s2 _ _ (fun v H'=>v=.ref f/\H'=upd Hb f (.frz (gZ X.mg i cl dV doc ctv c') (.own f))) I2 ⟨.ref f,Y0 jσ,rfl,rfl⟩) fun u s3 h3=>?_));obtain⟨v,H3,I3,rv,ev,eH⟩:=h3;subst ev eH;obtain rfl:u=Value.ref f:=rv;have hcl:∀a∈cl.map (·.2),upd Hb f (.frz (gZ X.mg i cl dV doc ctv c') (.own f)) a=none/\X.s₀.heap.objs.size<=a/\∃o,s3.heap.get? a=some o:=by
  intro a ha;obtain⟨p,hp,rfl⟩:=Xn.mp ha;have e1:=m.cel p hp;obtain⟨v,o,ho,_⟩:=I3.cell p.1 p.2 e1;exact⟨(I3.freeC p.1 p.2 e1).resolve_right fun z=>(by have z1:=z.1;rw[m.fn]at z1;cases z1),I3.ok.cab p.1 p.2 (m.fn _) e1,o,ho⟩
 obtain⟨un,hok,same,atc⟩:=Li I3 m.ex hcl;obtain⟨n2,vs,iv,cv⟩:=Ej I3 k ec m.nam m.cel m.cap fun p hp o ho=>atc p.2 (Xn.mpr ⟨p,hp,rfl⟩) o ho;have sb:Same Hb (lW (upd Hb f (.frz (gZ X.mg i cl dV doc ctv c') (.own f))) s3.heap (cl.map (·.2))):=Same.trans (j_ hf) same;obtain⟨P2,pn,pio,l2,hk2⟩:=JM (c:=.fn i cs) hkb sb hf (by rw[same f _ bJ];exact fun z=>nomatch z) fun P' _ _ l=>⟨cl,dV,doc,ctv,c',vs,same f _ bJ,⟨hcod.up (fun b o u e=>sb b _ e),hdf.up (fun b o u e=>sb b _ e)⟩,⟨m.nam.trans n2.symm,n2.trans m.g_⟩,aq.lt (l.lt hkb) (aq.lt (lb.lt k.hk) iv),cv,fun x y a e1 e2=>I.ok.inj x y a (m.cel (x,a) (Xa e1)) (m.cel (y,a) (Xa e2))⟩
 exact⟨.ref f,_,I3.os,I3.bare,un,hok,rfl,q P2 (.ref f) _ (k.base.trans (lb.trans l2)) hk2 ⟨by rw[pn,k.hk.n];exact YJ _,by rw[<-k.hk.n,pio]⟩⟩
section
variable {M:Model}{A:Around}{E:Value->Shared->Prop}{s:Shared}{name qual:Str}{params:Arguments}{body:List Stmt}{scope:Scope}{env:PySem.Env}{c Pt:Addr}{ps:Array Value}{pos:Pos}{ln:Nat}{mg:Mgx}{cl:List (Str×Addr)}{dV:Value}{Q:Value->Shared->Prop}
theorem Uw (hcl:closureFor scope env=pure cl)(hne:cl≠ [])(hge:env.globals=mainGlobals)(hg:s.heap.Ns mainGlobals mg)(hcode:env.code=.ref c)(C:PySem.W.CodeHd s.heap c Pt)(hP:s.heap.get? Pt=some (PySem.W.tabObj ps))(ht:TriplesOk ps.toList)(hnf:codeAmong pos ps.toList=none)(hgP:mainGlobals≠Pt)(hb:s.heap.BuiltinsAt mg Pt)
  (h:∀c' ctv doc h' tk,Heap.ExtBut Pt s.heap h'->s.heap.objs.size<=c'->c'<h'.objs.size->h'.CodeRec (.ref c') qual->h'.get? Pt=some (PySem.W.tabObj (ps ++ #[rawInt pos.line,rawInt pos.col,.ref c']))->
   Q (.ref h'.objs.size) {s with heap:=h'.push {cls:=.type "function",data:=.func (PySem.W.fnX name qual params body scope cl dV .none doc ((mg "__name__").getD .none) none (.ref c') ctv)},toks:=tk}):wpAny M A (makeTail name qual params (.stmts body) scope env dV .none none pos ln) Q E s:=by
 have ie:cl.isEmpty=false:=by cases cl with |nil=>exact absurd rfl hne |cons a r=>rfl
 obtain⟨bm,ob,b1,b2,_,b4,b5,b6,b7,b8⟩:=hb;have kp:∀(o:Obj) (b:Addr) (u:Obj),s.heap.get? b=some u->(s.heap.push o).get? b=some u:=fun o b u e=>tG o e;unfold makeTail;rw[hcl,hge];refine Wn (Wt ?_);simp only[ie,Xe,Yy];refine Wn (ZD ?_);refine Wn (wpAny_functionCodeX hcode ((C.keeps fun b o e=>tG _ e).code (tG _ hP) ht) ((C.keeps fun b o e=>tG _ e).tab (tG _ hP)) hnf fun c' h' tk hx hge' hlt _ hrec htb _=>?_);have hx':Heap.ExtBut Pt s.heap h':=fun b o n e=>hx b o n (kp _ b o e);have sz:s.heap.objs.size<=c':=W5 (by rw[Yc];exact Ym _) hge';have hg':=(hg.push _).extBut hx hgP;refine Wn (wpAny_builtinsFor hg' b1 b2 (hx' _ _ b4 b5) b6 b7 b8 (Wn (wpAny_nsGet hg' ?_)))
 cases hdoc:docOf body with
 |none=>exact Wn (Wt (Yk (h c' _ .none h' tk hx' sz hlt hrec htb.2) (by size_fits)))
 |some t=>exact Wn (wpAny_mkText (Yk (h c' _ _ h' _ hx' sz hlt hrec htb.2) (by size_fits)))
theorem Ux {cv:Value}(hcl:closureFor scope env=pure cl)(hne:cl≠ [])(hge:env.globals=mainGlobals)(hg:s.heap.Ns mainGlobals mg)(hcode:env.code=.ref c)(C:PySem.W.CodeHd s.heap c Pt)(hP:s.heap.get? Pt=some (PySem.W.tabObj ps))(ht:TriplesOk ps.toList)(hf:codeAmong pos ps.toList=some cv)(hb:s.heap.BuiltinsAt mg Pt)
  (h:∀(ctv doc:Value) (h':Heap) (tk:Nat),(∀b o,s.heap.get? b=some o->h'.get? b=some o)->s.heap.objs.size<=h'.objs.size->
   Q (.ref h'.objs.size) {s with heap:=h'.push {cls:=.type "function",data:=.func (PySem.W.fnX name qual params body scope cl dV .none doc ((mg "__name__").getD .none) none cv ctv)},toks:=tk}):wpAny M A (makeTail name qual params (.stmts body) scope env dV .none none pos ln) Q E s:=by
 have ie:cl.isEmpty=false:=by cases cl with |nil=>exact absurd rfl hne |cons a r=>rfl
 obtain⟨bm,ob,b1,b2,_,b4,b5,b6,b7,b8⟩:=hb;have kp:∀(o:Obj) (b:Addr) (u:Obj),s.heap.get? b=some u->(s.heap.push o).get? b=some u:=fun o b u e=>tG o e;unfold makeTail;rw[hcl,hge];refine Wn (Wt ?_);simp only[ie,Xe,Yy];refine Wn (ZD ?_);refine Wn (wpAny_functionCode_hit hcode ((C.keeps fun b o e=>tG _ e).code (tG _ hP) ht) hf ?_);refine Wn (wpAny_builtinsFor (hg.push _) b1 b2 (tG _ b5) b6 b7 b8 (Wn (wpAny_nsGet (hg.push _) ?_)));have sz:∀o:Obj,s.heap.objs.size<=(s.heap.push o).objs.size:=fun o=>by rw[Yc];exact Ym _
 cases hdoc:docOf body with
 |none=>exact Wn (Wt (Yk (h _ .none _ s.toks (fun b o e=>tG _ e) (sz _)) (by size_fits)))
 |some t=>exact Wn (wpAny_mkText (Yk (h _ _ _ _ (fun b o e=>tG _ e) (sz _)) (by size_fits)))
theorem def_dflt {Q:Flow->Shared->Prop}{n:Int}{a:Nat}{p:Pos}(hd:params.defaults=[.Constant (.int n) a p])(hk:params.kw_defaults=[])(hko:params.kwonlyargs=[])(ha:annTrees params none env=[])
  (h:wpAny M A (makeTail name (qualnameIn env name name) params (.stmts body) scope env (.ref s.heap.objs.size) .none none pos pos.line) (fun v s'=>wpAny M A (storeName env name v) (fun _ s''=>Q .next s'') E s') E {s with heap:=s.heap.push {cls:=.type "tuple",data:=.seq #[.int n s.toks]},toks:=s.toks + 1}):
  wpAny M A (exec (.FunctionDef name params body [] none [] scope none name pos) env) Q E s:=by
 rw[exec_def];refine Wn (ZL (Wn (Yw ?_)));rw[defaultsOf_eq,hd,hk,ha];refine Wn (wpAny_evalAll_cons (wpAny_Constant_int (wpAny_evalAll_nil ?_)));refine Wn (Yw (Wt ?_));refine Yw (Wn (Wt ?_));rw[makeFunction_eq,hko];refine Wn (ZD ?_);exact Xg h (fun v s' h'=>Wn (ZL (Wn (wpAny_bindName (Xg h' (fun _ _ h''=>Wt h'') fun _ _ x=>x))))) fun _ _ x=>x
end
theorem SJ {X:Cx}{Wx:XW}{kt:Nat}{nm:Str}{i:FnT}{caps:List (Str×Nat)}{cl:List (Str×Addr)}{c Pt:Addr}{j:Nat}{p1 p2:Pos}(m:MkOk X nm i caps cl c Pt j):lY X Wx [i.st,.Return (some (.Name i.x p1)) p2] (fW kt nm i caps):=by
  intro s σ H D I hh;obtain⟨P0,H0,P,Os,env,M,out,M',k,e,q⟩:=hh;unfold fW at e;split at e
  · rename_i nm' i' hM;split at e
    · rename_i hni;obtain⟨rfl,rfl⟩:=hni;rw[Ww]at e;obtain⟨cs,ec,e⟩:=e;cases e;obtain⟨c0,ps,ht,hPt0,hps⟩:kO X.K H (P.io kt) nm' i':=k.hk.cell kt _ hM;obtain⟨rfl,rfl⟩:c=c0/\Pt=P.io kt:=by
        have z:=m.tab.symm.trans ht;cases z;exact⟨rfl,rfl⟩
      have KX:=I.kIn;have C:=xaD KX m.hd;have hP:s.heap.get? (P.io kt)=some (PySem.W.tabObj ps):=I.hok _ _ hPt0;have hg:s.heap.Ns mainGlobals X.mg:=I.ok.mod.glob.keeps I.bk;have tr:∀{b:Addr} {o:Obj},X.base.get? b=some o->b≠P.io kt:=fun g z=>by
        have:=(I.bs _ _ g).2;rw[z,hPt0]at this;cases this
      have hgP:mainGlobals≠P.io kt:=by
        obtain⟨o,_,_,g,_⟩:=I.ok.mod.glob;exact tr g
      obtain⟨bm,ob,b1,b2,b3,b4,b5,b6,b7⟩:=m.bm;have hbm:s.heap.BuiltinsAt X.mg (P.io kt):=⟨bm,ob,b1,b2,b3,tr b4,I.bk _ _ b4,b5,b6,b7⟩;obtain⟨params,body,scope,hst,dd,d2,d3,d4⟩:=m.st;have efo:∀dV doc ctv c',({cls:=.type "function",data:=.func (PySem.W.fnX i'.x i'.q params body scope cl dV .none doc ((X.mg "__name__").getD .none) none (.ref c') ctv)}:Obj)=gZ X.mg i' cl dV doc ctv c':=fun dV doc ctv c'=>by
        unfold gZ;rw[hst];rfl
      have hcl':closureFor scope X.env=pure cl:=by
        have:=m.clo;rw[hst]at this;exact this
      -- a state behind the making:what is new is tracked
      have lay:∀(hn:Hp) (h':Heap) (tk:Nat) (c':Addr) (dV doc ctv:Value) (ps':Array Value) (oc:Obj) (fs:Array Value) (t:Tok) (hd:cZ hn i'.dd dV),(∀b,b<s.heap.objs.size->hn b=H b)->(∀b u,s.heap.objs.size<=b->hn b=some u->b<h'.objs.size/\b≠c'/\∃ob,u=.frz ob (.own b)/\h'.get? b=some ob)->
          (∀b o,b≠P.io kt->s.heap.get? b=some o->h'.get? b=some o)->s.heap.objs.size<=c'->c'<h'.objs.size->h'.get? c'=some oc->oc.data=.fields fs->fs[1]? =some (.str i'.q t)->h'.get? (P.io kt)=some (PySem.W.tabObj #[rawInt i'.pos.line,rawInt i'.pos.col,.ref c'])->ps= #[]->
          wpAny (model X.prog X.w) X.A (storeName X.env i'.x (.ref h'.objs.size)) (fun _ s''=>wpAny (model X.prog X.w) X.A (execs [.Return (some (.Name i'.x p1)) p2] X.env) (XP X D) X.xe s'') X.xe {s with heap:=h'.push (gZ X.mg i' cl dV doc ctv c'),toks:=tk}:=by
        intro hn h' tk c' dV doc ctv ps' oc fs t hd hold hnew kp hge hlt hoc hdat hv htb hps0;subst hps0;have ltH:∀{b:Addr} {u:HO},H b=some u->b<s.heap.objs.size:=fun e=>(I.hok _ _ e).lt;have sN:Same H hn:=fun b u e=>by rw[hold b (ltH e)];exact e
        have hPn:hn (P.io kt)=some (.tbl #[]):=sN _ _ hPt0;have hc0:hn c'=none:=by
          cases z:hn c' with
          |none=>rfl
          |some u=>exact absurd rfl (hnew c' u hge z).2.1
        have neP:c'≠P.io kt:=fun z=>by rw[z,hPn]at hc0;cases hc0
        have fge:s.heap.objs.size<=h'.objs.size:=W5 hge (Zf hlt);have hf0:hn h'.objs.size=none:=by
          cases z:hn h'.objs.size with
          |none=>rfl
          |some u=>exact absurd (hnew _ u fge z).1 (Xm _)
        have nfP:h'.objs.size≠P.io kt:=fun z=>by rw[z,hPn]at hf0;cases hf0
        have nfc:h'.objs.size≠c':=YC hlt;have sa:Same H (upd hn c' (.frz oc (.own c'))):=Same.trans sN (j_ hc0);have hka:=k.hk.same sa;have frz1:∀b o u,hn b=some (.frz o u)->upd (upd hn c' (.frz oc (.own c'))) (P.io kt) (.tbl #[rawInt i'.pos.line,rawInt i'.pos.col,.ref c']) b=some (.frz o u):=fun b o u e=>by
          rw[aM (fun z=>by rw[z,hPn]at e;cases e),aM (fun z=>by rw[z,hc0]at e;cases e)];exact e
        have cod:dM (upd (upd hn c' (.frz oc (.own c'))) (P.io kt) (.tbl #[rawInt i'.pos.line,rawInt i'.pos.col,.ref c'])) c' i'.q:=⟨oc,fs,t,by rw[aM neP];exact bJ,hdat,hv⟩;obtain⟨_,lE,hkb⟩:=hka.set (c':=.tbl nm' i') (o':=.tbl #[rawInt i'.pos.line,rawInt i'.pos.col,.ref c']) hM ⟨c,_,m.tab,bJ,.inr ⟨c',rfl,cod⟩⟩;rw[set_same hM]at hkb;refine Gy m I k ec q _ tk h'.objs.size c' dV doc ctv _ (FP (tk:=tk) I hPt0 (fun b o hb g=>tG _ (kp b o hb g)) (fun b hb hbp=>?_) ⟨#[rawInt i'.pos.line,rawInt i'.pos.col,.ref c'],?_,?_⟩ fun a o ha ea=>?_) ((LtE.same sa).trans lE) hkb (by rw[aM nfP,aM nfc];exact hf0) cod (hd.up frz1)
        · rw[aM (WQ (Wo hb fge)),aM hbp,aM (WQ (Wo hb hge))];exact hold b hb
        · rw[aM nfP.symm,bJ]
          simp
        · refine tG _ ?_;rw[htb]
          simp[PySem.W.tabObj]
        · by_cases h1:a=h'.objs.size
          · subst h1;rw[bJ]at ea;cases ea;exact⟨_,rfl,WL _ rfl⟩
          · rw[aM h1]at ea
            by_cases h2:a=P.io kt
            · exact absurd (Wo (ltH hPt0) (h2 ▸ ha)) (Xm _)
            · rw[aM h2]at ea
              by_cases h3:a=c'
              · subst h3;rw[bJ]at ea;cases ea;exact⟨_,rfl,tG _ hoc⟩
              · rw[aM h3]at ea;obtain⟨_,_,ob,e1,e2⟩:=hnew a o ha ea;exact⟨ob,e1,tG _ e2⟩
      have lay2:∀(hn:Hp) (h':Heap) (tk:Nat) (c':Addr) (dV doc ctv:Value) (hd:cZ hn i'.dd dV),dM H c' i'.q->(∀b,b<s.heap.objs.size->hn b=H b)->(∀b u,s.heap.objs.size<=b->hn b=some u->b<h'.objs.size/\∃ob,u=.frz ob (.own b)/\h'.get? b=some ob)->
          (∀b o,s.heap.get? b=some o->h'.get? b=some o)->s.heap.objs.size<=h'.objs.size->
          wpAny (model X.prog X.w) X.A (storeName X.env i'.x (.ref h'.objs.size)) (fun _ s''=>wpAny (model X.prog X.w) X.A (execs [.Return (some (.Name i'.x p1)) p2] X.env) (XP X D) X.xe s'') X.xe {s with heap:=h'.push (gZ X.mg i' cl dV doc ctv c'),toks:=tk}:=by
        intro hn h' tk c' dV doc ctv hd hcod hold hnew kp fge;have ltH:∀{b:Addr} {u:HO},H b=some u->b<s.heap.objs.size:=fun e=>(I.hok _ _ e).lt;have sN:Same H hn:=fun b u e=>by rw[hold b (ltH e)];exact e
        have hf0:hn h'.objs.size=none:=by
          cases z:hn h'.objs.size with
          |none=>rfl
          |some u=>exact absurd (hnew _ u fge z).1 (Xm _)
        have nfP:h'.objs.size≠P.io kt:=fun z=>by rw[z,sN _ _ hPt0]at hf0;cases hf0
        refine Gy m I k ec q _ tk h'.objs.size c' dV doc ctv hn (FP (tk:=tk) I hPt0 (fun b o _ g=>tG _ (kp b o g)) (fun b hb hbp=>?_) ⟨#[],?_,?_⟩ fun a o ha ea=>?_) (LtE.same sN) (k.hk.same sN) hf0 (hcod.up fun b o u e=>sN b _ e) hd
        · rw[aM (WQ (Wo hb fge))];exact hold b hb
        · rw[aM nfP.symm,sN _ _ hPt0]
          simp
        · refine tG _ ?_;rw[kp _ _ hP]
          simp[PySem.W.tabObj]
        · by_cases h1:a=h'.objs.size
          · subst h1;rw[bJ]at ea;cases ea;exact⟨_,rfl,WL _ rfl⟩
          · rw[aM h1]at ea;obtain⟨_,ob,e1,e2⟩:=hnew a o ha ea;exact⟨ob,e1,tG _ e2⟩
      have nH:∀{b:Addr} {u:HO},s.heap.objs.size<=b->H b=some u->False:=fun hb e=>absurd (Wo (I.hok _ _ e).lt hb) (Xm _);refine Y8 ?_;rw[hst];rcases dd with⟨d1,e1⟩ |⟨n,a,p,d1,e1,ne⟩
      · refine PySem.W.nestDef_K d1 d2 d4 ?_;rw[m.q];rcases hps with rfl |⟨c',rfl,hcod⟩
        · refine PySem.W.makeFunction_K hcl' I.ok.glob hg m.code C hP trivial rfl hgP hbm fun c' ctv doc h' tk hx hge hlt hrec htb=>?_;obtain⟨c2,oc,fs,t,e2,hoc,hdat,hv⟩:=hrec;cases e2;have key:=lay H h' tk c' .none doc ctv #[] oc fs t (.inl ⟨e1,rfl⟩) (fun _ _=>rfl) (fun b u hb e=>(nH hb e).elim) hx hge hlt hoc hdat hv (by rw[htb];simp) rfl;rw[<-efo]at key;exact key
        · refine PySem.W.makeFunction_hit hcl' I.ok.glob hg m.code C hP (by simp[TriplesOk,rawInt]) (show codeAmong i'.pos _=some (.ref c') by simp[codeAmong,rawInt]) hbm fun ctv doc h' tk hkp hsz=>?_;have key:=lay2 H h' tk c' .none doc ctv (.inl ⟨e1,rfl⟩) hcod (fun _ _=>rfl) (fun b u hb e=>(nH hb e).elim) hkp hsz;rw[<-efo]at key;exact key
      · refine def_dflt d1 d2 d3 d4 ?_;rw[m.q];have pk:∀(o:Obj) (b:Addr) (u:Obj),s.heap.get? b=some u->(s.heap.push o).get? b=some u:=fun o b u e=>tG o e;have psz:(s.heap.push {cls:=.type "tuple",data:=.seq #[.int n s.toks]}).objs.size=s.heap.objs.size + 1:=Yc ..;have td:(s.heap.push {cls:=.type "tuple",data:=.seq #[.int n s.toks]}).get? s.heap.objs.size=some {cls:=.type "tuple",data:=.seq #[.int n s.toks]}:=WL _ rfl;have tP:s.heap.objs.size≠P.io kt:=fun z=>nH (xaJ z) hPt0;have hbm2:(s.heap.push {cls:=.type "tuple",data:=.seq #[.int n s.toks]}).BuiltinsAt X.mg (P.io kt):=⟨bm,ob,b1,b2,b3,tr b4,pk _ _ _ (I.bk _ _ b4),b5,b6,b7⟩;have hdf:cZ (upd H s.heap.objs.size (.frz {cls:=.type "tuple",data:=.seq #[.int n s.toks]} (.own s.heap.objs.size))) i'.dd (.ref s.heap.objs.size):=.inr ⟨by rw[e1];exact fun z=>(nomatch z),s.heap.objs.size,_,_,_,rfl,bJ,rfl,by rw[e1];exact .cons ⟨_,rfl⟩ .nil⟩
        have hold:∀b,b<s.heap.objs.size->upd H s.heap.objs.size (.frz {cls:=.type "tuple",data:=.seq #[.int n s.toks]} (.own s.heap.objs.size)) b=H b:=fun b hb=>aM (WQ hb);have hnw:∀b u,s.heap.objs.size<=b->upd H s.heap.objs.size (.frz {cls:=.type "tuple",data:=.seq #[.int n s.toks]} (.own s.heap.objs.size)) b=some u->b=s.heap.objs.size/\u=.frz {cls:=.type "tuple",data:=.seq #[.int n s.toks]} (.own b):=fun b u hb e=>by
          by_cases z:b=s.heap.objs.size
          · subst z;rw[bJ]at e;cases e;exact⟨rfl,rfl⟩
          · rw[aM z]at e;exact(nH hb e).elim
        rcases hps with rfl |⟨c',rfl,hcod⟩
        · refine Uw (mg:=X.mg) (c:=c) (Pt:=P.io kt) (ps:= #[]) hcl' ne I.ok.glob (hg.push _) m.code (C.keeps (pk _)) (pk _ _ _ hP) trivial rfl hgP hbm2 fun c' ctv doc h' tk hx hge hlt hrec htb=>?_;obtain⟨c2,oc,fs,t,e2,hoc,hdat,hv⟩:=hrec;cases e2;have hge':s.heap.objs.size + 1<=c':=by rw[<-psz];exact hge
          have key := lay _ h' tk c' _ doc ctv #[] oc fs t hdf hold (fun b u hb e=>by
            obtain⟨rfl,rfl⟩:=hnw b u hb e;exact⟨Wo (YJ _) (W5 hge' (Zf hlt)),WQ hge',_,rfl,hx _ _ tP td⟩) (fun b o hb g=>hx b o hb (pk _ b o g)) (W5 (Ym _) hge') hlt hoc hdat hv (by rw[htb];simp) rfl
          rw[<-efo]at key;exact key
        · refine Ux (mg:=X.mg) (c:=c) (Pt:=P.io kt) hcl' ne I.ok.glob (hg.push _) m.code (C.keeps (pk _)) (pk _ _ _ hP) (by simp[TriplesOk,rawInt]) (show codeAmong i'.pos _=some (.ref c') by simp[codeAmong,rawInt]) hbm2 fun ctv doc h' tk hkp hsz=>?_;have hsz':s.heap.objs.size + 1<=h'.objs.size:=by rw[<-psz];exact hsz
          have key := lay2 _ h' tk c' _ doc ctv hdf hcod hold (fun b u hb e=>by
            obtain⟨rfl,rfl⟩:=hnw b u hb e;exact⟨hsz',_,rfl,hkp _ _ td⟩) (fun b o g=>hkp b o (pk _ b o g)) (W5 (Ym _) hsz')
          rw[<-efo]at key;exact key
    · cases e
  · cases e
end E3
namespace E3
open PySem PySem.Spec PyProof.Rows L2
section
variable {P:Program}{w:World}{K:Fgx}{mg:Mgx}{base:Heap}{k:Nat}{x qual:Str}{st:Stmt}{f:Addr}{fd:FuncData}{N ps:List Str}{b:S}
theorem Py {X:Cx}{st:List Stmt}{t:TS}(h:PX X.nox st t):PX X st t:=fun s σ H D I hw=>Xg (h s σ H D (I.wish _) hw) (fun _ _ q=>q) fun _ _ z=>False.elim z
theorem Kf {c Pt:Addr}(F:FunD K x qual st f fd)(S:FnScope N ps (aF st))(hp:ps.length<=N.length)(hm:mg x=some (.ref f))(ht:PySem.W.tabIn K x=some (c,Pt))
    (hb:∀A outer s H E,Room k (A.deeper (envOfC qual (aF st) s.heap.objs.size f (.ref c)))->lY (lg P w K mg base N qual st f (.ref c) A outer s H E) W0 (bC st) b):FnOk P w K mg base dI (k + 1) f fd ps (kh K mg ps.length (cj N.length b)):=by
  obtain⟨oc,od,dV,kV,doc,pm,an,cdv,ct,osl,rfl,lk,hcd⟩:=F.ex;refine⟨fun vs H Q E h=>h.1,fun A outer s H args us vs Q E hr e0 hbd r hsp=>?_⟩;have hl:vs.length=ps.length:=hsp.1;have KX:K.In s.heap:=e0.mod.kin.keeps fun b o e=>(e0.bs b o e).1;obtain rfl:cdv=.ref c:=PySem.W.law_code e0.mod.kin e0.mod.glob ht hm (e0.mod.kin _ _ lk) rfl;have lim:s.heap.NoLimit:=e0.mod.nolimit.keeps fun b o e=>(e0.bs b o e).1;have hkind:∀y∈ps.zip us,(aF st).names.lookup y.1=some .local\/((aF st).names.lookup y.1=some .cell/\((cellsFrom (s.heap.objs.size + 1) (aF st).names []).lookup y.1).isSome=true):=fun⟨n,v⟩ hy=>by
    rcases S.par n (YT hy).1 with q |q
    · exact .inl q
    · exact .inr ⟨q,Y4 _ _ _ (.inl q)⟩
  refine Zd hr.depth (KX _ _ lk) rfl S.co S.gen rfl (xaI KX hcd) (hbd _ _ _ _ ?_);refine ZJ S.kind hkind fun env he s1 x=>?_;subst he;refine⟨lim.keeps x.toInCall.keep,codeAny_func ?_⟩;have I:Inv (dw dI P w K mg base N qual (aF st) f (.ref c) A outer s H E) [] (start N vs) H s1:=FQ S hr.hd e0 hl r x;obtain⟨_,Pl,M,ds,d,M',hk,is,e,q⟩:=hsp;have st0:=IV (N:=N) hk (by omega) is;have hq:tS K mg W0 b {nx:=fun _ H'=>Q .non H',rt:=Q} (start N vs) H:=by
    unfold cj bB at e;split at e
    · rename_i d' M2 eb;cases e;exact⟨Pl,H,Pl,_,_,M,_,_,st0,eb,fun P' v H' l h i=>q P' v H' l h i⟩
    · rename_i env M2 eb;cases e;exact⟨Pl,H,Pl,_,_,M,_,_,st0,eb,fun P' Os' H' st' _ k'=>q P' .non H' k'.base k'.hk rfl⟩
    · rename_i c n M2 eb;cases e
    · cases e
  refine Xg (Py (hb A outer s H E (hr.deeper _)) s1 (start N vs) H _ I hq) (fun fl s' hs=>?_) fun e s' hs=>hs
  cases fl with
  |ret u=>
    obtain⟨v,H',h1,h2,h3,h4,h5,h6⟩:=hs;exact⟨v,H',h1,h2,h3,h4,h5,h6⟩
  |next=>exact False.elim hs
  |brk=>
    obtain⟨_,_,z⟩:=hs;exact False.elim z
  |cont=>
    obtain⟨_,_,z⟩:=hs;exact False.elim z
theorem Kc {c Pt:Addr}(F:FunD K x qual st f fd)(S:FnScope N ps (aF st))(hp:ps.length<=N.length)(hm:mg x=some (.ref f))(hd:Binds K fd ps [])(ht:PySem.W.tabIn K x=some (c,Pt))
  (hb:∀A outer s H E,Room k (A.deeper (envOfC qual (aF st) s.heap.objs.size f (.ref c)))->lY (lg P w K mg base N qual st f (.ref c) A outer s H E) W0 (bC st) b):aZ P w K mg base (k + 1) x ps.length (cj N.length b):=
 ⟨f,fd,ps,[],[],_,hm,F.kp,Kf F S hp hm ht hb,hd,.nil,fun vs H Q E h=>by rw[Xr];exact h⟩
end
structure FnScopeC (N ps fr:List Str)(sc:Scope):Prop where
 kind:sc.kind=.function
 co:sc.isCoroutine=false
 gen:sc.isGenerator=false
 nd:N.Nodup
 pre:N.take ps.length=ps
 suf:N.drop (N.length - fr.length)=fr
 len:ps.length + fr.length<=N.length
 par:∀x∈ps,sc.names.lookup x=some .local
 fre:∀x∈fr,sc.names.lookup x=some .free
 all:∀y∈sc.names,y.2=.free->y.1∈fr
 noc:∀y∈sc.names,y.2≠ .cell
noncomputable def mQ (N:List Str) (vs cvs:List V):L2.St:=vs.map some ++ (List.replicate (N.length - vs.length - cvs.length) none ++ cvs.map some)
noncomputable def lq (np n:Nat) (ds:List D):Env:=(ds.take np).map .val ++ (List.replicate (n - ds.length) .un ++ (ds.drop np).map .val)
def lA (np n:Nat)(b:S):G:=fun ds M=>bB (b (lq np n ds) M)
noncomputable def vX (P:Program) (w:World) (K:Fgx) (mg:Mgx) (base:Heap) (N:List Str) (i:FnT) (f:Addr) (cd:Value) (cl:List (Str×Addr)) (A:Around) (outer:List PySem.Env) (s:Shared) (H:Hp):Cx where
 prog:=P
 w:=w
 K:=K
 mg:=mg
 base:=base
 A:=A.deeper (PySem.W.envX i.q (aF i.st) s.heap.objs.size f cd cl)
 N:=N
 s₀:=s
 H₀:=H
 env:=PySem.W.envX i.q (aF i.st) s.heap.objs.size f cd cl
 outer:=outer
 stack:=PySem.W.envX i.q (aF i.st) s.heap.objs.size f cd cl::outer
 ex:=[]
 calm:=true
 fn:=fun _=>false
 pn:=[]
 xe:=fun _ _=>False
theorem gh.get {H:Hp}:∀{cl:List (Str×Addr)} {vs:List V} {j:Nat} {p:Str×Addr},gh H cl vs->cl[j]? =some p->∃v u o,vs[j]? =some v/\RelV v u/\H p.2=some (.frz o (.own p.2))/\o.data=.cell (some u)
  | [],_,_,_,_,e=>by simp at e
  |q::cl,_,0,p,h,e=>by
    obtain⟨v,ws,u,o,e1,r,g,d,_⟩:=h
    simp at e
    subst e e1;exact⟨v,u,o,rfl,r,g,d⟩
  |q::cl,_,j + 1,p,h,e=>by
    obtain⟨v,ws,u,o,e1,_,_,_,h⟩:=h;subst e1;exact gh.get (j:=j) h (by simpa using e)
theorem gh.len {H:Hp}:∀{cl:List (Str×Addr)} {vs:List V},gh H cl vs->vs.length=cl.length
  | [],_,h=>by rw[show _=[] from h];rfl
  |q::cl,_,h=>by
    obtain⟨v,ws,u,o,e1,_,_,_,h⟩:=h;subst e1
    simp[h.len]
theorem wC {β:Type}:∀{l:List (Str×β)} {y:Str} {u:β},(l.map (·.1)).Nodup->(y,u)∈l->l.lookup y=some u
  | [],_,_,_,h=>nomatch h
  |(z,v)::l,y,u,nd,h=>by
    have nd':=X4.mp nd;rw[Yb];rcases W6.mp h with hm |hm
    · obtain⟨rfl,rfl⟩:=Prod.mk.inj hm;rw[Xl]
    · have:(y==z)=false:=by
        rw[XC];exact fun z'=>nd'.1 (Xn.mpr ⟨_,hm,z'⟩)
      rw[this];exact wC nd'.2 hm
theorem Jj {α β:Type}:∀{l:List α} {m:List β},l.length=m.length->(l.zip m).map (·.1)=l
  | [],[],_=>rfl
  | [],_::_,h=>by simp at h
  |_::_,[],h=>by simp at h
  |a::l,b::m,h=>by
    rw[YW,X7,Jj (by simpa using h)]
theorem zip_get {α β:Type}:∀{l:List α} {m:List β} {i:Nat} {a:α} {b:β},l[i]? =some a->m[i]? =some b->(a,b)∈l.zip m
  | [],_,_,_,_,h,_=>by simp at h
  |_::_,[],_,_,_,_,h=>by simp at h
  |a::l,b::m,0,_,_,h1,h2=>by
    simp at h1 h2
    subst h1 h2
    simp
  |a::l,b::m,i + 1,_,_,h1,h2=>by
    rw[YW];exact W4 _ (zip_get (i:=i) (by simpa using h1) (by simpa using h2))
section
variable {P:Program}{w:World}{K:Fgx}{mg:Mgx}{base:Heap}{k:Nat}{i:FnT}{N ps:List Str}{b:S}
theorem KD {fr:List Str}{f:Addr}{cd:Value}{cl:List (Str×Addr)}{A:Around}{outer:List PySem.Env}{s:Shared}{H:Hp}{us:List Value}{vs cvs:List V}{h':Heap}{tk:Nat}(S:FnScopeC N ps fr (aF i.st))(hd:A.handled=none)(e0:Env0 P w K mg base A outer s H)
    (hl:vs.length=ps.length) (r:Vals vs us) (hfr:cl.map (·.1)=fr) (hc:gh H cl cvs) (hi:∀x y a,cl.lookup x=some a->cl.lookup y=some a->x=y)
    (hns:h'.Ns s.heap.objs.size (fun x=>(ps.zip us).reverse.lookup x)) (hk:∀b o,s.heap.get? b=some o->h'.get? b=some o):
    Inv (vX P w K mg base N i f cd cl A outer s H) [] (mQ N vs cvs) H {s with heap:=h',toks:=tk}:=by
  have noA:∀b:Addr,b∉(vX P w K mg base N i f cd cl A outer s H).ex:=fun b z=>absurd (show b∈([]:List Addr) from z) (by simp);have ndf:(cl.map (·.1)).Nodup:=by rw[hfr, <-S.suf];exact S.nd.sublist (List.drop_sublist _ _)
  have cll:cvs.length=fr.length:=by rw[hc.len, <-hfr,WK]
  have S_len:=S.len;have cellAt:∀y c,cl.lookup y=some c->∃u o,H c=some (.frz o (.own c))/\o.data=.cell (some u)/\h'.get? c=some o:=fun y c e=>by
    obtain⟨j,hj⟩:=List.getElem?_of_mem (Xa e);obtain⟨v,u,o,_,_,g,d⟩:=hc.get hj;exact⟨u,o,g,d,hk _ _ (e0.hok _ _ g).1⟩
  have ulen:us.length=ps.length:=by rw[<-r.length];exact hl
  have ndP:ps.Nodup:=by rw[<-S.pre];exact S.nd.sublist (xaP _ _)
  refine ⟨⟨e0.mod,S.kind,rfl,rfl,Wq _,hi,fun y hy=>?_,(fun y c z=>nomatch z),fun _=>hd,Around.frames_deeper e0.frames,.inr ⟨rfl,rfl⟩,fun b z=>absurd z (noA b),e0.bs,e0.bsz,fun b _ _=>noA b,fun b z=>absurd z (noA b),e0.funs,e0.frf⟩,
    rfl,e0.bare,Un.kept hk,⟨_,hns,fun n y v h1 h2 h3=>?_⟩,fun y c h=>?_,e0.hok.fresh (Wq _),fun y c h=>?_,fun p hp=>absurd (show p∈([]:Pnx) from hp) (by simp),e0.hok.kept hk,?_⟩
  · have hy:(aF i.st).names.lookup y=some .cell\/(aF i.st).names.lookup y=some .free:=hy;rcases hy with hy |hy
    · exact absurd rfl (S.noc _ (Xa hy))
    · have:y∈cl.map (·.1):=by rw[hfr];exact S.all _ (Xa hy) rfl
      obtain⟨p,hp,rfl⟩:=Xn.mp this;exact⟨p.2,wC ndf hp⟩
  · unfold mQ at h2
    by_cases hn:n<vs.length
    · rw[WW (by simpa using hn),Wy]at h2;have ha:vs[n]? =some v:=by
        cases e:vs[n]? with
        |none=>rw[e]at h2;cases h2
        |some a=>rw[e]at h2;cases h2;rfl
      obtain⟨u,hu,rv⟩:=r.get ha;have hp:ps[n]? =some y:=by rw[<-S.pre,Z8 (by omega)];exact h1
      refine⟨u,rv,.inl ⟨S.par y (WX hp),?_⟩⟩;refine wC ?_ (List.mem_reverse.mpr (zip_get hp hu));rw[List.map_reverse,Jj ulen.symm];exact(List.reverse_perm _).nodup_iff.mpr ndP
    · rw[WR (by simpa using hn),WK]at h2
      by_cases hn2:n - vs.length<N.length - vs.length - cvs.length
      · rw[WW (by simpa using hn2),Xc,Wv hn2]at h2;cases h2
      · rw[WR (by simpa using hn2),XH,Wy]at h2;have ha:cvs[n - vs.length - (N.length - vs.length - cvs.length)]? =some v:=by
          cases e:cvs[n - vs.length - (N.length - vs.length - cvs.length)]? with
          |none=>rw[e]at h2;cases h2
          |some a=>rw[e]at h2;cases h2;rfl
        have hf:fr[n - vs.length - (N.length - vs.length - cvs.length)]? =some y:=by
          have:(N.drop (N.length - fr.length))[n - vs.length - (N.length - vs.length - cvs.length)]? =some y:=by
            rw[List.getElem?_drop, <-h1];congr 1;omega
          rw[S.suf]at this;exact this
        rw[<-hfr,Wy,Ww]at hf;obtain⟨p,hp,rfl⟩:=hf;obtain⟨v',u,o,ev,ru,g,d⟩:=hc.get hp;rw[ha]at ev;cases ev;refine⟨u,ru,.inr ⟨.inr (S.fre _ (by rw[<-hfr];exact Xn.mpr ⟨p,WX hp,rfl⟩)),p.2,wC ndf (WX hp),o,hk _ _ (e0.hok _ _ g).1,d⟩⟩
  · obtain⟨u,o,_,d,g⟩:=cellAt y c h;exact⟨some u,o,g,d⟩
  · obtain⟨u,o,g,_,_⟩:=cellAt y c h;exact .inr ⟨rfl,o,_,g⟩
  · unfold mQ;show _=N.length;rw[Wz,Wz,WK,XH,WK];omega
theorem Ua {Pl:Pl}{H:Hp}{M:Mm}{ds cds:List D}{vs cvs:List V}(hk:Hk K mg Pl H M)(hl:vs.length + cvs.length<=N.length)(h:aq K Pl H ds vs)(hc:aq K Pl H cds cvs):
  Ok K mg Pl H Pl (List.replicate N.length none) H M (mQ N vs cvs) (lq ds.length N.length (ds ++ cds)):=by
 have hd:=h.len;have hd2:=hc.len;have ee:lq ds.length N.length (ds ++ cds)=ds.map .val ++ (List.replicate (N.length - vs.length - cvs.length) .un ++ cds.map .val):=by
  unfold lq;rw[List.take_left,List.drop_left,Wz,hd,hd2,Nat.sub_sub]
 rw[ee];refine⟨hk,LtE.refl Pl H,hk.here,fun n s e=>?_,fun a z=>?_,fun n j a e1 _=>?_,by simp;omega,by simp[mQ];omega⟩
 ·have e0:((List.replicate N.length (none:Option Addr))[n]?).join=none:=by
   rw[Xc]
   split<;>rfl
  rw[e0];unfold mQ
  by_cases hi:n<ds.length
  ·rw[WW (by simpa using hi),Wy,Wu hi]at e;simp only[YQ,xaQ]at e;subst e;obtain⟨v,ev,p⟩:=h.get (Wu hi);refine⟨v,?_,p⟩;rw[WW (by rw[WK];omega),Wy,ev];rfl
  ·rw[WR (by simpa using hi),WK]at e
   by_cases h2:n - ds.length<N.length - vs.length - cvs.length
   ·rw[WW (by simpa using h2),Xc,Wv h2]at e;cases e;exact True.intro
   ·rw[WR (by simpa using h2),XH,Wy,Ww]at e;obtain⟨d,ed,rfl⟩:=e;obtain⟨v,ev,p⟩:=hc.get ed;rw[<-hd]at ev;refine⟨v,?_,p⟩;rw[WR (by rw[WK];omega),WK,WR (by rw[XH];omega),XH,Wy,ev];rfl
 ·exact absurd (xaf z) (by simp)
 ·rw[Xc]at e1;split at e1<;>cases e1
def gA (P:Program)(w:World)(K:Fgx)(mg:Mgx)(base:Heap)(k:Nat)(i:FnT)(n:Nat)(g:G):Prop:=
 ∀(A:Around) (outer:List PySem.Env) (s:Shared) (H:Hp) (us:List Value) (vs:List V) (Q:VK) (E:XK) (f:Addr) (caps:List (Str×D)) (Pl:Pl) (M:Mm) (ds:List D) (d:D) (M':Mm),Room k A->Env0 P w K mg base A outer s H->Vals vs us->vs.length=n->
  Hk K mg Pl H M->gj K mg Pl H f i caps->aq K Pl H ds vs->g (ds ++ caps.map (·.2)) M=some (.v d,M')->(∀P' v H',LtE Pl H P' H'->Hk K mg P' H' M'->Is K P' H' d v->Q v H')->codeAny (model P w) A (.call (.ref f) ⟨us,[]⟩) (CR dI outer P w H s Q E) s
theorem gA.mono {j:Nat}{n:Nat}{g:G}(a:gA P w K mg base j i n g)(h:j<=k):gA P w K mg base k i n g:=fun A outer s H us vs Q E f caps Pl M ds d M' hr=>a A outer s H us vs Q E f caps Pl M ds d M' (hr.mono h)
def kI (i:FnT)(ps:List Str)(n:Nat)(dn:List Int):Prop:=n + dn.length=ps.length/\∀(H:Hp) (s:Shared) (mgv:Value) (cl:List (Str×Addr)) (dV doc ctv cd:Value) (us:List Value),us.length=n->cZ H i.dd dV->(∀a o u,H a=some (.frz o u)->s.heap.get? a=some o)->
 ∃us',Vals (dn.map V.int) us'/\BindsTo s (PySem.W.fnX i.x i.q (cg i.st) (bC i.st) (aF i.st) cl dV .none doc mgv none cd ctv) ⟨us,[]⟩ (ps.zip (us ++ us'))
theorem Ga {K:Fgx}{P:Pl}{H:Hp}:∀dn:List Int,aq K P H (dn.map D.int) (dn.map V.int)
 | []=>rfl
 |_::r=>⟨_,_,rfl,rfl,Ga r⟩
theorem Gb {K:Fgx}{P:Pl}{H:Hp}:∀{ds es:List D} {vs ws:List V},aq K P H ds vs->aq K P H es ws->aq K P H (ds ++ es) (vs ++ ws)
  | [],_,_,_,h,g=>by
    obtain rfl:=h;exact g
  |_::_,_,_,_,⟨v,r,e,h,t⟩,g=>by
    subst e;exact⟨v,_,rfl,h,Gb t g⟩
theorem Ke {n:Nat}{dn:List Int}{g:G}(S:FnScopeC N ps i.fr (aF i.st))(hbn:kI i ps n dn)(hg:∀ds cs M,ds.length=n->g (ds ++ cs) M=lA ps.length N.length b ((ds ++ dn.map .int) ++ cs) M)
    (hb:∀f cd cl A outer s H,Room k (A.deeper (PySem.W.envX i.q (aF i.st) s.heap.objs.size f cd cl))->SB (vX P w K mg base N i f cd cl A outer s H) W0 (bC i.st) b):gA P w K mg base (k + 1) i n g:=by
  intro A outer s H us0 vs0 Q E f caps Pl M ds0 d M' hr e0 r0 hn0 hk fc is0 e q;obtain⟨cl,dV,doc,ctv,c,cvs,e1,⟨e2,edf⟩,⟨e3,hfr'⟩,e4,e5,e6⟩:=fc;obtain⟨oc,fs,t,c1,c2,c3⟩:=e2;have ho:s.heap.get? f=some (gZ mg i cl dV doc ctv c):=(e0.hok f _ e1).1;have hcr:s.heap.CodeRec (.ref c) i.q:=⟨c,oc,fs,t,rfl,(e0.hok c _ c1).1,c2,c3⟩;have lim:s.heap.NoLimit:=e0.mod.nolimit.keeps fun b o e=>(e0.bs b o e).1;obtain⟨us',rd,hbt⟩:=hbn.2 H s ((mg "__name__").getD .none) cl dV doc ctv (.ref c) us0 (by rw[<-r0.length];exact hn0) edf fun a o u z=>(e0.hok a _ z).1;rw[hg _ _ _ (by rw[<-hn0];exact is0.len.symm)]at e;have r:Vals (vs0 ++ dn.map V.int) (us0 ++ us'):=r0.append rd;have hn:(vs0 ++ dn.map V.int).length=ps.length:=by rw[Wz,WK,hn0];exact hbn.1
  have is:aq K Pl H (ds0 ++ dn.map D.int) (vs0 ++ dn.map V.int):=Gb is0 (Ga dn);clear is0 r0 rd hn0 hg;generalize us0 ++ us'=us at r hbt;generalize vs0 ++ dn.map V.int=vs at r hn is;generalize ds0 ++ dn.map D.int=ds at is e;have ulen:us.length=ps.length:=by rw[<-r.length];exact hn
  have kept:∀h':Heap,Heap.SameBut s.heap.objs.size (s.heap.push {cls:=.type "frame",data:=.dict #[]}) h'->∀b o,s.heap.get? b=some o->h'.get? b=some o:=fun h' hs b o g=>by
    rw[hs.2 b (WQ (Ws g))];exact tG _ g
  refine Zd hr.depth ho rfl S.co S.gen rfl hcr (hbt _ _ _ _ ?_);refine wpAny_newFunctionEnv S.noc (fun y hy=>S.par _ (YT hy).1) (fun h' hns hsame=>⟨lim.keeps (kept h' hsame),codeAny_func ?_⟩) S.kind;have cll:cvs.length=i.fr.length:=by rw[e5.len, <-hfr', <-e3,WK]
  have S_len:=S.len;have dl:=is.len;have I:=KD (P:=P) (w:=w) (base:=base) (f:=f) (cd:=.ref c) (A:=A) (outer:=outer) (tk:=s.toks + (ps.zip us).length) S hr.hd e0 hn r (e3.trans hfr') e5 e6 hns (kept h' hsame);have st0:=Ua (N:=N) (ds:=ds) (cds:=caps.map (·.2)) hk (by omega) is e4;rw[show ds.length=ps.length by omega]at st0;have hq:tS K mg W0 b {nx:=fun _ H'=>Q .non H',rt:=Q} (mQ N vs cvs) H:=by
    unfold lA bB at e;split at e
    · rename_i d' M2 eb;cases e;exact⟨Pl,H,Pl,_,_,M,_,_,st0,eb,fun P' v H' l h i=>q P' v H' l h i⟩
    · rename_i env M2 eb;cases e;exact⟨Pl,H,Pl,_,_,M,_,_,st0,eb,fun P' Os' H' st' _ k'=>q P' .non H' k'.base k'.hk rfl⟩
    · rename_i c n M2 eb;cases e
    · cases e
  refine Xg (hb f (.ref c) cl A outer s H (hr.deeper _) [] _ (mQ N vs cvs) H _ I hq) (fun fl s' hs=>?_) fun e s' hs=>False.elim hs
  cases fl with
  |ret u=>
    obtain⟨v,σ',H',J,rv,z⟩:=hs;exact⟨v,H',J.os,J.bare,J.base,J.hok,rv,z⟩
  |next=>
    obtain⟨σ',H',J,z⟩:=hs;exact⟨.non,H',J.os,J.bare,J.base,J.hok,rfl,z⟩
  |brk=>
    obtain⟨_,_,_,z⟩:=hs;exact False.elim z
  |cont=>
    obtain⟨_,_,_,z⟩:=hs;exact False.elim z
end
open Classical in
noncomputable def nJ (i:FnT) (g:G) (f:E) (fs:EA):E:=fun env M=>bnd (f env M) fun d M1=>match d with
  | .ref k => (match M1[k]? with
    | some (.fn i' caps) => if i' = i then cO (fs env M1) fun ds M2 => (match g (ds ++ caps.map (·.2)) M2 with
      |some (.v z,M3)=>some (.v z,M3)
      |_=>none) else none
    |_=>none)
  |_=>none
section
variable {X:Cx}{Wx:XW}{m:Mode}{pos:Pos}
theorem S7 {k n:Nat}{hd:Expr}{i:FnT}{g:G}{e:Expr}{es:List Expr}{f:E}{fs:EA}(a:gA X.prog X.w X.K X.mg X.base k i n g)(hr:Room k X.A)(hf:SE X Wx .val hd f)(ha:SA X Wx .val (e::es) fs)(hn:rH n fs)
    (he:starEach (e::es) X.env=(false,eval e X.env)::starEach es X.env:=by rfl) (hpl:(backTo pos (starEach es X.env)).any (·.1)=false:=by rfl) (hce:eval (.Call hd (e::es) [] pos) X.env=(eval hd X.env >>=fun v=>callWith pos v [] (backTo pos (starEach (e::es) X.env)) (backToKw pos (keywordEach [] X.env))):=by rfl):SE X Wx m (.Call hd (e::es) [] pos) (nJ i g f fs):=by
  intro pins s σ H Q I hh;rw[hce];obtain⟨P0,H0,P,Os,env,M,r,M',k,e,q⟩:=hh;unfold nJ at e;rcases dh e with⟨d,M1,e1,e3⟩ |⟨c,n,e1,rfl⟩
  · clear e;split at e3
    · rename_i kk;split at e3
      · rename_i i' caps em;split at e3
        · rename_i hi;subst hi;refine Wn (aR (hf pins s σ H (fun v H1=>∃P1,LtE P H P1 H1/\Hk X.K X.mg P1 H1 M1/\Is X.K P1 H1 (.ref kk) v) I ⟨P0,H0,P,Os,env,M,_,_,k,e1,fun P1 v H1 l h i=>⟨P1,l,h,i⟩⟩) fun u s1 h1=>?_);obtain⟨v,H1,I1,rv,P1,l1,h1,kl,rfl⟩:=h1;obtain rfl:u=Value.ref (P1.io kk):=rv;have fc:gj X.K X.mg P1 H1 (P1.io kk) i' caps:=h1.cell kk _ em;have fat:∀{s2:Shared} {H2:Hp},Inv X pins σ H2 s2->(∀b o u,H1 b=some (.frz o u)->H2 b=some (.frz o u))->PySem.W.FnAt (P1.io kk) s2.heap:=fun {s2 H2} J sm=>by
            obtain⟨cl,dV,doc,ctv,c,cvs,g1,_⟩:=fc;exact⟨_,_,_,_,(J.hok _ _ (sm _ _ _ g1)).1⟩
          have k1:=k.next l1 h1
          rcases m7 e3 with⟨ds,M2,e2,e4⟩ |⟨c,n',e2,rfl⟩
          · split at e4
            · rename_i z M3 eg;cases e4;refine xaM (fat I1 fun _ _ _ z=>z) (aR (ha pos pins s1 σ H1 (fun vs H2=>∃P2,LtE P1 H1 P2 H2/\Hk X.K X.mg P2 H2 M2/\bN X.K P2 H2 .val ds vs) I1 ⟨P0,H0,P1,Os,env,M1,_,_,k1,e2,fun P2 vs H2 l2 h2 i2=>⟨P2,l2,h2,i2⟩⟩) fun us s2 h2=>?_) he hpl;obtain⟨vs,H2,I2,rvs,P2,l2,h2,i2⟩:=h2;have l2t:=l2.lt h1;refine⟨fat I2 l2t.frz,?_⟩;have fc2:gj X.K X.mg P2 H2 (P1.io kk) i' caps:=fc.up l2t.frz fun _ _ q=>aq.lt l2t q;refine wpAny_call (Zh (a X.A X.stack s2 H2 us vs Q E0 (P1.io kk) caps P2 M2 ds z _ hr I2.env0 rvs (by rw[i2.len];exact hn _ _ _ _ e2) h2 fc2 i2.iss eg fun P3 v H3 l3 h3 i3=>q P3 v H3 (l1.trans (l2.trans l3)) h3 (c7.of h3 i3)) fun r s' hq=>?_)
              cases r with
              |error e=>exact False.elim hq
              |ok fl=>
                cases fl with
                |ret u=>exact I2.after hq
                |next=>exact False.elim hq
                |brk=>exact False.elim hq
                |cont=>exact False.elim hq
            · cases e4
          · refine xaM (fat I1 fun _ _ _ z=>z) (aR (ha pos pins s1 σ H1 (fun _ _=>False) I1 ⟨P0,H0,P1,Os,env,M1,_,_,k1,e2,q⟩) fun us s2 h2=>?_) he hpl;obtain⟨_,_,_,_,z⟩:=h2;exact z.elim
        · cases e3
      · cases e3
    · cases e3
  · refine Wn (aR (hf pins s σ H (fun _ _=>False) I ⟨P0,H0,P,Os,env,M,_,_,k,e1,q⟩) fun u s1 h1=>?_);obtain⟨_,_,_,_,z⟩:=h1;exact z.elim
end
end E3
namespace E3
open PySem PySem.Spec PyProof.Rows L2
noncomputable def aN (K:Fgx) (nm:Str):Addr:=((PySem.W.tabIn K nm).getD (0,0)).2
noncomputable def tabsOk (K : Fgx) (T : List (Str × FnT)) (ts : List Addr) : Bool := (T.all fun p=>match PySem.W.tabIn K p.1 with
 |some (c,P)=>PySem.W.codeHdIn K c P && (K.lookup P).isNone && ts.contains P
 |none=>false) && decide ((T.map fun p=>aN K p.1).Nodup)
theorem I_ {K:Fgx}{T:List (Str×FnT)}{ts:List Addr}(h:tabsOk K T ts=true):(∀p∈T,∃c,PySem.W.tabIn K p.1=some (c,aN K p.1)/\PySem.W.codeHdIn K c (aN K p.1)=true/\K.lookup (aN K p.1)=none/\aN K p.1∈ts)/\(T.map fun p=>aN K p.1).Nodup:=by
  unfold tabsOk at h;rw[W2,XF]at h;refine⟨fun p hp=>?_,Yl h.2⟩;have:=h.1 p hp;unfold aN
  cases e:PySem.W.tabIn K p.1 with
  |none=>rw[e]at this;cases this
  |some q=>
    obtain⟨c,P⟩:=q;rw[e]at this;simp only[W2,Option.isNone_iff_eq_none,List.contains_iff_mem]at this;exact⟨c,rfl,this.1.1,this.1.2,this.2⟩
def fV (T:List (Str×FnT)):Mm:=T.map fun p=>Cl.tbl p.1 p.2
def yC (K:Fgx)(T:List (Str×FnT))(H:Hp):Prop:=∀p∈T,H (aN K p.1)=some (.tbl #[])
theorem Le {P:Program}{w:World}{K:Fgx}{mg mb:Mgx}{CX:dJ}{k:Nat}{fa a:Addr}{fd:FuncData}{x:Str}{sp:Sp}{s₁:Shared}{vs:List Value}{ns:List Int}{T:List (Str×FnT)}{ts:List Addr}
    (hT:tabsOk K T ts=true) (hts:∀P∈ts,s₁.heap.get? P=some (PySem.W.tabObj #[])) (hbm:gB mg s₁.heap)
    (KX:K.In s₁.heap) (hns:s₁.heap.Ns mainGlobals mg) (hb:s₁.heap.Ns builtinsNs mb) (hbb:∀x:Str,x≠"__name__"->mb x=bootBuiltins x) (hlim:s₁.heap.NoLimit) (hg:s₁.gens= #[])
    (ha:s₁.heap.get? a=some {cls:=.type "list",data:=.seq vs.toArray}) (hi:IntsAre vs ns) (hl:ns.length<=sizeLine) (hr:Room k callerA)
    (F:∀base:Heap,K.In base->base.Ns mainGlobals mg->gB mg base->FnOk P w K mg base CX k fa fd [x] sp) (hbind:∀(s:Shared) (u:Value),BindsTo s fd ⟨[u],[]⟩ [(x,u)])
    (hsp:∀H:Hp,yC K T H->aY K H a (ns.map V.int)->sp [.ref a] H (fun v _=>v=.bl true) fun _ _ _=>False)
    (hCX:∀H e s',CX [] H s₁ (fun _ _ _=>False) e s'->False):
    codeAny (model P w) callerA (.call (.ref fa) ⟨[.ref a],[]⟩) (fun r s'=>r=.ok (.ret (.bool true))/\OldK s₁.heap s'.heap/\s'.os=s₁.os/\AllBare s'.gens) s₁:=by
  have rv:=Jg hi;have lenV:=hi.length;obtain⟨tb,tnd⟩:=I_ hT;have inT:∀{b:Addr},(b∈T.map fun p=>aN K p.1)->(∃c,PySem.W.codeHdIn K c b=true)/\K.lookup b=none/\s₁.heap.get? b=some (PySem.W.tabObj #[]):=fun {b} h=>by
    obtain⟨p,hp,rfl⟩:=Xn.mp h;obtain⟨c,_,e2,e3,e4⟩:=tb p hp;exact⟨⟨c,e2⟩,e3,hts _ e4⟩
  have naT:(a∈T.map fun p=>aN K p.1)->False:=fun h=>by
    have:=(inT h).2.2;rw[ha]at this;cases this
  have core:∀H:Hp,(∀b,H b=none\/(∃o xs,H b=some (.frz o (.lst xs))/\b=a)\/((b∈T.map fun p=>aN K p.1)/\H b=some (.tbl #[])))->yC K T H->aY K H a (ns.map V.int)->bL P w H s₁.heap->(H a≠none->K.lookup a=none)->
      codeAny (model P w) callerA (.call (.ref fa) ⟨[.ref a],[]⟩) (fun r s'=>r=.ok (.ret (.bool true))/\OldK s₁.heap s'.heap/\s'.os=s₁.os/\AllBare s'.gens) s₁:=by
    intro H hO hTT hS hok hK;have base_of:∀{b:Addr} {o:Obj},s₁.heap.get? b=some o->H b=none->(cQ s₁.heap H).get? b=some o:=fun e n=>Ks e n;have noA:∀{b:Addr} {o:Obj} {es:Array DictEntry} {ep:Nat},s₁.heap.get? b=some o->o.data=.dict es ep->H b=none:=fun {b o es ep} e d=>by
      rcases hO b with z |⟨_,_,_,z⟩ |⟨z,_⟩
      · exact z
      · subst z;rw[ha]at e;cases e;have d':Data.seq vs.toArray _=Data.dict es ep:=d;cases d'
      · rw[(inT z).2.2]at e;cases e;have d':Data.fields _=Data.dict es ep:=d;cases d'
    have nsK : ∀ {b : Addr} {m : Mgx}, s₁.heap.Ns b m -> (cQ s₁.heap H).Ns b m := fun {b m} ⟨o, es, ep, e, d, r⟩ => ⟨o, es, ep, base_of e (noA e d), d, r⟩;have hKb : K.In (cQ s₁.heap H) := fun b o e => base_of (KX b o e) (by
      rcases hO b with z |⟨o',xs,q,z⟩ |⟨z,_⟩
      · exact z
      · subst z;rw[hK (by rw[q];exact fun z=>nomatch z)]at e
        cases e
      · rw[(inT z).2.1]at e;cases e)
    have hB:gB mg (cQ s₁.heap H):=by
      obtain⟨bm,ob,b1,b2,b3,b4,b5,b6,b7⟩:=hbm;refine⟨bm,ob,b1,b2,b3,base_of b4 ?_,b5,b6,b7⟩;rcases hO bm with z |⟨_,_,_,z⟩ |⟨z,_⟩
      · exact z
      · subst z;rw[ha]at b4;cases b4;cases b7
      · rw[(inT z).2.2]at b4;cases b4;cases b7
    have hM:Mod K mg (cQ s₁.heap H):=⟨hKb,nsK hns,⟨mb,nsK hb,hbb⟩,let ⟨mc,h1,h2⟩:=hlim;⟨mc,nsK h1,h2⟩⟩
    have e0:Env0 P w K mg (cQ s₁.heap H) callerA [] s₁ H:=⟨rfl,hM,fun b o e=>Np e,xaJ (Ku _ _),trivial,fun b hb=>absurd (show b∈([]:List Addr) from hb) (by simp),hok,.of_eq hg⟩;refine Zh ((F _ hKb (nsK hns) hB).run callerA [] s₁ H ⟨[.ref a],[]⟩ [.ref a] [.ref a] _ _ hr e0 (hbind s₁ (.ref a)) (.cons rfl .nil) (hsp H hTT hS)) fun r s' h=>?_
    cases r with
    |error e=>exact(hCX H e s' h).elim
    |ok fl=>
      cases fl with
      |next=>exact False.elim h
      |brk=>exact False.elim h
      |cont=>exact False.elim h
      |ret u=>
        obtain⟨v,H',os,bare,un,hok',r',q⟩:=h;have q':v=.bl true:=q;subst q';obtain rfl:u=Value.bool true:=r';refine⟨rfl,⟨fun b o e=>?_,fun b o e=>un.there b o e (by simp)⟩,os,bare⟩;rcases hO b with z |⟨ob,xs,z,_⟩ |⟨hm,z⟩
        · exact .inl (un.keep b o e z (by intro y;exact absurd (show b∈([]:List Addr) from y) (by simp)) (by simp))
        · have z2:=un.frzs b ob _ z;obtain⟨e1,_⟩:=hok b _ z;obtain⟨e2,_⟩:=hok' b _ z2;rw[e]at e1;cases e1;exact .inl e2
        · obtain⟨⟨c,hc⟩,_,hg⟩:=inT hm;obtain⟨more,z2⟩:=un.tbls b _ z;have g2:s'.heap.get? b=some {cls:=.none,data:=.fields (#[] ++ more)}:=hok' b _ z2;rw[hg]at e;cases e;exact .inr (.inl ⟨((xaD KX hc).tab hg).isCodeTable,rfl, #[],more,rfl,g2⟩)
  cases hk:K.lookup a with
  |some o=>
    have e:=KX a o hk;rw[ha]at e;cases e;refine core (fun b=>if (b∈T.map fun p=>aN K p.1) then some (.tbl #[]) else none) (fun b=>?_) (fun p hp=>Wv (Xn.mpr ⟨p,hp,rfl⟩)) (.inr ⟨_,vs.toArray,_,hk,rfl,rfl,rfl,by rw[Wr,lenV];exact hl,by simpa using rv⟩) (fun b u z=>?_) fun z=>absurd (WY naT) z
    · by_cases hb:(b∈T.map fun p=>aN K p.1)
      · exact .inr (.inr ⟨hb,Wv hb⟩)
      · exact .inl (WY hb)
    · by_cases hb:(b∈T.map fun p=>aN K p.1)
      · have z':=(Wv hb).symm.trans z;cases z';exact(inT hb).2.2
      · have z':=(WY hb).symm.trans z;cases z'
  |none=>
    refine core (fun b=>if b=a then some (.frz {cls:=.type "list",data:=.seq vs.toArray} (.lst (ns.map V.int))) else if (b∈T.map fun p=>aN K p.1) then some (.tbl #[]) else none) (fun b=>?_) (fun p hp=>?_) (.inl (.inr ⟨{cls:=.type "list",data:=.seq vs.toArray},Wv rfl⟩)) (fun b u z=>?_) fun _=>hk
    · by_cases hb:b=a
      · exact .inr (.inl ⟨_,_,Wv hb,hb⟩)
      · by_cases ht:(b∈T.map fun p=>aN K p.1)
        · exact .inr (.inr ⟨ht,(WY hb).trans (Wv ht)⟩)
        · exact .inl ((WY hb).trans (WY ht))
    · have hm:(aN K p.1∈T.map fun p=>aN K p.1):=Xn.mpr ⟨p,hp,rfl⟩;have hne:aN K p.1≠a:=fun z=>naT (by rw[<-z];exact hm);exact(WY hne).trans (Wv hm)
    · by_cases hb:b=a
      · have z':=(Wv hb).symm.trans z;cases z';subst hb;exact⟨ha,by rw[WK];exact hl,vs,_,rv,ha⟩
      · have z1:=(WY hb).symm.trans z
        by_cases ht:(b∈T.map fun p=>aN K p.1)
        · have z':=(Wv ht).symm.trans z1;cases z';exact(inT ht).2.2
        · have z':=(WY ht).symm.trans z1;cases z'
theorem GD {α:Type}:∀{l:List α} {i j:Nat} {x:α},l.Nodup->l[i]? =some x->l[j]? =some x->i=j
  | [],_,_,_,_,h,_=>by simp at h
  |a::l,0,0,_,_,_,_=>rfl
  |a::l,0,j + 1,x,nd,h1,h2=>by
    simp at h1
    subst h1;exact absurd (WX (by simpa using h2)) (X4.mp nd).1
  |a::l,i + 1,0,x,nd,h1,h2=>by
    simp at h2
    subst h2;exact absurd (WX (by simpa using h1)) (X4.mp nd).1
  |a::l,i + 1,j + 1,x,nd,h1,h2=>congrArg (· + 1) (GD (X4.mp nd).2 (by simpa using h1) (by simpa using h2))
theorem Lf {K:Fgx}{g:G}{H:Hp}{a:Addr}{ns:List Int}{T:List (Str×FnT)}{ts:List Addr}(hT:tabsOk K T ts=true)(hg:∃M,g [.lst (ns.map D.int)] (fV T)=some (.v (.bl true),M))(hO:yC K T H)(hS:aY K H a (ns.map V.int)):xU K g [.ref a] H (fun v _=>v=.bl true) fun _ _ _=>False:=by
 intro mg;obtain⟨M,e⟩:=hg;obtain⟨tb,tnd⟩:=I_ hT;have at_:∀{k:Nat} {p:Str×FnT},T[k]? =some p->(T[k]?.map fun p=>aN K p.1).getD 0=aN K p.1:=fun h=>by rw[h];rfl
 refine⟨rfl,⟨fun k=>(T[k]?.map fun p=>aN K p.1).getD 0,T.length,fun b=>∃p∈T,aN K p.1=b⟩,fV T,[.lst (ns.map D.int)],.bl true,M,⟨by simp[fV],fun k c e=>?_,fun j k h1 h2 z=>?_,fun k h=>?_,fun b z=>?_⟩,⟨.ref a,[],rfl,⟨a,ns.map V.int,rfl,?_,FZ ns⟩,rfl⟩,e,fun P' v H' _ _ i=>i⟩
 ·unfold fV at e;rw[Wy,Ww]at e;obtain⟨p,hp,rfl⟩:=e;have hm:=WX hp;obtain⟨c,e1,_⟩:=tb p hm;show kO K H ((T[k]?.map fun p=>aN K p.1).getD 0) p.1 p.2;rw[at_ hp];exact⟨c, #[],e1,hO p hm,.inl rfl⟩
 ·have g1:T[j]? =some T[j]:=Wu h1;have g2:T[k]? =some T[k]:=Wu h2;have z':(T[j]?.map fun p=>aN K p.1).getD 0=(T[k]?.map fun p=>aN K p.1).getD 0:=z;rw[at_ g1,at_ g2]at z';exact GD tnd (x:=aN K T[k].1) (by rw[Wy,g1];exact congrArg some z') (by rw[Wy,g2];rfl)
 ·have g1:T[k]? =some T[k]:=Wu h;refine⟨T[k],Yo h,?_⟩;show _=(T[k]?.map fun p=>aN K p.1).getD 0;rw[at_ g1]
 ·obtain⟨p,hp,rfl⟩:=z;rw[hO p hp];exact fun z=>nomatch z
 ·rcases hS with h |h
  ·refine .inl ⟨fun⟨p,hp,z⟩=>?_,h⟩;have:=hO p hp;rw[z]at this;rcases h with h |⟨o,h⟩<;>rw[this]at h<;>cases h
  ·exact .inr h
theorem Vv {l:PySem.W.OpenLaw}{k:Nat}{q:Program}{loose:List Str}{XP:(Mgx)->Heap->Prop}{YP:World->Heap->Prop}{d:DefRec}{K:Params->Fgx}{x:Str}{g:G}{T:List (Str×FnT)}
  (hn:l.most=some 63) (hdf:d.params.defaults=[]) (hr:Room k callerA) (hY:∀(w:World) (h:Heap),YP w h->(K w.params).In h) (hZ:∀(w:World) (h:Heap),YP w h->∃ts,tabsOk (K w.params) T ts=true/\∀P∈ts,h.get? P=some (PySem.W.tabObj #[]))
  (F:∀(w:World) (mg:Mgx) (fa:Addr) (h:Heap),(K w.params).In h->h.Ns mainGlobals mg->mg d.name=some (.ref fa)->
   ∃fd:FuncData,(∀(s:Shared) (u:Value),BindsTo s fd ⟨[u],[]⟩ [(x,u)])/\
    ∀base:Heap,(K w.params).In base->base.Ns mainGlobals mg->gB mg base->FnOk l.prog w (K w.params) mg base dI k fa fd [x] (xU (K w.params) g))
  (hg:∀ns:List Int,ns.length<=63->∃M,g [.lst (ns.map D.int)] (fV T)=some (.v (.bl true),M)):PySem.W.WalkO q loose XP YP l.row.toRowW d [] (fun f vs=>PySem.call f vs):=by
 refine Att.Js hn hdf fun w s₀ s₁ mg mb fa o pm cd doc a vs ns G Y ho hd hcd hmg hobj hints hlen hgn=>?_;have KX:=hY w _ Y;obtain⟨ts,hT,hts⟩:=hZ w _ Y;obtain⟨fd,hb,hF⟩:=F w mg fa _ KX G.T.g hmg;have hbm:gB mg s₁.heap:=by
  obtain⟨bm,ob,b1,b2,b3,b4,b5,b6⟩:=G.T.bmain;refine⟨bm,ob,b1,b2,fun z=>?_,b3,b4,b5,b6⟩;obtain⟨o,es,ep,e,d,_⟩:=G.T.g;rw[z,e]at b3;cases b3;rw[d]at b6;cases b6
 exact Le hT hts hbm KX G.T.g G.T.b G.T.builtins G.T.nolimit hgn hobj hints (W5 hlen (by decide)) hr hF hb (fun H hO hS=>Lf hT (hg ns hlen) hO hS) fun H e s' z=>z
def inDef (s:Stmt)(j:Nat):Stmt:=(bC s).getD j s
noncomputable def J0 (s:Stmt):Pos:=match s with
 |.FunctionDef _ _ _ _ _ _ _ _ _ p=>p
 |_=>⟨0,0,0,0⟩
noncomputable def cA (caps:List (Str×Nat)) (env:PySem.Env):List (Str×Addr):=caps.map fun p=>(p.1,(env.cells.lookup p.1).getD 0)
abbrev LF (st:Stmt)(x:Str):Prop:=(aF st).names.lookup x=some .free
section
variable {X:Cx}{Wx:XW}
theorem Sy {k:Nat}{ss:List Stmt}{b:S}(hr:Room k X.A)(h:X.A.units + 60<cLine->lY X Wx ss b):lY X Wx ss b:=h (xaL (xaC (by decide) _) hr.units)
end
section
variable (P:Program)(w:World)(K:Fgx)(mg:Mgx)(base:Heap)(k:Nat)(f:Addr)(N:List Str)(q:Str)(st:Stmt)(b:S)(c:Addr)(i:FnT)
abbrev Dv:Prop:=∀(A:Around) (outer:List PySem.Env) (s:Shared) (H:Hp) (E:XK),Room k (A.deeper (envOfC q (aF st) s.heap.objs.size f (.ref c)))->lY (lg P w K mg base N q st f (.ref c) A outer s H E) W0 (bC st) b
abbrev vI:Prop:=∀(f:Addr) (cd:Value) (cl:List (Str×Addr)) (A:Around) (outer:List PySem.Env) (s:Shared) (H:Hp),Room k (A.deeper (PySem.W.envX i.q (aF i.st) s.heap.objs.size f cd cl))->SB (vX P w K mg base N i f cd cl A outer s H) W0 (bC i.st) b
end
section
variable {P:Program}{w:World}{K:Fgx}{mg:Mgx}{h base:Heap}{k:Nat}{f:Addr}{N ps:List Str}{x q:Str}{st:Stmt}{b:S}{c Pt:Addr}{i:FnT}
theorem Lx {CX:dJ}{A:Around}{outer:List PySem.Env}{s:Shared}{H:Hp}{E:XK}{nm:Str}{caps:List (Str×Nat)}{j:Nat}{X:Cx}(hX:X=dw CX P w K mg base N q (aF st) f (.ref c) A outer s H E\/X=(dw CX P w K mg base N q (aF st) f (.ref c) A outer s H E).nox)(tab:PySem.W.tabIn K nm=some (c,Pt))(hd:PySem.W.codeHdIn K c Pt=true)(bm:gB mg base)(nd:N.Nodup)
  (hst:∃params body scope,i.st=.FunctionDef i.x params body [] none [] scope none i.x i.pos/\((params.defaults=[]/\i.dd=[])\/∃n a p,params.defaults=[.Constant (.int n) a p]/\i.dd=[n]/\caps≠ [])/\params.kw_defaults=[]/\params.kwonlyargs=[]/\annTrees params none (envOfC q (aF st) s.heap.objs.size f (.ref c))=[])
  (hq:qualnameIn (envOfC q (aF st) s.heap.objs.size f (.ref c)) i.x i.x=i.q)
  (clo:closureFor (aF i.st) (envOfC q (aF st) s.heap.objs.size f (.ref c))=pure (cA caps (envOfC q (aF st) s.heap.objs.size f (.ref c))))
  (g_:caps.map (·.1)=i.fr) (cap:∀p∈caps,N[p.2]? =some p.1/\LC st p.1/\p.2≠j) (jx:N[j]? =some i.x) (jl:LV st i.x)
  (db:(i.x==("__debug__":Str))=false) (cd:(i.x==("__classdict__":Str))=false):
  MkOk X nm i caps (cA caps (envOfC q (aF st) s.heap.objs.size f (.ref c))) c Pt j:=by
 have cel:∀p∈cA caps (envOfC q (aF st) s.heap.objs.size f (.ref c)),(envOfC q (aF st) s.heap.objs.size f (.ref c)).cells.lookup p.1=some p.2:=fun p hp=>by
  obtain⟨r,hr,rfl⟩:=Xn.mp hp;obtain⟨a,e⟩:=za (n:=s.heap.objs.size + 1) (cap r hr).2.1;have e':(envOfC q (aF st) s.heap.objs.size f (.ref c)).cells.lookup r.1=some a:=e;show _=some ((_:Option Addr).getD 0);rw[e'];rfl
 have hst':∃params body scope,i.st=.FunctionDef i.x params body [] none [] scope none i.x i.pos/\((params.defaults=[]/\i.dd=[])\/∃n a p,params.defaults=[.Constant (.int n) a p]/\i.dd=[n]/\cA caps (envOfC q (aF st) s.heap.objs.size f (.ref c))≠ [])/\params.kw_defaults=[]/\params.kwonlyargs=[]/\annTrees params none (envOfC q (aF st) s.heap.objs.size f (.ref c))=[]:=by
  obtain⟨p,b,sc,e1,e2,r⟩:=hst;refine⟨p,b,sc,e1,e2.imp id fun⟨n,a,p,z1,z2,z3⟩=>⟨n,a,p,z1,z2,fun z=>z3 ?_⟩,r⟩;unfold cA at z;exact xaA.mp z
 rcases hX with rfl |rfl
 ·exact⟨rfl,fun _=>rfl,hst',hq,rfl,tab,hd,bm,clo,by simp[cA],g_,cel,cap,nd,jx,jl,db,cd⟩
 ·exact⟨rfl,fun _=>rfl,hst',hq,rfl,tab,hd,bm,clo,by simp[cA],g_,cel,cap,nd,jx,jl,db,cd⟩
theorem Lw {A:Around}{outer:List PySem.Env}{s:Shared}{H:Hp}{E:XK}{nm:Str}{caps:List (Str×Nat)}{j:Nat}(tab:PySem.W.tabIn K nm=some (c,Pt))(hd:PySem.W.codeHdIn K c Pt=true)(bm:gB mg base)(nd:N.Nodup)
  (hst:∃params body scope,i.st=.FunctionDef i.x params body [] none [] scope none i.x i.pos/\((params.defaults=[]/\i.dd=[])\/∃n a p,params.defaults=[.Constant (.int n) a p]/\i.dd=[n]/\caps≠ [])/\params.kw_defaults=[]/\params.kwonlyargs=[]/\annTrees params none (envOfC q (aF st) s.heap.objs.size f (.ref c))=[]:=by first |exact⟨_,_,_,rfl,.inl ⟨rfl,rfl⟩,rfl,rfl,rfl⟩ |exact⟨_,_,_,rfl,.inr ⟨_,_,_,rfl,rfl,fun z=>nomatch z⟩,rfl,rfl,rfl⟩)
  (hq:qualnameIn (envOfC q (aF st) s.heap.objs.size f (.ref c)) i.x i.x=i.q:=by kernel_rfl)
  (clo:closureFor (aF i.st) (envOfC q (aF st) s.heap.objs.size f (.ref c))=pure (cA caps (envOfC q (aF st) s.heap.objs.size f (.ref c))):=by kernel_rfl)
  (g_:caps.map (·.1)=i.fr:=by rfl) (cap:∀p∈caps,N[p.2]? =some p.1/\LC st p.1/\p.2≠j:=by x_go) (jx:N[j]? =some i.x:=by rfl) (jl:LV st i.x:=by kernel_rfl)
  (db:(i.x==("__debug__":Str))=false:=by x_go) (cd:(i.x==("__classdict__":Str))=false:=by x_go):
  MkOk (lg P w K mg base N q st f (.ref c) A outer s H E) nm i caps (cA caps (envOfC q (aF st) s.heap.objs.size f (.ref c))) c Pt j:=Lx (.inr rfl) tab hd bm nd hst hq clo g_ cap jx jl db cd
theorem bA.okM (F:bA K x st)(X:K.In h)(G:h.Ns mainGlobals mg)(S:FnScope N ps (aF st))(ht:PySem.W.tabIn K x=some (c,Pt))(hr:∀f,Dv P w K mg base k f N x st b c)
  (hb:HB x st ps:=by first |exact Dm rfl |exact Dp rfl |exact Dq rfl |exact Dr rfl |exact Ds rfl) (hp:ps.length<=N.length:=by decide):aZ P w K mg base (k + 1) x ps.length (cj N.length b):=by
 obtain⟨f,d,D⟩:=F.at X G hb;exact Kc D.F S hp D.mg D.b ht (hr f)
theorem SM {N ps fr:List Str}{sc:Scope}(h1:sc.kind=.function:=by rfl)(h2:sc.isCoroutine=false:=by rfl)(h3:sc.isGenerator=false:=by rfl)(h4:N.Nodup:=by x_go)(h5:N.take ps.length=ps:=by rfl)(h6:N.drop (N.length - fr.length)=fr:=by rfl)(h7:ps.length + fr.length<=N.length:=by decide)
  (h8:∀x∈ps,sc.names.lookup x=some .local:=by x_go) (h9:∀x∈fr,sc.names.lookup x=some .free:=by x_go) (h10:∀y∈sc.names,y.2=.free->y.1∈fr:=by x_go) (h11:∀y∈sc.names,y.2≠ .cell:=by x_go):FnScopeC N ps fr sc:=⟨h1,h2,h3,h4,h5,h6,h7,h8,h9,h10,h11⟩
theorem kI.of {n:Nat}{dn:List Int}(hl:n + dn.length=ps.length)(hd:i.dd=[])(h:dn=[]/\∀(s:Shared) (mgv:Value) (cl:List (Str×Addr)) (doc ctv cd:Value) (us:List Value),us.length=ps.length->BindsTo s (PySem.W.fnX i.x i.q (cg i.st) (bC i.st) (aF i.st) cl .none .none doc mgv none cd ctv) ⟨us,[]⟩ (ps.zip us)):kI i ps n dn:=
 ⟨hl,fun H s mgv cl dV doc ctv cd us hu hD hH=>by
  obtain⟨rfl,h⟩:=h;rcases hD with⟨_,rfl⟩ |⟨z,_⟩
  ·exact⟨[],.nil,by rw[Xr];exact h s mgv cl doc ctv cd us (by rw[hu, <-hl];rfl)⟩
  ·exact absurd hd z⟩
theorem kI.dfl {n:Nat}{dn:List Int}{z:Int}(hl:n + dn.length=ps.length)(hd:i.dd=[z])
    (h:∀(s:Shared) (mgv:Value) (cl:List (Str×Addr)) (td:Addr) (doc ctv cd:Value) (us:List Value) (o:Obj) (m t:Nat),us.length=n->s.heap.get? td=some o->o.data=.seq #[.int z t] m->∃us',Vals (dn.map V.int) us'/\BindsTo s (PySem.W.fnX i.x i.q (cg i.st) (bC i.st) (aF i.st) cl (.ref td) .none doc mgv none cd ctv) ⟨us,[]⟩ (ps.zip (us ++ us'))):kI i ps n dn:=
  ⟨hl,fun H s mgv cl dV doc ctv cd us hu hD hH=>by
    rcases hD with⟨e,_⟩ |⟨_,td,o,its,m,rfl,g,ed,r⟩
    · rw[hd]at e;cases e
    · rw[hd]at r;obtain⟨t,rfl⟩:∃t,its= #[.int z t]:=by
        rcases its with⟨l⟩;have r:Vals [V.int z] l:=r
        cases r with
        |cons a b=>
          cases b;obtain⟨t,rfl⟩:=a;exact⟨t,rfl⟩
      exact h s mgv cl td doc ctv cd us o m t hu (hH td o _ g) ed⟩
theorem yr {a0:Str}(hd:i.dd=[])(h:∀{mgv:Value} {cl:List (Str×Addr)} {doc ctv cd u0:Value},bindArgs (PySem.W.fnX i.x i.q (cg i.st) (bC i.st) (aF i.st) cl .none .none doc mgv none cd ctv) ⟨[u0],[]⟩=pure [(a0,u0)]):kI i [a0] 1 []:=
 .of rfl hd ⟨rfl,fun _ _ _ _ _ _ us hl=>match us,hl with | [_],_=>.of_eq h⟩
theorem yt {a0 a1:Str}(hd:i.dd=[])(h:∀{mgv:Value} {cl:List (Str×Addr)} {doc ctv cd u0 u1:Value},bindArgs (PySem.W.fnX i.x i.q (cg i.st) (bC i.st) (aF i.st) cl .none .none doc mgv none cd ctv) ⟨[u0,u1],[]⟩=pure [(a0,u0),(a1,u1)]):kI i [a0,a1] 2 []:=
 .of rfl hd ⟨rfl,fun _ _ _ _ _ _ us hl=>match us,hl with | [_,_],_=>.of_eq h⟩
theorem yu {a0 a1 a2:Str}{z:Int}(hd:i.dd=[z])(h:∀{s:Shared} {mgv:Value} {cl:List (Str×Addr)} {td:Addr} {doc ctv cd u0 u1 u2:Value} {o:Obj} {m t:Nat},s.heap.get? td=some o->o.data=.seq #[.int z t] m->BindsTo s (PySem.W.fnX i.x i.q (cg i.st) (bC i.st) (aF i.st) cl (.ref td) .none doc mgv none cd ctv) ⟨[u0,u1,u2],[]⟩ [(a0,u0),(a1,u1),(a2,u2)]):kI i [a0,a1,a2] 3 []:=
 .dfl rfl hd fun _ _ _ _ _ _ _ us _ _ _ hl g e=>match us,hl with | [_,_,_],_=>⟨[],.nil,h g e⟩
theorem vI.ok (S:FnScopeC N ps i.fr (aF i.st))(hb:vI P w K mg base k N b i)(hp:kI i ps ps.length []:=by first |exact yr rfl rfl |exact yt rfl rfl |exact yu rfl fun h₁ h₂=>BindsTo.of_defaults rfl h₁ h₂ rfl rfl):gA P w K mg base (k + 1) i ps.length (lA ps.length N.length b):=Ke S hp (fun ds cs M _=>by rw[List.map_nil,Xr]) hb
theorem gA.up {j n:Nat}{g:G}(a:gA P w K mg base j i n g)(h:j<=k:=by decide):gA P w K mg base k i n g:=a.mono h
end
noncomputable def n6 (K:Fgx) (x:Str):Bool:=match PySem.W.tabIn K x with
 |some (c,P)=>PySem.W.codeHdIn K c P
 |none=>false
theorem Uv {K:Fgx}{x:Str}(h:n6 K x=true):∃c P,PySem.W.tabIn K x=some (c,P)/\PySem.W.codeHdIn K c P=true:=by
 unfold n6 at h;split at h
 ·exact⟨_,_,by assumption,h⟩
 ·cases h
section
variable {env:Env}{M:Mm}{kt n np:Nat}{nm:Str}{i:FnT}{caps:List (Str×Nat)}{cs:List (Str×D)}{b:S}{ds:List D}
theorem z9 (h1:M[kt]? =some (.tbl nm i))(h2:fJ env caps=some cs):fW kt nm i caps env M=some (.rt (.ref M.length),M ++ [.fn i cs]):=by
 unfold fW;simp only[h1,and_self,X6,h2,YQ]
theorem Jv {g:G}{f:E}{fs:EA}{M1 M2 M3:Mm}{k:Nat}{fc:List (Str×D)}{z:D}(h1:f env M=some (.v (.ref k),M1))(h2:M1[k]? =some (.fn i fc))(h3:fs env M1=some (.v ds,M2))(h4:g (ds ++ fc.map (·.2)) M2=some (.v z,M3)):nJ i g f fs env M=some (.v z,M3):=by
 unfold nJ bnd;simp only[h1,h2,X6,cO,h3,h4]
end
end E3
namespace L2
open PySem PySem.Spec PyProof.Rows
section
variable {X:Cx}
def QM:V->List V->Hp->VK->Prop:=fun x vs H Q=>∃l xs,x=.ref l/\vs=[]/\H l=some (.lst xs)/\Q .non (upd H l (.lst xs.reverse))
theorem Jh:∀{xs:List V} {us:List Value},Vals xs us->Vals xs.reverse us.reverse
  |_,_,.nil=>.nil
  |_,_,.cons r t=>by
    rw[Yz,Yz];exact(Jh t).append (.cons r .nil)
theorem Lz:yw X "list.reverse" QM:=by
 intro pins s σ H x vs v us Q I rx rv h;obtain⟨l,xs,rfl,rfl,hH,q⟩:=h;cases rx;have hus:=rv.zero;subst hus;obtain⟨z,its,n,r,hl,e⟩:=I.lstM hH;refine call_meets F.slot_list_reverse ⟨_,e,rfl⟩ F.entry_list_reverse (F.args_list_reverse_1 _) (AutoSeq1.list_reverse_list_0 l its.toArray n (by rw[Wr];omega)) ⟨e,?_⟩;exact⟨.non,_,I.lset (its':=its.reverse) (ys:=xs.reverse) hH e (by simp) (Jh r) (by rw[xaE];have:=r.length;omega),rfl,q⟩
end
end L2
namespace E3
open PySem PySem.Spec PyProof.Rows L2
section
variable {X:Cx}{Wx:XW}{pos:Pos}
theorem aq.rev {K:Fgx}{P:Pl}{H:Hp}:∀{ds:List D} {vs:List V},aq K P H ds vs->aq K P H ds.reverse vs.reverse
  | [],_,h=>by rw[show _=[] from h];rfl
  |d::ds,_,h=>by
    obtain⟨v,r,e,p,q⟩:=h;subst e;rw[Yz,Yz];exact(aq.rev q).append ⟨v,[],rfl,p,rfl⟩
noncomputable def tX (f:E):S:=fun env M=>bO (f env M) fun d M1=>match d with
  | .ref j => (match M1[j]? with
    |some (.lst ds)=>some (.nx env,M1.set j (.lst ds.reverse))
    |_=>none)
  |_=>none
theorem T9 {o:Expr}{f:E}{p q:Pos}(ho:SE X Wx .val o f)(hbase:attributeBase o "reverse" X.env (eval o X.env)=eval o X.env:=by rfl)
  (hline:(p.endLine==q.line)=true:=by rfl) (hw:swapsWith (.Call (.Attribute o "reverse" p) [] [] q) none pos.line X.env=pure false:=by rfl):
  SS X Wx (.Expr (.Call (.Attribute o "reverse" p) [] [] q) pos) (tX f):=by
 refine gq (wQ (Oh Yt PySem.F.slot_list_reverse PySem.F.type_list_reverse Lz ho hbase hline) hw) ?_;rintro D st H ⟨P0,H0,P,Os,env,M,out,M',k,e,q⟩;unfold tX at e;rcases gU e with⟨d,M1,e1,e⟩ |⟨c,n,e1,rfl⟩
 ·cases d<;>simp only[reduceCtorEq]at e
  rename_i j;split at e
  ·rename_i ds em;cases e;refine⟨P0,H0,P,Os,env,M,_,_,k,e1,fun P1 v1 H1 l1 h1 i1=>?_⟩;obtain⟨jl,rfl⟩:j<P1.n/\v1=.ref (P1.io j):=i1;obtain⟨vs,ev,is⟩:=h1.cell j _ em;refine⟨.inl ⟨rfl,vs,.inl (.inl ev)⟩,_,vs,rfl,rfl,ev,?_⟩;have lc:Lt P1 H1 P1 (upd H1 (P1.io j) (.lst vs.reverse)):=sZ (h1.bd j jl) ev Ax;obtain⟨l3,l3e,h3⟩:=h1.set (c':=.lst ds.reverse) (o':=.lst vs.reverse) em ⟨vs.reverse,bJ,aq.lt lc (aq.rev is)⟩;exact q _ _ _ _ ((l1.lt k.hk).trans l3) ((k.next l1 h1).next l3e h3)
  ·cases e
 ·exact⟨P0,H0,P,Os,env,M,_,_,k,e1,q⟩
theorem Jx {f:E}{env:Env}{M M1:Mm}{k:Nat}{ds:List D}(h1:f env M=some (.v (.ref k),M1))(h2:M1[k]? =some (.lst ds)):tX f env M=some (.nx env,M1.set k (.lst ds.reverse)):=by
 unfold tX bO;simp only[h1,h2]
end
end E3
namespace L2
open PySem PySem.Spec PyProof.Rows
section
variable {prog:Program}{w:World}{A:Around}{E:Value->Shared->Prop}{s:Shared}{z P O j1 j2 l t:Addr}
theorem VG {n m:Nat}{us vs:Array Value}{u v a b:Value}{Q:Value->Shared->Prop}(D:ZipApart z P O j1 j2 l t)
  (e0:IsZip s.heap z P O .none) (eP:IsPair s.heap P (.ref j1) (.ref j2)) (eO:IsPair s.heap O a b) (c1:s.heap.IsListIter j1 l n) (c2:s.heap.IsListIter j2 t m) (d1:s.heap.IsList l us) (d2:s.heap.IsList t vs) (eu:us[n]? =some u) (ev:vs[m]? =some v)
  (q:∀h',IsZip h' z P O (rawInt s.heap.objs.size)->IsPair h' O u v->h'.IsListIter j1 l (n + 1)->h'.IsListIter j2 t (m + 1)->IsPair h' s.heap.objs.size u v->
   (∀c o,c≠z->c≠O->c≠j1->c≠j2->s.heap.get? c=some o->h'.get? c=some o)->Q (.ref s.heap.objs.size) {s with heap:=h'}):
  wpAny (model prog w) A (Builtin.«zip.__next__» ⟨[.ref z],[]⟩) (fun fin s'=>∃r,fin=.done (.ret r)/\Q r s') E s:=by
 show wpAny _ _ (field (.ref z) 2 >>=_) _ _ _;refine Wn (XS e0 rfl (x:=.bool false) rfl ?_);show wpAny _ _ (field (.ref z) 3 >>=_) _ _ _;refine Wn (XS e0 rfl (x:=.ref P) rfl ?_);refine Wn (YD eP rfl ?_);show wpAny _ _ (Builtin.SmallTypes.ownedTupleIsFree (.ref z) >>=_) _ _ _;refine Wn ?_;unfold Builtin.SmallTypes.ownedTupleIsFree;refine Wn (XS e0 rfl (x:=.none) rfl (Wt ?_));simp only[X6];refine Wn (wpAny_rule ?_);refine Wn (XS e0 rfl (x:=.ref O) rfl ?_);refine Wn (Ye e0 (by simp) fun g1 k1 s1=>?_);have k1':IsZip g1 z P O .ellipsis:=k1;refine Wn ?_;simp only[List.zipIdx_cons,List.zipIdx_nil,xak,List.forIn_nil];refine Wn (Wn (ZQ ?_));show wpAny _ _ (Builtin.SmallTypes.nextOf (.ref j1) >>=_) _ _ _;refine Wn (Y5 (c1.extBut s1.extBut D.i1z) (d1.extBut s1.extBut D.l1z) eu fun g2 i1 s2=>Wt ?_);have o2:IsPair g2 O a b:=s2.extBut _ _ D.TOi1 (s1.extBut _ _ D.TOz eO);refine Wn (YD o2 rfl ?_);refine Wn (Zn o2 fun g3 o3 s3=>?_);have o3':IsPair g3 O u b:=o3;refine Wn (wpAny_letGo (Wt ?_));refine Wn (Wn (ZQ ?_));show wpAny _ _ (Builtin.SmallTypes.nextOf (.ref j2) >>=_) _ _ _;refine Wn (Y5 (((c2.extBut s1.extBut D.i2z).extBut s2.extBut D.i12.symm).extBut s3.extBut D.TOi2.symm) (((d2.extBut s1.extBut D.l2z).extBut s2.extBut D.l2i1).extBut s3.extBut D.l2TO) ev fun g4 i2 s4=>Wt ?_);have o4:IsPair g4 O u b:=s4.extBut _ _ D.TOi2 o3';refine Wn (YD o4 rfl ?_);refine Wn (Zn o4 fun g5 o5 s5=>?_);have o5':IsPair g5 O u v:=o5;refine Wn (wpAny_letGo (Wt (Wt ?_)));refine Wn (YD o5' rfl ?_);refine Wn (xaq ?_);have hsz:g5.objs.size=s.heap.objs.size:=by rw[s5.1,s4.1,s3.1,s2.1,s1.1]
 have z5:IsZip g5 z P O .ellipsis:=s5.extBut _ _ D.TOz.symm (s4.extBut _ _ D.i2z.symm (s3.extBut _ _ D.TOz.symm (s2.extBut _ _ D.i1z.symm k1')));have kp:∀c o,c≠z->c≠O->c≠j1->c≠j2->s.heap.get? c=some o->g5.get? c=some o:=fun c o n1 n2 n3 n4 e=>s5.extBut _ _ n2 (s4.extBut _ _ n4 (s3.extBut _ _ n2 (s2.extBut _ _ n3 (s1.extBut _ _ n1 e))));have i1':g5.IsListIter j1 l (n + 1):=((i1.extBut s3.extBut D.TOi1.symm).extBut s4.extBut D.i12).extBut s5.extBut D.TOi1.symm;have i2':g5.IsListIter j2 t (m + 1):=i2.extBut s5.extBut D.TOi2.symm;have zlt:z<g5.objs.size:=Ws z5;show wpAny _ _ (Builtin.SmallTypes.ownedTupleHandOut (.ref z) (.ref g5.objs.size) >>=_) _ _ _;refine Wn ?_;unfold Builtin.SmallTypes.ownedTupleHandOut;have z6:IsZip (g5.push {cls:=.type "tuple",data:=.seq #[u,v]}) z P O .ellipsis:=tG _ z5;refine Wn (Ye z6 (by simp) fun g7 z7 s7=>?_);have z7':IsZip g7 z P O (rawInt g5.objs.size):=z7;refine Ye z7' (by simp) fun g8 z8 s8=>?_;have z8':IsZip g8 z P O (rawInt g5.objs.size):=z8;have up:∀c o,c≠z->g5.get? c=some o->g8.get? c=some o:=fun c o n1 e=>s8.extBut _ _ n1 (s7.extBut _ _ n1 (tG _ e));have t8:IsPair g8 g5.objs.size u v:=s8.extBut _ _ (YC zlt) (s7.extBut _ _ (YC zlt) (WL _ rfl));rw[hsz]at z8' t8;refine Wt ⟨_,rfl,?_⟩;show Q (.ref g5.objs.size) _;rw[hsz];exact q g8 z8' (up _ _ D.TOz o5') (i1'.at fun o e=>up _ o D.i1z e) (i2'.at fun o e=>up _ o D.i2z e) t8 fun c o n1 n2 n3 n4 e=>up c o n1 (kp c o n1 n2 n3 n4 e)
theorem VF {n m:Nat}{us vs:Array Value}{a b:Value}{Q:Fin->Shared->Prop}(hh:A.handled=none)(D:ZipApart z P O j1 j2 l t)
    (e0:IsZip s.heap z P O .none) (eP:IsPair s.heap P (.ref j1) (.ref j2)) (eO:IsPair s.heap O a b) (c1:s.heap.IsListIter j1 l n) (c2:s.heap.IsListIter j2 t m) (d1:s.heap.IsList l us) (d2:s.heap.IsList t vs) (hend:us[n]? =none\/vs[m]? =none)
    (q:∀h' x,(∀c o,c≠z->c≠O->c≠j1->c≠j2->s.heap.get? c=some o->h'.get? c=some o)->(∃o,h'.get? x=some o/\o.cls=.type "StopIteration")->E (.ref x) {s with heap:=h'}):
    wpAny (model prog w) A (Builtin.«zip.__next__» ⟨[.ref z],[]⟩) Q E s:=by
  show wpAny _ _ (field (.ref z) 2 >>=_) _ _ _;refine Wn (XS e0 rfl (x:=.bool false) rfl ?_);show wpAny _ _ (field (.ref z) 3 >>=_) _ _ _;refine Wn (XS e0 rfl (x:=.ref P) rfl ?_);refine Wn (YD eP rfl ?_);show wpAny _ _ (Builtin.SmallTypes.ownedTupleIsFree (.ref z) >>=_) _ _ _;refine Wn ?_;unfold Builtin.SmallTypes.ownedTupleIsFree;refine Wn (XS e0 rfl (x:=.none) rfl (Wt ?_));simp only[X6];refine Wn (wpAny_rule ?_);refine Wn (XS e0 rfl (x:=.ref O) rfl ?_);refine Wn (Ye e0 (by simp) fun g1 k1 s1=>?_);have k1':IsZip g1 z P O .ellipsis:=k1;refine Wn ?_;simp only[List.zipIdx_cons,List.zipIdx_nil,xak,List.forIn_nil];refine Wn (Wn (ZQ ?_));show wpAny _ _ (Builtin.SmallTypes.nextOf (.ref j1) >>=_) _ _ _
  cases eu:us[n]? with
  |none=>
    refine Wn (wpAny_nextOf_list_end hh (c1.extBut s1.extBut D.i1z) (d1.extBut s1.extBut D.l1z) eu fun g2 x s2 hx=>?_);obtain⟨ox,h1,h2⟩:=hx;have z2:IsZip g2 z P O .ellipsis:=s2 _ _ D.i1z.symm k1';have hez:x≠z:=fun y=>by subst y;rw[z2]at h1;cases h1;simp at h2
    refine Ye z2 (by simp) fun g3 _ s3=>q g3 x (fun c o n1 _ n3 _ y=>s3.extBut _ _ n1 (s2 _ _ n3 (s1.extBut _ _ n1 y))) ⟨ox,s3.extBut _ _ hez h1,h2⟩
  |some u=>
    have ev:vs[m]? =none:=by rcases hend with h |h;rw[eu]at h;cases h;exact h
    refine Wn (Y5 (c1.extBut s1.extBut D.i1z) (d1.extBut s1.extBut D.l1z) eu fun g2 i1 s2=>Wt ?_);have o2:IsPair g2 O a b:=s2.extBut _ _ D.TOi1 (s1.extBut _ _ D.TOz eO);refine Wn (YD o2 rfl ?_);refine Wn (Zn o2 fun g3 o3 s3=>?_);refine Wn (wpAny_letGo (Wt ?_));refine Wn (Wn (ZQ ?_));show wpAny _ _ (Builtin.SmallTypes.nextOf (.ref j2) >>=_) _ _ _;refine Wn (wpAny_nextOf_list_end hh (((c2.extBut s1.extBut D.i2z).extBut s2.extBut D.i12.symm).extBut s3.extBut D.TOi2.symm) (((d2.extBut s1.extBut D.l2z).extBut s2.extBut D.l2i1).extBut s3.extBut D.l2TO) ev fun g4 x s4 hx=>?_);obtain⟨ox,h1,h2⟩:=hx;have z4:IsZip g4 z P O .ellipsis:=s4 _ _ D.i2z.symm (s3.extBut _ _ D.TOz.symm (s2.extBut _ _ D.i1z.symm k1'));have hez:x≠z:=fun y=>by subst y;rw[z4]at h1;cases h1;simp at h2
    refine Ye z4 (by simp) fun g5 _ s5=>q g5 x (fun c o n1 n2 n3 n4 y=>s5.extBut _ _ n1 (s4 _ _ n4 (s3.extBut _ _ n2 (s2.extBut _ _ n3 (s1.extBut _ _ n1 y))))) ⟨ox,s5.extBut _ _ hez h1,h2⟩
abbrev yg (h:Heap)(l:Addr):Heap:=h.push {cls:=.type "list_iterator",data:=.fields #[.ref l,.int 0 0]}
abbrev yh (h:Heap)(l t:Addr):Heap:=(yg h l).push {cls:=.type "list_iterator",data:=.fields #[.ref t,.int 0 0]}
abbrev yj (h:Heap)(l t:Addr):Heap:=(yh h l t).push {cls:=.type "tuple",data:=.seq #[.ref h.objs.size,.ref (yg h l).objs.size]}
abbrev yp (h:Heap)(l t:Addr):Heap:=(yj h l t).push {cls:=.type "tuple",data:=.seq #[.none,.none]}
abbrev rE (h:Heap)(l t:Addr):Heap:=(yp h l t).push {cls:=.type "zip",data:=.fields #[.none,.bool false,.bool false,.ref (yh h l t).objs.size,.ref (yj h l t).objs.size]}
end
theorem Lr (l t:Addr)(us vs:Array Value):
  Meets (Builtin.«zip.__new__» ⟨[.type "zip",.ref l,.ref t],[]⟩) (fun _ R s=>s.heap.IsList l us/\s.heap.IsList t vs/\R (.ok (.ret (.ref (yp s.heap l t).objs.size))) {s with heap:=rE s.heap l t}):=
 .of_wp fun prog w A R s h=>by
  obtain⟨hp,g,d,tk,os⟩:=s;obtain⟨a1,a2,h⟩:=h;have hsub:=sub_zip;have b1:Heap.IsList (Shared.heap ⟨hp,g,d,tk,os⟩) l us:=a1;have b2:Heap.IsList (Shared.heap ⟨hp.push {cls:=.type "list_iterator",data:=.fields #[.ref l,.int 0 0]},g,d,tk,os⟩) t vs:=Heap.IsList.push a2 _
  wp_walk using ZW b1,ZW b2
  exact⟨_,rfl,h⟩
theorem JK {prog:Program}{w:World}{A:Around}{E:Value->Shared->Prop}{s:Shared}{l t:Addr}{us vs:Array Value}{Q:Value->Shared->Prop}(a1:s.heap.IsList l us)(a2:s.heap.IsList t vs)
  (q:∀h',IsZip h' (s.heap.objs.size + 4) (s.heap.objs.size + 2) (s.heap.objs.size + 3) .none->IsPair h' (s.heap.objs.size + 2) (.ref s.heap.objs.size) (.ref (s.heap.objs.size + 1))->IsPair h' (s.heap.objs.size + 3) .none .none->
   h'.IsListIter s.heap.objs.size l 0->h'.IsListIter (s.heap.objs.size + 1) t 0->(∀c o,s.heap.get? c=some o->h'.get? c=some o)->Q (.ref (s.heap.objs.size + 4)) {s with heap:=h'}):
  wpAny (model prog w) A (call (.type "zip") [.ref l,.ref t]) Q E s:=by
 refine callType_new F.called_zip (by decide) (F.typeCall_zip_2 _ _) (F.newCall_zip_2 _ _) (fun ob=>F.args_object_init_3 ob _ _) F.entry_zip_new (Lr l t us vs) ⟨a1,a2,?_⟩;have z1:(yg s.heap l).objs.size=s.heap.objs.size + 1:=Yc ..;have z2:(yh s.heap l t).objs.size=s.heap.objs.size + 2:=by rw[Yc,z1]
 have z3:(yj s.heap l t).objs.size=s.heap.objs.size + 3:=by rw[Yc,z2]
 have z4:(yp s.heap l t).objs.size=s.heap.objs.size + 4:=by rw[Yc,z3]
 have g5:(rE s.heap l t).get? (yp s.heap l t).objs.size=some _:=WL _ rfl;have g4:(rE s.heap l t).get? (yj s.heap l t).objs.size=some _:=tG _ (WL _ rfl);have g3:(rE s.heap l t).get? (yh s.heap l t).objs.size=some _:=tG _ (tG _ (WL _ rfl));have g2:(rE s.heap l t).get? (yg s.heap l).objs.size=some _:=tG _ (tG _ (tG _ (WL _ rfl)));have g1:(rE s.heap l t).get? s.heap.objs.size=some _:=tG _ (tG _ (tG _ (tG _ (WL _ rfl))));show _/\_;rw[z2,z3,z4]at g5;rw[z1,z2]at g3;rw[z3]at g4;rw[z1]at g2;rw[z4];exact⟨⟨_,g5,rfl⟩,q _ g5 g3 g4 ⟨_,g1,rfl,rfl⟩ ⟨_,g2,rfl,rfl⟩ fun c o x=>tG _ (tG _ (tG _ (tG _ (tG _ x))))⟩
noncomputable def rJ (K:Fgx) (a b:Addr):It:=
 ⟨fun i H=>∃xs ys x y,aY K H a xs/\aY K H b ys/\xs[i]? =some x/\ys[i]? =some y,fun i H x H'=>∃p u v,H p=none/\x=.ref p/\H'=upd H p (.tup [u,v])/\(∀xs,aY K H a xs->xs[i]? =some u)/\∀ys,aY K H b ys->ys[i]? =some v,
  fun i H=>∃xs ys,aY K H a xs/\aY K H b ys/\(xs[i]? =none\/ys[i]? =none)⟩
theorem DP {h:Heap}{z P O j1 j2 a b:Addr}{i:Nat}{us vs:Array Value}(n:z=O + 1/\O=P + 1/\P=j2 + 1/\j2=j1 + 1)(e0:IsZip h z P O .none)(eO:∃x y,IsPair h O x y/\a≠O/\b≠O)(c1:h.IsListIter j1 a i)(c2:h.IsListIter j2 b i)(d1:h.IsList a us)(d2:h.IsList b vs):ZipApart z P O j1 j2 a b:=by
 obtain⟨o1,x1,y1,_⟩:=c1;obtain⟨o2,x2,y2,_⟩:=c2;obtain⟨o3,x3,y3,_⟩:=d1;obtain⟨o4,x4,y4,_⟩:=d2;obtain⟨_,_,_,na,nb⟩:=eO;have n1: @Eq Nat z (O + 1):=n.1;have n2: @Eq Nat O (P + 1):=n.2.1;have n3: @Eq Nat P (j2 + 1):=n.2.2.1;have n4: @Eq Nat j2 (j1 + 1):=n.2.2.2;have ne:∀x y:Nat,(x<y\/y<x)->x≠y:=fun x y h=>by omega
 refine⟨ne _ _ (by omega),ne _ _ (by omega),ne _ _ (by omega),ne _ _ (by omega),ne _ _ (by omega),ne _ _ (by omega),ne _ _ (by omega),ne _ _ (by omega),ne _ _ (by omega),ne _ _ (by omega),?_,na,?_,?_,?_,nb,?_,?_⟩
 ·intro y;rw[y,e0]at x3;cases x3;simp at y3
 ·intro y;rw[y,x1]at x3;cases x3;rw[y1]at y3;simp at y3
 ·intro y;rw[y,x2]at x3;cases x3;rw[y2]at y3;simp at y3
 ·intro y;rw[y,e0]at x4;cases x4;simp at y4
 ·intro y;rw[y,x1]at x4;cases x4;rw[y1]at y4;simp at y4
 ·intro y;rw[y,x2]at x4;cases x4;rw[y2]at y4;simp at y4
theorem U0 {P':Program}{w:World}{K:Fgx}{es:List Expr}{k:Nat}{pos:Pos}(a b z P O j1 j2:Addr)(n:z=O + 1/\O=P + 1/\P=j2 + 1/\j2=j1 + 1)(na:a≠O/\b≠O):
  Turn P' w K (.Tuple es k pos) (rJ K a b) [z,P,O,j1,j2] z (fun i h=>IsZip h z P O .none/\IsPair h P (.ref j1) (.ref j2)/\(∃x y,IsPair h O x y)/\h.IsListIter j1 a i/\h.IsListIter j2 b i) where
 mem:=by simp
 obj:=fun i h st c hc=>by
  obtain⟨e0,eP,⟨x,y,eO⟩,⟨o1,x1,y1,w1⟩,o2,x2,y2,w2⟩:=st;simp only[W6,Yp,xah]at hc;rcases hc with rfl |rfl |rfl |rfl |rfl
  ·exact⟨_,e0,fun v y=>by cases y⟩
  ·exact⟨_,eP,fun v y=>by cases y⟩
  ·exact⟨_,eO,fun v y=>by cases y⟩
  ·exact⟨o1,x1,fun v y=>by rw[w1]at y;cases y⟩
  ·exact⟨o2,x2,fun v y=>by rw[w2]at y;cases y⟩
 keep:=fun i h h' st k=>by
  obtain⟨e0,eP,⟨x,y,eO⟩,c1,c2⟩:=st;exact⟨k _ (by simp) _ e0,k _ (by simp) _ eP,⟨x,y,k _ (by simp) _ eO⟩,c1.at fun o e=>k _ (by simp) o e,c2.at fun o e=>k _ (by simp) o e⟩
 item:=by
  intro X hP hw hK hc i pins s σ H E I hf st hg;subst hP hw hK;obtain⟨xs,ys,x,y,hq,hr,hx,hy⟩:=hg;obtain⟨its,rv,pl,hz⟩:=I.list hq;obtain⟨jts,rw',pt,hz'⟩:=I.list hr;obtain⟨u,hu,ru⟩:=rv.get hx;obtain⟨v,hv,rr⟩:=rw'.get hy;obtain⟨e0,eP,⟨p,q,eO⟩,c1,c2⟩:=st;have D:=DP n e0 ⟨p,q,eO,na⟩ c1 c2 pl.isList pt.isList;have hT:s.TypeIs (.ref z) "zip":=⟨_,e0,rfl⟩;unfold pyNext;refine Wn (wpAny_attempt (xaj (name:=Str.ofString "__next__") hT Zo (Zb Zo hT F.entry_zip_next (VG D e0 eP eO c1 c2 pl.isList pt.isList (u:=u) (v:=v) (by simpa using hu) (by simpa using hv) fun h' z1 o1 i1 i2 t1 kp=>?_) (F.args_zip_next_1 _))));refine Wt ⟨_,rfl,wpAny_letOwnedTupleGo_zip z1 fun h2 z2 s2=>?_⟩;have hzs:z<s.heap.objs.size:=Ws e0;have kk:∀c o,c∉ [z,P,O,j1,j2]->s.heap.get? c=some o->h2.get? c=some o:=fun c o hc e=>by
   simp only[W6,Yp,xah,not_or]at hc;exact s2.extBut _ _ hc.1 (kp c o hc.1 hc.2.2.1 hc.2.2.2.1 hc.2.2.2.2 e)
  have tT:h2.IsTuple s.heap.objs.size #[u,v]:=⟨_,s2.extBut _ _ (YC hzs) t1,rfl,_,rfl⟩;have I2:Inv X pins σ (upd H s.heap.objs.size (.tup [x,y])) {s with heap:=h2,toks:=s.toks}:=I.turnLaid kk hf (Wq _) ⟨by show 2<=sizeLine;decide,[u,v],.cons ru (.cons rr .nil),tT⟩;have nT:H s.heap.objs.size=none:=I.hok.fresh (Wq _);have eP2:IsPair h2 P (.ref j1) (.ref j2):=s2.extBut _ _ D.TIz (kp _ _ D.TIz D.TITO D.TIi1 D.TIi2 eP);refine⟨.ref s.heap.objs.size,_,I2,rfl,⟨s.heap.objs.size,x,y,nT,rfl,rfl,fun zs hzs=>by rw[I.list_inj hzs hq];exact hx,fun zs hzs=>by rw[I.list_inj hzs hr];exact hy⟩,⟨z2,eP2,⟨u,v,s2.extBut _ _ D.TOz o1⟩,i1.at fun o e=>s2.extBut _ _ D.i1z e,i2.at fun o e=>s2.extBut _ _ D.i2z e⟩,fun c hc=>?_⟩;rw[aM (fun y=>?_)]
  ·exact(hf c hc).1
  ·have n1: @Eq Nat z (O + 1):=n.1;have n2: @Eq Nat O (P + 1):=n.2.1;have n3: @Eq Nat P (j2 + 1):=n.2.2.1;have n4: @Eq Nat j2 (j1 + 1):=n.2.2.2;have y': @Eq Nat c s.heap.objs.size:=y;have hzs': @LT.lt Nat _ z s.heap.objs.size:=hzs;simp only[W6,Yp,xah]at hc;rcases hc with rfl |rfl |rfl |rfl |rfl<;>omega
 done:=by
  intro X hP hw hK hc i pins s σ H E I hf st hg;subst hP hw hK;obtain⟨xs,ys,hq,hr,hend⟩:=hg;obtain⟨its,rv,pl,hz⟩:=I.list hq;obtain⟨jts,rw',pt,hz'⟩:=I.list hr;obtain⟨e0,eP,⟨p,q,eO⟩,c1,c2⟩:=st;have D:=DP n e0 ⟨p,q,eO,na⟩ c1 c2 pl.isList pt.isList;have hT:s.TypeIs (.ref z) "zip":=⟨_,e0,rfl⟩;have hend':its.toArray[i]? =none\/jts.toArray[i]? =none:=by
   rcases hend with h |h
   ·left
    have:=XR.mp h;rw[rv.length]at this
    simpa using this
   ·right
    have:=XR.mp h;rw[rw'.length]at this
    simpa using this
  unfold pyNext;refine Wn (wpAny_attempt (xaj (name:=Str.ofString "__next__") hT Zo (Zb Zo hT F.entry_zip_next (VF (show X.A.in1.handled=none from I.ok.hd hc) D e0 eP eO c1 c2 pl.isList pt.isList hend' fun h' x kp hx=>?_) (F.args_zip_next_1 _))));obtain⟨o,h1,h2⟩:=hx;refine Wn (wpAny_isInstance (T:="StopIteration") (b:=true) ⟨o,h1,h2⟩ isSubtype_stop (Wt ⟨rfl,?_⟩));refine I.turnedL (fp:=[z,P,O,j1,j2]) (t':=s.toks) (fun c o hc e=>?_) hf;simp only[W6,Yp,xah,not_or]at hc;exact kp c o hc.1 hc.2.2.1 hc.2.2.2.1 hc.2.2.2.2 e
 self:=fun _ i s _ _ st h=>wpAny_pyIter_zip st.1 h
section
variable {X:Cx}{es:List Expr}{k:Nat}{tpos:Pos}
noncomputable def Kw (K:Fgx) (ta:TA):TI:=fun σ H R=>ta σ H fun vs H1=>∃a b xs ys,vs=[.ref a,.ref b]/\aY K H1 a xs/\aY K H1 b ys/\R (rJ K a b) H1
theorem O2 {a b:Expr}{ta:TA}{p pos:Pos}(hg:Gl X "zip")(hm:X.mg "zip"=none)(ha:PA X [a,b] ta)(hs:starEach [a,b] X.env=(false,eval a X.env)::starEach [b] X.env)(hp:(backTo pos (starEach [b] X.env)).any (·.1)=false):PI X (.Tuple es k tpos) (.Call (.Name "zip" p) [a,b] [] pos) (Kw X.K ta):=by
 intro pins s σ H R I h;refine Call_ (sW I hg hm boot_zip (YG (aR (ha pos pins s σ H _ I h) fun us s1 ⟨vs,H1,I1,r1,q1⟩=>?_) hs hp));obtain⟨c,d,xs,ys,e,hq,hr,q⟩:=q1;subst e;obtain⟨u,v,e,ru,rv'⟩:=vals2 r1;subst e;cases ru;cases rv';obtain⟨its,rv,pl,hz⟩:=I1.list hq;obtain⟨jts,rw',pt,hz'⟩:=I1.list hr;refine JK pl.isList pt.isList fun h' e0 eP eO c1 c2 kp=>?_;refine wpAny_pyIter_zip e0 ?_;have lc:c<s1.heap.objs.size:=by obtain⟨o,e,_⟩:=pl.isList;exact Ws e
 have ld:d<s1.heap.objs.size:=by obtain⟨o,e,_⟩:=pt.isList;exact Ws e
 refine ⟨s1.heap.objs.size + 4,[s1.heap.objs.size + 4,s1.heap.objs.size + 2,s1.heap.objs.size + 3,s1.heap.objs.size,s1.heap.objs.size + 1],_,_,H1,rfl,I1.kept (t':=s1.toks) kp,
  U0 c d _ _ _ _ _ ⟨rfl,rfl,rfl,rfl⟩ ⟨WQ (Wo lc (Zc _ _)),WQ (Wo ld (Zc _ _))⟩,⟨e0,eP,⟨_,_,eO⟩,c1,c2⟩,fun x hx=>?_,q⟩
 have hx':s1.heap.objs.size<=x:=by
  simp only[W6,Yp,xah]at hx;rcases hx with rfl |rfl |rfl |rfl |rfl<;>first |exact Wq _ |exact Zc _ _
 exact I1.fpOk hx' (I1.hok.fresh hx')
end
end L2
namespace E3
open PySem PySem.Spec PyProof.Rows L2
section
variable {X:Cx}{Wx:XW}{pos:Pos}
noncomputable def tW (is:List Nat) (fs:EA) (body:S):S:=fun env M=>match fs env M with
 |some (.v [.lst ds,.lst es],M1)=>lD is body ((ds.zip es).map fun p=>.tup [p.1,p.2]) env M1
 |some (.x c n,M1)=>some (.ex c n,M1)
 |_=>none
theorem T7 {ts:List Expr}{is:List Nat}{a a2:Expr}{body:List Stmt}{fs:EA}{b:S}{n:Nat}{p tp q:Pos}(hp:PassesOwn (model X.prog X.w) X.A X.env X.xe)(hc:X.calm=true)(hG:SG X ts is)(hg:Gl X "zip")(hm:X.mg "zip"=none)(ha:SA X Wx .val [a,a2] fs)(hb:SB X Wx body b)
    (hn:(assignEach ts X.env).length=2:=by rfl) (hst:(assignEach ts X.env).findIdx? (·.1)=none:=by rfl) (hs:starEach [a,a2] X.env=(false,eval a X.env)::starEach [a2] X.env:=by rfl) (hpl:(backTo q (starEach [a2] X.env)).any (·.1)=false:=by rfl)
    (hfs:∀x,foldedSetIterable (.Call (.Name "zip" p) [a,a2] [] q) X.env x=pure x:=by intro _;rfl):
    SS X Wx (.For (.Tuple ts n tp) (.Call (.Name "zip" p) [a,a2] [] q) body [] pos) (tW is fs b):=by
  obtain⟨t,hpg,ht⟩:=hG;refine gq (G7 hp hc (O2 hg hm ha hs hpl) (Ox (n:=2) hc hpg hn hst) hb hfs) ?_;rintro D st H ⟨P0,H0,P,Os,env,M,out,M',k,e,q⟩;unfold tW at e;split at e
  · rename_i ds es M1 ef;refine⟨P0,H0,P,Os,env,M,_,_,k,ef,fun P1 vs H1 l1 h1 i1=>?_⟩;obtain⟨v,ws,rfl,i1,v2,ws2,rfl,i2,rfl⟩:=i1;obtain⟨a,us,rfl,ra,is1⟩:=i1;obtain⟨a2,us2,rfl,rt,is2⟩:=i2;refine⟨a,a2,us,us2,rfl,ra.imp (·.2) id,rt.imp (·.2) id,?_⟩;have k1:=k.next l1 h1
    have q1:=q.lt (l1.lt k.hk);generalize hz:((ds.zip es).map fun p=>E3.D.tup [p.1,p.2])=zs at e;have zl:zs.length=min ds.length es.length:=by rw[<-hz,WK,List.length_zip]
    refine⟨fun j m σ H=>m=zs.length - j/\j<=zs.length/\∃P Os' M2 env',Lt P1 H1 P H/\Ok X.K X.mg P0 H0 P Os' H M2 σ env'/\lD is b (zs.drop j) env' M2=some (out,M'),⟨zs.length,by simp,Xp _,P1,Os,M1,env,Lt.refl _ _,k1,e⟩,?_⟩;rintro j m σ H2 ⟨rfl,hj,P2,Os',M2,env',lt,k',h'⟩;have ra2:=lt.rda ra;have rt2:aY X.K H2 a2 us2:=(lt.rda rt).imp (·.2) id;have iA:=aq.lt lt is1;have iB:=aq.lt lt is2;have sq:aY X.K H2 a us:=ra2.imp (·.2) id
    by_cases hlt:j<zs.length
    · have h1':j<ds.length:=by omega
      have h2':j<es.length:=by omega
      obtain⟨w,ew,iw⟩:=aq.get iA (Wu h1');obtain⟨w2,ew2,iw2⟩:=aq.get iB (Wu h2');refine .inr ⟨⟨us,us2,w,w2,sq,rt2,ew,ew2⟩,fun σ' H'=>∃P Os' M2 env',Lt P1 H1 P H'/\Ok X.K X.mg P0 H0 P Os' H' M2 σ' env'/\lD is b (zs.drop (j + 1)) env' M2=some (out,M'),fun σ' H' z=>⟨zs.length - (j + 1),by omega,rfl,hlt,z⟩,fun x H3 y=>?_⟩;obtain⟨pp,v,v2,hpp,rfl,rfl,hv,hv2⟩:=y;have hv':=hv us sq;rw[ew]at hv';cases hv';have hv2':=hv2 us2 rt2;rw[ew2]at hv2';cases hv2';have ez:zs[j]=E3.D.tup [ds[j],es[j]]:=by simp only[<-hz,List.getElem_map,List.getElem_zip]
      rw[XM hlt,ez]at h';simp only[lD]at h';have sm:Same H2 (upd H2 pp (.tup [w,w2])):=j_ hpp;have l3:LtE P2 H2 P2 (upd H2 pp (.tup [w,w2])):=LtE.same sm;have h3:=k'.hk.same sm;have k3:=k'.next l3 h3
      have lt3:=lt.trans (l3.lt k'.hk);split at h'
      · rename_i env1 ee;unfold n_ at ee;dsimp only at ee;split at ee
        · have isx:aq X.K P2 (upd H2 pp (.tup [w,w2])) [ds[j],es[j]] [w,w2]:=⟨w,[w2],rfl,Is.lt (l3.lt k'.hk) iw,w2,[],rfl,Is.lt (l3.lt k'.hk) iw2,rfl⟩;refine⟨pp,[w,w2],rfl,.inl (.inl bJ),rfl,ht _ _ _ _ _ _ _ _ _ _ _ _ k3 isx ee fun Os2 st2 k4=>?_⟩;split at h'
          · rename_i e4 M4 eb;exact⟨P0,H0,P2,_,_,M2,_,_,k4,eb,fun P' Os2 H2 st2 l2 k5=>⟨P',Os2,_,e4,lt3.trans l2,k5,h'⟩⟩
          · rename_i e4 M4 eb;exact⟨P0,H0,P2,_,_,M2,_,_,k4,eb,fun P' Os2 H2 st2 l2 k5=>⟨P',Os2,_,e4,lt3.trans l2,k5,h'⟩⟩
          · rename_i e4 M4 eb;cases h';exact⟨P0,H0,P2,_,_,M2,_,_,k4,eb,fun P' Os2 H2 st2 l2 k5=>q1 P' Os2 H2 st2 (lt3.trans l2) k5⟩
          · rename_i d4 M4 eb;cases h';exact⟨P0,H0,P2,_,_,M2,_,_,k4,eb,q1⟩
          · rename_i c4 n4 M4 eb;cases h';exact⟨P0,H0,P2,_,_,M2,_,_,k4,eb,q1⟩
          · cases h'
        · cases ee
      · cases h'
    · have ej:j=zs.length:=by omega
      subst ej;rw[Za]at h';cases h';refine .inl ⟨⟨us,us2,sq,rt2,?_⟩,q1 P2 Os' H2 σ lt k'⟩;have la:=iA.len;have lb:=iB.len
      by_cases z:ds.length<=es.length
      · exact .inl (Xb (by omega))
      · exact .inr (Xb (by omega))
  · rename_i c n M1 ef;cases e;exact⟨P0,H0,P,Os,env,M,_,_,k,ef,q⟩
  · cases e
end
section
theorem VD {is:List Nat}{fs:EA}{b:S}{env:Env}{M M1:Mm}{ds es:List D}(h:fs env M=some (.v [.lst ds,.lst es],M1)):tW is fs b env M=lD is b ((ds.zip es).map fun p=>.tup [p.1,p.2]) env M1:=by simp only[tW,h]
end
end E3
namespace My
open PySem PySem.Spec PyProof.Rows L2 E3
noncomputable def Uy:List (Str×D):=[("+",(.tup [(.str "number"),(.str "number"),(.int 2)])),("-",(.tup [(.str "number"),(.str "number"),(.int 2)])),("*",(.tup [(.str "number"),(.str "number"),(.int 2)])),("least",(.tup [(.str "number"),(.str "number"),(.int 2)])),("most",(.tup [(.str "number"),(.str "number"),(.int 2)])),("<",(.tup [(.str "truth"),(.str "number"),(.int 2)])),("=",(.tup [(.str "truth"),(.str "number"),(.int 2)])),("not",(.tup [(.str "truth"),(.str "truth"),(.int 1)])),("and",(.tup [(.str "truth"),(.str "truth"),(.int 2)])),("or",(.tup [(.str "truth"),(.str "truth"),(.int 2)]))]
noncomputable def top (i:Nat):Stmt:=PySem.Challenge.pw_rowdam_k26_shares_poured.main.body.getD i (.Pass ⟨0,0,0,0⟩)
noncomputable def rQ:List Str:=["len","int","sorted","range","isinstance","bool","tuple","zip","list","str"]
structure Ad where
 DamError:Addr
 NoExpr:Addr
structure Txt (K:Fgx)(mg:Mgx)(C:Ad)(w:World):Prop where
 blt:∀b∈rQ,mg b=none
 xm_DamError:mg "DamError"=some (.ref C.DamError)
 xc_DamError:gb K C.DamError=true
 xm_NoExpr:mg "NoExpr"=some (.ref C.NoExpr)
 xc_NoExpr:gb K C.NoExpr=true
 tb_sharer_of:∃c P,PySem.W.tabIn K "sharer_of"=some (c,P)/\PySem.W.codeHdIn K c P=true
 xn_NoExpr:Ji K C.NoExpr=true
 xk_NoExpr:PySem.W.keepIn K (.ref C.NoExpr)=true
 xs_NoExpr:yd K C.NoExpr=true
 k_ALL_LETTERS:∃a,mg "ALL_LETTERS"=some (.ref a)/\∀P H,Is K P H (.tup [(.str "t"),(.str "v"),(.str "w")]) (.ref a)
 k_NEEDS:∃a,mg "NEEDS"=some (.ref a)/\KTab K w a Uy
 k_FIGURES:∃t,mg "FIGURES"=some (.str "0123456789" t)
 k_MOST_FIGURES:∃t,mg "MOST_FIGURES"=some (.int 20 t)
 k_MOST_VALUE:∃t,mg "MOST_VALUE"=some (.int 1000000000000000000000000000000000000000000000000000000000000 t)
 k_LETTERS:∃t,mg "LETTERS"=some (.str "abcdefghijklmnopqrstuvwxyz" t)
 k_COND_LETTERS:∃t,mg "COND_LETTERS"=some (.str "tv" t)
structure MetAt (K:Fgx)(C:Addr)(x q:Str)(st:Stmt)(ps:List Str)(f:Addr)(fd:FuncData):Prop where
 M:Meth K C x f
 F:FunD K x q st f fd
 b:Binds K fd ps []
structure IniAt (K:Fgx)(C:Addr)(q:Str)(st:Stmt)(ps:List Str)(f:Addr)(fd:FuncData):Prop where
 M:Mk K C f
 F:FunD K "__init__" q st f fd
 b:Binds K fd ps []
structure MetAtD (K:Fgx)(C:Addr)(x q:Str)(st:Stmt)(ps:List Str)(dd:List D)(f:Addr)(fd:FuncData):Prop where
 M:Meth K C x f
 F:FunD K x q st f fd
 b:Binds K fd ps []
 bd:∃(dv:List V) (du:List Value),Binds K fd ps du/\Vals dv du/\(∀P H,aq K P H dd dv)/\dv.length=dd.length
noncomputable def zQ (t:String):Option Bool:=if t="int" then some false else if t="bool" then some true else if t="str" then some false else if t="list" then some false else if t="tuple" then some false else if t="NoneType" then some false else if t="dict" then some false else none
theorem KJ {K:Fgx}:∀t b,zQ t=some b->PySem.W.kitOne K (.type t) (.type "bool")=some b:=by
 intro t b h;unfold zQ at h;split at h
 ·rename_i e;subst e;cases h;kernel_rfl
 split at h
 ·rename_i e;subst e;cases h;kernel_rfl
 split at h
 ·rename_i e;subst e;cases h;kernel_rfl
 split at h
 ·rename_i e;subst e;cases h;kernel_rfl
 split at h
 ·rename_i e;subst e;cases h;kernel_rfl
 split at h
 ·rename_i e;subst e;cases h;kernel_rfl
 split at h
 ·rename_i e;subst e;cases h;kernel_rfl
 cases h
noncomputable def zR (t:String):Option Bool:=if t="int" then some false else if t="bool" then some false else if t="str" then some false else if t="list" then some true else if t="tuple" then some false else if t="NoneType" then some false else if t="dict" then some false else none
theorem KN {K:Fgx}:∀t b,zR t=some b->PySem.W.kitOne K (.type t) (.type "list")=some b:=by
 intro t b h;unfold zR at h;split at h
 ·rename_i e;subst e;cases h;kernel_rfl
 split at h
 ·rename_i e;subst e;cases h;kernel_rfl
 split at h
 ·rename_i e;subst e;cases h;kernel_rfl
 split at h
 ·rename_i e;subst e;cases h;kernel_rfl
 split at h
 ·rename_i e;subst e;cases h;kernel_rfl
 split at h
 ·rename_i e;subst e;cases h;kernel_rfl
 split at h
 ·rename_i e;subst e;cases h;kernel_rfl
 cases h
noncomputable def zT (t:String):Option Bool:=if t="int" then some false else if t="bool" then some false else if t="str" then some false else if t="list" then some false else if t="tuple" then some true else if t="NoneType" then some false else if t="dict" then some false else none
theorem KQ {K:Fgx}:∀t b,zT t=some b->PySem.W.kitOne K (.type t) (.type "tuple")=some b:=by
 intro t b h;unfold zT at h;split at h
 ·rename_i e;subst e;cases h;kernel_rfl
 split at h
 ·rename_i e;subst e;cases h;kernel_rfl
 split at h
 ·rename_i e;subst e;cases h;kernel_rfl
 split at h
 ·rename_i e;subst e;cases h;kernel_rfl
 split at h
 ·rename_i e;subst e;cases h;kernel_rfl
 split at h
 ·rename_i e;subst e;cases h;kernel_rfl
 split at h
 ·rename_i e;subst e;cases h;kernel_rfl
 cases h
noncomputable def aO (t T:String):Option Bool:=if T="bool" then zQ t else if T="list" then zR t else if T="tuple" then zT t else none
theorem Ge:aO "int" "bool"=some false:=by x_go
theorem V7:aO "int" "list"=some false:=by x_go
theorem V8:aO "int" "tuple"=some false:=by x_go
theorem V1:aO "bool" "bool"=some true:=by x_go
theorem V2:aO "bool" "list"=some false:=by x_go
theorem V3:aO "bool" "tuple"=some false:=by x_go
theorem Wa:aO "str" "bool"=some false:=by x_go
theorem Wb:aO "str" "list"=some false:=by x_go
theorem Wc:aO "str" "tuple"=some false:=by x_go
theorem V9:aO "list" "bool"=some false:=by x_go
theorem Gf:aO "list" "list"=some true:=by x_go
theorem V_:aO "list" "tuple"=some false:=by x_go
theorem Wd:aO "tuple" "bool"=some false:=by x_go
theorem Wf:aO "tuple" "list"=some false:=by x_go
theorem K5:aO "tuple" "tuple"=some true:=by x_go
theorem VP:aO "NoneType" "bool"=some false:=by x_go
theorem VR:aO "NoneType" "list"=some false:=by x_go
theorem V0:aO "NoneType" "tuple"=some false:=by x_go
theorem V4:aO "dict" "bool"=some false:=by x_go
theorem V5:aO "dict" "list"=some false:=by x_go
theorem V6:aO "dict" "tuple"=some false:=by x_go
theorem sV {K:Fgx}:∀t T b,aO t T=some b->PySem.W.kitOne K (.type t) (.type T)=some b:=by
 intro t T b h;unfold aO at h;split at h
 ·rename_i e;subst e;exact KJ t b h
 split at h
 ·rename_i e;subst e;exact KN t b h
 split at h
 ·rename_i e;subst e;exact KQ t b h
 cases h
abbrev xH:Stmt:=top 12
theorem HD:FnScope ["key","number","letter"] ["key"] (aF xH):=eU
noncomputable def wB:S:=(ao (aL 1 (s2 aQ (s2 cR (aj 1) (sN cC (aA (ak (.str "abcdefghijklmnopqrstuvwxyz")) au))) (pZ lU (ak (.str "abcdefghijklmnopqrstuvwxyz")) (aA (aj 2) au)))) aC)
noncomputable def yR:S:=(ao (aL 1 (ak (.int 0))) (ao (dB 2 (sS (aj 0)) wB) (ao (aU (aj 1)) aC)))
def sE:G:=cj 3 yR
abbrev xG:Stmt:=top 39
theorem Hz:FnScope ["key","left","many"] ["key","left","many"] (aF xG):=eU
noncomputable def yQ:S:=(ao (aU (s2 (aH .eq) (s2 oMod (bK sE (aA (aj 0) au)) (aj 2)) (aj 1))) aC)
def sy:G:=cj 3 yQ
abbrev xK:Stmt:=inDef (top 40) 2
noncomputable def bG:FnT:=⟨xK,"is_shared","sharer_of.<locals>.is_shared",J0 xK,["many","left"],[]⟩
theorem HW:FnScopeC ["key","many","left"] ["key"] bG.fr (aF bG.st):=SM
theorem Vh:LF xK "many":=by kernel_rfl
theorem Vg:LF xK "left":=by kernel_rfl
noncomputable def vN:S:=(ao (aU (bK sy (aA (aj 0) (aA (aj 2) (aA (aj 1) au))))) aC)
def pL:G:=lA 1 3 vN
abbrev q_:Stmt:=top 40
theorem HS:FnScope ["row","left","many","is_shared"] ["row"] (aF q_):=eU
theorem Vi:LC q_ "left":=by kernel_rfl
theorem Vj:LC q_ "many":=by kernel_rfl
noncomputable def yV:S:=(ao (aL 1 (sN b_ (aA (s2 bU (s2 bU (aj 0) (ak (.int 3))) (ak (.int 0))) au))) (ao (aL 2 (sN b_ (aA (s2 bU (s2 bU (aj 0) (ak (.int 3))) (ak (.int 1))) au))) (fW 0 "sharer_of" bG [("many",2),("left",1)])))
def sI:G:=cj 4 yV
abbrev tZ:Stmt:=top 46
theorem HN:FnScope ["row","things","is_shared"] ["row","things"] (aF tZ):=eU
theorem Vf:LC tZ "is_shared":=by kernel_rfl
noncomputable def vQ:E:=(cG (nJ bG pL (aj 1) (aA (s2 bU (aj 0) (ak (.int 1))) au)))
def zB:E:=(aj 0)
noncomputable def yU:S:=(ao (aL 2 (bK sI (aA (aj 0) au))) (ao (aU (lN [("is_shared",2)] (fP (aj 1)) vQ zB)) aC))
def sH:G:=cj 3 yU
abbrev xJ:Stmt:=top 47
theorem HJ:FnScope ["feeds","things","feed"] ["feeds"] (aF xJ):=eU
def zX:S:=(ao (gM 1 (aj 2)) aC)
noncomputable def yS:S:=(ao (pY 1 (bH au)) (ao (dB 2 (fP (aj 0)) zX) (ao (gO 1) (ao (aU (aj 1)) aC))))
def sG:G:=cj 3 yS
abbrev xM:Stmt:=top 51
theorem HX:FnScope ["row","feeds","mark"] ["row","feeds","mark"] (aF xM):=eU
noncomputable def vO:S:=(ao (cV (s2 (aH .eq) (s2 bU (aj 0) (ak (.int 0))) (ak (.str "keep"))) (ao nQ aC) aC) (ao (cV (s2 (aH .eq) (s2 bU (aj 0) (ak (.int 0))) (ak (.str "turn"))) (ao nQ aC) aC) (ao (cV (s2 (aH .eq) (s2 bU (aj 0) (ak (.int 0))) (ak (.str "share"))) (ao (aU (bK sH (aA (aj 0) (aA (s2 bU (aj 1) (ak (.int 0))) au)))) aC) aC) (ao (cV (s2 (aH .isin) (s2 bU (aj 0) (ak (.int 0))) (bI (aA (ak (.str "fixed")) (aA (ak (.str "slide")) au)))) (ao nQ aC) aC) (ao (cV (s2 (aH .eq) (s2 bU (aj 0) (ak (.int 0))) (ak (.str "gap"))) (ao nQ aC) aC) (ao (cV (s2 (aH .eq) (s2 bU (aj 0) (ak (.int 0))) (ak (.str "join"))) (ao nQ aC) aC) (ao (aU (bK sG (aA (aj 1) au))) aC)))))))
def mF:G:=cj 3 vO
abbrev xO:Stmt:=top 52
theorem HY:FnScope ["row","feeds","mark"] ["row","feeds","mark"] (aF xO):=eU
noncomputable def vP:S:=(ao (aU (gP (bK mF (aA (aj 0) (aA (aj 1) (aA (aj 2) au)))))) aC)
def fO:G:=cj 3 vP
abbrev w5:Stmt:=top 54
theorem Ht:FnScope ["_law_script","_law_k"] ["_law_script","_law_k"] (aF w5):=eU
noncomputable def yK:S:=(ao (cV (s2 (aH .lt) (aj 1) (sN cC (aA (aj 0) au))) (ao (aU (s2 bU (aj 0) (aj 1))) aC) aC) (ao (aU (ak (.int 0))) aC))
def eZ:G:=cj 2 yK
abbrev xg:Stmt:=top 55
theorem Hv:FnScope ["_law_cell","_law_k","_law_number_here"] ["_law_cell","_law_k"] (aF xg):=eU
noncomputable def yM:S:=(ao (aL 2 (s2 oMod (s2 cR (s2 aQ (s2 aQ (aj 0) (s2 cR (ak (.int 7919)) (aj 1))) (ak (.int 1))) (ak (.int 48271))) (ak (.int 2147483647)))) (ao (aU (s2 oMod (s2 cR (aj 2) (s2 aQ (s2 fu (aj 2) (ak (.int 1009))) (ak (.int 69621)))) (ak (.int 2147483647)))) aC))
def pJ:G:=cj 3 yM
abbrev w6:Stmt:=top 56
theorem Hu:FnScope ["_law_number_here","_law_which","_law_some","_law_word","_law_k","_law_at","_law_sign"] ["_law_number_here","_law_which"] (aF w6):=eU
noncomputable def wz:S:=(ao (aL 3 (s2 aQ (aj 3) (s2 bU (aj 2) (s2 oMod (s2 fu (aj 0) (s2 aQ (ak (.int 8)) (s2 cR (ak (.int 25)) (aj 4)))) (ak (.int 26)))))) aC)
noncomputable def yL:S:=(ao (aL 2 (ak (.str "abcdefghijklmnopqrstuvwxyz"))) (ao (aL 3 (ak (.str ""))) (ao (dB 4 (lB (aA (s2 aQ (ak (.int 1)) (s2 oMod (aj 0) (ak (.int 8)))) au)) wz) (ao (aL 5 (s2 oMod (s2 fu (aj 0) (ak (.int 8))) (sN cC (aA (aj 3) au)))) (ao (aL 6 (s2 bU (aj 2) (s2 oMod (s2 aQ (pZ lU (aj 2) (aA (s2 bU (aj 3) (aj 5)) au)) (aj 1)) (ak (.int 26))))) (ao (aU (s2 aQ (s2 aQ (p7 (aj 3) tL (pR (aj 5))) (aj 6)) (p7 (aj 3) (pR (s2 aQ (aj 5) (ak (.int 1)))) tL))) aC))))))
def pI:G:=cj 7 yL
abbrev xu:Stmt:=top 57
theorem Hy:FnScope ["_law_number_here"] ["_law_number_here"] (aF xu):=eU
noncomputable def yP:S:=(ao (cV (s2 (aH .eq) (s2 oMod (aj 0) (ak (.int 4))) (ak (.int 3))) (ao (aU (s2 lG (s2 oMod (s2 dW (aj 0) (ak (.int 10))) (s2 aQ (s2 cR (ak (.int 2)) (s2 dW (ak (.int 10)) (ak (.int 60)))) (ak (.int 1)))) (s2 dW (ak (.int 10)) (ak (.int 60))))) aC) aC) (ao (aU (s2 lG (s2 oMod (s2 fu (aj 0) (ak (.int 4))) (ak (.int 41))) (ak (.int 20)))) aC))
def su:G:=cj 1 yP
abbrev tY:Stmt:=top 58
theorem Hx:FnScope ["_law_script","_law_far","_law_found","_law_k","_law_number_here","_law_seed","_law_key_here"] ["_law_script"] (aF tY):=eU
theorem Jf:LV tY "_law_found":=by kernel_rfl
noncomputable def zV:S:=(ao (aL 4 (bK pJ (aA (bK eZ (aA (aj 0) (aA (s2 aQ (ak (.int 3)) (aj 3)) au))) (aA (aj 3) au)))) (ao (aL 5 (s2 oMod (s2 fu (bK eZ (aA (aj 0) (aA (ak (.int 1)) au))) (ak (.int 2))) (ak (.int 1000003)))) (ao (cV (s2 (aH .eq) (s2 oMod (bK eZ (aA (aj 0) (aA (ak (.int 1)) au))) (ak (.int 2))) (ak (.int 1))) (ao (aL 5 (bK pJ (aA (aj 4) (aA (ak (.int 5)) au)))) aC) aC) (ao (aL 6 (bK pI (aA (aj 5) (aA (s2 oMod (s2 fu (aj 4) (ak (.int 120))) (ak (.int 3))) au)))) (ao (lM 2 (bI (aA (s2 aQ (s2 cR (s2 oMod (aj 4) (ak (.int 40))) (aj 1)) (s2 oMod (s2 fu (aj 4) (ak (.int 40))) (ak (.int 3)))) (aA (aj 6) (aA (bK su (aA (s2 fu (aj 4) (ak (.int 360))) au)) au))))) aC)))))
noncomputable def yO:S:=(ao (aL 1 (s2 bU (bH (aA (ak (.int 1)) (aA (ak (.int 1)) (aA (s2 aQ (s2 dW (ak (.int 10)) (ak (.int 9))) (ak (.int 7))) au)))) (s2 oMod (bK eZ (aA (aj 0) (aA (ak (.int 0)) au))) (ak (.int 3))))) (ao (pY 2 (bH au)) (ao (dB 3 (lB (aA (s2 oMod (s2 fu (bK eZ (aA (aj 0) (aA (ak (.int 0)) au))) (ak (.int 3))) (ak (.int 8))) au)) zV) (ao (cV (s2 (aH .eq) (s2 oMod (s2 fu (bK eZ (aA (aj 0) (aA (ak (.int 0)) au))) (ak (.int 24))) (ak (.int 3))) (ak (.int 2))) (ao (pY 2 (s2 gK (p8 2) (p7 (p8 2) tL (pR (ak (.int 1)))))) aC) aC) (ao (gO 2) (ao (aU (aj 2)) aC))))))
def rZ:G:=cj 7 yO
abbrev xq:Stmt:=top 59
theorem Hw:FnScope ["_law_key_here","_law_number_here","_law_sign"] ["_law_key_here"] (aF xq):=eU
noncomputable def wA:S:=(ao (aL 1 (s2 aQ (s2 cR (aj 1) (ak (.int 26))) (pZ lU (ak (.str "abcdefghijklmnopqrstuvwxyz")) (aA (aj 2) au)))) aC)
noncomputable def yN:S:=(ao (aL 1 (ak (.int 0))) (ao (dB 2 (sS (aj 0)) wA) (ao (aU (aj 1)) aC)))
def pK:G:=cj 3 yN
abbrev wZ:Stmt:=top 60
theorem Hs:FnScope ["_law_found","_law_due","_law_one","_law_other"] ["_law_found","_law_due"] (aF wZ):=eU
noncomputable def wu:S:=(ao (cV (j5 (dY (cG (dX aO "tuple" (aj 2)))) (j5 (s2 (aH .ne) (aj 2) (aj 3)) (j5 (cG (dX aO "bool" (s2 bU (aj 2) (ak (.int 0))))) (cG (dX aO "bool" (s2 bU (aj 2) (ak (.int 2)))))))) (ao (aU (ak (.bl false))) aC) aC) aC)
noncomputable def yJ:S:=(ao (cV (j5 (dY (cG (dX aO "list" (aj 0)))) (s2 (aH .ne) (sN cC (aA (aj 0) au)) (sN cC (aA (aj 1) au)))) (ao (aU (ak (.bl false))) aC) aC) (ao (tW [2,3] (aA (aj 0) (aA (aj 1) au)) wu) (ao (aU (ak (.bl true))) aC)))
def mD:G:=cj 4 yJ
abbrev fX:Stmt:=top 61
theorem HF:FnScope ["_law_script","_law_things_here","_law_many","_law_mark","_law_feeds","_law_parts","_law_k","_law_part","_law_handed","_law_froms","_law_poured","_law_twice","_law_outs"] ["_law_script"] (aF fX):=eU
theorem Vc:LC fX "_law_many":=by kernel_rfl
theorem Vb:LC fX "_law_k":=by kernel_rfl
noncomputable def wH:S:=(ao (aU (lK (bK mD (aA (aj 11) (aA (gP (s2 aQ (aj 1) (aj 1))) au))) (bK mD (aA (aj 12) (aA (gP (aj 1)) au))))) aC)
noncomputable def Ak:S:=(ao (cV (j5 (s2 (aH .ne) (aj 8) (aj 5)) (j5 (s2 (aH .ne) (aj 4) (bH (aA (aj 1) au))) (dY (cG (bK mD (aA (aj 10) (aA (gP (aj 1)) au))))))) (ao (aU (ak (.bl false))) aC) aC) wH)
noncomputable def Aj:S:=(ao (aL 12 (bK fO (aA (bI (aA (ak (.str "out")) (aA (ak (.str "o")) (aA (bI (aA (ak (.str "a")) au)) (aA (bI au) au))))) (aA (aj 4) (aA (aj 3) au))))) Ak)
noncomputable def Ai:S:=(ao (aL 11 (bK fO (aA (bI (aA (ak (.str "pour")) (aA (ak (.str "q")) (aA (bI (aA (ak (.str "a")) (aA (ak (.str "a")) au))) (aA (bI au) au))))) (aA (s2 aQ (aj 4) (aj 4)) (aA (aj 3) au))))) Aj)
noncomputable def Ah:S:=(ao (aL 10 (bK fO (aA (bI (aA (ak (.str "pour")) (aA (ak (.str "p")) (aA (aj 9) (aA (bI au) au))))) (aA (aj 8) (aA (aj 3) au))))) Ai)
def zA:E:=(s2 aQ (ak (.str "s")) (sN dN (aA (aj 0) au)))
noncomputable def Ag:S:=(ao (aL 9 (sN kY (aA (lN [] (lB (aA (sN cC (aA (aj 5) au)) au)) (ak (.bl true)) zA) au))) Ah)
def vZ:E:=(nM (aj 0))
def Aw:S:=(ao (aL 8 (jj 1000 [] (aj 5) vZ)) Ag)
def wK:S:=(ao (tX (aj 5)) Aw)
noncomputable def wJ:S:=(ao (cV (s2 (aH .eq) (aj 2) (ak (.int 1))) (ao (i_ (aj 5) (bH au)) aC) aC) wK)
def wF:S:=(ao (i_ (aj 5) (aj 7)) aC)
noncomputable def yW:E:=(s2 (aH .ne) (s2 oMod (bK pK (aA (s2 bU (aj 0) (ak (.int 1))) au)) (aj 2)) (aj 1))
def Fe:E:=(aj 0)
noncomputable def wD:S:=(ao (cV (s2 (aH .ne) (lN [("_law_k",6),("_law_many",2)] (fP (aj 7)) yW Fe) (bH au)) (ao (aU (ak (.bl false))) aC) aC) wF)
noncomputable def zZ:S:=(ao (cV (j5 (dY (cG (dX aO "list" (aj 7)))) (dY (cG (bK mD (aA (aj 7) (aA (gP (aj 7)) au)))))) (ao (aU (ak (.bl false))) aC) aC) wD)
noncomputable def zW:S:=(ao (aL 7 (bK fO (aA (bI (aA (ak (.str "share")) (aA (s2 aQ (ak (.str "s")) (sN dN (aA (aj 6) au))) (aA (bI (aA (ak (.str "a")) au)) (aA (bI (aA (sN dN (aA (aj 6) au)) (aA (sN dN (aA (aj 2) au)) au))) au))))) (aA (aj 4) (aA (aj 3) au))))) zZ)
def Av:S:=(ao (dB 6 (lB (aA (aj 2) au)) zW) wJ)
def Aq:S:=(ao (aL 5 (wY (bH au))) Av)
def wI:S:=(ao (aL 4 (bH (aA (nM (aj 1)) au))) Aq)
noncomputable def Ao:S:=(ao (cV (s2 (aH .eq) (s2 oMod (s2 fu (bK eZ (aA (aj 0) (aA (ak (.int 2)) au))) (ak (.int 8))) (ak (.int 4))) (ak (.int 3))) (ao (aL 3 (s2 dW (ak (.int 10)) (ak (.int 15)))) aC) aC) wI)
noncomputable def Am:S:=(ao (aL 3 (s2 oMod (s2 fu (bK eZ (aA (aj 0) (aA (ak (.int 2)) au))) (ak (.int 32))) (s2 aQ (s2 dW (ak (.int 10)) (ak (.int 12))) (ak (.int 1))))) Ao)
noncomputable def Af:S:=(ao (aL 2 (s2 aQ (ak (.int 1)) (s2 oMod (bK eZ (aA (aj 0) (aA (ak (.int 2)) au))) (ak (.int 8))))) Am)
def vM:S:=(ao (aL 1 (bK rZ (aA (aj 0) au))) Af)
def Fy:G:=cj 13 vM
section
variable {P:Program}{w:World}{K:Fgx}{mg:Mgx}{C:Ad}{base:Heap}{k k0:Nat}{f:Addr}
theorem RJ (T:Txt K mg C w):RT P w K mg base k f ["key","number","letter"] "key_number" xH yR:=fun cdv A outer s H E hr=>by
 refine eN hr fun hu=>?_;have nd:=(HD).nd;have B_len:=T.blt "len" (by x_go);obtain⟨t_LETTERS,m_LETTERS⟩:=T.k_LETTERS;refine aG (bT (i:=1) nd rfl Lv Ei) ?_;refine aG (rA Yi rfl nd rfl Lv (Ij Sv) (aG (bT (i:=1) nd rfl Lv (aK cJ cM (aK mG mJ Sv (rm pG rfl B_len YF pU (aD (nU (GR (v:=(.str "abcdefghijklmnopqrstuvwxyz")) rfl m_LETTERS ⟨t_LETTERS,rfl⟩)) aJ aV))) (Ce Y6 Y7 Ae Bh (nU (GR (v:=(.str "abcdefghijklmnopqrstuvwxyz")) rfl m_LETTERS ⟨t_LETTERS,rfl⟩)) (aD Sv aJ aV)))) aP)) ?_;exact aG (cH Sv) aP
theorem Rz (T:Txt K mg C w)(a_key_number:aZ P w K mg base k "key_number" 1 sE):RT P w K mg base k f ["key","left","many"] "is_in_share" xG yQ:=fun cdv A outer s H E hr=>by
 refine eN hr fun hu=>?_;have nd:=(Hz).nd;exact aG (cH (Cm hu (aK cL cN (bQ a_key_number hr rfl (aD Sv aJ aV) (cnt_cons cnt_nil)) Sv) Sv)) aP
theorem R4 (T:Txt K mg C w)(a_is_in_share:aZ P w K mg base k "is_in_share" 3 sy):vI P w K mg base k ["key","many","left"] vN bG:=fun f cd cl A outer s H hr=>by
 refine eN hr fun hu=>?_;have nd:=(HW).nd;exact aG (cH (bQ a_is_in_share hr rfl (aD Su (aD (d8 rfl (.inr (.inr Vg))) (aD (d8 rfl (.inr (.inr Vh))) aJ aV) aV) aV) (cnt_cons (cnt_cons (cnt_cons cnt_nil))))) aP
theorem R3 (T:Txt K mg C w){c Pt:Addr}(ht:PySem.W.tabIn K "sharer_of"=some (c,Pt))(hc:PySem.W.codeHdIn K c Pt=true)(hB:gB mg base):Dv P w K mg base k f ["row","left","many","is_shared"] "sharer_of" q_ yV c:=fun A outer s H E hr=>by
 refine Sy hr fun hu=>?_;have nd:=(HS).nd;have B_int:=T.blt "int" (by x_go);refine Hr rfl ?_ ?_
 ·exact(bT (i:=1) nd rfl (.inr Vi) (nR Eh rfl B_int boot_int G9 (aD (Ek (Ek Sv Ei) Ei) aJ rB)))
 refine Hr rfl ?_ ?_
 ·exact(bT (i:=2) nd rfl (.inr Vj) (nR Eh rfl B_int boot_int G9 (aD (Ek (Ek Sv Ei) Ei) aJ rB)))
 exact SJ (Lw (j:=3) ht hc hB nd)
theorem R0 (T:Txt K mg C w)(a_sharer_of:aZ P w K mg base k "sharer_of" 1 sI)(a_sharer_of__is_shared:gA P w K mg base k bG 1 pL):RT P w K mg base k f ["row","things","is_shared"] "shared" tZ yU:=fun cdv A outer s H E hr=>by
 refine eN hr fun hu=>?_;have nd:=(HN).nd;refine aG (bT (i:=2) nd rfl (.inr Vf) (bQ a_sharer_of hr rfl (aD Sv aJ aV) (cnt_cons cnt_nil))) ?_;exact aG (cH (SN.sem (Ck "thing" [("is_shared",2)] rfl (by x_go) (Ci Sv) (fun _ _ _ _ _ _=>(Iu (mO (S7 a_sharer_of__is_shared hr (d8 rfl (.inr (.inl (by kernel_rfl)))) (aD (Ek (d8 rfl (.inl (by kernel_rfl))) Ei) aJ rB) (cnt_cons cnt_nil))))) (fun _ _ _ _ _ _=>(d8 rfl (.inl (by kernel_rfl))))) zj)) aP
theorem RZ (T:Txt K mg C w):RT P w K mg base k f ["feeds","things","feed"] "poured" xJ yS:=fun cdv A outer s H E hr=>by
 refine eN hr fun hu=>?_;have nd:=(HJ).nd;refine aG (Cw (i:=1) nd rfl Lv (mL aJ)) ?_;refine aG (rA Yi rfl nd rfl Lv (Ci Sv) (aG (T6 rfl Lu Sv) aP)) ?_;refine Hq ?_;exact aG (cH Sv) aP
theorem Sd (T:Txt K mg C w)(a_shared:aZ P w K mg base k "shared" 2 sH)(a_poured:aZ P w K mg base k "poured" 1 sG):RT P w K mg base k f ["row","feeds","mark"] "told_in_any_order" xM vO:=fun cdv A outer s H E hr=>by
 refine eN hr fun hu=>?_;have nd:=(HX).nd;refine aG (d7 (Ct hu (Ek Sv Ei) Es) (aG vf aP) aP) ?_;refine aG (d7 (Ct hu (Ek Sv Ei) Es) (aG vf aP) aP) ?_;refine aG (d7 (Ct hu (Ek Sv Ei) Es) (aG (cH (bQ a_shared hr rfl (aD Sv (aD (Ek Sv Ei) aJ rB) aV) (cnt_cons (cnt_cons cnt_nil)))) aP) aP) ?_;refine aG (d7 (Ct hu (Ek Sv Ei) (fY (aD Es (aD Es aJ cB) cB))) (aG vf aP) aP) ?_;refine aG (d7 (Ct hu (Ek Sv Ei) Es) (aG vf aP) aP) ?_;refine aG (d7 (Ct hu (Ek Sv Ei) Es) (aG vf aP) aP) ?_;exact aG (cH (bQ a_poured hr rfl (aD Sv aJ aV) (cnt_cons cnt_nil))) aP
theorem Sg (T:Txt K mg C w)(a_told_in_any_order:aZ P w K mg base k "told_in_any_order" 3 mF):RT P w K mg base k f ["row","feeds","mark"] "told_of" xO vP:=fun cdv A outer s H E hr=>by
 refine eN hr fun hu=>?_;have nd:=(HY).nd;have B_sorted:=T.blt "sorted" (by x_go);exact aG (cH (SN.sem (u_ rfl B_sorted (bQ a_told_in_any_order hr rfl (aD Sv (aD Sv (aD Sv aJ aV) aV) aV) (cnt_cons (cnt_cons (cnt_cons cnt_nil))))) vd)) aP
theorem QW (T:Txt K mg C w):RT P w K mg base k f ["_law_script","_law_k"] "_law_cell_at" w5 yK:=fun cdv A outer s H E hr=>by
 refine eN hr fun hu=>?_;have nd:=(Ht).nd;have B_len:=T.blt "len" (by x_go);refine aG (d7 (Ct hu Sv (rm pG rfl B_len YF pU (aD Sv aJ aV))) (aG (cH (Ek Sv Sv)) aP) aP) ?_;exact aG (cH Ei) aP
theorem QZ (T:Txt K mg C w):RT P w K mg base k f ["_law_cell","_law_k","_law_number_here"] "_law_mixed" xg yM:=fun cdv A outer s H E hr=>by
 refine eN hr fun hu=>?_;have nd:=(Hv).nd;refine aG (bT (i:=2) nd rfl Lv (aK cL cN (aK mG mJ (aK cJ cM (aK cJ cM Sv (aK mG mJ Ei Sv)) Ei) Ei) Ei)) ?_;exact aG (cH (aK cL cN (aK mG mJ Sv (aK cJ cM (aK gn gw Sv Ei) Ei)) Ei)) aP
theorem QX (T:Txt K mg C w):RT P w K mg base k f ["_law_number_here","_law_which","_law_some","_law_word","_law_k","_law_at","_law_sign"] "_law_key" w6 yL:=fun cdv A outer s H E hr=>by
 refine eN hr fun hu=>?_;have nd:=(Hu).nd;have B_len:=T.blt "len" (by x_go);have B_range:=T.blt "range" (by x_go);refine aG (bT (i:=2) nd rfl Lv Es) ?_;refine aG (bT (i:=3) nd rfl Lv Es) ?_;refine aG (rA Yi rfl nd rfl Lv (xR rfl B_range (aD (aK cJ cM Ei (aK cL cN Sv Ei)) aJ lR)) (aG (bT (i:=3) nd rfl Lv (aK cJ cM Sv (Ek Sv (aK cL cN (aK gn gw Sv (aK cJ cM Ei (aK mG mJ Ei Sv))) Ei)))) aP)) ?_;refine aG (bT (i:=5) nd rfl Lv (aK cL cN (aK gn gw Sv Ei) (rm pG rfl B_len YF pU (aD Sv aJ aV)))) ?_;refine aG (bT (i:=6) nd rfl Lv (Ek Sv (aK cL cN (aK cJ cM (Ce Y6 Y7 Ae Bh Sv (aD (Ek Sv Sv) aJ rB)) Sv) Ei))) ?_;exact aG (cH (aK cJ cM (aK cJ cM (Cg Sv Cv (Cu (Wx:=W0) Sv)) Sv) (Cg Sv (Cu (Wx:=W0) (aK cJ cM Sv Ei)) Cv))) aP
theorem Q6 (T:Txt K mg C w):RT P w K mg base k f ["_law_number_here"] "_law_value" xu yP:=fun cdv A outer s H E hr=>by
 refine eN hr fun hu=>?_;have nd:=(Hy).nd;refine aG (d7 (Ct hu (aK cL cN Sv Ei) Ei) (aG (cH (aK GK G_ (aK cL cN (aK pQ pW Sv Ei) (aK cJ cM (aK mG mJ Ei (aK pQ pW Ei Ei)) Ei)) (aK pQ pW Ei Ei))) aP) aP) ?_;exact aG (cH (aK GK G_ (aK cL cN (aK gn gw Sv Ei) Ei) Ei)) aP
theorem Q5 (T:Txt K mg C w)(a__cell_at:aZ P w K mg base k "_law_cell_at" 2 eZ)(a__mixed:aZ P w K mg base k "_law_mixed" 2 pJ)(a__key:aZ P w K mg base k "_law_key" 2 pI)(a__value:aZ P w K mg base k "_law_value" 1 su):RT P w K mg base k f ["_law_script","_law_far","_law_found","_law_k","_law_number_here","_law_seed","_law_key_here"] "_law_things" tY yO:=fun cdv A outer s H E hr=>by
 refine eN hr fun hu=>?_;have nd:=(Hx).nd;have B_range:=T.blt "range" (by x_go);refine aG (bT (i:=1) nd rfl Lv (Ek (SN.sem (mL (aD Ei (aD Ei (aD (aK cJ cM (aK pQ pW Ei Ei) Ei) aJ lR) cB) cB)) lst_is) (aK cL cN (bQ a__cell_at hr rfl (aD Sv (aD Ei aJ cB) aV) (cnt_cons (cnt_cons cnt_nil))) Ei))) ?_;refine aG (Cw (i:=2) nd rfl Lv (mL aJ)) ?_;refine aG (rA Yi rfl nd rfl Lv (xR rfl B_range (aD (aK cL cN (aK gn gw (bQ a__cell_at hr rfl (aD Sv (aD Ei aJ cB) aV) (cnt_cons (cnt_cons cnt_nil))) Ei) Ei) aJ lR)) (aG (bT (i:=4) nd rfl Lv (bQ a__mixed hr rfl (aD (bQ a__cell_at hr rfl (aD Sv (aD (aK cJ cM Ei Sv) aJ lR) aV) (cnt_cons (cnt_cons cnt_nil))) (aD Sv aJ aV) kj) (cnt_cons (cnt_cons cnt_nil)))) (aG (bT (i:=5) nd rfl Lv (aK cL cN (aK gn gw (bQ a__cell_at hr rfl (aD Sv (aD Ei aJ cB) aV) (cnt_cons (cnt_cons cnt_nil))) Ei) Ei)) (aG (d7 (Ct hu (aK cL cN (bQ a__cell_at hr rfl (aD Sv (aD Ei aJ cB) aV) (cnt_cons (cnt_cons cnt_nil))) Ei) Ei) (aG (bT (i:=5) nd rfl Lv (bQ a__mixed hr rfl (aD Sv (aD Ei aJ cB) aV) (cnt_cons (cnt_cons cnt_nil)))) aP) aP) (aG (bT (i:=6) nd rfl Lv (bQ a__key hr rfl (aD Sv (aD (aK cL cN (aK gn gw Sv Ei) Ei) aJ lR) aV) (cnt_cons (cnt_cons cnt_nil)))) (aG (T4 rfl Lu (fY (aD (aK cJ cM (aK mG mJ (aK cL cN Sv Ei) Sv) (aK cL cN (aK gn gw Sv Ei) Ei)) (aD Sv (aD (bQ a__value hr rfl (aD (aK gn gw Sv Ei) aJ lR) (cnt_cons cnt_nil)) aJ kj) aV) lR))) aP)))))) ?_;refine aG (d7 (Ct hu (aK cL cN (aK gn gw (bQ a__cell_at hr rfl (aD Sv (aD Ei aJ cB) aV) (cnt_cons (cnt_cons cnt_nil))) Ei) Ei) Ei) (aG (Cw (i:=2) nd rfl Lv (Tr (Ie rfl (Jf)) (Cg (Ie rfl (Jf)) Cv (Cu (Wx:=W0) Ei)))) aP) aP) ?_;refine Hq ?_;exact aG (cH Sv) aP
theorem Q0 (T:Txt K mg C w):RT P w K mg base k f ["_law_key_here","_law_number_here","_law_sign"] "_law_number" xq yN:=fun cdv A outer s H E hr=>by
 refine eN hr fun hu=>?_;have nd:=(Hw).nd;refine aG (bT (i:=1) nd rfl Lv Ei) ?_;refine aG (rA Yi rfl nd rfl Lv (Ij Sv) (aG (bT (i:=1) nd rfl Lv (aK cJ cM (aK mG mJ Sv Ei) (Ce Y6 Y7 Ae Bh Es (aD Sv aJ aV)))) aP)) ?_;exact aG (cH Sv) aP
theorem QV (T:Txt K mg C w):RT P w K mg base k f ["_law_found","_law_due","_law_one","_law_other"] "_law_alike" wZ yJ:=fun cdv A outer s H E hr=>by
 refine eN hr fun hu=>?_;have nd:=(Hs).nd;have B_bool:=T.blt "bool" (by x_go);have B_isinstance:=T.blt "isinstance" (by x_go);have B_len:=T.blt "len" (by x_go);have B_list:=T.blt "list" (by x_go);have B_tuple:=T.blt "tuple" (by x_go);have B_zip:=T.blt "zip" (by x_go);refine aG (d7 (SW.st (nY (vg (mO (t_ (T:="list") (fun t b h=>sV t "list" b h) Sv rfl B_isinstance rfl B_list boot_list))) (xX (Ct hu (rm pG rfl B_len YF pU (aD Sv aJ aV)) (rm pG rfl B_len YF pU (aD Sv aJ aV)))))) (aG (cH Eb) aP) aP) ?_;refine aG (T7 Yi rfl (Ig (i:=2) nd rfl Lv (Ig (i:=3) nd rfl Lv Te)) rfl B_zip (aD Sv (aD Sv aJ aV) aV) (aG (d7 (SW.st (nY (vg (mO (t_ (T:="tuple") (fun t b h=>sV t "tuple" b h) Sv rfl B_isinstance rfl B_tuple boot_tuple))) (nY (Ct hu Sv Sv) (nY (mO (t_ (T:="bool") (fun t b h=>sV t "bool" b h) (Ek Sv Ei) rfl B_isinstance rfl B_bool boot_bool)) (xX (mO (t_ (T:="bool") (fun t b h=>sV t "bool" b h) (Ek Sv Ei) rfl B_isinstance rfl B_bool boot_bool))))))) (aG (cH Eb) aP) aP) aP)) ?_;exact aG (cH Eb) aP
theorem RK (T:Txt K mg C w)(a_told_of:aZ P w K mg base k "told_of" 3 fO)(a__cell_at:aZ P w K mg base k "_law_cell_at" 2 eZ)(a__things:aZ P w K mg base k "_law_things" 1 rZ)(a__number:aZ P w K mg base k "_law_number" 1 pK)(a__alike:aZ P w K mg base k "_law_alike" 2 mD):RT P w K mg base k f ["_law_script","_law_things_here","_law_many","_law_mark","_law_feeds","_law_parts","_law_k","_law_part","_law_handed","_law_froms","_law_poured","_law_twice","_law_outs"] "law" fX vM:=fun cdv A outer s H E hr=>by
 refine eN hr fun hu=>?_;have nd:=(HF).nd;have B_isinstance:=T.blt "isinstance" (by x_go);have B_len:=T.blt "len" (by x_go);have B_list:=T.blt "list" (by x_go);have B_range:=T.blt "range" (by x_go);have B_sorted:=T.blt "sorted" (by x_go);have B_str:=T.blt "str" (by x_go);have B_tuple:=T.blt "tuple" (by x_go);refine aG (bT (i:=1) nd rfl Lv (bQ a__things hr rfl (aD Sv aJ aV) (cnt_cons cnt_nil))) ?_;refine aG (bT (i:=2) nd rfl (.inr Vc) (aK cJ cM Ei (aK cL cN (bQ a__cell_at hr rfl (aD Sv (aD Ei aJ cB) aV) (cnt_cons (cnt_cons cnt_nil))) Ei))) ?_;refine aG (bT (i:=3) nd rfl Lv (aK cL cN (aK gn gw (bQ a__cell_at hr rfl (aD Sv (aD Ei aJ cB) aV) (cnt_cons (cnt_cons cnt_nil))) Ei) (aK cJ cM (aK pQ pW Ei Ei) Ei))) ?_;refine aG (d7 (Ct hu (aK cL cN (aK gn gw (bQ a__cell_at hr rfl (aD Sv (aD Ei aJ cB) aV) (cnt_cons (cnt_cons cnt_nil))) Ei) Ei) Ei) (aG (bT (i:=3) nd rfl Lv (aK pQ pW Ei Ei)) aP) aP) ?_;refine aG (bT (i:=4) nd rfl Lv (SN.sem (mL (aD (SN.sem (Il rfl B_list Sv) Gq) aJ kj)) lst_is)) ?_;refine aG (bT (i:=5) nd rfl Lv (S8 (mL aJ))) ?_;refine aG (rA Yi rfl nd rfl (.inr Vb) (xR rfl B_range (aD (d8 rfl (.inr Lu)) aJ aV)) (aG (bT (i:=7) nd rfl Lv (bQ a_told_of hr rfl (aD (fY (aD Es (aD (aK cJ cM Es (nR vR rfl B_str boot_str wR (aD (d8 rfl (.inr Lu)) aJ aV))) (aD (fY (aD Es aJ cB)) (aD (fY (aD (nR vR rfl B_str boot_str wR (aD (d8 rfl (.inr Lu)) aJ aV)) (aD (nR vR rfl B_str boot_str wR (aD (d8 rfl (.inr Lu)) aJ aV)) aJ kj) kj)) aJ gQ) gQ) lR) cB)) (aD Sv (aD Sv aJ aV) aV) gQ) (cnt_cons (cnt_cons (cnt_cons cnt_nil))))) (aG (d7 (SW.st (nY (vg (mO (t_ (T:="list") (fun t b h=>sV t "list" b h) Sv rfl B_isinstance rfl B_list boot_list))) (xX (vg (mO (bQ a__alike hr rfl (aD Sv (aD (SN.sem (u_ rfl B_sorted Sv) vd) aJ kj) aV) (cnt_cons (cnt_cons cnt_nil)))))))) (aG (cH Eb) aP) aP) (aG (d7 (Ct hu (SN.sem (Ck "_law_thing" [("_law_k",6),("_law_many",2)] rfl (by x_go) (Ci Sv) (fun _ _ _ _ _ _=>(Iu (IK (zu (X:=cU _ _ _ _ _ _ _ _ _) hu .ne) Bg (aK cL cN (bQ a__number hr rfl (aD (Ek (d8 rfl (.inl (by kernel_rfl))) Ei) aJ rB) (cnt_cons cnt_nil)) (d8 rfl (.inr (.inl (by kernel_rfl))))) (d8 rfl (.inr (.inl (by kernel_rfl))))))) (fun _ _ _ _ _ _=>(d8 rfl (.inl (by kernel_rfl))))) zj) (SN.sem (mL aJ) lst_is)) (aG (cH Eb) aP) aP) (aG (Iz Sv Sv) aP))))) ?_;refine aG (d7 (Ct hu (d8 rfl (.inr Lu)) Ei) (aG (Iz Sv (SN.sem (mL aJ) lst_is)) aP) aP) ?_;refine aG (T9 Sv) ?_;refine aG (T5 1000 "_law_part" [] (i:=8) nd rfl Lv rfl (by x_go) Sv (fun _ _ _ _ _ _=>(SN.sem (Il rfl B_list (d8 rfl (.inl (by kernel_rfl)))) Gq))) ?_;refine aG (bT (i:=9) nd rfl Lv (nR JH rfl B_tuple boot_tuple Pn (aD (SN.sem (Ck "_law_k" [] rfl (by x_go) (xR rfl B_range (aD (rm pG rfl B_len YF pU (aD Sv aJ aV)) aJ kj)) (fun _ _ _ _ _ _=>TY) (fun _ _ _ _ _ _=>(aK cJ cM Es (nR vR rfl B_str boot_str wR (aD (d8 rfl (.inl (by kernel_rfl))) aJ aV))))) zj) aJ T_))) ?_;refine aG (bT (i:=10) nd rfl Lv (bQ a_told_of hr rfl (aD (fY (aD Es (aD Es (aD Sv (aD (fY aJ) aJ gQ) aV) cB) cB)) (aD Sv (aD Sv aJ aV) aV) gQ) (cnt_cons (cnt_cons (cnt_cons cnt_nil))))) ?_;refine aG (bT (i:=11) nd rfl Lv (bQ a_told_of hr rfl (aD (fY (aD Es (aD Es (aD (fY (aD Es (aD Es aJ cB) cB)) (aD (fY aJ) aJ gQ) gQ) cB) cB)) (aD (aK cJ cM Sv Sv) (aD Sv aJ aV) lR) gQ) (cnt_cons (cnt_cons (cnt_cons cnt_nil))))) ?_;refine aG (bT (i:=12) nd rfl Lv (bQ a_told_of hr rfl (aD (fY (aD Es (aD Es (aD (fY (aD Es aJ cB)) (aD (fY aJ) aJ gQ) gQ) cB) cB)) (aD Sv (aD Sv aJ aV) aV) gQ) (cnt_cons (cnt_cons (cnt_cons cnt_nil))))) ?_;refine aG (d7 (SW.st (nY (Ct hu Sv Sv) (nY (Ct hu Sv (SN.sem (mL (aD Sv aJ aV)) lst_is)) (xX (vg (mO (bQ a__alike hr rfl (aD Sv (aD (SN.sem (u_ rfl B_sorted Sv) vd) aJ kj) aV) (cnt_cons (cnt_cons cnt_nil))))))))) (aG (cH Eb) aP) aP) ?_;exact aG (cH (S6 (bQ a__alike hr rfl (aD Sv (aD (SN.sem (u_ rfl B_sorted (aK cJ cM Sv Sv)) vd) aJ kj) aV) (cnt_cons (cnt_cons cnt_nil))) (Tc (bQ a__alike hr rfl (aD Sv (aD (SN.sem (u_ rfl B_sorted Sv) vd) aJ kj) aV) (cnt_cons (cnt_cons cnt_nil)))))) aP
end
def tabs:List (Str×FnT):=[("sharer_of",bG)]
noncomputable def ni:Nat:=7
def fQ:G:=Fy
abbrev Vn:String:="wV tU BR Bx BJ BK Qh QF Bp Sh BX BZ Qf RN Pz QS PB QT Bw Vo Vt Dk Vq Vu Vp QC Qv RW PJ Bm RD Qu Qg Rq Ro Qt RV Ra QD Qq Rj P_ Rf Rk Qd RL Qo QB Bo R6 R5 Qx Qw RX Rh PN RP Qs Qy BL Bk Qk Rx PK Q8 Qj Rw Ql Ry Qz Bj Ru Rt Mi Mj Ni Mt M7 Nf Ba A_ Az Ay Mr M9 Mz MJ MK M6 Nk Nj Nh Ng sizeLine_eq Option.map_some Option.map_none List.getElem?_cons_zero List.getElem?_cons_succ List.set_cons_zero List.set_cons_succ List.map_cons List.map_nil List.length_cons List.length_nil List.length_map List.replicate List.cons_append List.nil_append List.append_nil reduceCtorEq if_true if_false reduceIte Bool.not_true Bool.not_false Nat.reduceSub Nat.reduceAdd Nat.reduceLeDiff Nat.reduceLT Int.reduceLT Int.reduceLE Int.reduceAdd Int.reduceSub Int.reduceMul Int.reduceNeg Int.reduceAbs Int.reduceEq Int.reducePow Int.reduceMod Int.reduceDiv Int.reduceToNat Nat.zero_le and_true true_and and_self or_true true_or Bool.false_eq_true decide_eq_true_eq decide_true decide_false Bool.not_eq_true' decide_eq_false_iff_not not_true_eq_false not_false_eq_true eq_self Qe Rm Rn Qc Qa Option.getD_some Qm RB ty_int ty_str U3 U5 U6 U4 Va Vk Dg Ve Vl Vd U_ Rv M8 List.isEmpty_cons List.isEmpty_nil Bool.true_eq_false Bool.and_self Bool.and_true Bool.true_and Bool.and_false Bool.false_and Ri Rg Rb Rr Rp RM Q_ PL Qn RG BP Bl Mp Ml MF MP pP wL Nm Mu Nb Ms M_ Mv Mw Mx Bool.true_or Bool.false_or Bool.or_true Bool.or_false at0 at1 at2 Jr Fw s_end w_end Qp wU BW R8 R7 R9 R_"
local macro_rules | `(tactic| z_go)=>do
 let l <-(Vn.splitOn " ").toArray.mapM fun n=> `(Lean.Parser.Tactic.simpLemma| $(Lean.mkIdent n.toName):term)
 `(tactic| try simp only[$l,*])
noncomputable def tm:D->Int
 |.tup (.int t::_)=>t
 |_=>0
noncomputable def ky:D->Str
 |.tup (_::.str z::_)=>z
 |_=>""
noncomputable def vl:D->Int
 |.tup (_::_::.int v::_)=>v
 |_=>0
def Tg (d:D):Prop:=d=.tup [.int (tm d),.str (ky d),.int (vl d)]
def Jk (ds:List D):Prop:=ds.Pairwise fun a b=>tm a<=tm b
def Tk (d:D):Prop:=∃(t:Int) (z:Str) (v:Int),d=.tup [.int t,.str z,.int v]
theorem vq {d:D}(h:Tk d):Tg d:=by
 obtain⟨t,z,v,rfl⟩:=h;rfl
def ks (d:D):List Nat:=(ky d).cps.toList
def fj (d e:D):Prop:=tm d<tm e\/tm d=tm e/\(ks d<ks e\/ks d=ks e/\vl d<=vl e)
theorem Gk (d:D):fj d d:=.inr ⟨rfl,.inr ⟨rfl,Int.le_refl _⟩⟩
theorem Lh (a b c:D)(h1:fj a b)(h2:fj b c):fj a c:=by
 rcases h1 with h1 |⟨e1,h1⟩
 ·rcases h2 with h2 |⟨e2,h2⟩
  ·exact .inl (by omega)
  ·exact .inl (by omega)
 ·rcases h2 with h2 |⟨e2,h2⟩
  ·exact .inl (by omega)
  ·refine .inr ⟨by omega,?_⟩;rcases h1 with h1 |⟨k1,h1⟩
   ·rcases h2 with h2 |⟨k2,h2⟩
    ·exact .inl (List.lt_trans h1 h2)
    ·exact .inl (by rw[<-k2];exact h1)
   ·rcases h2 with h2 |⟨k2,h2⟩
    ·exact .inl (by rw[k1];exact h2)
    ·exact .inr ⟨k1.trans k2,by omega⟩
theorem Gi {a b:Str}(h:a.cps.toList=b.cps.toList):a=b:=PySem.Str.ext' (Array.toList_inj.mp h)
theorem Lp {t t' v v':Int}{z z':Str}:∃b,lF [.int t,.str z,.int v] [.int t',.str z',.int v']=some b/\(b=true->fj (.tup [.int t,.str z,.int v]) (.tup [.int t',.str z',.int v']))/\(b=false->fj (.tup [.int t',.str z',.int v']) (.tup [.int t,.str z,.int v])):=by
 simp only[lF]
 by_cases e:t=t'
 ·subst e;rw[Wv rfl]
  by_cases e:z=z'
  ·subst e;rw[Wv rfl]
   by_cases e:v=v'
   ·subst e;rw[Wv rfl];exact⟨false,rfl,(fun h=>Bool.noConfusion h),fun _=>Gk _⟩
   ·rw[WY e];refine⟨_,rfl,fun h=>.inr ⟨rfl,.inr ⟨rfl,?_⟩⟩,fun h=>.inr ⟨rfl,.inr ⟨rfl,?_⟩⟩⟩
    ·have:=Yl h;show v<=v';omega
    ·have:=ZF h;show v'<=v;omega
  ·rw[WY e];refine⟨_,rfl,fun h=>.inr ⟨rfl,.inl (Yl h)⟩,fun h=>.inr ⟨rfl,.inl ?_⟩⟩;have h:=ZF h;show z'.cps.toList<z.cps.toList
   by_cases g:z'.cps.toList<z.cps.toList
   ·exact g
   ·exact absurd (Gi (List.le_antisymm (List.not_lt.mp g) (List.not_lt.mp h))) e
 ·rw[WY e];refine⟨_,rfl,fun h=>.inl (Yl h),fun h=>.inl ?_⟩;have:=ZF h;show t'<t;omega
theorem xW {ds:List D}(hT:∀d∈ds,Tg d)(hl:ds.length<64):∃es,eV ds=some es/\es.Perm ds/\es.Pairwise fj:=
 TF hl (XF.mpr fun d hd=>by rw[hT d hd];rfl) Gk Lh fun xs ys hx hy=>by
  have e1:=hT _ hx;have e2:=hT _ hy;unfold Tg at e1 e2;have f1:=D.tup.inj e1;have f2:=D.tup.inj e2;generalize tm (D.tup xs)=t at f1;generalize ky (D.tup xs)=z at f1;generalize vl (D.tup xs)=v at f1;generalize tm (D.tup ys)=t' at f2;generalize ky (D.tup ys)=z' at f2;generalize vl (D.tup ys)=v' at f2;rw[f1,f2];exact Lp
theorem Wg {es:List D}(h:es.Pairwise fj):Jk es:=h.imp fun {a b} h=>by
 rcases h with h |⟨h, -⟩<;>omega
theorem VN {t t':Int}{z z':Str}(h:t<t'\/t=t'/\z.cps.toList<z'.cps.toList):v9 [.int t,.str z] [.int t',.str z']=some false:=by
 simp only[v9];rcases h with h |⟨rfl,h⟩
 ·rw[WY (by omega),X3 (by omega)]
 ·rw[Wv rfl,WY (fun e=>by subst e;exact Zv _ h),decide_eq_true h];rfl
theorem Lg {a b:D}(ha:Tg a)(hb:Tg b)(h1:fj a b)(h2:fj b a):a=b:=by
 have e:tm a=tm b/\ks a=ks b/\vl a=vl b:=by
  rcases h1 with h1 |⟨e1,h1⟩
  ·rcases h2 with h2 |⟨e2,_⟩<;>omega
  ·rcases h2 with h2 |⟨e2,h2⟩
   ·omega
   ·rcases h1 with h1 |⟨k1,h1⟩
    ·rcases h2 with h2 |⟨k2,_⟩
     ·exact absurd (List.lt_trans h1 h2) (Zv _)
     ·rw[k2]at h1;exact absurd h1 (Zv _)
    ·rcases h2 with h2 |⟨k2,h2⟩
     ·rw[k1]at h2;exact absurd h2 (Zv _)
     ·exact⟨e1,k1,by omega⟩
 rw[ha,hb,e.1,Gi e.2.1,e.2.2]
theorem Iw:∀{es fs:List D},es.Perm fs->es.Pairwise fj->fs.Pairwise fj->(∀d∈es,Tg d)->es=fs
  | [],fs,p,_,_,_=>(List.Perm.nil_eq p)
  |a::es,[],p,_,_,_=>by cases List.Perm.eq_nil p
  |a::es,b::fs,p,h1,h2,t=>by
    have p1:=xaN.mp h1;have p2:=xaN.mp h2;have eb:b∈a::es:=p.mem_iff.mpr (by simp);have ea:a∈b::fs:=p.mem_iff.mp (by simp);have e:a=b:=by
      rcases W6.mp eb with e |eb
      · exact e.symm
      · rcases W6.mp ea with e |ea
        · exact e
        · exact Lg (t a (by simp)) (t b (by simp[eb])) (p1.1 b eb) (p2.1 a ea)
    subst e;rw[Iw p.cons_inv p1.2 p2.2 fun d hd=>t d (by simp[hd])]
theorem Iv {ds es:List D}(hT:∀d∈ds,Tg d)(hl:ds.length<64)(p:es.Perm ds)(h:es.Pairwise fj):eV ds=some es:=by
 obtain⟨fs,e1,e2,e3⟩:=xW hT hl;rw[e1,Iw (p.trans e2.symm) h e3 fun d hd=>hT d (p.mem_iff.mp hd)]
variable {M:Mm}
noncomputable def ABC:Str:=Str.ofString "abcdefghijklmnopqrstuvwxyz"
theorem vL:ABC.length=26:=by x_go
def gk (z:Str):Prop:=∀c∈cd z,97<=c/\c<=122
theorem DW {i:Int}(h0:0<=i)(h1:i<26):∃c,(97<=c/\c<=122)/\bZ ABC.cps.toList i=some c:=by
 have hl:ABC.cps.toList.length=26:=by x_go
 refine⟨_,?_,DR 0 h0 (by rw[hl];exact h1)⟩;have all:ABC.cps.toList.all (fun c=>decide (97<=c/\c<=122))=true:=by x_go
 have m:ABC.cps.toList.getD i.toNat 0∈ABC.cps.toList:=by
  rw[W7,Wu (by rw[hl];omega)];exact Yo _
 simpa using XF.mp all _ m
theorem KY {c:Nat}(h:97<=c/\c<=122):∃i:Int,lU ABC [.str ⟨#[c]⟩]=some (.int i):=by
 have all:(List.range 26).all (fun j=>match lU ABC [.str ⟨#[97 + j]⟩] with |some (.int _)=>true |_=>false)=true:=by x_go
 have:=XF.mp all (c - 97) (Zr.mpr (by omega));rw[show 97 + (c - 97)=c by omega]at this;split at this
 ·rename_i i e;exact⟨i,e⟩
 ·cases this
theorem Tq {x:Str}{j:Int}(h:0<=j/\j<=x.length):cd (Txt.slice x none (some j))=(cd x).take j.toNat:=by
 have:=PyProof.Rows.slice_closes_to (x:=x) (j:=j) ⟨h.1,by show j<=((cd x).length:Int);rw[<-fU];exact h.2⟩;rw[eq_of_beq this];show List.take (j - 0).toNat (List.drop (0:Int).toNat (cd x))=_;rw[Int.sub_zero];rfl
theorem Tp {x:Str}{j:Int}(h:0<=j/\j<=x.length):cd (Txt.slice x (some j) none)=(cd x).drop j.toNat:=by
 have:=PyProof.Rows.slice_closes_from (x:=x) (i:=j) ⟨h.1,by show j<=((cd x).length:Int);rw[<-fU];exact h.2⟩;rw[eq_of_beq this];show List.take (((cd x).length:Int) - j).toNat (List.drop j.toNat (cd x))=_;rw[xan];rw[Z9];omega
theorem Lq {w:Str}{c:Nat}(h:gk w)(hc:97<=c/\c<=122):gk (w ++ ⟨#[c]⟩):=fun x hx=>by
 rw[rR,Xd]at hx;rcases hx with hx |hx
 ·exact h x hx
 ·rw[yZ,Yx]at hx;rw[hx];exact hc
theorem Gm {w:Str}{c:Nat}:(w ++ ⟨#[c]⟩:Str).length=w.length + 1:=by
 rw[fU,rR,yZ,Wz, <-fU];rfl
theorem Ut {n:Int}{s1:Slot}{w:Str}{p:Nat}(hp:p<=8)(hw:w.length<=100):∃c:Nat,(97<=c/\c<=122)/\wz [.val (.int n),s1,.val (.str ABC),.val (.str w),.val (.int (0 + (p:Int))),.un,.un] M=some (.nx [.val (.int n),s1,.val (.str ABC),.val (.str (w ++ ⟨#[c]⟩)),.val (.int (0 + (p:Int))),.un,.un],M):=by
 have p0:=Xz (n / (8 + 25 * (p:Int))) (show(26:Int)≠0 by decide);have p1:=Xk (n / (8 + 25 * (p:Int))) (show(0:Int)<26 by decide);obtain⟨c,hc,ec⟩:=DW p0 p1;refine⟨c,hc,?_⟩;have e:(0:Int) + (p:Int)=(p:Int):=xaO _;rw[e];unfold wz;z_go;rw[Wv ⟨by omega,by omega⟩];z_go;rw[Wv (by rw[vL];decide),ec];z_go;rw[Wv (by rw[show(⟨#[c]⟩:Str).length=1 from rfl];omega)];z_go
theorem K7 {n:Int}{s1:Slot}{m:Nat}(hm:m<=8):∃(w:Str) (s4:Slot),gk w/\w.length=m/\loopS 4 wz ((List.range m).map fun(k:Nat)=>D.int (0 + (k:Int))) [.val (.int n),s1,.val (.str ABC),.val (.str (Str.ofString "")),.un,.un,.un] M=some (.nx [.val (.int n),s1,.val (.str ABC),.val (.str w),s4,.un,.un],M):=by
 refine zY (fun o=>∃(w:Str) (s4:Slot),gk w/\w.length=m/\o=some (.nx [.val (.int n),s1,.val (.str ABC),.val (.str w),s4,.un,.un],M)) (fun j env N=>N=M/\∃(w:Str) (s4:Slot),gk w/\w.length=j/\env=[.val (.int n),s1,.val (.str ABC),.val (.str w),s4,.un,.un]) ⟨rfl,_,_,(fun c h=>by rw[show cd (Str.ofString "")=[] by x_go]at h;cases h),by x_go,rfl⟩ ?_ ?_
 ·rintro j d env N hd ⟨rfl,w,s4,hw,hl,rfl⟩;rw[Wy]at hd;have hn:j<m:=by
   rcases W8 j m with h |h
   ·exact h
   ·rw[Xb (by rw[Xq];exact h)]at hd;cases hd
  rw[Yr hn]at hd;cases hd;refine⟨by simp,?_⟩;simp only[Yg,Yh];obtain⟨c,hc,e⟩:=Ut (M:=N) (n:=n) (s1:=s1) (w:=w) (p:=j) (by omega) (by omega);rw[e];exact⟨rfl,_,_,Lq hw hc,by rw[Gm,hl],rfl⟩
 ·rintro env N ⟨rfl,w,s4,hw,hl,rfl⟩;rw[WK,Xq]at hl;exact⟨w,s4,hw,hl,rfl⟩
theorem K9 {n q:Int}:∃z:Str,gk z/\1<=z.length/\z.length<=8/\pI [.int n,.int q] M=some (.v (.str z),M):=by
 have m0:=Xz n (show(8:Int)≠0 by decide);have m1:=Xk n (show(0:Int)<8 by decide);obtain⟨w,s4,hw,hl,lp⟩:=K7 (M:=M) (n:=n) (s1:=.val (.int q)) (m:=(1 + n % 8).toNat) (by omega);have wl:(w.length:Int)=1 + n % 8:=by rw[hl];omega
 have a0:=Xz (n / 8) (show((w.length:Nat):Int)≠0 by omega);have a1:=Xk (n / 8) (show(0:Int)<((w.length:Nat):Int) by omega);generalize ea:n / 8 % ((w.length:Nat):Int)=at_ at a0 a1;have hc:∃c,(97<=c/\c<=122)/\bZ w.cps.toList at_=some c:=by
  refine⟨_,?_,DR 0 a0 (by show at_<((cd w).length:Int);rw[<-fU];exact a1)⟩;refine hw _ ?_;show(cd w).getD at_.toNat 0∈cd w;rw[W7,Wu (by rw[<-fU];omega)];exact Yo _
 obtain⟨c,hc,ec⟩:=hc;obtain⟨i,ei⟩:=KY hc;have p0:=Xz (i + q) (show(26:Int)≠0 by decide);have p1:=Xk (i + q) (show(0:Int)<26 by decide);obtain⟨c',hc',ec'⟩:=DW p0 p1;have t1:=Tq (x:=w) (j:=at_) ⟨a0,by omega⟩;have t2:=Tp (x:=w) (j:=at_ + 1) ⟨by omega,by omega⟩;have l1:(Txt.slice w none (some at_)).length=at_.toNat:=by rw[fU,t1,Y9, <-fU];omega
 have l2:(Txt.slice w (some (at_ + 1)) none).length=w.length - (at_ + 1).toNat:=by rw[fU,t2,Z9, <-fU]
 have l3:(Txt.slice w none (some at_) ++ ⟨#[c']⟩:Str).length=at_.toNat + 1:=by rw[Gm,l1]
 have l4:(Txt.slice w none (some at_) ++ ⟨#[c']⟩ ++ Txt.slice w (some (at_ + 1)) none:Str).length=w.length:=by
  rw[fU,rR,Wz, <-fU, <-fU,l2,l3];omega
 refine⟨Txt.slice w none (some at_) ++ ⟨#[c']⟩ ++ Txt.slice w (some (at_ + 1)) none,fun x hx=>?_,by omega,by omega,?_⟩
 ·rw[rR,Xd,rR,Xd,t1,t2,yZ,Yx]at hx;rcases hx with(hx |hx) |hx
  ·exact hw x (xax hx)
  ·rw[hx];exact hc'
  ·exact hw x (List.mem_of_mem_drop hx)
 ·unfold pI yL;z_go;rw[wX (by omega)];z_go;rw[show Str.ofString "abcdefghijklmnopqrstuvwxyz"=ABC from rfl,lp];z_go;rw[Wv (show w.length<=16777216 by omega)];z_go;rw[Wv (show(0:Int)<((w.length:Nat):Int) by omega)];z_go;rw[ea]
  try rw[Wv (show w.length<=16777216 by omega)]
  z_go;rw[ec];z_go;rw[ei];z_go;rw[Wv (by rw[vL];decide),ec'];z_go
  try rw[Wv (show w.length<=16777216 by omega)]
  z_go;rw[Wv (by rw[l1,show(⟨#[c']⟩:Str).length=1 from rfl];omega)];z_go
  try rw[Wv (show w.length<=16777216 by omega)]
  z_go;rw[Wv (by rw[l2,l3];omega)];z_go
theorem Gx {c k:Int}(hk:k.natAbs<18446744073709551616):∃x:Int,0<=x/\x<2147483647/\pJ [.int c,.int k] M=some (.v (.int x),M):=by
 have a0:=Xz ((c + 7919 * k + 1) * 48271) (show(2147483647:Int)≠0 by decide);have a1:=Xk ((c + 7919 * k + 1) * 48271) (show(0:Int)<2147483647 by decide);unfold pJ yM;z_go;rw[Wv (.inl (by omega))];z_go;exact⟨_,Xz _ (by decide),Xk _ (by decide),rfl⟩
theorem Vm {n:Int}(h0:0<=n)(h1:n<2147483647):∃v:Int,su [.int n] M=some (.v (.int v),M):=by
 unfold su yP;z_go
 by_cases h:n % 4=3
 ·simp only[h,YK];z_go;rw[Wv (by omega)];z_go;exact⟨_,rfl⟩
 ·simp only[h,Xo];z_go;exact⟨_,rfl⟩
noncomputable def kn (z:Str):Int:=(cd z).foldl (fun(n:Int) (c:Nat)=>n * 26 + ((c:Int) - 97)) 0
theorem Gd {c:Nat}(h:97<=c/\c<=122):lU ABC [.str ⟨#[c]⟩]=some (.int ((c:Int) - 97)):=by
 have all:(List.range 26).all (fun j=>match lU ABC [.str ⟨#[97 + j]⟩] with |some (.int i)=>decide (i=(j:Int)) |_=>false)=true:=by x_go
 have:=XF.mp all (c - 97) (Zr.mpr (by omega));rw[show 97 + (c - 97)=c by omega]at this;split at this
 ·rename_i i e;have:=Yl this;rw[e,this];congr 2;omega
 ·cases this
variable {M:Mm}
theorem yH {a0 a1:Slot}{d:D}(h:Tk d):wu [a0,a1,.val d,.val d] M=some (.nx [a0,a1,.val d,.val d],M):=by
 obtain⟨t,z,v,rfl⟩:=h;have o:aH .ne (.tup [.int t,.str z,.int v]) (.tup [.int t,.str z,.int v])=some (.bl false):=wM (show 1<=50 by decide);unfold wu;z_go;rw[K5];z_go;rw[o];z_go;rw[Ge];z_go
 try rw[Ge]
 z_go
theorem DN {a0 a1:Slot}:∀(R:List D) (s2 s3:Slot),(∀d∈R,Tk d)->∃s2' s3',lD [2,3] wu ((R.zip R).map fun p=>.tup [p.1,p.2]) [a0,a1,s2,s3] M=some (.nx [a0,a1,s2',s3'],M)
  | [],s2,s3,_=>⟨s2,s3,rfl⟩
  |d::R,s2,s3,h=>by
    obtain⟨s2',s3',ih⟩:=DN R (.val d) (.val d) fun x hx=>h x (by simp[hx]);refine⟨s2',s3',?_⟩;have e:=yH (M:=M) (a0:=a0) (a1:=a1) (h d (by simp));have ht:n_ [2,3] (.tup [d,d]) [a0,a1,s2,s3]=some [a0,a1,.val d,.val d]:=rfl;rw[YW,X7];simp only[lD,ht,e];exact ih
theorem v7 {es:List D}(h:∀d∈es,Tk d):mD [.lst es,.lst es] M=some (.v (.bl true),M):=by
 obtain⟨s2,s3,e⟩:=DN (M:=M) (a0:=.val (.lst es)) (a1:=.val (.lst es)) es .un .un h;unfold mD yJ;z_go;rw[Gf];z_go;rw[VD (ds:=es) (es:=es) (M1:=M) (by z_go),e];z_go
theorem C_ {a0:Slot}{n:Int}{c:Nat}(h:97<=c/\c<=122):wB [a0,.val (.int n),.val (.str ⟨#[c]⟩)] M=some (.nx [a0,.val (.int (n * 26 + ((c:Int) - 97))),.val (.str ⟨#[c]⟩)],M):=by
 have ix:=Gd h;unfold wB;rw[show Str.ofString "abcdefghijklmnopqrstuvwxyz"=ABC from rfl];z_go;rw[Wv (by rw[vL];decide)];z_go;rw[vL,Wv (.inr (.inl (by decide)))];z_go;rw[ix];z_go;rfl
theorem Gh {a0:Slot}:∀(cs:List Nat) (n:Int) (s2:Slot),(∀c∈cs,97<=c/\c<=122)->∃s2',loopS 2 wB (cs.map fun c=>.str ⟨#[c]⟩) [a0,.val (.int n),s2] M=some (.nx [a0,.val (.int (cs.foldl (fun(n:Int) (c:Nat)=>n * 26 + ((c:Int) - 97)) n)),s2'],M)
  | [],n,s2,_=>⟨s2,rfl⟩
  |c::cs,n,s2,h=>by
    obtain⟨s2',ih⟩:=Gh (a0:=a0) cs (n * 26 + ((c:Int) - 97)) (.val (.str ⟨#[c]⟩)) fun x hx=>h x (by simp[hx]);refine⟨s2',?_⟩;rw[X7,wU,Wv (by simp)];simp only[Yh,Yg];rw[C_ (h c (by simp)),BW];exact ih
theorem zG {z:Str}(h:gk z):sE [.str z] M=some (.v (.int (kn z)),M):=by
 obtain⟨s2,e⟩:=Gh (M:=M) (a0:=.val (.str z)) (cd z) 0 .un h;unfold sE yR;z_go;rw[show z.cps.toList=cd z from rfl,e];z_go;rfl
theorem Dc {a0:Slot}{n:Int}{c:Nat}(h:97<=c/\c<=122):wA [a0,.val (.int n),.val (.str ⟨#[c]⟩)] M=some (.nx [a0,.val (.int (n * 26 + ((c:Int) - 97))),.val (.str ⟨#[c]⟩)],M):=by
 have ix:=Gd h;unfold wA;rw[show Str.ofString "abcdefghijklmnopqrstuvwxyz"=ABC from rfl];z_go;rw[ix];z_go
theorem Gs {a0:Slot}:∀(cs:List Nat) (n:Int) (s2:Slot),(∀c∈cs,97<=c/\c<=122)->∃s2',loopS 2 wA (cs.map fun c=>.str ⟨#[c]⟩) [a0,.val (.int n),s2] M=some (.nx [a0,.val (.int (cs.foldl (fun(n:Int) (c:Nat)=>n * 26 + ((c:Int) - 97)) n)),s2'],M)
  | [],n,s2,_=>⟨s2,rfl⟩
  |c::cs,n,s2,h=>by
    obtain⟨s2',ih⟩:=Gs (a0:=a0) cs (n * 26 + ((c:Int) - 97)) (.val (.str ⟨#[c]⟩)) fun x hx=>h x (by simp[hx]);refine⟨s2',?_⟩;rw[X7,wU,Wv (by simp)];simp only[Yh,Yg];rw[Dc (h c (by simp)),BW];exact ih
theorem zH {z:Str}(h:gk z):pK [.str z] M=some (.v (.int (kn z)),M):=by
 obtain⟨s2,e⟩:=Gs (M:=M) (a0:=.val (.str z)) (cd z) 0 .un h;unfold pK yN;z_go;rw[show z.cps.toList=cd z from rfl,e];z_go;rfl
variable {M:Mm}
theorem J5 {z:Str}{l m:Int}(h:gk z)(hm:0<m):sy [.str z,.int l,.int m] M=some (.v (.bl (decide (kn z % m=l))),M):=by
 unfold sy yQ;z_go;rw[zG h];z_go;rw[Wv hm];z_go
theorem J3 {z:Str}{l m:Int}(h:gk z)(hm:0<m):pL [.str z,.int m,.int l] M=some (.v (.bl (decide (kn z % m=l))),M):=by
 show bB (vN [.val (.str z),.val (.int m),.val (.int l)] M)=_;unfold vN;z_go;rw[J5 h hm];z_go
theorem xQ {n:Int}(h0:0<=n)(h1:n<=100):dN [.int n]=some (.str (bR n))/\b_ [.str (bR n)]=some (.int n)/\(bR n).length<=4:=by
 have hl:(bR n).length<=4:=Ih (i:=n) (k:=3) (by decide) (by omega);refine⟨?_,?_,hl⟩
 ·rw[pP,Wv (Lj (by omega))];rfl
 ·rw[wL,Wv (by omega),Kz (Wo (show n.natAbs<101 by omega) (by x_go))];rfl
abbrev bf (l m:Int):List (Str×D):=[("many",.int m),("left",.int l)]
theorem J7 {l m:Int}{x0 x1 x2:D}(hM:M[0]? =some (.tbl "sharer_of" bG))(hl:b_ [.str (bR l)]=some (.int l))(hm:b_ [.str (bR m)]=some (.int m)):sI [.tup [x0,x1,x2,.tup [.str (bR l),.str (bR m)]]] M=some (.v (.ref M.length),M ++ [.fn bG (bf l m)]):=by
 have mk:=z9 (env:=[.val (.tup [x0,x1,x2,.tup [.str (bR l),.str (bR m)]]),.val (.int l),.val (.int m),.un]) (caps:=[("many",2),("left",1)]) (cs:=bf l m) hM rfl;unfold sI yV;generalize fW 0 "sharer_of" bG [("many",2),("left",1)]=F at mk ⊢;z_go;rw[<-wL,hl];z_go;rw[<-wL,hm];z_go;rw[mk];z_go
def shr (m l:Int)(d:D):Bool:=decide (kn (ky d) % m=l)
def Th (d:D):Prop:=Tk d/\gk (ky d)
theorem J6 {l m:Int}{x0 x1 x2:D}{T:List D}(hM:M[0]? =some (.tbl "sharer_of" bG))(hl:b_ [.str (bR l)]=some (.int l))(hm:b_ [.str (bR m)]=some (.int m))(m0:0<m)(hT:∀d∈T,Th d)(tl:T.length<=100):
    sH [.tup [x0,x1,x2,.tup [.str (bR l),.str (bR m)]],.lst T] M=some (.v (.lst (T.filter (shr m l))),M ++ [.fn bG (bf l m)]):=by
  have sh:=J7 (x0:=x0) (x1:=x1) (x2:=x2) hM hl hm;have hf:(M ++ [Cl.fn bG (bf l m)])[M.length]? =some (.fn bG (bf l m)):=by
    rw[WR (Wq _),Zk];rfl
  have cm:dU vQ zB [.val (.ref M.length)] T [] (M ++ [Cl.fn bG (bf l m)])=some (T.filter (shr m l),M ++ [Cl.fn bG (bf l m)]):=by
    rw[vU (fun d=>if shr m l d=true then some d else none) T [] (fun d hd=>?_) (by rw[Xv,List.length_nil];omega),List.nil_append]
    · congr 2
      induction T with
      |nil=>rfl
      |cons a T ih=>
        rw[X_,List.filter_cons]
        by_cases h:shr m l a=true
        · simp only[h,X6];rw[ih (fun d hd=>hT d (by simp[hd])) (by simp at tl;omega)]
        · simp only[h];exact ih (fun d hd=>hT d (by simp[hd])) (by simp at tl;omega)
    · obtain⟨⟨t,z,v,rfl⟩,hz⟩:=hT d hd;have cf:nJ bG pL (aj 1) (aA (s2 bU (aj 0) (ak (.int 1))) au) [.val (.tup [.int t,.str z,.int v]),.val (.ref M.length)] (M ++ [Cl.fn bG (bf l m)])=some (.v (.bl (decide (kn z % m=l))),M ++ [Cl.fn bG (bf l m)]):=
        Jv (M1:=M ++ [Cl.fn bG (bf l m)]) (M2:=M ++ [Cl.fn bG (bf l m)]) (k:=M.length) (fc:=bf l m) (ds:=[.str z]) (by z_go) hf (by z_go) (J3 hz m0)
      have es:shr m l (.tup [.int t,.str z,.int v])=decide (kn z % m=l):=rfl
      try dsimp only
      rw[es];have ec:vQ [.val (.tup [.int t,.str z,.int v]),.val (.ref M.length)] (M ++ [Cl.fn bG (bf l m)])=some (.v (.bl (decide (kn z % m=l))),M ++ [Cl.fn bG (bf l m)]):=by
        unfold vQ;generalize nJ bG pL (aj 1) (aA (s2 bU (aj 0) (ak (.int 1))) au)=F at cf ⊢;z_go;rw[cf];z_go
      cases hb:decide (kn z % m=l) with
      |true=>
        simp only[X6];exact⟨by rw[ec,hb],by unfold zB;z_go⟩
      |false=>
        simp only[Xe,Yy];rw[ec,hb]
  unfold sH yU;z_go;rw[sh];z_go;rw[cm];z_go
variable {M:Mm}
theorem G6 {a0:Slot}:∀(Ls:List (List D)) (acc:List D) (s2:Slot),acc.length + Ls.flatten.length<=1000->∃s2',loopS 2 zX (Ls.map .lst) [a0,.own acc,s2] M=some (.nx [a0,.own (acc ++ Ls.flatten),s2'],M)
  | [],acc,s2,_=>⟨s2,by simp only[xai,Xr];rfl⟩
  |L::Ls,acc,s2,h=>by
    rw[YB,Wz]at h;obtain⟨s2',ih⟩:=G6 (a0:=a0) Ls (acc ++ L) (.val (.lst L)) (by rw[Wz];omega);refine⟨s2',?_⟩;rw[X7,wU,Wv (by simp)];simp only[Yh,Yg];unfold zX;rw[wV,Qi (ds:=acc) (es:=L) rfl (by z_go) (by omega)];z_go;rw[YB, <-ZR];exact ih
theorem J4 {Ls:List (List D)}(h:Ls.flatten.length<=1000):sG [.lst (Ls.map .lst)] M=some (.v (.lst Ls.flatten),M):=by
 obtain⟨s2,e⟩:=G6 (M:=M) (a0:=.val (.lst (Ls.map .lst))) Ls [] .un (by simpa using h);unfold sG yS;z_go;rw[e];z_go
theorem Fi {w:Str}{x1 x2 x3:D}{Ls:List (List D)}{mark:D}(h:Ls.flatten.length<=1000)(k1:(w=Str.ofString "keep")=False)(k2:(w=Str.ofString "turn")=False)(k3:(w=Str.ofString "share")=False)(k4:aH .isin (.str w) (.tup [.str (Str.ofString "fixed"),.str (Str.ofString "slide")])=some (.bl false))(k5:(w=Str.ofString "gap")=False)(k6:(w=Str.ofString "join")=False):
  mF [.tup [.str w,x1,x2,x3],.lst (Ls.map .lst),mark] M=some (.v (.lst Ls.flatten),M):=by
 have fp:=J4 (M:=M) h;unfold mF vO;z_go;simp only[k1,Xo];z_go;simp only[k2,Xo];z_go;simp only[k3,Xo];z_go;rw[k4];z_go;simp only[k5,Xo];z_go;simp only[k6,Xo];z_go;rw[fp];z_go
theorem zJ {w:Str}{x1 x2 x3:D}{Ls:List (List D)}{mark:D}{es:List D}(h:Ls.flatten.length<=1000)(hs:eV Ls.flatten=some es)(hw:w="pour"\/w="out"):fO [.tup [.str w,x1,x2,x3],.lst (Ls.map .lst),mark] M=some (.v (.lst es),M):=by
 have fa:mF [.tup [.str w,x1,x2,x3],.lst (Ls.map .lst),mark] M=some (.v (.lst Ls.flatten),M):=by
  rcases hw with rfl |rfl
  ·exact Fi h (Yq (by x_go)) (Yq (by x_go)) (Yq (by x_go)) (by kernel_rfl) (Yq (by x_go)) (Yq (by x_go))
  ·exact Fi h (Yq (by x_go)) (Yq (by x_go)) (Yq (by x_go)) (by kernel_rfl) (Yq (by x_go)) (Yq (by x_go))
 unfold fO vP;z_go;rw[fa];z_go;rw[pX hs];z_go
theorem J8 {l m:Int}{x1 x2:D}{T es:List D}{mark:D}(hM:M[0]? =some (.tbl "sharer_of" bG))(hl:b_ [.str (bR l)]=some (.int l))(hm:b_ [.str (bR m)]=some (.int m))(m0:0<m)(hT:∀d∈T,Th d)(tl:T.length<=100)(hs:eV (T.filter (shr m l))=some es):
  fO [.tup [.str "share",x1,x2,.tup [.str (bR l),.str (bR m)]],.lst [.lst T],mark] M=some (.v (.lst es),M ++ [.fn bG (bf l m)]):=by
 have sh:=J6 (x0:=.str "share") (x1:=x1) (x2:=x2) hM hl hm m0 hT tl;have k1:(Str.ofString "share"=Str.ofString "keep")=False:=Yq (by x_go);have k2:(Str.ofString "share"=Str.ofString "turn")=False:=Yq (by x_go);have fa:mF [.tup [.str "share",x1,x2,.tup [.str (bR l),.str (bR m)]],.lst [.lst T],mark] M=some (.v (.lst (T.filter (shr m l))),M ++ [.fn bG (bf l m)]):=by
  unfold mF vO;z_go;simp only[k1,Xo];z_go;simp only[k2,Xo];z_go;rw[sh];z_go
 unfold fO vP;z_go;rw[fa];z_go;rw[pX hs];z_go
theorem Jc {p q r:D->Bool}(h:∀d,r d=(p d || q d))(n:∀d,p d=true->q d=false):∀T:List D,(T.filter p ++ T.filter q).Perm (T.filter r)
  | []=>.nil
  |a::T=>by
    have ih:=Jc h n T
    cases hp:p a with
    |true=>
      have hq:=n a hp;rw[Yu hp,X8 (by rw[hq];decide),Yu (by rw[h,hp];rfl),List.cons_append];exact ih.cons a
    |false=>
      cases hq:q a with
      |true=>
        rw[X8 (by rw[hp];decide),Yu hq,Yu (by rw[h,hp,hq];rfl)];exact List.perm_middle.trans (ih.cons a)
      |false=>
        rw[X8 (by rw[hp];decide),X8 (by rw[hq];decide),X8 (by rw[h,hp,hq];decide)];exact ih
theorem Fj {T:List D}{f:D->Int}:∀(n:Nat) (ess:List (List D)),ess.length=n->(∀(k:Nat) es,ess[k]? =some es->es.Perm (T.filter fun d=>decide (f d=(k:Int))))->ess.flatten.Perm (T.filter fun d=>decide (0<=f d/\f d<n))
  |0,ess,hl,_=>by
    rw[List.length_eq_zero_iff.mp hl,List.filter_eq_nil_iff.mpr (fun d _=>by rw[Xw];omega)];exact .nil
  |n + 1,ess,hl,h=>by
    obtain⟨es',e,rfl⟩:∃es' e,ess=es' ++ [e]:=by
      rcases List.eq_nil_or_concat ess with z |⟨a,b,z⟩
      · rw[z]at hl;simp at hl
      · exact⟨a,b,by rw[z,List.concat_eq_append]⟩
    have hl':es'.length=n:=by simpa using hl
    have ih:=Fj n es' hl' fun k es hk=>h k es (by rw[WW (WD.mp hk).1];exact hk);have he:=h n e (by rw[WR (by omega),hl',Zk];rfl);rw[Zq,YB,xai,Xr];refine(ih.append he).trans (Jc (fun d=>?_) (fun d hd=>?_) T)
    · have:(0<=f d/\f d<((n + 1:Nat):Int)) ↔ ((0<=f d/\f d<(n:Int))\/f d=(n:Int)):=by omega
      rw[decide_eq_decide.mpr this,Bool.decide_or]
    · simp at hd ⊢
      omega
variable {M:Mm}
theorem v8 {ns:List Int}{k:Int}(hk:0<=k):eZ [.lst (ns.map .int),.int k] M=some (.v (.int (ns.getD k.toNat 0)),M):=by
 unfold eZ yK;z_go
 by_cases h:k<(ns.length:Int)
 ·simp only[h,YK];z_go;have e:bZ (ns.map D.int) k=some (.int (ns.getD k.toNat 0)):=by
   obtain⟨j,rfl⟩:∃j:Nat,k=j:=⟨k.toNat,by omega⟩;refine pC ?_;have:j<ns.length:=by omega
   rw[Wy,Wu this]
   simp[List.getD,this]
  rw[e];z_go
 ·simp only[h,Xo];z_go
  simp[List.getD,Xb (show ns.length<=k.toNat by omega)]
theorem Uu {ns:List Int}{far:Int}{ds:List D}{k:Nat}{s4 s5 s6:Slot}(hk:k<=10)(hl:ds.length<=100):∃d s4' s5' s6',Th d/\zV [.val (.lst (ns.map .int)),.val (.int far),.own ds,.val (.int (0 + (k:Int))),s4,s5,s6] M=some (.nx [.val (.lst (ns.map .int)),.val (.int far),.own (ds ++ [d]),.val (.int (0 + (k:Int))),s4',s5',s6'],M):=by
 have e:(0:Int) + (k:Int)=(k:Int):=xaO _;rw[e];unfold zV;z_go;have c1:=v8 (M:=M) (ns:=ns) (k:=3 + (k:Int)) (by omega);have c2:=v8 (M:=M) (ns:=ns) (k:=1) (by omega);generalize ns.getD (3 + (k:Int)).toNat 0=v5 at c1;generalize ns.getD (1:Int).toNat 0=v1 at c2;obtain⟨x,x0,x1,ex⟩:=Gx (M:=M) (c:=v5) (k:=(k:Int)) (by omega);obtain⟨y,y0,y1,ey⟩:=Gx (M:=M) (c:=x) (k:=5) (by decide);obtain⟨v,ev⟩:=Vm (M:=M) (n:=x / 360) (by omega) (by omega);rw[c1];z_go;rw[ex];z_go;rw[c2];z_go;rw[c2];z_go;have key:∀sd:Int,∃z,gk z/\pI [.int sd,.int (x / 120 % 3)] M=some (.v (.str z),M):=fun sd=>by
  obtain⟨z,hz, -, -,ez⟩:=K9 (M:=M) (n:=sd) (q:=x / 120 % 3);exact⟨z,hz,ez⟩
 by_cases h:v1 % 2=1
 ·obtain⟨z,hz,ez⟩:=key y;simp only[h,YK];z_go;rw[ey];z_go;rw[ez];z_go;rw[Wv (.inl (by omega))];z_go;rw[ev];z_go;rw[Wv (by omega)];z_go;exact⟨_,_,_,_,⟨⟨_,_,_,rfl⟩,hz⟩,rfl⟩
 ·obtain⟨z,hz,ez⟩:=key (v1 / 2 % 1000003);simp only[h,Xo];z_go;rw[ez];z_go;rw[Wv (.inl (by omega))];z_go;rw[ev];z_go;rw[Wv (by omega)];z_go;exact⟨_,_,_,_,⟨⟨_,_,_,rfl⟩,hz⟩,rfl⟩
theorem J9 {x:Int}:∃far:Int,bZ [D.int 1,.int 1,.int 1000000007] (x % 3)=some (.int far):=by
 have h:x % 3=0\/x % 3=1\/x % 3=2:=by omega
 rcases h with h |h |h<;>rw[h]
 ·exact⟨1,rfl⟩
 ·exact⟨1,rfl⟩
 ·exact⟨1000000007,rfl⟩
theorem Kq {ns:List Int}:∃T:List D,T.length<=8/\(∀d∈T,Th d)/\rZ [.lst (ns.map .int)] M=some (.v (.lst T),M):=by
 have c0:=v8 (M:=M) (ns:=ns) (k:=0) (by omega);generalize ns.getD (0:Int).toNat 0=a at c0;obtain⟨far,ef⟩:=J9 (x:=a);have m0:=Xz (a / 3) (show(8:Int)≠0 by decide);have m1:=Xk (a / 3) (show(0:Int)<8 by decide);unfold rZ yO;z_go;rw[c0];z_go;rw[ef];z_go;rw[c0];z_go;rw[wX (by omega)];z_go;refine zY (Q:=fun o=>∃T:List D,T.length<=8/\(∀d∈T,Th d)/\bB (dZ _ o)=some (.v (.lst T),M)) (fun j env N=>N=M/\∃(ds:List D) (s3 s4 s5 s6:Slot),ds.length=j/\(∀d∈ds,Th d)/\env=[.val (.lst (ns.map .int)),.val (.int far),.own ds,s3,s4,s5,s6]) ⟨rfl,[],_,_,_,_,rfl,(fun d h=>nomatch h),rfl⟩ ?_ ?_
 ·rintro j d env N hd ⟨rfl,ds,s3,s4,s5,s6,hl,hT,rfl⟩;rw[Wy]at hd;have hn:j<(a / 3 % 8).toNat:=by
   rcases W8 j (a / 3 % 8).toNat with h |h
   ·exact h
   ·rw[Xb (by rw[Xq];exact h)]at hd;cases hd
  rw[Yr hn]at hd;cases hd;refine⟨by simp,?_⟩;simp only[Yg,Yh];obtain⟨d,s4',s5',s6',hd,e⟩:=Uu (M:=N) (ns:=ns) (far:=far) (ds:=ds) (k:=j) (s4:=s4) (s5:=s5) (s6:=s6) (by omega) (by omega);rw[e];refine⟨rfl,_,_,_,_,_,by rw[Wz,hl];rfl,fun y hy=>?_,rfl⟩;rcases Xd.mp hy with h |h
  ·exact hT y h
  ·rw[Yx.mp h];exact hd
 ·rintro env N ⟨rfl,ds,s3,s4,s5,s6,hl,hT,rfl⟩;rw[WK,Xq]at hl;z_go;rw[c0];z_go
  by_cases h:a / 24 % 3=2
  ·simp only[h,YK];z_go;rw[JZ _ (by omega)];simp only[Int.reduceToNat];have tl:(ds.take 1).length<=1:=by rw[Y9];exact Nat.min_le_left _ _
   rw[Wv (by omega)];z_go;refine⟨_,?_,fun y hy=>?_,rfl⟩
   ·rw[Wz];omega
   ·rcases Xd.mp hy with h |h
    ·exact hT y h
    ·exact hT y (xax h)
  ·simp only[h,Xo];z_go;exact⟨ds,by omega,hT,rfl⟩
abbrev rD:Cl:=.tbl "sharer_of" bG
def Mq (ess:List (List D))(R:Mm):Mm:=rD::.lst (ess.map .lst)::R
section
variable {ess:List (List D)}{R:Mm}{T:List D}{m mark:Int}{k:Nat}
theorem Aa:(Mq ess R)[0]? =some rD:=rfl
theorem eG:(Mq ess R)[1]? =some (.lst (ess.map .lst)):=rfl
theorem Ab:vw (Mq ess R) (.ref 1)=.lst (ess.map .lst):=Vr eG
theorem Wj {d:D}(h:Th d):Tk d:=h.1
theorem zx {n:Nat}:∀l:List D,(∀d∈l,d.dep<=n)->D.deps l<=n
  | [],_=>Xp _
  |d::l,h=>by
    have h1:=h d (by simp);have h2:=zx l fun x hx=>h x (by simp[hx]);show max d.dep (D.deps l)<=n;omega
theorem EY {L:List D}(h:∀d∈L,Tk d):D.deps L<=1:=zx L fun d hd=>by
 obtain⟨t,z,v,rfl⟩:=h d hd;exact Wq 1
theorem Ho {n:Int}(h0:0<=n)(h1:n<=100):(Str.ofString "s").length + (bR n).length<=16777216:=by
 have:=(xQ h0 h1).2.2;rw[show(Str.ofString "s").length=1 by x_go];omega
theorem turn {a0 s7:Slot}(m0:1<=m)(m1:m<=8)(hk:k<m.toNat)(hT:∀d∈T,Th d)(tl:T.length<=8)(el:ess.length<=100):
  ∃es,es.Perm (T.filter (shr m (k:Int)))/\es.Pairwise fj/\zW [a0,.val (.lst T),.val (.int m),.val (.int mark),.val (.lst [.lst T]),.val (.ref 1),.val (.int (0 + (k:Int))),s7,.un,.un,.un,.un,.un] (Mq ess R)=
   some (.nx [a0,.val (.lst T),.val (.int m),.val (.int mark),.val (.lst [.lst T]),.val (.ref 1),.val (.int (0 + (k:Int))),.val (.lst es),.un,.un,.un,.un,.un],Mq (ess ++ [es]) (R ++ [.fn bG (bf (k:Int) m)])):=by
 rw[xaO];have fl:=List.length_filter_le (shr m (k:Int)) T;have ft:∀d∈T.filter (shr m (k:Int)),Th d:=fun d hd=>hT d (Ze.mp hd).1;obtain⟨es,e1,e2,e3⟩:=xW (ds:=T.filter (shr m (k:Int))) (fun d hd=>vq (ft d hd).1) (by omega);have et:∀d∈es,Th d:=fun d hd=>ft d (e2.mem_iff.mp hd);have esl:es.length<=8:=by rw[e2.length_eq];omega
 refine⟨es,e2,e3,?_⟩;obtain⟨k1,k2,k3⟩:=xQ (n:=(k:Int)) (by omega) (by omega);obtain⟨q1,q2,q3⟩:=xQ (n:=m) (by omega) (by omega);have sc:=Ho (n:=(k:Int)) (by omega) (by omega);have to:=J8 (M:=Mq ess R) (x1:=.str ("s" ++ bR (k:Int))) (x2:=.tup [.str "a"]) (mark:=.int mark) Aa k2 q2 (by omega) hT (by omega) e1;have em:Mq ess R ++ [.fn bG (bf (k:Int) m)]=Mq ess (R ++ [.fn bG (bf (k:Int) m)]):=rfl;rw[em]at to;generalize hR:R ++ [.fn bG (bf (k:Int) m)]=R2 at to ⊢;have al:=v7 (M:=Mq ess R2) (es:=es) fun d hd=>(et d hd).1;have ss:=Iv (ds:=es) (es:=es) (fun d hd=>vq (et d hd).1) (by omega) (xar _) e3;have m3:wF [a0,.val (.lst T),.val (.int m),.val (.int mark),.val (.lst [.lst T]),.val (.ref 1),.val (.int (k:Int)),.val (.lst es),.un,.un,.un,.un,.un] (Mq ess R2)=some (.nx [a0,.val (.lst T),.val (.int m),.val (.int mark),.val (.lst [.lst T]),.val (.ref 1),.val (.int (k:Int)),.val (.lst es),.un,.un,.un,.un,.un],Mq (ess ++ [es]) R2):=by
  unfold wF;rw[wV,Dz (k:=1) (M1:=Mq ess R2) (ds0:=ess.map .lst) (d:=.lst es) (M2:=Mq ess R2) (ds:=ess.map .lst) (by z_go) eG (by z_go) eG (by rw[WK,Xv];omega)];show some (Out.nx _,List.set (Mq ess R2) 1 _)=_;rw[show List.set (Mq ess R2) 1 (.lst (ess.map D.lst ++ [D.lst es]))=Mq (ess ++ [es]) R2 by unfold Mq;rw[YM];rfl]
 have cn:dU yW Fe [.val (.int (k:Int)),.val (.int m)] es [] (Mq ess R2)=some ([],Mq ess R2):=by
  rw[vU (fun _=>none) es [] (fun d hd=>?_) (by rw[Xv,List.length_nil];omega)]
  ·rw[List.filterMap_eq_nil_iff.mpr fun _ _=>rfl];rfl
  ·obtain⟨⟨t,z,v,rfl⟩,hz⟩:=et d hd;have sh:kn z % m=(k:Int):=by
    have:=(Ze.mp (e2.mem_iff.mp hd)).2;exact Yl this
   have fl:pK [.str z] (Mq ess R2)=_:=zH (M:=Mq ess R2) (z:=z) hz;generalize Mq ess R2=MM at fl ⊢
   try dsimp only
   unfold yW;z_go;rw[fl];z_go;rw[Wv (by omega)];z_go;simp only[sh,YK];z_go
 have m2:wD [a0,.val (.lst T),.val (.int m),.val (.int mark),.val (.lst [.lst T]),.val (.ref 1),.val (.int (k:Int)),.val (.lst es),.un,.un,.un,.un,.un] (Mq ess R2)=some (.nx [a0,.val (.lst T),.val (.int m),.val (.int mark),.val (.lst [.lst T]),.val (.ref 1),.val (.int (k:Int)),.val (.lst es),.un,.un,.un,.un,.un],Mq (ess ++ [es]) R2):=by
  unfold wD;generalize wF=n3 at m3 ⊢;generalize Mq ess R2=MM at cn m3 ⊢;z_go;rw[cn];z_go;rw[wM (by decide)];z_go;exact m3
 unfold zW;generalize hn1:zZ=n1;generalize hM1:Mq ess R=M1 at to ⊢;z_go;rw[<-pP,k1];z_go;rw[Wv sc];z_go;rw[<-pP,k1];z_go;rw[<-pP,q1];z_go;rw[to];z_go;rw[<-hn1];unfold zZ;generalize wD=n2 at m2 ⊢;generalize Mq ess R2=MM at al m2 ⊢;z_go;rw[Gf];z_go;rw[pX ss];z_go;rw[al];z_go;exact m2
end
section
variable {ess:List (List D)}{R:Mm}{T S:List D}{m mark:Int}
theorem Jq (m0:1<=m)(hl:ess.length=m.toNat)(h:∀(k:Nat) es,ess[k]? =some es->es.Perm (T.filter (shr m (k:Int)))):ess.flatten.Perm T:=by
 have:=Fj (T:=T) (f:=fun d=>kn (ky d) % m) m.toNat ess hl h;rw[List.filter_eq_self.mpr fun d _=>?_]at this
 ·exact this
 ·have a:=Xz (kn (ky d)) (show m≠0 by omega);have b:=Xk (kn (ky d)) (show 0<m by omega);rw[Xw];omega
theorem Hj:∀l:List (List D),l.reverse.flatten.Perm l.flatten
  | []=>.nil
  |a::l=>by
    rw[Yz,Zq,YB,YB,xai,Xr];exact(List.perm_append_comm).trans ((xar a).append (Hj l))
theorem Jp {a0 a2 a3 a4 a5 a6 a7 a8 a9 a10:Slot}{S2:List D}{M:Mm}(hT:∀d∈T,Tk d)(tl:T.length<=8)(h1:eV T=some S)(p1:S.Perm T)(h2:eV (T ++ T)=some S2)(p2:S2.Perm (T ++ T)):
  bB (wH [a0,.val (.lst T),a2,a3,a4,a5,a6,a7,a8,a9,a10,.val (.lst S2),.val (.lst S)] M)=some (.v (.bl true),M):=by
 have f1:=v7 (M:=M) (es:=S) fun d hd=>hT d (p1.mem_iff.mp hd);have f2:=v7 (M:=M) (es:=S2) fun d hd=>by
  rcases Xd.mp (p2.mem_iff.mp hd) with h |h<;>exact hT d h
 unfold wH;z_go;rw[Wv (by omega)];z_go;rw[pX h2];z_go;rw[f2];z_go;rw[pX h1];z_go;rw[f1];z_go
theorem Km {M:Mm}{n:Nat}(hn:n<=100):∃fr:List D,dU (ak (.bl true)) zA [] ((List.range n).map fun(k:Nat)=>D.int (0 + (k:Int))) [] M=some (fr,M):=by
 refine⟨_,comp_map (fun d=>match d with |.int i=>.str ("s" ++ bR i) |d=>d) _ (fun d hd=>?_) (by rw[WK,Xq,Xv];omega)⟩
 obtain⟨k,hk,rfl⟩:=Xn.mp hd;rw[Zr]at hk;obtain⟨k1,k2,k3⟩:=xQ (n:=0 + (k:Int)) (by omega) (by omega);have sc:=Ho (n:=0 + (k:Int)) (by omega) (by omega);unfold zA;z_go;rw[<-pP,k1];z_go;rw[Wv sc];z_go
theorem Q9 {a0 s6 s7:Slot}{Ls:List (List D)}(hT:∀d∈T,Th d)(tl:T.length<=8)(hp:Ls.flatten.Perm T)(ll:Ls.length<=20):
  ∃M,bB (Aw [a0,.val (.lst T),.val (.int m),.val (.int mark),.val (.lst [.lst T]),.val (.ref 1),s6,s7,.un,.un,.un,.un,.un] (Mq Ls R))=some (.v (.bl true),M):=by
 have hK:∀d∈T,Tk d:=fun d hd=>(hT d hd).1;obtain⟨S,h1,p1,o1⟩:=xW (ds:=T) (fun d hd=>vq (hK d hd)) (by omega);obtain⟨S2,h2,p2,o2⟩:=xW (ds:=T ++ T) (fun d hd=>vq (by rcases Xd.mp hd with h |h<;>exact hK d h)) (by rw[Wz];omega)
 have fl:Ls.flatten.length<=8:=by rw[hp.length_eq];exact tl
 have h3:eV Ls.flatten=some S:=Iv (fun d hd=>vq (hK d (hp.mem_iff.mp hd))) (by omega) (p1.trans hp.symm) o1;have w1:=Ab (ess:=Ls) (R:=R);have q1:=eG (ess:=Ls) (R:=R);have t1:∀x2,fO [.tup [.str "pour",.str "p",x2,.tup []],.lst (Ls.map .lst),.int mark] (Mq Ls R)=some (.v (.lst S),Mq Ls R):=fun x2=>zJ (M:=Mq Ls R) (w:="pour") (x1:=.str "p") (x2:=x2) (x3:=.tup []) (mark:=.int mark) (Ls:=Ls) (by omega) h3 (.inl rfl);have t2:∀x2,fO [.tup [.str "pour",.str "q",x2,.tup []],.lst [.lst T,.lst T],.int mark] (Mq Ls R)=some (.v (.lst S2),Mq Ls R):=fun x2=>zJ (M:=Mq Ls R) (w:="pour") (x1:=.str "q") (x2:=x2) (x3:=.tup []) (mark:=.int mark) (Ls:=[T,T]) (by simp;omega) (by simpa using h2) (.inl rfl);have t3:∀x2,fO [.tup [.str "out",.str "o",x2,.tup []],.lst [.lst T],.int mark] (Mq Ls R)=some (.v (.lst S),Mq Ls R):=fun x2=>zJ (M:=Mq Ls R) (w:="out") (x1:=.str "o") (x2:=x2) (x3:=.tup []) (mark:=.int mark) (Ls:=[T]) (by simp;omega) (by simpa using h1) (.inr rfl);obtain⟨fr,ef⟩:=Km (M:=Mq Ls R) (n:=Ls.length) (by omega);have fa:=v7 (M:=Mq Ls R) (es:=S) fun d hd=>hK d (p1.mem_iff.mp hd);have dL:D.deps (Ls.map .lst)<=2:=zx _ fun d hd=>by
  obtain⟨L,hL,rfl⟩:=Xn.mp hd;have:=EY (L:=L) fun d hd=>hK d (hp.mem_iff.mp (List.mem_flatten.mpr ⟨L,hL,hd⟩));show D.deps L + 1<=2;omega
 have dT:=EY hK;have q15:=Jp (a0:=a0) (a2:=.val (.int m)) (a3:=.val (.int mark)) (a4:=.val (.lst [.lst T])) (a5:=.val (.ref 1)) (a6:=s6) (a7:=s7) (a8:=.val (.lst (Ls.map .lst))) (a9:=.val (.tup fr)) (a10:=.val (.lst S)) (M:=Mq Ls R) hK tl h1 p1 h2 p2;have cc:jj 1000 [] (aj 5) vZ [a0,.val (.lst T),.val (.int m),.val (.int mark),.val (.lst [.lst T]),.val (.ref 1),s6,s7,.un,.un,.un,.un,.un] (Mq Ls R)=some (.v (.lst (Ls.map .lst)),Mq Ls R):=by
  rw[Jw (fun d=>d) (show aj 5 _ _=some (.v (.ref 1),_) by z_go) q1 (fun d hd=>?_) (by rw[WK];omega) (by rw[WK,Xv];omega),List.map_id'];obtain⟨L,hL,rfl⟩:=Xn.mp hd;unfold vZ;z_go
 refine⟨Mq Ls R,?_⟩;unfold Aw;generalize h10:Ag=x10;generalize jj 1000 [] (aj 5) vZ=CC at cc ⊢;generalize Mq Ls R=MM at w1 t1 t2 t3 ef fa q15 cc ⊢;z_go;rw[cc];z_go;rw[<-h10];unfold Ag;generalize h11:Ah=x11;z_go;rw[w1];z_go;rw[wX (by omega),Z1];z_go;rw[ef];z_go;rw[<-h11];unfold Ah;generalize h12:Ai=x12;z_go;rw[t1];z_go;rw[<-h12];unfold Ai;generalize h13:Aj=x13;z_go;rw[t2];z_go;rw[<-h13];unfold Aj;generalize h14:Ak=x14;z_go;rw[t3];z_go;rw[<-h14];unfold Ak;generalize wH=x15 at q15 ⊢;z_go;rw[w1,wM (by show D.deps (Ls.map .lst) + 1<=50;omega)];z_go;rw[wM (by show max (D.deps T + 1) 0 + 1<=50;omega)];z_go;rw[pX h1];z_go;rw[fa];z_go;exact q15
theorem Q7 {a0 s6 s7:Slot}(m0:1<=m)(m1:m<=8)(hT:∀d∈T,Th d)(tl:T.length<=8)(hl:ess.length=m.toNat)(h:∀(k:Nat) es,ess[k]? =some es->es.Perm (T.filter (shr m (k:Int)))):
  ∃M,bB (wJ [a0,.val (.lst T),.val (.int m),.val (.int mark),.val (.lst [.lst T]),.val (.ref 1),s6,s7,.un,.un,.un,.un,.un] (Mq ess R))=some (.v (.bl true),M):=by
 have ap:=Jq m0 hl h;have q8:∀Ls:List (List D),Ls.flatten.Perm T->Ls.length<=20->∃M,bB (wK [a0,.val (.lst T),.val (.int m),.val (.int mark),.val (.lst [.lst T]),.val (.ref 1),s6,s7,.un,.un,.un,.un,.un] (Mq Ls R))=some (.v (.bl true),M):=fun Ls hp ll=>by
  obtain⟨M,e⟩:=Q9 (a0:=a0) (s6:=s6) (s7:=s7) (m:=m) (mark:=mark) (R:=R) (Ls:=Ls.reverse) hT tl ((Hj Ls).trans hp) (by rw[xaE];exact ll);refine⟨M,?_⟩;unfold wK;rw[wV,Jx (k:=1) (M1:=Mq Ls R) (ds:=Ls.map .lst) (by z_go) eG];rw[show List.set (Mq Ls R) 1 (.lst (Ls.map D.lst).reverse)=Mq Ls.reverse R by unfold Mq;rw[List.map_reverse];rfl,tU];exact e
 unfold wJ;generalize wK=x8 at q8 ⊢
 by_cases hm:m=1
 ·obtain⟨M,e⟩:=q8 (ess ++ [[]]) (by rw[Zq];simpa using ap) (by rw[Wz];simp;omega);refine⟨M,?_⟩;have ac:i_ (aj 5) (bH au) [a0,.val (.lst T),.val (.int m),.val (.int mark),.val (.lst [.lst T]),.val (.ref 1),s6,s7,.un,.un,.un,.un,.un] (Mq ess R)=some (.nx [a0,.val (.lst T),.val (.int m),.val (.int mark),.val (.lst [.lst T]),.val (.ref 1),s6,s7,.un,.un,.un,.un,.un],Mq (ess ++ [[]]) R):=by
   rw[Dz (k:=1) (M1:=Mq ess R) (ds0:=ess.map .lst) (d:=.lst []) (M2:=Mq ess R) (ds:=ess.map .lst) (by z_go) eG (by z_go) eG (by rw[WK,Xv];omega)];rw[show List.set (Mq ess R) 1 (.lst (ess.map D.lst ++ [D.lst []]))=Mq (ess ++ [[]]) R by unfold Mq;rw[YM];rfl]
  generalize i_ (aj 5) (bH au)=AC at ac ⊢;generalize Mq ess R=MM at ac ⊢;generalize Mq (ess ++ [[]]) R=MN at ac e;z_go;simp only[hm,YK]at ac e ⊢;z_go;rw[ac];z_go;exact e
 ·obtain⟨M,e⟩:=q8 ess ap (by omega);refine⟨M,?_⟩;generalize Mq ess R=MM at e ⊢;generalize i_ (aj 5) (bH au)=AC;z_go;simp only[hm,Xo];z_go;exact e
theorem Lb:∀ns:List Int,ns.length<=63->∃M,fQ [.lst (ns.map D.int)] (fV tabs)=some (.v (.bl true),M):=by
 intro ns hl;have c2:=v8 (M:=[rD]) (ns:=ns) (k:=2) (by decide);generalize ns.getD (2:Int).toNat 0=v2 at c2;obtain⟨T,tl,hT,eT⟩:=Kq (M:=[rD]) (ns:=ns);have e0:=Xz v2 (show(8:Int)≠0 by decide);have e1:=Xk v2 (show(0:Int)<8 by decide);generalize hm:1 + v2 % 8=m;have m0:1<=m:=by omega
 have m1:m<=8:=by omega
 have go:∀mark:Int,∃M,bB (wI [.val (.lst (ns.map .int)),.val (.lst T),.val (.int m),.val (.int mark),.un,.un,.un,.un,.un,.un,.un,.un,.un] [rD])=some (.v (.bl true),M):=fun mark=>by
  unfold wI;generalize h5:Aq=x5;z_go;rw[<-h5];unfold Aq;generalize h6:Av=x6;z_go;rw[<-h6];unfold Av;generalize h7:wJ=x7;z_go;rw[wX (by omega)];z_go;rw[<-h7];refine zY (Q:=fun o=>∃M,bB (dZ _ o)=some (.v (.bl true),M)) (fun k env N=>∃(ess:List (List D)) (R:Mm) (s6 s7:E3.Slot),ess.length=k/\(∀(k:Nat) es,ess[k]? =some es->es.Perm (T.filter (shr m (k:Int))))/\N=Mq ess R/\env=[.val (.lst (ns.map .int)),.val (.lst T),.val (.int m),.val (.int mark),.val (.lst [.lst T]),.val (.ref 1),s6,s7,.un,.un,.un,.un,.un]) ⟨[],[],_,_,rfl,(fun k es h=>by simp at h),rfl,rfl⟩ ?_ ?_
  ·rintro k d env N hd ⟨ess,R,s6,s7,hk,hp,rfl,rfl⟩;rw[Wy]at hd;have hn:k<m.toNat:=by
    rcases W8 k m.toNat with h |h
    ·exact h
    ·rw[Xb (by rw[Xq];exact h)]at hd;cases hd
   rw[Yr hn]at hd;cases hd;refine⟨by simp,?_⟩;simp only[Yg,Yh];obtain⟨es,p1,p2,e⟩:=turn (ess:=ess) (R:=R) (a0:=.val (.lst (ns.map .int))) (s7:=s7) (mark:=mark) m0 m1 hn hT tl (by omega);rw[e];refine⟨ess ++ [es],_,_,_,by simp[hk],fun j fs hj=>?_,rfl,rfl⟩;rcases W8 j ess.length with h |h
   ·rw[WW h]at hj;exact hp j fs hj
   ·have jl:=(WD.mp hj).1;rw[Wz,XJ]at jl;have:j=ess.length:=by omega
    subst this;rw[WR (Wq _),Zk]at hj;cases hj;rw[hk];exact p1
  ·rintro env N ⟨ess,R,s6,s7,hk,hp,rfl,rfl⟩;rw[WK,Xq]at hk;exact Q7 m0 m1 hT tl hk hp
 show ∃M,fQ [.lst (ns.map D.int)] [rD]=some (.v (.bl true),M);unfold fQ Fy vM;generalize h1:Af=x1;z_go;rw[eT];z_go;rw[<-h1];unfold Af;generalize h2:Am=x2;z_go;rw[c2];z_go;rw[hm, <-h2];unfold Am;generalize h3:Ao=x3;z_go;rw[c2];z_go;rw[<-h3];unfold Ao;generalize wI=x4 at go ⊢;z_go;rw[c2];z_go
 by_cases h:v2 / 8 % 4=3
 ·simp only[h,YK];z_go;exact go _
 ·simp only[h,Xo];z_go;exact go _
end
theorem Ld {l:PySem.W.OpenLaw}{w:World}{K:Fgx}{mg:Mgx}{C:Ad}{h base:Heap}{f14:Addr}{d14:FuncData}(X:K.In h)(G:h.Ns mainGlobals mg)(T:Txt K mg C w)(hB:gB mg base)
  (F0:bA K "key_number" xH)
  (F1:bA K "is_in_share" xG)
  (F2:bA K "sharer_of" q_)
  (F3:bA K "shared" tZ)
  (F4:bA K "poured" xJ)
  (F5:bA K "told_in_any_order" xM)
  (F6:bA K "told_of" xO)
  (F7:bA K "_law_cell_at" w5)
  (F8:bA K "_law_mixed" xg)
  (F9:bA K "_law_key" w6)
  (F10:bA K "_law_value" xu)
  (F11:bA K "_law_things" tY)
  (F12:bA K "_law_number" xq)
  (F13:bA K "_law_alike" wZ)
  (D14:DefAt K mg "law" fX ["_law_script"] f14 d14)
  :FnOk l.prog w K mg base dI ni f14 d14 ["_law_script"] (kh K mg 1 fQ):=by
 have A0:aZ l.prog w K mg base 1 "key_number" 1 sE:=(F0.ok X G HD (fun _=>RJ (k:=0) T) :);have A1:aZ l.prog w K mg base 2 "is_in_share" 3 sy:=(F1.ok X G Hz (fun _=>Rz (k:=1) T A0.up) :);have A15:gA l.prog w K mg base 3 bG 1 pL:=(vI.ok HW (R4 (k:=2) T A1.up) :);obtain⟨c2,P2,ht2,hc2⟩:=T.tb_sharer_of;have A2:aZ l.prog w K mg base 1 "sharer_of" 1 sI:=(F2.okM X G HS ht2 (fun _=>R3 (k:=0) T ht2 hc2 hB) :);have A3:aZ l.prog w K mg base 4 "shared" 2 sH:=(F3.ok X G HN (fun _=>R0 (k:=3) T A2.up A15.up) :);have A4:aZ l.prog w K mg base 1 "poured" 1 sG:=(F4.ok X G HJ (fun _=>RZ (k:=0) T) :);have A5:aZ l.prog w K mg base 5 "told_in_any_order" 3 mF:=(F5.ok X G HX (fun _=>Sd (k:=4) T A3.up A4.up) :);have A6:aZ l.prog w K mg base 6 "told_of" 3 fO:=(F6.ok X G HY (fun _=>Sg (k:=5) T A5.up) :);have A7:aZ l.prog w K mg base 1 "_law_cell_at" 2 eZ:=(F7.ok X G Ht (fun _=>QW (k:=0) T) :);have A8:aZ l.prog w K mg base 1 "_law_mixed" 2 pJ:=(F8.ok X G Hv (fun _=>QZ (k:=0) T) :);have A9:aZ l.prog w K mg base 1 "_law_key" 2 pI:=(F9.ok X G Hu (fun _=>QX (k:=0) T) :);have A10:aZ l.prog w K mg base 1 "_law_value" 1 su:=(F10.ok X G Hy (fun _=>Q6 (k:=0) T) :);have A11:aZ l.prog w K mg base 2 "_law_things" 1 rZ:=(F11.ok X G Hx (fun _=>Q5 (k:=1) T A7.up A8.up A9.up A10.up) :);have A12:aZ l.prog w K mg base 1 "_law_number" 1 pK:=(F12.ok X G Hw (fun _=>Q0 (k:=0) T) :);have A13:aZ l.prog w K mg base 1 "_law_alike" 2 mD:=(F13.ok X G Hs (fun _=>QV (k:=0) T) :);exact Fl (b:=vM) D14.F HF (by decide) (RK (k:=6) T A6.up A7.up A11.up A12.up A13.up)
theorem all_mk {l:W.OpenLaw}{w:World}{K:W.Frag}{h:Heap}{mg:Mgx}{fa:Addr}(X:K.In h)(G:h.Ns mainGlobals mg)(hfa:mg "law"=some (.ref fa))
  (j4:W.nsIn K mainGlobals "DamError"=some (some (.ref j6)))
  (j7:W.nsIn K mainGlobals "NoExpr"=some (some (.ref j8)))
  (j9:gb K j6=true)
  (jc:gb K j8=true)
  (jd:n6 K "sharer_of"=true)
  (je:Ji K j8=true) (jf:W.keepIn K (.ref j8)=true) (jg:yd K j8=true)
  (F0:bA K "key_number" xH)
  (F1:bA K "is_in_share" xG)
  (F2:bA K "sharer_of" q_)
  (F3:bA K "shared" tZ)
  (F4:bA K "poured" xJ)
  (F5:bA K "told_in_any_order" xM)
  (F6:bA K "told_of" xO)
  (F7:bA K "_law_cell_at" w5)
  (F8:bA K "_law_mixed" xg)
  (F9:bA K "_law_key" w6)
  (F10:bA K "_law_value" xu)
  (F11:bA K "_law_things" tY)
  (F12:bA K "_law_number" xq)
  (F13:bA K "_law_alike" wZ)
  (a14:W.nsIn K mainGlobals "law"=some (some (.ref f14))) (l14:K.lookup f14=some ⟨oc14,od14,.func (W.fnOf "law" "law" (cg fX) (bC fX) (aF fX) .none kV14 dc14 pm14 an14 cd14 ct14),sl14⟩) (c14:W.codeIn K cd14 "law"=true) (k14:W.keepIn K (.ref f14)=true)
  (jh:W.nsIn K mainGlobals "len"=some none)
  (ji:W.nsIn K mainGlobals "int"=some none)
  (jm:W.nsIn K mainGlobals "sorted"=some none)
  (jo:W.nsIn K mainGlobals "range"=some none)
  (jq:W.nsIn K mainGlobals "isinstance"=some none)
  (jr:W.nsIn K mainGlobals "bool"=some none)
  (jt:W.nsIn K mainGlobals "tuple"=some none)
  (ju:W.nsIn K mainGlobals "zip"=some none)
  (jw:W.nsIn K mainGlobals "list"=some none)
  (jy:W.nsIn K mainGlobals "str"=some none)
  (jz:W.nsIn K mainGlobals "ALL_LETTERS"=some (some (.ref jA))) (jB:K.lookup jA=some ⟨.type "tuple",jC,.seq #[.str "t" jD,.str "v" jE,.str "w" jF] jG,jH⟩)
  (jJ:W.nsIn K mainGlobals "NEEDS"=some (some (.ref jK)))
  (jL:K.lookup jK=some ⟨.type "dict",none,.dict #[⟨jM,.str "+" jN,.ref jO⟩,⟨jP,.str "-" jQ,.ref jR⟩,⟨jT,.str "*" jU,.ref jV⟩,⟨jW,.str "least" jX,.ref jY⟩,⟨jZ,.str "most" qb,.ref qe⟩,⟨qg,.str "<" qj,.ref ql⟩,⟨qm,.str "=" qp,.ref qt⟩,⟨qu,.str "not" qw,.ref qx⟩,⟨qy,.str "and" qz,.ref qC⟩,⟨qD,.str "or" qF,.ref qG⟩] qH, #[]⟩) (qI:(jK==sysModules)=false)
  (qJ:jM=hashStr w "+")
  (qK:K.lookup jO=some ⟨.type "tuple",qL,.seq #[.str "number" qM,.str "number" qN,.int 2 qO] qP,qQ⟩)
  (qR:jP=hashStr w "-")
  (qT:K.lookup jR=some ⟨.type "tuple",qU,.seq #[.str "number" qW,.str "number" qX,.int 2 qY] qZ,o7⟩)
  (o8:jT=hashStr w "*")
  (o9:K.lookup jV=some ⟨.type "tuple",oh,.seq #[.str "number" ou,.str "number" oA,.int 2 oE] oF,oG⟩)
  (oH:jW=hashStr w "least")
  (oJ:K.lookup jY=some ⟨.type "tuple",oK,.seq #[.str "number" oM,.str "number" oN,.int 2 oO] oR,oU⟩)
  (oV:jZ=hashStr w "most")
  (oW:K.lookup qe=some ⟨.type "tuple",oX,.seq #[.str "number" oY,.str "number" oZ,.int 2 iy] iz,iC⟩)
  (iD:qg=hashStr w "<")
  (iG:K.lookup ql=some ⟨.type "tuple",iH,.seq #[.str "truth" iI,.str "number" iJ,.int 2 iK] iM,iQ⟩)
  (iR:qm=hashStr w "=")
  (iT:K.lookup qt=some ⟨.type "tuple",iU,.seq #[.str "truth" iV,.str "number" iW,.int 2 iY] iZ,u9⟩)
  (uc:qu=hashStr w "not")
  (ud:K.lookup qx=some ⟨.type "tuple",uf,.seq #[.str "truth" ug,.str "truth" uh,.int 1 uo] uq,ur⟩)
  (uw:qy=hashStr w "and")
  (ux:K.lookup qC=some ⟨.type "tuple",uy,.seq #[.str "truth" uz,.str "truth" uD,.int 2 uE] uF,uG⟩)
  (uH:qD=hashStr w "or")
  (uI:K.lookup qG=some ⟨.type "tuple",uJ,.seq #[.str "truth" uK,.str "truth" uL,.int 2 uM] uN,uO⟩)
  (uP:W.nsIn K mainGlobals "FIGURES"=some (some (.str "0123456789" uQ)))
  (uR:W.nsIn K mainGlobals "MOST_FIGURES"=some (some (.int 20 uT)))
  (uU:W.nsIn K mainGlobals "MOST_VALUE"=some (some (.int 1000000000000000000000000000000000000000000000000000000000000 uV)))
  (uW:W.nsIn K mainGlobals "LETTERS"=some (some (.str "abcdefghijklmnopqrstuvwxyz" uX)))
  (uY:W.nsIn K mainGlobals "COND_LETTERS"=some (some (.str "tv" uZ)))
  :∃fd:FuncData,(∀(s:Shared) (v:Value),BindsTo s fd ⟨[v],[]⟩ [("_law_script",v)])/\∀base:Heap,K.In base->base.Ns mainGlobals mg->gB mg base->FnOk l.prog w K mg base dI ni fa fd ["_law_script"] (xU K fQ):=by
 have e:=hfa.symm.trans (YL X G a14);cases e;have T:Txt (w:=w) K mg ⟨j6,j8⟩:=⟨by simp only[rQ,W6,Yp,xah,forall_eq_or_imp,forall_eq];exact⟨X5 X G jh,X5 X G ji,X5 X G jm,X5 X G jo,X5 X G jq,X5 X G jr,X5 X G jt,X5 X G ju,X5 X G jw,X5 X G jy⟩,YL X G j4,j9,YL X G j7,jc,Uv jd,je,jf,jg,⟨_,YL X G jz,FW (vs:=[(.str "t"),(.str "v"),(.str "w")]) (its:= #[.str "t" _,.str "v" _,.str "w" _]) (o:=⟨.type "tuple",_,.seq #[.str "t" _,.str "v" _,.str "w" _] _,_⟩) jB rfl rfl (by show 3<=sizeLine;decide) (.cons ⟨_,rfl⟩ (.cons ⟨_,rfl⟩ (.cons ⟨_,rfl⟩ (.nil)))) (fun _ _=>⟨_,_,rfl,rfl,⟨_,_,rfl,rfl,⟨_,_,rfl,rfl,rfl⟩⟩⟩)⟩,⟨_,YL X G jJ,_,_,_,_,jL,⟨rfl,rfl,rfl⟩,rfl,.cons (v:=.ref jO) qJ rfl (h_ qK) (.cons (v:=.ref jR) qR rfl (h_ qT) (.cons (v:=.ref jV) o8 rfl (h_ o9) (.cons (v:=.ref jY) oH rfl (h_ oJ) (.cons (v:=.ref qe) oV rfl (h_ oW) (.cons (v:=.ref ql) iD rfl (h_ iG) (.cons (v:=.ref qt) iR rfl (h_ iT) (.cons (v:=.ref qx) uc rfl (h_ ud) (.cons (v:=.ref qC) uw rfl (h_ ux) (.cons (v:=.ref qG) uH rfl (h_ uI) (.nil)))))))))),by x_go,qI⟩,⟨_,YL X G uP⟩,⟨_,YL X G uR⟩,⟨_,YL X G uU⟩,⟨_,YL X G uW⟩,⟨_,YL X G uY⟩⟩;have D14:DefAt K mg "law" fX ["_law_script"] _ _:=⟨YL X G a14,Ft l14 c14 k14,(Fv (st:=fX) l14 c14 k14).binds (ps:=["_law_script"]) fun _ _ _ _ _ _ us hl=>match us,hl with | [_],_=>rfl⟩
 refine⟨W.fnOf "law" "law" (cg fX) (bC fX) (aF fX) .none kV14 dc14 pm14 an14 cd14 ct14,fun s v=>.of_eq rfl,fun base _ _ hB=>Kg ?_⟩;exact Ld X G T hB F0 F1 F2 F3 F4 F5 F6 F7 F8 F9 F10 F11 F12 F13 D14
end My
open PySem PySem.W PyProof.Rows
set_option maxRecDepth 100000 in
set_option maxHeartbeats 0 in
theorem PySem.Challenge.cw_rowdam_k26_shares_poured_holds : PySem.Challenge.rw_rowdam_k26_shares_poured.Holds := by
 w_on;refine HQ.two "special-get-raises" My.he My.hAf My.hBf My.hAt My.hBt ?_
 k_fill
 refine E3.Vv (T:=My.tabs) (l:=PySem.Challenge.rw_rowdam_k26_shares_poured) (k:=My.ni) (g:=My.fQ) (x:="_law_script") rfl rfl ⟨rfl,by decide,by decide⟩ (fun w h Y=>by first |exact PySem.W.kIn_of Y |exact PySem.W.km_in_of Y) (fun w h Y=>by refine⟨_,?_,PySem.W.km_tabs_of Y⟩;kernel_rfl) ?F My.Lb
 case F=>
  intro w mg fa h KX G hmg
  refine' My.all_mk KX G hmg ?j4 ?j7 ?j9 ?jc ?jd ?je ?jf ?jg ?F0 ?F1 ?F2 ?F3 ?F4 ?F5 ?F6 ?F7 ?F8 ?F9 ?F10 ?F11 ?F12 ?F13 ?a14 ?l14 ?c14 ?k14 ?jh ?ji ?jm ?jo ?jq ?jr ?jt ?ju ?jw ?jy ?jz ?jB ?jJ ?jL ?qI ?qJ ?qK ?qR ?qT ?o8 ?o9 ?oH ?oJ ?oV ?oW ?iD ?iG ?iR ?iT ?uc ?ud ?uw ?ux ?uH ?uI ?uP ?uR ?uU ?uW ?uY
  (case j4 |j7=>k_is);(case j9 |jc |jd |je=>kernel_rfl);(case jf=>k_is);(case jg=>refine E3.Vy (E3.Vx ?_ ?_ ?_) ?_ ?_ ?_ ?_ ?_<;>k_is);(case a14 |l14 |c14 |k14 |jh |ji |jm |jo |jq |jr |jt |ju |jw |jy |jz |jB |jJ |jL=>k_is);(case qI=>first |decide +kernel |kernel_rfl);(case qJ=>rfl);(case qK=>k_is);(case qR=>rfl);(case qT=>k_is);(case o8=>rfl);(case o9=>k_is);(case oH=>rfl);(case oJ=>k_is);(case oV=>rfl);(case oW=>k_is);(case iD=>rfl);(case iG=>k_is);(case iR=>rfl);(case iT=>k_is);(case uc=>rfl);(case ud=>k_is);(case uw=>rfl);(case ux=>k_is);(case uH=>rfl);(case uI |uP |uR |uU |uW |uY=>k_is);all_goals (refine' E3.bA.mk ?a ?l ?c ?k;(case a=>k_is);(case l=>k_is);(case c=>k_is);(case k=>k_is))
