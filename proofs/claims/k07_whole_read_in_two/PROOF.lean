import PyProof.Rows.All
import Wide.All
import OpenK.AllK
import Wide.FinOn
import Lean
import PyProof.EqAt
import PyProof.EqKinds
import PyProof.TupleCall
import KE.KIsAll
import KE.KMinKey
import KE.KTupSum
import KE.KxSplit
import KE.KxAffix
import KE.KIntText
import PyProof.NeKinds
import PyProof.Rows.EqBoolInt
import KE.KSortTup
import KE.KDictLaws
import KE.KNestM
import PyProof.Conv_int_bool
import PySem.Challenge.RW_rowdam_k07_whole_read_in_two
noncomputable section
set_option Elab.async false
set_option linter.all false
set_option compiler.extract_closed false
set_option maxRecDepth 100000
def tG:=@if_pos
def Rn:=@if_neg
def Ro:=@Nat.le_refl
def Rp:=@PySem.wpAny_bind
def Rq:=@List.size_toArray
def Rr:=@List.getElem?_eq_getElem
def Rt:=@PySem.Heap.get?_push_of_some
def Ru:=@Option.map_eq_some_iff
def Rv:=@PySem.Heap.lt_size
def Rw:=@PySem.wpAny_pure
def Rx:=@List.getElem?_map
def Ry:=@Nat.lt_of_lt_of_le
theorem Rz:type_of%@Array.length_toList:=by intros;rfl
def RB:=@Nat.le_trans
theorem RD:type_of%@List.length_cons:=by intros;rfl
def RG:=@List.length_append
def RJ:=@List.length_map
def RK:=@Bool.false_ne_true
def RL:=@List.getElem?_eq_some_iff
def RM:=@Option.some.inj
def RN:=@Bool.and_eq_true
def RP:=@List.mem_cons_of_mem
def RV:=@List.mem_append_right
def RW:=@Array.getElem_mem
def RX:=@Nat.ne_of_lt
def RZ:=@List.getElem?_append_right
def R0:=@List.getElem?_append_left
def R3:=@List.append_assoc
def R4:=@decide_eq_false
def R5:=@List.map_cons
def R6:=@List.mem_cons_self
def R7:=@List.length_set
theorem R8:type_of%@Int.toNat_natCast:=by intros;rfl
def R9:=@List.mem_of_getElem?
theorem R_:type_of%@List.length_singleton:=by intros;rfl
theorem Sh:type_of%@List.length_nil:=by intros;rfl
def Sq:=@PySem.Heap.get?_push_size
def Ss:=@List.mem_cons
def Sw:=@List.length_take
def Sx:=@List.pairwise_append
def Sy:=@List.append_nil
def SJ:=@List.getElem?_replicate
def SM:=@PySem.Heap.get?_update_other
def S5:=@List.getElem?_set
def S6:=@Nat.le_of_lt
def S7:=@PySem.boot_len
def S8:=@List.mem_singleton
theorem S9:type_of%@List.set_cons_zero:=by intros;rfl
def S_:=@PySem.wpAny_mono
def Tc:=@Nat.zero_le
def Td:=@Array.toList_push
def Te:=@PySem.mem_of_lookup
def Tf:=@Array.toList_append
def Tg:=@Bool.eq_iff_iff
def Ti:=@List.drop_eq_getElem_cons
theorem Tj:type_of%@List.extract_eq_take_drop:=by intros;rfl
def Tn:=@Array.getElem?_toList
theorem Tp:type_of%@List.set_cons_succ:=by intros;rfl
def Tq:=@decide_eq_true
def Tr:=@Array.mem_toList_iff
def Tt:=@beq_eq_false_iff_ne
theorem Tv:type_of%@List.filterMap_cons:=by intros;rfl
def Tw:=@List.take_of_length_le
def Tz:=@List.length_drop
def TF:=@beq_self_eq_true
def TV:=@List.all_eq_true
def TX:=@List.length_replicate
def TY:=@List.take_append_drop
def T3:=@Int.emod_lt_of_pos
def T4:=@List.mem_append
def T5:=@Nat.lt_or_ge
def T6:=@List.mem_map
def T7:=@Array.toList_extract
def T8:=@decide_eq_true_eq
theorem T9:type_of%@List.getElem?_cons_succ:=by intros;rfl
def T_:=@List.reverse_append
def Ua:=@List.mem_map_of_mem
def Ub:=@if_true
theorem Uc:type_of%@List.lookup_cons:=by intros;rfl
def Ud:=@List.map_nil
def Ue:=@PySem.Obj.data_mapFields
def Ug:=@Bool.false_eq_true
def Uh:=@Array.getD_eq_getD_getElem?
theorem Ui:type_of%@Option.map_some:=by intros;rfl
theorem Uj:type_of%@List.nil_append:=by intros;rfl
theorem Uk:type_of%@List.singleton_append:=by intros;rfl
def Ul:=@Int.emod_nonneg
def Um:=@Nat.lt_irrefl
theorem Uo:type_of%@List.all_cons:=by intros;rfl
def Uq:=@Array.getElem?_eq_some_iff
def Ur:=@PySem.wpAny_newObj_type
def Us:=@List.length_range
def Ut:=@Nat.le_of_not_lt
def Uu:=@List.getElem_of_mem
def Uv:=@PyProof.Rows.slot_tuple_getitem
def Uw:=@PySem.wpAny_getItem_str_slice
def Ux:=@Ne.symm
def Uy:=@PySem.sizeLine_eq
def Uz:=@Nat.le_succ_of_le
def UG:=@Nat.le_of_lt_succ
def UJ:=@List.mem_range
def UL:=@Classical.choose_spec
def UW:=@PyProof.Rows.callWith_type1
def U0:=@List.mem_append_left
def U3:=@if_false
def U4:=@List.getElem_mem
def U5:=@Array.toList_reverse
theorem U6:type_of%@List.cons_append:=by intros;rfl
def U7:=@List.getD_eq_getElem?_getD
def U8:=@List.getElem?_range
def U9:=@PySem.wpAny_passesOwn
def U_:=@List.nodup_cons
def Va:=@Nat.le_antisymm
def Vb:=@List.pairwise_iff_getElem
def Vc:=@PySem.PassesOwn.never
def Vd:=@List.getElem?_take_of_lt
def Ve:=@Nat.lt_of_le_of_lt
def Vf:=@Array.size_extract
def Vg:=@PySem.W.mg_none_of
def Vh:=@PySem.F.plainAttrs_list
def Vi:=@PySem.wpAny_truthy_bool
def Vj:=@Nat.lt_succ_of_lt
def Vk:=@of_decide_eq_true
def Vl:=@PySem.wpAny_field
def Vm:=@List.Perm.append_right
def Vn:=@List.drop_eq_nil_of_le
def Vo:=@PySem.wpAny_holding
theorem Vp:type_of%@List.any_cons:=by intros;rfl
def Vq:=@List.map_take
def Vr:=@List.drop_length
def Vs:=@List.Perm.append_left
def Vt:=@List.perm_append_comm
def Vu:=@Array.toList_eraseIdxIfInBounds
def Vv:=@List.of_mem_zip
def Vw:=@PySem.SeqAt.EqAt.same
def Vx:=@PySem.post_val_or_str
theorem Vy:type_of%@List.foldl_cons:=by intros;rfl
def Vz:=@beq_iff_eq
def VB:=@Nat.not_lt_zero
def VD:=@PyProof.Rows.get?_update_seq
def VF:=@Bool.and_false
def VG:=@List.drop_zero
def VH:=@List.take_left
theorem VJ:type_of%@List.take_zero:=by intros;rfl
def VL:=@Array.getElem?_setIfInBounds
def VN:=@List.lt_irrefl
def VP:=@PyProof.Rows.mirror_perm
def VR:=@PySem.SeqAt.EqAt.int_str
def V0:=@PySem.SeqAt.EqAt.str_int
def V1:=@PySem.wpAny_Call_Name_kw
def V2:=@PySem.SeqAt.EqAt.int_int
def V3:=@PySem.SeqAt.EqAt.str_str
theorem V4:type_of%@List.zip_cons_cons:=by intros;rfl
def V5:=@PySem.Calls.Name_function_global
def V6:=@Int.fdiv_eq_ediv_of_nonneg
def V7:=@Bool.and_true
def V8:=@PyProof.Rows.listUpdate_at
def V9:=@PySem.wpAny_newList
def V_:=@Array.toList_setIfInBounds
def Wa:=@List.mem_or_eq_of_mem_set
def Wb:=@PySem.Calls.call_function_entry
def Wc:=@Array.getElem?_eq_getElem
def Wd:=@PySem.codeAny_mono
def Wf:=@PySem.wpAny_call_entry
def Wg:=@PySem.Txt.slice_le
def Wh:=@Nat.min_self
def Wi:=@PySem.SeqAt.RcAt.lists_lengths
def Wj:=@PySem.F.slot_list_append
def Wl:=@PySem.F.type_list_append
def Wm:=@List.eq_of_mem_replicate
def Wn:=@Array.toList_inj
def Wo:=@Array.size_setIfInBounds
def Wq:=@List.Perm.eq_of_pairwise
def Wr:=@List.map_map
def Ws:=@List.range_succ
def Wt:=@List.map_append
def Wu:=@Bool.or_eq_true
def Wv:=@Nat.min_eq_left
def Ww:=@List.getElem?_set_self
def Wy:=@PyProof.noPylong_small
def Wz:=@PySem.W.cellsFrom_some
def WD:=@Nat.le_succ
def WK:=@PySem.wpAny_setField
def WL:=@List.mem_iff_getElem?
def WM:=@List.drop_drop
def WQ:=@List.countP_mono_left
def WR:=@List.Perm.refl
def WT:=@List.getElem?_eq_none
def WW:=@List.getElem?_set_ne
def WX:=@Nat.not_le
def WY:=@Bool.and_eq_true_iff
def W2:=@List.reverse_reverse
def W3:=@Bool.and_self
def W4:=@Array.append_assoc
def W5:=@Nat.ne_of_gt
def W6:=@List.mem_filterMap
def W7:=@Nat.le_of_eq
def W8:=@Nat.sub_self
def W9:=@List.getElem?_drop
def W_:=@List.take_sublist
def Xa:=@Option.some.injEq
def Xb:=@bne_self_eq_false
def Xc:=@List.getElem_drop
def Xd:=@List.getElem_take
def Xe:=@List.pairwise_map
def Xf:=@Nat.not_lt
abbrev Fgx:=PySem.W.Frag
abbrev Mgx:=PySem.Str->Option PySem.Value
abbrev Pnx:=List (PySem.Addr×PySem.Obj)
local macro_rules | `(tactic| x_go)=> `(tactic| decide +kernel)
namespace HQ
open PySem PySem.W PySem.Calls PyProof.Rows
noncomputable def zM {α:Type} (t:BT):(BT->α)->α:= @BT.rec (fun _=>(BT->α)->α) (fun k=>k .nil) (fun v _ _ a b k=>a fun l=>b fun r=>k (.node v l r)) t
theorem uI {α:Type}:∀(t:BT) (k:BT->α),zM t k=k t
 |.nil,_=>rfl
 |.node _ l r,_=>(uI l _).trans (uI r _)
noncomputable def qL {α:Type} (n:Nat) (k:Nat->α):α:= @Nat.rec (fun _=>α) (k 0) (fun n _=>k (Nat.succ n)) n
theorem zN {α:Type}(n:Nat)(k:Nat->α):qL n k=k n:=by cases n<;>rfl
def frs {α:Type}(s:SharedT)(k:SharedT->α):α:= @SharedT.rec (fun _=>α) (fun T n l g d i o=>zM T fun T=>qL n fun n=>qL i fun i=>k ⟨T,n,l,g,d,i,o⟩) s
theorem Gb {α:Type}(s:SharedT)(k:SharedT->α):frs s k=k s:=(uI _ _).trans ((zN _ _).trans (zN _ _))
abbrev qd:Code->Sem Fin:=Fast.tw11892475500146522536 Fast.tw14364793385576792824
noncomputable def wN (p:Program) (w:World):SharedT->Thread->Option (SharedT×Thread)
  |⟨T,n,l,g,d,i,o⟩,⟨c,cd,q,fs⟩=>match c with
    |.load .. |.update .. |.alloc .. |.loadIfAlive .. =>Fast.tw10156331382660048174 qd p w ⟨T,n,l,g,d,i,o⟩ ⟨c,cd,q,fs⟩
    |c=>match Fast.tw8437177126325714943 qd p w ⟨{},g,d,i,o⟩ ⟨c,cd,q,fs⟩ with
      |.go ⟨_,g,d,i,o⟩ t=>some (⟨T,n,l,g,d,i,o⟩,t)
      |.halt _ _=>none
theorem Py {p:Program}{w:World}(s:SharedT)(t:Thread):wN p w s t=stepT (denote treeTable) p w s t:=by
 obtain⟨T,n,l,g,d,i,o⟩:=s;obtain⟨c,cd,q,fs⟩:=t;rw[show denote treeTable=qd by unfold qd;rw[<-Fast.te11892475500146522536, <-Fast.te14364793385576792824]];cases c<;>(unfold wN;dsimp only;first |rw[<-Fast.te10156331382660048174] |(unfold stepT;dsimp only;rw[<-Fast.te8437177126325714943];cases step qd p w _ _<;>rfl))
abbrev OS:=Option SharedT
noncomputable def bd (p:Program) (w:World) (n:Nat) (ih:SharedT->Thread->OS) (s:SharedT) (t:Thread):OS:=
 @Bool.rec (fun _=>OS) (@Bool.rec (fun _=>OS) none (@Option.rec _ (fun _=>OS) none (fun r=> @Prod.rec _ _ (fun _=>OS) (fun s t=> @Bool.rec (fun _=>OS) (ih s t) (frs s fun s=>ih s t) (Nat.beq (n % 64) 0)) r) (wN p w s t)) (Fast.tw6613529449190102663 11 (some (.ref 6)) t)) (some s) (through t)
noncomputable def go (p:Program) (w:World) (n:Nat):SharedT->Thread->OS:= @Nat.rec (fun _=>SharedT->Thread->OS) (fun _ _=>none) (bd p w) n
theorem lV {p:Program}{w:World}:∀{n:Nat} {s s':SharedT} {t:Thread},go p w n s t=some s'->topRun treeTable p w 11 (some (.ref 6)) n s.abs t=some s'.abs
  |0,_,_,_,h=>by cases h
  |n + 1,s,s',t,h=>by
    rw[show go p w (n + 1) s t=bd p w n (go p w n) s t from rfl]at h;unfold bd at h;rw[Py, <-Fast.te6613529449190102663]at h;unfold topRun
    cases ht:through t with
    |true=>rw[ht]at h;cases h;rfl
    |false=>
      rw[ht]at h
      cases hk:stepOk 11 (some (.ref 6)) t with
      |false=>rw[hk]at h;cases h
      |true=>
        rw[hk]at h
        cases hs:stepT (denote treeTable) p w s t with
        |none=>rw[hs]at h;cases h
        |some r=>
          obtain⟨s₂,t₂⟩:=r;rw[hs]at h;dsimp only at h ⊢;rw[stepT_spec hs];rw[Gb]at h;exact lV (by revert h;cases Nat.beq (n % 64) 0<;>exact id)
noncomputable def mkT:List Obj->Nat->BT->BT
 | [],_,t=>t
 |o::l,i,t=>mkT l (i + 1) (t.ins i o)
noncomputable def bS (w:World) (o:OsState):SharedT:=⟨mkT (boot_heap w.params).objs.toList 0 .nil,11,{},⟨[]⟩,boot_drawn,boot_toks,o⟩
theorem Eh (w:World)(o:OsState):(bS w o).abs=⟨boot_heap w.params,⟨[]⟩,boot_drawn,boot_toks,o⟩:=by kernel_rfl
theorem Ej (P:Params):((boot_heap P).isNs mainGlobals && (Array.mk []:Array GenState).size==0,(boot_heap P).objs.size,(boot_heap P).nsMap mainGlobals "__annotations__")=(true,11,some (.ref 6)):=by kernel_rfl
noncomputable def lst {α:Type} (T:BT) (n:Nat):List Obj->(List Obj->α)->α:=
 @Nat.rec (fun _=>List Obj->(List Obj->α)->α) (fun a k=>k a) (fun i ih a k=> @Option.rec Obj (fun _=>α) (ih (default::a) k) (fun o=> @Obj.rec (fun _=>α) (fun c d t l=>ih (⟨c,d,t,l⟩::a) k) o) (T.get i)) n
theorem Ae {α:Type}(T:BT):∀(n:Nat) (a:List Obj) (k:List Obj->α),lst T n a k=k (T.list n ++ a)
  |0,_,_=>rfl
  |n + 1,a,k=>by
    rw[show T.list (n + 1)=T.list n ++ [(T.get n).getD default] by unfold BT.list;rw[Ws,Wt];rfl,R3];unfold lst;dsimp only;cases T.get n<;>exact Ae T n _ k
noncomputable def yt {α:Type} (s:SharedT) (k:Shared->α):α:= @SharedT.rec (fun _=>α) (fun T n l g d i o=>lst T n [] fun a=>k ⟨⟨⟨a⟩,l⟩,g,d,i,o⟩) s
theorem yu {α:Type}(s:SharedT)(k:Shared->α):yt s k=k s.abs:=(Ae _ _ _ _).trans (by rw[Sy];rfl)
section
variable {p q:Program}{lo:List Str}{Xt:Shared->Bool}{α:Type}{Yf:Shared->α}{Ya:World->α}{N:Nat}{g0:Bool}{B C:Prop}
abbrev Pre (_:LeftO p q lo Xt Yf Ya N g0/\B->C):Prop:=(opening p=plainProg p.main.scope.names/\∀s,fenceModules? p s=some s)/\Nat.ble 600 N=true
abbrev See {β:Type}(p:Program)(N:Nat)(v:World->World)(f:World->Shared->β)(y:World->β):Prop:=∀w o,(go p (v w) N (bS (v w) o) (topStub p)).map (fun s=>yt s (f (v w)))=some (y (v w))
abbrev jQ (v:World->World)(_:LeftO p q lo Xt Yf Ya N g0/\B->C):Prop:=
 See p N v (fun w s=>(staticsOk (importedModules p.main.body) (boot_heap w.params) s.heap && namesBound p s.heap && gensDone s && laidKept (boot_heap w.params) s.heap,Yf s)) fun w=>(true,Ya w)
abbrev jR (v:World->World)(_:LeftO p q lo Xt Yf Ya N g0/\B->C):Prop:=See p N v (fun _ s=>Fast.tw4187177175401517315 q lo (importedModules p.main.body) Xt g0 s) fun _=>openGood q lo
theorem left {v:World->World}{H:LeftO p q lo Xt Yf Ya N g0/\B->C}(e:Pre H)(a:jQ v H)(b:jR v H)(w:World):
  (openEnds treeTable p (v w) N).map (fun s=>(openSeen q lo (importedModules p.main.body) Xt g0 s,Yf s))=some (openGood q lo,Ya (v w)):=by
 obtain⟨⟨h,gs,d,k,o⟩,e1,e2⟩:=Ru.mp (boot_open e.1.1 e.2 e.1.2 (v w));obtain⟨rfl,rfl,rfl,rfl⟩:h=boot_heap (v w).params/\gs=⟨[]⟩/\d=boot_drawn/\k=boot_toks:=by simpa using e2
 obtain⟨s,hs,hv⟩:=Ru.mp (a w o);have hb:=b w o;rw[hs,Ui,yu, <-Fast.te4187177175401517315]at hb;rw[yu]at hv;obtain⟨l1,l3⟩:=Prod.mk.inj hv;obtain⟨z1,z2,z3⟩:_/\_/\_:=by simpa only[Prod.mk.injEq] using Ej (v w).params
 have hr:=lV hs;rw[Eh]at hr;have t:topFrom treeTable p (v w) N ⟨boot_heap (v w).params,⟨[]⟩,boot_drawn,boot_toks,o⟩=some s.abs:=by
  unfold topFrom;dsimp only;rw[z1,z2,z3,hr];dsimp only[Option.bind_some];rw[l1]
 unfold openEnds;rw[e1,Option.bind_some,t];exact congrArg some (Prod.ext (RM hb) l3)
theorem one {H:LeftO p q lo Xt Yf Ya N g0/\B->C}(e:Pre H)(a:jQ id H)(b:jR id H)(hB:B):C:=H ⟨left e a b,hB⟩
end
end HQ
section
local macro_rules
  | `(tactic| refine $f:term $as:term*)=>do
    let mut bs:= #[]
    let mut hit:=false
    for a in as do
      if a.raw.isOfKind ``Lean.Parser.Term.syntheticHole && a.raw[1].getId== `hl then
        hit:=true
        bs:=bs.push (<- `((And.left ?hx)))
      else if a.raw.isOfKind ``Lean.Parser.Term.syntheticHole && a.raw[1].getId== `hc then
        bs:=bs.push (<- `((And.right ?hx)))
      else bs:=bs.push a
    if hit then `(tactic| refine $f $bs*) else Lean.Macro.throwUnsupported
set_option maxHeartbeats 0 in
open_top My.hdAll for PySem.Challenge.rw_rowdam_k07_whole_read_in_two
theorem My.he:HQ.Pre My.hdAll:=⟨⟨by kernel_rfl,fun _=>by kernel_rfl⟩,by kernel_rfl⟩
theorem My.hB:HQ.jR id My.hdAll:=fun _ _=>by kernel_rfl
theorem My.hA:HQ.jQ id My.hdAll:=fun _ _=>by kernel_rfl
end
namespace L2
open PySem PySem.Spec PyProof.Rows
abbrev Key:=Sum Int Str
noncomputable def zZ:Key->Value->Bool
 |.inl k,v=>Value.isInt k v
 |.inr x,v=>Value.isStrOf x v
def uO (w:World):Key->Int
 |.inl k=>hashInt k
 |.inr x=>hashStr w x
theorem iZ:∀{k:Key} {v:Value},zZ k v=true->(∃i t,k=Sum.inl i/\v=Value.int i t)\/(∃x t,k=Sum.inr x/\v=Value.str x t)
  |.inl i,v,h=>by
    obtain⟨t,e⟩:=Value.isInt_shape (k:=i) (v:=v) h;exact .inl ⟨i,t,rfl,e⟩
  |.inr x,v,h=>by
    obtain⟨t,e⟩:=Value.isStrOf_shape (x:=x) (v:=v) h;exact .inr ⟨x,t,rfl,e⟩
theorem GK (a b:Int):decide ((Sum.inl a:Key)=Sum.inl b)=(a==b):=by
 by_cases e:a=b
 ·subst e;simp
 ·have h:¬ (Sum.inl a:Key)=Sum.inl b:=fun q=>e (Sum.inl.inj q);rw[R4 h];exact(Tt.mpr e).symm
theorem GR (a b:Str):decide ((Sum.inr a:Key)=Sum.inr b)=decide (a=b):=by
 by_cases e:a=b
 ·subst e;simp
 ·have h:¬ (Sum.inr a:Key)=Sum.inr b:=fun q=>e (Sum.inr.inj q);rw[R4 h,R4 e]
theorem GP (a:Int)(b:Str):decide ((Sum.inl a:Key)=Sum.inr b)=false:=R4 (fun q=>nomatch q)
theorem GQ (a:Str)(b:Int):decide ((Sum.inr a:Key)=Sum.inl b)=false:=R4 (fun q=>nomatch q)
noncomputable def uV (prog:Program) (w:World):PySem.KeyKind prog w Key where
 is:=zZ
 hash:=uO w
 inj:=fun v a b ha hb=>by
  rcases iZ ha with⟨i,t,rfl,rfl⟩ |⟨x,t,rfl,rfl⟩
  ·rcases iZ hb with⟨j,u,rfl,e⟩ |⟨y,u,rfl,e⟩
   ·injection e with e1 _;rw[e1]
   ·exact nomatch e
  ·rcases iZ hb with⟨j,u,rfl,e⟩ |⟨y,u,rfl,e⟩
   ·exact nomatch e
   ·injection e with e1 _;rw[e1]
 byValue:=fun k v h=>by
  rcases iZ h with⟨i,t,rfl,rfl⟩ |⟨x,t,rfl,rfl⟩<;>rfl
 pyHash:=fun hv h=>by
  rcases iZ hv with⟨i,t,rfl,rfl⟩ |⟨x,t,rfl,rfl⟩
  ·exact wpAny_pyHash_int h
  ·exact wpAny_pyHash_str h
 eqBool:=fun hu hv h=>by
  rcases iZ hu with⟨i,t,rfl,rfl⟩ |⟨x,t,rfl,rfl⟩
  ·rcases iZ hv with⟨j,u,rfl,rfl⟩ |⟨y,u,rfl,rfl⟩
   ·rw[GK]at h;exact wpAny_eqBool_int h
   ·rw[GP]at h;exact VR i t y u _ _ _ _ h
  ·rcases iZ hv with⟨j,u,rfl,rfl⟩ |⟨y,u,rfl,rfl⟩
   ·rw[GQ]at h;exact V0 x t j u _ _ _ _ h
   ·rw[GR]at h;exact wpAny_eqBool_str h
 «strs» :=fun k x t v h=>by
  rcases iZ h with⟨i,u,rfl,e⟩ |⟨y,u,rfl,e⟩
  ·exact nomatch e
  ·injection e with e1 _
   subst e1;cases v<;>rfl
inductive V where
 |non |bl (b:Bool) |int (i:Int) |str (x:Str) |byt (b:Array UInt8) |flt (b:UInt64) |ref (a:Addr) |ty (n:String)
 deriving DecidableEq
noncomputable def RelV:V->Value->Prop
 |.non,u=>u=Value.none
 |.bl b,u=>u=Value.bool b
 |.int i,u=>∃t,u=Value.int i t
 |.str x,u=>∃t,u=Value.str x t
 |.byt b,u=>∃t,u=Value.bytes b t
 |.flt b,u=>∃t,u=Value.float b t
 |.ref a,u=>u=Value.ref a
 |.ty n,u=>u=Value.type n
abbrev Vals:List V->List Value->Prop:=Paired RelV
theorem Vals.length (r:Vals xs us):xs.length=us.length:=Paired.length r
theorem Vals.get:∀{xs:List V} {us:List Value} {i:Nat} {x:V},Vals xs us->xs[i]? =some x->∃u,us[i]? =some u/\RelV x u
  |_,_,_,_,.nil,e=>by simp at e
  |_,_,0,_,.cons r _,e=>by simp at e;subst e;exact⟨_,rfl,r⟩
  |_,_,i + 1,x,.cons _ t,e=>by
    obtain⟨u,h1,h2⟩:=Vals.get (i:=i) (x:=x) t (by simpa using e);exact⟨u,by simpa using h1,h2⟩
theorem Vals.append:∀{xs ys:List V} {us ws:List Value},Vals xs us->Vals ys ws->Vals (xs ++ ys) (us ++ ws)
 |_,_,_,_,.nil,s=>s
 |_,_,_,_,.cons r t,s=>.cons r (Vals.append t s)
theorem Vals.take:∀{xs:List V} {us:List Value} (n:Nat),Vals xs us->Vals (xs.take n) (us.take n)
 |_,_,0,_=>.nil
 |_,_,_ + 1,.nil=>.nil
 |_,_,n + 1,.cons r t=>.cons r (Vals.take n t)
theorem Vals.drop:∀{xs:List V} {us:List Value} (n:Nat),Vals xs us->Vals (xs.drop n) (us.drop n)
 |_,_,0,r=>r
 |_,_,_ + 1,.nil=>.nil
 |_,_,n + 1,.cons _ t=>Vals.drop n t
noncomputable def nj:Option V->Option Value->Prop
 |some v,some u=>RelV v u
 |none,none=>True
 |_,_=>False
def KV {κ:Type}:List (κ×V)->List (κ×Value)->Prop:=Paired fun(p:κ×V) (q:κ×Value)=>p.1=q.1/\RelV p.2 q.2
def kV:Key->V
 |.inl i=>.int i
 |.inr x=>.str x
inductive HO where
  |lst (xs:List V)
  |tup (xs:List V)
  |dK (kvs:List (Key×V)) |dT (kvs:List (List Key×V))
  |set (S:Int->Bool) (n:Nat)
  |ins (C dx:Addr) (fs:List (Str×V))
  |own (x:Addr)
  |xd (fs:List (Str×V))
  |met (f x:Addr)
  |rng (lo hi:Int)
  |frz (o:Obj) (u:HO)
  |tbl (ps:Array Value)
  |ext (φ:Heap->Prop)
abbrev Hp:=Addr->Option HO
noncomputable def upd (H:Hp) (a:Addr) (o:HO):Hp:=fun b=>if b=a then some o else H b
theorem dG:upd H a o a=some o:=by unfold upd;rw[tG rfl]
theorem bJ (h:b≠a):upd H a o b=H b:=by unfold upd;rw[Rn h]
theorem Qw:upd (upd H a o) a u=upd H a u:=by
 funext b;unfold upd;split<;>rfl
theorem mD {H:Hp}{a b:Addr}{o:HO}(h:H a=some o)(h':H b=none):a≠b:=by
 intro e;subst e;rw[h]at h';cases h'
section
variable (P:Program)(w:World)
noncomputable def fu (H:Hp) (h:Heap) (a:Addr):HO->Prop
 |.lst xs=>xs.length<=sizeLine/\∃(its:List Value) (n:Nat),Vals xs its/\h.get? a=some {cls:=.type "list",data:=.seq its.toArray n}
 |.tup xs=>xs.length<=sizeLine/\∃its:List Value,Vals xs its/\IsTup h a its.toArray
 |.dK kvs=>kvs.length<=sizeLine/\(a==sysModules)=false/\∃vs,KV kvs vs/\h.DictOf (uV P w) a vs
 |.dT kvs=>kvs.length<=sizeLine/\(a==sysModules)=false/\∃xs:List (List Key×Addr×Value),
   Paired (fun(p:List Key×V) (q:List Key×Addr×Value)=>p.1=q.1/\H q.2.1=some (.tup (p.1.map kV))/\RelV p.2 q.2.2) kvs xs/\
   ∃o es ep,h.get? a=some o/\o.ExactDict/\o.data=.dict es ep/\es.toList=xs.map (entryOfKey (tupleKind (uV P w)))/\(xs.map (·.1)).Nodup
 |.set S n=>h.SetOf (intKind P w) a S n
 |.ins C dx fs=>H dx=some (.own a)/\fs.length<=1000/\dx≠a/\h.get? a=some (PySem.W.instObj C dx)/\
   ∃mA,h.Ns1 dx mA/\(∀f,nj (fs.lookup f) (mA f))/\PySem.Within mA (fs.map (·.1))
 |.own _=>∃o,h.get? a=some o
 |.xd fs=>∃mA,h.Ns1 a mA/\∀f,nj (fs.lookup f) (mA f)
 |.rng lo hi=>∃t u v,h.get? a=some {cls:=.type "range",data:=.fields #[.int lo t,.int hi u,.int 1 v]}
 |.frz o u=>h.get? a=some o/\fu H h a u
 |.tbl ps=>h.get? a=some {cls:=.none,data:=.fields ps}
 |.met f x=>h.get? a=some (PySem.W.methodObj (.ref f) (.ref x))
 |.ext φ=>φ h/\(∃o,h.get? a=some o)/\∀h1 h2:Heap,φ h1->(∀o,h1.get? a=some o->h2.get? a=some o)->φ h2
def bQ (H:Hp)(h:Heap):Prop:=∀a o,H a=some o->fu P w H h a o
end
section
variable {P:Program}{w:World}{H H':Hp}{h h':Heap}{a:Addr}{o:HO}
theorem fu.lt (x:fu P w H h a o):a<h.objs.size:=by
 cases o with
 |lst xs=>obtain⟨_,_,_,_,e⟩:=x;exact Rv e
 |tup xs=>obtain⟨_,_,_,p⟩:=x;exact p.lt
 |dK kvs=>obtain⟨_,_,_,_,o,_,_,e,_⟩:=x;exact Rv e
 |dT kvs=>obtain⟨_,_,_,_,o,_,_,e,_⟩:=x;exact Rv e
 |set S n=>obtain⟨o,_,_,_,e,_⟩:=x;exact Rv e
 |ins C dx fs=>obtain⟨_,_,_,e,_⟩:=x;exact Rv e
 |own y=>obtain⟨_,e⟩:=x;exact Rv e
 |xd fs=>obtain⟨_,⟨_,_,_,e,_⟩,_⟩:=x;exact Rv e
 |rng lo hi=>obtain⟨_,_,_,e⟩:=x;exact Rv e
 |frz ob u=>obtain⟨e,_⟩:=x;exact Rv e
 |tbl ps=>exact Rv (show h.get? a=some _ from x)
 |met f y=>exact Rv (show h.get? a=some _ from x)
 |ext φ=>obtain⟨_,⟨_,e⟩,_⟩:=x;exact Rv e
theorem Paired.mapP:∀{l₁:List α} {l₂:List β},Paired F l₁ l₂->(∀a b,F a b->G a b)->Paired G l₁ l₂
 |_,_,.nil,_=>.nil
 |_,_,.cons r t,f=>.cons (f _ _ r) (Paired.mapP t f)
theorem fu.stay (x:fu P w H h a o)(k:∀b u,(b=a\/H b=some (.own a))->h.get? b=some u->h'.get? b=some u)
    (ho:∀b,H b=some (.own a)->H' b=some (.own a)) (ht:∀b xs,H b=some (.tup xs)->H' b=some (.tup xs)):fu P w H' h' a o:=by
  induction o with
  |lst xs=>obtain⟨z,its,n,r,e⟩:=x;exact⟨z,its,n,r,k _ _ (.inl rfl) e⟩
  |tup xs=>obtain⟨z,its,r,ob,e,c⟩:=x;exact⟨z,its,r,ob,k _ _ (.inl rfl) e,c⟩
  |dK kvs=>obtain⟨z,y,vs,r,ob,es,ep,e,c⟩:=x;exact⟨z,y,vs,r,ob,es,ep,k _ _ (.inl rfl) e,c⟩
  |dT kvs=>
    obtain⟨z,y,xs,r,ob,es,ep,e,c⟩:=x;exact⟨z,y,xs,Paired.mapP r fun p q z=>⟨z.1,ht _ _ z.2.1,z.2.2⟩,ob,es,ep,k _ _ (.inl rfl) e,c⟩
  |set S n=>obtain⟨ob,es,ep,t,e,c⟩:=x;exact⟨ob,es,ep,t,k _ _ (.inl rfl) e,c⟩
  |ins C dx fs=>
    obtain⟨d,z,ne,e,mA,⟨od,es,ep,e2,c⟩,r⟩:=x;exact⟨ho _ d,z,ne,k _ _ (.inl rfl) e,mA,⟨od,es,ep,k _ _ (.inr d) e2,c⟩,r⟩
  |own y=>obtain⟨ob,e⟩:=x;exact⟨ob,k _ _ (.inl rfl) e⟩
  |xd fs=>obtain⟨mA,⟨od,es,ep,e,c⟩,r⟩:=x;exact⟨mA,⟨od,es,ep,k _ _ (.inl rfl) e,c⟩,r⟩
  |rng lo hi=>obtain⟨t,u,v,e⟩:=x;exact⟨t,u,v,k _ _ (.inl rfl) e⟩
  |frz ob u ih=>obtain⟨e,q⟩:=x;exact⟨k _ _ (.inl rfl) e,ih q⟩
  |tbl ps=>
    have e:h.get? a=some {cls:=.none,data:=.fields ps}:=x;show h'.get? a=some {cls:=.none,data:=.fields ps};exact k a _ (.inl rfl) e
  |met f y=>
    have e:h.get? a=some (PySem.W.methodObj (.ref f) (.ref y)):=x;show h'.get? a=some (PySem.W.methodObj (.ref f) (.ref y));exact k a _ (.inl rfl) e
  |ext φ=>obtain⟨p,⟨o,e⟩,st⟩:=x;exact⟨st _ _ p fun o q=>k _ _ (.inl rfl) q,⟨o,k _ _ (.inl rfl) e⟩,st⟩
theorem bQ.lt (x:bQ P w H h)(e:H a=some o):a<h.objs.size:=(x a o e).lt
theorem bQ.fresh (x:bQ P w H h)(e:h.objs.size<=a):H a=none:=by
 cases q:H a with
 |none=>rfl
 |some u=>exact absurd (Ry (x.lt q) e) (Um _)
theorem bQ.kept (x:bQ P w H h)(k:∀b u,h.get? b=some u->h'.get? b=some u):bQ P w H h':=fun a o e=>
 (x a o e).stay (fun b u _ q=>k b u q) (fun _ q=>q) fun _ _ q=>q
theorem bQ.laid (x:bQ P w H h)(k:∀b u,h.get? b=some u->h'.get? b=some u)(hp:h.objs.size<=a)(new:fu P w (upd H a o) h' a o):bQ P w (upd H a o) h':=fun b u e=>by
 have hn:=x.fresh hp
 by_cases hb:b=a
 ·subst hb;rw[dG]at e;cases e;exact new
 ·rw[bJ hb]at e;exact(x b u e).stay (fun c v _ q=>k c v q) (fun c q=>by rw[bJ (mD q hn)];exact q) fun c xs q=>by rw[bJ (mD q hn)];exact q
end
def Rd (H:Hp)(a:Addr)(u:HO):Prop:=H a=some u\/∃o,H a=some (.frz o u)
theorem Rd.ok (r:Rd H a u)(x:bQ P w H h):fu P w H h a u:=by
 rcases r with r |⟨o,r⟩
 ·exact x a u r
 ·obtain⟨_,q⟩:=x a _ r;exact q
noncomputable def ql:Option HO->Prop
 |some (.lst _)=>True
 |some (.dK _)=>True
 |some (.dT _)=>True
 |some (.set _ _)=>True
 |some (.ins _ _ _)=>True
 |some (.ext _)=>True
 |_=>False
section
variable {P:Program}{w:World}{H:Hp}{h h':Heap}{x e:Addr}{o':HO}
theorem bQ.write (ok:bQ P w H h)(mu:ql (H x))(he:e=x\/H e=some (.own x))(k:∀b u,b≠e->h.get? b=some u->h'.get? b=some u)(heo:∃u,h'.get? e=some u)
  (new:fu P w (upd H x o') h' x o'):bQ P w (upd H x o') h':=fun b u q=>by
 have nown:∀c y,H c=some (.own y)->c≠x:=fun c y r z=>by subst z;rw[r]at mu;exact mu
 have ntup:∀c xs,H c=some (.tup xs)->c≠x:=fun c xs r z=>by subst z;rw[r]at mu;exact mu
 by_cases hb:b=x
 ·subst hb;rw[dG]at q;cases q;exact new
 ·rw[bJ hb]at q
  by_cases hbe:b=e
  ·have q':H b=some (.own x):=by
    rcases he with z |z
    ·exact absurd (hbe.trans z) hb
    ·rw[hbe];exact z
   rw[q]at q';cases q';obtain⟨v,hv⟩:=heo;exact⟨v,by rw[hbe];exact hv⟩
  ·refine(ok b u q).stay (fun c v hc r=>k c v ?_ r) (fun c r=>by rw[bJ (nown c b r)];exact r) fun c xs r=>by rw[bJ (ntup c xs r)];exact r
   rcases hc with rfl |hc
   ·exact hbe
   ·rintro rfl;rcases he with z |z
    ·exact nown c b hc z
    ·rw[hc]at z;cases z;exact hb rfl
end
structure Un (fs ex:List Addr)(H H':Hp)(h h':Heap):Prop where
 keep:∀b o,h.get? b=some o->H b=none->b∉fs->b∉ex->h'.get? b=some o
 slot:∀b o,h.get? b=some o->H b=none->b∈fs->b∉ex->∃sl,h'.get? b=some {o with slots:=sl}
 free:∀b o,h.get? b=some o->H b=none->b∉ex->H' b=none
 there:∀b o,h.get? b=some o->b∉ex->∃o',h'.get? b=some o'
 tups:∀b xs,H b=some (.tup xs)->H' b=some (.tup xs)
 frzs:∀b o u,H b=some (.frz o u)->H' b=some (.frz o u)
 tbls:∀b ps,H b=some (.tbl ps)->∃more,H' b=some (.tbl (ps ++ more))
section
variable {fs fs' ex ex':List Addr}{H H1 H2:Hp}{h h1 h2 h':Heap}{a x e:Addr}{o:HO}
theorem Un.any (u:Un fs ex H H1 h h1)(q:h.get? b=some ob)(n:H b=none)(hx:b∉ex):∃sl,h1.get? b=some {ob with slots:=sl}:=by
 by_cases hb:b∈fs
 ·exact u.slot b ob q n hb hx
 ·exact⟨ob.slots,u.keep b ob q n hb hx⟩
theorem Un.trans (a:Un fs ex H H1 h h1)(b:Un fs ex H1 H2 h1 h2):Un fs ex H H2 h h2 where
 keep:=fun c ob q n hc hx=>b.keep c ob (a.keep c ob q n hc hx) (a.free c ob q n hx) hc hx
 slot:=fun c ob q n hc hx=>by
  obtain⟨sl,e1⟩:=a.slot c ob q n hc hx;obtain⟨sl',e2⟩:=b.slot c _ e1 (a.free c ob q n hx) hc hx;exact⟨sl',e2⟩
 free:=fun c ob q n hx=>by
  obtain⟨o',e1⟩:=a.there c ob q hx;exact b.free c o' e1 (a.free c ob q n hx) hx
 there:=fun c ob q hx=>by
  obtain⟨o',e1⟩:=a.there c ob q hx;exact b.there c o' e1 hx
 tups:=fun c xs q=>b.tups c xs (a.tups c xs q)
 frzs:=fun c ob xs q=>b.frzs c ob xs (a.frzs c ob xs q)
 tbls:=fun c ps q=>by
  obtain⟨m1,e1⟩:=a.tbls c ps q;obtain⟨m2,e2⟩:=b.tbls c _ e1;exact⟨m1 ++ m2,by rw[e2,W4]⟩
theorem Un.kept (k:∀b u,h.get? b=some u->h'.get? b=some u):Un fs ex H H h h':=
 ⟨fun b ob q _ _ _=>k b ob q,fun b ob q _ _ _=>⟨ob.slots,k b ob q⟩,fun _ _ _ n _=>n,fun b ob q _=>⟨ob,k b ob q⟩,fun _ _ q=>q,fun _ _ _ q=>q,fun _ ps q=>⟨#[],by rw[q];simp⟩⟩
theorem Un.refl:Un fs ex H H h h:=Un.kept fun _ _ q=>q
theorem Un.laid (k:∀b u,h.get? b=some u->h'.get? b=some u)(hp:h.objs.size<=a)(hn:H a=none):Un fs ex H (upd H a o) h h' where
 keep:=fun b u q _ _ _=>k b u q
 slot:=fun b u q _ _ _=>⟨u.slots,k b u q⟩
 free:=fun b u q n _=>by rw[bJ (RX (Ry (Rv q) hp))];exact n
 there:=fun b u q _=>⟨u,k b u q⟩
 tups:=fun b xs q=>by rw[bJ (mD q hn)];exact q
 frzs:=fun b u xs q=>by rw[bJ (mD q hn)];exact q
 tbls:=fun b ps q=>⟨#[],by rw[bJ (mD q hn),q];simp⟩
theorem Un.write (mu:ql (H x))(he:e=x\/H e=some (.own x))(k:∀b u,b≠e->h.get? b=some u->h'.get? b=some u)(heo:∃u,h'.get? e=some u):Un fs ex H (upd H x o) h h':=by
 have hx:∀b,H b=none->b≠x:=fun b n z=>by subst z;rw[n]at mu;exact mu
 have hb:∀b,H b=none->b≠e:=fun b n z=>by
  subst z;rcases he with r |r
  ·exact hx b n r
  ·rw[n]at r;cases r
 have hm:∀b u,H b=some u->¬ ql (some u)->b≠x:=fun b u q nm z=>by subst z;rw[q]at mu;exact nm mu
 refine ⟨fun b u q n _ _=>k b u (hb b n) q,fun b u q n _ _=>⟨u.slots,k b u (hb b n) q⟩,fun b u q n _=>by rw[bJ (hx b n)];exact n,fun b u q _=>?_,
  fun b xs q=>by rw[bJ (hm b _ q fun z=>z)];exact q,fun b u xs q=>by rw[bJ (hm b _ q fun z=>z)];exact q,fun b ps q=>⟨#[],by rw[bJ (hm b _ q fun z=>z),q];simp⟩⟩
 by_cases hbe:b=e
 ·subst hbe;exact heo
 ·exact⟨u,k b u hbe q⟩
theorem Un.mono (u:Un fs ex H H1 h h1)(hs:∀b∈fs,b∈fs')(hx:∀b∈ex,b∈ex'):Un fs' ex' H H1 h h1:=
 ⟨fun b ob q n hb he=>u.keep b ob q n (fun z=>hb (hs b z)) fun z=>he (hx b z),fun _ _ q n _ he=>u.any q n fun z=>he (hx _ z),fun b ob q n he=>u.free b ob q n fun z=>he (hx b z),fun b ob q he=>u.there b ob q fun z=>he (hx b z),u.tups,u.frzs,u.tbls⟩
end
noncomputable def sS (h:Heap) (H:Hp):List Addr:=(List.range h.objs.size).filter fun a=>(H a).isSome
def cT (h:Heap)(H:Hp):Heap:=PySem.W.hideAll h (sS h H)
theorem Gn (h:Heap)(H:Hp):(cT h H).objs.size=h.objs.size:=PySem.W.hideAll_size _ _
theorem Gm (e:h.get? b=some o)(n:H b=none):(cT h H).get? b=some o:=
 PySem.W.hideAll_get _ e fun hm=>by
  have q:(H b).isSome=true:=(List.mem_filter.mp hm).2;rw[n]at q;simp at q
theorem Iw (e:(cT h H).get? b=some o):h.get? b=some o/\H b=none:=by
  have e':h.get? b=some o:=PySem.W.of_hideAll (sS h H) e;refine⟨e',?_⟩
  cases q:H b with
  |none=>rfl
  |some x=>
    have hm:b∈sS h H:=List.mem_filter.mpr ⟨UJ.mpr (Rv e'),by simp[q]⟩;have z:(cT h H).get? b=none:=PySem.W.hideAll_none (sS h H) hm;rw[z]at e;cases e
structure Mod (K:Fgx)(mg:Mgx)(base:Heap):Prop where
 kin:K.In base
 glob:base.Ns mainGlobals mg
 blt:∃mb,base.Ns builtinsNs mb/\∀x:Str,x≠"__name__"->mb x=bootBuiltins x
 nolimit:base.NoLimit
structure Cx where
 prog:Program
 w:World
 K:Fgx
 mg:Mgx
 base:Heap
 A:Around
 N:List Str
 s₀:Shared
 H₀:Hp
 env:Env
 outer:List Env
 stack:List Env
 ex:List Addr
 fn:Str->Bool
 calm:Bool
 pn:Pnx
 xe:Value->Shared->Prop
def frs (l:List Env):List Addr:=l.filterMap (·.frame)
abbrev Cx.fs (X:Cx):List Addr:=frs X.outer
def nu (sc:Scope)(x:Str):Prop:=sc.names.lookup x=some .local\/sc.names.lookup x=some .cell\/sc.names.lookup x=some .free
def Loc (sc:Scope)(x:Str):Prop:=sc.names.lookup x=some .local\/sc.names.lookup x=some .cell
def Look (env:Env)(h:Heap)(m:Mgx)(x:Str)(u:Value):Prop:=
 (env.kindOf x=some .local/\m x=some u)\/((env.kindOf x=some .cell\/env.kindOf x=some .free)/\∃c,env.cells.lookup x=some c/\h.IsCell c (some u))
structure Cx.Ok (X:Cx):Prop where
 mod:Mod X.K X.mg X.base
 kind:X.env.scope.kind=.function
 glob:X.env.globals=mainGlobals
 blt:X.env.builtins=builtinsNs
 above:X.s₀.heap.objs.size<=X.env.locals
 inj:∀x y c,X.env.cells.lookup x=some c->X.env.cells.lookup y=some c->x=y
 has:∀x,(X.env.kindOf x=some .cell\/X.env.kindOf x=some .free)->∃c,X.env.cells.lookup x=some c
 cab:∀x c,X.fn x=true->X.env.cells.lookup x=some c->X.s₀.heap.objs.size<=c
 hd:X.calm=true->X.A.handled=none
 frames:X.A.frames=some X.stack
 stk:X.stack=X.outer\/(X.stack=X.env::X.outer/\X.env.frame=some X.env.locals)
 exf:∀b∈X.ex,b≠X.env.locals/\∀x c,X.env.cells.lookup x=some c->c≠b
 bs:∀b o,X.base.get? b=some o->X.s₀.heap.get? b=some o/\X.H₀ b=none
 bsz:X.base.objs.size<=X.s₀.heap.objs.size
 noex:∀b o,X.base.get? b=some o->b∉X.ex
 exfs:∀b∈X.ex,b∉X.fs
 funs:X.s₀.heap.FunFrames X.base X.outer
 frf:∀b∈X.fs,X.H₀ b=none
structure Inv (X:Cx)(pins:Pnx)(σ:List (Option V))(H:Hp)(s:Shared):Prop where
 ok:X.Ok
 os:s.os=X.s₀.os
 bare:AllBare s.gens
 base:Un X.fs X.ex X.H₀ H X.s₀.heap s.heap
 loc:∃m,s.heap.Ns X.env.locals m/\∀(i:Nat) (x:Str) (v:V),X.N[i]? =some x->σ[i]? =some (some v)->nu X.env.scope x->∃u,RelV v u/\Look X.env s.heap m x u
 cell:∀x c,X.env.cells.lookup x=some c->∃v,s.heap.IsCell c v
 free:H X.env.locals=none
 freeC:∀x c,X.env.cells.lookup x=some c->H c=none\/(X.fn x=false/\∃o u,H c=some (.frz o u))
 pin:∀p∈X.pn ++ pins,s.heap.get? p.1=some p.2/\H p.1=none/\p.1≠X.env.locals/\p.1∉X.fs/\∀v,p.2.data≠ .cell v
 hok:bQ X.prog X.w H s.heap
 len:σ.length=X.N.length
section
variable {X:Cx}{pins:Pnx}{σ:List (Option V)}{H H':Hp}{s:Shared}{h':Heap}
theorem Cx.Ok.nofr (ok:X.Ok)(e:X.base.get? b=some o):b∉X.fs:=fun hb=>by
 have:=(ok.funs.mem hb).1;rw[e]at this;cases this
theorem Inv.bs (I:Inv X pins σ H s):∀b o,X.base.get? b=some o->s.heap.get? b=some o/\H b=none:=fun b o e=>
 ⟨I.base.keep b o (I.ok.bs b o e).1 (I.ok.bs b o e).2 (I.ok.nofr e) (I.ok.noex b o e),I.base.free b o (I.ok.bs b o e).1 (I.ok.bs b o e).2 (I.ok.noex b o e)⟩
theorem Inv.bk (I:Inv X pins σ H s):∀b o,X.base.get? b=some o->s.heap.get? b=some o:=fun b o e=>(I.bs b o e).1
theorem Inv.mod (I:Inv X pins σ H s):Mod X.K X.mg X.base:=I.ok.mod
theorem Inv.kIn (I:Inv X pins σ H s):X.K.In s.heap:=I.ok.mod.kin.keeps I.bk
theorem Inv.lt (I:Inv X pins σ H s):X.env.locals<s.heap.objs.size:=let ⟨_,hn,_⟩:=I.loc;hn.lt
theorem Inv.sz (I:Inv X pins σ H s):X.s₀.heap.objs.size<=s.heap.objs.size:=RB I.ok.above (S6 I.lt)
theorem Inv.nofs (I:Inv X pins σ H s)(h:s.heap.objs.size<=a):a∉X.fs:=fun hb=>by
 obtain⟨_,o,ho,_⟩:=I.ok.funs.mem hb;exact absurd (Ry (Rv ho) (RB I.sz h)) (Um _)
theorem Inv.cne (I:Inv X pins σ H s):∀x c,X.env.cells.lookup x=some c->c≠X.env.locals:=fun x c e z=>by
 obtain⟨v,o,ho,hd⟩:=I.cell x c e;obtain⟨m,⟨o',es,ep,ho',hd',_⟩,_⟩:=I.loc;rw[z,ho']at ho;cases ho;rw[hd']at hd;cases hd
theorem Inv.funs (I:Inv X pins σ H s):s.heap.FunFrames X.base X.outer:=by
  have all:∀(l:List Env),(∀b∈frs l,b∈X.fs)->X.s₀.heap.FunFrames X.base l->s.heap.FunFrames X.base l:=by
    intro l
    induction l with
    |nil=>intro _ _;trivial
    |cons env r ih=>
      intro hs hl;obtain⟨hk,⟨L,o,hf,hn,ho,hd⟩,hr⟩:=hl;have hL:L∈X.fs:=hs L (by unfold frs;rw[Tv,hf];exact R6);obtain⟨sl,e⟩:=I.base.slot L o ho (I.ok.frf L hL) hL fun z=>I.ok.exfs L z hL;exact⟨hk,⟨L,_,hf,hn,e,hd⟩,ih (fun b hb=>hs b (by unfold frs;rw[Tv,hf];exact RP _ hb)) hr⟩
  exact all X.outer (fun _ hb=>hb) I.ok.funs
theorem Inv.stack (I:Inv X pins σ H s):s.heap.FunFrames X.base X.stack:=by
 rcases I.ok.stk with e |⟨e,hf⟩
 ·rw[e];exact I.funs
 ·rw[e];obtain⟨m,hn,_⟩:=I.loc;refine .cons (by rw[I.ok.kind];decide) hf hn ?_ I.funs;exact Heap.get?_none_of_le (RB I.ok.bsz I.ok.above)
theorem Inv.stkSub (I:Inv X pins σ H s):∀b∈frs X.stack,b∈X.env.locals::X.fs:=fun b hb=>by
 rcases I.ok.stk with e |⟨e,hf⟩
 ·rw[e]at hb;exact RP _ hb
 ·rw[e]at hb;unfold frs at hb;rw[Tv,hf]at hb;exact hb
theorem Inv.stkFree (I:Inv X pins σ H s):∀b∈frs X.stack,H b=none:=fun b hb=>by
 rcases Ss.mp (I.stkSub b hb) with e |hb
 ·rw[e];exact I.free
 ·obtain⟨_,o,ho,_⟩:=I.ok.funs.mem hb;exact I.base.free b o ho (I.ok.frf b hb) fun z=>I.ok.exfs b z hb
theorem Inv.step {g':Array GenState}{t':Nat}{d':Drawn}{ch:List Addr}(I:Inv X pins σ H s)
  (hch:∀b∈ch,(b∈X.ex\/X.s₀.heap.objs.size<=b)/\b≠X.env.locals/\(∀x c,X.env.cells.lookup x=some c->c≠b)/\∀p∈X.pn ++ pins,p.1≠b)
  (keep:∀b o,b≠X.env.locals->b∉X.fs->b∉ch->s.heap.get? b=some o->H b=none->h'.get? b=some o)
  (slot:∀b o,b≠X.env.locals->b∈X.fs->b∉ch->s.heap.get? b=some o->H b=none->∃sl,h'.get? b=some {o with slots:=sl}) (free:∀b o,b∉ch->s.heap.get? b=some o->H b=none->H' b=none)
  (there:∀b o,b∉ch->s.heap.get? b=some o->∃o',h'.get? b=some o')
  (tups:∀b xs,H b=some (.tup xs)->H' b=some (.tup xs)) (frzs:∀b o u,H b=some (.frz o u)->H' b=some (.frz o u)) (tbls:∀b ps,H b=some (.tbl ps)->∃more,H' b=some (.tbl (ps ++ more)))
  (ns:∀m,s.heap.Ns X.env.locals m->h'.Ns X.env.locals m) (hok:bQ X.prog X.w H' h') (hg:AllBare g'):
  Inv X pins σ H' {s with heap:=h',gens:=g',drawn:=d',toks:=t'}:=by
 have neL:∀b o,X.s₀.heap.get? b=some o->b≠X.env.locals:=fun b o e=>RX (Ry (Rv e) I.ok.above);have neC:∀b o,X.s₀.heap.get? b=some o->b∉X.ex->b∉ch:=fun b o e hx hb=>by
  rcases(hch b hb).1 with z |z
  ·exact hx z
  ·exact absurd (Ry (Rv e) z) (Um _)
 have cellK:∀x c,X.env.cells.lookup x=some c->∀v,s.heap.IsCell c v->h'.IsCell c v:=fun x c e v ⟨o,ho,hd⟩=>by
  have nch:c∉ch:=fun z=>(hch c z).2.2.1 x c e rfl;rcases I.freeC x c e with fc |⟨_,o',u',fc⟩
  ·by_cases hc:c∈X.fs
   ·obtain⟨sl,q⟩:=slot c o (I.cne x c e) hc nch ho fc;exact⟨_,q,hd⟩
   ·exact⟨o,keep c o (I.cne x c e) hc nch ho fc,hd⟩
  ·obtain⟨e1,_⟩:=I.hok c _ fc;obtain⟨e2,_⟩:=hok c _ (frzs c _ _ fc);rw[ho]at e1;cases e1;exact⟨o,e2,hd⟩
 refine⟨I.ok,I.os,hg,⟨fun b o e n hb hx=>?_,fun b o e n hb hx=>?_,fun b o e n hx=>?_,fun b o e hx=>?_,fun b xs e=>tups b xs (I.base.tups b xs e),fun b o xs e=>frzs b o xs (I.base.frzs b o xs e),fun b ps e=>?_⟩,?_,fun x c e=>?_,?_,fun x c e=>?_,fun p hp=>?_,hok,I.len⟩
 ·exact keep b o (neL b o e) hb (neC b o e hx) (I.base.keep b o e n hb hx) (I.base.free b o e n hx)
 ·obtain⟨sl,e1⟩:=I.base.slot b o e n hb hx;obtain⟨sl',e2⟩:=slot b _ (neL b o e) hb (neC b o e hx) e1 (I.base.free b o e n hx);exact⟨sl',e2⟩
 ·obtain⟨o',e1⟩:=I.base.there b o e hx;exact free b o' (neC b o e hx) e1 (I.base.free b o e n hx)
 ·obtain⟨o',e1⟩:=I.base.there b o e hx;exact there b o' (neC b o e hx) e1
 ·obtain⟨m1,e1⟩:=I.base.tbls b ps e;obtain⟨m2,e2⟩:=tbls b _ e1;exact⟨m1 ++ m2,by rw[e2,W4]⟩
 ·obtain⟨m,hn,hl⟩:=I.loc;refine⟨m,ns m hn,fun i x v e1 e2 e3=>?_⟩;obtain⟨u,r,l⟩:=hl i x v e1 e2 e3;refine⟨u,r,?_⟩;rcases l with l |⟨k,c,e,z⟩
  ·exact .inl l
  ·exact .inr ⟨k,c,e,cellK x c e _ z⟩
 ·obtain⟨v,z⟩:=I.cell x c e;exact⟨v,cellK x c e v z⟩
 ·obtain⟨m,⟨o,_,_,ho,_⟩,_⟩:=I.loc;exact free _ o (fun z=>(hch _ z).2.1 rfl) ho I.free
 ·obtain⟨v,o,ho,hd⟩:=I.cell x c e;rcases I.freeC x c e with fc |⟨fn,o',u',fc⟩
  ·exact .inl (free c o (fun z=>(hch c z).2.2.1 x c e rfl) ho fc)
  ·exact .inr ⟨fn,o',u',frzs c _ _ fc⟩
 ·obtain⟨e,n,ne,nf,d⟩:=I.pin p hp;have nch:p.1∉ch:=fun z=>(hch p.1 z).2.2.2 p hp rfl;exact⟨keep p.1 p.2 ne nf nch e n,free p.1 p.2 nch e n,ne,nf,d⟩
theorem Inv.un {t':Nat}(I:Inv X pins σ H s)(u:Un X.fs [] H H' s.heap h')(hok:bQ X.prog X.w H' h'):Inv X pins σ H' {s with heap:=h',toks:=t'}:=by
 obtain ⟨m, ⟨o, es, ep, ho, r⟩, _⟩ := id I.loc;obtain ⟨sl, hL⟩ := u.any ho I.free (by simp);exact I.step (g' := s.gens) (d' := s.drawn) (ch := []) (fun _ z => nomatch z) (fun b o _ hb _ e n => u.keep b o e n hb (by simp)) (fun b o _ hb _ e n => u.slot b o e n hb (by simp)) (fun b o _ e n => u.free b o e n (by simp)) (fun b o _ e => u.there b o e (by simp)) u.tups u.frzs u.tbls (fun m' hm=>by
  obtain⟨o',es',ep',ho',r'⟩:=hm;rw[ho]at ho';cases ho';exact⟨_,es',ep',hL,r'⟩) hok I.bare
theorem Inv.call {g':Array GenState}{t':Nat}{d':Drawn}{ch:List Addr}(I:Inv X pins σ H s)(u:Un (frs X.stack) ch H H' s.heap h')(hok:bQ X.prog X.w H' h')(hg:AllBare g')
  (hch:∀b∈ch,(b∈X.ex\/X.s₀.heap.objs.size<=b)/\b≠X.env.locals/\(∀x c,X.env.cells.lookup x=some c->c≠b)/\∀p∈X.pn ++ pins,p.1≠b):
  Inv X pins σ H' {s with heap:=h',gens:=g',drawn:=d',toks:=t'}:=by
 obtain ⟨m, ⟨o, es, ep, ho, r⟩, _⟩ := id I.loc;obtain ⟨sl, hL⟩ := u.any ho I.free fun z => (hch _ z).2.1 rfl;exact I.step (ch := ch) hch (fun b o hL hb hc e n => u.keep b o e n (fun z => (Ss.mp (I.stkSub b z)).elim hL hb) hc) (fun b o _ _ hc e n => u.any e n hc) (fun b o hc e n => u.free b o e n hc) (fun b o hc e => u.there b o e hc) u.tups u.frzs u.tbls (fun m' hm=>by
  obtain⟨o',es',ep',ho',r'⟩:=hm;rw[ho]at ho';cases ho';exact⟨_,es',ep',hL,r'⟩) hok hg
theorem Inv.turned {t':Nat}{it:Addr}(I:Inv X pins σ H s)(k:∀b o,b≠it->s.heap.get? b=some o->h'.get? b=some o)(hn:H it=none)(hL:it≠X.env.locals)
  (h1:it∈X.ex\/X.s₀.heap.objs.size<=it) (h2:∀x c,X.env.cells.lookup x=some c->c≠it) (h3:∀p∈X.pn ++ pins,p.1≠it):Inv X pins σ H {s with heap:=h',toks:=t'}:=by
 have nit:∀b u,H b=some u->b≠it:=fun b u e z=>by rw[z,hn]at e;cases e
 refine I.step (g':=s.gens) (d':=s.drawn) (ch:=[it]) (fun b hb=>?_) (fun b o _ _ hc e _=>k b o (fun z=>hc (by simp[z])) e) (fun b o _ _ hc e _=>⟨o.slots,k b o (fun z=>hc (by simp[z])) e⟩) (fun _ _ _ _ n=>n)
  (fun b o hc e=>⟨o,k b o (fun z=>hc (by simp[z])) e⟩) (fun _ _ e=>e) (fun _ _ _ e=>e) (fun b ps e=>⟨#[],by rw[e];simp⟩) (fun m hm=>?_) (fun b u e=>?_) I.bare
 ·have e:b=it:=by simpa using hb
  subst e;exact⟨h1,hL,h2,h3⟩
 ·obtain⟨o,es,ep,ho,r⟩:=hm;exact⟨o,es,ep,k _ o (Ux hL) ho,r⟩
 ·refine(I.hok b u e).stay (fun c v hc q=>k c v ?_ q) (fun _ q=>q) fun _ _ q=>q;rcases hc with z |z
  ·rw[z];exact nit b u e
  ·exact nit c _ z
theorem Inv.tok (I:Inv X pins σ H s)(t:Nat):Inv X pins σ H {s with toks:=t}:=I.un (h':=s.heap) (t':=t) Un.refl I.hok
theorem Inv.kept (I:Inv X pins σ H s)(k:∀b u,s.heap.get? b=some u->h'.get? b=some u):Inv X pins σ H {s with heap:=h',toks:=t'}:=I.un (Un.kept k) (I.hok.kept k)
theorem Inv.laid (I:Inv X pins σ H s)(k:∀b u,s.heap.get? b=some u->h'.get? b=some u)(hp:s.heap.objs.size<=a)(new:fu X.prog X.w (upd H a o) h' a o):
  Inv X pins σ (upd H a o) {s with heap:=h',toks:=t'}:=I.un (Un.laid k hp (I.hok.fresh hp)) (I.hok.laid k hp new)
theorem Inv.write (I:Inv X pins σ H s)(mu:ql (H x))(he:e=x\/H e=some (.own x))(k:∀b u,b≠e->s.heap.get? b=some u->h'.get? b=some u)(heo:∃u,h'.get? e=some u)
  (new:fu X.prog X.w (upd H x o) h' x o):Inv X pins σ (upd H x o) {s with heap:=h',toks:=t'}:=I.un (Un.write mu he k heo) (I.hok.write mu he k heo new)
theorem Inv.pins_of (I:Inv X pins σ H s)(h:∀p∈pins',s.heap.get? p.1=some p.2/\H p.1=none/\p.1≠X.env.locals/\p.1∉X.fs/\∀v,p.2.data≠ .cell v):Inv X pins' σ H s:=
 ⟨I.ok,I.os,I.bare,I.base,I.loc,I.cell,I.free,I.freeC,fun p hp=>(T4.mp hp).elim (fun z=>I.pin p (U0 _ z)) (h p),I.hok,I.len⟩
theorem Bj {N:List Str}(hN:N.Nodup){i j:Nat}{x:Str}(a:N[i]? =some x)(b:N[j]? =some x):i=j:=by
 obtain⟨h1,e1⟩:=RL.mp a;obtain⟨h2,e2⟩:=RL.mp b;exact(List.getElem_inj hN).mp (e1.trans e2.symm)
theorem Px {M:Model}{A:Around}{E:Value->Shared->Prop}{i:Nat}{x:Str}{v:V}{u:Value}{Q:Unit->Shared->Prop}(I:Inv X pins σ H s)(hN:X.N.Nodup)(hi:X.N[i]? =some x)(hx:Loc X.env.scope x)(r:RelV v u)
    (h:∀s',Inv X pins (σ.set i (some v)) H s'->(∃a,Heap.SameBut a s.heap s'.heap/\(a=X.env.locals\/X.env.cells.lookup x=some a))->Q () s') (hf:X.fn x=true\/X.env.scope.names.lookup x=some .local:=by first |exact .inl rfl |exact .inr rfl |assumption):wpAny M A (storeName X.env x u) Q E s:=by
  obtain⟨m,hn,hl⟩:=id I.loc;have hcls:(X.env.scope.kind==.class || (X.env.scope.kind==.module && X.env.locals !=X.env.globals))=false:=by rw[I.ok.kind];rfl
  have hiσ:i<σ.length:=by rw[I.len];exact(RL.mp hi).1
  have cne:=I.cne;have tracked:∀{a:Addr} {h':Heap},(∃o,s.heap.get? a=some o/\H a=none)->Heap.SameBut a s.heap h'->bQ X.prog X.w H h':=fun {a h'} ha hs b ob e=>by
    obtain⟨_,_,hfree⟩:=ha;refine(I.hok b ob e).stay (fun c w' hc q=>(hs.2 c ?_).trans q) (fun _ q=>q) fun _ _ q=>q;rintro rfl;rcases hc with rfl |hc
    · rw[hfree]at e;cases e
    · rw[hfree]at hc;cases hc
  rcases hx with hk |hk
  · refine wpAny_storeName_local hk hn (fun h' hn' hs=>?_) hcls;obtain⟨oL,_,_,hoL,_⟩:=id hn;refine h _ ⟨I.ok,I.os,I.bare,⟨fun b o e n hb hx=>?_,fun b o e n hb hx=>?_,I.base.free,fun b o e hx=>?_,I.base.tups,I.base.frzs,I.base.tbls⟩,⟨_,hn',fun j y v' e1 e2 e3=>?_⟩,fun y c e=>?_,I.free,I.freeC,fun p hp=>?_,tracked ⟨oL,hoL,I.free⟩ hs,by simpa using I.len⟩ ⟨_,hs,.inl rfl⟩
    · exact(hs.2 b (RX (Ry (Rv e) I.ok.above))).trans (I.base.keep b o e n hb hx)
    · obtain⟨sl,e1⟩:=I.base.slot b o e n hb hx;exact⟨sl,(hs.2 b (RX (Ry (Rv e) I.ok.above))).trans e1⟩
    · obtain⟨o',e1⟩:=I.base.there b o e hx;exact⟨o',(hs.2 b (RX (Ry (Rv e) I.ok.above))).trans e1⟩
    · by_cases hj:j=i
      · subst hj;rw[hi]at e1;cases e1;rw[Ww hiσ]at e2;cases e2;exact⟨u,r,.inl ⟨hk,by simp⟩⟩
      · rw[WW (Ux hj)]at e2;obtain⟨u',r',q⟩:=hl j y v' e1 e2 e3;refine⟨u',r',?_⟩;rcases q with⟨k,e⟩ |⟨k,c,e,z⟩
        · refine .inl ⟨k,?_⟩;have:y≠x:=fun e=>hj (Bj hN e1 (e ▸ hi))
          simp[this,e]
        · exact .inr ⟨k,c,e,z.sameBut hs (cne y c e)⟩
    · obtain⟨w',z⟩:=I.cell y c e;exact⟨w',z.sameBut hs (cne y c e)⟩
    · obtain⟨e,n,ne,nf,d⟩:=I.pin p hp;exact⟨(hs.2 p.1 ne).trans e,n,ne,nf,d⟩
  · have hfn:X.fn x=true:=by
      rcases hf with z |z
      · exact z
      · rw[z]at hk;cases hk
    obtain⟨c,hc⟩:=I.ok.has x (.inl hk);obtain⟨w',z⟩:=I.cell x c hc;refine wpAny_storeName_cell I.ok.kind hk hc z (fun h' hc' hs=>?_);obtain⟨oc,hoc,hocd⟩:=id z;refine h {s with heap:=h'} ⟨I.ok,I.os,I.bare,⟨fun b o e n hb hx=>?_,fun b o e n hb hx=>?_,I.base.free,fun b o e hx=>?_,I.base.tups,I.base.frzs,I.base.tbls⟩,⟨m,hn.sameBut hs (Ux (cne x c hc)),fun j y v' e1 e2 e3=>?_⟩,fun y c' e=>?_,I.free,I.freeC,fun p hp=>?_,tracked ⟨oc,hoc,(I.freeC x c hc).resolve_right fun z=>by rw[z.1]at hfn;cases hfn⟩ hs,by simpa using I.len⟩ ⟨c,hs,.inr hc⟩
    · exact(hs.2 b (RX (Ry (Rv e) (I.ok.cab x c hfn hc)))).trans (I.base.keep b o e n hb hx)
    · obtain⟨sl,e1⟩:=I.base.slot b o e n hb hx;exact⟨sl,(hs.2 b (RX (Ry (Rv e) (I.ok.cab x c hfn hc)))).trans e1⟩
    · obtain⟨o',e1⟩:=I.base.there b o e hx;exact⟨o',(hs.2 b (RX (Ry (Rv e) (I.ok.cab x c hfn hc)))).trans e1⟩
    · by_cases hj:j=i
      · subst hj;rw[hi]at e1;cases e1;rw[Ww hiσ]at e2;cases e2;exact⟨u,r,.inr ⟨.inl hk,c,hc,hc'⟩⟩
      · rw[WW (Ux hj)]at e2;obtain⟨u',r',q⟩:=hl j y v' e1 e2 e3;refine⟨u',r',?_⟩;rcases q with q |⟨k,c',e,z'⟩
        · exact .inl q
        · refine .inr ⟨k,c',e,z'.sameBut hs ?_⟩;rintro rfl;exact hj (Bj hN e1 (I.ok.inj _ _ _ e hc ▸ hi))
    · by_cases hcc:c'=c
      · subst hcc;exact⟨_,hc'⟩
      · obtain⟨w2,z2⟩:=I.cell y c' e;exact⟨w2,z2.sameBut hs hcc⟩
    · obtain⟨e,n,ne,nf,d⟩:=I.pin p hp;refine⟨(hs.2 p.1 ?_).trans e,n,ne,nf,d⟩;intro q;rw[q,hoc]at e;have q':oc=p.2:=RM e;exact d w' (by rw[<-q'];exact hocd)
theorem wM (I:Inv X pins σ H s)(hN:X.N.Nodup)(hi:X.N[i]? =some x)(hx:Loc X.env.scope x)(r:RelV v u)
  (h:∀s',Inv X pins (σ.set i (some v)) H s'->Q () s') (hf:X.fn x=true\/X.env.scope.names.lookup x=some .local:=by first |exact .inl rfl |exact .inr rfl |assumption):wpAny M A (storeName X.env x u) Q E s:=
 Px I hN hi hx r (fun s' I' _=>h s' I') hf
theorem Inv.call' (I:Inv X pins σ H s)(ho:s'.os=s.os)(u:Un (frs X.stack) ch H H' s.heap s'.heap)(hok:bQ X.prog X.w H' s'.heap)(hg:AllBare s'.gens)
  (hch:∀b∈ch,(b∈X.ex\/X.s₀.heap.objs.size<=b)/\b≠X.env.locals/\(∀x c,X.env.cells.lookup x=some c->c≠b)/\∀p∈X.pn ++ pins,p.1≠b):Inv X pins σ H' s':=by
 obtain⟨h',g',d',t',o'⟩:=s';have e:o'=s.os:=ho;subst e;exact I.call (g':=g') (t':=t') (d':=d') u hok hg hch
end
abbrev XK:=Value->Option Addr->Hp->Prop
abbrev St:=List (Option V)
abbrev VK:=V->Hp->Prop
abbrev TE:=St->Hp->VK->Prop
abbrev TT:=St->Hp->(Bool->Hp->Prop)->Prop
abbrev TA:=St->Hp->(List V->Hp->Prop)->Prop
structure Ends where
 nx:St->Hp->Prop
 rt:VK
 bk:St->Hp->Prop:=fun _ _=>False
 ct:St->Hp->Prop:=fun _ _=>False
abbrev TS:=Ends->St->Hp->Prop
def EP (X:Cx)(pins:Pnx)(σ:St)(Q:VK)(u:Value)(s':Shared):Prop:=∃v H',Inv X pins σ H' s'/\RelV v u/\Q v H'
def TP (X:Cx)(pins:Pnx)(σ:St)(Q:Bool->Hp->Prop)(b:Bool)(s':Shared):Prop:=∃H',Inv X pins σ H' s'/\Q b H'
def AP (X:Cx)(pins:Pnx)(σ:St)(Q:List V->Hp->Prop)(us:List Value)(s':Shared):Prop:=∃vs H',Inv X pins σ H' s'/\Vals vs us/\Q vs H'
def SP (X:Cx)(pins:Pnx)(D:Ends)(f:Flow)(s':Shared):Prop:=
 match f with
 |.next=>∃σ' H',Inv X pins σ' H' s'/\D.nx σ' H'
 |.brk=>∃σ' H',Inv X pins σ' H' s'/\D.bk σ' H'
 |.cont=>∃σ' H',Inv X pins σ' H' s'/\D.ct σ' H'
 |.ret u=>∃v σ' H',Inv X pins σ' H' s'/\RelV v u/\D.rt v H'
def PE (X:Cx)(e:Expr)(t:TE):Prop:=
 ∀(pins:Pnx) (s:Shared) (σ:St) (H:Hp) (Q:VK),Inv X pins σ H s->t σ H Q->wpAny (model X.prog X.w) X.A (eval e X.env) (EP X pins σ Q) X.xe s
def PT (X:Cx)(e:Expr)(t:TT):Prop:=
 ∀(pins:Pnx) (s:Shared) (σ:St) (H:Hp) (Q:Bool->Hp->Prop),Inv X pins σ H s->t σ H Q->wpAny (model X.prog X.w) X.A (isTrue e X.env (eval e X.env)) (TP X pins σ Q) X.xe s
def PW (X:Cx)(e:Expr)(t:TT):Prop:=
 ∀(whole:Sem Value) (pins:Pnx) (s:Shared) (σ:St) (H:Hp) (Q:Bool->Hp->Prop),Inv X pins σ H s->t σ H Q->wpAny (model X.prog X.w) X.A (isTrue e X.env whole) (TP X pins σ Q) X.xe s
theorem PW.pt (h:PW X e t):PT X e t:=h _
def PA (X:Cx)(es:List Expr)(t:TA):Prop:=
 ∀(pos:Pos) (pins:Pnx) (s:Shared) (σ:St) (H:Hp) (Q:List V->Hp->Prop),Inv X pins σ H s->t σ H Q->wpAny (model X.prog X.w) X.A (spliced (backTo pos (starEach es X.env))) (AP X pins σ Q) X.xe s
def PS (X:Cx)(st:Stmt)(t:TS):Prop:=
 ∀(pins:Pnx) (s:Shared) (σ:St) (H:Hp) (D:Ends),Inv X pins σ H s->t D σ H->wpAny (model X.prog X.w) X.A (exec st X.env) (SP X pins D) X.xe s
def fB (X:Cx)(st:List Stmt)(t:TS):Prop:=
 ∀(pins:Pnx) (s:Shared) (σ:St) (H:Hp) (D:Ends),Inv X pins σ H s->t D σ H->wpAny (model X.prog X.w) X.A (execs st X.env) (SP X pins D) X.xe s
theorem aU (h:wpAny M A t Q E s)(hQ:∀a s,Q a s->Q' a s):wpAny M A t Q' E s:=S_ h hQ fun _ _ x=>x
section
variable {X:Cx}
def xH (i:Nat):TE:=fun σ H Q=>∃v,σ[i]? =some (some v)/\Q v H
def tC (v:V):TE:=fun _ H Q=>Q v H
theorem Bv (hN:X.N[i]? =some x)(hv:nu X.env.scope x)(hd:(x==("__debug__":Str))=false:=by decide)(hcd:(x==("__classdict__":Str))=false:=by decide):PE X (.Name x pos) (xH i):=by
 intro pins s σ H Q I h;obtain⟨v,e,h⟩:=h;obtain⟨m,hn,hl⟩:=I.loc;obtain⟨u,r,l⟩:=hl i x v hN e hv;have fin:EP X pins σ Q u s:=⟨v,H,I,r,h⟩;rcases l with⟨hk,hm⟩ |⟨hk,c,hc,hcell⟩
 ·exact wpAny_Name (wpAny_loadName_local I.ok.kind hk hn hm fin) hd
 ·rcases hk with hk |hk
  ·exact wpAny_Name (wpAny_loadName_cell I.ok.kind hk hc hcell fin) hd
  ·exact wpAny_Name (wpAny_loadName_free I.ok.kind hk hc hcell fin hcd) hd
theorem JM {i j pos}:PE X (.Constant (.int i) j pos) (tC (.int i)):=fun _ _ _ H _ I h=>wpAny_Constant_int ⟨.int i,H,I.tok _,⟨_,rfl⟩,h⟩
theorem JC {b j pos}:PE X (.Constant (.bool b) j pos) (tC (.bl b)):=fun _ _ _ H _ I h=>Constant_bool ⟨.bl b,H,I,rfl,h⟩
theorem vq {j pos}:PE X (.Constant .none j pos) (tC .non):=fun _ _ _ H _ I h=>Constant_none ⟨.non,H,I,rfl,h⟩
theorem JV {x j pos}:PE X (.Constant (.str x) j pos) (tC (.str x)):=fun _ _ _ H _ I h=>Calls.Constant_str ⟨.str x,H,I.tok _,⟨_,rfl⟩,h⟩
def Gl (X:Cx)(x:Str):Prop:=X.env.kindOf x=some .globalImplicit
theorem z8 (I:Inv X pins σ H s)(hg:Gl X x)(hm:X.mg x=some u)(h:Q u s)
  (hd:(x==("__debug__":Str))=false:=by decide):wpAny (model X.prog X.w) X.A (eval (.Name x pos) X.env) Q E s:=
 V5 I.ok.kind hg (Calls.loadGlobal_global (by rw[I.ok.glob];exact I.mod.glob.keeps I.bk) hm h) hd
theorem qW (I:Inv X pins σ H s)(hg:Gl X x)(hm:X.mg x=none)(hv:bootBuiltins x=some u)(h:Q u s)
  (hn:x≠"__name__":=by decide) (hd:(x==("__debug__":Str))=false:=by decide):wpAny (model X.prog X.w) X.A (eval (.Name x pos) X.env) Q E s:=by
 obtain⟨mb,h1,h2⟩:=I.mod.blt;exact V5 I.ok.kind hg (Calls.loadGlobal_builtin (by rw[I.ok.glob];exact I.mod.glob.keeps I.bk) hm (by rw[I.ok.blt];exact h1.keeps I.bk) ((h2 x hn).trans hv) h) hd
theorem rJ (hg:Gl X x)(hm:X.mg x=some u)(r:RelV v u)(hd:(x==("__debug__":Str))=false:=by decide):PE X (.Name x pos) (tC v):=
 fun _ _ _ H _ I h=>z8 I hg hm ⟨v,H,I,r,h⟩ hd
variable {a b:Expr}{ta tb:TE}{pos:Pos}
variable {tA tB':TT}{rest:List Expr}
noncomputable def wR (t u:TT):TT:=fun σ H Q=>t σ H fun c H1=>if c=true then u σ H1 Q else Q false H1
noncomputable def Qg (t u:TT):TT:=fun σ H Q=>t σ H fun c H1=>if c=true then Q true H1 else u σ H1 Q
def xg (t:TT):TT:=fun σ H Q=>t σ H fun c H1=>Q (!c) H1
theorem KD (ha:PT X a tA):PW X (.BoolOp .And [a] pos) tA:=by
 intro wh pins s σ H Q I h;refine isTrue_and (aU (ha pins s σ H Q I h) fun c s1 e=>?_)
 cases c with
 |true=>exact isTrue_and_nil e
 |false=>exact e
theorem KJ (ha:PT X a tA):PW X (.BoolOp .Or [a] pos) tA:=by
 intro wh pins s σ H Q I h;refine isTrue_or (aU (ha pins s σ H Q I h) fun c s1 e=>?_)
 cases c with
 |false=>exact isTrue_or_nil e
 |true=>exact e
theorem KC (ha:PT X a tA)(hb:PW X (.BoolOp .And (b::rest) pos) tB'):PW X (.BoolOp .And (a::b::rest) pos) (wR tA tB'):=by
 intro wh pins s σ H Q I h;refine isTrue_and (aU (ha pins s σ H _ I h) fun c s1 ⟨H1,I1,q1⟩=>?_)
 cases c with
 |true=>exact hb wh pins s1 σ H1 Q I1 q1
 |false=>exact⟨H1,I1,q1⟩
theorem KH (ha:PT X a tA)(hb:PW X (.BoolOp .Or (b::rest) pos) tB'):PW X (.BoolOp .Or (a::b::rest) pos) (Qg tA tB'):=by
 intro wh pins s σ H Q I h;refine isTrue_or (aU (ha pins s σ H _ I h) fun c s1 ⟨H1,I1,q1⟩=>?_)
 cases c with
 |true=>exact⟨H1,I1,q1⟩
 |false=>exact hb wh pins s1 σ H1 Q I1 q1
theorem Kr (ha:PT X a tA):PT X (.UnaryOp .Not a pos) (xg tA):=by
 intro pins s σ H Q I h;exact isTrue_not (ha pins s σ H (fun c H1=>Q (!c) H1) I h)
noncomputable def PJ (ta tb:TE):TE:=fun σ H Q=>ta σ H fun x H1=>∃c,x=.bl c/\if c=true then tb σ H1 Q else Q (.bl false) H1
theorem JR {op}(h:PE X a t):PE X (.BoolOp op [a] pos) t:=fun pins s σ H Q I hw=>BoolOp_one (h pins s σ H Q I hw)
theorem JB (ha:PE X a ta)(hb:PE X (.BoolOp .And (b::rest) pos) tb):PE X (.BoolOp .And (a::b::rest) pos) (PJ ta tb):=by
 intro pins s σ H Q I h;refine BoolOp_and (aU (ha pins s σ H _ I h) fun v s1 ⟨x,H1,I1,r1,q1⟩=>?_);obtain⟨c,rfl,q1⟩:=q1;cases r1;refine Vi ?_
 cases c with
 |true=>exact hb pins s1 σ H1 Q I1 q1
 |false=>exact⟨.bl false,H1,I1,rfl,q1⟩
noncomputable def Qd (t:TT) (ta tb:TE):TE:=fun σ H Q=>t σ H fun c H1=>if c=true then ta σ H1 Q else tb σ H1 Q
theorem JL (hc:PT X c tA)(ha:PE X a ta)(hb:PE X b tb):PE X (.IfExp c a b pos) (Qd tA ta tb):=by
 intro pins s σ H Q I h;refine wpAny_IfExp (aU (hc pins s σ H _ I h) fun d s1 ⟨H1,I1,q1⟩=>?_)
 cases d with
 |true=>exact ha pins s1 σ H1 Q I1 q1
 |false=>exact hb pins s1 σ H1 Q I1 q1
end
def bK (K:Fgx)(H:Hp)(a:Addr)(xs:List V):Prop:=
 Rd H a (.lst xs)\/
  ∃(o:Obj) (its:Array Value) (n:Nat),K.lookup a=some o/\o.cls=.type "list"/\o.dict=none/\o.data=.seq its n/\its.size<=sizeLine/\Vals xs its.toList
def dJ (K:Fgx)(H:Hp)(a:Addr)(xs:List V):Prop:=
 Rd H a (.tup xs)\/
  ∃(o:Obj) (its:Array Value) (n:Nat),K.lookup a=some o/\o.cls=.type "tuple"/\o.data=.seq its n/\its.size<=sizeLine/\Vals xs its.toList
noncomputable def tQ:Value->Option V
 |.none=>some .non
 |.bool b=>some (.bl b)
 |.int i _=>some (.int i)
 |.str x _=>some (.str x)
 |.bytes b _=>some (.byt b)
 |.float b _=>some (.flt b)
 |.ref a=>some (.ref a)
 |.type n=>some (.ty n)
 |_=>none
theorem RelV.abs (r:RelV x u):tQ u=some x:=by
 cases x with
 |non=>cases r;rfl
 |bl _=>cases r;rfl
 |int _=>obtain⟨t,rfl⟩:=r;rfl
 |str _=>obtain⟨t,rfl⟩:=r;rfl
 |byt _=>obtain⟨t,rfl⟩:=r;rfl
 |flt _=>obtain⟨t,rfl⟩:=r;rfl
 |ref _=>cases r;rfl
 |ty _=>cases r;rfl
theorem RelV.inj (r:RelV x u)(q:RelV y u):x=y:=RM (r.abs.symm.trans q.abs)
theorem Vals.inj:∀{xs ys:List V} {us:List Value},Vals xs us->Vals ys us->xs=ys
 |_,_,_,.nil,.nil=>rfl
 |_,_,_,.cons r t,.cons r' t'=>by rw[r.inj r',Vals.inj t t']
section
variable {X:Cx}{pins:Pnx}{σ:St}{H:Hp}{s:Shared}{a:Addr}{xs ys:List V}
theorem Inv.list (I:Inv X pins σ H s)(h:bK X.K H a xs):∃its:List Value,Vals xs its/\PlainL s.heap a its.toArray/\xs.length<=sizeLine:=by
 rcases h with h |⟨o,its,n,hk,hc,hd,hs,hz,r⟩
 ·obtain⟨z,its,n,r,e⟩:=h.ok I.hok;exact⟨its,r,⟨_,n,e,rfl,rfl,rfl⟩,z⟩
 ·refine⟨its.toList,r,⟨o,n,I.kIn a o hk,hc,hd,by simpa using hs⟩,?_⟩;have e:=r.length;simp only[Rz]at e;omega
theorem Inv.tuple (I:Inv X pins σ H s)(h:dJ X.K H a xs):∃its:List Value,Vals xs its/\IsTup s.heap a its.toArray/\xs.length<=sizeLine:=by
 rcases h with h |⟨o,its,n,hk,hc,hs,hz,r⟩
 ·obtain⟨z,its,r,p⟩:=h.ok I.hok;exact⟨its,r,p,z⟩
 ·refine⟨its.toList,r,⟨o,I.kIn a o hk,hc,n,by simpa using hs⟩,?_⟩;have e:=r.length;simp only[Rz]at e;omega
theorem Inv.list_inj (I:Inv X pins σ H s)(h:bK X.K H a xs)(h':bK X.K H a ys):xs=ys:=by
 obtain⟨its,r,⟨o,n,e,_,_,d⟩,_⟩:=I.list h;obtain⟨its',r',⟨o',n',e',_,_,d'⟩,_⟩:=I.list h';rw[e]at e';cases e';rw[d]at d'
 injection d' with d1 _
 have:its=its':=by simpa using congrArg Array.toList d1
 subst this;exact r.inj r'
theorem Inv.tuple_inj (I:Inv X pins σ H s)(h:dJ X.K H a xs)(h':dJ X.K H a ys):xs=ys:=by
 obtain⟨its,r,⟨o,e,_,n,d⟩,_⟩:=I.tuple h;obtain⟨its',r',⟨o',e',_,n',d'⟩,_⟩:=I.tuple h';rw[e]at e';cases e';rw[d]at d'
 injection d' with d1 _
 have:its=its':=by simpa using congrArg Array.toList d1
 subst this;exact r.inj r'
end
abbrev Cx.wish (X:Cx)(E:Value->Shared->Prop):Cx:={X with xe:=E}
abbrev Cx.nox (X:Cx):Cx:=X.wish fun _ _=>False
theorem Cx.Ok.wish {X:Cx}(ok:X.Ok)(E:Value->Shared->Prop):(X.wish E).Ok:=
 ⟨ok.mod,ok.kind,ok.glob,ok.blt,ok.above,ok.inj,ok.has,ok.cab,ok.hd,ok.frames,ok.stk,ok.exf,ok.bs,ok.bsz,ok.noex,ok.exfs,ok.funs,ok.frf⟩
theorem Cx.Ok.unwish {X:Cx}{E:Value->Shared->Prop}(ok:(X.wish E).Ok):X.Ok:=
 ⟨ok.mod,ok.kind,ok.glob,ok.blt,ok.above,ok.inj,ok.has,ok.cab,ok.hd,ok.frames,ok.stk,ok.exf,ok.bs,ok.bsz,ok.noex,ok.exfs,ok.funs,ok.frf⟩
section
variable {X:Cx}{pins:Pnx}{σ:St}{H:Hp}{s:Shared}{E:Value->Shared->Prop}
theorem Inv.wish (I:Inv X pins σ H s)(E:Value->Shared->Prop):Inv (X.wish E) pins σ H s:=⟨I.ok.wish E,I.os,I.bare,I.base,I.loc,I.cell,I.free,I.freeC,I.pin,I.hok,I.len⟩
theorem Inv.unwish (I:Inv (X.wish E) pins σ H s):Inv X pins σ H s:=⟨I.ok.unwish,I.os,I.bare,I.base,I.loc,I.cell,I.free,I.freeC,I.pin,I.hok,I.len⟩
theorem SP.unwish (h:SP (X.wish E) pins D f s'):SP X pins D f s':=by
 cases f with
 |next=>obtain⟨σ',H',I,q⟩:=h;exact⟨σ',H',I.unwish,q⟩
 |brk=>obtain⟨σ',H',I,q⟩:=h;exact⟨σ',H',I.unwish,q⟩
 |cont=>obtain⟨σ',H',I,q⟩:=h;exact⟨σ',H',I.unwish,q⟩
 |ret u=>obtain⟨v,σ',H',I,r,q⟩:=h;exact⟨v,σ',H',I.unwish,r,q⟩
theorem fB.nox {st:List Stmt}{t:TS}(h:fB X.nox st t):fB X st t:=fun pins s σ H D I hw=>
 S_ (h pins s σ H D (I.wish _) hw) (fun _ _ q=>q.unwish) fun _ _ z=>False.elim z
end
section
variable {X:Cx}{st:Stmt}{rest:List Stmt}{t u:TS}{e:Expr}{te:TE}{pos:Pos}
def Qe:TS:=fun D σ H=>D.nx σ H
def xu (t u:TS):TS:=fun D σ H=>t {D with nx:=u D} σ H
theorem Kq:fB X [] Qe:=fun _ _ σ H _ I h=>wpAny_execs_nil ⟨σ,H,I,h⟩
theorem Kp (h1:PS X st t)(h2:fB X rest u):fB X (st::rest) (xu t u):=by
  intro pins s σ H D I h;refine wpAny_execs_cons (aU (h1 pins s σ H {D with nx:=u D} I h) fun f s1 q=>?_)
  cases f with
  |next=>
    obtain⟨σ',H',I',q⟩:=q;exact h2 pins s1 σ' H' D I' q
  |ret v=>exact q
  |brk=>exact q
  |cont=>exact q
theorem Inv.quiet (I:Inv X pins σ H s):interactive X.env=false:=by simp[interactive,I.ok.kind]
def Qc (te:TE):TS:=fun D σ H=>te σ H fun _ H1=>D.nx σ H1
theorem vC (he:PE X e te)(hs:swapsWith e none pos.line X.env=pure false:=by rfl):PS X (.Expr e pos) (Qc te):=by
 intro pins s σ H D I h;exact wpAny_Expr_any (aU (he pins s σ H _ I h) fun v s1 ⟨x,H1,I1,r1,q1⟩=>⟨σ,H1,I1,q1⟩) I.quiet hs
def xq (te:TE):TS:=fun D σ H=>te σ H D.rt
theorem Ko (he:PE X e te):PS X (.Return (some e) pos) (xq te):=by
 intro pins s σ H D I h;exact wpAny_Return_some (aU (he pins s σ H _ I h) fun v s1 ⟨x,H1,I1,r1,q1⟩=>⟨x,σ,H1,I1,r1,q1⟩)
noncomputable def wZ (c:TT) (t u:TS):TS:=fun D σ H=>c σ H fun b H1=>if b=true then t D σ H1 else u D σ H1
theorem Km (hc:PT X c tc)(ha:fB X a t)(hb:fB X b u):PS X (.If c a b pos) (wZ tc t u):=by
 intro pins s σ H D I h;refine wpAny_If (aU (hc pins s σ H _ I h) fun d s1 ⟨H1,I1,q1⟩=>?_)
 cases d with
 |true=>exact ha pins s1 σ H1 D I1 q1
 |false=>exact hb pins s1 σ H1 D I1 q1
end
abbrev TG:=V->St->Hp->(St->Hp->Prop)->Prop
abbrev nq:=List V->St->Hp->(St->Hp->Prop)->Prop
def PG (X:Cx)(target:Expr)(t:TG):Prop:=
 ∀(pins:Pnx) (s:Shared) (σ:St) (H:Hp) (v:V) (u:Value) (Q:St->Hp->Prop),Inv X pins σ H s->RelV v u->t v σ H Q->
  wpAny (model X.prog X.w) X.A (assign target X.env u) (fun _ s'=>∃σ' H',Inv X pins σ' H' s'/\Q σ' H') X.xe s
def m_ (X:Cx)(ts:List Expr)(t:nq):Prop:=
 ∀(pins:Pnx) (s:Shared) (σ:St) (H:Hp) (vs:List V) (us:List Value) (Q:St->Hp->Prop),Inv X pins σ H s->Vals vs us->t vs σ H Q->
  wpAny (model X.prog X.w) X.A (assignInOrder ((assignEach ts X.env).map (·.2)) us) (fun _ s'=>∃σ' H',Inv X pins σ' H' s'/\Q σ' H') X.xe s
section
variable {X:Cx}{pos:Pos}
def uJ (i:Nat):TG:=fun v σ H Q=>Q (σ.set i (some v)) H
theorem Bw (hN:X.N.Nodup)(hi:X.N[i]? =some x)(hx:Loc X.env.scope x)(hf:X.fn x=true\/X.env.scope.names.lookup x=some .local:=by first |exact .inl rfl |exact .inr rfl |assumption):PG X (.Name x pos) (uJ i):=by
 intro pins s σ H v u Q I r h;exact wpAny_assign_Name (wM I hN hi hx r (fun s' I'=>⟨_,H,I',h⟩) hf)
def uK:nq:=fun vs σ H Q=>vs=[]/\Q σ H
noncomputable def Ge (t:TG) (u:nq):nq:=fun vs σ H Q=>∃v r,vs=v::r/\t v σ H fun σ' H'=>u r σ' H' Q
theorem J6:m_ X [] uK:=by
 intro pins s σ H vs us Q I r h;obtain⟨e,h⟩:=h;subst e;cases r;exact assignInOrder_nil ⟨σ,H,I,h⟩
theorem J0 (h1:PG X e t)(h2:m_ X es u)
    (hs:(assignEach (e::es) X.env).map (·.2)=assign e X.env::(assignEach es X.env).map (·.2):=by rfl):m_ X (e::es) (Ge t u):=by
  intro pins s σ H vs us Q I r h;obtain⟨v,vr,e1,h⟩:=h;subst e1
  cases r with
  |cons r rr=>
    rw[hs];refine assignInOrder_cons (aU (h1 pins s σ H _ _ _ I r h) fun _ s1 ⟨σ1,H1,I1,q1⟩=>?_);exact h2 pins s1 σ1 H1 _ _ Q I1 rr q1
noncomputable def uL (K:Fgx) (n:Nat) (t:nq):TG:=fun v σ H Q=>∃a xs,v=.ref a/\dJ K H a xs/\xs.length=n/\t xs σ H Q
theorem JZ (hc:X.calm=true)(h:m_ X es t)
  (hn:(assignEach es X.env).length=n:=by rfl) (hst:(assignEach es X.env).findIdx? (·.1)=none:=by rfl):PG X (.Tuple es k pos) (uL X.K n t):=by
 intro pins s σ H v u Q I r hw;obtain⟨a,xs,e1,hq,hl,hw⟩:=hw;subst e1;cases r;obtain⟨its,rv,ht,hz⟩:=I.tuple hq;refine assign_Tuple_tuple (I.ok.hd hc) ht (by simp[hn, <-hl,rv.length]) hst fun h' hx=>?_;have I1:Inv X pins σ H {s with heap:=h'}:=I.kept (t':=s.toks) fun b o e=>hx b o (RX (Rv e)) e;exact h pins _ σ H xs _ Q I1 (by simpa using rv) hw
noncomputable def pW (te:TE) (g:TG):TS:=fun D σ H=>te σ H fun x H1=>g x σ H1 D.nx
theorem Kh (he:PE X e te)(hg:PG X tg g)(hs:swapsWithSole [tg] e pos.line X.env=pure false:=by rfl)(hw:swappedStores [tg] e X.env=pure none:=by rfl)
  (h1:(assignEach [tg] X.env).map (·.2)=[assign tg X.env]:=by rfl):PS X (.Assign [tg] e pos) (pW te g):=by
 intro pins s σ H D I h;refine wpAny_Assign_stores (aU (he pins s σ H _ I h) fun v s1 ⟨x,H1,I1,r1,q1⟩=>?_) hs hw;rw[h1];exact aU (hg pins s1 σ H1 x v _ I1 r1 q1) fun _ s2 q=>q
theorem BJ (hN:X.N.Nodup)(hi:X.N[i]? =some x)(hx:Loc X.env.scope x)(he:PE X e te)(hs:swapsWith e (some (.Name x pos')) pos.line X.env=pure false:=by rfl)(hf:X.fn x=true\/X.env.scope.names.lookup x=some .local:=by first |exact .inl rfl |exact .inr rfl |assumption):
  PS X (.Assign [.Name x pos'] e pos) (pW te (uJ i)):=by
 intro pins s σ H D I h;refine wpAny_Assign_Name (aU (he pins s σ H _ I h) fun v s1 ⟨y,H1,I1,r1,q1⟩=>?_) hs;exact wM I1 hN hi hx r1 (fun s2 I2=>⟨_,H1,I2,q1⟩) hf
end
structure It where
 go:Nat->Hp->Prop
 yld:Nat->Hp->V->Hp->Prop
 stop:Nat->Hp->Prop
def cP (X:Cx)(pins:Pnx)(H:Hp)(b:Addr):Prop:=
 H b=none/\b≠X.env.locals/\b∉X.fs/\(b∈X.ex\/X.s₀.heap.objs.size<=b)/\(∀x c,X.env.cells.lookup x=some c->c≠b)/\∀p∈X.pn ++ pins,p.1≠b
theorem Inv.fpOk (I:Inv X pins σ H s)(hb:s.heap.objs.size<=b)(hn:H' b=none):cP X pins H' b:=by
 refine⟨hn,W5 (Ry I.lt hb),I.nofs hb,.inr (RB I.sz hb),fun x c e z=>?_,fun p hp z=>?_⟩
 ·obtain⟨v,q⟩:=I.cell x c e;exact absurd (Ry q.lt (by rw[z];exact hb)) (Um _)
 ·exact absurd (Ry (Rv (I.pin p hp).1) (by rw[z];exact hb)) (Um _)
structure Turn (P:Program)(w:World)(K:Fgx)(tg:Expr)(J:It)(fp:List Addr)(it:Addr)(tn:Nat->Heap->Prop):Prop where
 mem:it∈fp
 obj:∀i h,tn i h->∀b∈fp,∃o,h.get? b=some o/\∀v,o.data≠ .cell v
 keep:∀i h h',tn i h->(∀b∈fp,∀o,h.get? b=some o->h'.get? b=some o)->tn i h'
 item:∀(X:Cx),X.prog=P->X.w=w->X.K=K->X.calm=true->∀(i:Nat) (pins:Pnx) (s:Shared) (σ:St) (H:Hp) (E:Value->Shared->Prop),Inv X pins σ H s->(∀b∈fp,cP X pins H b)->tn i s.heap->J.go i H->
  wpAny (model P w) X.A (pyNext (.ref it)) (fun r s1=>∃u,r=some u/\
   wpAny (model P w) X.A (letOwnedTupleGo tg (.ref it) u) (fun _ s2=>∃x H',Inv X pins σ H' s2/\RelV x u/\J.yld i H x H'/\tn (i + 1) s2.heap/\∀b∈fp,H' b=none) E s1) E s
 done:∀(X:Cx),X.prog=P->X.w=w->X.K=K->X.calm=true->∀(i:Nat) (pins:Pnx) (s:Shared) (σ:St) (H:Hp) (E:Value->Shared->Prop),Inv X pins σ H s->(∀b∈fp,cP X pins H b)->tn i s.heap->J.stop i H->
  wpAny (model P w) X.A (pyNext (.ref it)) (fun r s1=>r=none/\Inv X pins σ H s1) E s
 self:∀(A:Around) (i:Nat) (s:Shared) (Q:Value->Shared->Prop) (E:Value->Shared->Prop),tn i s.heap->Q (.ref it) s->wpAny (model P w) A (pyIter (.ref it)) Q E s
abbrev TI:=St->Hp->(It->Hp->Prop)->Prop
def PIE (X:Cx)(pins:Pnx)(σ:St)(tg:Expr)(R:It->Hp->Prop)(itv:Value)(s2:Shared):Prop:=
 ∃(it:Addr) (fp:List Addr) (tn:Nat->Heap->Prop) (J:It) (H':Hp),itv=.ref it/\Inv X pins σ H' s2/\Turn X.prog X.w X.K tg J fp it tn/\tn 0 s2.heap/\(∀b∈fp,cP X pins H' b)/\R J H'
def PI (X:Cx)(tg iter:Expr)(wi:TI):Prop:=
 ∀(pins:Pnx) (s:Shared) (σ:St) (H:Hp) (R:It->Hp->Prop),Inv X pins σ H s->wi σ H R->
  wpAny (model X.prog X.w) X.A (eval iter X.env) (fun v s1=>wpAny (model X.prog X.w) X.A (pyIter v) (PIE X pins σ tg R) X.xe s1) X.xe s
theorem lV {M:Model}{A:Around}{E:Value->Shared->Prop}{s:Shared}{tg:Expr}{it:Addr}{u:Value}{o:Obj}{n:String}{vs:Array Value}{Q:Unit->Shared->Prop}(ho:s.heap.get? it=some o)(hc:o.cls=.type n)(hd:o.data=.fields vs)
    (hn:["enumerate","zip","dict_itemiterator","dict_reverseitemiterator","odict_iterator","itertools.zip_longest","itertools.pairwise"].contains n=false) (hQ:Q () s):wpAny M A (letOwnedTupleGo tg (.ref it) u) Q E s:=by
  unfold letOwnedTupleGo;cases tg<;>first
    |exact Rw hQ
    | (cases u<;>first
        |exact Rw hQ
        | (refine Rp (wpAny_load ho ?_)
           rw[hc,hd];show wpAny M A (if (["enumerate","zip","dict_itemiterator","dict_reverseitemiterator","odict_iterator","itertools.zip_longest","itertools.pairwise"].contains n && vs[0]? ==some (rawInt _))=true then _ else _) Q E s
           rw[Rn (by intro h;rw[hn,Bool.false_and]at h;cases h)];exact Rw hQ))
noncomputable def yh (K:Fgx) (a:Addr):It:=
 ⟨fun i H=>∃xs x,bK K H a xs/\xs[i]? =some x,fun i H x H'=>H'=H/\∀xs,bK K H a xs->xs[i]? =some x,fun i H=>∃xs,bK K H a xs/\xs.length<=i⟩
noncomputable def qg (lo:Int) (n:Nat):It:=⟨fun i _=>i<n,fun i H x H'=>H'=H/\x=.int (lo + i),fun i _=>n<=i⟩
theorem Qq {P:Program}{w:World}{K:Fgx}{tg:Expr}(a it:Addr):Turn P w K tg (yh K a) [it] it (fun i h=>h.IsListIter it a i) where
 mem:=by simp
 obj:=fun i h st b hb=>by
  have e:b=it:=by simpa using hb
  subst e;obtain⟨o,e,c,d⟩:=st;exact⟨o,e,fun v z=>by rw[d]at z;cases z⟩
 keep:=fun i h h' st k=>st.at fun o e=>k it (by simp) o e
 item:=by
  intro X hP hw hK hc i pins s σ H E I hf st hg;subst hP hw hK;obtain⟨xs,x,hq,hx⟩:=hg;obtain⟨its,rv,p,hz⟩:=I.list hq;obtain⟨u,hu,ru⟩:=rv.get hx;obtain⟨f0,f1,f2,f3,f4,f5⟩:=hf it (by simp);refine wpAny_pyNext_list_item st p.isList (x:=u) (by simpa using hu) fun h' st' sb=>?_;have I1:Inv X pins σ H {s with heap:=h'}:=I.turned (t':=s.toks) (fun b o hb e=>(sb.2 b hb).trans e) f0 f1 f3 f4 f5;obtain⟨o,e,c,d⟩:=id st';exact⟨u,rfl,lV (s:={s with heap:=h'}) e c d (by decide) ⟨x,H,I1,ru,⟨rfl,fun ys hy=>by rw[I.list_inj hy hq];exact hx⟩,st',fun b hb=>(hf b hb).1⟩⟩
 done:=by
  intro X hP hw hK hc i pins s σ H E I hf st hg;subst hP hw hK;obtain⟨xs,hq,hx⟩:=hg;obtain⟨its,rv,p,hz⟩:=I.list hq;obtain⟨f0,f1,f2,f3,f4,f5⟩:=hf it (by simp);have hl:=rv.length;exact wpAny_pyNext_list_end (I.ok.hd hc) st p.isList (by simp;omega) fun h' eb=>⟨rfl,I.turned (t':=s.toks) (fun b o hb e=>eb b o hb e) f0 f1 f3 f4 f5⟩
 self:=fun _ _ _ _ _ st h=>wpAny_pyIter_listiter st h
theorem Qs {P:Program}{w:World}{K:Fgx}{tg:Expr}(it:Addr)(lo:Int)(n:Nat):Turn P w K tg (qg lo n) [it] it (fun i h=>IsRangeIter h it (lo + (i:Nat) * 1) ((n:Int) - (i:Nat)) 1) where
 mem:=by simp
 obj:=fun i h st b hb=>by
  have e:b=it:=by simpa using hb
  subst e;exact ⟨_,st,fun v z=>by
   have z':Data.fields _=Data.cell v:=z;cases z'⟩
 keep:=fun i h h' st k=>k it (by simp) _ st
 item:=by
  intro X hP hw hK hc i pins s σ H E I hf st hg;subst hP hw hK;obtain⟨f0,f1,f2,f3,f4,f5⟩:=hf it (by simp);have W:=Walks.range (prog:=X.prog) (w:=X.w) (I.ok.hd hc) it lo 1 n;refine W.item i s _ _ hg st fun v h' tk hv st' kk=>?_;obtain⟨t,rfl⟩:=hv;have I1:Inv X pins σ H {s with heap:=h',toks:=tk}:=I.turned (fun b o hb e=>kk b o (by simpa using hb) e) f0 f1 f3 f4 f5;refine⟨_,rfl,lV (s:={s with heap:=h',toks:=tk}) (n:="range_iterator") st' rfl rfl (by decide) ⟨.int (lo + i),H,I1,⟨t,?_⟩,⟨rfl,rfl⟩,st',fun b hb=>(hf b hb).1⟩⟩;rw[Int.mul_one]
 done:=by
  intro X hP hw hK hc i pins s σ H E I hf st hg;subst hP hw hK;obtain⟨f0,f1,f2,f3,f4,f5⟩:=hf it (by simp);exact wpAny_pyNext_range_end (I.ok.hd hc) st (by have:n<=i:=hg;omega) fun h' eb=>⟨rfl,I.turned (t':=s.toks) (fun b o hb e=>eb b o hb e) f0 f1 f3 f4 f5⟩
 self:=fun _ _ _ _ _ st h=>wpAny_pyIter_rangeiter st h
section
variable {X:Cx}{tg:Expr}
noncomputable def Gq (K:Fgx) (tl:TE):TI:=fun σ H R=>tl σ H fun x H1=>∃a,x=.ref a/\(∃xs,bK K H1 a xs)/\R (yh K a) H1
theorem J7 {l:Expr}{tl:TE}(hl:PE X l tl):PI X tg l (Gq X.K tl):=by
 intro pins s σ H R I h;refine aU (hl pins s σ H _ I h) fun v s1 ⟨x,H1,I1,r1,q1⟩=>?_;obtain⟨a,e,⟨xs,hq⟩,q⟩:=q1;subst e;cases r1;obtain⟨its,rv,p,hz⟩:=I1.list hq;refine wpAny_pyIter_list p.isList ?_;refine⟨s1.heap.objs.size,[s1.heap.objs.size],_,_,H1,rfl,I1.kept (t':=s1.toks) fun b o e=>Rt _ e,Qq a _,⟨_,Sq _ rfl,rfl,rfl⟩,fun b hb=>?_,q⟩;have e:b=s1.heap.objs.size:=by simpa using hb
 subst e;exact I1.fpOk (Ro _) (I1.hok.fresh (Ro _))
theorem Og {pins:Pnx}{σ:St}{H:Hp}{s:Shared}{R:It->Hp->Prop}{E:Value->Shared->Prop}{lo hi:Int}{t u v:Tok}{tk:Nat}(I:Inv X pins σ H s)(h1: -(2 ^ 62)<=lo)(h2:lo<2 ^ 62)(h3: -(2 ^ 62)<=hi)(h4:hi<2 ^ 62)
  (q:R (qg lo (hi - lo).toNat) H):wpAny (model X.prog X.w) X.A (pyIter (.ref s.heap.objs.size)) (PIE X pins σ tg R) E {s with heap:=s.heap.push {cls:=.type "range",data:=.fields #[.int lo t,.int hi u,.int 1 v]},toks:=tk}:=by
 refine wpAny_pyIter_range (IsRange.new ..) (small_one h1 h2 h3 h4) ?_;have I1 : Inv X pins σ H { s with heap := s.heap.push { cls := .type "range", data := .fields #[.int lo t, .int hi u, .int 1 v] }, toks := tk } := I.kept fun b o e => Rt _ e;refine ⟨(s.heap.push {cls:=.type "range",data:=.fields #[.int lo t,.int hi u,.int 1 v]}).objs.size,[(s.heap.push {cls:=.type "range",data:=.fields #[.int lo t,.int hi u,.int 1 v]}).objs.size],_,_,H,rfl,
  I1.kept (t':=tk) fun b o e=>Rt _ e,Qs _ lo (hi - lo).toNat,?_,fun b hb=>?_,q⟩
 ·have e1:lo + ((0:Nat):Int) * 1=lo:=by simp
  have e2:(((hi - lo).toNat:Nat):Int) - ((0:Nat):Int)=Builtin.Range.rangeSize lo hi 1:=by rw[rangeSize_one];split<;>omega
  show IsRangeIter _ _ (lo + ((0:Nat):Int) * 1) ((((hi - lo).toNat:Nat):Int) - ((0:Nat):Int)) 1;rw[e1,e2];exact Sq _ rfl
 ·have e:b=(s.heap.push {cls:=.type "range",data:=.fields #[.int lo t,.int hi u,.int 1 v]}).objs.size:=by simpa using hb
  subst e;exact I1.fpOk (Ro _) (I1.hok.fresh (Ro _))
noncomputable def jC (ta:TA):TI:=fun σ H R=>ta σ H fun vs H1=>∃j:Int,vs=[.int j]/\ -(2 ^ 62)<=j/\j<2 ^ 62/\R (qg 0 j.toNat) H1
theorem J8 {a:Expr}{ta:TA}{p pos:Pos}(hg:Gl X "range")(hm:X.mg "range"=none)(ha:PA X [a] ta)(hs:starEach [a] X.env=[(false,eval a X.env)]:=by rfl):PI X tg (.Call (.Name "range" p) [a] [] pos) (jC ta):=by
  intro pins s σ H R I h;refine Call_ (qW I hg hm boot_range (UW (aU (ha pos pins s σ H _ I h) fun us s1 ⟨vs,H1,I1,r1,q1⟩=>?_) hs rfl));obtain⟨j,e,q1,q2,q⟩:=q1;subst e
  cases r1 with
  |cons r rr=>
    cases rr;obtain⟨t,rfl⟩:=r;exact call_range_1 (Og I1 (by omega) (by omega) q1 q2 (by simpa using q))
noncomputable def wY (wi:TI) (g:TG) (tb:TS):TS:=fun D σ H=>wi σ H fun J H1=>∃W:Nat->Nat->St->Hp->Prop,(∃m,W 0 m σ H1)/\∀i m σ H,W i m σ H->
 (J.stop i H/\D.nx σ H)\/(J.go i H/\∃N:St->Hp->Prop,(∀σ' H',N σ' H'->∃m',m'<m/\W (i + 1) m' σ' H')/\∀x H',J.yld i H x H'->g x σ H' fun σ2 H2=>tb {D with nx:=N,ct:=N,bk:=D.nx} σ2 H2)
noncomputable def pD (fp:List Addr) (h:Heap):Pnx:=fp.filterMap fun b=>(h.get? b).map fun o=>(b,o)
theorem rA (hb:b∈fp)(e:h.get? b=some o):(b,o)∈pD fp h:=W6.mpr ⟨b,hb,by rw[e];rfl⟩
theorem Iz (hp:p∈pD fp h):p.1∈fp/\h.get? p.1=some p.2:=by
  obtain⟨b,hb,e⟩:=W6.mp hp
  cases q:h.get? b with
  |none=>rw[q]at e;cases e
  |some o=>
    rw[q]at e;have e':(b,o)=p:=RM e;subst e';exact⟨hb,q⟩
theorem Inv.pinned (I:Inv X pins σ H s)(hf:∀b∈fp,cP X pins H b)(ho:∀b∈fp,∃o,s.heap.get? b=some o/\∀v,o.data≠ .cell v):Inv X (pins ++ pD fp s.heap) σ H s:=
 I.pins_of fun p hp=>(T4.mp hp).elim (fun z=>I.pin p (RV _ z)) fun z=>by
  obtain⟨hb,e⟩:=Iz z;obtain⟨f0,f1,f2,_⟩:=hf p.1 hb;obtain⟨o,e',d⟩:=ho p.1 hb;rw[e]at e';cases e';exact⟨e,f0,f1,f2,d⟩
theorem Inv.unpinned (I:Inv X (pins ++ pl) σ H s):Inv X pins σ H s:=I.pins_of fun p hp=>I.pin p (RV _ (U0 _ hp))
theorem Kl (hp:PassesOwn (model X.prog X.w) X.A X.env X.xe)(hc:X.calm=true)(hi:PI X tg iter wi)(hg:PG X tg g)(hb:fB X body tb)
  (hs:∀x,foldedSetIterable iter X.env x=pure x:=by intro _;rfl):PS X (.For tg iter body [] pos) (wY wi g tb):=by
 intro pins s σ H D I h;refine wpAny_For (aU (hi pins s σ H _ I h) fun v s1 h1=>aU h1 fun itv s2 h2=>?_) hs;obtain⟨it,fp,tn,J,H2,e,I2,T,st2,f2,W,⟨m0,w0⟩,turn⟩:=h2;subst e
 -- what stays true of the iterator's objects through the loop
 have stat:∀{H':Hp},(∀b∈fp,H' b=none)->∀b∈fp,cP X pins H' b:=fun hn b hb=>⟨hn b hb,(f2 b hb).2⟩;refine codeAny_forLoop_any (fun n s'=>∃i σ' H',Inv X pins σ' H' s'/\tn i s'.heap/\(∀b∈fp,H' b=none)/\W i n σ' H') ?_ m0 ⟨0,σ,H2,I2,st2,fun b hb=>(f2 b hb).1,w0⟩;rintro n s3 ⟨i,σ3,H3,I3,st3,fr3,w3⟩;rcases turn i n σ3 H3 w3 with⟨stop,qn⟩ |⟨go,N,hN,step⟩
 ·refine U9 hp (aU (T.done X rfl rfl rfl hc i pins s3 σ3 H3 X.xe I3 (stat fr3) st3 stop) fun r s4 ⟨hr,I4⟩=>?_);subst hr;exact wpAny_execs_nil ⟨σ3,H3,I4,qn⟩
 ·refine U9 hp (aU (T.item X rfl rfl rfl hc i pins s3 σ3 H3 X.xe I3 (stat fr3) st3 go) fun r s4 ⟨u,hr,h4⟩=>?_);subst hr;refine U9 hp (aU h4 fun _ s5 ⟨x,H5,I5,r5,y5,st5,fr5⟩=>?_);have I5':=I5.pinned (stat fr5) (T.obj _ _ st5);refine U9 hp (aU (hg _ s5 σ3 H5 x u _ I5' r5 (step x H5 y5)) fun _ s6 ⟨σ6,H6,I6,q6⟩=>?_);refine U9 hp (aU (hb _ s6 σ6 H6 _ I6 q6) fun f s7 q7=>?_);have again:∀{σ7:St} {H7:Hp},Inv X (pins ++ pD fp s5.heap) σ7 H7 s7->N σ7 H7->∃m,m<n/\∃i σ' H',Inv X pins σ' H' s7/\tn i s7.heap/\(∀b∈fp,H' b=none)/\W i m σ' H':=fun {σ7 H7} I7 n7=>by
   obtain⟨m',hm,w7⟩:=hN σ7 H7 n7;refine⟨m',hm,i + 1,σ7,H7,I7.unpinned,T.keep _ _ _ st5 fun b hb o e=>(I7.pin (b,o) (RV _ (RV _ (rA hb e)))).1,fun b hb=>?_,w7⟩;obtain⟨o,e,d⟩:=T.obj _ _ st5 b hb;exact(I7.pin (b,o) (RV _ (RV _ (rA hb e)))).2.1
  cases f with
  |next=>obtain⟨σ7,H7,I7,n7⟩:=q7;exact again I7 n7
  |cont=>obtain⟨σ7,H7,I7,n7⟩:=q7;exact again I7 n7
  |brk=>obtain⟨σ7,H7,I7,q7⟩:=q7;exact⟨σ7,H7,I7.unpinned,q7⟩
  |ret v=>obtain⟨x7,σ7,H7,I7,r7,q7⟩:=q7;exact⟨x7,σ7,H7,I7.unpinned,r7,q7⟩
end
abbrev R2:=V->V->Hp->VK->Prop
def bw (X:Cx)(f:Value->Value->Sem Value)(r:R2):Prop:=
 ∀(pins:Pnx) (s:Shared) (σ:St) (H:Hp) (x y:V) (v u:Value) (Q:VK),Inv X pins σ H s->RelV x v->RelV y u->r x y H Q->
  wpAny (model X.prog X.w) X.A (f v u) (EP X pins σ Q) X.xe s
def eN (X:Cx)(f:Value)(r:List V->Hp->VK->Prop):Prop:=
 ∀(pins:Pnx) (s:Shared) (σ:St) (H:Hp) (xs:List V) (us:List Value) (Q:VK),Inv X pins σ H s->Vals xs us->r xs H Q->
  wpAny (model X.prog X.w) X.A (call f us) (EP X pins σ Q) X.xe s
def tM (X:Cx)(r:V->Hp->(Bool->Hp->Prop)->Prop):Prop:=
 ∀(pins:Pnx) (s:Shared) (σ:St) (H:Hp) (x:V) (v:Value) (Q:Bool->Hp->Prop),Inv X pins σ H s->RelV x v->r x H Q->
  wpAny (model X.prog X.w) X.A (truthy v) (TP X pins σ Q) X.xe s
noncomputable def mZ (r:R2) (ta tb:TE):TE:=fun σ H Q=>ta σ H fun x H1=>tb σ H1 fun y H2=>r x y H2 Q
noncomputable def rI (C:Int->Int->Prop) (g:Int->Int->V):R2:=fun x y H Q=>∃i j,x=.int i/\y=.int j/\C i j/\Q (g i j) H
noncomputable def fH (g:Int->Int->V):R2:=fun x y H Q=>∃i j,x=.int i/\y=.int j/\Q (g i j) H
section
variable {X:Cx}{a b c:Expr}{ta tb tc:TE}{pos:Pos}
theorem jV (ha:PE X a ta)(hb:PE X b tb){pins:Pnx}{s:Shared}{σ:St}{H:Hp}{R:V->V->Hp->Prop}(I:Inv X pins σ H s)
  (h:ta σ H fun x H1=>tb σ H1 fun y H2=>R x y H2) {Q:Value->Shared->Prop} {f:Value->Value->Sem Value}
  (hf:∀v u s2 x y H2,Inv X pins σ H2 s2->RelV x v->RelV y u->R x y H2->wpAny (model X.prog X.w) X.A (f v u) Q X.xe s2):
  wpAny (model X.prog X.w) X.A (eval a X.env) (fun v s₁=>wpAny (model X.prog X.w) X.A (eval b X.env) (fun u s₂=>wpAny (model X.prog X.w) X.A (f v u) Q X.xe s₂) X.xe s₁) X.xe s:=by
 refine aU (ha pins s σ H _ I h) fun v s1 ⟨x,H1,I1,r1,q1⟩=>?_;refine aU (hb pins s1 σ H1 _ I1 q1) fun u s2 ⟨y,H2,I2,r2,q2⟩=>?_;exact hf v u s2 x y H2 I2 r1 r2 q2
theorem JT {op:Operator}{r:R2}(ho:bw X (binaryOp op) r)(ha:PE X a ta)(hb:PE X b tb):PE X (.BinOp a op b pos) (mZ r ta tb):=by
 intro pins s σ H Q I h;exact wpAny_BinOp (jV ha hb I h fun v u s2 x y H2 I2 rx ry q=>ho pins s2 σ H2 x y v u Q I2 rx ry q)
theorem o9 {f:Value->Value->Sem Value}{C:Int->Int->Prop}{g:Int->Int->Int}
  (rule:∀(i j:Int) (t u:Tok) (s:Shared) (Q:Value->Shared->Prop) (E:Value->Shared->Prop),C i j->Q (.int (g i j) s.toks) {s with toks:=s.toks + 1}->wpAny (model X.prog X.w) X.A (f (.int i t) (.int j u)) Q E s):
  bw X f (rI C fun i j=>.int (g i j)):=by
 intro pins s σ H x y v u Q I rx ry h;obtain⟨i,j,rfl,rfl,hc,q⟩:=h;obtain⟨t,rfl⟩:=rx;obtain⟨t',rfl⟩:=ry;exact rule i j t t' s _ _ hc ⟨.int (g i j),H,I.tok _,⟨_,rfl⟩,q⟩
theorem o_ {f:Value->Value->Sem Value}{g:Int->Int->Int}
  (rule:∀(i j:Int) (t u:Tok) (s:Shared) (Q:Value->Shared->Prop) (E:Value->Shared->Prop),Q (.int (g i j) s.toks) {s with toks:=s.toks + 1}->wpAny (model X.prog X.w) X.A (f (.int i t) (.int j u)) Q E s):
  bw X f (fH fun i j=>.int (g i j)):=by
 intro pins s σ H x y v u Q I rx ry h;obtain⟨i,j,rfl,rfl,q⟩:=h;obtain⟨t,rfl⟩:=rx;obtain⟨t',rfl⟩:=ry;exact rule i j t t' s _ _ ⟨.int (g i j),H,I.tok _,⟨_,rfl⟩,q⟩
theorem jg {f:Value->Value->Sem Value}{g:Int->Int->Bool}
  (rule:∀(i j:Int) (t u:Tok) (s:Shared) (Q:Value->Shared->Prop) (E:Value->Shared->Prop),Q (.bool (g i j)) s->wpAny (model X.prog X.w) X.A (f (.int i t) (.int j u)) Q E s):
  bw X f (fH fun i j=>.bl (g i j)):=by
 intro pins s σ H x y v u Q I rx ry h;obtain⟨i,j,rfl,rfl,q⟩:=h;obtain⟨t,rfl⟩:=rx;obtain⟨t',rfl⟩:=ry;exact rule i j t t' s _ _ ⟨.bl (g i j),H,I,rfl,q⟩
def m7 (i j:Int):Prop:=0<j/\j<1073741824
def jP (i j:Int):Prop:=0<=j/\j<=1000000/\i.natAbs<2 ^ 64
def iG (i j:Int):Prop:=(-(2 ^ 64)<i/\i<2 ^ 64)\/(-(2 ^ 64)<j/\j<2 ^ 64)
theorem iG.ok (h:iG i j):IntMulOk i j:=by
 rcases h with⟨h1,h2⟩ |⟨h1,h2⟩
 ·exact .of_left (intBits_le_64 h1 h2)
 ·exact .of_right (intBits_le_64 h1 h2)
theorem Jd:bw X (binaryOp .Add) (fH fun i j=>.int (i + j)):=o_ fun _ _ _ _ _ _ _ q=>add_int q
theorem Bq:bw X (binaryOp .Sub) (fH fun i j=>.int (i - j)):=o_ fun _ _ _ _ _ _ _ q=>sub_int q
theorem fQ:bw X (binaryOp .FloorDiv) (rI m7 fun i j=>.int (i / j)):=o9 fun i j _ _ _ _ _ hc q=>by
 have h1:(0:Int)<j:=hc.1;have h2:j<1073741824:=hc.2;exact floordiv_int (by omega) (by rw[V6 i (by omega)];exact q) (.inl (Wy (by omega)))
theorem dU:bw X (binaryOp .Mod) (rI (fun _ j=>0<j) fun i j=>.int (i % j)):=o9 fun i j _ _ _ _ _ hc q=>by
 have h1:(0:Int)<j:=hc;exact mod_int' (by omega) (by rw[Int.fmod_eq_emod_of_nonneg i (by omega)];exact q)
theorem Jy:bw X (binaryOp .Pow) (rI jP fun i j=>.int (i ^ j.toNat)):=o9 fun _ _ _ _ _ _ _ hc q=>pow_int_small hc.1 hc.2.1 hc.2.2 q
end
noncomputable def jm:V->V->Bool
 |.non,.non=>true |.non,.int _=>true |.int _,.non=>true |.non,.bl _=>true |.bl _,.non=>true |.non,.str _=>true |.str _,.non=>true
 |.int _,.int _=>true |.bl _,.bl _=>true |.str _,.str _=>true |.byt _,.byt _=>true
 |.int _,.str _=>true |.str _,.int _=>true |.bl _,.str _=>true |.str _,.bl _=>true
 |_,_=>false
def Mf:R2:=fun x y H Q=>jm x y=true/\Q (.bl (decide (x=y))) H
def Mi:R2:=fun x y H Q=>jm x y=true/\Q (.bl (!decide (x=y))) H
theorem zc:decide (V.int i=V.int j)=(i==j):=by
 rw[Tg]
 simp
theorem qI:decide (V.bl i=V.bl j)=(i==j):=by
 rw[Tg]
 simp
theorem zf:decide (V.str i=V.str j)=(i==j):=by
 rw[Tg]
 simp
theorem za:decide (V.byt i=V.byt j)=(i.toList==j.toList):=by
 rw[Tg];cases i;cases j
 simp
section
variable {X:Cx}{a b c:Expr}{ta tb tc:TE}{pos:Pos}
theorem aW (I:Inv X pins σ H s)(q:Q (.bl k) H)(e:k=k'):EP X pins σ Q (.bool k') s:=by
 subst e;exact⟨.bl k,H,I,rfl,q⟩
theorem Jg:bw X (compareOp .Eq) Mf:=by
  intro pins s σ H x y v u Q I rx ry h;obtain⟨hs,q⟩:=h
  cases x with
  |non=>
    cases rx
    cases y with
    |non=>cases ry;exact PySem.EqNone.eq_none_none (aW I q (by simp))
    |bl j=>cases ry;exact PySem.EqNone.eq_none_bool (aW I q (by simp))
    |int j=>obtain⟨t',rfl⟩:=ry;exact PySem.EqNone.eq_none_int (aW I q (by simp))
    |str j=>obtain⟨t',rfl⟩:=ry;exact PySem.EqNone.eq_none_str (aW I q (by simp))
    |_=>exact absurd (show false=true from hs) RK
  |bl i=>
    cases rx
    cases y with
    |non=>cases ry;exact PySem.EqNone.eq_bool_none (aW I q (by simp))
    |bl j=>cases ry;exact eq_bool (aW I q qI)
    |str j=>obtain⟨t',rfl⟩:=ry;exact PySem.EqMixed.eq_bool_str (aW I q (by simp))
    |_=>exact absurd (show false=true from hs) RK
  |int i=>
    obtain⟨t,rfl⟩:=rx
    cases y with
    |non=>cases ry;exact PySem.EqNone.eq_int_none (aW I q (by simp))
    |int j=>obtain⟨t',rfl⟩:=ry;exact eq_int (aW I q zc)
    |str j=>obtain⟨t',rfl⟩:=ry;exact PySem.EqMixed.eq_int_str (aW I q (by simp))
    |_=>exact absurd (show false=true from hs) RK
  |str i=>
    obtain⟨t,rfl⟩:=rx
    cases y with
    |non=>cases ry;exact PySem.EqNone.eq_str_none (aW I q (by simp))
    |bl j=>cases ry;exact PySem.EqMixed.eq_str_bool (aW I q (by simp))
    |int j=>obtain⟨t',rfl⟩:=ry;exact PySem.EqMixed.eq_str_int (aW I q (by simp))
    |str j=>obtain⟨t',rfl⟩:=ry;exact eq_str (aW I q zf)
    |_=>exact absurd (show false=true from hs) RK
  |byt i=>
    obtain⟨t,rfl⟩:=rx
    cases y with
    |byt j=>obtain⟨t',rfl⟩:=ry;exact PySem.W.eq_bytes (aW I q za)
    |_=>exact absurd (show false=true from hs) RK
  |_=>cases y<;>exact absurd (show false=true from hs) RK
theorem Jt:bw X (compareOp .NotEq) Mi:=by
  intro pins s σ H x y v u Q I rx ry h;obtain⟨hs,q⟩:=h
  cases x with
  |non=>
    cases rx
    cases y with
    |non=>cases ry;exact PySem.EqNone.ne_none_none (aW I q (by simp))
    |bl j=>cases ry;exact PySem.EqNone.ne_none_bool (aW I q (by simp))
    |int j=>obtain⟨t',rfl⟩:=ry;exact PySem.EqNone.ne_none_int (aW I q (by simp))
    |str j=>obtain⟨t',rfl⟩:=ry;exact PySem.EqNone.ne_none_str (aW I q (by simp))
    |_=>exact absurd (show false=true from hs) RK
  |bl i=>
    cases rx
    cases y with
    |non=>cases ry;exact PySem.EqNone.ne_bool_none (aW I q (by simp))
    |bl j=>cases ry;exact ne_bool (aW I q (congrArg not qI))
    |str j=>obtain⟨t',rfl⟩:=ry;exact PySem.EqMixed.ne_bool_str (aW I q (by simp))
    |_=>exact absurd (show false=true from hs) RK
  |int i=>
    obtain⟨t,rfl⟩:=rx
    cases y with
    |non=>cases ry;exact PySem.EqNone.ne_int_none (aW I q (by simp))
    |int j=>obtain⟨t',rfl⟩:=ry;exact ne_int (aW I q (congrArg not zc))
    |str j=>obtain⟨t',rfl⟩:=ry;exact PySem.EqMixed.ne_int_str (aW I q (by simp))
    |_=>exact absurd (show false=true from hs) RK
  |str i=>
    obtain⟨t,rfl⟩:=rx
    cases y with
    |non=>cases ry;exact PySem.EqNone.ne_str_none (aW I q (by simp))
    |bl j=>cases ry;exact PySem.EqMixed.ne_str_bool (aW I q (by simp))
    |int j=>obtain⟨t',rfl⟩:=ry;exact PySem.EqMixed.ne_str_int (aW I q (by simp))
    |str j=>obtain⟨t',rfl⟩:=ry;exact ne_str (aW I q (congrArg not zf))
    |_=>exact absurd (show false=true from hs) RK
  |byt i=>
    obtain⟨t,rfl⟩:=rx
    cases y with
    |byt j=>obtain⟨t',rfl⟩:=ry;exact PySem.W.ne_bytes (aW I q (congrArg not za))
    |_=>exact absurd (show false=true from hs) RK
  |_=>cases y<;>exact absurd (show false=true from hs) RK
theorem Js:bw X (compareOp .Lt) (fH fun i j=>.bl (decide (i<j))):=jg fun _ _ _ _ _ _ _ q=>lt_int q
theorem Jr:bw X (compareOp .LtE) (fH fun i j=>.bl (decide (i<=j))):=jg fun _ _ _ _ _ _ _ q=>le_int q
theorem Jk:bw X (compareOp .Gt) (fH fun i j=>.bl (decide (j<i))):=jg fun _ _ _ _ _ _ _ q=>gt_int q
theorem Jj:bw X (compareOp .GtE) (fH fun i j=>.bl (decide (j<=i))):=jg fun _ _ _ _ _ _ _ q=>ge_int q
theorem Jm:bw X (compareOp .In) (fun x y H Q=>∃i j,x=.str i/\y=.str j/\Q (.bl (!(Builtin.Str.occurrences j i 0 j.length 1).isEmpty)) H):=by
 intro pins s σ H x y v u Q I rx ry h;obtain⟨i,j,rfl,rfl,q⟩:=h;obtain⟨t,rfl⟩:=rx;obtain⟨t',rfl⟩:=ry;exact in_str (aW I q rfl)
theorem Jp:bw X (compareOp .Is) (fun x y H Q=>y=.non/\Q (.bl (decide (x=.non))) H):=by
 intro pins s σ H x y v u Q I rx ry h;obtain⟨rfl,q⟩:=h;cases ry;refine is_none_gen (aW I q ?_);cases x<;>first
  |(cases rx;rfl)
  |(obtain⟨t,rfl⟩:=rx;rfl)
theorem Jw:bw X (compareOp .IsNot) (fun x y H Q=>y=.non/\Q (.bl (!decide (x=.non))) H):=by
 intro pins s σ H x y v u Q I rx ry h;obtain⟨rfl,q⟩:=h;cases ry;refine isnot_none_gen (aW I q ?_);cases x<;>first
  |(cases rx;rfl)
  |(obtain⟨t,rfl⟩:=rx;rfl)
theorem Jx:bw X (compareOp .NotIn) (fun x y H Q=>∃i j,x=.str i/\y=.str j/\Q (.bl (!(!(Builtin.Str.occurrences j i 0 j.length 1).isEmpty))) H):=by
 intro pins s σ H x y v u Q I rx ry h;obtain⟨i,j,rfl,rfl,q⟩:=h;obtain⟨t,rfl⟩:=rx;obtain⟨t',rfl⟩:=ry;exact notIn_str (aW I q rfl)
theorem bw.or (h:bw X f r)(h':bw X f r'):bw X f (fun x y H Q=>r x y H Q\/r' x y H Q):=by
 intro pins s σ H x y v u Q I rx ry q;rcases q with q |q
 ·exact h pins s σ H x y v u Q I rx ry q
 ·exact h' pins s σ H x y v u Q I rx ry q
theorem JH {op:CmpOp}{r:R2}(ho:bw X (compareOp op) r)(ha:PE X a ta)(hb:PE X b tb)(hm:behindInMarks op b=false):PE X (.Compare a [op] [b] pos) (mZ r ta tb):=by
 intro pins s σ H Q I h;exact wpAny_Compare1 (jV ha hb I h fun v u s2 x y H2 I2 rx ry q=>ho pins s2 σ H2 x y v u Q I2 rx ry q) hm
noncomputable def Di (t:TE):TT:=fun σ H Q=>t σ H fun x H'=>∃k,x=.bl k/\Q k H'
theorem BK (ho:bw X (compareOp op) r)(ha:PE X a ta)(hb:PE X b tb)(hm:behindInMarks op b=false):PT X (.Compare a [op] [b] pos) (Di (mZ r ta tb)):=by
 intro pins s σ H Q I h;refine wpAny_isTrue_Compare1 (aU (ha pins s σ H _ I h) fun v s1 ⟨x,H1,I1,r1,q1⟩=>aU (hb pins s1 σ H1 _ I1 q1) fun u s2 ⟨y,H2,I2,r2,q2⟩=>
  aU (ho pins s2 σ H2 x y v u _ I2 r1 r2 q2) fun c s3 ⟨z,H3,I3,r3,k,e,q3⟩=>?_) hm
 subst e;cases r3;exact Vi ⟨H3,I3,q3⟩
def jU (K:Fgx)(x:V)(H:Hp)(k:Bool):Prop:=
 match x with
 |.non=>k=false
 |.bl b=>k=b
 |.int i=>k=(i !=0)
 |.str y=>y.length<=sizeLine/\k=((y.length:Int) !=0)
 |.byt y=>y.size<=sizeLine/\k=((y.size:Int) !=0)
 |.ref p=>(∃xs,bK K H p xs/\k= !xs.isEmpty)\/(∃xs,dJ K H p xs/\k= !xs.isEmpty)\/∃kvs,H p=some (.dK kvs)/\k= !kvs.isEmpty
 |_=>False
theorem Gw (r:KV kvs vs):(!vs.isEmpty)= !kvs.isEmpty:=by
 cases r<;>rfl
theorem zV (r:Vals xs its):(!its.toArray.isEmpty)= !xs.isEmpty:=by
 cases r<;>simp
theorem mj:(sizeLine:Nat)<2 ^ 63:=by rw[Uy];decide
theorem Qp:tM X (fun x H Q=>∃k,jU X.K x H k/\Q k H):=by
  intro pins s σ H x v Q I rx h;obtain⟨k,e,q⟩:=h;have hl:=mj;have hs:sizeLine=16777216:=Uy
  cases x with
  |non=>
    cases rx;have e':k=false:=e;subst e';exact truthy_none ⟨H,I,q⟩
  |bl b=>
    cases rx;have e':k=b:=e;subst e';exact Vi ⟨H,I,q⟩
  |int i=>
    obtain⟨t,rfl⟩:=rx;have e':k=(i !=0):=e;subst e';exact PySem.P.truthy_int ⟨H,I,q⟩
  |str y=>
    obtain⟨t,rfl⟩:=rx;obtain⟨hy,e'⟩:y.length<=sizeLine/\k=((y.length:Int) !=0):=e;subst e';exact PySem.P.truthy_str (by omega) ⟨H,I.tok _,q⟩
  |byt y=>
    obtain⟨t,rfl⟩:=rx;obtain⟨hy,e'⟩:y.size<=sizeLine/\k=((y.size:Int) !=0):=e;subst e';exact PySem.W.truthy_bytes (by omega) ⟨H,I.tok _,q⟩
  |ref p=>
    cases rx;have e':(∃xs,bK X.K H p xs/\k= !xs.isEmpty)\/(∃xs,dJ X.K H p xs/\k= !xs.isEmpty)\/∃kvs,H p=some (.dK kvs)/\k= !kvs.isEmpty:=e;rcases e' with⟨xs,hx,e'⟩ |⟨xs,hx,e'⟩ |⟨kvs,hx,e'⟩
    · subst e';obtain⟨its,r,pl,hz⟩:=I.list hx;have hlen:=r.length;exact wpAny_truthy_list pl.isList (by simp only[Rq];omega) ⟨H,I.tok _,by rw[zV r];exact q⟩
    · subst e';obtain⟨its,r,pl,hz⟩:=I.tuple hx;have hlen:=r.length;exact truthy_tuple pl (by simp only[Rq];omega) ⟨H,I.tok _,by rw[zV r];exact q⟩
    · subst e';obtain⟨hz,hS,vs,r,m⟩:kvs.length<=sizeLine/\(p==sysModules)=false/\∃vs,KV kvs vs/\s.heap.DictOf (uV X.prog X.w) p vs:=I.hok p _ hx;have hlen:kvs.length=vs.length:=Paired.length r;exact wpAny_truthy_dict hS m (by omega) ⟨H,I.tok _,by rw[Gw r];exact q⟩
  |_=>exact(show False from e).elim
theorem Ks (ha:PE X a ta)(he:∀whole,isTrue a X.env whole=(do let v <-whole;standAt a.pos;holding [v] (truthy v))):
  PT X a (fun σ H Q=>ta σ H fun x H'=>∃k,jU X.K x H' k/\Q k H'):=by
 intro pins s σ H Q I h;exact isTrue_plain (aU (ha pins s σ H _ I h) fun v s1 ⟨x,H1,I1,r1,q1⟩=>Qp pins s1 σ H1 x v Q I1 r1 q1) (he _)
theorem Je:bw X (binaryOp .Add) (fun x y H Q=>∃i j,x=.str i/\y=.str j/\i.length + j.length<=sizeLine/\Q (.str (i ++ j)) H):=by
 intro pins s σ H x y v u Q I rx ry h;obtain⟨i,j,rfl,rfl,hz,q⟩:=h;obtain⟨t,rfl⟩:=rx;obtain⟨t',rfl⟩:=ry;exact add_str (fun t' tk=>⟨.str (i ++ j),H,I.tok _,⟨_,rfl⟩,q⟩) hz
theorem vals1 (r:Vals [x] us):∃u,us=[u]/\RelV x u:=by
 cases r with
 |cons r1 r2=>cases r2;exact⟨_,rfl,r1⟩
theorem vals2 (r:Vals [x,y] us):∃u w',us=[u,w']/\RelV x u/\RelV y w':=by
  cases r with
  |cons r1 r2=>
    cases r2 with
    |cons r3 r4=>cases r4;exact⟨_,_,rfl,r1,r3⟩
theorem qz (hc:X.calm=true):eN X (.builtin "max") (fun xs H Q=>∃i j,xs=[.int i,.int j]/\Q (.int (if j > i then j else i)) H):=by
 intro pins s σ H xs us Q I r h;obtain⟨i,j,rfl,q⟩:=h;obtain⟨u,w',rfl,⟨t,rfl⟩,⟨t',rfl⟩⟩:=vals2 r;refine max_two_ints (I.ok.hd hc) fun h' tk k=>⟨_,H,I.kept k,?_,q⟩
 by_cases hj:j > i
 ·rw[tG hj,tG hj];exact⟨_,rfl⟩
 ·rw[Rn hj,Rn hj];exact⟨_,rfl⟩
end
structure ObjM (h:Heap)(x dx C:Addr)(mA:Mgx):Prop where
 obj:h.get? x=some (PySem.W.instObj C dx)
 ns:h.Ns1 dx mA
 ne:dx≠x
structure Cls (K:Fgx)(C:Addr):Prop where
 pg:PySem.W.plainGet K C Str.empty=true
 hd:PySem.W.hasDictIn K C=true
 po:PySem.W.plainOver K C=true
 sa:PySem.W.findIn K (.ref C) "__setattr__"=some (some (.builtin "object.__setattr__"))
structure Con (K:Fgx)(C:Addr)(f:Str)(v:V)(u:Value):Prop where
 at_:PySem.W.findIn K (.ref C) f=some (some u)
 rel:RelV v u
 get:PySem.W.specialIn K u "__get__"=some none
 cp:PySem.W.copiedNames.contains f=false
structure Meth (K:Fgx)(C:Addr)(m:Str)(f:Addr):Prop where
 at_:PySem.W.findIn K (.ref C) m=some (some (.ref f))
 fn:PySem.W.isFn K (.ref f)=true
 kp:PySem.W.keepIn K (.ref f)=true
section
variable {X:Cx}{o e value:Expr}{f:Str}{pos pos' tpos:Pos}{ta tv:TE}
noncomputable def kO:V->V->Hp->VK->Prop:=fun x y H Q=>∃i j,x=.int i/\y=.int j/\Q (.int (i + j)) H
end
section
variable {X:Cx}{pins:Pnx}{σ:St}{H:Hp}{s:Shared}{A:Around}{E:Value->Shared->Prop}{Q:Value->Shared->Prop}{c:Value}{b:Bool}
inductive TyOf (K:Fgx)(H:Hp):V->Value->Prop where
 |non:TyOf K H .non (.type "NoneType")
 |bl (x:Bool):TyOf K H (.bl x) (.type "bool")
 |int (i:Int):TyOf K H (.int i) (.type "int")
 |str (x:Str):TyOf K H (.str x) (.type "str")
 |flt (x:UInt64):TyOf K H (.flt x) (.type "float")
 |lst {a:Addr} {xs:List V} (e:H a=some (.lst xs)):TyOf K H (.ref a) (.type "list")
 |frz {a:Addr} {o:Obj} {xs:List V} (e:H a=some (.frz o (.lst xs))):TyOf K H (.ref a) (.type "list")
 |tup {a:Addr} {xs:List V} (e:H a=some (.tup xs)):TyOf K H (.ref a) (.type "tuple")
 |dK {a:Addr} {kvs:List (Key×V)} (e:H a=some (.dK kvs)):TyOf K H (.ref a) (.type "dict")
 |dT {a:Addr} {kvs:List (List Key×V)} (e:H a=some (.dT kvs)):TyOf K H (.ref a) (.type "dict")
 |ins {a C dx:Addr} {fs:List (Str×V)} (e:H a=some (.ins C dx fs)) (cl:Cls K C) (ha:PySem.W.findIn K (.ref C) "__class__"=some (some (.builtin "object.__class__")))
   (hn:PySem.W.specialIn K (.builtin "object.__class__") "__get__"=some (some (.builtin "getset_descriptor.__get__"))) (htk:PySem.W.takesIn K (.builtin "object.__class__")=some true)
   (hm:PySem.W.mroIn K C (.type "object")=some true):TyOf K H (.ref a) (.ref C)
end
structure Room (k:Nat)(A:Around):Prop where
 hd:A.handled=none
 dp:A.depth + 3 * k + 5<recursionLimit
 un:A.units + 16 * k + 200<cLine
theorem Room.mono (r:Room k A)(h:j<=k):Room j A:=⟨r.hd,by have:=r.dp;omega,by have:=r.un;omega⟩
theorem Room.deeper (r:Room (k + 1) A)(env:Env):Room k (A.deeper env):=
 ⟨r.hd,by have:=r.dp;show A.depth + 1 + 3 * k + 5<_;omega,by have:=r.un;show A.units + 3 + 16 * k + 200<_;omega⟩
theorem Rh {A:Around}{C:Addr}{us:List Value}{kw:List (Str×Value)}:(A.under (.builtin "type.__call__" ⟨.ref C::us,kw⟩)).depth=A.depth + 1:=by
 first |rfl |simp[Around.under,Code.weight,Code.isCreation,Code.isGuard,Code.isCaller,Code.frames,Code.isFrame,guardIds]
theorem Ri {A:Around}{C:Addr}{us:List Value}{kw:List (Str×Value)}:(A.under (.builtin "type.__call__" ⟨.ref C::us,kw⟩)).units=A.units + 1:=by
 first |rfl |simp[Around.under,Code.cUnits,Code.frames,Code.isFrame]
theorem Room.depth (r:Room k A):A.depth<recursionLimit:=by have:=r.dp;omega
theorem Room.units (r:Room k A):A.units + 64<cLine:=by have:=r.un;omega
def w6:TA:=fun _ H Q=>Q [] H
noncomputable def P_ (ta:TE) (tr:TA):TA:=fun σ H Q=>ta σ H fun x H1=>tr σ H1 fun xs H2=>Q (x::xs) H2
section
variable {X:Cx}{e:Expr}{es:List Expr}{te:TE}{t:TA}{pos:Pos}
theorem pB:PA X [] w6:=fun _ _ _ _ H Q I h=>Calls.spliced_nil ⟨[],H,I,.nil,h⟩
theorem pA (ha:PE X e te)(hr:PA X es t)(hs:starEach (e::es) X.env=(false,eval e X.env)::starEach es X.env:=by rfl):PA X (e::es) (P_ te t):=by
 intro pos pins s σ H Q I h;rw[hs];show wpAny _ _ (spliced ((false,eval e X.env)::backTo pos (starEach es X.env))) _ _ s;refine Calls.spliced_cons (aU (ha pins s σ H _ I h) fun u s1 ⟨x,H1,I1,r1,q1⟩=>?_);exact aU (hr pos pins s1 σ H1 _ I1 q1) fun us s2 ⟨xs,H2,I2,r2,q2⟩=>⟨x::xs,H2,I2,.cons r1 r2,q2⟩
noncomputable def xG (t:TA):TE:=fun σ H Q=>t σ H fun xs H1=>xs.length<=sizeLine/\∀p,H1 p=none->Q (.ref p) (upd H1 p (.tup xs))
noncomputable def w5 (t:TA):TE:=fun σ H Q=>t σ H fun xs H1=>xs.length<=sizeLine/\∀p,H1 p=none->Q (.ref p) (upd H1 p (.lst xs))
theorem JW {x1}(h:PA X es t):PE X (.Tuple es x1 pos) (xG t):=by
 intro pins s σ H Q I hq;refine wpAny_Tuple_spliced (aU (h pos pins s σ H _ I hq) fun us s1 ⟨xs,H1,I1,r,z,q⟩=>⟨by rw[<-r.length];exact z,?_⟩);have hf:H1 s1.heap.objs.size=none:=I1.hok.fresh (Ro _);refine⟨.ref s1.heap.objs.size,upd H1 s1.heap.objs.size (.tup xs),I1.laid (t':=s1.toks) (fun b u e=>Rt _ e) (Ro _) ?_,rfl,q _ hf⟩;exact⟨z,us,r,⟨_,Sq _ rfl,rfl,_,rfl⟩⟩
theorem JQ (h:PA X es t):PE X (.List es pos) (w5 t):=by
 intro pins s σ H Q I hq;refine wpAny_List_spliced (aU (h pos pins s σ H _ I hq) fun us s1 ⟨xs,H1,I1,r,z,q⟩=>⟨by rw[<-r.length];exact z,?_⟩);have hf:H1 s1.heap.objs.size=none:=I1.hok.fresh (Ro _);refine⟨.ref s1.heap.objs.size,upd H1 s1.heap.objs.size (.lst xs),I1.laid (t':=s1.toks) (fun b u e=>Rt _ e) (Ro _) ?_,rfl,q _ hf⟩;exact⟨z,us,0,r,Sq _ rfl⟩
end
abbrev Sp:=List V->Hp->VK->XK->Prop
abbrev c7:=List Env->Hp->Shared->XK->Value->Shared->Prop
structure Env0 (P:Program)(w:World)(K:Fgx)(mg:Mgx)(base:Heap)(A:Around)(outer:List Env)(s:Shared)(H:Hp):Prop where
 frames:A.frames=some outer
 mod:Mod K mg base
 bs:∀b o,base.get? b=some o->s.heap.get? b=some o/\H b=none
 bsz:base.objs.size<=s.heap.objs.size
 funs:s.heap.FunFrames base outer
 frf:∀b∈frs outer,H b=none
 hok:bQ P w H s.heap
 bare:AllBare s.gens
def CE (outer:List Env)(P:Program)(w:World)(H:Hp)(s:Shared)(Q:VK)(u:Value)(s':Shared):Prop:=
 ∃v H',s'.os=s.os/\AllBare s'.gens/\Un (frs outer) [] H H' s.heap s'.heap/\bQ P w H' s'.heap/\RelV v u/\Q v H'
def CR (CX:c7)(outer:List Env)(P:Program)(w:World)(H:Hp)(s:Shared)(Q:VK)(E:XK)(r:Result)(s':Shared):Prop:=
 match r with
 |.ok (.ret u)=>CE outer P w H s Q u s'
 |.ok _=>False
 |.error e=>CX outer H s E e s'
structure FnOk (P:Program)(w:World)(K:Fgx)(mg:Mgx)(base:Heap)(CX:c7)(k:Nat)(f:Addr)(fd:FuncData)(ps:List Str)(sp:Sp):Prop where
 len:∀vs H Q E,sp vs H Q E->vs.length=ps.length
 run:∀(A:Around) (outer:List Env) (s:Shared) (H:Hp) (args:Args) (us:List Value) (vs:List V) (Q:VK) (E:XK),Room k A->Env0 P w K mg base A outer s H->BindsTo s fd args (ps.zip us)->Vals vs us->sp vs H Q E->
  codeAny (model P w) A (.call (.ref f) args) (CR CX outer P w H s Q E) s
theorem FnOk.mono {P:Program}{w:World}{K:Fgx}{mg:Mgx}{base:Heap}{CX:c7}{j k:Nat}{f:Addr}{fd:FuncData}{ps:List Str}{sp:Sp}(F:FnOk P w K mg base CX j f fd ps sp)(h:j<=k):
  FnOk P w K mg base CX k f fd ps sp:=⟨F.len,fun A outer s H args us vs Q E hr=>F.run A outer s H args us vs Q E (hr.mono h)⟩
section
variable {X:Cx}{pins:Pnx}{σ:St}{H:Hp}{s s':Shared}
theorem Inv.env0 (I:Inv X pins σ H s):Env0 X.prog X.w X.K X.mg X.base X.A X.stack s H:=
 ⟨I.ok.frames,I.ok.mod,I.bs,RB I.ok.bsz I.sz,I.stack,I.stkFree,I.hok,I.bare⟩
theorem Inv.after (I:Inv X pins σ H s)(h:CE X.stack X.prog X.w H s Q u s'):EP X pins σ Q u s':=by
 obtain⟨v,H',os,bare,un,hok,r,q⟩:=h;obtain⟨hh,g,d,t,os'⟩:=s';obtain rfl:os'=s.os:=os;exact⟨v,H',I.call (h':=hh) (g':=g) (d':=d) (t':=t) (ch:=[]) un hok bare (fun b z=>absurd z (by simp)),r,q⟩
end
noncomputable def PN (sp:Sp) (dvs:List V) (E:XK) (t:TA):TE:=fun σ H Q=>t σ H fun vs H1=>sp (vs ++ dvs) H1 Q E
def Binds (K:Fgx)(fd:FuncData)(ps:List Str)(ds:List Value):Prop:=
 ∀(s:Shared) (us:List Value),K.In s.heap->(us ++ ds).length=ps.length->BindsTo s fd ⟨us,[]⟩ (ps.zip (us ++ ds))
theorem Binds.all {K:Fgx}{fd:FuncData}{ps:List Str}(h:∀us:List Value,us.length=ps.length->bindArgs fd ⟨us,[]⟩=pure (ps.zip us)):Binds K fd ps []:=fun s us _ hl=>by
 rw[Sy]at hl ⊢;exact .of_eq (h us hl)
def Passes (CX:c7)(X:Cx)(E:XK):Prop:=∀(pins:Pnx) (σ:St) (H:Hp) (s:Shared) (e:Value) (s':Shared),Inv X pins σ H s->CX X.stack H s E e s'->X.xe e s'
section
variable {X:Cx}{CX:c7}{k:Nat}{f C:Addr}{fd:FuncData}{ps:List Str}{sp:Sp}{dvs:List V}{ds:List Value}{E:XK}{x m:Str}{p pos apos:Pos}{e o:Expr}{es:List Expr}{ta:TE}{t:TA}
theorem Om (F:FnOk X.prog X.w X.K X.mg X.base CX k f fd ps sp)(hr:Room k X.A)(hb:Binds X.K fd ps ds)(hd:Vals dvs ds)(hx:Passes CX X E)
    (I:Inv X pins σ H s) (r:Vals vs us) (h:sp (vs ++ dvs) H Q E):wpAny (model X.prog X.w) X.A (call (.ref f) us) (EP X pins σ Q) X.xe s:=by
  have r2:Vals (vs ++ dvs) (us ++ ds):=r.append hd;have hl:(us ++ ds).length=ps.length:=by rw[<-r2.length];exact F.len _ _ _ _ h
  refine wpAny_call (Wd (F.run X.A X.stack s H ⟨us,[]⟩ (us ++ ds) (vs ++ dvs) Q E hr I.env0 (hb s us I.kIn hl) r2 h) fun r s' hq=>?_)
  cases r with
  |error e=>exact hx pins σ H s e s' I hq
  |ok fl=>
    cases fl with
    |ret u=>exact I.after hq
    |next=>exact False.elim hq
    |brk=>exact False.elim hq
    |cont=>exact False.elim hq
theorem JF (F:FnOk X.prog X.w X.K X.mg X.base CX k f fd ps sp)(hr:Room k X.A)(hg:Gl X x)(hm:X.mg x=some (.ref f))(hk:PySem.W.keepIn X.K (.ref f)=true)(hb:Binds X.K fd ps ds)(hd:Vals dvs ds)(hx:Passes CX X E)
  (ha:PA X (e::es) t) (hdb:(x==("__debug__":Str))=false:=by decide) (he:starEach (e::es) X.env=(false,eval e X.env)::starEach es X.env:=by rfl) (hpl:(backTo pos (starEach es X.env)).any (·.1)=false:=by rfl):
  PE X (.Call (.Name x p) (e::es) [] pos) (PN sp dvs E t):=by
 intro pins s σ H Q I h;refine V1 (z8 I hg hm ?_ hdb);refine PySem.W.callWith_K (h₀:=X.base) I.ok.mod.kin hk (aU (ha pos pins s σ H _ I h) fun us s1 ⟨vs,H1,I1,r,q⟩=>⟨I1.kIn,?_⟩) he hpl;exact Om F hr hb hd hx I1 r q
structure Mk (K:Fgx)(C f:Addr):Prop where
 makes:PySem.W.makesIn K C=true
 init:PySem.W.findIn K (.ref C) "__init__"=some (some (.ref f))
 fn:PySem.W.isFn K (.ref f)=true
 kp:PySem.W.keepIn K (.ref C)=true
end
section
variable {X:Cx}{CX:c7}{k:Nat}{f C:Addr}{fd:FuncData}{ps ks:List Str}{sp:Sp}{E:XK}{x m:Str}{p pos apos kpos:Pos}{e o:Expr}{es:List Expr}{kws:List Keyword}{te ta:TE}{t tk:TA}{nm:Option Str}
structure KBinds (K:Fgx)(fd:FuncData)(ps ks:List Str)(g:List Value->List Value->List Value)(gV:List V->List V->List V):Prop where
 to:∀(s:Shared) (us ws:List Value),K.In s.heap->(g us ws).length=ps.length->BindsTo s fd ⟨us,ks.zip ws⟩ (ps.zip (g us ws))
 rel:∀{vs:List V} {us:List Value} {zs:List V} {ws:List Value},Vals vs us->Vals zs ws->Vals (gV vs zs) (g us ws)
variable {g:List Value->List Value->List Value}{gV:List V->List V->List V}
end
structure FnScope (N P:List Str)(sc:Scope):Prop where
 kind:sc.kind=.function
 co:sc.isCoroutine=false
 gen:sc.isGenerator=false
 nd:N.Nodup
 pre:N.take P.length=P
 par:∀x∈P,sc.names.lookup x=some .local\/sc.names.lookup x=some .cell
 nofree:∀y∈sc.names,y.2≠ .free
theorem yG {kindOf:Str->Option NameKind}{x:Str}:∀{binds:List (Str×Value)} {m:Mgx},(∀v,(x,v)∉binds)->bindL kindOf binds m x=m x
  | [],_,_=>rfl
  |(n,v)::r,m,h=>by
    unfold bindL;rw[yG fun w hw=>h w (RP _ hw)]
    split
    · have:x≠n:=by rintro rfl;exact h v R6
      simp[this]
    · rfl
theorem yE {kindOf:Str->Option NameKind}{x:Str}:∀{binds:List (Str×Value)} {m:Mgx},(∀v,(x,v)∉binds)->bindC kindOf binds m x=m x
  | [],_,_=>rfl
  |(n,v)::r,m,h=>by
    unfold bindC;rw[yE fun w hw=>h w (RP _ hw)]
    split
    · rfl
    · have:x≠n:=by rintro rfl;exact h v R6
      simp[this]
theorem yF {kindOf:Str->Option NameKind}{x:Str}{v:Value}:∀{P:List Str} {vs:List Value} {i:Nat} {m:Mgx},P.Nodup->P[i]? =some x->vs[i]? =some v->kindOf x=some .local->
    bindL kindOf (P.zip vs) m x=some v
  | [],_,_,_,_,h,_,_=>by simp at h
  |_::_,[],_,_,_,_,h,_=>by simp at h
  |p::P,w::vs,0,m,nd,h1,h2,hk=>by
    simp at h1 h2;subst h1;subst h2
    show bindL kindOf ((p,w)::P.zip vs) m p=_;unfold bindL;rw[yG fun v hv=>(U_.mp nd).1 (Vv hv).1,tG hk]
    simp
  |p::P,w::vs,i + 1,m,nd,h1,h2,hk=>by
    show bindL kindOf ((p,w)::P.zip vs) m x=_;unfold bindL;exact yF (i:=i) (U_.mp nd).2 (by simpa using h1) (by simpa using h2) hk
theorem yD {kindOf:Str->Option NameKind}{x:Str}{v:Value}:∀{P:List Str} {vs:List Value} {i:Nat} {m:Mgx},P.Nodup->P[i]? =some x->vs[i]? =some v->kindOf x≠some .local->
    bindC kindOf (P.zip vs) m x=some v
  | [],_,_,_,_,h,_,_=>by simp at h
  |_::_,[],_,_,_,_,h,_=>by simp at h
  |p::P,w::vs,0,m,nd,h1,h2,hk=>by
    simp at h1 h2;subst h1;subst h2
    show bindC kindOf ((p,w)::P.zip vs) m p=_;unfold bindC;rw[yE fun v hv=>(U_.mp nd).1 (Vv hv).1,Rn hk]
    simp
  |p::P,w::vs,i + 1,m,nd,h1,h2,hk=>by
    show bindC kindOf ((p,w)::P.zip vs) m x=_;unfold bindC;exact yD (i:=i) (U_.mp nd).2 (by simpa using h1) (by simpa using h2) hk
noncomputable def start (N:List Str) (vs:List V):St:=vs.map some ++ List.replicate (N.length - vs.length) none
noncomputable def fO (CX:c7) (P:Program) (w:World) (K:Fgx) (mg:Mgx) (base:Heap) (N:List Str) (qual:Str) (scope:Scope) (f:Addr) (cd:Value) (A:Around) (outer:List Env) (s:Shared) (H:Hp) (E:XK):Cx where
 prog:=P
 w:=w
 K:=K
 mg:=mg
 base:=base
 A:=A.deeper (envOfC qual scope s.heap.objs.size f cd)
 N:=N
 s₀:=s
 H₀:=H
 env:=envOfC qual scope s.heap.objs.size f cd
 outer:=outer
 stack:=envOfC qual scope s.heap.objs.size f cd::outer
 ex:=[]
 calm:=true
 fn:=fun _=>true
 pn:=[]
 xe:=fun e s'=>wpAny (model P w) (A.deeper (envOfC qual scope s.heap.objs.size f cd)) (leaving (envOfC qual scope s.heap.objs.size f cd) e) (fun _ s''=>CX outer H s E e s'') (fun e' s''=>CX outer H s E e' s'') s'
theorem yM {sc:Scope}{n:Nat}{x:Str}(h:sc.names.lookup x=some .cell):∃c,(cellsFrom n sc.names []).lookup x=some c:=by
 have q:=Wz sc.names n [] (.inl h);exact Option.isSome_iff_exists.mp q
theorem Gu {CX:c7}{P:Program}{w:World}{K:Fgx}{mg:Mgx}{base:Heap}{N ps:List Str}{qual:Str}{scope:Scope}{f:Addr}{cd:Value}{A:Around}{outer:List Env}{s s1:Shared}{H:Hp}{E:XK}{us:List Value}{vs:List V}
  (S:FnScope N ps scope) (hd:A.handled=none) (e0:Env0 P w K mg base A outer s H) (hl:vs.length=ps.length) (r:Vals vs us)
  (x:InCallC s s.heap.objs.size (bindL (envOfC qual scope s.heap.objs.size f cd).kindOf (ps.zip us) fun _=>none) (cellsFrom (s.heap.objs.size + 1) scope.names []) (bindC (envOfC qual scope s.heap.objs.size f cd).kindOf (ps.zip us) fun _=>none) s1):
  Inv (fO CX P w K mg base N qual scope f cd A outer s H E) [] (start N vs) H s1:=by
 have hpl:ps.length<=N.length:=by have:=congrArg List.length S.pre;rw[Sw]at this;omega
 obtain ⟨h1, tk, rfl, hk⟩ := x.done;have noA : ∀ b : Addr, b ∉ (fO CX P w K mg base N qual scope f cd A outer s H E).ex := fun b z => absurd (show b ∈ ([] : List Addr) from z) (by simp);refine ⟨⟨e0.mod,S.kind,rfl,rfl,Ro _,fun y z c h1 h2=>?_,fun y hy=>?_,fun y c _ h=>?_,fun _=>hd,Around.frames_deeper e0.frames,.inr ⟨rfl,rfl⟩,fun b z=>absurd z (noA b),e0.bs,e0.bsz,fun b _ _=>noA b,fun b z=>absurd z (noA b),e0.funs,e0.frf⟩,
  rfl,e0.bare,Un.kept hk,⟨_,x.toInCall.ns,fun i y v h1 h2 h3=>?_⟩,fun y c h=>⟨_,x.cell y c h⟩,e0.hok.fresh (Ro _),fun y c h=>?_,fun p hp=>absurd (show p∈([]:Pnx) from hp) (by simp),e0.hok.kept hk,?_⟩
 ·exact name_of_addr x.apart (Te h1) (Te h2)
 ·have hy:scope.names.lookup y=some .cell\/scope.names.lookup y=some .free:=hy;rcases hy with hy |hy
  ·exact yM hy
  ·exact absurd rfl (S.nofree _ (Te hy))
 ·exact S6 (x.above y c (Te h))
 ·have hi:i<vs.length:=by
   unfold start at h2
   by_cases hi:i<vs.length
   ·exact hi
   ·rw[RZ (by simpa using hi)]at h2;rw[SJ]at h2;split at h2<;>cases h2
  have ha:vs[i]? =some v:=by
   unfold start at h2;rw[R0 (by simpa using hi),Rx]at h2
   cases e:vs[i]? with
   |none=>rw[e]at h2;cases h2
   |some a=>rw[e]at h2;cases h2;rfl
  obtain⟨u,hu,rv⟩:=r.get ha;have hp:ps[i]? =some y:=by
   rw[<-S.pre,Vd (by omega)];exact h1
  have ndP:ps.Nodup:=by rw[<-S.pre];exact S.nd.sublist (W_ _ _)
  refine⟨u,rv,?_⟩;rcases S.par y (R9 hp) with k |k
  ·exact .inl ⟨k,yF ndP hp hu k⟩
  ·obtain⟨c,e⟩:=yM (n:=s.heap.objs.size + 1) k;refine .inr ⟨.inl k,c,e,?_⟩;have q:=x.cell y c e;rw[yD ndP hp hu (by show scope.names.lookup y≠_;rw[k];decide)]at q;exact q
 ·exact .inl (e0.hok.fresh (S6 (x.above y c (Te h))))
 ·unfold start;show _=N.length;rw[RG,RJ,TX];omega
theorem FW {CX:c7}{P:Program}{w:World}{K:Fgx}{mg:Mgx}{base:Heap}{k:Nat}{f:Addr}{name qual:Str}{params:Arguments}{body:List Stmt}{scope:Scope}{dV kV doc pm cdv ct oc:Value}{an od:Option Addr}
    {osl:Array (Option Value)} {N ps:List Str} {sp:Sp} (lk:K.lookup f=some ⟨oc,od,.func (PySem.W.fnOf name qual params body scope dV kV doc pm an cdv ct),osl⟩) (hcd:PySem.W.codeIn K cdv qual=true) (S:FnScope N ps scope)
    (len:∀vs H Q E,sp vs H Q E->vs.length=ps.length)
    (hbody:∀(A:Around) (outer:List Env) (s:Shared) (H:Hp) (vs:List V) (Q:VK) (E:XK),Room k (A.deeper (envOfC qual scope s.heap.objs.size f cdv))->sp vs H Q E->
      ∃t,fB (fO CX P w K mg base N qual scope f cdv A outer s H E) body t/\t {nx:=fun _ H'=>Q .non H',rt:=Q} (start N vs) H):
    FnOk P w K mg base CX (k + 1) f (PySem.W.fnOf name qual params body scope dV kV doc pm an cdv ct) ps sp:=by
  refine⟨len,fun A outer s H args us vs Q E hr e0 hb r hsp=>?_⟩;have hl:=len _ _ _ _ hsp;have KX:K.In s.heap:=e0.mod.kin.keeps fun b o e=>(e0.bs b o e).1;have lim:s.heap.NoLimit:=e0.mod.nolimit.keeps fun b o e=>(e0.bs b o e).1;have hkind:∀y∈ps.zip us,scope.names.lookup y.1=some .local\/(scope.names.lookup y.1=some .cell/\((cellsFrom (s.heap.objs.size + 1) scope.names []).lookup y.1).isSome=true):=fun⟨n,v⟩ hy=>by
    rcases S.par n (Vv hy).1 with q |q
    · exact .inl q
    · exact .inr ⟨q,Wz _ _ _ (.inl q)⟩
  refine codeAny_call_function hr.depth (KX _ _ lk) rfl S.co S.gen rfl (PySem.W.codeRec_of KX hcd) (hb _ _ _ _ ?_);refine wpAny_newFunctionEnv_cells S.kind hkind fun env he s1 x=>?_;subst he;refine⟨lim.keeps x.toInCall.keep,codeAny_func ?_⟩;obtain⟨t,ht,hq⟩:=hbody A outer s H vs Q E (hr.deeper _) hsp;have I:Inv (fO CX P w K mg base N qual scope f cdv A outer s H E) [] (start N vs) H s1:=Gu S hr.hd e0 hl r x;refine S_ (ht [] s1 (start N vs) H _ I hq) (fun fl s' hs=>?_) fun e s' hs=>hs;have fin:∀{σ':St} {H':Hp} {v:V} {u:Value},Inv (fO CX P w K mg base N qual scope f cdv A outer s H E) [] σ' H' s'->RelV v u->Q v H'->CE outer P w H s Q u s':=
    fun {σ' H' v u} J rv q=>⟨v,H',J.os,J.bare,J.base,J.hok,rv,q⟩
  cases fl with
  |ret u=>
    obtain⟨v,σ',H',J,rv,q⟩:=hs;exact fin J rv q
  |next=>
    obtain⟨σ',H',J,q⟩:=hs;exact fin (v:=V.non) (u:=Value.none) J rfl q
  |brk=>
    obtain⟨_,_,_,q⟩:=hs;exact False.elim q
  |cont=>
    obtain⟨_,_,_,q⟩:=hs;exact False.elim q
section
variable {X:Cx}{x:Str}{p pos:Pos}{e:Expr}{es:List Expr}{t:TA}{id T:String}{r:List V->Hp->VK->Prop}
noncomputable def wV (r:List V->Hp->VK->Prop) (t:TA):TE:=fun σ H Q=>t σ H fun vs H1=>r vs H1 Q
theorem Bt (hc:eN X (.builtin id) r)(hg:Gl X x)(hm:X.mg x=none)(hv:bootBuiltins x=some (.builtin id))(ha:PA X (e::es) t)(hn:x≠"__name__":=by decide)(hdb:(x==("__debug__":Str))=false:=by decide)
  (he:starEach (e::es) X.env=(false,eval e X.env)::starEach es X.env:=by rfl) (hpl:(backTo pos (starEach es X.env)).any (·.1)=false:=by rfl):PE X (.Call (.Name x p) (e::es) [] pos) (wV r t):=by
 intro pins s σ H Q I h;refine V1 (qW I hg hm hv ?_ hn hdb);exact PyProof.Rows.callWith_builtin1 (aU (ha pos pins s σ H _ I h) fun us s1 ⟨vs,H1,I1,r1,q1⟩=>hc pins s1 σ H1 vs us Q I1 r1 q1) he hpl
theorem JG (hc:eN X (.type T) r)(hg:Gl X x)(hm:X.mg x=none)(hv:bootBuiltins x=some (.type T))(ha:PA X (e::es) t)(hn:x≠"__name__":=by decide)(hdb:(x==("__debug__":Str))=false:=by decide)
  (he:starEach (e::es) X.env=(false,eval e X.env)::starEach es X.env:=by rfl) (hpl:(backTo pos (starEach es X.env)).any (·.1)=false:=by rfl):PE X (.Call (.Name x p) (e::es) [] pos) (wV r t):=by
 intro pins s σ H Q I h;refine V1 (qW I hg hm hv ?_ hn hdb);exact UW (aU (ha pos pins s σ H _ I h) fun us s1 ⟨vs,H1,I1,r1,q1⟩=>hc pins s1 σ H1 vs us Q I1 r1 q1) he hpl
end
end L2
namespace HT
open PySem PyProof.Rows
section
open PySem.SeqAt
open PySem.AutoSeq1 (wpAny_loadPart')
open PySem.MeetsSeq PySem.MeetsSeq2 PySem.MeetsSeq3
end
section
variable {prog:Program}{w:World}{A:Around}{E:Value->Shared->Prop}{s:Shared}
noncomputable def aP (n d:Nat):Option Int->Nat
 |none=>d
 |some v=>if v<0 then(v + (n:Int)).toNat else min v.toNat n
theorem Ci (n d:Nat):aP n d none=d:=rfl
theorem Cg (n d k:Nat):aP n d (some (k:Int))=min k n:=by
 show(if (k:Int)<0 then((k:Int) + (n:Int)).toNat else min (k:Int).toNat n)=min k n
 rw[Rn (by omega),R8]
theorem Oo (n d:Nat)(hd:d<=n)(o:Option Int):aP n d o<=n:=by
  cases o with
  |none=>exact hd
  |some v=>
    show(if v<0 then(v + (n:Int)).toNat else min v.toNat n)<=n
    by_cases hv:v<0
    · rw[tG hv];omega
    · rw[Rn hv];exact Nat.min_le_right _ _
theorem yN (v:Int)(n d:Nat):(if v<0 then max (v + (n:Int)) 0 else min v (n:Int))=((aP n d (some v):Nat):Int):=by
 show(if v<0 then max (v + (n:Int)) 0 else min v (n:Int))=(((if v<0 then(v + (n:Int)).toNat else min v.toNat n):Nat):Int)
 by_cases hv:v<0
 ·simp only[tG hv];omega
 ·simp only[Rn hv];omega
theorem DX (lo hi:Option Int)(n:Nat):Builtin.Slice.sliceAdjust lo hi 1 (n:Int)=(((aP n 0 lo:Nat):Int),((aP n n hi:Nat):Int)):=by
 have h1:¬ ((1:Int)<0):=by omega
 unfold Builtin.Slice.sliceAdjust;simp only[h1,U3];refine Prod.ext ?_ ?_
 ·cases lo with
  |none=>rfl
  |some v=>exact yN v n 0
 ·cases hi with
  |none=>rfl
  |some v=>exact yN v n n
theorem Kd (i j:Nat):Builtin.Slice.slicePlaces (i:Int) (j:Int) 1=j - i:=by
 unfold Builtin.Slice.slicePlaces;have h1:(1:Int) > 0:=by omega
 simp only[h1,Ub,Int.ediv_one]
 split<;>omega
theorem CW (p:IsPart v o)(h:Q o s):wpAny (model prog w) A (Builtin.Slice.slicePartIndex v) Q E s:=by
 cases p with
 |none=>exact slicePart_none h
 |int i t=>exact slicePart_int h
theorem O4 {sl:Addr}{vl vu:Value}{lo hi:Option Int}{n:Nat}{Q:Int×Int×Nat->Shared->Prop}(hs:s.heap.IsSliceOf sl vl vu .none)(pl:IsPart vl lo)(pu:IsPart vu hi)
  (h:Q (((aP n 0 lo:Nat):Int),1,aP n n hi - aP n 0 lo) s):wpAny (model prog w) A (Builtin.Slice.sliceApplied (.ref sl) (pure (n:Int))) Q E s:=by
 obtain⟨os,hos,hcs,hds⟩:=id hs;unfold Builtin.Slice.sliceApplied Builtin.Slice.sliceFields;refine Rp (Rp (Vl hos hds (x:=vl) rfl (Rp (Vl hos hds (x:=vu) rfl (Rp (Vl hos hds (x:=.none) rfl (Rw ?_)))))));refine Rp (slicePart_none ?_);show wpAny _ _ (if ((1:Int)==0)=true then _ else _) _ _ s
 rw[Rn (by decide)];refine Rp (CW pl (Rp (CW pu (Rp (Rw ?_)))));show wpAny _ _ (match Builtin.Slice.sliceAdjust lo hi 1 (n:Int) with |(lo,hi)=>pure (lo,(1:Int),Builtin.Slice.slicePlaces lo hi 1)) _ _ s
 rw[DX lo hi n];show wpAny _ _ (pure (((aP n 0 lo:Nat):Int),(1:Int),Builtin.Slice.slicePlaces ((aP n 0 lo:Nat):Int) ((aP n n hi:Nat):Int) 1)) _ _ s;rw[Kd];exact Rw h
theorem J_ (xs:Array Value)(i k:Nat):((List.range k).filterMap fun(m:Nat)=>xs[((i:Int) + (m:Int) * 1).toNat]?).toArray=((xs.toList.drop i).take k).toArray:=by
 have e:(fun(m:Nat)=>xs[((i:Int) + (m:Int) * 1).toNat]?)=fun m=>xs[i + m]? :=by
  funext m;have:((i:Int) + (m:Int) * 1).toNat=i + m:=by omega
  rw[this]
 rw[e];have:=pick_run xs i k;rw[List.filterMap_map]at this;have e2:((fun x=>xs[x]?) ∘ fun x=>i + x)=fun m=>xs[i + m]? :=rfl;rw[e2]at this;rw[this]
theorem Gh {t sl:Addr}{items:Array Value}{vl vu:Value}{lo hi:Option Int}{Q:Value->Shared->Prop}(ht:IsTup s.heap t items)(hs:s.heap.IsSliceOf sl vl vu .none)(pl:IsPart vl lo)(pu:IsPart vu hi)
  (hw:¬ (aP items.size 0 lo=0/\aP items.size items.size hi=items.size))
  (h:Q (.ref s.heap.objs.size) {s with heap:=s.heap.push {cls:=.type "tuple",data:=.seq ((items.toList.drop (aP items.size 0 lo)).take (aP items.size items.size hi - aP items.size 0 lo)).toArray}})
  (hsz:items.size<=sizeLine):wpAny (model prog w) A (getItem (.ref t) (.ref sl)) Q E s:=by
 have htake:sizeOk (.seq ((items.toList.drop (aP items.size 0 lo)).take (aP items.size items.size hi - aP items.size 0 lo)).toArray):=by
  show((items.toList.drop (aP items.size 0 lo)).take (aP items.size items.size hi - aP items.size 0 lo)).toArray.size<=sizeLine;rw[Rq,Sw,Tz,Rz];omega
 have hj:aP items.size items.size hi<=items.size:=Oo _ _ (Ro _) hi;obtain⟨os,hos,hcs,hds⟩:=id hs;have hTs:s.TypeIs (.ref sl) "slice":=⟨os,hos,hcs⟩;unfold getItem
 try with_reducible refine Vo ?_
 first |refine Rp (Rw ?_) |skip
 refine Rp (wpAny_sequenceKey ht.typeIs (by decide) ?_);refine Rp (wpAny_callSpecial?_slot (name:=Str.ofString "__getitem__") ht.typeIs Uv
  (Wf Uv ht.typeIs entry_tuple_getitem ?_ (args_tuple_getitem _ _)))
 show wpAny _ _ (Builtin.Tuple.tupleItemsOf (.ref t) >>=_) _ _ s;refine Rp (tupleItemsOf_ ht ?_);refine Rp (wpAny_typeOf hTs ?_);rw[tG (by decide)];refine Rp (O4 hs pl pu ?_);have hno:¬ ((((aP items.size 0 lo:Nat):Int)==0 && (1:Int)==1 && (aP items.size items.size hi - aP items.size 0 lo)==items.size)=true):=by
  intro q;rw[RN,RN]at q;have q1:((aP items.size 0 lo:Nat):Int)=0:=eq_of_beq q.1.1;have q2:aP items.size items.size hi - aP items.size 0 lo=items.size:=eq_of_beq q.2;exact hw ⟨by omega,by omega⟩
 show wpAny _ _ (if (((aP items.size 0 lo:Nat):Int)==0 && (1:Int)==1 && (aP items.size items.size hi - aP items.size 0 lo)==items.size)=true then _ else _) _ _ s
 rw[Rn hno,J_]
 first
  |exact Rp (m:=Builtin.Tuple.tupleExact _) (Ur (Rw ⟨_,rfl,Rw h⟩) htake)
  |exact Rp (m:=Builtin.Tuple.tupleExact _) (Ur (Rp (Rw (Rw ⟨_,rfl,Rw h⟩))) htake)
  |exact Rp (Rp (m:=Builtin.Tuple.tupleExact _) (Ur (Rw (Rw ⟨_,rfl,Rw h⟩)) htake))
  |exact Rp (Rp (m:=Builtin.Tuple.tupleExact _) (Ur (Rw ⟨_,rfl,Rw h⟩) htake))
end
end HT
namespace L2
open PySem PySem.Spec PyProof.Rows
abbrev TO:=St->Hp->(Option Int->Hp->Prop)->Prop
def PO (X:Cx)(e:Option Expr)(t:TO):Prop:=
 ∀(pins:Pnx) (s:Shared) (σ:St) (H:Hp) (Q:Option Int->Hp->Prop),Inv X pins σ H s->t σ H Q->
  wpAny (model X.prog X.w) X.A (evalPart e X.env) (fun u s'=>∃o H',Inv X pins σ H' s'/\IsPart u o/\Q o H') X.xe s
def Qf:TO:=fun _ H Q=>Q none H
noncomputable def Qh (t:TE):TO:=fun σ H Q=>t σ H fun x H1=>∃i,x=.int i/\Q (some i) H1
section
variable {X:Cx}{e:Expr}{te:TE}{lo hi:Option Expr}{tl th:TO}{pos p2:Pos}
theorem Ke:PO X none Qf:=by
 intro pins s σ H Q I h;rw[evalPart_none];exact Rw ⟨none,H,I,.none,h⟩
theorem Kf (h:PE X e te):PO X (some e) (Qh te):=by
 intro pins s σ H Q I hw;rw[evalPart_some];refine aU (h pins s σ H _ I hw) fun u s1 ⟨x,H1,I1,r1,q1⟩=>?_;obtain⟨i,rfl,q⟩:=q1;obtain⟨t,rfl⟩:=r1;exact⟨some i,H1,I1,.int i t,q⟩
def jr (X:Cx)(r:V->Option Int->Option Int->Hp->VK->Prop):Prop:=
 ∀(pins:Pnx) (s:Shared) (σ:St) (H:Hp) (x:V) (v vl vu:Value) (lo hi:Option Int) (sl:Addr) (Q:VK),Inv X pins σ H s->RelV x v->s.heap.IsSliceOf sl vl vu .none->IsPart vl lo->IsPart vu hi->r x lo hi H Q->
  ∃T id,typeLookup (.type T) "__getitem__"=pure (some (.builtin id))/\s.TypeIs v T/\wpAny (model X.prog X.w) X.A (getItem v (.ref sl)) (EP X pins σ Q) X.xe s
theorem jr.or (h:jr X r)(h':jr X r'):jr X (fun x lo hi H Q=>r x lo hi H Q\/r' x lo hi H Q):=by
 intro pins s σ H x v vl vu lo hi sl Q I rx hs pl pu q;rcases q with q |q
 ·exact h pins s σ H x v vl vu lo hi sl Q I rx hs pl pu q
 ·exact h' pins s σ H x v vl vu lo hi sl Q I rx hs pl pu q
noncomputable def Qj (r:V->Option Int->Option Int->Hp->VK->Prop) (te:TE) (tl th:TO):TE:=fun σ H Q=>te σ H fun x H1=>tl σ H1 fun l H2=>th σ H2 fun u H3=>r x l u H3 Q
theorem Bu (hr:jr X r)(he:PE X e te)(hl:PO X lo tl)(hu:PO X hi th):PE X (.Subscript e (.Slice lo hi none p2) pos) (Qj r te tl th):=by
 intro pins s σ H Q I h;refine Subscript_ (aU (he pins s σ H _ I h) fun v s1 ⟨x,H1,I1,r1,q1⟩=>?_);refine wpAny_Slice (aU (hl pins s1 σ H1 _ I1 q1) fun vl s2 ⟨l,H2,I2,pl,q2⟩=>aU (hu pins s2 σ H2 _ I2 q2) fun vu s3 ⟨u,H3,I3,pu,q3⟩=>?_);rw[evalPart_none];refine Rw ?_;have I4:Inv X pins σ H3 {s3 with heap:=s3.heap.push {cls:=.type "slice",data:=.fields #[vl,vu,.none]}}:=I3.kept (t':=s3.toks) fun b ob q=>Rt _ q;obtain⟨T,id,hT,ht,hg⟩:=hr pins {s3 with heap:=s3.heap.push {cls:=.type "slice",data:=.fields #[vl,vu,.none]}} σ H3 x v vl vu l u s3.heap.objs.size Q I4 r1 (Heap.IsSliceOf.new ..) pl pu q3;show wpAny (model X.prog X.w) X.A (subscriptTail e (.Slice lo hi none p2) v (.ref s3.heap.objs.size)) (EP X pins σ Q) X.xe {s3 with heap:=s3.heap.push {cls:=.type "slice",data:=.fields #[vl,vu,.none]}};exact tail_any (ops:=[.ref s3.heap.objs.size,v]) ht hT hg (by with_unfolding_all rfl)
noncomputable def dO (xs:List V) (lo hi:Option Int):List V:=(xs.drop (HT.aP xs.length 0 lo)).take (HT.aP xs.length xs.length hi - HT.aP xs.length 0 lo)
theorem yV (xs:List V)(lo hi:Option Int):(dO xs lo hi).length<=xs.length:=by
 unfold dO;rw[Sw,Tz];omega
def vQ (K:Fgx):V->Option Int->Option Int->Hp->VK->Prop:=fun x lo hi H Q=>∃a xs,x=.ref a/\dJ K H a xs/\
 ¬ (HT.aP xs.length 0 lo=0/\HT.aP xs.length xs.length hi=xs.length)/\∀p,H p=none->Q (.ref p) (upd H p (.tup (dO xs lo hi)))
theorem O3:jr X (vQ X.K):=by
 intro pins s σ H x v vl vu lo hi sl Q I rx hs pl pu h;obtain⟨a,xs,rfl,hx,hw,q⟩:=h;cases rx;obtain⟨its,r,ht,hz⟩:=I.tuple hx;have hlen:its.toArray.size=xs.length:=by rw[Rq];exact r.length.symm
 refine⟨"tuple",_,Uv.lookup,ht.typeIs,?_⟩;refine HT.Gh ht hs pl pu (by rw[hlen];exact hw) ?_ (by rw[hlen];exact hz);rw[hlen];refine⟨.ref s.heap.objs.size,_,I.laid (t':=s.toks) (o:=.tup (dO xs lo hi)) (fun b ob q=>Rt _ q) (Ro _) ?_,rfl,q _ (I.hok.fresh (Ro _))⟩;exact⟨RB (yV xs lo hi) hz,_,(r.drop (HT.aP xs.length 0 lo)).take (HT.aP xs.length xs.length hi - HT.aP xs.length 0 lo),IsTup.new _ _⟩
end
noncomputable def jZ (n:Nat) (i:Int):Option Nat:=if 0<=i then(if i<n then some i.toNat else none) else if -(n:Int)<=i then some (i + n).toNat else none
noncomputable def bO {α:Type} (xs:List α) (i:Int):Option α:=(jZ xs.length i).bind fun j=>xs[j]?
theorem Gz (h:jZ n i=some j):seqIndex? i n=some j/\j<n/\ -(n:Int)<=i/\i<n:=by
 unfold jZ at h
 by_cases h0:0<=i
 ·rw[tG h0]at h
  by_cases h1:i<n
  ·rw[tG h1]at h;have e:i.toNat=j:=RM h;exact⟨by rw[seqIndex_of h0 h1,e],by omega,by omega,h1⟩
  ·rw[Rn h1]at h;cases h
 ·rw[Rn h0]at h
  by_cases h1: -(n:Int)<=i
  ·rw[tG h1]at h;have e:(i + n).toNat=j:=RM h;exact⟨by rw[seqIndex_neg (by omega) h1,e],by omega,h1,by omega⟩
  ·rw[Rn h1]at h;cases h
theorem tR (h:bO xs i=some v):∃j,seqIndex? i xs.length=some j/\xs[j]? =some v/\j<xs.length/\ -(xs.length:Int)<=i/\i<xs.length:=by
  unfold bO at h
  cases e:jZ xs.length i with
  |none=>rw[e]at h;cases h
  |some j=>
    rw[e]at h;obtain⟨h1,h2,h3,h4⟩:=Gz e;exact⟨j,h1,h,h2,h3,h4⟩
theorem jt {α:Type}{xs:List α}{j:Nat}{v:α}(h:xs[j]? =some v):bO xs (j:Int)=some v:=by
 have hj:j<xs.length:=(RL.mp h).1;have e:jZ xs.length (j:Int)=some j:=by
  unfold jZ;rw[tG (by omega),tG (by omega)];simp
 unfold bO;rw[e];exact h
def tK (b:Expr):Prop:=∀o i,subscripted b false o i=operate [o,i] (getItem o i)
def gW (X:Cx)(r:R2):Prop:=
 ∀(value slice:Expr) (pins:Pnx) (s:Shared) (σ:St) (H:Hp) (x y:V) (v u:Value) (Q:VK),Inv X pins σ H s->RelV x v->RelV y u->r x y H Q->
  subscripted slice false v u=operate [v,u] (getItem v u)->wpAny (model X.prog X.w) X.A (subscriptTail value slice v u) (EP X pins σ Q) X.xe s
def qj (X:Cx)(id:String)(r:V->List V->Hp->VK->Prop):Prop:=
 ∀(pins:Pnx) (s:Shared) (σ:St) (H:Hp) (x:V) (xs:List V) (v:Value) (us:List Value) (Q:VK),Inv X pins σ H s->RelV x v->Vals xs us->r x xs H Q->
  wpAny (model X.prog X.w) X.A (call (.builtin id) (v::us)) (EP X pins σ Q) X.xe s
section
variable {X:Cx}{a b:Expr}{ta tb:TE}{pos:Pos}
theorem gW.or (h:gW X r)(h':gW X r'):gW X (fun x y H Q=>r x y H Q\/r' x y H Q):=by
 intro value slice pins s σ H x y v u Q I rx ry q hs;rcases q with q |q
 ·exact h value slice pins s σ H x y v u Q I rx ry q hs
 ·exact h' value slice pins s σ H x y v u Q I rx ry q hs
theorem JN (hr:gW X r)(ha:PE X a ta)(hb:PE X b tb)(hs:tK b):PE X (.Subscript a b pos) (mZ r ta tb):=by
 intro pins s σ H Q I h;exact Subscript_ (jV ha hb I h fun v u s2 x y H2 I2 rx ry q=>hr a b pins s2 σ H2 x y v u Q I2 rx ry q (hs _ _))
noncomputable def kW (K:Fgx):R2:=fun x y H Q=>∃p xs i v,x=.ref p/\y=.int i/\bK K H p xs/\bO xs i=some v/\Q v H
noncomputable def kZ (K:Fgx):R2:=fun x y H Q=>∃p xs i v,x=.ref p/\y=.int i/\dJ K H p xs/\bO xs i=some v/\Q v H
noncomputable def kY:R2:=fun x y H Q=>∃z i c,x=.str z/\y=.int i/\z.length<=sizeLine/\bO z.cps.toList i=some c/\Q (.str ⟨#[c]⟩) H
theorem GD:gW X (kW X.K):=by
 intro value slice pins s σ H x y v u Q I rx ry h hs;obtain⟨p,xs,i,z,rfl,rfl,hq,he,q⟩:=h;cases rx;obtain⟨t,rfl⟩:=ry;obtain⟨its,r,pl,hz⟩:=I.list hq;obtain⟨j,h1,h2,h3,h4,h5⟩:=tR he;obtain⟨w,ew,rw'⟩:=r.get h2;have hl:=r.length;have hn:=mj;have fin:EP X pins σ Q w s:=⟨z,H,I,rw',q⟩
 by_cases h0:0<=i
 ·have hj:i.toNat=j:=by
   rw[seqIndex_of h0 h5]at h1;exact RM h1
  exact item_listR pl.isList h0 (by omega) (by rw[hj];simpa using ew) fin hs
 ·have hj:(i + (its.toArray.size:Int)).toNat=j:=by
   rw[seqIndex_neg (by omega) h4]at h1;rw[Rq, <-hl];exact RM h1
  exact subscriptTail_builtinR (x:=w) pl.isList.typeIs slot_list_getitem.lookup
   (wpAny_getItem_list_neg (Q:=fun r s'=>r=w/\EP X pins σ Q r s') pl.isList (by omega) (by rw[Rq]<;>omega) (by omega) (by rw[hj];simpa using ew) ⟨rfl,fin⟩) hs
theorem GJ:gW X (kZ X.K):=by
 intro value slice pins s σ H x y v u Q I rx ry h hs;obtain⟨p,xs,i,z,rfl,rfl,hq,he,q⟩:=h;cases rx;obtain⟨t,rfl⟩:=ry;obtain⟨its,r,pl,hz⟩:=I.tuple hq;obtain⟨j,h1,h2,h3,h4,h5⟩:=tR he;obtain⟨w,ew,rw'⟩:=r.get h2;have hl:=r.length;have hn:=mj;have fin:EP X pins σ Q w s:=⟨z,H,I,rw',q⟩;exact subscriptTail_builtinR (x:=w) pl.typeIs slot_tuple_getitem.lookup
  (getItem_tuple (j:=j) (Q:=fun r s'=>r=w/\EP X pins σ Q r s') pl (by omega) (by omega) (by rw[Rq, <-hl];exact h1) (by simpa using ew) ⟨rfl,fin⟩) hs
theorem GF:gW X kY:=by
 intro value slice pins s σ H x y v u Q I rx ry h hs;obtain⟨z,i,c,rfl,rfl,hz,he,q⟩:=h;obtain⟨t,rfl⟩:=rx;obtain⟨t',rfl⟩:=ry;obtain⟨j,h1,h2,h3,h4,h5⟩:=tR he;have hl:z.cps.toList.length=z.length:=by simp[Str.length]
 rw [hl] at h1 h4 h5;have hn := mj;exact tail_any (typeIs_str s z t) slot_str_getitem.lookup (getItem_str (c := c) (by
  have e1:decide (i< -(2 ^ 63:Int))=false:=R4 (by omega);have e2:decide (i >=2 ^ 63)=false:=R4 (by omega);rw[e1,e2,Bool.or_false]) (by rw[h1];simpa using h2) ⟨.str ⟨#[c]⟩,H,I.tok _,⟨_,rfl⟩,q⟩) hs
noncomputable def vN (K:Fgx):R2:=fun x y H Q=>kW K x y H Q\/kZ K x y H Q\/kY x y H Q
theorem O6 (lo hi:Option Int)(n:Nat):(sliceBounds lo hi none n).1=((HT.aP n 0 lo:Nat):Int)/\(sliceBounds lo hi none n).2.1=((HT.aP n n hi:Nat):Int)/\(sliceBounds lo hi none n).2.2=1:=by
  refine⟨?_,?_,rfl⟩
  · cases lo with
    |none=>simp[sliceBounds,HT.aP]
    |some i=>
      simp only[sliceBounds,HT.aP,Option.getD_none,show(1:Int) > 0 by decide,Ub]
      by_cases h:i<0
      · simp only[h,Ub]<;>omega
      · simp only[h,U3]<;>omega
  · cases hi with
    |none=>simp[sliceBounds,HT.aP]
    |some i=>
      simp only[sliceBounds,HT.aP,Option.getD_none,show(1:Int) > 0 by decide,Ub]
      by_cases h:i<0
      · simp only[h,Ub]<;>omega
      · simp only[h,U3]<;>omega
theorem O5 (its:List Value)(lo hi:Option Int):slicePick its.toArray lo hi none=((its.drop (HT.aP its.length 0 lo)).take (HT.aP its.length its.length hi - HT.aP its.length 0 lo)).toArray:=by
 obtain⟨h1,h2,h3⟩:=O6 lo hi its.toArray.size;unfold slicePick;rw[h1,h2,h3];simp only[sliceRange_one,pick_run,Rq]<;>rfl
def vO (K:Fgx):V->Option Int->Option Int->Hp->VK->Prop:=fun x lo hi H Q=>∃a xs,x=.ref a/\bK K H a xs/\∀p,H p=none->Q (.ref p) (upd H p (.lst (dO xs lo hi)))
theorem OJ:jr X (vO X.K):=by
 intro pins s σ H x v vl vu lo hi sl Q I rx hs pl pu h;obtain⟨a,xs,rfl,hx,q⟩:=h;cases rx;obtain⟨its,r,ht,hz⟩:=I.list hx;have hlen:=r.length;refine⟨"list",_,slot_list_getitem.lookup,ht.isList.typeIs,?_⟩;refine wpAny_getItem_list_slice ht.isList hs pl pu .none (by simp) ?_ (by rw[Rq]<;>omega)
 rw[O5, <-hlen];refine⟨.ref s.heap.objs.size,_,I.laid (t':=s.toks) (o:=.lst (dO xs lo hi)) (fun b ob q=>Rt _ q) (Ro _) ?_,rfl,q _ (I.hok.fresh (Ro _))⟩;exact⟨RB (yV xs lo hi) hz,_,0,(r.drop (HT.aP xs.length 0 lo)).take (HT.aP xs.length xs.length hi - HT.aP xs.length 0 lo),Sq _ rfl⟩
noncomputable def g8:V->Bool
 |.non=>true
 |.bl _=>true
 |.int _=>true
 |.str _=>true
 |_=>false
noncomputable def iT:V->V->Bool
 |.non,.non=>true
 |.bl a,.bl b=>a==b
 |.bl a,.int b=>(if a then 1 else 0)==b
 |.int a,.bl b=>a==(if b then 1 else 0)
 |.int a,.int b=>a==b
 |.str a,.str b=>a==b
 |_,_=>false
theorem Ft (ry:RelV y u)(rx:RelV x v)(fy:g8 y=true)(fx:g8 x=true):SeqAt.EqAt A s u v (iT y x):=by
  cases y with
  |non=>
    cases ry
    cases x with
    |non=>cases rx;exact Vw _
    |bl b=>cases rx;exact SeqAt.EqAt.none_bool b
    |int b=>obtain⟨t,rfl⟩:=rx;exact SeqAt.EqAt.none_int b t
    |str b=>obtain⟨t,rfl⟩:=rx;exact SeqAt.EqAt.none_str b t
    |_=>exact absurd (show false=true from fx) RK
  |bl a=>
    cases ry
    cases x with
    |non=>cases rx;exact SeqAt.EqAt.bool_none a
    |bl b=>cases rx;exact SeqAt.EqAt.bool_bool a b
    |int b=>obtain⟨t,rfl⟩:=rx;exact SeqAt.EqAt.bool_int a b t
    |str b=>obtain⟨t,rfl⟩:=rx;exact SeqAt.EqAt.bool_str a b t
    |_=>exact absurd (show false=true from fx) RK
  |int a=>
    obtain⟨t',rfl⟩:=ry
    cases x with
    |non=>cases rx;exact SeqAt.EqAt.int_none a t'
    |bl b=>cases rx;exact SeqAt.EqAt.int_bool a t' b
    |int b=>obtain⟨t,rfl⟩:=rx;exact V2 a t' b t
    |str b=>obtain⟨t,rfl⟩:=rx;exact VR a t' b t
    |_=>exact absurd (show false=true from fx) RK
  |str a=>
    obtain⟨t',rfl⟩:=ry
    cases x with
    |non=>cases rx;exact SeqAt.EqAt.str_none a t'
    |bl b=>cases rx;exact SeqAt.EqAt.str_bool a t' b
    |int b=>obtain⟨t,rfl⟩:=rx;exact V0 a t' b t
    |str b=>obtain⟨t,rfl⟩:=rx;exact V3 a t' b t
    |_=>exact absurd (show false=true from fx) RK
  |_=>exact absurd (show false=true from fy) RK
noncomputable def eX (x:V) (u:Value):Bool:=match u with
 |.none=>iT .non x
 |.bool b=>iT (.bl b) x
 |.int i _=>iT (.int i) x
 |.str z _=>iT (.str z) x
 |_=>false
theorem zp (r:RelV y u)(f:g8 y=true):eX x u=iT y x:=by
 cases y with
 |non=>cases r;rfl
 |bl b=>cases r;rfl
 |int i=>obtain⟨t,rfl⟩:=r;rfl
 |str z=>obtain⟨t,rfl⟩:=r;rfl
 |_=>exact absurd (show false=true from f) RK
theorem nA:∀{xs:List V} {us:List Value},Vals xs us->xs.all g8=true->us.any (eX x)=xs.any fun y=>iT y x
  |_,_,.nil,_=>rfl
  |y::xs,u::us,.cons r t,f=>by
    rw[Uo,RN]at f;rw[Vp,Vp,zp r f.1,nA t f.2]
theorem oN (rx:RelV x v)(fx:g8 x=true):∀{xs:List V} {us:List Value},Vals xs us->xs.all g8=true->∀u∈us,SeqAt.EqAt A s u v (eX x u)
  |_,_,.nil,_=>fun u hu=>by cases hu
  |y::xs,u::us,.cons r t,f=>fun u' hu=>by
    rw[Uo,RN]at f;rcases Ss.mp hu with rfl |hu
    · rw[zp r f.1];exact Ft r rx f.1 fx
    · exact oN rx fx t f.2 u' hu
def inV (x:V)(xs:List V):Bool:=xs.any fun y=>iT y x
noncomputable def rQ (K:Fgx) (neg:Bool):R2:=fun x y H Q=>∃p xs,y=.ref p/\(bK K H p xs\/dJ K H p xs)/\g8 x=true/\xs.all g8=true/\Q (.bl (if neg then !inV x xs else inV x xs)) H
theorem Jl:bw X (compareOp .In) (rQ X.K false):=by
 intro pins s σ H x y v u Q I rx ry h;obtain⟨p,xs,rfl,hq,fx,fs,q⟩:=h;cases ry;rcases hq with hq |hq
 ·obtain⟨its,r,pl,hz⟩:=I.list hq;refine SeqAt.in_listAt (eX x) pl.isList (fun w hw=>oN rx fx r fs w (by simpa using hw)) ⟨.bl _,H,I,rfl,?_⟩;rw[show its.toArray.any (eX x)=its.any (eX x) by simp,nA r fs];exact q
 ·obtain⟨its,r,pl,hz⟩:=I.tuple hq;refine SeqAt.in_tupleAt (eX x) pl (fun w hw=>oN rx fx r fs w (by simpa using hw)) ⟨.bl _,H,I,rfl,?_⟩;rw[show its.toArray.any (eX x)=its.any (eX x) by simp,nA r fs];exact q
theorem Jv:bw X (compareOp .NotIn) (rQ X.K true):=by
 intro pins s σ H x y v u Q I rx ry h;obtain⟨p,xs,rfl,hq,fx,fs,q⟩:=h;cases ry;rcases hq with hq |hq
 ·obtain⟨its,r,pl,hz⟩:=I.list hq;refine SeqAt.notIn_listAt (eX x) pl.isList (fun w hw=>oN rx fx r fs w (by simpa using hw)) ⟨.bl _,H,I,rfl,?_⟩;rw[show its.toArray.any (eX x)=its.any (eX x) by simp,nA r fs];exact q
 ·obtain⟨its,r,pl,hz⟩:=I.tuple hq;refine SeqAt.notIn_tupleAt (eX x) pl (fun w hw=>oN rx fx r fs w (by simpa using hw)) ⟨.bl _,H,I,rfl,?_⟩;rw[show its.toArray.any (eX x)=its.any (eX x) by simp,nA r fs];exact q
theorem Er:eN X (.builtin "len") (fun xs H Q=>∃p ys,xs=[.ref p]/\(bK X.K H p ys\/dJ X.K H p ys)/\Q (.int ys.length) H):=by
 intro pins s σ H xs us Q I r h;obtain⟨p,ys,rfl,hq,q⟩:=h;obtain⟨u,rfl,rx⟩:=vals1 r;cases rx;have hn:=mj;rcases hq with hq |hq
 ·obtain⟨its,r',pl,hz⟩:=I.list hq;have hlen:=r'.length;exact Calls.call_len_list pl.isList (by simp only[Rq]<;>omega) ⟨.int ys.length,H,I.tok _,⟨s.toks + 1,by rw[Rq,hlen]⟩,q⟩
 ·obtain⟨its,r',pl,hz⟩:=I.tuple hq;have hlen:=r'.length;exact len_tuple pl (by simp only[Rq]<;>omega) ⟨.int ys.length,H,I.tok _,⟨s.toks + 1,by rw[Rq,hlen]⟩,q⟩
theorem Et:eN X (.builtin "len") (fun xs H Q=>∃z,xs=[.str z]/\z.length<=sizeLine/\Q (.int z.length) H):=by
 intro pins s σ H xs us Q I r h;obtain⟨z,rfl,hz,q⟩:=h;obtain⟨u,rfl,t,rfl⟩:=vals1 r;have hn:=mj;exact len_str (by omega) ⟨.int z.length,H,I.tok _,⟨_,rfl⟩,q⟩
theorem eN.or (h:eN X f r)(h':eN X f r'):eN X f (fun xs H Q=>r xs H Q\/r' xs H Q):=by
 intro pins s σ H xs us Q I rs q;rcases q with q |q
 ·exact h pins s σ H xs us Q I rs q
 ·exact h' pins s σ H xs us Q I rs q
theorem Eu:eN X (.type "list") (fun xs H Q=>∃p ys,xs=[.ref p]/\(bK X.K H p ys\/dJ X.K H p ys)/\∀l,H l=none->Q (.ref l) (upd H l (.lst ys))):=by
 intro pins s σ H xs us Q I r h;obtain⟨p,ys,rfl,hq,q⟩:=h;obtain⟨u,rfl,rx⟩:=vals1 r;cases rx;have fin:∀(its:List Value),Vals ys its->ys.length<=sizeLine->∀(h':Heap) (c':Nat),(∀b o',s.heap.get? b=some o'->h'.get? b=some o')->
   h'.get? s.heap.objs.size=some {cls:=.type "list",dict:=none,data:=.seq its.toArray c',slots:= #[]}->EP X pins σ Q (.ref s.heap.objs.size) {s with heap:=h'}:=fun its r' hz h' c' kp e=>
  ⟨.ref s.heap.objs.size,_,I.laid (t':=s.toks) kp (Ro _) (show fu X.prog X.w _ h' _ (.lst ys) from⟨hz,its,c',r',e⟩),rfl,q _ (I.hok.fresh (Ro _))⟩
 rcases hq with hq |hq
 ·obtain⟨its,r',pl,hz⟩:=I.list hq;have hlen:=r'.length;obtain⟨o,ho,hc,n,hd⟩:=pl.isList;exact call_list_seq p (.inl rfl) ho hc hd (fun h' c' kp e=>fin its r' hz h' c' kp e) (by simp only[Rq]<;>omega)
 ·obtain⟨its,r',pl,hz⟩:=I.tuple hq;have hlen:=r'.length;obtain⟨o,ho,hc,n,hd⟩:=pl;exact call_list_seq p (.inr rfl) ho hc hd (fun h' c' kp e=>fin its r' hz h' c' kp e) (by simp only[Rq]<;>omega)
def xQ (K:Fgx)(T:String)(x:V)(H:Hp):Prop:=match x with
 |.str _=>T="str"
 |.int _=>T="int"
 |.ref p=>(T="list"/\∃xs,bK K H p xs)\/(T="tuple"/\∃o,K.lookup p=some o/\o.cls=.type "tuple"/\o.dict=none)\/
   (T="dict"/\((∃kvs,H p=some (.dK kvs))\/∃kvs,H p=some (.dT kvs)))\/(T="set"/\∃S n,H p=some (.set S n))
 |_=>False
theorem Dm (I:Inv X pins σ H s)(r:RelV x v)(ty:xQ X.K T x H):
    s.TypeIs v T/\∀a,v=.ref a->∃ob,s.heap.get? a=some ob/\ob.dict=none:=by
  cases x with
  |str z=>
    obtain⟨t,rfl⟩:=r;cases (show T="str" from ty);exact⟨typeIs_str s z t,fun _ e=>nomatch e⟩
  |int i=>
    obtain⟨t,rfl⟩:=r;cases (show T="int" from ty);exact⟨typeIs_int s i t,fun _ e=>nomatch e⟩
  |ref p=>
    cases r;rcases ty with⟨rfl,xs,hq⟩ |⟨rfl,o,hk,hc,hd⟩ |⟨rfl,hk⟩ |⟨rfl,S,n,hk⟩
    · obtain⟨its,_,pl,_⟩:=I.list hq;refine⟨pl.isList.typeIs,fun a e=>?_⟩;cases e;obtain⟨o,n,e,c,hd,_⟩:=pl;exact⟨o,e,hd⟩
    · refine⟨⟨o,I.kIn p o hk,hc⟩,fun a e=>?_⟩;cases e;exact⟨o,I.kIn _ o hk,hd⟩
    · have z:∃o,s.heap.get? p=some o/\o.ExactDict:=by
        rcases hk with⟨kvs,hk⟩ |⟨kvs,hk⟩
        · obtain⟨_,_,_,_,o,_,_,e,ex,_⟩:=I.hok p _ hk;exact⟨o,e,ex⟩
        · obtain⟨_,_,_,_,o,_,_,e,ex,_⟩:=I.hok p _ hk;exact⟨o,e,ex⟩
      obtain⟨o,e,ex⟩:=z;refine⟨⟨o,e,ex.1⟩,fun a e2=>?_⟩;cases e2;exact⟨o,e,ex.2.1⟩
    · obtain⟨o,_,_,_,e,ex,_⟩:=I.hok p _ hk;refine⟨⟨o,e,ex.1⟩,fun a e2=>?_⟩;cases e2;exact⟨o,e,ex.2.1⟩
  |_=>exact False.elim ty
noncomputable def wU (K:Fgx) (T:String) (r:V->List V->Hp->VK->Prop) (to:TE):TE:=fun σ H Q=>to σ H fun x H1=>xQ K T x H1/\r x [] H1 Q
noncomputable def PL (K:Fgx) (T:String) (r:V->List V->Hp->VK->Prop) (to:TE) (t:TA):TE:=fun σ H Q=>to σ H fun x H1=>xQ K T x H1/\t σ H1 fun xs H2=>r x xs H2 Q
variable {o e:Expr}{es:List Expr}{to:TE}{t:TA}{name:Str}{apos cpos:Pos}{T id:String}{r:V->List V->Hp->VK->Prop}
theorem JD (pa:PlainAttrs T)(slot:Slot T name id)(hty:typeOf (.builtin id)=pure (.type "method_descriptor"))(hm:qj X id r)(ho:PE X o to)
  (hbase:attributeBase o name X.env (eval o X.env)=eval o X.env:=by rfl) (hline:(apos.endLine==cpos.line)=true:=by rfl):PE X (.Call (.Attribute o name apos) [] [] cpos) (wU X.K T r to):=by
 intro pins s σ H Q I h;refine wpAny_Call_method0_late hbase hline (aU (ho pins s σ H _ I h) fun v s1 ⟨x,H1,I1,r1,ty,q1⟩=>?_);obtain⟨h1,h2⟩:=Dm I1 r1 ty;exact⟨T,id,pa,slot,hty,h1,h2,Calls.callWith_builtin rfl (PySem.evalArgs_none (hm pins s1 σ H1 x [] v [] Q I1 r1 .nil q1))⟩
theorem vp (pa:PlainAttrs T)(slot:Slot T name id)(hty:typeOf (.builtin id)=pure (.type "method_descriptor"))(hm:qj X id r)(ho:PE X o to)(ha:PA X (e::es) t)
  (hbase:attributeBase o name X.env (eval o X.env)=eval o X.env:=by rfl)
  (hfew : ((backTo cpos (starEach (e::es) X.env)).all (fun x=> !x.1) && (backToKw cpos (keywordEach [] X.env)).all (fun x=>x.1.isSome)
   && decide ((e::es).length + ([]:List Keyword).length + (if ([]:List Keyword).isEmpty then 0 else 1)<30))=true:=by rfl)
  (hline:(apos.endLine==cpos.line)=true:=by rfl) (hs:starEach (e::es) X.env=(false,eval e X.env)::starEach es X.env:=by rfl) (hplain:(backTo cpos (starEach es X.env)).any (·.1)=false:=by rfl):
  PE X (.Call (.Attribute o name apos) (e::es) [] cpos) (PL X.K T r to t):=by
 intro pins s σ H Q I h;refine wpAny_Call_method_late hbase hfew hline rfl (aU (ho pins s σ H _ I h) fun v s1 ⟨x,H1,I1,r1,ty,q1⟩=>?_);obtain⟨h1,h2⟩:=Dm I1 r1 ty;refine⟨T,id,pa,slot,hty,h1,h2,?_⟩;have hA:=ha cpos pins s1 σ H1 _ I1 q1;rw[hs]at hA ⊢;refine Calls.callWith_builtin (by show(false || (backTo cpos (starEach es X.env)).any (·.1))=false;rw[hplain]<;>rfl) (Calls.evalArgs_plain ?_)
 exact aU hA fun us s2 ⟨vs,H2,I2,r2,q2⟩=>hm pins s2 σ H2 x vs v us Q I2 r1 r2 q2
end
def yj (X:Cx)(id:String)(r:V->List V->Hp->VK->Prop):Prop:=
 ∀(pins:Pnx) (s:Shared) (σ:St) (H:Hp) (x:V) (xs:List V) (v:Value) (us:List Value) (Q:VK),Inv X pins σ H s->RelV x v->Vals xs us->r x xs H Q->
  wpAny (model X.prog X.w) X.A (call (.builtin id) (v::us)) (EP X pins σ Q) X.xe s
theorem Vals.one:∀{x:V} {us:List Value},Vals [x] us->∃u,us=[u]/\RelV x u
 |_,_,.cons r .nil=>⟨_,rfl,r⟩
theorem Vals.zero:∀{us:List Value},Vals [] us->us=[]
 |_,.nil=>rfl
section
variable {X:Cx}{pins:Pnx}{σ:St}{H:Hp}{s:Shared}{l b:Addr}{xs ys zs:List V}
theorem Inv.lset {its its':List Value}{n:Nat}{f:Array Value->Array Value}{t':Nat}(I:Inv X pins σ H s)(hH:H l=some (.lst xs))
  (e:s.heap.get? l=some {cls:=.type "list",data:=.seq its.toArray n}) (hf:f its.toArray=its'.toArray) (hv:Vals ys its') (hz:ys.length<=sizeLine):
  Inv X pins σ (upd H l (.lst ys)) {s with heap:=s.heap.update l (Obj.mapSeq f),toks:=t'}:=by
 have q:=PySem.IsL.update e f;rw[hf]at q;refine I.write (x:=l) (e:=l) (by rw[hH];exact trivial) (.inl rfl) (fun b' u hb hu=>(SM s.heap (Obj.mapSeq f) (Ux hb)).trans hu) ⟨_,q⟩ ?_;exact⟨hz,its',_,hv,q⟩
theorem Inv.lnew (I:Inv X pins σ H s)(hv:Vals ys its)(hz:ys.length<=sizeLine):
  Inv X pins σ (upd H s.heap.objs.size (.lst ys)) {s with heap:=s.heap.push {cls:=.type "list",data:=.seq its.toArray},toks:=t'}:=
 I.laid (fun _ _ q=>Rt _ q) (Ro _) ⟨hz,its,0,hv,Sq _ rfl⟩
theorem Inv.fresh (I:Inv X pins σ H s):H s.heap.objs.size=none:=I.hok.fresh (Ro _)
theorem Inv.lstM (I:Inv X pins σ H s)(hH:H l=some (.lst xs)):xs.length<=sizeLine/\∃(its:List Value) (n:Nat),Vals xs its/\xs.length=its.length/\s.heap.get? l=some {cls:=.type "list",data:=.seq its.toArray n}:=by
 obtain⟨z,its,n,r,e⟩:=I.hok l _ hH;exact⟨z,its,n,r,r.length,e⟩
end
section
variable {X:Cx}
def L_:V->List V->Hp->VK->Prop:=fun x vs H Q=>∃l xs y,x=.ref l/\vs=[y]/\H l=some (.lst xs)/\xs.length<sizeLine/\Q .non (upd H l (.lst (xs ++ [y])))
theorem uX:yj X "list.append" L_:=by
 intro pins s σ H x vs v us Q I rx rv h;obtain⟨l,xs,y,rfl,rfl,hH,hz,q⟩:=h;cases rx;obtain⟨u,rfl,ru⟩:=rv.one;obtain⟨z,its,n,r,hl,e⟩:=I.lstM hH;refine call_meets F.slot_list_append ⟨_,e,rfl⟩ F.entry_list_append (F.args_list_append_2 _ _) (PySem.list_append l its.toArray n u (by rw[Rq];omega)) ⟨e,?_⟩;refine⟨.non,_,I.lset (its':=its ++ [u]) hH e (by simp) (r.append (.cons ru .nil)) ?_,rfl,q⟩;rw[RG,R_];omega
def Ma:V->List V->Hp->VK->Prop:=fun x vs H Q=>∃l xs,x=.ref l/\vs=[]/\H l=some (.lst xs)/\Q .non (upd H l (.lst []))
theorem Hg:yj X "list.clear" Ma:=by
 intro pins s σ H x vs v us Q I rx rv h;obtain⟨l,xs,rfl,rfl,hH,q⟩:=h;cases rx;have hus:=rv.zero;subst hus;obtain⟨z,its,n,r,hl,e⟩:=I.lstM hH;refine call_meets F.slot_list_clear ⟨_,e,rfl⟩ F.entry_list_clear (F.args_list_clear_1 _) (AutoSeq1.list_clear_list_0 l its.toArray n (by rw[Rq];omega)) ⟨e,?_⟩;exact⟨.non,_,I.lset (its':=[]) (ys:=[]) hH e rfl .nil (Tc _),rfl,q⟩
end
end L2
namespace Att
open PySem PySem.W PySem.Calls PyProof.Rows
theorem Gs:∀(ns:List Int) (vs:List Value),WellAll P h vs (ns.map WData.int)->IntsAre vs ns:=by
  intro ns
  induction ns with
  |nil=>
    intro vs w;rw[Ud]at w;cases w;exact .nil
  |cons n ns ih=>
    intro vs w;rw[R5]at w
    cases w with
    |cons a b=>
      cases a;exact .cons _ _ (ih _ b)
theorem Oq {l:OpenLaw}{n:Nat}(hn:l.most=some n){P:Params}{h:Heap}{args:List WData}{vals:List Value}
    (hpre:l.row.toRowW.claim.pre args=true) (hwl:WellAll P h vals args):
    ∃a vs ns,vals=[Value.ref a]/\args=[WData.list (ns.map WData.int)]/\h.get? a=some {cls:=.type "list",data:=.seq vs.toArray}/\IntsAre vs ns/\ns.length<=n:=by
  have hsh:WShape.hasAll [] args [.list .int]=true:=(pre_splitW hpre).1;have hc:l.pre.holds [] {args:=args}=true:=(pre_splitW hpre).2;obtain⟨d,r,rfl,h1,h2⟩:=hasAllW_cons hsh;obtain rfl:=hasAllW_nil h2;obtain⟨xs,rfl,h3⟩:=hasW_list h1;obtain⟨ns,rfl⟩:=items_int h3;have hlen:ns.length<=n:=by
    unfold OpenLaw.pre at hc;have h4:(WTm.not (.lt (.lit (.int (n:Int))) (.len (.arg 0)))).holds [] {args:=[.list (ns.map .int)]}=true:=by
      have h4:=(holds_andW hc).1;rw[hn]at h4;exact h4
    have h5:=condW_of h4 (w_not (w_lt w_lit (w_len_list (w_arg rfl))));rw[RJ]at h5;refine Ut fun q=>?_;have q':(n:Int)<((ns.length:Nat):Int):=by omega
    first
      |(rw[Tq q']at h5;exact absurd h5 (by decide))
      |(simp at h5;omega)
  cases hwl with
  |cons w1 w2=>
    cases w2
    cases w1 with
    |list ho hall=>exact⟨_,_,ns,rfl,rfl,ho,Gs ns _ hall,hlen⟩
theorem Kg (l:OpenLaw)(args:List WData):l.row.toRowW.claim.post args (.bool true) args=true:=
 postW_of (r:=l.row.toRowW) (X:=(true==true))
  (show WShape.has [] (.bool true) .bool=true by first |rfl |decide |simp[WShape.has,WShape.arms,WShape.armsAll])
  (show(WTm.eq .res (.lit (.bool true))).value [] {args:=args,res:=some (.bool true),after:=args}=some (.bool (true==true)) from w_eq_bool (w_res rfl) w_lit) rfl
theorem Ef {l:OpenLaw}{n:Nat}{q:Program}{loose:List Str}{XP:(Mgx)->Heap->Prop}{YP:World->Heap->Prop}{d:DefRec}
  (hn:l.most=some n) (hdf:d.params.defaults=[])
  (call:∀(w:World) (s₀ s₁:Shared) (mg mb:Mgx) (fa:Addr) (o:Obj) (pm cd doc:Value) (a:Addr) (vs:List Value) (ns:List Int),
   Ground q loose [] XP w s₀ mg mb s₁.heap->YP w s₁.heap->
   s₁.heap.get? fa=some o->o.data=.func (docDef d.name d.params d.body d.scope pm cd doc)->s₁.heap.CodeRec cd d.name->mg d.name=some (.ref fa)->
   s₁.heap.get? a=some {cls:=.type "list",data:=.seq vs.toArray}->IntsAre vs ns->ns.length<=n->s₁.gens= #[]->
   codeAny (model l.prog w) callerA (.call (.ref fa) ⟨[.ref a],[]⟩) (fun r s'=>r=.ok (.ret (.bool true))/\OldK s₁.heap s'.heap/\s'.os=s₁.os/\AllBare s'.gens) s₁):
  WalkO q loose XP YP l.row.toRowW d [] (fun f vs=>PySem.call f vs):=by
 intro w s₀ s₁ mg mb G Y fa o pm cd doc dV kV ho hd hcd hD hmg hg args vals as hpre hlay hrd hwl hlo;obtain rfl:dV=.none:=Dflts.none hD hdf;obtain rfl:kV=.none:=Dflts.noKw hD;obtain⟨a,vs,ns,rfl,rfl,hobj,hints,hlen⟩:=Oq hn hpre hwl;refine enter_call (Wd (call w s₀ s₁ mg mb fa o pm cd doc a vs ns G Y ho (fd_plain hd) hcd hmg hobj hints hlen hg) fun r s' hq=>?_);obtain⟨rfl,h2,h3,h4⟩:=hq;exact⟨.inl ⟨.bool true,.bool true,[],rfl,fun _=>rfl,.bool true,Kg l _,fun _=>⟨List.Pairwise.nil,fun _ hm=>(nomatch hm)⟩⟩,h2,h3,h4⟩
end Att
namespace L2
open PySem PySem.Spec PyProof.Rows
theorem Ds:∀{vs:List Value} {ns:List Int},IntsAre vs ns->Vals (ns.map V.int) vs
 |_,_,.nil=>.nil
 |_,_,.cons n t h=>.cons ⟨t,rfl⟩ (Ds h)
def Only (H:Hp):Prop:=∀b,H b=none\/∃o xs,H b=some (.frz o (.lst xs))
theorem G3 {P:Program}{w:World}{K:Fgx}{mg mb:Mgx}{CX:c7}{k:Nat}{fa a:Addr}{fd:FuncData}{x:Str}{sp:Sp}{s₁:Shared}{vs:List Value}{ns:List Int}
    (KX:K.In s₁.heap) (hns:s₁.heap.Ns mainGlobals mg) (hb:s₁.heap.Ns builtinsNs mb) (hbb:∀x:Str,x≠"__name__"->mb x=bootBuiltins x) (hlim:s₁.heap.NoLimit) (hg:s₁.gens= #[])
    (ha:s₁.heap.get? a=some {cls:=.type "list",data:=.seq vs.toArray}) (hi:IntsAre vs ns) (hl:ns.length<=sizeLine) (hr:Room k callerA)
    (F:∀base:Heap,K.In base->base.Ns mainGlobals mg->FnOk P w K mg base CX k fa fd [x] sp) (hbind:∀(s:Shared) (u:Value),BindsTo s fd ⟨[u],[]⟩ [(x,u)])
    (hsp:∀H:Hp,Only H->bK K H a (ns.map V.int)->sp [.ref a] H (fun v _=>v=.bl true) fun _ _ _=>False)
    (hCX:∀H e s',CX [] H s₁ (fun _ _ _=>False) e s'->False):
    codeAny (model P w) callerA (.call (.ref fa) ⟨[.ref a],[]⟩) (fun r s'=>r=.ok (.ret (.bool true))/\OldK s₁.heap s'.heap/\s'.os=s₁.os/\AllBare s'.gens) s₁:=by
  have rv:=Ds hi;have lenV:=hi.length
  -- from an abstract heap in which nothing but the script may be tracked
  have core:∀H:Hp,Only H->bK K H a (ns.map V.int)->bQ P w H s₁.heap->(∀b,H b≠none->b=a)->(H a≠none->K.lookup a=none)->
      codeAny (model P w) callerA (.call (.ref fa) ⟨[.ref a],[]⟩) (fun r s'=>r=.ok (.ret (.bool true))/\OldK s₁.heap s'.heap/\s'.os=s₁.os/\AllBare s'.gens) s₁:=by
    intro H hO hS hok hA hK;have base_of:∀{b:Addr} {o:Obj},s₁.heap.get? b=some o->H b=none->(cT s₁.heap H).get? b=some o:=fun e n=>Gm e n;have noA:∀{b:Addr} {o:Obj} {es:Array DictEntry} {ep:Nat},s₁.heap.get? b=some o->o.data=.dict es ep->H b=none:=fun {b o es ep} e d=>by
      cases q:H b with
      |none=>rfl
      |some u=>
        have e':b=a:=hA b (by rw[q];simp);subst e';rw[ha]at e;cases e;have d':Data.seq vs.toArray _=Data.dict es ep:=d;cases d'
    have nsK : ∀ {b : Addr} {m : Mgx}, s₁.heap.Ns b m -> (cT s₁.heap H).Ns b m := fun {b m} ⟨o, es, ep, e, d, r⟩ => ⟨o, es, ep, base_of e (noA e d), d, r⟩;have hKb : K.In (cT s₁.heap H) := fun b o e => base_of (KX b o e) (by
      cases q:H b with
      |none=>rfl
      |some u=>
        have e':b=a:=hA b (by rw[q];simp);subst e';rw[hK (by rw[q];simp)]at e;cases e)
    have hM:Mod K mg (cT s₁.heap H):=⟨hKb,nsK hns,⟨mb,nsK hb,hbb⟩,let ⟨mc,h1,h2⟩:=hlim;⟨mc,nsK h1,h2⟩⟩
    have e0:Env0 P w K mg (cT s₁.heap H) callerA [] s₁ H:=⟨rfl,hM,fun b o e=>Iw e,W7 (Gn _ _),trivial,fun b hb=>absurd (show b∈([]:List Addr) from hb) (by simp),hok,.of_eq hg⟩;refine Wd ((F _ hKb (nsK hns)).run callerA [] s₁ H ⟨[.ref a],[]⟩ [.ref a] [.ref a] _ _ hr e0 (hbind s₁ (.ref a)) (.cons rfl .nil) (hsp H hO hS)) fun r s' h=>?_
    cases r with
    |error e=>exact(hCX H e s' h).elim
    |ok fl=>
      cases fl with
      |next=>exact False.elim h
      |brk=>exact False.elim h
      |cont=>exact False.elim h
      |ret u=>
        obtain⟨v,H',os,bare,un,hok',r',q⟩:=h;have q':v=.bl true:=q;subst q';obtain rfl:u=Value.bool true:=r';refine⟨rfl,OldK.of_keep fun b o e=>?_,os,bare⟩
        cases q:H b with
        |none=>exact un.keep b o e q (by intro z;exact absurd (show b∈([]:List Addr) from z) (by simp)) (by simp)
        |some u=>
          rcases hO b with z |⟨ob,xs,z⟩
          · rw[q]at z;cases z
          · have z2:=un.frzs b ob _ z;obtain⟨e1,_⟩:=hok b _ z;obtain⟨e2,_⟩:=hok' b _ z2;rw[e]at e1;cases e1;exact e2
  cases hk:K.lookup a with
  |some o=>
    -- the script is one of the module's own objects
    have e:=KX a o hk;rw[ha]at e;cases e;refine core (fun _=>none) (fun _=>.inl rfl) (.inr ⟨_,vs.toArray,_,hk,rfl,rfl,rfl,by rw[Rq,lenV];exact hl,by simpa using rv⟩) (fun b u z=>by have z':(none:Option HO)=some u:=z;cases z') (fun b z=>absurd rfl z) fun z=>absurd rfl z
  |none=>
    refine core (fun b=>if b=a then some (.frz {cls:=.type "list",data:=.seq vs.toArray} (.lst (ns.map V.int))) else none) (fun b=>?_) (.inl (.inr ⟨{cls:=.type "list",data:=.seq vs.toArray},tG rfl⟩)) (fun b u z=>?_) (fun b z=>?_) fun _=>hk
    · by_cases hb:b=a
      · exact .inr ⟨_,_,tG hb⟩
      · exact .inl (Rn hb)
    · by_cases hb:b=a
      · have z':=(tG hb).symm.trans z;cases z';subst hb;exact⟨ha,by rw[RJ];exact hl,vs,_,rv,ha⟩
      · have z':=(Rn hb).symm.trans z;cases z'
    · by_cases hb:b=a
      · exact hb
      · exact absurd (Rn hb) z
theorem QW {l:PySem.W.OpenLaw}{n k:Nat}{q:Program}{loose:List Str}{XP:(Mgx)->Heap->Prop}{YP:World->Heap->Prop}{d:DefRec}{K:Params->Fgx}{CX:World->c7}{sp:World->Sp}{x:Str}
  (hn:l.most=some n) (hn2:n<=sizeLine) (hdf:d.params.defaults=[]) (hr:Room k callerA)
  (hY:∀(w:World) (h:Heap),YP w h->(K w.params).In h)
  (F:∀(w:World) (mg:Mgx) (fa:Addr) (h:Heap),(K w.params).In h->h.Ns mainGlobals mg->mg d.name=some (.ref fa)->
   ∃fd:FuncData,(∀(s:Shared) (u:Value),BindsTo s fd ⟨[u],[]⟩ [(x,u)])/\
    ∀base:Heap,(K w.params).In base->base.Ns mainGlobals mg->FnOk l.prog w (K w.params) mg base (CX w) k fa fd [x] (sp w))
  (hsp:∀(w:World) (H:Hp) (a:Addr) (ns:List Int),ns.length<=n->Only H->bK (K w.params) H a (ns.map V.int)->sp w [.ref a] H (fun v _=>v=.bl true) fun _ _ _=>False)
  (hCX:∀(w:World) (H:Hp) (s:Shared) (e:Value) (s':Shared),CX w [] H s (fun _ _ _=>False) e s'->False):
  PySem.W.WalkO q loose XP YP l.row.toRowW d [] (fun f vs=>PySem.call f vs):=by
 refine Att.Ef hn hdf fun w s₀ s₁ mg mb fa o pm cd doc a vs ns G Y ho hd hcd hmg hobj hints hlen hg=>?_;have KX:=hY w _ Y;obtain⟨fd,hb,hF⟩:=F w mg fa _ KX G.T.g hmg;exact G3 KX G.T.g G.T.b G.T.builtins G.T.nolimit hg hobj hints (RB hlen hn2) hr hF hb (fun H hO hS=>hsp w H a ns hlen hO hS) fun H e s'=>hCX w H s₁ e s'
theorem QX {l:PySem.W.OpenLaw}{n k:Nat}{q:Program}{loose:List Str}{XP:(Mgx)->Heap->Prop}{YP:World->Heap->Prop}{d:DefRec}{K:Params->Fgx}{CX:c7}{sp:Fgx->Sp}{x:Str}
  (hn:l.most=some n) (hn2:n<=sizeLine) (hdf:d.params.defaults=[]) (hr:Room k callerA)
  (hY:∀(w:World) (h:Heap),YP w h->(K w.params).In h)
  (F:∀(w:World) (mg:Mgx) (fa:Addr) (h:Heap),(K w.params).In h->h.Ns mainGlobals mg->mg d.name=some (.ref fa)->
   ∃fd:FuncData,(∀(s:Shared) (u:Value),BindsTo s fd ⟨[u],[]⟩ [(x,u)])/\
    ∀base:Heap,(K w.params).In base->base.Ns mainGlobals mg->FnOk l.prog w (K w.params) mg base CX k fa fd [x] (sp (K w.params)))
  (hsp:∀(K:Fgx) (H:Hp) (a:Addr) (ns:List Int),ns.length<=n->Only H->bK K H a (ns.map V.int)->sp K [.ref a] H (fun v _=>v=.bl true) fun _ _ _=>False)
  (hCX:∀(H:Hp) (s:Shared) (e:Value) (s':Shared),CX [] H s (fun _ _ _=>False) e s'->False):
  PySem.W.WalkO q loose XP YP l.row.toRowW d [] (fun f vs=>PySem.call f vs):=
 QW (K:=K) (CX:=fun _=>CX) (sp:=fun w=>sp (K w.params)) hn hn2 hdf hr hY F (fun w H a ns h1 h2 h3=>hsp (K w.params) H a ns h1 h2 h3) fun _ H s e s'=>hCX H s e s'
noncomputable def bR (s:Stmt):Arguments:=match s with
 |.FunctionDef _ a _ _ _ _ _ _ _ _=>a
 |_=>{posonlyargs:=[],args:=[],vararg:=none,kwonlyargs:=[],kw_defaults:=[],kwarg:=none,defaults:=[]}
noncomputable def bL (s:Stmt):List Stmt:=match s with
 |.FunctionDef _ _ b _ _ _ _ _ _ _=>b
 |_=>[]
noncomputable def aM (s:Stmt):Scope:=match s with
 |.FunctionDef _ _ _ _ _ _ sc _ _ _=>sc
 |_=>{kind:=.function,names:=[],isGenerator:=false,isCoroutine:=false}
abbrev d8:c7:=fun _ _ _ _ _ _=>False
abbrev E0:XK:=fun _ _ _=>False
theorem Jz:Passes d8 X E0:=fun _ _ _ _ _ _ _ h=>h.elim
structure Fun (K:Fgx)(x qual:Str)(st:Stmt)(f:Addr)(fd:FuncData):Prop where
 ex:∃(oc:Value) (od:Option Addr) (kV doc pm:Value) (an:Option Addr) (cdv ct:Value) (osl:Array (Option Value)),
  fd=PySem.W.fnOf x qual (bR st) (bL st) (aM st) .none kV doc pm an cdv ct/\K.lookup f=some ⟨oc,od,.func fd,osl⟩/\PySem.W.codeIn K cdv qual=true
 kp:PySem.W.keepIn K (.ref f)=true
section
variable {P:Program}{w:World}{K:Fgx}{mg:Mgx}{base:Heap}
theorem Fun.binds {x qual:Str}{st:Stmt}{f:Addr}{fd:FuncData}{ps:List Str}(F:Fun K x qual st f fd)
  (h:∀(kV doc pm:Value) (an:Option Addr) (cdv ct:Value) (us:List Value),us.length=ps.length->bindArgs (PySem.W.fnOf x qual (bR st) (bL st) (aM st) .none kV doc pm an cdv ct) ⟨us,[]⟩=pure (ps.zip us)):Binds K fd ps []:=by
 obtain⟨oc,od,kV,doc,pm,an,cdv,ct,osl,rfl,lk,hcd⟩:=F.ex;exact .all (h kV doc pm an cdv ct)
theorem zO {x qual:Str}{st:Stmt}{f:Addr}{oc:Value}{od an:Option Addr}{osl:Array (Option Value)}{kV doc pm cdv ct:Value}(l:K.lookup f=some ⟨oc,od,.func (PySem.W.fnOf x qual (bR st) (bL st) (aM st) .none kV doc pm an cdv ct),osl⟩)
  (c:PySem.W.codeIn K cdv qual=true) (k:PySem.W.keepIn K (.ref f)=true):Fun K x qual st f (PySem.W.fnOf x qual (bR st) (bL st) (aM st) .none kV doc pm an cdv ct):=⟨⟨oc,od,kV,doc,pm,an,cdv,ct,osl,rfl,l,c⟩,k⟩
end
def Same (H H':Hp):Prop:=∀b o,H b=some o->H' b=some o
theorem Same.refl (H:Hp):Same H H:=fun _ _ h=>h
theorem Same.free (e:Same H H')(h:H' l=Option.none):H l=Option.none:=by
  cases q:H l with
  |none=>rfl
  |some o=>
    rw[e l o q]at h;cases h
end L2
set_option maxHeartbeats 0
namespace L2
open PySem PySem.Spec PyProof.Rows
section
variable {κ:Type}[DecidableEq κ]
noncomputable def d7 (kvs:List (κ×V)) (k:κ):Option V:=(kvs.find? fun kv=>decide (kv.1=k)).map (·.2)
noncomputable def putK (kvs:List (κ×V)) (k:κ) (v:V):List (κ×V):=
 if (kvs.any fun kv=>decide (kv.1=k))=true then kvs.map (fun kv=>if kv.1=k then(kv.1,v) else kv) else kvs ++ [(k,v)]
theorem QB {p:κ×V}{r:List (κ×V)}{k:κ}(e:p.1=k):d7 (p::r) k=some p.2:=by simp[d7,List.find?_cons,e]
theorem Qz {p:κ×V}{r:List (κ×V)}{k:κ}(e:¬ p.1=k):d7 (p::r) k=d7 r k:=by simp[d7,List.find?_cons,e]
theorem Qy (k:κ):∀kvs:List (κ×V),(kvs.any fun kv=>decide (kv.1=k))=(d7 kvs k).isSome
  | []=>rfl
  |p::r=>by
    rw[Vp]
    by_cases e:p.1=k
    · simp only[QB e,Tq e,Bool.true_or,Option.isSome_some]
    · rw[Qz e,R4 e,Bool.false_or];exact Qy k r
end
abbrev KT (H:Hp):List (List Key×V)->List (List Key×Addr×Value)->Prop:=Paired fun p q=>p.1=q.1/\H q.2.1=some (.tup (p.1.map kV))/\RelV p.2 q.2.2
def Dv (H:Hp)(a:Addr)(y:V)(r:Option V):Prop:=
 (∃kvs k,Rd H a (.dK kvs)/\y=kV k/\r=d7 kvs k)\/∃kvs k b,Rd H a (.dT kvs)/\y=.ref b/\H b=some (.tup (k.map kV))/\r=d7 kvs k
def Dw (H:Hp)(a:Addr)(y v:V)(H':Hp):Prop:=
 (∃kvs k,H a=some (.dK kvs)/\y=kV k/\kvs.length<sizeLine/\H'=upd H a (.dK (putK kvs k v)))\/
 ∃kvs k b,H a=some (.dT kvs)/\y=.ref b/\H b=some (.tup (k.map kV))/\kvs.length<sizeLine/\H'=upd H a (.dT (putK kvs k v))
noncomputable def Rj (kvs more:List (Key×V)):List (Key×V):=more.foldl (fun acc kv=>putK acc kv.1 kv.2) kvs
structure M1 (X:Cx)(o:Expr)(m:Str)(apos:Pos)(e:Expr)(cpos:Pos):Prop where
 base:attributeBase o m X.env (eval o X.env)=eval o X.env
 few : ((backTo cpos (starEach [e] X.env)).all (fun x=> !x.1) && (backToKw cpos (keywordEach [] X.env)).all (fun x=>x.1.isSome)
  && decide (([e]:List Expr).length + ([]:List Keyword).length + (if ([]:List Keyword).isEmpty then 0 else 1)<30))=true
 line:(apos.endLine==cpos.line)=true
 trees:backTo cpos (starEach [e] X.env)=[(false,eval e X.env)]
structure M2 (X:Cx)(o:Expr)(m:Str)(apos:Pos)(e f:Expr)(cpos:Pos):Prop where
 base:attributeBase o m X.env (eval o X.env)=eval o X.env
 few : ((backTo cpos (starEach [e,f] X.env)).all (fun x=> !x.1) && (backToKw cpos (keywordEach [] X.env)).all (fun x=>x.1.isSome)
  && decide (([e,f]:List Expr).length + ([]:List Keyword).length + (if ([]:List Keyword).isEmpty then 0 else 1)<30))=true
 line:(apos.endLine==cpos.line)=true
 trees:backTo cpos (starEach [e,f] X.env)=[(false,eval e X.env),(false,eval f X.env)]
end L2
namespace Att
open PySem PySem.W PySem.Calls PyProof.Rows
end Att
namespace L2
open PySem PySem.Spec PyProof.Rows
theorem Pz:∀{us:List Value},Vals (ys.map V.str) us->StrsAre us ys:=by
  induction ys with
  |nil=>intro us r;rw[Ud]at r;cases r;exact .nil
  |cons n ns ih=>
    intro us r;rw[R5]at r
    cases r with
    |cons r1 r2=>
      obtain⟨t,e⟩:=r1;subst e;exact .cons n t (ih r2)
section
variable {X:Cx}
def rJoin (K:Fgx):V->List V->Hp->VK->Prop:=fun x vs H Q=>∃z l ys,x=.str z/\vs=[.ref l]/\bK K H l (ys.map V.str)/\z.length<=16/\(ys.map (·.length)).sum + ys.length<=1048576/\Q (.str (Txt.join z ys)) H
theorem Hh:qj X "str.join" (rJoin X.K):=by
 intro pins s σ H x vs v us Q I rx rv h;obtain⟨z,l,ys,rfl,rfl,hq,h1,h2,q⟩:=h;obtain⟨t,rfl⟩:=rx;obtain⟨u,rfl,ru⟩:=rv.one;cases ru;obtain⟨its,r,pl,hz⟩:=I.list hq;exact join_listW pl.isList (by simpa using Pz r) h1 h2 fun t' k=>⟨.str _,H,I.tok _,⟨_,rfl⟩,q⟩
def vP:V->Option Int->Option Int->Hp->VK->Prop:=fun x lo hi H Q=>∃z,x=.str z/\z.length<=sizeLine/\Q (.str (Txt.slice z lo hi)) H
theorem O1:jr X vP:=by
 intro pins s σ H x v vl vu lo hi sl Q I rx hs pl pu h;obtain⟨z,rfl,hz,q⟩:=h;obtain⟨t,rfl⟩:=rx;refine⟨"str",_,F.slot_str_getitem.lookup,typeIs_str _ _ _,?_⟩;obtain⟨o,ho,hc,hd⟩:=hs;cases pl<;>cases pu
 ·exact Uw (l:=none) (u:=none) (st:=none) ⟨o,ho,hc,hd⟩ rfl (Vx ⟨RB (Wg z none none) hz,fun t' k=>⟨.str _,H,I.tok _,⟨_,rfl⟩,q⟩⟩)
 ·rename_i j uj;exact Uw (l:=none) (u:=some (j,uj)) (st:=none) ⟨o,ho,hc,hd⟩ rfl (Vx ⟨RB (Wg z none (some j)) hz,fun t' k=>⟨.str _,H,I.tok _,⟨_,rfl⟩,q⟩⟩)
 ·rename_i i ui;exact Uw (l:=some (i,ui)) (u:=none) (st:=none) ⟨o,ho,hc,hd⟩ rfl (Vx ⟨RB (Wg z (some i) none) hz,fun t' k=>⟨.str _,H,I.tok _,⟨_,rfl⟩,q⟩⟩)
 ·rename_i i ui j uj;exact Uw (l:=some (i,ui)) (u:=some (j,uj)) (st:=none) ⟨o,ho,hc,hd⟩ rfl (Vx ⟨RB (Wg z (some i) (some j)) hz,fun t' k=>⟨.str _,H,I.tok _,⟨_,rfl⟩,q⟩⟩)
theorem Jo:bw X (compareOp .Is) (fun x y H Q=>∃b,y=.bl b/\Q (.bl (decide (x=.bl b))) H):=by
 intro pins s σ H x y v u Q I rx ry h;obtain⟨b,rfl,q⟩:=h;cases ry
 cases x with
 |bl c=>cases rx;exact Rw (aW I q (by cases b<;>cases c<;>rfl))
 |non=>cases rx;exact Rw (aW I q (by simp))
 |int _=>obtain⟨t,rfl⟩:=rx;exact Rw (aW I q (by simp))
 |str _=>obtain⟨t,rfl⟩:=rx;exact Rw (aW I q (by simp))
 |byt _=>obtain⟨t,rfl⟩:=rx;exact Rw (aW I q (by simp))
 |flt _=>obtain⟨t,rfl⟩:=rx;exact Rw (aW I q (by simp))
 |ref _=>cases rx;exact Rw (aW I q (by simp))
 |ty _=>cases rx;exact Rw (aW I q (by simp))
theorem Jq:bw X (compareOp .IsNot) (fun x y H Q=>∃b,y=.bl b/\Q (.bl (!decide (x=.bl b))) H):=by
 intro pins s σ H x y v u Q I rx ry h;obtain⟨b,rfl,q⟩:=h;cases ry
 cases x with
 |bl c=>cases rx;exact Rw (aW I q (by cases b<;>cases c<;>rfl))
 |non=>cases rx;exact Rw (aW I q (by simp))
 |int _=>obtain⟨t,rfl⟩:=rx;exact Rw (aW I q (by simp))
 |str _=>obtain⟨t,rfl⟩:=rx;exact Rw (aW I q (by simp))
 |byt _=>obtain⟨t,rfl⟩:=rx;exact Rw (aW I q (by simp))
 |flt _=>obtain⟨t,rfl⟩:=rx;exact Rw (aW I q (by simp))
 |ref _=>cases rx;exact Rw (aW I q (by simp))
 |ty _=>cases rx;exact Rw (aW I q (by simp))
theorem range_any (bs:List Bool):(List.range bs.length).any (fun i=>(bs[i]?).getD false)=bs.any id:=by
 rw[Tg,List.any_eq_true,List.any_eq_true]
 constructor
 ·rintro⟨i,hi,h⟩;have hi':=UJ.mp hi;rw[Rr hi']at h;exact⟨_,U4 hi',h⟩
 ·rintro⟨b,hb,h⟩;obtain⟨i,hi,e⟩:=List.mem_iff_getElem.mp hb;refine⟨i,UJ.mpr hi,?_⟩;rw[Rr hi,e];exact h
theorem El {bs:List Bool}{its:List Value}(r:Vals (bs.map V.bl) its){i:Nat}{v:Value}(h:its.toArray[i]? =some v):v=.bool ((bs[i]?).getD false):=by
 have h':its[i]? =some v:=by simpa using h
 have hl:=r.length;rw[RJ]at hl;have hi:i<bs.length:=by
  have:=(RL.mp h').1;omega
 have hx:(bs.map V.bl)[i]? =some (V.bl bs[i]):=by rw[Rx,Rr hi];rfl
 obtain⟨u,hu,ru⟩:=r.get hx;rw[h']at hu;cases hu;rw[Rr hi];exact ru
theorem Eo (hc:X.calm=true):eN X (.builtin "any") (fun xs H Q=>∃(p:Addr) (bs:List Bool),xs=[.ref p]/\bK X.K H p (bs.map V.bl)/\Q (.bl (bs.any id)) H):=by
 intro pins s σ H xs us Q I r h;obtain⟨p,bs,rfl,hq,q⟩:=h;obtain⟨u,rfl,ru⟩:=vals1 r;cases ru;obtain⟨its,rv,pl,hz⟩:=I.list hq;have hp:p<s.heap.objs.size:=by obtain⟨o,ho,_⟩:=pl.isList;exact Rv ho
 have hn:its.toArray.size=bs.length:=by rw[Rq, <-rv.length,RJ]
 refine call_any_walk (wpAny_pyIter_list pl.isList ⟨s.heap.objs.size,_,_,its.toArray.size,_,_,fun i=>(bs[i]?).getD false,rfl,Walks.list (A:=X.A.in1) (show X.A.in1.handled=none from I.ok.hd hc) _ p (RX hp) its.toArray,
  ⟨⟨_,Sq _ rfl,rfl,rfl⟩,pl.isList.at fun o e=>Rt _ e⟩,fun i v s' Q' E' hv hQ=>?_,fun h' tk kk=>?_⟩)
 ·rw[El rv hv];exact Vi hQ
 ·rw[hn,range_any];refine⟨.bl _,H,I.kept fun b o e=>kk b o ?_ (Rt _ e),rfl,q⟩;intro z;have z':b=s.heap.objs.size:=by simpa using z
  exact Um _ (z' ▸ Rv e)
end
abbrev TJ:=Str->St->Hp->VK->Prop
theorem zL (g:α->β->β):∀(l:List α) (b:β),(∀x∈l,∀b,f x b=pure (.yield (g x b)))->(forIn l b f:Sem β)=pure (l.foldl (fun b x=>g x b) b)
  | [],b,_=>rfl
  |x::l,b,h=>by
    rw[List.forIn_cons,h x R6 b];simp only[pure_bind,Vy];exact zL g l (g x b) fun y hy=>h y (RP _ hy)
noncomputable def gZ (cells:List (Str×Addr)) (cs:List (Str×Addr)) (x:Str×NameKind):List (Str×Addr):=if x.2=.free then(x.1,(cells.lookup x.1).getD 0)::cs else cs
noncomputable def eV (cells:List (Str×Addr)) (names:List (Str×NameKind)):List (Str×Addr):=names.foldl (gZ cells) []
theorem Ez (h:∀y∈scope.names,y.2=.free->∃c,env.cells.lookup y.1=some c):closureFor scope env=pure (eV env.cells scope.names):=by
 simp only [closureFor];rw [zL (fun x cs => gZ env.cells cs x) scope.names [] (fun x hx c=>by
  obtain⟨n,kind⟩:=x
  by_cases hk:kind=.free
  ·obtain⟨a,ha⟩:=h _ hx hk;subst hk;have ha':env.cells.lookup n=some a:=ha
   simp[cellOf,ha',gZ]
  ·have hk':(kind==NameKind.free)=false:=by simpa using hk
   simp[hk',hk,gZ])]
 rfl
theorem yO:∀(names:List (Str×NameKind)) (acc:List (Str×Addr)),(∀y∈names,y.2=.free->∃c,cells.lookup y.1=some c)->
    (∀x c,acc.lookup x=some c->cells.lookup x=some c)->∀x c,(names.foldl (gZ cells) acc).lookup x=some c->cells.lookup x=some c
  | [],_,_,h,x,c,e=>h x c e
  |(n,k)::r,acc,hc,h,x,c,e=>by
    rw[Vy]at e;refine yO r _ (fun y hy=>hc y (RP _ hy)) ?_ x c e;intro y d hd;unfold gZ at hd
    by_cases hk:k=.free
    · obtain⟨a,ha⟩:=hc (n,k) R6 hk;have ha':cells.lookup n=some a:=ha;simp only[hk,Ub,ha',Option.getD_some,Uc]at hd
      cases hyn:y==n with
      |true=>
        rw[hyn]at hd;have e2:=eq_of_beq hyn;subst e2;exact ha'.trans hd
      |false=>
        rw[hyn]at hd;exact h y d hd
    · simp only[hk,U3]at hd;exact h y d hd
theorem uc:∀(names:List (Str×NameKind)) (acc:List (Str×Addr)) (x:Str),((x,NameKind.free)∈names\/∃c,acc.lookup x=some c)->∃c,(names.foldl (gZ cells) acc).lookup x=some c
  | [],acc,x,h=>by
    rcases h with h |h
    · exact absurd h (by simp)
    · exact h
  |(n,k)::r,acc,x,h=>by
    rw[Vy];refine uc r _ x ?_;have keep:(∃c,acc.lookup x=some c)->∃c,(gZ cells acc (n,k)).lookup x=some c:=fun⟨c,hc⟩=>by
      unfold gZ
      by_cases hk:k=.free
      · simp only[hk,Ub,Uc]
        cases hxn:x==n with
        |true=>exact⟨_,rfl⟩
        |false=>exact⟨c,hc⟩
      · simp only[hk,U3];exact⟨c,hc⟩
    rcases h with h |h
    · rcases Ss.mp h with h |h
      · cases h;refine .inr ?_;unfold gZ;simp only[Ub,Uc,TF];exact⟨_,rfl⟩
      · exact .inl h
    · exact .inr (keep h)
noncomputable def bZ (psc:Scope) (names:List (Str×NameKind)):List (Str×NameKind):=names.map fun(n,k)=>if (k==.free && psc.kind==.function && psc.names.lookup n==some .cell) then(n,.cell) else(n,k)
theorem pG {psc:Scope}:∀{names:List (Str×NameKind)} {x:Str} {k':NameKind},(bZ psc names).lookup x=some k'->(k'=.cell\/k'=.free)->(∀y∈names,y.2≠ .cell)->(x,NameKind.free)∈names
  | [],_,_,h,_,_=>by simp[bZ]at h
  |(n,k)::r,x,k',h,hk,hn=>by
    have ih:= @pG psc r x k';have h':List.lookup x ((if (k==NameKind.free && psc.kind==.function && psc.names.lookup n==some .cell)=true then(n,NameKind.cell) else(n,k))::bZ psc r)=some k':=h
    cases hx:x==n with
    |true=>
      have e:=eq_of_beq hx;subst e
      by_cases hc:(k==NameKind.free && psc.kind==.function && psc.names.lookup x==some .cell)=true
      · have hkf:k=.free:=by
          cases k<;>first |rfl |(exfalso;simp at hc)
        rw[hkf];exact R6
      · rw[Rn hc]at h';simp only[Uc,TF]at h';have e2:k=k':=RM h';subst e2;rcases hk with hk |hk
        · exact absurd hk (hn (x,k) R6)
        · rw[hk];exact R6
    |false=>
      refine RP _ (ih ?_ hk fun y hy=>hn y (RP _ hy))
      by_cases hc:(k==NameKind.free && psc.kind==.function && psc.names.lookup n==some .cell)=true
      · rw[tG hc]at h';simp only[Uc,hx]at h';exact h'
      · rw[Rn hc]at h';simp only[Uc,hx]at h';exact h'
noncomputable def dw (cs:List (Str×Nat)) (σ:St):St:=cs.map fun p=>(σ[p.2]?).join
abbrev dz (X:Cx)(Nc:List Str)(scope:Scope)(cl:List (Str×Addr))(C:Addr)(s₀:Shared)(H₀:Hp)(ex:List Addr)(pn:Pnx):Cx:=
 {X with N:=Nc,s₀:=s₀,H₀:=H₀,env:=compEnvC scope cl C X.env,outer:=X.stack,ex:=ex,fn:=fun _=>false,pn:=pn,xe:=fun _ _=>False}
noncomputable def qD (N:List Str) (psc:Scope) (x:Str) (cs:List (Str×Nat)) (scope:Scope):Bool:=
 scope.kind==.function && scope.names.lookup x==some .local && decide ((x::cs.map (·.1)).Nodup) &&
 scope.names.all (fun y=>y.2 !=.cell && (y.2 !=.local || scope.names.lookup y.1==some .local) && (y.2 !=.free || (psc.names.lookup y.1==some .cell || psc.names.lookup y.1==some .free))) &&
 cs.all (fun p=>N[p.2]? ==some p.1 && (psc.names.lookup p.1==some .cell || psc.names.lookup p.1==some .free) && ((bZ psc scope.names).lookup p.1==some .cell || (bZ psc scope.names).lookup p.1==some .free))
structure CompOk (N:List Str)(psc:Scope)(x:Str)(cs:List (Str×Nat))(scope:Scope):Prop where
 kind:scope.kind=.function
 own:scope.names.lookup x=some .local
 nd:(x::cs.map (·.1)).Nodup
 cell:∀y∈scope.names,y.2≠ .cell
 names:∀y∈scope.names,y.2=.local->scope.names.lookup y.1=some .local
 has:∀y∈scope.names,y.2=.free->psc.names.lookup y.1=some .cell\/psc.names.lookup y.1=some .free
 cap:∀p∈cs,N[p.2]? =some p.1/\(psc.names.lookup p.1=some .cell\/psc.names.lookup p.1=some .free)/\((bZ psc scope.names).lookup p.1=some .cell\/(bZ psc scope.names).lookup p.1=some .free)
theorem CompOk.of (h:qD N psc x cs scope=true):CompOk N psc x cs scope:=by
 unfold qD at h;simp only[RN,Wu,TV,Vz,T8,bne_iff_ne,ne_eq]at h;obtain⟨⟨⟨⟨h1,h2⟩,h3⟩,h4⟩,h5⟩:=h;refine⟨h1,h2,h3,fun y hy=>(h4 y hy).1.1,fun y hy e=>?_,fun y hy e=>?_,fun p hp=>⟨(h5 p hp).1.1,(h5 p hp).1.2,(h5 p hp).2⟩⟩
 ·rcases(h4 y hy).1.2 with z |z
  ·exact absurd e z
  ·exact z
 ·rcases(h4 y hy).2 with z |z
  ·exact absurd e z
  ·exact z
def gw (X:Cx)(ifs:List Expr)(t:TT):Prop:=
 ∀(pins:Pnx) (s:Shared) (σ:St) (H:Hp) (Q:Bool->Hp->Prop),Inv X pins σ H s->t σ H Q->
  wpAny (model X.prog X.w) X.A (forIn ifs true fun c r=>if r=true then do let ok <-isTrue c X.env (eval c X.env);pure (ForInStep.yield ok) else pure (ForInStep.yield r)) (TP X pins σ Q) X.xe s
def lF:TT:=fun _ H Q=>Q true H
theorem Ka:gw X [] lF:=fun _ _ _ H _ I h=>wpAny_tests_nil ⟨H,I,h⟩
theorem Kc (h:PT X c t):gw X [c] t:=fun pins s σ H Q I hw=>wpAny_tests_one (h pins s σ H Q I hw)
def wW (wi:TI)(tq:TT)(te:TE)(cs:List (Str×Nat)):St->Hp->(Addr->Hp->Prop)->Prop:=fun σ H R=>wi σ H fun J H1=>∀D,H1 D=none->
  ∃W:Nat->Nat->List V->Hp->Prop,(∃m,W 0 m [] (upd H1 D (.lst [])))/\∀i m ys H2,W i m ys H2->H2 D=some (.lst ys)/\
    ((J.stop i H2 /\ R D H2) \/ (J.go i H2/\ys.length<sizeLine/\∃N:List V->Hp->Prop,(∀ys' H',N ys' H'->∃m',m'<m/\W (i + 1) m' ys' H')/\∀v H3,J.yld i H2 v H3->tq (some v::dw cs σ) H3 fun b H4=>
      if b=true then te (some v::dw cs σ) H4 fun y H5=>H5 D=some (.lst ys)/\N (ys ++ [y]) (upd H5 D (.lst (ys ++ [y]))) else N ys H4))
section
variable {prog:Program}{w:World}{A:Around}{R:Result->Shared->Prop}{s:Shared}
theorem Fb (I:Nat->Shared->Prop)
    (turn : ∀ n s, I n s -> wpAny (model prog w) A (pyNext it) (fun r s₁=>match r with
      |none=>R (.ok .next) s₁
      | some v => wpAny (model prog w) A (letOwnedTupleGo target it v) (fun _ s₁' => wpAny (model prog w) A (assign target env v) (fun _ s₂=>
          wpAny (model prog w) A (forIn ifs true fun c r => if r = true then do let ok <- isTrue c env (eval c env); pure (ForInStep.yield ok) else pure (ForInStep.yield r)) (fun ok s₃=>
            if ok = true then wpAny (model prog w) A (eval elt env) (fun x s₄=>
              wpAny (model prog w) A (call (.builtin "list.append") [acc,x]) (fun _ s₅=>∃m,m<n/\I m s₅) (fun _ _=>False) s₄) (fun _ _=>False) s₃
            else ∃m,m<n/\I m s₃) (fun _ _=>False) s₂) (fun _ _=>False) s₁') (fun _ _=>False) s₁) (fun _ _=>False) s)
    (n:Nat) (h:I n s):
    codeAny (model prog w) A (.compLoop (.ListComp elt [⟨target,iter,ifs,0⟩] scope pos) 0 it acc env) R s:=by
  refine codeAny_loop rfl I (fun n s hI=>?_) n h;show wpAny _ A ((compTurn (.ListComp elt [⟨target,iter,ifs,0⟩] scope pos) 0 it acc env).onRaise (fun x=>do noteFrame x env;theTreesLotGoes x)) _ _ s
  refine wpAny_noted ?_;rw[compTurn_list];refine Rp (wpAny_standAt (Rp (S_ (turn n s hI) (fun r s₁ h₁=>?_) fun _ _ h'=>h'.elim)))
  cases r with
  |none=>exact Rw h₁
  |some v=>
    refine Rp (S_ h₁ (fun _ s₁' h₁'=>?_) fun _ _ h'=>h'.elim);refine Rp (S_ h₁' (fun _ s₂ h₂=>Rp (S_ h₂ (fun ok s₃ h₃=>?_) fun _ _ h'=>h'.elim)) fun _ _ h'=>h'.elim)
    cases ok with
    |false=>exact Rw ⟨rfl,h₃⟩
    |true=>
      exact Rp (Rp (S_ h₃ (fun x s₄ h₄=>Rp (S_ h₄ (fun _ s₅ h₅=>Rw (Rw ⟨rfl,h₅⟩)) fun _ _ h'=>h'.elim)) fun _ _ h'=>h'.elim))
end
section
variable {X:Cx}{elt iter:Expr}{ifs:List Expr}{x:Str}{px:Pos}{scope:Scope}{pos:Pos}{wi:TI}{tq:TT}{te:TE}{cs:List (Str×Nat)}
theorem Fd (hc:X.calm=true)(hi:PI X (.Name x px) iter wi)
    (hq:∀(cl:List (Str×Addr)) (C:Addr) (s₀:Shared) (H₀:Hp) (ex:List Addr) (pn:Pnx),gw (dz X (x::cs.map (·.1)) scope cl C s₀ H₀ ex pn) ifs tq)
    (he:∀(cl:List (Str×Addr)) (C:Addr) (s₀:Shared) (H₀:Hp) (ex:List Addr) (pn:Pnx),PE (dz X (x::cs.map (·.1)) scope cl C s₀ H₀ ex pn) elt te)
    (ok:CompOk X.N X.env.scope x cs scope) {pins:Pnx} {s:Shared} {σ:St} {H:Hp} {R:Addr->Hp->Prop} (I:Inv X pins σ H s) (h:wW wi tq te cs σ H R)
    {RR:Value->Addr->Result->Shared->Prop}
    (hRR:∀(D C:Addr) (oC:Obj) (H':Hp) (s':Shared),Inv X (pins ++ [(C,oC)]) σ H' s'->(∀h':Heap,h'.get? C=some oC->∃m,h'.Ns C m)->cP X pins H' C->R D H'->RR (.ref D) C (.ok .next) s'):
    wpAny (model X.prog X.w) X.A (eval iter X.env) (fun xv s₁ => wpAny (model X.prog X.w) X.A (pyIter xv) (fun itv s₂ => wpAny (model X.prog X.w) X.A (newList []) (fun acc s₃=>
      wpAny (model X.prog X.w) X.A (newFunctionEnv scope X.env.globals (eV X.env.cells scope.names) [] X.env.qual none .none (some X.env)) (fun cenv s₄=>
        codeAny (model X.prog X.w) X.A (.compStart (.ListComp elt [⟨.Name x px,iter,ifs,0⟩] scope pos) 0 itv acc {cenv with scope:=relabel scope X.env}) (RR acc cenv.locals) s₄) X.xe s₃) X.xe s₂) X.xe s₁) X.xe s:=by
  refine aU (hi pins s σ H _ I h) fun v s1 h1=>aU h1 fun itv s2 h2=>?_;obtain⟨it,fp,tn,J,H2,e,I2,T,st2,f2,h2⟩:=h2;subst e;have hhas:∀y∈scope.names,y.2=.free->∃c,X.env.cells.lookup y.1=some c:=fun y hy hk=>I2.ok.has y.1 (ok.has y hy hk);refine Ur (wpAny_newFunctionEnv ok.cell (by intro y hy;simp at hy) (fun h₁ hns₁ hsb₁=>?_) ok.kind);dsimp only at hns₁ hsb₁ ⊢;generalize hHH:s2.heap.push {cls:=.type "list",dict:=none,data:=.seq ([]:List Value).toArray}=HH at hns₁ hsb₁ ⊢;have hC:HH.objs.size=s2.heap.objs.size + 1:=by rw[<-hHH,Heap.size_push]
  have hDC:s2.heap.objs.size≠HH.objs.size:=by rw[hC];exact RX (Nat.lt_succ_self _)
  have hCle:s2.heap.objs.size<=HH.objs.size:=by rw[hC];exact WD _
  have below:∀b,b<s2.heap.objs.size->b≠HH.objs.size:=fun b hb=>by rw[hC];exact RX (Vj hb)
  have old:∀b o,s2.heap.get? b=some o->h₁.get? b=some o:=fun b o e=>hsb₁.extBut b o (below b (Rv e)) (Rt _ (hHH ▸ Rt _ e));have hacc:h₁.get? s2.heap.objs.size=some {cls:=.type "list",dict:=none,data:=.seq ([]:List Value).toArray}:=hsb₁.extBut _ _ hDC (Rt _ (hHH ▸ Sq _ rfl));have nD:H2 s2.heap.objs.size=none:=I2.hok.fresh (Ro _);have nC:H2 HH.objs.size=none:=I2.hok.fresh hCle;obtain⟨W,⟨m0,w0⟩,turn⟩:=h2 s2.heap.objs.size nD
  -- the block's context
  have fpC:∀b∈fp,b≠HH.objs.size:=fun b hb=>by
    obtain⟨o,ho,_⟩:=T.obj 0 _ st2 b hb;exact below b (Rv ho)
  have fpD:∀b∈fp,b≠s2.heap.objs.size:=fun b hb=>by
    obtain⟨o,ho,_⟩:=T.obj 0 _ st2 b hb;exact RX (Rv ho)
  have pinC:∀p∈X.pn ++ pins,p.1≠HH.objs.size:=fun p hp=>below _ (Rv (I2.pin p hp).1);have clIn:∀y c,(eV X.env.cells scope.names).lookup y=some c->X.env.cells.lookup y=some c:=yO scope.names [] hhas (fun y c e=>by cases e);have kindRel:∀y,(relabel scope X.env).names.lookup y=(bZ X.env.scope scope.names).lookup y:=fun _=>rfl;have okC:(dz X (x::cs.map (·.1)) scope (eV X.env.cells scope.names) HH.objs.size s2 H2 fp (X.pn ++ pins)).Ok:=
    { mod:=I2.ok.mod
      kind:=ok.kind
      glob:=I2.ok.glob
      blt:=I2.ok.blt
      above:=hCle
      inj:=fun y z c e1 e2=>I2.ok.inj y z c (clIn y c e1) (clIn z c e2)
      has:=fun y hk=>by
        have hm:(y,NameKind.free)∈scope.names:=by
          rcases hk with hk |hk
          · exact pG (psc:=X.env.scope) (k':=.cell) hk (.inl rfl) ok.cell
          · exact pG (psc:=X.env.scope) (k':=.free) hk (.inr rfl) ok.cell
        exact uc scope.names [] y (.inl hm)
      cab:=fun y c hf _=>by cases hf
      hd:=I2.ok.hd
      frames:=I2.ok.frames
      stk:=.inl rfl
      exf:=fun b hb=>⟨fpC b hb,fun y c e z=>(f2 b hb).2.2.2.2.1 y c (clIn y c e) z⟩
      bs:=fun b o e=>I2.bs b o e
      bsz:=RB I2.ok.bsz I2.sz
      noex:=fun b o e hb=>by
        rcases(f2 b hb).2.2.2.1 with z |z
        · exact I2.ok.noex b o e z
        · exact absurd (Ry (Rv e) (RB I2.ok.bsz z)) (Um _)
      exfs:=fun b hb z=>by
        rcases Ss.mp (I2.stkSub b z) with q |q
        · exact(f2 b hb).2.1 q
        · exact(f2 b hb).2.2.1 q
      funs:=I2.stack
      frf:=I2.stkFree}
  have IC:Inv (dz X (x::cs.map (·.1)) scope (eV X.env.cells scope.names) HH.objs.size s2 H2 fp (X.pn ++ pins)) [] (none::dw cs σ) (upd H2 s2.heap.objs.size (.lst [])) {s2 with heap:=h₁,toks:=s2.toks + ([]:List (Str×Value)).length}:=
    { ok:=okC
      os:=rfl
      bare:=I2.bare
      base:=Un.laid old (Ro _) nD
      loc:=by
        refine⟨_,hns₁,fun i y u e1 e2 _=>?_⟩
        cases i with
        |zero=>
          have e2':(none:Option V)=some u:=RM e2;cases e2'
        |succ i=>
          have e1':(cs.map (·.1))[i]? =some y:=e1;have e2':(dw cs σ)[i]? =some (some u):=e2;rw[Rx]at e1';unfold dw at e2';rw[Rx]at e2'
          cases ep:cs[i]? with
          |none=>rw[ep]at e1';cases e1'
          |some p=>
            rw[ep]at e1' e2';have e1'':p.1=y:=RM e1';have e2'':(σ[p.2]?).join=some u:=RM e2';have e3:σ[p.2]? =some (some u):=by
              cases q:σ[p.2]? with
              |none=>rw[q]at e2'';cases e2''
              |some z=>rw[q]at e2'';exact congrArg some e2''
            subst e1'';obtain⟨hN,hkp,hkc⟩:=ok.cap p (R9 ep);obtain⟨mP,_,hl⟩:=I2.loc;obtain⟨u',ru,lk⟩:=hl p.2 p.1 u hN e3 (.inr hkp);refine⟨u',ru,.inr ⟨hkc,?_⟩⟩;rcases lk with⟨k0,_⟩ |⟨_,c,hcell,his⟩
            · exfalso
              have k0':X.env.scope.names.lookup p.1=some .local:=k0;rcases hkp with z |z<;>(rw[k0']at z;cases z)
            · have hm:(p.1,NameKind.free)∈scope.names:=by
                rcases hkc with z |z
                · exact pG z (.inl rfl) ok.cell
                · exact pG z (.inr rfl) ok.cell
              obtain⟨c',hc'⟩:=uc (cells:=X.env.cells) scope.names [] p.1 (.inl hm);have e5:c'=c:=RM ((clIn p.1 c' hc').symm.trans hcell);exact⟨c',hc',by rw[e5];exact his.keeps old⟩
      cell:=fun y c e=>by
        obtain⟨v',q⟩:=I2.cell y c (clIn y c e);exact⟨v',q.keeps old⟩
      free:=by
        show upd H2 s2.heap.objs.size (.lst []) HH.objs.size=none;rw[bJ hDC.symm];exact nC
      freeC:=fun y c e=>by
        have hcl:c<s2.heap.objs.size:=by
          obtain⟨_,q⟩:=I2.cell y c (clIn y c e);exact q.lt
        rw[bJ (RX hcl)];exact(I2.freeC y c (clIn y c e)).imp id fun z=>⟨rfl,z.2⟩
      pin:=fun p hp=>by
        have hp':p∈X.pn ++ pins:=by
          rcases T4.mp hp with z |z
          · exact z
          · cases z
        obtain⟨e1,e2,e3,e4,e5⟩:=I2.pin p hp';refine⟨old _ _ e1,?_,pinC p hp',fun z=>?_,e5⟩
        · rw[bJ (RX (Rv e1))];exact e2
        · rcases Ss.mp (I2.stkSub p.1 z) with q |q
          · exact e3 q
          · exact e4 q
      hok:=I2.hok.laid old (Ro _) ⟨Tc _,[],0,.nil,hacc⟩
      len:=by simp[dw]}
  have stC:tn 0 h₁:=T.keep 0 _ _ st2 fun b _ o e=>old b o e;have frC:∀b∈fp,upd H2 s2.heap.objs.size (HO.lst []) b=none:=fun b hb=>by
    rw[bJ (fpD b hb)];exact(f2 b hb).1
  -- what stays true of the iterator's objects in the block
  have stat:∀{H':Hp},(∀b∈fp,H' b=none)->∀b∈fp,cP (dz X (x::cs.map (·.1)) scope (eV X.env.cells scope.names) HH.objs.size s2 H2 fp (X.pn ++ pins)) [] H' b:=fun {H'} hn b hb=>
    ⟨hn b hb, fpC b hb, okC.exfs b hb, .inl hb, fun y c e => (okC.exf b hb).2 y c e, fun p hp => (f2 b hb).2.2.2.2.2 p (by
      rcases T4.mp hp with z |z
      · exact z
      · cases z)⟩
  have loop:∀s₃:Shared,s₃={s2 with heap:=h₁,toks:=s2.toks + ([]:List (Str×Value)).length}->
      codeAny (model X.prog X.w) X.A (.compLoop (.ListComp elt [⟨.Name x px,iter,ifs,0⟩] scope pos) 0 (.ref it) (.ref s2.heap.objs.size) (compEnvC scope (eV X.env.cells scope.names) HH.objs.size X.env)) (RR (.ref s2.heap.objs.size) HH.objs.size) s₃:=by
    rintro s₃ rfl;refine Fb (fun n s'=>∃(i:Nat) (v:Option V) (ys:List V) (H':Hp),Inv (dz X (x::cs.map (·.1)) scope (eV X.env.cells scope.names) HH.objs.size s2 H2 fp (X.pn ++ pins)) [] (v::dw cs σ) H' s'/\tn i s'.heap/\(∀b∈fp,H' b=none)/\W i n ys H')
      ?_ m0 ⟨0,none,[],_,IC,stC,frC,w0⟩
    rintro n s3 ⟨i,v3,ys,H3,I3,st3,fr3,w3⟩;obtain⟨hD3,tr⟩:=turn i n ys H3 w3;rcases tr with⟨stop,qn⟩ |⟨go,hsz,N,hN,step⟩
    · refine aU (T.done (dz X (x::cs.map (·.1)) scope (eV X.env.cells scope.names) HH.objs.size s2 H2 fp (X.pn ++ pins)) rfl rfl rfl hc i [] s3 _ H3 _ I3 (stat fr3) st3 stop) fun r s4 ⟨hr,I4⟩=>?_;subst hr;show RR (.ref s2.heap.objs.size) HH.objs.size (.ok .next) s4
      have IP:Inv X pins σ H3 s4:=I2.call' (ch:=fp) I4.os I4.base I4.hok I4.bare fun b hb=>⟨(f2 b hb).2.2.2.1,(f2 b hb).2.1,(f2 b hb).2.2.2.2.1,(f2 b hb).2.2.2.2.2⟩;obtain⟨m4,⟨oC,es,ep,hoC,hdC,hk1,hk2⟩,_⟩:=I4.loc;have nC3:H3 HH.objs.size=none:=I4.free;have fC:cP X pins H3 HH.objs.size:=I2.fpOk hCle nC3;refine hRR _ _ oC H3 s4 (IP.pins_of fun p hp=>?_) (fun h' e=>⟨m4,oC,es,ep,e,hdC,hk1,hk2⟩) fC qn;rcases T4.mp hp with z |z
      · exact IP.pin p (RV _ z)
      · have e:p=(HH.objs.size,oC):=by simpa using z
        subst e;exact ⟨hoC,nC3,fC.2.1,fC.2.2.1,fun v z=>by
          have z':oC.data=.cell v:=z;rw[hdC]at z';cases z'⟩
    · refine aU (T.item (dz X (x::cs.map (·.1)) scope (eV X.env.cells scope.names) HH.objs.size s2 H2 fp (X.pn ++ pins)) rfl rfl rfl hc i [] s3 _ H3 _ I3 (stat fr3) st3 go) fun r s4 ⟨u,hr,h4⟩=>?_;subst hr;refine aU h4 fun _ s5 ⟨y,H5,I5,r5,y5,st5,fr5⟩=>?_;have I5':=I5.pinned (stat fr5) (T.obj _ _ st5);have hloc:Loc (dz X (x::cs.map (·.1)) scope (eV X.env.cells scope.names) HH.objs.size s2 H2 fp (X.pn ++ pins)).env.scope x:=.inl (lookup_relabel_local ok.own);refine wpAny_assign_Name (wM (i:=0) I5' ok.nd rfl hloc r5 (fun s6 I6=>?_) (.inr (lookup_relabel_local ok.own)));refine aU (hq _ _ _ _ _ _ _ s6 _ H5 _ I6 (step y H5 y5)) fun b s7 ⟨H7,I7,q7⟩=>?_;have again:∀{v':Option V} {H8:Hp} {s8:Shared} {ys':List V} {m':Nat},Inv (dz X (x::cs.map (·.1)) scope (eV X.env.cells scope.names) HH.objs.size s2 H2 fp (X.pn ++ pins)) ([] ++ pD fp s5.heap) (v'::dw cs σ) H8 s8->W (i + 1) m' ys' H8->
          ∃(i:Nat) (v:Option V) (ys:List V) (H':Hp),Inv (dz X (x::cs.map (·.1)) scope (eV X.env.cells scope.names) HH.objs.size s2 H2 fp (X.pn ++ pins)) [] (v::dw cs σ) H' s8/\tn i s8.heap/\(∀b∈fp,H' b=none)/\W i m' ys H':=fun {v' H8 s8 ys' m'} I8 w8=>by
        refine⟨i + 1,v',ys',H8,I8.unpinned,T.keep _ _ _ st5 fun b hb o e=>(I8.pin (b,o) (RV _ (RV _ (rA hb e)))).1,fun b hb=>?_,w8⟩;obtain⟨o,e,d⟩:=T.obj _ _ st5 b hb;exact(I8.pin (b,o) (RV _ (RV _ (rA hb e)))).2.1
      cases b with
      |false=>
        rw[Rn RK]at q7;rw[Rn RK];obtain⟨m',hm,w8⟩:=hN _ _ q7;exact⟨m',hm,again I7 w8⟩
      |true=>
        rw[tG rfl]at q7;rw[tG rfl];refine aU (he _ _ _ _ _ _ _ s7 _ H7 _ I7 q7) fun z s8 ⟨zv,H8,I8,r8,hD8,n8⟩=>?_;obtain⟨m',hm,w8⟩:=hN _ _ n8;refine aU (uX (X:=dz X (x::cs.map (·.1)) scope (eV X.env.cells scope.names) HH.objs.size s2 H2 fp (X.pn ++ pins)) _ s8 _ H8 (.ref s2.heap.objs.size) [zv] (.ref s2.heap.objs.size) [z] (fun _ H9=>H9=upd H8 s2.heap.objs.size (.lst (ys ++ [zv]))) I8 rfl (.cons r8 .nil) ⟨_,ys,zv,rfl,rfl,hD8,hsz,rfl⟩) fun _ s9 ⟨_,H9,I9,_,e9⟩=>?_;subst e9;exact⟨m',hm,again I9 w8⟩
  exact codeAny_compStart_list (loop _ rfl) (T.self _ 0 _ _ _ stC (loop _ rfl))
noncomputable def PX (wi:TI) (tq:TT) (te:TE) (cs:List (Str×Nat)):TE:=fun σ H Q=>wW wi tq te cs σ H fun D H'=>Q (.ref D) H'
theorem JK (x:Str)(cs:List (Str×Nat))(hc:X.calm=true)(hi:PI X (.Name x px) iter wi)
  (hq:∀(cl:List (Str×Addr)) (C:Addr) (s₀:Shared) (H₀:Hp) (ex:List Addr) (pn:Pnx),gw (dz X (x::cs.map (·.1)) scope cl C s₀ H₀ ex pn) ifs tq)
  (he:∀(cl:List (Str×Addr)) (C:Addr) (s₀:Shared) (H₀:Hp) (ex:List Addr) (pn:Pnx),PE (dz X (x::cs.map (·.1)) scope cl C s₀ H₀ ex pn) elt te)
  (ok:qD X.N X.env.scope x cs scope=true:=by kernel_rfl) (hs:∀x,foldedSetIterable iter X.env x=pure x:=by intro _;rfl):
  PE X (.ListComp elt [⟨.Name x px,iter,ifs,0⟩] scope pos) (PX wi tq te cs):=by
 intro pins s σ H Q I h;have ok':=CompOk.of ok;rw[eval_ListComp];refine wpAny_comprehension_free (use:=none) rfl hs (Ez fun y hy hk=>I.ok.has y.1 (ok'.has y hy hk)) ok'.kind ok'.names ?_;refine Fd (RR:=fun acc C=>compPost (model X.prog X.w) X.A X.xe none (EP X pins σ Q) acc C) hc hi hq he ok' I h ?_;intro D C oC H' s' I' hns fC q;refine⟨_,(hns _ (I'.pin (C,oC) (RV _ (RV _ (by simp)))).1).choose_spec,fun h' hs'=>?_⟩;have I1:Inv X pins σ H' s':=I'.unpinned;exact⟨.ref D,H',I1.turned (t':=s'.toks) (fun b o hb e=>(hs'.2 b hb).trans e) fC.1 fC.2.1 fC.2.2.2.1 fC.2.2.2.2.1 fC.2.2.2.2.2,rfl,q⟩
end
def yg (J:It)(tq:TT)(te:TE)(cs:List (Str×Nat))(σ:St)(H1:Hp)(R:Addr->Hp->Prop):Prop:=∀D,H1 D=none->
  ∃W:Nat->Nat->List V->Hp->Prop,(∃m,W 0 m [] (upd H1 D (.lst [])))/\∀i m ys H2,W i m ys H2->H2 D=some (.lst ys)/\
    ((J.stop i H2 /\ R D H2) \/ (J.go i H2/\ys.length<sizeLine/\∃N:List V->Hp->Prop,(∀ys' H',N ys' H'->∃m',m'<m/\W (i + 1) m' ys' H')/\∀v H3,J.yld i H2 v H3->tq (some v::dw cs σ) H3 fun b H4=>
      if b=true then te (some v::dw cs σ) H4 fun y H5=>H5 D=some (.lst ys)/\N (ys ++ [y]) (upd H5 D (.lst (ys ++ [y]))) else N ys H4))
theorem Fg (n:Nat)(P:Addr->Nat->List V->Hp->Prop)
  (h0:∀D,H1 D=none->P D 0 [] (upd H1 D (.lst []))) (hl:∀D i ys H2,i<=n->P D i ys H2->H2 D=some (.lst ys)/\ys.length<sizeLine)
  (hgo:∀D i ys H2,i<n->P D i ys H2->J.go i H2) (hst:∀D ys H2,H1 D=none->P D n ys H2->J.stop n H2/\R D H2)
  (hs:∀D i v ys H2 H3,i<n->P D i ys H2->J.yld i H2 v H3->tq (some v::dw cs σ) H3 fun b H4=>if b=true then te (some v::dw cs σ) H4 fun y H5=>H5 D=some (.lst ys)/\P D (i + 1) (ys ++ [y]) (upd H5 D (.lst (ys ++ [y]))) else P D (i + 1) ys H4):
  yg J tq te cs σ H1 R:=by
 intro D hD;refine⟨fun i m ys H=>m=n - i/\i<=n/\P D i ys H,⟨n,by simp,Tc _,h0 D hD⟩,?_⟩;rintro i m ys H2 ⟨rfl,hi,p⟩;obtain⟨q2,q3⟩:=hl D i ys H2 hi p;refine⟨q2,?_⟩
 by_cases hlt:i<n
 ·exact .inr ⟨hgo D i ys H2 hlt p,q3,P D (i + 1),fun ys' H' p'=>⟨n - (i + 1),by omega,rfl,hlt,p'⟩,fun v H3 y=>hs D i v ys H2 H3 hlt p y⟩
 ·have e:i=n:=by omega
  subst e;exact .inl (hst D ys H2 hD p)
theorem lu (hD:H D=none):Same H (upd H D o):=fun b ob e=>by
 rw[bJ (mD e hD)];exact e
theorem comp_map {J:It}{te:TE}{cs:List (Str×Nat)}{σ:St}{H1:Hp}{R:Addr->Hp->Prop}(n:Nat)(f:Nat->V)(hn:n<sizeLine)
  (hgo:∀i H2,i<n->Same H1 H2->J.go i H2) (hst:∀H2,Same H1 H2->J.stop n H2)
  (hy:∀i v H2 H3,i<n->Same H1 H2->J.yld i H2 v H3->H3=H2/\∀Q:VK,Q (f i) H2->te (some v::dw cs σ) H2 Q)
  (hd:∀D,H1 D=none->R D (upd H1 D (.lst ((List.range n).map f)))):yg J lF te cs σ H1 R:=by
 refine Fg n (fun D i ys H2=>i<=n/\H1 D=none/\ys=(List.range i).map f/\H2=upd H1 D (.lst ys)) (fun D hD=>⟨Tc _,hD,rfl,rfl⟩) ?_ ?_ ?_ ?_
 ·rintro D i ys H2 hi ⟨_,hD,e1,e2⟩;subst e1 e2;exact⟨dG,by rw[RJ,Us];omega⟩
 ·rintro D i ys H2 hi ⟨_,hD,e1,e2⟩;subst e2;exact hgo i _ hi (lu hD)
 ·rintro D ys H2 _ ⟨_,hD,e1,e2⟩;subst e2;refine⟨hst _ (lu hD),?_⟩;subst e1;exact hd D hD
 ·rintro D i v ys H2 H3 hi ⟨_,hD,e1,e2⟩ y;subst e2;obtain⟨e3,q⟩:=hy i v _ H3 hi (lu hD) y;subst e3;unfold lF;dsimp only;rw[tG rfl];refine q _ ⟨dG,hi,hD,?_,Qw⟩;rw[e1,Ws,Wt];rfl
structure Noted (fs:List Addr)(z:Addr)(h h':Heap)(e:Addr)(oe:Obj)(T:Addr)(fl:Value):Prop where
 keep:∀b o,b∉fs->b≠e->b≠z->h.get? b=some o->h'.get? b=some o
 slot:∀b o,b∈fs->b≠e->b≠z->h.get? b=some o->∃sl,h'.get? b=some {o with slots:=sl}
 exc:h'.get? e=some (oe.mapFields (·.setIfInBounds 1 (.ref T)))
 new:h.objs.size<=T
 tb:∃oT ts,h'.get? T=some oT/\oT.data=.fields ts/\ts[3]? =some fl
section
variable {M:Model}{A:Around}{E:Value->Shared->Prop}{s:Shared}{base:Heap}{env:Env}{outer:List Env}{L e z:Addr}{oe:Obj}{vs:Array Value}{Q:Unit->Shared->Prop}
theorem Hl (a1:A.frames=some (env::outer))(a2:s.heap.FunFrames base (env::outer))(a3:env.frame=some L)
  (a4:s.heap.get? e=some oe) (a5:oe.data=.fields vs) (a6:1<vs.size)
  (k:∀h' T,Noted (frs (env::outer)) e s.heap h' e oe T (rawInt L)->Q () {s with heap:=h'}):
  wpAny M A (do
   let a <-frameOf env
   let pl <-entryPlaceOf L hadNext
   let b <-EntryCells.newEntry head a .none (rawInt L) .none pl
   setField (.ref e) 1 b) Q E s:=by
 have ne:e∉frs (env::outer):=fun m=>by
  obtain⟨_,o,e1,e2⟩:=a2.mem m;rw[a4]at e1;cases e1;exact e2 vs a5
 refine Rp (wpAny_frameOf_fun a1 a2 a3 fun h1 S=>?_);refine Rp (wpAny_entryPlaceOf fun pl hpl=>?_);unfold EntryCells.newEntry newFields;refine Rp (Ur ?_ (hpl.sizeOk5 _ _ _ _ _));have b1:h1.get? e=some oe:=(S.2.1 e ne).trans a4;have b2:=Rt (h:=h1) {cls:=.type "traceback",dict:=none,data:=.fields ([head,.ref L,.none,rawInt L,.none] ++ (if pl.isEmpty then List.replicate 6 Value.none else pl)).toArray} b1
 refine WK b2 a5 a6 (k _ h1.objs.size ?_);have n1:h1.objs.size≠e:=W5 (Rv b1);have frd:=Obj.isFreed_of_fields (Ue a5 (·.setIfInBounds 1 (Value.ref h1.objs.size)));refine⟨fun b o nb nbe _ hb=>?_,fun b o _ nbe _ hb=>?_,Heap.get?_update_self _ b2 frd,W7 S.1.symm,?_⟩
 ·rw[SM _ _ (Ux nbe)];exact Rt _ ((S.2.1 b nb).trans hb)
 ·obtain⟨sl,q⟩:=S.2.2 b o hb;refine⟨sl,?_⟩;rw[SM _ _ (Ux nbe)];exact Rt _ q
 ·refine⟨_,_,(SM _ _ (Ux n1)).trans (Sq h1 rfl),rfl,?_⟩;rcases hpl with rfl |⟨_,_,_,_,_,_,_,rfl⟩<;>simp
theorem FQ (b1:s.heap.get? e=some oe)(b2:oe.data=.fields vs)(b3:vs[1]? =some (.ref T))(b4:s.heap.get? T=some oT)(b5:oT.data=.fields ts)(b6:3<ts.size)
  (k:Q () {s with heap:=s.heap.update T (Obj.mapFields (·.setIfInBounds 3 .none))}):wpAny M A (setFlight (.ref e) none) Q E s:=by
 unfold setFlight;refine Rp (Vl b1 b2 b3 ?_);rw[tG (by simp)];exact WK b4 b5 b6 k
theorem Hs (N:Noted fs z h h1 e oe T fl)(a4:h.get? e=some oe)(a5:oe.data=.fields vs):Noted fs z h (h1.update T (Obj.mapFields (·.setIfInBounds 3 .none))) e oe T .none:=by
 obtain⟨oT,ts,t1,t2,t3⟩:=N.tb;have ne:∀b o,h.get? b=some o->b≠T:=fun b o q=>RX (Ry (Rv q) N.new);refine⟨fun b o n1 n2 n3 hb=>?_,fun b o n1 n2 n3 hb=>?_,?_,N.new,?_⟩
 ·rw[SM _ _ (Ux (ne b o hb))];exact N.keep b o n1 n2 n3 hb
 ·obtain⟨sl,q⟩:=N.slot b o n1 n2 n3 hb;exact⟨sl,by rw[SM _ _ (Ux (ne b o hb))];exact q⟩
 ·rw[SM _ _ (Ux (ne e oe a4))];exact N.exc
 ·have z3:3<ts.size:=(Uq.mp t3).1;exact⟨_,_,Heap.get?_update_self _ t1 (Obj.isFreed_of_fields (Ue t2 _)),Ue t2 _,by simp[z3]⟩
theorem Hr (N:Noted fs z h s.heap e oe T fl)(a4:h.get? e=some oe)(a5:oe.data=.fields vs)(a6:1<vs.size)
  (k:∀h',Noted fs z h h' e oe T .none->Q () {s with heap:=h'}):wpAny M A (setFlight (.ref e) none) Q E s:=by
 obtain⟨oT,ts,t1,t2,t3⟩:=N.tb;refine FQ N.exc (Ue a5 _) (by simp[a6]) t1 t2 (Uq.mp t3).1 (k _ (Hs N a4 a5))
theorem Ho (a1:A.frames=some (env::outer))(a2:s.heap.FunFrames base (env::outer))(a3:env.frame=some L)
  (a4:s.heap.get? e=some oe) (a5:oe.data=.fields vs) (a6:vs[1]? =some (.ref T0)) (b1:T0≠e) (b2:s.heap.get? T0=some oT) (b3:oT.data=.fields ts) (b4:ts[3]? =some .none)
  (k:∀h' T,Noted (frs (env::outer)) T0 s.heap h' e oe T (rawInt L)->Q () {s with heap:=h'}):wpAny M A (noteFrame (.ref e) env) Q E s:=by
 have z1:=(Uq.mp a6).1;unfold noteFrame;simp only[a3];refine Rp (Vl a4 a5 a6 ?_);rw[tG (by simp)];refine Rp (Vl b2 b3 b4 ?_);rw[Rn (by simp[rawInt])];refine Rp (WK b2 b3 (Uq.mp b4).1 ?_);have oth:∀b,b≠T0->(s.heap.update T0 (Obj.mapFields (·.setIfInBounds 3 Value.none))).get? b=s.heap.get? b:=fun b hb=>SM _ _ (Ux hb);have fr:∀b o,s.heap.get? b=some o->(∀us,o.data≠ .fields us)->b≠T0:=fun b o hb n r=>by
  rw[r,b2]at hb;cases hb;exact n ts b3
 refine Hl (s:={s with heap:=s.heap.update T0 (Obj.mapFields (·.setIfInBounds 3 Value.none))}) a1 (a2.of_keeps fun b o hb n=>⟨o,(oth b (fr b o hb n)).trans hb,rfl⟩) a3 ((oth e (Ux b1)).trans a4) a5 z1 fun h' T N=>k h' T ?_;exact⟨fun b o n1 n2 n3 hb=>N.keep b o n1 n2 n2 ((oth b n3).trans hb),fun b o n1 n2 n3 hb=>N.slot b o n1 n2 n2 ((oth b n3).trans hb),N.exc,by rw[<-Heap.size_after_update s.heap T0 (Obj.mapFields (·.setIfInBounds 3 Value.none))];exact N.new,N.tb⟩
end
abbrev xX:List Value:=[.type "ValueError",.type "Exception",.type "BaseException",.type "object"]
def xW:List Value->Bool
 |.ref _::r=>xW r
 |l=>l==xX
noncomputable def qb (K:Fgx) (C:Addr):Bool:=match K.lookup C with
  | some ⟨.type "type", _, .cls cd, sl⟩ => (match cd.mro,sl.toList with
    |.ref c::bm,[_,_,_,_,some (.builtin n),_]=>c==C && (n=="ValueError.__new__" && (!cd.hasDel && (PySem.W.tailIn K xX bm && (PySem.W.nsOkIn K cd.ns && (cd.hasDict && xW bm)))))
    |_,_=>false)
  |_=>false
structure XCls (h:Heap)(C:Addr)(nm qn:Str)(N:Addr)(bs bm:List Value)(sn:List Str)(sub:List Value)(ab:Bool)(col:Option Bool)(dd:Option Addr)(k0 k1 k2 k3 k5:Option Value):Prop where
 obj:h.get? C=some (excClassObj nm qn C N bs bm true sn sub ab col dd k0 k1 k2 k3 k5 "ValueError.__new__")
 tail:OwnTail h xX bm
 ns:h.Ns N (h.nsMap N)
 over:xW bm=true
noncomputable def xo (a C:Addr) (dx:Option Addr) (b:Bool):HO:=.ext fun h=>∃oe vs t,h.get? a=some oe/\oe.cls=.ref C/\oe.dict=dx/\oe.data=.fields vs/\vs.size=6/\vs[0]? =some (.ref t)/\(b=true->vs[1]? =some .none)
theorem Q_ (x:∃oe vs t,h.get? a=some oe/\oe.cls=.ref C/\oe.dict=dx/\oe.data=.fields vs/\vs.size=6/\vs[0]? =some (.ref t)/\(b=true->vs[1]? =some .none)):
  fu P w H h a (xo a C dx b):=by
 obtain⟨oe,vs,t,e,r⟩:=x;exact⟨⟨oe,vs,t,e,r⟩,⟨oe,e⟩,fun h1 h2 ⟨oe,vs,t,e,r⟩ k=>⟨oe,vs,t,k _ e,r⟩⟩
def sW (h:Heap)(a T:Addr):Prop:=∃oe vs oT ts,h.get? a=some oe/\oe.data=.fields vs/\vs[1]? =some (.ref T)/\T≠a/\h.get? T=some oT/\oT.data=.fields ts/\ts[3]? =some .none
section
variable {P:Program}{w:World}{H:Hp}{h h':Heap}{fs ch:List Addr}{z a C T:Addr}{oe:Obj}{fl:Value}{dx:Option Addr}{b:Bool}{vs:Array Value}
theorem Hq (N:Noted fs z h h' a oe T .none)(e1:h.get? a=some oe)(e2:oe.data=.fields vs)(e3:vs.size=6):sW h' a T:=by
 obtain⟨oT,ts,t1,t2,t3⟩:=N.tb;refine⟨_,_,oT,ts,N.exc,Ue e2 _,by simp[e3],fun q=>?_,t1,t2,t3⟩;have z:=Ry (Rv e1) N.new;rw[q]at z;exact absurd z (Um _)
theorem Ht (N:Noted fs z h h' a oe T fl)(x:∃vs t,oe.cls=.ref C/\oe.dict=dx/\oe.data=.fields vs/\vs.size=6/\vs[0]? =some (.ref t)):∃oe vs t,h'.get? a=some oe/\oe.cls=.ref C/\oe.dict=dx/\oe.data=.fields vs/\vs.size=6/\vs[0]? =some (.ref t)/\(false=true->vs[1]? =some .none):=by
 obtain⟨vs,t,c1,c2,c3,c4,c5⟩:=x;refine⟨_,_,t,N.exc,(Obj.cls_mapFields _ _).trans c1,?_,Ue c3 _,by simp[c4],?_,fun q=>by cases q⟩
 ·obtain⟨_,_,od,_⟩:=oe;dsimp only at c3;subst c3;exact c2
 ·rw[Array.getElem?_setIfInBounds_ne (by decide)];exact c5
theorem Qu (N:Noted fs z h h' a oe T fl)(ha:H a=some (xo a C dx b))(hz:z=a\/z∈ch):Un fs ch H (upd H a (xo a C dx false)) h h':=by
 have n1:∀c,H c=none->c≠a:=fun c n q=>by rw[q,ha]at n;cases n
 have n2:∀c,c≠a->c∉ch->c≠z:=fun c n m q=>by
  rcases hz with r |r
  ·exact n (q.trans r)
  ·exact m (q ▸ r)
 have n3:∀c u,H c=some u->(∀φ,u≠ .ext φ)->c≠a:=fun c u q m r=>by
  rw[r,ha]at q;exact m _ (RM q).symm
 refine ⟨fun c o q n hc hx=>N.keep c o hc (n1 c n) (n2 c (n1 c n) hx) q,fun c o q n hc hx=>N.slot c o hc (n1 c n) (n2 c (n1 c n) hx) q,fun c o q n hx=>by rw[bJ (n1 c n)];exact n,fun c o q hx=>?_,
  fun c xs q=>by rw[bJ (n3 c _ q (by intro _ z;cases z))];exact q,fun c o u q=>by rw[bJ (n3 c _ q (by intro _ z;cases z))];exact q,fun c ps q=>⟨#[],by rw[bJ (n3 c _ q (by intro _ z;cases z)),q];simp⟩⟩
 by_cases ca:c=a
 ·rw[ca];exact⟨_,N.exc⟩
 ·by_cases cf:c∈fs
  ·obtain⟨sl,r⟩:=N.slot c o cf ca (n2 c ca hx) q;exact⟨_,r⟩
  ·exact⟨o,N.keep c o cf ca (n2 c ca hx) q⟩
theorem Gp (ok:bQ P w H h)(N:Noted fs z h h' a oe T fl)(ha:H a=some (xo a C dx b))(hz:z=a\/H z=none)(hf:∀c∈fs,H c=none)
  (x:∃vs t,oe.cls=.ref C/\oe.dict=dx/\oe.data=.fields vs/\vs.size=6/\vs[0]? =some (.ref t)):bQ P w (upd H a (xo a C dx false)) h':=fun c u q=>by
 have n3:∀c u,H c=some u->(∀φ,u≠ .ext φ)->c≠a:=fun c u q m r=>by
  rw[r,ha]at q;exact m _ (RM q).symm
 by_cases hc:c=a
 ·subst hc;rw[dG]at q;cases q;exact Q_ (Ht N x)
 ·rw [bJ hc] at q;have kp : ∀ d u v, H d = some u -> d ≠ a -> h.get? d = some v -> h'.get? d = some v := fun d u v q nd r => N.keep d v (fun m => by rw [hf d m] at q; cases q) nd (fun e=>by
   rcases hz with g |g
   ·exact nd (e.trans g)
   ·rw[e,g]at q;cases q) r
  refine(ok c u q).stay (fun d v hd r=>?_) (fun d r=>by rw[bJ (n3 d _ r (by intro _ z;cases z))];exact r) fun d xs r=>by rw[bJ (n3 d _ r (by intro _ z;cases z))];exact r
  rcases hd with rfl |hd
  ·exact kp d u v q hc r
  ·exact kp d _ v hd (n3 d _ hd (by intro _ z;cases z)) r
theorem Un.less (u:Un (L::fs) ch H H' h h')(n:h.get? L=none):Un fs ch H H' h h':=by
 have m:∀c o,h.get? c=some o->c≠L:=fun c o q e=>by rw[e,n]at q;cases q
 exact⟨fun c o q k hc hx=>u.keep c o q k (fun z=>(Ss.mp z).elim (m c o q) hc) hx,fun c o q k hc hx=>u.slot c o q k (RP _ hc) hx,u.free,u.there,u.tups,u.frzs,u.tbls⟩
end
noncomputable def lK (P:Program) (w:World):c7:=fun outer H s E e s'=>∃a C dx H' T,e=.ref a/\s'.os=s.os/\AllBare s'.gens/\Un (frs outer) [] H H' s.heap s'.heap/\bQ P w H' s'.heap/\H' a=some (xo a C dx false)/\H' T=none/\s.heap.objs.size<=T/\sW s'.heap a T/\E (.ref C) dx H'
theorem Qv (e:H a=some o):upd H a o=H:=by
 funext b;unfold upd
 split
 ·subst_vars;exact e.symm
 ·rfl
theorem Q9 (ok:bQ P w H h)(e:H a=some (xo a C dx b)):
  ∃oe vs t,h.get? a=some oe/\oe.cls=.ref C/\oe.dict=dx/\oe.data=.fields vs/\vs.size=6/\vs[0]? =some (.ref t)/\(b=true->vs[1]? =some .none):=(ok a _ e).1
section
variable {X:Cx}{pins:Pnx}{σ:St}{H:Hp}{s:Shared}
structure Caught (X:Cx)(pins:Pnx)(σ:St)(H:Hp)(s:Shared)(a C:Addr)(dx:Option Addr)(T:Addr):Prop where
 inv:Inv X pins σ H s
 obj:H a=some (xo a C dx false)
 fl:sW s.heap a T
 hT:H T=none
 t1:X.s₀.heap.objs.size<=T
 t2:T≠X.env.locals
 t3:∀x c,X.env.cells.lookup x=some c->c≠T
 t4:∀p∈X.pn ++ pins,p.1≠T
theorem Ey (I:Inv X pins σ H s)(h:s.heap.objs.size<=T):X.s₀.heap.objs.size<=T/\T≠X.env.locals/\(∀x c,X.env.cells.lookup x=some c->c≠T)/\∀p∈X.pn ++ pins,p.1≠T:=by
 refine⟨RB I.sz h,W5 (Ry I.lt h),fun x c e=>?_,fun p hp=>?_⟩
 ·obtain⟨v,o,ho,_⟩:=I.cell x c e;exact RX (Ry (Rv ho) h)
 ·exact RX (Ry (Rv (I.pin p hp).1) h)
variable {a C T:Addr}{dx:Option Addr}{Q:Unit->Shared->Prop}{E:Value->Shared->Prop}{M:Model}
theorem Caught.note (c:Caught X pins σ H s a C dx T)(hs:X.stack=X.env::X.outer)(hf:X.env.frame=some X.env.locals)(k:∀s' T',Caught X pins σ H s' a C dx T'->Q () s'):
  wpAny M X.A (noteFrame (.ref a) X.env) (fun _ s2=>wpAny M X.A (setFlight (.ref a) none) Q E s2) E s:=by
 obtain ⟨oe, vs, t, e1, e2, e3, e4, e5, e6, _⟩ := Q9 c.inv.hok c.obj;obtain ⟨oe', vs', oT, ts, f1, f2, f3, f4, f5, f6, f7⟩ := c.fl;rw [e1] at f1;cases f1;rw [e4] at f2;cases f2;have fr := c.inv.ok.frames;have st := c.inv.stack;rw [hs] at fr st;refine Ho fr st hf e1 e4 f3 f4 f5 f6 f7 fun h' T' N => Hr (s := { s with heap := h' }) N e1 e4 (by omega) fun h2 N2 => k _ T' ?_;have hx : ∃ vs t, oe.cls = .ref C /\ oe.dict = dx /\ oe.data = .fields vs /\ vs.size = 6 /\ vs[0]? = some (.ref t) := ⟨vs, t, e2, e3, e4, e5, e6⟩;rw [<- hs] at N2;have u := Qu (ch := [T]) N2 c.obj (.inr (S8.mpr rfl));have hk := Gp c.inv.hok N2 c.obj (.inr c.hT) (fun b hb => c.inv.stkFree b hb) hx;rw [Qv c.obj] at u hk;have I2 : Inv X pins σ H { s with heap := h2 } := c.inv.call' (s' := { s with heap := h2 }) rfl u hk c.inv.bare (fun b hb=>by
  rw[S8.mp hb];exact⟨.inr c.t1,c.t2,c.t3,c.t4⟩)
 obtain⟨z1,z2,z3,z4⟩:=Ey c.inv N2.new;exact⟨I2,c.obj,Hq N2 e1 e4 e5,c.inv.hok.fresh N2.new,z1,z2,z3,z4⟩
end
abbrev Cx.pin (X:Cx)(pins:Pnx)(E:Value->Shared->Prop):Cx:={X with pn:=X.pn ++ pins,xe:=E}
abbrev Cx.suite (X:Cx)(e:Value):Cx:={X with A:=X.A.mark (some e),calm:=false,xe:=fun _ _=>False}
end L2
namespace E3
open PySem PySem.Spec PyProof.Rows L2
inductive D where
 |non |bl (b:Bool) |int (i:Int) |str (s:Str) |tup (xs:List D) |lst (xs:List D) |ref (n:Nat)
structure FnT where
 st:Stmt
 x:Str
 q:Str
 pos:Pos
 fr:List Str
 dd:List Int:=[]
inductive Cl where
  |lst (ds:List D) |obj (c:Str) (fs:List (Str×D)) |dct (kvs:List (L2.Key×D))
    |dcf (kvs:List (L2.Key×D))
    |fn (i:FnT) (caps:List (Str×D)) |tbl (nm:Str) (i:FnT)
abbrev Mm:=List Cl
inductive Slot where
 |un |val (d:D) |own (ds:List D) |exc (c:Str) (n:Int)
abbrev Env:=List Slot
mutual
def D.lf:D->Bool
 |.tup xs=>D.lfs xs
 |.lst _=>false
 |.ref _=>false
 |_=>true
def D.lfs:List D->Bool
 | []=>true
 |a::as=>D.lf a && D.lfs as
end
def KL (K:Fgx)(a:Addr)(vs:List V):Prop:=∃(o:Obj) (its:Array Value) (n:Nat),K.lookup a=some o/\o.cls=.type "list"/\o.dict=none/\o.data=.seq its n/\its.size<=sizeLine/\Vals vs its.toList
structure Pl where
 io:Nat->Addr
 n:Nat
 bd:Addr->Prop
def tL (K:Fgx)(P:Pl)(H:Hp)(a:Addr)(vs:List V):Prop:=(¬ P.bd a/\Rd H a (.lst vs))\/KL K a vs
def yq (K:Fgx)(P:Pl)(H:Hp)(a:Addr)(vs:List V):Prop:=((∀k,k<P.n->P.io k≠a)/\Rd H a (.lst vs))\/KL K a vs
mutual
def Is (K:Fgx)(P:Pl)(H:Hp):D->V->Prop
 |.non,v=>v=.non
 |.bl b,v=>v=.bl b
 |.int i,v=>v=.int i
 |.str s,v=>v=.str s
 |.tup ds,v=>∃a vs,v=.ref a/\dJ K H a vs/\aq K P H ds vs
 |.lst ds,v=>∃a vs,v=.ref a/\tL K P H a vs/\aq K P H ds vs
 |.ref k,v=>k<P.n/\v=.ref (P.io k)
def aq (K:Fgx)(P:Pl)(H:Hp):List D->List V->Prop
 | [],vs=>vs=[]
 |d::ds,vs=>∃v r,vs=v::r/\Is K P H d v/\aq K P H ds r
end
def Fx (o:HO):Prop:=(∃xs,o=.tup xs)\/(∃u w,o=.frz u w)\/(∃g,o=.ext g)\/∃fs,o=.xd fs
structure Lt (P:Pl)(H:Hp)(P':Pl)(H':Hp):Prop where
 n:P.n<=P'.n
 io:∀k,k<P.n->P'.io k=P.io k
 bd:∀a,P'.bd a->P.bd a\/H a=none
 keep:∀a o,H a=some o->(Fx o\/¬ P.bd a)->H' a=some o
 sure:∀a,H' a=none->H a=none
section
variable {K:Fgx}{P P' P'':Pl}{H H' H'':Hp}
theorem Lt.refl (P:Pl)(H:Hp):Lt P H P H:=⟨Ro _,fun _ _=>rfl,fun _ z=>.inl z,fun _ _ e _=>e,fun _ z=>z⟩
theorem Lt.frz (l:Lt P H P' H'):∀b o u,H b=some (.frz o u)->H' b=some (.frz o u):=fun b o u e=>l.keep b _ e (.inl (.inr (.inl ⟨_,_,rfl⟩)))
theorem Lt.not (l:Lt P H P' H')(e:H a=some o)(n:¬ P.bd a):¬ P'.bd a:=fun z=>(l.bd a z).elim n fun z=>by rw[e]at z;cases z
theorem Lt.trans (l:Lt P H P' H')(m:Lt P' H' P'' H''):Lt P H P'' H'' where
 n:=RB l.n m.n
 io:=fun k h=>(m.io k (Ry h l.n)).trans (l.io k h)
 bd:=fun a z=>(m.bd a z).elim (l.bd a) fun z=>.inr (l.sure a z)
 keep:=fun a o e h=>m.keep a o (l.keep a o e h) (h.imp id fun n=>l.not e n)
 sure:=fun a z=>l.sure a (m.sure a z)
theorem Lt.rd (l:Lt P H P' H')(n:¬ P.bd a)(h:Rd H a (.lst xs)):Rd H' a (.lst xs):=by
 rcases h with h |⟨o,h⟩
 ·exact .inl (l.keep _ _ h (.inr n))
 ·exact .inr ⟨o,l.keep _ _ h (.inr n)⟩
theorem B_ (h:Rd H a o):∃o',H a=some o':=h.elim (fun h=>⟨_,h⟩) fun⟨_,h⟩=>⟨_,h⟩
theorem Lt.rda (l:Lt P H P' H')(h:tL K P H a xs):tL K P' H' a xs:=h.imp (fun⟨n,h⟩=>⟨by obtain⟨o,e⟩:=B_ h;exact l.not e n,l.rd n h⟩) id
theorem Lt.tup (l:Lt P H P' H')(h:dJ K H a xs):dJ K H' a xs:=by
 rcases h with(h |⟨o,h⟩) |h
 ·exact .inl (.inl (l.keep _ _ h (.inl (.inl ⟨_,rfl⟩))))
 ·exact .inl (.inr ⟨o,l.keep _ _ h (.inl (.inr (.inl ⟨_,_,rfl⟩)))⟩)
 ·exact .inr h
mutual
theorem Is.lt (l:Lt P H P' H'):∀{d:D} {v:V},Is K P H d v->Is K P' H' d v
  |.non,_,h=>h
  |.bl _,_,h=>h
  |.int _,_,h=>h
  |.str _,_,h=>h
  |.tup ds,_,h=>by
    obtain⟨a,vs,e,s,r⟩:=h;exact⟨a,vs,e,l.tup s,aq.lt l r⟩
  |.lst ds,_,h=>by
    obtain⟨a,vs,e,s,r⟩:=h;exact⟨a,vs,e,l.rda s,aq.lt l r⟩
  |.ref k,_,h=>⟨Ry h.1 l.n,by rw[l.io k h.1];exact h.2⟩
theorem aq.lt (l:Lt P H P' H'):∀{ds:List D} {vs:List V},aq K P H ds vs->aq K P' H' ds vs
  | [],_,h=>h
  |_::_,_,h=>by
    obtain⟨v,r,e,p,q⟩:=h;exact⟨v,r,e,Is.lt l p,aq.lt l q⟩
end
noncomputable def Pl.less (P:Pl) (B:Addr->Prop):Pl:={P with bd:=fun a=>P.bd a/\B a}
mutual
theorem Is.less:∀{d:D} {v:V},Is K P H d v->Is K (P.less B) H d v
  |.non,_,h=>h
  |.bl _,_,h=>h
  |.int _,_,h=>h
  |.str _,_,h=>h
  |.tup ds,_,h=>by
    obtain⟨a,vs,e,s,r⟩:=h;exact⟨a,vs,e,s,aq.less r⟩
  |.lst ds,_,h=>by
    obtain⟨a,vs,e,s,r⟩:=h;exact⟨a,vs,e,s.imp (fun⟨n,h⟩=>⟨fun z=>n z.1,h⟩) id,aq.less r⟩
  |.ref k,_,h=>h
theorem aq.less:∀{ds:List D} {vs:List V},aq K P H ds vs->aq K (P.less B) H ds vs
  | [],_,h=>h
  |_::_,_,h=>by
    obtain⟨v,r,e,p,q⟩:=h;exact⟨v,r,e,Is.less p,aq.less q⟩
end
mutual
theorem Is.free (P':Pl):∀{d:D} {v:V},d.lf=true->Is K P H d v->Is K P' H d v
  |.non,_,_,h=>h
  |.bl _,_,_,h=>h
  |.int _,_,_,h=>h
  |.str _,_,_,h=>h
  |.tup ds,_,l,h=>by
    obtain⟨a,vs,e,s,r⟩:=h;exact⟨a,vs,e,s,aq.free P' (by simpa only[D.lf] using l) r⟩
  |.lst _,_,l,_=>by simp[D.lf]at l
  |.ref _,_,l,_=>by simp[D.lf]at l
theorem aq.free (P':Pl):∀{ds:List D} {vs:List V},D.lfs ds=true->aq K P H ds vs->aq K P' H ds vs
  | [],_,_,h=>h
  |_::_,_,l,h=>by
    obtain⟨v,r,e,p,q⟩:=h;simp only[D.lfs,RN]at l;exact⟨v,r,e,Is.free P' l.1 p,aq.free P' l.2 q⟩
end
theorem aq.len:∀{ds:List D} {vs:List V},aq K P H ds vs->vs.length=ds.length
  | [],_,h=>by rw[show _=[] from h];rfl
  |d::ds,_,h=>by
    obtain⟨v,r,e,_,q⟩:=h;subst e
    simp[aq.len q]
theorem aq.get:∀{ds:List D} {vs:List V} {i:Nat} {d:D},aq K P H ds vs->ds[i]? =some d->∃v,vs[i]? =some v/\Is K P H d v
  | [],_,_,_,_,e=>by simp at e
  |d::ds,_,0,_,h,e=>by
    obtain⟨v,r,e',p,_⟩:=h
    simp at e
    subst e e';exact⟨v,rfl,p⟩
  |d::ds,_,i + 1,_,h,e=>by
    obtain⟨v,r,e',_,q⟩:=h;subst e'
    simpa using aq.get (i:=i) q (by simpa using e)
theorem aq.append:∀{ds es:List D} {vs ws:List V},aq K P H ds vs->aq K P H es ws->aq K P H (ds ++ es) (vs ++ ws)
  | [],_,_,_,h,q=>by rw[show _=[] from h];exact q
  |d::ds,_,_,_,h,q=>by
    obtain⟨v,r,e,p,h⟩:=h;subst e;exact⟨v,r ++ _,rfl,p,aq.append h q⟩
theorem aq.take:∀{ds:List D} {vs:List V} (n:Nat),aq K P H ds vs->aq K P H (ds.take n) (vs.take n)
  |_,_,0,_=>rfl
  | [],_,n + 1,h=>by rw[show _=[] from h];rfl
  |d::ds,_,n + 1,h=>by
    obtain⟨v,r,e,p,h⟩:=h;subst e;exact⟨v,_,rfl,p,aq.take n h⟩
theorem aq.drop:∀{ds:List D} {vs:List V} (n:Nat),aq K P H ds vs->aq K P H (ds.drop n) (vs.drop n)
  |_,_,0,h=>h
  | [],_,n + 1,h=>by rw[show _=[] from h];rfl
  |d::ds,_,n + 1,h=>by
    obtain⟨v,r,e,p,h⟩:=h;subst e;exact aq.drop n h
theorem aq.one (h:Is K P H d v):aq K P H [d] [v]:=⟨v,[],rfl,h,rfl⟩
end
noncomputable def gk (H:Hp):List (Str×Addr)->List V->Prop
 | [],vs=>vs=[]
 |p::r,vs=>∃v ws u o,vs=v::ws/\RelV v u/\H p.2=some (.frz o (.own p.2))/\o.data=.cell (some u)/\gk H r ws
theorem gk.up {H H':Hp}(s:∀b o u,H b=some (.frz o u)->H' b=some (.frz o u)):∀{cl:List (Str×Addr)} {vs:List V},gk H cl vs->gk H' cl vs
  | [],_,h=>h
  |_::_,_,h=>by
    obtain⟨v,ws,u,o,e,r,q,d,h⟩:=h;exact⟨v,ws,u,o,e,r,s _ _ _ q,d,h.up s⟩
def gn (H:Hp)(c:Addr)(q:Str):Prop:=∃(o:Obj) (fs:Array Value) (t:Tok),H c=some (.frz o (.own c))/\o.data=.fields fs/\fs[1]? =some (.str q t)
theorem gn.up {H H':Hp}{c:Addr}{q:Str}(s:∀b o u,H b=some (.frz o u)->H' b=some (.frz o u))(h:gn H c q):gn H' c q:=by
 obtain⟨o,fs,t,e,r⟩:=h;exact⟨o,fs,t,s _ _ _ e,r⟩
def gq (H:Hp)(dd:List Int)(dV:Value):Prop:=(dd=[]/\dV=.none)\/(dd≠ []/\∃(td:Addr) (o:Obj) (its:Array Value) (n:Nat),dV=.ref td/\H td=some (.frz o (.own td))/\o.data=.seq its n/\Vals (dd.map V.int) its.toList)
theorem gq.up {H H':Hp}{dd:List Int}{dV:Value}(s:∀b o u,H b=some (.frz o u)->H' b=some (.frz o u))(h:gq H dd dV):gq H' dd dV:=
 h.imp id fun⟨e,td,o,its,n,e1,e2,r⟩=>⟨e,td,o,its,n,e1,s _ _ _ e2,r⟩
noncomputable def zJ (mg:Mgx) (i:FnT) (cl:List (Str×Addr)) (dV doc ctv:Value) (c:Addr):Obj:={cls:=.type "function",data:=.func (PySem.W.fnX i.x i.q (bR i.st) (bL i.st) (aM i.st) cl dV .none doc ((mg "__name__").getD .none) none (.ref c) ctv)}
def gU (K:Fgx)(mg:Mgx)(P:Pl)(H:Hp)(a:Addr)(i:FnT)(caps:List (Str×D)):Prop:=
 ∃(cl:List (Str×Addr)) (dV doc ctv:Value) (c:Addr) (vs:List V),H a=some (.frz (zJ mg i cl dV doc ctv c) (.own a))/\(gn H c i.q/\gq H i.dd dV)/\(cl.map (·.1)=caps.map (·.1)/\caps.map (·.1)=i.fr)/\aq K P H (caps.map (·.2)) vs/\gk H cl vs/\∀x y a,cl.lookup x=some a->cl.lookup y=some a->x=y
theorem gU.up {K:Fgx}{mg:Mgx}{P P':Pl}{H H':Hp}{a:Addr}{i:FnT}{caps:List (Str×D)}(h:gU K mg P H a i caps)(s:∀b o u,H b=some (.frz o u)->H' b=some (.frz o u))(q:∀ds vs,aq K P H ds vs->aq K P' H' ds vs):gU K mg P' H' a i caps:=by
 obtain⟨cl,dV,doc,ctv,c,vs,e1,e2,e3,e4,e5,e6⟩:=h;exact⟨cl,dV,doc,ctv,c,vs,s _ _ _ e1,⟨e2.1.up s,e2.2.up s⟩,e3,q _ _ e4,e5.up s,e6⟩
def jT (K:Fgx)(H:Hp)(a:Addr)(nm:Str)(i:FnT):Prop:=
 ∃(c:Addr) (ps:Array Value),PySem.W.tabIn K nm=some (c,a)/\H a=some (.tbl ps)/\(ps= #[]\/∃c',ps= #[rawInt i.pos.line,rawInt i.pos.col,.ref c']/\gn H c' i.q)
theorem jT.up {K:Fgx}{H H':Hp}{a:Addr}{nm:Str}{i:FnT}(h:jT K H a nm i)(e:∀o,H a=some o->H' a=some o)(s:∀b o u,H b=some (.frz o u)->H' b=some (.frz o u)):jT K H' a nm i:=by
 obtain⟨c,ps,e1,e2,e3⟩:=h;exact⟨c,ps,e1,e _ e2,e3.imp id fun⟨c',z,q⟩=>⟨c',z,q.up s⟩⟩
noncomputable def m9 (K:Fgx) (mg:Mgx) (P:Pl) (H:Hp) (a:Addr):Cl->Prop
 |.lst ds=>∃vs,H a=some (.lst vs)/\aq K P H ds vs
 |.obj c fs=>∃C dx gs,mg c=some (.ref C)/\H a=some (.ins C dx gs)/\gs.map (·.1)=fs.map (·.1)/\aq K P H (fs.map (·.2)) (gs.map (·.2))
 |.dct kvs=>∃vs:List (L2.Key×V),H a=some (.dK vs)/\vs.map (·.1)=kvs.map (·.1)/\aq K P H (kvs.map (·.2)) (vs.map (·.2))
 |.dcf kvs=>∃(vs:List (L2.Key×V)) (ob:Obj) (es:Array DictEntry) (ep:Nat),H a=some (.frz ob (.dK vs))/\ob.data=.dict es ep/\vs.map (·.1)=kvs.map (·.1)/\aq K P H (kvs.map (·.2)) (vs.map (·.2))
 |.fn i caps=>gU K mg P H a i caps
 |.tbl nm i=>jT K H a nm i
noncomputable def Cl.fix:Cl->Bool
 |.dcf _=>true
 |.fn _ _=>true
 |_=>false
structure Hk (K:Fgx)(mg:Mgx)(P:Pl)(H:Hp)(M:Mm):Prop where
 n:P.n=M.length
 cell:∀(k:Nat) c,M[k]? =some c->m9 K mg P H (P.io k) c
 inj:∀j k,j<P.n->k<P.n->P.io j=P.io k->j=k
 bd:∀k,k<P.n->P.bd (P.io k)
 here:∀a,P.bd a->H a≠none
structure LtE (P:Pl)(H:Hp)(P':Pl)(H':Hp):Prop where
 n:P.n<=P'.n
 io:∀k,k<P.n->P'.io k=P.io k
 bd:∀a,P'.bd a->P.bd a\/H a=none
 bm:∀a,P.bd a->P'.bd a
 keep:∀a o,H a=some o->(Fx o\/∀k,k<P.n->P.io k≠a)->H' a=some o
 sure:∀a,H' a=none->H a=none
 nw:∀k,P.n<=k->k<P'.n->H (P'.io k)=none
section
variable {K:Fgx}{mg:Mgx}{P P' P'':Pl}{H H' H'':Hp}{M M':Mm}
theorem LtE.refl (P:Pl)(H:Hp):LtE P H P H:=⟨Ro _,fun _ _=>rfl,fun _ z=>.inl z,fun _ z=>z,fun _ _ e _=>e,fun _ z=>z,fun k h1 h2=>absurd h1 (WX.mpr h2)⟩
theorem LtE.same (s:Same H H'):LtE P H P H':=⟨Ro _,fun _ _=>rfl,fun _ z=>.inl z,fun _ z=>z,fun a o e _=>s a o e,fun a z=>s.free z,fun k h1 h2=>absurd h1 (WX.mpr h2)⟩
theorem Hk.cellAt (h:Hk K mg P H M)(hc:M[k]? =some c)(nd:c.fix=false:=by rfl):∃o,H (P.io k)=some o/\¬ Fx o:=by
  have:=h.cell k c hc
  cases c with
  |lst ds=>
    obtain⟨vs,e,_⟩:=this;exact⟨_,e,fun z=>by rcases z with⟨_,z⟩ |⟨_,_,z⟩ |⟨_,z⟩ |⟨_,z⟩<;>cases z⟩
  |obj c fs=>
    obtain⟨C,dx,gs,_,e,_⟩:=this;exact⟨_,e,fun z=>by rcases z with⟨_,z⟩ |⟨_,_,z⟩ |⟨_,z⟩ |⟨_,z⟩<;>cases z⟩
  |dct kvs=>
    obtain⟨vs,e,_⟩:=this;exact⟨_,e,fun z=>by rcases z with⟨_,z⟩ |⟨_,_,z⟩ |⟨_,z⟩ |⟨_,z⟩<;>cases z⟩
  |dcf kvs=>cases nd
  |fn i caps=>cases nd
  |tbl nm i=>
    obtain⟨c,ps,_,e,_⟩:=this;exact⟨_,e,fun z=>by rcases z with⟨_,z⟩ |⟨_,_,z⟩ |⟨_,z⟩ |⟨_,z⟩<;>cases z⟩
theorem LtE.lt (l:LtE P H P' H')(h:Hk K mg P H M):Lt P H P' H' where
 n:=l.n
 io:=l.io
 bd:=l.bd
 sure:=l.sure
 keep:=fun a o e z=>l.keep a o e (z.imp id fun z k hk q=>z (q ▸ h.bd k hk))
theorem LtE.trans (l:LtE P H P' H')(m:LtE P' H' P'' H''):LtE P H P'' H'' where
 n:=RB l.n m.n
 io:=fun k h=>(m.io k (Ry h l.n)).trans (l.io k h)
 bd:=fun a z=>(m.bd a z).elim (l.bd a) fun z=>.inr (l.sure a z)
 bm:=fun a z=>m.bm a (l.bm a z)
 keep:=fun a o e h=>m.keep a o (l.keep a o e h) <| h.imp id fun h k hk q=>by
  rcases T5 k P.n with z |z
  ·rw[l.io k z]at q;exact h k z q
  ·rw[<-q,l.nw k z hk]at e;cases e
 sure:=fun a z=>l.sure a (m.sure a z)
 nw:=fun k h1 h2=>by
  rcases T5 k P'.n with z |z
  ·rw[m.io k z];exact l.nw k h1 z
  ·exact l.sure _ (m.nw k z h2)
end
inductive Cp where
 |eq |ne |lt |le |gt |ge |isin |notin |same |other
mutual
def D.eq:D->D->Bool
 |.non,.non=>true
 |.bl a,.bl b=>a==b
 |.bl a,.int b=>(if a then 1 else 0)==b
 |.int a,.bl b=>a==(if b then 1 else 0)
 |.int a,.int b=>a==b
 |.str a,.str b=>a==b
 |.tup a,.tup b=>D.eqs a b
 |.lst a,.lst b=>D.eqs a b
 |.ref a,.ref b=>a==b
 |_,_=>false
def D.eqs:List D->List D->Bool
 | [],[]=>true
 |a::as,b::bs=>D.eq a b && D.eqs as bs
 |_,_=>false
end
mutual
def D.dep:D->Nat
 |.tup xs=>D.deps xs + 1
 |.lst xs=>D.deps xs + 1
 |.ref _=>101
 |_=>0
def D.deps:List D->Nat
 | []=>0
 |a::as=>max (D.dep a) (D.deps as)
end
noncomputable def D.flat:D->Bool
 |.tup _=>false
 |.lst _=>false
 |.ref _=>false
 |_=>true
noncomputable def qQ (i j:Str):Bool:= !(Builtin.Str.occurrences j i 0 j.length 1).isEmpty
def bY (a b:D):Bool:=a.flat==b.flat && decide (b.dep<=50)
noncomputable def ju (a b:D):Option Bool:=if bY a b=true/\a.dep<=50 then some (D.eq a b) else none
noncomputable def gY (a b:D):Option Bool:=if bY a b=true/\a.dep<=50 then some (!D.eq a b) else none
noncomputable def cB (f:Int->Int->Bool) (a b:D):Option Bool:=match a with
 |.int i=>(match b with |.int j=>some (f i j) |_=>none)
 |_=>none
noncomputable def jw (a b:D):Option Bool:=match b with
 |.str j=>(match a with |.str i=>some (qQ i j) |_=>none)
 |.lst xs=>if (a.flat && xs.all D.flat)=true then some (xs.any fun y=>D.eq y a) else none
 |.tup xs=>if (a.flat && xs.all D.flat)=true then some (xs.any fun y=>D.eq y a) else none
 |_=>none
noncomputable def dN (a b:D):Option Bool:=match b with
 |.str j=>(match a with |.str i=>some (!qQ i j) |_=>none)
 |.lst xs=>if (a.flat && xs.all D.flat)=true then some (!xs.any fun y=>D.eq y a) else none
 |.tup xs=>if (a.flat && xs.all D.flat)=true then some (!xs.any fun y=>D.eq y a) else none
 |_=>none
noncomputable def jz (a b:D):Option Bool:=match b with
 |.bl b=>(match a with |.bl a=>some (a==b) |_=>some false)
 |.non=>(match a with |.non=>some true |_=>some false)
 |_=>none
noncomputable def jy (a b:D):Option Bool:=match b with
 |.bl b=>(match a with |.bl a=>some (!(a==b)) |_=>some true)
 |.non=>(match a with |.non=>some false |_=>some true)
 |_=>none
noncomputable def bU (c:Cp) (a b:D):Option Bool:=match c with
 |.eq=>ju a b
 |.ne=>gY a b
 |.lt=>cB (fun i j=>decide (i<j)) a b
 |.le=>cB (fun i j=>decide (i<=j)) a b
 |.gt=>cB (fun i j=>decide (j<i)) a b
 |.ge=>cB (fun i j=>decide (j<=i)) a b
 |.isin=>jw a b
 |.notin=>dN a b
 |.same=>jz a b
 |.other=>jy a b
noncomputable def b_ (K:Fgx) (P:Pl) (H:Hp):D->V->Prop
 |.lst ds,v=>∃a vs,v=.ref a/\yq K P H a vs/\aq K P H ds vs
 |d,v=>Is K P H d v
section
variable {X:Cx}{pins:Pnx}{σ:L2.St}{H:Hp}{s:Shared}
theorem Ph {K:Fgx}{P:Pl}{a:Addr}{xs:List V}(h:yq K P H a xs):bK K H a xs:=h.imp (·.2) id
noncomputable def bF (K:Fgx) (P:Pl) (H:Hp):D->V->Prop
 |.lst ds,v=>∃a vs,v=.ref a/\bK K H a vs/\aq K P H ds vs
 |d,v=>Is K P H d v
theorem b_.w {K:Fgx}{P:Pl}{d:D}{v:V}(h:b_ K P H d v):bF K P H d v:=by
 cases d<;>first |exact h |(obtain⟨a,vs,e,r,q⟩:=h;exact⟨a,vs,e,Ph r,q⟩)
theorem Is.w {K:Fgx}{P:Pl}{d:D}{v:V}(h:Is K P H d v):bF K P H d v:=by
 cases d<;>first |exact h |(obtain⟨a,vs,e,r,q⟩:=h;exact⟨a,vs,e,r.imp (·.2) id,q⟩)
theorem sql (I:Inv X pins σ H s)(h:bK X.K H l xs):xs.length<=sizeLine/\∃its:List Value,Vals xs its/\s.heap.IsList l its.toArray:=by
 obtain⟨its,r,p,z⟩:=I.list h;exact⟨z,its,r,p.isList⟩
mutual
theorem Is.inj (I:Inv X pins σ H s):∀(d e:D) (v:V),bF X.K A H d v->bF X.K B H e v->d.dep<=100->e.dep<=100->d=e
  |.ref _,e,v,h,h',hd,he=>by simp[D.dep]at hd
  |.non,e,v,h,h',hd,he=>by
    have hv:v=.non:=h;subst hv;cases e<;>first |(simp[D.dep]at he;done) |(simp[bF,Is]at h'<;>rfl)
  |.bl b,e,v,h,h',hd,he=>by
    have hv:v=.bl b:=h;subst hv;cases e<;>first |(simp[D.dep]at he;done) |(simp[bF,Is]at h'<;>simp[h'])
  |.int b,e,v,h,h',hd,he=>by
    have hv:v=.int b:=h;subst hv;cases e<;>first |(simp[D.dep]at he;done) |(simp[bF,Is]at h'<;>simp[h'])
  |.str b,e,v,h,h',hd,he=>by
    have hv:v=.str b:=h;subst hv;cases e<;>first |(simp[D.dep]at he;done) |(simp[bF,Is]at h'<;>simp[h'])
  |.tup ds,e,v,h,h',hd,he=>by
    simp only[D.dep]at hd;simp only[bF,Is]at h;obtain⟨a,vs,rfl,t,r⟩:=h
    cases e with
    |tup es=>
      simp only[bF,Is]at h';obtain⟨b,ws,e1,t',r'⟩:=h';cases e1;have e2:=I.tuple_inj t t';subst e2;simp only[D.dep]at he;rw[aq.inj I ds es vs r r' (by omega) (by omega)]
    |lst es=>
      obtain⟨b,ws,e1,t',r'⟩:=h';cases e1;obtain⟨_,its,_,o2,e2,c2,_⟩:=sql I t';obtain⟨its2,_,⟨o,e3,c3,_⟩,_⟩:=I.tuple t;rw[e2]at e3;cases e3;rw[c2]at c3;exact absurd c3 (by simp)
    |ref _=>simp[D.dep]at he
    |_=>simp[bF,Is]at h'
  |.lst ds,e,v,h,h',hd,he=>by
    simp only[D.dep]at hd;obtain⟨a,vs,rfl,t,r⟩:=h
    cases e with
    |lst es=>
      obtain⟨b,ws,e1,t',r'⟩:=h';cases e1;have e2:=I.list_inj (t) (t');subst e2;simp only[D.dep]at he;rw[aq.inj I ds es vs r r' (by omega) (by omega)]
    |tup es=>
      simp only[bF,Is]at h';obtain⟨b,ws,e1,t',r'⟩:=h';cases e1;obtain⟨_,its,_,o2,e2,c2,_⟩:=sql I t;obtain⟨its2,_,⟨o,e3,c3,_⟩,_⟩:=I.tuple t';rw[e2]at e3;cases e3;rw[c2]at c3;exact absurd c3 (by simp)
    |ref _=>simp[D.dep]at he
    |_=>simp[bF,Is]at h'
theorem aq.inj (I:Inv X pins σ H s):∀(ds es:List D) (vs:List V),aq X.K A H ds vs->aq X.K B H es vs->D.deps ds<=100->D.deps es<=100->ds=es
  | [],es,vs,h,h',hd,he=>by
    have hv:vs=[]:=h;subst hv
    cases es with
    |nil=>rfl
    |cons=>simp[aq]at h'
  |d::ds,es,vs,h,h',hd,he=>by
    simp only[D.deps]at hd;obtain⟨v,r,rfl,p,q⟩:=h
    cases es with
    |nil=>simp[aq]at h'
    |cons e es=>
      obtain⟨v',r',e1,p',q'⟩:=h';cases e1;simp only[D.deps]at he;rw[Is.inj I d e v p.w p'.w (by omega) (by omega),aq.inj I ds es r q q' (by omega) (by omega)]
end
mutual
theorem D.eq_refl:∀d:D,D.eq d d=true
 |.non=>rfl
 |.bl b=>by simp[D.eq]
 |.int b=>by simp[D.eq]
 |.str b=>by simp[D.eq]
 |.tup ds=>by simp only[D.eq];exact D.eqs_refl ds
 |.lst ds=>by simp only[D.eq];exact D.eqs_refl ds
 |.ref n=>by simp[D.eq]
theorem D.eqs_refl:∀d:List D,D.eqs d d=true
 | []=>rfl
 |d::ds=>by simp only[D.eqs,D.eq_refl d,D.eqs_refl ds,W3]
end
theorem D.eqs_len:∀(ds es:List D),ds.length≠es.length->D.eqs ds es=false
  | [],[],h=>absurd rfl h
  | [],_::_,_=>rfl
  |_::_,[],_=>rfl
  |d::ds,e::es,h=>by
    simp only[D.eqs,D.eqs_len ds es (by simpa using h),VF]
theorem D.eqs_all:∀(ds es:List D),ds.length=es.length->D.eqs ds es=(List.range ds.length).all fun j=>D.eq (ds.getD j .non) (es.getD j .non)
  | [],[],_=>rfl
  |d::ds,e::es,h=>by
    rw[D.eqs,D.eqs_all ds es (by simpa using h),RD,List.range_succ_eq_map,Uo,List.all_map];rfl
mutual
theorem uz (I:Inv X pins σ H s):∀(d e:D) (v w:V) (u u':Value),bF X.K A H d v->bF X.K B H e w->RelV v u->RelV w u'->Ar.units + d.dep<cLine->d.dep<=100->e.dep<=100->SeqAt.EqAt Ar s u u' (D.eq d e)
  |.ref _,e,v,w,u,u',h1,h2,r1,r2,hu,hd,he=>by simp[D.dep]at hd
  |.non,e,v,w,u,u',h1,h2,r1,r2,hu,hd,he=>by
    have hv:v=.non:=h1;subst hv;cases r1;have hu':Ar.units<cLine:=by omega
    cases e with
    |ref _=>simp[D.dep]at he
    |non=>have hw:w=.non:=h2;subst hw;cases r2;exact Vw _
    |bl b=>have hw:w=.bl b:=h2;subst hw;cases r2;exact SeqAt.EqAt.none_bool _
    |int b=>have hw:w=.int b:=h2;subst hw;obtain⟨t,rfl⟩:=r2;exact SeqAt.EqAt.none_int _ _
    |str b=>have hw:w=.str b:=h2;subst hw;obtain⟨t,rfl⟩:=r2;exact SeqAt.EqAt.none_str _ _
    |tup es=>obtain⟨a,vs,rfl,t,_⟩:=h2;cases r2;obtain⟨its,_,p,_⟩:=I.tuple t;exact SeqAt.EqAt.none_tuple p hu'
    |lst es=>obtain⟨a,vs,rfl,t,_⟩:=h2;cases r2;obtain⟨_,its,_,p⟩:=sql I t;exact SeqAt.EqAt.none_list p hu'
  |.bl x,e,v,w,u,u',h1,h2,r1,r2,hu,hd,he=>by
    have hv:v=.bl x:=h1;subst hv;cases r1;have hu':Ar.units<cLine:=by omega
    cases e with
    |ref _=>simp[D.dep]at he
    |non=>have hw:w=.non:=h2;subst hw;cases r2;exact SeqAt.EqAt.bool_none _
    |bl b=>have hw:w=.bl b:=h2;subst hw;cases r2;exact SeqAt.EqAt.bool_bool _ _
    |int b=>have hw:w=.int b:=h2;subst hw;obtain⟨t,rfl⟩:=r2;exact SeqAt.EqAt.bool_int _ _ _
    |str b=>have hw:w=.str b:=h2;subst hw;obtain⟨t,rfl⟩:=r2;exact SeqAt.EqAt.bool_str _ _ _
    |tup es=>obtain⟨a,vs,rfl,t,_⟩:=h2;cases r2;obtain⟨its,_,p,_⟩:=I.tuple t;exact SeqAt.EqAt.bool_tuple _ p hu'
    |lst es=>obtain⟨a,vs,rfl,t,_⟩:=h2;cases r2;obtain⟨_,its,_,p⟩:=sql I t;exact SeqAt.EqAt.bool_list _ p hu'
  |.int x,e,v,w,u,u',h1,h2,r1,r2,hu,hd,he=>by
    have hv:v=.int x:=h1;subst hv;obtain⟨t0,rfl⟩:=r1;have hu':Ar.units<cLine:=by omega
    cases e with
    |ref _=>simp[D.dep]at he
    |non=>have hw:w=.non:=h2;subst hw;cases r2;exact SeqAt.EqAt.int_none _ _
    |bl b=>have hw:w=.bl b:=h2;subst hw;cases r2;exact SeqAt.EqAt.int_bool _ _ _
    |int b=>have hw:w=.int b:=h2;subst hw;obtain⟨t,rfl⟩:=r2;exact V2 _ _ _ _
    |str b=>have hw:w=.str b:=h2;subst hw;obtain⟨t,rfl⟩:=r2;exact VR _ _ _ _
    |tup es=>obtain⟨a,vs,rfl,t,_⟩:=h2;cases r2;obtain⟨its,_,p,_⟩:=I.tuple t;exact SeqAt.EqAt.int_tuple _ _ p hu'
    |lst es=>obtain⟨a,vs,rfl,t,_⟩:=h2;cases r2;obtain⟨_,its,_,p⟩:=sql I t;exact SeqAt.EqAt.int_list _ _ p hu'
  |.str x,e,v,w,u,u',h1,h2,r1,r2,hu,hd,he=>by
    have hv:v=.str x:=h1;subst hv;obtain⟨t0,rfl⟩:=r1;have hu':Ar.units<cLine:=by omega
    cases e with
    |ref _=>simp[D.dep]at he
    |non=>have hw:w=.non:=h2;subst hw;cases r2;exact SeqAt.EqAt.str_none _ _
    |bl b=>have hw:w=.bl b:=h2;subst hw;cases r2;exact SeqAt.EqAt.str_bool _ _ _
    |int b=>have hw:w=.int b:=h2;subst hw;obtain⟨t,rfl⟩:=r2;exact V0 _ _ _ _
    |str b=>have hw:w=.str b:=h2;subst hw;obtain⟨t,rfl⟩:=r2;exact V3 _ _ _ _
    |tup es=>obtain⟨a,vs,rfl,t,_⟩:=h2;cases r2;obtain⟨its,_,p,_⟩:=I.tuple t;exact SeqAt.EqAt.str_tuple _ _ p hu'
    |lst es=>obtain⟨a,vs,rfl,t,_⟩:=h2;cases r2;obtain⟨_,its,_,p⟩:=sql I t;exact SeqAt.EqAt.str_list _ _ p hu'
  |.tup ds,e,v,w,u,u',h1,h2,r1,r2,hu,hd,he=>by
    have h1':=h1;have hd':=hd;simp only[D.dep]at hu hd;have hu':Ar.units<cLine:=by omega
    obtain⟨a,vs,rfl,t,q⟩:=h1;cases r1;obtain⟨its,rv,p,hz⟩:=I.tuple t
    cases e with
    |ref _=>simp[D.dep]at he
    |non=>have hw:w=.non:=h2;subst hw;cases r2;exact SeqAt.EqAt.tuple_none p hu'
    |bl b=>have hw:w=.bl b:=h2;subst hw;cases r2;exact SeqAt.EqAt.tuple_bool _ p hu'
    |int b=>have hw:w=.int b:=h2;subst hw;obtain⟨t,rfl⟩:=r2;exact SeqAt.EqAt.tuple_int _ _ p hu'
    |str b=>have hw:w=.str b:=h2;subst hw;obtain⟨t,rfl⟩:=r2;exact SeqAt.EqAt.tuple_str _ _ p hu'
    |tup es=>
      have h2':=h2;have he':=he;simp only[D.dep]at he;obtain⟨b,ws,rfl,t',q'⟩:=h2;cases r2
      by_cases hab:a=b
      · subst hab;rw[Is.inj I _ _ _ h1' h2' hd' he',D.eq_refl];exact Vw _
      · obtain⟨its',rv',p',hz'⟩:=I.tuple t';refine SeqAt.EqAt.of_refs hab ?_;have l1:its.toArray.size=ds.length:=by rw[Rq, <-rv.length,q.len]
        have l2:its'.toArray.size=es.length:=by rw[Rq, <-rv'.length,q'.len]
        have key:=SeqAt.RcAt.tuples (A:=Ar) (s:=s) (e:=fun j=>D.eq (ds.getD j .non) (es.getD j .non)) p p' hu' fun j j1 j2=>by
          simpa using jX I ds es vs ws its its' q q' rv rv' (Ar:=Ar.in1) (by show Ar.units + 1 + _<_;omega) (by omega) (by omega) j (by simpa using j1) (by simpa using j2)
        rw[l1,l2]at key
        by_cases hl:ds.length=es.length
        · rw[show D.eq (.tup ds) (.tup es)=D.eqs ds es from rfl,D.eqs_all ds es hl];rw[hl,Wh,TF,V7]at key;rw[hl];exact key
        · rw[show D.eq (.tup ds) (.tup es)=D.eqs ds es from rfl,D.eqs_len ds es hl];rw[Tt.mpr hl,VF]at key;exact key
    |lst es=>obtain⟨b,ws,rfl,t',_⟩:=h2;cases r2;obtain⟨_,its',_,p'⟩:=sql I t';exact SeqAt.EqAt.tuple_list p p' hu'
  |.lst ds,e,v,w,u,u',h1,h2,r1,r2,hu,hd,he=>by
    have h1':=h1;have hd':=hd;simp only[D.dep]at hu hd;have hu':Ar.units<cLine:=by omega
    obtain⟨a,vs,rfl,t,q⟩:=h1;cases r1;obtain⟨hz,its,rv,p⟩:=sql I t
    cases e with
    |ref _=>simp[D.dep]at he
    |non=>have hw:w=.non:=h2;subst hw;cases r2;exact SeqAt.EqAt.list_none p hu'
    |bl b=>have hw:w=.bl b:=h2;subst hw;cases r2;exact SeqAt.EqAt.list_bool _ p hu'
    |int b=>have hw:w=.int b:=h2;subst hw;obtain⟨t,rfl⟩:=r2;exact SeqAt.EqAt.list_int _ _ p hu'
    |str b=>have hw:w=.str b:=h2;subst hw;obtain⟨t,rfl⟩:=r2;exact SeqAt.EqAt.list_str _ _ p hu'
    |tup es=>obtain⟨b,ws,rfl,t',_⟩:=h2;cases r2;obtain⟨its',_,p',_⟩:=I.tuple t';exact SeqAt.EqAt.list_tuple p p' hu'
    |lst es=>
      have h2':=h2;have he':=he;simp only[D.dep]at he;obtain⟨b,ws,rfl,t',q'⟩:=h2;cases r2
      by_cases hab:a=b
      · subst hab;rw[Is.inj I _ _ _ h1' h2' hd' he',D.eq_refl];exact Vw _
      · obtain⟨hz',its',rv',p'⟩:=sql I t';refine SeqAt.EqAt.of_refs hab ?_;have l1:its.toArray.size=ds.length:=by rw[Rq, <-rv.length,q.len]
        have l2:its'.toArray.size=es.length:=by rw[Rq, <-rv'.length,q'.len]
        by_cases hl:ds.length=es.length
        · have key:=SeqAt.RcAt.lists (A:=Ar) (s:=s) (e:=fun j=>D.eq (ds.getD j .non) (es.getD j .non)) p p' (by rw[l1,l2,hl]) hu' fun j j1 j2=>by
            simpa using jX I ds es vs ws its its' q q' rv rv' (Ar:=Ar.in1) (by show Ar.units + 1 + _<_;omega) (by omega) (by omega) j (by simpa using j1) (by simpa using j2)
          rw[show D.eq (.lst ds) (.lst es)=D.eqs ds es from rfl,D.eqs_all ds es hl];rw[l1]at key;exact key
        · rw[show D.eq (.lst ds) (.lst es)=D.eqs ds es from rfl,D.eqs_len ds es hl];exact Wi p p' (by rw[l1,l2];simpa using hl) hu'
theorem jX (I:Inv X pins σ H s):∀(ds es:List D) (vs ws:List V) (its its':List Value),aq X.K A H ds vs->aq X.K B H es ws->Vals vs its->Vals ws its'->Ar.units + D.deps ds<cLine->D.deps ds<=100->D.deps es<=100->
    ∀(j:Nat) (h1:j<its.length) (h2:j<its'.length),SeqAt.EqAt Ar s its[j] its'[j] (D.eq (ds.getD j .non) (es.getD j .non))
  | [],es,vs,ws,its,its',h,h',r,r',hu,hd,he,j,j1,j2=>by
    have hv:vs=[]:=h;subst hv;cases r;exact absurd j1 (VB _)
  |d::ds,[],vs,ws,its,its',h,h',r,r',hu,hd,he,j,j1,j2=>by
    have hv:ws=[]:=h';subst hv;cases r';exact absurd j2 (VB _)
  |d::ds,e::es,vs,ws,its,its',h,h',r,r',hu,hd,he,j,j1,j2=>by
    obtain⟨v,vr,rfl,p,q⟩:=h;obtain⟨w,wr,rfl,p',q'⟩:=h';simp only[D.deps]at hu hd he
    cases r with
    |cons r1 r2=>
      cases r' with
      |cons r1' r2'=>
        cases j with
        |zero=>exact uz I d e v w _ _ p.w p'.w r1 r1' (by omega) (by omega) (by omega)
        |succ j=>exact jX I ds es vr wr _ _ q q' r2 r2' (by omega) (by omega) (by omega) j (by simpa using j1) (by simpa using j2)
end
theorem CG {d e:D}{A B:Pl}{K:Fgx}{v w:V}(fd:d.flat=true)(fe:e.flat=true)(h1:bF K A H d v)(h2:bF K B H e w):
  (jm v w=true/\D.eq d e=decide (v=w))\/(∃a i,v=.bl a/\w=.int i/\D.eq d e=((if a then 1 else 0)==i))\/∃a i,v=.int i/\w=.bl a/\D.eq d e=(i==(if a then 1 else 0)):=by
 cases d<;>cases e<;>simp only[D.flat,Ug]at fd fe<;>simp only[bF,Is]at h1 h2<;>subst h1 h2<;>simp[jm,D.eq]
 all_goals first |rfl |(rw[Tg];simp)
noncomputable def ji (K:Fgx) (neg:Bool):R2:=fun x y H Q=>∃(A B:Pl) (d e:D),bF K A H d x/\bF K B H e y/\bY d e=true/\d.dep<=50/\Q (.bl (if neg then !D.eq d e else D.eq d e)) H
theorem Jh (hu:X.A.units + 60<cLine):bw X (compareOp .Eq) (ji X.K false):=by
  intro pins s σ H x y v u Q I rx ry h;obtain⟨A,B,d,e,h1,h2,hk,hd,q⟩:=h;have q:Q (.bl (D.eq d e)) H:=q;have fin:SeqAt.RcAt X.A s v u (D.eq d e)->wpAny (model X.prog X.w) X.A (compareOp .Eq v u) (EP X pins σ Q) X.xe s:=fun r=>EqBoolInt.of_rc r ⟨.bl _,H,I,rfl,q⟩;have hu':X.A.units<cLine:=by omega
  cases fd:d.flat with
  |true=>
    simp only[bY,RN,T8,Vz]at hk;have fe:e.flat=true:=hk.1.symm.trans fd;rcases CG fd fe h1 h2 with⟨sc,eq⟩ |⟨a,i,rfl,rfl,eq⟩ |⟨a,i,rfl,rfl,eq⟩
    · exact Jg pins s σ H x y v u Q I rx ry ⟨sc,by rw[<-eq];exact q⟩
    · cases rx;obtain⟨t,rfl⟩:=ry;exact EqBoolInt.eq_bool_int ⟨.bl _,H,I,rfl,by rw[<-eq];exact q⟩
    · cases ry;obtain⟨t,rfl⟩:=rx;exact EqBoolInt.eq_int_bool ⟨.bl _,H,I,rfl,by rw[<-eq];exact q⟩
  |false=>
    simp only[bY,RN,T8,Vz]at hk;have he:=hk.2;have fe:e.flat=false:=hk.1.symm.trans fd
    cases d with
    |tup ds=>
      obtain⟨a,vs,rfl,t,p⟩:=h1;cases rx;obtain⟨its,rv,pt,hz⟩:=I.tuple t;simp only[D.dep]at hd
      cases e with
      |tup es=>
        obtain⟨b,ws,rfl,t',p'⟩:=h2;cases ry;obtain⟨its',rv',pt',hz'⟩:=I.tuple t';have l1:its.toArray.size=ds.length:=by rw[Rq, <-rv.length,p.len]
        have l2:its'.toArray.size=es.length:=by rw[Rq, <-rv'.length,p'.len]
        have key:=SeqAt.RcAt.tuples (A:=X.A) (s:=s) (e:=fun j=>D.eq (ds.getD j .non) (es.getD j .non)) pt pt' hu' fun j j1 j2=>by
          simpa using jX I ds es vs ws its its' p p' rv rv' (Ar:=X.A.in1) (by show X.A.units + 1 + _<_;omega) (by omega) (by simp only[D.dep]at he;omega) j (by simpa using j1) (by simpa using j2)
        rw[l1,l2]at key;refine fin ?_
        by_cases hl:ds.length=es.length
        · rw[show D.eq (.tup ds) (.tup es)=D.eqs ds es from rfl,D.eqs_all ds es hl];rw[hl,Wh,TF,V7]at key;rw[hl];exact key
        · rw[show D.eq (.tup ds) (.tup es)=D.eqs ds es from rfl,D.eqs_len ds es hl];rw[Tt.mpr hl,VF]at key;exact key
      |lst es=>
        obtain⟨b,ws,rfl,t',p'⟩:=h2;cases ry;obtain⟨_,its',rv',e'⟩:=sql I t';exact fin (SeqAt.RcAt.tuple_list pt e' hu')
      |ref _=>simp[D.dep]at he
      |_=>cases fe
    |lst ds=>
      obtain⟨a,vs,rfl,t,p⟩:=h1;cases rx;obtain⟨hz,its,rv,pt⟩:=sql I t;simp only[D.dep]at hd
      cases e with
      |tup es=>
        obtain⟨b,ws,rfl,t',p'⟩:=h2;cases ry;obtain⟨its',rv',pt',hz'⟩:=I.tuple t';exact fin (SeqAt.RcAt.list_tuple pt pt' hu')
      |lst es=>
        obtain⟨b,ws,rfl,t',p'⟩:=h2;cases ry;obtain⟨_,its',rv',pt'⟩:=sql I t';have l1:its.toArray.size=ds.length:=by rw[Rq, <-rv.length,p.len]
        have l2:its'.toArray.size=es.length:=by rw[Rq, <-rv'.length,p'.len]
        refine fin ?_
        by_cases hl:ds.length=es.length
        · have key:=SeqAt.RcAt.lists (A:=X.A) (s:=s) (e:=fun j=>D.eq (ds.getD j .non) (es.getD j .non)) pt pt' (by rw[l1,l2,hl]) hu' fun j j1 j2=>by
            simpa using jX I ds es vs ws its its' p p' rv rv' (Ar:=X.A.in1) (by show X.A.units + 1 + _<_;omega) (by omega) (by simp only[D.dep]at he;omega) j (by simpa using j1) (by simpa using j2)
          rw[show D.eq (.lst ds) (.lst es)=D.eqs ds es from rfl,D.eqs_all ds es hl];rw[l1]at key;exact key
        · rw[show D.eq (.lst ds) (.lst es)=D.eqs ds es from rfl,D.eqs_len ds es hl];exact Wi pt pt' (by rw[l1,l2];simpa using hl) hu'
      |ref _=>simp[D.dep]at he
      |_=>cases fe
    |ref _=>simp[D.dep]at hd
    |_=>cases fd
theorem Ju (hu:X.A.units + 60<cLine):bw X (compareOp .NotEq) (ji X.K true):=by
  intro pins s σ H x y v u Q I rx ry h;obtain⟨A,B,d,e,h1,h2,hk,hd,q⟩:=h;have q:Q (.bl (!D.eq d e)) H:=q;have fin:SeqAt.RcNeAt X.A s v u (!D.eq d e)->wpAny (model X.prog X.w) X.A (compareOp .NotEq v u) (EP X pins σ Q) X.xe s:=fun r=>EqBoolInt.of_rcne r ⟨.bl _,H,I,rfl,q⟩;have hu':X.A.units<cLine:=by omega
  cases fd:d.flat with
  |true=>
    simp only[bY,RN,T8,Vz]at hk;have fe:e.flat=true:=hk.1.symm.trans fd;rcases CG fd fe h1 h2 with⟨sc,eq⟩ |⟨a,i,rfl,rfl,eq⟩ |⟨a,i,rfl,rfl,eq⟩
    · exact Jt pins s σ H x y v u Q I rx ry ⟨sc,by rw[<-eq];exact q⟩
    · cases rx;obtain⟨t,rfl⟩:=ry;exact EqBoolInt.ne_bool_int ⟨.bl _,H,I,rfl,by rw[<-eq];exact q⟩
    · cases ry;obtain⟨t,rfl⟩:=rx;exact EqBoolInt.ne_int_bool ⟨.bl _,H,I,rfl,by rw[<-eq];exact q⟩
  |false=>
    simp only[bY,RN,T8,Vz]at hk;have he:=hk.2;have fe:e.flat=false:=hk.1.symm.trans fd
    cases d with
    |tup ds=>
      obtain⟨a,vs,rfl,t,p⟩:=h1;cases rx;obtain⟨its,rv,pt,hz⟩:=I.tuple t;simp only[D.dep]at hd
      cases e with
      |tup es=>
        obtain⟨b,ws,rfl,t',p'⟩:=h2;cases ry;obtain⟨its',rv',pt',hz'⟩:=I.tuple t';have l1:its.toArray.size=ds.length:=by rw[Rq, <-rv.length,p.len]
        have l2:its'.toArray.size=es.length:=by rw[Rq, <-rv'.length,p'.len]
        have key:=SeqAt.RcNeAt.tuples (A:=X.A) (s:=s) (e:=fun j=>D.eq (ds.getD j .non) (es.getD j .non)) pt pt' hu' fun j j1 j2=>by
          simpa using jX I ds es vs ws its its' p p' rv rv' (Ar:=X.A.in1) (by show X.A.units + 1 + _<_;omega) (by omega) (by simp only[D.dep]at he;omega) j (by simpa using j1) (by simpa using j2)
        rw[l1,l2]at key;refine fin ?_
        by_cases hl:ds.length=es.length
        · rw[show D.eq (.tup ds) (.tup es)=D.eqs ds es from rfl,D.eqs_all ds es hl];rw[hl,Wh,TF,V7]at key;rw[hl];exact key
        · rw[show D.eq (.tup ds) (.tup es)=D.eqs ds es from rfl,D.eqs_len ds es hl];rw[Tt.mpr hl,VF]at key;exact key
      |lst es=>
        obtain⟨b,ws,rfl,t',p'⟩:=h2;cases ry;obtain⟨_,its',rv',e'⟩:=sql I t';exact fin (SeqAt.RcNeAt.tuple_list pt e' hu')
      |ref _=>simp[D.dep]at he
      |_=>cases fe
    |lst ds=>
      obtain⟨a,vs,rfl,t,p⟩:=h1;cases rx;obtain⟨hz,its,rv,pt⟩:=sql I t;simp only[D.dep]at hd
      cases e with
      |tup es=>
        obtain⟨b,ws,rfl,t',p'⟩:=h2;cases ry;obtain⟨its',rv',pt',hz'⟩:=I.tuple t';exact fin (SeqAt.RcNeAt.list_tuple pt pt' hu')
      |lst es=>
        obtain⟨b,ws,rfl,t',p'⟩:=h2;cases ry;obtain⟨_,its',rv',pt'⟩:=sql I t';have l1:its.toArray.size=ds.length:=by rw[Rq, <-rv.length,p.len]
        have l2:its'.toArray.size=es.length:=by rw[Rq, <-rv'.length,p'.len]
        refine fin ?_
        by_cases hl:ds.length=es.length
        · have key:=SeqAt.RcNeAt.lists (A:=X.A) (s:=s) (e:=fun j=>D.eq (ds.getD j .non) (es.getD j .non)) pt pt' (by rw[l1,l2,hl]) hu' fun j j1 j2=>by
            simpa using jX I ds es vs ws its its' p p' rv rv' (Ar:=X.A.in1) (by show X.A.units + 1 + _<_;omega) (by omega) (by simp only[D.dep]at he;omega) j (by simpa using j1) (by simpa using j2)
          rw[show D.eq (.lst ds) (.lst es)=D.eqs ds es from rfl,D.eqs_all ds es hl];rw[l1]at key;exact key
        · rw[show D.eq (.lst ds) (.lst es)=D.eqs ds es from rfl,D.eqs_len ds es hl];exact SeqAt.RcNeAt.lists_lengths pt pt' (by rw[l1,l2];simpa using hl) hu'
      |ref _=>simp[D.dep]at he
      |_=>cases fe
    |ref _=>simp[D.dep]at hd
    |_=>cases fd
noncomputable def nQ:Cp->CmpOp
 |.eq=>.Eq
 |.ne=>.NotEq
 |.lt=>.Lt
 |.le=>.LtE
 |.gt=>.Gt
 |.ge=>.GtE
 |.isin=>.In
 |.notin=>.NotIn
 |.same=>.Is
 |.other=>.IsNot
noncomputable def rP (K:Fgx):Cp->R2
 |.eq=>ji K false
 |.ne=>ji K true
 |.lt=>fH fun i j=>.bl (decide (i<j))
 |.le=>fH fun i j=>.bl (decide (i<=j))
 |.gt=>fH fun i j=>.bl (decide (j<i))
 |.ge=>fH fun i j=>.bl (decide (j<=i))
 |.isin=>fun x y H Q=>(∃i j,x=.str i/\y=.str j/\Q (.bl (!(Builtin.Str.occurrences j i 0 j.length 1).isEmpty)) H)\/rQ K false x y H Q
 |.notin=>fun x y H Q=>(∃i j,x=.str i/\y=.str j/\Q (.bl (!(!(Builtin.Str.occurrences j i 0 j.length 1).isEmpty))) H)\/rQ K true x y H Q
 |.same=>fun x y H Q=>(y=.non/\Q (.bl (decide (x=.non))) H)\/(∃b,y=.bl b/\Q (.bl (decide (x=.bl b))) H)
 |.other=>fun x y H Q=>(y=.non/\Q (.bl (!decide (x=.non))) H)\/(∃b,y=.bl b/\Q (.bl (!decide (x=.bl b))) H)
theorem nR (hu:X.A.units + 60<cLine):∀c:Cp,bw X (compareOp (nQ c)) (rP X.K c)
 |.eq=>Jh hu
 |.ne=>Ju hu
 |.lt=>Js
 |.le=>Jr
 |.gt=>Jk
 |.ge=>Jj
 |.isin=>Jm.or Jl
 |.notin=>Jx.or Jv
 |.same=>Jp.or Jo
 |.other=>Jw.or Jq
theorem nW {K:Fgx}{A:Pl}{d:D}{v:V}(f:d.flat=true)(h:Is K A H d v):g8 v=true:=by
 cases d<;>simp only[D.flat,Ug]at f<;>simp only[Is]at h<;>subst h<;>rfl
theorem uD {K:Fgx}{A B:Pl}{d e:D}{v w:V}(f:d.flat=true)(g:e.flat=true)(h:Is K A H d v)(h':Is K B H e w):iT v w=D.eq d e:=by
 cases d<;>cases e<;>simp only[D.flat,Ug]at f g<;>simp only[Is]at h h'<;>subst h h'<;>rfl
theorem nY {K:Fgx}{A:Pl}:∀{ds:List D} {vs:List V},ds.all D.flat=true->aq K A H ds vs->vs.all g8=true
  | [],_,_,h=>by rw[show _=[] from h];rfl
  |d::ds,_,f,h=>by
    obtain⟨v,r,rfl,p,q⟩:=h;rw[Uo,RN]at f;rw[Uo,nW f.1 p,nY f.2 q];rfl
theorem gB {K:Fgx}{A B:Pl}{e:D}{w:V}(g:e.flat=true)(h':Is K B H e w):∀{ds:List D} {vs:List V},ds.all D.flat=true->aq K A H ds vs->inV w vs=ds.any fun y=>D.eq y e
  | [],_,_,h=>by rw[show _=[] from h];rfl
  |d::ds,_,f,h=>by
    obtain⟨v,r,rfl,p,q⟩:=h;rw[Uo,RN]at f;have:=gB g h' f.2 q;unfold inV at this ⊢;rw[Vp,Vp,this,uD f.1 g p h']
theorem yP {K:Fgx}{A B:Pl}{c:Cp}{d e:D}{v w:V}{b:Bool}{Q:VK}(h:bU c d e=some b)(h1:bF K A H d v)(h2:bF K B H e w)(q:Q (.bl b) H):rP K c v w H Q:=by
  cases c
  case eq=>
    simp only[bU,ju,gY]at h;split at h
    · rename_i hc;cases h;exact⟨A,B,d,e,h1,h2,hc.1,hc.2,q⟩
    · cases h
  case ne=>
    simp only[bU,ju,gY]at h;split at h
    · rename_i hc;cases h;exact⟨A,B,d,e,h1,h2,hc.1,hc.2,q⟩
    · cases h
  case isin=>
    cases e with
    |str j=>
      cases d<;>simp only[bU,cB,jw,dN,jz,jy,reduceCtorEq]at h
      simp only[bF,Is]at h1 h2;subst h1 h2;cases h;exact .inl ⟨_,_,rfl,rfl,q⟩
    |lst xs=>
      have h':(if (d.flat && xs.all D.flat)=true then some (xs.any fun y=>D.eq y d) else none)=some b:=by cases d<;>exact h
      split at h'
      · rename_i hc;rw[RN]at hc;cases h';obtain⟨a,vs,rfl,t,p⟩:=h2;have h1':Is K A H d v:=by cases d<;>first |exact h1 |cases hc.1
        refine .inr ⟨a,vs,rfl,.inl (t),nW hc.1 h1',nY hc.2 p,?_⟩;rw[gB hc.1 h1' hc.2 p];exact q
      · cases h'
    |tup xs=>
      have h':(if (d.flat && xs.all D.flat)=true then some (xs.any fun y=>D.eq y d) else none)=some b:=by cases d<;>exact h
      split at h'
      · rename_i hc;rw[RN]at hc;cases h';obtain⟨a,vs,rfl,t,p⟩:=h2;have h1':Is K A H d v:=by cases d<;>first |exact h1 |cases hc.1
        refine .inr ⟨a,vs,rfl,.inr t,nW hc.1 h1',nY hc.2 p,?_⟩;rw[gB hc.1 h1' hc.2 p];exact q
      · cases h'
    |_=>cases d<;>simp only[bU,cB,jw,dN,jz,jy,reduceCtorEq]at h
  case notin=>
    cases e with
    |str j=>
      cases d<;>simp only[bU,cB,jw,dN,jz,jy,reduceCtorEq]at h
      simp only[bF,Is]at h1 h2;subst h1 h2;cases h;exact .inl ⟨_,_,rfl,rfl,q⟩
    |lst xs=>
      have h':(if (d.flat && xs.all D.flat)=true then some (!xs.any fun y=>D.eq y d) else none)=some b:=by cases d<;>exact h
      split at h'
      · rename_i hc;rw[RN]at hc;cases h';obtain⟨a,vs,rfl,t,p⟩:=h2;have h1':Is K A H d v:=by cases d<;>first |exact h1 |cases hc.1
        refine .inr ⟨a,vs,rfl,.inl (t),nW hc.1 h1',nY hc.2 p,?_⟩;rw[gB hc.1 h1' hc.2 p];exact q
      · cases h'
    |tup xs=>
      have h':(if (d.flat && xs.all D.flat)=true then some (!xs.any fun y=>D.eq y d) else none)=some b:=by cases d<;>exact h
      split at h'
      · rename_i hc;rw[RN]at hc;cases h';obtain⟨a,vs,rfl,t,p⟩:=h2;have h1':Is K A H d v:=by cases d<;>first |exact h1 |cases hc.1
        refine .inr ⟨a,vs,rfl,.inr t,nW hc.1 h1',nY hc.2 p,?_⟩;rw[gB hc.1 h1' hc.2 p];exact q
      · cases h'
    |_=>cases d<;>simp only[bU,cB,jw,dN,jz,jy,reduceCtorEq]at h
  case same=>
    cases d<;>cases e<;>simp only[bU,cB,jw,dN,jz,jy,reduceCtorEq]at h<;>cases h<;>simp only[bF,Is]at h1 h2
    all_goals first
      |(subst h1 h2;first |exact .inr ⟨_,rfl,by rw[qI];exact q⟩ |exact .inl ⟨rfl,by simpa using q⟩ |exact .inr ⟨_,rfl,by simpa using q⟩)
      |(obtain⟨a,vs,rfl,_⟩:=h1;subst h2;first |exact .inl ⟨rfl,by simpa using q⟩ |exact .inr ⟨_,rfl,by simpa using q⟩)
  case other=>
    cases d<;>cases e<;>simp only[bU,cB,jw,dN,jz,jy,reduceCtorEq]at h<;>cases h<;>simp only[bF,Is]at h1 h2
    all_goals first
      |(subst h1 h2;first |exact .inr ⟨_,rfl,by rw[qI];exact q⟩ |exact .inl ⟨rfl,by simpa using q⟩ |exact .inr ⟨_,rfl,by simpa using q⟩)
      |(obtain⟨a,vs,rfl,_⟩:=h1;subst h2;first |exact .inl ⟨rfl,by simpa using q⟩ |exact .inr ⟨_,rfl,by simpa using q⟩)
  all_goals
    cases d<;>cases e<;>simp only[bU,cB,jw,dN,jz,jy,reduceCtorEq]at h
    simp only[bF,Is]at h1 h2;subst h1 h2;cases h;exact⟨_,_,rfl,rfl,q⟩
end
inductive Mode where
 |val |bor
def qp (mg:Mgx)(H:Hp)(c:Str)(n:Int)(v:V):Prop:=∃a C dx,v=.ref a/\mg c=some (.ref C)/\H a=some (xo a C dx false)/\
 match dx with
 |none=>n=0
 |some d=>∃fs,H d=some (.xd fs)/\fs.lookup ("at":Str)=some (.int (n - 1))/\n≠0
theorem qp.lt (l:Lt P H P' H')(h:qp mg H c n v):qp mg H' c n v:=by
  obtain⟨a,C,dx,e,m,ea,q⟩:=h;refine⟨a,C,dx,e,m,l.keep _ _ ea (.inl (.inr (.inr (.inl ⟨_,rfl⟩)))),?_⟩
  cases dx with
  |none=>exact q
  |some d=>
    obtain⟨fs,ed,el⟩:=q;exact⟨fs,l.keep _ _ ed (.inl (.inr (.inr (.inr ⟨_,rfl⟩)))),el⟩
noncomputable def yr (K:Fgx) (mg:Mgx) (P:Pl) (H:Hp) (o:Option Addr) (sv:Option V):Slot->Prop
 |.un=>True
 |.val d=>∃v,sv=some v/\Is K P H d v
 |.own ds=>∃a vs,o=some a/\sv=some (.ref a)/\H a=some (.lst vs)/\aq K P H ds vs
 |.exc c n=>∃v,sv=some v/\qp mg H c n v
structure Ok (K:Fgx)(mg:Mgx)(P0:Pl)(H0:Hp)(P:Pl)(O:List (Option Addr))(H:Hp)(M:Mm)(st:L2.St)(env:Env):Prop where
 hk:Hk K mg P H M
 base:LtE P0 H0 P H
 b0:∀a,P0.bd a->H0 a≠none
 slot:∀(i:Nat) s,env[i]? =some s->yr K mg P H (O[i]?).join (st[i]?).join s
 own:∀a,some a∈O->P.bd a/\(∀k,k<P.n->P.io k≠a)/\H0 a=none
 inj:∀(i j:Nat) a,O[i]? =some (some a)->O[j]? =some (some a)->i=j
 olen:O.length=env.length
 slen:st.length=env.length
def dh (K:Fgx)(P:Pl)(H:Hp)(m:Mode)(d:D)(v:V):Prop:=match m with
 |.val=>Is K P H d v
 |.bor=>b_ K P H d v
inductive Res where
 |v (d:D) |x (c:Str) (n:Int)
abbrev O:=Option (Res×Mm)
abbrev E:=Env->Mm->O
noncomputable def bnd (o:O) (k:D->Mm->O):O:=match o with
 |some (.v d,M)=>k d M
 |some (.x c n,M)=>some (.x c n,M)
 |none=>none
theorem dj (h:bnd o k=some (r,M')):(∃d M,o=some (.v d,M)/\k d M=some (r,M'))\/∃c n,o=some (.x c n,M')/\r=.x c n:=by
 unfold bnd at h;split at h
 ·exact .inl ⟨_,_,rfl,h⟩
 ·cases h;exact .inr ⟨_,_,rfl,rfl⟩
 ·cases h
abbrev XW:=Pl->Hp->Mm->Str->Int->Prop
section
variable {K:Fgx}{mg:Mgx}{P0 P P':Pl}{H0 H H':Hp}{M M':Mm}{Os:List (Option Addr)}{st:L2.St}{env:Env}{d:D}{v:V}{m:Mode}
theorem Is.b (h:Hk K mg P H M)(i:Is K P H d v):b_ K P H d v:=by
  cases d with
  |lst ds=>
    obtain⟨a,vs,e,r,q⟩:=i;exact⟨a,vs,e,r.imp (fun⟨n,r⟩=>⟨fun k hk z=>n (z ▸ h.bd k hk),r⟩) id,q⟩
  |_=>exact i
theorem dh.of (h:Hk K mg P H M)(i:Is K P H d v):dh K P H m d v:=by
 cases m with
 |val=>exact i
 |bor=>exact i.b h
theorem dh.b (h:Hk K mg P H M)(i:dh K P H m d v):b_ K P H d v:=by
 cases m with
 |val=>exact Is.b h i
 |bor=>exact i
theorem LtE.nc (l:LtE P H P' H')(e:H a=some o)(n:∀k,k<P.n->P.io k≠a):∀k,k<P'.n->P'.io k≠a:=fun k hk z=>by
 rcases T5 k P.n with q |q
 ·rw[l.io k q]at z;exact n k q z
 ·rw[<-z,l.nw k q hk]at e;cases e
theorem b_.lt (l:LtE P H P' H')(h:Hk K mg P H M)(i:b_ K P H d v):b_ K P' H' d v:=by
  cases d with
  |lst ds=>
    obtain⟨a,vs,e,r,q⟩:=i;refine⟨a,vs,e,r.imp (fun⟨n,r⟩=>?_) id,aq.lt (l.lt h) q⟩;obtain⟨o,eo⟩:=B_ r;refine⟨l.nc eo n,?_⟩;rcases r with r |⟨o',r⟩
    · exact .inl (l.keep _ _ r (.inr n))
    · exact .inr ⟨o',l.keep _ _ r (.inr n)⟩
  |_=>exact Is.lt (l.lt h) i
theorem Ok.next (k:Ok K mg P0 H0 P Os H M st env)(l:LtE P H P' H')(h:Hk K mg P' H' M'):Ok K mg P0 H0 P' Os H' M' st env where
  hk:=h
  base:=k.base.trans l
  b0:=k.b0
  slot:=fun i s e=>by
    have q:=k.slot i s e
    cases s with
    |un=>exact True.intro
    |val d=>
      obtain⟨v,e1,q⟩:=q;exact⟨v,e1,Is.lt (l.lt k.hk) q⟩
    |own ds=>
      obtain ⟨a, vs, e1, e2, e3, q⟩ := q;have ho := k.own a (by
        cases hx:Os[i]? with
        |none=>rw[hx]at e1;cases e1
        |some o=>rw[hx]at e1;cases o with
          |none=>cases e1
          |some b=>cases e1;exact R9 hx)
      exact⟨a,vs,e1,e2,l.keep _ _ e3 (.inr ho.2.1),aq.lt (l.lt k.hk) q⟩
    |exc c n=>
      obtain⟨v,e1,q⟩:=q;exact⟨v,e1,q.lt (l.lt k.hk)⟩
  own:=fun a z=>by
    have ho:=k.own a z;refine⟨l.bm a ho.1,?_,ho.2.2⟩;obtain⟨o,eo⟩:∃o,H a=some o:=by
      cases e:H a with
      |none=>exact absurd e (k.hk.here a ho.1)
      |some o=>exact⟨o,rfl⟩
    exact l.nc eo ho.2.1
  inj:=k.inj
  olen:=k.olen
  slen:=k.slen
theorem Hk.same (h:Hk K mg P H M)(s:Same H H'):Hk K mg P H' M:=by
  have l:Lt P H P H':=(LtE.same s).lt h;refine⟨h.n,fun k c e=>?_,h.inj,h.bd,fun a z q=>h.here a z (s.free q)⟩;have:=h.cell k c e
  cases c with
  |lst ds=>
    obtain⟨vs,e1,q⟩:=this;exact⟨vs,s _ _ e1,aq.lt l q⟩
  |obj c fs=>
    obtain⟨C,dx,gs,e1,e2,e3,q⟩:=this;exact⟨C,dx,gs,e1,s _ _ e2,e3,aq.lt l q⟩
  |dct kvs=>
    obtain⟨vs,e1,e2,q⟩:=this;exact⟨vs,s _ _ e1,e2,aq.lt l q⟩
  |dcf kvs=>
    obtain⟨vs,ob,es,ep,e1,eD,e2,q⟩:=this;exact⟨vs,ob,es,ep,s _ _ e1,eD,e2,aq.lt l q⟩
  |fn i caps=>exact gU.up this l.frz fun _ _ q=>aq.lt l q
  |tbl nm i=>exact jT.up this (fun _ e=>s _ _ e) l.frz
end
noncomputable def RQ (K:Fgx) (mg:Mgx) (Wx:XW) (m:Mode) (P0:Pl) (H0:Hp) (P:Pl) (H:Hp) (M':Mm) (Q:VK):Res->Prop
 |.v d=>∀P' v H',LtE P H P' H'->Hk K mg P' H' M'->dh K P' H' m d v->Q v H'
 |.x c n=>Wx P0 H0 M' c n
theorem cL (h:PE X e t)(i:∀st H Q,t' st H Q->t st H Q):PE X e t':=fun pins s σ H Q I z=>h pins s σ H Q I (i _ _ _ z)
noncomputable def tE (K:Fgx) (mg:Mgx) (Wx:XW) (m:Mode) (f:E):TE:=fun st H Q=>∃P0 H0 P Os env M r M',Ok K mg P0 H0 P Os H M st env/\f env M=some (r,M')/\RQ K mg Wx m P0 H0 P H M' Q r
structure Fit (X:Cx)(Wx:XW):Prop where
 calm:X.calm=true
 room:X.A.units + 60<cLine
section
variable {X:Cx}{Wx:XW}{m:Mode}
def SE (X:Cx)(Wx:XW)(m:Mode)(e:Expr)(f:E):Prop:=PE X e (tE X.K X.mg Wx m f)
theorem SE.bor (h : SE X Wx .val e f) : SE X Wx m e f := cL h fun st H Q ⟨P0, H0, P, Os, env, M, r, M', k, e, q⟩ => ⟨P0,H0,P,Os,env,M,r,M',k,e,by
 cases r with
 |v d=>exact fun P' v H' l h i=>q P' v H' l h (dh.of h i)
 |x c n=>exact q⟩
theorem bM {f:E}{K:Fgx}{mg:Mgx}{P0 P:Pl}{H0 H:Hp}{Os:List (Option Addr)}{M M':Mm}{st:L2.St}{env:Env}{r:Res}{Q:VK}(k:Ok K mg P0 H0 P Os H M st env)(e:f env M=some (r,M'))
  (q:RQ K mg Wx m P0 H0 P H M' Q r):tE K mg Wx m f st H Q:=⟨P0,H0,P,Os,env,M,r,M',k,e,q⟩
noncomputable def aj (i:Nat):E:=fun env M=>match env[i]? with
 |some (.val d)=>some (.v d,M)
 |_=>none
def ak (d:D):E:=fun _ M=>some (.v d,M)
theorem lX {α:Type}{l:List (Option α)}{i:Nat}{a:α}(h:(l[i]?).join=some a):l[i]? =some (some a):=by
  cases e:l[i]? with
  |none=>rw[e]at h;cases h
  |some o=>rw[e]at h;cases o with
    |none=>cases h
    |some b=>cases h;rfl
theorem CQ {i:Nat}{x:Str}{pos:Pos}(hN:X.N[i]? =some x)(hv:nu X.env.scope x)(hd:(x==("__debug__":Str))=false:=by x_go)(hcd:(x==("__classdict__":Str))=false:=by x_go):SE X Wx .val (.Name x pos) (aj i):=by
 refine cL (Bv hN hv hd hcd) ?_;rintro st H Q ⟨P0,H0,P,Os,env,M,r,M',k,e,q⟩;unfold aj at e;split at e
 ·rename_i d hs;cases e;obtain⟨v,e1,i1⟩:=k.slot i _ hs;exact⟨v,lX e1,q P v H (LtE.refl P H) k.hk i1⟩
 ·cases e
theorem sE (h:PE X e (tC v))(hd:∀P H,Is X.K P H d v):SE X Wx .val e (ak d):=by
 refine cL h ?_;rintro st H Q ⟨P0,H0,P,Os,env,M,r,M',k,e,q⟩;cases e;exact q P v H (LtE.refl P H) k.hk (hd P H)
noncomputable def vw (M:Mm) (d:D):D:=match d with
  | .ref k => (match M[k]? with
    |some (.lst ds)=>.lst ds
    |_=>.ref k)
  |d=>d
theorem b_.vw {K:Fgx}{mg:Mgx}{P:Pl}{H:Hp}{M:Mm}{d:D}{v:V}(h:Hk K mg P H M)(i:b_ K P H d v):bF K P H (vw M d) v:=by
  cases d with
  |ref k=>
    unfold E3.vw;dsimp only
    split
    · rename_i ds e;obtain⟨i1,i2⟩:k<P.n/\v=.ref (P.io k):=i;obtain⟨vs,e1,q⟩:=h.cell k _ e;exact⟨_,vs,i2,.inl (.inl e1),q⟩
    · exact i
  |lst ds=>exact i.w
  |_=>exact i
noncomputable def s1 (o:D->Option D) (f:E):E:=fun env M=>bnd (f env M) fun d M1=>(o (vw M1 d)).map fun z=>(.v z,M1)
noncomputable def s2 (o:D->D->Option D) (f g:E):E:=fun env M=>bnd (f env M) fun d M1=>bnd (g env M1) fun e M2=>(o (vw M2 d) (vw M2 e)).map fun z=>(.v z,M2)
def fG (K:Fgx)(r:R2)(o:D->D->Option D):Prop:=∀(P:Pl) (H:Hp) (d e z:D) (v w:V) (Q:VK),o d e=some z->bF K P H d v->bF K P H e w->(∀p,H p=none->¬ P.bd p)->(∀u H',Same H H'->Is K P H' z u->Q u H')->r v w H Q
theorem Hk.new {K:Fgx}{mg:Mgx}{P:Pl}{H:Hp}{M:Mm}(h:Hk K mg P H M):∀p,H p=none->¬ P.bd p:=fun p hp z=>h.here p z hp
theorem sO {f g:E}{o:D->D->Option D}{r:R2}{st:L2.St}{H:Hp}{Q:VK}(po:fG X.K r o)(h:tE X.K X.mg Wx m (s2 o f g) st H Q):mZ r (tE X.K X.mg Wx .bor f) (tE X.K X.mg Wx .bor g) st H Q:=by
 obtain⟨P0,H0,P,Os,env,M,rr,M',k,e,q⟩:=h;unfold s2 at e;rcases dj e with⟨d,M1,e1,e⟩ |⟨c,n,e1,rfl⟩
 ·refine bM k e1 fun P1 v1 H1 l1 h1 i1=>?_;have k1:=k.next l1 h1
  rcases dj e with⟨d2,M2,e2,e⟩ |⟨c,n,e2,rfl⟩
  ·refine bM k1 e2 fun P2 v2 H2 l2 h2 i2=>?_;rw[Ru]at e;obtain⟨z,ez,e⟩:=e;cases e;exact po P2 H2 _ _ z v1 v2 Q ez (b_.vw h2 (b_.lt l2 h1 i1)) (b_.vw h2 i2) h2.new fun u H' s i=>q P2 u H' (l1.trans (l2.trans (LtE.same s))) (h2.same s) (dh.of (h2.same s) i)
  ·exact bM k1 e2 q
 ·exact bM k e1 q
theorem aO (ho:bw X (binaryOp op) r)(po:fG X.K r o)(ha:SE X Wx .bor a f)(hb:SE X Wx .bor b g):SE X Wx m (.BinOp a op b pos) (s2 o f g):=
 cL (JT ho ha hb) fun _ _ _ h=>sO po h
theorem CN (ho:bw X (compareOp op) r)(po:fG X.K r o)(ha:SE X Wx .bor a f)(hb:SE X Wx .bor b g)(hm:behindInMarks op b=false:=by rfl):SE X Wx m (.Compare a [op] [b] pos) (s2 o f g):=
 cL (JH ho ha hb hm) fun _ _ _ h=>sO po h
theorem Ov (ho:gW X r)(po:fG X.K r o)(ha:SE X Wx .bor a f)(hb:SE X Wx .bor b g)(hs:tK b:=by exact fun _ _=>rfl):SE X Wx m (.Subscript a b pos) (s2 o f g):=
 cL (JN ho ha hb hs) fun _ _ _ h=>sO po h
noncomputable def TQ (K:Fgx) (mg:Mgx) (Wx:XW) (P0:Pl) (H0:Hp) (P:Pl) (H:Hp) (M':Mm) (Q:Bool->Hp->Prop):Res->Prop
 |.v d=>∃b,d=.bl b/\∀P' H',LtE P H P' H'->Hk K mg P' H' M'->Q b H'
 |.x c n=>Wx P0 H0 M' c n
noncomputable def lE (K:Fgx) (mg:Mgx) (Wx:XW) (f:E):TT:=fun st H Q=>∃P0 H0 P Os env M r M',Ok K mg P0 H0 P Os H M st env/\f env M=some (r,M')/\TQ K mg Wx P0 H0 P H M' Q r
def ST (X:Cx)(Wx:XW)(e:Expr)(f:E):Prop:=PT X e (lE X.K X.mg Wx f)
theorem rK (h:PT X e t)(i:∀st H Q,t' st H Q->t st H Q):PT X e t':=fun pins s σ H Q I z=>h pins s σ H Q I (i _ _ _ z)
theorem fK {f:E}{K:Fgx}{mg:Mgx}{P0 P:Pl}{H0 H:Hp}{Os:List (Option Addr)}{M M':Mm}{st:L2.St}{env:Env}{r:Res}{Q:Bool->Hp->Prop}(k:Ok K mg P0 H0 P Os H M st env)(e:f env M=some (r,M'))
  (q:TQ K mg Wx P0 H0 P H M' Q r):lE K mg Wx f st H Q:=⟨P0,H0,P,Os,env,M,r,M',k,e,q⟩
theorem Dj {f:E}{st:L2.St}{H:Hp}{Q:Bool->Hp->Prop}(h:lE X.K X.mg Wx f st H Q):Di (tE X.K X.mg Wx .val f) st H Q:=by
  obtain⟨P0,H0,P,Os,env,M,r,M',k,e,q⟩:=h;refine bM k e ?_
  cases r with
  |v d=>
    obtain⟨b,rfl,q⟩:=q;exact fun P' v H' l h i=>⟨b,i,q P' H' l h⟩
  |x c n=>exact q
theorem Df (ho:bw X (compareOp op) r)(po:fG X.K r o)(ha:SE X Wx .bor a f)(hb:SE X Wx .bor b g)(hm:behindInMarks op b=false:=by rfl):ST X Wx (.Compare a [op] [b] pos) (s2 o f g):=
 rK (BK ho ha hb hm) fun _ _ _ h=>sO po (Dj h)
noncomputable def fY:D->Option Bool
 |.non=>some false
 |.bl b=>some b
 |.int i=>some (i !=0)
 |.str s=>if s.length<=sizeLine then some ((s.length:Int) !=0) else none
 |.lst ds=>some (!ds.isEmpty)
 |.tup ds=>some (!ds.isEmpty)
 |.ref _=>none
def fV (f:E):E:=s1 (fun d=>(fY d).map .bl) f
noncomputable def gG (f:E):E:=fun env M=>bnd (f env M) fun d M1=>match d with
 |.bl b=>some (.v (.bl (!b)),M1)
 |_=>none
noncomputable def cW (f g:E):E:=fun env M=>bnd (f env M) fun d M1=>match d with
 |.bl b=>if b=true then g env M1 else some (.v (.bl false),M1)
 |_=>none
noncomputable def jH (f g:E):E:=fun env M=>bnd (f env M) fun d M1=>match d with
 |.bl b=>if b=true then some (.v (.bl true),M1) else g env M1
 |_=>none
noncomputable def gF (c f g:E):E:=fun env M=>bnd (c env M) fun d M1=>match d with
 |.bl b=>if b=true then f env M1 else g env M1
 |_=>none
def SW (X:Cx)(Wx:XW)(e:Expr)(f:E):Prop:=PW X e (lE X.K X.mg Wx f)
theorem BP (h:PW X e t)(i:∀st H Q,t' st H Q->t st H Q):PW X e t':=fun wh pins s σ H Q I z=>h wh pins s σ H Q I (i _ _ _ z)
theorem Pq (ha:ST X Wx a f):ST X Wx (.UnaryOp .Not a pos) (gG f):=by
 refine rK (Kr ha) ?_;rintro st H Q ⟨P0,H0,P,Os,env,M,r,M',k,e,q⟩;unfold gG at e;rcases dj e with⟨d,M1,e1,e⟩ |⟨c,n,e1,rfl⟩
 ·cases d<;>simp only[reduceCtorEq]at e
  cases e;obtain⟨b,e2,q⟩:=q;cases e2;exact fK k e1 ⟨_,rfl,q⟩
 ·exact fK k e1 q
theorem PB (ha:ST X Wx a f):SW X Wx (.BoolOp .And [a] pos) f:=KD ha
theorem wQ (ha:ST X Wx a f):SW X Wx (.BoolOp .Or [a] pos) f:=KJ ha
theorem wO (ha:ST X Wx a f)(hb:SW X Wx (.BoolOp .And (b::rest) pos) g):SW X Wx (.BoolOp .And (a::b::rest) pos) (cW f g):=by
  refine BP (KC ha hb) ?_;rintro st H Q ⟨P0,H0,P,Os,env,M,r,M',k,e,q⟩;unfold cW at e;rcases dj e with⟨d,M1,e1,e⟩ |⟨c,n,e1,rfl⟩
  · cases d<;>simp only[reduceCtorEq]at e
    rename_i b;refine fK k e1 ⟨b,rfl,fun P1 H1 l1 h1=>?_⟩
    cases b with
    |true=>
      rw[tG rfl]at e ⊢;refine fK (k.next l1 h1) e ?_
      cases r with
      |v d=>obtain⟨b,e2,q⟩:=q;exact⟨b,e2,fun P' H' l h=>q P' H' (l1.trans l) h⟩
      |x c n=>exact q
    |false=>
      rw[Rn (by decide)]at e ⊢;cases e;obtain⟨b,e2,q⟩:=q;cases e2;exact q P1 H1 l1 h1
  · exact fK k e1 q
theorem sJ (ha:ST X Wx a f)(hb:SW X Wx (.BoolOp .Or (b::rest) pos) g):SW X Wx (.BoolOp .Or (a::b::rest) pos) (jH f g):=by
  refine BP (KH ha hb) ?_;rintro st H Q ⟨P0,H0,P,Os,env,M,r,M',k,e,q⟩;unfold jH at e;rcases dj e with⟨d,M1,e1,e⟩ |⟨c,n,e1,rfl⟩
  · cases d<;>simp only[reduceCtorEq]at e
    rename_i b;refine fK k e1 ⟨b,rfl,fun P1 H1 l1 h1=>?_⟩
    cases b with
    |false=>
      rw[Rn (by decide)]at e ⊢;refine fK (k.next l1 h1) e ?_
      cases r with
      |v d=>obtain⟨b,e2,q⟩:=q;exact⟨b,e2,fun P' H' l h=>q P' H' (l1.trans l) h⟩
      |x c n=>exact q
    |true=>
      rw[tG rfl]at e ⊢;cases e;obtain⟨b,e2,q⟩:=q;cases e2;exact q P1 H1 l1 h1
  · exact fK k e1 q
theorem SW.st (h:SW X Wx e f):ST X Wx e f:=h.pt
end
section
variable {X:Cx}{Wx:XW}{m:Mode}
theorem RQ.imp {K:Fgx}{mg:Mgx}{P0 P P1:Pl}{H0 H H1:Hp}{M':Mm}{Q:VK}{r:Res}(l:LtE P H P1 H1)(q:RQ K mg Wx m P0 H0 P H M' Q r):RQ K mg Wx m P0 H0 P1 H1 M' Q r:=by
 cases r with
 |v d=>exact fun P' v H' l' h i=>q P' v H' (l.trans l') h i
 |x c n=>exact q
theorem Ox (ha:SE X Wx m a f):SE X Wx m (.BoolOp op [a] pos) f:=JR ha
theorem Ot (ha:SE X Wx .val a f)(hb:SE X Wx m (.BoolOp .And (b::rest) pos) g):SE X Wx m (.BoolOp .And (a::b::rest) pos) (cW f g):=by
  refine cL (JB ha hb) ?_;rintro st H Q ⟨P0,H0,P,Os,env,M,r,M',k,e,q⟩;unfold cW at e;rcases dj e with⟨d,M1,e1,e⟩ |⟨c,n,e1,rfl⟩
  · cases d<;>simp only[reduceCtorEq]at e
    rename_i b;refine bM k e1 fun P1 v1 H1 l1 h1 i1=>⟨b,i1,?_⟩
    cases b with
    |true=>
      rw[tG rfl]at e ⊢;exact bM (k.next l1 h1) e (RQ.imp l1 q)
    |false=>
      rw[Rn (by decide)]at e ⊢;cases e;exact q P1 _ H1 l1 h1 (dh.of h1 (show Is _ _ _ (.bl false) _ from rfl))
  · exact bM k e1 q
theorem CP (hc:ST X Wx c t)(ha:SE X Wx m a f)(hb:SE X Wx m b g):SE X Wx m (.IfExp c a b pos) (gF t f g):=by
  refine cL (JL hc ha hb) ?_;rintro st H Q ⟨P0,H0,P,Os,env,M,r,M',k,e,q⟩;unfold gF at e;rcases dj e with⟨d,M1,e1,e⟩ |⟨c,n,e1,rfl⟩
  · cases d<;>simp only[reduceCtorEq]at e
    rename_i b;refine fK k e1 ⟨b,rfl,fun P1 H1 l1 h1=>?_⟩
    cases b with
    |true=>
      rw[tG rfl]at e ⊢;exact bM (k.next l1 h1) e (RQ.imp l1 q)
    |false=>
      rw[Rn (by decide)]at e ⊢;exact bM (k.next l1 h1) e (RQ.imp l1 q)
  · exact fK k e1 q
theorem Qo {K:Fgx}{P:Pl}{H:Hp}{d:D}{v:V}{b:Bool}(h:fY d=some b)(i:bF K P H d v):jU K v H b:=by
  cases d with
  |non=>have e:v=.non:=i;subst e;cases h;rfl
  |bl c=>have e:v=.bl c:=i;subst e;cases h;rfl
  |int c=>have e:v=.int c:=i;subst e;cases h;rfl
  |str c=>
    have e:v=.str c:=i;subst e;simp only[fY]at h;split at h
    · rename_i hl;cases h;exact⟨hl,rfl⟩
    · cases h
  |lst ds=>
    obtain⟨a,vs,rfl,r,q⟩:=i;cases h;refine .inl ⟨vs,r,?_⟩
    cases ds with
    |nil=>rw[show vs=[] from q];rfl
    |cons d ds=>obtain⟨w,r',rfl,_⟩:=q;rfl
  |tup ds=>
    obtain⟨a,vs,rfl,r,q⟩:=i;cases h;refine .inr (.inl ⟨vs,r,?_⟩)
    cases ds with
    |nil=>rw[show vs=[] from q];rfl
    |cons d ds=>obtain⟨w,r',rfl,_⟩:=q;rfl
  |ref k=>cases h
theorem Dg (ha:SE X Wx .bor a f)(he:∀whole,isTrue a X.env whole=(do let v <-whole;standAt a.pos;holding [v] (truthy v)):=by exact fun _=>rfl):ST X Wx a (fV f):=by
 refine rK (Ks ha he) ?_;rintro st H Q ⟨P0,H0,P,Os,env,M,r,M',k,e,q⟩;unfold fV s1 at e;rcases dj e with⟨d,M1,e1,e⟩ |⟨c,n,e1,rfl⟩
 ·rw[Ru]at e;obtain⟨z,ez,e⟩:=e;cases e;rw[Ru]at ez;obtain⟨b,eb,rfl⟩:=ez;obtain⟨b',e2,q⟩:=q;cases e2;exact bM k e1 fun P1 v1 H1 l1 h1 i1=>⟨b,Qo eb (b_.vw h1 i1),q P1 H1 l1 h1⟩
 ·exact bM k e1 q
inductive ResA where
 |v (ds:List D) |x (c:Str) (n:Int)
abbrev EA:=Env->Mm->Option (ResA×Mm)
def au:EA:=fun _ M=>some (.v [],M)
noncomputable def aD (f:E) (fs:EA):EA:=fun env M=>match f env M with
  | some (.v d, M1) => (match fs env M1 with
    |some (.v ds,M2)=>some (.v (d::ds),M2)
    |some (.x c n,M2)=>some (.x c n,M2)
    |none=>none)
  |some (.x c n,M1)=>some (.x c n,M1)
  |none=>none
noncomputable def dM (o:Option (ResA×Mm)) (k:List D->Mm->O):O:=match o with
 |some (.v ds,M)=>k ds M
 |some (.x c n,M)=>some (.x c n,M)
 |none=>none
theorem lO (h:dM o k=some (r,M')):(∃ds M,o=some (.v ds,M)/\k ds M=some (r,M'))\/∃c n,o=some (.x c n,M')/\r=.x c n:=by
 unfold dM at h;split at h
 ·exact .inl ⟨_,_,rfl,h⟩
 ·cases h;exact .inr ⟨_,_,rfl,rfl⟩
 ·cases h
noncomputable def bT (K:Fgx) (P:Pl) (H:Hp) (m:Mode):List D->List V->Prop
 | [],vs=>vs=[]
 |d::ds,vs=>∃v ws,vs=v::ws/\dh K P H m d v/\bT K P H m ds ws
theorem bT.iss {K:Fgx}{P:Pl}{H:Hp}:∀{ds:List D} {vs:List V},bT K P H .val ds vs->aq K P H ds vs
  | [],_,h=>h
  |_::_,_,h=>by
    obtain⟨v,ws,e,p,q⟩:=h;exact⟨v,ws,e,p,bT.iss q⟩
noncomputable def AQ (K:Fgx) (mg:Mgx) (Wx:XW) (m:Mode) (P0:Pl) (H0:Hp) (P:Pl) (H:Hp) (M':Mm) (Q:List V->Hp->Prop):ResA->Prop
 |.v ds=>∀P' vs H',LtE P H P' H'->Hk K mg P' H' M'->bT K P' H' m ds vs->Q vs H'
 |.x c n=>Wx P0 H0 M' c n
noncomputable def PK (K:Fgx) (mg:Mgx) (Wx:XW) (m:Mode) (fs:EA):TA:=fun st H Q=>∃P0 H0 P Os env M r M',Ok K mg P0 H0 P Os H M st env/\fs env M=some (r,M')/\AQ K mg Wx m P0 H0 P H M' Q r
def SA (X:Cx)(Wx:XW)(m:Mode)(es:List Expr)(fs:EA):Prop:=PA X es (PK X.K X.mg Wx m fs)
theorem Br (h:PA X es t)(w:∀σ H Q,t' σ H Q->t σ H Q):PA X es t':=fun pos pins s σ H Q I hw=>h pos pins s σ H Q I (w σ H Q hw)
theorem aN:SA X Wx m [] au:=by
 refine Br pB ?_;rintro st H Q ⟨P0,H0,P,Os,env,M,r,M',k,e,q⟩;cases e;exact q P [] H (LtE.refl P H) k.hk rfl
theorem aG (ha:SE X Wx m e f)(hr:SA X Wx m es fs)(hs:starEach (e::es) X.env=(false,eval e X.env)::starEach es X.env:=by rfl):SA X Wx m (e::es) (aD f fs):=by
 refine Br (pA ha hr hs) ?_;rintro st H Q ⟨P0,H0,P,Os,env,M,r,M',k,e,q⟩;unfold aD at e;split at e
 ·rename_i d M1 e1;refine bM k e1 fun P1 v1 H1 l1 h1 i1=>?_;split at e
  ·rename_i ds M2 e2;cases e;refine⟨P0,H0,P1,Os,env,M1,_,_,k.next l1 h1,e2,fun P2 vs H2 l2 h2 i2=>q P2 _ H2 (l1.trans l2) h2 ⟨v1,vs,rfl,?_,i2⟩⟩
   cases m with
   |val=>exact Is.lt (l2.lt h1) i1
   |bor=>exact b_.lt l2 h1 i1
  ·rename_i c n M2 e2;cases e;exact⟨P0,H0,P1,Os,env,M1,_,_,k.next l1 h1,e2,q⟩
  ·cases e
 ·rename_i c n M1 e1;cases e;exact bM k e1 q
 ·cases e
noncomputable def sN (o:List D->Option D) (fs:EA):E:=fun env M=>dM (fs env M) fun ds M1=>(o (ds.map (vw M1))).map fun z=>(.v z,M1)
noncomputable def iC (K:Fgx) (P:Pl) (H:Hp):List D->List V->Prop
 | [],vs=>vs=[]
 |d::ds,vs=>∃v ws,vs=v::ws/\bF K P H d v/\iC K P H ds ws
theorem bT.w {K:Fgx}{mg:Mgx}{P:Pl}{H:Hp}{M:Mm}(h:Hk K mg P H M):∀{ds:List D} {vs:List V},bT K P H m ds vs->iC K P H (ds.map (vw M)) vs
  | [],_,q=>q
  |d::ds,_,q=>by
    obtain⟨v,ws,e,p,q⟩:=q;exact⟨v,ws,e,b_.vw h (p.b h),bT.w h q⟩
def ni (K:Fgx)(r:List V->Hp->VK->Prop)(o:List D->Option D):Prop:=∀(P:Pl) (H:Hp) (ds:List D) (z:D) (vs:List V) (Q:VK),o ds=some z->iC K P H ds vs->(∀p,H p=none->¬ P.bd p)->(∀u H',Same H H'->Is K P H' z u->Q u H')->r vs H Q
theorem Ou (h:∀t,PA X (e::es) t->PE X ex (wV r t))(po:ni X.K r o)(ha:SA X Wx .bor (e::es) fs):SE X Wx m ex (sN o fs):=by
 refine cL (h _ ha) ?_;rintro st H Q ⟨P0,H0,P,Os,env,M,r,M',k,e,q⟩;unfold sN at e;rcases lO e with⟨ds,M1,e1,e⟩ |⟨c,n,e1,rfl⟩
 ·rw[Ru]at e;obtain⟨z,ez,e⟩:=e;cases e;exact⟨P0,H0,P,Os,env,M,_,_,k,e1,fun P1 vs H1 l1 h1 i1=>po P1 H1 _ z vs Q ez (bT.w h1 i1) h1.new fun u H' s i=>q P1 u H' (l1.trans (LtE.same s)) (h1.same s) (dh.of (h1.same s) i)⟩
 ·exact⟨P0,H0,P,Os,env,M,_,_,k,e1,q⟩
noncomputable def bH (fs:EA):E:=fun env M=>dM (fs env M) fun ds M1=>if ds.length<=sizeLine then some (.v (.tup ds),M1) else none
theorem gh {es:List Expr}{x1:Nat}{pos:Pos}{fs:EA}(ha:SA X Wx .val es fs):SE X Wx m (.Tuple es x1 pos) (bH fs):=by
 refine cL (JW ha) ?_;rintro st H Q ⟨P0,H0,P,Os,env,M,r,M',k,e,q⟩;unfold bH at e;rcases lO e with⟨ds,M1,e1,e⟩ |⟨c,n,e1,rfl⟩
 ·split at e
  ·rename_i hl;cases e;refine⟨P0,H0,P,Os,env,M,_,_,k,e1,fun P1 vs H1 l1 h1 i1=>⟨by rw[i1.iss.len];exact hl,fun p hp=>?_⟩⟩;have s:=lu (o:=.tup vs) hp;exact q P1 _ _ (l1.trans (LtE.same s)) (h1.same s) (dh.of (h1.same s) ⟨p,vs,rfl,.inl (.inl dG),aq.lt ((LtE.same s).lt h1) i1.iss⟩)
  ·cases e
 ·exact⟨P0,H0,P,Os,env,M,_,_,k,e1,q⟩
noncomputable def NQ (K:Fgx) (mg:Mgx) (Wx:XW) (P0:Pl) (H0:Hp) (P:Pl) (H:Hp) (M':Mm) (Q:VK):Res->Prop
 |.v d=>∃ds,d=.lst ds/\∀P' a vs H',LtE P H P' H'->Hk K mg P' H' M'->H a=none->P'.bd a->(∀k,k<P'.n->P'.io k≠a)->H' a=some (.lst vs)->aq K P' H' ds vs->Q (.ref a) H'
 |.x c n=>Wx P0 H0 M' c n
noncomputable def tN (K:Fgx) (mg:Mgx) (Wx:XW) (f:E):TE:=fun st H Q=>∃P0 H0 P Os env M r M',Ok K mg P0 H0 P Os H M st env/\f env M=some (r,M')/\NQ K mg Wx P0 H0 P H M' Q r
def SN (X:Cx)(Wx:XW)(e:Expr)(f:E):Prop:=PE X e (tN X.K X.mg Wx f)
def Pl.bar (P:Pl)(p:Addr):Pl:={P with bd:=fun a=>P.bd a\/a=p}
theorem qx {K:Fgx}{mg:Mgx}{P:Pl}{H:Hp}{M:Mm}{p:Addr}{vs:List V}(h:Hk K mg P H M)(hp:H p=none):LtE P H (P.bar p) (upd H p (.lst vs))/\Hk K mg (P.bar p) (upd H p (.lst vs)) M/\∀k,k<P.n->P.io k≠p:=by
  have s:=lu (o:=.lst vs) hp;have nc:∀k,k<P.n->P.io k≠p:=fun k hk z=>h.here _ (h.bd k hk) (z ▸ hp);have l:LtE P H (P.bar p) (upd H p (.lst vs)):=⟨Ro _,fun _ _=>rfl,fun a z=>Or.imp (fun q=>q) (fun(q:a=p)=>by rw[q];exact hp) z,fun a z=>.inl z,fun a o e _=>s a o e,fun a z=>s.free z,fun k h1 h2=>absurd h1 (WX.mpr h2)⟩;have lt:=l.lt h;refine⟨l,⟨h.n,fun k c e=>?_,h.inj,fun k hk=>.inl (h.bd k hk),fun a z q=>?_⟩,nc⟩
  · have:=h.cell k c e
    cases c with
    |lst ds=>
      obtain⟨vs,e1,q⟩:=this;exact⟨vs,s _ _ e1,aq.lt lt q⟩
    |obj c fs=>
      obtain⟨C,dx,gs,e1,e2,e3,q⟩:=this;exact⟨C,dx,gs,e1,s _ _ e2,e3,aq.lt lt q⟩
    |dct kvs=>
      obtain⟨vs,e1,e2,q⟩:=this;exact⟨vs,s _ _ e1,e2,aq.lt lt q⟩
    |dcf kvs=>
      obtain⟨vs,ob,es,ep,e1,eD,e2,q⟩:=this;exact⟨vs,ob,es,ep,s _ _ e1,eD,e2,aq.lt lt q⟩
    |fn i caps=>exact gU.up this lt.frz fun _ _ q=>aq.lt lt q
    |tbl nm i=>exact jT.up this (fun _ e=>s _ _ e) lt.frz
  · rcases z with z |z
    · exact h.here a z (s.free q)
    · subst z;rw[dG]at q;cases q
theorem SN.se (h:SN X Wx e f)(hf:∀env M r M',f env M=some (.v r,M')->∃ds,r=.lst ds):SE X Wx .val e f:=by
  refine cL h ?_;rintro st H Q ⟨P0,H0,P,Os,env,M,r,M',k,e,q⟩;refine⟨P0,H0,P,Os,env,M,r,M',k,e,?_⟩
  cases r with
  |x c n=>exact q
  |v d=>
    obtain⟨ds,rfl⟩:=hf _ _ _ _ e;refine⟨ds,rfl,fun P' a vs H' l h ha ba nc ea is=>q (P'.less (· ≠a)) _ H' ?_ ?_ ⟨a,vs,rfl,.inl ⟨fun z=>z.2 rfl,.inl ea⟩,aq.less is⟩⟩
    · exact⟨l.n,l.io,fun b z=>l.bd b z.1,fun b z=>⟨l.bm b z,fun q=>k.hk.here b z (q ▸ ha)⟩,l.keep,l.sure,l.nw⟩
    · refine⟨h.n,fun j c e=>?_,h.inj,fun j hj=>⟨h.bd j hj,nc j hj⟩,fun b z=>h.here b z.1⟩;have:=h.cell j c e
      cases c with
      |lst ds=>
        obtain⟨vs,e1,q⟩:=this;exact⟨vs,e1,aq.less q⟩
      |obj c fs=>
        obtain⟨C,dx,gs,e1,e2,e3,q⟩:=this;exact⟨C,dx,gs,e1,e2,e3,aq.less q⟩
      |dct kvs=>
        obtain⟨vs,e1,e2,q⟩:=this;exact⟨vs,e1,e2,aq.less q⟩
      |dcf kvs=>
        obtain⟨vs,ob,es,ep,e1,eD,e2,q⟩:=this;exact⟨vs,ob,es,ep,e1,eD,e2,aq.less q⟩
      |fn i caps=>exact gU.up this (fun _ _ _ z=>z) fun _ _ q=>aq.less q
      |tbl nm i=>exact this
noncomputable def bC (fs:EA):E:=fun env M=>dM (fs env M) fun ds M1=>if ds.length<=sizeLine then some (.v (.lst ds),M1) else none
theorem gQ {es:List Expr}{pos:Pos}{fs:EA}(ha:SA X Wx .val es fs):SN X Wx (.List es pos) (bC fs):=by
 refine cL (JQ ha) ?_;rintro st H Q ⟨P0,H0,P,Os,env,M,r,M',k,e,q⟩;unfold bC at e;rcases lO e with⟨ds,M1,e1,e⟩ |⟨c,n,e1,rfl⟩
 ·split at e
  ·rename_i hl;cases e;obtain⟨ds',e',q⟩:=q;cases e';refine⟨P0,H0,P,Os,env,M,_,_,k,e1,fun P1 vs H1 l1 h1 i1=>⟨by rw[i1.iss.len];exact hl,fun p hp=>?_⟩⟩;obtain⟨l2,h2,nc⟩:=qx (vs:=vs) h1 hp;exact q (P1.bar p) p vs _ (l1.trans l2) h2 (l1.sure p hp) (.inr rfl) nc dG (aq.lt (l2.lt h1) i1.iss)
  ·cases e
 ·exact⟨P0,H0,P,Os,env,M,_,_,k,e1,q⟩
theorem lst_is:∀env M r M',bC fs env M=some (.v r,M')->∃ds,r=.lst ds:=fun env M r M' e=>by
 unfold bC at e;rcases lO e with⟨ds,M1,e1,e⟩ |⟨c,n,e1,e⟩
 ·split at e
  ·cases e;exact⟨_,rfl⟩
  ·cases e
 ·cases e
end
inductive Out where
 |nx (env:Env) |bk (env:Env) |ct (env:Env) |rt (d:D) |ex (c:Str) (n:Int)
abbrev OS:=Option (Out×Mm)
abbrev S:=Env->Mm->OS
noncomputable def Post (K:Fgx) (mg:Mgx) (Wx:XW) (P0:Pl) (H0:Hp) (P:Pl) (H:Hp) (M':Mm) (D:Ends):Out->Prop
 |.nx env=>∀P' Os' H' st',Lt P H P' H'->Ok K mg P0 H0 P' Os' H' M' st' env->D.nx st' H'
 |.bk env=>∀P' Os' H' st',Lt P H P' H'->Ok K mg P0 H0 P' Os' H' M' st' env->D.bk st' H'
 |.ct env=>∀P' Os' H' st',Lt P H P' H'->Ok K mg P0 H0 P' Os' H' M' st' env->D.ct st' H'
 |.rt d=>∀P' v H',LtE P0 H0 P' H'->Hk K mg P' H' M'->Is K P' H' d v->D.rt v H'
 |.ex c n=>Wx P0 H0 M' c n
noncomputable def tS (K:Fgx) (mg:Mgx) (Wx:XW) (f:S):TS:=fun D st H=>∃P0 H0 P Os env M out M',Ok K mg P0 H0 P Os H M st env/\f env M=some (out,M')/\Post K mg Wx P0 H0 P H M' D out
def SS (X:Cx)(Wx:XW)(s:Stmt)(f:S):Prop:=PS X s (tS X.K X.mg Wx f)
def SB (X:Cx)(Wx:XW)(s:List Stmt)(f:S):Prop:=fB X s (tS X.K X.mg Wx f)
noncomputable def cA (o:O) (k:D->Mm->OS):OS:=match o with
 |some (.v d,M)=>k d M
 |some (.x c n,M)=>some (.ex c n,M)
 |none=>none
theorem iK (h:cA o k=some (r,M')):(∃d M,o=some (.v d,M)/\k d M=some (r,M'))\/∃c n,o=some (.x c n,M')/\r=.ex c n:=by
 unfold cA at h;split at h
 ·exact .inl ⟨_,_,rfl,h⟩
 ·cases h;exact .inr ⟨_,_,rfl,rfl⟩
 ·cases h
section
variable {K:Fgx}{mg:Mgx}{Wx:XW}{P0 P P' P1:Pl}{H0 H H' H1:Hp}{M M':Mm}{Os:List (Option Addr)}{st:L2.St}{env:Env}{d:D}{v:V}{i:Nat}
theorem pL (l:List (Option α))(i j:Nat)(x:Option α)(hi:i<l.length):((l.set i x)[j]?).join=if i=j then x else(l[j]?).join:=by
 rw[S5]
 by_cases h:i=j
 ·subst h;rw[tG rfl,tG hi,tG rfl];rfl
 ·rw[Rn h,Rn h]
theorem Ok.asg (k:Ok K mg P0 H0 P Os H M st env)(hi:i<env.length)(h:Is K P H d v):Ok K mg P0 H0 P (Os.set i none) H M (st.set i (some v)) (env.set i (.val d)) where
 hk:=k.hk
 base:=k.base
 b0:=k.b0
 slot:=fun j s e=>by
  rw[pL _ _ _ _ (by rw[k.olen];exact hi),pL _ _ _ _ (by rw[k.slen];exact hi)];rw[S5]at e;split at e
  ·rename_i ij;subst ij;cases e;rw[tG rfl,tG rfl];exact⟨v,rfl,h⟩
  ·rename_i ij;rw[Rn ij,Rn ij];exact k.slot j s e
 own := fun a h => k.own a (by
  rcases Wa h with h |h
  ·exact h
  ·cases h)
 inj:=fun j l a e1 e2=>by
  rw[S5]at e1 e2;split at e1
  ·split at e1<;>cases e1
  ·split at e2
   ·split at e2<;>cases e2
   ·exact k.inj j l a e1 e2
 olen:=by rw[R7,R7,k.olen]
 slen:=by rw[R7,R7,k.slen]
theorem Ok.here (k:Ok K mg P0 H0 P Os H M st env)(h:some a∈Os):H a≠none:=k.hk.here a (k.own a h).1
theorem Ok.mine (k0:Ok K mg P0 H0 P Os H M st env)(l:LtE P H P' H')(hk:Hk K mg P' H' M')(hi:i<env.length)(ha:H a=none)(ba:P'.bd a)(nc:∀j,j<P'.n->P'.io j≠a)(e:H' a=some (.lst vs))(h:aq K P' H' ds vs):
  Ok K mg P0 H0 P' (Os.set i (some a)) H' M' (st.set i (some (.ref a))) (env.set i (.own ds)):=by
 have k:=k0.next l hk
 have nO:∀j,Os[j]? ≠some (some a):=fun j z=>k0.here (R9 z) ha;exact {
  hk:=k.hk
  base:=k.base
  b0:=k.b0
  slot:=fun j s e'=>by
   rw[pL _ _ _ _ (by rw[k.olen];exact hi),pL _ _ _ _ (by rw[k.slen];exact hi)];rw[S5]at e';split at e'
   ·rename_i ij;subst ij;cases e';rw[tG rfl,tG rfl];exact⟨a,vs,rfl,rfl,e,h⟩
   ·rename_i ij;rw[Rn ij,Rn ij];exact k.slot j s e'
  own:=fun b hb=>by
   rcases Wa hb with hb |hb
   ·exact k.own b hb
   ·cases hb;exact⟨ba,nc,k0.base.sure a ha⟩
  inj:=fun j l b e1 e2=>by
   rw[S5]at e1 e2;split at e1
   ·split at e1
    ·cases e1;split at e2
     ·rename_i z1 _ z2;exact z1.symm.trans z2
     ·exact absurd e2 (nO l)
    ·cases e1
   ·split at e2
    ·split at e2
     ·cases e2;exact absurd e1 (nO j)
     ·cases e2
    ·exact k.inj j l b e1 e2
  olen:=by rw[R7,R7,k.olen]
  slen:=by rw[R7,R7,k.slen]}
theorem q_ (b : P.bd a) (e : H a = some o) (nf : ¬ Fx o) : Lt P H P (upd H a o') := ⟨Ro _,fun _ _=>rfl,fun _ z=>.inl z,fun c u ec z=>by
  by_cases h:c=a
  ·subst h;rw[e]at ec;cases ec;exact(z.elim nf fun n=>n b).elim
  ·rw[bJ h];exact ec,fun c z=>by
  by_cases h:c=a
  ·subst h;rw[dG]at z;cases z
  ·rw[bJ h]at z;exact z⟩
theorem Bh:¬ Fx (.lst vs):=fun z=>by rcases z with⟨_,z⟩ |⟨_,_,z⟩ |⟨_,z⟩ |⟨_,z⟩<;>cases z
theorem m9.lt (l:Lt P H P' H')(e:∀o,H a=some o->H' a=some o)(h:m9 K mg P H a c):m9 K mg P' H' a c:=by
  cases c with
  |lst ds=>
    obtain⟨vs,e1,q⟩:=h;exact⟨vs,e _ e1,aq.lt l q⟩
  |obj c fs=>
    obtain⟨C,dx,gs,e1,e2,e3,q⟩:=h;exact⟨C,dx,gs,e1,e _ e2,e3,aq.lt l q⟩
  |dct kvs=>
    obtain⟨vs,e1,e2,q⟩:=h;exact⟨vs,e _ e1,e2,aq.lt l q⟩
  |dcf kvs=>
    obtain⟨vs,ob,es,ep,e1,eD,e2,q⟩:=h;exact⟨vs,ob,es,ep,e _ e1,eD,e2,aq.lt l q⟩
  |fn i caps=>exact gU.up h l.frz fun _ _ q=>aq.lt l q
  |tbl nm i=>exact jT.up h e l.frz
theorem Ok.chg (k:Ok K mg P0 H0 P Os H M st env)(hi:env[i]? =some (.own ds))(ho:Os[i]? =some (some a))(e:H a=some (.lst vs))(h:aq K P H ds' vs'):
    Lt P H P (upd H a (.lst vs'))/\Ok K mg P0 H0 P Os (upd H a (.lst vs')) M st (env.set i (.own ds')):=by
  obtain⟨b1,b2,b3⟩:=k.own a (R9 ho);have l:Lt P H P (upd H a (.lst vs')):=q_ b1 e Bh;have ilt:i<env.length:=(RL.mp hi).1;refine⟨l,?_⟩;exact {
    hk:=⟨k.hk.n,fun j c ej=>(k.hk.cell j c ej).lt l fun o eo=>by rw[bJ (b2 j (by rw[k.hk.n];exact(RL.mp ej).1))];exact eo,k.hk.inj,k.hk.bd,fun c z q=>k.hk.here c z (l.sure c q)⟩
    base := ⟨k.base.n,k.base.io,k.base.bd,k.base.bm,fun c o ec n=>by
      have:=k.base.keep c o ec n;rw[bJ (fun z=>by subst z;rw[b3]at ec;cases ec)];exact this,fun c z=>k.base.sure c (l.sure c z),k.base.nw⟩
    b0:=k.b0
    slot:=fun j s ej=>by
      rw[S5]at ej;split at ej
      · rename_i ij;subst ij;cases ej;obtain⟨a',vs0,e1,e2,e3,q⟩:=k.slot i _ hi;rw[ho]at e1;cases e1;exact⟨a,vs',by rw[ho];rfl,e2,dG,aq.lt l h⟩
      · rename_i ij;have q:=k.slot j s ej
        cases s with
        |un=>exact True.intro
        |val d=>obtain⟨v,e1,q⟩:=q;exact⟨v,e1,Is.lt l q⟩
        |own es=>
          obtain⟨a',ws,e1,e2,e3,q⟩:=q;refine⟨a',ws,e1,e2,?_,aq.lt l q⟩;rw[bJ (fun z=>ij (k.inj i j a ho (by rw[<-z];exact lX e1)))];exact e3
        |exc c n=>obtain⟨v,e1,q⟩:=q;exact⟨v,e1,q.lt l⟩
    own:=k.own
    inj:=k.inj
    olen:=by rw[R7,k.olen]
    slen:=by rw[R7,k.slen]}
theorem Hk.set (h:Hk K mg P H M)(e:M[j]? =some c)(w:m9 K mg P (upd H (P.io j) o') (P.io j) c')(nd:c.fix=false:=by rfl):Lt P H P (upd H (P.io j) o')/\LtE P H P (upd H (P.io j) o')/\Hk K mg P (upd H (P.io j) o') (M.set j c'):=by
 have jl:j<P.n:=by rw[h.n];exact(RL.mp e).1
 obtain ⟨o, eo, nf⟩ := h.cellAt e nd;have l : Lt P H P (upd H (P.io j) o') := q_ (h.bd j jl) eo nf;refine ⟨l, ⟨Ro _,fun _ _=>rfl,fun _ z=>.inl z,fun _ z=>z,fun a u ea n=>by
  have ne:a≠P.io j:=by
   rintro rfl;rw[eo]at ea;cases ea;exact n.elim nf fun nc=>nc j jl rfl
  rw[bJ ne];exact ea,l.sure,fun k h1 h2=>absurd h1 (WX.mpr h2)⟩,⟨by rw[R7,h.n],fun k b ek=>?_,h.inj,h.bd,fun a z q=>h.here a z (l.sure a q)⟩⟩
 rw[S5]at ek;split at ek
 ·rename_i jk;subst jk;rw[tG (by rw[<-h.n];exact jl)]at ek;cases ek;exact w
 ·rename_i jk;have kl:k<P.n:=by rw[h.n];exact(RL.mp ek).1
  exact(h.cell k b ek).lt l fun u eu=>by rw[bJ (fun z=>jk (h.inj j k jl kl z.symm))];exact eu
theorem Ok.frz (k:Ok K mg P0 H0 P Os H M st env)(hi:env[i]? =some (.own ds)):∃P' Os',Lt P H P' H/\Ok K mg P0 H0 P' Os' H M st (env.set i (.val (.lst ds))):=by
 obtain⟨a,vs,e1,e2,e3,q⟩:=k.slot i _ hi;have ho:=lX e1;obtain⟨b1,b2,b3⟩:=k.own a (R9 ho);have ilt:i<env.length:=(RL.mp hi).1;have nO:∀b,some b∈Os.set i none->some b∈Os/\b≠a:=fun b z=>by
  obtain⟨j,hj⟩:=WL.mp z;rw[S5]at hj;split at hj
  ·split at hj<;>cases hj
  ·rename_i ij;exact⟨R9 hj,fun z=>by subst z;exact ij (k.inj i j b ho hj)⟩
 have l : Lt P H (P.less (· ≠ a)) H := ⟨Ro _, fun _ _ => rfl, fun c z => .inl z.1, fun _ _ e _ => e, fun _ z => z⟩;refine ⟨P.less (· ≠a),Os.set i none,l,{
  hk:=⟨k.hk.n,fun j c ej=>(k.hk.cell j c ej).lt l fun _ z=>z,k.hk.inj,fun j hj=>⟨k.hk.bd j hj,b2 j hj⟩,fun c z=>k.hk.here c z.1⟩
  base:=⟨k.base.n,k.base.io,fun c z=>k.base.bd c z.1,fun c z=>⟨k.base.bm c z,fun q=>k.b0 c z (q ▸ b3)⟩,k.base.keep,k.base.sure,k.base.nw⟩
  b0:=k.b0
  slot:=fun j s ej=>?_
  own:=fun c z=>?_
  inj:=fun j l b z1 z2=>?_
  olen:=by rw[R7,R7,k.olen]
  slen:=by rw[R7,k.slen]}⟩
 ·rw[pL _ _ _ _ (by rw[k.olen];exact ilt)];rw[S5]at ej;split at ej
  ·rename_i ij;subst ij;cases ej;exact⟨.ref a,e2,a,vs,rfl,.inl ⟨fun z=>z.2 rfl,.inl e3⟩,aq.less q⟩
  ·rename_i ij;rw[Rn ij];have q:=k.slot j s ej
   cases s with
   |un=>exact True.intro
   |val d=>obtain⟨v,e1,q⟩:=q;exact⟨v,e1,Is.less q⟩
   |own es=>obtain⟨a',ws,e1,e2,e3,q⟩:=q;exact⟨a',ws,e1,e2,e3,aq.less q⟩
   |exc c n=>obtain⟨v,e1,q⟩:=q;exact⟨v,e1,q.lt l⟩
 ·obtain⟨z1,z2⟩:=nO c z;obtain⟨c1,c2,c3⟩:=k.own c z1;exact⟨⟨c1,z2⟩,c2,c3⟩
 ·rw[S5]at z1 z2;split at z1
  ·split at z1<;>cases z1
  ·split at z2
   ·split at z2<;>cases z2
   ·exact k.inj j l b z1 z2
end
section
variable {X:Cx}{Wx:XW}{pos:Pos}
theorem jh (h:PS X s t)(w:∀D σ H,t' D σ H->t D σ H):PS X s t':=fun pins s σ H D I hw=>h pins s σ H D I (w D σ H hw)
theorem vD (h:fB X s t)(w:∀D σ H,t' D σ H->t D σ H):fB X s t':=fun pins s σ H D I hw=>h pins s σ H D I (w D σ H hw)
def aC:S:=fun env M=>some (.nx env,M)
noncomputable def ao (f g:S):S:=fun env M=>match f env M with
 |some (.nx e,M1)=>g e M1
 |o=>o
theorem aQ:SB X Wx [] aC:=by
 refine vD Kq ?_;rintro D st H ⟨P0,H0,P,Os,env,M,out,M',k,e,q⟩;cases e;exact q P Os H st (Lt.refl P H) k
theorem Post.lt {K:Fgx}{mg:Mgx}{P0 P P1:Pl}{H0 H H1:Hp}{M':Mm}{D:Ends}{o:Out}(l:Lt P H P1 H1)(q:Post K mg Wx P0 H0 P H M' D o):Post K mg Wx P0 H0 P1 H1 M' D o:=by
 cases o with
 |nx env=>exact fun P' Os' H' st' l' k=>q P' Os' H' st' (l.trans l') k
 |bk env=>exact fun P' Os' H' st' l' k=>q P' Os' H' st' (l.trans l') k
 |ct env=>exact fun P' Os' H' st' l' k=>q P' Os' H' st' (l.trans l') k
 |rt d=>exact q
 |ex c n=>exact q
theorem aF (h1:SS X Wx s f)(h2:SB X Wx ss g):SB X Wx (s::ss) (ao f g):=by
  refine vD (Kp h1 h2) ?_;rintro D st H ⟨P0,H0,P,Os,env,M,out,M',k,e,q⟩;unfold ao at e;split at e
  · rename_i e1 M1 ef;refine⟨P0,H0,P,Os,env,M,_,_,k,ef,fun P1 Os1 H1 st1 l1 k1=>?_⟩;exact⟨P0,H0,P1,Os1,e1,M1,_,_,k1,e,q.lt l1⟩
  · rename_i o ho
    cases ef:f env M with
    |none=>rw[ef]at e;cases e
    |some om=>
      obtain⟨o1,M1⟩:=om;rw[ef]at e;cases e;refine⟨P0,H0,P,Os,env,M,_,_,k,ef,?_⟩
      cases out with
      |nx env'=>exact(ho _ _ ef).elim
      |bk env'=>exact q
      |ct env'=>exact q
      |rt d=>exact q
      |ex c n=>exact q
noncomputable def aJ (i:Nat) (f:E):S:=fun env M=>cA (f env M) fun d M1=>if i<env.length then some (.nx (env.set i (.val d)),M1) else none
theorem bI (hN:X.N.Nodup)(hi:X.N[i]? =some x)(hx:Loc X.env.scope x)(he:SE X Wx .val e f)(hs:swapsWith e (some (.Name x pos')) pos.line X.env=pure false:=by rfl)
  (hf:X.fn x=true\/X.env.scope.names.lookup x=some .local:=by first |exact .inl rfl |exact .inr rfl):SS X Wx (.Assign [.Name x pos'] e pos) (aJ i f):=by
 refine jh (BJ hN hi hx he hs hf) ?_;rintro D st H ⟨P0,H0,P,Os,env,M,out,M',k,e,q⟩;unfold aJ at e;rcases iK e with⟨d,M1,e1,e⟩ |⟨c,n,e1,rfl⟩
 ·split at e
  ·rename_i hl;cases e;exact⟨P0,H0,P,Os,env,M,_,_,k,e1,fun P1 v1 H1 l1 h1 i1=>q _ _ _ _ (l1.lt k.hk) ((k.next l1 h1).asg hl i1)⟩
  ·cases e
 ·exact⟨P0,H0,P,Os,env,M,_,_,k,e1,q⟩
noncomputable def k_ (i:Nat) (f:E):S:=fun env M=>cA (f env M) fun d M1=>match d with
 |.lst ds=>if i<env.length then some (.nx (env.set i (.own ds)),M1) else none
 |_=>none
theorem sI (hN:X.N.Nodup)(hi:X.N[i]? =some x)(hx:Loc X.env.scope x)(he:SN X Wx e f)(hs:swapsWith e (some (.Name x pos')) pos.line X.env=pure false:=by rfl)
  (hf:X.fn x=true\/X.env.scope.names.lookup x=some .local:=by first |exact .inl rfl |exact .inr rfl):SS X Wx (.Assign [.Name x pos'] e pos) (k_ i f):=by
 refine jh (BJ hN hi hx he hs hf) ?_;rintro D st H ⟨P0,H0,P,Os,env,M,out,M',k,e,q⟩;unfold k_ at e;rcases iK e with⟨d,M1,e1,e⟩ |⟨c,n,e1,rfl⟩
 ·cases d<;>simp only[reduceCtorEq]at e
  rename_i ds;split at e
  ·rename_i hl;cases e;exact⟨P0,H0,P,Os,env,M,_,_,k,e1,ds,rfl,fun P1 a vs H1 l1 h1 ha ba nc ea is=>q _ _ _ _ (l1.lt k.hk) (k.mine l1 h1 hl ha ba nc ea is)⟩
  ·cases e
 ·exact⟨P0,H0,P,Os,env,M,_,_,k,e1,q⟩
def aV (f:E):S:=fun env M=>cA (f env M) fun d M1=>some (.rt d,M1)
theorem cO (he:SE X Wx .val e f):SS X Wx (.Return (some e) pos) (aV f):=by
 refine jh (Ko he) ?_;rintro D st H ⟨P0,H0,P,Os,env,M,out,M',k,e,q⟩;unfold aV at e;rcases iK e with⟨d,M1,e1,e⟩ |⟨c,n,e1,rfl⟩
 ·cases e;exact⟨P0,H0,P,Os,env,M,_,_,k,e1,fun P1 v1 H1 l1 h1 i1=>q P1 v1 H1 (k.base.trans l1) h1 i1⟩
 ·exact⟨P0,H0,P,Os,env,M,_,_,k,e1,q⟩
noncomputable def cg (c:E) (f g:S):S:=fun env M=>cA (c env M) fun d M1=>match d with
 |.bl b=>if b=true then f env M1 else g env M1
 |_=>none
theorem cN (hc:ST X Wx c t)(ha:SB X Wx a f)(hb:SB X Wx b g):SS X Wx (.If c a b pos) (cg t f g):=by
  refine jh (Km hc ha hb) ?_;rintro D st H ⟨P0,H0,P,Os,env,M,out,M',k,e,q⟩;unfold cg at e;rcases iK e with⟨d,M1,e1,e⟩ |⟨c,n,e1,rfl⟩
  · cases d<;>simp only[reduceCtorEq]at e
    rename_i b;refine fK k e1 ⟨b,rfl,fun P1 H1 l1 h1=>?_⟩
    cases b with
    |true=>
      rw[tG rfl]at e ⊢;exact⟨P0,H0,P1,Os,env,M1,_,_,k.next l1 h1,e,q.lt (l1.lt k.hk)⟩
    |false=>
      rw[Rn (by decide)]at e ⊢;exact⟨P0,H0,P1,Os,env,M1,_,_,k.next l1 h1,e,q.lt (l1.lt k.hk)⟩
  · exact fK k e1 q
noncomputable def fj (i:Nat):S:=fun env M=>match env[i]? with
 |some (.own ds)=>some (.nx (env.set i (.val (.lst ds))),M)
 |_=>none
theorem sy (h:SB X Wx ss g):SB X Wx ss (ao (fj i) g):=by
 refine vD h ?_;rintro D st H ⟨P0,H0,P,Os,env,M,out,M',k,e,q⟩;unfold ao fj at e;split at e
 ·rename_i e1 M1 ef;split at ef
  ·rename_i ds es;cases ef;obtain⟨P1,Os1,l1,k1⟩:=k.frz es;exact⟨P0,H0,P1,Os1,_,_,_,_,k1,e,q.lt l1⟩
  ·cases ef
 ·rename_i ho;split at e
  ·rename_i es;exact(ho _ _ (by rw[es])).elim
  ·cases e
noncomputable def dX (i:Nat) (f:E):S:=fun env M=>match env[i]? with
 |some (.own ds)=>cA (f env M) fun d M1=>if ds.length<sizeLine then some (.nx (env.set i (.own (ds ++ [d]))),M1) else none
 |_=>none
theorem pR (hN:X.N[i]? =some x)(hv:nu X.env.scope x)(he:SE X Wx .val e f)(hd:(x==("__debug__":Str))=false:=by x_go)(hcd:(x==("__classdict__":Str))=false:=by x_go)
  (hfew:((backTo q (starEach [e] X.env)).all (fun x=> !x.1) && (backToKw q (keywordEach [] X.env)).all (fun x=>x.1.isSome) && decide ([e].length + ([]:List Keyword).length + (if ([]:List Keyword).isEmpty then 0 else 1)<30))=true:=by rfl)
  (hline:(p.endLine==q.line)=true:=by rfl) (hs:starEach [e] X.env=(false,eval e X.env)::starEach [] X.env:=by rfl) (hw:swapsWith (.Call (.Attribute (.Name x p0) "append" p) [e] [] q) none pos.line X.env=pure false:=by rfl):
  SS X Wx (.Expr (.Call (.Attribute (.Name x p0) "append" p) [e] [] q) pos) (dX i f):=by
 refine jh (vC (vp Vh Wj Wl uX (Bv hN hv hd hcd) (pA he pB hs) rfl hfew hline hs rfl) hw) ?_;rintro D st H ⟨P0,H0,P,Os,env,M,out,M',k,e,q⟩;unfold dX at e;split at e
 ·rename_i ds es;obtain⟨a,vs,o1,o2,o3,o4⟩:=k.slot i _ es;refine⟨.ref a,lX o2,.inl ⟨rfl,vs,.inl (.inl o3)⟩,?_⟩;rcases iK e with⟨d,M1,e1,e⟩ |⟨c,n,e1,rfl⟩
  ·split at e
   ·rename_i hz;cases e;refine bM k e1 fun P1 v1 H1 l1 h1 i1=>?_;have k1:=k.next l1 h1
    obtain⟨a',vs',o1',o2',o3',o4'⟩:=k1.slot i _ es;have ea:a'=a:=by
     have z:=o2'.symm.trans o2;cases z;rfl
    subst ea;refine⟨a',vs',v1,rfl,rfl,o3',by rw[o4'.len];exact hz,?_⟩;obtain⟨l2,k2⟩:=k1.chg es (lX o1') o3' (aq.append o4' (aq.one i1));exact q _ _ _ _ ((l1.lt k.hk).trans l2) k2
   ·cases e
  ·exact bM k e1 q
 ·cases e
def Wk (K:Fgx)(P1:Pl)(H1:Hp)(J:It)(ds:List D):Prop:=∀P H,Lt P1 H1 P H->(∀k,k<ds.length->J.go k H)/\(∀k,ds.length<=k->k<=ds.length->J.stop k H)/\∀k x H',J.yld k H x H'->k<ds.length->H'=H/\∃d,ds[k]? =some d/\Is K P H d x
noncomputable def IQ (K:Fgx) (mg:Mgx) (Wx:XW) (P0:Pl) (H0:Hp) (P:Pl) (H:Hp) (M':Mm) (R:It->Hp->Prop):ResA->Prop
 |.v ds=>∀P' H' J,LtE P H P' H'->Hk K mg P' H' M'->Wk K P' H' J ds->R J H'
 |.x c n=>Wx P0 H0 M' c n
noncomputable def tI (K:Fgx) (mg:Mgx) (Wx:XW) (fs:EA):TI:=fun st H R=>∃P0 H0 P Os env M r M',Ok K mg P0 H0 P Os H M st env/\fs env M=some (r,M')/\IQ K mg Wx P0 H0 P H M' R r
def SI (X:Cx)(Wx:XW)(tg iter:Expr)(fs:EA):Prop:=PI X tg iter (tI X.K X.mg Wx fs)
theorem vA (h:PI X tg iter t)(w:∀σ H R,t' σ H R->t σ H R):PI X tg iter t':=fun pins s σ H R I hw=>h pins s σ H R I (w σ H R hw)
noncomputable def loopS (i:Nat) (body:S):List D->Env->Mm->OS
  | [],env,M=>some (.nx env,M)
  | d :: ds, env, M => if i < env.length then (match body (env.set i (.val d)) M with
    |some (.nx e,M1)=>loopS i body ds e M1
    |some (.ct e,M1)=>loopS i body ds e M1
    |some (.bk e,M1)=>some (.nx e,M1)
    |some (.rt d,M1)=>some (.rt d,M1)
    |some (.ex c n,M1)=>some (.ex c n,M1)
    |none=>none) else none
noncomputable def cX (i:Nat) (fs:EA) (body:S):S:=fun env M=>match fs env M with
 |some (.v ds,M1)=>loopS i body ds env M1
 |some (.x c n,M1)=>some (.ex c n,M1)
 |none=>none
theorem G6 {K:Fgx}{mg:Mgx}{P0 P1:Pl}{H0 H1:Hp}{Os:List (Option Addr)}{M M':Mm}{st:L2.St}{env:Env}{i:Nat}{b:S}{J:It}{ds:List D}{out:Out}{D:Ends}(k:Ok K mg P0 H0 P1 Os H1 M st env)(wk:Wk K P1 H1 J ds)
  (h:loopS i b ds env M=some (out,M')) (q:Post K mg Wx P0 H0 P1 H1 M' D out):
  ∃W:Nat->Nat->L2.St->Hp->Prop,(∃m,W 0 m st H1)/\∀j m σ H,W j m σ H->
   (J.stop j H/\D.nx σ H)\/(J.go j H/\∃Nn:L2.St->Hp->Prop,(∀σ' H',Nn σ' H'->∃m',m'<m/\W (j + 1) m' σ' H')/\∀x H',J.yld j H x H'->uJ i x σ H' fun σ2 H2=>tS K mg Wx b {D with nx:=Nn,ct:=Nn,bk:=D.nx} σ2 H2):=by
 refine⟨fun j m σ H=>m=ds.length - j/\j<=ds.length/\∃P Os' M1 env',Lt P1 H1 P H/\Ok K mg P0 H0 P Os' H M1 σ env'/\loopS i b (ds.drop j) env' M1=some (out,M'),⟨ds.length,by simp,Tc _,P1,Os,M,env,Lt.refl _ _,k,h⟩,?_⟩;rintro j m σ H ⟨rfl,hj,P,Os',M1,env',lt,k',h'⟩;obtain⟨w1,w2,w3⟩:=wk P H lt
 by_cases hlt:j<ds.length
 ·refine .inr ⟨w1 j hlt,fun σ' H'=>∃P Os' M1 env',Lt P1 H1 P H'/\Ok K mg P0 H0 P Os' H' M1 σ' env'/\loopS i b (ds.drop (j + 1)) env' M1=some (out,M'),fun σ' H' z=>⟨ds.length - (j + 1),by omega,rfl,hlt,z⟩,fun x H' y=>?_⟩;obtain⟨e3,d,ed,iv⟩:=w3 j x H' y hlt;subst e3;have ed':ds.drop j=d::ds.drop (j + 1):=by
   rw[Ti hlt];rw[Rr hlt]at ed;rw[RM ed]
  rw[ed']at h';simp only[loopS]at h';split at h'
  ·rename_i hi;have k2:=k'.asg hi iv;split at h'
   ·rename_i e M2 eb;exact⟨P0,H0,P,_,_,M1,_,_,k2,eb,fun P' Os2 H2 st2 l2 k3=>⟨P',Os2,_,e,lt.trans l2,k3,h'⟩⟩
   ·rename_i e M2 eb;exact⟨P0,H0,P,_,_,M1,_,_,k2,eb,fun P' Os2 H2 st2 l2 k3=>⟨P',Os2,_,e,lt.trans l2,k3,h'⟩⟩
   ·rename_i e M2 eb;cases h';exact⟨P0,H0,P,_,_,M1,_,_,k2,eb,fun P' Os2 H2 st2 l2 k3=>q P' Os2 H2 st2 (lt.trans l2) k3⟩
   ·rename_i e M2 eb;cases h';exact⟨P0,H0,P,_,_,M1,_,_,k2,eb,q⟩
   ·rename_i c n M2 eb;cases h';exact⟨P0,H0,P,_,_,M1,_,_,k2,eb,q⟩
   ·cases h'
  ·cases h'
 ·have ej:j=ds.length:=by omega
  subst ej;rw[Vr]at h';cases h';exact .inl ⟨w2 _ (Ro _) (Ro _),q P Os' H σ lt k'⟩
theorem pU (hp:PassesOwn (model X.prog X.w) X.A X.env X.xe)(hc:X.calm=true)(hN:X.N.Nodup)(hi:X.N[i]? =some x)(hx:Loc X.env.scope x)(hI:SI X Wx (.Name x p) iter fs)(hb:SB X Wx body b)
  (hf:X.fn x=true\/X.env.scope.names.lookup x=some .local:=by first |exact .inl rfl |exact .inr rfl) (hs:∀x,foldedSetIterable iter X.env x=pure x:=by intro _;rfl):SS X Wx (.For (.Name x p) iter body [] pos) (cX i fs b):=by
 refine jh (Kl hp hc hI (Bw hN hi hx hf) hb hs) ?_;rintro D st H ⟨P0,H0,P,Os,env,M,out,M',k,e,q⟩;unfold cX at e;split at e
 ·rename_i ds M1 ef;exact⟨P0,H0,P,Os,env,M,_,_,k,ef,fun P1 H1 J l1 h1 wk=>G6 (k.next l1 h1) wk e (q.lt (l1.lt k.hk))⟩
 ·rename_i c n M1 ef;cases e;exact⟨P0,H0,P,Os,env,M,_,_,k,ef,q⟩
 ·cases e
noncomputable def cU (f:E):EA:=fun env M=>match f env M with
 |some (.v (.lst ds),M1)=>some (.v ds,M1)
 |some (.x c n,M1)=>some (.x c n,M1)
 |_=>none
theorem mW (h:SE X Wx .val e f):SI X Wx tg e (cU f):=by
 refine vA (J7 h) ?_;rintro st H R ⟨P0,H0,P,Os,env,M,r,M',k,e,q⟩;unfold cU at e;split at e
 ·rename_i ds M1 ef;cases e;refine⟨P0,H0,P,Os,env,M,_,_,k,ef,fun P1 v1 H1 l1 h1 i1=>?_⟩;obtain⟨a,vs,rfl,ra,is⟩:=i1;refine⟨a,rfl,⟨vs,ra.imp (·.2) id⟩,q P1 H1 _ l1 h1 fun P2 H2 l2=>?_⟩;have ra2:=l2.rda ra;have is2:=aq.lt l2 is;have sq:bK X.K H2 a vs:=ra2.imp (·.2) id;refine⟨fun j hj=>?_,fun j h1 h2=>⟨vs,sq,by rw[is2.len];exact h1⟩,fun j x H' y hj=>⟨y.1,?_⟩⟩
  ·obtain⟨v,ev,_⟩:=aq.get is2 (Rr hj);exact⟨vs,v,sq,ev⟩
  ·obtain⟨v,ev,iv⟩:=aq.get is2 (Rr hj);have:=y.2 vs sq;rw[ev]at this;cases this;exact⟨_,Rr hj,iv⟩
 ·rename_i c n M1 ef;cases e;exact⟨P0,H0,P,Os,env,M,_,_,k,ef,q⟩
 ·cases e
end
abbrev G:=List D->Mm->O
noncomputable def iz (K:Fgx) (mg:Mgx) (n:Nat) (g:G):Sp:=fun vs H Q _=>vs.length=n/\∃P M ds d M',Hk K mg P H M/\aq K P H ds vs/\g ds M=some (.v d,M')/\∀P' v H',LtE P H P' H'->Hk K mg P' H' M'->Is K P' H' d v->Q v H'
noncomputable def bA (o:OS):O:=match o with
 |some (.rt d,M)=>some (.v d,M)
 |some (.nx _,M)=>some (.v .non,M)
 |some (.ex c n,M)=>some (.x c n,M)
 |_=>none
noncomputable def cI (n:Nat) (b:S):G:=fun ds M=>bA (b (ds.map .val ++ List.replicate (n - ds.length) .un) M)
theorem Pr {K:Fgx}{mg:Mgx}{P:Pl}{H:Hp}{M:Mm}{N:List Str}{ds:List D}{vs:List V}(hk:Hk K mg P H M)(hl:vs.length<=N.length)(h:aq K P H ds vs):
  Ok K mg P H P (List.replicate N.length none) H M (L2.start N vs) (ds.map .val ++ List.replicate (N.length - ds.length) .un):=by
 have hd:=h.len;refine⟨hk,LtE.refl P H,hk.here,fun i s e=>?_,fun a z=>?_,fun i j a e1 _=>?_,by simp;omega,by simp[L2.start];omega⟩
 ·have e0:((List.replicate N.length (none:Option Addr))[i]?).join=none:=by
   rw[SJ]
   split<;>rfl
  rw[e0]
  by_cases hi:i<ds.length
  ·rw[R0 (by simpa using hi),Rx,Rr hi]at e;simp only[Ui,Xa]at e;subst e;obtain⟨v,ev,p⟩:=h.get (Rr hi);refine⟨v,?_,p⟩;unfold L2.start;rw[R0 (by rw[RJ];omega),Rx,ev];rfl
  ·rw[RZ (by simpa using hi),SJ]at e;split at e
   ·cases e;exact True.intro
   ·cases e
 ·exact absurd (Wm z) (by simp)
 ·rw[SJ]at e1;split at e1<;>cases e1
structure FunD (K:Fgx)(x qual:Str)(st:Stmt)(f:Addr)(fd:FuncData):Prop where
 ex:∃(oc:Value) (od:Option Addr) (dV kV doc pm:Value) (an:Option Addr) (cdv ct:Value) (osl:Array (Option Value)),
  fd=PySem.W.fnOf x qual (bR st) (bL st) (aM st) dV kV doc pm an cdv ct/\K.lookup f=some ⟨oc,od,.func fd,osl⟩/\PySem.W.codeIn K cdv qual=true
 kp:PySem.W.keepIn K (.ref f)=true
theorem qM {K:Fgx}{x qual:Str}{st:Stmt}{f:Addr}{oc:Value}{od an:Option Addr}{osl:Array (Option Value)}{dV kV doc pm cdv ct:Value}(l:K.lookup f=some ⟨oc,od,.func (PySem.W.fnOf x qual (bR st) (bL st) (aM st) dV kV doc pm an cdv ct),osl⟩)
  (c:PySem.W.codeIn K cdv qual=true) (k:PySem.W.keepIn K (.ref f)=true):FunD K x qual st f (PySem.W.fnOf x qual (bR st) (bL st) (aM st) dV kV doc pm an cdv ct):=⟨⟨oc,od,dV,kV,doc,pm,an,cdv,ct,osl,rfl,l,c⟩,k⟩
section
variable {P:Program}{w:World}{K:Fgx}{mg:Mgx}{base:Heap}{k:Nat}{x qual:Str}{st:Stmt}{f:Addr}{fd:FuncData}{N ps:List Str}{b:S}
def W0:XW:=fun _ _ _ _ _=>False
abbrev nT (P:Program)(w:World)(K:Fgx)(mg:Mgx)(base:Heap)(N:List Str)(qual:Str)(st:Stmt)(f:Addr)(cdv:Value)(A:Around)(outer:List PySem.Env)(s:Shared)(H:Hp)(E:XK):Cx:=(fO d8 P w K mg base N qual (aM st) f cdv A outer s H E).nox
theorem uG (F:FunD K x qual st f fd)(S:FnScope N ps (aM st))(hp:ps.length<=N.length)
  (hb:∀cdv A outer s H E,Room k (A.deeper (envOfC qual (aM st) s.heap.objs.size f cdv))->SB (nT P w K mg base N qual st f cdv A outer s H E) W0 (bL st) b):FnOk P w K mg base d8 (k + 1) f fd ps (iz K mg ps.length (cI N.length b)):=by
 obtain⟨oc,od,dV,kV,doc,pm,an,cdv,ct,osl,rfl,lk,hcd⟩:=F.ex;refine FW lk hcd S (fun vs H Q E h=>h.1) fun A outer s H vs Q E hr h=>?_;obtain⟨hl,Pl,M,ds,d,M',hk,is,e,q⟩:=h;refine⟨_,fB.nox (hb cdv A outer s H E hr),?_⟩;unfold cI bA at e;have st0:=Pr (N:=N) hk (by omega) is;split at e
 ·rename_i d' M2 eb;cases e;exact⟨Pl,H,Pl,_,_,M,_,_,st0,eb,fun P' v H' l h i=>q P' v H' l h i⟩
 ·rename_i env M2 eb;cases e;exact⟨Pl,H,Pl,_,_,M,_,_,st0,eb,fun P' Os' H' st' _ k'=>q P' .non H' k'.base k'.hk rfl⟩
 ·rename_i c n M2 eb;cases e
 ·cases e
def bf (P:Program)(w:World)(K:Fgx)(mg:Mgx)(base:Heap)(k:Nat)(f:Str)(n:Nat)(g:G):Prop:=
 ∃fa fd ps ds dvs sp,mg f=some (.ref fa)/\PySem.W.keepIn K (.ref fa)=true/\FnOk P w K mg base d8 k fa fd ps sp/\Binds K fd ps ds/\Vals dvs ds/\∀vs H Q E,iz K mg n g vs H Q E->sp (vs ++ dvs) H Q E
theorem FT (F:FunD K x qual st f fd)(S:FnScope N ps (aM st))(hp:ps.length<=N.length)(hm:mg x=some (.ref f))(hd:Binds K fd ps [])
  (hb:∀cdv A outer s H E,Room k (A.deeper (envOfC qual (aM st) s.heap.objs.size f cdv))->SB (nT P w K mg base N qual st f cdv A outer s H E) W0 (bL st) b):bf P w K mg base (k + 1) x ps.length (cI N.length b):=
 ⟨f,fd,ps,[],[],_,hm,F.kp,uG F S hp hb,hd,.nil,fun vs H Q E h=>by rw[Sy];exact h⟩
theorem bf.mono (a:bf P w K mg base j x n g)(h:j<=k):bf P w K mg base k x n g:=by
 obtain⟨fa,fd,ps,ds,dvs,sp,h1,h2,h3,h4⟩:=a;exact⟨fa,fd,ps,ds,dvs,sp,h1,h2,h3.mono h,h4⟩
end
section
variable {X:Cx}{Wx:XW}{m:Mode}
noncomputable def cF (g:G) (fs:EA):E:=fun env M=>dM (fs env M) fun ds M1=>match g ds M1 with
 |some (.v d,M2)=>some (.v d,M2)
 |_=>none
theorem bT.len {K:Fgx}{P:Pl}{H:Hp}:∀{ds:List D} {vs:List V},bT K P H m ds vs->vs.length=ds.length
  | [],_,h=>by rw[show _=[] from h];rfl
  |d::ds,_,h=>by
    obtain⟨v,r,e,_,q⟩:=h;subst e
    simp[bT.len q]
def qe (n:Nat)(fs:EA):Prop:=∀env M ds M',fs env M=some (.v ds,M')->ds.length=n
theorem cnt_nil:qe 0 au:=fun env M ds M' e=>by cases e;rfl
theorem cnt_cons (h:qe n fs):qe (n + 1) (aD f fs):=fun env M ds M' e=>by
 unfold aD at e;split at e
 ·split at e
  ·rename_i ef;cases e;rw[RD,h _ _ _ _ ef]
  ·cases e
  ·cases e
 ·cases e
 ·cases e
theorem dY {k n:Nat}{f:Str}{g:G}{e:Expr}{es:List Expr}{fs:EA}{p pos:Pos}(a:bf X.prog X.w X.K X.mg X.base k f n g)(hr:Room k X.A)(hg:Gl X f)(ha:SA X Wx .val (e::es) fs)(hn:qe n fs)(hdb:(f==("__debug__":Str))=false:=by x_go)
  (he:starEach (e::es) X.env=(false,eval e X.env)::starEach es X.env:=by rfl) (hpl:(backTo pos (starEach es X.env)).any (·.1)=false:=by rfl):SE X Wx m (.Call (.Name f p) (e::es) [] pos) (cF g fs):=by
 obtain⟨fa,fd,ps,ds,dvs,sp,hm,hk,F,hb,hv,himp⟩:=a;refine cL (JF F hr hg hm hk hb hv Jz ha hdb he hpl) ?_;rintro st H Q ⟨P0,H0,P,Os,env,M,r,M',k,e,q⟩;unfold cF at e;rcases lO e with⟨ds,M1,e1,e⟩ |⟨c,n,e1,rfl⟩
 ·split at e
  ·rename_i d M2 eg;cases e;exact⟨P0,H0,P,Os,env,M,_,_,k,e1,fun P1 vs H1 l1 h1 i1=>himp _ _ _ _ ⟨by rw[i1.len];exact hn _ _ _ _ e1,P1,M1,ds,d,_,h1,i1.iss,eg,fun P2 v H2 l2 h2 i2=>q P2 v H2 (l1.trans l2) h2 (dh.of h2 i2)⟩⟩
  ·cases e
 ·exact⟨P0,H0,P,Os,env,M,_,_,k,e1,q⟩
end
def m8 (i j:Int):Prop:=iG i j\/(i.natAbs.log2<10000/\j.natAbs.log2<10000)
theorem yH (h:i.natAbs.log2<10000):Builtin.Int.intBits i<=10001:=by
 unfold Builtin.Int.intBits
 split<;>omega
theorem m8.ok (h:m8 i j):IntMulOk i j:=by
 rcases h with h |⟨h1,h2⟩
 ·exact h.ok
 ·exact mulOk_of_bits (yH h1) (yH h2) (by decide)
theorem mL:bw X (binaryOp .Mult) (rI m8 fun i j=>.int (i * j)):=o9 fun _ _ _ _ _ _ _ hc q=>mul_int q hc.ok
section
variable {X:Cx}{pins:Pnx}{σ:L2.St}{H:Hp}{s:Shared}{K:Fgx}
noncomputable def BR (K:Fgx):R2:=fun x y H Q=>∃l b xs zs,x=.ref l/\y=.ref b/\bK K H l xs/\bK K H b zs/\xs.length + zs.length<=sizeLine/\∀p,H p=none->Q (.ref p) (upd H p (.lst (xs ++ zs)))
theorem Jf:bw X (binaryOp .Add) (BR X.K):=by
 intro pins s σ H x y v u Q I rx ry h;obtain⟨l,b,xs,zs,rfl,rfl,hH,hB,hz,q⟩:=h;cases rx;cases ry;obtain⟨z,its,r,⟨cls,dd,data,sl⟩,ho,hc,n,hd⟩:=sql I hH;obtain⟨z2,its2,r2,⟨cls2,dd2,data2,sl2⟩,ho2,hc2,n2,hd2⟩:=sql I hB;simp only at hc hd hc2 hd2;subst hc hd hc2 hd2;have hl:=r.length;have hl2:=r2.length;refine concat_meets ⟨_,ho,rfl⟩ ⟨_,ho2,rfl⟩ noFill_list_add seq_list_add F.slot_list_add F.entry_list_add (F.args_list_add_2 _ _) (list_addW l b its.toArray its2.toArray n n2 dd dd2 sl sl2 (by rw[Rq,Rq];omega)) ⟨ho,ho2,?_⟩;have ea:its.toArray ++ its2.toArray=(its ++ its2).toArray:=by simp
 rw[ea];exact⟨.ref _,_,I.lnew (t':=s.toks) (r.append r2) (by rw[RG];omega),rfl,q _ I.fresh⟩
theorem Bg {P:Pl}{H:Hp}{ds:List D}{vs:List V}{Q:VK}(hn:∀p,H p=none->¬ P.bd p)(h:aq K P H ds vs)(q:∀u H',Same H H'->Is K P H' (.lst ds) u->Q u H'):∀p,H p=none->Q (.ref p) (upd H p (.lst vs)):=fun p hp=>by
 have s:=lu (o:=.lst vs) hp;exact q _ _ s ⟨p,vs,rfl,.inl ⟨hn p hp,.inl dG⟩,aq.lt ⟨Ro _,fun _ _=>rfl,fun _ z=>.inl z,fun a o e _=>s a o e,fun a z=>s.free z⟩ h⟩
theorem Hj {P:Pl}{H:Hp}{ds:List D}{vs:List V}{Q:VK}(h:aq K P H ds vs)(q:∀u H',Same H H'->Is K P H' (.tup ds) u->Q u H'):∀p,H p=none->Q (.ref p) (upd H p (.tup vs)):=fun p hp=>by
 have s:=lu (o:=.tup vs) hp;exact q _ _ s ⟨p,vs,rfl,.inl (.inl dG),aq.lt ⟨Ro _,fun _ _=>rfl,fun _ z=>.inl z,fun a o e _=>s a o e,fun a z=>s.free z⟩ h⟩
noncomputable def aR:D->D->Option D
 |.int i,.int j=>some (.int (i + j))
 |.str i,.str j=>if i.length + j.length<=sizeLine then some (.str (i ++ j)) else none
 |.lst xs,.lst ys=>if xs.length + ys.length<=sizeLine then some (.lst (xs ++ ys)) else none
 |_,_=>none
noncomputable def kO (K:Fgx):R2:=fun x y H Q=>fH (fun i j=>.int (i + j)) x y H Q\/(∃i j,x=.str i/\y=.str j/\i.length + j.length<=sizeLine/\Q (.str (i ++ j)) H)\/BR K x y H Q
theorem cJ:bw X (binaryOp .Add) (kO X.K):=Jd.or (Je.or Jf)
theorem cM:fG K (kO K) aR:=fun P H d e z v w Q h h1 h2 hn q=>by
 unfold aR at h;split at h
 ·cases h;cases h1;cases h2;exact .inl ⟨_,_,rfl,rfl,q _ H (Same.refl H) rfl⟩
 ·split at h
  ·rename_i hl;cases h;cases h1;cases h2;exact .inr (.inl ⟨_,_,rfl,rfl,hl,q _ H (Same.refl H) rfl⟩)
  ·cases h
 ·split at h
  ·rename_i hl;cases h;obtain⟨a,vs,rfl,r1,s1⟩:=h1;obtain⟨b,ws,rfl,r2,s2⟩:=h2;exact .inr (.inr ⟨a,b,vs,ws,rfl,rfl,r1,r2,by rw[s1.len,s2.len];exact hl,Bg hn (s1.append s2) q⟩)
  ·cases h
 ·cases h
noncomputable def oI (g:Int->Int->Option D):D->D->Option D
 |.int i,.int j=>g i j
 |_,_=>none
theorem mF (h:oI g d e=some z)(h1:bF K P H d v)(h2:bF K P H e w):∃i j,v=.int i/\w=.int j/\g i j=some z:=by
 unfold oI at h;split at h
 ·cases h1;cases h2;exact⟨_,_,rfl,rfl,h⟩
 ·cases h
def i_:=oI fun i j=>some (.int (i - j))
theorem BL:fG K (fH fun i j=>.int (i - j)) i_:=fun P H d e z v w Q h h1 h2 _ q=>by
 obtain⟨i,j,rfl,rfl,h⟩:=mF h h1 h2;cases h;exact⟨i,j,rfl,rfl,q _ H (Same.refl H) rfl⟩
noncomputable def dR:=oI fun i j=>if i.natAbs<18446744073709551616\/j.natAbs<18446744073709551616\/(i.natAbs.log2<10000/\j.natAbs.log2<10000) then some (.int (i * j)) else none
theorem mO:fG K (rI m8 fun i j=>.int (i * j)) dR:=fun P H d e z v w Q h h1 h2 _ q=>by
 obtain⟨i,j,rfl,rfl,h⟩:=mF h h1 h2;split at h
 ·rename_i hg;cases h;exact⟨i,j,rfl,rfl,by unfold m8 iG;rw[show(2:Int) ^ 64=18446744073709551616 from rfl];exact hg.elim (fun z=>.inl (.inl ⟨by omega,by omega⟩)) (fun z=>z.elim (fun z=>.inl (.inr ⟨by omega,by omega⟩)) .inr),q _ H (Same.refl H) rfl⟩
 ·cases h
noncomputable def eE:=oI fun i j=>if 0<j/\j.natAbs<1073741824 then some (.int (i / j)) else none
theorem fU:fG K (rI m7 fun i j=>.int (i / j)) eE:=fun P H d e z v w Q h h1 h2 _ q=>by
 obtain⟨i,j,rfl,rfl,h⟩:=mF h h1 h2;split at h
 ·rename_i hg;cases h;exact⟨i,j,rfl,rfl,⟨hg.1,by omega⟩,q _ H (Same.refl H) rfl⟩
 ·cases h
def oMod:=oI fun i j=>if 0<j then some (.int (i % j)) else none
theorem dW:fG K (rI (fun _ j=>0<j) fun i j=>.int (i % j)) oMod:=fun P H d e z v w Q h h1 h2 _ q=>by
 obtain⟨i,j,rfl,rfl,h⟩:=mF h h1 h2;split at h
 ·rename_i hg;cases h;exact⟨i,j,rfl,rfl,hg,q _ H (Same.refl H) rfl⟩
 ·cases h
noncomputable def kI:=oI fun i j=>if 0<=j/\j.natAbs<=1000000/\i.natAbs<18446744073709551616 then some (.int (i ^ j.toNat)) else none
theorem Kz:fG K (rI jP fun i j=>.int (i ^ j.toNat)) kI:=fun P H d e z v w Q h h1 h2 _ q=>by
 obtain⟨i,j,rfl,rfl,h⟩:=mF h h1 h2;split at h
 ·rename_i hg;cases h;exact⟨i,j,rfl,rfl,by unfold jP;rw[show(2:Nat) ^ 64=18446744073709551616 from rfl];exact⟨hg.1,by omega,hg.2.2⟩,q _ H (Same.refl H) rfl⟩
 ·cases h
def aA (c:Cp)(a b:D):Option D:=(bU c a b).map .bl
theorem rM:fG K (rP K c) (aA c):=fun P H d e z v w Q h h1 h2 _ q=>by
 unfold aA at h;rw[Ru]at h;obtain⟨b,h,rfl⟩:=h;exact yP h h1 h2 (q _ H (Same.refl H) rfl)
noncomputable def aX:D->D->Option D
 |.lst ds,.int i=>bO ds i
 |.tup ds,.int i=>bO ds i
 |.str z,.int i=>if z.length<=sizeLine then(bO z.cps.toList i).map fun c=>.str ⟨#[c]⟩ else none
 |_,_=>none
noncomputable def vN (K:Fgx):R2:=fun x y H Q=>kW K x y H Q\/kZ K x y H Q\/kY x y H Q
theorem GC:gW X (vN X.K):=GD.or (GJ.or GF)
theorem yw (h:bO ds i=some d)(q:aq K P H ds vs):∃u,bO vs i=some u/\Is K P H d u:=by
 unfold bO at h ⊢;rw[q.len]
 cases e:jZ ds.length i with
 |none=>rw[e]at h;cases h
 |some j=>rw[e]at h;exact q.get h
theorem Kw:fG K (vN K) aX:=fun P H d e z v w Q h h1 h2 _ q=>by
 unfold aX at h;split at h
 ·obtain⟨a,vs,rfl,r,s⟩:=h1;cases h2;obtain⟨u,e,p⟩:=yw h s;exact .inl ⟨a,vs,_,u,rfl,rfl,r,e,q _ H (Same.refl H) p⟩
 ·obtain⟨a,vs,rfl,r,s⟩:=h1;cases h2;obtain⟨u,e,p⟩:=yw h s;exact .inr (.inl ⟨a,vs,_,u,rfl,rfl,r,e,q _ H (Same.refl H) p⟩)
 ·split at h
  ·rename_i hl;rw[Ru]at h;obtain⟨c,h,e⟩:=h;cases e;cases h1;cases h2;exact .inr (.inr ⟨_,_,c,rfl,rfl,hl,h,q _ H (Same.refl H) rfl⟩)
  ·cases h
 ·cases h
noncomputable def bx:List D->Option D
 | [.lst ds]=>some (.int ds.length)
 | [.tup ds]=>some (.int ds.length)
 | [.str z]=>if z.length<=sizeLine then some (.int z.length) else none
 |_=>none
def pF (K:Fgx):List V->Hp->VK->Prop:=fun xs H Q=>(∃p ys,xs=[.ref p]/\(bK K H p ys\/dJ K H p ys)/\Q (.int ys.length) H)\/∃z,xs=[.str z]/\z.length<=sizeLine/\Q (.int z.length) H
theorem fZ:eN X (.builtin "len") (pF X.K):=Er.or Et
theorem gb:ni K (pF K) bx:=fun P H ds z vs Q h i _ q=>by
 unfold bx at h;split at h
 ·obtain⟨v,ws,rfl,p,rfl⟩:=i;cases h;obtain⟨a,us,rfl,r,s⟩:=p;exact .inl ⟨a,us,rfl,.inl r,q _ H (Same.refl H) (by rw[s.len];rfl)⟩
 ·obtain⟨v,ws,rfl,p,rfl⟩:=i;cases h;obtain⟨a,us,rfl,r,s⟩:=p;exact .inl ⟨a,us,rfl,.inr r,q _ H (Same.refl H) (by rw[s.len];rfl)⟩
 ·split at h
  ·rename_i hl;obtain⟨v,ws,rfl,p,rfl⟩:=i;cases h;cases p;exact .inr ⟨_,rfl,hl,q _ H (Same.refl H) rfl⟩
  ·cases h
 ·cases h
noncomputable def eU:List D->Option D
 | [.int i,.int j]=>some (.int (if j > i then j else i))
 |_=>none
theorem rN:ni K (fun xs H Q=>∃i j,xs=[.int i,.int j]/\Q (.int (if j > i then j else i)) H) eU:=fun P H ds z vs Q h i _ q=>by
 unfold eU at h;split at h
 ·obtain⟨v,ws,rfl,p,v',ws',rfl,p',rfl⟩:=i;cases h;cases p;cases p';exact⟨_,_,rfl,q _ H (Same.refl H) rfl⟩
 ·cases h
end
section
variable {X:Cx}{Wx:XW}{m:Mode}
theorem Q0 {K:Fgx}{P:Pl}{H:Hp}{lo:Int}{n:Nat}:Wk K P H (qg lo n) ((List.range n).map fun(k:Nat)=>.int (lo + k)):=fun P' H' l=>by
 rw[RJ,Us];refine⟨fun k hk=>hk,fun k h1 _=>h1,fun k x H2 y hk=>⟨y.1,.int (lo + k),?_,y.2⟩⟩;rw[Rx,U8 hk];rfl
noncomputable def jC (fs:EA):EA:=fun env M=>match fs env M with
 |some (.v [.int j],M1)=>if -1000000000<=j/\j<=1000000000 then some (.v ((List.range j.toNat).map fun(k:Nat)=>.int (0 + k)),M1) else none
 |some (.x c n,M1)=>some (.x c n,M1)
 |_=>none
theorem wD (hg:Gl X "range")(hm:X.mg "range"=none)(ha:SA X Wx .val [a] fs)(hs:starEach [a] X.env=[(false,eval a X.env)]:=by rfl):SI X Wx tg (.Call (.Name "range" p) [a] [] pos) (jC fs):=by
 refine vA (J8 hg hm ha hs) ?_;rintro st H R ⟨P0,H0,P,Os,env,M,r,M',k,e,q⟩;unfold jC at e;split at e
 ·rename_i j M1 ef;split at e
  ·rename_i hj;cases e;refine⟨P0,H0,P,Os,env,M,_,_,k,ef,fun P1 vs H1 l1 h1 i1=>?_⟩;obtain⟨v,ws,rfl,p,rfl⟩:=i1;exact⟨j,by rw[show v=.int j from p],by omega,by omega,q P1 H1 _ l1 h1 Q0⟩
  ·cases e
 ·rename_i c n M1 ef;cases e;exact⟨P0,H0,P,Os,env,M,_,_,k,ef,q⟩
 ·cases e
def dD:Env->Mm->Option (Option Int×Mm):=fun _ M=>some (none,M)
noncomputable def cG (f:E):Env->Mm->Option (Option Int×Mm):=fun env M=>match f env M with
 |some (.v (.int i),M1)=>some (some i,M1)
 |_=>none
noncomputable def tP (K:Fgx) (mg:Mgx) (f:Env->Mm->Option (Option Int×Mm)):TO:=fun st H Q=>∃P0 H0 P Os env M i M',Ok K mg P0 H0 P Os H M st env/\f env M=some (i,M')/\∀P' H',LtE P H P' H'->Hk K mg P' H' M'->Q i H'
def lM (X:Cx)(e:Option Expr)(f:Env->Mm->Option (Option Int×Mm)):Prop:=PO X e (tP X.K X.mg f)
theorem Bx (h:PO X e t)(w:∀σ H Q,t' σ H Q->t σ H Q):PO X e t':=fun pins s σ H Q I hw=>h pins s σ H Q I (w σ H Q hw)
theorem eG:lM X none dD:=by
 refine Bx Ke ?_;rintro st H Q ⟨P0,H0,P,Os,env,M,i,M',k,e,q⟩;cases e;exact q P H (LtE.refl P H) k.hk
theorem dF (h:SE X Wx .val e f):lM X (some e) (cG f):=by
 refine Bx (Kf h) ?_;rintro st H Q ⟨P0,H0,P,Os,env,M,i,M',k,e,q⟩;unfold cG at e;split at e
 ·rename_i j M1 ef;cases e;exact⟨P0,H0,P,Os,env,M,_,_,k,ef,fun P1 v H1 l1 h1 i1=>⟨j,i1,q P1 H1 l1 h1⟩⟩
 ·cases e
noncomputable def aZ {α:Type} (xs:List α) (lo hi:Option Int):List α:=(xs.drop (HT.aP xs.length 0 lo)).take (HT.aP xs.length xs.length hi - HT.aP xs.length 0 lo)
theorem yX {K:Fgx}{P:Pl}{H:Hp}{ds:List D}{vs:List V}{lo hi:Option Int}(q:aq K P H ds vs):aq K P H (aZ ds lo hi) (dO vs lo hi):=by
 unfold aZ dO;rw[q.len];exact(q.drop _).take _
noncomputable def mX (d:D) (lo hi:Option Int):Option D:=match d with
 |.lst ds=>some (.lst (aZ ds lo hi))
 |.str z=>if z.length<=sizeLine then some (.str (Txt.slice z lo hi)) else none
 |_=>none
noncomputable def fJ (f:E) (l h:Env->Mm->Option (Option Int×Mm)):E:=fun env M=>bnd (f env M) fun d M1=>match l env M1 with
  | some (lo, M2) => (match h env M2 with
    |some (hi,M3)=>(mX (vw M3 d) lo hi).map fun z=>(.v z,M3)
    |none=>none)
  |none=>none
theorem gP {e:Expr}{lo hi:Option Expr}{p2 pos:Pos}{f:E}{l h:Env->Mm->Option (Option Int×Mm)}(he:SE X Wx .bor e f)(hl:lM X lo l)(hh:lM X hi h):SE X Wx m (.Subscript e (.Slice lo hi none p2) pos) (fJ f l h):=by
 refine cL (Bu (OJ.or O1) he hl hh) ?_;rintro st H Q ⟨P0,H0,P,Os,env,M,r,M',k,e,q⟩;unfold fJ at e;rcases dj e with⟨d,M1,e1,e⟩ |⟨c,n,e1,rfl⟩
 ·split at e
  ·rename_i lo' M2 el;split at e
   ·rename_i hi' M3 eh;rw[Ru]at e;obtain⟨z,ez,e⟩:=e;cases e;refine bM k e1 fun P1 v1 H1 l1 h1 i1=>⟨P0,H0,P1,Os,env,M1,_,_,k.next l1 h1,el,fun P2 H2 l2 h2=>⟨P0,H0,P2,Os,env,M2,_,_,(k.next l1 h1).next l2 h2,eh,fun P3 H3 l3 h3=>?_⟩⟩
    have i3:=b_.vw h3 (b_.lt l3 h2 (b_.lt l2 h1 i1));have fin:∀u H',Same H3 H'->Is X.K P3 H' z u->Q u H':=fun u H' s i=>q P3 u H' (l1.trans (l2.trans (l3.trans (LtE.same s)))) (h3.same s) (dh.of (h3.same s) i);generalize vw M' d=d' at i3 ez;unfold mX at ez;split at ez
    ·cases ez;obtain⟨a,vs,rfl,r,s⟩:=i3;exact .inl ⟨a,vs,rfl,r,Bg h3.new (yX s) fin⟩
    ·split at ez
     ·rename_i hz;cases ez;cases i3;exact .inr ⟨_,rfl,hz,fin _ _ (Same.refl _) rfl⟩
     ·cases ez
    ·cases ez
   ·cases e
  ·cases e
 ·exact bM k e1 q
noncomputable def pI (f:E):E:=fun env M=>bnd (f env M) fun d M1=>match d with
 |.lst ds=>some (.v (.ref M1.length),M1 ++ [.lst ds])
 |_=>none
theorem CK (h:SN X Wx e f):SE X Wx m e (pI f):=by
  refine cL h ?_;rintro st H Q ⟨P0,H0,P,Os,env,M,r,M',k,e,q⟩;unfold pI at e;rcases dj e with⟨d,M1,e1,e⟩ |⟨c,n,e1,rfl⟩
  · cases d<;>simp only[reduceCtorEq]at e
    rename_i ds;cases e;refine⟨P0,H0,P,Os,env,M,_,_,k,e1,ds,rfl,fun P1 a vs H1 l1 h1 ha ba nc ea is=>?_⟩;have hn:P1.n=M1.length:=h1.n
    let P2:Pl:={io:=fun j=>if j=P1.n then a else P1.io j,n:=P1.n + 1,bd:=P1.bd}
    have io : ∀ j, j < P1.n -> P2.io j = P1.io j := fun j hj => Rn (by omega);have ioN : P2.io P1.n = a := tG rfl;have l2 : Lt P1 H1 P2 H1 := ⟨WD _, io, fun _ z => .inl z, fun _ _ e _ => e, fun _ z => z⟩;have le : LtE P H P2 H1 := ⟨Uz l1.n,fun j hj=>(io j (Ry hj l1.n)).trans (l1.io j hj),l1.bd,l1.bm,l1.keep,l1.sure,fun j h2 h3=>by
      rcases T5 j P1.n with z |z
      · rw[io j z];exact l1.nw j h2 z
      · have:j=P1.n:=Va (UG h3) z;rw[this,ioN];exact ha⟩
    have hk2:Hk X.K X.mg P2 H1 (M1 ++ [.lst ds]):=by
      refine⟨by rw[RG, <-hn];rfl,fun j c ej=>?_,fun i j hi hj e=>?_,fun j hj=>?_,h1.here⟩
      · rcases T5 j P1.n with z |z
        · rw[R0 (by rw[<-hn];exact z)]at ej;rw[io j z];exact(h1.cell j c ej).lt l2 fun _ z=>z
        · have jl:=(RL.mp ej).1;rw[RG,R_, <-hn]at jl;have:j=P1.n:=by omega
          subst this;rw[RZ (by rw[hn];exact Ro _),hn,W8]at ej;cases ej;rw[ioN];exact⟨vs,ea,aq.lt l2 is⟩
      · rcases T5 i P1.n with z |z
        · rcases T5 j P1.n with y |y
          · rw[io i z,io j y]at e;exact h1.inj i j z y e
          · have:j=P1.n:=Va (UG hj) y;rw[io i z,this,ioN]at e;exact absurd e (nc i z)
        · have iN:i=P1.n:=Va (UG hi) z;rcases T5 j P1.n with y |y
          · rw[iN,ioN,io j y]at e;exact absurd e.symm (nc j y)
          · rw[iN];exact Va y (UG hj)
      · rcases T5 j P1.n with z |z
        · rw[io j z];exact h1.bd j z
        · have:j=P1.n:=Va (UG hj) z;rw[this,ioN];exact ba
    exact q P2 _ H1 le hk2 (dh.of hk2 (show Is _ _ _ (.ref _) _ from⟨by show _<P1.n + 1;rw[hn];exact Nat.lt_succ_self _,by rw[<-hn,ioN]⟩))
  · exact⟨P0,H0,P,Os,env,M,_,_,k,e1,q⟩
noncomputable def mQ (f g:E):S:=fun env M=>cA (f env M) fun d M1=>match d with
  | .ref j => (match M1[j]? with
    | some (.lst _) => cA (g env M1) fun y M2 => (match M2[j]? with
      |some (.lst ds)=>if ds.length<sizeLine then some (.nx env,M2.set j (.lst (ds ++ [y]))) else none
      |_=>none)
    |_=>none)
  |_=>none
theorem wJ (ho:SE X Wx .val o f)(he:SE X Wx .val e g)(hbase:attributeBase o "append" X.env (eval o X.env)=eval o X.env:=by rfl)
  (hfew:((backTo q (starEach [e] X.env)).all (fun x=> !x.1) && (backToKw q (keywordEach [] X.env)).all (fun x=>x.1.isSome) && decide ([e].length + ([]:List Keyword).length + (if ([]:List Keyword).isEmpty then 0 else 1)<30))=true:=by rfl)
  (hline:(p.endLine==q.line)=true:=by rfl) (hs:starEach [e] X.env=(false,eval e X.env)::starEach [] X.env:=by rfl) (hw:swapsWith (.Call (.Attribute o "append" p) [e] [] q) none pos.line X.env=pure false:=by rfl):
  SS X Wx (.Expr (.Call (.Attribute o "append" p) [e] [] q) pos) (mQ f g):=by
 refine jh (vC (vp Vh Wj Wl uX ho (pA he pB hs) hbase hfew hline hs rfl) hw) ?_;rintro D st H ⟨P0,H0,P,Os,env,M,out,M',k,e,q⟩;unfold mQ at e;rcases iK e with⟨d,M1,e1,e⟩ |⟨c,n,e1,rfl⟩
 ·cases d<;>simp only[reduceCtorEq]at e
  rename_i j;split at e
  rotate_left
  ·cases e
  rename_i ds0 em0;refine⟨P0,H0,P,Os,env,M,_,_,k,e1,fun P1 v1 H1 l1 h1 i1=>?_⟩;have k1:=k.next l1 h1
  obtain⟨jl,rfl⟩:j<P1.n/\v1=.ref (P1.io j):=i1;obtain⟨vs0,ev0,_⟩:=h1.cell j _ em0;refine⟨.inl ⟨rfl,vs0,.inl (.inl ev0)⟩,?_⟩;rcases iK e with⟨y,M2,e2,e⟩ |⟨c,n,e2,rfl⟩
  ·split at e
   ·rename_i ds em;split at e
    ·rename_i hz;cases e;refine bM k1 e2 fun P2 v2 H2 l2 h2 i2=>?_;obtain⟨vs,ev,is⟩:=h2.cell j _ em;rw[l2.io j jl]at ev;have i3:=Is.lt (Lt.refl P2 H2) i2;refine⟨P1.io j,vs,v2,rfl,rfl,ev,by rw[is.len];exact hz,?_⟩;have eio:P2.io j=P1.io j:=l2.io j jl;have jl2:j<P2.n:=Ry jl l2.n;obtain⟨o0,eo0,nf0⟩:=h2.cellAt em;have lc:Lt P2 H2 P2 (upd H2 (P2.io j) (.lst (vs ++ [v2]))):=q_ (h2.bd j jl2) eo0 nf0;obtain⟨l3,l3e,h3⟩:=h2.set (c':=.lst (ds ++ [y])) (o':=.lst (vs ++ [v2])) em ⟨vs ++ [v2],dG,aq.append (aq.lt lc is) (aq.one (Is.lt lc i2))⟩;rw[eio]at l3 l3e h3;exact q _ _ _ _ ((l1.lt k.hk).trans ((l2.lt h1).trans l3)) ((k1.next l2 h2).next l3e h3)
    ·cases e
   ·cases e
  ·exact bM k1 e2 q
 ·exact⟨P0,H0,P,Os,env,M,_,_,k,e1,q⟩
end
section
variable {X:Cx}{Wx:XW}{m:Mode}{pos:Pos}
noncomputable def jG (f:E):E:=fun env M=>bnd (f env M) fun d M1=>match vw M1 d with
 |.lst ds=>some (.v (.lst ds),M1)
 |.tup ds=>some (.v (.lst ds),M1)
 |_=>none
theorem wH (hg:Gl X "list")(hm:X.mg "list"=none)(he:SE X Wx .bor e f)(hs:starEach [e] X.env=(false,eval e X.env)::starEach [] X.env:=by rfl):SN X Wx (.Call (.Name "list" p) [e] [] pos) (jG f):=by
 refine cL (JG Eu hg hm boot_list (pA he pB hs) (by x_go) (by x_go) hs rfl) ?_;rintro st H Q ⟨P0,H0,P,Os,env,M,r,M',k,e,q⟩;unfold jG at e;rcases dj e with⟨d,M1,e1,e⟩ |⟨c,n,e1,rfl⟩
 ·refine bM k e1 ?_;have key:∀ds,r=.v (.lst ds)->M'=M1->(∀P1 v1 H1,bF X.K P1 H1 (vw M1 d) v1->∃a vs,v1=.ref a/\(bK X.K H1 a vs\/dJ X.K H1 a vs)/\aq X.K P1 H1 ds vs)->∀P1 v1 H1,LtE P H P1 H1->Hk X.K X.mg P1 H1 M1->dh X.K P1 H1 .bor d v1->
    ∃p ys,[v1]=[V.ref p]/\(bK X.K H1 p ys\/dJ X.K H1 p ys)/\∀l,H1 l=none->Q (.ref l) (upd H1 l (.lst ys)):=by
   rintro ds rfl rfl hv P1 v1 H1 l1 h1 i1;obtain⟨ds',e',q⟩:=q;cases e';obtain⟨a,vs,rfl,sq,is⟩:=hv P1 v1 H1 (b_.vw h1 i1);refine⟨a,vs,rfl,sq,fun p hp=>?_⟩;obtain⟨l2,h2,nc⟩:=qx (vs:=vs) h1 hp;exact q (P1.bar p) p vs _ (l1.trans l2) h2 (l1.sure p hp) (.inr rfl) nc dG (aq.lt (l2.lt h1) is)
  split at e
  ·rename_i ds ev;cases e;exact key ds rfl rfl fun P1 v1 H1 i=>by
    rw[ev]at i;obtain⟨a,vs,e,s,is⟩:=i;exact⟨a,vs,e,.inl s,is⟩
  ·rename_i ds ev;cases e;exact key ds rfl rfl fun P1 v1 H1 i=>by
    rw[ev]at i;obtain⟨a,vs,e,s,is⟩:=i;exact⟨a,vs,e,.inr s,is⟩
  ·cases e
 ·exact bM k e1 q
theorem uP:∀env M r M',jG f env M=some (.v r,M')->∃ds,r=.lst ds:=fun env M r M' e=>by
 unfold jG at e;rcases dj e with⟨ds,M1,e1,e⟩ |⟨c,n,e1,e⟩
 ·split at e
  ·cases e;exact⟨_,rfl⟩
  ·cases e;exact⟨_,rfl⟩
  ·cases e
 ·cases e
end
noncomputable def pQ (K:Fgx) (g:G):Sp:=fun vs H Q E=>∀mg,iz K mg 1 g vs H Q E
theorem FZ {P:Program}{w:World}{K:Fgx}{mg:Mgx}{base:Heap}{k:Nat}{f:Addr}{fd:FuncData}{ps:List Str}{g:G}(F:FnOk P w K mg base d8 k f fd ps (iz K mg 1 g)):FnOk P w K mg base d8 k f fd ps (pQ K g):=
 ⟨fun vs H Q E h=>F.len vs H Q E (h mg),fun A outer s H args us vs Q E hr he hb hv hs=>F.run A outer s H args us vs Q E hr he hb hv (hs mg)⟩
theorem zW {K:Fgx}{P:Pl}{H:Hp}:∀ns:List Int,aq K P H (ns.map D.int) (ns.map V.int)
 | []=>rfl
 |n::ns=>⟨.int n,_,rfl,rfl,zW ns⟩
theorem G4 {K:Fgx}{g:G}{H:Hp}{a:Addr}{ns:List Int}(hg:∃M,g [.lst (ns.map D.int)] []=some (.v (.bl true),M))(hS:bK K H a (ns.map V.int)):pQ K g [.ref a] H (fun v _=>v=.bl true) fun _ _ _=>False:=by
 intro mg;obtain⟨M,e⟩:=hg;refine⟨rfl,⟨fun _=>0,0,fun _=>False⟩,[],[.lst (ns.map D.int)],.bl true,M,⟨rfl,fun k c e=>(by cases e),fun j k h=>absurd h (VB _),fun k h=>absurd h (VB _),fun a z=>z.elim⟩,⟨.ref a,[],rfl,⟨a,ns.map V.int,rfl,?_,zW ns⟩,rfl⟩,e,fun P' v H' _ _ i=>i⟩;rcases hS with h |h
 ·exact .inl ⟨fun z=>z,h⟩
 ·exact .inr h
theorem QV {l:PySem.W.OpenLaw}{k:Nat}{q:Program}{loose:List Str}{XP:(Mgx)->Heap->Prop}{YP:World->Heap->Prop}{d:DefRec}{K:Params->Fgx}{x:Str}{g:G}
  (hn:l.most=some 63) (hdf:d.params.defaults=[]) (hr:Room k callerA) (hY:∀(w:World) (h:Heap),YP w h->(K w.params).In h)
  (F:∀(w:World) (mg:Mgx) (fa:Addr) (h:Heap),(K w.params).In h->h.Ns mainGlobals mg->mg d.name=some (.ref fa)->
   ∃fd:FuncData,(∀(s:Shared) (u:Value),BindsTo s fd ⟨[u],[]⟩ [(x,u)])/\
    ∀base:Heap,(K w.params).In base->base.Ns mainGlobals mg->FnOk l.prog w (K w.params) mg base d8 k fa fd [x] (pQ (K w.params) g))
  (hg:∀ns:List Int,ns.length<=63->∃M,g [.lst (ns.map D.int)] []=some (.v (.bl true),M)):PySem.W.WalkO q loose XP YP l.row.toRowW d [] (fun f vs=>PySem.call f vs):=
 L2.QX (sp:=fun K=>pQ K g) hn (by decide) hdf hr hY F (fun K H a ns hl _ hS=>G4 (hg ns hl) hS) fun _ _ _ _ z=>z
section
variable {X:Cx}{Wx:XW}{m:Mode}{e:Expr}
theorem gO (h:PE X e (tC (.int i))):SE X Wx m e (ak (.int i)):=(sE (d:=.int i) h fun _ _=>rfl).bor
theorem wB (h:PE X e (tC (.str z))):SE X Wx m e (ak (.str z)):=(sE (d:=.str z) h fun _ _=>rfl).bor
theorem wA (h:PE X e (tC (.bl b))):SE X Wx m e (ak (.bl b)):=(sE (d:=.bl b) h fun _ _=>rfl).bor
theorem lA (h:PE X e (tC .non)):SE X Wx m e (ak .non):=(sE (d:=.non) h fun _ _=>rfl).bor
theorem wC (hN:X.N[i]? =some x)(hv:X.env.scope.names.lookup x=some .local)(hd:(x==("__debug__":Str))=false:=by x_go)(hcd:(x==("__classdict__":Str))=false:=by x_go):SE X Wx m (.Name x pos) (aj i):=(CQ hN (.inl hv) hd hcd).bor
theorem SN.sem (h:SN X Wx e f)(hf:∀env M r M',f env M=some (.v r,M')->∃ds,r=.lst ds):SE X Wx m e f:=(SN.se h hf).bor
end
structure ClsOk (K:Fgx)(mg:Mgx)(c:Str)(C:Addr):Prop where
 mg:mg c=some (.ref C)
 cl:Cls K C
section
variable {X:Cx}{Wx:XW}{m:Mode}{pos:Pos}
def jO (P:Program)(w:World)(K:Fgx)(mg:Mgx)(base:Heap)(k:Nat)(C:Addr)(m:Str)(n:Nat)(g:G):Prop:=
 ∃f fd ps,Meth K C m f/\FnOk P w K mg base d8 k f fd ps (iz K mg n g)/\Binds K fd ps []
theorem jO.mono {P:Program}{w:World}{K:Fgx}{mg:Mgx}{base:Heap}{j k:Nat}{C:Addr}{m:Str}{n:Nat}{g:G}(a:jO P w K mg base j C m n g)(h:j<=k):jO P w K mg base k C m n g:=by
 obtain⟨f,fd,ps,h1,h2,h3⟩:=a;exact⟨f,fd,ps,h1,h2.mono h,h3⟩
end
section
variable {X:Cx}{Wx:XW}{m:Mode}{pos:Pos}
def jN (P:Program)(w:World)(K:Fgx)(mg:Mgx)(base:Heap)(k:Nat)(C:Addr)(n:Nat)(g:G):Prop:=
 ∃f fd ps,Mk K C f/\FnOk P w K mg base d8 k f fd ps (iz K mg n g)/\Binds K fd ps []
end
end E3
namespace E3
open PySem PySem.Spec PyProof.Rows L2 PySem.W
def eO (a:Addr)(h h':Heap):Prop:=∀b o,b≠a->h.get? b=some o->h'.get? b=some o
def Grows (h h':Heap):Prop:=∀b o,h.get? b=some o->h'.get? b=some o
noncomputable def eY (h:Heap) (a:Addr) (vs:List Value):Heap:=((h.update a (Obj.mapSeq fun _=> #[])).push (seqObj "tuple" vs.toArray 0)).push (seqObj "list" #[] 0)
noncomputable def cR (h:Heap) (vs:List Value):Heap:=((h.push (seqObj "list" #[] 0)).update h.objs.size (Obj.mapSeq (· ++ vs.toArray))).push (seqObj "list" vs.toArray 0)
theorem eO.upd (h:Heap)(a:Addr)(f:Obj->Obj):eO a h (h.update a f):=fun b o nb e=>by rw[(Heap.SameBut.update h a f).2 b nb];exact e
theorem eO.push (s:eO a h h')(o:Obj):eO a h (h'.push o):=fun b u nb e=>Rt _ (s b u nb e)
theorem Ai (h:Heap)(a:Addr)(vs:List Value):eO a h (eY h a vs):=((eO.upd h a _).push _).push _
theorem qG (h:Heap)(vs:List Value):((h.push (seqObj "list" #[] 0)).update h.objs.size (Obj.mapSeq (· ++ vs.toArray))).objs.size=h.objs.size + 1:=(Heap.size_update ..).trans (size_push' h _)
theorem yU (h:Heap)(vs:List Value):Grows h (cR h vs):=fun b o e=>by
 have lt:=Rv e;unfold cR;rw[Heap.get?_push_ne _ _ _ (by rw[qG];exact RX (Vj lt)),Heap.get?_update_ne _ _ _ _ (RX lt),Heap.get?_push_ne _ _ _ (RX lt)];exact e
theorem qF (h:Heap)(vs:List Value):(cR h vs).get? (h.objs.size + 1)=some (seqObj "list" vs.toArray 0):=by
 rw[<-qG h vs];exact Sq _ rfl
noncomputable def bB:List D->List D->Option Bool
 | [],[]=>some false
 |.int i::ps,.int j::qs=>if i=j then bB ps qs else some (decide (i<j))
 |.str a::ps,.str b::qs=>if a=b then bB ps qs else some (decide (a.cps.toList<b.cps.toList))
 |_,_=>none
section
variable {prog:Program}{w:World}{A:Around}{s:Shared}{K:Fgx}{P:Pl}{H:Hp}
theorem z_ (hq:Q b s):∀(xs ys:List D) (vs ws:List V) (us zs:List Value) (n:Nat),aq K P H xs vs->aq K P H ys ws->Vals vs us->Vals ws zs->bB xs ys=some b->(us.length=zs.length->fin=false)->KatLex prog w A true fin Q (us.zip zs) n s
  | [],ys,vs,ws,us,zs,n,i1,i2,r1,r2,e,hf=>by
    cases ys with
    |cons y ys=>cases e
    |nil=>
      rw[show vs=[] from i1]at r1;rw[show ws=[] from i2]at r2;cases r1;cases r2;cases e;rw[hf rfl];exact hq
  |x::xs,[],vs,ws,us,zs,n,i1,i2,r1,r2,e,hf=>by cases x<;>cases e
  |x::xs,y::ys,vs,ws,us,zs,n,i1,i2,r1,r2,e,hf=>by
    obtain⟨v,vr,rfl,p,i1⟩:=i1;obtain⟨u,wr,rfl,p',i2⟩:=i2
    cases r1 with
    |cons a1 r1=>
      cases r2 with
      |cons a2 r2=>
        have rest:bB xs ys=some b->∀n,KatLex prog w A true fin Q (List.zip _ _) n s:=fun e n=>z_ hq xs ys _ _ _ _ n i1 i2 r1 r2 e fun z=>hf (by simp[z]);rw[V4];cases x<;>cases y<;>simp only[bB,reduceCtorEq]at e
        · rename_i i j;cases p;cases p';obtain⟨t1,rfl⟩:=a1;obtain⟨t2,rfl⟩:=a2;refine kat_cons (V2 _ _ _ _ prog w _ _ ?_);split at e
          · rename_i hij;subst hij;rw[show(i==i)=true from TF i];exact kat_yes (rest e _)
          · rename_i hij;cases e;rw[show(i==j)=false from Tt.mpr hij];refine kat_no ?_
            cases n with
            |zero=>exact oneLt_int hq
            |succ n=>exact kat_one _ _ (lt_int (show PySem.W.BoolBack Q (.bool _) s from hq))
        · rename_i a c;cases p;cases p';obtain⟨t1,rfl⟩:=a1;obtain⟨t2,rfl⟩:=a2;refine kat_cons (V3 _ _ _ _ prog w _ _ ?_);split at e
          · rename_i hij;subst hij;rw[show(a==a)=true from TF a];exact kat_yes (rest e _)
          · rename_i hij;cases e;rw[show(a==c)=false from Tt.mpr hij];refine kat_no ?_
            cases n with
            |zero=>exact oneLt_str hq
            |succ n=>exact kat_one _ _ (lt_str (show PySem.W.BoolBack Q (.bool _) s from hq))
end
noncomputable def tupI:D->Bool
 |.tup (.int _::_)=>true
 |_=>false
section
variable {X:Cx}{pins:Pnx}{σ:L2.St}{H:Hp}{s:Shared}
theorem sU (I:Inv X pins σ H s)(g:Grows s.heap h')(i:Is X.K P H (.tup xs) v)(r:RelV v u):∃a o its n ws,u=.ref a/\h'.get? a=some o/\o.cls=.type "tuple"/\o.data=.seq its n/\aq X.K P H xs ws/\Vals ws its.toList:=by
 obtain⟨a,ws,rfl,t,is⟩:=i;cases r;obtain⟨its,rv,⟨o,e1,e2,n,e3⟩,_⟩:=I.tuple t;exact⟨a,o,its.toArray,n,ws,rfl,g _ _ e1,e2,e3,is,by simpa using rv⟩
theorem Dk (I:Inv X pins σ H s)(g:Grows s.heap h'):∀(ds:List D) (vs:List V) (us:List Value),ds.all tupI=true->aq X.K P H ds vs->Vals vs us->∃fs,KatTups h' us fs/\fs.length=us.length/\∀f∈fs,∃i t,f=Value.int i t
  | [],vs,us,_,i,r=>by
    rw[show vs=[] from i]at r;cases r;exact⟨[],KatTups.nil,rfl,fun f h=>nomatch h⟩
  |d::ds,vs,us,hd,i,r=>by
    obtain⟨v,vr,rfl,p,i⟩:=i;rw[Uo,RN]at hd
    cases r with
    |cons a1 r=>
      obtain⟨fs,k,kl,kf⟩:=Dk I g ds _ _ hd.2 i r
      cases d with
      |tup xs=>
        cases xs with
        |nil=>cases (show false=true from hd.1)
        |cons x xs=>
          cases x with
          |int z=>
            obtain⟨a,o,its,n,ws,rfl,e1,e2,e3,is,rv⟩:=sU I g p a1;obtain⟨w,wr,rfl,pw,is⟩:=is;cases pw;obtain⟨its⟩:=its
            cases rv with
            |cons b1 rv=>
              obtain⟨t,rfl⟩:=b1;refine⟨.int z t::fs,KatTups.cons e1 e2 e3 rfl k,by simp[kl],fun f hf=>?_⟩;rcases Ss.mp hf with rfl |hf
              · exact⟨z,t,rfl⟩
              · exact kf f hf
          |_=>cases (show false=true from hd.1)
      |_=>cases (show false=true from hd.1)
theorem QC (r:Vals vs us)(i:Nat):RelV (vs.getD i .non) (us.getD i Value.none):=by
  induction r generalizing i with
  |nil=>exact rfl
  |cons a r ih=>cases i with
    |zero=>simpa using a
    |succ i=>simpa using ih i
end
section
variable {prog:Program}{w:World}{A:Around}{E:Value->Shared->Prop}{s:Shared}
theorem O9 {a:Addr}{n:Nat}{vs:List Value}{P:PySem.Fin->Shared->Prop}(ho:s.heap.get? a=some (seqObj "list" vs.toArray n))(h2:vs.length<2)
  (q:∀(h':Heap) c,eO a s.heap h'->h'.get? a=some (seqObj "list" vs.toArray c)->P (.done (.ret .none)) {s with heap:=h'}):
  wpAny (model prog w) A (Builtin.«list.sort» ⟨[.ref a],[]⟩) P E s:=by
 have hz:vs.length<=sizeLine:=by rw[Uy];omega
 have st:=Ai s.heap a vs;obtain⟨e1,z1⟩:∃e1,(s.heap.update a (Obj.mapSeq fun _=>(#[]:Array Value))).get? a=some (seqObj "list" #[] e1):=⟨_,VD ho fun _=> #[]⟩;have z2:(eY s.heap a vs).get? a=some (seqObj "list" #[] e1):=Rt _ (Rt _ z1);rw[list_sort_plain];refine Rp (listItems_at ho rfl (Rp (V8 ho rfl (Rp (seqEpoch_at z1 rfl (Rp (wpAny_newTuple (Rp (V9 (Vo ?_) (Tc _))) hz)))) (by simpa using hz) (Tc _))));show wpAny (model prog w) A _ P E {s with heap:=eY s.heap a vs};dsimp only;have two:vs.toArray.size<2:=by simpa using h2
 rw[tG two,tG two];generalize eY s.heap a vs=h1 at st z2 ⊢;refine Rp (Rw (Rp (m:=(pure ():StateT SortSt Sem Unit).run _) (Rw ?_)));dsimp only;have out:(arrOf (SortSt.mk' general' (vs.toArray.zip vs.toArray) #[] 7 none)).map (·.2)=vs.toArray:=by
  show(vs.toArray.zip vs.toArray).map (·.2)=vs.toArray;apply Wn.mp;simp only[Array.toList_map,Array.toList_zip];exact List.map_snd_zip (Ro _)
 rw[out];obtain⟨c2,z3⟩:∃c2,(h1.update a (Obj.mapSeq fun _=>vs.toArray)).get? a=some (seqObj "list" vs.toArray c2):=⟨_,VD z2 fun _=>vs.toArray⟩;refine Rp (seqEpoch_at z2 rfl (Rp (V8 z2 rfl ?_ (Tc _) (by rw[Rq];exact Uz hz))));simp only[Xb,Ug,U3];exact Rw (q _ c2 (fun b o nb e=>eO.upd h1 a _ b o nb (st b o nb e)) z3)
theorem Pa {l:Addr}{vs:List Value}{Q:Value->Shared->Prop}(hl:s.heap.IsList l vs.toArray)(h2:vs.length<2)
  (q:∀(h':Heap) c a,Grows s.heap h'->s.heap.objs.size<=a->h'.get? a=some (seqObj "list" vs.toArray c)->Q (.ref a) {s with heap:=h'}):
  wpAny (model prog w) A (call (.builtin "sorted") [.ref l]) Q E s:=by
 have hz:vs.length<=sizeLine:=by rw[Uy];omega
 have up:∀h',eO (s.heap.objs.size + 1) (cR s.heap vs) h'->Grows s.heap h':=fun h' st b o e=>st b o (RX (Vj (Rv e))) (yU s.heap vs b o e);refine Wb kind_sorted plain_sorted entry_sorted (args_sorted1 _) ?_;unfold Builtin.«sorted»;refine Rp (m:=checkCount "sorted" 1 1 _) (Rw (Rp (collect_list hl (Rp (V9 ?_ hz)) (by simpa using hz))));rw[qG];show wpAny _ _ _ _ _ {s with heap:=cR s.heap vs};refine Rp (Vo (Wf slot_list_sort ⟨_,qF s.heap vs,rfl⟩ entry_list_sort (O9 (s:={s with heap:=cR s.heap vs}) (qF s.heap vs) h2 fun h' c st e=>?_) (args_list_sort _)));exact⟨_,rfl,Rw ⟨_,rfl,q h' c _ (up h' st) (WD _) e⟩⟩
end
section
variable {X:Cx}{Wx:XW}
def vM (K:Fgx):List V->Hp->VK->Prop:=fun xs H Q=>∃(a:Addr) (vs:List V),xs=[.ref a]/\bK K H a vs/\vs.length<2/\∀l,H l=none->Q (.ref l) (upd H l (.lst vs))
theorem Ep:eN X (.builtin "sorted") (vM X.K):=by
 intro pins s σ H xs us Q I r h;obtain⟨a,vs,rfl,hl,h2,q⟩:=h;obtain⟨u,rfl,rx⟩:=vals1 r;cases rx;obtain⟨its,rv,pl,hz⟩:=I.list hl;refine Pa pl.isList (by rw[<-rv.length];exact h2) fun h' c D g hD eD=>?_;exact⟨.ref D,_,I.laid (t':=s.toks) (o:=.lst vs) g hD ⟨hz,its,c,rv,eD⟩,rfl,q D (I.hok.fresh hD)⟩
theorem boot_sorted:bootBuiltins "sorted"=some (.builtin "sorted"):=by kernel_rfl
end
def Low (n:Nat)(p:Array Nat):Prop:=p.size=n/\∀x∈p.toList,x<n
section
variable {n:Nat}{lt:Nat->Nat->Option Bool}(hn:0<n)(tot:∀i j,i<n->j<n->∃b,lt i j=some b)
include hn tot
end
end E3
namespace E3
open PySem L2
section
variable {env:Env}{M M1:Mm}{f g h c:E}{d e:D}{i j:Int}{n k:Nat}{z:Str}{b:Bool}{ds es:List D}{s t:S}{x:Str}
def fW (g:S):OS->OS
 |some (.nx e,M1)=>g e M1
 |o=>o
theorem Ls:ao s t env M=fW t (s env M):=rfl
theorem vZ {e:Env}:fW t (some (.nx e,M))=t e M:=rfl
theorem v8:fW t (some (.rt d,M))=some (.rt d,M):=rfl
theorem vU {e:Env}:fW t (some (.bk e,M))=some (.bk e,M):=rfl
theorem vV {e:Env}:fW t (some (.ct e,M))=some (.ct e,M):=rfl
theorem vW {a:Int}:fW t (some (.ex x a,M))=some (.ex x a,M):=rfl
theorem K_:aC env M=some (.nx env,M):=rfl
noncomputable def p8 (M:Mm):Option Slot->O
 |some (.val d)=>some (.v d,M)
 |_=>none
theorem vL:aj k env M=p8 M env[k]? :=rfl
theorem Oe:p8 M (some (.val d))=some (.v d,M):=rfl
theorem K8:ak d env M=some (.v d,M):=rfl
def mapR (M:Mm)(o:Option D):O:=o.map fun z=>(.v z,M)
theorem Ny:mapR M (some d)=some (.v d,M):=rfl
def kJ (o:D->Option D)(r:O):O:=bnd r fun d M=>mapR M (o (vw M d))
theorem KN {o:D->Option D}:s1 o f env M=kJ o (f env M):=rfl
theorem Ml {o:D->Option D}:kJ o (some (.v d,M))=mapR M (o (vw M d)):=rfl
noncomputable def lH (o:D->D->Option D) (d:D) (r:O):O:=bnd r fun e M=>mapR M (o (vw M d) (vw M e))
noncomputable def pZ (o:D->D->Option D) (k:Mm->O) (r:O):O:=bnd r fun d M=>lH o d (k M)
theorem KQ {o:D->D->Option D}:s2 o f g env M=pZ o (g env) (f env M):=rfl
theorem Mp {o:D->D->Option D}{q:Mm->O}:pZ o q (some (.v d,M))=lH o d (q M):=rfl
theorem vR {o:D->D->Option D}:lH o d (some (.v e,M))=mapR M (o (vw M d) (vw M e)):=rfl
theorem QJ:vw M (.int i)=.int i:=rfl
theorem QS:vw M (.str z)=.str z:=rfl
theorem yc:vw M (.bl b)=.bl b:=rfl
theorem QL:vw M .non=.non:=rfl
theorem QT:vw M (.tup ds)=.tup ds:=rfl
theorem QK:vw M (.lst ds)=.lst ds:=rfl
theorem LK:fV f env M=kJ (fun d=>(fY d).map .bl) (f env M):=rfl
noncomputable def oX (r:O):O:=bnd r fun d M=>match d with
 |.bl b=>some (.v (.bl (!b)),M)
 |_=>none
theorem Lk:gG f env M=oX (f env M):=rfl
theorem NP:oX (some (.v (.bl b),M))=some (.v (.bl (!b)),M):=rfl
noncomputable def iY (k1 k2:Mm->O) (r:O):O:=bnd r fun d M=>match d with
 |.bl b=>if b=true then k1 M else k2 M
 |_=>none
theorem KR:cW f g env M=iY (g env) (fun M=>some (.v (.bl false),M)) (f env M):=rfl
theorem vJ:jH f g env M=iY (fun M=>some (.v (.bl true),M)) (g env) (f env M):=rfl
theorem Le:gF c f g env M=iY (f env) (g env) (c env M):=rfl
theorem Nt {k1 k2:Mm->O}:iY k1 k2 (some (.v (.bl b),M))=if b=true then k1 M else k2 M:=rfl
noncomputable def iQ (d:D):Option (ResA×Mm)->Option (ResA×Mm)
 |some (.v ds,M2)=>some (.v (d::ds),M2)
 |some (.x c n,M2)=>some (.x c n,M2)
 |none=>none
noncomputable def ug (k:Mm->Option (ResA×Mm)):O->Option (ResA×Mm)
 |some (.v d,M1)=>iQ d (k M1)
 |some (.x c n,M1)=>some (.x c n,M1)
 |none=>none
theorem Lj:au env M=some (.v [],M):=rfl
theorem K9 {fs:EA}:aD f fs env M=ug (fs env) (f env M):=rfl
theorem Nh {q:Mm->Option (ResA×Mm)}:ug q (some (.v d,M))=iQ d (q M):=rfl
theorem Nf:iQ d (some (.v ds,M))=some (.v (d::ds),M):=rfl
noncomputable def iI (o:List D->Option D) (r:Option (ResA×Mm)):O:=dM r fun ds M=>mapR M (o (ds.map (vw M)))
theorem Li {o:List D->Option D}{fs:EA}:sN o fs env M=iI o (fs env M):=rfl
theorem NK {o:List D->Option D}:iI o (some (.v ds,M))=mapR M (o (ds.map (vw M))):=rfl
noncomputable def gA (k:List D->Mm->O):Option (ResA×Mm)->O
 |some (.v ds,M)=>k ds M
 |some (.x c n,M)=>some (.x c n,M)
 |none=>none
theorem MJ {q:List D->Mm->O}:gA q (some (.v ds,M))=q ds M:=rfl
theorem LQ {fs:EA}:bH fs env M=gA (fun ds M1=>if ds.length<=sizeLine then some (.v (.tup ds),M1) else none) (fs env M):=rfl
theorem Lg {fs:EA}:bC fs env M=gA (fun ds M1=>if ds.length<=sizeLine then some (.v (.lst ds),M1) else none) (fs env M):=rfl
def yK:O->O
 |some (.v d,M)=>some (.v d,M)
 |_=>none
theorem M8:yK (some (.v d,M))=some (.v d,M):=rfl
theorem K3 {u:G}{fs:EA}:cF u fs env M=gA (fun ds M1=>yK (u ds M1)) (fs env M):=rfl
noncomputable def cQ (k:D->Mm->O):O->O
 |some (.v d,M)=>k d M
 |some (.x c n,M)=>some (.x c n,M)
 |none=>none
theorem MN {q:D->Mm->O}:cQ q (some (.v d,M))=q d M:=rfl
noncomputable def yL (M:Mm):D->O
 |.lst ds=>some (.v (.ref M.length),M ++ [.lst ds])
 |_=>none
theorem M9:yL M (.lst ds)=some (.v (.ref M.length),M ++ [.lst ds]):=rfl
theorem K6:pI f env M=cQ (fun d M1=>yL M1 d) (f env M):=rfl
noncomputable def Aa (M:Mm):D->O
 |.lst ds=>some (.v (.lst ds),M)
 |.tup ds=>some (.v (.lst ds),M)
 |_=>none
theorem Nv:Aa M (.lst ds)=some (.v (.lst ds),M):=rfl
theorem Lf:jG f env M=cQ (fun d M1=>Aa M1 (vw M1 d)) (f env M):=rfl
noncomputable def wF (d:D) (lo:Option Int):Option (Option Int×Mm)->O
 |some (hi,M3)=>mapR M3 (mX (vw M3 d) lo hi)
 |none=>none
noncomputable def CV (d:D) (k:Mm->Option (Option Int×Mm)):Option (Option Int×Mm)->O
 |some (lo,M2)=>wF d lo (k M2)
 |none=>none
theorem vK {l u:Env->Mm->Option (Option Int×Mm)}:fJ f l u env M=cQ (fun d M1=>CV d (u env) (l env M1)) (f env M):=rfl
theorem N6 {lo:Option Int}{q:Mm->Option (Option Int×Mm)}:CV d q (some (lo,M))=wF d lo (q M):=rfl
theorem N5 {lo hi:Option Int}:wF d lo (some (hi,M))=mapR M (mX (vw M d) lo hi):=rfl
theorem Lp:dD env M=some (none,M):=rfl
noncomputable def pC:O->Option (Option Int×Mm)
 |some (.v (.int i),M)=>some (some i,M)
 |_=>none
theorem Ln:cG f env M=pC (f env M):=rfl
theorem NT:pC (some (.v (.int i),M))=some (some i,M):=rfl
noncomputable def bW (k:D->Mm->OS):O->OS
 |some (.v d,M)=>k d M
 |some (.x c n,M)=>some (.ex c n,M)
 |none=>none
theorem M6 {q:D->Mm->OS}:bW q (some (.v d,M))=q d M:=rfl
theorem K1:aJ k f env M=bW (fun d M1=>if k<env.length then some (.nx (env.set k (.val d)),M1) else none) (f env M):=rfl
noncomputable def Aj (k:Nat) (env:Env) (M:Mm):D->OS
 |.lst ds=>if k<env.length then some (.nx (env.set k (.own ds)),M) else none
 |_=>none
theorem Nz:Aj k env M (.lst ds)=if k<env.length then some (.nx (env.set k (.own ds)),M) else none:=rfl
theorem Lh:k_ k f env M=bW (fun d M1=>Aj k env M1 d) (f env M):=rfl
theorem Lq:aV f env M=bW (fun d M1=>some (.rt d,M1)) (f env M):=rfl
noncomputable def zU (s t:Mm->OS) (M:Mm):D->OS
 |.bl b=>if b=true then s M else t M
 |_=>none
theorem vX {q r:Mm->OS}:zU q r M (.bl b)=if b=true then q M else r M:=rfl
theorem vH:cg c s t env M=bW (fun d M1=>zU (s env) (t env) M1 d) (c env M):=rfl
noncomputable def nZ (k:Nat) (env:Env) (M:Mm):Option Slot->OS
 |some (.own ds)=>some (.nx (env.set k (.val (.lst ds))),M)
 |_=>none
theorem Lb:fj k env M=nZ k env M env[k]? :=rfl
theorem Nq:nZ k env M (some (.own ds))=some (.nx (env.set k (.val (.lst ds))),M):=rfl
noncomputable def nG (k:Nat) (env:Env) (o:O):Option Slot->OS
 |some (.own ds)=>bW (fun d M1=>if ds.length<sizeLine then some (.nx (env.set k (.own (ds ++ [d]))),M1) else none) o
 |_=>none
theorem KY:dX k f env M=nG k env (f env M) env[k]? :=rfl
theorem Mz {o:O}:nG k env o (some (.own ds))=bW (fun d M1=>if ds.length<sizeLine then some (.nx (env.set k (.own (ds ++ [d]))),M1) else none) o:=rfl
noncomputable def forR (k:Nat) (t:S) (env:Env):Option (ResA×Mm)->OS
 |some (.v ds,M1)=>loopS k t ds env M1
 |some (.x c n,M1)=>some (.ex c n,M1)
 |none=>none
theorem La {fs:EA}:cX k fs t env M=forR k t env (fs env M):=rfl
theorem Np:forR k t env (some (.v ds,M))=loopS k t ds env M:=rfl
noncomputable def oJ:O->Option (ResA×Mm)
 |some (.v (.lst ds),M1)=>some (.v ds,M1)
 |some (.x c n,M1)=>some (.x c n,M1)
 |_=>none
theorem Ld:cU f env M=oJ (f env M):=rfl
theorem Nr:oJ (some (.v (.lst ds),M))=some (.v ds,M):=rfl
noncomputable def Ca:Option (ResA×Mm)->Option (ResA×Mm)
 |some (.v [.int j],M1)=>if -1000000000<=j/\j<=1000000000 then some (.v ((List.range j.toNat).map fun(k:Nat)=>.int (0 + k)),M1) else none
 |some (.x c n,M1)=>some (.x c n,M1)
 |_=>none
theorem Lr {fs:EA}:jC fs env M=Ca (fs env M):=rfl
theorem v7 (h: -1000000000<=i/\i<=1000000000):Ca (some (.v [.int i],M))=some (.v ((List.range i.toNat).map fun(k:Nat)=>.int (0 + k)),M):=tG h
theorem vG {m:Nat}{t:S}:cI m t ds M=bA (t (ds.map .val ++ List.replicate (m - ds.length) .un) M):=rfl
theorem Nk:bA (some (.rt d,M))=some (.v d,M):=rfl
theorem Nj {e:Env}:bA (some (.nx e,M))=some (.v .non,M):=rfl
theorem Hu:aR (.int i) (.int j)=some (.int (i + j)):=rfl
theorem Hv:aR (.lst ds) (.lst es)=if ds.length + es.length<=sizeLine then some (.lst (ds ++ es)) else none:=rfl
theorem Ir:i_ (.int i) (.int j)=some (.int (i - j)):=rfl
theorem Ii:dR (.int i) (.int j)=if i.natAbs<18446744073709551616\/j.natAbs<18446744073709551616\/(i.natAbs.log2<10000/\j.natAbs.log2<10000) then some (.int (i * j)) else none:=rfl
theorem HF:eE (.int i) (.int j)=if 0<j/\j.natAbs<1073741824 then some (.int (i / j)) else none:=rfl
theorem Ih:oMod (.int i) (.int j)=if 0<j then some (.int (i % j)) else none:=rfl
theorem Im:kI (.int i) (.int j)=if 0<=j/\j.natAbs<=1000000/\i.natAbs<18446744073709551616 then some (.int (i ^ j.toNat)) else none:=rfl
theorem vm:aA .lt (.int i) (.int j)=some (.bl (decide (i<j))):=rfl
theorem vh:aA .le (.int i) (.int j)=some (.bl (decide (i<=j))):=rfl
theorem vg:aA .gt (.int i) (.int j)=some (.bl (decide (j<i))):=rfl
theorem vf:aA .ge (.int i) (.int j)=some (.bl (decide (j<=i))):=rfl
theorem Hy:aA .eq (.int i) (.int j)=some (.bl (decide (i=j))):=by
 show(ju _ _).map D.bl=_
 simp[ju,bY,D.flat,D.dep,D.eq]
 rw[Tg];simp
theorem Ij:aA .ne (.int i) (.int j)=some (.bl (!decide (i=j))):=by
 show(gY _ _).map D.bl=_
 simp[gY,bY,D.flat,D.dep,D.eq]
 rw[Tg];simp
theorem vo (h:D.deps ds<=49):aA .ne (.lst ds) (.lst [])=some (.bl (!ds.isEmpty)):=by
 show(gY _ _).map D.bl=_;unfold gY;rw[tG ⟨by simp[bY,D.flat,D.dep,D.deps],by show D.deps ds + 1<=50;omega⟩];cases ds<;>rfl
theorem Bk (h:d.dep<=50):aA .eq d d=some (.bl true):=by
 show(ju d d).map D.bl=_;unfold ju;rw[tG ⟨by simp[bY,h],h⟩,D.eq_refl];rfl
theorem mG (h:d.dep<=50):aA .ne d d=some (.bl false):=by
 show(gY d d).map D.bl=_;unfold gY;rw[tG ⟨by simp[bY,h],h⟩,D.eq_refl];rfl
theorem HX:aX (.lst ds) (.int i)=bO ds i:=rfl
theorem H_:aX (.tup ds) (.int i)=bO ds i:=rfl
theorem Ia:bx [.lst ds]=some (.int ds.length):=rfl
theorem Ie:bx [.tup ds]=some (.int ds.length):=rfl
theorem Ig:eU [.int i,.int j]=some (.int (if j > i then j else i)):=rfl
theorem Iv:fY (.lst ds)=some (!ds.isEmpty):=rfl
theorem Iu:fY (.bl b)=some b:=rfl
theorem Ip {lo hi:Option Int}:mX (.str z) lo hi=if z.length<=sizeLine then some (.str (Txt.slice z lo hi)) else none:=rfl
theorem Io {lo hi:Option Int}:mX (.lst ds) lo hi=some (.lst (aZ ds lo hi)):=rfl
end
noncomputable def Step (J:Env->Mm->Prop) (Q:OS->Prop):OS->Prop
 |some (.nx e,M)=>J e M
 |some (.ct e,M)=>J e M
 |some (.bk e,M)=>Q (some (.nx e,M))
 |some (.rt d,M)=>Q (some (.rt d,M))
 |some (.ex c n,M)=>Q (some (.ex c n,M))
 |none=>False
theorem Ac {i:Nat}{body:S}{ds:List D}{env:Env}{M:Mm}(Q:OS->Prop)(J:Nat->Env->Mm->Prop)(h0:J 0 env M)
    (hs:∀(k:Nat) d env M,ds[k]? =some d->J k env M->i<env.length/\Step (J (k + 1)) Q (body (env.set i (.val d)) M)) (hd:∀env M,J ds.length env M->Q (some (.nx env,M))):Q (loopS i body ds env M):=by
  have key:∀(m k:Nat) (env:Env) (M:Mm),m + k=ds.length->J k env M->Q (loopS i body (ds.drop k) env M):=by
    intro m
    induction m with
    |zero=>
      intro k env M hk hJ;have e:k=ds.length:=by omega
      subst e;rw[Vr];exact hd env M hJ
    |succ m ih=>
      intro k env M hk hJ;have hlt:k<ds.length:=by omega
      obtain⟨hi,h1⟩:=hs k ds[k] env M (Rr hlt) hJ;rw[Ti hlt];simp only[loopS,hi,Ub]
      cases e:body (env.set i (.val ds[k])) M with
      |none=>rw[e]at h1;exact h1.elim
      |some o=>
        rw[e]at h1;obtain⟨o,M'⟩:=o
        cases o with
        |nx e'=>exact ih (k + 1) e' M' (by omega) h1
        |ct e'=>exact ih (k + 1) e' M' (by omega) h1
        |bk e'=>exact h1
        |rt d=>exact h1
        |ex c n=>exact h1
  have:=key ds.length 0 env M (by omega) h0
  rwa [VG]at this
end E3
namespace E3
open PySem PySem.Spec PyProof.Rows L2
noncomputable def XN (H:Hp) (n:Int):Option Addr->Prop
 |none=>n=0
 |some d=>∃fs,H d=some (.xd fs)/\fs.lookup ("at":Str)=some (.int (n - 1))/\n≠0
noncomputable def XQ (K:Fgx) (mg:Mgx) (P:Pl) (H:Hp) (M':Mm) (Q:VK) (E:XK):Res->Prop
 |.v d=>∀P' v H',LtE P H P' H'->Hk K mg P' H' M'->Is K P' H' d v->Q v H'
 |.x c n=>∀P' H' C dx,LtE P H P' H'->Hk K mg P' H' M'->mg c=some (.ref C)->XN H' n dx->E (.ref C) dx H'
noncomputable def sG (K:Fgx) (mg:Mgx) (n:Nat) (g:G):Sp:=fun vs H Q E=>vs.length=n/\∃P M ds r M',Hk K mg P H M/\aq K P H ds vs/\g ds M=some (r,M')/\XQ K mg P H M' Q E r
mutual
theorem Is.away {K:Fgx}{P:Pl}{H H':Hp}(s:∀b o,H b=some o->(∀g,o≠ .ext g)->H' b=some o):∀{d:D} {v:V},Is K P H d v->Is K P H' d v
  |.non,_,h=>h
  |.bl _,_,h=>h
  |.int _,_,h=>h
  |.str _,_,h=>h
  |.tup ds,_,h=>by
    obtain⟨a,vs,e,q,r⟩:=h;refine⟨a,vs,e,?_,aq.away s r⟩;rcases q with(q |⟨o,q⟩) |q
    · exact .inl (.inl (s _ _ q fun _ z=>nomatch z))
    · exact .inl (.inr ⟨o,s _ _ q fun _ z=>nomatch z⟩)
    · exact .inr q
  |.lst ds,_,h=>by
    obtain⟨a,vs,e,q,r⟩:=h;refine⟨a,vs,e,?_,aq.away s r⟩;rcases q with⟨n,q |⟨o,q⟩⟩ |q
    · exact .inl ⟨n,.inl (s _ _ q fun _ z=>nomatch z)⟩
    · exact .inl ⟨n,.inr ⟨o,s _ _ q fun _ z=>nomatch z⟩⟩
    · exact .inr q
  |.ref k,_,h=>h
theorem aq.away {K:Fgx}{P:Pl}{H H':Hp}(s:∀b o,H b=some o->(∀g,o≠ .ext g)->H' b=some o):∀{ds:List D} {vs:List V},aq K P H ds vs->aq K P H' ds vs
  | [],_,h=>h
  |_::_,_,h=>by
    obtain⟨v,r,e,p,q⟩:=h;exact⟨v,r,e,Is.away s p,aq.away s q⟩
end
theorem Hk.away {K:Fgx}{mg:Mgx}{P:Pl}{H H':Hp}{M:Mm}(h:Hk K mg P H M)(s:∀b o,H b=some o->(∀g,o≠ .ext g)->H' b=some o)(t:∀b,H' b=none->H b=none):Hk K mg P H' M:=by
  refine⟨h.n,fun k c e=>?_,h.inj,h.bd,fun a z q=>h.here a z (t a q)⟩;have:=h.cell k c e
  cases c with
  |lst ds=>
    obtain⟨vs,e1,q⟩:=this;exact⟨vs,s _ _ e1 (fun _ z=>nomatch z),aq.away s q⟩
  |obj c fs=>
    obtain⟨C,dx,gs,e1,e2,e3,q⟩:=this;exact⟨C,dx,gs,e1,s _ _ e2 (fun _ z=>nomatch z),e3,aq.away s q⟩
  |dct kvs=>
    obtain⟨vs,e1,e2,q⟩:=this;exact⟨vs,s _ _ e1 (fun _ z=>nomatch z),e2,aq.away s q⟩
  |dcf kvs=>
    obtain⟨vs,ob,es,ep,e1,eD,e2,q⟩:=this;exact⟨vs,ob,es,ep,s _ _ e1 (fun _ z=>nomatch z),eD,e2,aq.away s q⟩
  |fn i caps=>exact gU.up this (fun b o u e=>s b _ e fun _ z=>nomatch z) fun _ _ q=>aq.away s q
  |tbl nm i=>
    obtain⟨c,ps,e1,e2,e3⟩:=this;exact⟨c,ps,e1,s _ _ e2 (fun _ z=>nomatch z),e3.imp id fun⟨c',z,q⟩=>⟨c',z,q.up fun b o u e=>s b _ e fun _ z=>nomatch z⟩⟩
structure XFit (X:Cx)(Wx:XW):Prop where
 xr:∀pins σ H s a C dx c n P0 H0 P M,Inv X pins σ H s->H a=some (xo a C dx true)->¬ P.bd a->H0 a=none->LtE P0 H0 P H->Hk X.K X.mg P H M->X.mg c=some (.ref C)->XN H n dx->Wx P0 H0 M c n->X.xe (.ref a) s
section
variable {P:Program}{w:World}{K:Fgx}{mg:Mgx}{base:Heap}{k:Nat}{x qual:Str}{st:Stmt}{f:Addr}{fd:FuncData}{N ps:List Str}{b:S}
theorem Ga (F:FnOk P w K mg base (lK P w) k f fd ps sp):FnOk P w K mg base d8 k f fd ps (fun vs H Q _=>sp vs H Q E0):=
 ⟨fun vs H Q E h=>F.len vs H Q E0 h,fun A outer s H args us vs Q E hr he hb hv hs=>Wd (F.run A outer s H args us vs Q E0 hr he hb hv hs) fun r s' z=>by
  cases r with
  |error e=>obtain⟨_,_,_,_,_,_,_,_,_,_,_,_,_,_,z⟩:=z;exact z
  |ok fl=>cases fl<;>exact z⟩
theorem uH (F:FnOk P w K mg base (lK P w) k f fd ps (sG K mg n g)):FnOk P w K mg base d8 k f fd ps (iz K mg n g):=by
 have F0:=Ga F;refine⟨fun vs H Q E h=>F0.len vs H Q E ?_,fun A outer s H args us vs Q E hr he hb hv hs=>F0.run A outer s H args us vs Q E hr he hb hv ?_⟩
 ·obtain⟨hl,P,M,ds,d,M',hk,is,e,q⟩:=h;exact⟨hl,P,M,ds,.v d,M',hk,is,e,q⟩
 ·obtain⟨hl,P,M,ds,d,M',hk,is,e,q⟩:=hs;exact⟨hl,P,M,ds,.v d,M',hk,is,e,q⟩
def dI (P:Program)(w:World)(K:Fgx)(mg:Mgx)(base:Heap)(k:Nat)(C:Addr)(m:Str)(n:Nat)(g:G):Prop:=
 ∃f fd ps,Meth K C m f/\FnOk P w K mg base (lK P w) k f fd ps (sG K mg n g)/\Binds K fd ps []
def dH (P:Program)(w:World)(K:Fgx)(mg:Mgx)(base:Heap)(k:Nat)(C:Addr)(n:Nat)(g:G):Prop:=
 ∃f fd ps,Mk K C f/\FnOk P w K mg base (lK P w) k f fd ps (sG K mg n g)/\Binds K fd ps []
def jq (P:Program)(w:World)(K:Fgx)(mg:Mgx)(base:Heap)(k:Nat)(f:Str)(n:Nat)(g:G):Prop:=
 ∃fa fd ps,mg f=some (.ref fa)/\PySem.W.keepIn K (.ref fa)=true/\FnOk P w K mg base (lK P w) k fa fd ps (sG K mg n g)/\Binds K fd ps []
theorem dI.quiet (a:dI P w K mg base k C m n g):jO P w K mg base k C m n g:=by
 obtain⟨f,fd,ps,h1,h2,h3⟩:=a;exact⟨f,fd,ps,h1,uH h2,h3⟩
theorem dH.quiet (a:dH P w K mg base k C n g):jN P w K mg base k C n g:=by
 obtain⟨f,fd,ps,h1,h2,h3⟩:=a;exact⟨f,fd,ps,h1,uH h2,h3⟩
theorem jq.quiet (a:jq P w K mg base k x n g):bf P w K mg base k x n g:=by
 obtain⟨fa,fd,ps,h1,h2,h3,h4⟩:=a;exact⟨fa,fd,ps,[],[],_,h1,h2,uH h3,h4,.nil,fun vs H Q E h=>by rw[Sy];exact h⟩
theorem dI.mono (a:dI P w K mg base j C m n g)(h:j<=k):dI P w K mg base k C m n g:=by
 obtain⟨f,fd,ps,h1,h2,h3⟩:=a;exact⟨f,fd,ps,h1,h2.mono h,h3⟩
theorem dH.mono (a:dH P w K mg base j C n g)(h:j<=k):dH P w K mg base k C n g:=by
 obtain⟨f,fd,ps,h1,h2,h3⟩:=a;exact⟨f,fd,ps,h1,h2.mono h,h3⟩
theorem jq.mono (a:jq P w K mg base j x n g)(h:j<=k):jq P w K mg base k x n g:=by
 obtain⟨f,fd,ps,h1,h2,h3,h4⟩:=a;exact⟨f,fd,ps,h1,h2,h3.mono h,h4⟩
end
end E3
namespace L2
open PySem PySem.Spec PyProof.Rows
section
variable {X:Cx}{CX:c7}{k:Nat}{f C:Addr}{fd:FuncData}{ps:List Str}{sp:Sp}{x m:Str}{p pos apos:Pos}{e o:Expr}{es:List Expr}{ta:TE}{t:TA}{Ex:St->XK}
def DP (CX:c7)(X:Cx)(Ex:St->XK):Prop:=∀pins σ H s e s',Inv X pins σ H s->CX X.stack H s (Ex σ) e s'->X.xe e s'
end
end L2
namespace E3
open PySem PySem.Spec PyProof.Rows L2
section
variable {X:Cx}{Wx:XW}{pos:Pos}
def SX (X:Cx)(e:Expr)(f:E):Prop:=∀Ex:L2.St->XK,DP (lK X.prog X.w) X Ex->PE X e fun st H Q=>∃P0 H0 P Os env M r M',Ok X.K X.mg P0 H0 P Os H M st env/\f env M=some (r,M')/\XQ X.K X.mg P H M' Q (Ex st) r
noncomputable def Rf (K:Fgx) (mg:Mgx) (E:XK) (P0:Pl) (H0:Hp) (P:Pl) (H:Hp) (M':Mm) (D:Ends):Out->Prop
 |.ex c n=>∀P' H' C dx,LtE P H P' H'->Hk K mg P' H' M'->mg c=some (.ref C)->XN H' n dx->E (.ref C) dx H'
 |.nx env=>Post K mg W0 P0 H0 P H M' D (.nx env)
 |.bk env=>Post K mg W0 P0 H0 P H M' D (.bk env)
 |.ct env=>Post K mg W0 P0 H0 P H M' D (.ct env)
 |.rt d=>Post K mg W0 P0 H0 P H M' D (.rt d)
end
end E3
namespace L2
open PySem PySem.Spec PyProof.Rows
end L2
namespace E3
open PySem PySem.Spec PyProof.Rows L2
section
variable {X:Cx}{Wx:XW}{m:Mode}{pos:Pos}
noncomputable def pJ (f:E):S:=fun env M=>cA (f env M) fun d M1=>match d with
  | .ref j => (match M1[j]? with
    |some (.lst _)=>some (.nx env,M1.set j (.lst []))
    |_=>none)
  |_=>none
theorem Pj (ho:SE X Wx .val o f)(hbase:attributeBase o "clear" X.env (eval o X.env)=eval o X.env:=by rfl)
  (hline:(p.endLine==q.line)=true:=by rfl) (hw:swapsWith (.Call (.Attribute o "clear" p) [] [] q) none pos.line X.env=pure false:=by rfl):
  SS X Wx (.Expr (.Call (.Attribute o "clear" p) [] [] q) pos) (pJ f):=by
 refine jh (vC (JD Vh PySem.F.slot_list_clear PySem.F.type_list_clear Hg ho hbase hline) hw) ?_;rintro D st H ⟨P0,H0,P,Os,env,M,out,M',k,e,q⟩;unfold pJ at e;rcases iK e with⟨d,M1,e1,e⟩ |⟨c,n,e1,rfl⟩
 ·cases d<;>simp only[reduceCtorEq]at e
  rename_i j;split at e
  ·rename_i ds em;cases e;refine⟨P0,H0,P,Os,env,M,_,_,k,e1,fun P1 v1 H1 l1 h1 i1=>?_⟩;obtain⟨jl,rfl⟩:j<P1.n/\v1=.ref (P1.io j):=i1;obtain⟨vs,ev,_⟩:=h1.cell j _ em;refine⟨.inl ⟨rfl,vs,.inl (.inl ev)⟩,_,vs,rfl,rfl,ev,?_⟩;obtain⟨l3,l3e,h3⟩:=h1.set (c':=.lst []) (o':=.lst []) em ⟨[],dG,rfl⟩;exact q _ _ _ _ ((l1.lt k.hk).trans l3) ((k.next l1 h1).next l3e h3)
  ·cases e
 ·exact⟨P0,H0,P,Os,env,M,_,_,k,e1,q⟩
end
end E3
namespace E3
open PySem L2
section
variable {env:Env}{M M1 M2:Mm}{f g o v:E}{d e x:D}{i:Int}{k:Nat}{ds:List D}{s t:S}{c me fl:Str}{fs:List (Str×D)}{gg:G}{fa:EA}
theorem Nm {a:Int}:bA (some (.ex c a,M))=some (.x c a,M):=rfl
end
theorem jN.mono (a:jN P w K mg base j C n g)(h:j<=k):jN P w K mg base k C n g:=by
 obtain⟨f,fd,ps,h1,h2,h3⟩:=a;exact⟨f,fd,ps,h1,h2.mono h,h3⟩
end E3
namespace E3
open PySem PySem.Spec PyProof.Rows L2
theorem bV (hN:X.N[i]? =some x)(hv:nu X.env.scope x)(hd:(x==("__debug__":Str))=false:=by x_go)(hcd:(x==("__classdict__":Str))=false:=by x_go):SE X Wx m (.Name x pos) (aj i):=(CQ hN hv hd hcd).bor
noncomputable def cC (cs:List (Str×Nat)) (env:Env):Env:=cs.map fun p=>(env[p.2]?).getD .un
noncomputable def fM (cs:List (Str×Nat)) (Os:List (Option Addr)):List (Option Addr):=cs.map fun p=>(Os[p.2]?).join
section
variable {K:Fgx}{mg:Mgx}{P0 P:Pl}{H0 H:Hp}{M:Mm}{Os:List (Option Addr)}{st:L2.St}{env:Env}{d:D}{v:V}
theorem t_ {cs:List (Str×Nat)}{i:Nat}{a:Addr}(h:(fM cs Os)[i]? =some (some a)):∃p,cs[i]? =some p/\Os[p.2]? =some (some a):=by
 unfold fM at h;rw[Rx,Ru]at h;obtain⟨p,e,h⟩:=h;exact⟨p,e,lX h⟩
theorem Ok.cap {cs:List (Str×Nat)}(k:Ok K mg P0 H0 P Os H M st env)(nd:(cs.map (·.2)).Nodup)(h:Is K P H d v):Ok K mg P0 H0 P (none::fM cs Os) H M (some v::dw cs st) (.val d::cC cs env) where
  hk:=k.hk
  base:=k.base
  b0:=k.b0
  slot:=fun i s e=>by
    cases i with
    |zero=>cases e;exact⟨v,rfl,h⟩
    |succ i=>
      rw[T9]at e ⊢;rw[T9];unfold cC at e;rw[Rx,Ru]at e;obtain⟨p,ep,e⟩:=e;have eo:((fM cs Os)[i]?).join=(Os[p.2]?).join:=by unfold fM;rw[Rx,ep];rfl
      have es:((dw cs st)[i]?).join=(st[p.2]?).join:=by unfold dw;rw[Rx,ep];rfl
      rw[eo,es]
      cases e':env[p.2]? with
      |none=>rw[e']at e;cases e;exact True.intro
      |some s'=>rw[e']at e;cases e;exact k.slot _ _ e'
  own:=fun a h=>by
    rw[Ss]at h;rcases h with h |h
    · cases h
    · obtain⟨i,hi⟩:=WL.mp h;obtain⟨p,_,e⟩:=t_ hi;exact k.own a (R9 e)
  inj:=fun i j a e1 e2=>by
    cases i with
    |zero=>cases e1
    |succ i=>
      cases j with
      |zero=>cases e2
      |succ j=>
        rw[T9]at e1 e2;obtain⟨p,h1,h2⟩:=t_ e1;obtain⟨q,h3,h4⟩:=t_ e2;have e:=k.inj _ _ a h2 h4;congr 1;have hi:(cs.map (·.2))[i]? =some p.2:=by rw[Rx,h1];rfl
        have hj:(cs.map (·.2))[j]? =some p.2:=by rw[Rx,h3,e];rfl
        have il:=(RL.mp hi).1;exact(List.getElem?_inj il nd).mp (hi.trans hj.symm)
  olen:=by simp[fM,cC]
  slen:=by simp[dw,cC]
end
section
variable {X:Cx}{Wx:XW}{m:Mode}{pos:Pos}
noncomputable def dB (q e:E) (env:Env):List D->List D->Mm->Option (List D×Mm)
  | [],acc,M=>some (acc,M)
  |d::ds,acc,M=>match q (.val d::env) M with
    | some (.v (.bl true), M1) => (match e (.val d::env) M1 with
      |some (.v y,M2)=>if acc.length + 1<sizeLine then dB q e env ds (acc ++ [y]) M2 else none
      |_=>none)
    |some (.v (.bl false),M1)=>dB q e env ds acc M1
    |_=>none
noncomputable def gD (cs:List (Str×Nat)) (fs:EA) (q e:E):E:=fun env M=>match fs env M with
  | some (.v ds, M1) => (match dB q e (cC cs env) ds [] M1 with
    |some (ys,M2)=>some (.v (.lst ys),M2)
    |none=>none)
  |some (.x c n,M1)=>some (.x c n,M1)
  |none=>none
theorem nP:∀env M r M',gD cs fs q e env M=some (.v r,M')->∃ds,r=.lst ds:=fun env M r M' h=>by
 unfold gD at h;split at h
 ·split at h
  ·cases h;exact⟨_,rfl⟩
  ·cases h
 ·cases h
 ·cases h
theorem Gi {K:Fgx}{mg:Mgx}{P1 P:Pl}{H1 H:Hp}{M:Mm}{D:Addr}{vs vs':List V}(l:LtE P1 H1 P H)(h:Hk K mg P H M)(hD:H1 D=none)(bD:P.bd D)(nc:∀k,k<P.n->P.io k≠D)(e:H D=some (.lst vs)):
  Lt P H P (upd H D (.lst vs'))/\LtE P1 H1 P (upd H D (.lst vs'))/\Hk K mg P (upd H D (.lst vs')) M:=by
 have lc:Lt P H P (upd H D (.lst vs')):=q_ bD e Bh;refine⟨lc,⟨l.n,l.io,l.bd,l.bm,fun c o ec n=>?_,fun c z=>l.sure c (lc.sure c z),l.nw⟩,⟨h.n,fun j c ej=>(h.cell j c ej).lt lc fun o eo=>?_,h.inj,h.bd,fun c z q=>h.here c z (lc.sure c q)⟩⟩
 ·rw[bJ (fun z=>by subst z;rw[hD]at ec;cases ec)];exact l.keep c o ec n
 ·rw[bJ (nc j (by rw[h.n];exact(RL.mp ej).1))];exact eo
noncomputable def NR (K:Fgx) (mg:Mgx) (Wx:XW) (P0:Pl) (H0:Hp) (P:Pl) (H:Hp) (M':Mm) (R:Addr->Hp->Prop):Res->Prop
 |.v d=>∃ds,d=.lst ds/\∀P' a vs H',LtE P H P' H'->Hk K mg P' H' M'->H a=none->P'.bd a->(∀k,k<P'.n->P'.io k≠a)->H' a=some (.lst vs)->aq K P' H' ds vs->R a H'
 |.x c n=>Wx P0 H0 M' c n
theorem Fi {K:Fgx}{mg:Mgx}{cs:List (Str×Nat)}{fs:EA}{q e:E}{P0 P:Pl}{H0 H:Hp}{Os:List (Option Addr)}{M M':Mm}{st:L2.St}{env:Env}{r:Res}{R:Addr->Hp->Prop}(nd:(cs.map (·.2)).Nodup)
    (k:Ok K mg P0 H0 P Os H M st env) (h:gD cs fs q e env M=some (r,M')) (w:NR K mg Wx P0 H0 P H M' R r):wW (tI K mg Wx fs) (lE K mg W0 q) (tE K mg W0 .val e) cs st H R:=by
  unfold gD at h;split at h
  · rename_i ds M1 ef;split at h
    rotate_left
    · cases h
    rename_i ys M2 ec;cases h;obtain ⟨ds', e', w⟩ := w;cases e';refine ⟨P0, H0, P, Os, env, M, _, _, k, ef, fun P1 H1 J l1 h1 wk D hD => ?_⟩;obtain ⟨l2, h2, nc⟩ := qx (vs := []) h1 hD;refine ⟨fun i m vs H2=>m=ds.length - i/\i<=ds.length/\∃P2 M3 acc,LtE P1 H1 P2 H2/\Hk K mg P2 H2 M3/\P2.bd D/\(∀k,k<P2.n->P2.io k≠D)/\H2 D=some (.lst vs)/\aq K P2 H2 acc vs/\acc.length<sizeLine/\dB q e (cC cs env) (ds.drop i) acc M3=some (ys,M'),
      ⟨ds.length,by simp,Tc _,P1.bar D,M1,[],l2,h2,.inr rfl,nc,dG,rfl,by x_go,by rw[VG];exact ec⟩,?_⟩
    rintro i m vs H2 ⟨rfl,hi,P2,M3,acc,l3,h3,bD,nD,eD,is,hz,ec⟩;refine⟨eD,?_⟩;obtain⟨w1,w2,w3⟩:=wk P2 H2 (l3.lt h1)
    by_cases hlt:i<ds.length
    · refine .inr ⟨w1 i hlt,by rw[is.len];exact hz,fun vs' H'=>∃P2 M3 acc,LtE P1 H1 P2 H'/\Hk K mg P2 H' M3/\P2.bd D/\(∀k,k<P2.n->P2.io k≠D)/\H' D=some (.lst vs')/\aq K P2 H' acc vs'/\acc.length<sizeLine/\dB q e (cC cs env) (ds.drop (i + 1)) acc M3=some (ys,M'),
        fun vs' H' z=>⟨ds.length - (i + 1),by omega,rfl,hlt,z⟩,fun x H' y=>?_⟩
      obtain⟨e3,d,ed,iv⟩:=w3 i x H' y hlt;subst e3;have ed':ds.drop i=d::ds.drop (i + 1):=by
        rw[Ti hlt];rw[Rr hlt]at ed;rw[RM ed]
      rw[ed']at ec;have kk:=((k.next l1 h1).next l3 h3).cap (cs:=cs) nd iv
      simp only[dB]at ec;split at ec
      · rename_i M4 eq;refine fK kk eq ⟨true,rfl,fun P4 H4 l4 h4=>?_⟩;dsimp only;rw[tG rfl];split at ec
        · rename_i y' M5 ee;split at ec
          · rename_i hz';refine bM (kk.next l4 h4) ee fun P5 v5 H5 l5 h5 i5=>?_
            have l45:=l4.trans l5;have eD5:H5 D=some (.lst vs):=l45.keep D _ eD (.inr nD);have nD5:∀k,k<P5.n->P5.io k≠D:=l45.nc eD nD;obtain⟨g1,g2,g3⟩:=Gi (vs':=vs ++ [v5]) (l3.trans l45) h5 hD (l45.bm D bD) nD5 eD5;refine⟨eD5,P5,M5,acc ++ [y'],g2,g3,l45.bm D bD,nD5,dG,aq.append (aq.lt ((l45.lt h3).trans g1) is) (aq.one (Is.lt g1 i5)),by rw[RG];exact hz',ec⟩
          · cases ec
        · cases ec
      · rename_i M4 eq;refine fK kk eq ⟨false,rfl,fun P4 H4 l4 h4=>?_⟩;dsimp only;rw[Rn (by decide)];exact⟨P4,M4,acc,l3.trans l4,h4,l4.bm D bD,l4.nc eD nD,l4.keep D _ eD (.inr nD),aq.lt (l4.lt h3) is,hz,ec⟩
      · cases ec
    · have ei:i=ds.length:=by omega
      subst ei;rw[Vr]at ec;cases ec;exact .inl ⟨w2 _ (Ro _) (Ro _),w P2 D vs H2 (l1.trans l3) h3 (l1.sure D hD) bD nD eD is⟩
  · rename_i c n M1 ef;cases h;exact⟨P0,H0,P,Os,env,M,_,_,k,ef,w⟩
  · cases h
def SQ (X:Cx)(ifs:List Expr)(q:E):Prop:=gw X ifs (lE X.K X.mg W0 q)
theorem sH:SQ X [] (ak (.bl true)):=fun pins s σ H Q I h=>by
 obtain⟨P0,H0,P,Os,env,M,r,M',k,e,q⟩:=h;cases e;obtain⟨b,e2,q⟩:=q;cases e2;exact Ka pins s σ H Q I (q P H (LtE.refl P H) k.hk)
theorem Pg (h:ST X W0 c q):SQ X [c] q:=Kc h
section
variable {elt iter:Expr}{ifs:List Expr}{scope:Scope}{fs:EA}{q e:E}
theorem pP (x:Str)(cs:List (Str×Nat))(hc:X.calm=true)(nd:(cs.map (·.2)).Nodup)(hi:SI X Wx (.Name x px) iter fs)
  (hq:∀(cl:List (Str×Addr)) (C:Addr) (s₀:Shared) (H₀:Hp) (ex:List Addr) (pn:Pnx),SQ (dz X (x::cs.map (·.1)) scope cl C s₀ H₀ ex pn) ifs q)
  (he:∀(cl:List (Str×Addr)) (C:Addr) (s₀:Shared) (H₀:Hp) (ex:List Addr) (pn:Pnx),SE (dz X (x::cs.map (·.1)) scope cl C s₀ H₀ ex pn) W0 .val elt e)
  (ok:qD X.N X.env.scope x cs scope=true:=by kernel_rfl) (hs:∀x,foldedSetIterable iter X.env x=pure x:=by intro _;rfl):
  SN X Wx (.ListComp elt [⟨.Name x px,iter,ifs,0⟩] scope pos) (gD cs fs q e):=by
 refine cL (JK (tq:=lE X.K X.mg W0 q) (te:=tE X.K X.mg W0 .val e) x cs hc hi hq he ok hs) ?_;rintro st H Q ⟨P0,H0,P,Os,env,M,r,M',k,e,w⟩;refine Fi nd k e ?_
 cases r with
 |v d=>exact w
 |x c n=>exact w
end
end
section
variable {X:Cx}{Wx:XW}{m:Mode}{pos:Pos}
inductive ResP where
 |v (ps:List (D×D)) |x (c:Str) (n:Int)
end
section
variable {X:Cx}{Wx:XW}{m:Mode}{pos:Pos}
noncomputable def cZ:List Nat->List D->Env->Option Env
 | [],[],env=>some env
 |i::is,d::ds,env=>if i<env.length then cZ is ds (env.set i (.val d)) else none
 |_,_,_=>none
def SG (X:Cx)(ts:List Expr)(is:List Nat):Prop:=∃t,m_ X ts t/\∀P0 H0 P Os st H M env env' ds vs Q,Ok X.K X.mg P0 H0 P Os H M st env->aq X.K P H ds vs->cZ is ds env=some env'->(∀Os' st',Ok X.K X.mg P0 H0 P Os' H M st' env'->Q st' H)->t vs st H Q
theorem CT : SG X [] [] := ⟨_,J6,fun P0 H0 P Os st H M env env' ds vs Q k is e q=>by
 cases ds with
 |nil=>cases e;exact⟨is,q _ _ k⟩
 |cons d ds=>cases e⟩
theorem mV (hN:X.N.Nodup)(hi:X.N[i]? =some x)(hx:Loc X.env.scope x)(hr:SG X ts is)(hf:X.fn x=true\/X.env.scope.names.lookup x=some .local:=by first |exact .inl rfl |exact .inr rfl)
    (hs:(assignEach (.Name x p::ts) X.env).map (·.2)=assign (.Name x p) X.env::(assignEach ts X.env).map (·.2):=by rfl):SG X (.Name x p::ts) (i::is):=by
  obtain⟨t,h1,h2⟩:=hr;refine⟨_,J0 (Bw hN hi hx hf) h1 hs,fun P0 H0 P Os st H M env env' ds vs Q k is e q=>?_⟩
  cases ds with
  |nil=>cases e
  |cons d ds=>
    obtain⟨v,r,rfl,iv,is⟩:=is;simp only[cZ]at e;split at e
    · rename_i hl;exact⟨v,r,rfl,h2 _ _ _ _ _ _ _ _ _ _ _ _ (k.asg hl iv) is e q⟩
    · cases e
noncomputable def gH (is:List Nat) (f:E):S:=fun env M=>cA (f env M) fun d M1=>match d with
 |.tup ds=>if ds.length=is.length then(cZ is ds env).map fun e=>(.nx e,M1) else none
 |_=>none
theorem Dc (hc:X.calm=true)(hg:SG X ts is)(he:SE X Wx .val e f)(hn:(assignEach ts X.env).length=is.length:=by rfl)(hst:(assignEach ts X.env).findIdx? (·.1)=none:=by rfl)
  (hs:swapsWithSole [.Tuple ts n p] e pos.line X.env=pure false:=by rfl) (hw:swappedStores [.Tuple ts n p] e X.env=pure none:=by rfl) (h1:(assignEach [.Tuple ts n p] X.env).map (·.2)=[assign (.Tuple ts n p) X.env]:=by rfl):
  SS X Wx (.Assign [.Tuple ts n p] e pos) (gH is f):=by
 obtain⟨t,hp,ht⟩:=hg;refine jh (Kh he (JZ (n:=is.length) hc hp hn hst) hs hw h1) ?_;rintro D st H ⟨P0,H0,P,Os,env,M,out,M',k,e,q⟩;unfold gH at e;rcases iK e with⟨d,M1,e1,e⟩ |⟨c,n,e1,rfl⟩
 ·cases d<;>simp only[reduceCtorEq]at e
  rename_i ds;split at e
  ·rename_i hl;rw[Ru]at e;obtain⟨env',ee,e⟩:=e;cases e;refine bM k e1 fun P1 v1 H1 l1 h1 i1=>?_;obtain⟨a,vs,rfl,sq,is'⟩:=i1;exact⟨a,vs,rfl,sq,by rw[is'.len];exact hl,ht _ _ _ _ _ _ _ _ _ _ _ _ (k.next l1 h1) is' ee fun Os' st' k'=>q _ _ _ _ (l1.lt k.hk) k'⟩
  ·cases e
 ·exact bM k e1 q
end
end E3
namespace E3
open PySem L2
section
variable {env:Env}{M M1 M2:Mm}{f g o v:E}{d e x:D}{i:Int}{k:Nat}{ds es:List D}{s t:S}{z:Str}{fa:EA}{b:Bool}
noncomputable def ud:Option (List D×Mm)->O
 |some (ys,M)=>some (.v (.lst ys),M)
 |none=>none
noncomputable def yQ (q e:E) (env:Env):Option (ResA×Mm)->O
 |some (.v ds,M1)=>ud (dB q e env ds [] M1)
 |some (.x c n,M1)=>some (.x c n,M1)
 |none=>none
theorem K7 {cs:List (Str×Nat)}{q e:E}:gD cs fa q e env M=yQ q e (cC cs env) (fa env M):=rfl
theorem M_ {q e:E}:yQ q e env (some (.v ds,M))=ud (dB q e env ds [] M):=rfl
theorem Nb:ud (some (ds,M))=some (.v (.lst ds),M):=rfl
theorem uf {q e : E} (F : D -> Option D) : ∀ (ds acc : List D), (∀d∈ds,match F d with
    |some y=>q (.val d::env) M=some (.v (.bl true),M)/\e (.val d::env) M=some (.v y,M)
    |none=>q (.val d::env) M=some (.v (.bl false),M))->acc.length + ds.length<sizeLine->dB q e env ds acc M=some (acc ++ ds.filterMap F,M)
  | [],acc,_,_=>by simp[dB]
  |d::ds,acc,h,hl=>by
    have hd:=h d (by simp);have hr:∀acc',acc'.length + ds.length<sizeLine->dB q e env ds acc' M=some (acc' ++ ds.filterMap F,M):=fun acc' hl'=>uf F ds acc' (fun d' hd'=>h d' (by simp[hd'])) hl';rw[RD]at hl
    cases hF:F d with
    |none=>
      rw[hF]at hd;simp only[dB,hd,Tv,hF];exact hr acc (by omega)
    |some y=>
      rw[hF]at hd;simp only[dB,hd.1,hd.2,Tv,hF];rw[tG (by omega),hr (acc ++ [y]) (by rw[RG,R_];omega)]
      simp
theorem comp_map {e:E}(F:D->D)(ds:List D)(h:∀d∈ds,e (.val d::env) M=some (.v (F d),M))(hl:ds.length<sizeLine):dB (ak (.bl true)) e env ds [] M=some (ds.map F,M):=by
 rw[uf (fun d=>some (F d)) ds [] (fun d hd=>⟨rfl,h d hd⟩) (by simpa using hl),List.filterMap_eq_map'];rfl
theorem K5:cC [] env=[]:=rfl
theorem K4 {x:Str}{n:Nat}{cs:List (Str×Nat)}:cC ((x,n)::cs) env=(env[n]?).getD .un::cC cs env:=rfl
noncomputable def p7 (is:List Nat) (env:Env) (M:Mm):D->OS
 |.tup ds=>if ds.length=is.length then(cZ is ds env).map fun e=>(.nx e,M) else none
 |_=>none
theorem LR {is:List Nat}:gH is f env M=bW (fun d M1=>p7 is env M1 d) (f env M):=rfl
theorem Od {is:List Nat}:p7 is env M (.tup ds)=if ds.length=is.length then(cZ is ds env).map fun e=>(.nx e,M) else none:=rfl
theorem Lw:cZ [] [] env=some env:=rfl
theorem Lx {n:Nat}{is:List Nat}:cZ (n::is) (d::ds) env=if n<env.length then cZ is ds (env.set n (.val d)) else none:=rfl
end
end E3
namespace L2
open PySem PySem.Spec PyProof.Rows
end L2
namespace E3
open PySem PySem.Spec PyProof.Rows L2
section
variable {es:List Expr}{env:PySem.Env}{pos:Pos}
theorem eH:starEach (.Constant c k pos::es) env=(false,eval (.Constant c k pos) env)::starEach es env:=by rfl
theorem aY:starEach (.Name x pos::es) env=(false,eval (.Name x pos) env)::starEach es env:=by rfl
theorem fX:starEach (.BinOp a o b pos::es) env=(false,eval (.BinOp a o b pos) env)::starEach es env:=by rfl
theorem wK:starEach (.Call f as ks pos::es) env=(false,eval (.Call f as ks pos) env)::starEach es env:=by rfl
theorem jo:starEach (.Subscript a b pos::es) env=(false,eval (.Subscript a b pos) env)::starEach es env:=by rfl
theorem Pk:starEach (.Tuple as k pos::es) env=(false,eval (.Tuple as k pos) env)::starEach es env:=by rfl
theorem wL:starEach (.List as pos::es) env=(false,eval (.List as pos) env)::starEach es env:=by rfl
theorem Dd:starEach (.ListComp a gs sc pos::es) env=(false,eval (.ListComp a gs sc pos) env)::starEach es env:=by rfl
end
end E3
namespace L2
open PySem PySem.Spec PyProof.Rows
end L2
namespace E3
open PySem PySem.Spec PyProof.Rows L2
structure XPass (X:Cx)(Wx:XW):Prop where
 xc:∀pins σ H s a C dx T c n P0 H0 P M,Caught X pins σ H s a C dx T->LtE P0 H0 P H->Hk X.K X.mg P H M->X.mg c=some (.ref C)->XN H n dx->Wx P0 H0 M c n->X.xe (.ref a) s
section
variable {K:Fgx}{P:Pl}{H:Hp}
noncomputable def iM:List D->Option (List Bool)
 | []=>some []
 |.bl b::ds=>(iM ds).map (b:: ·)
 |_::_=>none
theorem yJ:∀{ds:List D} {bs:List Bool} {vs:List V},iM ds=some bs->aq K P H ds vs->vs=bs.map V.bl
  | [],_,_,e,h=>by cases e;exact h
  |d::ds,bs,vs,e,h=>by
    obtain⟨v,r,rfl,i,h⟩:=h
    cases d with
    |bl n=>
      simp only[iM,Ru]at e;obtain⟨bs',e',rfl⟩:=e;cases i;rw[yJ e' h];rfl
    |_=>simp[iM]at e
noncomputable def lD:List D->Option (List Str)
 | []=>some []
 |.str z::ds=>(lD ds).map (z:: ·)
 |_::_=>none
theorem Dh:∀{ds:List D} {zs:List Str} {vs:List V},lD ds=some zs->aq K P H ds vs->vs=zs.map V.str
  | [],_,_,e,h=>by cases e;exact h
  |d::ds,zs,vs,e,h=>by
    obtain⟨v,r,rfl,i,h⟩:=h
    cases d with
    |str n=>
      simp only[lD,Ru]at e;obtain⟨zs',e',rfl⟩:=e;cases i;rw[Dh e' h];rfl
    |_=>simp[lD]at e
theorem strs_map:∀(zs:List Str),lD (zs.map D.str)=some zs
 | []=>rfl
 |b::bs=>by simp[lD,strs_map bs]
noncomputable def iJ:List D->Option D
 | [.lst ds]=>(iM ds).map fun bs=>.bl (bs.any id)
 |_=>none
theorem Ku:ni K (fun xs H Q=>∃(p:Addr) (bs:List Bool),xs=[.ref p]/\bK K H p (bs.map V.bl)/\Q (.bl (bs.any id)) H) iJ:=fun P H ds z vs Q h i _ q=>by
 unfold iJ at h;split at h
 ·rw[Ru]at h;obtain⟨is,ei,rfl⟩:=h;obtain⟨v,ws,rfl,p,rfl⟩:=i;obtain⟨a,us,rfl,r,s⟩:=p;rw[yJ ei s]at r;exact⟨a,is,rfl,r,q _ H (Same.refl H) rfl⟩
 ·cases h
end
section
variable {X:Cx}{Wx:XW}{m:Mode}{pos:Pos}
def yp (K:Fgx)(r:V->List V->Hp->VK->Prop)(o:Str->List D->Option D):Prop:=∀(P:Pl) (H:Hp) (y:Str) (ds:List D) (z:D) (vs:List V) (Q:VK),o y ds=some z->iC K P H ds vs->(∀p,H p=none->¬ P.bd p)->(∀u H',Same H H'->Is K P H' z u->Q u H')->r (.str y) vs H Q
noncomputable def rR (o:Str->List D->Option D) (f:E) (fs:EA):E:=fun env M=>bnd (f env M) fun d M1=>match d with
 |.str y=>dM (fs env M1) fun ds M2=>(o y (ds.map (vw M2))).map fun z=>(.v z,M2)
 |_=>none
theorem Ow {a e:Expr}{es:List Expr}{name:Str}{id:String}{r:V->List V->Hp->VK->Prop}{o:Str->List D->Option D}{f:E}{fs:EA}{p:Pos}(slot:PySem.Slot "str" name id)(hty:typeOf (.builtin id)=pure (.type "method_descriptor"))(hm:qj X id r)(po:yp X.K r o)(ha:SE X Wx .val a f)(hs:SA X Wx .bor (e::es) fs)
  (hbase:attributeBase a name X.env (eval a X.env)=eval a X.env:=by rfl)
  (hfew:((backTo pos (starEach (e::es) X.env)).all (fun x=> !x.1) && (backToKw pos (keywordEach [] X.env)).all (fun x=>x.1.isSome) && decide ((e::es).length + ([]:List Keyword).length + (if ([]:List Keyword).isEmpty then 0 else 1)<30))=true:=by rfl)
  (hline:(p.endLine==pos.line)=true:=by rfl) (hst:starEach (e::es) X.env=(false,eval e X.env)::starEach es X.env:=by rfl) (hplain:(backTo pos (starEach es X.env)).any (·.1)=false:=by rfl):
  SE X Wx m (.Call (.Attribute a name p) (e::es) [] pos) (rR o f fs):=by
 refine cL (vp PySem.F.plainAttrs_str slot hty hm ha hs hbase hfew hline hst hplain) ?_;rintro st H Q ⟨P0,H0,P,Os,env,M,r,M',k,e,q⟩;unfold rR at e;rcases dj e with⟨d,M1,e1,e⟩ |⟨c,n,e1,rfl⟩
 ·cases d<;>simp only[reduceCtorEq]at e
  rename_i y;refine bM k e1 fun P1 v1 H1 l1 h1 i1=>?_;have k1:=k.next l1 h1
  cases i1;refine⟨rfl,?_⟩;rcases lO e with⟨ds,M2,e2,e⟩ |⟨c,n,e2,rfl⟩
  ·rw[Ru]at e;obtain⟨z,ez,e⟩:=e;cases e;exact⟨P0,H0,P1,Os,env,M1,_,_,k1,e2,fun P2 vs H2 l2 h2 i2=>po P2 H2 y _ z vs Q ez (bT.w h2 i2) h2.new fun u H' s i=>q P2 u H' (l1.trans (l2.trans (LtE.same s))) (h2.same s) (dh.of (h2.same s) i)⟩
  ·exact⟨P0,H0,P1,Os,env,M1,_,_,k1,e2,q⟩
 ·exact bM k e1 q
noncomputable def pX (z:Str):List D->Option D
  | [.lst ds]=>match lD ds with
    |some ys=>if z.length<=16/\(ys.map (·.length)).sum + ys.length<=1048576 then some (.str (Txt.join z ys)) else none
    |none=>none
  |_=>none
theorem Ky {K:Fgx}:yp K (rJoin K) pX:=fun P H y ds z vs Q h i _ q=>by
 unfold pX at h;split at h
 ·split at h
  ·rename_i ys ey;split at h
   ·rename_i hl;cases h;obtain⟨v,ws,rfl,p,rfl⟩:=i;obtain⟨a,us,rfl,r,s⟩:=p;rw[Dh ey s]at r;exact⟨y,a,ys,rfl,rfl,r,hl.1,hl.2,q _ H (Same.refl H) rfl⟩
   ·cases h
  ·cases h
 ·cases h
end
inductive KRows (K:Fgx)(w:World):List (Str×D)->List DictEntry->List (Key×Value)->Prop
 |nil:KRows K w [] [] []
 |cons {z:Str} {d:D} {t:Tok} {u:Value} {v:V} {hs:Int} {tb:List (Str×D)} {es:List DictEntry} {vs:List (Key×Value)}:hs=hashStr w z->RelV v u->(∀P H,Is K P H d v)->KRows K w tb es vs->KRows K w ((z,d)::tb) (⟨hs,.str z t,u⟩::es) ((.inr z,u)::vs)
def KTab (K:Fgx)(w:World)(a:Addr)(tb:List (Str×D)):Prop:=∃o es ep vs,K.lookup a=some o/\o.ExactDict/\o.data=.dict es ep/\KRows K w tb es.toList vs/\(tb.map (·.1)).Nodup/\(a==sysModules)=false
end E3
namespace L2
open PySem PySem.Spec PyProof.Rows
def Rb (h:Heap)(a t:Addr)(i:Int):Prop:=∃o,h.get? a=some o/\o.cls=.type "reversed"/\o.data=.fields #[.ref t,rawInt i]
end L2
namespace E3
open PySem PySem.Spec PyProof.Rows L2
section
variable {X:Cx}{Wx:XW}{m:Mode}{pos:Pos}
def fL (P:Program)(w:World)(K:Fgx)(mg:Mgx)(base:Heap)(k:Nat)(C:Addr)(m:Str)(n:Nat)(g:G):Prop:=
 ∃f fd ps ds dvs sp,Meth K C m f/\FnOk P w K mg base d8 k f fd ps sp/\Binds K fd ps ds/\Vals dvs ds/\∀vs H Q E,iz K mg n g vs H Q E->sp (vs ++ dvs) H Q E
theorem fL.mono {P:Program}{w:World}{K:Fgx}{mg:Mgx}{base:Heap}{j k:Nat}{C:Addr}{m:Str}{n:Nat}{g:G}(a:fL P w K mg base j C m n g)(h:j<=k):fL P w K mg base k C m n g:=by
 obtain⟨f,fd,ps,ds,dvs,sp,h1,h2,h3⟩:=a;exact⟨f,fd,ps,ds,dvs,sp,h1,h2.mono h,h3⟩
structure OwnIs (K:Fgx)(C:Addr):Prop where
 ca:PySem.W.findIn K (.ref C) "__class__"=some (some (.builtin "object.__class__"))
 gt:PySem.W.specialIn K (.builtin "object.__class__") "__get__"=some (some (.builtin "getset_descriptor.__get__"))
 tk:PySem.W.takesIn K (.builtin "object.__class__")=some true
 mr:PySem.W.mroIn K C (.type "object")=some true
 me:PySem.W.kitOne K (.ref C) (.ref C)=some true
end
end E3
namespace E3
open PySem L2
noncomputable def dg (n:Nat):List Nat:=(Nat.toDigits 10 n).map Char.toNat
noncomputable def cd (s:Str):List Nat:=s.cps.toList
section
variable {env:Env}{M M1:Mm}{f g h c:E}{d e:D}{i j:Int}{n k:Nat}{z:Str}{b:Bool}{ds es:List D}{s t:S}{x:Str}{fa:EA}{u:G}
theorem M7 {q:D->Mm->OS}:bW q (some (.x x i,M))=some (.ex x i,M):=rfl
theorem MP {q:D->Mm->O}:cQ q (some (.x x i,M))=some (.x x i,M):=rfl
theorem MK {q:List D->Mm->O}:gA q (some (.x x i,M))=some (.x x i,M):=rfl
theorem Ni {q:Mm->Option (ResA×Mm)}:ug q (some (.x x i,M))=some (.x x i,M):=rfl
theorem Ng:iQ d (some (.x x i,M))=some (.x x i,M):=rfl
noncomputable def oH (q:List D->OS):Option Cl->OS
 |some (.lst ds)=>q ds
 |_=>none
theorem Nx {q:List D->OS}:oH q (some (.lst ds))=q ds:=rfl
noncomputable def nF (env:Env) (g:Mm->O) (M:Mm):D->OS
 |.ref k=>oH (fun _=>bW (fun y M2=>oH (fun ds=>if ds.length<sizeLine then some (.nx env,M2.set k (.lst (ds ++ [y]))) else none) M2[k]?) (g M)) M[k]?
 |_=>none
theorem MF {q:Mm->O}:nF env q M (.ref k)=oH (fun _=>bW (fun y M2=>oH (fun ds=>if ds.length<sizeLine then some (.nx env,M2.set k (.lst (ds ++ [y]))) else none) M2[k]?) (q M)) M[k]? :=rfl
theorem KZ:mQ f g env M=bW (fun d M1=>nF env (g env) M1 d) (f env M):=rfl
theorem QM (h:M[k]? =some (.lst ds)):vw M (.ref k)=.lst ds:=by unfold vw;simp only[h]
noncomputable def Ak (o:Str->List D->Option D) (q:Mm->Option (ResA×Mm)) (M:Mm):D->O
 |.str y=>iI (o y) (q M)
 |_=>none
theorem vY {o:Str->List D->Option D}{q:Mm->Option (ResA×Mm)}:Ak o q M (.str z)=iI (o z) (q M):=rfl
theorem vI {o:Str->List D->Option D}:rR o f fa env M=cQ (fun d M1=>Ak o (fa env) M1 d) (f env M):=rfl
theorem Hw {y:Str}:aR (.str z) (.str y)=if z.length + y.length<=sizeLine then some (.str (z ++ y)) else none:=rfl
theorem HY:aX (.str z) (.int i)=if z.length<=sizeLine then(bO z.cps.toList i).map fun c=>.str ⟨#[c]⟩ else none:=rfl
theorem Ib:bx [.str z]=if z.length<=sizeLine then some (.int z.length) else none:=rfl
theorem Hx:iJ [.lst ds]=(iM ds).map fun bs=>.bl (bs.any id):=rfl
theorem HJ {y:Str}:aA .isin (.str z) (.str y)=some (.bl (qQ z y)):=rfl
theorem Il {y:Str}:aA .notin (.str z) (.str y)=some (.bl (!qQ z y)):=rfl
theorem Hz {y:Str}:aA .eq (.str z) (.str y)=some (.bl (decide (z=y))):=by
 unfold aA bU ju;rw[tG (by constructor<;>first |rfl |simp[D.dep])]
 have:(z==y)=decide (z=y):=by rw[Tg];simp
 simp[D.eq,this]
theorem Ik {y:Str}:aA .ne (.str z) (.str y)=some (.bl (!decide (z=y))):=by
 unfold aA bU gY;rw[tG (by constructor<;>first |rfl |simp[D.dep])]
 have:(z==y)=decide (z=y):=by rw[Tg];simp
 simp[D.eq,this]
theorem HN:aA .same .non .non=some (.bl true):=rfl
theorem HS:aA .other (.int i) .non=some (.bl true):=rfl
theorem HW:aA .other .non .non=some (.bl false):=rfl
noncomputable def mY (k:Nat) (t:S) (ds:List D):OS->OS
 |some (.nx e,M1)=>loopS k t ds e M1
 |some (.ct e,M1)=>loopS k t ds e M1
 |some (.bk e,M1)=>some (.nx e,M1)
 |some (.rt d,M1)=>some (.rt d,M1)
 |some (.ex c n,M1)=>some (.ex c n,M1)
 |none=>none
theorem rO:loopS k t [] env M=some (.nx env,M):=rfl
theorem jE:loopS k t (d::ds) env M=if k<env.length then mY k t ds (t (env.set k (.val d)) M) else none:=rfl
theorem jF {e':Env}:mY k t ds (some (.nx e',M))=loopS k t ds e' M:=rfl
theorem Oa {e':Env}:mY k t ds (some (.ct e',M))=loopS k t ds e' M:=rfl
theorem N_ {e':Env}:mY k t ds (some (.bk e',M))=some (.nx e',M):=rfl
theorem Ob:mY k t ds (some (.rt d,M))=some (.rt d,M):=rfl
theorem Oc:mY k t ds (some (.ex x i,M))=some (.ex x i,M):=rfl
theorem Ed {α:Type}{xs:List α}{i:Int}(d:α)(h0:0<=i)(h1:i<xs.length):bO xs i=some (xs.getD i.toNat d):=by
 obtain⟨k,rfl⟩:∃k:Nat,i=k:=⟨i.toNat,by omega⟩;have hk:k<xs.length:=by omega
 exact jt (by simp[hk])
theorem at0 {α:Type}{a:α}{xs:List α}:bO (a::xs) 0=some a:=jt (j:=0) rfl
theorem at1 {α:Type}{a b:α}{xs:List α}:bO (a::b::xs) 1=some b:=jt (j:=1) rfl
theorem at2 {α:Type}{a b c:α}{xs:List α}:bO (a::b::c::xs) 2=some c:=jt (j:=2) rfl
theorem Ec {α:Type}{a b c d:α}{xs:List α}:bO (a::b::c::d::xs) 3=some d:=jt (j:=3) rfl
theorem zQ {M:Mm}{cl:Cl}:(M ++ [cl])[M.length]? =some cl:=List.getElem?_concat_length ..
theorem s_end {M:Mm}{cl cl':Cl}:(M ++ [cl]).set M.length cl'=M ++ [cl']:=by simp
theorem w_end {M:Mm}:vw (M ++ [.lst ds]) (.ref M.length)=.lst ds:=QM zQ
theorem yZ {α β:Type}(f:α->β)(xs:List α)(lo hi:Option Int):aZ (xs.map f) lo hi=(aZ xs lo hi).map f:=by
 unfold aZ;rw[RJ, <-List.map_drop, <-Vq]
theorem Fl {α:Type}(xs:List α)(lo hi:Option Int):(aZ xs lo hi).length<=xs.length:=by
 unfold aZ;rw[Sw,Tz];omega
theorem yW {α:Type}(xs:List α){i:Int}(h:0<=i):aZ xs (some i) none=xs.drop i.toNat:=by
 obtain⟨k,rfl⟩:∃k:Nat,i=k:=⟨i.toNat,by omega⟩;unfold aZ;rw[HT.Ci,HT.Cg];rw[Tw (by rw[Tz];omega),R8]
 by_cases hk:k<=xs.length
 ·rw[Wv hk]
 ·rw[Nat.min_eq_right (by omega),Vr,List.drop_of_length_le (by omega)]
theorem lQ {α:Type}(xs:List α){i:Int}(h:0<=i):aZ xs none (some i)=xs.take i.toNat:=by
 obtain⟨k,rfl⟩:∃k:Nat,i=k:=⟨i.toNat,by omega⟩;unfold aZ;rw[HT.Ci,HT.Cg,VG,Nat.sub_zero,R8]
 by_cases hk:k<=xs.length
 ·rw[Wv hk]
 ·rw[Nat.min_eq_right (by omega),List.take_length,Tw (by omega)]
end
end E3
namespace L2
open PySem PySem.Spec PyProof.Rows
end L2
namespace E3
open PySem PySem.Spec PyProof.Rows L2
end E3
namespace L2
open PySem PySem.Spec PyProof.Rows
end L2
namespace E3
open PySem PySem.Spec PyProof.Rows L2
end E3
namespace L2
open PySem PySem.Spec PyProof.Rows
end L2
namespace E3
open PySem PySem.Spec PyProof.Rows L2
theorem Ji:bw X (binaryOp .FloorDiv) (rI (fun _ j=>0<j/\j<18446744073709551616) fun i j=>.int (i / j)):=o9 fun i j _ _ _ _ _ hc q=>by
 have h1:(0:Int)<j:=hc.1;have h2:j<18446744073709551616:=hc.2;refine floordiv_int (by omega) (by rw[V6 i (by omega)];exact q) (.inl (PyProof.noPylong_of_log2 ?_));have h0:j.natAbs≠0:=by omega
 have h64:j.natAbs.log2<64:=(Nat.log2_lt h0).mpr (by rw[show(2:Nat) ^ 64=18446744073709551616 by decide];omega);omega
noncomputable def kE:=oI fun i j=>if 0<j/\j.natAbs<18446744073709551616 then some (.int (i / j)) else none
theorem Kv {K:Fgx}:fG K (rI (fun _ j=>0<j/\j<18446744073709551616) fun i j=>.int (i / j)) kE:=fun P H d e z v w Q h h1 h2 _ q=>by
 obtain⟨i,j,rfl,rfl,h⟩:=mF h h1 h2;split at h
 ·rename_i hg;cases h;exact⟨i,j,rfl,rfl,⟨hg.1,by omega⟩,q _ H (Same.refl H) rfl⟩
 ·cases h
theorem HD:kE (.int i) (.int j)=if 0<j/\j.natAbs<18446744073709551616 then some (.int (i / j)) else none:=rfl
section
variable {X:Cx}{Wx:XW}{m:Mode}{pos:Pos}{K:Fgx}
noncomputable def pN (d:D) (lo hi:Option Int):Option D:=match d with
 |.tup ds=>if HT.aP ds.length 0 lo=0/\HT.aP ds.length ds.length hi=ds.length then none else some (.tup (aZ ds lo hi))
 |_=>none
noncomputable def cY (f:E) (l h:Env->Mm->Option (Option Int×Mm)):E:=fun env M=>bnd (f env M) fun d M1=>match l env M1 with
  | some (lo, M2) => (match h env M2 with
    |some (hi,M3)=>(pN d lo hi).map fun z=>(.v z,M3)
    |none=>none)
  |none=>none
theorem mU {e:Expr}{lo hi:Option Expr}{p2:Pos}{f:E}{l h:Env->Mm->Option (Option Int×Mm)}(he:SE X Wx .val e f)(hl:lM X lo l)(hh:lM X hi h):SE X Wx m (.Subscript e (.Slice lo hi none p2) pos) (cY f l h):=by
 refine cL (Bu O3 he hl hh) ?_;rintro st H Q ⟨P0,H0,P,Os,env,M,r,M',k,e,q⟩;unfold cY at e;rcases dj e with⟨d,M1,e1,e⟩ |⟨c,n,e1,rfl⟩
 ·split at e
  ·rename_i lo' M2 el;split at e
   ·rename_i hi' M3 eh;rw[Ru]at e;obtain⟨z,ez,e⟩:=e;cases e;refine⟨P0,H0,P,Os,env,M,_,_,k,e1,fun P1 v1 H1 l1 h1 i1=>⟨P0,H0,P1,Os,env,M1,_,_,k.next l1 h1,el,fun P2 H2 l2 h2=>⟨P0,H0,P2,Os,env,M2,_,_,(k.next l1 h1).next l2 h2,eh,fun P3 H3 l3 h3=>?_⟩⟩⟩
    have i3:=Is.lt (l3.lt h2) (Is.lt (l2.lt h1) i1);have fin:∀u H',Same H3 H'->Is X.K P3 H' z u->Q u H':=fun u H' s i=>q P3 u H' (l1.trans (l2.trans (l3.trans (LtE.same s)))) (h3.same s) (dh.of (h3.same s) i);unfold pN at ez;split at ez
    ·split at ez
     ·cases ez
     ·rename_i hw;cases ez;obtain⟨a,vs,rfl,r,s⟩:=i3;exact⟨a,vs,rfl,r,by rw[s.len];exact hw,Hj (yX s) fin⟩
    ·cases ez
   ·cases e
  ·cases e
 ·exact⟨P0,H0,P,Os,env,M,_,_,k,e1,q⟩
end
section
variable {env:Env}{M:Mm}{f g:E}{d:D}{i:Int}{ds es:List D}{fa:EA}{x:Str}{k:Nat}
noncomputable def lB (d:D) (lo:Option Int):Option (Option Int×Mm)->O
 |some (hi,M3)=>mapR M3 (pN d lo hi)
 |none=>none
noncomputable def pO (d:D) (k:Mm->Option (Option Int×Mm)):Option (Option Int×Mm)->O
 |some (lo,M2)=>lB d lo (k M2)
 |none=>none
theorem Ly {l u:Env->Mm->Option (Option Int×Mm)}:cY f l u env M=cQ (fun d M1=>pO d (u env) (l env M1)) (f env M):=rfl
theorem N8 {lo:Option Int}{q:Mm->Option (Option Int×Mm)}:pO d q (some (lo,M))=lB d lo (q M):=rfl
theorem N7 {lo hi:Option Int}:lB d lo (some (hi,M))=mapR M (pN d lo hi):=rfl
end
end E3
namespace L2
open PySem PySem.Spec PyProof.Rows
end L2
namespace E3
open PySem PySem.Spec PyProof.Rows L2
end E3
namespace E3
end E3
namespace E3
open PySem PySem.Spec PyProof.Rows L2
mutual
def D.nr:D->Bool
 |.tup xs=>D.nrs xs
 |.lst xs=>D.nrs xs
 |.ref _=>false
 |_=>true
def D.nrs:List D->Bool
 | []=>true
 |a::as=>D.nr a && D.nrs as
end
noncomputable def Pf:Pl:=⟨fun _=>0,0,fun _=>False⟩
section
variable {K:Fgx}{mg:Mgx}{P P':Pl}{H H':Hp}{M:Mm}
mutual
theorem Is.fre:∀{d:D} {v:V},D.nr d=true->Is K P H d v->Is K Pf H d v
 |.non,_,_,h=>h
 |.bl _,_,_,h=>h
 |.int _,_,_,h=>h
 |.str _,_,_,h=>h
 |.tup _,_,n,h=>by obtain⟨a,vs,e,s,q⟩:=h;exact⟨a,vs,e,s,aq.fre n q⟩
 |.lst _,_,n,h=>by obtain⟨a,vs,e,s,q⟩:=h;exact⟨a,vs,e,s.imp (fun z=>⟨fun z=>z,z.2⟩) id,aq.fre n q⟩
 |.ref _,_,n,_=>by cases n
theorem aq.fre:∀{ds:List D} {vs:List V},D.nrs ds=true->aq K P H ds vs->aq K Pf H ds vs
  | [],_,_,h=>h
  |_::_,_,n,h=>by
    obtain⟨v,r,e,p,q⟩:=h;have n:=WY.mp n;exact⟨v,r,e,Is.fre n.1 p,aq.fre n.2 q⟩
end
mutual
theorem Is.lf_any:∀{d:D} {v:V},D.lf d=true->Is K P H d v->Is K P' H d v
 |.non,_,_,h=>h
 |.bl _,_,_,h=>h
 |.int _,_,_,h=>h
 |.str _,_,_,h=>h
 |.tup _,_,n,h=>by obtain⟨a,vs,e,s,q⟩:=h;exact⟨a,vs,e,s,aq.lf_any n q⟩
 |.lst _,_,n,_=>by cases n
 |.ref _,_,n,_=>by cases n
theorem aq.lf_any:∀{ds:List D} {vs:List V},D.lfs ds=true->aq K P H ds vs->aq K P' H ds vs
  | [],_,_,h=>h
  |_::_,_,n,h=>by
    obtain⟨v,r,e,p,q⟩:=h;have n:=WY.mp n;exact⟨v,r,e,Is.lf_any n.1 p,aq.lf_any n.2 q⟩
end
end
section
variable {X:Cx}{Wx:XW}{m:Mode}{pos:Pos}
theorem gK (hr:Room k X.A)(h:X.A.units + 60<cLine->SB X Wx ss b):SB X Wx ss b:=h (Ve (Nat.add_le_add_left (by decide) _) hr.units)
theorem dZ {e:Expr}{es:List Expr}{x:Str}{id:String}{r:List V->Hp->VK->Prop}{o:List D->Option D}{fs:EA}{p:Pos}(hc:eN X (.builtin id) r)(hg:Gl X x)(hm:X.mg x=none)(hv:bootBuiltins x=some (.builtin id))(po:ni X.K r o)(ha:SA X Wx .bor (e::es) fs)
  (hn:x≠"__name__":=by x_go) (hdb:(x==("__debug__":Str))=false:=by x_go) (he:starEach (e::es) X.env=(false,eval e X.env)::starEach es X.env:=by rfl) (hpl:(backTo pos (starEach es X.env)).any (·.1)=false:=by rfl):SE X Wx m (.Call (.Name x p) (e::es) [] pos) (sN o fs):=
 Ou (fun _ ha=>Bt hc hg hm hv ha hn hdb he hpl) po ha
end
section
variable (P:Program)(w:World)(K:Fgx)(mg:Mgx)(base:Heap)(k:Nat)(f:Addr)(N:List Str)(q:Str)(st:Stmt)(b:S)
abbrev RT:Prop:=∀(cdv:Value) (A:Around) (outer:List PySem.Env) (s:Shared) (H:Hp) (E:XK),Room k (A.deeper (envOfC q (aM st) s.heap.objs.size f cdv))->SB (nT P w K mg base N q st f cdv A outer s H E) W0 (bL st) b
end
theorem gM (h1:sc.kind=.function:=by rfl)(h2:sc.isCoroutine=false:=by rfl)(h3:sc.isGenerator=false:=by rfl)(h4:N.Nodup:=by x_go)(h5:N.take P.length=P:=by rfl)
  (h6:∀x∈P,sc.names.lookup x=some .local\/sc.names.lookup x=some .cell:=by x_go) (h7:∀y∈sc.names,y.2≠ .free:=by x_go):FnScope N P sc:=⟨h1,h2,h3,h4,h5,h6,h7⟩
abbrev LV (st:Stmt)(x:Str):Prop:=(aM st).names.lookup x=some .local
abbrev LC (st:Stmt)(x:Str):Prop:=(aM st).names.lookup x=some .cell
structure DefAt (K:Fgx)(mg:Mgx)(x:Str)(st:Stmt)(ps:List Str)(f:Addr)(fd:FuncData):Prop where
 mg:mg x=some (.ref f)
 F:FunD K x x st f fd
 b:Binds K fd ps []
theorem DefAt.ok {P:Program}{w:World}{K:Fgx}{mg:Mgx}{base:Heap}{k:Nat}{x:Str}{st:Stmt}{f:Addr}{fd:FuncData}{N ps:List Str}{b:S}(D:DefAt K mg x st ps f fd)(S:FnScope N ps (aM st))(hr:RT P w K mg base k f N x st b)(hp:ps.length<=N.length:=by decide):bf P w K mg base (k + 1) x ps.length (cI N.length b):=FT D.F S hp D.mg D.b hr
def cu (K:Fgx)(x:Str)(st:Stmt):Prop:=∃(f:Addr) (oc kV dc pm cd ct:Value) (od an:Option Addr) (sl:Array (Option Value)),PySem.W.nsIn K mainGlobals x=some (some (.ref f))/\K.lookup f=some ⟨oc,od,.func (PySem.W.fnOf x x (bR st) (bL st) (aM st) .none kV dc pm an cd ct),sl⟩/\PySem.W.codeIn K cd x=true/\PySem.W.keepIn K (.ref f)=true
theorem cu.mk {K:Fgx}{x:Str}{st:Stmt}{f:Addr}{oc kV dc pm cd ct:Value}{od an:Option Addr}{sl:Array (Option Value)}(a:PySem.W.nsIn K mainGlobals x=some (some (.ref f)))(l:K.lookup f=some ⟨oc,od,.func (PySem.W.fnOf x x (bR st) (bL st) (aM st) .none kV dc pm an cd ct),sl⟩)(c:PySem.W.codeIn K cd x=true)(k:PySem.W.keepIn K (.ref f)=true):cu K x st:=⟨f,oc,kV,dc,pm,cd,ct,od,an,sl,a,l,c,k⟩
theorem cu.at {K:Fgx}{h:Heap}{mg:Mgx}{x:Str}{st:Stmt}{ps:List Str}(F:cu K x st)(X:K.In h)(G:h.Ns mainGlobals mg)
  (hb:∀(kV doc pm:Value) (an:Option Addr) (cdv ct:Value) (us:List Value),us.length=ps.length->bindArgs (PySem.W.fnOf x x (bR st) (bL st) (aM st) .none kV doc pm an cdv ct) ⟨us,[]⟩=pure (ps.zip us)):∃f fd,DefAt K mg x st ps f fd:=by
 obtain⟨f,oc,kV,dc,pm,cd,ct,od,an,sl,a,l,c,k⟩:=F;exact⟨f,_,PySem.W.mg_of X G a,qM l c k,(zO (st:=st) l c k).binds hb⟩
end E3
namespace L2
open PySem PySem.Spec PyProof.Rows
abbrev TH:=Ends->Addr->Addr->Option Addr->St->Hp->Prop
def HB (X:Cx)(hs:List ExceptHandler)(t:TH):Prop:=∀(pins:Pnx) (s:Shared) (σ:St) (H:Hp) (a C:Addr) (dx:Option Addr) (T:Addr) (D:Ends),
 Caught X pins σ H s a C dx T->qb X.K C=true->X.A.handled=none->t D C a dx σ H->wpAny (model X.prog X.w) X.A (handleBy (.ref a) X.env hs) (SP X pins D) X.xe s
end L2
namespace E3
open PySem PySem.Spec PyProof.Rows L2
abbrev HE:=Str->Int->Env->Mm->OS
section
variable {X:Cx}{Wx:XW}{m:Mode}{pos:Pos}
noncomputable def tH (X:Cx) (hh:HE):TH:=fun D C a dx st H=>∃P0 H0 P Os env M c n out M',Ok X.K X.mg P0 H0 P Os H M st env/\X.mg c=some (.ref C)/\yr X.K X.mg P H none (some (.ref a)) (.exc c n)/\hh c n env M=some (out,M')/\Post X.K X.mg W0 P0 H0 P H M' D out
def tB (out:Out):Prop:=(∃e,out=.nx e)\/∃d,out=.rt d
structure SH (X:Cx)(hs:List ExceptHandler)(hh:HE):Prop where
 hb:HB X hs (tH X hh)
 ok:∀c n env M out M',hh c n env M=some (out,M')->(∃C,X.mg c=some (.ref C)/\qb X.K C=true)/\tB out
variable {suite:List Stmt}{b0:Stmt}{cn n:Str}{np hp:Pos}{c:Addr}{i:Nat}{h:S}{hs:List ExceptHandler}{r:HE}{cat:Str->Option Bool}
end
end E3
namespace L2
open PySem PySem.Spec PyProof.Rows
section
variable {X:Cx}{e:Expr}{es:List Expr}{te:TE}{t:TA}{pos:Pos}
open Builtin Builtin.Str in
open Builtin Builtin.Str in
open Builtin Builtin.Str in
end
end L2
namespace E3
open PySem PySem.Spec PyProof.Rows L2
section
variable {X:Cx}{Wx:XW}{m:Mode}
theorem Sv {P:Program}{w:World}{K:Fgx}{mg:Mgx}{base:Heap}{N:List Str}{q:Str}{st:Stmt}{f:Addr}{cdv:Value}{A:Around}{outer:List PySem.Env}{s:Shared}{H:Hp}{E:XK}{i:Nat}{x:Str}{pos:Pos}(hN:N[i]? =some x:=by rfl)(hv:LV st x:=by kernel_rfl)(hd:(x==("__debug__":Str))=false:=by x_go)(hcd:(x==("__classdict__":Str))=false:=by x_go):SE (nT P w K mg base N q st f cdv A outer s H E) Wx m (.Name x pos) (aj i):=wC hN hv hd hcd
theorem Lv {P:Program}{w:World}{K:Fgx}{mg:Mgx}{base:Heap}{N:List Str}{q:Str}{st:Stmt}{f:Addr}{cdv:Value}{A:Around}{outer:List PySem.Env}{s:Shared}{H:Hp}{E:XK}{x:Str}(hv:LV st x:=by kernel_rfl):Loc (nT P w K mg base N q st f cdv A outer s H E).env.scope x:=.inl hv
theorem Lu {a b:Prop}(h:a:=by kernel_rfl):a\/b:=.inl h
theorem Ei {i:Int}{j pos}:SE X Wx m (.Constant (.int i) j pos) (ak (.int i)):=gO JM
theorem Es {z:Str}{j pos}:SE X Wx m (.Constant (.str z) j pos) (ak (.str z)):=wB JV
theorem Eb {b:Bool}{j pos}:SE X Wx m (.Constant (.bool b) j pos) (ak (.bl b)):=wA JC
theorem Ek {a b:Expr}{pos:Pos}{f g:E}(ha:SE X Wx .bor a f)(hb:SE X Wx .bor b g)(hs:tK b:=by exact fun _ _=>rfl):SE X Wx m (.Subscript a b pos) (s2 aX f g):=Ov GC Kw ha hb hs
theorem Cm {a b:Expr}{op:CmpOp}{c:Cp}{pos:Pos}{f g:E}(hu:X.A.units + 60<cLine)(ha:SE X Wx .bor a f)(hb:SE X Wx .bor b g)(ho:op=nQ c:=by rfl)(hm:behindInMarks op b=false:=by rfl):SE X Wx m (.Compare a [op] [b] pos) (s2 (aA c) f g):=by subst ho;exact CN (nR hu c) rM ha hb hm
theorem Ct {a b:Expr}{op:CmpOp}{c:Cp}{pos:Pos}{f g:E}(hu:X.A.units + 60<cLine)(ha:SE X Wx .bor a f)(hb:SE X Wx .bor b g)(ho:op=nQ c:=by rfl)(hm:behindInMarks op b=false:=by rfl):ST X Wx (.Compare a [op] [b] pos) (s2 (aA c) f g):=by subst ho;exact Df (nR hu c) rM ha hb hm
end
section
variable {P:Program}{w:World}{K:Fgx}{h base:Heap}{mg:Mgx}{k:Nat}{x:Str}{st:Stmt}{N ps:List Str}{b:S}
abbrev HB (x:Str)(st:Stmt)(ps:List Str):Prop:=∀(kV doc pm:Value) (an:Option Addr) (cdv ct:Value) (us:List Value),us.length=ps.length->bindArgs (PySem.W.fnOf x x (bR st) (bL st) (aM st) .none kV doc pm an cdv ct) ⟨us,[]⟩=pure (ps.zip us)
theorem Dy {a0:Str}(h:∀{kV doc pm:Value} {an:Option Addr} {cdv ct u0:Value},bindArgs (PySem.W.fnOf x x (bR st) (bL st) (aM st) .none kV doc pm an cdv ct) ⟨[u0],[]⟩=pure [(a0,u0)]):HB x st [a0]:=fun _ _ _ _ _ _ us hl=>match us,hl with | [_],_=>h
theorem Dz {a0 a1:Str}(h:∀{kV doc pm:Value} {an:Option Addr} {cdv ct u0 u1:Value},bindArgs (PySem.W.fnOf x x (bR st) (bL st) (aM st) .none kV doc pm an cdv ct) ⟨[u0,u1],[]⟩=pure [(a0,u0),(a1,u1)]):HB x st [a0,a1]:=fun _ _ _ _ _ _ us hl=>match us,hl with | [_,_],_=>h
theorem DG {a0 a1 a2:Str}(h:∀{kV doc pm:Value} {an:Option Addr} {cdv ct u0 u1 u2:Value},bindArgs (PySem.W.fnOf x x (bR st) (bL st) (aM st) .none kV doc pm an cdv ct) ⟨[u0,u1,u2],[]⟩=pure [(a0,u0),(a1,u1),(a2,u2)]):HB x st [a0,a1,a2]:=fun _ _ _ _ _ _ us hl=>match us,hl with | [_,_,_],_=>h
theorem DK {a0 a1 a2 a3:Str}(h:∀{kV doc pm:Value} {an:Option Addr} {cdv ct u0 u1 u2 u3:Value},bindArgs (PySem.W.fnOf x x (bR st) (bL st) (aM st) .none kV doc pm an cdv ct) ⟨[u0,u1,u2,u3],[]⟩=pure [(a0,u0),(a1,u1),(a2,u2),(a3,u3)]):HB x st [a0,a1,a2,a3]:=fun _ _ _ _ _ _ us hl=>match us,hl with | [_,_,_,_],_=>h
theorem DN {a0 a1 a2 a3 a4:Str}(h:∀{kV doc pm:Value} {an:Option Addr} {cdv ct u0 u1 u2 u3 u4:Value},bindArgs (PySem.W.fnOf x x (bR st) (bL st) (aM st) .none kV doc pm an cdv ct) ⟨[u0,u1,u2,u3,u4],[]⟩=pure [(a0,u0),(a1,u1),(a2,u2),(a3,u3),(a4,u4)]):HB x st [a0,a1,a2,a3,a4]:=fun _ _ _ _ _ _ us hl=>match us,hl with | [_,_,_,_,_],_=>h
theorem cu.ok (F:cu K x st)(X:K.In h)(G:h.Ns mainGlobals mg)(S:FnScope N ps (aM st))(hr:∀f,RT P w K mg base k f N x st b)
  (hb:HB x st ps:=by first |exact Dy rfl |exact Dz rfl |exact DG rfl |exact DK rfl |exact DN rfl) (hp:ps.length<=N.length:=by decide):bf P w K mg base (k + 1) x ps.length (cI N.length b):=by
 obtain⟨f,d,D⟩:=F.at X G hb;exact D.ok S (hr f) hp
theorem bf.up {j n:Nat}{g:G}(a:bf P w K mg base j x n g)(h:j<=k:=by decide):bf P w K mg base k x n g:=a.mono h
theorem jq.up {j n:Nat}{g:G}(a:jq P w K mg base j x n g)(h:j<=k:=by decide):jq P w K mg base k x n g:=a.mono h
theorem jN.up {j n:Nat}{C:Addr}{g:G}(a:jN P w K mg base j C n g)(h:j<=k:=by decide):jN P w K mg base k C n g:=a.mono h
theorem jO.up {j n:Nat}{C:Addr}{m:Str}{g:G}(a:jO P w K mg base j C m n g)(h:j<=k:=by decide):jO P w K mg base k C m n g:=a.mono h
theorem dI.up {j n:Nat}{C:Addr}{m:Str}{g:G}(a:dI P w K mg base j C m n g)(h:j<=k:=by decide):dI P w K mg base k C m n g:=a.mono h
theorem dH.up {j n:Nat}{C:Addr}{g:G}(a:dH P w K mg base j C n g)(h:j<=k:=by decide):dH P w K mg base k C n g:=a.mono h
theorem fL.up {j n:Nat}{C:Addr}{m:Str}{g:G}(a:fL P w K mg base j C m n g)(h:j<=k:=by decide):fL P w K mg base k C m n g:=a.mono h
end
end E3
namespace L2
open PySem PySem.Spec PyProof.Rows
noncomputable def Rg (N:List Str) (psc:Scope) (xs:List Str) (cs:List (Str×Nat)) (scope:Scope):Bool:=
 scope.kind==.function && xs.all (fun x=>scope.names.lookup x==some .local) && decide ((xs ++ cs.map (·.1)).Nodup) &&
 scope.names.all (fun y=>y.2 !=.cell && (y.2 !=.local || scope.names.lookup y.1==some .local) && (y.2 !=.free || (psc.names.lookup y.1==some .cell || psc.names.lookup y.1==some .free))) &&
 cs.all (fun p=>N[p.2]? ==some p.1 && (psc.names.lookup p.1==some .cell || psc.names.lookup p.1==some .free) && ((bZ psc scope.names).lookup p.1==some .cell || (bZ psc scope.names).lookup p.1==some .free))
structure CompOkT (N:List Str)(psc:Scope)(xs:List Str)(cs:List (Str×Nat))(scope:Scope):Prop where
 kind:scope.kind=.function
 own:∀x∈xs,scope.names.lookup x=some .local
 nd:(xs ++ cs.map (·.1)).Nodup
 cell:∀y∈scope.names,y.2≠ .cell
 names:∀y∈scope.names,y.2=.local->scope.names.lookup y.1=some .local
 has:∀y∈scope.names,y.2=.free->psc.names.lookup y.1=some .cell\/psc.names.lookup y.1=some .free
 cap:∀p∈cs,N[p.2]? =some p.1/\(psc.names.lookup p.1=some .cell\/psc.names.lookup p.1=some .free)/\((bZ psc scope.names).lookup p.1=some .cell\/(bZ psc scope.names).lookup p.1=some .free)
end L2
namespace E3
open PySem PySem.Spec PyProof.Rows L2
end E3
namespace L2
open PySem PySem.Spec PyProof.Rows
end L2
namespace E3
open PySem PySem.Spec PyProof.Rows L2
end E3
namespace L2
open PySem PySem.Spec PyProof.Rows
end L2
namespace E3
open PySem PySem.Spec PyProof.Rows L2
end E3
namespace E3
open PySem L2
end E3
namespace L2
open PySem PySem.Spec PyProof.Rows
end L2
namespace E3
open PySem PySem.Spec PyProof.Rows L2
end E3
namespace E3
open PySem PySem.Spec PyProof.Rows L2 PySem.W
section
variable {n:Nat}{lt:Nat->Nat->Option Bool}{le:Nat->Nat->Prop}
def Pm (n:Nat)(p:Array Nat):Prop:=p.Perm (List.range n).toArray
theorem zT {p q:Array Nat}{i j:Nat}(h:p[i]? =q[j]?):p.getD i 0=q.getD j 0:=by
 rw[Uh,Uh,h]
theorem Rm {p:Array Nat}{i j:Nat}(hj:j<=p.size)(k:Nat):(kas_rev p i j).getD k 0=if i<=k/\k<j then p.getD (i + j - 1 - k) 0 else p.getD k 0:=by
 have:=getElem?_mirror_all (xs:=p) (i:=i) hj k
 split
 ·rename_i h;rw[tG h]at this;exact zT this
 ·rename_i h;rw[Rn h]at this;exact zT this
def Up (le:Nat->Nat->Prop)(p:Array Nat)(m:Nat):Prop:=∀i j,i<=j->j<m->le (p.getD i 0) (p.getD j 0)
def Dn (le:Nat->Nat->Prop)(p:Array Nat)(m:Nat):Prop:=∀i j,i<=j->j<m->le (p.getD j 0) (p.getD i 0)
def Al (le:Nat->Nat->Prop)(p:Array Nat)(m q:Nat):Prop:=∀i j,m - (q + 1)<=i->i<m->m - (q + 1)<=j->j<m->le (p.getD i 0) (p.getD j 0)
variable (hn:0<n)(rf:∀i,le i i)(tr:∀i j k,le i j->le j k->le i k)(H:∀i j,i<n->j<n->∃b,lt i j=some b/\(b=true->le i j)/\(b=false->le j i))
include rf tr
include hn H
end
end E3
namespace L2
open PySem PySem.Spec PyProof.Rows
end L2
namespace E3
open PySem PySem.Spec PyProof.Rows L2
section
variable {X:Cx}{Wx:XW}
def XP (X:Cx)(D:Ends)(f:Flow)(s':Shared):Prop:=match f with
 |.ret u=>∃v H',s'.os=X.s₀.os/\AllBare s'.gens/\Un X.fs [] X.H₀ H' X.s₀.heap s'.heap/\bQ X.prog X.w H' s'.heap/\RelV v u/\D.rt v H'
 |.brk=>∃σ' H',D.bk σ' H'
 |.cont=>∃σ' H',D.ct σ' H'
 |.next=>False
end
def Du (mg:Mgx)(base:Heap):Prop:=∃bm o,mg "__builtins__"=some (.ref bm)/\bm≠builtinsNs/\bm≠mainGlobals/\base.get? bm=some o/\o.cls=.type "module"/\o.dict=some builtinsNs/\o.data=.plain
structure MkOk (X:Cx)(nm:Str)(i:FnT)(caps:List (Str×Nat))(cl:List (Str×Addr))(c Pt:Addr)(j:Nat):Prop where
 ex:X.ex=[]
 fn:∀x,X.fn x=true
 st:∃params body scope,i.st=.FunctionDef i.x params body [] none [] scope none i.x i.pos/\((params.defaults=[]/\i.dd=[])\/∃n a p,params.defaults=[.Constant (.int n) a p]/\i.dd=[n]/\cl≠ [])/\params.kw_defaults=[]/\params.kwonlyargs=[]/\annTrees params none X.env=[]
 q:qualnameIn X.env i.x i.x=i.q
 code:X.env.code=.ref c
 tab:PySem.W.tabIn X.K nm=some (c,Pt)
 hd:PySem.W.codeHdIn X.K c Pt=true
 bm:Du X.mg X.base
 clo:closureFor (aM i.st) X.env=pure cl
 nam:cl.map (·.1)=caps.map (·.1)
 qL:caps.map (·.1)=i.fr
 cel:∀p∈cl,X.env.cells.lookup p.1=some p.2
 cap:∀p∈caps,X.N[p.2]? =some p.1/\X.env.scope.names.lookup p.1=some .cell/\p.2≠j
 nd:X.N.Nodup
 jx:X.N[j]? =some i.x
 jl:X.env.scope.names.lookup i.x=some .local
 db:(i.x==("__debug__":Str))=false
 cd:(i.x==("__classdict__":Str))=false
structure FnScopeC (N ps fr:List Str)(sc:Scope):Prop where
 kind:sc.kind=.function
 co:sc.isCoroutine=false
 gen:sc.isGenerator=false
 nd:N.Nodup
 pre:N.take ps.length=ps
 suf:N.drop (N.length - fr.length)=fr
 len:ps.length + fr.length<=N.length
 par:∀x∈ps,sc.names.lookup x=some .local
 fre:∀x∈fr,sc.names.lookup x=some .free
 all:∀y∈sc.names,y.2=.free->y.1∈fr
 noc:∀y∈sc.names,y.2≠ .cell
noncomputable def jK (N:List Str) (vs cvs:List V):L2.St:=vs.map some ++ (List.replicate (N.length - vs.length - cvs.length) none ++ cvs.map some)
noncomputable def iR (np n:Nat) (ds:List D):Env:=(ds.take np).map .val ++ (List.replicate (n - ds.length) .un ++ (ds.drop np).map .val)
def iU (np n:Nat)(b:S):G:=fun ds M=>bA (b (iR np n ds) M)
noncomputable def qH (P:Program) (w:World) (K:Fgx) (mg:Mgx) (base:Heap) (N:List Str) (i:FnT) (f:Addr) (cd:Value) (cl:List (Str×Addr)) (A:Around) (outer:List PySem.Env) (s:Shared) (H:Hp):Cx where
 prog:=P
 w:=w
 K:=K
 mg:=mg
 base:=base
 A:=A.deeper (PySem.W.envX i.q (aM i.st) s.heap.objs.size f cd cl)
 N:=N
 s₀:=s
 H₀:=H
 env:=PySem.W.envX i.q (aM i.st) s.heap.objs.size f cd cl
 outer:=outer
 stack:=PySem.W.envX i.q (aM i.st) s.heap.objs.size f cd cl::outer
 ex:=[]
 calm:=true
 fn:=fun _=>false
 pn:=[]
 xe:=fun _ _=>False
theorem gk.get {H:Hp}:∀{cl:List (Str×Addr)} {vs:List V} {j:Nat} {p:Str×Addr},gk H cl vs->cl[j]? =some p->∃v u o,vs[j]? =some v/\RelV v u/\H p.2=some (.frz o (.own p.2))/\o.data=.cell (some u)
  | [],_,_,_,_,e=>by simp at e
  |q::cl,_,0,p,h,e=>by
    obtain⟨v,ws,u,o,e1,r,g,d,_⟩:=h
    simp at e
    subst e e1;exact⟨v,u,o,rfl,r,g,d⟩
  |q::cl,_,j + 1,p,h,e=>by
    obtain⟨v,ws,u,o,e1,_,_,_,h⟩:=h;subst e1;exact gk.get (j:=j) h (by simpa using e)
theorem gk.len {H:Hp}:∀{cl:List (Str×Addr)} {vs:List V},gk H cl vs->vs.length=cl.length
  | [],_,h=>by rw[show _=[] from h];rfl
  |q::cl,_,h=>by
    obtain⟨v,ws,u,o,e1,_,_,_,h⟩:=h;subst e1
    simp[h.len]
theorem qZ {β:Type}:∀{l:List (Str×β)} {y:Str} {u:β},(l.map (·.1)).Nodup->(y,u)∈l->l.lookup y=some u
  | [],_,_,_,h=>nomatch h
  |(z,v)::l,y,u,nd,h=>by
    have nd':=U_.mp nd;rw[Uc];rcases Ss.mp h with hm |hm
    · obtain⟨rfl,rfl⟩:=Prod.mk.inj hm;rw[TF]
    · have:(y==z)=false:=by
        rw[Tt];exact fun z'=>nd'.1 (T6.mpr ⟨_,hm,z'⟩)
      rw[this];exact qZ nd'.2 hm
theorem Dt {α β:Type}:∀{l:List α} {m:List β},l.length=m.length->(l.zip m).map (·.1)=l
  | [],[],_=>rfl
  | [],_::_,h=>by simp at h
  |_::_,[],h=>by simp at h
  |a::l,b::m,h=>by
    rw[V4,R5,Dt (by simpa using h)]
theorem zip_get {α β:Type}:∀{l:List α} {m:List β} {i:Nat} {a:α} {b:β},l[i]? =some a->m[i]? =some b->(a,b)∈l.zip m
  | [],_,_,_,_,h,_=>by simp at h
  |_::_,[],_,_,_,_,h=>by simp at h
  |a::l,b::m,0,_,_,h1,h2=>by
    simp at h1 h2
    subst h1 h2
    simp
  |a::l,b::m,i + 1,_,_,h1,h2=>by
    rw[V4];exact RP _ (zip_get (i:=i) (by simpa using h1) (by simpa using h2))
section
variable {P:Program}{w:World}{K:Fgx}{mg:Mgx}{base:Heap}{k:Nat}{i:FnT}{N ps:List Str}{b:S}
theorem Gv {fr:List Str}{f:Addr}{cd:Value}{cl:List (Str×Addr)}{A:Around}{outer:List PySem.Env}{s:Shared}{H:Hp}{us:List Value}{vs cvs:List V}{h':Heap}{tk:Nat}(S:FnScopeC N ps fr (aM i.st))(hd:A.handled=none)(e0:Env0 P w K mg base A outer s H)
    (hl:vs.length=ps.length) (r:Vals vs us) (hfr:cl.map (·.1)=fr) (hc:gk H cl cvs) (hi:∀x y a,cl.lookup x=some a->cl.lookup y=some a->x=y)
    (hns:h'.Ns s.heap.objs.size (fun x=>(ps.zip us).reverse.lookup x)) (hk:∀b o,s.heap.get? b=some o->h'.get? b=some o):
    Inv (qH P w K mg base N i f cd cl A outer s H) [] (jK N vs cvs) H {s with heap:=h',toks:=tk}:=by
  have noA:∀b:Addr,b∉(qH P w K mg base N i f cd cl A outer s H).ex:=fun b z=>absurd (show b∈([]:List Addr) from z) (by simp);have ndf:(cl.map (·.1)).Nodup:=by rw[hfr, <-S.suf];exact S.nd.sublist (List.drop_sublist _ _)
  have cll:cvs.length=fr.length:=by rw[hc.len, <-hfr,RJ]
  have S_len:=S.len;have cellAt:∀y c,cl.lookup y=some c->∃u o,H c=some (.frz o (.own c))/\o.data=.cell (some u)/\h'.get? c=some o:=fun y c e=>by
    obtain⟨j,hj⟩:=List.getElem?_of_mem (Te e);obtain⟨v,u,o,_,_,g,d⟩:=hc.get hj;exact⟨u,o,g,d,hk _ _ (e0.hok _ _ g).1⟩
  have ulen:us.length=ps.length:=by rw[<-r.length];exact hl
  have ndP:ps.Nodup:=by rw[<-S.pre];exact S.nd.sublist (W_ _ _)
  refine ⟨⟨e0.mod,S.kind,rfl,rfl,Ro _,hi,fun y hy=>?_,(fun y c z=>nomatch z),fun _=>hd,Around.frames_deeper e0.frames,.inr ⟨rfl,rfl⟩,fun b z=>absurd z (noA b),e0.bs,e0.bsz,fun b _ _=>noA b,fun b z=>absurd z (noA b),e0.funs,e0.frf⟩,
    rfl,e0.bare,Un.kept hk,⟨_,hns,fun n y v h1 h2 h3=>?_⟩,fun y c h=>?_,e0.hok.fresh (Ro _),fun y c h=>?_,fun p hp=>absurd (show p∈([]:Pnx) from hp) (by simp),e0.hok.kept hk,?_⟩
  · have hy:(aM i.st).names.lookup y=some .cell\/(aM i.st).names.lookup y=some .free:=hy;rcases hy with hy |hy
    · exact absurd rfl (S.noc _ (Te hy))
    · have:y∈cl.map (·.1):=by rw[hfr];exact S.all _ (Te hy) rfl
      obtain⟨p,hp,rfl⟩:=T6.mp this;exact⟨p.2,qZ ndf hp⟩
  · unfold jK at h2
    by_cases hn:n<vs.length
    · rw[R0 (by simpa using hn),Rx]at h2;have ha:vs[n]? =some v:=by
        cases e:vs[n]? with
        |none=>rw[e]at h2;cases h2
        |some a=>rw[e]at h2;cases h2;rfl
      obtain⟨u,hu,rv⟩:=r.get ha;have hp:ps[n]? =some y:=by rw[<-S.pre,Vd (by omega)];exact h1
      refine⟨u,rv,.inl ⟨S.par y (R9 hp),?_⟩⟩;refine qZ ?_ (List.mem_reverse.mpr (zip_get hp hu));rw[List.map_reverse,Dt ulen.symm];exact(List.reverse_perm _).nodup_iff.mpr ndP
    · rw[RZ (by simpa using hn),RJ]at h2
      by_cases hn2:n - vs.length<N.length - vs.length - cvs.length
      · rw[R0 (by simpa using hn2),SJ,tG hn2]at h2;cases h2
      · rw[RZ (by simpa using hn2),TX,Rx]at h2;have ha:cvs[n - vs.length - (N.length - vs.length - cvs.length)]? =some v:=by
          cases e:cvs[n - vs.length - (N.length - vs.length - cvs.length)]? with
          |none=>rw[e]at h2;cases h2
          |some a=>rw[e]at h2;cases h2;rfl
        have hf:fr[n - vs.length - (N.length - vs.length - cvs.length)]? =some y:=by
          have:(N.drop (N.length - fr.length))[n - vs.length - (N.length - vs.length - cvs.length)]? =some y:=by
            rw[W9, <-h1];congr 1;omega
          rw[S.suf]at this;exact this
        rw[<-hfr,Rx,Ru]at hf;obtain⟨p,hp,rfl⟩:=hf;obtain⟨v',u,o,ev,ru,g,d⟩:=hc.get hp;rw[ha]at ev;cases ev;refine⟨u,ru,.inr ⟨.inr (S.fre _ (by rw[<-hfr];exact T6.mpr ⟨p,R9 hp,rfl⟩)),p.2,qZ ndf (R9 hp),o,hk _ _ (e0.hok _ _ g).1,d⟩⟩
  · obtain⟨u,o,_,d,g⟩:=cellAt y c h;exact⟨some u,o,g,d⟩
  · obtain⟨u,o,g,_,_⟩:=cellAt y c h;exact .inr ⟨rfl,o,_,g⟩
  · unfold jK;show _=N.length;rw[RG,RG,RJ,TX,RJ];omega
theorem Pu {Pl:Pl}{H:Hp}{M:Mm}{ds cds:List D}{vs cvs:List V}(hk:Hk K mg Pl H M)(hl:vs.length + cvs.length<=N.length)(h:aq K Pl H ds vs)(hc:aq K Pl H cds cvs):
  Ok K mg Pl H Pl (List.replicate N.length none) H M (jK N vs cvs) (iR ds.length N.length (ds ++ cds)):=by
 have hd:=h.len;have hd2:=hc.len;have ee:iR ds.length N.length (ds ++ cds)=ds.map .val ++ (List.replicate (N.length - vs.length - cvs.length) .un ++ cds.map .val):=by
  unfold iR;rw[VH,List.drop_left,RG,hd,hd2,Nat.sub_sub]
 rw[ee];refine⟨hk,LtE.refl Pl H,hk.here,fun n s e=>?_,fun a z=>?_,fun n j a e1 _=>?_,by simp;omega,by simp[jK];omega⟩
 ·have e0:((List.replicate N.length (none:Option Addr))[n]?).join=none:=by
   rw[SJ]
   split<;>rfl
  rw[e0];unfold jK
  by_cases hi:n<ds.length
  ·rw[R0 (by simpa using hi),Rx,Rr hi]at e;simp only[Ui,Xa]at e;subst e;obtain⟨v,ev,p⟩:=h.get (Rr hi);refine⟨v,?_,p⟩;rw[R0 (by rw[RJ];omega),Rx,ev];rfl
  ·rw[RZ (by simpa using hi),RJ]at e
   by_cases h2:n - ds.length<N.length - vs.length - cvs.length
   ·rw[R0 (by simpa using h2),SJ,tG h2]at e;cases e;exact True.intro
   ·rw[RZ (by simpa using h2),TX,Rx,Ru]at e;obtain⟨d,ed,rfl⟩:=e;obtain⟨v,ev,p⟩:=hc.get ed;rw[<-hd]at ev;refine⟨v,?_,p⟩;rw[RZ (by rw[RJ];omega),RJ,RZ (by rw[TX];omega),TX,Rx,ev];rfl
 ·exact absurd (Wm z) (by simp)
 ·rw[SJ]at e1;split at e1<;>cases e1
def iD (P:Program)(w:World)(K:Fgx)(mg:Mgx)(base:Heap)(k:Nat)(i:FnT)(n:Nat)(g:G):Prop:=
 ∀(A:Around) (outer:List PySem.Env) (s:Shared) (H:Hp) (us:List Value) (vs:List V) (Q:VK) (E:XK) (f:Addr) (caps:List (Str×D)) (Pl:Pl) (M:Mm) (ds:List D) (d:D) (M':Mm),Room k A->Env0 P w K mg base A outer s H->Vals vs us->vs.length=n->
  Hk K mg Pl H M->gU K mg Pl H f i caps->aq K Pl H ds vs->g (ds ++ caps.map (·.2)) M=some (.v d,M')->(∀P' v H',LtE Pl H P' H'->Hk K mg P' H' M'->Is K P' H' d v->Q v H')->codeAny (model P w) A (.call (.ref f) ⟨us,[]⟩) (CR d8 outer P w H s Q E) s
theorem iD.mono {j:Nat}{n:Nat}{g:G}(a:iD P w K mg base j i n g)(h:j<=k):iD P w K mg base k i n g:=fun A outer s H us vs Q E f caps Pl M ds d M' hr=>a A outer s H us vs Q E f caps Pl M ds d M' (hr.mono h)
def gj (i:FnT)(ps:List Str)(n:Nat)(dn:List Int):Prop:=n + dn.length=ps.length/\∀(H:Hp) (s:Shared) (mgv:Value) (cl:List (Str×Addr)) (dV doc ctv cd:Value) (us:List Value),us.length=n->gq H i.dd dV->(∀a o u,H a=some (.frz o u)->s.heap.get? a=some o)->
 ∃us',Vals (dn.map V.int) us'/\BindsTo s (PySem.W.fnX i.x i.q (bR i.st) (bL i.st) (aM i.st) cl dV .none doc mgv none cd ctv) ⟨us,[]⟩ (ps.zip (us ++ us'))
theorem zX {K:Fgx}{P:Pl}{H:Hp}:∀dn:List Int,aq K P H (dn.map D.int) (dn.map V.int)
 | []=>rfl
 |_::r=>⟨_,_,rfl,rfl,zX r⟩
theorem zY {K:Fgx}{P:Pl}{H:Hp}:∀{ds es:List D} {vs ws:List V},aq K P H ds vs->aq K P H es ws->aq K P H (ds ++ es) (vs ++ ws)
  | [],_,_,_,h,g=>by
    obtain rfl:=h;exact g
  |_::_,_,_,_,⟨v,r,e,h,t⟩,g=>by
    subst e;exact⟨v,_,rfl,h,zY t g⟩
theorem zK {n:Nat}{dn:List Int}{g:G}(S:FnScopeC N ps i.fr (aM i.st))(hbn:gj i ps n dn)(hg:∀ds cs M,ds.length=n->g (ds ++ cs) M=iU ps.length N.length b ((ds ++ dn.map .int) ++ cs) M)
    (hb:∀f cd cl A outer s H,Room k (A.deeper (PySem.W.envX i.q (aM i.st) s.heap.objs.size f cd cl))->SB (qH P w K mg base N i f cd cl A outer s H) W0 (bL i.st) b):iD P w K mg base (k + 1) i n g:=by
  intro A outer s H us0 vs0 Q E f caps Pl M ds0 d M' hr e0 r0 hn0 hk fc is0 e q;obtain⟨cl,dV,doc,ctv,c,cvs,e1,⟨e2,edf⟩,⟨e3,hfr'⟩,e4,e5,e6⟩:=fc;obtain⟨oc,fs,t,c1,c2,c3⟩:=e2;have ho:s.heap.get? f=some (zJ mg i cl dV doc ctv c):=(e0.hok f _ e1).1;have hcr:s.heap.CodeRec (.ref c) i.q:=⟨c,oc,fs,t,rfl,(e0.hok c _ c1).1,c2,c3⟩;have lim:s.heap.NoLimit:=e0.mod.nolimit.keeps fun b o e=>(e0.bs b o e).1;obtain⟨us',rd,hbt⟩:=hbn.2 H s ((mg "__name__").getD .none) cl dV doc ctv (.ref c) us0 (by rw[<-r0.length];exact hn0) edf fun a o u z=>(e0.hok a _ z).1;rw[hg _ _ _ (by rw[<-hn0];exact is0.len.symm)]at e;have r:Vals (vs0 ++ dn.map V.int) (us0 ++ us'):=r0.append rd;have hn:(vs0 ++ dn.map V.int).length=ps.length:=by rw[RG,RJ,hn0];exact hbn.1
  have is:aq K Pl H (ds0 ++ dn.map D.int) (vs0 ++ dn.map V.int):=zY is0 (zX dn);clear is0 r0 rd hn0 hg;generalize us0 ++ us'=us at r hbt;generalize vs0 ++ dn.map V.int=vs at r hn is;generalize ds0 ++ dn.map D.int=ds at is e;have ulen:us.length=ps.length:=by rw[<-r.length];exact hn
  have kept:∀h':Heap,Heap.SameBut s.heap.objs.size (s.heap.push {cls:=.type "frame",data:=.dict #[]}) h'->∀b o,s.heap.get? b=some o->h'.get? b=some o:=fun h' hs b o g=>by
    rw[hs.2 b (RX (Rv g))];exact Rt _ g
  refine codeAny_call_function hr.depth ho rfl S.co S.gen rfl hcr (hbt _ _ _ _ ?_);refine wpAny_newFunctionEnv S.noc (fun y hy=>S.par _ (Vv hy).1) (fun h' hns hsame=>⟨lim.keeps (kept h' hsame),codeAny_func ?_⟩) S.kind;have cll:cvs.length=i.fr.length:=by rw[e5.len, <-hfr', <-e3,RJ]
  have S_len:=S.len;have dl:=is.len;have I:=Gv (P:=P) (w:=w) (base:=base) (f:=f) (cd:=.ref c) (A:=A) (outer:=outer) (tk:=s.toks + (ps.zip us).length) S hr.hd e0 hn r (e3.trans hfr') e5 e6 hns (kept h' hsame);have st0:=Pu (N:=N) (ds:=ds) (cds:=caps.map (·.2)) hk (by omega) is e4;rw[show ds.length=ps.length by omega]at st0;have hq:tS K mg W0 b {nx:=fun _ H'=>Q .non H',rt:=Q} (jK N vs cvs) H:=by
    unfold iU bA at e;split at e
    · rename_i d' M2 eb;cases e;exact⟨Pl,H,Pl,_,_,M,_,_,st0,eb,fun P' v H' l h i=>q P' v H' l h i⟩
    · rename_i env M2 eb;cases e;exact⟨Pl,H,Pl,_,_,M,_,_,st0,eb,fun P' Os' H' st' _ k'=>q P' .non H' k'.base k'.hk rfl⟩
    · rename_i c n M2 eb;cases e
    · cases e
  refine S_ (hb f (.ref c) cl A outer s H (hr.deeper _) [] _ (jK N vs cvs) H _ I hq) (fun fl s' hs=>?_) fun e s' hs=>False.elim hs
  cases fl with
  |ret u=>
    obtain⟨v,σ',H',J,rv,z⟩:=hs;exact⟨v,H',J.os,J.bare,J.base,J.hok,rv,z⟩
  |next=>
    obtain⟨σ',H',J,z⟩:=hs;exact⟨.non,H',J.os,J.bare,J.base,J.hok,rfl,z⟩
  |brk=>
    obtain⟨_,_,_,z⟩:=hs;exact False.elim z
  |cont=>
    obtain⟨_,_,_,z⟩:=hs;exact False.elim z
end
noncomputable def eV (caps:List (Str×Nat)) (env:PySem.Env):List (Str×Addr):=caps.map fun p=>(p.1,(env.cells.lookup p.1).getD 0)
section
variable (P:Program)(w:World)(K:Fgx)(mg:Mgx)(base:Heap)(k:Nat)(f:Addr)(N:List Str)(q:Str)(st:Stmt)(b:S)(c:Addr)(i:FnT)
abbrev qm:Prop:=∀(f:Addr) (cd:Value) (cl:List (Str×Addr)) (A:Around) (outer:List PySem.Env) (s:Shared) (H:Hp),Room k (A.deeper (PySem.W.envX i.q (aM i.st) s.heap.objs.size f cd cl))->SB (qH P w K mg base N i f cd cl A outer s H) W0 (bL i.st) b
end
section
variable {P:Program}{w:World}{K:Fgx}{mg:Mgx}{h base:Heap}{k:Nat}{f:Addr}{N ps:List Str}{x q:Str}{st:Stmt}{b:S}{c Pt:Addr}{i:FnT}
theorem gj.of {n:Nat}{dn:List Int}(hl:n + dn.length=ps.length)(hd:i.dd=[])(h:dn=[]/\∀(s:Shared) (mgv:Value) (cl:List (Str×Addr)) (doc ctv cd:Value) (us:List Value),us.length=ps.length->BindsTo s (PySem.W.fnX i.x i.q (bR i.st) (bL i.st) (aM i.st) cl .none .none doc mgv none cd ctv) ⟨us,[]⟩ (ps.zip us)):gj i ps n dn:=
 ⟨hl,fun H s mgv cl dV doc ctv cd us hu hD hH=>by
  obtain⟨rfl,h⟩:=h;rcases hD with⟨_,rfl⟩ |⟨z,_⟩
  ·exact⟨[],.nil,by rw[Sy];exact h s mgv cl doc ctv cd us (by rw[hu, <-hl];rfl)⟩
  ·exact absurd hd z⟩
theorem gj.dfl {n:Nat}{dn:List Int}{z:Int}(hl:n + dn.length=ps.length)(hd:i.dd=[z])
    (h:∀(s:Shared) (mgv:Value) (cl:List (Str×Addr)) (td:Addr) (doc ctv cd:Value) (us:List Value) (o:Obj) (m t:Nat),us.length=n->s.heap.get? td=some o->o.data=.seq #[.int z t] m->∃us',Vals (dn.map V.int) us'/\BindsTo s (PySem.W.fnX i.x i.q (bR i.st) (bL i.st) (aM i.st) cl (.ref td) .none doc mgv none cd ctv) ⟨us,[]⟩ (ps.zip (us ++ us'))):gj i ps n dn:=
  ⟨hl,fun H s mgv cl dV doc ctv cd us hu hD hH=>by
    rcases hD with⟨e,_⟩ |⟨_,td,o,its,m,rfl,g,ed,r⟩
    · rw[hd]at e;cases e
    · rw[hd]at r;obtain⟨t,rfl⟩:∃t,its= #[.int z t]:=by
        rcases its with⟨l⟩;have r:Vals [V.int z] l:=r
        cases r with
        |cons a b=>
          cases b;obtain⟨t,rfl⟩:=a;exact⟨t,rfl⟩
      exact h s mgv cl td doc ctv cd us o m t hu (hH td o _ g) ed⟩
theorem sX {a0:Str}(hd:i.dd=[])(h:∀{mgv:Value} {cl:List (Str×Addr)} {doc ctv cd u0:Value},bindArgs (PySem.W.fnX i.x i.q (bR i.st) (bL i.st) (aM i.st) cl .none .none doc mgv none cd ctv) ⟨[u0],[]⟩=pure [(a0,u0)]):gj i [a0] 1 []:=
 .of rfl hd ⟨rfl,fun _ _ _ _ _ _ us hl=>match us,hl with | [_],_=>.of_eq h⟩
theorem sY {a0 a1:Str}(hd:i.dd=[])(h:∀{mgv:Value} {cl:List (Str×Addr)} {doc ctv cd u0 u1:Value},bindArgs (PySem.W.fnX i.x i.q (bR i.st) (bL i.st) (aM i.st) cl .none .none doc mgv none cd ctv) ⟨[u0,u1],[]⟩=pure [(a0,u0),(a1,u1)]):gj i [a0,a1] 2 []:=
 .of rfl hd ⟨rfl,fun _ _ _ _ _ _ us hl=>match us,hl with | [_,_],_=>.of_eq h⟩
theorem tu {a0 a1 a2:Str}{z:Int}(hd:i.dd=[z])(h:∀{s:Shared} {mgv:Value} {cl:List (Str×Addr)} {td:Addr} {doc ctv cd u0 u1 u2:Value} {o:Obj} {m t:Nat},s.heap.get? td=some o->o.data=.seq #[.int z t] m->BindsTo s (PySem.W.fnX i.x i.q (bR i.st) (bL i.st) (aM i.st) cl (.ref td) .none doc mgv none cd ctv) ⟨[u0,u1,u2],[]⟩ [(a0,u0),(a1,u1),(a2,u2)]):gj i [a0,a1,a2] 3 []:=
 .dfl rfl hd fun _ _ _ _ _ _ _ us _ _ _ hl g e=>match us,hl with | [_,_,_],_=>⟨[],.nil,h g e⟩
theorem sZ {a0 a1 a2:Str}{z:Int}(hd:i.dd=[z])(h:∀{s:Shared} {mgv:Value} {cl:List (Str×Addr)} {td:Addr} {doc ctv cd u0 u1:Value} {o:Obj} {m t:Nat},s.heap.get? td=some o->o.data=.seq #[.int z t] m->BindsTo s (PySem.W.fnX i.x i.q (bR i.st) (bL i.st) (aM i.st) cl (.ref td) .none doc mgv none cd ctv) ⟨[u0,u1],[]⟩ [(a0,u0),(a1,u1),(a2,.int z t)]):gj i [a0,a1,a2] 2 [z]:=
 .dfl rfl hd fun _ _ _ _ _ _ _ us _ _ t hl g e=>match us,hl with | [_,_],_=>⟨[.int z t],.cons ⟨t,rfl⟩ .nil,h g e⟩
theorem qm.ok (S:FnScopeC N ps i.fr (aM i.st))(hb:qm P w K mg base k N b i)(hp:gj i ps ps.length []:=by first |exact sX rfl rfl |exact sY rfl rfl |exact tu rfl fun h₁ h₂=>BindsTo.of_defaults rfl h₁ h₂ rfl rfl):iD P w K mg base (k + 1) i ps.length (iU ps.length N.length b):=zK S hp (fun ds cs M _=>by rw[Ud,Sy]) hb
noncomputable def nU (n:Nat) (dn:List Int) (g:G):G:=fun ds M=>g ((ds.take n ++ dn.map .int) ++ ds.drop n) M
theorem qm.okD {n : Nat} {dn : List Int} (S : FnScopeC N ps i.fr (aM i.st)) (hb : qm P w K mg base k N b i) (hp : gj i ps n dn := by exact sZ rfl fun h₁ h₂ => BindsTo.of_defaults rfl h₁ h₂ rfl rfl) : iD P w K mg base (k + 1) i n (nU n dn (iU ps.length N.length b)) := zK S hp (fun ds cs M hl=>by
 unfold nU;rw[<-hl,VH,List.drop_left]) hb
theorem iD.up {j n:Nat}{g:G}(a:iD P w K mg base j i n g)(h:j<=k:=by decide):iD P w K mg base k i n g:=a.mono h
end
end E3
namespace L2
open PySem PySem.Spec PyProof.Rows
end L2
namespace E3
open PySem PySem.Spec PyProof.Rows L2
end E3
namespace L2
open PySem PySem.Spec PyProof.Rows
end L2
namespace E3
open PySem PySem.Spec PyProof.Rows L2
mutual
def D.plain:D->Bool
 |.ref _=>false
 |.tup ds=>D.plains ds
 |.lst ds=>D.plains ds
 |_=>true
def D.plains:List D->Bool
 | []=>true
 |d::ds=>D.plain d && D.plains ds
end
noncomputable def jB (M:Mm) (d:D):Option D:=match vw M d with
 |.lst ds=>if D.plains (ds.map (vw M))=true then some (.lst (ds.map (vw M))) else none
 |.tup ds=>if D.plains (ds.map (vw M))=true then some (.tup (ds.map (vw M))) else none
 |e=>if D.plain e=true then some e else none
noncomputable def eZ (neg:Bool) (f g:E):E:=fun env M=>bnd (f env M) fun d M1=>bnd (g env M1) fun e M2=>match jB M2 d,jB M2 e with
 |some a,some b=>(aA (if neg then .ne else .eq) a b).map fun z=>(.v z,M2)
 |_,_=>none
section
variable {K:Fgx}{P:Pl}{H:Hp}{io:Nat->Addr}
mutual
theorem uM:∀{d:D} {v:V},D.plain d=true->Is K P H d v->Is K ⟨io,0,fun _=>False⟩ H d v
 |.non,_,_,h |.bl _,_,_,h |.int _,_,_,h |.str _,_,_,h=>h
 |.ref _,_,p,_=>by simp[D.plain]at p
 |.tup ds,_,p,⟨a,vs,e,t,q⟩=>⟨a,vs,e,t,qR (by simpa [D.plain] using p) q⟩
 |.lst ds,_,p,⟨a,vs,e,t,q⟩=>⟨a,vs,e,t.imp (fun z=>⟨fun y=>y,z.2⟩) id,qR (by simpa [D.plain] using p) q⟩
theorem qR:∀{ds:List D} {vs:List V},D.plains ds=true->aq K P H ds vs->aq K ⟨io,0,fun _=>False⟩ H ds vs
  | [],_,_,h=>h
  |d::ds,_,p,⟨v,r,e,h,t⟩=>by
    simp only[D.plains,RN]at p;exact⟨v,r,e,uM p.1 h,qR p.2 t⟩
end
theorem uN {mg:Mgx}{M:Mm}(hk:Hk K mg P H M):∀{ds:List D} {vs:List V},D.plains (ds.map (vw M))=true->aq K P H ds vs->aq K ⟨io,0,fun _=>False⟩ H (ds.map (vw M)) vs
  | [],_,_,h=>h
  |d::ds,_,p,⟨v,r,e,h,t⟩=>by
    simp only[R5,D.plains,RN]at p;refine⟨v,r,e,?_,uN hk p.2 t⟩;have p1:=p.1
    cases d with
    |ref k=>
      unfold vw at p1 ⊢;dsimp only at p1 ⊢
      split
      · rename_i es em;rw[em]at p1;obtain⟨i1,i2⟩:k<P.n/\v=.ref (P.io k):=h;obtain⟨vs,e1,q⟩:=hk.cell k _ em;exact⟨_,vs,i2,.inl ⟨fun y=>y,.inl e1⟩,qR (by simpa [D.plain] using p1) q⟩
      · rename_i nl;split at p1
        · rename_i es em;exact absurd em (nl es)
        · simp[D.plain]at p1
    |_=>exact uM (P:=P) p1 h
theorem zm {mg:Mgx}{M:Mm}{d a:D}{v:V}(hk:Hk K mg P H M)(e:jB M d=some a)(h:bF K P H (vw M d) v):bF K ⟨io,0,fun _=>False⟩ H a v:=by
 unfold jB at e;split at e
 ·rename_i ds ed;split at e
  ·rename_i hp;cases e;rw[ed]at h;obtain⟨b,vs,e1,t,q⟩:=h;exact⟨b,vs,e1,t,uN hk hp q⟩
  ·cases e
 ·rename_i ds ed;split at e
  ·rename_i hp;cases e;rw[ed]at h;obtain⟨b,vs,e1,t,q⟩:=h;exact⟨b,vs,e1,t,uN hk hp q⟩
  ·cases e
 ·rename_i y hy hy2;split at e
  ·rename_i hp;cases e;generalize vw M d=z at h hp hy hy2
   cases z with
   |lst ds=>exact absurd rfl (hy ds)
   |tup ds=>exact absurd rfl (hy2 ds)
   |_=>exact uM (P:=P) hp h
  ·cases e
end
section
variable {X:Cx}{Wx:XW}{m:Mode}{pos:Pos}
theorem xO {neg:Bool}{f g:E}{st:L2.St}{H:Hp}{Q:VK}(h:tE X.K X.mg Wx m (eZ neg f g) st H Q):mZ (rP X.K (if neg then .ne else .eq)) (tE X.K X.mg Wx .bor f) (tE X.K X.mg Wx .bor g) st H Q:=by
 obtain⟨P0,H0,P,Os,env,M,rr,M',k,e,q⟩:=h;unfold eZ at e;rcases dj e with⟨d,M1,e1,e⟩ |⟨c,n,e1,rfl⟩
 ·refine bM k e1 fun P1 v1 H1 l1 h1 i1=>?_;have k1:=k.next l1 h1
  rcases dj e with⟨d2,M2,e2,e⟩ |⟨c,n,e2,rfl⟩
  ·refine bM k1 e2 fun P2 v2 H2 l2 h2 i2=>?_;split at e
   ·rename_i a b ea eb;rw[Ru]at e;obtain⟨z,ez,e⟩:=e;cases e;unfold aA at ez;rw[Ru]at ez;obtain⟨t,et,rfl⟩:=ez;exact yP et (zm (io:=P2.io) h2 ea (b_.vw h2 (b_.lt l2 h1 i1))) (zm (io:=P2.io) h2 eb (b_.vw h2 i2)) (q P2 (.bl t) H2 (l1.trans l2) h2 (dh.of h2 rfl))
   ·cases e
  ·exact bM k1 e2 q
 ·exact bM k e1 q
theorem Pn {neg:Bool}{a b:Expr}{f g:E}(hu:X.A.units + 60<cLine)(ha:SE X Wx .bor a f)(hb:SE X Wx .bor b g)(hm:behindInMarks (nQ (if neg then .ne else .eq)) b=false:=by rfl):ST X Wx (.Compare a [nQ (if neg then .ne else .eq)] [b] pos) (eZ neg f g):=
 rK (BK (nR hu _) ha hb hm) fun _ _ _ h=>xO (Dj h)
end
end E3
namespace TS
open PySem PyProof.Rows PySem.W
variable {prog:Program}{w:World}{A:Around}{E:Value->Shared->Prop}{R:Shared->Prop}{α β:Type}
def Ok (prog:Program)(w:World)(A:Around)(E:Value->Shared->Prop)(R:Shared->Prop)(m:StateT SortSt Sem α)(st:SortSt)(P:α->SortSt->Prop):Prop:=
 ∀s,R s->kasC (model prog w) A E m (fun a st' s'=>R s'/\P a st') st s
section
variable {st:SortSt}{P Q:α->SortSt->Prop}
theorem aK {a:α}(h:P a st):Ok prog w A E R (pure a) st P:=fun s r=>kasC_pure ⟨r,h⟩
theorem Ok.mono {m:StateT SortSt Sem α}(h:Ok prog w A E R m st P)(q:∀a st',P a st'->Q a st'):Ok prog w A E R m st Q:=
 fun s r=>S_ (h s r) (fun _ _ z=>⟨z.1,q _ _ z.2⟩) fun _ _ e=>e
theorem aH {m:StateT SortSt Sem β}{f:β->StateT SortSt Sem α}(h:Ok prog w A E R m st fun b st'=>Ok prog w A E R (f b) st' P):Ok prog w A E R (m >>=f) st P:=
 fun s r=>kasC_bind (S_ (h s r) (fun _ s' z=>z.2 s' z.1) fun _ _ e=>e)
theorem h_ {P:SortSt->SortSt->Prop}(h:P st st):Ok prog w A E R get st P:=fun s r=>kasC_get ⟨r,h⟩
theorem mJ {P:PUnit->SortSt->Prop}{f:SortSt->SortSt}(h:P ⟨⟩ (f st)):Ok prog w A E R (modify f) st P:=fun s r=>kasC_modify ⟨r,h⟩
theorem Jb {P:PUnit->SortSt->Prop}{st':SortSt}(h:P ⟨⟩ st'):Ok prog w A E R (set st') st P:=fun s r=>by
 unfold kasC;rw[StateT.run_set];exact Rw ⟨r,h⟩
theorem mK {P:Unit->SortSt->Prop}{x:String}(h:P () st):Ok prog w A E R (liftM (rule x)) st P:=fun s r=>kasC_lift (wpAny_rule ⟨r,h⟩)
end
theorem Bm {f:Nat->β->StateT SortSt Sem (ForInStep β)}(I:Nat->β->SortSt->Prop){P:β->SortSt->Prop}:∀(n a:Nat) (b:β) (st:SortSt),I a b st->
    (∀i b st,a<=i->i<a + n->I i b st->Ok prog w A E R (f i b) st fun r st'=>match r with |.done b'=>P b' st' |.yield b'=>I (i + 1) b' st')->(∀b st,I (a + n) b st->P b st)->Ok prog w A E R (forIn (List.range' a n) b f) st P
  |0,a,b,st,h,_,q=>fun s r=>kasC_nil ⟨r,q b st h⟩
  |n + 1,a,b,st,h,hs,q=>fun s r=>by
    rw[List.range'_succ];refine kasC_cons (S_ (hs a b st (Ro _) (by omega) h s r) (fun z s' k=>?_) fun _ _ e=>e);obtain⟨z,st'⟩:=z
    cases z with
    |done b'=>exact k
    |yield b'=>exact Bm I n (a + 1) b' st' k.2 (fun i b st h1 h2=>hs i b st (by omega) (by omega)) (fun b st h=>q b st (by rw[show a + (n + 1)=a + 1 + n by omega];exact h)) s' k.1
theorem eF {a n:Nat}{b:β}{st:SortSt}{f:Nat->β->StateT SortSt Sem (ForInStep β)}{P:β->SortSt->Prop}(I:Nat->β->SortSt->Prop)(h:I a b st)
  (hs:∀i b st,a<=i->i<n->I i b st->Ok prog w A E R (f i b) st fun r st'=>match r with |.done b'=>P b' st' |.yield b'=>I (i + 1) b' st') (q:∀b st,I (max a n) b st->P b st):Ok prog w A E R (forIn [a:n] b f) st P:=
 fun s r=>kasC_range (Bm I (n - a) a b st h (fun i b st h1 h2=>hs i b st h1 (by omega)) (fun b st h=>q b st (by rw[show max a n=a + (n - a) by omega];exact h)) s r)
abbrev Rk:=Keyed->Nat
structure Bs (κ:SortKind)(a₀:Array Keyed)(st:SortSt):Prop where
 kd:kindOf st=κ
 nf:failedOf st=none
 pm:(arrOf st).Perm a₀
def gR (prog:Program)(w:World)(A:Around)(R:Shared->Prop)(κ:SortKind)(a₀:Array Keyed)(rk:Rk):Prop:=
 ∀x y,x∈a₀->y∈a₀->∀s,R s->wpAny (model prog w) A (keyLt' κ x.1 y.1) (fun c s'=>R s'/\c=decide (rk x<rk y)) (fun _ _=>False) s
variable {κ:SortKind}{a₀:Array Keyed}{rk:Rk}
theorem oZ {st:SortSt}{x y:Keyed}{P:Option Bool->SortSt->Prop}(C:gR prog w A R κ a₀ rk)(B:Bs κ a₀ st)(hx:x∈a₀)(hy:y∈a₀)(h:P (some (decide (rk x<rk y))) st):Ok prog w A E R (lt' x y) st P:=by
 rw[lt'_eq];refine aH (h_ fun s r=>?_);rw[B.kd];refine kasC_bind (kasC_lift (wpAny_attempt (S_ (C x y hx hy s r) (fun c s' z=>?_) fun _ _ hF=>hF.elim)));obtain⟨r',rfl⟩:=z;exact kasC_pure ⟨r',h⟩
theorem cD {st:SortSt}{a:Array Keyed}{i:Nat}{P:Keyed->SortSt->Prop}(hi:i<a.size)(h:P a[i] st):Ok prog w A E R (elem' a i) st P:=by
 rw[elem'_eq,Wc hi];exact aK h
noncomputable def vv (rk:Rk) (a:Array Keyed) (i:Nat):Nat:=rk (a.getD i (Value.none,Value.none))
theorem cj {a:Array Keyed}{i:Nat}(h:i<a.size):vv rk a i=rk a[i]:=by unfold vv;simp[Array.getD,h]
theorem lJ {a b:Array Keyed}{i j:Nat}(h:a[i]? =b[j]?):vv rk a i=vv rk b j:=by
 unfold vv;rw[Uh,Uh,h]
theorem oY {st:SortSt}{i j:Nat}{P:Option Bool->SortSt->Prop}(C:gR prog w A R κ a₀ rk)(B:Bs κ a₀ st)(hi:i<(arrOf st).size)(hj:j<(arrOf st).size)(h:P (some (decide (vv rk (arrOf st) i<vv rk (arrOf st) j))) st):Ok prog w A E R (ltAt' i j) st P:=by
 rw[ltAt'_eq];refine aH (h_ ?_);refine aH (cD hi (aH (cD hj ?_)));rw[cj hi,cj hj]at h;exact oZ C B (B.pm.mem_iff.mp (RW hi)) (B.pm.mem_iff.mp (RW hj)) h
def Up (v:Nat->Nat)(i j:Nat):Prop:=∀k l,i<=k->k<=l->l<j->v k<=v l
def Dn (v:Nat->Nat)(i j:Nat):Prop:=∀k l,i<=k->k<=l->l<j->v l<=v k
theorem Up.one {v:Nat->Nat}{i:Nat}:Up v i (i + 1):=fun k l h1 h2 h3=>by rw[show k=l by omega];exact Ro _
theorem Dn.one {v:Nat->Nat}{i:Nat}:Dn v i (i + 1):=fun k l h1 h2 h3=>by rw[show k=l by omega];exact Ro _
theorem Up.snoc {v:Nat->Nat}{i j:Nat}(h:Up v i j)(hij:i<j)(e:v (j - 1)<=v j):Up v i (j + 1):=fun k l h1 h2 h3=>by
 by_cases hl:l=j
 ·subst hl
  by_cases hk:k=l
  ·subst hk;exact Ro _
  ·exact RB (h k (l - 1) h1 (by omega) (by omega)) e
 ·exact h k l h1 h2 (by omega)
theorem Dn.snoc {v:Nat->Nat}{i j:Nat}(h:Dn v i j)(hij:i<j)(e:v j<=v (j - 1)):Dn v i (j + 1):=fun k l h1 h2 h3=>by
 by_cases hl:l=j
 ·subst hl
  by_cases hk:k=l
  ·subst hk;exact Ro _
  ·exact RB e (h k (l - 1) h1 (by omega) (by omega))
 ·exact h k l h1 h2 (by omega)
theorem Bs.arr {st:SortSt}(B:Bs κ a₀ st){x:Array Keyed}(h:x.Perm (arrOf st)):Bs κ a₀ (setArr st x):=⟨B.kd,B.nf,h.trans B.pm⟩
theorem Bs.size {st:SortSt}(B:Bs κ a₀ st):(arrOf st).size=a₀.size:=B.pm.size_eq
theorem sV {a:Array Keyed}{i j:Nat}(hj:j<=a.size)(k:Nat):vv rk (mirror a i j ((j - i) / 2)) k=if i<=k/\k<j then vv rk a (i + j - 1 - k) else vv rk a k:=by
 have h:=getElem?_mirror_all (xs:=a) (i:=i) hj k;split at h
 ·rename_i c;rw[tG c];exact lJ h
 ·rename_i c;rw[Rn c];exact lJ h
theorem rF {st:SortSt}{i j:Nat}{P:Unit->SortSt->Prop}(h:P () (setArr st (mirror (arrOf st) i j ((j - i) / 2)))):Ok prog w A E R (reverseSlice' i j) st P:=by
 rw[reverseSlice'_eq];exact mJ h
variable {prog:Program}{w:World}{A:Around}{E:Value->Shared->Prop}{R:Shared->Prop}{α β:Type}{κ:SortKind}{a₀:Array Keyed}{rk:Rk}
structure Fr (rk:Rk)(lo:Nat)(st st':SortSt):Prop where
 v:∀k,k<lo->vv rk (arrOf st') k=vv rk (arrOf st) k
 p:pendingOf st'=pendingOf st
theorem Fr.rfl {lo:Nat}{st:SortSt}:Fr rk lo st st:=⟨fun _ _=>by trivial,by trivial⟩
theorem Fr.trans {lo:Nat}{s1 s2 s3:SortSt}(a:Fr rk lo s1 s2)(b:Fr rk lo s2 s3):Fr rk lo s1 s3:=⟨fun k h=>(b.v k h).trans (a.v k h),b.p.trans a.p⟩
theorem Fr.rev {lo i j:Nat}{st:SortSt}(hi:lo<=i)(hj:j<=(arrOf st).size):Fr rk lo st (setArr st (mirror (arrOf st) i j ((j - i) / 2))):=
 ⟨fun k h=>(sV hj k).trans (Rn (by omega)),by trivial⟩
theorem wg {a:Array Keyed}{i j:Nat}(hj:j<=a.size)(h:∀k,i<=k->k<j->vv rk a k=vv rk a (j - 1))(k:Nat):vv rk (mirror a i j ((j - i) / 2)) k=vv rk a k:=by
 rw[sV hj]
 split
 ·rename_i c;rw[h k c.1 c.2,h _ (by omega) (by omega)]
 ·exact Eq.refl _
section
variable {st:SortSt}{lo nrem:Nat}(C:gR prog w A R κ a₀ rk)
include C
theorem Bl (hz:lo + nrem<=a₀.size){n:Nat}(h1:1<=n)(hn:n<=nrem)(B:Bs κ a₀ st)(u:Up (vv rk (arrOf st)) lo (lo + n)){P:Option (Option Nat)×Nat->SortSt->Prop}
  (q:∀m,n<=m->m<=nrem->Up (vv rk (arrOf st)) lo (lo + m)->(m=nrem\/vv rk (arrOf st) (lo + m)<vv rk (arrOf st) (lo + m - 1))->P (none,m) st):
  Ok prog w A E R (forIn [n:nrem] ((none,n):Option (Option Nat)×Nat) fun _ s=>do
   let x <-ltAt' (lo + s.2) (lo + s.2 - 1)
   match x with
   |some c=>if c=true then pure (.done (none,s.2)) else pure (.yield (none,s.2 + 1))
   |_=>pure (.done (some none,s.2))) st P:=by
 refine eF (fun i c st'=>st'=st/\c=(none,i)/\Up (vv rk (arrOf st)) lo (lo + i)) ⟨rfl,rfl,u⟩ ?_ ?_
 ·rintro i c st' h1 h2 ⟨rfl,rfl,u⟩;have sz:=B.size;refine aH (oY C B (by omega) (by omega) ?_);dsimp only
  by_cases hc:vv rk (arrOf st') (lo + i)<vv rk (arrOf st') (lo + i - 1)
  ·rw[tG (by simpa using hc)];exact aK (q i h1 (by omega) u (.inr hc))
  ·rw[Rn (by simpa using hc)];exact aK ⟨rfl,rfl,u.snoc (by omega) (Ut hc)⟩
 ·rintro c st' ⟨rfl,rfl,u⟩;rw[show max n nrem=nrem by omega]at u ⊢;exact q nrem hn (Ro _) u (.inl rfl)
theorem IV (hz:lo + nrem<=a₀.size)(h1:1<=nrem)(B:Bs κ a₀ st){P:Option Nat->SortSt->Prop}
  (q:∀m st',1<=m->m<=nrem->Bs κ a₀ st'->Up (vv rk (arrOf st')) lo (lo + m)->Fr rk lo st st'->P (some m) st'):Ok prog w A E R (countRun' lo nrem) st P:=by
 have sz:=B.size;rw[countRun'_eq];refine aH (Bl C hz (Ro 1) h1 B Up.one fun m m1 m2 u hor=>?_);dsimp only
 by_cases hm:m=nrem
 ·rw[tG (by simpa using hm)];exact aK (q m st m1 m2 B u Fr.rfl)
 rw[Rn (by simpa using hm)];have hlt:=hor.resolve_left hm;generalize hT:(bind (liftM (rule _)) _:StateT SortSt Sem (Option Nat))=T;have tail:∀st',Bs κ a₀ st'->Dn (vv rk (arrOf st')) lo (lo + m + 1)->Fr rk lo st st'->Ok prog w A E R T st' P:=by
  subst hT;intro st' B' d' f';refine aH (mK (aH (Ok.mono (P:=fun c s2=>∃i e,c=(none,i,e)/\1<=i/\i<=nrem/\Bs κ a₀ s2/\Dn (vv rk (arrOf s2)) lo (lo + i)/\Fr rk lo st s2/\e + 1<=i/\∀k,lo + i - (e + 1)<=k->k<lo + i->vv rk (arrOf s2) k=vv rk (arrOf s2) (lo + i - 1))
   (eF (fun i c s2=>∃e,c=(none,i,e)/\Bs κ a₀ s2/\Dn (vv rk (arrOf s2)) lo (lo + i)/\Fr rk lo st s2/\e + 1<=i/\∀k,lo + i - (e + 1)<=k->k<lo + i->vv rk (arrOf s2) k=vv rk (arrOf s2) (lo + i - 1)) ?_ ?_ ?_) ?_)))
  ·refine⟨0,rfl,B',d',f',by omega,fun k h1 h2=>?_⟩;rw[show k=lo + (m + 1) - 1 by omega]
  ·rintro i c s2 g1 g2 ⟨e,rfl,B2,d2,f2,he,ha⟩;have sz2:=B2.size;dsimp only;refine aH (oY C B2 (by omega) (by omega) ?_);dsimp only
   by_cases hc:vv rk (arrOf s2) (lo + i)<vv rk (arrOf s2) (lo + i - 1)
   ·rw[tG (by simpa using hc)];have dd:Dn (vv rk (arrOf s2)) lo (lo + i + 1):=d2.snoc (by omega) (S6 hc)
    split
    ·have ev:=wg (rk:=rk) (a:=arrOf s2) (i:=lo + i - (e + 1)) (j:=lo + i) (by omega) ha;refine aH (rF (aK ⟨0,rfl,B2.arr (VP _ _ _ _),?_,f2.trans (Fr.rev (by omega) (by omega)),by omega,fun k h1 h2=>?_⟩))
     ·intro k l k1 k2 k3;show vv rk (mirror _ _ _ _) l<=vv rk (mirror _ _ _ _) k;rw[ev,ev];exact dd k l k1 k2 (by omega)
     ·rw[show k=lo + (i + 1) - 1 by omega]
    ·exact aK ⟨0,rfl,B2,dd,f2,by omega,fun k h1 h2=>by rw[show k=lo + (i + 1) - 1 by omega]⟩
   ·rw[Rn (by simpa using hc)];refine aH (oY C B2 (by omega) (by omega) ?_);dsimp only
    by_cases hd:vv rk (arrOf s2) (lo + i - 1)<vv rk (arrOf s2) (lo + i)
    ·rw[tG (by simpa using hd)];exact aK ⟨i,e,rfl,by omega,by omega,B2,d2,f2,he,ha⟩
    ·rw[Rn (by simpa using hd)];have eq:vv rk (arrOf s2) (lo + i)=vv rk (arrOf s2) (lo + i - 1):=by omega
     refine aK ⟨e + 1,rfl,B2,d2.snoc (by omega) (by omega),f2,by omega,fun k h1 h2=>?_⟩;rw[show lo + (i + 1) - 1=lo + i by omega]
     by_cases hk:k=lo + i
     ·rw[hk]
     ·rw[eq];exact ha k (by omega) (by omega)
  ·rintro c s2 ⟨e,rfl,B2,d2,f2,he,ha⟩;rw[show max (m + 1) nrem=nrem by omega]at d2 he ha ⊢;exact⟨nrem,e,rfl,by omega,by omega,B2,d2,f2,he,ha⟩
  ·rintro c s2 ⟨i,e,rfl,i1,i2,B2,d2,f2,he,ha⟩;have sz2:=B2.size;dsimp only;generalize hL:(bind (reverseSlice' lo (lo + i)) _:StateT SortSt Sem (Option Nat))=L;have go:∀s3,Bs κ a₀ s3->Dn (vv rk (arrOf s3)) lo (lo + i)->Fr rk lo st s3->Ok prog w A E R L s3 P:=fun s3 B3 d3 f3=>by
    subst hL;have sz3:=B3.size;refine aH (rF (aH (Bl C hz i1 i2 (B3.arr (VP _ _ _ _)) ?_ fun m m1 m2 u _=>?_)))
    ·intro k l k1 k2 k3;show vv rk (mirror _ _ _ _) k<=vv rk (mirror _ _ _ _) l;rw[sV (by omega),sV (by omega),tG (by omega),tG (by omega)];exact d3 _ _ (by omega) (by omega) (by omega)
    ·exact aK (q m _ (by omega) m2 (B3.arr (VP _ _ _ _)) u (f3.trans (Fr.rev (Ro _) (by omega))))
   split
   ·have ev:=wg (rk:=rk) (a:=arrOf s2) (i:=lo + i - (e + 1)) (j:=lo + i) (by omega) ha;refine aH (rF (go _ (B2.arr (VP _ _ _ _)) ?_ (f2.trans (Fr.rev (by omega) (by omega)))));intro k l k1 k2 k3;show vv rk (mirror _ _ _ _) l<=vv rk (mirror _ _ _ _) k;rw[ev,ev];exact d2 k l k1 k2 k3
   ·exact go s2 B2 d2 f2
 by_cases hg:m > 1
 ·rw[tG hg];refine aH (oY C B (by omega) (by omega) ?_);dsimp only
  by_cases hr:vv rk (arrOf st) lo<vv rk (arrOf st) (lo + m - 1)
  ·rw[tG (by simpa using hr)];exact aK (q m st m1 m2 B u Fr.rfl)
  ·rw[Rn (by simpa using hr)];have al:∀k,lo<=k->k<lo + m->vv rk (arrOf st) k=vv rk (arrOf st) (lo + m - 1):=fun k k1 k2=>by
    have z1:=u lo k (Ro _) k1 k2;have z2:=u k (lo + m - 1) k1 (by omega) (by omega);omega
   have ev:=wg (rk:=rk) (a:=arrOf st) (i:=lo) (j:=lo + m) (by omega) al;refine aH (rF (tail _ (B.arr (VP _ _ _ _)) ?_ (Fr.rev (Ro _) (by omega))));have dn:Dn (vv rk (arrOf st)) lo (lo + m + 1):=Dn.snoc (fun k l k1 k2 k3=>by rw[al k k1 (by omega),al l (by omega) k3];exact Ro _) (by omega) (S6 hlt);intro k l k1 k2 k3;show vv rk (mirror _ _ _ _) l<=vv rk (mirror _ _ _ _) k;rw[ev,ev];exact dn k l k1 k2 k3
 ·rw[Rn hg];have e1:m=1:=by omega
  subst e1;exact tail st B (Dn.one.snoc (by omega) (S6 hlt)) Fr.rfl
end
variable {prog:Program}{w:World}{A:Around}{E:Value->Shared->Prop}{R:Shared->Prop}{α β:Type}{κ:SortKind}{a₀:Array Keyed}{rk:Rk}
theorem QD {a:Array Keyed}{src d:Nat}(hs:src<a.size)(hd:d<=src)(k:Nat):vv rk (bubble a src d) k=if k=src - d then vv rk a src else if src - d<k/\k<=src then vv rk a (k - 1) else vv rk a k:=by
 have h:=getElem?_bubble hs d hd k;split at h
 ·rename_i c;rw[tG c];exact lJ h
 ·rename_i c;rw[Rn c];split at h
  ·rename_i c;rw[tG c];exact lJ h
  ·rename_i c;rw[Rn c];exact lJ h
theorem IK {st:SortSt}{lo n ok:Nat}(C:gR prog w A R κ a₀ rk)(hz:lo + n<=a₀.size)(hk:1<=ok)(hn:ok<=n)(B:Bs κ a₀ st)(u:Up (vv rk (arrOf st)) lo (lo + ok)){P:Bool->SortSt->Prop}
  (q:∀st',Bs κ a₀ st'->Up (vv rk (arrOf st')) lo (lo + n)->Fr rk lo st st'->P true st'):Ok prog w A E R (binarySort' lo n ok) st P:=by
 rw[binarySort'_eq,show max ok 1=ok by omega];refine aH (eF (fun i c s2=>c=(none,())/\Bs κ a₀ s2/\Up (vv rk (arrOf s2)) lo (lo + i)/\Fr rk lo st s2) ⟨rfl,B,u,Fr.rfl⟩ ?_ ?_)
 ·rintro k c s2 k1 k2 ⟨rfl, B2, u2, f2⟩;have sz := B2.size;dsimp only;refine aH (Ok.mono (P:=fun c s3=>s3=s2/\∃l,c=(none,l,l)/\l<=k/\(∀i,i<l->vv rk (arrOf s2) (lo + i)<=vv rk (arrOf s2) (lo + k))/\∀i,l<=i->i<k->vv rk (arrOf s2) (lo + k)<=vv rk (arrOf s2) (lo + i))
   (eF (fun i c s3=>s3=s2/\∃l r,c=(none,l,r)/\l<=r/\r<=k/\r - l<=k - i/\(∀i,i<l->vv rk (arrOf s2) (lo + i)<=vv rk (arrOf s2) (lo + k))/\∀i,r<=i->i<k->vv rk (arrOf s2) (lo + k)<=vv rk (arrOf s2) (lo + i)) ?_ ?_ ?_) ?_)
  ·exact⟨rfl,0,k,rfl,by omega,by omega,by omega,fun i hi=>by omega,fun i h1 h2=>by omega⟩
  ·rintro i c s3 i1 i2 ⟨rfl,l,r,rfl,lr,rk',hm,hl,hr⟩;dsimp only
   by_cases hge:l >=r
   ·rw[tG hge];obtain rfl:l=r:=by omega
    exact aK ⟨rfl,l,rfl,rk',hl,hr⟩
   ·rw[Rn hge];refine aH (oY C B2 (by omega) (by omega) ?_);dsimp only
    by_cases hc:vv rk (arrOf s3) (lo + k)<vv rk (arrOf s3) (lo + (l + r) / 2)
    ·rw[tG (by simpa using hc)];refine aK ⟨rfl,l,(l + r) / 2,rfl,by omega,by omega,by omega,hl,fun j j1 j2=>?_⟩;exact RB (S6 hc) (u2 _ _ (by omega) (by omega) (by omega))
    ·rw[Rn (by simpa using hc)];refine aK ⟨rfl,(l + r) / 2 + 1,r,rfl,by omega,by omega,by omega,fun j j1=>?_,hr⟩;exact RB (u2 _ _ (by omega) (by omega) (by omega)) (Ut hc)
  ·rintro c s3 ⟨rfl,l,r,rfl,lr,rk',hm,hl,hr⟩;obtain rfl:l=r:=by omega
   exact⟨rfl,l,rfl,rk',hl,hr⟩
  ·rintro c s3 ⟨rfl,l,rfl,lk,hl,hr⟩;dsimp only;rw[moveDown'_eq];have eb:∀j,vv rk (bubble (arrOf s3) (lo + k) (lo + k - (lo + l))) j=_:=QD (by omega) (by omega);refine aH (mJ (aK ⟨rfl,B2.arr (bubble_perm _ _ _),fun i j i1 i2 i3=>?_,f2.trans ⟨fun j hj=>?_,rfl⟩⟩))
   ·show vv rk (bubble _ _ _) i<=vv rk (bubble _ _ _) j;rw[eb,eb];have hl':=fun i=>hl (i - lo);have hr':=fun i=>hr (i - lo)
    repeat' split
    ·exact Ro _
    ·have:=hr (j - 1 - lo) (by omega) (by omega);rw[show lo + (j - 1 - lo)=j - 1 by omega]at this;exact this
    ·omega
    ·omega
    ·exact u2 _ _ (by omega) (by omega) (by omega)
    ·omega
    ·have:=hl (i - lo) (by omega);rw[show lo + (i - lo)=i by omega]at this;exact this
    ·exact u2 _ _ (by omega) (by omega) (by omega)
    ·exact u2 _ _ (by omega) (by omega) (by omega)
   ·show vv rk (bubble _ _ _) j=_;rw[eb,Rn (by omega),Rn (by omega)]
 ·rintro c s2 ⟨rfl,B2,u2,f2⟩;rw[show max ok n=n by omega]at u2;exact aK (q s2 B2 u2 f2)
variable {prog:Program}{w:World}{A:Around}{E:Value->Shared->Prop}{R:Shared->Prop}{α β:Type}{κ:SortKind}{a₀:Array Keyed}{rk:Rk}
noncomputable def gal:Bool->Keyed->Array Keyed->Nat->Nat->Nat->StateT SortSt Sem (Option Nat):=sortPriv% PySem.Builtin.gallop
theorem Gg (b : Bool) (x : Keyed) (a : Array Keyed) (o n h : Nat) : gal b x a o n h = (do
 let f (i:Nat):StateT SortSt Sem (Option Bool):=do
  let y <-elem' a (o + i)
  if b then lt' y x else return (<-lt' x y).map (!·)
 let mut p:=0
 let mut q:=1
 let mut l:=0
 let mut u:=0
 let some c <-f h |return none
 if c then
  let m:=n - h
  for _ in [0:n] do
   if q >=m then break
   let some d <-f (h + q) |return none
   if !d then break
   p:=q
   q:=2 * q + 1
  l:=h + p + 1
  u:=h + min q m
 else
  let m:=h + 1
  for _ in [0:n] do
   if q >=m then break
   let some d <-f (h - q) |return none
   if d then break
   p:=q
   q:=2 * q + 1
  l:=h + 1 - min q m
  u:=h - p
 for _ in [0:n] do
  if l >=u then break
  let m:=l + (u - l) / 2
  let some d <-f m |return none
  if d then l:=m + 1 else u:=m
 return some u):=rfl
def thr (rk:Rk)(b:Bool)(x:Keyed):Nat:=if b then rk x else rk x + 1
theorem mH {st:SortSt}{b:Bool}{x:Keyed}{a:Array Keyed}{o n h:Nat}(C:gR prog w A R κ a₀ rk)(B:Bs κ a₀ st)(hx:x∈a₀)(ha:∀y∈a,y∈a₀)(hz:o + n<=a.size)(hh:h<n)(u:Up (vv rk a) o (o + n)){P:Option Nat->SortSt->Prop}
    (q:∀k,k<=n->(∀i,i<k->vv rk a (o + i)<thr rk b x)->(∀i,k<=i->i<n->thr rk b x<=vv rk a (o + i))->P (some k) st):Ok prog w A E R (gal b x a o n h) st P:=by
  rw[Gg]
  extract_lets f p0 q0 jp m1 m2
  have hf:∀{P:Option Bool->SortSt->Prop} i,i<n->P (some (decide (vv rk a (o + i)<thr rk b x))) st->Ok prog w A E R (f i) st P:=by
    intro P i hi hP;refine aH (cD (by omega) ?_);have hv:vv rk a (o + i)=rk a[o + i]:=cj (by omega);have hm:=ha _ (RW (i:=o + i) (by omega));unfold thr at hP;rw[hv]at hP
    cases b with
    |true=>exact oZ C B hm hx hP
    |false=>
      refine aH (oZ C B hx hm (aK ?_));have e:(!decide (rk x<rk a[o + i]))=decide (rk a[o + i]<rk x + 1):=by
        by_cases z:rk x<rk a[o + i]
        · rw[Tq z,R4 (by omega)];rfl
        · rw[R4 z,Tq (by omega)];rfl
      rw[Ui,e];exact hP
  generalize thr rk b x=t at hf q;have up:∀i j,i<=j->j<n->vv rk a (o + i)<=vv rk a (o + j):=fun i j h1 h2=>u _ _ (by omega) (by omega) (by omega);generalize hv:(fun i=>vv rk a (o + i))=v at *
  replace hf:∀{P:Option Bool->SortSt->Prop} i,i<n->P (some (decide (v i<t))) st->Ok prog w A E R (f i) st P:=by subst hv;exact hf
  replace q:∀k,k<=n->(∀i,i<k->v i<t)->(∀i,k<=i->i<n->t<=v i)->P (some k) st:=by subst hv;exact q
  replace up:∀i j,i<=j->j<n->v i<=v j:=by subst hv;exact up
  clear_value f
  have last:∀p r l k,l<=k->k<=n->(∀i,i<l->v i<t)->(∀i,k<=i->i<n->t<=v i)->Ok prog w A E R (jp () p r l k) st P:=by
    intro p r l k h1 h2 h3 h4;dsimp only [jp];refine aH (Ok.mono (P:=fun c s3=>s3=st/\∃l,c=(none,l,l)/\l<=n/\(∀i,i<l->v i<t)/\∀i,l<=i->i<n->t<=v i)
      (eF (fun i c s3=>s3=st/\∃l k,c=(none,l,k)/\l<=k/\k<=n/\k - l<=n - i/\(∀i,i<l->v i<t)/\∀i,k<=i->i<n->t<=v i) ⟨rfl,l,k,rfl,h1,h2,by omega,h3,h4⟩ ?_ ?_) ?_)
    · rintro i c s3 i1 i2 ⟨rfl,l,k,rfl,g1,g2,gm,g3,g4⟩;dsimp only
      by_cases hge:l >=k
      · rw[tG hge];obtain rfl:l=k:=by omega
        exact aK ⟨rfl,l,rfl,g2,g3,g4⟩
      · rw[Rn hge];refine aH (hf _ (by omega) ?_);dsimp only
        by_cases hc:v (l + (k - l) / 2)<t
        · rw[tG (by simpa using hc)];exact aK ⟨rfl,_,k,rfl,by omega,g2,by omega,fun j hj=>Ve (up j _ (by omega) (by omega)) hc,g4⟩
        · rw[Rn (by simpa using hc)];exact aK ⟨rfl,l,_,rfl,by omega,by omega,by omega,g3,fun j j1 j2=>RB (Ut hc) (up _ j j1 j2)⟩
    · rintro c s3 ⟨rfl,l,k,rfl,g1,g2,gm,g3,g4⟩;obtain rfl:l=k:=by omega
      exact⟨rfl,l,rfl,g2,g3,g4⟩
    · rintro c s3 ⟨rfl,l,rfl,g2,g3,g4⟩;exact aK (q l g2 g3 g4)
  clear_value jp
  refine aH (hf h hh ?_);dsimp only
  by_cases hc:v h<t
  · rw [tG (by simpa using hc)];refine aH (Ok.mono (P:=fun c s3=>s3=st/\∃p r,c=(none,p,r)/\v (h + p)<t/\h + p<n/\p<r/\(r >=m1\/t<=v (h + r)))
      (eF (fun i c s3=>s3=st/\∃p r,c=(none,p,r)/\v (h + p)<t/\h + p<n/\p<r/\i + 1<=r) ⟨rfl,0,1,rfl,hc,hh,by omega,by omega⟩ ?_ ?_) ?_)
    · rintro i c s3 i1 i2 ⟨rfl,p,r,rfl,g1,g2,g3,g4⟩;dsimp only
      by_cases hge:r >=m1
      · rw[tG hge];exact aK ⟨rfl,p,r,rfl,g1,g2,g3,.inl hge⟩
      · rw[Rn hge];have hr:h + r<n:=by simp only[m1]at hge;omega
        refine aH (hf _ hr ?_);dsimp only
        by_cases hd:v (h + r)<t
        · rw[Rn (by simpa using hd)];exact aK ⟨rfl,r,2 * r + 1,rfl,hd,hr,by omega,by omega⟩
        · rw[tG (by simpa using hd)];exact aK ⟨rfl,p,r,rfl,g1,g2,g3,.inr (by omega)⟩
    · rintro c s3 ⟨rfl,p,r,rfl,g1,g2,g3,g4⟩;exact⟨rfl,p,r,rfl,g1,g2,g3,.inl (by simp only[m1];omega)⟩
    · rintro c s3 ⟨rfl,p,r,rfl,g1,g2,g3,g4⟩;dsimp only[m1]at g4 ⊢;refine last _ _ _ _ (by omega) (by omega) (fun j hj=>Ve (up j (h + p) (by omega) g2) g1) fun j j1 j2=>?_;rcases g4 with g4 |g4
      · omega
      · exact RB g4 (up _ j (by omega) j2)
  · rw [Rn (by simpa using hc)];refine aH (Ok.mono (P:=fun c s3=>s3=st/\∃p r,c=(none,p,r)/\t<=v (h - p)/\p<=h/\p<r/\(r >=m2\/v (h - r)<t))
      (eF (fun i c s3=>s3=st/\∃p r,c=(none,p,r)/\t<=v (h - p)/\p<=h/\p<r/\i + 1<=r) ⟨rfl,0,1,rfl,by simpa using hc,by omega,by omega,by omega⟩ ?_ ?_) ?_)
    · rintro i c s3 i1 i2 ⟨rfl,p,r,rfl,g1,g2,g3,g4⟩;dsimp only
      by_cases hge:r >=m2
      · rw[tG hge];exact aK ⟨rfl,p,r,rfl,g1,g2,g3,.inl hge⟩
      · rw[Rn hge];have hr:r<=h:=by simp only[m2]at hge;omega
        refine aH (hf _ (by omega) ?_);dsimp only
        by_cases hd:v (h - r)<t
        · rw[tG (by simpa using hd)];exact aK ⟨rfl,p,r,rfl,g1,g2,g3,.inr hd⟩
        · rw[Rn (by simpa using hd)];exact aK ⟨rfl,r,2 * r + 1,rfl,by omega,hr,by omega,by omega⟩
    · rintro c s3 ⟨rfl,p,r,rfl,g1,g2,g3,g4⟩;exact⟨rfl,p,r,rfl,g1,g2,g3,.inl (by simp only[m2];omega)⟩
    · rintro c s3 ⟨rfl,p,r,rfl,g1,g2,g3,g4⟩;dsimp only[m2]at g4 ⊢;refine last _ _ _ _ (by omega) (by omega) (fun j hj=>?_) fun j j1 j2=>RB g1 (up _ j j1 j2);rcases g4 with g4 |g4
      · omega
      · exact Ve (up j (h - r) (by omega) (by omega)) g4
variable {prog:Program}{w:World}{A:Around}{E:Value->Shared->Prop}{R:Shared->Prop}{α β:Type}{κ:SortKind}{a₀:Array Keyed}{rk:Rk}
abbrev Sd (rk:Rk)(l:List Keyed):Prop:=l.Pairwise fun x y=>rk x<=rk y
structure Mg (rk:Rk)(T O X Y:List Keyed):Prop where
 x:Sd rk (O ++ X)
 y:Sd rk (O ++ Y)
 p:(O ++ (X ++ Y)).Perm T
theorem Mg.swap {T O X Y:List Keyed}(m:Mg rk T O X Y):Mg rk T O Y X:=⟨m.y,m.x,(Vs O Vt).trans m.p⟩
theorem Mg.go {T O X X' Y:List Keyed}(m:Mg rk T O (X ++ X') Y)(h:∀a∈X,∀b∈Y,rk a<=rk b):Mg rk T (O ++ X) X' Y:=by
 refine⟨by rw[R3];exact m.x,?_,by simpa only[R3] using m.p⟩;have h1:=Sx.mp m.x;have h2:=Sx.mp m.y;have h3:=Sx.mp h1.2.1;rw[R3];refine Sx.mpr ⟨h1.1,Sx.mpr ⟨h3.1,h2.2.1,h⟩,fun a ha b hb=>?_⟩;rcases T4.mp hb with hb |hb
 ·exact h1.2.2 a ha b (U0 _ hb)
 ·exact h2.2.2 a ha b hb
theorem Mg.fin {T O X:List Keyed}(m:Mg rk T O X []):Sd rk (O ++ X)/\(O ++ X).Perm T:=⟨m.x,by simpa using m.p⟩
structure Mh (rk:Rk)(T O X Y:List Keyed):Prop where
 x:Sd rk (X ++ O)
 y:Sd rk (Y ++ O)
 p:(X ++ Y ++ O).Perm T
theorem Mh.swap {T O X Y:List Keyed}(m:Mh rk T O X Y):Mh rk T O Y X:=⟨m.y,m.x,(Vm O Vt).trans m.p⟩
theorem Mh.go {T O X X' Y:List Keyed}(m:Mh rk T O (X' ++ X) Y)(h:∀a∈X,∀b∈Y,rk b<=rk a):Mh rk T (X ++ O) X' Y:=by
 have h1:=Sx.mp m.x;have h2:=Sx.mp m.y;have h3:=Sx.mp h1.1;refine⟨by rw[<-R3];exact m.x,?_,?_⟩
 ·refine Sx.mpr ⟨h2.1,Sx.mpr ⟨h3.2.1,h1.2.1,fun a ha b hb=>h1.2.2 a (RV _ ha) b hb⟩,fun a ha b hb=>?_⟩;rcases T4.mp hb with hb |hb
  ·exact h b hb a ha
  ·exact h2.2.2 a ha b hb
 ·refine List.Perm.trans ?_ m.p;simp only[R3];refine Vs X' ?_;rw[<-R3, <-R3];exact Vm O Vt
noncomputable def oM:Array Keyed->Array Keyed->StateT SortSt Sem (Array Keyed):=sortPriv% PySem.Builtin.mergeLo
noncomputable def oK:Array Keyed->Array Keyed->StateT SortSt Sem (Array Keyed):=sortPriv% PySem.Builtin.mergeHi
noncomputable def setG (g:Nat):StateT SortSt Sem Unit:=modify fun s=>SortSt.mk' (kindOf s) (arrOf s) (pendingOf s) g (failedOf s)
theorem G9 (a b : Array Keyed) : oM a b = (do
 rule "list.sort.merge-lo"
 let t:=a.size + b.size
 let fin (o:Array Keyed) (i j:Nat):=o ++ a.extract i a.size ++ b.extract j b.size
 let lst (o:Array Keyed) (i j:Nat):=o ++ b.extract j b.size ++ a.extract i a.size
 let mut o:Array Keyed:= #[<-elem' b 0]
 let mut i:=0
 let mut j:=1
 if j==b.size then return fin o i j
 if i + 1==a.size then return lst o i j
 let mut g:=gallopOf (<-get)
 for _ in [0:t] do
  let mut m:=0
  let mut n:=0
  for _ in [0:t] do
   let some c <-lt' (<-elem' b j) (<-elem' a i) |return fin o i j
   if c then
    o:=o.push (<-elem' b j);j:=j + 1;n:=n + 1;m:=0
    if j==b.size then return fin o i j
    if n >=g then break
   else
    o:=o.push (<-elem' a i);i:=i + 1;m:=m + 1;n:=0
    if i + 1==a.size then return lst o i j
    if m >=g then break
  rule "list.sort.gallop"
  g:=g + 1
  for _ in [0:t] do
   if g > 1 then g:=g - 1
   setG g
   let some k <-gal false (<-elem' b j) a i (a.size - i) 0 |return fin o i j
   m:=k
   if k > 0 then
    o:=o ++ a.extract i (i + k);i:=i + k
    if i + 1==a.size then return lst o i j
    if i==a.size then return fin o i j
   o:=o.push (<-elem' b j);j:=j + 1
   if j==b.size then return fin o i j
   let some k <-gal true (<-elem' a i) b j (b.size - j) 0 |return fin o i j
   n:=k
   if k > 0 then
    o:=o ++ b.extract j (j + k);j:=j + k
    if j==b.size then return fin o i j
   o:=o.push (<-elem' a i);i:=i + 1
   if i + 1==a.size then return lst o i j
   if m<7 && n<7 then break
  g:=g + 1
  setG g
 unsupported "internal:list.sort.merge-bound"):=rfl
variable {prog:Program}{w:World}{A:Around}{E:Value->Shared->Prop}{R:Shared->Prop}{α β:Type}{κ:SortKind}{a₀:Array Keyed}{rk:Rk}
def Sg (st st':SortSt):Prop:=∃g,st'=SortSt.mk' (kindOf st) (arrOf st) (pendingOf st) g (failedOf st)
theorem Sg.rfl {st:SortSt}:Sg st st:=⟨gallopOf st,by trivial⟩
theorem rG {st:SortSt}{g:Nat}{P:Unit->SortSt->Prop}(h:∀st',Sg st st'->P () st'):Ok prog w A E R (setG g) st P:=mJ (h _ ⟨g,by trivial⟩)
theorem Sg.trans {s1 s2 s3:SortSt}(a:Sg s1 s2)(b:Sg s2 s3):Sg s1 s3:=by
 obtain⟨g,rfl⟩:=a;obtain⟨g',rfl⟩:=b;exact⟨g',by trivial⟩
theorem Sg.bs {st st':SortSt}(a:Sg st st')(B:Bs κ a₀ st):Bs κ a₀ st':=by
 obtain⟨g,rfl⟩:=a;exact⟨B.kd,B.nf,B.pm⟩
theorem zu {a:Array Keyed}{i:Nat}:(a.extract i a.size).toList=a.toList.drop i:=by
 rw[T7,Tj,Tw (by simp)]
theorem zA {a:Array Keyed}{i k:Nat}:(a.extract i (i + k)).toList=(a.toList.drop i).take k:=by
 rw[T7,Tj,Nat.add_sub_cancel_left]
theorem uo {a:Array Keyed}{i:Nat}(h:i<a.size):a.toList.drop i=a[i]::a.toList.drop (i + 1):=by
 rw[Ti (by simpa using h)];rfl
theorem iu {a:Array Keyed}(s:Sd rk a.toList){i j:Nat}(h:i<=j)(hj:j<a.size):rk (a[i]'(by omega))<=rk a[j]:=by
 by_cases e:i=j
 ·subst e;exact Ro _
 ·exact Vb.mp s i j (by simpa using (by omega:i<a.size)) (by simpa using hj) (by omega)
theorem rz {a:Array Keyed}{i:Nat}{x:Keyed}(h:x∈a.toList.drop i):∃k,i<=k/\∃hk:k<a.size,x=a[k]:=by
 obtain⟨k,hk,e⟩:=Uu h;rw[Xc]at e;simp only[Tz,Rz]at hk;exact⟨i + k,by omega,by omega,e.symm⟩
theorem uU {a:Array Keyed}{i n:Nat}{x:Keyed}(h:x∈(a.toList.drop i).take n):∃k,i<=k/\k<i + n/\∃hk:k<a.size,x=a[k]:=by
 obtain⟨k,hk,e⟩:=Uu h;rw[Xd,Xc]at e;simp only[Sw,Tz,Rz]at hk;exact⟨i + k,by omega,by omega,by omega,e.symm⟩
theorem xV {a:Array Keyed}(s:Sd rk a.toList){i:Nat}:Up (vv rk a) i a.size:=fun k l h1 h2 h3=>by
 rw[cj (by omega),cj h3];exact iu s h2 h3
theorem I_ {st:SortSt}{a b:Array Keyed}(C:gR prog w A R κ a₀ rk)(B:Bs κ a₀ st)(ha:∀y∈a,y∈a₀)(hb:∀y∈b,y∈a₀)(sa:Sd rk a.toList)(sb:Sd rk b.toList)(na:0<a.size)(nb:0<b.size)
    (f:∀x∈a,rk b[0]<=rk x) (l:∀y∈b,rk y<=rk a[a.size - 1]) {P:Array Keyed->SortSt->Prop} (q:∀r st',Sd rk r.toList->r.toList.Perm (a.toList ++ b.toList)->Sg st st'->P r st'):Ok prog w A E R (oM a b) st P:=by
  rw[G9]
  extract_lets t fin lst i0 j0
  generalize hT:a.toList ++ b.toList=T at q;have fn:∀o i j,Mg rk T o.toList (a.toList.drop i) (b.toList.drop j)->(i=a.size\/j=b.size)->∀st',Sg st st'->P (fin o i j) st':=fun o i j m h st' g=>by
    have e:(fin o i j).toList=o.toList ++ a.toList.drop i ++ b.toList.drop j:=by simp only[fin,Tf,zu]
    rcases h with rfl |rfl
    · rw[Vn (i:=a.size) (by simp)]at m e;rw[Sy]at e;exact q _ _ (by rw[e];exact m.swap.fin.1) (by rw[e];exact m.swap.fin.2) g
    · rw[Vn (i:=b.size) (by simp)]at m e;rw[Sy]at e;exact q _ _ (by rw[e];exact m.fin.1) (by rw[e];exact m.fin.2) g
  have ls:∀o i j,Mg rk T o.toList (a.toList.drop i) (b.toList.drop j)->i + 1=a.size->∀st',Sg st st'->P (lst o i j) st':=fun o i j m h st' g=>by
    have e:(lst o i j).toList=o.toList ++ b.toList.drop j ++ a.toList.drop i:=by simp only[lst,Tf,zu]
    have d:a.toList.drop i=[a[a.size - 1]]:=by
      rw[uo (by omega),Vn (by simp;omega)];simp only[show a.size - 1=i by omega]
    have m2 : Mg rk T (o.toList ++ b.toList.drop j) (a.toList.drop i) [] := (Mg.go (X':=[]) (by rw[Sy];exact m.swap) fun y hy x hx=>by
      rw[d,S8]at hx;subst hx;exact l y (Tr.mp (List.mem_of_mem_drop hy))).swap
    exact q _ _ (by rw[e];exact m2.fin.1) (by rw[e];exact m2.fin.2) g
  clear_value fin lst
  -- a step of b,a step of a
  have stB:∀o i j (hj:j<b.size),Mg rk T o (a.toList.drop i) (b.toList.drop j)->(∀k (hk:k<a.size),i<=k->rk b[j]<=rk a[k])->Mg rk T (o ++ [b[j]]) (a.toList.drop i) (b.toList.drop (j + 1)):=fun o i j hj m h=>
    (Mg.go (X:=[b[j]]) (by have:=m.swap;rw[uo hj]at this;exact this) fun x hx y hy=>by
      rw[S8]at hx;subst hx;obtain⟨k,k1,k2,rfl⟩:=rz hy;exact h k k2 k1).swap
  have stA:∀o i j (hi:i<a.size),Mg rk T o (a.toList.drop i) (b.toList.drop j)->(∀k (hk:k<b.size),j<=k->rk a[i]<=rk b[k])->Mg rk T (o ++ [a[i]]) (a.toList.drop (i + 1)) (b.toList.drop j):=fun o i j hi m h=>
    Mg.go (X:=[a[i]]) (by rw[uo hi]at m;exact m) fun x hx y hy=>by
      rw[S8]at hx;subst hx;obtain⟨k,k1,k2,rfl⟩:=rz hy;exact h k k2 k1
  have m0:Mg rk T [b[0]] (a.toList.drop 0) (b.toList.drop 1):=stB [] 0 0 nb ⟨by simpa using sa,by simpa using sb,by simp[hT]⟩ fun k hk _=>f _ (RW hk);refine aH (mK (aH (cD nb ?_)))
  extract_lets o0
  dsimp -zeta -zetaHave only[i0,j0,o0]
  by_cases h1:1=b.size
  · rw[tG (by simpa using h1)];exact aK (fn _ _ _ m0 (.inr h1) _ Sg.rfl)
  rw[Rn (by simpa using h1)]
  by_cases h2:0 + 1=a.size
  · rw[tG (by simpa using h2)];exact aK (ls _ _ _ m0 h2 _ Sg.rfl)
  rw[Rn (by simpa using h2)];clear i0 j0 o0;refine aH (h_ ?_)
  let Gd:Array Keyed->Prop:=fun r=>∀st',Sg st st'->P r st'
  let J:Array Keyed->Nat->Nat->Prop:=fun o i j=>i + 1<a.size/\j<b.size/\Mg rk T o.toList (a.toList.drop i) (b.toList.drop j)
  refine aH (Ok.mono (P:=fun c s2=>Sg st s2/\∃r o i j g,c=(some r,o,i,j,g)/\Gd r)
    (eF (fun x c s2=>Sg st s2/\∃o i j g,c=(none,o,i,j,g)/\J o i j/\x<i + j) ⟨Sg.rfl,_,0,1,_,rfl,⟨by omega,by omega,m0⟩,by omega⟩ ?_ ?_) ?_)
  · rintro x c s2 x1 x2 ⟨g2,o,i,j,g,rfl,hJ,hx⟩
    extract_lets o' i' j' g' m' n'
    refine aH (Ok.mono (P:=fun c s3=>Sg st s3/\∃o i j m n,(J o i j/\x + 1<i + j/\c=(none,o,i,j,m,n))\/∃r,c=(some r,o,i,j,m,n)/\Gd r)
      (eF (fun y c s3=>Sg st s3/\∃o i j m n,c=(none,o,i,j,m,n)/\J o i j/\x + y<i + j) ⟨g2,o,i,j,0,0,rfl,hJ,by omega⟩ ?_ ?_) ?_)
    · rintro y c s3 y1 y2 ⟨g3,o,i,j,m,n,rfl,⟨J1,J2,J3⟩,hy⟩;dsimp only;refine aH (cD J2 (aH (cD (by omega) (aH (oZ C (g3.bs B) (hb _ (RW _)) (ha _ (RW _)) ?_)))));dsimp only
      by_cases hc:rk b[j]<rk a[i]
      · rw[tG (by simpa using hc)];have m2:=stB _ i j J2 J3 fun k hk ik=>RB (S6 hc) (iu sa ik hk);rw[<-Td]at m2;refine aH (cD J2 ?_)
        by_cases e:j + 1=b.size
        · rw[tG (by simpa using e)];exact aK ⟨g3,_,_,_,_,_,.inr ⟨_,rfl,fn _ _ _ m2 (.inr e)⟩⟩
        · rw[Rn (by simpa using e)]
          split
          · exact aK ⟨g3,_,_,_,_,_,.inl ⟨⟨J1,by omega,m2⟩,by omega,rfl⟩⟩
          · exact aK ⟨g3,_,_,_,_,_,rfl,⟨J1,by omega,m2⟩,by omega⟩
      · rw[Rn (by simpa using hc)];have m2:=stA _ i j (by omega) J3 fun k hk ik=>RB (Ut hc) (iu sb ik hk);rw[<-Td]at m2;refine aH (cD (by omega) ?_)
        by_cases e:i + 1 + 1=a.size
        · rw[tG (by simpa using e)];exact aK ⟨g3,_,_,_,_,_,.inr ⟨_,rfl,ls _ _ _ m2 e⟩⟩
        · rw[Rn (by simpa using e)]
          split
          · exact aK ⟨g3,_,_,_,_,_,.inl ⟨⟨by omega,J2,m2⟩,by omega,rfl⟩⟩
          · exact aK ⟨g3,_,_,_,_,_,rfl,⟨by omega,J2,m2⟩,by omega⟩
    · rintro c s3 ⟨g3,o,i,j,m,n,rfl,hJ,hy⟩;exact⟨g3,o,i,j,m,n,.inl ⟨hJ,by omega,rfl⟩⟩
    · rintro c s3 ⟨g3,o,i,j,m,n,⟨hJ,hy,rfl⟩ |⟨r,rfl,hr⟩⟩
      · refine aH (mK (aH (Ok.mono (P:=fun c s4=>Sg st s4/\∃o i j g m n,(J o i j/\x + 1<i + j/\c=(none,o,i,j,g,m,n))\/∃r,c=(some r,o,i,j,g,m,n)/\Gd r)
          (eF (fun y c s4=>Sg st s4/\∃o i j g m n,c=(none,o,i,j,g,m,n)/\J o i j/\x + 1<i + j) ⟨g3,o,i,j,_,m,n,rfl,hJ,hy⟩ ?_ ?_) ?_)))
        · clear hJ hy o i j m n;rintro y c s4 y1 y2 ⟨g4,o,i,j,g,m,n,rfl,⟨J1,J2,J3⟩,hy⟩
          extract_lets z0 oo z1 ii z2 jj z3 gg z4 mm nn j1 jp g1
          have eo:oo=o:=rfl;have ei:ii=i:=rfl;have ej:jj=j:=rfl
          clear_value oo ii jj gg mm nn
          subst eo ei ej
          suffices hjp:∀g',Ok prog w A E R (jp () g') s4 _ by split<;>exact hjp _
          intro g';refine aH (rG fun s5 g5=>aH (cD J2 ?_))
          replace g5:=g4.trans g5
          refine aH (mH C (g5.bs B) (hb _ (RW _)) ha (by omega) (by omega) (by rw[show ii + (a.size - ii)=a.size by omega];exact xV sa) fun k k1 k2 k3=>?_);have t0:thr rk false b[jj]=rk b[jj] + 1:=rfl;rw[t0]at k2 k3
          dsimp -zeta -zetaHave only
          extract_lets mk jp2 o2 i2
          suffices hjp2:∀o i,i + 1<a.size->ii<=i->(∀k (hk:k<a.size),i<=k->rk b[jj]<=rk a[k])->Mg rk T o.toList (a.toList.drop i) (b.toList.drop jj)->Ok prog w A E R (jp2 () o i) s5 _ by
            have hk3:∀k' (hk:k'<a.size),ii + k<=k'->rk b[jj]<=rk a[k']:=fun k' hk h=>by
              have:=k3 (k' - ii) (by omega) (by omega);rw[show ii + (k' - ii)=k' by omega,cj hk]at this;omega
            by_cases hk:k > 0
            · rw[tG hk];have m2:Mg rk T o2.toList (a.toList.drop i2) (b.toList.drop jj):=by
                have e:o2.toList=oo.toList ++ (a.toList.drop ii).take k:=by simp only[o2,Tf,zA]
                rw[e];refine Mg.go (X':=a.toList.drop i2) (by simp only[i2];rw[<-WM,TY];exact J3) fun u hu v hv=>?_;obtain⟨p,p1,p2,p3,rfl⟩:=uU hu;obtain⟨p',p1',p2',rfl⟩:=rz hv;have z1:=k2 (p - ii) (by omega);rw[show ii + (p - ii)=p by omega,cj p3]at z1;have z2:=iu sb p1' p2';omega
              have ei2:i2=ii + k:=rfl
              clear_value o2 i2
              by_cases e1:i2 + 1=a.size
              · rw[tG (by simpa using e1)];exact aK ⟨g5,_,_,_,_,_,_,.inr ⟨_,rfl,ls _ _ _ m2 e1⟩⟩
              rw[Rn (by simpa using e1)]
              by_cases e2:i2=a.size
              · rw[tG (by simpa using e2)];exact aK ⟨g5,_,_,_,_,_,_,.inr ⟨_,rfl,fn _ _ _ m2 (.inl e2)⟩⟩
              rw[Rn (by simpa using e2)];exact hjp2 _ _ (by omega) (by omega) (fun k' hk' h=>hk3 k' hk' (by omega)) m2
            · rw[Rn hk];exact hjp2 _ _ J1 (Ro _) (fun k' hk' h=>hk3 k' hk' (by omega)) J3
          intro o i i1 i3 hlow m2;refine aH (cD J2 ?_);have m3:=stB _ i jj J2 m2 hlow;rw[<-Td]at m3
          extract_lets o3 i4
          have ej1:j1=jj + 1:=rfl
          change Mg rk T o3.toList (a.toList.drop i) (b.toList.drop j1) at m3
          clear_value o3 j1
          by_cases e3:j1=b.size
          · rw[tG (by simpa using e3)];exact aK ⟨g5,_,_,_,_,_,_,.inr ⟨_,rfl,fn _ _ _ m3 (.inr e3)⟩⟩
          rw[Rn (by simpa using e3)];refine aH (cD (by omega) (aH (mH C (g5.bs B) (ha _ (RW _)) hb (by omega) (by omega) (by rw[show j1 + (b.size - j1)=b.size by omega];exact xV sb) fun k' k1' k2' k3'=>?_)));have t1:thr rk true a[i]=rk a[i]:=rfl;rw[t1]at k2' k3'
          dsimp -zeta -zetaHave only
          extract_lets nk jp3 o4 j4
          suffices hjp3:∀o j,j1<=j->j<b.size->(∀k (hk:k<b.size),j<=k->rk a[i]<=rk b[k])->Mg rk T o.toList (a.toList.drop i) (b.toList.drop j)->Ok prog w A E R (jp3 () o j) s5 _ by
            have hk3:∀k (hk:k<b.size),j1 + k'<=k->rk a[i]<=rk b[k]:=fun k hk h=>by
              have:=k3' (k - j1) (by omega) (by omega);rw[show j1 + (k - j1)=k by omega,cj hk]at this;omega
            by_cases hk:k' > 0
            · rw[tG hk];have m4:Mg rk T o4.toList (a.toList.drop i) (b.toList.drop j4):=by
                have e:o4.toList=o3.toList ++ (b.toList.drop j1).take k':=by simp only[o4,Tf,zA]
                rw[e];refine(Mg.go (X':=b.toList.drop j4) (by simp only[j4];rw[<-WM,TY];exact m3.swap) fun u hu v hv=>?_).swap;obtain⟨p,p1,p2,p3,rfl⟩:=uU hu;obtain⟨p',p1',p2',rfl⟩:=rz hv;have z1:=k2' (p - j1) (by omega);rw[show j1 + (p - j1)=p by omega,cj p3]at z1;have z2:=iu sa p1' p2';omega
              have ej4:j4=j1 + k':=rfl
              clear_value o4 j4
              by_cases e1:j4=b.size
              · rw[tG (by simpa using e1)];exact aK ⟨g5,_,_,_,_,_,_,.inr ⟨_,rfl,fn _ _ _ m4 (.inr e1)⟩⟩
              rw[Rn (by simpa using e1)];exact hjp3 _ _ (by omega) (by omega) (fun k hk' h=>hk3 k hk' (by omega)) m4
            · rw[Rn hk];exact hjp3 _ _ (Ro _) (by omega) (fun k hk' h=>hk3 k hk' (by omega)) m3
          intro o j jl jb hlow2 m5;refine aH (cD (by omega) ?_);have m6:=stA _ i j (by omega) m5 hlow2;rw[<-Td]at m6
          extract_lets o5
          have ei4:i4=i + 1:=rfl
          change Mg rk T o5.toList (a.toList.drop i4) (b.toList.drop j) at m6
          clear_value o5 i4
          by_cases e4:i4 + 1=a.size
          · rw[tG (by simpa using e4)];exact aK ⟨g5,_,_,_,_,_,_,.inr ⟨_,rfl,ls _ _ _ m6 e4⟩⟩
          rw[Rn (by simpa using e4)]
          split
          · exact aK ⟨g5,_,_,_,_,_,_,.inl ⟨⟨by omega,jb,m6⟩,by omega,rfl⟩⟩
          · exact aK ⟨g5,_,_,_,_,_,_,rfl,⟨by omega,jb,m6⟩,by omega⟩
        · rintro c s4 ⟨g4,o,i,j,g,m,n,rfl,hJ,hy⟩;exact⟨g4,o,i,j,g,m,n,.inl ⟨hJ,hy,rfl⟩⟩
        · rintro c s4 ⟨g4,o,i,j,g,m,n,⟨hJ,hy,rfl⟩ |⟨r,rfl,hr⟩⟩
          · exact aH (rG fun s5 g5=>aK ⟨g4.trans g5,o,i,j,_,rfl,hJ,hy⟩)
          · exact aK ⟨g4,r,_,_,_,_,rfl,hr⟩
      · exact aK ⟨g3,r,_,_,_,_,rfl,hr⟩
  · rintro c s2 ⟨g2,o,i,j,g,rfl,hJ,hx⟩;have:=hJ.1;have:=hJ.2.1;omega
  · rintro c s2 ⟨g2,r,o,i,j,g,rfl,hr⟩;exact aK (hr s2 g2)
variable {prog:Program}{w:World}{A:Around}{E:Value->Shared->Prop}{R:Shared->Prop}{α β:Type}{κ:SortKind}{a₀:Array Keyed}{rk:Rk}
theorem G8 (a b : Array Keyed) : oK a b = (do
 rule "list.sort.merge-hi"
 let t:=a.size + b.size
 let fin (o:Array Keyed) (i j:Nat):=a.extract 0 i ++ b.extract 0 j ++ o.reverse
 let lst (o:Array Keyed) (i j:Nat):=b.extract 0 j ++ a.extract 0 i ++ o.reverse
 let mut i:=a.size - 1
 let mut j:=b.size
 let mut o:Array Keyed:= #[<-elem' a i]
 if i==0 then return fin o i j
 if j==1 then return lst o i j
 let mut g:=gallopOf (<-get)
 for _ in [0:t] do
  let mut m:=0
  let mut n:=0
  for _ in [0:t] do
   let some c <-lt' (<-elem' b (j - 1)) (<-elem' a (i - 1)) |return fin o i j
   if c then
    i:=i - 1;o:=o.push (<-elem' a i);m:=m + 1;n:=0
    if i==0 then return fin o i j
    if m >=g then break
   else
    j:=j - 1;o:=o.push (<-elem' b j);n:=n + 1;m:=0
    if j==1 then return lst o i j
    if n >=g then break
  rule "list.sort.gallop"
  g:=g + 1
  for _ in [0:t] do
   if g > 1 then g:=g - 1
   setG g
   let some p <-gal false (<-elem' b (j - 1)) a 0 i (i - 1) |return fin o i j
   let k:=i - p
   m:=k
   if k > 0 then
    o:=o ++ (a.extract p i).reverse;i:=p
    if i==0 then return fin o i j
   j:=j - 1;o:=o.push (<-elem' b j)
   if j==1 then return lst o i j
   let some p <-gal true (<-elem' a (i - 1)) b 0 j (j - 1) |return fin o i j
   let k:=j - p
   n:=k
   if k > 0 then
    o:=o ++ (b.extract p j).reverse;j:=p
    if j==1 then return lst o i j
    if j==0 then return fin o i j
   i:=i - 1;o:=o.push (<-elem' a i)
   if i==0 then return fin o i j
   if m<7 && n<7 then break
  g:=g + 1
  setG g
 unsupported "internal:list.sort.merge-bound"):=rfl
theorem zx {a:Array Keyed}{i:Nat}:(a.extract 0 i).toList=a.toList.take i:=by
 rw[T7,Tj,VG,Nat.sub_zero]
theorem uE {a:Array Keyed}{p i:Nat}(h:p<=i):a.toList.take i=a.toList.take p ++ (a.extract p i).toList:=by
 rw[T7,Tj];have e:p + (i - p)=i:=by omega
 rw[<-List.take_add,e]
theorem xM {a:Array Keyed}{i:Nat}(h:i<a.size):a.toList.take (i + 1)=a.toList.take i ++ [a[i]]:=by
 rw[List.take_add_one,Rr (by simpa using h)];rfl
theorem rB {a:Array Keyed}{i:Nat}{x:Keyed}(h:x∈a.toList.take i):∃k,k<i/\∃hk:k<a.size,x=a[k]:=by
 obtain⟨k,hk,e⟩:=Uu h;rw[Xd]at e;simp only[Sw,Rz]at hk;exact⟨k,by omega,by omega,e.symm⟩
theorem mem_mid {a:Array Keyed}{p i:Nat}{x:Keyed}(h:x∈(a.extract p i).toList):∃k,p<=k/\k<i/\∃hk:k<a.size,x=a[k]:=by
 rw[T7,Tj]at h;obtain⟨k,k1,k2,k3,e⟩:=uU h;exact⟨k,k1,by omega,k3,e⟩
theorem Dp {a:Array Keyed}(s:Sd rk a.toList){i:Nat}(h:i<=a.size):Up (vv rk a) 0 (0 + i):=fun k l h1 h2 h3=>by
 rw[cj (by omega),cj (by omega)];exact iu s h2 (by omega)
theorem IW {st:SortSt}{a b:Array Keyed}(C:gR prog w A R κ a₀ rk)(B:Bs κ a₀ st)(ha:∀y∈a,y∈a₀)(hb:∀y∈b,y∈a₀)(sa:Sd rk a.toList)(sb:Sd rk b.toList)(na:0<a.size)(nb:0<b.size)
    (f:∀x∈a,rk b[0]<=rk x) (l:∀y∈b,rk y<=rk a[a.size - 1]) {P:Array Keyed->SortSt->Prop} (q:∀r st',Sd rk r.toList->r.toList.Perm (a.toList ++ b.toList)->Sg st st'->P r st'):Ok prog w A E R (oK a b) st P:=by
  rw[G8]
  extract_lets t fin lst i0 j0
  generalize hT:a.toList ++ b.toList=T at q;have fn:∀o i j,Mh rk T o.toList.reverse (a.toList.take i) (b.toList.take j)->(i=0\/j=0)->∀st',Sg st st'->P (fin o i j) st':=fun o i j m h st' g=>by
    have e:(fin o i j).toList=a.toList.take i ++ b.toList.take j ++ o.toList.reverse:=by simp only[fin,Tf,zx,U5]
    have p:(fin o i j).toList.Perm T:=by rw[e];exact m.p
    refine q _ _ ?_ p g;rcases h with rfl |rfl
    · rw[e,VJ,Uj];exact m.y
    · rw[e,VJ,Sy];exact m.x
  have ls:∀o i j,Mh rk T o.toList.reverse (a.toList.take i) (b.toList.take j)->j=1->∀st',Sg st st'->P (lst o i j) st':=fun o i j m h st' g=>by
    have e:(lst o i j).toList=b.toList.take j ++ (a.toList.take i ++ o.toList.reverse):=by simp only[lst,Tf,zx,U5,R3]
    have m2:Mh rk T (a.toList.take i ++ o.toList.reverse) [] (b.toList.take j):=Mh.go (X':=[]) (by rw[Uj];exact m) fun x hx y hy=>by
      subst h;rw[show(1:Nat)=0 + 1 from rfl,xM nb]at hy;rw[VJ,Uj,S8]at hy;subst hy;exact f x (Tr.mp (List.mem_of_mem_take hx))
    refine q _ _ (by rw[e];exact m2.y) ?_ g;rw[e];have:=m2.p
    rwa [Uj]at this
  clear_value fin lst
  have stA:∀o i j (hi:i<a.size),Mh rk T o (a.toList.take (i + 1)) (b.toList.take j)->(∀k (hk:k<b.size),k<j->rk b[k]<=rk a[i])->Mh rk T (a[i]::o) (a.toList.take i) (b.toList.take j):=fun o i j hi m h=>
    Mh.go (X:=[a[i]]) (by rw[xM hi]at m;exact m) fun x hx y hy=>by
      rw[S8]at hx;subst hx;obtain⟨k,k1,k2,rfl⟩:=rB hy;exact h k k2 k1
  have stB:∀o i j (hj:j<b.size),Mh rk T o (a.toList.take i) (b.toList.take (j + 1))->(∀k (hk:k<a.size),k<i->rk a[k]<=rk b[j])->Mh rk T (b[j]::o) (a.toList.take i) (b.toList.take j):=fun o i j hj m h=>
    (Mh.go (X:=[b[j]]) (by have:=m.swap;rw[xM hj]at this;exact this) fun x hx y hy=>by
      rw[S8]at hx;subst hx;obtain⟨k,k1,k2,rfl⟩:=rB hy;exact h k k2 k1).swap
  have m0 : Mh rk T [a[a.size - 1]] (a.toList.take (a.size - 1)) (b.toList.take b.size) := stA [] (a.size - 1) b.size (by omega) (by
    rw[show a.size - 1 + 1=a.size by omega,Tw (by simp),Tw (by simp)];exact⟨by simpa using sa,by simpa using sb,by simp[hT]⟩) fun k hk _=>l _ (RW hk)
  refine aH (mK (aH (cD (show i0<a.size by simp only[i0];omega) ?_)))
  extract_lets o0
  dsimp -zeta -zetaHave only[i0,j0,o0]
  by_cases h1:a.size - 1=0
  · rw[tG (by simpa using h1)];exact aK (fn #[a[a.size - 1]] _ _ m0 (.inl h1) _ Sg.rfl)
  rw[Rn (by simpa using h1)]
  by_cases h2:b.size=1
  · rw[tG (by simpa using h2)];exact aK (ls #[a[a.size - 1]] _ _ m0 h2 _ Sg.rfl)
  rw[Rn (by simpa using h2)];refine aH (h_ ?_)
  let Gd:Array Keyed->Prop:=fun r=>∀st',Sg st st'->P r st'
  let J:Array Keyed->Nat->Nat->Prop:=fun o i j=>0<i/\i<a.size/\1<j/\j<=b.size/\Mh rk T o.toList.reverse (a.toList.take i) (b.toList.take j)
  refine aH (Ok.mono (P:=fun c s2=>Sg st s2/\∃r o i j g,c=(some r,i,j,o,g)/\Gd r)
    (eF (fun x c s2=>Sg st s2/\∃o i j g,c=(none,i,j,o,g)/\J o i j/\x + i + j<t) ⟨Sg.rfl,_,_,_,_,rfl,⟨by omega,by omega,by omega,by omega,m0⟩,by simp only[t];omega⟩ ?_ ?_) ?_)
  · rintro x c s2 x1 x2 ⟨g2,o,i,j,g,rfl,hJ,hx⟩
    extract_lets i' j' o' g' m' n'
    refine aH (Ok.mono (P:=fun c s3=>Sg st s3/\∃o i j m n,(J o i j/\x + 1 + i + j<t/\c=(none,i,j,o,m,n))\/∃r,c=(some r,i,j,o,m,n)/\Gd r)
      (eF (fun y c s3=>Sg st s3/\∃o i j m n,c=(none,i,j,o,m,n)/\J o i j/\x + y + i + j<t) ⟨g2,o,i,j,0,0,rfl,hJ,by omega⟩ ?_ ?_) ?_)
    · rintro y c s3 y1 y2 ⟨g3,o,i,j,m,n,rfl,⟨J1,J2,J3,J4,J5⟩,hy⟩;dsimp only;refine aH (cD (show j - 1<b.size by omega) (aH (cD (show i - 1<a.size by omega) (aH (oZ C (g3.bs B) (hb _ (RW _)) (ha _ (RW _)) ?_)))));dsimp only
      by_cases hc:rk b[j - 1]<rk a[i - 1]
      · rw[tG (by simpa using hc)];have m2:=stA _ (i - 1) j (by omega) (by rw[show i - 1 + 1=i by omega];exact J5) fun k hk ik=>RB (iu sb (show k<=j - 1 by omega) (by omega)) (S6 hc);refine aH (cD (show i - 1<a.size by omega) ?_);have m3:Mh rk T (o.push a[i - 1]).toList.reverse (a.toList.take (i - 1)) (b.toList.take j):=by rw[Td,T_];exact m2
        by_cases e:i - 1=0
        · rw[tG (by simpa using e)];exact aK ⟨g3,_,_,_,_,_,.inr ⟨_,rfl,fn _ _ _ m3 (.inl e)⟩⟩
        · rw[Rn (by simpa using e)]
          split
          · exact aK ⟨g3,_,_,_,_,_,.inl ⟨⟨by omega,by omega,J3,J4,m3⟩,by omega,rfl⟩⟩
          · exact aK ⟨g3,_,_,_,_,_,rfl,⟨by omega,by omega,J3,J4,m3⟩,by omega⟩
      · rw[Rn (by simpa using hc)];have m2:=stB _ i (j - 1) (by omega) (by rw[show j - 1 + 1=j by omega];exact J5) fun k hk ik=>RB (iu sa (show k<=i - 1 by omega) (by omega)) (Ut hc);refine aH (cD (show j - 1<b.size by omega) ?_);have m3:Mh rk T (o.push b[j - 1]).toList.reverse (a.toList.take i) (b.toList.take (j - 1)):=by rw[Td,T_];exact m2
        by_cases e:j - 1=1
        · rw[tG (by simpa using e)];exact aK ⟨g3,_,_,_,_,_,.inr ⟨_,rfl,ls _ _ _ m3 e⟩⟩
        · rw[Rn (by simpa using e)]
          split
          · exact aK ⟨g3,_,_,_,_,_,.inl ⟨⟨J1,J2,by omega,by omega,m3⟩,by omega,rfl⟩⟩
          · exact aK ⟨g3,_,_,_,_,_,rfl,⟨J1,J2,by omega,by omega,m3⟩,by omega⟩
    · rintro c s3 ⟨g3,o,i,j,m,n,rfl,hJ,hy⟩;exact⟨g3,o,i,j,m,n,.inl ⟨hJ,by simp only[t]at hy ⊢;omega,rfl⟩⟩
    · rintro c s3 ⟨g3,o,i,j,m,n,⟨hJ,hy,rfl⟩ |⟨r,rfl,hr⟩⟩
      · refine aH (mK (aH (Ok.mono (P:=fun c s4=>Sg st s4/\∃o i j g m n,(J o i j/\x + 1 + i + j<t/\c=(none,i,j,o,g,m,n))\/∃r,c=(some r,i,j,o,g,m,n)/\Gd r)
          (eF (fun y c s4=>Sg st s4/\∃o i j g m n,c=(none,i,j,o,g,m,n)/\J o i j/\x + 1 + i + j<t) ⟨g3,o,i,j,_,m,n,rfl,hJ,hy⟩ ?_ ?_) ?_)))
        · clear hJ hy o i j m n;rintro y c s4 y1 y2 ⟨g4,o,i,j,g,m,n,rfl,⟨J1,J2,J3,J4,J5⟩,hy⟩
          extract_lets z0 ii z1 jj z2 oo z3 gg z4 mm nn j1 jp g1
          have eo:oo=o:=rfl;have ei:ii=i:=rfl;have ej:jj=j:=rfl
          clear_value oo ii jj gg mm nn
          subst eo ei ej
          suffices hjp:∀g',Ok prog w A E R (jp () g') s4 _ by split<;>exact hjp _
          intro g';refine aH (rG fun s5 g5=>aH (cD (show jj - 1<b.size by omega) ?_))
          replace g5:=g4.trans g5
          refine aH (mH C (g5.bs B) (hb _ (RW _)) ha (by omega) (by omega) (Dp sa (by omega)) fun p k1 k2 k3=>?_);have t0:thr rk false b[jj - 1]=rk b[jj - 1] + 1:=rfl;rw[t0]at k2 k3;simp only[Nat.zero_add]at k2 k3
          dsimp -zeta -zetaHave only
          extract_lets kk mk jp2 o2 i2
          suffices hjp2:∀i o,0<i->i<=ii->(∀k (hk:k<a.size),k<i->rk a[k]<=rk b[jj - 1])->Mh rk T o.toList.reverse (a.toList.take i) (b.toList.take jj)->Ok prog w A E R (jp2 () i o) s5 _ by
            have hk2:∀k (hk:k<a.size),k<p->rk a[k]<=rk b[jj - 1]:=fun k hk h=>by
              have:=k2 k h;rw[cj hk]at this;omega
            by_cases hk:kk > 0
            · rw[tG hk];have m2:Mh rk T o2.toList.reverse (a.toList.take i2) (b.toList.take jj):=by
                have e:o2.toList.reverse=(a.extract p ii).toList ++ oo.toList.reverse:=by simp only[o2,Tf,U5,T_,W2]
                rw[e];refine Mh.go (X':=a.toList.take i2) (by simp only[i2];rw[<-uE k1];exact J5) fun u hu v hv=>?_;obtain⟨q1,p1,p2,p3,rfl⟩:=mem_mid hu;obtain⟨q2,p1',p2',rfl⟩:=rB hv;have z1:=k3 q1 p1 p2;rw[cj p3]at z1;have z2:=iu sb (show q2<=jj - 1 by omega) (by omega);omega
              have ei2:i2=p:=rfl
              clear_value o2 i2
              subst ei2
              by_cases e1:i2=0
              · rw[tG (by simpa using e1)];exact aK ⟨g5,_,_,_,_,_,_,.inr ⟨_,rfl,fn _ _ _ m2 (.inl e1)⟩⟩
              rw[Rn (by simpa using e1)];exact hjp2 _ _ (by omega) (by omega) hk2 m2
            · rw[Rn hk];have ep:p=ii:=by simp only[kk]at hk;omega
              subst ep;exact hjp2 _ _ J1 (Ro _) hk2 J5
          intro i o i1 i3 hlow m2;have ej1:j1=jj - 1:=rfl;refine aH (cD (show j1<b.size by omega) ?_);have m3:=stB _ i j1 (by omega) (by rw[show j1 + 1=jj by omega];exact m2) hlow
          extract_lets o3 i4
          replace m3:Mh rk T o3.toList.reverse (a.toList.take i) (b.toList.take j1):=by simp only[o3];rw[Td,T_];exact m3
          clear_value o3 j1
          by_cases e3:j1=1
          · rw[tG (by simpa using e3)];exact aK ⟨g5,_,_,_,_,_,_,.inr ⟨_,rfl,ls _ _ _ m3 e3⟩⟩
          rw[Rn (by simpa using e3)];refine aH (cD (show i - 1<a.size by omega) (aH (mH C (g5.bs B) (ha _ (RW _)) hb (by omega) (by omega) (Dp sb (by omega)) fun p' k1' k2' k3'=>?_)));have t1:thr rk true a[i - 1]=rk a[i - 1]:=rfl;rw[t1]at k2' k3';simp only[Nat.zero_add]at k2' k3'
          dsimp -zeta -zetaHave only
          extract_lets k4 nk jp3 o4 j4
          suffices hjp3:∀j o,j<=j1->1<j->(∀k (hk:k<b.size),k<j->rk b[k]<=rk a[i - 1])->Mh rk T o.toList.reverse (a.toList.take i) (b.toList.take j)->Ok prog w A E R (jp3 () j o) s5 _ by
            have hk2:∀k (hk:k<b.size),k<p'->rk b[k]<=rk a[i - 1]:=fun k hk h=>by
              have:=k2' k h;rw[cj hk]at this;omega
            by_cases hk:k4 > 0
            · rw[tG hk];have m4:Mh rk T o4.toList.reverse (a.toList.take i) (b.toList.take j4):=by
                have e:o4.toList.reverse=(b.extract p' j1).toList ++ o3.toList.reverse:=by simp only[o4,Tf,U5,T_,W2]
                rw[e];refine(Mh.go (X':=b.toList.take j4) (by simp only[j4];rw[<-uE k1'];exact m3.swap) fun u hu v hv=>?_).swap;obtain⟨q1,p1,p2,p3,rfl⟩:=mem_mid hu;obtain⟨q2,p1',p2',rfl⟩:=rB hv;have z1:=k3' q1 p1 p2;rw[cj p3]at z1;have z2:=iu sa (show q2<=i - 1 by omega) (by omega);omega
              have ej4:j4=p':=rfl
              clear_value o4 j4
              subst ej4
              by_cases e1:j4=1
              · rw[tG (by simpa using e1)];exact aK ⟨g5,_,_,_,_,_,_,.inr ⟨_,rfl,ls _ _ _ m4 e1⟩⟩
              rw[Rn (by simpa using e1)]
              by_cases e2:j4=0
              · rw[tG (by simpa using e2)];exact aK ⟨g5,_,_,_,_,_,_,.inr ⟨_,rfl,fn _ _ _ m4 (.inr e2)⟩⟩
              rw[Rn (by simpa using e2)];exact hjp3 _ _ (by omega) (by omega) hk2 m4
            · rw[Rn hk];have ep:p'=j1:=by simp only[k4]at hk;omega
              exact hjp3 _ _ (Ro _) (by omega) (fun k hk h=>hk2 k hk (by omega)) m3
          intro j o jl jb hlow2 m5;have ei4:i4=i - 1:=rfl;refine aH (cD (show i4<a.size by omega) ?_);have m6:=stA _ i4 j (by omega) (by rw[show i4 + 1=i by omega];exact m5) hlow2
          extract_lets o5
          replace m6:Mh rk T o5.toList.reverse (a.toList.take i4) (b.toList.take j):=by simp only[o5];rw[Td,T_];exact m6
          clear_value o5 i4
          by_cases e4:i4=0
          · rw[tG (by simpa using e4)];exact aK ⟨g5,_,_,_,_,_,_,.inr ⟨_,rfl,fn _ _ _ m6 (.inl e4)⟩⟩
          rw[Rn (by simpa using e4)]
          split
          · exact aK ⟨g5,_,_,_,_,_,_,.inl ⟨⟨by omega,by omega,jb,by omega,m6⟩,by omega,rfl⟩⟩
          · exact aK ⟨g5,_,_,_,_,_,_,rfl,⟨by omega,by omega,jb,by omega,m6⟩,by omega⟩
        · rintro c s4 ⟨g4,o,i,j,g,m,n,rfl,hJ,hy⟩;exact⟨g4,o,i,j,g,m,n,.inl ⟨hJ,hy,rfl⟩⟩
        · rintro c s4 ⟨g4,o,i,j,g,m,n,⟨hJ,hy,rfl⟩ |⟨r,rfl,hr⟩⟩
          · exact aH (rG fun s5 g5=>aK ⟨g4.trans g5,o,i,j,_,rfl,hJ,hy⟩)
          · exact aK ⟨g4,r,_,_,_,_,rfl,hr⟩
      · exact aK ⟨g3,r,_,_,_,_,rfl,hr⟩
  · rintro c s2 ⟨g2,o,i,j,g,rfl,hJ,hx⟩;have:=hJ.1;simp only[t]at hx;omega
  · rintro c s2 ⟨g2,r,o,i,j,g,rfl,hr⟩;exact aK (hr s2 g2)
variable {prog:Program}{w:World}{A:Around}{E:Value->Shared->Prop}{R:Shared->Prop}{α β:Type}{κ:SortKind}{a₀:Array Keyed}{rk:Rk}
noncomputable def lay (o:Nat) (m a:Array Keyed):Array Keyed:=m.toList.zipIdx.foldl (fun a (p,j)=>a.setIfInBounds (o + j) p) a
theorem G_ (i : Nat) : mergeAt' i = (do
 let s <-get
 let (some (o,n,w),some (p,m,_)):=((pendingOf s)[i]?,(pendingOf s)[i + 1]?) |unsupported "internal:list.sort.pending"
 set (setPending s (((pendingOf s).setIfInBounds i (o,n + m,w)).eraseIdxIfInBounds (i + 1)))
 let some k <-gal false (<-elem' (arrOf s) p) (arrOf s) o n 0 |return false
 let (o,n):=(o + k,n - k)
 if n==0 then return true
 let some m <-gal true (<-elem' (arrOf s) (o + n - 1)) (arrOf s) p m (m - 1) |return false
 if m==0 then return true
 let x:=(arrOf s).extract o p
 let y:=(arrOf s).extract p (p + m)
 let r <-if n<=m then oM x y else oK x y
 modify fun s=>setArr s (lay o r (arrOf s))
 return (failedOf (<-get)).isNone):=rfl
theorem z7 (o:Nat):∀(l:List Keyed) (d:Nat) (a:Array Keyed),o + d + l.length<=a.size->
    ((l.zipIdx d).foldl (fun a (p,j)=>a.setIfInBounds (o + j) p) a).size=a.size/\∀k,((l.zipIdx d).foldl (fun a (p,j)=>a.setIfInBounds (o + j) p) a)[k]? =if o + d<=k/\k<o + d + l.length then l[k - (o + d)]? else a[k]?
  | [],d,a,h=>⟨rfl,fun k=>by rw[Rn (by simp only[Sh];omega)];rfl⟩
  |x::l,d,a,h=>by
    rw[RD]at h;obtain⟨h1,h2⟩:=z7 o l (d + 1) (a.setIfInBounds (o + d) x) (by rw[Wo];omega);rw[Wo]at h1;refine⟨h1,fun k=>(h2 k).trans ?_⟩;rw[RD]
    by_cases c:k=o + d
    · subst c;rw[Rn (by omega),tG (by omega),W8,VL,tG rfl,tG (by omega)];rfl
    · by_cases c2:o + (d + 1)<=k/\k<o + (d + 1) + l.length
      · rw[tG c2,tG (by omega),show k - (o + d)=k - (o + (d + 1)) + 1 by omega,T9]
      · rw[Rn c2,Rn (by omega),VL,Rn (by omega)]
theorem z6 {o:Nat}{m a:Array Keyed}(h:o + m.size<=a.size)(k:Nat):(lay o m a)[k]? =if o<=k/\k<o + m.size then m[k - o]? else a[k]? :=by
 have:=(z7 o m.toList 0 a (by simpa using h)).2 k;simp only[Nat.add_zero,Rz,Tn]at this;exact this
theorem G5 {o:Nat}{m a:Array Keyed}(h:o + m.size<=a.size)(p:m.toList.Perm (a.extract o (o + m.size)).toList):(lay o m a).Perm a:=by
 have e1:(lay o m a).toList=a.toList.take o ++ (m.toList ++ a.toList.drop (o + m.size)):=by
  refine List.ext_getElem? fun k=>?_;rw[Tn,z6 h]
  by_cases c:k<o
  ·rw[Rn (by omega),R0 (by simp;omega),Vd c,Tn]
  ·rw[RZ (by simp;omega),Sw,Rz,show min o a.size=o by omega]
   by_cases c2:k<o + m.size
   ·rw[tG (by omega),R0 (by simp;omega),Tn]
   ·rw[Rn (by omega),RZ (by simp;omega),Rz,W9,Tn];congr 1;omega
 have e2:a.toList=a.toList.take o ++ ((a.extract o (o + m.size)).toList ++ a.toList.drop (o + m.size)):=by
  rw[<-R3, <-uE (by omega),TY]
 refine Array.perm_iff_toList_perm.mpr ?_;rw[e1];refine List.Perm.trans ?_ (List.Perm.of_eq e2.symm);exact Vs _ (Vm _ p)
theorem CJ {a:Array Keyed}{i j:Nat}(h:Up (vv rk a) i j)(hj:j<=a.size):Sd rk (a.extract i j).toList:=by
 refine Vb.mpr fun p q hp hq pq=>?_;simp only[Rz,Vf]at hp hq;have e:∀q (hq:q<(a.extract i j).toList.length),rk (a.extract i j).toList[q]=vv rk a (i + q):=fun q hq=>by
  simp only[Rz,Vf]at hq;rw[cj (by omega)]
  simp
 rw[e,e];exact h _ _ (by omega) (by omega) (by omega)
theorem oO {a:Array Keyed}{p i:Nat}{x:Keyed}(h:x∈a.extract p i):∃k,p<=k/\k<i/\k<a.size/\rk x=vv rk a k/\x∈a:=by
 obtain⟨k,k1,k2,k3,rfl⟩:=mem_mid (Tr.mpr h);exact⟨k,k1,k2,k3,(cj k3).symm,RW k3⟩
theorem Up.join {v:Nat->Nat}{i j k:Nat}(a:Up v i j)(b:Up v j k)(h:∀p q,i<=p->p<j->j<=q->q<k->v p<=v q):Up v i k:=fun p q h1 h2 h3=>by
 by_cases c:q<j
 ·exact a p q h1 h2 c
 ·by_cases d:p<j
  ·exact h p q h1 d (by omega) h3
  ·exact b p q (by omega) h2 h3
theorem Ja {st:SortSt}{i o n x p m y:Nat}(C:gR prog w A R κ a₀ rk)(B:Bs κ a₀ st)(e1:(pendingOf st)[i]? =some (o,n,x))(e2:(pendingOf st)[i + 1]? =some (p,m,y))(hp:p=o + n)(n1:1<=n)(m1:1<=m)(hz:p + m<=a₀.size)
    (u1:Up (vv rk (arrOf st)) o p) (u2:Up (vv rk (arrOf st)) p (p + m)) {P:Bool->SortSt->Prop}
    (q:∀st',Bs κ a₀ st'->pendingOf st'=((pendingOf st).setIfInBounds i (o,n + m,x)).eraseIdxIfInBounds (i + 1)->Up (vv rk (arrOf st')) o (p + m)->(∀k,k<o\/p + m<=k->vv rk (arrOf st') k=vv rk (arrOf st) k)->P true st'):Ok prog w A E R (mergeAt' i) st P:=by
  have sz:=B.size;have hm:∀y∈arrOf st,y∈a₀:=fun y hy=>B.pm.mem_iff.mp hy;rw[G_];refine aH (h_ ?_);rw[e1,e2];dsimp only;refine aH (Jb ?_);have B2:Bs κ a₀ (setPending st (((pendingOf st).setIfInBounds i (o,n + m,x)).eraseIdxIfInBounds (i + 1))):=⟨B.kd,B.nf,B.pm⟩;refine aH (cD (show p<(arrOf st).size by omega) (aH (mH C B2 (hm _ (RW _)) hm (by omega) (by omega) (by rw[<-hp];exact u1) fun k k1 k2 k3=>?_)));dsimp only;have tp:thr rk false (arrOf st)[p]=vv rk (arrOf st) p + 1:=by rw[cj (by omega)];rfl
  rw[tp]at k2 k3
  by_cases c1:n - k=0
  · rw[tG (by simpa using c1)];refine aK (q _ B2 rfl (u1.join u2 fun p' q' h1 h2 h3 h4=>?_) fun _ _=>rfl);have:=k2 (p' - o) (by omega);rw[show o + (p' - o)=p' by omega]at this;exact RB (by omega) (u2 p q' (Ro _) h3 h4)
  rw[Rn (by simpa using c1)];refine aH (cD (show o + k + (n - k) - 1<(arrOf st).size by omega) (aH (mH C B2 (hm _ (RW _)) hm (by omega) (by omega) u2 fun d d1 d2 d3=>?_)));dsimp only;have tq:thr rk true (arrOf st)[o + k + (n - k) - 1]=vv rk (arrOf st) (p - 1):=by rw[cj (show p - 1<_ by omega)];show rk _=rk _;simp only[show o + k + (n - k) - 1=p - 1 by omega]
  rw[tq]at d2 d3
  by_cases c2:d=0
  · rw[tG (by simpa using c2)];refine aK (q _ B2 rfl (u1.join u2 fun p' q' h1 h2 h3 h4=>?_) fun _ _=>rfl);have:=d3 (q' - p) (by omega) (by omega);rw[show p + (q' - p)=q' by omega]at this;exact RB (u1 p' (p - 1) h1 (by omega) (by omega)) this
  rw[Rn (by simpa using c2)];have szx:((arrOf st).extract (o + k) p).size=n - k:=by rw[Vf];omega
  have szy:((arrOf st).extract p (p + d)).size=d:=by rw[Vf];omega
  have hk3:∀j,o + k<=j->j<p->vv rk (arrOf st) p<vv rk (arrOf st) j:=fun j h1 h2=>by
    have:=k3 (j - o) (by omega) (by omega);rw[show o + (j - o)=j by omega]at this;omega
  have hd2:∀j,p<=j->j<p + d->vv rk (arrOf st) j<vv rk (arrOf st) (p - 1):=fun j h1 h2=>by
    have:=d2 (j - p) (by omega)
    rwa [show p + (j - p)=j by omega]at this
  have gx:∀(h:0<((arrOf st).extract p (p + d)).size),rk ((arrOf st).extract p (p + d))[0]=vv rk (arrOf st) p:=fun h=>by rw[cj (by omega)];simp
  have gy:∀(h:((arrOf st).extract (o + k) p).size - 1<((arrOf st).extract (o + k) p).size),rk ((arrOf st).extract (o + k) p)[((arrOf st).extract (o + k) p).size - 1]=vv rk (arrOf st) (p - 1):=fun h=>by
    rw[cj (by omega),Array.getElem_extract];simp only[szx,show o + k + (n - k - 1)=p - 1 by omega]
  have mrg:∀(f:Array Keyed->Array Keyed->StateT SortSt Sem (Array Keyed)),(f=oM\/f=oK)->∀{P:Array Keyed->SortSt->Prop},(∀r st',Sd rk r.toList->r.toList.Perm (((arrOf st).extract (o + k) p).toList ++ ((arrOf st).extract p (p + d)).toList)->Sg (setPending st (((pendingOf st).setIfInBounds i (o,n + m,x)).eraseIdxIfInBounds (i + 1))) st'->P r st')->
      Ok prog w A E R (f ((arrOf st).extract (o + k) p) ((arrOf st).extract p (p + d))) (setPending st (((pendingOf st).setIfInBounds i (o,n + m,x)).eraseIdxIfInBounds (i + 1))) P:=by
    have h1:∀y∈(arrOf st).extract (o + k) p,y∈a₀:=fun y hy=>hm _ (oO (rk:=rk) hy).choose_spec.2.2.2.2;have h2:∀y∈(arrOf st).extract p (p + d),y∈a₀:=fun y hy=>hm _ (oO (rk:=rk) hy).choose_spec.2.2.2.2;have h3:Sd rk ((arrOf st).extract (o + k) p).toList:=CJ (fun a b z1 z2 z3=>u1 a b (by omega) z2 z3) (by omega);have h4:Sd rk ((arrOf st).extract p (p + d)).toList:=CJ (fun a b z1 z2 z3=>u2 a b z1 z2 (by omega)) (by omega);have h5:∀z∈(arrOf st).extract (o + k) p,rk (((arrOf st).extract p (p + d))[0]'(by omega))<=rk z:=fun z hz=>by
      obtain⟨j,j1,j2,j3,j4,_⟩:=oO (rk:=rk) hz;rw[j4,gx];exact S6 (hk3 j j1 j2)
    have h6:∀z∈(arrOf st).extract p (p + d),rk z<=rk (((arrOf st).extract (o + k) p)[((arrOf st).extract (o + k) p).size - 1]'(by omega)):=fun z hz=>by
      obtain⟨j,j1,j2,j3,j4,_⟩:=oO (rk:=rk) hz;rw[j4,gy];exact S6 (hd2 j j1 j2)
    rintro f (rfl |rfl) P hP
    · exact I_ C B2 h1 h2 h3 h4 (by omega) (by omega) h5 h6 hP
    · exact IW C B2 h1 h2 h3 h4 (by omega) (by omega) h5 h6 hP
  have rest:∀r st',Sd rk r.toList->r.toList.Perm (((arrOf st).extract (o + k) p).toList ++ ((arrOf st).extract p (p + d)).toList)->Sg (setPending st (((pendingOf st).setIfInBounds i (o,n + m,x)).eraseIdxIfInBounds (i + 1))) st'->
      Ok prog w A E R (do modify fun s=>setArr s (lay (o + k) r (arrOf s));let s <-get;pure (failedOf s).isNone) st' P:=by
    rintro r st' sr pr ⟨g,rfl⟩;have lr:r.size=n - k + d:=by
      have:=pr.length_eq
      rwa [RG,Rz,Rz,Rz,szx,szy]at this
    have ee:((arrOf st).extract (o + k) p).toList ++ ((arrOf st).extract p (p + d)).toList=((arrOf st).extract (o + k) (o + k + r.size)).toList:=by
      rw[show o + k + r.size=p + d by omega];simp only[T7,Tj];rw[show p + d - p=d by omega,show p + d - (o + k)=(p - (o + k)) + d by omega,List.take_add,WM,show o + k + (p - (o + k))=p by omega]
    rw[ee]at pr;have la:o + k + r.size<=(arrOf st).size:=by omega
    have lv:∀j,vv rk (lay (o + k) r (arrOf st)) j=if o + k<=j/\j<o + k + r.size then vv rk r (j - (o + k)) else vv rk (arrOf st) j:=fun j=>by
      have h:=z6 (m:=r) (a:=arrOf st) la j;split at h
      · rename_i c;rw[tG c];exact lJ h
      · rename_i c;rw[Rn c];exact lJ h
    have bd:∀j,j<r.size->vv rk (arrOf st) p<=vv rk r j/\vv rk r j<=vv rk (arrOf st) (p - 1):=fun j hj=>by
      have hmem:r[j]∈((arrOf st).extract (o + k) (o + k + r.size)).toList:=pr.mem_iff.mp (Tr.mpr (RW hj));obtain⟨j',j1,j2,j3,j4,_⟩:=oO (rk:=rk) (Tr.mp hmem);rw[cj hj,j4]
      by_cases c:j'<p
      · exact⟨S6 (hk3 j' j1 c),u1 _ _ (by omega) (by omega) (by omega)⟩
      · exact⟨u2 _ _ (Ro _) (by omega) (by omega),S6 (hd2 j' (by omega) (by omega))⟩
    have ur:Up (vv rk r) 0 r.size:=xV sr;refine aH (mJ (aH (h_ (aK ?_))));show P (failedOf st).isNone _;rw[B.nf];refine q _ ⟨B.kd,rfl,(G5 la pr).trans B.pm⟩ rfl ?_ ?_
    · intro a b h1 h2 h3;show vv rk (lay _ _ _) a<=vv rk (lay _ _ _) b;rw[lv,lv];have lo:∀a,o<=a->a<o + k->vv rk (arrOf st) a<=vv rk (arrOf st) p:=fun a h1 h2=>by
        have:=k2 (a - o) (by omega);rw[show o + (a - o)=a by omega]at this;omega
      have hi:∀b,p + d<=b->b<p + m->vv rk (arrOf st) (p - 1)<=vv rk (arrOf st) b:=fun b h1 h2=>by
        have:=d3 (b - p) (by omega) (by omega)
        rwa [show p + (b - p)=b by omega]at this
      have mid:=hk3 (p - 1) (by omega) (by omega)
      split
      · split
        · exact ur _ _ (by omega) (by omega) (by omega)
        · exact RB (bd _ (by omega)).2 (hi b (by omega) (by omega))
      · split
        · exact RB (lo a h1 (by omega)) (bd _ (by omega)).1
        · by_cases c:a<o + k
          · by_cases c':b<o + k
            · exact u1 a b h1 h2 (by omega)
            · exact RB (lo a h1 c) (RB (S6 mid) (hi b (by omega) (by omega)))
          · exact u2 a b (by omega) h2 (by omega)
    · intro j hj;show vv rk (lay _ _ _) j=_;rw[lv,Rn (by omega)]
  split
  · exact aH (mrg oM (.inl rfl) rest)
  · exact aH (mrg oK (.inr rfl) rest)
variable {prog:Program}{w:World}{A:Around}{E:Value->Shared->Prop}{R:Shared->Prop}{α β:Type}{κ:SortKind}{a₀:Array Keyed}{rk:Rk}
noncomputable def Rs (v:Nat->Nat):List (Nat×Nat×Nat)->Nat->Nat->Prop
 | [],i,j=>i=j
 |(o,n,_)::l,i,j=>o=i/\1<=n/\Up v i (i + n)/\Rs v l (i + n) j
theorem Rs.le {v:Nat->Nat}:∀{l:List (Nat×Nat×Nat)} {i j:Nat},Rs v l i j->i + l.length<=j
  | [],i,j,h=>W7 h
  |(o,n,_)::l,i,j,h=>by
    have:=Rs.le h.2.2.2;have:=h.2.1;rw[RD];omega
theorem Rs.app {v:Nat->Nat}:∀{l:List (Nat×Nat×Nat)} {l':List (Nat×Nat×Nat)} {i j:Nat},Rs v (l ++ l') i j->∃k,Rs v l i k/\Rs v l' k j
  | [],l',i,j,h=>⟨i,rfl,h⟩
  |(o,n,_)::l,l',i,j,h=>by
    obtain⟨k,a,b⟩:=Rs.app (l:=l) h.2.2.2;exact⟨k,⟨h.1,h.2.1,h.2.2.1,a⟩,b⟩
theorem Rs.join {v:Nat->Nat}:∀{l:List (Nat×Nat×Nat)} {l':List (Nat×Nat×Nat)} {i j k:Nat},Rs v l i k->Rs v l' k j->Rs v (l ++ l') i j
 | [],l',i,j,k,a,b=>by cases (show i=k from a);exact b
 |(o,n,_)::l,l',i,j,k,a,b=>⟨a.1,a.2.1,a.2.2.1,Rs.join a.2.2.2 b⟩
theorem Rs.same {v v':Nat->Nat}:∀{l:List (Nat×Nat×Nat)} {i j:Nat},Rs v l i j->(∀k,i<=k->k<j->v' k=v k)->Rs v' l i j
  | [],i,j,h,e=>h
  |(o,n,_)::l,i,j,h,e=>by
    have:=h.2.2.2.le;refine⟨h.1,h.2.1,fun a b h1 h2 h3=>?_,Rs.same h.2.2.2 fun k k1 k2=>e k (by omega) k2⟩;rw[e a h1 (by omega),e b (by omega) (by omega)];exact h.2.2.1 a b h1 h2 h3
theorem Rs.up {v:Nat->Nat}{l:List (Nat×Nat×Nat)}{i j:Nat}(h:Rs v l i j)(h1:l.length<=1):Up v i j:=by
 match l,h,h1 with
 | [],h,_=>cases (show i=j from h);exact fun a b h1 h2 h3=>by omega
 | [(o,n,_)],h,_=>cases (show i + n=j from h.2.2.2);exact h.2.2.1
theorem Rs.power {v:Nat->Nat}{w:Nat}:∀{l:List (Nat×Nat×Nat)} {i j:Nat} (k:Nat),Rs v l i j->Rs v (l.modify k fun z=>(z.1,z.2.1,w)) i j
 | [],i,j,k,h=>by rw[List.modify_nil];exact h
 |(o,n,_)::l,i,j,0,h=>by rw[List.modify_zero_cons];exact h
 |(o,n,_)::l,i,j,k + 1,h=>by rw[List.modify_succ_cons];exact⟨h.1,h.2.1,h.2.2.1,Rs.power k h.2.2.2⟩
structure Sr (κ:SortKind)(a₀:Array Keyed)(rk:Rk)(lo:Nat)(st:SortSt):Prop where
 b:Bs κ a₀ st
 r:Rs (vv rk (arrOf st)) (pendingOf st).toList 0 lo
theorem Bo {st:SortSt}{lo i:Nat}(C:gR prog w A R κ a₀ rk)(S:Sr κ a₀ rk lo st)(hl:lo<=a₀.size)(hi:i + 1<(pendingOf st).size){P:Bool->SortSt->Prop}
  (q:∀st',Sr κ a₀ rk lo st'->(pendingOf st').size + 1=(pendingOf st).size->(∀k,lo<=k->vv rk (arrOf st') k=vv rk (arrOf st) k)->P true st'):Ok prog w A E R (mergeAt' i) st P:=by
 have ht:=S.r;have e0:(pendingOf st).toList=(pendingOf st).toList.take i ++ (pendingOf st).toList.drop i:=(TY ..).symm;rw[Ti (by simp;omega),Ti (by simp;omega)]at e0;rcases h1:(pendingOf st).toList[i]'(by simp;omega) with⟨o,n,x⟩;rcases h2:(pendingOf st).toList[i + 1]'(by simp;omega) with⟨p,m,y⟩;rw[h1,h2]at e0;have g1:(pendingOf st)[i]? =some (o,n,x):=by rw[<-Tn,Rr (by simp;omega),h1]
 have g2:(pendingOf st)[i + 1]? =some (p,m,y):=by rw[<-Tn,Rr (by simp;omega),h2]
 generalize hL:(pendingOf st).toList.take i=L at e0;generalize hM:(pendingOf st).toList.drop (i + 1 + 1)=M at e0;have lL:L.length=i:=by rw[<-hL,Sw,Rz];omega
 rw[e0]at ht;obtain⟨k,r1,r2⟩:=ht.app;obtain⟨rfl,n1,u1,rfl,m1,u2,r3⟩:=r2;have l3:=r3.le;refine Ja C S.b g1 g2 rfl n1 m1 (by omega) u1 u2 fun st' B' hp' u' f'=>q st' ⟨B',?_⟩ ?_ fun j hj=>f' j (.inr (by omega))
 ·rw[hp'];rw[Vu,V_,e0,List.set_append_right _ _ (by omega),lL,W8,S9,List.eraseIdx_append_of_length_le (by omega),lL,show i + 1 - i=1 by omega];refine(r1.same fun j _ j2=>f' j (.inl j2)).join ?_;refine⟨rfl,by omega,by rw[<-Nat.add_assoc];exact u',?_⟩;rw[<-Nat.add_assoc];exact r3.same fun j j1 _=>f' j (.inr j1)
 ·rw[hp', <-Rz, <-Rz,Vu,List.length_eraseIdx_of_lt (by simpa using hi),V_,R7,Rz];omega
theorem Jc {a:Array Keyed}(C:gR prog w A R κ a rk){P:Unit->SortSt->Prop}(q:∀st',(arrOf st').Perm a->failedOf st'=none->Up (vv rk (arrOf st')) 0 a.size->P () st'):
    Ok prog w A E R sortRuns' (SortSt.mk' κ a #[] 7 none) P:=by
  rw[sortRuns'_eq];refine aH (h_ ?_);show Ok prog w A E R _ _ _
  extract_lets size minrun lo0
  have es:size=a.size:=rfl
  clear_value size minrun
  subst es;refine aH (Ok.mono (P:=fun c st=>c=(none,a.size)/\Sr κ a rk a.size st) (eF (fun x c st=>∃lo,c=(none,lo)/\lo<=a.size/\(lo=a.size\/x<=lo)/\Sr κ a rk lo st) ⟨0,rfl,by omega,by omega,⟨rfl,rfl,Array.Perm.refl _⟩,rfl⟩ ?_ ?_) ?_)
  · rintro x c st x1 x2 ⟨lo,rfl,hl,hx,S⟩
    extract_lets lo' jp
    have el:lo'=lo:=rfl
    clear_value lo'
    subst el
    by_cases c1:lo' >=a.size
    · rw[tG c1];obtain rfl:lo'=a.size:=by omega
      exact aK ⟨rfl,S⟩
    rw[Rn c1]
    suffices hjp:∀n st,1<=n->lo' + n<=a.size->Sr κ a rk lo' st->Up (vv rk (arrOf st)) lo' (lo' + n)->Ok prog w A E R (jp () n) st _ by
      refine aH (IV C (show lo' + (a.size - lo')<=a.size by omega) (by omega) S.b fun m st' m1 m2 B' u' f'=>?_);have S':Sr κ a rk lo' st':=⟨B',by rw[f'.p];exact S.r.same fun k _ k2=>f'.v k k2⟩;show Ok prog w A E R (if m<minrun then _ else jp () m) _ _
      by_cases c3:m<minrun
      · rw[tG c3];refine aH (mK (aH (IK C (show lo' + min (a.size - lo') minrun<=a.size by omega) m1 (by omega) B' u' fun st2 B2 u2 f2=>?_)));rw[Rn (by simp)];exact hjp _ _ (by omega) (by omega) ⟨B2,by rw[f2.p];exact S'.r.same fun k _ k2=>f2.v k k2⟩ u2
      · rw[Rn c3];exact hjp m st' m1 (by omega) S' u'
    intro n st n1 n2 S u;have push:∀st:SortSt,Sr κ a rk lo' st->Up (vv rk (arrOf st)) lo' (lo' + n)->Sr κ a rk (lo' + n) (setPending st ((pendingOf st).push (lo',n,0))):=fun st S u=>by
      refine⟨⟨S.b.kd,S.b.nf,S.b.pm⟩,?_⟩;show Rs _ ((pendingOf st).push (lo',n,0)).toList 0 _;rw[Td];exact S.r.join ⟨rfl,n1,u,rfl⟩
    refine aH (h_ ?_)
    extract_lets l1 jp2
    suffices hjp2:∀st,Sr κ a rk lo' st->Up (vv rk (arrOf st)) lo' (lo' + n)->Ok prog w A E R (jp2 ()) st _ by
      split
      · rename_i s1 n1' w1 _
        extract_lets pw
        refine aH (Ok.mono (P:=fun c st=>c=(none,())/\Sr κ a rk lo' st/\Up (vv rk (arrOf st)) lo' (lo' + n)) (eF (fun _ c st=>c=(none,())/\Sr κ a rk lo' st/\Up (vv rk (arrOf st)) lo' (lo' + n)) ⟨rfl,S,u⟩ ?_ fun _ _ h=>h) ?_)
        · rintro y c st y1 y2 ⟨rfl,S,u⟩;refine aH (h_ ?_)
          extract_lets pp
          by_cases c2:pp.size > 1
          · have e2:(if pp.size > 1 then pp[pp.size - 2]? else none)=some pp[pp.size - 2]:=by rw[tG c2,Wc]
            rw[e2]
            split
            · split
              · exact aK ⟨rfl,S,u⟩
              · refine aH (Bo C S hl (show pp.size - 2 + 1<pp.size by omega) fun st' S' _ f'=>?_);rw[Rn (by simp)];refine aK ⟨rfl,S',fun i j h1 h2 h3=>?_⟩;rw[f' i h1,f' j (by omega)];exact u i j h1 h2 h3
            · exact aK ⟨rfl,S,u⟩
          · rw[Rn c2];exact aK ⟨rfl,S,u⟩
        · rintro c st ⟨rfl,S,u⟩;refine aH (mJ (hjp2 _ ⟨⟨S.b.kd,S.b.nf,S.b.pm⟩,?_⟩ u));show Rs _ ((pendingOf st).modify _ _).toList 0 _;rw[Array.toList_modify, <-Rz];exact S.r.power _
      · exact hjp2 st S u
    exact fun st S u=>aH (mJ (aK ⟨lo' + n,rfl,n2,by omega,push st S u⟩))
  · rintro c st ⟨lo,rfl,hl,hx,S⟩;have e:lo=a.size:=by omega
    subst e;exact⟨rfl,S⟩
  · rintro c st ⟨rfl,S⟩;dsimp only;have h0:=S.r.le;rw[Rz]at h0;refine aH (Ok.mono (P:=fun c st=>c=(none,())/\Sr κ a rk a.size st/\(pendingOf st).size<=1) (eF (fun x c st=>c=(none,())/\Sr κ a rk a.size st/\((pendingOf st).size<=1\/x + (pendingOf st).size<=a.size)) ⟨rfl,S,by omega⟩ ?_ ?_) ?_)
    · rintro x c st x1 x2 ⟨rfl,S,hx⟩;refine aH (h_ ?_)
      by_cases c1:(pendingOf st).size<=1
      · rw[tG c1];exact aK ⟨rfl,S,c1⟩
      rw[Rn c1];refine aH (Bo C S (Ro _) (by(repeat' split)<;>omega) fun st' S' hs _=>?_)
      rw[Rn (by simp)];exact aK ⟨rfl,S',.inr (by omega)⟩
    · rintro c st ⟨rfl,S,hx⟩;refine⟨rfl,S,?_⟩;have:=S.r.le;rw[Rz]at this;omega
    · rintro c st ⟨rfl,S,h1⟩;exact aK (q st S.b.pm S.b.nf (S.r.up (by simpa using h1)))
end TS
namespace E3
open PySem PySem.Spec PyProof.Rows L2 PySem.W
theorem Fj {a b:Str}(h:a.cps.toList=b.cps.toList):a=b:=PySem.Str.ext' (Wn.mp h)
noncomputable def lo:D->D->Prop
 |.int i,.int j=>i<j
 |.str a,.str b=>a.cps.toList<b.cps.toList
 |_,_=>False
noncomputable def fl:D->Bool
 |.int _=>true
 |.str _=>true
 |_=>false
theorem qY {a:D}(h:lo a a):False:=by
 cases a<;>first |exact h |exact absurd h (Int.lt_irrefl _) |exact VN _ h
theorem Ab {a b c:D}(h:lo a b)(g:lo b c):lo a c:=by
 cases a<;>cases b<;>(try exact h.elim)<;>cases c<;>(try exact g.elim)
 ·exact Int.lt_trans h g
 ·exact List.lt_trans h g
theorem kj {a b:D}{x y:List D}{c:Bool}(h:bB (a::x) (b::y)=some c):(a=b/\fl a=true/\bB x y=some c)\/(lo a b/\c=true)\/(lo b a/\c=false):=by
 cases a<;>cases b<;>(try cases h)
 ·rename_i i j;simp only[bB]at h
  by_cases e:i=j
  ·rw[tG e]at h;exact .inl ⟨by rw[e],rfl,h⟩
  ·rw[Rn e]at h
   by_cases g:i<j
   ·rw[Tq g]at h;exact .inr (.inl ⟨g,(RM h).symm⟩)
   ·rw[R4 g]at h;exact .inr (.inr ⟨show j<i by omega,(RM h).symm⟩)
 ·rename_i i j;simp only[bB]at h
  by_cases e:i=j
  ·rw[tG e]at h;exact .inl ⟨by rw[e],rfl,h⟩
  ·rw[Rn e]at h
   by_cases g:i.cps.toList<j.cps.toList
   ·rw[Tq g]at h;exact .inr (.inl ⟨g,(RM h).symm⟩)
   ·rw[R4 g]at h;refine .inr (.inr ⟨?_,(RM h).symm⟩);show j.cps.toList<i.cps.toList
    by_cases k:j.cps.toList<i.cps.toList
    ·exact k
    ·exact absurd (Fj (List.le_antisymm (List.not_lt.mp k) (List.not_lt.mp g))) e
theorem rm {a b:D}{x y:List D}(h:lo a b):bB (a::x) (b::y)=some true:=by
 cases a<;>cases b<;>(try exact h.elim)
 ·rename_i i j;have h:i<j:=h;simp only[bB];rw[Rn (by omega),Tq h]
 ·rename_i i j;have h:i.cps.toList<j.cps.toList:=h;simp only[bB];rw[Rn (fun e=>VN _ (e ▸ h)),Tq h]
theorem uR {a b:D}{x y:List D}(h:lo b a):bB (a::x) (b::y)=some false:=by
 cases a<;>cases b<;>(try exact h.elim)
 ·rename_i i j;have h:j<i:=h;simp only[bB];rw[Rn (by omega),R4 (by omega)]
 ·rename_i i j;have h:j.cps.toList<i.cps.toList:=h;simp only[bB];rw[Rn (fun e=>VN _ (e ▸ h)),R4 fun g=>VN _ (List.lt_trans h g)]
theorem lt_eq {a:D}{x y:List D}(h:fl a=true):bB (a::x) (a::y)=bB x y:=by
 cases a<;>(try cases h)<;>simp only[bB,Ub]
theorem uT {x:D}{xs:List D}{c:Bool}:bB (x::xs) []=some c->False:=by cases x<;>exact fun h=>nomatch h
theorem Ah {x:D}{xs:List D}{c:Bool}:bB [] (x::xs)=some c->False:=fun h=>nomatch h
theorem Ag:∀{x:List D} {b:Bool},bB x x=some b->b=false
  | [],b,h=>(RM h).symm
  |a::x,b,h=>by
    rcases kj h with⟨_,_,h⟩ |⟨h,_⟩ |⟨h,_⟩
    · exact Ag h
    · exact(qY h).elim
    · exact(qY h).elim
theorem uQ:∀{x y z:List D} {b:Bool},bB x y=some b->bB y z=some b->bB x z=some b
  | [],[],z,b,_,g=>g
  | [],_::_,_,_,h,_=>(Ah h).elim
  |_::_,[],_,_,h,_=>(uT h).elim
  |_::_,_::_,[],_,_,g=>(uT g).elim
  |a::x,c::y,d::z,b,h,g=>by
    rcases kj h with⟨rfl,f,h'⟩ |⟨h',rfl⟩ |⟨h',rfl⟩
    · rcases kj g with⟨rfl,_,g'⟩ |⟨g',rfl⟩ |⟨g',rfl⟩
      · rw[lt_eq f];exact uQ h' g'
      · exact rm g'
      · exact uR g'
    · rcases kj g with⟨rfl,_,_⟩ |⟨g',_⟩ |⟨_,e⟩
      · exact rm h'
      · exact rm (Ab h' g')
      · cases e
    · rcases kj g with⟨rfl,_,_⟩ |⟨_,e⟩ |⟨g',_⟩
      · exact uR h'
      · cases e
      · exact uR (Ab g' h')
theorem Af:∀{x y:List D},bB x y=some false->bB y x=some false->x=y
  | [],[],_,_=>rfl
  | [],_::_,h,_=>(Ah h).elim
  |_::_,[],h,_=>(uT h).elim
  |a::x,c::y,h,g=>by
    rcases kj h with⟨rfl,f,h⟩ |⟨_,e⟩ |⟨h,_⟩
    · rw[lt_eq f]at g;rw[Af h g]
    · cases e
    · rw[rm h]at g;cases g
noncomputable def pH (T:List (List D)) (x:List D):Nat:=T.countP fun y=>bB y x==some true
theorem yS {α:Type}{p q:α->Bool}:∀{l:List α} {x:α},(∀z∈l,p z=true->q z=true)->x∈l->q x=true->p x=false->l.countP p<l.countP q
  |y::l,x,h,hx,h1,h2=>by
    rw[List.countP_cons,List.countP_cons];have mo:l.countP p<=l.countP q:=WQ fun z hz=>h z (RP _ hz);rcases Ss.mp hx with rfl |hx
    · rw[h1,h2];simp only[Ub,Ug,U3];omega
    · have ih:=yS (fun z hz=>h z (RP _ hz)) hx h1 h2;have:=h y R6
      by_cases e:p y=true
      · rw[e,this e];omega
      · rw[Rn e];omega
theorem wj {T:List (List D)}(cm:∀x∈T,∀y∈T,∃b,bB x y=some b){x y:List D}(hx:x∈T)(hy:y∈T){b:Bool}(h:bB x y=some b):b=decide (pH T x<pH T y):=by
  cases b with
  |true=>
    refine(Tq (yS (x:=x) (fun z _ hz=>?_) hx (by rw[h];rfl) ?_)).symm
    · rw[uQ (eq_of_beq hz) h];rfl
    · obtain⟨c,e⟩:=cm x hx x hx;rw[e,Ag e];rfl
  |false=>
    refine(R4 (Xf.mpr (WQ fun z hz h1=>?_))).symm;obtain⟨c,e⟩:=cm z hz x hx
    cases c with
    |true=>rw[e];rfl
    |false=>
      have:=uQ e h;rw[eq_of_beq h1]at this;cases this
noncomputable def fD:Value->D
 |.int z _=>.int z
 |.str x _=>.str x
 |_=>.non
noncomputable def tD (h:Heap):Value->List D
  | .ref a => (match h.get? a with
    | some o => (match o.data with
      |.seq its _=>its.toList.map fD
      |_=>[])
    |none=>[])
  |_=>[]
section
variable {prog:Program}{w:World}{A:Around}{E:Value->Shared->Prop}{s:Shared}
theorem O_ {a:Addr}{n:Nat}{vs:List Value}{κ:SortKind}{rv:Value->Nat}{P:PySem.Fin->Shared->Prop}(ho:s.heap.get? a=some (seqObj "list" vs.toArray n))(h2:2<=vs.length)(hz:vs.length<=sizeLine)
  (hk:∀(h':Heap) (Q':SortKind->Shared->Prop),eO a s.heap h'->Q' κ {s with heap:=h'}->wpAny (model prog w) A (keyKind' vs.toArray) Q' (fun _ _=>False) {s with heap:=h'})
  (hc:∀(h':Heap),eO a s.heap h'->∀u∈vs,∀u'∈vs,∀tk C,(∀tk,C (decide (rv u<rv u')) {s with heap:=h',toks:=tk})->wpAny (model prog w) A (keyLt' κ u u') C (fun _ _=>False) {s with heap:=h',toks:=tk})
  (q:∀(h':Heap) tk c (us:List Value),us.Perm vs->us.Pairwise (fun u u'=>rv u<=rv u')->eO a s.heap h'->h'.get? a=some (seqObj "list" us.toArray c)->P (.done (.ret .none)) {s with heap:=h',toks:=tk}):
  wpAny (model prog w) A (Builtin.«list.sort» ⟨[.ref a],[]⟩) P E s:=by
 have st:=Ai s.heap a vs;obtain⟨e1,z1⟩:∃e1,(s.heap.update a (Obj.mapSeq fun _=>(#[]:Array Value))).get? a=some (seqObj "list" #[] e1):=⟨_,VD ho fun _=> #[]⟩;have z2:(eY s.heap a vs).get? a=some (seqObj "list" #[] e1):=Rt _ (Rt _ z1);rw[list_sort_plain];refine Rp (listItems_at ho rfl (Rp (V8 ho rfl (Rp (seqEpoch_at z1 rfl (Rp (wpAny_newTuple (Rp (V9 (Vo ?_) (Tc _))) hz)))) (by simpa using hz) (Tc _))));show wpAny (model prog w) A _ P E {s with heap:=eY s.heap a vs};dsimp only;have two:¬ vs.toArray.size<2:=by simpa using h2
 rw[Rn two,Rn two];generalize eY s.heap a vs=h1 at st z2 ⊢;have kind:=hk h1 (fun κ' s'=>κ'=κ/\s'={s with heap:=h1}) st ⟨rfl,rfl⟩;refine Rp (S_ kind (fun κ' s0 z=>?_) fun _ _ x=>x.elim);obtain⟨rfl,rfl⟩:=z;have mz:∀x∈vs.toArray.zip vs.toArray,x.1=x.2/\x.1∈vs:=fun x hx=>by
  have hx:x∈vs.zip vs:=by simpa using Tr.mpr hx
  obtain⟨i,hi,e⟩:=Uu hx;rw[List.getElem_zip]at e;subst e;exact⟨rfl,U4 _⟩
 have run := TS.Jc (prog := prog) (w := w) (A := A) (E := E) (R := fun s' => ∃ tk, s' = { s with heap := h1, toks := tk }) (κ := κ') (a := vs.toArray.zip vs.toArray) (rk := fun x => rv x.1) (fun x y hx hy s' r=>by
  obtain⟨tk,rfl⟩:=r;exact hc h1 st _ (mz x hx).2 _ (mz y hy).2 tk _ fun tk'=>⟨⟨tk',rfl⟩,rfl⟩) (P:=fun _ st'=>(arrOf st').Perm (vs.toArray.zip vs.toArray)/\failedOf st'=none/\TS.Up (TS.vv (fun x=>rv x.1) (arrOf st')) 0 (vs.toArray.zip vs.toArray).size) (fun st' a b c=>⟨a,b,c⟩) {s with heap:=h1} ⟨s.toks,rfl⟩
 refine Rp (S_ run ?_ fun _ _ e=>e);rintro⟨⟨⟩,st'⟩ s' ⟨⟨tk,rfl⟩,hp,hf,hu⟩;dsimp only;have hp2:((arrOf st').toList.map (·.2)).Perm vs:=by
  have e:((vs.toArray.zip vs.toArray).toList.map (·.2))=vs:=by rw[Array.toList_zip];exact List.map_snd_zip (Ro _)
  exact((Array.Perm.toList hp).map _).trans (List.Perm.of_eq e)
 have dg:∀x∈(arrOf st').toList,x.1=x.2:=fun x hx=>(mz x (hp.mem_iff.mp (Tr.mp hx))).1;have sz:(vs.toArray.zip vs.toArray).size=(arrOf st').size:=hp.size_eq.symm;have hs2:((arrOf st').toList.map (·.2)).Pairwise fun u u'=>rv u<=rv u':=by
  rw[Xe,Vb];intro i j hi hj hij;rw[Rz]at hi hj;have:=hu i j (Tc _) (by omega) (by omega);rw[TS.cj hi,TS.cj hj]at this;rw[<-dg _ (U4 _), <-dg _ (U4 _)];exact this
 have ea:(arrOf st').map (·.2)=((arrOf st').toList.map (·.2)).toArray:=by
  apply Wn.mp;rw[Array.toList_map]
 rw[ea];generalize (arrOf st').toList.map (·.2)=us at hp2 hs2;have hl:=hp2.length_eq;obtain⟨c2,z3⟩:∃c2,(h1.update a (Obj.mapSeq fun _=>us.toArray)).get? a=some (seqObj "list" us.toArray c2):=⟨_,VD z2 fun _=>us.toArray⟩;refine Rp (seqEpoch_at z2 rfl (Rp (V8 z2 rfl ?_ (Tc _) (by rw[Rq,hl];exact Uz hz))));rw[hf];simp only[Xb,Ug,U3];exact Rw (q _ tk c2 us hp2 hs2 (fun b o nb e=>eO.upd h1 a _ b o nb (st b o nb e)) z3)
theorem Pb {l:Addr}{vs:List Value}{κ:SortKind}{rv:Value->Nat}{Q:Value->Shared->Prop}(hl:s.heap.IsList l vs.toArray)(h2:2<=vs.length)(hz:vs.length<=sizeLine)
  (hk:∀(h':Heap) (Q':SortKind->Shared->Prop),Grows s.heap h'->Q' κ {s with heap:=h'}->wpAny (model prog w) A.in1.in1 (keyKind' vs.toArray) Q' (fun _ _=>False) {s with heap:=h'})
  (hc:∀(h':Heap),Grows s.heap h'->∀u∈vs,∀u'∈vs,∀tk C,(∀tk,C (decide (rv u<rv u')) {s with heap:=h',toks:=tk})->wpAny (model prog w) A.in1.in1 (keyLt' κ u u') C (fun _ _=>False) {s with heap:=h',toks:=tk})
  (q:∀(h':Heap) tk c a (us:List Value),us.Perm vs->us.Pairwise (fun u u'=>rv u<=rv u')->Grows s.heap h'->s.heap.objs.size<=a->h'.get? a=some (seqObj "list" us.toArray c)->Q (.ref a) {s with heap:=h',toks:=tk}):
  wpAny (model prog w) A (call (.builtin "sorted") [.ref l]) Q E s:=by
 have up:∀h',eO (s.heap.objs.size + 1) (cR s.heap vs) h'->Grows s.heap h':=fun h' st b o e=>st b o (RX (Vj (Rv e))) (yU s.heap vs b o e);refine Wb kind_sorted plain_sorted entry_sorted (args_sorted1 _) ?_;unfold Builtin.«sorted»;refine Rp (m:=checkCount "sorted" 1 1 _) (Rw (Rp (collect_list hl (Rp (V9 ?_ hz)) (by simpa using hz))));rw[qG];show wpAny _ _ _ _ _ {s with heap:=cR s.heap vs};refine Rp (Vo (Wf slot_list_sort ⟨_,qF s.heap vs,rfl⟩ entry_list_sort (O_ (s:={s with heap:=cR s.heap vs}) (qF s.heap vs) h2 hz (fun h' Q' st=>hk h' Q' (up h' st)) (fun h' st=>hc h' (up h' st)) fun h' tk c us hp hs st e=>?_) (args_list_sort _)));exact⟨_,rfl,Rw ⟨_,rfl,q h' tk c _ us hp hs (up h' st) (WD _) e⟩⟩
end
noncomputable def tupS:D->Bool
 |.tup (.str _::_)=>true
 |_=>false
noncomputable def kh:D->D->Prop
 |.tup x,.tup y=>bB y x=some false
 |_,_=>False
def g_ (ds:List D):Prop:=(ds.all tupI=true\/ds.all tupS=true)/\∀xs ys,.tup xs∈ds->.tup ys∈ds->∃b,bB xs ys=some b
theorem z9 {a b:D}(h:kh a b)(g:kh b a):a=b:=by
 cases a<;>(try exact h.elim)<;>cases b<;>(try exact h.elim)
 rw[Af g h]
theorem g_.tup {ds:List D}(h:g_ ds):∀d∈ds,∃xs,d=.tup xs:=fun d hd=>by
 rcases h.1 with h |h<;>have:=TV.mp h d hd<;>cases d<;>first |exact⟨_,rfl⟩ |(cases this)
theorem g_.perm {ds es:List D}(h:g_ ds)(p:es.Perm ds):g_ es:=by
 refine⟨h.1.imp (fun z=>TV.mpr fun d hd=>TV.mp z d (p.mem_iff.mp hd)) (fun z=>TV.mpr fun d hd=>TV.mp z d (p.mem_iff.mp hd)),fun xs ys hx hy=>h.2 xs ys (p.mem_iff.mp hx) (p.mem_iff.mp hy)⟩
theorem zH:∀{x:List D} {b:Bool},bB x x=some b->∀d∈x,fl d=true
  | [],_,_=>fun d hd=>nomatch hd
  |a::x,b,h=>by
    rcases kj h with⟨_,f,h'⟩ |⟨h',_⟩ |⟨h',_⟩
    · intro d hd;rcases Ss.mp hd with rfl |hd
      · exact f
      · exact zH h' d hd
    · exact(qY h').elim
    · exact(qY h').elim
section
variable {X:Cx}{Wx:XW}{pins:Pnx}{σ:L2.St}{H:Hp}{s:Shared}
theorem zB {K:Fgx}{P:Pl}{H:Hp}:∀{xs:List D} {vs:List V} {us:List Value},(∀d∈xs,fl d=true)->aq K P H xs vs->Vals vs us->us.map fD=xs
  | [],vs,us,_,i,r=>by
    rw[show vs=[] from i]at r;cases r;rfl
  |d::xs,vs,us,hf,i,r=>by
    obtain⟨v,vr,rfl,p,i⟩:=i
    cases r with
    |cons a r=>
      have f:=hf d R6;rw[R5,zB (fun e he=>hf e (RP _ he)) i r];congr 1;cases d<;>(try cases f)
      · cases p;obtain⟨t,rfl⟩:=a;rfl
      · cases p;obtain⟨t,rfl⟩:=a;rfl
theorem Qa {P:Pl}(I:Inv X pins σ H s){h':Heap}(g:Grows s.heap h'){xs:List D}{v:V}{u:Value}(i:Is X.K P H (.tup xs) v)(r:RelV v u){b:Bool}(hb:bB xs xs=some b):tD h' u=xs:=by
 obtain⟨a,o,its,n,ws,rfl,e1,e2,e3,is,rv⟩:=sU I g i r;unfold tD;dsimp only;rw[e1];dsimp only;rw[e3];exact zB (zH hb) is rv
theorem wX {P:Pl}(I:Inv X pins σ H s){h':Heap}(g:Grows s.heap h'):∀{ds:List D} {vs:List V} {us:List Value},(∀d∈ds,∃xs b,d=.tup xs/\bB xs xs=some b)->aq X.K P H ds vs->Vals vs us->ds=us.map fun u=>.tup (tD h' u)
  | [],vs,us,_,i,r=>by
    rw[show vs=[] from i]at r;cases r;rfl
  |d::ds,vs,us,hf,i,r=>by
    obtain⟨v,vr,rfl,p,i⟩:=i
    cases r with
    |cons a r=>
      obtain⟨xs,b,rfl,hb⟩:=hf d R6;rw[R5, <-wX I g (fun e he=>hf e (RP _ he)) i r,Qa I g p a hb]
theorem JX {K:Fgx}{P:Pl}{H:Hp}{us us':List Value}(p:us'.Perm us):∀{ds:List D} {vs:List V},aq K P H ds vs->Vals vs us->∃ds' vs',ds'.Perm ds/\aq K P H ds' vs'/\Vals vs' us':=by
  induction p with
  |nil=>exact fun {ds vs} i r=>⟨ds,vs,WR _,i,r⟩
  |cons x p ih=>
    intro ds vs i r
    cases r with
    |cons a r=>
      cases ds with
      |nil=>cases i
      |cons d ds=>
        obtain⟨v,vr,e,p,i⟩:=i;cases e;obtain⟨ds',vs',p',i',r'⟩:=ih i r;exact⟨d::ds',_::vs',p'.cons d,⟨_,_,rfl,p,i'⟩,.cons a r'⟩
  |swap x y l=>
    intro ds vs i r
    cases r with
    |cons a r=>
      cases r with
      |cons b r=>
        cases ds with
        |nil=>cases i
        |cons d ds=>
          obtain⟨v,vr,e,p,i⟩:=i;cases e
          cases ds with
          |nil=>cases i
          |cons d2 ds=>
            obtain⟨v2,vr2,e,p2,i⟩:=i;cases e;exact⟨d2::d::ds,_,List.Perm.swap _ _ _,⟨_,_,rfl,p2,_,_,rfl,p,i⟩,.cons b (.cons a r)⟩
  |trans p1 p2 ih1 ih2=>
    intro ds vs i r;obtain⟨ds',vs',p',i',r'⟩:=ih2 i r;obtain⟨ds2,vs2,p3,i3,r3⟩:=ih1 i' r';exact⟨ds2,vs2,p3.trans p',i3,r3⟩
theorem Dl {P:Pl}(I:Inv X pins σ H s){h':Heap}(g:Grows s.heap h'):∀(ds:List D) (vs:List V) (us:List Value),ds.all tupS=true->aq X.K P H ds vs->Vals vs us->∃fs,KatTups h' us fs/\fs.length=us.length/\∀f∈fs,∃i t,f=Value.str i t
  | [],vs,us,_,i,r=>by
    rw[show vs=[] from i]at r;cases r;exact⟨[],KatTups.nil,rfl,fun f h=>nomatch h⟩
  |d::ds,vs,us,hd,i,r=>by
    obtain⟨v,vr,rfl,p,i⟩:=i;rw[Uo,RN]at hd
    cases r with
    |cons a1 r=>
      obtain⟨fs,k,kl,kf⟩:=Dl I g ds _ _ hd.2 i r
      cases d with
      |tup xs=>
        cases xs with
        |nil=>cases (show false=true from hd.1)
        |cons x xs=>
          cases x with
          |str z=>
            obtain⟨a,o,its,n,ws,rfl,e1,e2,e3,is,rv⟩:=sU I g p a1;obtain⟨w,wr,rfl,pw,is⟩:=is;cases pw;obtain⟨its⟩:=its
            cases rv with
            |cons b1 rv=>
              obtain⟨t,rfl⟩:=b1;refine⟨.str z t::fs,KatTups.cons e1 e2 e3 rfl k,by simp[kl],fun f hf=>?_⟩;rcases Ss.mp hf with rfl |hf
              · exact⟨z,t,rfl⟩
              · exact kf f hf
          |_=>cases (show false=true from hd.1)
      |_=>cases (show false=true from hd.1)
def Mj (K:Fgx):List V->Hp->VK->Prop:=fun xs H Q=>∃(P:Pl) (a:Addr) (vs:List V) (ds:List D),xs=[.ref a]/\bK K H a vs/\aq K P H ds vs/\2<=ds.length/\g_ ds/\
 ∀l es vs',es.Perm ds->es.Pairwise kh->aq K P H es vs'->H l=none->Q (.ref l) (upd H l (.lst vs'))
theorem Ew:eN X (.builtin "sorted") (Mj X.K):=by
 intro pins s σ H xs us Q I r h;obtain⟨P,a,vs,ds,rfl,hl,is,h2,ok,q⟩:=h;obtain⟨u,rfl,rx⟩:=vals1 r;cases rx;obtain⟨its,rv,pl,hz⟩:=I.list hl;have l1:its.length=ds.length:=by rw[<-rv.length,is.len]
 have fla:∀d∈ds,∃xs b,d=.tup xs/\bB xs xs=some b:=fun d hd=>by
  obtain⟨xs,rfl⟩:=ok.tup d hd;obtain⟨b,hb⟩:=ok.2 xs xs hd hd;exact⟨xs,b,rfl,hb⟩
 have g0:Grows s.heap s.heap:=fun _ _ e=>e;have e0:=wX I g0 fla is rv;generalize hT:its.map (tD s.heap)=T;have inT:∀{u},u∈its->tD s.heap u∈T:=fun hu=>by rw[<-hT];exact Ua hu
 have ofT:∀x∈T,D.tup x∈ds:=fun x hx=>by
  rw[<-hT]at hx;obtain⟨u,hu,rfl⟩:=T6.mp hx;rw[e0];exact Ua (f:=fun u=>D.tup (tD s.heap u)) hu
 have cm:∀x∈T,∀y∈T,∃b,bB x y=some b:=fun x hx y hy=>ok.2 x y (ofT x hx) (ofT y hy);have item:∀{h':Heap},Grows s.heap h'->∀u∈its,∃a o t n w,u=.ref a/\h'.get? a=some o/\o.data=.seq t n/\aq X.K P H (tD s.heap u) w/\Vals w t.toList:=fun {h'} g u hu=>by
  obtain⟨i,hi,rfl⟩:=Uu hu;have ed:ds[i]? =some (.tup (tD s.heap its[i])):=by rw[e0,Rx,Rr hi];rfl
  obtain⟨v,ev,iv⟩:=is.get ed;have rr:RelV v its[i]:=by
   have:=QC rv i;rw[U7,U7,ev,Rr hi]at this;exact this
  obtain⟨a1,o1,t1,n1,w1,e1,f1,f2,f3,f4,f5⟩:=sU I g iv rr;exact⟨a1,o1,t1,n1,w1,e1,f1,f3,f4,f5⟩
 refine Pb (κ:=tuples' true) (rv:=fun u=>pH T (tD s.heap u)) pl.isList (by omega) (by rw[<-rv.length];exact hz) (fun h' Q' g hq=>?_) (fun h' g u hu u' hu' tk C hC=>?_) fun h' tk c D' us hp hs g hD eD=>?_
 ·rcases ok.1 with ht |ht
  ·obtain ⟨fs, k, kl, kf⟩ := Dk I g ds vs its ht is rv;exact kat_kind (T := .type "int") k (by omega) (fun f hf=>by
    obtain⟨i,t,rfl⟩:=kf f hf;intro A Q E s _ q;exact Rw q) (by x_go) hq
  ·obtain ⟨fs, k, kl, kf⟩ := Dl I g ds vs its ht is rv;exact kat_kind (T := .type "str") k (by omega) (fun f hf=>by
    obtain⟨i,t,rfl⟩:=kf f hf;intro A Q E s _ q;exact Rw q) (by x_go) hq
 ·obtain⟨b,hb⟩:=cm _ (inT hu) _ (inT hu');have eb:=wj cm (inT hu) (inT hu') hb;obtain⟨a1,o1,t1,n1,w1,e1,f1,f3,f4,f5⟩:=item g u hu;obtain⟨a2,o2,t2,n2,w2,e2,g1,g3,g4,g5⟩:=item g u' hu';generalize tD s.heap u=x at hb eb f4 hC;generalize tD s.heap u'=y at hb eb g4 hC;rw[e1,e2];refine kat_lt (s:={s with heap:=h',toks:=tk}) f1 f3 g1 g3 (z_ (b:=b) (by rw[eb];exact hC tk) x y w1 w2 _ _ 0 f4 g4 f5 g5 hb fun z=>?_);simp only[Rz]at z
  simp[z]
 ·obtain⟨es,vs',p',i',r'⟩:=JX hp is rv;have ok':=ok.perm p';have e1:=wX I g0 (fun d hd=>fla d (p'.mem_iff.mp hd)) i' r';have hsd:es.Pairwise kh:=by
   rw[e1,Xe];refine hs.imp_of_mem fun {u u'} hu hu' hle=>?_;have m1:=inT (hp.mem_iff.mp hu);have m2:=inT (hp.mem_iff.mp hu');obtain⟨b,hb⟩:=cm _ m2 _ m1;have eb:=wj cm m2 m1 hb;rw[R4 (Xf.mpr hle)]at eb;rw[eb]at hb;exact hb
  have hlen:vs'.length<=sizeLine:=by
   rw[i'.len,p'.length_eq, <-is.len];exact hz
  exact⟨.ref D',_,I.laid (o:=.lst vs') g hD ⟨hlen,_,c,r',eD⟩,rfl,q D' es vs' p' hsd i' (I.hok.fresh hD)⟩
noncomputable def iy (ds:List D):Option (List D):=if ds.length<2 then some ds else @dite _ (g_ ds/\∃es:List D,es.Perm ds/\es.Pairwise kh) (Classical.propDecidable _) (fun h=>some (Classical.choose h.2)) fun _=>none
noncomputable def jJ (f:E):E:=fun env M=>bnd (f env M) fun d M1=>match vw M1 d with
 |.lst ds=>(iy ds).map fun es=>(.v (.lst es),M1)
 |_=>none
theorem CZ {e:Expr}{f:E}{p pos:Pos}(hg:Gl X "sorted")(hm:X.mg "sorted"=none)(he:SE X Wx .bor e f)(hs:starEach [e] X.env=(false,eval e X.env)::starEach [] X.env:=by rfl):SN X Wx (.Call (.Name "sorted" p) [e] [] pos) (jJ f):=by
 refine cL (Bt (Ep.or Ew) hg hm boot_sorted (pA he pB hs) (by x_go) (by x_go) hs rfl) ?_;rintro st H Q ⟨P0,H0,P,Os,env,M,r,M',k,e,q⟩;unfold jJ at e;rcases dj e with⟨d,M1,e1,e⟩ |⟨c,n,e1,rfl⟩
 ·refine bM k e1 fun P1 v1 H1 l1 h1 i1=>?_;have iw:=b_.vw h1 i1;split at e
  ·rename_i ds ev;rw[Ru]at e;obtain⟨es,ez,e⟩:=e;cases e;obtain⟨ds',e',q⟩:=q;cases e';rw[ev]at iw;obtain⟨a,vs,rfl,sq,is⟩:=iw;have fin:∀ws,aq X.K P1 H1 es ws->∀l,H1 l=none->Q (.ref l) (upd H1 l (.lst ws)):=fun ws iws l hl=>by
    obtain⟨l2,h2,nc⟩:=qx (vs:=ws) h1 hl;exact q (P1.bar l) l ws _ (l1.trans l2) h2 (l1.sure l hl) (.inr rfl) nc dG (aq.lt (l2.lt h1) iws)
   unfold iy at ez;split at ez
   ·rename_i hlt;cases ez;exact .inl ⟨a,vs,rfl,sq,by rw[is.len];exact hlt,fin vs is⟩
   ·split at ez
    ·rename_i h2 h3;have sp:=UL h3.2;rw[RM ez]at sp;refine .inr ⟨P1,a,vs,ds,rfl,sq,is,by omega,h3.1,fun l es' vs' p' s' i' hl=>?_⟩;have ee:es'=es:=Wq (fun a b _ _=>z9) s' sp.2 (p'.trans sp.1.symm);subst ee;exact fin vs' i' l hl
    ·cases ez
  ·cases e
 ·exact bM k e1 q
theorem wI {ds:List D}(h:g_ ds):∃es,iy ds=some es/\es.Perm ds/\es.Pairwise kh:=by
  unfold iy
  split
  · rename_i h2;refine⟨ds,rfl,WR _,?_⟩
    match ds,h2 with
    | [],_=>exact .nil
    | [d],_=>exact List.pairwise_singleton _ _
  · let un:D->List D:=fun d=>match d with |.tup x=>x |_=>[]
    have hun:∀d∈ds,d=.tup (un d):=fun d hd=>by
      obtain⟨xs,rfl⟩:=h.tup d hd;rfl
    have cm:∀x∈ds.map un,∀y∈ds.map un,∃b,bB x y=some b:=fun x hx y hy=>by
      obtain⟨d,hd,rfl⟩:=T6.mp hx;obtain⟨e,he,rfl⟩:=T6.mp hy;exact h.2 _ _ (hun d hd ▸ hd) (hun e he ▸ he)
    let le:D->D->Bool:=fun a b=>decide (pH (ds.map un) (un a)<=pH (ds.map un) (un b))
    have hp := List.mergeSort_perm ds le;have hs := List.pairwise_mergeSort (le := le) (fun a b c h1 h2 => Tq (RB (Vk h1) (Vk h2))) (fun a b=>by
      simp only[le,Wu,T8];exact Nat.le_total _ _) ds
    have ex : ∃ es : List D, es.Perm ds /\ es.Pairwise kh := ⟨_,hp,hs.imp_of_mem fun {a b} ha hb hle=>by
      have m1:=hp.mem_iff.mp ha;have m2:=hp.mem_iff.mp hb;obtain⟨c,hc⟩:=cm _ (Ua m2) _ (Ua m1);have ec:=wj cm (Ua m2) (Ua m1) hc;rw[R4 (Xf.mpr (Vk hle))]at ec;rw[ec]at hc;rw[hun a m1,hun b m2];exact hc⟩
    rw[dif_pos ⟨h,ex⟩];exact⟨_,rfl,UL ex⟩
theorem O8 {ds es:List D}(h:g_ ds)(p:es.Perm ds):iy es=iy ds:=by
 obtain⟨a,ea,pa,sa⟩:=wI h;obtain⟨b,eb,pb,sb⟩:=wI (h.perm p);rw[ea,eb,Wq (fun a b _ _=>z9) sb sa (pb.trans (p.trans pa.symm))]
theorem C_ {f:E}:∀env M r M',jJ f env M=some (.v r,M')->∃ds,r=.lst ds:=fun env M r M' e=>by
 unfold jJ at e;rcases dj e with⟨ds,M1,e1,e⟩ |⟨c,n,e1,e⟩
 ·split at e
  ·rw[Ru]at e;obtain⟨es,_,e⟩:=e;cases e;exact⟨_,rfl⟩
  ·cases e
 ·cases e
end
end E3
namespace L2
open PySem PySem.Spec PyProof.Rows
noncomputable def iH (lo c:Int) (n:Nat):L2.It:=⟨fun i _=>i<n,fun i H x H'=>H'=H/\x=.int (lo + i * c),fun i _=>n<=i⟩
theorem Qt {P:Program}{w:World}{K:Fgx}{tg:Expr}(it:Addr)(lo c:Int)(n:Nat):Turn P w K tg (iH lo c n) [it] it (fun i h=>IsRangeIter h it (lo + (i:Nat) * c) ((n:Int) - (i:Nat)) c) where
 mem:=by simp
 obj:=fun i h st b hb=>by
  have e:b=it:=by simpa using hb
  subst e;exact ⟨_,st,fun v z=>by
   have z':Data.fields _=Data.cell v:=z;cases z'⟩
 keep:=fun i h h' st k=>k it (by simp) _ st
 item:=by
  intro X hP hw hK hc i pins s σ H E I hf st hg;subst hP hw hK;obtain⟨f0,f1,f2,f3,f4,f5⟩:=hf it (by simp);have W:=Walks.range (prog:=X.prog) (w:=X.w) (I.ok.hd hc) it lo c n;refine W.item i s _ _ hg st fun v h' tk hv st' kk=>?_;obtain⟨t,rfl⟩:=hv;have I1:Inv X pins σ H {s with heap:=h',toks:=tk}:=I.turned (fun b o hb e=>kk b o (by simpa using hb) e) f0 f1 f3 f4 f5;exact⟨_,rfl,lV (s:={s with heap:=h',toks:=tk}) (n:="range_iterator") st' rfl rfl (by decide) ⟨.int (lo + i * c),H,I1,⟨t,rfl⟩,⟨rfl,rfl⟩,st',fun b hb=>(hf b hb).1⟩⟩
 done:=by
  intro X hP hw hK hc i pins s σ H E I hf st hg;subst hP hw hK;obtain⟨f0,f1,f2,f3,f4,f5⟩:=hf it (by simp);exact wpAny_pyNext_range_end (I.ok.hd hc) st (by have:n<=i:=hg;omega) fun h' eb=>⟨rfl,I.turned (t':=s.toks) (fun b o hb e=>eb b o hb e) f0 f1 f3 f4 f5⟩
 self:=fun _ _ _ _ _ st h=>wpAny_pyIter_rangeiter st h
section
variable {X:Cx}{tg:Expr}
theorem O7 {lo hi c:Int}(h1:0<=lo)(h2:lo<=1000000000)(h3:0<=hi)(h4:hi<=1000000000)(h5:0<c)(h6:c<=1000000000):Builtin.Range.small lo hi c=true/\0<=Builtin.Range.rangeSize lo hi c:=by
 have hs:Builtin.Range.rangeSize lo hi c=if lo<hi then(hi - lo - 1) / c + 1 else 0:=by
  unfold Builtin.Range.rangeSize;rw[tG h5]
 have hb:0<=Builtin.Range.rangeSize lo hi c/\Builtin.Range.rangeSize lo hi c<=1000000001:=by
  rw[hs]
  split
  ·have e1:0<=(hi - lo - 1) / c:=Int.ediv_nonneg (by omega) (by omega);have e2:(hi - lo - 1) / c<=hi - lo - 1:=Int.ediv_le_self _ (by omega);omega
  ·omega
 refine⟨?_,hb.1⟩;unfold Builtin.Range.small;generalize Builtin.Range.rangeSize lo hi c=z at hb ⊢;simp only[Builtin.Range.rangeFitsLong,RN,Wu,T8,Vz,h5,Ub];omega
theorem Oh {pins:Pnx}{σ:L2.St}{H:Hp}{s:Shared}{R:L2.It->Hp->Prop}{E:Value->Shared->Prop}{lo hi c:Int}{t u v:Tok}{tk:Nat}(I:Inv X pins σ H s)(sm:Builtin.Range.small lo hi c=true/\0<=Builtin.Range.rangeSize lo hi c)
  (q:R (iH lo c (Builtin.Range.rangeSize lo hi c).toNat) H):wpAny (model X.prog X.w) X.A (pyIter (.ref s.heap.objs.size)) (PIE X pins σ tg R) E {s with heap:=s.heap.push {cls:=.type "range",data:=.fields #[.int lo t,.int hi u,.int c v]},toks:=tk}:=by
 refine wpAny_pyIter_range (IsRange.new ..) sm.1 ?_;have I1 : Inv X pins σ H { s with heap := s.heap.push { cls := .type "range", data := .fields #[.int lo t, .int hi u, .int c v] }, toks := tk } := I.kept fun b o e => Rt _ e;refine ⟨(s.heap.push {cls:=.type "range",data:=.fields #[.int lo t,.int hi u,.int c v]}).objs.size,[(s.heap.push {cls:=.type "range",data:=.fields #[.int lo t,.int hi u,.int c v]}).objs.size],_,_,H,rfl,
  I1.kept (t':=tk) fun b o e=>Rt _ e,Qt _ lo c (Builtin.Range.rangeSize lo hi c).toNat,?_,fun b hb=>?_,q⟩
 ·have e1:lo + ((0:Nat):Int) * c=lo:=by simp
  have e2:(((Builtin.Range.rangeSize lo hi c).toNat:Nat):Int) - ((0:Nat):Int)=Builtin.Range.rangeSize lo hi c:=by have:=sm.2;omega
  show IsRangeIter _ _ (lo + ((0:Nat):Int) * c) ((((Builtin.Range.rangeSize lo hi c).toNat:Nat):Int) - ((0:Nat):Int)) c;rw[e1,e2];exact Sq _ rfl
 ·have e:b=(s.heap.push {cls:=.type "range",data:=.fields #[.int lo t,.int hi u,.int c v]}).objs.size:=by simpa using hb
  subst e;exact I1.fpOk (Ro _) (I1.hok.fresh (Ro _))
noncomputable def Qi (ta:TA):TI:=fun σ H R=>ta σ H fun vs H1=>∃i j c:Int,vs=[.int i,.int j,.int c]/\(0<=i/\i<=1000000000/\0<=j/\j<=1000000000/\0<c/\c<=1000000000)/\R (iH i c (Builtin.Range.rangeSize i j c).toNat) H1
theorem J9 {a b c:Expr}{ta:TA}{p pos:Pos}(hg:Gl X "range")(hm:X.mg "range"=none)(ha:PA X [a,b,c] ta)(hs:starEach [a,b,c] X.env=[(false,eval a X.env),(false,eval b X.env),(false,eval c X.env)]:=by rfl)(hs2:starEach [b,c] X.env=[(false,eval b X.env),(false,eval c X.env)]:=by rfl):
    PI X tg (.Call (.Name "range" p) [a,b,c] [] pos) (Qi ta):=by
  intro pins s σ H R I h;refine Call_ (qW I hg hm boot_range (UW (aU (ha pos pins s σ H _ I h) fun us s1 ⟨vs,H1,I1,r1,q1⟩=>?_) (by rw[hs,hs2]) (by rw[hs2];rfl)));obtain⟨i,j,c,e,⟨q1,q2,q3,q4,q5,q6⟩,q⟩:=q1;subst e
  cases r1 with
  |cons r rr=>
    cases rr with
    |cons r' rr=>
      cases rr with
      |cons r'' rr=>
        cases rr;obtain⟨t,rfl⟩:=r;obtain⟨t',rfl⟩:=r';obtain⟨t'',rfl⟩:=r'';exact call_range_3 (by omega) (Oh I1 (O7 q1 q2 q3 q4 q5 q6) q) (.inl (Wy (by omega)))
end
end L2
namespace E3
open PySem PySem.Spec PyProof.Rows L2 PySem.W
theorem Q7 {K:Fgx}{P:Pl}{H:Hp}{lo c:Int}{n:Nat}:Wk K P H (iH lo c n) ((List.range n).map fun(k:Nat)=>.int (lo + k * c)):=fun P' H' l=>by
 rw[RJ,Us];refine⟨fun k hk=>hk,fun k h1 _=>h1,fun k x H2 y hk=>⟨y.1,.int (lo + k * c),?_,y.2⟩⟩;rw[Rx,U8 hk];rfl
noncomputable def cV (i j c:Int):Nat:=(Builtin.Range.rangeSize i j c).toNat
noncomputable def lW (fs:EA):EA:=fun env M=>match fs env M with
 |some (.v [.int i,.int j,.int c],M1)=>if (0<=i/\i<=1000000000)/\(0<=j/\j<=1000000000)/\0<c/\c<=1000000000 then some (.v ((List.range (cV i j c)).map fun(k:Nat)=>.int (i + k * c)),M1) else none
 |some (.x c n,M1)=>some (.x c n,M1)
 |_=>none
section
variable {X:Cx}{Wx:XW}
theorem Oz {tg a b c:Expr}{fs:EA}{p pos:Pos}(hg:Gl X "range")(hm:X.mg "range"=none)(ha:SA X Wx .val [a,b,c] fs)(hs:starEach [a,b,c] X.env=[(false,eval a X.env),(false,eval b X.env),(false,eval c X.env)]:=by rfl)(hs2:starEach [b,c] X.env=[(false,eval b X.env),(false,eval c X.env)]:=by rfl):SI X Wx tg (.Call (.Name "range" p) [a,b,c] [] pos) (lW fs):=by
 refine vA (J9 hg hm ha hs hs2) ?_;rintro st H R ⟨P0,H0,P,Os,env,M,r,M',k,e,q⟩;unfold lW at e;split at e
 ·rename_i i j c M1 ef;split at e
  ·rename_i hj;cases e;refine⟨P0,H0,P,Os,env,M,_,_,k,ef,fun P1 vs H1 l1 h1 i1=>?_⟩;obtain⟨v,ws,rfl,p,v',ws',rfl,p',v'',ws'',rfl,p'',rfl⟩:=i1;exact⟨i,j,c,by rw[show v=.int i from p,show v'=.int j from p',show v''=.int c from p''],⟨hj.1.1,hj.1.2,hj.2.1.1,hj.2.1.2,hj.2.2.1,hj.2.2.2⟩,q P1 H1 _ l1 h1 Q7⟩
  ·cases e
 ·rename_i c n M1 ef;cases e;exact⟨P0,H0,P,Os,env,M,_,_,k,ef,q⟩
 ·cases e
end
structure DefAtD (K:Fgx)(mg:Mgx)(x:Str)(st:Stmt)(ps:List Str)(dd:List D)(f:Addr)(fd:FuncData):Prop where
 mg:mg x=some (.ref f)
 F:FunD K x x st f fd
 b:Binds K fd ps []
 bd:∃(dv:List V) (du:List Value),Binds K fd ps du/\Vals dv du/\(∀P H,aq K P H dd dv)/\dv.length=dd.length
section
variable {P:Program}{w:World}{K:Fgx}{mg:Mgx}{base:Heap}{k:Nat}{x:Str}{st:Stmt}{f:Addr}{fd:FuncData}{N ps:List Str}{b:S}{dd:List D}
theorem DefAtD.ok (D:DefAtD K mg x st ps dd f fd)(S:FnScope N ps (aM st))(hr:RT P w K mg base k f N x st b)(hp:ps.length<=N.length:=by decide):bf P w K mg base (k + 1) x ps.length (cI N.length b):=
 DefAt.ok ⟨D.mg,D.F,D.b⟩ S hr hp
theorem DefAtD.okD {n:Nat}(D:DefAtD K mg x st ps dd f fd)(S:FnScope N ps (aM st))(hr:RT P w K mg base k f N x st b)(hn:ps.length=n + dd.length:=by rfl)(hp:ps.length<=N.length:=by decide):bf P w K mg base (k + 1) x n (fun ds M=>cI N.length b (ds ++ dd) M):=by
 obtain⟨dv,du,bb,v,i,l⟩:=D.bd;refine⟨f,fd,ps,du,dv,_,D.mg,D.F.kp,uG D.F S hp hr,bb,v,fun vs H Q E h=>?_⟩;obtain⟨hl,P1,M1,ds,d,M',hk,is,e,q⟩:=h;exact⟨by rw[RG,hl,l,hn],P1,M1,ds ++ dd,d,M',hk,is.append (i P1 H),e,q⟩
end
section
variable {M:Mm}{env:Env}{f:E}{fs:EA}{ds es:List D}
noncomputable def lC (M:Mm):D->O
 |.lst ds=>mapR M ((iy ds).map .lst)
 |_=>none
theorem Lz:jJ f env M=cQ (fun d M1=>lC M1 (vw M1 d)) (f env M):=by
  unfold jJ cQ bnd
  cases f env M with
  |none=>rfl
  |some p=>obtain⟨r,M'⟩:=p;cases r with
    |x c n=>rfl
    |v d=>
      dsimp only;unfold lC;cases vw M' d<;>try rfl
      dsimp only;cases iy _<;>rfl
theorem BZ (h:iy ds=some es):lC M (.lst ds)=some (.v (.lst es),M):=by show mapR M ((iy ds).map D.lst)=_;rw[h];rfl
end
end E3
namespace L2
open PySem PySem.Spec PyProof.Rows
noncomputable def nM (K : Fgx) (C f : Addr) (me : Str) : Bool := PySem.W.specialIn K (.ref C) "__getattribute__" == some (some (.builtin "type.__getattribute__")) && (match PySem.W.typeIn K (.ref C) with
  | some mc => PySem.W.readsIn K C mc && (match PySem.W.findCls K (.ref C) mc me with
    |some (.val (.ref g))=>g==f
    |_=>false)
  |none=>false) && PySem.W.handedIn (.ref f) && PySem.W.keepIn K (.ref f)
end L2
namespace E3
open PySem PySem.Spec PyProof.Rows L2
def Ra (P:Program)(w:World)(K:Fgx)(mg:Mgx)(base:Heap)(k:Nat)(c me:Str)(n:Nat)(g:G):Prop:=
 ∃C fa fd ps ds dvs sp,mg c=some (.ref C)/\nM K C fa me=true/\FnOk P w K mg base d8 k fa fd ps sp/\Binds K fd ps ds/\Vals dvs ds/\∀vs H Q E,iz K mg n g vs H Q E->sp (vs ++ dvs) H Q E
structure BasAt (K:Fgx)(C:Addr)(q:Str)(st:Stmt)(ps:List Str)(f:Addr)(fd:FuncData):Prop where
 bs:nM K C f "__init__"=true
 F:FunD K "__init__" q st f fd
 b:Binds K fd ps []
end E3
namespace My
open PySem PySem.Spec PyProof.Rows L2 E3
noncomputable def top (i:Nat):Stmt:=PySem.Challenge.pw_rowdam_k07_whole_read_in_two.main.body.getD i (.Pass ⟨0,0,0,0⟩)
noncomputable def nJ:List Str:=["len","max","range","list","sorted","any"]
structure Ad where
 no:Unit
structure Txt (K:Fgx)(mg:Mgx)(C:Ad):Prop where
 blt:∀b∈nJ,mg b=none
 k_LAST:∃t,mg "LAST"=some (.int 1000000000000000 t)
structure MetAt (K:Fgx)(C:Addr)(x q:Str)(st:Stmt)(ps:List Str)(f:Addr)(fd:FuncData):Prop where
 M:Meth K C x f
 F:FunD K x q st f fd
 b:Binds K fd ps []
structure IniAt (K:Fgx)(C:Addr)(q:Str)(st:Stmt)(ps:List Str)(f:Addr)(fd:FuncData):Prop where
 M:Mk K C f
 F:FunD K "__init__" q st f fd
 b:Binds K fd ps []
structure MetAtD (K:Fgx)(C:Addr)(x q:Str)(st:Stmt)(ps:List Str)(dd:List D)(f:Addr)(fd:FuncData):Prop where
 M:Meth K C x f
 F:FunD K x q st f fd
 b:Binds K fd ps []
 bd:∃(dv:List V) (du:List Value),Binds K fd ps du/\Vals dv du/\(∀P H,aq K P H dd dv)/\dv.length=dd.length
abbrev lg:Stmt:=top 2
theorem wu:FnScope ["row","many","draws","on_time","late","mark","item"] ["row","many"] (aM lg):=gM
noncomputable def A_:S:=(ao (fj 4) (ao (fj 3) (ao (aV (bH (aD (aj 3) (aD (aj 4) (aD (aj 5) au))))) aC)))
noncomputable def u9:S:=(ao (cg (s2 (aA .gt) (aj 2) (sN bx (aD (aj 0) au))) (ao (aJ 5 (ak (.int 1000000000000000))) aC) aC) A_)
noncomputable def lY:S:=(ao (cg (s2 (aA .eq) (s2 aX (aj 6) (ak (.int 0))) (ak (.str "mark"))) (ao (aJ 5 (sN eU (aD (aj 5) (aD (s2 aX (aj 6) (ak (.int 1))) au)))) aC) (ao (cg (s2 (aA .lt) (s2 aX (aj 6) (ak (.int 1))) (aj 5)) (ao (dX 4 (cY (aj 6) (cG (ak (.int 1))) dD)) aC) (ao (dX 3 (cY (aj 6) (cG (ak (.int 1))) dD)) aC)) aC)) aC)
noncomputable def Az:S:=(ao (cX 6 (cU (fJ (aj 0) dD (cG (sN eU (aD (aj 2) (aD (ak (.int 0)) au)))))) lY) u9)
def Ay:S:=(ao (aJ 5 (ak (.int 0))) Az)
def Ax:S:=(ao (k_ 4 (bC au)) Ay)
def oW:S:=(ao (k_ 3 (bC au)) Ax)
noncomputable def lN:S:=(ao (aJ 2 (gF (s2 (aA .same) (aj 1) (ak .non)) (s2 aR (sN bx (aD (aj 0) au)) (ak (.int 1))) (aj 1))) oW)
def fP:G:=cI 7 lN
def iW:G:=fun ds M=>fP (ds ++ [.non]) M
abbrev rT:Stmt:=top 4
theorem Cj:FnScope ["_law_script","_law_k"] ["_law_script","_law_k"] (aM rT):=gM
noncomputable def tU:S:=(ao (cg (s2 (aA .lt) (aj 1) (sN bx (aD (aj 0) au))) (ao (aV (s2 aX (aj 0) (aj 1))) aC) aC) (ao (aV (ak (.int 0))) aC))
def iV:G:=cI 2 tU
abbrev rW:Stmt:=top 5
theorem Cq:FnScope ["_law_number","_law_many","_law_found","_law_x","_law_k"] ["_law_number","_law_many"] (aM rW):=gM
noncomputable def qT:S:=(ao (aJ 3 (s2 oMod (s2 aR (s2 aR (s2 aR (s2 dR (aj 3) (aj 3)) (s2 dR (ak (.int 40692)) (aj 3))) (s2 dR (ak (.int 2)) (aj 4))) (ak (.int 1))) (ak (.int 2147483629)))) (ao (dX 2 (s2 eE (aj 3) (ak (.int 3)))) aC))
noncomputable def tW:S:=(ao (k_ 2 (bC au)) (ao (aJ 3 (s2 oMod (aj 0) (ak (.int 2147483629)))) (ao (cX 4 (jC (aD (aj 1) au)) qT) (ao (fj 2) (ao (aV (aj 2)) aC)))))
def jY:G:=cI 5 tW
abbrev rZ:Stmt:=top 6
theorem Cv:FnScope ["_law_cell","_law_x","_law_wide","_law_time","_law_key"] ["_law_cell","_law_x","_law_wide"] (aM rZ):=gM
noncomputable def qJ:E:=(s2 aX (ak (.str "abcdefghijklmnopqrstuvwxyz")) (s2 oMod (s2 eE (aj 1) (s2 aR (ak (.int 5)) (s2 dR (ak (.int 11)) (aj 0)))) (ak (.int 26))))
noncomputable def qt:S:=(ao (aJ 3 (s2 oMod (s2 aR (s2 dR (aj 0) (ak (.int 7919))) (aj 1)) (aj 2))) (ao (cg (s2 (aA .eq) (s2 oMod (aj 1) (ak (.int 3))) (ak (.int 1))) (ao (aV (bH (aD (ak (.str "mark")) (aD (aj 3) au)))) aC) aC) (ao (aJ 4 (rR pX (ak (.str "")) (aD (gD [("_law_x",1)] (jC (aD (s2 aR (ak (.int 1)) (s2 oMod (s2 eE (aj 1) (ak (.int 3))) (ak (.int 2)))) au)) (ak (.bl true)) qJ) au))) (ao (aV (bH (aD (ak (.str "thing")) (aD (aj 3) (aD (aj 4) (aD (s2 i_ (s2 oMod (s2 aR (s2 dR (aj 0) (ak (.int 104729))) (aj 1)) (ak (.int 201))) (ak (.int 100))) au)))))) aC))))
def lR:G:=cI 5 qt
abbrev su:Stmt:=top 7
theorem Cw:FnScope ["_law_cell","_law_wide","_law_time","_law_rest","_law_letters","_law_key"] ["_law_cell","_law_wide"] (aM su):=gM
noncomputable def qu:S:=(ao (aJ 2 (s2 oMod (s2 eE (aj 0) (ak (.int 3))) (aj 1))) (ao (cg (s2 (aA .eq) (s2 oMod (aj 0) (ak (.int 3))) (ak (.int 1))) (ao (aV (bH (aD (ak (.str "mark")) (aD (aj 2) au)))) aC) aC) (ao (aJ 3 (s2 kE (s2 eE (aj 0) (ak (.int 3))) (aj 1))) (ao (aJ 4 (ak (.str "abcdefghijklmnopqrstuvwxyz"))) (ao (aJ 5 (s2 aR (s2 aX (aj 4) (s2 oMod (aj 3) (ak (.int 26)))) (fJ (fJ (aj 4) (cG (s2 oMod (s2 eE (aj 3) (ak (.int 26))) (ak (.int 27)))) dD) dD (cG (ak (.int 1)))))) (ao (aV (bH (aD (ak (.str "thing")) (aD (aj 2) (aD (aj 5) (aD (s2 i_ (s2 oMod (s2 eE (aj 3) (ak (.int 702))) (ak (.int 201))) (ak (.int 100))) au)))))) aC))))))
def lU:G:=cI 6 qu
abbrev mR:Stmt:=top 8
theorem Cy:FnScope ["_law_script","_law_first","_law_wide","_law_cells"] ["_law_script"] (aM mR):=gM
theorem Dr:LC mR "_law_wide":=by kernel_rfl
theorem Dq:LC mR "_law_cells":=by kernel_rfl
noncomputable def qK:E:=(cF lR (aD (s2 aX (aj 2) (aj 0)) (aD (s2 aX (cF jY (aD (s2 aR (s2 aX (aj 2) (aj 0)) (aj 0)) (aD (ak (.int 3)) au))) (ak (.int 2))) (aD (aj 1) au))))
noncomputable def Ao:S:=(ao (aV (gD [("_law_wide",2),("_law_cells",3)] (jC (aD (sN bx (aD (aj 3) au)) au)) (ak (.bl true)) qK)) aC)
def uy:E:=(cF lU (aD (aj 0) (aD (aj 1) au)))
noncomputable def mC:S:=(ao (cg (s2 (aA .eq) (s2 oMod (s2 eE (aj 1) (ak (.int 64))) (ak (.int 2))) (ak (.int 1))) (ao (aV (gD [("_law_wide",2)] (cU (aj 3)) (ak (.bl true)) uy)) aC) aC) Ao)
noncomputable def mq:S:=(ao (cg (s2 (aA .eq) (s2 oMod (aj 1) (ak (.int 8))) (ak (.int 1))) (ao (aJ 3 (cF jY (aD (s2 eE (aj 1) (ak (.int 8))) (aD (s2 oMod (s2 eE (aj 1) (ak (.int 8))) (ak (.int 91))) au)))) aC) aC) mC)
noncomputable def uZ:S:=(ao (aJ 3 (fJ (aj 0) (cG (ak (.int 1))) (cG (ak (.int 31))))) mq)
noncomputable def oV:S:=(ao (cg (s2 (aA .eq) (s2 oMod (s2 eE (aj 1) (ak (.int 8))) (ak (.int 4))) (ak (.int 1))) (ao (aJ 2 (s2 aR (s2 kI (ak (.int 10)) (ak (.int 12))) (ak (.int 1)))) aC) aC) uZ)
def Am:S:=(ao (aJ 2 (ak (.int 31))) oV)
noncomputable def tY:S:=(ao (aJ 1 (cF iV (aD (aj 0) (aD (ak (.int 0)) au)))) Am)
def oh:G:=cI 4 tY
abbrev rY:Stmt:=top 9
theorem Cu:FnScope ["_law_row_here","_law_cut","_law_things","_law_late","_law_mark","_law_more","_law_later","_law_end"] ["_law_row_here","_law_cut"] (aM rY):=gM
noncomputable def tX:S:=(ao (gH [2,3,4] (cF fP (aD (fJ (aj 0) dD (cG (aj 1))) (aD (aj 1) au)))) (ao (gH [5,6,7] (cF iW (aD (s2 aR (bC (aD (bH (aD (ak (.str "mark")) (aD (aj 4) au))) au)) (fJ (aj 0) (cG (aj 1)) dD)) au))) (ao (aV (bH (aD (s2 aR (aj 2) (aj 5)) (aD (s2 aR (aj 3) (aj 6)) (aD (aj 7) au))))) aC)))
def n_:G:=cI 8 tX
abbrev rU:Stmt:=top 10
theorem Ck:FnScope ["_law_row_here","_law_late","_law_left","_law_found","_law_mark","_law_item_here"] ["_law_row_here","_law_late"] (aM rU):=gM
noncomputable def jD:S:=(ao (cg (cW (s2 (aA .eq) (s2 aX (aj 5) (ak (.int 0))) (ak (.str "thing"))) (cW (s2 (aA .ne) (aj 2) (bC au)) (cW (s2 (aA .eq) (cY (aj 5) (cG (ak (.int 1))) dD) (s2 aX (aj 2) (ak (.int 0)))) (s2 (aA .lt) (s2 aX (aj 5) (ak (.int 1))) (aj 4))))) (ao (aJ 2 (fJ (aj 2) (cG (ak (.int 1))) dD)) aC) (ao (cg (s2 (aA .eq) (s2 aX (aj 5) (ak (.int 0))) (ak (.str "thing"))) (ao (dX 3 (aj 5)) aC) (ao (cg (s2 (aA .gt) (s2 aX (aj 5) (ak (.int 1))) (aj 4)) (ao (dX 3 (aj 5)) (ao (aJ 4 (s2 aX (aj 5) (ak (.int 1)))) aC)) aC) aC)) aC)) aC)
noncomputable def tV:S:=(ao (aJ 2 (jG (aj 1))) (ao (k_ 3 (bC au)) (ao (aJ 4 (ak (.int 0))) (ao (cX 5 (cU (aj 0)) jD) (ao (fj 3) (ao (aV (aj 3)) aC))))))
def n6:G:=cI 6 tV
abbrev pK:Stmt:=top 11
theorem Cr:FnScope ["_law_row_here","_law_before","_law_many","_law_found","_law_drawn_here"] ["_law_row_here"] (aM pK):=gM
theorem Qx:LC pK "_law_found":=by kernel_rfl
noncomputable def qy:E:=(s2 (aA .eq) (s2 aX (aj 0) (ak (.int 0))) (ak (.str "thing")))
def uw:E:=(cY (aj 0) (cG (ak (.int 1))) dD)
noncomputable def ux:E:=(s2 (aA .ge) (s2 aX (aj 0) (ak (.int 0))) (s2 aX (aj 1) (ak (.int 2))))
noncomputable def j5:S:=(ao (aJ 3 (cF fP (aD (aj 0) (aD (aj 2) au)))) (ao (cg (jH (s2 (aA .ne) (fJ (s2 aX (aj 3) (ak (.int 0))) dD (cG (sN bx (aD (s2 aX (aj 1) (ak (.int 0))) au)))) (s2 aX (aj 1) (ak (.int 0)))) (jH (s2 (aA .ne) (fJ (s2 aX (aj 3) (ak (.int 1))) dD (cG (sN bx (aD (s2 aX (aj 1) (ak (.int 1))) au)))) (s2 aX (aj 1) (ak (.int 1)))) (s2 (aA .lt) (s2 aX (aj 3) (ak (.int 2))) (s2 aX (aj 1) (ak (.int 2)))))) (ao (aV (ak (.bl false))) aC) aC) (ao (cg (fV (sN iJ (aD (gD [("_law_found",3)] (cU (s2 aX (aj 3) (ak (.int 1)))) (ak (.bl true)) ux) au))) (ao (aV (ak (.bl false))) aC) aC) (ao (aJ 4 (jJ (gD [] (cU (fJ (aj 0) dD (cG (aj 2)))) qy uw))) (ao (cg (s2 (aA .ne) (jJ (s2 aR (s2 aX (aj 3) (ak (.int 0))) (s2 aX (aj 3) (ak (.int 1))))) (aj 4)) (ao (aV (ak (.bl false))) aC) aC) (ao (aJ 1 (aj 3)) aC))))))
noncomputable def yC:S:=(ao (aJ 1 (bH (aD (bC au) (aD (bC au) (aD (ak (.int 0)) au))))) (ao (cX 2 (lW (aD (ak (.int 0)) (aD (s2 aR (sN bx (aD (aj 0) au)) (ak (.int 1))) (aD (s2 aR (ak (.int 1)) (s2 eE (sN bx (aD (aj 0) au)) (ak (.int 12)))) au)))) j5) (ao (aV (ak (.bl true))) aC)))
def qN:G:=cI 5 yC
abbrev lq:Stmt:=top 2
theorem wz:FnScope ["row","many","draws","on_time","late","mark","item"] ["row","many"] (aM lq):=gM
noncomputable def Bd:S:=(ao (aV (bH (aD (aj 3) (aD (aj 4) (aD (aj 5) au))))) aC)
noncomputable def vd:S:=(ao (cg (s2 (aA .gt) (aj 2) (sN bx (aD (aj 0) au))) (ao (aJ 5 (ak (.int 1000000000000000))) aC) aC) Bd)
noncomputable def lZ:S:=(ao (cg (s2 (aA .eq) (s2 aX (aj 6) (ak (.int 0))) (ak (.str "mark"))) (ao (aJ 5 (sN eU (aD (aj 5) (aD (s2 aX (aj 6) (ak (.int 1))) au)))) aC) (ao (cg (s2 (aA .lt) (s2 aX (aj 6) (ak (.int 1))) (aj 5)) (ao (mQ (aj 4) (cY (aj 6) (cG (ak (.int 1))) dD)) aC) (ao (mQ (aj 3) (cY (aj 6) (cG (ak (.int 1))) dD)) aC)) aC)) aC)
noncomputable def Bc:S:=(ao (cX 6 (cU (fJ (aj 0) dD (cG (sN eU (aD (aj 2) (aD (ak (.int 0)) au)))))) lZ) vd)
def Bb:S:=(ao (aJ 5 (ak (.int 0))) Bc)
def Ba:S:=(ao (aJ 4 (pI (bC au))) Bb)
def u_:S:=(ao (aJ 3 (pI (bC au))) Ba)
noncomputable def nH:S:=(ao (aJ 2 (gF (s2 (aA .same) (aj 1) (ak .non)) (s2 aR (sN bx (aD (aj 0) au)) (ak (.int 1))) (aj 1))) u_)
def qO:G:=cI 7 nH
def qP:G:=fun ds M=>qO (ds ++ [.non]) M
abbrev gJ:Stmt:=top 12
theorem Cz:FnScope ["_law_script","_law_row_here","_law_found","_law_kept","_law_clean_here"] ["_law_script"] (aM gJ):=gM
noncomputable def rE:S:=(ao (aV (cW (s2 (aA .eq) (cF fP (aD (aj 1) (aD (ak .non) au))) (aj 3)) (s2 (aA .eq) (cF fP (aD (aj 1) (aD (s2 aR (sN bx (aD (aj 1) au)) (ak (.int 1))) au))) (aj 3)))) aC)
def Aw:S:=(ao (pJ (s2 aX (aj 2) (ak (.int 1)))) rE)
noncomputable def u6:S:=(ao (mQ (s2 aX (aj 2) (ak (.int 0))) (bH (aD (ak (.int 0)) (aD (ak (.str "z")) (aD (ak (.int 0)) au))))) Aw)
noncomputable def u5:S:=(ao (cg (jH (s2 (aA .ne) (cF iW (aD (aj 4) au)) (bH (aD (s2 aX (aj 3) (ak (.int 0))) (aD (bC au) (aD (ak (.int 1000000000000000)) au))))) (gG (fV (cF qN (aD (aj 1) au))))) (ao (aV (ak (.bl false))) aC) aC) u6)
noncomputable def rD:S:=(ao (aJ 4 (cF n6 (aD (aj 1) (aD (s2 aX (aj 3) (ak (.int 1))) au)))) u5)
noncomputable def rC:S:=(ao (cg (jH (eZ true (aj 2) (aj 3)) (s2 (aA .ne) (cF n_ (aD (aj 1) (aD (s2 oMod (s2 eE (cF iV (aD (aj 0) (aD (ak (.int 0)) au))) (ak (.int 32))) (s2 aR (sN bx (aD (aj 1) au)) (ak (.int 1)))) au))) (aj 3))) (ao (aV (ak (.bl false))) aC) aC) rD)
noncomputable def Av:S:=(ao (aJ 3 (bH (aD (jG (s2 aX (aj 2) (ak (.int 0)))) (aD (jG (s2 aX (aj 2) (ak (.int 1)))) (aD (ak (.int 1000000000000000)) au))))) rC)
noncomputable def Aq:S:=(ao (aJ 2 (cF qP (aD (aj 1) au))) Av)
def qw:S:=(ao (aJ 1 (cF oh (aD (aj 0) au))) Aq)
def zR:G:=cI 5 qw
section
variable {P:Program}{w:World}{K:Fgx}{mg:Mgx}{C:Ad}{base:Heap}{k k0:Nat}{f:Addr}
theorem BW (T:Txt K mg C):RT P w K mg base k f ["row","many","draws","on_time","late","mark","item"] "read_row" lg lN:=fun cdv A outer s H E hr=>by
 refine gK hr fun hu=>?_;have nd:=(wu).nd;have B_len:=T.blt "len" (by x_go);have B_max:=T.blt "max" (by x_go);obtain⟨t_LAST,m_LAST⟩:=T.k_LAST;refine aF (bI (i:=2) nd rfl Lv (CP (Ct hu Sv (lA vq)) (aO cJ cM (dZ fZ rfl B_len S7 gb (aG Sv aN aY)) Ei) Sv)) ?_;refine aF (sI (i:=3) nd rfl Lv (gQ aN)) ?_;refine aF (sI (i:=4) nd rfl Lv (gQ aN)) ?_;refine aF (bI (i:=5) nd rfl Lv Ei) ?_;refine aF (pU Vc rfl nd rfl Lv (mW (gP Sv eG (dF (Wx:=W0) (dZ (qz rfl) rfl B_max boot_max rN (aG Sv (aG Ei aN eH) aY))))) (aF (cN (Ct hu (Ek Sv Ei) Es) (aF (bI (i:=5) nd rfl Lv (dZ (qz rfl) rfl B_max boot_max rN (aG Sv (aG (Ek Sv Ei) aN jo) aY))) aQ) (aF (cN (Ct hu (Ek Sv Ei) Sv) (aF (pR rfl Lu (mU Sv (dF (Wx:=W0) Ei) eG)) aQ) (aF (pR rfl Lu (mU Sv (dF (Wx:=W0) Ei) eG)) aQ)) aQ)) aQ)) ?_;refine aF (cN (Ct hu Sv (dZ fZ rfl B_len S7 gb (aG Sv aN aY))) (aF (bI (i:=5) nd rfl Lv (gO (rJ (v:=(.int 1000000000000000)) rfl m_LAST ⟨t_LAST,rfl⟩))) aQ) aQ) ?_;refine sy ?_;refine sy ?_;exact aF (cO (gh (aG Sv (aG Sv (aG Sv aN aY) aY) aY))) aQ
theorem Mq (T:Txt K mg C):RT P w K mg base k f ["_law_script","_law_k"] "_law_cell_at" rT tU:=fun cdv A outer s H E hr=>by
 refine gK hr fun hu=>?_;have nd:=(Cj).nd;have B_len:=T.blt "len" (by x_go);refine aF (cN (Ct hu Sv (dZ fZ rfl B_len S7 gb (aG Sv aN aY))) (aF (cO (Ek Sv Sv)) aQ) aQ) ?_;exact aF (cO Ei) aQ
theorem Ms (T:Txt K mg C):RT P w K mg base k f ["_law_number","_law_many","_law_found","_law_x","_law_k"] "_law_drawn" rW tW:=fun cdv A outer s H E hr=>by
 refine gK hr fun hu=>?_;have nd:=(Cq).nd;have B_range:=T.blt "range" (by x_go);refine aF (sI (i:=2) nd rfl Lv (gQ aN)) ?_;refine aF (bI (i:=3) nd rfl Lv (aO dU dW Sv Ei)) ?_;refine aF (pU Vc rfl nd rfl Lv (wD rfl B_range (aG Sv aN aY)) (aF (bI (i:=3) nd rfl Lv (aO dU dW (aO cJ cM (aO cJ cM (aO cJ cM (aO mL mO Sv Sv) (aO mL mO Ei Sv)) (aO mL mO Ei Sv)) Ei) Ei)) (aF (pR rfl Lu (aO fQ fU Sv Ei)) aQ))) ?_;refine sy ?_;exact aF (cO Sv) aQ
theorem Mv (T:Txt K mg C):RT P w K mg base k f ["_law_cell","_law_x","_law_wide","_law_time","_law_key"] "_law_item" rZ qt:=fun cdv A outer s H E hr=>by
 refine gK hr fun hu=>?_;have nd:=(Cv).nd;have B_range:=T.blt "range" (by x_go);refine aF (bI (i:=3) nd rfl Lv (aO dU dW (aO cJ cM (aO mL mO Sv Ei) (bV rfl (.inr Lu))) Sv)) ?_;refine aF (cN (Ct hu (aO dU dW (bV rfl (.inr Lu)) Ei) Ei) (aF (cO (gh (aG Es (aG Sv aN aY) eH))) aQ) aQ) ?_;refine aF (bI (i:=4) nd rfl Lv (Ow PySem.F.slot_str_join PySem.F.type_str_join Hh Ky Es (aG (SN.sem (pP "_law_k" [("_law_x",1)] rfl (by x_go) (wD rfl B_range (aG (aO cJ cM Ei (aO dU dW (aO fQ fU (bV rfl (.inr Lu)) Ei) Ei)) aN fX)) (fun _ _ _ _ _ _=>sH) (fun _ _ _ _ _ _=>(Ek Es (aO dU dW (aO fQ fU (bV rfl (.inr (.inl (by kernel_rfl)))) (aO cJ cM Ei (aO mL mO Ei (bV rfl (.inl (by kernel_rfl)))))) Ei)))) nP) aN Dd))) ?_;exact aF (cO (gh (aG Es (aG Sv (aG Sv (aG (aO Bq BL (aO dU dW (aO cJ cM (aO mL mO Sv Ei) (bV rfl (.inr Lu))) Ei) Ei) aN fX) aY) aY) eH))) aQ
theorem Mw (T:Txt K mg C):RT P w K mg base k f ["_law_cell","_law_wide","_law_time","_law_rest","_law_letters","_law_key"] "_law_item_from" su qu:=fun cdv A outer s H E hr=>by
 refine gK hr fun hu=>?_;have nd:=(Cw).nd;refine aF (bI (i:=2) nd rfl Lv (aO dU dW (aO fQ fU Sv Ei) Sv)) ?_;refine aF (cN (Ct hu (aO dU dW Sv Ei) Ei) (aF (cO (gh (aG Es (aG Sv aN aY) eH))) aQ) aQ) ?_;refine aF (bI (i:=3) nd rfl Lv (aO Ji Kv (aO fQ fU Sv Ei) Sv)) ?_;refine aF (bI (i:=4) nd rfl Lv Es) ?_;refine aF (bI (i:=5) nd rfl Lv (aO cJ cM (Ek Sv (aO dU dW Sv Ei)) (gP (gP Sv (dF (Wx:=W0) (aO dU dW (aO fQ fU Sv Ei) Ei)) eG) eG (dF (Wx:=W0) Ei)))) ?_;exact aF (cO (gh (aG Es (aG Sv (aG Sv (aG (aO Bq BL (aO dU dW (aO fQ fU Sv Ei) Ei) Ei) aN fX) aY) aY) eH))) aQ
theorem Mx (T:Txt K mg C)(a__cell_at:bf P w K mg base k "_law_cell_at" 2 iV)(a__drawn:bf P w K mg base k "_law_drawn" 2 jY)(a__item:bf P w K mg base k "_law_item" 3 lR)(a__item_from:bf P w K mg base k "_law_item_from" 2 lU):RT P w K mg base k f ["_law_script","_law_first","_law_wide","_law_cells"] "_law_row" mR tY:=fun cdv A outer s H E hr=>by
 refine gK hr fun hu=>?_;have nd:=(Cy).nd;have B_len:=T.blt "len" (by x_go);have B_range:=T.blt "range" (by x_go);refine aF (bI (i:=1) nd rfl Lv (dY a__cell_at hr rfl (aG Sv (aG Ei aN eH) aY) (cnt_cons (cnt_cons cnt_nil)))) ?_;refine aF (bI (i:=2) nd rfl (.inr Dr) Ei) ?_;refine aF (cN (Ct hu (aO dU dW (aO fQ fU Sv Ei) Ei) Ei) (aF (bI (i:=2) nd rfl (.inr Dr) (aO cJ cM (aO Jy Kz Ei Ei) Ei)) aQ) aQ) ?_;refine aF (bI (i:=3) nd rfl (.inr Dq) (gP Sv (dF (Wx:=W0) Ei) (dF (Wx:=W0) Ei))) ?_;refine aF (cN (Ct hu (aO dU dW Sv Ei) Ei) (aF (bI (i:=3) nd rfl (.inr Dq) (dY a__drawn hr rfl (aG (aO fQ fU Sv Ei) (aG (aO dU dW (aO fQ fU Sv Ei) Ei) aN fX) fX) (cnt_cons (cnt_cons cnt_nil)))) aQ) aQ) ?_;refine aF (cN (Ct hu (aO dU dW (aO fQ fU Sv Ei) Ei) Ei) (aF (cO (SN.sem (pP "_law_cell" [("_law_wide",2)] rfl (by x_go) (mW (bV rfl (.inr Lu))) (fun _ _ _ _ _ _=>sH) (fun _ _ _ _ _ _=>(dY a__item_from hr rfl (aG (bV rfl (.inl (by kernel_rfl))) (aG (bV rfl (.inr (.inl (by kernel_rfl)))) aN aY) aY) (cnt_cons (cnt_cons cnt_nil))))) nP)) aQ) aQ) ?_;exact aF (cO (SN.sem (pP "_law_k" [("_law_wide",2),("_law_cells",3)] rfl (by x_go) (wD rfl B_range (aG (dZ fZ rfl B_len S7 gb (aG (bV rfl (.inr Lu)) aN aY)) aN wK)) (fun _ _ _ _ _ _=>sH) (fun _ _ _ _ _ _=>(dY a__item hr rfl (aG (Ek (bV rfl (.inr (.inl (by kernel_rfl)))) (bV rfl (.inl (by kernel_rfl)))) (aG (Ek (dY a__drawn hr rfl (aG (aO cJ cM (Ek (bV rfl (.inr (.inl (by kernel_rfl)))) (bV rfl (.inl (by kernel_rfl)))) (bV rfl (.inl (by kernel_rfl)))) (aG Ei aN eH) fX) (cnt_cons (cnt_cons cnt_nil))) Ei) (aG (bV rfl (.inr (.inl (by kernel_rfl)))) aN aY) jo) jo) (cnt_cons (cnt_cons (cnt_cons cnt_nil)))))) nP)) aQ
theorem Mu (T:Txt K mg C)(a_read_row:bf P w K mg base k "read_row" 2 fP)(a_read_row_d1:bf P w K mg base k "read_row" 1 iW):RT P w K mg base k f ["_law_row_here","_law_cut","_law_things","_law_late","_law_mark","_law_more","_law_later","_law_end"] "_law_halves" rY tX:=fun cdv A outer s H E hr=>by
 refine gK hr fun hu=>?_;have nd:=(Cu).nd;refine aF (Dc rfl (mV (i:=2) nd rfl Lv (mV (i:=3) nd rfl Lv (mV (i:=4) nd rfl Lv CT))) (dY a_read_row hr rfl (aG (gP Sv eG (dF (Wx:=W0) Sv)) (aG Sv aN aY) jo) (cnt_cons (cnt_cons cnt_nil)))) ?_;refine aF (Dc rfl (mV (i:=5) nd rfl Lv (mV (i:=6) nd rfl Lv (mV (i:=7) nd rfl Lv CT))) (dY a_read_row_d1 hr rfl (aG (aO cJ cM (SN.sem (gQ (aG (gh (aG Es (aG Sv aN aY) eH)) aN Pk)) lst_is) (gP Sv (dF (Wx:=W0) Sv) eG)) aN fX) (cnt_cons cnt_nil))) ?_;exact aF (cO (gh (aG (aO cJ cM Sv Sv) (aG (aO cJ cM Sv Sv) (aG Sv aN aY) fX) fX))) aQ
theorem Mr (T:Txt K mg C):RT P w K mg base k f ["_law_row_here","_law_late","_law_left","_law_found","_law_mark","_law_item_here"] "_law_clean" rU tV:=fun cdv A outer s H E hr=>by
 refine gK hr fun hu=>?_;have nd:=(Ck).nd;have B_list:=T.blt "list" (by x_go);refine aF (bI (i:=2) nd rfl Lv (SN.sem (wH rfl B_list Sv) uP)) ?_;refine aF (sI (i:=3) nd rfl Lv (gQ aN)) ?_;refine aF (bI (i:=4) nd rfl Lv Ei) ?_;refine aF (pU Vc rfl nd rfl Lv (mW Sv) (aF (cN (SW.st (wO (Ct hu (Ek Sv Ei) Es) (wO (Ct hu Sv (SN.sem (gQ aN) lst_is)) (wO (Ct hu (mU Sv (dF (Wx:=W0) Ei) eG) (Ek Sv Ei)) (PB (Ct hu (Ek Sv Ei) Sv)))))) (aF (bI (i:=2) nd rfl Lv (gP Sv (dF (Wx:=W0) Ei) eG)) aQ) (aF (cN (Ct hu (Ek Sv Ei) Es) (aF (pR rfl Lu Sv) aQ) (aF (cN (Ct hu (Ek Sv Ei) Sv) (aF (pR rfl Lu Sv) (aF (bI (i:=4) nd rfl Lv (Ek Sv Ei)) aQ)) aQ) aQ)) aQ)) aQ)) ?_;refine sy ?_;exact aF (cO Sv) aQ
theorem Mt (T:Txt K mg C)(a_read_row:bf P w K mg base k "read_row" 2 fP):RT P w K mg base k f ["_law_row_here","_law_before","_law_many","_law_found","_law_drawn_here"] "_law_grows" pK yC:=fun cdv A outer s H E hr=>by
 refine gK hr fun hu=>?_;have nd:=(Cr).nd;have B_any:=T.blt "any" (by x_go);have B_len:=T.blt "len" (by x_go);have B_range:=T.blt "range" (by x_go);have B_sorted:=T.blt "sorted" (by x_go);refine aF (bI (i:=1) nd rfl Lv (gh (aG (SN.sem (gQ aN) lst_is) (aG (SN.sem (gQ aN) lst_is) (aG Ei aN eH) wL) wL))) ?_;refine aF (pU Vc rfl nd rfl Lv (Oz rfl B_range (aG Ei (aG (aO cJ cM (dZ fZ rfl B_len S7 gb (aG Sv aN aY)) Ei) (aG (aO cJ cM Ei (aO fQ fU (dZ fZ rfl B_len S7 gb (aG Sv aN aY)) Ei)) aN fX) fX) eH)) (aF (bI (i:=3) nd rfl (.inr Qx) (dY a_read_row hr rfl (aG Sv (aG Sv aN aY) aY) (cnt_cons (cnt_cons cnt_nil)))) (aF (cN (SW.st (sJ (Ct hu (gP (Ek (bV rfl (.inr Lu)) Ei) eG (dF (Wx:=W0) (dZ fZ rfl B_len S7 gb (aG (Ek Sv Ei) aN jo)))) (Ek Sv Ei)) (sJ (Ct hu (gP (Ek (bV rfl (.inr Lu)) Ei) eG (dF (Wx:=W0) (dZ fZ rfl B_len S7 gb (aG (Ek Sv Ei) aN jo)))) (Ek Sv Ei)) (wQ (Ct hu (Ek (bV rfl (.inr Lu)) Ei) (Ek Sv Ei)))))) (aF (cO Eb) aQ) aQ) (aF (cN (Dg (dZ (Eo rfl) rfl B_any boot_any Ku (aG (SN.sem (pP "_law_thing" [("_law_found",3)] rfl (by x_go) (mW (Ek (bV rfl (.inr Lu)) Ei)) (fun _ _ _ _ _ _=>sH) (fun _ _ _ _ _ _=>(CN (nR (X:=dz _ _ _ _ _ _ _ _ _) hu .ge) rM (Ek (bV rfl (.inl (by kernel_rfl))) Ei) (Ek (bV rfl (.inr (.inl (by kernel_rfl)))) Ei)))) nP) aN Dd))) (aF (cO Eb) aQ) aQ) (aF (bI (i:=4) nd rfl Lv (SN.sem (CZ rfl B_sorted (SN.sem (pP "_law_item_here" [] rfl (by x_go) (mW (gP Sv eG (dF (Wx:=W0) Sv))) (fun _ _ _ _ _ _=>(Pg (Df (nR (X:=dz _ _ _ _ _ _ _ _ _) hu .eq) rM (Ek (bV rfl (.inl (by kernel_rfl))) Ei) Es))) (fun _ _ _ _ _ _=>(mU (bV rfl (.inl (by kernel_rfl))) (dF (Wx:=W0) Ei) eG))) nP)) C_)) (aF (cN (Ct hu (SN.sem (CZ rfl B_sorted (aO cJ cM (Ek (bV rfl (.inr Lu)) Ei) (Ek (bV rfl (.inr Lu)) Ei))) C_) Sv) (aF (cO Eb) aQ) aQ) (aF (bI (i:=1) nd rfl Lv (bV rfl (.inr Lu))) aQ))))))) ?_;exact aF (cO Eb) aQ
theorem BX (T:Txt K mg C):RT P w K mg base k f ["row","many","draws","on_time","late","mark","item"] "read_row" lq nH:=fun cdv A outer s H E hr=>by
 refine gK hr fun hu=>?_;have nd:=(wz).nd;have B_len:=T.blt "len" (by x_go);have B_max:=T.blt "max" (by x_go);obtain⟨t_LAST,m_LAST⟩:=T.k_LAST;refine aF (bI (i:=2) nd rfl Lv (CP (Ct hu Sv (lA vq)) (aO cJ cM (dZ fZ rfl B_len S7 gb (aG Sv aN aY)) Ei) Sv)) ?_;refine aF (bI (i:=3) nd rfl Lv (CK (gQ aN))) ?_;refine aF (bI (i:=4) nd rfl Lv (CK (gQ aN))) ?_;refine aF (bI (i:=5) nd rfl Lv Ei) ?_;refine aF (pU Vc rfl nd rfl Lv (mW (gP Sv eG (dF (Wx:=W0) (dZ (qz rfl) rfl B_max boot_max rN (aG Sv (aG Ei aN eH) aY))))) (aF (cN (Ct hu (Ek Sv Ei) Es) (aF (bI (i:=5) nd rfl Lv (dZ (qz rfl) rfl B_max boot_max rN (aG Sv (aG (Ek Sv Ei) aN jo) aY))) aQ) (aF (cN (Ct hu (Ek Sv Ei) Sv) (aF (wJ Sv (mU Sv (dF (Wx:=W0) Ei) eG)) aQ) (aF (wJ Sv (mU Sv (dF (Wx:=W0) Ei) eG)) aQ)) aQ)) aQ)) ?_;refine aF (cN (Ct hu Sv (dZ fZ rfl B_len S7 gb (aG Sv aN aY))) (aF (bI (i:=5) nd rfl Lv (gO (rJ (v:=(.int 1000000000000000)) rfl m_LAST ⟨t_LAST,rfl⟩))) aQ) aQ) ?_;exact aF (cO (gh (aG Sv (aG Sv (aG Sv aN aY) aY) aY))) aQ
theorem Nu (T:Txt K mg C)(a_read_row:bf P w K mg base k "read_row" 2 fP)(a_read_row_d1:bf P w K mg base k "read_row" 1 iW)(a__cell_at:bf P w K mg base k "_law_cell_at" 2 iV)(a__row:bf P w K mg base k "_law_row" 1 oh)(a__halves:bf P w K mg base k "_law_halves" 2 n_)(a__clean:bf P w K mg base k "_law_clean" 2 n6)(a__grows:bf P w K mg base k "_law_grows" 1 qN)(a_read_row_c_d1:bf P w K mg base k "read_row" 1 qP):RT P w K mg base k f ["_law_script","_law_row_here","_law_found","_law_kept","_law_clean_here"] "law" gJ qw:=fun cdv A outer s H E hr=>by
 refine gK hr fun hu=>?_;have nd:=(Cz).nd;have B_len:=T.blt "len" (by x_go);have B_list:=T.blt "list" (by x_go);obtain⟨t_LAST,m_LAST⟩:=T.k_LAST;refine aF (bI (i:=1) nd rfl Lv (dY a__row hr rfl (aG Sv aN aY) (cnt_cons cnt_nil))) ?_;refine aF (bI (i:=2) nd rfl Lv (dY a_read_row_c_d1 hr rfl (aG Sv aN aY) (cnt_cons cnt_nil))) ?_;refine aF (bI (i:=3) nd rfl Lv (gh (aG (SN.sem (wH rfl B_list (Ek Sv Ei)) uP) (aG (SN.sem (wH rfl B_list (Ek Sv Ei)) uP) (aG (gO (rJ (v:=(.int 1000000000000000)) rfl m_LAST ⟨t_LAST,rfl⟩)) aN aY) wK) wK))) ?_;refine aF (cN (SW.st (sJ (Pn (neg:=true) hu Sv Sv) (wQ (Ct hu (dY a__halves hr rfl (aG Sv (aG (aO dU dW (aO fQ fU (dY a__cell_at hr rfl (aG Sv (aG Ei aN eH) aY) (cnt_cons (cnt_cons cnt_nil))) Ei) (aO cJ cM (dZ fZ rfl B_len S7 gb (aG Sv aN aY)) Ei)) aN fX) aY) (cnt_cons (cnt_cons cnt_nil))) Sv)))) (aF (cO Eb) aQ) aQ) ?_;refine aF (bI (i:=4) nd rfl Lv (dY a__clean hr rfl (aG Sv (aG (Ek Sv Ei) aN jo) aY) (cnt_cons (cnt_cons cnt_nil)))) ?_;refine aF (cN (SW.st (sJ (Ct hu (dY a_read_row_d1 hr rfl (aG Sv aN aY) (cnt_cons cnt_nil)) (gh (aG (Ek Sv Ei) (aG (SN.sem (gQ aN) lst_is) (aG (gO (rJ (v:=(.int 1000000000000000)) rfl m_LAST ⟨t_LAST,rfl⟩)) aN aY) wL) jo))) (wQ (Pq (Dg (dY a__grows hr rfl (aG Sv aN aY) (cnt_cons cnt_nil))))))) (aF (cO Eb) aQ) aQ) ?_;refine aF (wJ (Ek Sv Ei) (gh (aG Ei (aG Es (aG Ei aN eH) eH) eH))) ?_;refine aF (Pj (Ek Sv Ei)) ?_;exact aF (cO (Ot (Cm hu (dY a_read_row hr rfl (aG Sv (aG (lA vq) aN eH) aY) (cnt_cons (cnt_cons cnt_nil))) Sv) (Ox (Cm hu (dY a_read_row hr rfl (aG Sv (aG (aO cJ cM (dZ fZ rfl B_len S7 gb (aG Sv aN aY)) Ei) aN fX) aY) (cnt_cons (cnt_cons cnt_nil))) Sv)))) aQ
end
noncomputable def j_:Nat:=3
def gC:G:=zR
abbrev QG:String:="Ls vZ v8 vU vV vW K_ vL Oe K8 Ny KN Ml KQ Mp vR QJ QS yc QL QT QK LK Lk NP KR vJ Le Nt Lj K9 Nh Nf Li NK MJ LQ Lg M8 K3 MN M9 K6 Nv Lf vK N6 N5 Lp Ln NT M6 K1 Nz Lh Lq vX vH Lb Nq KY Mz La Np Ld Nr Lr vG Nk Nj Hu Hv Ir HF Ih Im vm vh vg vf Hy Ij HX H_ Ia Ie Ig Iv Iu Ip Io sizeLine_eq Option.map_some Option.map_none List.getElem?_cons_zero List.getElem?_cons_succ List.set_cons_zero List.set_cons_succ List.map_cons List.map_nil List.length_cons List.length_nil List.length_map List.replicate List.cons_append List.nil_append List.append_nil reduceCtorEq if_true if_false reduceIte Bool.not_true Bool.not_false Nat.reduceSub Nat.reduceAdd Nat.reduceLeDiff Nat.reduceLT Int.reduceLT Int.reduceLE Int.reduceAdd Int.reduceSub Int.reduceMul Int.reduceNeg Int.reduceAbs Int.reduceEq Int.reducePow Int.reduceMod Int.reduceDiv Int.reduceToNat Nat.zero_le and_true true_and and_self or_true true_or Bool.false_eq_true decide_eq_true_eq decide_true decide_false Bool.not_eq_true' decide_eq_false_iff_not not_true_eq_false not_false_eq_true eq_self K7 M_ Nb K5 K4 Option.getD_some LR Od Lw Lx Nm Ii List.isEmpty_cons List.isEmpty_nil Bool.true_eq_false Bool.and_self Bool.and_true Bool.true_and Bool.and_false Bool.false_and M7 MP MK Ni Ng Nx MF KZ vY vI Hw HY Ib Hx HJ Il Hz Ik HN HS HW Bool.true_or Bool.false_or Bool.or_true Bool.or_false at0 at1 at2 Ec zQ s_end w_end rO jE jF Oa N_ Ob Oc Lz Ly N8 N7 QZ yd DY D_ Ql Qm O2 wG QF HD"
local macro_rules | `(tactic| z_go)=>do
 let l <-(QG.splitOn " ").toArray.mapM fun n=> `(Lean.Parser.Tactic.simpLemma| $(Lean.mkIdent n.toName):term)
 `(tactic| try simp only[$l,*])
variable {M:Mm}
inductive It where
 |mk (t:Int)
 |th (t:Int) (k:Str) (v:Int)
noncomputable def ts (t:Int) (k:Str) (v:Int):D:=.tup [.int t,.str k,.int v]
noncomputable def It.d:It->D
 |.mk t=>.tup [.str "mark",.int t]
 |.th t k v=>.tup [.str "thing",.int t,.str k,.int v]
noncomputable def mx (i j:Int):Int:=if j > i then j else i
noncomputable def bG:List It->Int->Int
 | [],m=>m
 |.mk t::r,m=>bG r (mx m t)
 |.th _ _ _::r,m=>bG r m
noncomputable def aL:List It->Int->List D
 | [],_=>[]
 |.mk t::r,m=>aL r (mx m t)
 |.th t k v::r,m=>if t<m then aL r m else ts t k v::aL r m
noncomputable def lat:List It->Int->List D
 | [],_=>[]
 |.mk t::r,m=>lat r (mx m t)
 |.th t k v::r,m=>if t<m then ts t k v::lat r m else lat r m
theorem O2 {t v:Int}{k:Str}:pN (.tup [.str "thing",.int t,.str k,.int v]) (some 1) none=some (ts t k v):=rfl
theorem QZ:((Str.ofString "thing":Str)=Str.ofString "mark")=False:=eq_false (by x_go)
theorem yd:((Str.ofString "mark":Str)=Str.ofString "thing")=False:=eq_false (by x_go)
theorem wG {n:Int}:aA .same (.int n) .non=some (.bl false):=rfl
theorem QF {M:Mm}{t v:Int}{k:Str}:vw M (ts t k v)=ts t k v:=rfl
theorem DY {t:Int}:bO [D.str "mark",D.int t] 0=some (.str "mark"):=rfl
theorem D_ {t:Int}:bO [D.str "mark",D.int t] 1=some (.int t):=rfl
theorem Ql {t v:Int}{k:Str}:bO [D.str "thing",D.int t,D.str k,D.int v] 0=some (.str "thing"):=rfl
theorem Qm {t v:Int}{k:Str}:bO [D.str "thing",D.int t,D.str k,D.int v] 1=some (.int t):=rfl
theorem xJ {a b c:Slot}{O L:List D}{m t:Int}:lY [a,b,c,.own O,.own L,.val (.int m),.val (It.d (.mk t))] M=some (.nx [a,b,c,.own O,.own L,.val (.int (mx m t)),.val (It.d (.mk t))],M):=by
 unfold lY It.d;z_go;rfl
theorem xK {a b c:Slot}{O L:List D}{m t v:Int}{k:Str}(hO:O.length<1000)(hL:L.length<1000):lY [a,b,c,.own O,.own L,.val (.int m),.val (It.d (.th t k v))] M=
  some (.nx [a,b,c,.own (if t<m then O else O ++ [ts t k v]),.own (if t<m then L ++ [ts t k v] else L),.val (.int m),.val (It.d (.th t k v))],M):=by
 unfold lY It.d;z_go
 by_cases h:t<m
 ·rw[tG h,tG h,tG h,tG (by omega)];z_go
 ·rw[Rn h,Rn h,Rn h,tG (by omega)];z_go
theorem v9 {a b c:Slot}:∀(r:List It) (O L:List D) (m:Int) (s:Slot),O.length + r.length<1000->L.length + r.length<1000->
    ∃s',loopS 6 lY (r.map It.d) [a,b,c,.own O,.own L,.val (.int m),s] M=some (.nx [a,b,c,.own (O ++ aL r m),.own (L ++ lat r m),.val (.int (bG r m)),s'],M)
  | [],O,L,m,s,_,_=>⟨s,by simp only[Ud,rO,aL,lat,bG,Sy]⟩
  |.mk t::r,O,L,m,s,h1,h2=>by
    rw[RD]at h1 h2;obtain⟨s',e⟩:=v9 r O L (mx m t) (.val (It.d (.mk t))) (by omega) (by omega);refine⟨s',?_⟩;rw[R5,jE,tG (by simp only[RD,Sh];decide)];simp only[Tp,S9];rw[xJ];simp only[jF,aL,lat,bG];exact e
  |.th t k v::r,O,L,m,s,h1,h2=>by
    rw[RD]at h1 h2;obtain⟨s',e⟩:=v9 r (if t<m then O else O ++ [ts t k v]) (if t<m then L ++ [ts t k v] else L) m (.val (It.d (.th t k v))) (by split<;>(try rw[RG,R_])<;>omega) (by split<;>(try rw[RG,R_])<;>omega)
    refine⟨s',?_⟩;rw[R5,jE,tG (by simp only[RD,Sh];decide)];simp only[Tp,S9];rw[xK (by omega) (by omega)];simp only[jF,aL,lat,bG];rw[e]
    by_cases h:t<m
    · simp only[tG h,R3,Uk]
    · simp only[Rn h,R3,Uk]
theorem oG:∀(r:List It) (m:Int),(aL r m).length<=r.length
  | [],_=>Ro _
  |.mk _::r,m=>Uz (oG r _)
  |.th t _ _::r,m=>by
    have:=oG r m;unfold aL
    split<;>simp only[RD]<;>omega
theorem oF:∀(r:List It) (m:Int),(lat r m).length<=r.length
  | [],_=>Ro _
  |.mk _::r,m=>Uz (oF r _)
  |.th t _ _::r,m=>by
    have:=oF r m;unfold lat
    split<;>simp only[RD]<;>omega
noncomputable def bN:Int:=1000000000000000
theorem oU {n:Int}(h:0<=n):(if 0 > n then(0:Int) else n)=n:=Rn (by omega)
theorem zG {x:Slot}{r:List It}{n:Int}(hn:0<=n)(hr:r.length<=200):bA (oW [.val (.lst (r.map It.d)),x,.val (.int n),.un,.un,.un,.un] M)=some (.v (.tup [.lst (aL (r.take n.toNat) 0),.lst (lat (r.take n.toNat) 0),.int (if n > (r.length:Int) then bN else bG (r.take n.toNat) 0)]),M):=by
 unfold oW Ax Ay Az;generalize hq:u9=rest;z_go;rw[oU hn,lQ _ hn, <-Vq];obtain⟨s',e⟩:=v9 (M:=M) (a:=.val (.lst (r.map It.d))) (b:=x) (c:=.val (.int n)) (r.take n.toNat) [] [] 0 .un (by rw[Sw];simp only[Sh];omega) (by rw[Sw];simp only[Sh];omega);rw[e];subst hq;unfold u9 A_;simp only[Uj];generalize aL (r.take n.toNat) 0=A;generalize lat (r.take n.toNat) 0=B;generalize bG (r.take n.toNat) 0=c
 by_cases h:n > (r.length:Int)
 ·rw[tG h];z_go;rw[tG h];z_go;rfl
 ·rw[Rn h];z_go;rw[Rn h];z_go
theorem uF {r:List It}{n:Int}(hn:0<=n)(hr:r.length<=200):fP [.lst (r.map It.d),.int n] M=some (.v (.tup [.lst (aL (r.take n.toNat) 0),.lst (lat (r.take n.toNat) 0),.int (if n > (r.length:Int) then bN else bG (r.take n.toNat) 0)]),M):=by
 unfold fP lN;generalize hr:oW=rest;z_go;subst hr;exact zG hn (by assumption)
theorem take_all {r:List It}:r.take ((r.length:Int) + 1).toNat=r:=Tw (by omega)
theorem zF {r:List It}(hr:r.length<=200):fP [.lst (r.map It.d),.non] M=some (.v (.tup [.lst (aL r 0),.lst (lat r 0),.int bN]),M):=by
 unfold fP lN;generalize hn:oW=rest;z_go;subst hn;have:=zG (M:=M) (x:=.val .non) (r:=r) (n:=(r.length:Int) + 1) (by omega) hr;rw[take_all,tG (by omega)]at this;exact this
theorem zE {r:List It}(hr:r.length<=200):iW [.lst (r.map It.d)] M=some (.v (.tup [.lst (aL r 0),.lst (lat r 0),.int bN]),M):=zF hr
theorem uY {m t:Int}:m<=mx m t:=by unfold mx;split<;>omega
theorem Hi {m t:Int}:t<=mx m t:=by unfold mx;split<;>omega
theorem oR:∀(r:List It) (m:Int),m<=bG r m
 | [],m=>Int.le_refl _
 |.mk t::r,m=>Int.le_trans uY (oR r (mx m t))
 |.th _ _ _::r,m=>oR r m
theorem uW:∀(a b:List It) (m:Int),bG (a ++ b) m=bG b (bG a m)
 | [],b,m=>rfl
 |.mk t::a,b,m=>uW a b (mx m t)
 |.th _ _ _::a,b,m=>uW a b m
theorem o7:∀(a b:List It) (m:Int),aL (a ++ b) m=aL a m ++ aL b (bG a m)
  | [],b,m=>rfl
  |.mk t::a,b,m=>o7 a b (mx m t)
  |.th t k v::a,b,m=>by
    simp only[U6,aL,bG]
    split
    · exact o7 a b m
    · rw[o7 a b m,U6]
theorem oA:∀(a b:List It) (m:Int),lat (a ++ b) m=lat a m ++ lat b (bG a m)
  | [],b,m=>rfl
  |.mk t::a,b,m=>oA a b (mx m t)
  |.th t k v::a,b,m=>by
    simp only[U6,lat,bG]
    split
    · rw[oA a b m,U6]
    · exact oA a b m
noncomputable def jM:List It->List D
 | []=>[]
 |.mk _::r=>jM r
 |.th t k v::r=>ts t k v::jM r
theorem pY:∀(r:List It) (m:Int),(aL r m ++ lat r m).Perm (jM r)
  | [],m=>WR _
  |.mk t::r,m=>pY r (mx m t)
  |.th t k v::r,m=>by
    have ih:=pY r m;simp only[aL,lat,jM]
    split
    · exact List.perm_middle.trans (ih.cons _)
    · rw[U6];exact ih.cons _
theorem lG:∀(r:List It),∀d∈jM r,∃t k v,d=ts t k v
  | [],d,h=>nomatch h
  |.mk _::r,d,h=>lG r d h
  |.th t k v::r,d,h=>by
    rcases Ss.mp h with rfl |h
    · exact⟨t,k,v,rfl⟩
    · exact lG r d h
theorem rH {r:List It}{m:Int}:∀d∈aL r m,∃t k v,d=ts t k v:=fun d h=>lG r d ((pY r m).mem_iff.mp (U0 _ h))
theorem oE {r:List It}{m:Int}:∀d∈lat r m,∃t k v,d=ts t k v:=fun d h=>lG r d ((pY r m).mem_iff.mp (RV _ h))
theorem qU:∀(r:List It) (m:Int),∀d∈lat r m,∃t k v,d=ts t k v/\t<bG r m
  | [],m,d,h=>nomatch h
  |.mk t::r,m,d,h=>qU r (mx m t) d h
  |.th t k v::r,m,d,h=>by
    simp only[lat,bG]at h ⊢;split at h
    · rcases Ss.mp h with rfl |h
      · exact⟨t,k,v,rfl,Int.lt_of_lt_of_le (by assumption) (oR r m)⟩
      · exact qU r m d h
    · exact qU r m d h
theorem zj {n:Nat}:∀l:List D,(∀d∈l,d.dep<=n)->D.deps l<=n
  | [],_=>Tc _
  |d::l,h=>by
    have:=zj l fun e he=>h e (RP _ he);have:=h d R6;simp only[D.deps];omega
theorem jA {L:List D}(h:∀d∈L,∃t k v,d=ts t k v):D.deps L<=1:=zj _ fun d hd=>by
 obtain⟨t,k,v,rfl⟩:=h d hd;exact Ro _
noncomputable def cH:List It->Int->List It
 | [],_=>[]
 |.mk t::r,m=>if t > m then .mk t::cH r t else cH r m
 |.th t k v::r,m=>if t<m then cH r m else .th t k v::cH r m
theorem qX:∀(r:List It) (m:Int),(cH r m).length<=r.length
  | [],_=>Ro _
  |.mk t::r,m=>by
    have h1:=qX r m;have h2:=qX r t;unfold cH
    split<;>simp only[RD]<;>omega
  |.th t _ _::r,m=>by
    have:=qX r m;unfold cH
    split<;>simp only[RD]<;>omega
theorem o8:∀(r:List It) (m:Int),aL (cH r m) m=aL r m/\lat (cH r m) m=[]
  | [],m=>⟨rfl,rfl⟩
  |.mk t::r,m=>by
    simp only[cH,aL]
    by_cases h:t > m
    · rw[tG h];simp only[aL,lat,mx];rw[tG h];exact o8 r t
    · rw[Rn h];simp only[mx];rw[Rn h];exact o8 r m
  |.th t k v::r,m=>by
    have ih:=o8 r m;simp only[cH,aL]
    by_cases h:t<m
    · rw[tG h,tG h];exact ih
    · rw[Rn h,Rn h];simp only[aL,lat];rw[Rn h,Rn h,ih.1];exact⟨rfl,ih.2⟩
theorem G7 {t t' v v':Int}{k k':Str}:∃b,bB [.int t,.str k,.int v] [.int t',.str k',.int v']=some b:=by
 simp only[bB]
 repeat' split
 all_goals exact⟨_,rfl⟩
theorem Bp {L:List D}(h:∀d∈L,∃t k v,d=ts t k v):g_ L:=by
 refine⟨.inl (TV.mpr fun d hd=>?_),fun xs ys hx hy=>?_⟩
 ·obtain⟨t,k,v,rfl⟩:=h d hd;rfl
 ·obtain⟨t,k,v,e1⟩:=h _ hx;obtain⟨t',k',v',e2⟩:=h _ hy;cases e1;cases e2;exact G7
theorem Hf {m:Int}(r:List It)(h:0<=m):mx 0 (bG r m)=bG r m:=by
 have:=oR r m;unfold mx
 split<;>omega
theorem Fz {r:List It}{c:Nat}(hc:c<=r.length)(hr:r.length<=100):n_ [.lst (r.map It.d),.int c] M=some (.v (.tup [.lst (aL r 0),.lst (lat r 0),.int bN]),M):=by
 unfold n_ tX;z_go;rw[lQ _ (by omega), <-Vq,R8];have e1:=uF (M:=M) (r:=r.take c) (n:=(c:Int)) (by omega) (by rw[Sw];omega);rw[R8,List.take_take,Wh,Rn (by rw[Sw];omega)]at e1;rw[e1];z_go;rw[yW _ (by omega), <-List.map_drop,R8,tG (by rw[RJ,Tz];omega)];z_go;have e2:=zE (M:=M) (r:=.mk (bG (r.take c) 0)::r.drop c) (by rw[RD,Tz];omega);rw[R5]at e2;simp only[aL,lat,Hf (r.take c) (Int.le_refl 0)]at e2;rw[show iW [.lst (.tup [.str "mark",.int (bG (r.take c) 0)]::(r.drop c).map It.d)] M=_ from e2];have f1:=o7 (r.take c) (r.drop c) 0;have f2:=oA (r.take c) (r.drop c) 0;rw[TY]at f1 f2;have l1:=oG r 0;have l2:=oF r 0;rw[f1]at l1 ⊢;rw[f2]at l2 ⊢;rw[RG]at l1 l2;generalize aL (r.take c) 0=A at *;generalize lat (r.take c) 0=B at *;generalize aL (r.drop c) (bG (r.take c) 0)=A' at *;generalize lat (r.drop c) (bG (r.take c) 0)=B' at *;z_go;rw[tG (by omega)];z_go;rw[tG (by omega)];z_go
theorem Fv {t t' v v':Int}{k k':Str}:∃b,aA .eq (ts t k v) (ts t' k' v')=some (.bl b):=⟨_,rfl⟩
theorem tZ {a b:Slot}{L F:List D}{m t:Int}(hF:F.length<1000):jD [a,b,.val (.lst L),.own F,.val (.int m),.val (It.d (.mk t))] M=
  some (.nx [a,b,.val (.lst L),.own (if t > m then F ++ [It.d (.mk t)] else F),.val (.int (if t > m then t else m)),.val (It.d (.mk t))],M):=by
 unfold jD It.d;z_go
 by_cases h:t > m
 ·simp only[tG h];z_go;rw[tG (by omega)];z_go
 ·simp only[Rn h];z_go
theorem En {a b:Slot}{L F:List D}{m t v:Int}{k:Str}(h:t<m)(hL:D.deps L<=1):jD [a,b,.val (.lst (ts t k v::L)),.own F,.val (.int m),.val (It.d (.th t k v))] M=
  some (.nx [a,b,.val (.lst L),.own F,.val (.int m),.val (It.d (.th t k v))],M):=by
 unfold jD It.d;have hn:aA .ne (.lst (ts t k v::L)) (.lst [])=some (.bl true):=by
  rw[vo (by simp only[D.deps];have:(ts t k v).dep=1:=rfl;omega)];rfl
 z_go;rw[hn];z_go;rw[show aA .eq (ts t k v) (ts t k v)=some (.bl true) from Bk (by show 1<=50;decide)];z_go;simp only[h];z_go;rw[yW _ (by decide)];rfl
theorem Em {a b:Slot}{L F:List D}{m t v:Int}{k:Str}(h:¬ t<m)(hL:∀d∈L,∃t k v,d=ts t k v)(hF:F.length<1000):jD [a,b,.val (.lst L),.own F,.val (.int m),.val (It.d (.th t k v))] M=
    some (.nx [a,b,.val (.lst L),.own (F ++ [It.d (.th t k v)]),.val (.int m),.val (It.d (.th t k v))],M):=by
  unfold jD It.d
  cases L with
  |nil=>
    have hn:aA .ne (.lst []) (.lst [])=some (.bl false):=by rw[vo (by decide)];rfl
    z_go;rw[hn];z_go;rw[tG (by omega)];z_go
  |cons d L=>
    obtain⟨t',k',v',rfl⟩:=hL d R6;have hn:aA .ne (.lst (ts t' k' v'::L)) (.lst [])=some (.bl true):=by
      rw[vo (RB (jA hL) (by decide))];rfl
    obtain⟨b,eb⟩:=Fv (t:=t) (v:=v) (k:=k) (t':=t') (k':=k') (v':=v');z_go;rw[hn];z_go;rw[eb];cases b
    · z_go;rw[tG (by omega)];z_go
    · z_go;simp only[h];z_go;rw[tG (by omega)];z_go
theorem qC {a b:Slot}:∀(r:List It) (F:List D) (m:Int) (s:Slot),F.length + r.length<1000->
    ∃m' s',loopS 5 jD (r.map It.d) [a,b,.val (.lst (lat r m)),.own F,.val (.int m),s] M=some (.nx [a,b,.val (.lst []),.own (F ++ (cH r m).map It.d),.val (.int m'),s'],M)
  | [],F,m,s,_=>⟨m,s,by simp only[Ud,rO,lat,cH,Sy]⟩
  |.mk t::r,F,m,s,h=>by
    rw[RD]at h;obtain⟨m',s',e⟩:=qC r (if t > m then F ++ [It.d (.mk t)] else F) (if t > m then t else m) (.val (It.d (.mk t))) (by split<;>(try rw[RG,R_])<;>omega)
    refine⟨m',s',?_⟩;rw[R5,jE,tG (by simp only[RD,Sh];decide)];simp only[Tp,S9];rw[tZ (by omega)];simp only[jF,lat,cH,mx];rw[e]
    by_cases g:t > m
    · simp only[tG g,R3,R5,Uk]
    · simp only[Rn g]
  |.th t k v::r,F,m,s,h=>by
    rw[RD]at h
    by_cases g:t<m
    · obtain⟨m',s',e⟩:=qC r F m (.val (It.d (.th t k v))) (by omega);refine⟨m',s',?_⟩;rw[R5,jE,tG (by simp only[RD,Sh];decide)];simp only[Tp,S9,lat,cH,tG g];rw[En g (jA oE)];simp only[jF];exact e
    · obtain⟨m',s',e⟩:=qC r (F ++ [It.d (.th t k v)]) m (.val (It.d (.th t k v))) (by rw[RG,R_];omega);refine⟨m',s',?_⟩;rw[R5,jE,tG (by simp only[RD,Sh];decide)];simp only[Tp,S9,lat,cH,Rn g];rw[Em g oE (by omega)];simp only[jF];rw[e,R3];rfl
theorem Fw {r:List It}(hr:r.length<=100):n6 [.lst (r.map It.d),.lst (lat r 0)] M=some (.v (.lst ((cH r 0).map It.d)),M):=by
 unfold n6 tV;z_go;obtain⟨m',s',e⟩:=qC (M:=M) (a:=.val (.lst (r.map It.d))) (b:=.val (.lst (lat r 0))) r [] 0 .un (by simp only[Sh];omega);rw[e];z_go
theorem yI:∀n:Nat,iM (List.replicate n (.bl false))=some (List.replicate n false)
 |0=>rfl
 |n + 1=>by rw[List.replicate_succ];simp only[iM,yI n,Ui];rfl
theorem Ea {L:List D}:(iM (L.map fun _=>.bl false)).map (fun bs=>D.bl (bs.any id))=some (.bl false):=by
 rw[show(L.map fun _=>D.bl false)=List.replicate L.length (.bl false) from List.map_const' ..,yI,Ui];congr 2;rw[List.any_replicate]
 simp
noncomputable def iB (d:D):Option D:=match d with
 |.tup (.str w::xs)=>if w="thing" then some (.tup xs) else none
 |_=>none
theorem xP:∀r:List It,(r.map It.d).filterMap iB=jM r
  | []=>rfl
  |.mk t::r=>by
    rw[R5,Tv];have:iB (It.d (.mk t))=none:=by simp only[iB,It.d,yd,U3]
    rw[this];exact xP r
  |.th t k v::r=>by
    rw[R5,Tv];have:iB (It.d (.th t k v))=some (ts t k v):=by simp only[iB,It.d,Ub];rfl
    rw[this];simp only[jM];rw[xP r]
noncomputable def Bf (r:List It) (j:Nat):D:=.tup [.lst (aL (r.take j) 0),.lst (lat (r.take j) 0),.int (bG (r.take j) 0)]
theorem Qn {r : List It} {j n : Nat} (h : j <= n) : ∃ q, r.take n = r.take j ++ q := ⟨(r.take n).drop j,by
 rw[show r.take j=(r.take n).take j by rw[List.take_take,Wv h],TY]⟩
theorem EY {A B:List D}{c:Int}(h:∀d∈B,∃t k v,d=ts t k v/\t<c)(hl:B.length<=200):dB (ak (.bl true)) ux [.val (.tup [.lst A,.lst B,.int c])] B [] M=some (B.map fun _=>.bl false,M):=
 comp_map (fun _ => .bl false) B (fun d hd=>by
  obtain⟨t,k,v,rfl,ht⟩:=h d hd;unfold ux ts;z_go;rw[R4 (by omega)]) (by rw[Uy];omega)
theorem E_ {r:List It}(hl:r.length<=200):dB qy uw [] (r.map It.d) [] M=some (jM r,M):=by
  rw [uf iB (r.map It.d) [] (fun d hd=>by
    obtain⟨x,_,rfl⟩:=T6.mp hd
    cases x with
    |mk t=>
      rw[show iB (It.d (.mk t))=none by simp only[iB,It.d,yd,U3]];unfold qy It.d;z_go
    |th t k v=>
      rw[show iB (It.d (.th t k v))=some (ts t k v) by simp only[iB,It.d,Ub];rfl];unfold qy uw It.d;z_go) (by rw[Uy,RJ,Sh];omega),xP,Uj]
theorem Qk {r:List It}{j n:Nat}{s3 s4:Slot}(hj:j<=n)(hn:n<=r.length)(hr:r.length<=100):∃s4',j5 [.val (.lst (r.map It.d)),.val (Bf r j),.val (.int n),s3,s4] M=some (.nx [.val (.lst (r.map It.d)),.val (Bf r n),.val (.int n),.val (Bf r n),s4'],M):=by
 obtain⟨q,eq⟩:=Qn (r:=r) hj;have e1:=uF (M:=M) (r:=r) (n:=(n:Int)) (by omega) (by omega);rw[R8,Rn (by omega)]at e1;have p1:aZ (aL (r.take n) 0) none (some ((aL (r.take j) 0).length:Int))=aL (r.take j) 0:=by
  rw[lQ _ (by omega),R8,eq,o7,VH]
 have p2:aZ (lat (r.take n) 0) none (some ((lat (r.take j) 0).length:Int))=lat (r.take j) 0:=by
  rw[lQ _ (by omega),R8,eq,oA,VH]
 have p3:bG (r.take j) 0<=bG (r.take n) 0:=by rw[eq,uW];exact oR _ _
 have d1:aA .ne (.lst (aL (r.take j) 0)) (.lst (aL (r.take j) 0))=some (.bl false):=mG (by show D.deps _ + 1<=50;have:=jA (rH (r:=r.take j) (m:=0));omega);have d2:aA .ne (.lst (lat (r.take j) 0)) (.lst (lat (r.take j) 0))=some (.bl false):=mG (by show D.deps _ + 1<=50;have:=jA (oE (r:=r.take j) (m:=0));omega);have lt:(r.take n).length<=100:=by rw[Sw];omega
 have c1:=EY (M:=M) (A:=aL (r.take n) 0) (qU (r.take n) 0) (by have:=oF (r.take n) 0;omega);have c2:=E_ (M:=M) (r:=r.take n) (by omega);have l1:=oG (r.take n) 0;have l2:=oF (r.take n) 0;obtain⟨es,w1,w2,_⟩:=wI (Bp (lG (r.take n)));have w3:=(O8 (Bp (lG (r.take n))) (pY (r.take n) 0)).trans w1;have d3:aA .ne (.lst es) (.lst es)=some (.bl false):=mG (by show D.deps _ + 1<=50;have:=jA (L:=es) (fun d hd=>lG _ d (w2.mem_iff.mp hd));omega);have ct:aZ (r.map It.d) none (some (n:Int))=(r.take n).map It.d:=by rw[lQ _ (by omega),R8,Vq]
 unfold j5 Bf;z_go;rw[e1];generalize aL (r.take n) 0=A at *;generalize lat (r.take n) 0=B at *;generalize bG (r.take n) 0=c at *;generalize aL (r.take j) 0=A0 at *;generalize lat (r.take j) 0=B0 at *;generalize bG (r.take j) 0=c0 at *;z_go;rw[p1,d1];z_go;rw[p2,d2];z_go;rw[Rn (by omega)];z_go;rw[c1];z_go;rw[Ea];z_go;rw[ct,c2];z_go;rw[BZ w1];z_go;rw[tG (by omega)];z_go;rw[BZ w3];z_go;rw[d3];z_go;exact⟨_,rfl⟩
theorem Oj {l:Nat}{st:Int}(hs:0<st):∀k,k<cV 0 ((l:Int) + 1) st->0<=(k:Int) * st/\(k:Int) * st<=l:=fun k hk=>by
 unfold cV at hk;have e:Builtin.Range.rangeSize 0 ((l:Int) + 1) st=l / st + 1:=by
  unfold Builtin.Range.rangeSize;rw[tG hs,tG (by omega)];congr 2;omega
 rw[e]at hk;have d0:0<=(l:Int) / st:=Int.ediv_nonneg (by omega) (by omega);have h1:(k:Int)<=l / st:=by omega
 have h2:(k:Int) * st<=l / st * st:=Int.mul_le_mul_of_nonneg_right h1 (by omega);have h3:(l:Int) / st * st<=l:=Int.ediv_mul_le _ (by omega);exact⟨Int.mul_nonneg (by omega) (by omega),by omega⟩
theorem NZ {fa:E3.EA}{env:E3.Env}{M1:Mm}{i j c:Int}(h:fa env M=some (.v [.int i,.int j,.int c],M1))(hb:(0<=i/\i<=1000000000)/\(0<=j/\j<=1000000000)/\0<c/\c<=1000000000):E3.lW fa env M=some (.v ((List.range (cV i j c)).map fun(k:Nat)=>.int (i + k * c)),M1):=by
 unfold E3.lW;rw[h];dsimp only;rw[tG hb]
theorem FN {r:List It}{st:Int}{x:Slot}(hr:r.length<=100)(hs:1 + (r.length:Int) / 12=st):E3.lW (aD (ak (.int 0)) (aD (s2 aR (sN bx (aD (aj 0) au)) (ak (.int 1))) (aD (s2 aR (ak (.int 1)) (s2 eE (sN bx (aD (aj 0) au)) (ak (.int 12)))) au))) [.val (.lst (r.map It.d)),x,.un,.un,.un] M=some (.v ((List.range (cV 0 ((r.length:Int) + 1) st)).map fun(k:Nat)=>.int (0 + k * st)),M):=
 NZ (by z_go;rw[hs]) (by omega)
theorem Oi {l:Nat}{st:Int}{k:Nat}{d:D}(hs:0<st)(h:((List.range (cV 0 ((l:Int) + 1) st)).map fun(k:Nat)=>D.int (0 + k * st))[k]? =some d):∃n:Nat,d=.int n/\(n:Int)=(k:Int) * st/\n<=l:=by
 rw[Rx]at h;have hk:k<cV 0 ((l:Int) + 1) st:=by
  rcases T5 k (cV 0 ((l:Int) + 1) st) with h' |h'
  ·exact h'
  ·rw[WT (by rw[Us];exact h')]at h;cases h
 rw[U8 hk]at h;cases h;obtain⟨g1,g2⟩:=Oj hs k hk;obtain⟨n,en⟩:=Int.eq_ofNat_of_zero_le g1;exact⟨n,by show D.int (0 + k * st)=_;rw[Int.zero_add,en],en.symm,by omega⟩
theorem Gf {r:List It}{st:Int}{ds:List D}(hr:r.length<=100)(hs:0<st)(hd:∀(k:Nat) (d:D),ds[k]? =some d->∃n:Nat,d=.int n/\(n:Int)=(k:Int) * st/\n<=r.length):∃a b c d,loopS 2 j5 ds [.val (.lst (r.map It.d)),.val (Bf r 0),.un,.un,.un] M=some (.nx [.val (.lst (r.map It.d)),a,b,c,d],M):=by
 refine Ac (fun o=>∃a b c d,o=some (.nx [.val (.lst (r.map It.d)),a,b,c,d],M)) (fun k env N=>N=M/\∃(j:Nat) (a b c:Slot),(j:Int)<=(k:Int) * st/\env=[.val (.lst (r.map It.d)),.val (Bf r j),a,b,c]) ⟨rfl,0,_,_,_,by simp,rfl⟩ ?_ ?_
 ·rintro k d env N e ⟨rfl,j,a,b,c,h1,rfl⟩;obtain⟨n,rfl,en,hn⟩:=hd k d e;refine⟨by simp,?_⟩;simp only[Tp,S9];obtain⟨s',e⟩:=Qk (M:=N) (r:=r) (j:=j) (n:=n) (s3:=b) (s4:=c) (by omega) hn hr;rw[e];refine⟨rfl,n,_,_,_,?_,rfl⟩;have:((k + 1:Nat):Int) * st=k * st + st:=by rw[Int.natCast_succ,Int.add_mul,Int.one_mul]
  omega
 ·rintro env N ⟨rfl,j,a,b,c,h1,rfl⟩;exact⟨_,_,_,_,rfl⟩
theorem Gk {F:E3.EA}{r:List It}{ds:List D}{a b c d:Slot}(hF:F [.val (.lst (r.map It.d)),.val (.tup [.lst [],.lst [],.int 0]),.un,.un,.un] M=some (.v ds,M))
  (e:loopS 2 j5 ds [.val (.lst (r.map It.d)),.val (.tup [.lst [],.lst [],.int 0]),.un,.un,.un] M=some (.nx [.val (.lst (r.map It.d)),a,b,c,d],M)):
  cI 5 (ao (aJ 1 (bH (aD (bC au) (aD (bC au) (aD (ak (.int 0)) au))))) (ao (cX 2 F j5) (ao (aV (ak (.bl true))) aC))) [.lst (r.map It.d)] M=some (.v (.bl true),M):=by
 z_go;rw[hF];z_go;rw[e];z_go
theorem Gj {r:List It}{st:Int}(hr:r.length<=100)(s0:0<st):∃a b c d,loopS 2 j5 ((List.range (cV 0 ((r.length:Int) + 1) st)).map fun(k:Nat)=>D.int (0 + k * st)) [.val (.lst (r.map It.d)),.val (.tup [.lst [],.lst [],.int 0]),.un,.un,.un] M=some (.nx [.val (.lst (r.map It.d)),a,b,c,d],M):=by
 have e:=Gf (M:=M) hr s0 fun k d=>Oi (l:=r.length) (st:=st) (k:=k) (d:=d) s0;rw[show Bf r 0=D.tup [.lst [],.lst [],.int 0] by simp only[Bf,VJ,aL,lat,bG]]at e;exact e
theorem Fy {r:List It}(hr:r.length<=100):qN [.lst (r.map It.d)] M=some (.v (.bl true),M):=by
 obtain⟨a,b,c,d,e⟩:=Gj (M:=M) (r:=r) (st:=1 + (r.length:Int) / 12) hr (by omega);exact Gk (FN hr rfl) e
theorem xR {a b c:Slot}{m t:Int}:lZ [a,b,c,.val (.ref 0),.val (.ref 1),.val (.int m),.val (It.d (.mk t))] M=some (.nx [a,b,c,.val (.ref 0),.val (.ref 1),.val (.int (mx m t)),.val (It.d (.mk t))],M):=by
 unfold lZ It.d;z_go;rfl
theorem xT {a b c:Slot}{O L:List D}{m t v:Int}{k:Str}(hO:O.length<1000)(hL:L.length<1000):lZ [a,b,c,.val (.ref 0),.val (.ref 1),.val (.int m),.val (It.d (.th t k v))] [.lst O,.lst L]=
  some (.nx [a,b,c,.val (.ref 0),.val (.ref 1),.val (.int m),.val (It.d (.th t k v))],[.lst (if t<m then O else O ++ [ts t k v]),.lst (if t<m then L ++ [ts t k v] else L)]):=by
 unfold lZ It.d;z_go
 by_cases h:t<m
 ·simp only[tG h];rw[tG (by omega)];z_go
 ·simp only[Rn h];rw[tG (by omega)];z_go
theorem xU {a b c:Slot}:∀(r:List It) (O L:List D) (m:Int) (s:Slot),O.length + r.length<1000->L.length + r.length<1000->
    ∃s',loopS 6 lZ (r.map It.d) [a,b,c,.val (.ref 0),.val (.ref 1),.val (.int m),s] [.lst O,.lst L]=some (.nx [a,b,c,.val (.ref 0),.val (.ref 1),.val (.int (bG r m)),s'],[.lst (O ++ aL r m),.lst (L ++ lat r m)])
  | [],O,L,m,s,_,_=>⟨s,by simp only[Ud,rO,aL,lat,bG,Sy]⟩
  |.mk t::r,O,L,m,s,h1,h2=>by
    rw[RD]at h1 h2;obtain⟨s',e⟩:=xU r O L (mx m t) (.val (It.d (.mk t))) (by omega) (by omega);refine⟨s',?_⟩;rw[R5,jE,tG (by simp only[RD,Sh];decide)];simp only[Tp,S9];rw[xR];simp only[jF,aL,lat,bG];exact e
  |.th t k v::r,O,L,m,s,h1,h2=>by
    rw[RD]at h1 h2;obtain⟨s',e⟩:=xU r (if t<m then O else O ++ [ts t k v]) (if t<m then L ++ [ts t k v] else L) m (.val (It.d (.th t k v))) (by split<;>(try rw[RG,R_])<;>omega) (by split<;>(try rw[RG,R_])<;>omega)
    refine⟨s',?_⟩;rw[R5,jE,tG (by simp only[RD,Sh];decide)];simp only[Tp,S9];rw[xT (by omega) (by omega)];simp only[jF,aL,lat,bG];rw[e]
    by_cases h:t<m
    · simp only[tG h,R3,Uk]
    · simp only[Rn h,R3,Uk]
theorem FJ {r:List It}(hr:r.length<=100):qP [.lst (r.map It.d)] []=some (.v (.tup [.ref 0,.ref 1,.int bN]),[.lst (aL r 0),.lst (lat r 0)]):=by
 show qO [.lst (r.map It.d),.non] []=_;unfold qO nH;generalize hn:u_=rest;z_go;subst hn;unfold u_ Ba Bb Bc;generalize hq:vd=rest;z_go;rw[oU (by omega),lQ _ (by omega), <-Vq,take_all];obtain⟨s',e⟩:=xU (a:=.val (.lst (r.map It.d))) (b:=.val .non) (c:=.val (.int ((r.length:Int) + 1))) r [] [] 0 .un (by simp only[Sh];omega) (by simp only[Sh];omega);rw[e];subst hq;unfold vd Bd;simp only[Uj];generalize aL r 0=A;generalize lat r 0=B;generalize bG r 0=c;z_go;rw[tG (by omega)];z_go;rfl
theorem zP {ns:List Int}{k:Int}(hk:0<=k):iV [.lst (ns.map .int),.int k] M=some (.v (.int (ns.getD k.toNat 0)),M):=by
 unfold iV tU;z_go
 by_cases h:k<(ns.length:Int)
 ·simp only[h,decide_true];z_go;have e:bO (ns.map D.int) k=some (.int (ns.getD k.toNat 0)):=by
   obtain⟨j,rfl⟩:∃j:Nat,k=j:=⟨k.toNat,by omega⟩;refine jt ?_;have:j<ns.length:=by omega
   rw[Rx,Rr this]
   simp[List.getD,this]
  rw[e];z_go
 ·simp only[h,decide_false];z_go
  simp[List.getD,WT (show ns.length<=k.toNat by omega)]
noncomputable def ABC:Str:=Str.ofString "abcdefghijklmnopqrstuvwxyz"
theorem tO:ABC.length=26:=by x_go
theorem yx {i:Int}(h0:0<=i)(h1:i<26):∃c,bO ABC.cps.toList i=some c:=⟨_,Ed 0 h0 (by rw[show ABC.cps.toList.length=26 by x_go];exact h1)⟩
theorem OD {i:Int}(h0:0<=i)(h1:i<27):(Txt.slice ABC (some i) none).length<=26/\(Txt.slice (Txt.slice ABC (some i) none) none (some 1)).length<=1:=by
 have all:(List.range 27).all (fun i=>decide ((Txt.slice ABC (some ((i:Nat):Int)) none).length<=26/\(Txt.slice (Txt.slice ABC (some ((i:Nat):Int)) none) none (some 1)).length<=1))=true:=by x_go
 have:=TV.mp all i.toNat (UJ.mpr (by omega));rw[show((i.toNat:Nat):Int)=i by omega]at this;exact Vk this
theorem len1 {c:Nat}:(⟨#[c]⟩:Str).length=1:=rfl
theorem Gx {c w:Int}(hw:0<w)(hw2:w.natAbs<18446744073709551616):∃it:It,∀M:Mm,lU [.int c,.int w] M=some (.v it.d,M):=by
 by_cases h:c % 3=1
 ·refine⟨.mk (c / 3 % w),fun M=>?_⟩;unfold lU qu It.d;z_go;rw[tG hw];z_go;simp only[h];z_go
 ·obtain⟨x,ex⟩:=yx (Ul (c / 3 / w) (show(26:Int)≠0 by decide)) (T3 (c / 3 / w) (by decide));obtain⟨s1,s2⟩:=OD (Ul (c / 3 / w / 26) (show(27:Int)≠0 by decide)) (T3 (c / 3 / w / 26) (by decide));refine⟨.th (c / 3 % w) (⟨#[x]⟩ ++ Txt.slice (Txt.slice ABC (some (c / 3 / w / 26 % 27)) none) none (some 1)) (c / 3 / w / 702 % 201 - 100),fun M=>?_⟩;unfold lU qu It.d;rw[show(Str.ofString "abcdefghijklmnopqrstuvwxyz")=ABC from rfl];z_go;rw[tG hw];z_go;simp only[h];z_go;rw[tG ⟨hw,hw2⟩];z_go;rw[tG (by rw[tO];decide),ex];z_go;rw[tG (by rw[tO];decide)];z_go;rw[tG (by omega)];z_go;rw[len1,tG (by omega)];z_go
theorem jL {z:Str}{ws:List Str}(hz:z.length<=16)(h:(ws.map (·.length)).sum + ws.length<=1048576):pX z [.lst (ws.map D.str)]=some (.str (Txt.join z ws)):=by
 unfold pX;simp only[E3.strs_map];rw[tG ⟨hz,h⟩]
theorem Fo {x:Int}{k:Nat}(hk:k<2):∃z:Str,z.length=1/\∀M:Mm,qJ [.val (.int (0 + (k:Int))),.val (.int x)] M=some (.v (.str z),M):=by
 obtain⟨c,ec⟩:=yx (Ul (x / (5 + 11 * (0 + (k:Int)))) (show(26:Int)≠0 by decide)) (T3 (x / (5 + 11 * (0 + (k:Int)))) (by decide));refine⟨⟨#[c]⟩,len1,fun M=>?_⟩;unfold qJ;rw[show(Str.ofString "abcdefghijklmnopqrstuvwxyz")=ABC from rfl];z_go;rw[tG ⟨by omega,by omega⟩];z_go;rw[tG (by rw[tO];decide),ec];z_go
theorem yR {α:Type}[Inhabited α]{e:E3.E}{env:E3.Env}{n:Nat}{f:α->D}{p:α->Prop}(h:∀k,k<n->∃a,p a/\∀M:Mm,e (.val (.int (0 + (k:Int)))::env) M=some (.v (f a),M))(hn:n<=1000):
  ∃as:List α,as.length=n/\(∀a∈as,p a)/\∀M:Mm,dB (ak (.bl true)) e env ((List.range n).map fun(k:Nat)=>D.int (0 + k)) [] M=some (as.map f,M):=by
 let g:Nat->α:=fun k=>if hk:k<n then Classical.choose (h k hk) else default
 have hg:∀k,(hk:k<n)->p (g k)/\∀M:Mm,e (.val (.int (0 + (k:Int)))::env) M=some (.v (f (g k)),M):=fun k hk=>by
  simp only[g,dif_pos hk];exact UL (h k hk)
 refine⟨(List.range n).map g,by simp,fun a ha=>?_,fun M=>?_⟩
 ·obtain⟨k,hk,rfl⟩:=T6.mp ha;exact(hg k (UJ.mp hk)).1
 ·rw [comp_map (fun d => match d with | .int i => f (g i.toNat) | d => d) _ (fun d hd=>by
   obtain⟨k,hk,rfl⟩:=T6.mp hd;have:=(hg k (UJ.mp hk)).2 M;dsimp only;rw[show(0 + (k:Int)).toNat=k by omega];exact this) (by rw[Uy,RJ,Us];omega),Wr,Wr]
  congr 2;refine List.map_congr_left fun k _=>?_;show f (g (0 + (k:Int)).toNat)=f (g k);rw[show(0 + (k:Int)).toNat=k by omega]
theorem Gy {c x w:Int}(h0:0<=x)(hw:0<w):∃it:It,∀M:Mm,lR [.int c,.int x,.int w] M=some (.v it.d,M):=by
 by_cases h:x % 3=1
 ·refine⟨.mk ((c * 7919 + x) % w),fun M=>?_⟩;unfold lR qt It.d;z_go;rw[tG hw];z_go;simp only[h];z_go
 ·obtain⟨n,hn⟩:∃n:Nat,1 + x / 3 % 2=n:=⟨(1 + x / 3 % 2).toNat,by omega⟩;have hn2:n<=2:=by omega
  obtain⟨ws,l1,l2,ew⟩:=yR (e:=qJ) (env:=[.val (.int x)]) (n:=n) (f:=D.str) (p:=fun z:Str=>z.length=1) (fun k hk=>Fo (by omega)) (by omega);have sm:(ws.map (·.length)).sum + ws.length<=1048576:=by
   match ws,l1,l2 with
   | [],_,_=>decide
   | [a],_,l2=>simp[l2 a]
   | [a,b],_,l2=>simp[l2 a,l2 b]
   |a::b::c::r,l1,_=>simp only[RD]at l1;omega
  refine⟨.th ((c * 7919 + x) % w) (Txt.join (Str.ofString "") ws) ((c * 104729 + x) % 201 - 100),fun M=>?_⟩;unfold lR qt It.d;have hj:=jL (z:=Str.ofString "") (by x_go) sm;z_go;rw[tG hw];z_go;simp only[h];z_go;rw[hn,v7 (by omega),R8];z_go;rw[ew M];z_go;rw[hj];z_go
def uq (xs:List Int):Prop:=∀x∈xs,0<=x/\x<715827877
theorem ou {n:Int}{m:Nat}(hm:m<=1000):∃xs:List Int,xs.length=m/\uq xs/\∀M:Mm,jY [.int n,.int m] M=some (.v (.lst (xs.map .int)),M):=by
  let P:E3.OS->Mm->List Int->Prop:=fun o M xs=>∃s3 s4,o=some (.nx [.val (.int n),.val (.int m),.own (xs.map .int),s3,s4],M)
  have key:∃xs:List Int,xs.length=m/\uq xs/\∀M:Mm,P (loopS 4 qT ((List.range m).map fun(k:Nat)=>D.int (0 + k)) [.val (.int n),.val (.int m),.own [],.val (.int (n % 2147483629)),.un] M) M xs:=by
    -- the numbers by themselves
    let st:Int×List Int->Nat->Int×List Int:=fun p k=>let x:=(p.1 * p.1 + 40692 * p.1 + 2 * (0 + (k:Int)) + 1) % 2147483629;(x,p.2 ++ [x / 3])
    let at_:Nat->Int×List Int:=fun k=>(List.range k).foldl st (n % 2147483629,[])
    have hst:∀k,at_ (k + 1)=st (at_ k) k:=fun k=>by simp only[at_,Ws,List.foldl_append,Vy,List.foldl_nil]
    have hb:∀k,0<=(at_ k).1/\(at_ k).1<2147483629/\(at_ k).2.length=k/\uq (at_ k).2:=fun k=>by
      induction k with
      |zero=>exact⟨Ul _ (by decide),T3 _ (by decide),rfl,fun x hx=>by cases hx⟩
      |succ k ih=>
        rw[hst];refine⟨Ul _ (by decide),T3 _ (by decide),by simp only[st,RG,ih.2.2.1,R_],fun x hx=>?_⟩;simp only[st,T4,S8]at hx;rcases hx with hx |hx
        · exact ih.2.2.2 x hx
        · have h1:=Ul ((at_ k).1 * (at_ k).1 + 40692 * (at_ k).1 + 2 * (0 + (k:Int)) + 1) (show(2147483629:Int)≠0 by decide);have h2:=T3 ((at_ k).1 * (at_ k).1 + 40692 * (at_ k).1 + 2 * (0 + (k:Int)) + 1) (show(0:Int)<2147483629 by decide);subst hx;omega
    refine⟨(at_ m).2,(hb m).2.2.1,(hb m).2.2.2,fun M=>?_⟩;refine Ac (fun o=>P o M (at_ m).2) (fun k env M'=>M'=M/\∃s4,env=[.val (.int n),.val (.int m),.own ((at_ k).2.map .int),.val (.int (at_ k).1),s4]) ⟨rfl,.un,rfl⟩ ?_ ?_
    · rintro k d env M' hd ⟨rfl,s4,rfl⟩;have hk:k<m:=by
        have:=(RL.mp hd).1
        simpa using this
      rw[Rx,U8 hk,Ui]at hd;cases hd;refine⟨by show 4<5;decide,?_⟩;have hx:=hb k;have hq:=hb (k + 1);rw[hst]at hq;show Step _ _ (qT [.val (.int n),.val (.int m),.own ((at_ k).2.map .int),.val (.int (at_ k).1),.val (.int (0 + k))] M');generalize e1:(at_ k).1=x at *;generalize e2:(at_ k).2=xs at *;unfold qT;z_go;rw[tG (.inl (by omega))];z_go;rw[tG (show xs.length<16777216 by omega)];refine⟨rfl,.val (.int (0 + k)),?_⟩;rw[hst];simp only[st,e1,e2,Wt,R5,Ud]
    · rintro env M' ⟨rfl,s4,rfl⟩;rw[RJ,Us];exact⟨_,_,rfl⟩
  obtain⟨xs,h1,h2,h3⟩:=key;refine⟨xs,h1,h2,fun M=>?_⟩;obtain⟨s3,s4,h3⟩:=h3 M;unfold jY tW;z_go;rw[v7 (by omega),R8];z_go;rw[h3];z_go
theorem Fe {α:Type}[Inhabited α]{e:E3.E}{env:E3.Env}{cs:List Int}{f:α->D}(h:∀c:Int,∃a,∀M:Mm,e (.val (.int c)::env) M=some (.v (f a),M))(hn:cs.length<=1000):
  ∃as:List α,as.length=cs.length/\∀M:Mm,dB (ak (.bl true)) e env (cs.map .int) [] M=some (as.map f,M):=by
 let g:Int->α:=fun c=>Classical.choose (h c)
 have hg : ∀ c, ∀ M : Mm, e (.val (.int c) :: env) M = some (.v (f (g c)), M) := fun c => UL (h c);refine ⟨cs.map g, by simp, fun M => ?_⟩;rw [comp_map (fun d => match d with | .int i => f (g i) | d => d) _ (fun d hd=>by
   obtain⟨c,hc,rfl⟩:=T6.mp hd;exact hg c M) (by rw[Uy,RJ];omega),Wr,Wr]
 rfl
instance:Inhabited It:=⟨.mk 0⟩
theorem Fp {cs:List Int}{w:Int}{k:Nat}(hw:0<w)(hk:k<cs.length):∃it:It,True/\∀M:Mm,qK [.val (.int (0 + (k:Int))),.val (.int w),.val (.lst (cs.map .int))] M=some (.v it.d,M):=by
 obtain⟨xs,l1,l2,ed⟩:=ou (n:=cs.getD k 0 + (0 + (k:Int))) (m:=3) (by omega);have hx:=l2 (xs.getD 2 0) (by rw[U7,Rr (by omega)];exact U4 _);obtain⟨it,ei⟩:=Gy (c:=cs.getD k 0) (x:=xs.getD 2 0) hx.1 hw;refine⟨it,trivial,fun M=>?_⟩;have a1:bO (cs.map D.int) (0 + (k:Int))=some (.int (cs.getD k 0)):=by
  rw[Int.zero_add];refine jt ?_;rw[Rx,Rr hk]
  simp[List.getD,hk]
 have a2:bO (xs.map D.int) 2=some (.int (xs.getD 2 0)):=by
  refine jt (j:=2) ?_;rw[Rx,Rr (by omega)]
  simp[List.getD,l1]
 unfold qK;z_go;rw[a1];z_go;rw[a1];z_go;rw[show jY [.int (cs.getD k 0 + (0 + (k:Int))),.int 3] M=_ from ed M];z_go;rw[a2];z_go;rw[ei M];z_go
theorem Fq {w:Int}(hw:0<w)(hw2:w.natAbs<18446744073709551616)(c:Int):∃it:It,∀M:Mm,uy [.val (.int c),.val (.int w)] M=some (.v it.d,M):=by
 obtain⟨it,ei⟩:=Gx (c:=c) hw hw2;refine⟨it,fun M=>?_⟩;unfold uy;z_go;rw[ei M];z_go
section
variable {ns cs:List Int}{c w:Int}
theorem Ce (w0:0<w)(w2:w.natAbs<18446744073709551616)(hl:cs.length<=100):∃r:List It,r.length<=100/\∀M:Mm,bA (mC [.val (.lst (ns.map .int)),.val (.int c),.val (.int w),.val (.lst (cs.map .int))] M)=some (.v (.lst (r.map It.d)),M):=by
 by_cases h:c / 64 % 2=1
 ·obtain⟨as,l1,ea⟩:=Fe (cs:=cs) (f:=It.d) (Fq w0 w2) (by omega);refine⟨as,by omega,fun M=>?_⟩;unfold mC;z_go;simp only[h];z_go;rw[ea M];z_go
 ·obtain⟨as,l1, -,ea⟩:=yR (e:=qK) (env:=[.val (.int w),.val (.lst (cs.map .int))]) (n:=cs.length) (f:=It.d) (p:=fun _=>True) (fun k hk=>Fp w0 hk) (by omega);refine⟨as,by omega,fun M=>?_⟩;unfold mC Ao;z_go;simp only[h];z_go;rw[v7 (by omega),R8];z_go;rw[ea M];z_go
theorem Cd (w0:0<w)(w2:w.natAbs<18446744073709551616)(hl:cs.length<=100):∃r:List It,r.length<=100/\∀M:Mm,bA (mq [.val (.lst (ns.map .int)),.val (.int c),.val (.int w),.val (.lst (cs.map .int))] M)=some (.v (.lst (r.map It.d)),M):=by
 by_cases h:c % 8=1
 ·obtain⟨m,hm⟩:∃m:Nat,c / 8 % 91=m:=⟨(c / 8 % 91).toNat,by omega⟩;obtain⟨xs,l1, -,ed⟩:=ou (n:=c / 8) (m:=m) (by omega);obtain⟨r,lr,er⟩:=Ce (ns:=ns) (cs:=xs) (c:=c) w0 w2 (by omega);refine⟨r,lr,fun M=>?_⟩;unfold mq;generalize hq:mC=rest at er;z_go;simp only[h];z_go;rw[hm,ed M];z_go;exact er M
 ·obtain⟨r,lr,er⟩:=Ce (ns:=ns) (cs:=cs) (c:=c) w0 w2 hl;refine⟨r,lr,fun M=>?_⟩;unfold mq;generalize hq:mC=rest at er;z_go;simp only[h];z_go;exact er M
theorem Ol (hn:ns.length<=63):∃r:List It,r.length<=100/\∀M:Mm,bA (oV [.val (.lst (ns.map .int)),.val (.int c),.val (.int 31),.un] M)=some (.v (.lst (r.map It.d)),M):=by
 have hl:(aZ ns (some 1) (some 31)).length<=100:=by have:=Fl ns (some 1) (some 31);omega
 by_cases h:c / 8 % 4=1
 ·obtain⟨r,lr,er⟩:=Cd (ns:=ns) (cs:=aZ ns (some 1) (some 31)) (c:=c) (w:=1000000000001) (by decide) (by decide) hl;refine⟨r,lr,fun M=>?_⟩;unfold oV uZ;generalize hq:mq=rest at er;z_go;simp only[h];z_go;rw[yZ];exact er M
 ·obtain⟨r,lr,er⟩:=Cd (ns:=ns) (cs:=aZ ns (some 1) (some 31)) (c:=c) (w:=31) (by decide) (by decide) hl;refine⟨r,lr,fun M=>?_⟩;unfold oV uZ;generalize hq:mq=rest at er;z_go;simp only[h];z_go;rw[yZ];exact er M
theorem FP (hn:ns.length<=63):∃r:List It,r.length<=100/\∀M:Mm,oh [.lst (ns.map .int)] M=some (.v (.lst (r.map It.d)),M):=by
 obtain⟨r,lr,er⟩:=Ol (ns:=ns) (c:=ns.getD 0 0) hn;refine⟨r,lr,fun M=>?_⟩;have gc:iV [.lst (ns.map .int),.int 0] M=some (.v (.int (ns.getD 0 0)),M):=zP (by decide);unfold oh tY Am;generalize hq:oV=rest at er;z_go;rw[gc];z_go;exact er M
end
theorem jW {r:List It}:(D.tup [.lst (aL r 0),.lst (lat r 0),.int bN]).dep<=50:=by
 have h1:=jA (rH (r:=r) (m:=0));have h2:=jA (oE (r:=r) (m:=0));show D.deps [D.lst (aL r 0),D.lst (lat r 0),D.int bN] + 1<=50;simp only[D.deps,D.dep];omega
theorem uh {r:List It}:(D.tup [.lst (aL r 0),.lst [],.int bN]).dep<=50:=by
 have h1:=jA (rH (r:=r) (m:=0));show D.deps [D.lst (aL r 0),D.lst [],D.int bN] + 1<=50;simp only[D.deps,D.dep];omega
theorem xY {A B:List D}:vw [Cl.lst A,Cl.lst B] (.ref 0)=.lst A:=rfl
theorem xZ {A B:List D}:vw [Cl.lst A,Cl.lst B] (.ref 1)=.lst B:=rfl
theorem vB:∀{L:List D},(∀d∈L,∃t k v,d=ts t k v)->D.plains L=true
  | [],_=>rfl
  |d::L,h=>by
    obtain⟨t,k,v,rfl⟩:=h d R6;simp only[D.plains,vB fun e he=>h e (RP _ he),V7];rfl
section
variable {r:List It}{a b c d:Slot}(hr:r.length<=100)
include hr
theorem Q8:bA (rE [a,.val (.lst (r.map It.d)),b,.val (.tup [.lst (aL r 0),.lst (lat r 0),.int bN]),d] M)=some (.v (.bl true),M):=by
 unfold rE;have e1:=zF (M:=M) (r:=r) (by omega);have e2:=uF (M:=M) (r:=r) (n:=(r.length:Int) + 1) (by omega) (by omega);rw[take_all,tG (by omega)]at e2;have e3:=Bk (jW (r:=r));z_go;rw[e1];z_go;rw[e3];z_go;rw[e2];z_go;rw[e3];z_go
theorem Q6 {A B:List D}(hA:A.length<=1000):∃M',bA (u6 [a,.val (.lst (r.map It.d)),.val (.tup [.ref 0,.ref 1,.int bN]),.val (.tup [.lst (aL r 0),.lst (lat r 0),.int bN]),d] [.lst A,.lst B])=some (.v (.bl true),M'):=by
 unfold u6 Aw;generalize hq:rE=rest;z_go;rw[tG (by omega)];z_go;have ec:∀(e:E3.Env) (N:Mm) (X Y:List D),e[2]? =some (.val (.tup [.ref 0,.ref 1,.int bN]))->N=[.lst X,.lst Y]->pJ (s2 aX (aj 2) (ak (.int 1))) e N=some (.nx e,[.lst X,.lst []]):=fun e N X Y he hN=>by
  subst hN;have h1:s2 aX (aj 2) (ak (.int 1)) e [.lst X,.lst Y]=some (.v (.ref 1),[.lst X,.lst Y]):=by
   z_go;rw[he];z_go
  unfold pJ;rw[h1];rfl
 rw[ec _ _ _ _ rfl rfl];z_go;subst hq;exact⟨_,Q8 hr⟩
theorem DQ {x y:Slot}:s2 (aA .ne) (cF iW (aD (aj 4) au)) (bH (aD (s2 aX (aj 3) (ak (.int 0))) (aD (bC au) (aD (ak (.int 1000000000000000)) au)))) [x,y,b,.val (.tup [.lst (aL r 0),.lst (lat r 0),.int bN]),.val (.lst ((cH r 0).map It.d))] M=some (.v (.bl false),M):=by
 have lc:=qX r 0;have e1:=zE (M:=M) (r:=cH r 0) (by omega);rw[(o8 r 0).1,(o8 r 0).2]at e1;have e2:=mG (uh (r:=r));generalize iW=G2 at e1 ⊢;generalize aA .ne=O at e2 ⊢;obtain⟨z,hz⟩:∃z,bN=z:=⟨_,rfl⟩;rw[show(1000000000000000:Int)=z from hz];rw[hz]at e1 e2 ⊢;z_go;rw[e1];z_go;rw[e2];z_go
omit hr in
theorem DR {G:E3.G}{e:E3.Env}{y:D}(e3:G [y] M=some (.v (.bl true),M))(he:e[1]? =some (.val y)):fV (cF G (aD (aj 1) au)) e M=some (.v (.bl true),M):=by
 z_go;rw[he];z_go;rw[e3];z_go
omit hr in
theorem DW {F1 F2:E3.E}{rest:E3.S}{e:E3.Env}{P:E3.Res->Prop}(e1:F1 e M=some (.v (.bl false),M))(e3:F2 e M=some (.v (.bl true),M))(e6:∃M',bA (rest e M)=some (.v (.bl true),M')):
  ∃M',bA (ao (cg (jH F1 (gG F2)) (ao (aV (ak (.bl false))) aC) aC) rest e M)=some (.v (.bl true),M'):=by
 z_go;rw[e1];z_go;rw[e3];z_go;exact e6
theorem Q5 {A B:List D}(hA:A.length<=1000):∃M',bA (u5 [a,.val (.lst (r.map It.d)),.val (.tup [.ref 0,.ref 1,.int bN]),.val (.tup [.lst (aL r 0),.lst (lat r 0),.int bN]),.val (.lst ((cH r 0).map It.d))] [.lst A,.lst B])=some (.v (.bl true),M'):=
 DW (P:=fun _=>True) (DQ hr) (DR (Fy hr) rfl) (Q6 hr hA)
theorem Q4 {A B:List D}(hA:A.length<=1000):∃M',bA (rD [a,.val (.lst (r.map It.d)),.val (.tup [.ref 0,.ref 1,.int bN]),.val (.tup [.lst (aL r 0),.lst (lat r 0),.int bN]),d] [.lst A,.lst B])=some (.v (.bl true),M'):=by
 have e1:=Fw (M:=[.lst A,.lst B]) hr;unfold rD;generalize hq:u5=rest;z_go;rw[e1];z_go;subst hq;exact Q5 hr hA
theorem Q3 {ns:List Int}:∃M',bA (rC [.val (.lst (ns.map .int)),.val (.lst (r.map It.d)),.val (.tup [.ref 0,.ref 1,.int bN]),.val (.tup [.lst (aL r 0),.lst (lat r 0),.int bN]),d] [.lst (aL r 0),.lst (lat r 0)])=some (.v (.bl true),M'):=by
 have lo:=oG r 0;have p1:D.plains (aL r 0)=true:=vB rH;have p2:D.plains (lat r 0)=true:=vB oE;have v1:jB [.lst (aL r 0),.lst (lat r 0)] (.tup [.ref 0,.ref 1,.int bN])=some (.tup [.lst (aL r 0),.lst (lat r 0),.int bN]):=by
  simp only[jB,vw,R5,Ud,List.getElem?_cons_zero,T9,D.plains,D.plain,p1,p2,W3,Ub]
 have v2:jB [.lst (aL r 0),.lst (lat r 0)] (.tup [.lst (aL r 0),.lst (lat r 0),.int bN])=some (.tup [.lst (aL r 0),.lst (lat r 0),.int bN]):=by
  simp only[jB,vw,R5,Ud,D.plains,D.plain,p1,p2,W3,Ub]
 have e1:∀e:E3.Env,e[2]? =some (.val (.tup [.ref 0,.ref 1,.int bN]))->e[3]? =some (.val (.tup [.lst (aL r 0),.lst (lat r 0),.int bN]))->eZ true (aj 2) (aj 3) e [.lst (aL r 0),.lst (lat r 0)]=some (.v (.bl false),[.lst (aL r 0),.lst (lat r 0)]):=fun e h2 h3=>by
  have g1:aj 2 e [Cl.lst (aL r 0),Cl.lst (lat r 0)]=some (.v (.tup [.ref 0,.ref 1,.int bN]),[.lst (aL r 0),.lst (lat r 0)]):=by
   rw[vL,h2];rfl
  have g2:aj 3 e [Cl.lst (aL r 0),Cl.lst (lat r 0)]=some (.v (.tup [.lst (aL r 0),.lst (lat r 0),.int bN]),[.lst (aL r 0),.lst (lat r 0)]):=by
   rw[vL,h3];rfl
  unfold eZ;rw[g1];dsimp only[bnd];rw[g2];dsimp only[bnd];rw[v1,v2];dsimp only;rw[tG rfl,mG jW];rfl
 obtain⟨c,hc⟩:∃c:Nat,ns.getD 0 0 / 32 % ((r.length:Int) + 1)=c:=⟨(ns.getD 0 0 / 32 % ((r.length:Int) + 1)).toNat,by have:=Ul (ns.getD 0 0 / 32) (show((r.length:Int) + 1)≠0 by omega);omega⟩;have c1:c<=r.length:=by have:=T3 (ns.getD 0 0 / 32) (show(0:Int)<(r.length:Int) + 1 by omega);omega
 have e2:=Fz (M:=[.lst (aL r 0),.lst (lat r 0)]) c1 hr;have e3:=mG (jW (r:=r));have gc:iV [.lst (ns.map .int),.int 0] [.lst (aL r 0),.lst (lat r 0)]=some (.v (.int (ns.getD 0 0)),[.lst (aL r 0),.lst (lat r 0)]):=zP (by decide);obtain⟨M',e4⟩:=Q4 (a:=.val (.lst (ns.map .int))) (d:=d) hr (A:=aL r 0) (B:=lat r 0) (by omega);refine⟨M',?_⟩;unfold rC;generalize hq:rD=rest at e4;generalize hs:eZ true (aj 2) (aj 3)=F;rw[hs]at e1;z_go;rw[e1 _ rfl rfl];z_go;rw[gc];z_go;rw[tG (by omega)];z_go;rw[hc,e2];z_go;rw[e3];z_go;exact e4
end
theorem GX (ns:List Int)(hn:ns.length<=63):∃M,gC [.lst (ns.map .int)] []=some (.v (.bl true),M):=by
 obtain⟨r,hr,er⟩:=FP hn;have e1:=FJ hr;obtain⟨M',e3⟩:=Q3 (d:=.un) hr (ns:=ns);refine⟨M',?_⟩;unfold gC zR qw Aq Av;generalize hq:rC=rest at e3;z_go;rw[er];z_go;rw[e1];z_go;rw[xY];z_go;rw[xZ];z_go;exact e3
theorem GZ {l:PySem.W.OpenLaw}{w:World}{K:Fgx}{mg:Mgx}{C:Ad}{h base:Heap}{f0 f9 f10:Addr}{d0 d9 d10:FuncData}(X:K.In h)(G:h.Ns mainGlobals mg)(T:Txt K mg C)
  (D0:DefAtD K mg "read_row" lg ["row","many"] [.non] f0 d0)
  (F1:cu K "_law_cell_at" rT)
  (F2:cu K "_law_drawn" rW)
  (F3:cu K "_law_item" rZ)
  (F4:cu K "_law_item_from" su)
  (F5:cu K "_law_row" mR)
  (F6:cu K "_law_halves" rY)
  (F7:cu K "_law_clean" rU)
  (F8:cu K "_law_grows" pK)
  (D9:DefAt K mg "law" gJ ["_law_script"] f9 d9)
  (D10:DefAtD K mg "read_row" lq ["row","many"] [.non] f10 d10)
  :FnOk l.prog w K mg base d8 j_ f9 d9 ["_law_script"] (iz K mg 1 gC):=by
 have A0:bf l.prog w K mg base 1 "read_row" 2 fP:=(D0.ok (b:=lN) wu (BW (k:=0) T) :);have A0_d1:bf l.prog w K mg base 1 "read_row" 1 iW:=(D0.okD (b:=lN) (n:=1) wu (BW (k:=0) T) :);have A1:bf l.prog w K mg base 1 "_law_cell_at" 2 iV:=(F1.ok X G Cj (fun _=>Mq (k:=0) T) :);have A2:bf l.prog w K mg base 1 "_law_drawn" 2 jY:=(F2.ok X G Cq (fun _=>Ms (k:=0) T) :);have A3:bf l.prog w K mg base 1 "_law_item" 3 lR:=(F3.ok X G Cv (fun _=>Mv (k:=0) T) :);have A4:bf l.prog w K mg base 1 "_law_item_from" 2 lU:=(F4.ok X G Cw (fun _=>Mw (k:=0) T) :);have A5:bf l.prog w K mg base 2 "_law_row" 1 oh:=(F5.ok X G Cy (fun _=>Mx (k:=1) T A1.up A2.up A3.up A4.up) :);have A6:bf l.prog w K mg base 2 "_law_halves" 2 n_:=(F6.ok X G Cu (fun _=>Mu (k:=1) T A0.up A0_d1.up) :);have A7:bf l.prog w K mg base 1 "_law_clean" 2 n6:=(F7.ok X G Ck (fun _=>Mr (k:=0) T) :);have A8:bf l.prog w K mg base 2 "_law_grows" 1 qN:=(F8.ok X G Cr (fun _=>Mt (k:=1) T A0.up) :);have A10:bf l.prog w K mg base 1 "read_row" 2 qO:=(D10.ok (b:=nH) wz (BX (k:=0) T) :);have A10_d1:bf l.prog w K mg base 1 "read_row" 1 qP:=(D10.okD (b:=nH) (n:=1) wz (BX (k:=0) T) :);exact uG (b:=qw) D9.F Cz (by decide) (Nu (k:=2) T A0.up A0_d1.up A1.up A5.up A6.up A7.up A8.up A10_d1.up)
theorem all_mk {l:W.OpenLaw}{w:World}{K:W.Frag}{h:Heap}{mg:Mgx}{fa:Addr}(X:K.In h)(G:h.Ns mainGlobals mg)(hfa:mg "law"=some (.ref fa))
  (a0:W.nsIn K mainGlobals "read_row"=some (some (.ref f0))) (l0:K.lookup f0=some ⟨oc0,od0,.func (W.fnOf "read_row" "read_row" (bR lg) (bL lg) (aM lg) (.ref tt0) kV0 dc0 pm0 an0 cd0 ct0),sl0⟩) (c0:W.codeIn K cd0 "read_row"=true) (k0:W.keepIn K (.ref f0)=true)
  (q0:K.lookup tt0=some ⟨ot0,td0,.seq #[Value.none] tn0,ts0⟩)
  (F1:cu K "_law_cell_at" rT)
  (F2:cu K "_law_drawn" rW)
  (F3:cu K "_law_item" rZ)
  (F4:cu K "_law_item_from" su)
  (F5:cu K "_law_row" mR)
  (F6:cu K "_law_halves" rY)
  (F7:cu K "_law_clean" rU)
  (F8:cu K "_law_grows" pK)
  (a9:W.nsIn K mainGlobals "law"=some (some (.ref f9))) (l9:K.lookup f9=some ⟨oc9,od9,.func (W.fnOf "law" "law" (bR gJ) (bL gJ) (aM gJ) .none kV9 dc9 pm9 an9 cd9 ct9),sl9⟩) (c9:W.codeIn K cd9 "law"=true) (k9:W.keepIn K (.ref f9)=true)
  (a10:W.nsIn K mainGlobals "read_row"=some (some (.ref f10))) (l10:K.lookup f10=some ⟨oc10,od10,.func (W.fnOf "read_row" "read_row" (bR lq) (bL lq) (aM lq) (.ref tt10) kV10 dc10 pm10 an10 cd10 ct10),sl10⟩) (c10:W.codeIn K cd10 "read_row"=true) (k10:W.keepIn K (.ref f10)=true)
  (q10:K.lookup tt10=some ⟨ot10,td10,.seq #[Value.none] tn10,ts10⟩)
  (j6:W.nsIn K mainGlobals "len"=some none)
  (j7:W.nsIn K mainGlobals "max"=some none)
  (j8:W.nsIn K mainGlobals "range"=some none)
  (j9:W.nsIn K mainGlobals "list"=some none)
  (jc:W.nsIn K mainGlobals "sorted"=some none)
  (jd:W.nsIn K mainGlobals "any"=some none)
  (je:W.nsIn K mainGlobals "LAST"=some (some (.int 1000000000000000 jf)))
  :∃fd:FuncData,(∀(s:Shared) (v:Value),BindsTo s fd ⟨[v],[]⟩ [("_law_script",v)])/\∀base:Heap,K.In base->base.Ns mainGlobals mg->FnOk l.prog w K mg base d8 j_ fa fd ["_law_script"] (pQ K gC):=by
 have e:=hfa.symm.trans (W.mg_of X G a9);cases e;have T:Txt K mg ⟨()⟩:=⟨by simp only[nJ,Ss,List.not_mem_nil,or_false,forall_eq_or_imp,forall_eq];exact⟨Vg X G j6,Vg X G j7,Vg X G j8,Vg X G j9,Vg X G jc,Vg X G jd⟩,⟨_,W.mg_of X G je⟩⟩;have D0:DefAtD K mg "read_row" lg ["row","many"] [.non] _ _:=⟨W.mg_of X G a0,qM l0 c0 k0,fun s us hK hl=>by(rcases us with _ |⟨_,_ |⟨_,_ |⟨_,us⟩⟩⟩<;>first |exact W.binds_K hK rfl q0 rfl rfl rfl |(exfalso;simp at hl;done)),[V.non],[Value.none],fun s us hK hl=>by(rcases us with _ |⟨_,_ |⟨_,us⟩⟩<;>first |exact W.binds_K hK rfl q0 rfl rfl rfl |(exfalso;simp at hl;done)),.cons rfl (.nil),fun _ _=>⟨_,_,rfl,rfl,rfl⟩,rfl⟩
 have D9:DefAt K mg "law" gJ ["_law_script"] _ _:=⟨W.mg_of X G a9,qM l9 c9 k9,(zO (st:=gJ) l9 c9 k9).binds (ps:=["_law_script"]) fun _ _ _ _ _ _ us hl=>match us,hl with | [_],_=>rfl⟩
 have D10:DefAtD K mg "read_row" lq ["row","many"] [.non] _ _:=⟨W.mg_of X G a10,qM l10 c10 k10,fun s us hK hl=>by(rcases us with _ |⟨_,_ |⟨_,_ |⟨_,us⟩⟩⟩<;>first |exact W.binds_K hK rfl q10 rfl rfl rfl |(exfalso;simp at hl;done)),[V.non],[Value.none],fun s us hK hl=>by(rcases us with _ |⟨_,_ |⟨_,us⟩⟩<;>first |exact W.binds_K hK rfl q10 rfl rfl rfl |(exfalso;simp at hl;done)),.cons rfl (.nil),fun _ _=>⟨_,_,rfl,rfl,rfl⟩,rfl⟩
 refine⟨W.fnOf "law" "law" (bR gJ) (bL gJ) (aM gJ) .none kV9 dc9 pm9 an9 cd9 ct9,fun s v=>.of_eq rfl,fun base _ _=>FZ ?_⟩;exact GZ X G T D0 F1 F2 F3 F4 F5 F6 F7 F8 D9 D10
end My
open PySem PySem.W PyProof.Rows
set_option maxRecDepth 100000 in
set_option maxHeartbeats 0 in
theorem PySem.Challenge.cw_rowdam_k07_whole_read_in_two_holds : PySem.Challenge.rw_rowdam_k07_whole_read_in_two.Holds := by
 w_on;refine HQ.one My.he My.hA My.hB ?_
 k_fill
 refine E3.QV (l:=PySem.Challenge.rw_rowdam_k07_whole_read_in_two) (k:=My.j_) (g:=My.gC) (x:="_law_script") rfl rfl ⟨rfl,by decide,by decide⟩ (fun w h Y=>by first |exact PySem.W.kIn_of Y |exact PySem.W.km_in_of Y) ?F My.GX
 case F=>
  intro w mg fa h KX G hmg
  refine' My.all_mk KX G hmg ?q0 ?a0 ?l0 ?c0 ?k0 ?F1 ?F2 ?F3 ?F4 ?F5 ?F6 ?F7 ?F8 ?a9 ?l9 ?c9 ?k9 ?q10 ?a10 ?l10 ?c10 ?k10 ?j6 ?j7 ?j8 ?j9 ?jc ?jd ?je
  (case q0 |a0 |l0 |c0 |k0 |a9 |l9 |c9 |k9 |q10 |a10 |l10 |c10 |k10 |j6 |j7 |j8 |j9 |jc |jd |je=>k_is);all_goals (refine' E3.cu.mk ?a ?l ?c ?k;(case a=>k_is);(case l=>k_is);(case c=>k_is);(case k=>k_is))
