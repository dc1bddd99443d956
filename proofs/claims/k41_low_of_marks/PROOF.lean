import PyProof.Rows.All
import Wide.All
import OpenK.AllK
import Wide.FinOn
import Lean
import PyProof.EqAt
import PyProof.EqKinds
import PyProof.TupleCall
import KE.KIsAll
import KE.KMinKey
import KE.KTupSum
import KE.KxSplit
import KE.KxAffix
import KE.KIntText
import PyProof.NeKinds
import PyProof.Rows.EqBoolInt
import KE.KSortTup
import KE.KDictLaws
import PyProof.Conv_int_bool
import PySem.Challenge.RW_rowdam_k41_low_of_marks
noncomputable section
set_option Elab.async false
set_option linter.all false
set_option compiler.extract_closed false
set_option maxRecDepth 100000
def tG:=@List.size_toArray
def RJ:=@Nat.lt_of_lt_of_le
def RK:=@PySem.Heap.lt_size
def RL:=@PySem.Heap.get?_push_of_some
def RM:=@Option.map_eq_some_iff
def RN:=@Nat.le_refl
def RP:=@Bool.false_ne_true
def RV:=@List.getElem?_eq_getElem
def RW:=@if_pos
def RX:=@List.getElem?_eq_some_iff
def RZ:=@PySem.wpAny_pure
def R0:=@Option.some.inj
def R3:=@List.length_map
def R4:=@List.mem_cons_of_mem
def R5:=@if_neg
def R6:=@List.mem_append_right
def R7:=@List.getElem?_map
def R8:=@PySem.wpAny_bind
def R9:=@Nat.ne_of_lt
def R_:=@Bool.and_eq_true
def Sd:=@PySem.W.kia_one
def Sg:=@PySem.Heap.get?_push_size
def Sh:=@Nat.le_trans
def Sq:=@PySem.Heap.get?_update_other
def Ss:=@List.length_append
theorem Sw:type_of%@List.length_cons:=by intros;rfl
def Sx:=@Nat.le_of_lt_succ
def Sy:=@List.mem_cons
def SJ:=@Nat.lt_or_ge
def SM:=@List.mem_cons_self
def S5:=@Bool.eq_iff_iff
def S6:=@Nat.le_antisymm
def S7:=@beq_eq_false_iff_ne
theorem S8:type_of%@List.replicate_succ:=by intros;rfl
def S9:=@PySem.W.mg_none_of
def S_:=@List.getElem?_append_right
def Tc:=@List.getElem?_append_left
def Td:=@decide_eq_false
def Te:=@beq_self_eq_true
def Tf:=@PySem.Obj.data_mapFields
def Tg:=@decide_false
def Ti:=@List.append_nil
def Tj:=@Ne.symm
def Tn:=@List.length_set
def Tp:=@Nat.lt_irrefl
def Tq:=@Array.getElem?_eq_some_iff
theorem Tr:type_of%@List.flatten_cons:=by intros;rfl
def Tt:=@beq_iff_eq
theorem Tv:type_of%@List.lookup_cons:=by intros;rfl
theorem Tw:type_of%@List.filterMap_cons:=by intros;rfl
theorem Tz:type_of%@Array.length_toList:=by intros;rfl
def TF:=@PySem.mem_of_lookup
def TV:=@List.getElem?_replicate
def TX:=@PySem.wpAny_getItem_str_slice
def TY:=@List.map_cons
def T3:=@PySem.W.mg_of
def T4:=@PySem.wpAny_mono
def T5:=@decide_eq_true_eq
def T6:=@if_true
theorem T7:type_of%@List.length_singleton:=by intros;rfl
def T8:=@PySem.boot_len
def T_:=@Nat.lt_succ_self
def Ua:=@List.mem_of_getElem?
theorem Ub:type_of%@List.all_cons:=by intros;rfl
def Uc:=@PySem.sizeLine_eq
def Ud:=@Nat.zero_le
def Ue:=@decide_true
theorem Ug:type_of%@Option.map_some:=by intros;rfl
def Uh:=@List.mem_append
def Ui:=@PySem.wpAny_passesOwn
def Uj:=@List.drop_eq_getElem_cons
def Uk:=@PySem.wpAny_Call_Name_kw
def Ul:=@List.mem_singleton
theorem Um:type_of%@List.getElem?_cons_succ:=by intros;rfl
def Uo:=@PySem.wpAny_truthy_bool
def Uq:=@List.length_range
def Ur:=@List.getElem?_set
def Us:=@List.drop_length
def Ut:=@PySem.Heap.get?_update_self
def Uu:=@PySem.codeAny_mono
def Uv:=@List.nodup_cons
def Uw:=@PySem.SeqAt.EqAt.same
theorem Ux:type_of%@List.foldl_cons:=by intros;rfl
def Uy:=@PySem.post_val_or_str
def Uz:=@Nat.not_lt_zero
theorem UG:type_of%@List.length_nil:=by intros;rfl
def UJ:=@PySem.W.plainGet_of
def UL:=@List.mem_range
def UW:=@Bool.and_false
def U0:=@PySem.SeqAt.EqAt.int_str
def U3:=@PySem.SeqAt.EqAt.str_int
def U4:=@PyProof.Rows.callWith_type1
def U5:=@PySem.W.callWith_K
def U6:=@Bool.false_eq_true
def U7:=@PySem.Calls.Name_function_global
theorem U8:type_of%@List.any_cons:=by intros;rfl
def U9:=@List.getD_eq_getElem?_getD
def U_:=@PySem.W.kitx_list
def Va:=@PySem.W.kitx_dict
theorem Vb:type_of%@Int.toNat_natCast:=by intros;rfl
def Vc:=@List.mem_or_eq_of_mem_set
def Vd:=@PySem.Txt.slice_le
def Ve:=@List.all_eq_true
theorem Vf:type_of%@Option.getD_some:=by intros;rfl
def Vg:=@PySem.SeqAt.RcAt.lists_lengths
def Vh:=@List.map_append
def Vi:=@List.of_mem_zip
def Vj:=@List.cons.injEq
def Vk:=@List.getElem?_set_self
def Vl:=@Nat.le_succ
def Vm:=@PySem.W.cellsFrom_some
def Vn:=@PySem.Heap.size_push
def Vo:=@PySem.W.methodCall_KW
def Vp:=@List.length_replicate
def Vq:=@PySem.wpAny_setField
def Vr:=@List.mem_append_left
def Vs:=@List.getElem?_set_ne
def Vt:=@PySem.call_meets
def Vu:=@Nat.not_le
def Vv:=@Bool.and_eq_true_iff
def Vw:=@PySem.wpAny_holding
def Vx:=@Bool.and_self
def Vy:=@Bool.and_true
def Vz:=@Array.append_assoc
def VB:=@Nat.le_of_lt
def VD:=@Nat.ne_of_gt
def VF:=@List.mem_filterMap
def VG:=@Nat.le_of_eq
def VH:=@PySem.W.kitx_tuple
def VJ:=@Nat.min_self
def VL:=@Nat.sub_self
def VN:=@Int.emod_lt_of_pos
def VP:=@List.append_assoc
def VR:=@if_false
abbrev Fgx:=PySem.W.Frag
abbrev Mgx:=PySem.Str->Option PySem.Value
abbrev Pnx:=List (PySem.Addr×PySem.Obj)
local macro_rules | `(tactic| x_go)=> `(tactic| decide +kernel)
namespace HQ
open PySem PySem.W PySem.Calls PyProof.Rows
noncomputable def Bd {α:Type} (t:BT):(BT->α)->α:= @BT.rec (fun _=>(BT->α)->α) (fun k=>k .nil) (fun v _ _ a b k=>a fun l=>b fun r=>k (.node v l r)) t
theorem wR {α:Type}:∀(t:BT) (k:BT->α),Bd t k=k t
 |.nil,_=>rfl
 |.node _ l r,_=>(wR l _).trans (wR r _)
noncomputable def wU {α:Type} (n:Nat) (k:Nat->α):α:= @Nat.rec (fun _=>α) (k 0) (fun n _=>k (Nat.succ n)) n
theorem Bf {α:Type}(n:Nat)(k:Nat->α):wU n k=k n:=by cases n<;>rfl
def frs {α:Type}(s:SharedT)(k:SharedT->α):α:= @SharedT.rec (fun _=>α) (fun T n l g d i o=>Bd T fun T=>wU n fun n=>wU i fun i=>k ⟨T,n,l,g,d,i,o⟩) s
theorem Gq {α:Type}(s:SharedT)(k:SharedT->α):frs s k=k s:=(wR _ _).trans ((Bf _ _).trans (Bf _ _))
abbrev qd:Code->Sem Fin:=Fast.tw11892475500146522536 Fast.tw14364793385576792824
noncomputable def zp (p:Program) (w:World):SharedT->Thread->Option (SharedT×Thread)
  |⟨T,n,l,g,d,i,o⟩,⟨c,cd,q,fs⟩=>match c with
    |.load .. |.update .. |.alloc .. |.loadIfAlive .. =>Fast.tw10156331382660048174 qd p w ⟨T,n,l,g,d,i,o⟩ ⟨c,cd,q,fs⟩
    |c=>match Fast.tw8437177126325714943 qd p w ⟨{},g,d,i,o⟩ ⟨c,cd,q,fs⟩ with
      |.go ⟨_,g,d,i,o⟩ t=>some (⟨T,n,l,g,d,i,o⟩,t)
      |.halt _ _=>none
theorem Pu {p:Program}{w:World}(s:SharedT)(t:Thread):zp p w s t=stepT (denote treeTable) p w s t:=by
 obtain⟨T,n,l,g,d,i,o⟩:=s;obtain⟨c,cd,q,fs⟩:=t;rw[show denote treeTable=qd by unfold qd;rw[<-Fast.te11892475500146522536, <-Fast.te14364793385576792824]];cases c<;>(unfold zp;dsimp only;first |rw[<-Fast.te10156331382660048174] |(unfold stepT;dsimp only;rw[<-Fast.te8437177126325714943];cases step qd p w _ _<;>rfl))
abbrev OS:=Option SharedT
noncomputable def bd (p:Program) (w:World) (n:Nat) (ih:SharedT->Thread->OS) (s:SharedT) (t:Thread):OS:=
 @Bool.rec (fun _=>OS) (@Bool.rec (fun _=>OS) none (@Option.rec _ (fun _=>OS) none (fun r=> @Prod.rec _ _ (fun _=>OS) (fun s t=> @Bool.rec (fun _=>OS) (ih s t) (frs s fun s=>ih s t) (Nat.beq (n % 64) 0)) r) (zp p w s t)) (Fast.tw6613529449190102663 11 (some (.ref 6)) t)) (some s) (through t)
noncomputable def go (p:Program) (w:World) (n:Nat):SharedT->Thread->OS:= @Nat.rec (fun _=>SharedT->Thread->OS) (fun _ _=>none) (bd p w) n
theorem pF {p:Program}{w:World}:∀{n:Nat} {s s':SharedT} {t:Thread},go p w n s t=some s'->topRun treeTable p w 11 (some (.ref 6)) n s.abs t=some s'.abs
  |0,_,_,_,h=>by cases h
  |n + 1,s,s',t,h=>by
    rw[show go p w (n + 1) s t=bd p w n (go p w n) s t from rfl]at h;unfold bd at h;rw[Pu, <-Fast.te6613529449190102663]at h;unfold topRun
    cases ht:through t with
    |true=>rw[ht]at h;cases h;rfl
    |false=>
      rw[ht]at h
      cases hk:stepOk 11 (some (.ref 6)) t with
      |false=>rw[hk]at h;cases h
      |true=>
        rw[hk]at h
        cases hs:stepT (denote treeTable) p w s t with
        |none=>rw[hs]at h;cases h
        |some r=>
          obtain⟨s₂,t₂⟩:=r;rw[hs]at h;dsimp only at h ⊢;rw[stepT_spec hs];rw[Gq]at h;exact pF (by revert h;cases Nat.beq (n % 64) 0<;>exact id)
noncomputable def mkT:List Obj->Nat->BT->BT
 | [],_,t=>t
 |o::l,i,t=>mkT l (i + 1) (t.ins i o)
noncomputable def bS (w:World) (o:OsState):SharedT:=⟨mkT (boot_heap w.params).objs.toList 0 .nil,11,{},⟨[]⟩,boot_drawn,boot_toks,o⟩
theorem Et (w:World)(o:OsState):(bS w o).abs=⟨boot_heap w.params,⟨[]⟩,boot_drawn,boot_toks,o⟩:=by kernel_rfl
theorem Eu (P:Params):((boot_heap P).isNs mainGlobals && (Array.mk []:Array GenState).size==0,(boot_heap P).objs.size,(boot_heap P).nsMap mainGlobals "__annotations__")=(true,11,some (.ref 6)):=by kernel_rfl
noncomputable def lst {α:Type} (T:BT) (n:Nat):List Obj->(List Obj->α)->α:=
 @Nat.rec (fun _=>List Obj->(List Obj->α)->α) (fun a k=>k a) (fun i ih a k=> @Option.rec Obj (fun _=>α) (ih (default::a) k) (fun o=> @Obj.rec (fun _=>α) (fun c d t l=>ih (⟨c,d,t,l⟩::a) k) o) (T.get i)) n
theorem BR {α:Type}(T:BT):∀(n:Nat) (a:List Obj) (k:List Obj->α),lst T n a k=k (T.list n ++ a)
  |0,_,_=>rfl
  |n + 1,a,k=>by
    rw[show T.list (n + 1)=T.list n ++ [(T.get n).getD default] by unfold BT.list;rw[List.range_succ,Vh];rfl,VP];unfold lst;dsimp only;cases T.get n<;>exact BR T n _ k
noncomputable def zY {α:Type} (s:SharedT) (k:Shared->α):α:= @SharedT.rec (fun _=>α) (fun T n l g d i o=>lst T n [] fun a=>k ⟨⟨⟨a⟩,l⟩,g,d,i,o⟩) s
theorem zZ {α:Type}(s:SharedT)(k:Shared->α):zY s k=k s.abs:=(BR _ _ _ _).trans (by rw[Ti];rfl)
section
variable {p q:Program}{lo:List Str}{Xt:Shared->Bool}{α:Type}{Yf:Shared->α}{Ya:World->α}{N:Nat}{g0:Bool}{B C:Prop}
abbrev Pre (_:LeftO p q lo Xt Yf Ya N g0/\B->C):Prop:=(opening p=plainProg p.main.scope.names/\∀s,fenceModules? p s=some s)/\Nat.ble 600 N=true
abbrev See {β:Type}(p:Program)(N:Nat)(v:World->World)(f:World->Shared->β)(y:World->β):Prop:=∀w o,(go p (v w) N (bS (v w) o) (topStub p)).map (fun s=>zY s (f (v w)))=some (y (v w))
abbrev eZ (v:World->World)(_:LeftO p q lo Xt Yf Ya N g0/\B->C):Prop:=
 See p N v (fun w s=>(staticsOk (importedModules p.main.body) (boot_heap w.params) s.heap && namesBound p s.heap && gensDone s && laidKept (boot_heap w.params) s.heap,Yf s)) fun w=>(true,Ya w)
abbrev fj (v:World->World)(_:LeftO p q lo Xt Yf Ya N g0/\B->C):Prop:=See p N v (fun _ s=>Fast.tw4187177175401517315 q lo (importedModules p.main.body) Xt g0 s) fun _=>openGood q lo
theorem left {v:World->World}{H:LeftO p q lo Xt Yf Ya N g0/\B->C}(e:Pre H)(a:eZ v H)(b:fj v H)(w:World):
  (openEnds treeTable p (v w) N).map (fun s=>(openSeen q lo (importedModules p.main.body) Xt g0 s,Yf s))=some (openGood q lo,Ya (v w)):=by
 obtain⟨⟨h,gs,d,k,o⟩,e1,e2⟩:=RM.mp (boot_open e.1.1 e.2 e.1.2 (v w));obtain⟨rfl,rfl,rfl,rfl⟩:h=boot_heap (v w).params/\gs=⟨[]⟩/\d=boot_drawn/\k=boot_toks:=by simpa using e2
 obtain⟨s,hs,hv⟩:=RM.mp (a w o);have hb:=b w o;rw[hs,Ug,zZ, <-Fast.te4187177175401517315]at hb;rw[zZ]at hv;obtain⟨l1,l3⟩:=Prod.mk.inj hv;obtain⟨z1,z2,z3⟩:_/\_/\_:=by simpa only[Prod.mk.injEq] using Eu (v w).params
 have hr:=pF hs;rw[Et]at hr;have t:topFrom treeTable p (v w) N ⟨boot_heap (v w).params,⟨[]⟩,boot_drawn,boot_toks,o⟩=some s.abs:=by
  unfold topFrom;dsimp only;rw[z1,z2,z3,hr];dsimp only[Option.bind_some];rw[l1]
 unfold openEnds;rw[e1,Option.bind_some,t];exact congrArg some (Prod.ext (R0 hb) l3)
theorem two (row:String){H:LeftO p q lo Xt Yf Ya N g0/\B->C}(e:Pre H)(a:eZ (·.withFollow row false) H)(b:fj (·.withFollow row false) H)(c:eZ (·.withFollow row true) H)(d:fj (·.withFollow row true) H)(hB:B):C:=
 H ⟨fun w=>by
  have x:=left e a b w;have y:=left e c d w;have z:=World.withFollow_self w row;cases h:w.params.followText row<;>rw[h]at z<;>simp only[z]at x y<;>assumption,hB⟩
end
end HQ
section
local macro_rules
  | `(tactic| refine $f:term $as:term*)=>do
    let mut bs:= #[]
    let mut hit:=false
    for a in as do
      if a.raw.isOfKind ``Lean.Parser.Term.syntheticHole && a.raw[1].getId== `hl then
        hit:=true
        bs:=bs.push (<- `((And.left ?hx)))
      else if a.raw.isOfKind ``Lean.Parser.Term.syntheticHole && a.raw[1].getId== `hc then
        bs:=bs.push (<- `((And.right ?hx)))
      else bs:=bs.push a
    if hit then `(tactic| refine $f $bs*) else Lean.Macro.throwUnsupported
set_option maxHeartbeats 0 in
open_top My.hdAll for PySem.Challenge.rw_rowdam_k41_low_of_marks
theorem My.he:HQ.Pre My.hdAll:=⟨⟨by kernel_rfl,fun _=>by kernel_rfl⟩,by kernel_rfl⟩
theorem My.hBf:HQ.fj (·.withFollow "special-get-raises" false) My.hdAll:=fun _ _=>by kernel_rfl
theorem My.hBt:HQ.fj (·.withFollow "special-get-raises" true) My.hdAll:=fun _ _=>by kernel_rfl
theorem My.hAf:HQ.eZ (·.withFollow "special-get-raises" false) My.hdAll:=fun _ _=>by kernel_rfl
theorem My.hAt:HQ.eZ (·.withFollow "special-get-raises" true) My.hdAll:=fun _ _=>by kernel_rfl
end
namespace L2
open PySem PySem.Spec PyProof.Rows
abbrev Key:=Sum Int Str
noncomputable def Bx:Key->Value->Bool
 |.inl k,v=>Value.isInt k v
 |.inr x,v=>Value.isStrOf x v
def xu (w:World):Key->Int
 |.inl k=>hashInt k
 |.inr x=>hashStr w x
theorem gQ:∀{k:Key} {v:Value},Bx k v=true->(∃i t,k=Sum.inl i/\v=Value.int i t)\/(∃x t,k=Sum.inr x/\v=Value.str x t)
  |.inl i,v,h=>by
    obtain⟨t,e⟩:=Value.isInt_shape (k:=i) (v:=v) h;exact .inl ⟨i,t,rfl,e⟩
  |.inr x,v,h=>by
    obtain⟨t,e⟩:=Value.isStrOf_shape (x:=x) (v:=v) h;exact .inr ⟨x,t,rfl,e⟩
theorem G8 (a b:Int):decide ((Sum.inl a:Key)=Sum.inl b)=(a==b):=by
 by_cases e:a=b
 ·subst e;simp
 ·have h:¬ (Sum.inl a:Key)=Sum.inl b:=fun q=>e (Sum.inl.inj q);rw[Td h];exact(S7.mpr e).symm
theorem Hf (a b:Str):decide ((Sum.inr a:Key)=Sum.inr b)=decide (a=b):=by
 by_cases e:a=b
 ·subst e;simp
 ·have h:¬ (Sum.inr a:Key)=Sum.inr b:=fun q=>e (Sum.inr.inj q);rw[Td h,Td e]
theorem G9 (a:Int)(b:Str):decide ((Sum.inl a:Key)=Sum.inr b)=false:=Td (fun q=>nomatch q)
theorem G_ (a:Str)(b:Int):decide ((Sum.inr a:Key)=Sum.inl b)=false:=Td (fun q=>nomatch q)
noncomputable def xQ (prog:Program) (w:World):PySem.KeyKind prog w Key where
 is:=Bx
 hash:=xu w
 inj:=fun v a b ha hb=>by
  rcases gQ ha with⟨i,t,rfl,rfl⟩ |⟨x,t,rfl,rfl⟩
  ·rcases gQ hb with⟨j,u,rfl,e⟩ |⟨y,u,rfl,e⟩
   ·injection e with e1 _;rw[e1]
   ·exact nomatch e
  ·rcases gQ hb with⟨j,u,rfl,e⟩ |⟨y,u,rfl,e⟩
   ·exact nomatch e
   ·injection e with e1 _;rw[e1]
 byValue:=fun k v h=>by
  rcases gQ h with⟨i,t,rfl,rfl⟩ |⟨x,t,rfl,rfl⟩<;>rfl
 pyHash:=fun hv h=>by
  rcases gQ hv with⟨i,t,rfl,rfl⟩ |⟨x,t,rfl,rfl⟩
  ·exact wpAny_pyHash_int h
  ·exact wpAny_pyHash_str h
 eqBool:=fun hu hv h=>by
  rcases gQ hu with⟨i,t,rfl,rfl⟩ |⟨x,t,rfl,rfl⟩
  ·rcases gQ hv with⟨j,u,rfl,rfl⟩ |⟨y,u,rfl,rfl⟩
   ·rw[G8]at h;exact wpAny_eqBool_int h
   ·rw[G9]at h;exact U0 i t y u _ _ _ _ h
  ·rcases gQ hv with⟨j,u,rfl,rfl⟩ |⟨y,u,rfl,rfl⟩
   ·rw[G_]at h;exact U3 x t j u _ _ _ _ h
   ·rw[Hf]at h;exact wpAny_eqBool_str h
 «strs» :=fun k x t v h=>by
  rcases gQ h with⟨i,u,rfl,e⟩ |⟨y,u,rfl,e⟩
  ·exact nomatch e
  ·injection e with e1 _
   subst e1;cases v<;>rfl
inductive V where
 |non |bl (b:Bool) |int (i:Int) |str (x:Str) |byt (b:Array UInt8) |flt (b:UInt64) |ref (a:Addr) |ty (n:String)
 deriving DecidableEq
noncomputable def RelV:V->Value->Prop
 |.non,u=>u=Value.none
 |.bl b,u=>u=Value.bool b
 |.int i,u=>∃t,u=Value.int i t
 |.str x,u=>∃t,u=Value.str x t
 |.byt b,u=>∃t,u=Value.bytes b t
 |.flt b,u=>∃t,u=Value.float b t
 |.ref a,u=>u=Value.ref a
 |.ty n,u=>u=Value.type n
abbrev Vals:List V->List Value->Prop:=Paired RelV
theorem Vals.length (r:Vals xs us):xs.length=us.length:=Paired.length r
theorem Vals.get:∀{xs:List V} {us:List Value} {i:Nat} {x:V},Vals xs us->xs[i]? =some x->∃u,us[i]? =some u/\RelV x u
  |_,_,_,_,.nil,e=>by simp at e
  |_,_,0,_,.cons r _,e=>by simp at e;subst e;exact⟨_,rfl,r⟩
  |_,_,i + 1,x,.cons _ t,e=>by
    obtain⟨u,h1,h2⟩:=Vals.get (i:=i) (x:=x) t (by simpa using e);exact⟨u,by simpa using h1,h2⟩
theorem Vals.set (r:RelV x u):∀{xs:List V} {us:List Value} (i:Nat),Vals xs us->Vals (xs.set i x) (us.set i u)
 |_,_,_,.nil=>.nil
 |_,_,0,.cons _ t=>.cons r t
 |_,_,i + 1,.cons q t=>.cons q (Vals.set r i t)
theorem Vals.append:∀{xs ys:List V} {us ws:List Value},Vals xs us->Vals ys ws->Vals (xs ++ ys) (us ++ ws)
 |_,_,_,_,.nil,s=>s
 |_,_,_,_,.cons r t,s=>.cons r (Vals.append t s)
theorem Vals.take:∀{xs:List V} {us:List Value} (n:Nat),Vals xs us->Vals (xs.take n) (us.take n)
 |_,_,0,_=>.nil
 |_,_,_ + 1,.nil=>.nil
 |_,_,n + 1,.cons r t=>.cons r (Vals.take n t)
theorem Vals.drop:∀{xs:List V} {us:List Value} (n:Nat),Vals xs us->Vals (xs.drop n) (us.drop n)
 |_,_,0,r=>r
 |_,_,_ + 1,.nil=>.nil
 |_,_,n + 1,.cons _ t=>Vals.drop n t
noncomputable def cC:Option V->Option Value->Prop
 |some v,some u=>RelV v u
 |none,none=>True
 |_,_=>False
def KV {κ:Type}:List (κ×V)->List (κ×Value)->Prop:=Paired fun(p:κ×V) (q:κ×Value)=>p.1=q.1/\RelV p.2 q.2
def kV:Key->V
 |.inl i=>.int i
 |.inr x=>.str x
inductive HO where
  |lst (xs:List V)
  |tup (xs:List V)
  |dK (kvs:List (Key×V)) |dT (kvs:List (List Key×V))
  |set (S:Int->Bool) (n:Nat)
  |ins (C dx:Addr) (fs:List (Str×V))
  |own (x:Addr)
  |xd (fs:List (Str×V))
  |met (f x:Addr)
  |rng (lo hi:Int)
  |frz (o:Obj) (u:HO)
  |tbl (ps:Array Value)
  |ext (φ:Heap->Prop)
abbrev Hp:=Addr->Option HO
noncomputable def upd (H:Hp) (a:Addr) (o:HO):Hp:=fun b=>if b=a then some o else H b
theorem cH:upd H a o a=some o:=by unfold upd;rw[RW rfl]
theorem aZ (h:b≠a):upd H a o b=H b:=by unfold upd;rw[R5 h]
theorem Qp:upd (upd H a o) a u=upd H a u:=by
 funext b;unfold upd;split<;>rfl
theorem j_ {H:Hp}{a b:Addr}{o:HO}(h:H a=some o)(h':H b=none):a≠b:=by
 intro e;subst e;rw[h]at h';cases h'
section
variable (P:Program)(w:World)
noncomputable def cB (H:Hp) (h:Heap) (a:Addr):HO->Prop
 |.lst xs=>xs.length<=sizeLine/\∃(its:List Value) (n:Nat),Vals xs its/\h.get? a=some {cls:=.type "list",data:=.seq its.toArray n}
 |.tup xs=>xs.length<=sizeLine/\∃its:List Value,Vals xs its/\IsTup h a its.toArray
 |.dK kvs=>kvs.length<=sizeLine/\(a==sysModules)=false/\∃vs,KV kvs vs/\h.DictOf (xQ P w) a vs
 |.dT kvs=>kvs.length<=sizeLine/\(a==sysModules)=false/\∃xs:List (List Key×Addr×Value),
   Paired (fun(p:List Key×V) (q:List Key×Addr×Value)=>p.1=q.1/\H q.2.1=some (.tup (p.1.map kV))/\RelV p.2 q.2.2) kvs xs/\
   ∃o es ep,h.get? a=some o/\o.ExactDict/\o.data=.dict es ep/\es.toList=xs.map (entryOfKey (tupleKind (xQ P w)))/\(xs.map (·.1)).Nodup
 |.set S n=>h.SetOf (intKind P w) a S n
 |.ins C dx fs=>H dx=some (.own a)/\fs.length<=1000/\dx≠a/\h.get? a=some (PySem.W.instObj C dx)/\
   ∃mA,h.Ns1 dx mA/\(∀f,cC (fs.lookup f) (mA f))/\PySem.Within mA (fs.map (·.1))
 |.own _=>∃o,h.get? a=some o
 |.xd fs=>∃mA,h.Ns1 a mA/\∀f,cC (fs.lookup f) (mA f)
 |.rng lo hi=>∃t u v,h.get? a=some {cls:=.type "range",data:=.fields #[.int lo t,.int hi u,.int 1 v]}
 |.frz o u=>h.get? a=some o/\cB H h a u
 |.tbl ps=>h.get? a=some {cls:=.none,data:=.fields ps}
 |.met f x=>h.get? a=some (PySem.W.methodObj (.ref f) (.ref x))
 |.ext φ=>φ h/\(∃o,h.get? a=some o)/\∀h1 h2:Heap,φ h1->(∀o,h1.get? a=some o->h2.get? a=some o)->φ h2
def bG (H:Hp)(h:Heap):Prop:=∀a o,H a=some o->cB P w H h a o
end
section
variable {P:Program}{w:World}{H H':Hp}{h h':Heap}{a:Addr}{o:HO}
theorem cB.lt (x:cB P w H h a o):a<h.objs.size:=by
 cases o with
 |lst xs=>obtain⟨_,_,_,_,e⟩:=x;exact RK e
 |tup xs=>obtain⟨_,_,_,p⟩:=x;exact p.lt
 |dK kvs=>obtain⟨_,_,_,_,o,_,_,e,_⟩:=x;exact RK e
 |dT kvs=>obtain⟨_,_,_,_,o,_,_,e,_⟩:=x;exact RK e
 |set S n=>obtain⟨o,_,_,_,e,_⟩:=x;exact RK e
 |ins C dx fs=>obtain⟨_,_,_,e,_⟩:=x;exact RK e
 |own y=>obtain⟨_,e⟩:=x;exact RK e
 |xd fs=>obtain⟨_,⟨_,_,_,e,_⟩,_⟩:=x;exact RK e
 |rng lo hi=>obtain⟨_,_,_,e⟩:=x;exact RK e
 |frz ob u=>obtain⟨e,_⟩:=x;exact RK e
 |tbl ps=>exact RK (show h.get? a=some _ from x)
 |met f y=>exact RK (show h.get? a=some _ from x)
 |ext φ=>obtain⟨_,⟨_,e⟩,_⟩:=x;exact RK e
theorem Paired.mapP:∀{l₁:List α} {l₂:List β},Paired F l₁ l₂->(∀a b,F a b->G a b)->Paired G l₁ l₂
 |_,_,.nil,_=>.nil
 |_,_,.cons r t,f=>.cons (f _ _ r) (Paired.mapP t f)
theorem cB.stay (x:cB P w H h a o)(k:∀b u,(b=a\/H b=some (.own a))->h.get? b=some u->h'.get? b=some u)
    (ho:∀b,H b=some (.own a)->H' b=some (.own a)) (ht:∀b xs,H b=some (.tup xs)->H' b=some (.tup xs)):cB P w H' h' a o:=by
  induction o with
  |lst xs=>obtain⟨z,its,n,r,e⟩:=x;exact⟨z,its,n,r,k _ _ (.inl rfl) e⟩
  |tup xs=>obtain⟨z,its,r,ob,e,c⟩:=x;exact⟨z,its,r,ob,k _ _ (.inl rfl) e,c⟩
  |dK kvs=>obtain⟨z,y,vs,r,ob,es,ep,e,c⟩:=x;exact⟨z,y,vs,r,ob,es,ep,k _ _ (.inl rfl) e,c⟩
  |dT kvs=>
    obtain⟨z,y,xs,r,ob,es,ep,e,c⟩:=x;exact⟨z,y,xs,Paired.mapP r fun p q z=>⟨z.1,ht _ _ z.2.1,z.2.2⟩,ob,es,ep,k _ _ (.inl rfl) e,c⟩
  |set S n=>obtain⟨ob,es,ep,t,e,c⟩:=x;exact⟨ob,es,ep,t,k _ _ (.inl rfl) e,c⟩
  |ins C dx fs=>
    obtain⟨d,z,ne,e,mA,⟨od,es,ep,e2,c⟩,r⟩:=x;exact⟨ho _ d,z,ne,k _ _ (.inl rfl) e,mA,⟨od,es,ep,k _ _ (.inr d) e2,c⟩,r⟩
  |own y=>obtain⟨ob,e⟩:=x;exact⟨ob,k _ _ (.inl rfl) e⟩
  |xd fs=>obtain⟨mA,⟨od,es,ep,e,c⟩,r⟩:=x;exact⟨mA,⟨od,es,ep,k _ _ (.inl rfl) e,c⟩,r⟩
  |rng lo hi=>obtain⟨t,u,v,e⟩:=x;exact⟨t,u,v,k _ _ (.inl rfl) e⟩
  |frz ob u ih=>obtain⟨e,q⟩:=x;exact⟨k _ _ (.inl rfl) e,ih q⟩
  |tbl ps=>
    have e:h.get? a=some {cls:=.none,data:=.fields ps}:=x;show h'.get? a=some {cls:=.none,data:=.fields ps};exact k a _ (.inl rfl) e
  |met f y=>
    have e:h.get? a=some (PySem.W.methodObj (.ref f) (.ref y)):=x;show h'.get? a=some (PySem.W.methodObj (.ref f) (.ref y));exact k a _ (.inl rfl) e
  |ext φ=>obtain⟨p,⟨o,e⟩,st⟩:=x;exact⟨st _ _ p fun o q=>k _ _ (.inl rfl) q,⟨o,k _ _ (.inl rfl) e⟩,st⟩
theorem bG.lt (x:bG P w H h)(e:H a=some o):a<h.objs.size:=(x a o e).lt
theorem bG.fresh (x:bG P w H h)(e:h.objs.size<=a):H a=none:=by
 cases q:H a with
 |none=>rfl
 |some u=>exact absurd (RJ (x.lt q) e) (Tp _)
theorem bG.kept (x:bG P w H h)(k:∀b u,h.get? b=some u->h'.get? b=some u):bG P w H h':=fun a o e=>
 (x a o e).stay (fun b u _ q=>k b u q) (fun _ q=>q) fun _ _ q=>q
theorem bG.laid (x:bG P w H h)(k:∀b u,h.get? b=some u->h'.get? b=some u)(hp:h.objs.size<=a)(new:cB P w (upd H a o) h' a o):bG P w (upd H a o) h':=fun b u e=>by
 have hn:=x.fresh hp
 by_cases hb:b=a
 ·subst hb;rw[cH]at e;cases e;exact new
 ·rw[aZ hb]at e;exact(x b u e).stay (fun c v _ q=>k c v q) (fun c q=>by rw[aZ (j_ q hn)];exact q) fun c xs q=>by rw[aZ (j_ q hn)];exact q
end
def Rd (H:Hp)(a:Addr)(u:HO):Prop:=H a=some u\/∃o,H a=some (.frz o u)
theorem Rd.ok (r:Rd H a u)(x:bG P w H h):cB P w H h a u:=by
 rcases r with r |⟨o,r⟩
 ·exact x a u r
 ·obtain⟨_,q⟩:=x a _ r;exact q
noncomputable def rN:Option HO->Prop
 |some (.lst _)=>True
 |some (.dK _)=>True
 |some (.dT _)=>True
 |some (.set _ _)=>True
 |some (.ins _ _ _)=>True
 |some (.ext _)=>True
 |_=>False
section
variable {P:Program}{w:World}{H:Hp}{h h':Heap}{x e:Addr}{o':HO}
theorem bG.write (ok:bG P w H h)(mu:rN (H x))(he:e=x\/H e=some (.own x))(k:∀b u,b≠e->h.get? b=some u->h'.get? b=some u)(heo:∃u,h'.get? e=some u)
  (new:cB P w (upd H x o') h' x o'):bG P w (upd H x o') h':=fun b u q=>by
 have nown:∀c y,H c=some (.own y)->c≠x:=fun c y r z=>by subst z;rw[r]at mu;exact mu
 have ntup:∀c xs,H c=some (.tup xs)->c≠x:=fun c xs r z=>by subst z;rw[r]at mu;exact mu
 by_cases hb:b=x
 ·subst hb;rw[cH]at q;cases q;exact new
 ·rw[aZ hb]at q
  by_cases hbe:b=e
  ·have q':H b=some (.own x):=by
    rcases he with z |z
    ·exact absurd (hbe.trans z) hb
    ·rw[hbe];exact z
   rw[q]at q';cases q';obtain⟨v,hv⟩:=heo;exact⟨v,by rw[hbe];exact hv⟩
  ·refine(ok b u q).stay (fun c v hc r=>k c v ?_ r) (fun c r=>by rw[aZ (nown c b r)];exact r) fun c xs r=>by rw[aZ (ntup c xs r)];exact r
   rcases hc with rfl |hc
   ·exact hbe
   ·rintro rfl;rcases he with z |z
    ·exact nown c b hc z
    ·rw[hc]at z;cases z;exact hb rfl
end
structure Un (fs ex:List Addr)(H H':Hp)(h h':Heap):Prop where
 keep:∀b o,h.get? b=some o->H b=none->b∉fs->b∉ex->h'.get? b=some o
 slot:∀b o,h.get? b=some o->H b=none->b∈fs->b∉ex->∃sl,h'.get? b=some {o with slots:=sl}
 free:∀b o,h.get? b=some o->H b=none->b∉ex->H' b=none
 there:∀b o,h.get? b=some o->b∉ex->∃o',h'.get? b=some o'
 tups:∀b xs,H b=some (.tup xs)->H' b=some (.tup xs)
 frzs:∀b o u,H b=some (.frz o u)->H' b=some (.frz o u)
 tbls:∀b ps,H b=some (.tbl ps)->∃more,H' b=some (.tbl (ps ++ more))
section
variable {fs fs' ex ex':List Addr}{H H1 H2:Hp}{h h1 h2 h':Heap}{a x e:Addr}{o:HO}
theorem Un.any (u:Un fs ex H H1 h h1)(q:h.get? b=some ob)(n:H b=none)(hx:b∉ex):∃sl,h1.get? b=some {ob with slots:=sl}:=by
 by_cases hb:b∈fs
 ·exact u.slot b ob q n hb hx
 ·exact⟨ob.slots,u.keep b ob q n hb hx⟩
theorem Un.trans (a:Un fs ex H H1 h h1)(b:Un fs ex H1 H2 h1 h2):Un fs ex H H2 h h2 where
 keep:=fun c ob q n hc hx=>b.keep c ob (a.keep c ob q n hc hx) (a.free c ob q n hx) hc hx
 slot:=fun c ob q n hc hx=>by
  obtain⟨sl,e1⟩:=a.slot c ob q n hc hx;obtain⟨sl',e2⟩:=b.slot c _ e1 (a.free c ob q n hx) hc hx;exact⟨sl',e2⟩
 free:=fun c ob q n hx=>by
  obtain⟨o',e1⟩:=a.there c ob q hx;exact b.free c o' e1 (a.free c ob q n hx) hx
 there:=fun c ob q hx=>by
  obtain⟨o',e1⟩:=a.there c ob q hx;exact b.there c o' e1 hx
 tups:=fun c xs q=>b.tups c xs (a.tups c xs q)
 frzs:=fun c ob xs q=>b.frzs c ob xs (a.frzs c ob xs q)
 tbls:=fun c ps q=>by
  obtain⟨m1,e1⟩:=a.tbls c ps q;obtain⟨m2,e2⟩:=b.tbls c _ e1;exact⟨m1 ++ m2,by rw[e2,Vz]⟩
theorem Un.kept (k:∀b u,h.get? b=some u->h'.get? b=some u):Un fs ex H H h h':=
 ⟨fun b ob q _ _ _=>k b ob q,fun b ob q _ _ _=>⟨ob.slots,k b ob q⟩,fun _ _ _ n _=>n,fun b ob q _=>⟨ob,k b ob q⟩,fun _ _ q=>q,fun _ _ _ q=>q,fun _ ps q=>⟨#[],by rw[q];simp⟩⟩
theorem Un.refl:Un fs ex H H h h:=Un.kept fun _ _ q=>q
theorem Un.laid (k:∀b u,h.get? b=some u->h'.get? b=some u)(hp:h.objs.size<=a)(hn:H a=none):Un fs ex H (upd H a o) h h' where
 keep:=fun b u q _ _ _=>k b u q
 slot:=fun b u q _ _ _=>⟨u.slots,k b u q⟩
 free:=fun b u q n _=>by rw[aZ (R9 (RJ (RK q) hp))];exact n
 there:=fun b u q _=>⟨u,k b u q⟩
 tups:=fun b xs q=>by rw[aZ (j_ q hn)];exact q
 frzs:=fun b u xs q=>by rw[aZ (j_ q hn)];exact q
 tbls:=fun b ps q=>⟨#[],by rw[aZ (j_ q hn),q];simp⟩
theorem Un.write (mu:rN (H x))(he:e=x\/H e=some (.own x))(k:∀b u,b≠e->h.get? b=some u->h'.get? b=some u)(heo:∃u,h'.get? e=some u):Un fs ex H (upd H x o) h h':=by
 have hx:∀b,H b=none->b≠x:=fun b n z=>by subst z;rw[n]at mu;exact mu
 have hb:∀b,H b=none->b≠e:=fun b n z=>by
  subst z;rcases he with r |r
  ·exact hx b n r
  ·rw[n]at r;cases r
 have hm:∀b u,H b=some u->¬ rN (some u)->b≠x:=fun b u q nm z=>by subst z;rw[q]at mu;exact nm mu
 refine ⟨fun b u q n _ _=>k b u (hb b n) q,fun b u q n _ _=>⟨u.slots,k b u (hb b n) q⟩,fun b u q n _=>by rw[aZ (hx b n)];exact n,fun b u q _=>?_,
  fun b xs q=>by rw[aZ (hm b _ q fun z=>z)];exact q,fun b u xs q=>by rw[aZ (hm b _ q fun z=>z)];exact q,fun b ps q=>⟨#[],by rw[aZ (hm b _ q fun z=>z),q];simp⟩⟩
 by_cases hbe:b=e
 ·subst hbe;exact heo
 ·exact⟨u,k b u hbe q⟩
theorem Un.mono (u:Un fs ex H H1 h h1)(hs:∀b∈fs,b∈fs')(hx:∀b∈ex,b∈ex'):Un fs' ex' H H1 h h1:=
 ⟨fun b ob q n hb he=>u.keep b ob q n (fun z=>hb (hs b z)) fun z=>he (hx b z),fun _ _ q n _ he=>u.any q n fun z=>he (hx _ z),fun b ob q n he=>u.free b ob q n fun z=>he (hx b z),fun b ob q he=>u.there b ob q fun z=>he (hx b z),u.tups,u.frzs,u.tbls⟩
end
noncomputable def vJ (h:Heap) (H:Hp):List Addr:=(List.range h.objs.size).filter fun a=>(H a).isSome
def cP (h:Heap)(H:Hp):Heap:=PySem.W.hideAll h (vJ h H)
theorem GC (h:Heap)(H:Hp):(cP h H).objs.size=h.objs.size:=PySem.W.hideAll_size _ _
theorem Gz (e:h.get? b=some o)(n:H b=none):(cP h H).get? b=some o:=
 PySem.W.hideAll_get _ e fun hm=>by
  have q:(H b).isSome=true:=(List.mem_filter.mp hm).2;rw[n]at q;simp at q
theorem Jo (e:(cP h H).get? b=some o):h.get? b=some o/\H b=none:=by
  have e':h.get? b=some o:=PySem.W.of_hideAll (vJ h H) e;refine⟨e',?_⟩
  cases q:H b with
  |none=>rfl
  |some x=>
    have hm:b∈vJ h H:=List.mem_filter.mpr ⟨UL.mpr (RK e'),by simp[q]⟩;have z:(cP h H).get? b=none:=PySem.W.hideAll_none (vJ h H) hm;rw[z]at e;cases e
structure Mod (K:Fgx)(mg:Mgx)(base:Heap):Prop where
 kin:K.In base
 glob:base.Ns mainGlobals mg
 blt:∃mb,base.Ns builtinsNs mb/\∀x:Str,x≠"__name__"->mb x=bootBuiltins x
 nolimit:base.NoLimit
structure Cx where
 prog:Program
 w:World
 K:Fgx
 mg:Mgx
 base:Heap
 A:Around
 N:List Str
 s₀:Shared
 H₀:Hp
 env:Env
 outer:List Env
 stack:List Env
 ex:List Addr
 fn:Str->Bool
 calm:Bool
 pn:Pnx
 xe:Value->Shared->Prop
def frs (l:List Env):List Addr:=l.filterMap (·.frame)
abbrev Cx.fs (X:Cx):List Addr:=frs X.outer
def rP (sc:Scope)(x:Str):Prop:=sc.names.lookup x=some .local\/sc.names.lookup x=some .cell\/sc.names.lookup x=some .free
def Loc (sc:Scope)(x:Str):Prop:=sc.names.lookup x=some .local\/sc.names.lookup x=some .cell
def Look (env:Env)(h:Heap)(m:Mgx)(x:Str)(u:Value):Prop:=
 (env.kindOf x=some .local/\m x=some u)\/((env.kindOf x=some .cell\/env.kindOf x=some .free)/\∃c,env.cells.lookup x=some c/\h.IsCell c (some u))
structure Cx.Ok (X:Cx):Prop where
 mod:Mod X.K X.mg X.base
 kind:X.env.scope.kind=.function
 glob:X.env.globals=mainGlobals
 blt:X.env.builtins=builtinsNs
 above:X.s₀.heap.objs.size<=X.env.locals
 inj:∀x y c,X.env.cells.lookup x=some c->X.env.cells.lookup y=some c->x=y
 has:∀x,(X.env.kindOf x=some .cell\/X.env.kindOf x=some .free)->∃c,X.env.cells.lookup x=some c
 cab:∀x c,X.fn x=true->X.env.cells.lookup x=some c->X.s₀.heap.objs.size<=c
 hd:X.calm=true->X.A.handled=none
 frames:X.A.frames=some X.stack
 stk:X.stack=X.outer\/(X.stack=X.env::X.outer/\X.env.frame=some X.env.locals)
 exf:∀b∈X.ex,b≠X.env.locals/\∀x c,X.env.cells.lookup x=some c->c≠b
 bs:∀b o,X.base.get? b=some o->X.s₀.heap.get? b=some o/\X.H₀ b=none
 bsz:X.base.objs.size<=X.s₀.heap.objs.size
 noex:∀b o,X.base.get? b=some o->b∉X.ex
 exfs:∀b∈X.ex,b∉X.fs
 funs:X.s₀.heap.FunFrames X.base X.outer
 frf:∀b∈X.fs,X.H₀ b=none
structure Inv (X:Cx)(pins:Pnx)(σ:List (Option V))(H:Hp)(s:Shared):Prop where
 ok:X.Ok
 os:s.os=X.s₀.os
 bare:AllBare s.gens
 base:Un X.fs X.ex X.H₀ H X.s₀.heap s.heap
 loc:∃m,s.heap.Ns X.env.locals m/\∀(i:Nat) (x:Str) (v:V),X.N[i]? =some x->σ[i]? =some (some v)->rP X.env.scope x->∃u,RelV v u/\Look X.env s.heap m x u
 cell:∀x c,X.env.cells.lookup x=some c->∃v,s.heap.IsCell c v
 free:H X.env.locals=none
 freeC:∀x c,X.env.cells.lookup x=some c->H c=none
 pin:∀p∈X.pn ++ pins,s.heap.get? p.1=some p.2/\H p.1=none/\p.1≠X.env.locals/\p.1∉X.fs/\∀v,p.2.data≠ .cell v
 hok:bG X.prog X.w H s.heap
 len:σ.length=X.N.length
section
variable {X:Cx}{pins:Pnx}{σ:List (Option V)}{H H':Hp}{s:Shared}{h':Heap}
theorem Cx.Ok.nofr (ok:X.Ok)(e:X.base.get? b=some o):b∉X.fs:=fun hb=>by
 have:=(ok.funs.mem hb).1;rw[e]at this;cases this
theorem Inv.bs (I:Inv X pins σ H s):∀b o,X.base.get? b=some o->s.heap.get? b=some o/\H b=none:=fun b o e=>
 ⟨I.base.keep b o (I.ok.bs b o e).1 (I.ok.bs b o e).2 (I.ok.nofr e) (I.ok.noex b o e),I.base.free b o (I.ok.bs b o e).1 (I.ok.bs b o e).2 (I.ok.noex b o e)⟩
theorem Inv.bk (I:Inv X pins σ H s):∀b o,X.base.get? b=some o->s.heap.get? b=some o:=fun b o e=>(I.bs b o e).1
theorem Inv.mod (I:Inv X pins σ H s):Mod X.K X.mg X.base:=I.ok.mod
theorem Inv.kIn (I:Inv X pins σ H s):X.K.In s.heap:=I.ok.mod.kin.keeps I.bk
theorem Inv.lt (I:Inv X pins σ H s):X.env.locals<s.heap.objs.size:=let ⟨_,hn,_⟩:=I.loc;hn.lt
theorem Inv.sz (I:Inv X pins σ H s):X.s₀.heap.objs.size<=s.heap.objs.size:=Sh I.ok.above (VB I.lt)
theorem Inv.nofs (I:Inv X pins σ H s)(h:s.heap.objs.size<=a):a∉X.fs:=fun hb=>by
 obtain⟨_,o,ho,_⟩:=I.ok.funs.mem hb;exact absurd (RJ (RK ho) (Sh I.sz h)) (Tp _)
theorem Inv.cne (I:Inv X pins σ H s):∀x c,X.env.cells.lookup x=some c->c≠X.env.locals:=fun x c e z=>by
 obtain⟨v,o,ho,hd⟩:=I.cell x c e;obtain⟨m,⟨o',es,ep,ho',hd',_⟩,_⟩:=I.loc;rw[z,ho']at ho;cases ho;rw[hd']at hd;cases hd
theorem Inv.funs (I:Inv X pins σ H s):s.heap.FunFrames X.base X.outer:=by
  have all:∀(l:List Env),(∀b∈frs l,b∈X.fs)->X.s₀.heap.FunFrames X.base l->s.heap.FunFrames X.base l:=by
    intro l
    induction l with
    |nil=>intro _ _;trivial
    |cons env r ih=>
      intro hs hl;obtain⟨hk,⟨L,o,hf,hn,ho,hd⟩,hr⟩:=hl;have hL:L∈X.fs:=hs L (by unfold frs;rw[Tw,hf];exact SM);obtain⟨sl,e⟩:=I.base.slot L o ho (I.ok.frf L hL) hL fun z=>I.ok.exfs L z hL;exact⟨hk,⟨L,_,hf,hn,e,hd⟩,ih (fun b hb=>hs b (by unfold frs;rw[Tw,hf];exact R4 _ hb)) hr⟩
  exact all X.outer (fun _ hb=>hb) I.ok.funs
theorem Inv.stack (I:Inv X pins σ H s):s.heap.FunFrames X.base X.stack:=by
 rcases I.ok.stk with e |⟨e,hf⟩
 ·rw[e];exact I.funs
 ·rw[e];obtain⟨m,hn,_⟩:=I.loc;refine .cons (by rw[I.ok.kind];decide) hf hn ?_ I.funs;exact Heap.get?_none_of_le (Sh I.ok.bsz I.ok.above)
theorem Inv.stkSub (I:Inv X pins σ H s):∀b∈frs X.stack,b∈X.env.locals::X.fs:=fun b hb=>by
 rcases I.ok.stk with e |⟨e,hf⟩
 ·rw[e]at hb;exact R4 _ hb
 ·rw[e]at hb;unfold frs at hb;rw[Tw,hf]at hb;exact hb
theorem Inv.stkFree (I:Inv X pins σ H s):∀b∈frs X.stack,H b=none:=fun b hb=>by
 rcases Sy.mp (I.stkSub b hb) with e |hb
 ·rw[e];exact I.free
 ·obtain⟨_,o,ho,_⟩:=I.ok.funs.mem hb;exact I.base.free b o ho (I.ok.frf b hb) fun z=>I.ok.exfs b z hb
theorem Inv.step {g':Array GenState}{t':Nat}{d':Drawn}{ch:List Addr}(I:Inv X pins σ H s)
  (hch:∀b∈ch,(b∈X.ex\/X.s₀.heap.objs.size<=b)/\b≠X.env.locals/\(∀x c,X.env.cells.lookup x=some c->c≠b)/\∀p∈X.pn ++ pins,p.1≠b)
  (keep:∀b o,b≠X.env.locals->b∉X.fs->b∉ch->s.heap.get? b=some o->H b=none->h'.get? b=some o)
  (slot:∀b o,b≠X.env.locals->b∈X.fs->b∉ch->s.heap.get? b=some o->H b=none->∃sl,h'.get? b=some {o with slots:=sl}) (free:∀b o,b∉ch->s.heap.get? b=some o->H b=none->H' b=none)
  (there:∀b o,b∉ch->s.heap.get? b=some o->∃o',h'.get? b=some o')
  (tups:∀b xs,H b=some (.tup xs)->H' b=some (.tup xs)) (frzs:∀b o u,H b=some (.frz o u)->H' b=some (.frz o u)) (tbls:∀b ps,H b=some (.tbl ps)->∃more,H' b=some (.tbl (ps ++ more)))
  (ns:∀m,s.heap.Ns X.env.locals m->h'.Ns X.env.locals m) (hok:bG X.prog X.w H' h') (hg:AllBare g'):
  Inv X pins σ H' {s with heap:=h',gens:=g',drawn:=d',toks:=t'}:=by
 have neL:∀b o,X.s₀.heap.get? b=some o->b≠X.env.locals:=fun b o e=>R9 (RJ (RK e) I.ok.above);have neC:∀b o,X.s₀.heap.get? b=some o->b∉X.ex->b∉ch:=fun b o e hx hb=>by
  rcases(hch b hb).1 with z |z
  ·exact hx z
  ·exact absurd (RJ (RK e) z) (Tp _)
 have cellK:∀x c,X.env.cells.lookup x=some c->∀v,s.heap.IsCell c v->h'.IsCell c v:=fun x c e v ⟨o,ho,hd⟩=>by
  have nch:c∉ch:=fun z=>(hch c z).2.2.1 x c e rfl
  by_cases hc:c∈X.fs
  ·obtain⟨sl,q⟩:=slot c o (I.cne x c e) hc nch ho (I.freeC x c e);exact⟨_,q,hd⟩
  ·exact⟨o,keep c o (I.cne x c e) hc nch ho (I.freeC x c e),hd⟩
 refine⟨I.ok,I.os,hg,⟨fun b o e n hb hx=>?_,fun b o e n hb hx=>?_,fun b o e n hx=>?_,fun b o e hx=>?_,fun b xs e=>tups b xs (I.base.tups b xs e),fun b o xs e=>frzs b o xs (I.base.frzs b o xs e),fun b ps e=>?_⟩,?_,fun x c e=>?_,?_,fun x c e=>?_,fun p hp=>?_,hok,I.len⟩
 ·exact keep b o (neL b o e) hb (neC b o e hx) (I.base.keep b o e n hb hx) (I.base.free b o e n hx)
 ·obtain⟨sl,e1⟩:=I.base.slot b o e n hb hx;obtain⟨sl',e2⟩:=slot b _ (neL b o e) hb (neC b o e hx) e1 (I.base.free b o e n hx);exact⟨sl',e2⟩
 ·obtain⟨o',e1⟩:=I.base.there b o e hx;exact free b o' (neC b o e hx) e1 (I.base.free b o e n hx)
 ·obtain⟨o',e1⟩:=I.base.there b o e hx;exact there b o' (neC b o e hx) e1
 ·obtain⟨m1,e1⟩:=I.base.tbls b ps e;obtain⟨m2,e2⟩:=tbls b _ e1;exact⟨m1 ++ m2,by rw[e2,Vz]⟩
 ·obtain⟨m,hn,hl⟩:=I.loc;refine⟨m,ns m hn,fun i x v e1 e2 e3=>?_⟩;obtain⟨u,r,l⟩:=hl i x v e1 e2 e3;refine⟨u,r,?_⟩;rcases l with l |⟨k,c,e,z⟩
  ·exact .inl l
  ·exact .inr ⟨k,c,e,cellK x c e _ z⟩
 ·obtain⟨v,z⟩:=I.cell x c e;exact⟨v,cellK x c e v z⟩
 ·obtain⟨m,⟨o,_,_,ho,_⟩,_⟩:=I.loc;exact free _ o (fun z=>(hch _ z).2.1 rfl) ho I.free
 ·obtain⟨v,o,ho,hd⟩:=I.cell x c e;exact free c o (fun z=>(hch c z).2.2.1 x c e rfl) ho (I.freeC x c e)
 ·obtain⟨e,n,ne,nf,d⟩:=I.pin p hp;have nch:p.1∉ch:=fun z=>(hch p.1 z).2.2.2 p hp rfl;exact⟨keep p.1 p.2 ne nf nch e n,free p.1 p.2 nch e n,ne,nf,d⟩
theorem Inv.un {t':Nat}(I:Inv X pins σ H s)(u:Un X.fs [] H H' s.heap h')(hok:bG X.prog X.w H' h'):Inv X pins σ H' {s with heap:=h',toks:=t'}:=by
 obtain ⟨m, ⟨o, es, ep, ho, r⟩, _⟩ := id I.loc;obtain ⟨sl, hL⟩ := u.any ho I.free (by simp);exact I.step (g' := s.gens) (d' := s.drawn) (ch := []) (fun _ z => nomatch z) (fun b o _ hb _ e n => u.keep b o e n hb (by simp)) (fun b o _ hb _ e n => u.slot b o e n hb (by simp)) (fun b o _ e n => u.free b o e n (by simp)) (fun b o _ e => u.there b o e (by simp)) u.tups u.frzs u.tbls (fun m' hm=>by
  obtain⟨o',es',ep',ho',r'⟩:=hm;rw[ho]at ho';cases ho';exact⟨_,es',ep',hL,r'⟩) hok I.bare
theorem Inv.call {g':Array GenState}{t':Nat}{d':Drawn}{ch:List Addr}(I:Inv X pins σ H s)(u:Un (frs X.stack) ch H H' s.heap h')(hok:bG X.prog X.w H' h')(hg:AllBare g')
  (hch:∀b∈ch,(b∈X.ex\/X.s₀.heap.objs.size<=b)/\b≠X.env.locals/\(∀x c,X.env.cells.lookup x=some c->c≠b)/\∀p∈X.pn ++ pins,p.1≠b):
  Inv X pins σ H' {s with heap:=h',gens:=g',drawn:=d',toks:=t'}:=by
 obtain ⟨m, ⟨o, es, ep, ho, r⟩, _⟩ := id I.loc;obtain ⟨sl, hL⟩ := u.any ho I.free fun z => (hch _ z).2.1 rfl;exact I.step (ch := ch) hch (fun b o hL hb hc e n => u.keep b o e n (fun z => (Sy.mp (I.stkSub b z)).elim hL hb) hc) (fun b o _ _ hc e n => u.any e n hc) (fun b o hc e n => u.free b o e n hc) (fun b o hc e => u.there b o e hc) u.tups u.frzs u.tbls (fun m' hm=>by
  obtain⟨o',es',ep',ho',r'⟩:=hm;rw[ho]at ho';cases ho';exact⟨_,es',ep',hL,r'⟩) hok hg
theorem Inv.turned {t':Nat}{it:Addr}(I:Inv X pins σ H s)(k:∀b o,b≠it->s.heap.get? b=some o->h'.get? b=some o)(hn:H it=none)(hL:it≠X.env.locals)
  (h1:it∈X.ex\/X.s₀.heap.objs.size<=it) (h2:∀x c,X.env.cells.lookup x=some c->c≠it) (h3:∀p∈X.pn ++ pins,p.1≠it):Inv X pins σ H {s with heap:=h',toks:=t'}:=by
 have nit:∀b u,H b=some u->b≠it:=fun b u e z=>by rw[z,hn]at e;cases e
 refine I.step (g':=s.gens) (d':=s.drawn) (ch:=[it]) (fun b hb=>?_) (fun b o _ _ hc e _=>k b o (fun z=>hc (by simp[z])) e) (fun b o _ _ hc e _=>⟨o.slots,k b o (fun z=>hc (by simp[z])) e⟩) (fun _ _ _ _ n=>n)
  (fun b o hc e=>⟨o,k b o (fun z=>hc (by simp[z])) e⟩) (fun _ _ e=>e) (fun _ _ _ e=>e) (fun b ps e=>⟨#[],by rw[e];simp⟩) (fun m hm=>?_) (fun b u e=>?_) I.bare
 ·have e:b=it:=by simpa using hb
  subst e;exact⟨h1,hL,h2,h3⟩
 ·obtain⟨o,es,ep,ho,r⟩:=hm;exact⟨o,es,ep,k _ o (Tj hL) ho,r⟩
 ·refine(I.hok b u e).stay (fun c v hc q=>k c v ?_ q) (fun _ q=>q) fun _ _ q=>q;rcases hc with z |z
  ·rw[z];exact nit b u e
  ·exact nit c _ z
theorem Inv.tok (I:Inv X pins σ H s)(t:Nat):Inv X pins σ H {s with toks:=t}:=I.un (h':=s.heap) (t':=t) Un.refl I.hok
theorem Inv.kept (I:Inv X pins σ H s)(k:∀b u,s.heap.get? b=some u->h'.get? b=some u):Inv X pins σ H {s with heap:=h',toks:=t'}:=I.un (Un.kept k) (I.hok.kept k)
theorem Inv.laid (I:Inv X pins σ H s)(k:∀b u,s.heap.get? b=some u->h'.get? b=some u)(hp:s.heap.objs.size<=a)(new:cB X.prog X.w (upd H a o) h' a o):
  Inv X pins σ (upd H a o) {s with heap:=h',toks:=t'}:=I.un (Un.laid k hp (I.hok.fresh hp)) (I.hok.laid k hp new)
theorem Inv.write (I:Inv X pins σ H s)(mu:rN (H x))(he:e=x\/H e=some (.own x))(k:∀b u,b≠e->s.heap.get? b=some u->h'.get? b=some u)(heo:∃u,h'.get? e=some u)
  (new:cB X.prog X.w (upd H x o) h' x o):Inv X pins σ (upd H x o) {s with heap:=h',toks:=t'}:=I.un (Un.write mu he k heo) (I.hok.write mu he k heo new)
theorem Inv.pins_of (I:Inv X pins σ H s)(h:∀p∈pins',s.heap.get? p.1=some p.2/\H p.1=none/\p.1≠X.env.locals/\p.1∉X.fs/\∀v,p.2.data≠ .cell v):Inv X pins' σ H s:=
 ⟨I.ok,I.os,I.bare,I.base,I.loc,I.cell,I.free,I.freeC,fun p hp=>(Uh.mp hp).elim (fun z=>I.pin p (Vr _ z)) (h p),I.hok,I.len⟩
theorem Ca {N:List Str}(hN:N.Nodup){i j:Nat}{x:Str}(a:N[i]? =some x)(b:N[j]? =some x):i=j:=by
 obtain⟨h1,e1⟩:=RX.mp a;obtain⟨h2,e2⟩:=RX.mp b;exact(List.getElem_inj hN).mp (e1.trans e2.symm)
theorem Pr {M:Model}{A:Around}{E:Value->Shared->Prop}{i:Nat}{x:Str}{v:V}{u:Value}{Q:Unit->Shared->Prop}(I:Inv X pins σ H s)(hN:X.N.Nodup)(hi:X.N[i]? =some x)(hx:Loc X.env.scope x)(r:RelV v u)
    (h:∀s',Inv X pins (σ.set i (some v)) H s'->(∃a,Heap.SameBut a s.heap s'.heap/\(a=X.env.locals\/X.env.cells.lookup x=some a))->Q () s') (hf:X.fn x=true\/X.env.scope.names.lookup x=some .local:=by first |exact .inl rfl |exact .inr rfl |assumption):wpAny M A (storeName X.env x u) Q E s:=by
  obtain⟨m,hn,hl⟩:=id I.loc;have hcls:(X.env.scope.kind==.class || (X.env.scope.kind==.module && X.env.locals !=X.env.globals))=false:=by rw[I.ok.kind];rfl
  have hiσ:i<σ.length:=by rw[I.len];exact(RX.mp hi).1
  have cne:=I.cne;have tracked:∀{a:Addr} {h':Heap},(∃o,s.heap.get? a=some o/\H a=none)->Heap.SameBut a s.heap h'->bG X.prog X.w H h':=fun {a h'} ha hs b ob e=>by
    obtain⟨_,_,hfree⟩:=ha;refine(I.hok b ob e).stay (fun c w' hc q=>(hs.2 c ?_).trans q) (fun _ q=>q) fun _ _ q=>q;rintro rfl;rcases hc with rfl |hc
    · rw[hfree]at e;cases e
    · rw[hfree]at hc;cases hc
  rcases hx with hk |hk
  · refine wpAny_storeName_local hk hn (fun h' hn' hs=>?_) hcls;obtain⟨oL,_,_,hoL,_⟩:=id hn;refine h _ ⟨I.ok,I.os,I.bare,⟨fun b o e n hb hx=>?_,fun b o e n hb hx=>?_,I.base.free,fun b o e hx=>?_,I.base.tups,I.base.frzs,I.base.tbls⟩,⟨_,hn',fun j y v' e1 e2 e3=>?_⟩,fun y c e=>?_,I.free,I.freeC,fun p hp=>?_,tracked ⟨oL,hoL,I.free⟩ hs,by simpa using I.len⟩ ⟨_,hs,.inl rfl⟩
    · exact(hs.2 b (R9 (RJ (RK e) I.ok.above))).trans (I.base.keep b o e n hb hx)
    · obtain⟨sl,e1⟩:=I.base.slot b o e n hb hx;exact⟨sl,(hs.2 b (R9 (RJ (RK e) I.ok.above))).trans e1⟩
    · obtain⟨o',e1⟩:=I.base.there b o e hx;exact⟨o',(hs.2 b (R9 (RJ (RK e) I.ok.above))).trans e1⟩
    · by_cases hj:j=i
      · subst hj;rw[hi]at e1;cases e1;rw[Vk hiσ]at e2;cases e2;exact⟨u,r,.inl ⟨hk,by simp⟩⟩
      · rw[Vs (Tj hj)]at e2;obtain⟨u',r',q⟩:=hl j y v' e1 e2 e3;refine⟨u',r',?_⟩;rcases q with⟨k,e⟩ |⟨k,c,e,z⟩
        · refine .inl ⟨k,?_⟩;have:y≠x:=fun e=>hj (Ca hN e1 (e ▸ hi))
          simp[this,e]
        · exact .inr ⟨k,c,e,z.sameBut hs (cne y c e)⟩
    · obtain⟨w',z⟩:=I.cell y c e;exact⟨w',z.sameBut hs (cne y c e)⟩
    · obtain⟨e,n,ne,nf,d⟩:=I.pin p hp;exact⟨(hs.2 p.1 ne).trans e,n,ne,nf,d⟩
  · have hfn:X.fn x=true:=by
      rcases hf with z |z
      · exact z
      · rw[z]at hk;cases hk
    obtain⟨c,hc⟩:=I.ok.has x (.inl hk);obtain⟨w',z⟩:=I.cell x c hc;refine wpAny_storeName_cell I.ok.kind hk hc z (fun h' hc' hs=>?_);obtain⟨oc,hoc,hocd⟩:=id z;refine h {s with heap:=h'} ⟨I.ok,I.os,I.bare,⟨fun b o e n hb hx=>?_,fun b o e n hb hx=>?_,I.base.free,fun b o e hx=>?_,I.base.tups,I.base.frzs,I.base.tbls⟩,⟨m,hn.sameBut hs (Tj (cne x c hc)),fun j y v' e1 e2 e3=>?_⟩,fun y c' e=>?_,I.free,I.freeC,fun p hp=>?_,tracked ⟨oc,hoc,I.freeC x c hc⟩ hs,by simpa using I.len⟩ ⟨c,hs,.inr hc⟩
    · exact(hs.2 b (R9 (RJ (RK e) (I.ok.cab x c hfn hc)))).trans (I.base.keep b o e n hb hx)
    · obtain⟨sl,e1⟩:=I.base.slot b o e n hb hx;exact⟨sl,(hs.2 b (R9 (RJ (RK e) (I.ok.cab x c hfn hc)))).trans e1⟩
    · obtain⟨o',e1⟩:=I.base.there b o e hx;exact⟨o',(hs.2 b (R9 (RJ (RK e) (I.ok.cab x c hfn hc)))).trans e1⟩
    · by_cases hj:j=i
      · subst hj;rw[hi]at e1;cases e1;rw[Vk hiσ]at e2;cases e2;exact⟨u,r,.inr ⟨.inl hk,c,hc,hc'⟩⟩
      · rw[Vs (Tj hj)]at e2;obtain⟨u',r',q⟩:=hl j y v' e1 e2 e3;refine⟨u',r',?_⟩;rcases q with q |⟨k,c',e,z'⟩
        · exact .inl q
        · refine .inr ⟨k,c',e,z'.sameBut hs ?_⟩;rintro rfl;exact hj (Ca hN e1 (I.ok.inj _ _ _ e hc ▸ hi))
    · by_cases hcc:c'=c
      · subst hcc;exact⟨_,hc'⟩
      · obtain⟨w2,z2⟩:=I.cell y c' e;exact⟨w2,z2.sameBut hs hcc⟩
    · obtain⟨e,n,ne,nf,d⟩:=I.pin p hp;refine⟨(hs.2 p.1 ?_).trans e,n,ne,nf,d⟩;intro q;rw[q,hoc]at e;have q':oc=p.2:=R0 e;exact d w' (by rw[<-q'];exact hocd)
theorem zm (I:Inv X pins σ H s)(hN:X.N.Nodup)(hi:X.N[i]? =some x)(hx:Loc X.env.scope x)(r:RelV v u)
  (h:∀s',Inv X pins (σ.set i (some v)) H s'->Q () s') (hf:X.fn x=true\/X.env.scope.names.lookup x=some .local:=by first |exact .inl rfl |exact .inr rfl |assumption):wpAny M A (storeName X.env x u) Q E s:=
 Pr I hN hi hx r (fun s' I' _=>h s' I') hf
theorem Inv.call' (I:Inv X pins σ H s)(ho:s'.os=s.os)(u:Un (frs X.stack) ch H H' s.heap s'.heap)(hok:bG X.prog X.w H' s'.heap)(hg:AllBare s'.gens)
  (hch:∀b∈ch,(b∈X.ex\/X.s₀.heap.objs.size<=b)/\b≠X.env.locals/\(∀x c,X.env.cells.lookup x=some c->c≠b)/\∀p∈X.pn ++ pins,p.1≠b):Inv X pins σ H' s':=by
 obtain⟨h',g',d',t',o'⟩:=s';have e:o'=s.os:=ho;subst e;exact I.call (g':=g') (t':=t') (d':=d') u hok hg hch
end
abbrev XK:=Value->Option Addr->Hp->Prop
abbrev St:=List (Option V)
abbrev VK:=V->Hp->Prop
abbrev TE:=St->Hp->VK->Prop
abbrev TT:=St->Hp->(Bool->Hp->Prop)->Prop
abbrev TA:=St->Hp->(List V->Hp->Prop)->Prop
structure Ends where
 nx:St->Hp->Prop
 rt:VK
 bk:St->Hp->Prop:=fun _ _=>False
 ct:St->Hp->Prop:=fun _ _=>False
abbrev TS:=Ends->St->Hp->Prop
def EP (X:Cx)(pins:Pnx)(σ:St)(Q:VK)(u:Value)(s':Shared):Prop:=∃v H',Inv X pins σ H' s'/\RelV v u/\Q v H'
def TP (X:Cx)(pins:Pnx)(σ:St)(Q:Bool->Hp->Prop)(b:Bool)(s':Shared):Prop:=∃H',Inv X pins σ H' s'/\Q b H'
def AP (X:Cx)(pins:Pnx)(σ:St)(Q:List V->Hp->Prop)(us:List Value)(s':Shared):Prop:=∃vs H',Inv X pins σ H' s'/\Vals vs us/\Q vs H'
def SP (X:Cx)(pins:Pnx)(D:Ends)(f:Flow)(s':Shared):Prop:=
 match f with
 |.next=>∃σ' H',Inv X pins σ' H' s'/\D.nx σ' H'
 |.brk=>∃σ' H',Inv X pins σ' H' s'/\D.bk σ' H'
 |.cont=>∃σ' H',Inv X pins σ' H' s'/\D.ct σ' H'
 |.ret u=>∃v σ' H',Inv X pins σ' H' s'/\RelV v u/\D.rt v H'
def PE (X:Cx)(e:Expr)(t:TE):Prop:=
 ∀(pins:Pnx) (s:Shared) (σ:St) (H:Hp) (Q:VK),Inv X pins σ H s->t σ H Q->wpAny (model X.prog X.w) X.A (eval e X.env) (EP X pins σ Q) X.xe s
def PT (X:Cx)(e:Expr)(t:TT):Prop:=
 ∀(pins:Pnx) (s:Shared) (σ:St) (H:Hp) (Q:Bool->Hp->Prop),Inv X pins σ H s->t σ H Q->wpAny (model X.prog X.w) X.A (isTrue e X.env (eval e X.env)) (TP X pins σ Q) X.xe s
def PW (X:Cx)(e:Expr)(t:TT):Prop:=
 ∀(whole:Sem Value) (pins:Pnx) (s:Shared) (σ:St) (H:Hp) (Q:Bool->Hp->Prop),Inv X pins σ H s->t σ H Q->wpAny (model X.prog X.w) X.A (isTrue e X.env whole) (TP X pins σ Q) X.xe s
theorem PW.pt (h:PW X e t):PT X e t:=h _
def PA (X:Cx)(es:List Expr)(t:TA):Prop:=
 ∀(pos:Pos) (pins:Pnx) (s:Shared) (σ:St) (H:Hp) (Q:List V->Hp->Prop),Inv X pins σ H s->t σ H Q->wpAny (model X.prog X.w) X.A (spliced (backTo pos (starEach es X.env))) (AP X pins σ Q) X.xe s
def PS (X:Cx)(st:Stmt)(t:TS):Prop:=
 ∀(pins:Pnx) (s:Shared) (σ:St) (H:Hp) (D:Ends),Inv X pins σ H s->t D σ H->wpAny (model X.prog X.w) X.A (exec st X.env) (SP X pins D) X.xe s
def dM (X:Cx)(st:List Stmt)(t:TS):Prop:=
 ∀(pins:Pnx) (s:Shared) (σ:St) (H:Hp) (D:Ends),Inv X pins σ H s->t D σ H->wpAny (model X.prog X.w) X.A (execs st X.env) (SP X pins D) X.xe s
theorem aM (h:wpAny M A t Q E s)(hQ:∀a s,Q a s->Q' a s):wpAny M A t Q' E s:=T4 h hQ fun _ _ x=>x
section
variable {X:Cx}
def zM (i:Nat):TE:=fun σ H Q=>∃v,σ[i]? =some (some v)/\Q v H
def tC (v:V):TE:=fun _ H Q=>Q v H
theorem Kd (hN:X.N[i]? =some x)(hv:rP X.env.scope x)(hd:(x==("__debug__":Str))=false:=by decide)(hcd:(x==("__classdict__":Str))=false:=by decide):PE X (.Name x pos) (zM i):=by
 intro pins s σ H Q I h;obtain⟨v,e,h⟩:=h;obtain⟨m,hn,hl⟩:=I.loc;obtain⟨u,r,l⟩:=hl i x v hN e hv;have fin:EP X pins σ Q u s:=⟨v,H,I,r,h⟩;rcases l with⟨hk,hm⟩ |⟨hk,c,hc,hcell⟩
 ·exact wpAny_Name (wpAny_loadName_local I.ok.kind hk hn hm fin) hd
 ·rcases hk with hk |hk
  ·exact wpAny_Name (wpAny_loadName_cell I.ok.kind hk hc hcell fin) hd
  ·exact wpAny_Name (wpAny_loadName_free I.ok.kind hk hc hcell fin hcd) hd
theorem J2 {i j pos}:PE X (.Constant (.int i) j pos) (tC (.int i)):=fun _ _ _ H _ I h=>wpAny_Constant_int ⟨.int i,H,I.tok _,⟨_,rfl⟩,h⟩
theorem JR {b j pos}:PE X (.Constant (.bool b) j pos) (tC (.bl b)):=fun _ _ _ H _ I h=>Constant_bool ⟨.bl b,H,I,rfl,h⟩
theorem Ka {x j pos}:PE X (.Constant (.str x) j pos) (tC (.str x)):=fun _ _ _ H _ I h=>Calls.Constant_str ⟨.str x,H,I.tok _,⟨_,rfl⟩,h⟩
def Gl (X:Cx)(x:Str):Prop:=X.env.kindOf x=some .globalImplicit
theorem xJ (I:Inv X pins σ H s)(hg:Gl X x)(hm:X.mg x=some u)(h:Q u s)
  (hd:(x==("__debug__":Str))=false:=by decide):wpAny (model X.prog X.w) X.A (eval (.Name x pos) X.env) Q E s:=
 U7 I.ok.kind hg (Calls.loadGlobal_global (by rw[I.ok.glob];exact I.mod.glob.keeps I.bk) hm h) hd
theorem sW (I:Inv X pins σ H s)(hg:Gl X x)(hm:X.mg x=none)(hv:bootBuiltins x=some u)(h:Q u s)
  (hn:x≠"__name__":=by decide) (hd:(x==("__debug__":Str))=false:=by decide):wpAny (model X.prog X.w) X.A (eval (.Name x pos) X.env) Q E s:=by
 obtain⟨mb,h1,h2⟩:=I.mod.blt;exact U7 I.ok.kind hg (Calls.loadGlobal_builtin (by rw[I.ok.glob];exact I.mod.glob.keeps I.bk) hm (by rw[I.ok.blt];exact h1.keeps I.bk) ((h2 x hn).trans hv) h) hd
theorem J1 (hg:Gl X x)(hm:X.mg x=some u)(r:RelV v u)(hd:(x==("__debug__":Str))=false:=by decide):PE X (.Name x pos) (tC v):=
 fun _ _ _ H _ I h=>xJ I hg hm ⟨v,H,I,r,h⟩ hd
theorem JT (hg:Gl X x)(hm:X.mg x=none)(hv:bootBuiltins x=some u)(r:RelV v u)(hn:x≠"__name__":=by decide)(hd:(x==("__debug__":Str))=false:=by decide):PE X (.Name x pos) (tC v):=
 fun _ _ _ H _ I h=>sW I hg hm hv ⟨v,H,I,r,h⟩ hn hd
variable {a b:Expr}{ta tb:TE}{pos:Pos}
variable {tA tB':TT}{rest:List Expr}
noncomputable def P_ (t u:TT):TT:=fun σ H Q=>t σ H fun c H1=>if c=true then Q true H1 else u σ H1 Q
def zH (t:TT):TT:=fun σ H Q=>t σ H fun c H1=>Q (!c) H1
theorem K6 (ha:PT X a tA):PW X (.BoolOp .Or [a] pos) tA:=by
 intro wh pins s σ H Q I h;refine isTrue_or (aM (ha pins s σ H Q I h) fun c s1 e=>?_)
 cases c with
 |false=>exact isTrue_or_nil e
 |true=>exact e
theorem K5 (ha:PT X a tA)(hb:PW X (.BoolOp .Or (b::rest) pos) tB'):PW X (.BoolOp .Or (a::b::rest) pos) (P_ tA tB'):=by
 intro wh pins s σ H Q I h;refine isTrue_or (aM (ha pins s σ H _ I h) fun c s1 ⟨H1,I1,q1⟩=>?_)
 cases c with
 |true=>exact⟨H1,I1,q1⟩
 |false=>exact hb wh pins s1 σ H1 Q I1 q1
theorem KJ (ha:PT X a tA):PT X (.UnaryOp .Not a pos) (zH tA):=by
 intro pins s σ H Q I h;exact isTrue_not (ha pins s σ H (fun c H1=>Q (!c) H1) I h)
noncomputable def Px (ta tb:TE):TE:=fun σ H Q=>ta σ H fun x H1=>∃c,x=.bl c/\if c=true then tb σ H1 Q else Q (.bl false) H1
theorem J9 {op}(h:PE X a t):PE X (.BoolOp op [a] pos) t:=fun pins s σ H Q I hw=>BoolOp_one (h pins s σ H Q I hw)
theorem JQ (ha:PE X a ta)(hb:PE X (.BoolOp .And (b::rest) pos) tb):PE X (.BoolOp .And (a::b::rest) pos) (Px ta tb):=by
 intro pins s σ H Q I h;refine BoolOp_and (aM (ha pins s σ H _ I h) fun v s1 ⟨x,H1,I1,r1,q1⟩=>?_);obtain⟨c,rfl,q1⟩:=q1;cases r1;refine Uo ?_
 cases c with
 |true=>exact hb pins s1 σ H1 Q I1 q1
 |false=>exact⟨.bl false,H1,I1,rfl,q1⟩
end
def bf (K:Fgx)(H:Hp)(a:Addr)(xs:List V):Prop:=
 Rd H a (.lst xs)\/
  ∃(o:Obj) (its:Array Value) (n:Nat),K.lookup a=some o/\o.cls=.type "list"/\o.dict=none/\o.data=.seq its n/\its.size<=sizeLine/\Vals xs its.toList
def cW (K:Fgx)(H:Hp)(a:Addr)(xs:List V):Prop:=
 Rd H a (.tup xs)\/
  ∃(o:Obj) (its:Array Value) (n:Nat),K.lookup a=some o/\o.cls=.type "tuple"/\o.data=.seq its n/\its.size<=sizeLine/\Vals xs its.toList
noncomputable def vV:Value->Option V
 |.none=>some .non
 |.bool b=>some (.bl b)
 |.int i _=>some (.int i)
 |.str x _=>some (.str x)
 |.bytes b _=>some (.byt b)
 |.float b _=>some (.flt b)
 |.ref a=>some (.ref a)
 |.type n=>some (.ty n)
 |_=>none
theorem RelV.abs (r:RelV x u):vV u=some x:=by
 cases x with
 |non=>cases r;rfl
 |bl _=>cases r;rfl
 |int _=>obtain⟨t,rfl⟩:=r;rfl
 |str _=>obtain⟨t,rfl⟩:=r;rfl
 |byt _=>obtain⟨t,rfl⟩:=r;rfl
 |flt _=>obtain⟨t,rfl⟩:=r;rfl
 |ref _=>cases r;rfl
 |ty _=>cases r;rfl
theorem RelV.inj (r:RelV x u)(q:RelV y u):x=y:=R0 (r.abs.symm.trans q.abs)
theorem Vals.inj:∀{xs ys:List V} {us:List Value},Vals xs us->Vals ys us->xs=ys
 |_,_,_,.nil,.nil=>rfl
 |_,_,_,.cons r t,.cons r' t'=>by rw[r.inj r',Vals.inj t t']
section
variable {X:Cx}{pins:Pnx}{σ:St}{H:Hp}{s:Shared}{a:Addr}{xs ys:List V}
theorem Inv.list (I:Inv X pins σ H s)(h:bf X.K H a xs):∃its:List Value,Vals xs its/\PlainL s.heap a its.toArray/\xs.length<=sizeLine:=by
 rcases h with h |⟨o,its,n,hk,hc,hd,hs,hz,r⟩
 ·obtain⟨z,its,n,r,e⟩:=h.ok I.hok;exact⟨its,r,⟨_,n,e,rfl,rfl,rfl⟩,z⟩
 ·refine⟨its.toList,r,⟨o,n,I.kIn a o hk,hc,hd,by simpa using hs⟩,?_⟩;have e:=r.length;simp only[Tz]at e;omega
theorem Inv.tuple (I:Inv X pins σ H s)(h:cW X.K H a xs):∃its:List Value,Vals xs its/\IsTup s.heap a its.toArray/\xs.length<=sizeLine:=by
 rcases h with h |⟨o,its,n,hk,hc,hs,hz,r⟩
 ·obtain⟨z,its,r,p⟩:=h.ok I.hok;exact⟨its,r,p,z⟩
 ·refine⟨its.toList,r,⟨o,I.kIn a o hk,hc,n,by simpa using hs⟩,?_⟩;have e:=r.length;simp only[Tz]at e;omega
theorem Inv.list_inj (I:Inv X pins σ H s)(h:bf X.K H a xs)(h':bf X.K H a ys):xs=ys:=by
 obtain⟨its,r,⟨o,n,e,_,_,d⟩,_⟩:=I.list h;obtain⟨its',r',⟨o',n',e',_,_,d'⟩,_⟩:=I.list h';rw[e]at e';cases e';rw[d]at d'
 injection d' with d1 _
 have:its=its':=by simpa using congrArg Array.toList d1
 subst this;exact r.inj r'
theorem Inv.tuple_inj (I:Inv X pins σ H s)(h:cW X.K H a xs)(h':cW X.K H a ys):xs=ys:=by
 obtain⟨its,r,⟨o,e,_,n,d⟩,_⟩:=I.tuple h;obtain⟨its',r',⟨o',e',_,n',d'⟩,_⟩:=I.tuple h';rw[e]at e';cases e';rw[d]at d'
 injection d' with d1 _
 have:its=its':=by simpa using congrArg Array.toList d1
 subst this;exact r.inj r'
end
abbrev Cx.wish (X:Cx)(E:Value->Shared->Prop):Cx:={X with xe:=E}
abbrev Cx.nox (X:Cx):Cx:=X.wish fun _ _=>False
theorem Cx.Ok.wish {X:Cx}(ok:X.Ok)(E:Value->Shared->Prop):(X.wish E).Ok:=
 ⟨ok.mod,ok.kind,ok.glob,ok.blt,ok.above,ok.inj,ok.has,ok.cab,ok.hd,ok.frames,ok.stk,ok.exf,ok.bs,ok.bsz,ok.noex,ok.exfs,ok.funs,ok.frf⟩
theorem Cx.Ok.unwish {X:Cx}{E:Value->Shared->Prop}(ok:(X.wish E).Ok):X.Ok:=
 ⟨ok.mod,ok.kind,ok.glob,ok.blt,ok.above,ok.inj,ok.has,ok.cab,ok.hd,ok.frames,ok.stk,ok.exf,ok.bs,ok.bsz,ok.noex,ok.exfs,ok.funs,ok.frf⟩
section
variable {X:Cx}{pins:Pnx}{σ:St}{H:Hp}{s:Shared}{E:Value->Shared->Prop}
theorem Inv.wish (I:Inv X pins σ H s)(E:Value->Shared->Prop):Inv (X.wish E) pins σ H s:=⟨I.ok.wish E,I.os,I.bare,I.base,I.loc,I.cell,I.free,I.freeC,I.pin,I.hok,I.len⟩
theorem Inv.unwish (I:Inv (X.wish E) pins σ H s):Inv X pins σ H s:=⟨I.ok.unwish,I.os,I.bare,I.base,I.loc,I.cell,I.free,I.freeC,I.pin,I.hok,I.len⟩
theorem SP.unwish (h:SP (X.wish E) pins D f s'):SP X pins D f s':=by
 cases f with
 |next=>obtain⟨σ',H',I,q⟩:=h;exact⟨σ',H',I.unwish,q⟩
 |brk=>obtain⟨σ',H',I,q⟩:=h;exact⟨σ',H',I.unwish,q⟩
 |cont=>obtain⟨σ',H',I,q⟩:=h;exact⟨σ',H',I.unwish,q⟩
 |ret u=>obtain⟨v,σ',H',I,r,q⟩:=h;exact⟨v,σ',H',I.unwish,r,q⟩
theorem dM.nox {st:List Stmt}{t:TS}(h:dM X.nox st t):dM X st t:=fun pins s σ H D I hw=>
 T4 (h pins s σ H D (I.wish _) hw) (fun _ _ q=>q.unwish) fun _ _ z=>False.elim z
end
section
variable {X:Cx}{st:Stmt}{rest:List Stmt}{t u:TS}{e:Expr}{te:TE}{pos:Pos}
def PN:TS:=fun D σ H=>D.nx σ H
def zK (t u:TS):TS:=fun D σ H=>t {D with nx:=u D} σ H
theorem KD:dM X [] PN:=fun _ _ σ H _ I h=>wpAny_execs_nil ⟨σ,H,I,h⟩
theorem KC (h1:PS X st t)(h2:dM X rest u):dM X (st::rest) (zK t u):=by
  intro pins s σ H D I h;refine wpAny_execs_cons (aM (h1 pins s σ H {D with nx:=u D} I h) fun f s1 q=>?_)
  cases f with
  |next=>
    obtain⟨σ',H',I',q⟩:=q;exact h2 pins s1 σ' H' D I' q
  |ret v=>exact q
  |brk=>exact q
  |cont=>exact q
theorem Inv.quiet (I:Inv X pins σ H s):interactive X.env=false:=by simp[interactive,I.ok.kind]
def PK (te:TE):TS:=fun D σ H=>te σ H fun _ H1=>D.nx σ H1
theorem Kr (he:PE X e te)(hs:swapsWith e none pos.line X.env=pure false:=by rfl):PS X (.Expr e pos) (PK te):=by
 intro pins s σ H D I h;exact wpAny_Expr_any (aM (he pins s σ H _ I h) fun v s1 ⟨x,H1,I1,r1,q1⟩=>⟨σ,H1,I1,q1⟩) I.quiet hs
def zJ (te:TE):TS:=fun D σ H=>te σ H D.rt
theorem Ky (he:PE X e te):PS X (.Return (some e) pos) (zJ te):=by
 intro pins s σ H D I h;exact wpAny_Return_some (aM (he pins s σ H _ I h) fun v s1 ⟨x,H1,I1,r1,q1⟩=>⟨x,σ,H1,I1,r1,q1⟩)
noncomputable def zF (c:TT) (t u:TS):TS:=fun D σ H=>c σ H fun b H1=>if b=true then t D σ H1 else u D σ H1
theorem Kw (hc:PT X c tc)(ha:dM X a t)(hb:dM X b u):PS X (.If c a b pos) (zF tc t u):=by
 intro pins s σ H D I h;refine wpAny_If (aM (hc pins s σ H _ I h) fun d s1 ⟨H1,I1,q1⟩=>?_)
 cases d with
 |true=>exact ha pins s1 σ H1 D I1 q1
 |false=>exact hb pins s1 σ H1 D I1 q1
end
abbrev TG:=V->St->Hp->(St->Hp->Prop)->Prop
def PG (X:Cx)(target:Expr)(t:TG):Prop:=
 ∀(pins:Pnx) (s:Shared) (σ:St) (H:Hp) (v:V) (u:Value) (Q:St->Hp->Prop),Inv X pins σ H s->RelV v u->t v σ H Q->
  wpAny (model X.prog X.w) X.A (assign target X.env u) (fun _ s'=>∃σ' H',Inv X pins σ' H' s'/\Q σ' H') X.xe s
abbrev nR:=V->V->V->Hp->(Hp->Prop)->Prop
def nQ (X:Cx)(t:nR):Prop:=
 ∀(pins:Pnx) (s:Shared) (σ:St) (H:Hp) (o i v:V) (ov iv u:Value) (Q:Hp->Prop),Inv X pins σ H s->RelV o ov->RelV i iv->RelV v u->t o i v H Q->
  wpAny (model X.prog X.w) X.A (setItem ov iv u) (fun _ s'=>∃H',Inv X pins σ H' s'/\Q H') X.xe s
section
variable {X:Cx}{pos:Pos}
def wW (i:Nat):TG:=fun v σ H Q=>Q (σ.set i (some v)) H
theorem Ke (hN:X.N.Nodup)(hi:X.N[i]? =some x)(hx:Loc X.env.scope x)(hf:X.fn x=true\/X.env.scope.names.lookup x=some .local:=by first |exact .inl rfl |exact .inr rfl |assumption):PG X (.Name x pos) (wW i):=by
 intro pins s σ H v u Q I r h;exact wpAny_assign_Name (zm I hN hi hx r (fun s' I'=>⟨_,H,I',h⟩) hf)
noncomputable def wX (to ti:TE) (t:nR):TG:=fun v σ H Q=>to σ H fun o H1=>ti σ H1 fun i H2=>t o i v H2 fun H3=>Q σ H3
theorem Kf (ho:PE X o to)(hi:PE X i ti)(hs:nQ X t)
  (ha : ∀ v, assign (.Subscript o i pos) X.env v = (do
   let ov <-holding [v] (eval o X.env)
   let iv <-holding [v,ov] (eval i X.env)
   standAt pos
   holding [v,ov,iv] (setItem ov iv v)
   release [v,ov,iv] []):=by intro _;rfl):PG X (.Subscript o i pos) (wX to ti t):=by
 intro pins s σ H v u Q I r h;rw[ha];refine R8 (Vw (aM (ho pins s σ H _ I h) fun ov s1 ⟨x,H1,I1,r1,q1⟩=>?_));refine R8 (Vw (aM (hi pins s1 σ H1 _ I1 q1) fun iv s2 ⟨y,H2,I2,r2,q2⟩=>?_));refine R8 (wpAny_standAt (R8 (Vw (aM (hs pins s2 σ H2 x y v ov iv u _ I2 r1 r2 r q2) fun _ s3 ⟨H3,I3,q3⟩=>?_))));exact wpAny_release ⟨σ,H3,I3,q3⟩
noncomputable def rD (te:TE) (g:TG):TS:=fun D σ H=>te σ H fun x H1=>g x σ H1 D.nx
theorem Kq (he:PE X e te)(hg:PG X tg g)(hs:swapsWithSole [tg] e pos.line X.env=pure false:=by rfl)(hw:swappedStores [tg] e X.env=pure none:=by rfl)
  (h1:(assignEach [tg] X.env).map (·.2)=[assign tg X.env]:=by rfl):PS X (.Assign [tg] e pos) (rD te g):=by
 intro pins s σ H D I h;refine wpAny_Assign_stores (aM (he pins s σ H _ I h) fun v s1 ⟨x,H1,I1,r1,q1⟩=>?_) hs hw;rw[h1];exact aM (hg pins s1 σ H1 x v _ I1 r1 q1) fun _ s2 q=>q
theorem Kz (hN:X.N.Nodup)(hi:X.N[i]? =some x)(hx:Loc X.env.scope x)(he:PE X e te)(hs:swapsWith e (some (.Name x pos')) pos.line X.env=pure false:=by rfl)(hf:X.fn x=true\/X.env.scope.names.lookup x=some .local:=by first |exact .inl rfl |exact .inr rfl |assumption):
  PS X (.Assign [.Name x pos'] e pos) (rD te (wW i)):=by
 intro pins s σ H D I h;refine wpAny_Assign_Name (aM (he pins s σ H _ I h) fun v s1 ⟨y,H1,I1,r1,q1⟩=>?_) hs;exact zm I1 hN hi hx r1 (fun s2 I2=>⟨_,H1,I2,q1⟩) hf
end
structure It where
 go:Nat->Hp->Prop
 yld:Nat->Hp->V->Hp->Prop
 stop:Nat->Hp->Prop
def cL (X:Cx)(pins:Pnx)(H:Hp)(b:Addr):Prop:=
 H b=none/\b≠X.env.locals/\b∉X.fs/\(b∈X.ex\/X.s₀.heap.objs.size<=b)/\(∀x c,X.env.cells.lookup x=some c->c≠b)/\∀p∈X.pn ++ pins,p.1≠b
theorem Inv.fpOk (I:Inv X pins σ H s)(hb:s.heap.objs.size<=b)(hn:H' b=none):cL X pins H' b:=by
 refine⟨hn,VD (RJ I.lt hb),I.nofs hb,.inr (Sh I.sz hb),fun x c e z=>?_,fun p hp z=>?_⟩
 ·obtain⟨v,q⟩:=I.cell x c e;exact absurd (RJ q.lt (by rw[z];exact hb)) (Tp _)
 ·exact absurd (RJ (RK (I.pin p hp).1) (by rw[z];exact hb)) (Tp _)
structure Turn (P:Program)(w:World)(K:Fgx)(tg:Expr)(J:It)(fp:List Addr)(it:Addr)(tn:Nat->Heap->Prop):Prop where
 mem:it∈fp
 obj:∀i h,tn i h->∀b∈fp,∃o,h.get? b=some o/\∀v,o.data≠ .cell v
 keep:∀i h h',tn i h->(∀b∈fp,∀o,h.get? b=some o->h'.get? b=some o)->tn i h'
 item:∀(X:Cx),X.prog=P->X.w=w->X.K=K->X.calm=true->∀(i:Nat) (pins:Pnx) (s:Shared) (σ:St) (H:Hp) (E:Value->Shared->Prop),Inv X pins σ H s->(∀b∈fp,cL X pins H b)->tn i s.heap->J.go i H->
  wpAny (model P w) X.A (pyNext (.ref it)) (fun r s1=>∃u,r=some u/\
   wpAny (model P w) X.A (letOwnedTupleGo tg (.ref it) u) (fun _ s2=>∃x H',Inv X pins σ H' s2/\RelV x u/\J.yld i H x H'/\tn (i + 1) s2.heap/\∀b∈fp,H' b=none) E s1) E s
 done:∀(X:Cx),X.prog=P->X.w=w->X.K=K->X.calm=true->∀(i:Nat) (pins:Pnx) (s:Shared) (σ:St) (H:Hp) (E:Value->Shared->Prop),Inv X pins σ H s->(∀b∈fp,cL X pins H b)->tn i s.heap->J.stop i H->
  wpAny (model P w) X.A (pyNext (.ref it)) (fun r s1=>r=none/\Inv X pins σ H s1) E s
 self:∀(A:Around) (i:Nat) (s:Shared) (Q:Value->Shared->Prop) (E:Value->Shared->Prop),tn i s.heap->Q (.ref it) s->wpAny (model P w) A (pyIter (.ref it)) Q E s
abbrev TI:=St->Hp->(It->Hp->Prop)->Prop
def PIE (X:Cx)(pins:Pnx)(σ:St)(tg:Expr)(R:It->Hp->Prop)(itv:Value)(s2:Shared):Prop:=
 ∃(it:Addr) (fp:List Addr) (tn:Nat->Heap->Prop) (J:It) (H':Hp),itv=.ref it/\Inv X pins σ H' s2/\Turn X.prog X.w X.K tg J fp it tn/\tn 0 s2.heap/\(∀b∈fp,cL X pins H' b)/\R J H'
def PI (X:Cx)(tg iter:Expr)(wi:TI):Prop:=
 ∀(pins:Pnx) (s:Shared) (σ:St) (H:Hp) (R:It->Hp->Prop),Inv X pins σ H s->wi σ H R->
  wpAny (model X.prog X.w) X.A (eval iter X.env) (fun v s1=>wpAny (model X.prog X.w) X.A (pyIter v) (PIE X pins σ tg R) X.xe s1) X.xe s
theorem pF {M:Model}{A:Around}{E:Value->Shared->Prop}{s:Shared}{tg:Expr}{it:Addr}{u:Value}{o:Obj}{n:String}{vs:Array Value}{Q:Unit->Shared->Prop}(ho:s.heap.get? it=some o)(hc:o.cls=.type n)(hd:o.data=.fields vs)
    (hn:["enumerate","zip","dict_itemiterator","dict_reverseitemiterator","odict_iterator","itertools.zip_longest","itertools.pairwise"].contains n=false) (hQ:Q () s):wpAny M A (letOwnedTupleGo tg (.ref it) u) Q E s:=by
  unfold letOwnedTupleGo;cases tg<;>first
    |exact RZ hQ
    | (cases u<;>first
        |exact RZ hQ
        | (refine R8 (wpAny_load ho ?_)
           rw[hc,hd];show wpAny M A (if (["enumerate","zip","dict_itemiterator","dict_reverseitemiterator","odict_iterator","itertools.zip_longest","itertools.pairwise"].contains n && vs[0]? ==some (rawInt _))=true then _ else _) Q E s
           rw[R5 (by intro h;rw[hn,Bool.false_and]at h;cases h)];exact RZ hQ))
noncomputable def zU (K:Fgx) (a:Addr):It:=
 ⟨fun i H=>∃xs x,bf K H a xs/\xs[i]? =some x,fun i H x H'=>H'=H/\∀xs,bf K H a xs->xs[i]? =some x,fun i H=>∃xs,bf K H a xs/\xs.length<=i⟩
noncomputable def rM (lo:Int) (n:Nat):It:=⟨fun i _=>i<n,fun i H x H'=>H'=H/\x=.int (lo + i),fun i _=>n<=i⟩
theorem Qf {P:Program}{w:World}{K:Fgx}{tg:Expr}(a it:Addr):Turn P w K tg (zU K a) [it] it (fun i h=>h.IsListIter it a i) where
 mem:=by simp
 obj:=fun i h st b hb=>by
  have e:b=it:=by simpa using hb
  subst e;obtain⟨o,e,c,d⟩:=st;exact⟨o,e,fun v z=>by rw[d]at z;cases z⟩
 keep:=fun i h h' st k=>st.at fun o e=>k it (by simp) o e
 item:=by
  intro X hP hw hK hc i pins s σ H E I hf st hg;subst hP hw hK;obtain⟨xs,x,hq,hx⟩:=hg;obtain⟨its,rv,p,hz⟩:=I.list hq;obtain⟨u,hu,ru⟩:=rv.get hx;obtain⟨f0,f1,f2,f3,f4,f5⟩:=hf it (by simp);refine wpAny_pyNext_list_item st p.isList (x:=u) (by simpa using hu) fun h' st' sb=>?_;have I1:Inv X pins σ H {s with heap:=h'}:=I.turned (t':=s.toks) (fun b o hb e=>(sb.2 b hb).trans e) f0 f1 f3 f4 f5;obtain⟨o,e,c,d⟩:=id st';exact⟨u,rfl,pF (s:={s with heap:=h'}) e c d (by decide) ⟨x,H,I1,ru,⟨rfl,fun ys hy=>by rw[I.list_inj hy hq];exact hx⟩,st',fun b hb=>(hf b hb).1⟩⟩
 done:=by
  intro X hP hw hK hc i pins s σ H E I hf st hg;subst hP hw hK;obtain⟨xs,hq,hx⟩:=hg;obtain⟨its,rv,p,hz⟩:=I.list hq;obtain⟨f0,f1,f2,f3,f4,f5⟩:=hf it (by simp);have hl:=rv.length;exact wpAny_pyNext_list_end (I.ok.hd hc) st p.isList (by simp;omega) fun h' eb=>⟨rfl,I.turned (t':=s.toks) (fun b o hb e=>eb b o hb e) f0 f1 f3 f4 f5⟩
 self:=fun _ _ _ _ _ st h=>wpAny_pyIter_listiter st h
theorem Qg {P:Program}{w:World}{K:Fgx}{tg:Expr}(it:Addr)(lo:Int)(n:Nat):Turn P w K tg (rM lo n) [it] it (fun i h=>IsRangeIter h it (lo + (i:Nat) * 1) ((n:Int) - (i:Nat)) 1) where
 mem:=by simp
 obj:=fun i h st b hb=>by
  have e:b=it:=by simpa using hb
  subst e;exact ⟨_,st,fun v z=>by
   have z':Data.fields _=Data.cell v:=z;cases z'⟩
 keep:=fun i h h' st k=>k it (by simp) _ st
 item:=by
  intro X hP hw hK hc i pins s σ H E I hf st hg;subst hP hw hK;obtain⟨f0,f1,f2,f3,f4,f5⟩:=hf it (by simp);have W:=Walks.range (prog:=X.prog) (w:=X.w) (I.ok.hd hc) it lo 1 n;refine W.item i s _ _ hg st fun v h' tk hv st' kk=>?_;obtain⟨t,rfl⟩:=hv;have I1:Inv X pins σ H {s with heap:=h',toks:=tk}:=I.turned (fun b o hb e=>kk b o (by simpa using hb) e) f0 f1 f3 f4 f5;refine⟨_,rfl,pF (s:={s with heap:=h',toks:=tk}) (n:="range_iterator") st' rfl rfl (by decide) ⟨.int (lo + i),H,I1,⟨t,?_⟩,⟨rfl,rfl⟩,st',fun b hb=>(hf b hb).1⟩⟩;rw[Int.mul_one]
 done:=by
  intro X hP hw hK hc i pins s σ H E I hf st hg;subst hP hw hK;obtain⟨f0,f1,f2,f3,f4,f5⟩:=hf it (by simp);exact wpAny_pyNext_range_end (I.ok.hd hc) st (by have:n<=i:=hg;omega) fun h' eb=>⟨rfl,I.turned (t':=s.toks) (fun b o hb e=>eb b o hb e) f0 f1 f3 f4 f5⟩
 self:=fun _ _ _ _ _ st h=>wpAny_pyIter_rangeiter st h
section
variable {X:Cx}{tg:Expr}
noncomputable def GF (K:Fgx) (tl:TE):TI:=fun σ H R=>tl σ H fun x H1=>∃a,x=.ref a/\(∃xs,bf K H1 a xs)/\R (zU K a) H1
theorem Kg {l:Expr}{tl:TE}(hl:PE X l tl):PI X tg l (GF X.K tl):=by
 intro pins s σ H R I h;refine aM (hl pins s σ H _ I h) fun v s1 ⟨x,H1,I1,r1,q1⟩=>?_;obtain⟨a,e,⟨xs,hq⟩,q⟩:=q1;subst e;cases r1;obtain⟨its,rv,p,hz⟩:=I1.list hq;refine wpAny_pyIter_list p.isList ?_;refine⟨s1.heap.objs.size,[s1.heap.objs.size],_,_,H1,rfl,I1.kept (t':=s1.toks) fun b o e=>RL _ e,Qf a _,⟨_,Sg _ rfl,rfl,rfl⟩,fun b hb=>?_,q⟩;have e:b=s1.heap.objs.size:=by simpa using hb
 subst e;exact I1.fpOk (RN _) (I1.hok.fresh (RN _))
theorem Oi {pins:Pnx}{σ:St}{H:Hp}{s:Shared}{R:It->Hp->Prop}{E:Value->Shared->Prop}{lo hi:Int}{t u v:Tok}{tk:Nat}(I:Inv X pins σ H s)(h1: -(2 ^ 62)<=lo)(h2:lo<2 ^ 62)(h3: -(2 ^ 62)<=hi)(h4:hi<2 ^ 62)
  (q:R (rM lo (hi - lo).toNat) H):wpAny (model X.prog X.w) X.A (pyIter (.ref s.heap.objs.size)) (PIE X pins σ tg R) E {s with heap:=s.heap.push {cls:=.type "range",data:=.fields #[.int lo t,.int hi u,.int 1 v]},toks:=tk}:=by
 refine wpAny_pyIter_range (IsRange.new ..) (small_one h1 h2 h3 h4) ?_;have I1 : Inv X pins σ H { s with heap := s.heap.push { cls := .type "range", data := .fields #[.int lo t, .int hi u, .int 1 v] }, toks := tk } := I.kept fun b o e => RL _ e;refine ⟨(s.heap.push {cls:=.type "range",data:=.fields #[.int lo t,.int hi u,.int 1 v]}).objs.size,[(s.heap.push {cls:=.type "range",data:=.fields #[.int lo t,.int hi u,.int 1 v]}).objs.size],_,_,H,rfl,
  I1.kept (t':=tk) fun b o e=>RL _ e,Qg _ lo (hi - lo).toNat,?_,fun b hb=>?_,q⟩
 ·have e1:lo + ((0:Nat):Int) * 1=lo:=by simp
  have e2:(((hi - lo).toNat:Nat):Int) - ((0:Nat):Int)=Builtin.Range.rangeSize lo hi 1:=by rw[rangeSize_one];split<;>omega
  show IsRangeIter _ _ (lo + ((0:Nat):Int) * 1) ((((hi - lo).toNat:Nat):Int) - ((0:Nat):Int)) 1;rw[e1,e2];exact Sg _ rfl
 ·have e:b=(s.heap.push {cls:=.type "range",data:=.fields #[.int lo t,.int hi u,.int 1 v]}).objs.size:=by simpa using hb
  subst e;exact I1.fpOk (RN _) (I1.hok.fresh (RN _))
noncomputable def ni (ta:TA):TI:=fun σ H R=>ta σ H fun vs H1=>∃j:Int,vs=[.int j]/\ -(2 ^ 62)<=j/\j<2 ^ 62/\R (rM 0 j.toNat) H1
theorem Kh {a:Expr}{ta:TA}{p pos:Pos}(hg:Gl X "range")(hm:X.mg "range"=none)(ha:PA X [a] ta)(hs:starEach [a] X.env=[(false,eval a X.env)]:=by rfl):PI X tg (.Call (.Name "range" p) [a] [] pos) (ni ta):=by
  intro pins s σ H R I h;refine Call_ (sW I hg hm boot_range (U4 (aM (ha pos pins s σ H _ I h) fun us s1 ⟨vs,H1,I1,r1,q1⟩=>?_) hs rfl));obtain⟨j,e,q1,q2,q⟩:=q1;subst e
  cases r1 with
  |cons r rr=>
    cases rr;obtain⟨t,rfl⟩:=r;exact call_range_1 (Oi I1 (by omega) (by omega) q1 q2 (by simpa using q))
noncomputable def zE (wi:TI) (g:TG) (tb:TS):TS:=fun D σ H=>wi σ H fun J H1=>∃W:Nat->Nat->St->Hp->Prop,(∃m,W 0 m σ H1)/\∀i m σ H,W i m σ H->
 (J.stop i H/\D.nx σ H)\/(J.go i H/\∃N:St->Hp->Prop,(∀σ' H',N σ' H'->∃m',m'<m/\W (i + 1) m' σ' H')/\∀x H',J.yld i H x H'->g x σ H' fun σ2 H2=>tb {D with nx:=N,ct:=N,bk:=D.nx} σ2 H2)
noncomputable def pQ (fp:List Addr) (h:Heap):Pnx:=fp.filterMap fun b=>(h.get? b).map fun o=>(b,o)
theorem tK (hb:b∈fp)(e:h.get? b=some o):(b,o)∈pQ fp h:=VF.mpr ⟨b,hb,by rw[e];rfl⟩
theorem Jp (hp:p∈pQ fp h):p.1∈fp/\h.get? p.1=some p.2:=by
  obtain⟨b,hb,e⟩:=VF.mp hp
  cases q:h.get? b with
  |none=>rw[q]at e;cases e
  |some o=>
    rw[q]at e;have e':(b,o)=p:=R0 e;subst e';exact⟨hb,q⟩
theorem Inv.pinned (I:Inv X pins σ H s)(hf:∀b∈fp,cL X pins H b)(ho:∀b∈fp,∃o,s.heap.get? b=some o/\∀v,o.data≠ .cell v):Inv X (pins ++ pQ fp s.heap) σ H s:=
 I.pins_of fun p hp=>(Uh.mp hp).elim (fun z=>I.pin p (R6 _ z)) fun z=>by
  obtain⟨hb,e⟩:=Jp z;obtain⟨f0,f1,f2,_⟩:=hf p.1 hb;obtain⟨o,e',d⟩:=ho p.1 hb;rw[e]at e';cases e';exact⟨e,f0,f1,f2,d⟩
theorem Inv.unpinned (I:Inv X (pins ++ pl) σ H s):Inv X pins σ H s:=I.pins_of fun p hp=>I.pin p (R6 _ (Vr _ hp))
theorem Kv (hp:PassesOwn (model X.prog X.w) X.A X.env X.xe)(hc:X.calm=true)(hi:PI X tg iter wi)(hg:PG X tg g)(hb:dM X body tb)
  (hs:∀x,foldedSetIterable iter X.env x=pure x:=by intro _;rfl):PS X (.For tg iter body [] pos) (zE wi g tb):=by
 intro pins s σ H D I h;refine wpAny_For (aM (hi pins s σ H _ I h) fun v s1 h1=>aM h1 fun itv s2 h2=>?_) hs;obtain⟨it,fp,tn,J,H2,e,I2,T,st2,f2,W,⟨m0,w0⟩,turn⟩:=h2;subst e
 -- what stays true of the iterator's objects through the loop
 have stat:∀{H':Hp},(∀b∈fp,H' b=none)->∀b∈fp,cL X pins H' b:=fun hn b hb=>⟨hn b hb,(f2 b hb).2⟩;refine codeAny_forLoop_any (fun n s'=>∃i σ' H',Inv X pins σ' H' s'/\tn i s'.heap/\(∀b∈fp,H' b=none)/\W i n σ' H') ?_ m0 ⟨0,σ,H2,I2,st2,fun b hb=>(f2 b hb).1,w0⟩;rintro n s3 ⟨i,σ3,H3,I3,st3,fr3,w3⟩;rcases turn i n σ3 H3 w3 with⟨stop,qn⟩ |⟨go,N,hN,step⟩
 ·refine Ui hp (aM (T.done X rfl rfl rfl hc i pins s3 σ3 H3 X.xe I3 (stat fr3) st3 stop) fun r s4 ⟨hr,I4⟩=>?_);subst hr;exact wpAny_execs_nil ⟨σ3,H3,I4,qn⟩
 ·refine Ui hp (aM (T.item X rfl rfl rfl hc i pins s3 σ3 H3 X.xe I3 (stat fr3) st3 go) fun r s4 ⟨u,hr,h4⟩=>?_);subst hr;refine Ui hp (aM h4 fun _ s5 ⟨x,H5,I5,r5,y5,st5,fr5⟩=>?_);have I5':=I5.pinned (stat fr5) (T.obj _ _ st5);refine Ui hp (aM (hg _ s5 σ3 H5 x u _ I5' r5 (step x H5 y5)) fun _ s6 ⟨σ6,H6,I6,q6⟩=>?_);refine Ui hp (aM (hb _ s6 σ6 H6 _ I6 q6) fun f s7 q7=>?_);have again:∀{σ7:St} {H7:Hp},Inv X (pins ++ pQ fp s5.heap) σ7 H7 s7->N σ7 H7->∃m,m<n/\∃i σ' H',Inv X pins σ' H' s7/\tn i s7.heap/\(∀b∈fp,H' b=none)/\W i m σ' H':=fun {σ7 H7} I7 n7=>by
   obtain⟨m',hm,w7⟩:=hN σ7 H7 n7;refine⟨m',hm,i + 1,σ7,H7,I7.unpinned,T.keep _ _ _ st5 fun b hb o e=>(I7.pin (b,o) (R6 _ (R6 _ (tK hb e)))).1,fun b hb=>?_,w7⟩;obtain⟨o,e,d⟩:=T.obj _ _ st5 b hb;exact(I7.pin (b,o) (R6 _ (R6 _ (tK hb e)))).2.1
  cases f with
  |next=>obtain⟨σ7,H7,I7,n7⟩:=q7;exact again I7 n7
  |cont=>obtain⟨σ7,H7,I7,n7⟩:=q7;exact again I7 n7
  |brk=>obtain⟨σ7,H7,I7,q7⟩:=q7;exact⟨σ7,H7,I7.unpinned,q7⟩
  |ret v=>obtain⟨x7,σ7,H7,I7,r7,q7⟩:=q7;exact⟨x7,σ7,H7,I7.unpinned,r7,q7⟩
end
abbrev R2:=V->V->Hp->VK->Prop
def aV (X:Cx)(f:Value->Value->Sem Value)(r:R2):Prop:=
 ∀(pins:Pnx) (s:Shared) (σ:St) (H:Hp) (x y:V) (v u:Value) (Q:VK),Inv X pins σ H s->RelV x v->RelV y u->r x y H Q->
  wpAny (model X.prog X.w) X.A (f v u) (EP X pins σ Q) X.xe s
def cI (X:Cx)(f:Value)(r:List V->Hp->VK->Prop):Prop:=
 ∀(pins:Pnx) (s:Shared) (σ:St) (H:Hp) (xs:List V) (us:List Value) (Q:VK),Inv X pins σ H s->Vals xs us->r xs H Q->
  wpAny (model X.prog X.w) X.A (call f us) (EP X pins σ Q) X.xe s
def vU (X:Cx)(r:V->Hp->(Bool->Hp->Prop)->Prop):Prop:=
 ∀(pins:Pnx) (s:Shared) (σ:St) (H:Hp) (x:V) (v:Value) (Q:Bool->Hp->Prop),Inv X pins σ H s->RelV x v->r x H Q->
  wpAny (model X.prog X.w) X.A (truthy v) (TP X pins σ Q) X.xe s
noncomputable def rF (r:R2) (ta tb:TE):TE:=fun σ H Q=>ta σ H fun x H1=>tb σ H1 fun y H2=>r x y H2 Q
noncomputable def rI (C:Int->Int->Prop) (g:Int->Int->V):R2:=fun x y H Q=>∃i j,x=.int i/\y=.int j/\C i j/\Q (g i j) H
noncomputable def dO (g:Int->Int->V):R2:=fun x y H Q=>∃i j,x=.int i/\y=.int j/\Q (g i j) H
section
variable {X:Cx}{a b c:Expr}{ta tb tc:TE}{pos:Pos}
theorem lD (ha:PE X a ta)(hb:PE X b tb){pins:Pnx}{s:Shared}{σ:St}{H:Hp}{R:V->V->Hp->Prop}(I:Inv X pins σ H s)
  (h:ta σ H fun x H1=>tb σ H1 fun y H2=>R x y H2) {Q:Value->Shared->Prop} {f:Value->Value->Sem Value}
  (hf:∀v u s2 x y H2,Inv X pins σ H2 s2->RelV x v->RelV y u->R x y H2->wpAny (model X.prog X.w) X.A (f v u) Q X.xe s2):
  wpAny (model X.prog X.w) X.A (eval a X.env) (fun v s₁=>wpAny (model X.prog X.w) X.A (eval b X.env) (fun u s₂=>wpAny (model X.prog X.w) X.A (f v u) Q X.xe s₂) X.xe s₁) X.xe s:=by
 refine aM (ha pins s σ H _ I h) fun v s1 ⟨x,H1,I1,r1,q1⟩=>?_;refine aM (hb pins s1 σ H1 _ I1 q1) fun u s2 ⟨y,H2,I2,r2,q2⟩=>?_;exact hf v u s2 x y H2 I2 r1 r2 q2
theorem yt {op:Operator}{r:R2}(ho:aV X (binaryOp op) r)(ha:PE X a ta)(hb:PE X b tb):PE X (.BinOp a op b pos) (rF r ta tb):=by
 intro pins s σ H Q I h;exact wpAny_BinOp (lD ha hb I h fun v u s2 x y H2 I2 rx ry q=>ho pins s2 σ H2 x y v u Q I2 rx ry q)
theorem yj {f:Value->Value->Sem Value}{C:Int->Int->Prop}{g:Int->Int->Int}
  (rule:∀(i j:Int) (t u:Tok) (s:Shared) (Q:Value->Shared->Prop) (E:Value->Shared->Prop),C i j->Q (.int (g i j) s.toks) {s with toks:=s.toks + 1}->wpAny (model X.prog X.w) X.A (f (.int i t) (.int j u)) Q E s):
  aV X f (rI C fun i j=>.int (g i j)):=by
 intro pins s σ H x y v u Q I rx ry h;obtain⟨i,j,rfl,rfl,hc,q⟩:=h;obtain⟨t,rfl⟩:=rx;obtain⟨t',rfl⟩:=ry;exact rule i j t t' s _ _ hc ⟨.int (g i j),H,I.tok _,⟨_,rfl⟩,q⟩
theorem pN {f:Value->Value->Sem Value}{g:Int->Int->Int}
  (rule:∀(i j:Int) (t u:Tok) (s:Shared) (Q:Value->Shared->Prop) (E:Value->Shared->Prop),Q (.int (g i j) s.toks) {s with toks:=s.toks + 1}->wpAny (model X.prog X.w) X.A (f (.int i t) (.int j u)) Q E s):
  aV X f (dO fun i j=>.int (g i j)):=by
 intro pins s σ H x y v u Q I rx ry h;obtain⟨i,j,rfl,rfl,q⟩:=h;obtain⟨t,rfl⟩:=rx;obtain⟨t',rfl⟩:=ry;exact rule i j t t' s _ _ ⟨.int (g i j),H,I.tok _,⟨_,rfl⟩,q⟩
theorem gU {f:Value->Value->Sem Value}{g:Int->Int->Bool}
  (rule:∀(i j:Int) (t u:Tok) (s:Shared) (Q:Value->Shared->Prop) (E:Value->Shared->Prop),Q (.bool (g i j)) s->wpAny (model X.prog X.w) X.A (f (.int i t) (.int j u)) Q E s):
  aV X f (dO fun i j=>.bl (g i j)):=by
 intro pins s σ H x y v u Q I rx ry h;obtain⟨i,j,rfl,rfl,q⟩:=h;obtain⟨t,rfl⟩:=rx;obtain⟨t',rfl⟩:=ry;exact rule i j t t' s _ _ ⟨.bl (g i j),H,I,rfl,q⟩
def nP (i j:Int):Prop:=0<j/\j<1073741824
def lB (i j:Int):Prop:=0<=j/\j<=1000000/\i.natAbs<2 ^ 64
def vN (i j:Int):Prop:=(-(2 ^ 64)<i/\i<2 ^ 64)\/(-(2 ^ 64)<j/\j<2 ^ 64)
theorem Jq:aV X (binaryOp .Add) (dO fun i j=>.int (i + j)):=pN fun _ _ _ _ _ _ _ q=>add_int q
theorem JN:aV X (binaryOp .Sub) (dO fun i j=>.int (i - j)):=pN fun _ _ _ _ _ _ _ q=>sub_int q
theorem yp:aV X (binaryOp .FloorDiv) (rI nP fun i j=>.int (i / j)):=yj fun i j _ _ _ _ _ hc q=>by
 have h1:(0:Int)<j:=hc.1;have h2:j<1073741824:=hc.2;exact floordiv_int (by omega) (by rw[Int.fdiv_eq_ediv_of_nonneg i (by omega)];exact q) (.inl (PyProof.noPylong_small (by omega)))
theorem nj:aV X (binaryOp .Mod) (rI (fun _ j=>0<j) fun i j=>.int (i % j)):=yj fun i j _ _ _ _ _ hc q=>by
 have h1:(0:Int)<j:=hc;exact mod_int' (by omega) (by rw[Int.fmod_eq_emod_of_nonneg i (by omega)];exact q)
theorem Cd:aV X (binaryOp .Pow) (rI lB fun i j=>.int (i ^ j.toNat)):=yj fun _ _ _ _ _ _ _ hc q=>pow_int_small hc.1 hc.2.1 hc.2.2 q
end
noncomputable def g_:V->V->Bool
 |.non,.non=>true |.non,.int _=>true |.int _,.non=>true |.non,.bl _=>true |.bl _,.non=>true |.non,.str _=>true |.str _,.non=>true
 |.int _,.int _=>true |.bl _,.bl _=>true |.str _,.str _=>true |.byt _,.byt _=>true
 |.int _,.str _=>true |.str _,.int _=>true |.bl _,.str _=>true |.str _,.bl _=>true
 |_,_=>false
def Mh:R2:=fun x y H Q=>g_ x y=true/\Q (.bl (decide (x=y))) H
def Mi:R2:=fun x y H Q=>g_ x y=true/\Q (.bl (!decide (x=y))) H
theorem Av:decide (V.int i=V.int j)=(i==j):=by
 rw[S5]
 simp
theorem sO:decide (V.bl i=V.bl j)=(i==j):=by
 rw[S5]
 simp
theorem Aw:decide (V.str i=V.str j)=(i==j):=by
 rw[S5]
 simp
theorem Aq:decide (V.byt i=V.byt j)=(i.toList==j.toList):=by
 rw[S5];cases i;cases j
 simp
section
variable {X:Cx}{a b c:Expr}{ta tb tc:TE}{pos:Pos}
theorem aP (I:Inv X pins σ H s)(q:Q (.bl k) H)(e:k=k'):EP X pins σ Q (.bool k') s:=by
 subst e;exact⟨.bl k,H,I,rfl,q⟩
theorem Jt:aV X (compareOp .Eq) Mh:=by
  intro pins s σ H x y v u Q I rx ry h;obtain⟨hs,q⟩:=h
  cases x with
  |non=>
    cases rx
    cases y with
    |non=>cases ry;exact PySem.EqNone.eq_none_none (aP I q (by simp))
    |bl j=>cases ry;exact PySem.EqNone.eq_none_bool (aP I q (by simp))
    |int j=>obtain⟨t',rfl⟩:=ry;exact PySem.EqNone.eq_none_int (aP I q (by simp))
    |str j=>obtain⟨t',rfl⟩:=ry;exact PySem.EqNone.eq_none_str (aP I q (by simp))
    |_=>exact absurd (show false=true from hs) RP
  |bl i=>
    cases rx
    cases y with
    |non=>cases ry;exact PySem.EqNone.eq_bool_none (aP I q (by simp))
    |bl j=>cases ry;exact eq_bool (aP I q sO)
    |str j=>obtain⟨t',rfl⟩:=ry;exact PySem.EqMixed.eq_bool_str (aP I q (by simp))
    |_=>exact absurd (show false=true from hs) RP
  |int i=>
    obtain⟨t,rfl⟩:=rx
    cases y with
    |non=>cases ry;exact PySem.EqNone.eq_int_none (aP I q (by simp))
    |int j=>obtain⟨t',rfl⟩:=ry;exact eq_int (aP I q Av)
    |str j=>obtain⟨t',rfl⟩:=ry;exact PySem.EqMixed.eq_int_str (aP I q (by simp))
    |_=>exact absurd (show false=true from hs) RP
  |str i=>
    obtain⟨t,rfl⟩:=rx
    cases y with
    |non=>cases ry;exact PySem.EqNone.eq_str_none (aP I q (by simp))
    |bl j=>cases ry;exact PySem.EqMixed.eq_str_bool (aP I q (by simp))
    |int j=>obtain⟨t',rfl⟩:=ry;exact PySem.EqMixed.eq_str_int (aP I q (by simp))
    |str j=>obtain⟨t',rfl⟩:=ry;exact eq_str (aP I q Aw)
    |_=>exact absurd (show false=true from hs) RP
  |byt i=>
    obtain⟨t,rfl⟩:=rx
    cases y with
    |byt j=>obtain⟨t',rfl⟩:=ry;exact PySem.W.eq_bytes (aP I q Aq)
    |_=>exact absurd (show false=true from hs) RP
  |_=>cases y<;>exact absurd (show false=true from hs) RP
theorem JG:aV X (compareOp .NotEq) Mi:=by
  intro pins s σ H x y v u Q I rx ry h;obtain⟨hs,q⟩:=h
  cases x with
  |non=>
    cases rx
    cases y with
    |non=>cases ry;exact PySem.EqNone.ne_none_none (aP I q (by simp))
    |bl j=>cases ry;exact PySem.EqNone.ne_none_bool (aP I q (by simp))
    |int j=>obtain⟨t',rfl⟩:=ry;exact PySem.EqNone.ne_none_int (aP I q (by simp))
    |str j=>obtain⟨t',rfl⟩:=ry;exact PySem.EqNone.ne_none_str (aP I q (by simp))
    |_=>exact absurd (show false=true from hs) RP
  |bl i=>
    cases rx
    cases y with
    |non=>cases ry;exact PySem.EqNone.ne_bool_none (aP I q (by simp))
    |bl j=>cases ry;exact ne_bool (aP I q (congrArg not sO))
    |str j=>obtain⟨t',rfl⟩:=ry;exact PySem.EqMixed.ne_bool_str (aP I q (by simp))
    |_=>exact absurd (show false=true from hs) RP
  |int i=>
    obtain⟨t,rfl⟩:=rx
    cases y with
    |non=>cases ry;exact PySem.EqNone.ne_int_none (aP I q (by simp))
    |int j=>obtain⟨t',rfl⟩:=ry;exact ne_int (aP I q (congrArg not Av))
    |str j=>obtain⟨t',rfl⟩:=ry;exact PySem.EqMixed.ne_int_str (aP I q (by simp))
    |_=>exact absurd (show false=true from hs) RP
  |str i=>
    obtain⟨t,rfl⟩:=rx
    cases y with
    |non=>cases ry;exact PySem.EqNone.ne_str_none (aP I q (by simp))
    |bl j=>cases ry;exact PySem.EqMixed.ne_str_bool (aP I q (by simp))
    |int j=>obtain⟨t',rfl⟩:=ry;exact PySem.EqMixed.ne_str_int (aP I q (by simp))
    |str j=>obtain⟨t',rfl⟩:=ry;exact ne_str (aP I q (congrArg not Aw))
    |_=>exact absurd (show false=true from hs) RP
  |byt i=>
    obtain⟨t,rfl⟩:=rx
    cases y with
    |byt j=>obtain⟨t',rfl⟩:=ry;exact PySem.W.ne_bytes (aP I q (congrArg not Aq))
    |_=>exact absurd (show false=true from hs) RP
  |_=>cases y<;>exact absurd (show false=true from hs) RP
theorem JF:aV X (compareOp .Lt) (dO fun i j=>.bl (decide (i<j))):=gU fun _ _ _ _ _ _ _ q=>lt_int q
theorem JD:aV X (compareOp .LtE) (dO fun i j=>.bl (decide (i<=j))):=gU fun _ _ _ _ _ _ _ q=>le_int q
theorem Jw:aV X (compareOp .Gt) (dO fun i j=>.bl (decide (j<i))):=gU fun _ _ _ _ _ _ _ q=>gt_int q
theorem Jv:aV X (compareOp .GtE) (dO fun i j=>.bl (decide (j<=i))):=gU fun _ _ _ _ _ _ _ q=>ge_int q
theorem Jy:aV X (compareOp .In) (fun x y H Q=>∃i j,x=.str i/\y=.str j/\Q (.bl (!(Builtin.Str.occurrences j i 0 j.length 1).isEmpty)) H):=by
 intro pins s σ H x y v u Q I rx ry h;obtain⟨i,j,rfl,rfl,q⟩:=h;obtain⟨t,rfl⟩:=rx;obtain⟨t',rfl⟩:=ry;exact in_str (aP I q rfl)
theorem JB:aV X (compareOp .Is) (fun x y H Q=>y=.non/\Q (.bl (decide (x=.non))) H):=by
 intro pins s σ H x y v u Q I rx ry h;obtain⟨rfl,q⟩:=h;cases ry;refine is_none_gen (aP I q ?_);cases x<;>first
  |(cases rx;rfl)
  |(obtain⟨t,rfl⟩:=rx;rfl)
theorem JL:aV X (compareOp .IsNot) (fun x y H Q=>y=.non/\Q (.bl (!decide (x=.non))) H):=by
 intro pins s σ H x y v u Q I rx ry h;obtain⟨rfl,q⟩:=h;cases ry;refine isnot_none_gen (aP I q ?_);cases x<;>first
  |(cases rx;rfl)
  |(obtain⟨t,rfl⟩:=rx;rfl)
theorem JM:aV X (compareOp .NotIn) (fun x y H Q=>∃i j,x=.str i/\y=.str j/\Q (.bl (!(!(Builtin.Str.occurrences j i 0 j.length 1).isEmpty))) H):=by
 intro pins s σ H x y v u Q I rx ry h;obtain⟨i,j,rfl,rfl,q⟩:=h;obtain⟨t,rfl⟩:=rx;obtain⟨t',rfl⟩:=ry;exact notIn_str (aP I q rfl)
theorem aV.or (h:aV X f r)(h':aV X f r'):aV X f (fun x y H Q=>r x y H Q\/r' x y H Q):=by
 intro pins s σ H x y v u Q I rx ry q;rcases q with q |q
 ·exact h pins s σ H x y v u Q I rx ry q
 ·exact h' pins s σ H x y v u Q I rx ry q
theorem JX {op:CmpOp}{r:R2}(ho:aV X (compareOp op) r)(ha:PE X a ta)(hb:PE X b tb)(hm:behindInMarks op b=false):PE X (.Compare a [op] [b] pos) (rF r ta tb):=by
 intro pins s σ H Q I h;exact wpAny_Compare1 (lD ha hb I h fun v u s2 x y H2 I2 rx ry q=>ho pins s2 σ H2 x y v u Q I2 rx ry q) hm
noncomputable def DN (t:TE):TT:=fun σ H Q=>t σ H fun x H'=>∃k,x=.bl k/\Q k H'
theorem KH (ho:aV X (compareOp op) r)(ha:PE X a ta)(hb:PE X b tb)(hm:behindInMarks op b=false):PT X (.Compare a [op] [b] pos) (DN (rF r ta tb)):=by
 intro pins s σ H Q I h;refine wpAny_isTrue_Compare1 (aM (ha pins s σ H _ I h) fun v s1 ⟨x,H1,I1,r1,q1⟩=>aM (hb pins s1 σ H1 _ I1 q1) fun u s2 ⟨y,H2,I2,r2,q2⟩=>
  aM (ho pins s2 σ H2 x y v u _ I2 r1 r2 q2) fun c s3 ⟨z,H3,I3,r3,k,e,q3⟩=>?_) hm
 subst e;cases r3;exact Uo ⟨H3,I3,q3⟩
def gD (K:Fgx)(x:V)(H:Hp)(k:Bool):Prop:=
 match x with
 |.non=>k=false
 |.bl b=>k=b
 |.int i=>k=(i !=0)
 |.str y=>y.length<=sizeLine/\k=((y.length:Int) !=0)
 |.byt y=>y.size<=sizeLine/\k=((y.size:Int) !=0)
 |.ref p=>(∃xs,bf K H p xs/\k= !xs.isEmpty)\/(∃xs,cW K H p xs/\k= !xs.isEmpty)\/∃kvs,H p=some (.dK kvs)/\k= !kvs.isEmpty
 |_=>False
theorem GQ (r:KV kvs vs):(!vs.isEmpty)= !kvs.isEmpty:=by
 cases r<;>rfl
theorem Bq (r:Vals xs its):(!its.toArray.isEmpty)= !xs.isEmpty:=by
 cases r<;>simp
theorem lX:(sizeLine:Nat)<2 ^ 63:=by rw[Uc];decide
theorem DQ:vU X (fun x H Q=>∃k,gD X.K x H k/\Q k H):=by
  intro pins s σ H x v Q I rx h;obtain⟨k,e,q⟩:=h;have hl:=lX;have hs:sizeLine=16777216:=Uc
  cases x with
  |non=>
    cases rx;have e':k=false:=e;subst e';exact truthy_none ⟨H,I,q⟩
  |bl b=>
    cases rx;have e':k=b:=e;subst e';exact Uo ⟨H,I,q⟩
  |int i=>
    obtain⟨t,rfl⟩:=rx;have e':k=(i !=0):=e;subst e';exact PySem.P.truthy_int ⟨H,I,q⟩
  |str y=>
    obtain⟨t,rfl⟩:=rx;obtain⟨hy,e'⟩:y.length<=sizeLine/\k=((y.length:Int) !=0):=e;subst e';exact PySem.P.truthy_str (by omega) ⟨H,I.tok _,q⟩
  |byt y=>
    obtain⟨t,rfl⟩:=rx;obtain⟨hy,e'⟩:y.size<=sizeLine/\k=((y.size:Int) !=0):=e;subst e';exact PySem.W.truthy_bytes (by omega) ⟨H,I.tok _,q⟩
  |ref p=>
    cases rx;have e':(∃xs,bf X.K H p xs/\k= !xs.isEmpty)\/(∃xs,cW X.K H p xs/\k= !xs.isEmpty)\/∃kvs,H p=some (.dK kvs)/\k= !kvs.isEmpty:=e;rcases e' with⟨xs,hx,e'⟩ |⟨xs,hx,e'⟩ |⟨kvs,hx,e'⟩
    · subst e';obtain⟨its,r,pl,hz⟩:=I.list hx;have hlen:=r.length;exact wpAny_truthy_list pl.isList (by simp only[tG];omega) ⟨H,I.tok _,by rw[Bq r];exact q⟩
    · subst e';obtain⟨its,r,pl,hz⟩:=I.tuple hx;have hlen:=r.length;exact truthy_tuple pl (by simp only[tG];omega) ⟨H,I.tok _,by rw[Bq r];exact q⟩
    · subst e';obtain⟨hz,hS,vs,r,m⟩:kvs.length<=sizeLine/\(p==sysModules)=false/\∃vs,KV kvs vs/\s.heap.DictOf (xQ X.prog X.w) p vs:=I.hok p _ hx;have hlen:kvs.length=vs.length:=Paired.length r;exact wpAny_truthy_dict hS m (by omega) ⟨H,I.tok _,by rw[GQ r];exact q⟩
  |_=>exact(show False from e).elim
theorem KN (ha:PE X a ta)(he:∀whole,isTrue a X.env whole=(do let v <-whole;standAt a.pos;holding [v] (truthy v))):
  PT X a (fun σ H Q=>ta σ H fun x H'=>∃k,gD X.K x H' k/\Q k H'):=by
 intro pins s σ H Q I h;exact isTrue_plain (aM (ha pins s σ H _ I h) fun v s1 ⟨x,H1,I1,r1,q1⟩=>DQ pins s1 σ H1 x v Q I1 r1 q1) (he _)
theorem Jr:aV X (binaryOp .Add) (fun x y H Q=>∃i j,x=.str i/\y=.str j/\i.length + j.length<=sizeLine/\Q (.str (i ++ j)) H):=by
 intro pins s σ H x y v u Q I rx ry h;obtain⟨i,j,rfl,rfl,hz,q⟩:=h;obtain⟨t,rfl⟩:=rx;obtain⟨t',rfl⟩:=ry;exact add_str (fun t' tk=>⟨.str (i ++ j),H,I.tok _,⟨_,rfl⟩,q⟩) hz
theorem vals1 (r:Vals [x] us):∃u,us=[u]/\RelV x u:=by
 cases r with
 |cons r1 r2=>cases r2;exact⟨_,rfl,r1⟩
theorem vals2 (r:Vals [x,y] us):∃u w',us=[u,w']/\RelV x u/\RelV y w':=by
  cases r with
  |cons r1 r2=>
    cases r2 with
    |cons r3 r4=>cases r4;exact⟨_,_,rfl,r1,r3⟩
theorem Ah (hc:X.calm=true):cI X (.builtin "max") (fun xs H Q=>∃i j,xs=[.int i,.int j]/\Q (.int (if j > i then j else i)) H):=by
 intro pins s σ H xs us Q I r h;obtain⟨i,j,rfl,q⟩:=h;obtain⟨u,w',rfl,⟨t,rfl⟩,⟨t',rfl⟩⟩:=vals2 r;refine max_two_ints (I.ok.hd hc) fun h' tk k=>⟨_,H,I.kept k,?_,q⟩
 by_cases hj:j > i
 ·rw[RW hj,RW hj];exact⟨_,rfl⟩
 ·rw[R5 hj,R5 hj];exact⟨_,rfl⟩
theorem Fg (hc:X.calm=true):cI X (.builtin "min") (fun xs H Q=>∃i j,xs=[.int i,.int j]/\Q (.int (if j<i then j else i)) H):=by
 intro pins s σ H xs us Q I r h;obtain⟨i,j,rfl,q⟩:=h;obtain⟨u,w',rfl,⟨t,rfl⟩,⟨t',rfl⟩⟩:=vals2 r;refine min_two_ints (I.ok.hd hc) fun h' tk k=>⟨_,H,I.kept k,?_,q⟩
 by_cases hj:j<i
 ·rw[RW hj,RW hj];exact⟨_,rfl⟩
 ·rw[R5 hj,R5 hj];exact⟨_,rfl⟩
theorem Fi:cI X (.type "str") (fun xs H Q=>∃i,xs=[.int i]/\i.natAbs.log2<1920/\Q (.str (toString i)) H):=by
 intro pins s σ H xs us Q I r h;obtain⟨i,rfl,hz,q⟩:=h;obtain⟨u,rfl,t,rfl⟩:=vals1 r;exact PySem.P.str_of_int hz ⟨.str _,H,I.tok _,⟨_,rfl⟩,q⟩
end
structure ObjM (h:Heap)(x dx C:Addr)(mA:Mgx):Prop where
 obj:h.get? x=some (PySem.W.instObj C dx)
 ns:h.Ns1 dx mA
 ne:dx≠x
theorem Hq {h:Heap}{dx:Addr}{mA:Mgx}(n:h.Ns1 dx mA):∃od,h.get? dx=some od/\∀name,PySem.W.lookIn name od=some (mA name):=by
 obtain⟨o,es,ep,ho,hd,hk,_,hm⟩:=n;refine⟨o,ho,fun name=>?_⟩;have e:=hm name;unfold nsFind findBy at e;rw[<-Array.find?_toList]at e;unfold PySem.W.lookIn;rw[hd];dsimp only
 split
 ·rename_i y q;rw[q]at e;exact congrArg some e
 ·rename_i q;rw[q]at e;have a:es.toList.any (·.refKey)=false:=by
   rw[List.any_eq_false];intro y hy;obtain⟨z,t,hkey⟩:=hk y (Array.mem_toList_iff.mp hy)
   simp[DictEntry.refKey,hkey]
  have a':¬ es.toList.any (·.refKey)=true:=by rw[a];exact RP
  rw[R5 a'];exact congrArg some e
theorem ObjM.look (I:ObjM h x dx C mA):∃od,PySem.W.InstAt h x (PySem.W.instObj C dx) C (some od)/\∀name,PySem.W.lookIn name od=some (mA name):=
 let ⟨od,ho,hl⟩:=Hq I.ns
 ⟨od,⟨I.obj,rfl,rfl,ho⟩,hl⟩
section
variable {prog:Program}{w:World}{A:Around}{E:Value->Shared->Prop}{s:Shared}{K:Fgx}{x dx C f:Addr}{mA:Mgx}{name:Str}{v:Value}
theorem get_map (X:K.In s.heap)(I:ObjM s.heap x dx C mA)(hg:PySem.W.plainGet K C name=true)(hh:PySem.W.hasDictIn K C=true)
  (ha:PySem.W.findIn K (.ref C) name=some none) (hv:mA name=some v) (hv':PySem.W.handedIn v=true) (h:Q v {s with toks:=s.toks + 1}):
  wpAny (model prog w) A (getAttr (.ref x) name expr) Q E s:=by
 obtain⟨od,J,hl⟩:=I.look;exact PySem.W.get_value X J (UJ hg).1 (PySem.W.findObj_own hh ha rfl (by rw[hl,hv])) hv' h
theorem Gv (X:K.In s.heap)(I:ObjM s.heap x dx C mA)(hg:PySem.W.plainGet K C name=true)
  (hf:PySem.W.findIn K (.ref C) name=some (some (.ref f))) (ht:PySem.W.isFn K (.ref f)=true) (hv:mA name=none) (h:Q (.ref f,[.ref x]) s):
  wpAny (model prog w) A (getMethod (.ref x) name pl) Q E s:=by
 obtain⟨od,J,hl⟩:=I.look;exact PySem.W.method_fn X J (UJ hg).1 (UJ hg).2 hf (Tt.mp ht) (by show(PySem.W.lookIn name od).map (·.isSome)=some false;rw[hl,hv];rfl) h
theorem vm {ns:List Str}{Q:Unit->Shared->Prop}(X:K.In s.heap)(I:ObjM s.heap x dx C mA)
  (hs:PySem.W.findIn K (.ref C) "__setattr__"=some (some (.builtin "object.__setattr__"))) (hp:PySem.W.plainOver K C=true) (ht:PySem.W.takerIn K C name=some none) (hh:PySem.W.hasDictIn K C=true)
  (hw:PySem.Within mA ns) (hsz:ns.length<=sizeLine)
  (h:∀h',ObjM h' x dx C (fun y=>if y=name then some v else mA y)->Heap.SameBut dx s.heap h'->Q () {s with heap:=h',toks:=s.toks + 2}):
  wpAny (model prog w) A (setAttr (.ref x) name v) Q E s:=by
 obtain⟨od,J,hl⟩:=I.look;refine PySem.W.set_plain X J hs (PySem.W.osa_open (s:={s with toks:=s.toks + 1}) (r:=none) X J hp ht fun b=>?_);obtain⟨cd,hc,hd'⟩:=PySem.W.any_some hh;have hx:s.heap.get? x=some ⟨.ref C,some dx,.plain, #[]⟩:=I.obj;refine R8 (RZ (R8 (R8 (wpAny_loadPart hx (R8 (PySem.W.Looks.here (s:={s with toks:=s.toks + 1}) (PySem.W.looks_clsIn X hc) ?_))))));rw[hd'];refine RZ (a:=some dx) (R8 (RZ (R8 ?_)));refine wpAny_nsSet1 (s:={s with toks:=s.toks + 1}) I.ns fun h' hn2 hs2=>?_;obtain⟨oD,esD,epD,hoD,hdD,hcD⟩:=hn2.count (PySem.Within.cons name v hw);refine R8 (wpAny_lookBehind hoD (by rw[hdD];exact pastItsLine_dict (Sh hcD (by rw[Sw];omega))) ?_);exact RZ (h _ ⟨(hs2.2 _ (Tj I.ne)).trans I.obj,hn2,I.ne⟩ hs2)
theorem Hv (X:K.In s.heap)(hm:PySem.W.makesIn K C=true)
  (hi:PySem.W.findIn K (.ref C) "__init__"=some (some (.ref f))) (hf:PySem.W.typeIn K (.ref f)=some (.type "function"))
  (h:codeAny (model prog w) (A.under (.builtin "type.__call__" ⟨.ref C::vs,kw⟩)) (.call (.ref f) ⟨.ref (s.heap.objs.size + 1)::vs,kw⟩) (PySem.W.InitBack (s.heap.objs.size + 1) R)
   {s with heap:=(s.heap.push PySem.W.emptyDict).push (PySem.W.instObj C s.heap.objs.size)}):
  codeAny (model prog w) A (.call (.ref C) ⟨vs,kw⟩) R s:=by
 obtain⟨hh,g,d,t,os⟩:=s;exact PySem.W.make_core (PySem.W.makes_of X hm) (PySem.W.looks_findIn X hi) (fun self=>PySem.W.bind_fn X self hf) (.inl rfl) h
end
noncomputable def aQ (f:Str) (v:V):List (Str×V)->List (Str×V)
 | []=>[(f,v)]
 |(g,x)::r=>if g=f then(g,v)::r else(g,x)::aQ f v r
theorem BP (f g:Str)(v:V):∀fs:List (Str×V),(aQ f v fs).lookup g=if g=f then some v else fs.lookup g
  | []=>by
    show List.lookup g [(f,v)]=_
    by_cases h:g=f
    · have hb:(g==f)=true:=Tt.mpr h;simp only[List.lookup,hb,RW h]
    · have hb:(g==f)=false:=S7.mpr h;simp only[List.lookup,hb,R5 h]
  |(k,x)::r=>by
    have ih:=BP f g v r;rw[show aQ f v ((k,x)::r)=(if k=f then(k,v)::r else(k,x)::aQ f v r) from rfl]
    by_cases hk:k=f
    · rw[RW hk]
      by_cases h:g=k
      · have hb:(g==k)=true:=Tt.mpr h;simp only[List.lookup,hb,RW (h.trans hk)]
      · have hb:(g==k)=false:=S7.mpr h;simp only[List.lookup,hb,R5 (fun e:g=f=>h (e.trans hk.symm))]
    · rw[R5 hk]
      by_cases h:g=k
      · have hb:(g==k)=true:=Tt.mpr h;simp only[List.lookup,hb,R5 (fun e:g=f=>hk (h.symm.trans e))]
      · have hb:(g==k)=false:=S7.mpr h;simp only[List.lookup,hb];exact ih
theorem xG (f:Str)(v:V):∀fs:List (Str×V),f∈(aQ f v fs).map (·.1)/\∀g,g∈fs.map (·.1)->g∈(aQ f v fs).map (·.1)
  | []=>⟨by simp[aQ],fun g h=>by simp at h⟩
  |(k,x)::r=>by
    obtain⟨i1,i2⟩:=xG f v r;rw[show aQ f v ((k,x)::r)=(if k=f then(k,v)::r else(k,x)::aQ f v r) from rfl]
    by_cases hk:k=f
    · rw[RW hk];subst hk;exact⟨by simp,fun g h=>by simpa using h⟩
    · rw[R5 hk];refine⟨?_,fun g h=>?_⟩
      · rw[TY];exact R4 _ i1
      · rw[TY]at h ⊢;rcases Sy.mp h with e |e
        · exact Sy.mpr (.inl e)
        · exact R4 _ (i2 g e)
theorem BK (f:Str)(v:V):∀fs:List (Str×V),(aQ f v fs).length<=fs.length + 1
  | []=>by simp[aQ]
  |(k,x)::r=>by
    have ih:=BK f v r;rw[show aQ f v ((k,x)::r)=(if k=f then(k,v)::r else(k,x)::aQ f v r) from rfl]
    by_cases hk:k=f
    · rw[RW hk,Sw,Sw];omega
    · rw[R5 hk,Sw,Sw];omega
theorem cC.some_of (r:cC (some v) o):∃u,o=some u/\RelV v u:=by
 cases o with
 |none=>exact(show False from r).elim
 |some u=>exact⟨u,rfl,r⟩
theorem cC.none_of (r:cC none o):o=none:=by
 cases o with
 |none=>rfl
 |some u=>exact(show False from r).elim
theorem Gy (r:RelV v u):PySem.W.handedIn u=true:=by
 cases v with
 |non=>cases (show u=Value.none from r);rfl
 |bl b=>cases (show u=Value.bool b from r);rfl
 |int i=>obtain⟨t,e⟩:=(show ∃t,u=Value.int i t from r);cases e;rfl
 |str x=>obtain⟨t,e⟩:=(show ∃t,u=Value.str x t from r);cases e;rfl
 |byt b=>obtain⟨t,e⟩:=(show ∃t,u=Value.bytes b t from r);cases e;rfl
 |flt b=>obtain⟨t,e⟩:=(show ∃t,u=Value.float b t from r);cases e;rfl
 |ref a=>cases (show u=Value.ref a from r);rfl
 |ty n=>cases (show u=Value.type n from r);rfl
section
variable {P:Program}{w:World}{H H':Hp}{h h':Heap}{a C dx:Addr}{fs fs':List (Str×V)}
theorem sU (hok:bG P w H h)(e:H a=some (.ins C dx fs)):∃mA,ObjM h a dx C mA/\(∀f,cC (fs.lookup f) (mA f))/\PySem.Within mA (fs.map (·.1))/\fs.length<=1000/\H dx=some (.own a):=by
 obtain⟨d,z,ne,ob,mA,n,r,q⟩:=(show cB P w H h a (.ins C dx fs) from hok a _ e);exact⟨mA,⟨ob,n,ne⟩,r,q,z,d⟩
end
structure Cls (K:Fgx)(C:Addr):Prop where
 pg:PySem.W.plainGet K C Str.empty=true
 hd:PySem.W.hasDictIn K C=true
 po:PySem.W.plainOver K C=true
 sa:PySem.W.findIn K (.ref C) "__setattr__"=some (some (.builtin "object.__setattr__"))
theorem Cls.get {K:Fgx}{C:Addr}(c:Cls K C)(f:Str):PySem.W.plainGet K C f=true:=c.pg
def gB (K:Fgx)(C:Addr)(f:Str):Prop:=PySem.W.findIn K (.ref C) f=some none
theorem gB.taker {K:Fgx}{C:Addr}{f:Str}(n:gB K C f):PySem.W.takerIn K C f=some none:=by
 unfold PySem.W.takerIn;rw[show PySem.W.findIn K (.ref C) f=some none from n];rfl
structure Con (K:Fgx)(C:Addr)(f:Str)(v:V)(u:Value):Prop where
 at_:PySem.W.findIn K (.ref C) f=some (some u)
 rel:RelV v u
 get:PySem.W.specialIn K u "__get__"=some none
 cp:PySem.W.copiedNames.contains f=false
structure Meth (K:Fgx)(C:Addr)(m:Str)(f:Addr):Prop where
 at_:PySem.W.findIn K (.ref C) m=some (some (.ref f))
 fn:PySem.W.isFn K (.ref f)=true
 kp:PySem.W.keepIn K (.ref f)=true
section
variable {X:Cx}{pins:Pnx}{σ:St}{H:Hp}{s:Shared}{a C dx:Addr}{fs:List (Str×V)}{f:Str}{v:V}{A:Around}{E:Value->Shared->Prop}
theorem Gw (I:Inv X pins σ H s)(e:H a=some (.ins C dx fs))(c:Cls X.K C)(n:gB X.K C f)(l:fs.lookup f=some v)
  (h:∀u s',Inv X pins σ H s'->RelV v u->Q u s'):wpAny (model X.prog X.w) A (getAttr (.ref a) f b) Q E s:=by
 obtain⟨mA,O,r,_,_,_⟩:=sU I.hok e;obtain⟨u,hu,ru⟩:=cC.some_of (v:=v) (o:=mA f) (by rw[<-l];exact r f);exact get_map I.kIn O (c.get f) c.hd n hu (Gy ru) (h u _ (I.tok _) ru)
theorem Bl (I:Inv X pins σ H s)(e:H a=some (.ins C dx fs))(c:Cls X.K C)(k:Meth X.K C m g)(l:fs.lookup m=none)
  (h:Q (.ref g,[.ref a]) s):wpAny (model X.prog X.w) A (getMethod (.ref a) m pl) Q E s:=by
 obtain⟨mA,O,r,_,_,_⟩:=sU I.hok e;have hn:mA m=none:=cC.none_of (by rw[<-l];exact r m);exact Gv I.kIn O (c.get m) k.at_ k.fn hn h
theorem OJ (I:Inv X pins σ H s)(e:H a=some (.ins C dx fs))(c:Cls X.K C)(n:gB X.K C f)(hl:fs.length<1000)(ry:RelV y u)
  (h:∀s',Inv X pins σ (upd H a (.ins C dx (aQ f y fs))) s'->Q () s'):wpAny (model X.prog X.w) A (setAttr (.ref a) f u) Q E s:=by
 obtain⟨mA,O,r,wi,_,ho⟩:=sU I.hok e;have hz:(fs.map (·.1)).length<=sizeLine:=by rw[R3,Uc];omega
 refine vm I.kIn O c.sa c.po n.taker c.hd wi hz fun h' O' sb=>h _ ?_;have hd:∃o,h'.get? dx=some o:=let ⟨o,_,_,e',_⟩:=O'.ns;⟨o,e'⟩
 refine I.write (x:=a) (e:=dx) (by rw[e];exact True.intro) (.inr ho) (fun b q hb z=>(sb.2 b hb).trans z) hd ?_;refine⟨by rw[aZ O.ne];exact ho,?_,O.ne,O'.obj,_,O'.ns,fun g=>?_,fun g hg=>?_⟩
 ·have:=BK f y fs;omega
 ·show cC ((aQ f y fs).lookup g) (if g=f then some u else mA g)
  rw[BP]
  by_cases q:g=f
  ·rw[RW q,RW q];exact ry
  ·rw[R5 q,R5 q];exact r g
 ·by_cases q:g=f
  ·rw[q];exact(xG f y fs).1
  ·refine(xG f y fs).2 g (wi g fun z=>hg ?_);show(if g=f then some u else mA g)=none
   rw[R5 q];exact z
theorem Inv.made (I:Inv X pins σ H s):Inv X pins σ (upd (upd H s.heap.objs.size (.own (s.heap.objs.size + 1))) (s.heap.objs.size + 1) (.ins C s.heap.objs.size []))
  {s with heap:=(s.heap.push PySem.W.emptyDict).push (PySem.W.instObj C s.heap.objs.size)}:=by
 have e1:(s.heap.push PySem.W.emptyDict).get? s.heap.objs.size=some PySem.W.emptyDict:=Sg s.heap rfl;have e2:((s.heap.push PySem.W.emptyDict).push (PySem.W.instObj C s.heap.objs.size)).get? (s.heap.objs.size + 1)=some (PySem.W.instObj C s.heap.objs.size):=by
  have:=Sg (s.heap.push PySem.W.emptyDict) (o:=PySem.W.instObj C s.heap.objs.size) rfl
  rwa [Vn]at this
 have e3:(s.heap.push PySem.W.emptyDict).Ns s.heap.objs.size (fun _=>none):=⟨PySem.W.emptyDict, #[],_,e1,rfl,(fun e he=>absurd he (by simp)),fun _=>rfl⟩;have I1:=I.laid (a:=s.heap.objs.size) (o:=.own (s.heap.objs.size + 1)) (h':=s.heap.push PySem.W.emptyDict) (t':=s.toks) (fun b u q=>RL _ q) (RN _) ⟨_,e1⟩;refine I1.laid (a:=s.heap.objs.size + 1) (o:=.ins C s.heap.objs.size []) (t':=s.toks) (fun b u q=>RL _ q) (VG (Vn _ _)) ?_;have ne:s.heap.objs.size≠s.heap.objs.size + 1:=R9 (T_ _);refine⟨by rw[aZ ne,cH],Ud _,ne,e2,fun _=>none,(Heap.Ns1.of_empty e3).at fun o q=>RL _ q,fun _=>True.intro,fun y hy=>absurd rfl hy⟩
theorem Er (hb:attributeBase e f env (eval e env)=eval e env)
  (h:wpAny (model prog w) A (eval e env) (fun o s₁=>wpAny (model prog w) A (getAttr o f true) Q E s₁) E s):wpAny (model prog w) A (eval (.Attribute e f pos) env) Q E s:=
 Attribute_any_ h (by rw[arm_eval_Attribute,hb])
end
noncomputable def zB (K:Fgx) (ta:TE) (f:Str):TE:=fun σ H Q=>ta σ H fun x H1=>∃a C dx fs v,x=.ref a/\H1 a=some (.ins C dx fs)/\Cls K C/\gB K C f/\fs.lookup f=some v/\Q v H1
noncomputable def yR (K:Fgx) (ta tv:TE) (f:Str):TS:=fun D σ H=>tv σ H fun y H1=>ta σ H1 fun x H2=>∃a C dx fs,x=.ref a/\H2 a=some (.ins C dx fs)/\Cls K C/\gB K C f/\fs.length<1000/\
 D.nx σ (upd H2 a (.ins C dx (aQ f y fs)))
section
variable {X:Cx}{o e value:Expr}{f:Str}{pos pos' tpos:Pos}{ta tv:TE}
theorem J0 (he:PE X e ta)(hb:attributeBase e f X.env (eval e X.env)=eval e X.env):PE X (.Attribute e f pos) (zB X.K ta f):=by
 intro pins s σ H Q I h;refine Er hb (aM (he pins s σ H _ I h) fun u s1 ⟨x,H1,I1,rx,a,C,dx,fs,v,ex,ea,c,n,l,q⟩=>?_);subst ex;obtain rfl:u=Value.ref a:=rx;exact Gw I1 ea c n l fun u' s2 I2 ru=>⟨v,H1,I2,ru,q⟩
theorem Ku (ha:PE X o ta)(hv:PE X value tv)(hs:swapsWith value (some (.Attribute o f pos')) pos.line X.env=pure false):PS X (.Assign [.Attribute o f pos'] value pos) (yR X.K ta tv f):=by
 intro pins s σ H D I h;refine plainObj_wpAny_Assign_Attribute (aM (hv pins s σ H _ I h) fun u s1 ⟨y,H1,I1,ry,q⟩=>aM (ha pins s1 σ H1 _ I1 q) fun ov s2 ⟨x,H2,I2,rx,a,C,dx,fs,ex,ea,c,n,l,q2⟩=>?_) hs;subst ex;obtain rfl:ov=Value.ref a:=rx;exact OJ I2 ea c n l ry fun s3 I3=>⟨σ,_,I3,q2⟩
noncomputable def mq:V->V->Hp->VK->Prop:=fun x y H Q=>∃i j,x=.int i/\y=.int j/\Q (.int (i + j)) H
end
section
variable {X:Cx}{pins:Pnx}{σ:St}{H:Hp}{s:Shared}{A:Around}{E:Value->Shared->Prop}{Q:Value->Shared->Prop}{c:Value}{b:Bool}
inductive TyOf (K:Fgx)(H:Hp):V->Value->Prop where
 |non:TyOf K H .non (.type "NoneType")
 |bl (x:Bool):TyOf K H (.bl x) (.type "bool")
 |int (i:Int):TyOf K H (.int i) (.type "int")
 |str (x:Str):TyOf K H (.str x) (.type "str")
 |flt (x:UInt64):TyOf K H (.flt x) (.type "float")
 |lst {a:Addr} {xs:List V} (e:H a=some (.lst xs)):TyOf K H (.ref a) (.type "list")
 |frz {a:Addr} {o:Obj} {xs:List V} (e:H a=some (.frz o (.lst xs))):TyOf K H (.ref a) (.type "list")
 |tup {a:Addr} {xs:List V} (e:H a=some (.tup xs)):TyOf K H (.ref a) (.type "tuple")
 |dK {a:Addr} {kvs:List (Key×V)} (e:H a=some (.dK kvs)):TyOf K H (.ref a) (.type "dict")
 |dT {a:Addr} {kvs:List (List Key×V)} (e:H a=some (.dT kvs)):TyOf K H (.ref a) (.type "dict")
 |ins {a C dx:Addr} {fs:List (Str×V)} (e:H a=some (.ins C dx fs)) (cl:Cls K C) (ha:PySem.W.findIn K (.ref C) "__class__"=some (some (.builtin "object.__class__")))
   (hn:PySem.W.specialIn K (.builtin "object.__class__") "__get__"=some (some (.builtin "getset_descriptor.__get__"))) (htk:PySem.W.takesIn K (.builtin "object.__class__")=some true)
   (hm:PySem.W.mroIn K C (.type "object")=some true):TyOf K H (.ref a) (.ref C)
theorem sV (I:Inv X pins σ H s)(rx:RelV x u)(ty:TyOf X.K H x t)(e:PySem.W.kitOne X.K t c=some b)(h:∀tk,Q (.bool b) {s with toks:=tk}):
    wpAny (model X.prog X.w) A (call (.builtin "isinstance") [u,c]) Q E s:=by
  cases ty with
  |non=>cases (show u=Value.none from rx);exact Sd PySem.W.kitx_none I.kIn True.intro e (fun z=>nomatch z) h
  |bl y=>cases (show u=Value.bool y from rx);exact Sd PySem.W.kitx_bool I.kIn True.intro e (fun z=>nomatch z) h
  |int i=>obtain⟨t,q⟩:=(show ∃t,u=Value.int i t from rx);cases q;exact Sd PySem.W.kitx_int I.kIn True.intro e (fun z=>nomatch z) h
  |str y=>obtain⟨t,q⟩:=(show ∃t,u=Value.str y t from rx);cases q;exact Sd PySem.W.kitx_str I.kIn True.intro e (fun z=>nomatch z) h
  |flt y=>obtain⟨t,q⟩:=(show ∃t,u=Value.float y t from rx);cases q;exact Sd PySem.W.kitx_float I.kIn True.intro e (fun z=>nomatch z) h
  | @lst a xs ea=>
    cases (show u=Value.ref a from rx);obtain⟨_,_,n,_,h1⟩:=(show cB X.prog X.w H s.heap a (.lst xs) from I.hok a _ ea);exact Sd U_ I.kIn ⟨_,h1,rfl⟩ e (fun z=>nomatch z) h
  | @frz a ob xs ea=>
    cases (show u=Value.ref a from rx);obtain⟨_,_,_,n,_,h1⟩:=(show cB X.prog X.w H s.heap a (.frz ob (.lst xs)) from I.hok a _ ea);exact Sd U_ I.kIn ⟨_,h1,rfl⟩ e (fun z=>nomatch z) h
  | @tup a xs ea=>
    cases (show u=Value.ref a from rx);obtain⟨_,_,_,p⟩:=(show cB X.prog X.w H s.heap a (.tup xs) from I.hok a _ ea);obtain⟨o,h1,h2,_⟩:=p;exact Sd VH I.kIn ⟨o,h1,h2⟩ e (fun z=>nomatch z) h
  | @dK a kvs ea=>
    cases (show u=Value.ref a from rx);obtain⟨_,_,vs,_,p⟩:=(show cB X.prog X.w H s.heap a (.dK kvs) from I.hok a _ ea);obtain⟨o,es,ep,h1,h2,_⟩:=p;exact Sd Va I.kIn ⟨o,h1,h2.1⟩ e (fun z=>nomatch z) h
  | @dT a kvs ea=>
    cases (show u=Value.ref a from rx);obtain⟨_,_,xs,_,o,es,ep,h1,h2,_⟩:=(show cB X.prog X.w H s.heap a (.dT kvs) from I.hok a _ ea);exact Sd Va I.kIn ⟨o,h1,h2.1⟩ e (fun z=>nomatch z) h
  | @ins a C dx fs ea cl ha hn htk hm=>
    cases (show u=Value.ref a from rx);obtain⟨mA,O,_⟩:=sU I.hok ea;obtain⟨od,J,_⟩:=O.look;exact Sd (PySem.W.kitx_own (cl.get _) cl.hd ha hn htk hm) I.kIn J e (fun z=>nomatch z) h
end
structure Room (k:Nat)(A:Around):Prop where
 hd:A.handled=none
 dp:A.depth + 3 * k + 5<recursionLimit
 un:A.units + 16 * k + 200<cLine
theorem Room.mono (r:Room k A)(h:j<=k):Room j A:=⟨r.hd,by have:=r.dp;omega,by have:=r.un;omega⟩
theorem Room.deeper (r:Room (k + 1) A)(env:Env):Room k (A.deeper env):=
 ⟨r.hd,by have:=r.dp;show A.depth + 1 + 3 * k + 5<_;omega,by have:=r.un;show A.units + 3 + 16 * k + 200<_;omega⟩
theorem Hu {A:Around}{C:Addr}{us:List Value}{kw:List (Str×Value)}:(A.under (.builtin "type.__call__" ⟨.ref C::us,kw⟩)).depth=A.depth + 1:=by
 first |rfl |simp[Around.under,Code.weight,Code.isCreation,Code.isGuard,Code.isCaller,Code.frames,Code.isFrame,guardIds]
theorem Hw {A:Around}{C:Addr}{us:List Value}{kw:List (Str×Value)}:(A.under (.builtin "type.__call__" ⟨.ref C::us,kw⟩)).units=A.units + 1:=by
 first |rfl |simp[Around.under,Code.cUnits,Code.frames,Code.isFrame]
theorem Room.make (r:Room (k + 1) A)(C:Addr)(us:List Value)(kw:List (Str×Value)):Room k (A.under (.builtin "type.__call__" ⟨.ref C::us,kw⟩)):=
 ⟨r.hd,by have:=r.dp;rw[Hu];omega,by have:=r.un;rw[Hw];omega⟩
theorem Room.depth (r:Room k A):A.depth<recursionLimit:=by have:=r.dp;omega
theorem Room.units (r:Room k A):A.units + 64<cLine:=by have:=r.un;omega
def rE:TA:=fun _ H Q=>Q [] H
noncomputable def PJ (ta:TE) (tr:TA):TA:=fun σ H Q=>ta σ H fun x H1=>tr σ H1 fun xs H2=>Q (x::xs) H2
section
variable {X:Cx}{e:Expr}{es:List Expr}{te:TE}{t:TA}{pos:Pos}
theorem yr:PA X [] rE:=fun _ _ _ _ H Q I h=>Calls.spliced_nil ⟨[],H,I,.nil,h⟩
theorem tU (ha:PE X e te)(hr:PA X es t)(hs:starEach (e::es) X.env=(false,eval e X.env)::starEach es X.env:=by rfl):PA X (e::es) (PJ te t):=by
 intro pos pins s σ H Q I h;rw[hs];show wpAny _ _ (spliced ((false,eval e X.env)::backTo pos (starEach es X.env))) _ _ s;refine Calls.spliced_cons (aM (ha pins s σ H _ I h) fun u s1 ⟨x,H1,I1,r1,q1⟩=>?_);exact aM (hr pos pins s1 σ H1 _ I1 q1) fun us s2 ⟨xs,H2,I2,r2,q2⟩=>⟨x::xs,H2,I2,.cons r1 r2,q2⟩
noncomputable def zL (t:TA):TE:=fun σ H Q=>t σ H fun xs H1=>xs.length<=sizeLine/\∀p,H1 p=none->Q (.ref p) (upd H1 p (.tup xs))
noncomputable def zG (t:TA):TE:=fun σ H Q=>t σ H fun xs H1=>xs.length<=sizeLine/\∀p,H1 p=none->Q (.ref p) (upd H1 p (.lst xs))
theorem Kc {x1}(h:PA X es t):PE X (.Tuple es x1 pos) (zL t):=by
 intro pins s σ H Q I hq;refine wpAny_Tuple_spliced (aM (h pos pins s σ H _ I hq) fun us s1 ⟨xs,H1,I1,r,z,q⟩=>⟨by rw[<-r.length];exact z,?_⟩);have hf:H1 s1.heap.objs.size=none:=I1.hok.fresh (RN _);refine⟨.ref s1.heap.objs.size,upd H1 s1.heap.objs.size (.tup xs),I1.laid (t':=s1.toks) (fun b u e=>RL _ e) (RN _) ?_,rfl,q _ hf⟩;exact⟨z,us,r,⟨_,Sg _ rfl,rfl,_,rfl⟩⟩
theorem J4 (h:PA X es t):PE X (.List es pos) (zG t):=by
 intro pins s σ H Q I hq;refine wpAny_List_spliced (aM (h pos pins s σ H _ I hq) fun us s1 ⟨xs,H1,I1,r,z,q⟩=>⟨by rw[<-r.length];exact z,?_⟩);have hf:H1 s1.heap.objs.size=none:=I1.hok.fresh (RN _);refine⟨.ref s1.heap.objs.size,upd H1 s1.heap.objs.size (.lst xs),I1.laid (t':=s1.toks) (fun b u e=>RL _ e) (RN _) ?_,rfl,q _ hf⟩;exact⟨z,us,0,r,Sg _ rfl⟩
end
abbrev Sp:=List V->Hp->VK->XK->Prop
abbrev cR:=List Env->Hp->Shared->XK->Value->Shared->Prop
structure Env0 (P:Program)(w:World)(K:Fgx)(mg:Mgx)(base:Heap)(A:Around)(outer:List Env)(s:Shared)(H:Hp):Prop where
 frames:A.frames=some outer
 mod:Mod K mg base
 bs:∀b o,base.get? b=some o->s.heap.get? b=some o/\H b=none
 bsz:base.objs.size<=s.heap.objs.size
 funs:s.heap.FunFrames base outer
 frf:∀b∈frs outer,H b=none
 hok:bG P w H s.heap
 bare:AllBare s.gens
def CE (outer:List Env)(P:Program)(w:World)(H:Hp)(s:Shared)(Q:VK)(u:Value)(s':Shared):Prop:=
 ∃v H',s'.os=s.os/\AllBare s'.gens/\Un (frs outer) [] H H' s.heap s'.heap/\bG P w H' s'.heap/\RelV v u/\Q v H'
def CR (CX:cR)(outer:List Env)(P:Program)(w:World)(H:Hp)(s:Shared)(Q:VK)(E:XK)(r:Result)(s':Shared):Prop:=
 match r with
 |.ok (.ret u)=>CE outer P w H s Q u s'
 |.ok _=>False
 |.error e=>CX outer H s E e s'
structure FnOk (P:Program)(w:World)(K:Fgx)(mg:Mgx)(base:Heap)(CX:cR)(k:Nat)(f:Addr)(fd:FuncData)(ps:List Str)(sp:Sp):Prop where
 len:∀vs H Q E,sp vs H Q E->vs.length=ps.length
 run:∀(A:Around) (outer:List Env) (s:Shared) (H:Hp) (args:Args) (us:List Value) (vs:List V) (Q:VK) (E:XK),Room k A->Env0 P w K mg base A outer s H->BindsTo s fd args (ps.zip us)->Vals vs us->sp vs H Q E->
  codeAny (model P w) A (.call (.ref f) args) (CR CX outer P w H s Q E) s
theorem FnOk.mono {P:Program}{w:World}{K:Fgx}{mg:Mgx}{base:Heap}{CX:cR}{j k:Nat}{f:Addr}{fd:FuncData}{ps:List Str}{sp:Sp}(F:FnOk P w K mg base CX j f fd ps sp)(h:j<=k):
  FnOk P w K mg base CX k f fd ps sp:=⟨F.len,fun A outer s H args us vs Q E hr=>F.run A outer s H args us vs Q E (hr.mono h)⟩
theorem Env0.make {P:Program}{w:World}{K:Fgx}{mg:Mgx}{base:Heap}{A:Around}{outer:List Env}{s:Shared}{H:Hp}(e:Env0 P w K mg base A outer s H)(C:Addr)(us:List Value)(kw:List (Str×Value)):
  Env0 P w K mg base (A.under (.builtin "type.__call__" ⟨.ref C::us,kw⟩)) outer s H:=⟨by first |exact e.frames |(simpa [Around.under,Code.envs,Code.isFrame,pushEnvs] using e.frames),e.mod,e.bs,e.bsz,e.funs,e.frf,e.hok,e.bare⟩
section
variable {X:Cx}{pins:Pnx}{σ:St}{H:Hp}{s s':Shared}
theorem Inv.env0 (I:Inv X pins σ H s):Env0 X.prog X.w X.K X.mg X.base X.A X.stack s H:=
 ⟨I.ok.frames,I.ok.mod,I.bs,Sh I.ok.bsz I.sz,I.stack,I.stkFree,I.hok,I.bare⟩
theorem Inv.after (I:Inv X pins σ H s)(h:CE X.stack X.prog X.w H s Q u s'):EP X pins σ Q u s':=by
 obtain⟨v,H',os,bare,un,hok,r,q⟩:=h;obtain⟨hh,g,d,t,os'⟩:=s';obtain rfl:os'=s.os:=os;exact⟨v,H',I.call (h':=hh) (g':=g) (d':=d) (t':=t) (ch:=[]) un hok bare (fun b z=>absurd z (by simp)),r,q⟩
end
noncomputable def Pz (sp:Sp) (dvs:List V) (E:XK) (t:TA):TE:=fun σ H Q=>t σ H fun vs H1=>sp (vs ++ dvs) H1 Q E
noncomputable def DK (C:Addr) (m:Str) (sp:Sp) (dvs:List V) (E:XK) (ta:TE) (t:TA):TE:=fun σ H Q=>ta σ H fun x H1=>∃a dx fs,x=.ref a/\H1 a=some (.ins C dx fs)/\fs.lookup m=none/\
 t σ H1 fun vs H2=>sp (x::(vs ++ dvs)) H2 Q E
noncomputable def PL (C:Addr) (sp:Sp) (dvs:List V) (E:XK) (t:TA):TE:=fun σ H Q=>t σ H fun vs H1=>∀x dx,H1 x=none->H1 dx=none->dx≠x->
 sp (.ref x::(vs ++ dvs)) (upd (upd H1 dx (.own x)) x (.ins C dx [])) (fun v H2=>v=.non/\Q (.ref x) H2) E
def Binds (K:Fgx)(fd:FuncData)(ps:List Str)(ds:List Value):Prop:=
 ∀(s:Shared) (us:List Value),K.In s.heap->(us ++ ds).length=ps.length->BindsTo s fd ⟨us,[]⟩ (ps.zip (us ++ ds))
theorem Binds.all {K:Fgx}{fd:FuncData}{ps:List Str}(h:∀us:List Value,us.length=ps.length->bindArgs fd ⟨us,[]⟩=pure (ps.zip us)):Binds K fd ps []:=fun s us _ hl=>by
 rw[Ti]at hl ⊢;exact .of_eq (h us hl)
def Passes (CX:cR)(X:Cx)(E:XK):Prop:=∀(pins:Pnx) (σ:St) (H:Hp) (s:Shared) (e:Value) (s':Shared),Inv X pins σ H s->CX X.stack H s E e s'->X.xe e s'
section
variable {X:Cx}{CX:cR}{k:Nat}{f C:Addr}{fd:FuncData}{ps:List Str}{sp:Sp}{dvs:List V}{ds:List Value}{E:XK}{x m:Str}{p pos apos:Pos}{e o:Expr}{es:List Expr}{ta:TE}{t:TA}
theorem yQ (F:FnOk X.prog X.w X.K X.mg X.base CX k f fd ps sp)(hr:Room k X.A)(hb:Binds X.K fd ps ds)(hd:Vals dvs ds)(hx:Passes CX X E)
    (I:Inv X pins σ H s) (r:Vals vs us) (h:sp (vs ++ dvs) H Q E):wpAny (model X.prog X.w) X.A (call (.ref f) us) (EP X pins σ Q) X.xe s:=by
  have r2:Vals (vs ++ dvs) (us ++ ds):=r.append hd;have hl:(us ++ ds).length=ps.length:=by rw[<-r2.length];exact F.len _ _ _ _ h
  refine wpAny_call (Uu (F.run X.A X.stack s H ⟨us,[]⟩ (us ++ ds) (vs ++ dvs) Q E hr I.env0 (hb s us I.kIn hl) r2 h) fun r s' hq=>?_)
  cases r with
  |error e=>exact hx pins σ H s e s' I hq
  |ok fl=>
    cases fl with
    |ret u=>exact I.after hq
    |next=>exact False.elim hq
    |brk=>exact False.elim hq
    |cont=>exact False.elim hq
theorem JW (F:FnOk X.prog X.w X.K X.mg X.base CX k f fd ps sp)(hr:Room k X.A)(hg:Gl X x)(hm:X.mg x=some (.ref f))(hk:PySem.W.keepIn X.K (.ref f)=true)(hb:Binds X.K fd ps ds)(hd:Vals dvs ds)(hx:Passes CX X E)
  (ha:PA X (e::es) t) (hdb:(x==("__debug__":Str))=false:=by decide) (he:starEach (e::es) X.env=(false,eval e X.env)::starEach es X.env:=by rfl) (hpl:(backTo pos (starEach es X.env)).any (·.1)=false:=by rfl):
  PE X (.Call (.Name x p) (e::es) [] pos) (Pz sp dvs E t):=by
 intro pins s σ H Q I h;refine Uk (xJ I hg hm ?_ hdb);refine U5 (h₀:=X.base) I.ok.mod.kin hk (aM (ha pos pins s σ H _ I h) fun us s1 ⟨vs,H1,I1,r,q⟩=>⟨I1.kIn,?_⟩) he hpl;exact yQ F hr hb hd hx I1 r q
theorem J6 (he:PE X o ta)(c:Cls X.K C)(hm:Meth X.K C m f)(F:FnOk X.prog X.w X.K X.mg X.base CX k f fd ps sp)(hr:Room k X.A)(hb:Binds X.K fd ps ds)(hd:Vals dvs ds)(hx:Passes CX X E)(ha:PA X (e::es) t)
  (hst:starEach (e::es) X.env=(false,eval e X.env)::starEach es X.env:=by rfl) (hpl:(backTo pos (starEach es X.env)).any (·.1)=false:=by rfl)
  (ht : eval (.Call (.Attribute o m apos) (e :: es) [] pos) X.env = (do
   let ov <-eval o X.env
   standAt apos.atName
   let (f,first) <-holding [ov] (getMethod ov m pl)
   callWith pos f first (backTo pos (starEach (e::es) X.env)) (backToKw pos (keywordEach [] X.env))):=by rfl):
  PE X (.Call (.Attribute o m apos) (e::es) [] pos) (DK C m sp dvs E ta t):=by
 intro pins s σ H Q I h;refine Vo (pl:=pl) (aM (he pins s σ H _ I h) fun u s1 ⟨x,H1,I1,rx,a,dx,fs,ex,ea,l,q⟩=>?_) ht;subst ex;obtain rfl:u=Value.ref a:=rx;refine Bl I1 ea c hm l ?_;refine U5 (first:=[.ref a]) (h₀:=X.base) I.ok.mod.kin hm.kp (aM (ha pos pins s1 σ H1 _ I1 q) fun us s2 ⟨vs,H2,I2,r,q2⟩=>⟨I2.kIn,?_⟩) hst hpl
 exact yQ (us:=.ref a::us) (vs:=.ref a::vs) F hr hb hd hx I2 (.cons rfl r) q2
theorem J7 (he:PE X o ta)(c:Cls X.K C)(hm:Meth X.K C m f)(F:FnOk X.prog X.w X.K X.mg X.base CX k f fd ps sp)(hr:Room k X.A)(hb:Binds X.K fd ps ds)(hd:Vals dvs ds)(hx:Passes CX X E)
  (ht : eval (.Call (.Attribute o m apos) [] [] pos) X.env = (do
   let ov <-eval o X.env
   standAt apos.atName
   let (f,first) <-holding [ov] (getMethod ov m pl)
   callWith pos f first (backTo pos (starEach [] X.env)) (backToKw pos (keywordEach [] X.env))):=by rfl):
  PE X (.Call (.Attribute o m apos) [] [] pos) (DK C m sp dvs E ta rE):=by
 intro pins s σ H Q I h;refine Vo (pl:=pl) (aM (he pins s σ H _ I h) fun u s1 ⟨x,H1,I1,rx,a,dx,fs,ex,ea,l,q⟩=>?_) ht;subst ex;obtain rfl:u=Value.ref a:=rx;refine Bl I1 ea c hm l ?_;exact PySem.W.callWith_K0 (first:=[.ref a]) I1.kIn hm.kp (yQ (us:=[.ref a]) (vs:=[.ref a]) F hr hb hd hx I1 (.cons rfl .nil) q)
structure Mk (K:Fgx)(C f:Addr):Prop where
 makes:PySem.W.makesIn K C=true
 init:PySem.W.findIn K (.ref C) "__init__"=some (some (.ref f))
 fn:PySem.W.isFn K (.ref f)=true
 kp:PySem.W.keepIn K (.ref C)=true
theorem Oj (M:Mk X.K C f)(F:FnOk X.prog X.w X.K X.mg X.base CX k f fd ps sp)(hr:Room (k + 1) X.A)(hb:Binds X.K fd ps ds)(hd:Vals dvs ds)
    (hx:Passes CX X E) (I:Inv X pins σ H s) (r:Vals vs us)
    (h:∀x dx,H x=none->H dx=none->dx≠x->sp (.ref x::(vs ++ dvs)) (upd (upd H dx (.own x)) x (.ins C dx [])) (fun v H2=>v=.non/\Q (.ref x) H2) E):
    wpAny (model X.prog X.w) X.A (call (.ref C) us) (EP X pins σ Q) X.xe s:=by
  have hq:=h (s.heap.objs.size + 1) s.heap.objs.size (I.hok.fresh (Vl _)) (I.hok.fresh (RN _)) (R9 (T_ _));have I2:=Inv.made (C:=C) I;have r2:Vals (V.ref (s.heap.objs.size + 1)::(vs ++ dvs)) (Value.ref (s.heap.objs.size + 1)::(us ++ ds)):=.cons rfl (r.append hd);have hl:(Value.ref (s.heap.objs.size + 1)::us ++ ds).length=ps.length:=by
    have e:=r2.length;rw[F.len _ _ _ _ hq]at e;exact e.symm
  refine wpAny_call (Hv (f := f) I.kIn M.makes M.init (Tt.mp M.fn) (Uu (F.run _ X.stack _ _ ⟨Value.ref (s.heap.objs.size + 1)::us,[]⟩ (Value.ref (s.heap.objs.size + 1)::(us ++ ds)) _ _ E (hr.make C us [])
    (I2.env0.make C us []) (hb _ (Value.ref (s.heap.objs.size + 1)::us) I2.kIn hl) r2 hq) fun r s' hq'=>?_))
  cases r with
  |error e=>exact hx pins σ _ _ e s' I2 hq'
  |ok fl=>
    cases fl with
    |ret u=>
      obtain⟨v,H',I3,rv,ev,q3⟩:=I2.after hq';subst ev;exact⟨rv,⟨V.ref (s.heap.objs.size + 1),H',I3,rfl,q3⟩⟩
    |next=>exact False.elim hq'
    |brk=>exact False.elim hq'
    |cont=>exact False.elim hq'
theorem J5 (M:Mk X.K C f)(F:FnOk X.prog X.w X.K X.mg X.base CX k f fd ps sp)(hr:Room (k + 1) X.A)(hg:Gl X x)(hm:X.mg x=some (.ref C))(hb:Binds X.K fd ps ds)(hd:Vals dvs ds)(hx:Passes CX X E)
  (ha:PA X (e::es) t) (hdb:(x==("__debug__":Str))=false:=by decide) (he:starEach (e::es) X.env=(false,eval e X.env)::starEach es X.env:=by rfl) (hpl:(backTo pos (starEach es X.env)).any (·.1)=false:=by rfl):
  PE X (.Call (.Name x p) (e::es) [] pos) (PL C sp dvs E t):=by
 intro pins s σ H Q I h;refine Uk (xJ I hg hm ?_ hdb);refine U5 (h₀:=X.base) I.ok.mod.kin M.kp (aM (ha pos pins s σ H _ I h) fun us s1 ⟨vs,H1,I1,r,q⟩=>⟨I1.kIn,?_⟩) he hpl;exact Oj M F hr hb hd hx I1 r q
end
section
variable {X:Cx}{CX:cR}{k:Nat}{f C:Addr}{fd:FuncData}{ps ks:List Str}{sp:Sp}{E:XK}{x m:Str}{p pos apos kpos:Pos}{e o:Expr}{es:List Expr}{kws:List Keyword}{te ta:TE}{t tk:TA}{nm:Option Str}
structure KBinds (K:Fgx)(fd:FuncData)(ps ks:List Str)(g:List Value->List Value->List Value)(gV:List V->List V->List V):Prop where
 to:∀(s:Shared) (us ws:List Value),K.In s.heap->(g us ws).length=ps.length->BindsTo s fd ⟨us,ks.zip ws⟩ (ps.zip (g us ws))
 rel:∀{vs:List V} {us:List Value} {zs:List V} {ws:List Value},Vals vs us->Vals zs ws->Vals (gV vs zs) (g us ws)
variable {g:List Value->List Value->List Value}{gV:List V->List V->List V}
end
structure FnScope (N P:List Str)(sc:Scope):Prop where
 kind:sc.kind=.function
 co:sc.isCoroutine=false
 gen:sc.isGenerator=false
 nd:N.Nodup
 pre:N.take P.length=P
 par:∀x∈P,sc.names.lookup x=some .local\/sc.names.lookup x=some .cell
 nofree:∀y∈sc.names,y.2≠ .free
theorem Ab {kindOf:Str->Option NameKind}{x:Str}:∀{binds:List (Str×Value)} {m:Mgx},(∀v,(x,v)∉binds)->bindL kindOf binds m x=m x
  | [],_,_=>rfl
  |(n,v)::r,m,h=>by
    unfold bindL;rw[Ab fun w hw=>h w (R4 _ hw)]
    split
    · have:x≠n:=by rintro rfl;exact h v SM
      simp[this]
    · rfl
theorem z_ {kindOf:Str->Option NameKind}{x:Str}:∀{binds:List (Str×Value)} {m:Mgx},(∀v,(x,v)∉binds)->bindC kindOf binds m x=m x
  | [],_,_=>rfl
  |(n,v)::r,m,h=>by
    unfold bindC;rw[z_ fun w hw=>h w (R4 _ hw)]
    split
    · rfl
    · have:x≠n:=by rintro rfl;exact h v SM
      simp[this]
theorem Aa {kindOf:Str->Option NameKind}{x:Str}{v:Value}:∀{P:List Str} {vs:List Value} {i:Nat} {m:Mgx},P.Nodup->P[i]? =some x->vs[i]? =some v->kindOf x=some .local->
    bindL kindOf (P.zip vs) m x=some v
  | [],_,_,_,_,h,_,_=>by simp at h
  |_::_,[],_,_,_,_,h,_=>by simp at h
  |p::P,w::vs,0,m,nd,h1,h2,hk=>by
    simp at h1 h2;subst h1;subst h2
    show bindL kindOf ((p,w)::P.zip vs) m p=_;unfold bindL;rw[Ab fun v hv=>(Uv.mp nd).1 (Vi hv).1,RW hk]
    simp
  |p::P,w::vs,i + 1,m,nd,h1,h2,hk=>by
    show bindL kindOf ((p,w)::P.zip vs) m x=_;unfold bindL;exact Aa (i:=i) (Uv.mp nd).2 (by simpa using h1) (by simpa using h2) hk
theorem z9 {kindOf:Str->Option NameKind}{x:Str}{v:Value}:∀{P:List Str} {vs:List Value} {i:Nat} {m:Mgx},P.Nodup->P[i]? =some x->vs[i]? =some v->kindOf x≠some .local->
    bindC kindOf (P.zip vs) m x=some v
  | [],_,_,_,_,h,_,_=>by simp at h
  |_::_,[],_,_,_,_,h,_=>by simp at h
  |p::P,w::vs,0,m,nd,h1,h2,hk=>by
    simp at h1 h2;subst h1;subst h2
    show bindC kindOf ((p,w)::P.zip vs) m p=_;unfold bindC;rw[z_ fun v hv=>(Uv.mp nd).1 (Vi hv).1,R5 hk]
    simp
  |p::P,w::vs,i + 1,m,nd,h1,h2,hk=>by
    show bindC kindOf ((p,w)::P.zip vs) m x=_;unfold bindC;exact z9 (i:=i) (Uv.mp nd).2 (by simpa using h1) (by simpa using h2) hk
noncomputable def start (N:List Str) (vs:List V):St:=vs.map some ++ List.replicate (N.length - vs.length) none
noncomputable def dX (CX:cR) (P:Program) (w:World) (K:Fgx) (mg:Mgx) (base:Heap) (N:List Str) (qual:Str) (scope:Scope) (f:Addr) (cd:Value) (A:Around) (outer:List Env) (s:Shared) (H:Hp) (E:XK):Cx where
 prog:=P
 w:=w
 K:=K
 mg:=mg
 base:=base
 A:=A.deeper (envOfC qual scope s.heap.objs.size f cd)
 N:=N
 s₀:=s
 H₀:=H
 env:=envOfC qual scope s.heap.objs.size f cd
 outer:=outer
 stack:=envOfC qual scope s.heap.objs.size f cd::outer
 ex:=[]
 calm:=true
 fn:=fun _=>true
 pn:=[]
 xe:=fun e s'=>wpAny (model P w) (A.deeper (envOfC qual scope s.heap.objs.size f cd)) (leaving (envOfC qual scope s.heap.objs.size f cd) e) (fun _ s''=>CX outer H s E e s'') (fun e' s''=>CX outer H s E e' s'') s'
theorem Aj {sc:Scope}{n:Nat}{x:Str}(h:sc.names.lookup x=some .cell):∃c,(cellsFrom n sc.names []).lookup x=some c:=by
 have q:=Vm sc.names n [] (.inl h);exact Option.isSome_iff_exists.mp q
theorem GP {CX:cR}{P:Program}{w:World}{K:Fgx}{mg:Mgx}{base:Heap}{N ps:List Str}{qual:Str}{scope:Scope}{f:Addr}{cd:Value}{A:Around}{outer:List Env}{s s1:Shared}{H:Hp}{E:XK}{us:List Value}{vs:List V}
  (S:FnScope N ps scope) (hd:A.handled=none) (e0:Env0 P w K mg base A outer s H) (hl:vs.length=ps.length) (r:Vals vs us)
  (x:InCallC s s.heap.objs.size (bindL (envOfC qual scope s.heap.objs.size f cd).kindOf (ps.zip us) fun _=>none) (cellsFrom (s.heap.objs.size + 1) scope.names []) (bindC (envOfC qual scope s.heap.objs.size f cd).kindOf (ps.zip us) fun _=>none) s1):
  Inv (dX CX P w K mg base N qual scope f cd A outer s H E) [] (start N vs) H s1:=by
 have hpl:ps.length<=N.length:=by have:=congrArg List.length S.pre;rw[List.length_take]at this;omega
 obtain ⟨h1, tk, rfl, hk⟩ := x.done;have noA : ∀ b : Addr, b ∉ (dX CX P w K mg base N qual scope f cd A outer s H E).ex := fun b z => absurd (show b ∈ ([] : List Addr) from z) (by simp);refine ⟨⟨e0.mod,S.kind,rfl,rfl,RN _,fun y z c h1 h2=>?_,fun y hy=>?_,fun y c _ h=>?_,fun _=>hd,Around.frames_deeper e0.frames,.inr ⟨rfl,rfl⟩,fun b z=>absurd z (noA b),e0.bs,e0.bsz,fun b _ _=>noA b,fun b z=>absurd z (noA b),e0.funs,e0.frf⟩,
  rfl,e0.bare,Un.kept hk,⟨_,x.toInCall.ns,fun i y v h1 h2 h3=>?_⟩,fun y c h=>⟨_,x.cell y c h⟩,e0.hok.fresh (RN _),fun y c h=>?_,fun p hp=>absurd (show p∈([]:Pnx) from hp) (by simp),e0.hok.kept hk,?_⟩
 ·exact name_of_addr x.apart (TF h1) (TF h2)
 ·have hy:scope.names.lookup y=some .cell\/scope.names.lookup y=some .free:=hy;rcases hy with hy |hy
  ·exact Aj hy
  ·exact absurd rfl (S.nofree _ (TF hy))
 ·exact VB (x.above y c (TF h))
 ·have hi:i<vs.length:=by
   unfold start at h2
   by_cases hi:i<vs.length
   ·exact hi
   ·rw[S_ (by simpa using hi)]at h2;rw[TV]at h2;split at h2<;>cases h2
  have ha:vs[i]? =some v:=by
   unfold start at h2;rw[Tc (by simpa using hi),R7]at h2
   cases e:vs[i]? with
   |none=>rw[e]at h2;cases h2
   |some a=>rw[e]at h2;cases h2;rfl
  obtain⟨u,hu,rv⟩:=r.get ha;have hp:ps[i]? =some y:=by
   rw[<-S.pre,List.getElem?_take_of_lt (by omega)];exact h1
  have ndP:ps.Nodup:=by rw[<-S.pre];exact S.nd.sublist (List.take_sublist _ _)
  refine⟨u,rv,?_⟩;rcases S.par y (Ua hp) with k |k
  ·exact .inl ⟨k,Aa ndP hp hu k⟩
  ·obtain⟨c,e⟩:=Aj (n:=s.heap.objs.size + 1) k;refine .inr ⟨.inl k,c,e,?_⟩;have q:=x.cell y c e;rw[z9 ndP hp hu (by show scope.names.lookup y≠_;rw[k];decide)]at q;exact q
 ·exact e0.hok.fresh (VB (x.above y c (TF h)))
 ·unfold start;show _=N.length;rw[Ss,R3,Vp];omega
theorem Gk {CX:cR}{P:Program}{w:World}{K:Fgx}{mg:Mgx}{base:Heap}{k:Nat}{f:Addr}{name qual:Str}{params:Arguments}{body:List Stmt}{scope:Scope}{dV kV doc pm cdv ct oc:Value}{an od:Option Addr}
    {osl:Array (Option Value)} {N ps:List Str} {sp:Sp} (lk:K.lookup f=some ⟨oc,od,.func (PySem.W.fnOf name qual params body scope dV kV doc pm an cdv ct),osl⟩) (hcd:PySem.W.codeIn K cdv qual=true) (S:FnScope N ps scope)
    (len:∀vs H Q E,sp vs H Q E->vs.length=ps.length)
    (hbody:∀(A:Around) (outer:List Env) (s:Shared) (H:Hp) (vs:List V) (Q:VK) (E:XK),Room k (A.deeper (envOfC qual scope s.heap.objs.size f cdv))->sp vs H Q E->
      ∃t,dM (dX CX P w K mg base N qual scope f cdv A outer s H E) body t/\t {nx:=fun _ H'=>Q .non H',rt:=Q} (start N vs) H):
    FnOk P w K mg base CX (k + 1) f (PySem.W.fnOf name qual params body scope dV kV doc pm an cdv ct) ps sp:=by
  refine⟨len,fun A outer s H args us vs Q E hr e0 hb r hsp=>?_⟩;have hl:=len _ _ _ _ hsp;have KX:K.In s.heap:=e0.mod.kin.keeps fun b o e=>(e0.bs b o e).1;have lim:s.heap.NoLimit:=e0.mod.nolimit.keeps fun b o e=>(e0.bs b o e).1;have hkind:∀y∈ps.zip us,scope.names.lookup y.1=some .local\/(scope.names.lookup y.1=some .cell/\((cellsFrom (s.heap.objs.size + 1) scope.names []).lookup y.1).isSome=true):=fun⟨n,v⟩ hy=>by
    rcases S.par n (Vi hy).1 with q |q
    · exact .inl q
    · exact .inr ⟨q,Vm _ _ _ (.inl q)⟩
  refine codeAny_call_function hr.depth (KX _ _ lk) rfl S.co S.gen rfl (PySem.W.codeRec_of KX hcd) (hb _ _ _ _ ?_);refine wpAny_newFunctionEnv_cells S.kind hkind fun env he s1 x=>?_;subst he;refine⟨lim.keeps x.toInCall.keep,codeAny_func ?_⟩;obtain⟨t,ht,hq⟩:=hbody A outer s H vs Q E (hr.deeper _) hsp;have I:Inv (dX CX P w K mg base N qual scope f cdv A outer s H E) [] (start N vs) H s1:=GP S hr.hd e0 hl r x;refine T4 (ht [] s1 (start N vs) H _ I hq) (fun fl s' hs=>?_) fun e s' hs=>hs;have fin:∀{σ':St} {H':Hp} {v:V} {u:Value},Inv (dX CX P w K mg base N qual scope f cdv A outer s H E) [] σ' H' s'->RelV v u->Q v H'->CE outer P w H s Q u s':=
    fun {σ' H' v u} J rv q=>⟨v,H',J.os,J.bare,J.base,J.hok,rv,q⟩
  cases fl with
  |ret u=>
    obtain⟨v,σ',H',J,rv,q⟩:=hs;exact fin J rv q
  |next=>
    obtain⟨σ',H',J,q⟩:=hs;exact fin (v:=V.non) (u:=Value.none) J rfl q
  |brk=>
    obtain⟨_,_,_,q⟩:=hs;exact False.elim q
  |cont=>
    obtain⟨_,_,_,q⟩:=hs;exact False.elim q
section
variable {X:Cx}{x:Str}{p pos:Pos}{e:Expr}{es:List Expr}{t:TA}{id T:String}{r:List V->Hp->VK->Prop}
noncomputable def zx (r:List V->Hp->VK->Prop) (t:TA):TE:=fun σ H Q=>t σ H fun vs H1=>r vs H1 Q
theorem Ci (hc:cI X (.builtin id) r)(hg:Gl X x)(hm:X.mg x=none)(hv:bootBuiltins x=some (.builtin id))(ha:PA X (e::es) t)(hn:x≠"__name__":=by decide)(hdb:(x==("__debug__":Str))=false:=by decide)
  (he:starEach (e::es) X.env=(false,eval e X.env)::starEach es X.env:=by rfl) (hpl:(backTo pos (starEach es X.env)).any (·.1)=false:=by rfl):PE X (.Call (.Name x p) (e::es) [] pos) (zx r t):=by
 intro pins s σ H Q I h;refine Uk (sW I hg hm hv ?_ hn hdb);exact PyProof.Rows.callWith_builtin1 (aM (ha pos pins s σ H _ I h) fun us s1 ⟨vs,H1,I1,r1,q1⟩=>hc pins s1 σ H1 vs us Q I1 r1 q1) he hpl
theorem Cj (hc:cI X (.type T) r)(hg:Gl X x)(hm:X.mg x=none)(hv:bootBuiltins x=some (.type T))(ha:PA X (e::es) t)(hn:x≠"__name__":=by decide)(hdb:(x==("__debug__":Str))=false:=by decide)
  (he:starEach (e::es) X.env=(false,eval e X.env)::starEach es X.env:=by rfl) (hpl:(backTo pos (starEach es X.env)).any (·.1)=false:=by rfl):PE X (.Call (.Name x p) (e::es) [] pos) (zx r t):=by
 intro pins s σ H Q I h;refine Uk (sW I hg hm hv ?_ hn hdb);exact U4 (aM (ha pos pins s σ H _ I h) fun us s1 ⟨vs,H1,I1,r1,q1⟩=>hc pins s1 σ H1 vs us Q I1 r1 q1) he hpl
end
end L2
namespace HT
open PySem PyProof.Rows
section
open PySem.SeqAt
open PySem.AutoSeq1 (wpAny_loadPart')
open PySem.MeetsSeq PySem.MeetsSeq2 PySem.MeetsSeq3
end
section
variable {prog:Program}{w:World}{A:Around}{E:Value->Shared->Prop}{s:Shared}
noncomputable def cJ (n d:Nat):Option Int->Nat
 |none=>d
 |some v=>if v<0 then(v + (n:Int)).toNat else min v.toNat n
theorem Om (n d:Nat):cJ n d none=d:=rfl
theorem Ol (n d k:Nat):cJ n d (some (k:Int))=min k n:=by
 show(if (k:Int)<0 then((k:Int) + (n:Int)).toNat else min (k:Int).toNat n)=min k n
 rw[R5 (by omega),Vb]
end
end HT
namespace L2
open PySem PySem.Spec PyProof.Rows
abbrev TO:=St->Hp->(Option Int->Hp->Prop)->Prop
def PO (X:Cx)(e:Option Expr)(t:TO):Prop:=
 ∀(pins:Pnx) (s:Shared) (σ:St) (H:Hp) (Q:Option Int->Hp->Prop),Inv X pins σ H s->t σ H Q->
  wpAny (model X.prog X.w) X.A (evalPart e X.env) (fun u s'=>∃o H',Inv X pins σ H' s'/\IsPart u o/\Q o H') X.xe s
def PX:TO:=fun _ H Q=>Q none H
noncomputable def Qa (t:TE):TO:=fun σ H Q=>t σ H fun x H1=>∃i,x=.int i/\Q (some i) H1
section
variable {X:Cx}{e:Expr}{te:TE}{lo hi:Option Expr}{tl th:TO}{pos p2:Pos}
theorem Km:PO X none PX:=by
 intro pins s σ H Q I h;rw[evalPart_none];exact RZ ⟨none,H,I,.none,h⟩
theorem Ko (h:PE X e te):PO X (some e) (Qa te):=by
 intro pins s σ H Q I hw;rw[evalPart_some];refine aM (h pins s σ H _ I hw) fun u s1 ⟨x,H1,I1,r1,q1⟩=>?_;obtain⟨i,rfl,q⟩:=q1;obtain⟨t,rfl⟩:=r1;exact⟨some i,H1,I1,.int i t,q⟩
def lC (X:Cx)(r:V->Option Int->Option Int->Hp->VK->Prop):Prop:=
 ∀(pins:Pnx) (s:Shared) (σ:St) (H:Hp) (x:V) (v vl vu:Value) (lo hi:Option Int) (sl:Addr) (Q:VK),Inv X pins σ H s->RelV x v->s.heap.IsSliceOf sl vl vu .none->IsPart vl lo->IsPart vu hi->r x lo hi H Q->
  ∃T id,typeLookup (.type T) "__getitem__"=pure (some (.builtin id))/\s.TypeIs v T/\wpAny (model X.prog X.w) X.A (getItem v (.ref sl)) (EP X pins σ Q) X.xe s
theorem lC.or (h:lC X r)(h':lC X r'):lC X (fun x lo hi H Q=>r x lo hi H Q\/r' x lo hi H Q):=by
 intro pins s σ H x v vl vu lo hi sl Q I rx hs pl pu q;rcases q with q |q
 ·exact h pins s σ H x v vl vu lo hi sl Q I rx hs pl pu q
 ·exact h' pins s σ H x v vl vu lo hi sl Q I rx hs pl pu q
noncomputable def Qc (r:V->Option Int->Option Int->Hp->VK->Prop) (te:TE) (tl th:TO):TE:=fun σ H Q=>te σ H fun x H1=>tl σ H1 fun l H2=>th σ H2 fun u H3=>r x l u H3 Q
theorem J_ (hr:lC X r)(he:PE X e te)(hl:PO X lo tl)(hu:PO X hi th):PE X (.Subscript e (.Slice lo hi none p2) pos) (Qc r te tl th):=by
 intro pins s σ H Q I h;refine Subscript_ (aM (he pins s σ H _ I h) fun v s1 ⟨x,H1,I1,r1,q1⟩=>?_);refine wpAny_Slice (aM (hl pins s1 σ H1 _ I1 q1) fun vl s2 ⟨l,H2,I2,pl,q2⟩=>aM (hu pins s2 σ H2 _ I2 q2) fun vu s3 ⟨u,H3,I3,pu,q3⟩=>?_);rw[evalPart_none];refine RZ ?_;have I4:Inv X pins σ H3 {s3 with heap:=s3.heap.push {cls:=.type "slice",data:=.fields #[vl,vu,.none]}}:=I3.kept (t':=s3.toks) fun b ob q=>RL _ q;obtain⟨T,id,hT,ht,hg⟩:=hr pins {s3 with heap:=s3.heap.push {cls:=.type "slice",data:=.fields #[vl,vu,.none]}} σ H3 x v vl vu l u s3.heap.objs.size Q I4 r1 (Heap.IsSliceOf.new ..) pl pu q3;show wpAny (model X.prog X.w) X.A (subscriptTail e (.Slice lo hi none p2) v (.ref s3.heap.objs.size)) (EP X pins σ Q) X.xe {s3 with heap:=s3.heap.push {cls:=.type "slice",data:=.fields #[vl,vu,.none]}};exact tail_any (ops:=[.ref s3.heap.objs.size,v]) ht hT hg (by with_unfolding_all rfl)
noncomputable def dW (xs:List V) (lo hi:Option Int):List V:=(xs.drop (HT.cJ xs.length 0 lo)).take (HT.cJ xs.length xs.length hi - HT.cJ xs.length 0 lo)
theorem Fz (xs:List V)(lo hi:Option Int):(dW xs lo hi).length<=xs.length:=by
 unfold dW;rw[List.length_take,List.length_drop];omega
end
noncomputable def dZ (n:Nat) (i:Int):Option Nat:=if 0<=i then(if i<n then some i.toNat else none) else if -(n:Int)<=i then some (i + n).toNat else none
noncomputable def cj {α:Type} (xs:List α) (i:Int):Option α:=(dZ xs.length i).bind fun j=>xs[j]?
theorem Bt (h:dZ n i=some j):seqIndex? i n=some j/\j<n/\ -(n:Int)<=i/\i<n:=by
 unfold dZ at h
 by_cases h0:0<=i
 ·rw[RW h0]at h
  by_cases h1:i<n
  ·rw[RW h1]at h;have e:i.toNat=j:=R0 h;exact⟨by rw[seqIndex_of h0 h1,e],by omega,by omega,h1⟩
  ·rw[R5 h1]at h;cases h
 ·rw[R5 h0]at h
  by_cases h1: -(n:Int)<=i
  ·rw[RW h1]at h;have e:(i + n).toNat=j:=R0 h;exact⟨by rw[seqIndex_neg (by omega) h1,e],by omega,h1,by omega⟩
  ·rw[R5 h1]at h;cases h
theorem vW (h:cj xs i=some v):∃j,seqIndex? i xs.length=some j/\xs[j]? =some v/\j<xs.length/\ -(xs.length:Int)<=i/\i<xs.length:=by
  unfold cj at h
  cases e:dZ xs.length i with
  |none=>rw[e]at h;cases h
  |some j=>
    rw[e]at h;obtain⟨h1,h2,h3,h4⟩:=Bt e;exact⟨j,h1,h,h2,h3,h4⟩
theorem mY {α:Type}{xs:List α}{j:Nat}{v:α}(h:xs[j]? =some v):cj xs (j:Int)=some v:=by
 have hj:j<xs.length:=(RX.mp h).1;have e:dZ xs.length (j:Int)=some j:=by
  unfold dZ;rw[RW (by omega),RW (by omega)];simp
 unfold cj;rw[e];exact h
def vQ (b:Expr):Prop:=∀o i,subscripted b false o i=operate [o,i] (getItem o i)
def fW (X:Cx)(r:R2):Prop:=
 ∀(value slice:Expr) (pins:Pnx) (s:Shared) (σ:St) (H:Hp) (x y:V) (v u:Value) (Q:VK),Inv X pins σ H s->RelV x v->RelV y u->r x y H Q->
  subscripted slice false v u=operate [v,u] (getItem v u)->wpAny (model X.prog X.w) X.A (subscriptTail value slice v u) (EP X pins σ Q) X.xe s
def Em (X:Cx)(id:String)(r:V->List V->Hp->VK->Prop):Prop:=
 ∀(pins:Pnx) (s:Shared) (σ:St) (H:Hp) (x:V) (xs:List V) (v:Value) (us:List Value) (Q:VK),Inv X pins σ H s->RelV x v->Vals xs us->r x xs H Q->
  wpAny (model X.prog X.w) X.A (call (.builtin id) (v::us)) (EP X pins σ Q) X.xe s
section
variable {X:Cx}{a b:Expr}{ta tb:TE}{pos:Pos}
theorem fW.or (h:fW X r)(h':fW X r'):fW X (fun x y H Q=>r x y H Q\/r' x y H Q):=by
 intro value slice pins s σ H x y v u Q I rx ry q hs;rcases q with q |q
 ·exact h value slice pins s σ H x y v u Q I rx ry q hs
 ·exact h' value slice pins s σ H x y v u Q I rx ry q hs
theorem J3 (hr:fW X r)(ha:PE X a ta)(hb:PE X b tb)(hs:vQ b):PE X (.Subscript a b pos) (rF r ta tb):=by
 intro pins s σ H Q I h;exact Subscript_ (lD ha hb I h fun v u s2 x y H2 I2 rx ry q=>hr a b pins s2 σ H2 x y v u Q I2 rx ry q (hs _ _))
noncomputable def mz (K:Fgx):R2:=fun x y H Q=>∃p xs i v,x=.ref p/\y=.int i/\bf K H p xs/\cj xs i=some v/\Q v H
noncomputable def mD (K:Fgx):R2:=fun x y H Q=>∃p xs i v,x=.ref p/\y=.int i/\cW K H p xs/\cj xs i=some v/\Q v H
noncomputable def mC:R2:=fun x y H Q=>∃z i c,x=.str z/\y=.int i/\z.length<=sizeLine/\cj z.cps.toList i=some c/\Q (.str ⟨#[c]⟩) H
theorem G5:fW X (mz X.K):=by
 intro value slice pins s σ H x y v u Q I rx ry h hs;obtain⟨p,xs,i,z,rfl,rfl,hq,he,q⟩:=h;cases rx;obtain⟨t,rfl⟩:=ry;obtain⟨its,r,pl,hz⟩:=I.list hq;obtain⟨j,h1,h2,h3,h4,h5⟩:=vW he;obtain⟨w,ew,rw'⟩:=r.get h2;have hl:=r.length;have hn:=lX;have fin:EP X pins σ Q w s:=⟨z,H,I,rw',q⟩
 by_cases h0:0<=i
 ·have hj:i.toNat=j:=by
   rw[seqIndex_of h0 h5]at h1;exact R0 h1
  exact item_listR pl.isList h0 (by omega) (by rw[hj];simpa using ew) fin hs
 ·have hj:(i + (its.toArray.size:Int)).toNat=j:=by
   rw[seqIndex_neg (by omega) h4]at h1;rw[tG, <-hl];exact R0 h1
  exact subscriptTail_builtinR (x:=w) pl.isList.typeIs slot_list_getitem.lookup
   (wpAny_getItem_list_neg (Q:=fun r s'=>r=w/\EP X pins σ Q r s') pl.isList (by omega) (by rw[tG]<;>omega) (by omega) (by rw[hj];simpa using ew) ⟨rfl,fin⟩) hs
theorem G7:fW X (mD X.K):=by
 intro value slice pins s σ H x y v u Q I rx ry h hs;obtain⟨p,xs,i,z,rfl,rfl,hq,he,q⟩:=h;cases rx;obtain⟨t,rfl⟩:=ry;obtain⟨its,r,pl,hz⟩:=I.tuple hq;obtain⟨j,h1,h2,h3,h4,h5⟩:=vW he;obtain⟨w,ew,rw'⟩:=r.get h2;have hl:=r.length;have hn:=lX;have fin:EP X pins σ Q w s:=⟨z,H,I,rw',q⟩;exact subscriptTail_builtinR (x:=w) pl.typeIs slot_tuple_getitem.lookup
  (getItem_tuple (j:=j) (Q:=fun r s'=>r=w/\EP X pins σ Q r s') pl (by omega) (by omega) (by rw[tG, <-hl];exact h1) (by simpa using ew) ⟨rfl,fin⟩) hs
theorem G6:fW X mC:=by
 intro value slice pins s σ H x y v u Q I rx ry h hs;obtain⟨z,i,c,rfl,rfl,hz,he,q⟩:=h;obtain⟨t,rfl⟩:=rx;obtain⟨t',rfl⟩:=ry;obtain⟨j,h1,h2,h3,h4,h5⟩:=vW he;have hl:z.cps.toList.length=z.length:=by simp[Str.length]
 rw [hl] at h1 h4 h5;have hn := lX;exact tail_any (typeIs_str s z t) slot_str_getitem.lookup (getItem_str (c := c) (by
  have e1:decide (i< -(2 ^ 63:Int))=false:=Td (by omega);have e2:decide (i >=2 ^ 63)=false:=Td (by omega);rw[e1,e2,Bool.or_false]) (by rw[h1];simpa using h2) ⟨.str ⟨#[c]⟩,H,I.tok _,⟨_,rfl⟩,q⟩) hs
noncomputable def yF (K:Fgx):R2:=fun x y H Q=>mz K x y H Q\/mD K x y H Q\/mC x y H Q
theorem Hx (its:List Value)(n j:Nat)(u:Value):Obj.mapSeq (·.setIfInBounds j u) {cls:=.type "list",data:=.seq its.toArray n}={cls:=.type "list",data:=.seq (its.set j u).toArray n}:=by
 simp[Obj.mapSeq]
theorem Inv.lst (I:Inv X pins σ H s)(h:H p=some (.lst xs)):
  ∃(its:List Value) (n:Nat),Vals xs its/\s.heap.get? p=some {cls:=.type "list",data:=.seq its.toArray n}/\xs.length<=sizeLine:=by
 obtain⟨z,its,n,r,e⟩:=I.hok p _ h;exact⟨its,n,r,e,z⟩
theorem Inv.lstUpd {pins:Pnx}{σ:St}{H:Hp}{s:Shared}{p:Addr}{xs ys:List V}{its its':List Value}{n n':Nat}{f:Obj->Obj}(I:Inv X pins σ H s)(h:H p=some (.lst xs))
  (ho:s.heap.get? p=some {cls:=.type "list",data:=.seq its.toArray n}) (hf:f {cls:=.type "list",data:=.seq its.toArray n}={cls:=.type "list",data:=.seq its'.toArray n'}) (r:Vals ys its') (hz:ys.length<=sizeLine) (t:Nat):
  Inv X pins σ (upd H p (.lst ys)) {s with heap:=s.heap.update p f,toks:=t}:=by
 have e:(s.heap.update p f).get? p=some {cls:=.type "list",data:=.seq its'.toArray n'}:=by
  rw[Ut f ho (by rw[hf]<;>rfl),hf]
 refine I.write (x:=p) (e:=p) (by rw[h];trivial) (.inl rfl) (fun b u hb q=>(Sq _ _ (Tj hb)).trans q) ⟨_,e⟩ ?_;exact⟨hz,its',n',r,e⟩
def Mj:V->V->V->Hp->(Hp->Prop)->Prop:=fun o i v H Q=>∃p xs k j,o=.ref p/\i=.int k/\H p=some (.lst xs)/\dZ xs.length k=some j/\Q (upd H p (.lst (xs.set j v)))
theorem set_list:nQ X Mj:=by
 intro pins s σ H o i v ov iv u Q I ro ri rv h;obtain⟨p,xs,k,j,rfl,rfl,hp,hj,q⟩:=h;cases ro;obtain⟨t,rfl⟩:=ri;obtain⟨its,n,r,ho,hz⟩:=I.lst hp;obtain⟨h1,h2,h3,h4⟩:=Bt hj;have hl:=r.length;have hn:=lX;have I':Inv X pins σ (upd H p (.lst (xs.set j v))) {s with heap:=s.heap.update p (Obj.mapSeq (·.setIfInBounds j u))}:=
  I.lstUpd hp ho (Hx its n j u) (r.set rv j) (by rw[Tn];exact hz) s.toks
 by_cases h0:0<=k
 ·have hk:k.toNat=j:=by
   rw[seqIndex_of h0 h4]at h1;exact R0 h1
  exact PySem.W.ki_setAt ho h0 (by omega) (by rw[tG, <-hl];exact h4) (by rw[hk];exact⟨_,I',q⟩)
 ·have hk:(k + (its.toArray.size:Int)).toNat=j:=by
   rw[seqIndex_neg (by omega) h3]at h1;rw[tG, <-hl];exact R0 h1
  exact PySem.W.ki_setBack ho (by omega) (by rw[tG, <-hl];exact h3) (by omega) (by rw[hk];exact⟨_,I',q⟩)
theorem O8 (lo hi:Option Int)(n:Nat):(sliceBounds lo hi none n).1=((HT.cJ n 0 lo:Nat):Int)/\(sliceBounds lo hi none n).2.1=((HT.cJ n n hi:Nat):Int)/\(sliceBounds lo hi none n).2.2=1:=by
  refine⟨?_,?_,rfl⟩
  · cases lo with
    |none=>simp[sliceBounds,HT.cJ]
    |some i=>
      simp only[sliceBounds,HT.cJ,Option.getD_none,show(1:Int) > 0 by decide,T6]
      by_cases h:i<0
      · simp only[h,T6]<;>omega
      · simp only[h,VR]<;>omega
  · cases hi with
    |none=>simp[sliceBounds,HT.cJ]
    |some i=>
      simp only[sliceBounds,HT.cJ,Option.getD_none,show(1:Int) > 0 by decide,T6]
      by_cases h:i<0
      · simp only[h,T6]<;>omega
      · simp only[h,VR]<;>omega
theorem O7 (its:List Value)(lo hi:Option Int):slicePick its.toArray lo hi none=((its.drop (HT.cJ its.length 0 lo)).take (HT.cJ its.length its.length hi - HT.cJ its.length 0 lo)).toArray:=by
 obtain⟨h1,h2,h3⟩:=O8 lo hi its.toArray.size;unfold slicePick;rw[h1,h2,h3];simp only[sliceRange_one,pick_run,tG]<;>rfl
def yH (K:Fgx):V->Option Int->Option Int->Hp->VK->Prop:=fun x lo hi H Q=>∃a xs,x=.ref a/\bf K H a xs/\∀p,H p=none->Q (.ref p) (upd H p (.lst (dW xs lo hi)))
theorem O5:lC X (yH X.K):=by
 intro pins s σ H x v vl vu lo hi sl Q I rx hs pl pu h;obtain⟨a,xs,rfl,hx,q⟩:=h;cases rx;obtain⟨its,r,ht,hz⟩:=I.list hx;have hlen:=r.length;refine⟨"list",_,slot_list_getitem.lookup,ht.isList.typeIs,?_⟩;refine wpAny_getItem_list_slice ht.isList hs pl pu .none (by simp) ?_ (by rw[tG]<;>omega)
 rw[O7, <-hlen];refine⟨.ref s.heap.objs.size,_,I.laid (t':=s.toks) (o:=.lst (dW xs lo hi)) (fun b ob q=>RL _ q) (RN _) ?_,rfl,q _ (I.hok.fresh (RN _))⟩;exact⟨Sh (Fz xs lo hi) hz,_,0,(r.drop (HT.cJ xs.length 0 lo)).take (HT.cJ xs.length xs.length hi - HT.cJ xs.length 0 lo),Sg _ rfl⟩
noncomputable def fZ:V->Bool
 |.non=>true
 |.bl _=>true
 |.int _=>true
 |.str _=>true
 |_=>false
noncomputable def gO:V->V->Bool
 |.non,.non=>true
 |.bl a,.bl b=>a==b
 |.bl a,.int b=>(if a then 1 else 0)==b
 |.int a,.bl b=>a==(if b then 1 else 0)
 |.int a,.int b=>a==b
 |.str a,.str b=>a==b
 |_,_=>false
theorem FQ (ry:RelV y u)(rx:RelV x v)(fy:fZ y=true)(fx:fZ x=true):SeqAt.EqAt A s u v (gO y x):=by
  cases y with
  |non=>
    cases ry
    cases x with
    |non=>cases rx;exact Uw _
    |bl b=>cases rx;exact SeqAt.EqAt.none_bool b
    |int b=>obtain⟨t,rfl⟩:=rx;exact SeqAt.EqAt.none_int b t
    |str b=>obtain⟨t,rfl⟩:=rx;exact SeqAt.EqAt.none_str b t
    |_=>exact absurd (show false=true from fx) RP
  |bl a=>
    cases ry
    cases x with
    |non=>cases rx;exact SeqAt.EqAt.bool_none a
    |bl b=>cases rx;exact SeqAt.EqAt.bool_bool a b
    |int b=>obtain⟨t,rfl⟩:=rx;exact SeqAt.EqAt.bool_int a b t
    |str b=>obtain⟨t,rfl⟩:=rx;exact SeqAt.EqAt.bool_str a b t
    |_=>exact absurd (show false=true from fx) RP
  |int a=>
    obtain⟨t',rfl⟩:=ry
    cases x with
    |non=>cases rx;exact SeqAt.EqAt.int_none a t'
    |bl b=>cases rx;exact SeqAt.EqAt.int_bool a t' b
    |int b=>obtain⟨t,rfl⟩:=rx;exact SeqAt.EqAt.int_int a t' b t
    |str b=>obtain⟨t,rfl⟩:=rx;exact U0 a t' b t
    |_=>exact absurd (show false=true from fx) RP
  |str a=>
    obtain⟨t',rfl⟩:=ry
    cases x with
    |non=>cases rx;exact SeqAt.EqAt.str_none a t'
    |bl b=>cases rx;exact SeqAt.EqAt.str_bool a t' b
    |int b=>obtain⟨t,rfl⟩:=rx;exact U3 a t' b t
    |str b=>obtain⟨t,rfl⟩:=rx;exact SeqAt.EqAt.str_str a t' b t
    |_=>exact absurd (show false=true from fx) RP
  |_=>exact absurd (show false=true from fy) RP
noncomputable def dF (x:V) (u:Value):Bool:=match u with
 |.none=>gO .non x
 |.bool b=>gO (.bl b) x
 |.int i _=>gO (.int i) x
 |.str z _=>gO (.str z) x
 |_=>false
theorem Az (r:RelV y u)(f:fZ y=true):dF x u=gO y x:=by
 cases y with
 |non=>cases r;rfl
 |bl b=>cases r;rfl
 |int i=>obtain⟨t,rfl⟩:=r;rfl
 |str z=>obtain⟨t,rfl⟩:=r;rfl
 |_=>exact absurd (show false=true from f) RP
theorem nT:∀{xs:List V} {us:List Value},Vals xs us->xs.all fZ=true->us.any (dF x)=xs.any fun y=>gO y x
  |_,_,.nil,_=>rfl
  |y::xs,u::us,.cons r t,f=>by
    rw[Ub,R_]at f;rw[U8,U8,Az r f.1,nT t f.2]
theorem pJ (rx:RelV x v)(fx:fZ x=true):∀{xs:List V} {us:List Value},Vals xs us->xs.all fZ=true->∀u∈us,SeqAt.EqAt A s u v (dF x u)
  |_,_,.nil,_=>fun u hu=>by cases hu
  |y::xs,u::us,.cons r t,f=>fun u' hu=>by
    rw[Ub,R_]at f;rcases Sy.mp hu with rfl |hu
    · rw[Az r f.1];exact FQ r rx f.1 fx
    · exact pJ rx fx t f.2 u' hu
def inV (x:V)(xs:List V):Bool:=xs.any fun y=>gO y x
noncomputable def tX (K:Fgx) (neg:Bool):R2:=fun x y H Q=>∃p xs,y=.ref p/\(bf K H p xs\/cW K H p xs)/\fZ x=true/\xs.all fZ=true/\Q (.bl (if neg then !inV x xs else inV x xs)) H
theorem Jx:aV X (compareOp .In) (tX X.K false):=by
 intro pins s σ H x y v u Q I rx ry h;obtain⟨p,xs,rfl,hq,fx,fs,q⟩:=h;cases ry;rcases hq with hq |hq
 ·obtain⟨its,r,pl,hz⟩:=I.list hq;refine SeqAt.in_listAt (dF x) pl.isList (fun w hw=>pJ rx fx r fs w (by simpa using hw)) ⟨.bl _,H,I,rfl,?_⟩;rw[show its.toArray.any (dF x)=its.any (dF x) by simp,nT r fs];exact q
 ·obtain⟨its,r,pl,hz⟩:=I.tuple hq;refine SeqAt.in_tupleAt (dF x) pl (fun w hw=>pJ rx fx r fs w (by simpa using hw)) ⟨.bl _,H,I,rfl,?_⟩;rw[show its.toArray.any (dF x)=its.any (dF x) by simp,nT r fs];exact q
theorem JK:aV X (compareOp .NotIn) (tX X.K true):=by
 intro pins s σ H x y v u Q I rx ry h;obtain⟨p,xs,rfl,hq,fx,fs,q⟩:=h;cases ry;rcases hq with hq |hq
 ·obtain⟨its,r,pl,hz⟩:=I.list hq;refine SeqAt.notIn_listAt (dF x) pl.isList (fun w hw=>pJ rx fx r fs w (by simpa using hw)) ⟨.bl _,H,I,rfl,?_⟩;rw[show its.toArray.any (dF x)=its.any (dF x) by simp,nT r fs];exact q
 ·obtain⟨its,r,pl,hz⟩:=I.tuple hq;refine SeqAt.notIn_tupleAt (dF x) pl (fun w hw=>pJ rx fx r fs w (by simpa using hw)) ⟨.bl _,H,I,rfl,?_⟩;rw[show its.toArray.any (dF x)=its.any (dF x) by simp,nT r fs];exact q
theorem Fb:cI X (.builtin "len") (fun xs H Q=>∃p ys,xs=[.ref p]/\(bf X.K H p ys\/cW X.K H p ys)/\Q (.int ys.length) H):=by
 intro pins s σ H xs us Q I r h;obtain⟨p,ys,rfl,hq,q⟩:=h;obtain⟨u,rfl,rx⟩:=vals1 r;cases rx;have hn:=lX;rcases hq with hq |hq
 ·obtain⟨its,r',pl,hz⟩:=I.list hq;have hlen:=r'.length;exact Calls.call_len_list pl.isList (by simp only[tG]<;>omega) ⟨.int ys.length,H,I.tok _,⟨s.toks + 1,by rw[tG,hlen]⟩,q⟩
 ·obtain⟨its,r',pl,hz⟩:=I.tuple hq;have hlen:=r'.length;exact len_tuple pl (by simp only[tG]<;>omega) ⟨.int ys.length,H,I.tok _,⟨s.toks + 1,by rw[tG,hlen]⟩,q⟩
theorem Fd:cI X (.builtin "len") (fun xs H Q=>∃z,xs=[.str z]/\z.length<=sizeLine/\Q (.int z.length) H):=by
 intro pins s σ H xs us Q I r h;obtain⟨z,rfl,hz,q⟩:=h;obtain⟨u,rfl,t,rfl⟩:=vals1 r;have hn:=lX;exact len_str (by omega) ⟨.int z.length,H,I.tok _,⟨_,rfl⟩,q⟩
theorem cI.or (h:cI X f r)(h':cI X f r'):cI X f (fun xs H Q=>r xs H Q\/r' xs H Q):=by
 intro pins s σ H xs us Q I rs q;rcases q with q |q
 ·exact h pins s σ H xs us Q I rs q
 ·exact h' pins s σ H xs us Q I rs q
theorem Fe:cI X (.type "list") (fun xs H Q=>∃p ys,xs=[.ref p]/\(bf X.K H p ys\/cW X.K H p ys)/\∀l,H l=none->Q (.ref l) (upd H l (.lst ys))):=by
 intro pins s σ H xs us Q I r h;obtain⟨p,ys,rfl,hq,q⟩:=h;obtain⟨u,rfl,rx⟩:=vals1 r;cases rx;have fin:∀(its:List Value),Vals ys its->ys.length<=sizeLine->∀(h':Heap) (c':Nat),(∀b o',s.heap.get? b=some o'->h'.get? b=some o')->
   h'.get? s.heap.objs.size=some {cls:=.type "list",dict:=none,data:=.seq its.toArray c',slots:= #[]}->EP X pins σ Q (.ref s.heap.objs.size) {s with heap:=h'}:=fun its r' hz h' c' kp e=>
  ⟨.ref s.heap.objs.size,_,I.laid (t':=s.toks) kp (RN _) (show cB X.prog X.w _ h' _ (.lst ys) from⟨hz,its,c',r',e⟩),rfl,q _ (I.hok.fresh (RN _))⟩
 rcases hq with hq |hq
 ·obtain⟨its,r',pl,hz⟩:=I.list hq;have hlen:=r'.length;obtain⟨o,ho,hc,n,hd⟩:=pl.isList;exact call_list_seq p (.inl rfl) ho hc hd (fun h' c' kp e=>fin its r' hz h' c' kp e) (by simp only[tG]<;>omega)
 ·obtain⟨its,r',pl,hz⟩:=I.tuple hq;have hlen:=r'.length;obtain⟨o,ho,hc,n,hd⟩:=pl;exact call_list_seq p (.inr rfl) ho hc hd (fun h' c' kp e=>fin its r' hz h' c' kp e) (by simp only[tG]<;>omega)
theorem Fj:cI X (.type "tuple") (fun xs H Q=>∃p ys,xs=[.ref p]/\((bf X.K H p ys/\∀l,H l=none->Q (.ref l) (upd H l (.tup ys)))\/(cW X.K H p ys/\Q (.ref p) H))):=by
 intro pins s σ H xs us Q I r h;obtain⟨p,ys,rfl,h⟩:=h;obtain⟨u,rfl,rx⟩:=vals1 r;cases rx;rcases h with⟨hq,q⟩ |⟨hq,q⟩
 ·obtain⟨its,r',pl,hz⟩:=I.list hq;have hlen:=r'.length;refine call_tuple_list pl.isList (fun h' kp=>?_) (by simp only[tG]<;>omega)
  have I1:Inv X pins σ H {s with heap:=h'}:=I.kept (t':=s.toks) kp;have I2:Inv X pins σ (upd H h'.objs.size (.tup ys)) {s with heap:=h'.push {cls:=.type "tuple",data:=.seq its.toArray}}:=
   I1.laid (t':=s.toks) (fun b o e=>RL _ e) (RN _) (show cB X.prog X.w _ _ _ (.tup ys) from⟨hz,its,r',IsTup.new _ _⟩)
  exact⟨.ref h'.objs.size,_,I2,rfl,q _ (I1.hok.fresh (RN _))⟩
 ·obtain⟨its,r',pl,hz⟩:=I.tuple hq;exact call_tuple_same pl ⟨.ref p,H,I,rfl,q⟩
def DR (K:Fgx)(T:String)(x:V)(H:Hp):Prop:=match x with
 |.str _=>T="str"
 |.int _=>T="int"
 |.ref p=>(T="list"/\∃xs,bf K H p xs)\/(T="tuple"/\∃o,K.lookup p=some o/\o.cls=.type "tuple"/\o.dict=none)\/
   (T="dict"/\((∃kvs,H p=some (.dK kvs))\/∃kvs,H p=some (.dT kvs)))\/(T="set"/\∃S n,H p=some (.set S n))
 |_=>False
theorem Qh (I:Inv X pins σ H s)(r:RelV x v)(ty:DR X.K T x H):
    s.TypeIs v T/\∀a,v=.ref a->∃ob,s.heap.get? a=some ob/\ob.dict=none:=by
  cases x with
  |str z=>
    obtain⟨t,rfl⟩:=r;cases (show T="str" from ty);exact⟨typeIs_str s z t,fun _ e=>nomatch e⟩
  |int i=>
    obtain⟨t,rfl⟩:=r;cases (show T="int" from ty);exact⟨typeIs_int s i t,fun _ e=>nomatch e⟩
  |ref p=>
    cases r;rcases ty with⟨rfl,xs,hq⟩ |⟨rfl,o,hk,hc,hd⟩ |⟨rfl,hk⟩ |⟨rfl,S,n,hk⟩
    · obtain⟨its,_,pl,_⟩:=I.list hq;refine⟨pl.isList.typeIs,fun a e=>?_⟩;cases e;obtain⟨o,n,e,c,hd,_⟩:=pl;exact⟨o,e,hd⟩
    · refine⟨⟨o,I.kIn p o hk,hc⟩,fun a e=>?_⟩;cases e;exact⟨o,I.kIn _ o hk,hd⟩
    · have z:∃o,s.heap.get? p=some o/\o.ExactDict:=by
        rcases hk with⟨kvs,hk⟩ |⟨kvs,hk⟩
        · obtain⟨_,_,_,_,o,_,_,e,ex,_⟩:=I.hok p _ hk;exact⟨o,e,ex⟩
        · obtain⟨_,_,_,_,o,_,_,e,ex,_⟩:=I.hok p _ hk;exact⟨o,e,ex⟩
      obtain⟨o,e,ex⟩:=z;refine⟨⟨o,e,ex.1⟩,fun a e2=>?_⟩;cases e2;exact⟨o,e,ex.2.1⟩
    · obtain⟨o,_,_,_,e,ex,_⟩:=I.hok p _ hk;refine⟨⟨o,e,ex.1⟩,fun a e2=>?_⟩;cases e2;exact⟨o,e,ex.2.1⟩
  |_=>exact False.elim ty
noncomputable def zu (K:Fgx) (T:String) (r:V->List V->Hp->VK->Prop) (to:TE):TE:=fun σ H Q=>to σ H fun x H1=>DR K T x H1/\r x [] H1 Q
variable {o e:Expr}{es:List Expr}{to:TE}{t:TA}{name:Str}{apos cpos:Pos}{T id:String}{r:V->List V->Hp->VK->Prop}
theorem JV (pa:PlainAttrs T)(slot:Slot T name id)(hty:typeOf (.builtin id)=pure (.type "method_descriptor"))(hm:Em X id r)(ho:PE X o to)
  (hbase:attributeBase o name X.env (eval o X.env)=eval o X.env:=by rfl) (hline:(apos.endLine==cpos.line)=true:=by rfl):PE X (.Call (.Attribute o name apos) [] [] cpos) (zu X.K T r to):=by
 intro pins s σ H Q I h;refine wpAny_Call_method0_late hbase hline (aM (ho pins s σ H _ I h) fun v s1 ⟨x,H1,I1,r1,ty,q1⟩=>?_);obtain⟨h1,h2⟩:=Qh I1 r1 ty;exact⟨T,id,pa,slot,hty,h1,h2,Calls.callWith_builtin rfl (PySem.evalArgs_none (hm pins s1 σ H1 x [] v [] Q I1 r1 .nil q1))⟩
end
def zV (X:Cx)(id:String)(r:V->List V->Hp->VK->Prop):Prop:=
 ∀(pins:Pnx) (s:Shared) (σ:St) (H:Hp) (x:V) (xs:List V) (v:Value) (us:List Value) (Q:VK),Inv X pins σ H s->RelV x v->Vals xs us->r x xs H Q->
  wpAny (model X.prog X.w) X.A (call (.builtin id) (v::us)) (EP X pins σ Q) X.xe s
theorem Vals.one:∀{x:V} {us:List Value},Vals [x] us->∃u,us=[u]/\RelV x u
 |_,_,.cons r .nil=>⟨_,rfl,r⟩
theorem Vals.zero:∀{us:List Value},Vals [] us->us=[]
 |_,.nil=>rfl
theorem Vals.rep (h:Vals xs us):∀k:Nat,Vals (List.replicate k xs).flatten (List.replicate k us).flatten
  |0=>.nil
  |k + 1=>by
    rw[S8,S8,Tr,Tr];exact Vals.append h (Vals.rep h k)
theorem foldl_rep (its:List Value):∀(k:Nat) (acc:List Value),
    List.foldl (fun x1 x2=>x1 ++ x2) acc.toArray (List.replicate k its.toArray)=(acc ++ (List.replicate k its).flatten).toArray
  |0,acc=>by simp
  |k + 1,acc=>by
    have e:acc.toArray ++ its.toArray=(acc ++ its).toArray:=by simp
    have e2:(acc ++ its) ++ (List.replicate k its).flatten=acc ++ (List.replicate (k + 1) its).flatten:=by
      rw[S8,Tr,VP]
    rw[<-e2, <-foldl_rep its k (acc ++ its), <-e,S8,Ux]
section
variable {X:Cx}{pins:Pnx}{σ:St}{H:Hp}{s:Shared}{l b:Addr}{xs ys zs:List V}
theorem Inv.lset {its its':List Value}{n:Nat}{f:Array Value->Array Value}{t':Nat}(I:Inv X pins σ H s)(hH:H l=some (.lst xs))
  (e:s.heap.get? l=some {cls:=.type "list",data:=.seq its.toArray n}) (hf:f its.toArray=its'.toArray) (hv:Vals ys its') (hz:ys.length<=sizeLine):
  Inv X pins σ (upd H l (.lst ys)) {s with heap:=s.heap.update l (Obj.mapSeq f),toks:=t'}:=by
 have q:=PySem.IsL.update e f;rw[hf]at q;refine I.write (x:=l) (e:=l) (by rw[hH];exact trivial) (.inl rfl) (fun b' u hb hu=>(Sq s.heap (Obj.mapSeq f) (Tj hb)).trans hu) ⟨_,q⟩ ?_;exact⟨hz,its',_,hv,q⟩
theorem Inv.lnew (I:Inv X pins σ H s)(hv:Vals ys its)(hz:ys.length<=sizeLine):
  Inv X pins σ (upd H s.heap.objs.size (.lst ys)) {s with heap:=s.heap.push {cls:=.type "list",data:=.seq its.toArray},toks:=t'}:=
 I.laid (fun _ _ q=>RL _ q) (RN _) ⟨hz,its,0,hv,Sg _ rfl⟩
theorem Inv.fresh (I:Inv X pins σ H s):H s.heap.objs.size=none:=I.hok.fresh (RN _)
theorem Inv.lstM (I:Inv X pins σ H s)(hH:H l=some (.lst xs)):xs.length<=sizeLine/\∃(its:List Value) (n:Nat),Vals xs its/\xs.length=its.length/\s.heap.get? l=some {cls:=.type "list",data:=.seq its.toArray n}:=by
 obtain⟨z,its,n,r,e⟩:=I.hok l _ hH;exact⟨z,its,n,r,r.length,e⟩
theorem HX (h:n<=sizeLine):Builtin.List.listTooLong n=false:=by
 unfold Builtin.List.listTooLong;exact Td (by omega)
end
section
variable {X:Cx}
def Mf:V->List V->Hp->VK->Prop:=fun x vs H Q=>∃l xs y,x=.ref l/\vs=[y]/\H l=some (.lst xs)/\xs.length<sizeLine/\Q .non (upd H l (.lst (xs ++ [y])))
theorem Hy:zV X "list.append" Mf:=by
 intro pins s σ H x vs v us Q I rx rv h;obtain⟨l,xs,y,rfl,rfl,hH,hz,q⟩:=h;cases rx;obtain⟨u,rfl,ru⟩:=rv.one;obtain⟨z,its,n,r,hl,e⟩:=I.lstM hH;refine Vt F.slot_list_append ⟨_,e,rfl⟩ F.entry_list_append (F.args_list_append_2 _ _) (PySem.list_append l its.toArray n u (by rw[tG];omega)) ⟨e,?_⟩;refine⟨.non,_,I.lset (its':=its ++ [u]) hH e (by simp) (r.append (.cons ru .nil)) ?_,rfl,q⟩;rw[Ss,T7];omega
def Mg:V->List V->Hp->VK->Prop:=fun x vs H Q=>∃l xs,x=.ref l/\vs=[]/\H l=some (.lst xs)/\Q .non (upd H l (.lst []))
theorem Hz:zV X "list.clear" Mg:=by
 intro pins s σ H x vs v us Q I rx rv h;obtain⟨l,xs,rfl,rfl,hH,q⟩:=h;cases rx;have hus:=rv.zero;subst hus;obtain⟨z,its,n,r,hl,e⟩:=I.lstM hH;refine Vt F.slot_list_clear ⟨_,e,rfl⟩ F.entry_list_clear (F.args_list_clear_1 _) (AutoSeq1.list_clear_list_0 l its.toArray n (by rw[tG];omega)) ⟨e,?_⟩;exact⟨.non,_,I.lset (its':=[]) (ys:=[]) hH e rfl .nil (Ud _),rfl,q⟩
noncomputable def yG:R2:=fun x y H Q=>∃l k xs,x=.ref l/\y=.int k/\H l=some (.lst xs)/\ -(2 ^ 63)<=k/\k<2 ^ 63/\xs.length * k.toNat<=sizeLine/\
 ∀p,H p=none->Q (.ref p) (upd H p (.lst (List.replicate k.toNat xs).flatten))
theorem len_rep (xs:List α)(k:Nat):(List.replicate k xs).flatten.length=k * xs.length:=by
 induction k with
 |zero=>simp
 |succ k ih=>rw[S8,Tr,Ss,ih,Nat.succ_mul,Nat.add_comm]
theorem Ce:aV X (binaryOp .Mult) yG:=by
  intro pins s σ H x y v u Q I rx ry h;obtain⟨l,k,xs,rfl,rfl,hH,h1,h2,hz,q⟩:=h;cases rx;obtain⟨t,rfl⟩:=ry;obtain⟨z,its,n,r,hl,e⟩:=I.lstM hH;have hlen:its.toArray.size * k.toNat<=sizeLine:=by rw[tG, <-hl];exact hz
  have hcap:¬ its.toArray.size * k.toNat > (2 ^ 63 - 1) / 8:=by
    have:(sizeLine:Nat)<=(2 ^ 63 - 1) / 8:=by decide
    omega
  have hfit:¬ (!Builtin.List.listFitsIndex k)=true:=by
    rw[fitsIndex_both h1 h2];exact RP
  have hlong:¬ Builtin.List.listTooLong (its.toArray.size * k.toNat)=true:=by
    rw[HX hlen];exact RP
  have hnew:List.foldl (fun x1 x2=>x1 ++ x2) #[] (List.replicate (if its.toArray.isEmpty=true then 0 else k.toNat) its.toArray)=(List.replicate k.toNat its).flatten.toArray:=by
    have f0:∀m:Nat,List.foldl (fun x1 x2=>x1 ++ x2) #[] (List.replicate m its.toArray)=(List.replicate m its).flatten.toArray:=fun m=>by
      have:=foldl_rep its m [];rw[List.nil_append]at this;exact this
    rw[f0]
    cases its with
    |nil=>simp
    |cons a r'=>rw[R5 (by simp)]
  refine wpAny_binaryOp_repeat_ref (T:="list") (U:="int") (by decide) ⟨_,e,rfl⟩ (fun s'=>typeIs_int s' k t) noFill_list_mul F.fills_int_mul F.slot_int_rmul repeat_list F.slot_int_index.lookup
    (Vt F.slot_int_rmul (typeIs_int s k t) F.entry_int_rmul (F.args_int_rmul_2 _ _) (int___rmul___int_list k t l its.toArray n)
      ⟨e,rfl,⟨_,e,rfl⟩,Vt F.slot_list_mul ⟨_,e,rfl⟩ F.entry_list_mul (F.args_list_mul_2 _ _) (AutoListH.list___mul___list_int_3 l its.toArray n k t hfit hcap hlong) ⟨e,?_⟩⟩)
  rw[hnew];exact⟨.ref _,_,I.lnew (t':=s.toks) (r.rep k.toNat) (by rw[len_rep,Nat.mul_comm];exact hz),rfl,q _ I.fresh⟩
end
end L2
namespace Att
open PySem PySem.W PySem.Calls PyProof.Rows
theorem GK:∀(ns:List Int) (vs:List Value),WellAll P h vs (ns.map WData.int)->IntsAre vs ns:=by
  intro ns
  induction ns with
  |nil=>
    intro vs w;rw[List.map_nil]at w;cases w;exact .nil
  |cons n ns ih=>
    intro vs w;rw[TY]at w
    cases w with
    |cons a b=>
      cases a;exact .cons _ _ (ih _ b)
theorem Oo {l:OpenLaw}{n:Nat}(hn:l.most=some n){P:Params}{h:Heap}{args:List WData}{vals:List Value}
    (hpre:l.row.toRowW.claim.pre args=true) (hwl:WellAll P h vals args):
    ∃a vs ns,vals=[Value.ref a]/\args=[WData.list (ns.map WData.int)]/\h.get? a=some {cls:=.type "list",data:=.seq vs.toArray}/\IntsAre vs ns/\ns.length<=n:=by
  have hsh:WShape.hasAll [] args [.list .int]=true:=(pre_splitW hpre).1;have hc:l.pre.holds [] {args:=args}=true:=(pre_splitW hpre).2;obtain⟨d,r,rfl,h1,h2⟩:=hasAllW_cons hsh;obtain rfl:=hasAllW_nil h2;obtain⟨xs,rfl,h3⟩:=hasW_list h1;obtain⟨ns,rfl⟩:=items_int h3;have hlen:ns.length<=n:=by
    unfold OpenLaw.pre at hc;have h4:(WTm.not (.lt (.lit (.int (n:Int))) (.len (.arg 0)))).holds [] {args:=[.list (ns.map .int)]}=true:=by
      have h4:=(holds_andW hc).1;rw[hn]at h4;exact h4
    have h5:=condW_of h4 (w_not (w_lt w_lit (w_len_list (w_arg rfl))));rw[R3]at h5;refine Nat.le_of_not_lt fun q=>?_;have q':(n:Int)<((ns.length:Nat):Int):=by omega
    first
      |(rw[decide_eq_true q']at h5;exact absurd h5 (by decide))
      |(simp at h5;omega)
  cases hwl with
  |cons w1 w2=>
    cases w2
    cases w1 with
    |list ho hall=>exact⟨_,_,ns,rfl,rfl,ho,GK ns _ hall,hlen⟩
theorem Kp (l:OpenLaw)(args:List WData):l.row.toRowW.claim.post args (.bool true) args=true:=
 postW_of (r:=l.row.toRowW) (X:=(true==true))
  (show WShape.has [] (.bool true) .bool=true by first |rfl |decide |simp[WShape.has,WShape.arms,WShape.armsAll])
  (show(WTm.eq .res (.lit (.bool true))).value [] {args:=args,res:=some (.bool true),after:=args}=some (.bool (true==true)) from w_eq_bool (w_res rfl) w_lit) rfl
theorem Ep {l:OpenLaw}{n:Nat}{q:Program}{loose:List Str}{XP:(Mgx)->Heap->Prop}{YP:World->Heap->Prop}{d:DefRec}
  (hn:l.most=some n) (hdf:d.params.defaults=[])
  (call:∀(w:World) (s₀ s₁:Shared) (mg mb:Mgx) (fa:Addr) (o:Obj) (pm cd doc:Value) (a:Addr) (vs:List Value) (ns:List Int),
   Ground q loose [] XP w s₀ mg mb s₁.heap->YP w s₁.heap->
   s₁.heap.get? fa=some o->o.data=.func (docDef d.name d.params d.body d.scope pm cd doc)->s₁.heap.CodeRec cd d.name->mg d.name=some (.ref fa)->
   s₁.heap.get? a=some {cls:=.type "list",data:=.seq vs.toArray}->IntsAre vs ns->ns.length<=n->s₁.gens= #[]->
   codeAny (model l.prog w) callerA (.call (.ref fa) ⟨[.ref a],[]⟩) (fun r s'=>r=.ok (.ret (.bool true))/\OldK s₁.heap s'.heap/\s'.os=s₁.os/\AllBare s'.gens) s₁):
  WalkO q loose XP YP l.row.toRowW d [] (fun f vs=>PySem.call f vs):=by
 intro w s₀ s₁ mg mb G Y fa o pm cd doc dV kV ho hd hcd hD hmg hg args vals as hpre hlay hrd hwl hlo;obtain rfl:dV=.none:=Dflts.none hD hdf;obtain rfl:kV=.none:=Dflts.noKw hD;obtain⟨a,vs,ns,rfl,rfl,hobj,hints,hlen⟩:=Oo hn hpre hwl;refine enter_call (Uu (call w s₀ s₁ mg mb fa o pm cd doc a vs ns G Y ho (fd_plain hd) hcd hmg hobj hints hlen hg) fun r s' hq=>?_);obtain⟨rfl,h2,h3,h4⟩:=hq;exact⟨.inl ⟨.bool true,.bool true,[],rfl,fun _=>rfl,.bool true,Kp l _,fun _=>⟨List.Pairwise.nil,fun _ hm=>(nomatch hm)⟩⟩,h2,h3,h4⟩
end Att
namespace L2
open PySem PySem.Spec PyProof.Rows
theorem DX:∀{vs:List Value} {ns:List Int},IntsAre vs ns->Vals (ns.map V.int) vs
 |_,_,.nil=>.nil
 |_,_,.cons n t h=>.cons ⟨t,rfl⟩ (DX h)
def Only (H:Hp):Prop:=∀b,H b=none\/∃o xs,H b=some (.frz o (.lst xs))
theorem Hi {P:Program}{w:World}{K:Fgx}{mg mb:Mgx}{CX:cR}{k:Nat}{fa a:Addr}{fd:FuncData}{x:Str}{sp:Sp}{s₁:Shared}{vs:List Value}{ns:List Int}
    (KX:K.In s₁.heap) (hns:s₁.heap.Ns mainGlobals mg) (hb:s₁.heap.Ns builtinsNs mb) (hbb:∀x:Str,x≠"__name__"->mb x=bootBuiltins x) (hlim:s₁.heap.NoLimit) (hg:s₁.gens= #[])
    (ha:s₁.heap.get? a=some {cls:=.type "list",data:=.seq vs.toArray}) (hi:IntsAre vs ns) (hl:ns.length<=sizeLine) (hr:Room k callerA)
    (F:∀base:Heap,K.In base->base.Ns mainGlobals mg->FnOk P w K mg base CX k fa fd [x] sp) (hbind:∀(s:Shared) (u:Value),BindsTo s fd ⟨[u],[]⟩ [(x,u)])
    (hsp:∀H:Hp,Only H->bf K H a (ns.map V.int)->sp [.ref a] H (fun v _=>v=.bl true) fun _ _ _=>False)
    (hCX:∀H e s',CX [] H s₁ (fun _ _ _=>False) e s'->False):
    codeAny (model P w) callerA (.call (.ref fa) ⟨[.ref a],[]⟩) (fun r s'=>r=.ok (.ret (.bool true))/\OldK s₁.heap s'.heap/\s'.os=s₁.os/\AllBare s'.gens) s₁:=by
  have rv:=DX hi;have lenV:=hi.length
  -- from an abstract heap in which nothing but the script may be tracked
  have core:∀H:Hp,Only H->bf K H a (ns.map V.int)->bG P w H s₁.heap->(∀b,H b≠none->b=a)->(H a≠none->K.lookup a=none)->
      codeAny (model P w) callerA (.call (.ref fa) ⟨[.ref a],[]⟩) (fun r s'=>r=.ok (.ret (.bool true))/\OldK s₁.heap s'.heap/\s'.os=s₁.os/\AllBare s'.gens) s₁:=by
    intro H hO hS hok hA hK;have base_of:∀{b:Addr} {o:Obj},s₁.heap.get? b=some o->H b=none->(cP s₁.heap H).get? b=some o:=fun e n=>Gz e n;have noA:∀{b:Addr} {o:Obj} {es:Array DictEntry} {ep:Nat},s₁.heap.get? b=some o->o.data=.dict es ep->H b=none:=fun {b o es ep} e d=>by
      cases q:H b with
      |none=>rfl
      |some u=>
        have e':b=a:=hA b (by rw[q];simp);subst e';rw[ha]at e;cases e;have d':Data.seq vs.toArray _=Data.dict es ep:=d;cases d'
    have nsK : ∀ {b : Addr} {m : Mgx}, s₁.heap.Ns b m -> (cP s₁.heap H).Ns b m := fun {b m} ⟨o, es, ep, e, d, r⟩ => ⟨o, es, ep, base_of e (noA e d), d, r⟩;have hKb : K.In (cP s₁.heap H) := fun b o e => base_of (KX b o e) (by
      cases q:H b with
      |none=>rfl
      |some u=>
        have e':b=a:=hA b (by rw[q];simp);subst e';rw[hK (by rw[q];simp)]at e;cases e)
    have hM:Mod K mg (cP s₁.heap H):=⟨hKb,nsK hns,⟨mb,nsK hb,hbb⟩,let ⟨mc,h1,h2⟩:=hlim;⟨mc,nsK h1,h2⟩⟩
    have e0:Env0 P w K mg (cP s₁.heap H) callerA [] s₁ H:=⟨rfl,hM,fun b o e=>Jo e,VG (GC _ _),trivial,fun b hb=>absurd (show b∈([]:List Addr) from hb) (by simp),hok,.of_eq hg⟩;refine Uu ((F _ hKb (nsK hns)).run callerA [] s₁ H ⟨[.ref a],[]⟩ [.ref a] [.ref a] _ _ hr e0 (hbind s₁ (.ref a)) (.cons rfl .nil) (hsp H hO hS)) fun r s' h=>?_
    cases r with
    |error e=>exact(hCX H e s' h).elim
    |ok fl=>
      cases fl with
      |next=>exact False.elim h
      |brk=>exact False.elim h
      |cont=>exact False.elim h
      |ret u=>
        obtain⟨v,H',os,bare,un,hok',r',q⟩:=h;have q':v=.bl true:=q;subst q';obtain rfl:u=Value.bool true:=r';refine⟨rfl,OldK.of_keep fun b o e=>?_,os,bare⟩
        cases q:H b with
        |none=>exact un.keep b o e q (by intro z;exact absurd (show b∈([]:List Addr) from z) (by simp)) (by simp)
        |some u=>
          rcases hO b with z |⟨ob,xs,z⟩
          · rw[q]at z;cases z
          · have z2:=un.frzs b ob _ z;obtain⟨e1,_⟩:=hok b _ z;obtain⟨e2,_⟩:=hok' b _ z2;rw[e]at e1;cases e1;exact e2
  cases hk:K.lookup a with
  |some o=>
    -- the script is one of the module's own objects
    have e:=KX a o hk;rw[ha]at e;cases e;refine core (fun _=>none) (fun _=>.inl rfl) (.inr ⟨_,vs.toArray,_,hk,rfl,rfl,rfl,by rw[tG,lenV];exact hl,by simpa using rv⟩) (fun b u z=>by have z':(none:Option HO)=some u:=z;cases z') (fun b z=>absurd rfl z) fun z=>absurd rfl z
  |none=>
    refine core (fun b=>if b=a then some (.frz {cls:=.type "list",data:=.seq vs.toArray} (.lst (ns.map V.int))) else none) (fun b=>?_) (.inl (.inr ⟨{cls:=.type "list",data:=.seq vs.toArray},RW rfl⟩)) (fun b u z=>?_) (fun b z=>?_) fun _=>hk
    · by_cases hb:b=a
      · exact .inr ⟨_,_,RW hb⟩
      · exact .inl (R5 hb)
    · by_cases hb:b=a
      · have z':=(RW hb).symm.trans z;cases z';subst hb;exact⟨ha,by rw[R3];exact hl,vs,_,rv,ha⟩
      · have z':=(R5 hb).symm.trans z;cases z'
    · by_cases hb:b=a
      · exact hb
      · exact absurd (R5 hb) z
theorem QJ {l:PySem.W.OpenLaw}{n k:Nat}{q:Program}{loose:List Str}{XP:(Mgx)->Heap->Prop}{YP:World->Heap->Prop}{d:DefRec}{K:Params->Fgx}{CX:World->cR}{sp:World->Sp}{x:Str}
  (hn:l.most=some n) (hn2:n<=sizeLine) (hdf:d.params.defaults=[]) (hr:Room k callerA)
  (hY:∀(w:World) (h:Heap),YP w h->(K w.params).In h)
  (F:∀(w:World) (mg:Mgx) (fa:Addr) (h:Heap),(K w.params).In h->h.Ns mainGlobals mg->mg d.name=some (.ref fa)->
   ∃fd:FuncData,(∀(s:Shared) (u:Value),BindsTo s fd ⟨[u],[]⟩ [(x,u)])/\
    ∀base:Heap,(K w.params).In base->base.Ns mainGlobals mg->FnOk l.prog w (K w.params) mg base (CX w) k fa fd [x] (sp w))
  (hsp:∀(w:World) (H:Hp) (a:Addr) (ns:List Int),ns.length<=n->Only H->bf (K w.params) H a (ns.map V.int)->sp w [.ref a] H (fun v _=>v=.bl true) fun _ _ _=>False)
  (hCX:∀(w:World) (H:Hp) (s:Shared) (e:Value) (s':Shared),CX w [] H s (fun _ _ _=>False) e s'->False):
  PySem.W.WalkO q loose XP YP l.row.toRowW d [] (fun f vs=>PySem.call f vs):=by
 refine Att.Ep hn hdf fun w s₀ s₁ mg mb fa o pm cd doc a vs ns G Y ho hd hcd hmg hobj hints hlen hg=>?_;have KX:=hY w _ Y;obtain⟨fd,hb,hF⟩:=F w mg fa _ KX G.T.g hmg;exact Hi KX G.T.g G.T.b G.T.builtins G.T.nolimit hg hobj hints (Sh hlen hn2) hr hF hb (fun H hO hS=>hsp w H a ns hlen hO hS) fun H e s'=>hCX w H s₁ e s'
theorem QK {l:PySem.W.OpenLaw}{n k:Nat}{q:Program}{loose:List Str}{XP:(Mgx)->Heap->Prop}{YP:World->Heap->Prop}{d:DefRec}{K:Params->Fgx}{CX:cR}{sp:Fgx->Sp}{x:Str}
  (hn:l.most=some n) (hn2:n<=sizeLine) (hdf:d.params.defaults=[]) (hr:Room k callerA)
  (hY:∀(w:World) (h:Heap),YP w h->(K w.params).In h)
  (F:∀(w:World) (mg:Mgx) (fa:Addr) (h:Heap),(K w.params).In h->h.Ns mainGlobals mg->mg d.name=some (.ref fa)->
   ∃fd:FuncData,(∀(s:Shared) (u:Value),BindsTo s fd ⟨[u],[]⟩ [(x,u)])/\
    ∀base:Heap,(K w.params).In base->base.Ns mainGlobals mg->FnOk l.prog w (K w.params) mg base CX k fa fd [x] (sp (K w.params)))
  (hsp:∀(K:Fgx) (H:Hp) (a:Addr) (ns:List Int),ns.length<=n->Only H->bf K H a (ns.map V.int)->sp K [.ref a] H (fun v _=>v=.bl true) fun _ _ _=>False)
  (hCX:∀(H:Hp) (s:Shared) (e:Value) (s':Shared),CX [] H s (fun _ _ _=>False) e s'->False):
  PySem.W.WalkO q loose XP YP l.row.toRowW d [] (fun f vs=>PySem.call f vs):=
 QJ (K:=K) (CX:=fun _=>CX) (sp:=fun w=>sp (K w.params)) hn hn2 hdf hr hY F (fun w H a ns h1 h2 h3=>hsp (K w.params) H a ns h1 h2 h3) fun _ H s e s'=>hCX H s e s'
noncomputable def bK (s:Stmt):Arguments:=match s with
 |.FunctionDef _ a _ _ _ _ _ _ _ _=>a
 |_=>{posonlyargs:=[],args:=[],vararg:=none,kwonlyargs:=[],kw_defaults:=[],kwarg:=none,defaults:=[]}
noncomputable def bA (s:Stmt):List Stmt:=match s with
 |.FunctionDef _ _ b _ _ _ _ _ _ _=>b
 |_=>[]
noncomputable def aO (s:Stmt):Scope:=match s with
 |.FunctionDef _ _ _ _ _ _ sc _ _ _=>sc
 |_=>{kind:=.function,names:=[],isGenerator:=false,isCoroutine:=false}
abbrev dJ:cR:=fun _ _ _ _ _ _=>False
abbrev E0:XK:=fun _ _ _=>False
theorem tV:Passes dJ X E0:=fun _ _ _ _ _ _ _ h=>h.elim
structure Fun (K:Fgx)(x qual:Str)(st:Stmt)(f:Addr)(fd:FuncData):Prop where
 ex:∃(oc:Value) (od:Option Addr) (kV doc pm:Value) (an:Option Addr) (cdv ct:Value) (osl:Array (Option Value)),
  fd=PySem.W.fnOf x qual (bK st) (bA st) (aO st) .none kV doc pm an cdv ct/\K.lookup f=some ⟨oc,od,.func fd,osl⟩/\PySem.W.codeIn K cdv qual=true
 kp:PySem.W.keepIn K (.ref f)=true
section
variable {P:Program}{w:World}{K:Fgx}{mg:Mgx}{base:Heap}
theorem Fun.binds {x qual:Str}{st:Stmt}{f:Addr}{fd:FuncData}{ps:List Str}(F:Fun K x qual st f fd)
  (h:∀(kV doc pm:Value) (an:Option Addr) (cdv ct:Value) (us:List Value),us.length=ps.length->bindArgs (PySem.W.fnOf x qual (bK st) (bA st) (aO st) .none kV doc pm an cdv ct) ⟨us,[]⟩=pure (ps.zip us)):Binds K fd ps []:=by
 obtain⟨oc,od,kV,doc,pm,an,cdv,ct,osl,rfl,lk,hcd⟩:=F.ex;exact .all (h kV doc pm an cdv ct)
theorem fJ {x qual:Str}{st:Stmt}{f:Addr}{oc:Value}{od an:Option Addr}{osl:Array (Option Value)}{kV doc pm cdv ct:Value}(l:K.lookup f=some ⟨oc,od,.func (PySem.W.fnOf x qual (bK st) (bA st) (aO st) .none kV doc pm an cdv ct),osl⟩)
  (c:PySem.W.codeIn K cdv qual=true) (k:PySem.W.keepIn K (.ref f)=true):Fun K x qual st f (PySem.W.fnOf x qual (bK st) (bA st) (aO st) .none kV doc pm an cdv ct):=⟨⟨oc,od,kV,doc,pm,an,cdv,ct,osl,rfl,l,c⟩,k⟩
end
def Same (H H':Hp):Prop:=∀b o,H b=some o->H' b=some o
theorem Same.refl (H:Hp):Same H H:=fun _ _ h=>h
theorem Same.free (e:Same H H')(h:H' l=Option.none):H l=Option.none:=by
  cases q:H l with
  |none=>rfl
  |some o=>
    rw[e l o q]at h;cases h
end L2
set_option maxHeartbeats 0
namespace L2
open PySem PySem.Spec PyProof.Rows
section
variable {κ:Type}[DecidableEq κ]
noncomputable def dI (kvs:List (κ×V)) (k:κ):Option V:=(kvs.find? fun kv=>decide (kv.1=k)).map (·.2)
noncomputable def putK (kvs:List (κ×V)) (k:κ) (v:V):List (κ×V):=
 if (kvs.any fun kv=>decide (kv.1=k))=true then kvs.map (fun kv=>if kv.1=k then(kv.1,v) else kv) else kvs ++ [(k,v)]
theorem RG {p:κ×V}{r:List (κ×V)}{k:κ}(e:p.1=k):dI (p::r) k=some p.2:=by simp[dI,List.find?_cons,e]
theorem RD {p:κ×V}{r:List (κ×V)}{k:κ}(e:¬ p.1=k):dI (p::r) k=dI r k:=by simp[dI,List.find?_cons,e]
end
abbrev KT (H:Hp):List (List Key×V)->List (List Key×Addr×Value)->Prop:=Paired fun p q=>p.1=q.1/\H q.2.1=some (.tup (p.1.map kV))/\RelV p.2 q.2.2
def Ea (H:Hp)(a:Addr)(y:V)(r:Option V):Prop:=
 (∃kvs k,Rd H a (.dK kvs)/\y=kV k/\r=dI kvs k)\/∃kvs k b,Rd H a (.dT kvs)/\y=.ref b/\H b=some (.tup (k.map kV))/\r=dI kvs k
def Ec (H:Hp)(a:Addr)(y v:V)(H':Hp):Prop:=
 (∃kvs k,H a=some (.dK kvs)/\y=kV k/\kvs.length<sizeLine/\H'=upd H a (.dK (putK kvs k v)))\/
 ∃kvs k b,H a=some (.dT kvs)/\y=.ref b/\H b=some (.tup (k.map kV))/\kvs.length<sizeLine/\H'=upd H a (.dT (putK kvs k v))
structure M1 (X:Cx)(o:Expr)(m:Str)(apos:Pos)(e:Expr)(cpos:Pos):Prop where
 base:attributeBase o m X.env (eval o X.env)=eval o X.env
 few : ((backTo cpos (starEach [e] X.env)).all (fun x=> !x.1) && (backToKw cpos (keywordEach [] X.env)).all (fun x=>x.1.isSome)
  && decide (([e]:List Expr).length + ([]:List Keyword).length + (if ([]:List Keyword).isEmpty then 0 else 1)<30))=true
 line:(apos.endLine==cpos.line)=true
 trees:backTo cpos (starEach [e] X.env)=[(false,eval e X.env)]
structure M2 (X:Cx)(o:Expr)(m:Str)(apos:Pos)(e f:Expr)(cpos:Pos):Prop where
 base:attributeBase o m X.env (eval o X.env)=eval o X.env
 few : ((backTo cpos (starEach [e,f] X.env)).all (fun x=> !x.1) && (backToKw cpos (keywordEach [] X.env)).all (fun x=>x.1.isSome)
  && decide (([e,f]:List Expr).length + ([]:List Keyword).length + (if ([]:List Keyword).isEmpty then 0 else 1)<30))=true
 line:(apos.endLine==cpos.line)=true
 trees:backTo cpos (starEach [e,f] X.env)=[(false,eval e X.env),(false,eval f X.env)]
end L2
namespace Att
open PySem PySem.W PySem.Calls PyProof.Rows
end Att
namespace L2
open PySem PySem.Spec PyProof.Rows
section
variable {X:Cx}
def yI:V->Option Int->Option Int->Hp->VK->Prop:=fun x lo hi H Q=>∃z,x=.str z/\z.length<=sizeLine/\Q (.str (Txt.slice z lo hi)) H
theorem O6:lC X yI:=by
 intro pins s σ H x v vl vu lo hi sl Q I rx hs pl pu h;obtain⟨z,rfl,hz,q⟩:=h;obtain⟨t,rfl⟩:=rx;refine⟨"str",_,F.slot_str_getitem.lookup,typeIs_str _ _ _,?_⟩;obtain⟨o,ho,hc,hd⟩:=hs;cases pl<;>cases pu
 ·exact TX (l:=none) (u:=none) (st:=none) ⟨o,ho,hc,hd⟩ rfl (Uy ⟨Sh (Vd z none none) hz,fun t' k=>⟨.str _,H,I.tok _,⟨_,rfl⟩,q⟩⟩)
 ·rename_i j uj;exact TX (l:=none) (u:=some (j,uj)) (st:=none) ⟨o,ho,hc,hd⟩ rfl (Uy ⟨Sh (Vd z none (some j)) hz,fun t' k=>⟨.str _,H,I.tok _,⟨_,rfl⟩,q⟩⟩)
 ·rename_i i ui;exact TX (l:=some (i,ui)) (u:=none) (st:=none) ⟨o,ho,hc,hd⟩ rfl (Uy ⟨Sh (Vd z (some i) none) hz,fun t' k=>⟨.str _,H,I.tok _,⟨_,rfl⟩,q⟩⟩)
 ·rename_i i ui j uj;exact TX (l:=some (i,ui)) (u:=some (j,uj)) (st:=none) ⟨o,ho,hc,hd⟩ rfl (Uy ⟨Sh (Vd z (some i) (some j)) hz,fun t' k=>⟨.str _,H,I.tok _,⟨_,rfl⟩,q⟩⟩)
theorem Jz:aV X (compareOp .Is) (fun x y H Q=>∃b,y=.bl b/\Q (.bl (decide (x=.bl b))) H):=by
 intro pins s σ H x y v u Q I rx ry h;obtain⟨b,rfl,q⟩:=h;cases ry
 cases x with
 |bl c=>cases rx;exact RZ (aP I q (by cases b<;>cases c<;>rfl))
 |non=>cases rx;exact RZ (aP I q (by simp))
 |int _=>obtain⟨t,rfl⟩:=rx;exact RZ (aP I q (by simp))
 |str _=>obtain⟨t,rfl⟩:=rx;exact RZ (aP I q (by simp))
 |byt _=>obtain⟨t,rfl⟩:=rx;exact RZ (aP I q (by simp))
 |flt _=>obtain⟨t,rfl⟩:=rx;exact RZ (aP I q (by simp))
 |ref _=>cases rx;exact RZ (aP I q (by simp))
 |ty _=>cases rx;exact RZ (aP I q (by simp))
theorem JC:aV X (compareOp .IsNot) (fun x y H Q=>∃b,y=.bl b/\Q (.bl (!decide (x=.bl b))) H):=by
 intro pins s σ H x y v u Q I rx ry h;obtain⟨b,rfl,q⟩:=h;cases ry
 cases x with
 |bl c=>cases rx;exact RZ (aP I q (by cases b<;>cases c<;>rfl))
 |non=>cases rx;exact RZ (aP I q (by simp))
 |int _=>obtain⟨t,rfl⟩:=rx;exact RZ (aP I q (by simp))
 |str _=>obtain⟨t,rfl⟩:=rx;exact RZ (aP I q (by simp))
 |byt _=>obtain⟨t,rfl⟩:=rx;exact RZ (aP I q (by simp))
 |flt _=>obtain⟨t,rfl⟩:=rx;exact RZ (aP I q (by simp))
 |ref _=>cases rx;exact RZ (aP I q (by simp))
 |ty _=>cases rx;exact RZ (aP I q (by simp))
theorem range_all (bs:List Bool):(List.range bs.length).all (fun i=>(bs[i]?).getD false)=bs.all id:=by
 rw[S5,Ve,Ve]
 constructor
 ·intro h b hb;obtain⟨i,hi,e⟩:=List.mem_iff_getElem.mp hb;have:=h i (UL.mpr hi);rw[RV hi,e]at this;exact this
 ·intro h i hi;have hi':=UL.mp hi;rw[RV hi'];exact h _ (List.getElem_mem hi')
theorem Ew {bs:List Bool}{its:List Value}(r:Vals (bs.map V.bl) its){i:Nat}{v:Value}(h:its.toArray[i]? =some v):v=.bool ((bs[i]?).getD false):=by
 have h':its[i]? =some v:=by simpa using h
 have hl:=r.length;rw[R3]at hl;have hi:i<bs.length:=by
  have:=(RX.mp h').1;omega
 have hx:(bs.map V.bl)[i]? =some (V.bl bs[i]):=by rw[R7,RV hi];rfl
 obtain⟨u,hu,ru⟩:=r.get hx;rw[h']at hu;cases hu;rw[RV hi];exact ru
theorem Ez (hc:X.calm=true):cI X (.builtin "all") (fun xs H Q=>∃(p:Addr) (bs:List Bool),xs=[.ref p]/\bf X.K H p (bs.map V.bl)/\Q (.bl (bs.all id)) H):=by
 intro pins s σ H xs us Q I r h;obtain⟨p,bs,rfl,hq,q⟩:=h;obtain⟨u,rfl,ru⟩:=vals1 r;cases ru;obtain⟨its,rv,pl,hz⟩:=I.list hq;have hp:p<s.heap.objs.size:=by obtain⟨o,ho,_⟩:=pl.isList;exact RK ho
 have hn:its.toArray.size=bs.length:=by rw[tG, <-rv.length,R3]
 refine call_all_walk (wpAny_pyIter_list pl.isList ⟨s.heap.objs.size,_,_,its.toArray.size,_,_,fun i=>(bs[i]?).getD false,rfl,Walks.list (A:=X.A.in1) (show X.A.in1.handled=none from I.ok.hd hc) _ p (R9 hp) its.toArray,
  ⟨⟨_,Sg _ rfl,rfl,rfl⟩,pl.isList.at fun o e=>RL _ e⟩,fun i v s' Q' E' hv hQ=>?_,fun h' tk kk=>?_⟩)
 ·rw[Ew rv hv];exact Uo hQ
 ·rw[hn,range_all];refine⟨.bl _,H,I.kept fun b o e=>kk b o ?_ (RL _ e),rfl,q⟩;intro z;have z':b=s.heap.objs.size:=by simpa using z
  exact Tp _ (z' ▸ RK e)
end
section
variable {X:Cx}{pins:Pnx}{σ:St}{H:Hp}{s:Shared}
theorem GJ:∀{us:List Value},Vals (ns.map V.int) us->IntsAre us ns:=by
  induction ns with
  |nil=>intro us h;cases us with
    |nil=>exact .nil
    |cons u us=>cases h
  |cons n ns ih=>intro us h;cases us with
    |nil=>cases h
    |cons u us=>
      cases h with
      |cons a b=>
        obtain⟨t,rfl⟩:=a;exact .cons _ _ (ih b)
end
abbrev TJ:=Str->St->Hp->VK->Prop
theorem Bc (g:α->β->β):∀(l:List α) (b:β),(∀x∈l,∀b,f x b=pure (.yield (g x b)))->(forIn l b f:Sem β)=pure (l.foldl (fun b x=>g x b) b)
  | [],b,_=>rfl
  |x::l,b,h=>by
    rw[List.forIn_cons,h x SM b];simp only[pure_bind,Ux];exact Bc g l (g x b) fun y hy=>h y (R4 _ hy)
noncomputable def fY (cells:List (Str×Addr)) (cs:List (Str×Addr)) (x:Str×NameKind):List (Str×Addr):=if x.2=.free then(x.1,(cells.lookup x.1).getD 0)::cs else cs
noncomputable def dN (cells:List (Str×Addr)) (names:List (Str×NameKind)):List (Str×Addr):=names.foldl (fY cells) []
theorem Fp (h:∀y∈scope.names,y.2=.free->∃c,env.cells.lookup y.1=some c):closureFor scope env=pure (dN env.cells scope.names):=by
 simp only [closureFor];rw [Bc (fun x cs => fY env.cells cs x) scope.names [] (fun x hx c=>by
  obtain⟨n,kind⟩:=x
  by_cases hk:kind=.free
  ·obtain⟨a,ha⟩:=h _ hx hk;subst hk;have ha':env.cells.lookup n=some a:=ha
   simp[cellOf,ha',fY]
  ·have hk':(kind==NameKind.free)=false:=by simpa using hk
   simp[hk',hk,fY])]
 rfl
theorem Ak:∀(names:List (Str×NameKind)) (acc:List (Str×Addr)),(∀y∈names,y.2=.free->∃c,cells.lookup y.1=some c)->
    (∀x c,acc.lookup x=some c->cells.lookup x=some c)->∀x c,(names.foldl (fY cells) acc).lookup x=some c->cells.lookup x=some c
  | [],_,_,h,x,c,e=>h x c e
  |(n,k)::r,acc,hc,h,x,c,e=>by
    rw[Ux]at e;refine Ak r _ (fun y hy=>hc y (R4 _ hy)) ?_ x c e;intro y d hd;unfold fY at hd
    by_cases hk:k=.free
    · obtain⟨a,ha⟩:=hc (n,k) SM hk;have ha':cells.lookup n=some a:=ha;simp only[hk,T6,ha',Vf,Tv]at hd
      cases hyn:y==n with
      |true=>
        rw[hyn]at hd;have e2:=eq_of_beq hyn;subst e2;exact ha'.trans hd
      |false=>
        rw[hyn]at hd;exact h y d hd
    · simp only[hk,VR]at hd;exact h y d hd
theorem wC:∀(names:List (Str×NameKind)) (acc:List (Str×Addr)) (x:Str),((x,NameKind.free)∈names\/∃c,acc.lookup x=some c)->∃c,(names.foldl (fY cells) acc).lookup x=some c
  | [],acc,x,h=>by
    rcases h with h |h
    · exact absurd h (by simp)
    · exact h
  |(n,k)::r,acc,x,h=>by
    rw[Ux];refine wC r _ x ?_;have keep:(∃c,acc.lookup x=some c)->∃c,(fY cells acc (n,k)).lookup x=some c:=fun⟨c,hc⟩=>by
      unfold fY
      by_cases hk:k=.free
      · simp only[hk,T6,Tv]
        cases hxn:x==n with
        |true=>exact⟨_,rfl⟩
        |false=>exact⟨c,hc⟩
      · simp only[hk,VR];exact⟨c,hc⟩
    rcases h with h |h
    · rcases Sy.mp h with h |h
      · cases h;refine .inr ?_;unfold fY;simp only[T6,Tv,Te];exact⟨_,rfl⟩
      · exact .inl h
    · exact .inr (keep h)
noncomputable def bR (psc:Scope) (names:List (Str×NameKind)):List (Str×NameKind):=names.map fun(n,k)=>if (k==.free && psc.kind==.function && psc.names.lookup n==some .cell) then(n,.cell) else(n,k)
theorem pY:∀{names:List (Str×NameKind)} {x:Str} {k':NameKind},(bR psc names).lookup x=some k'->(k'=.cell\/k'=.free)->(∀y∈names,y.2≠ .cell)->(x,NameKind.free)∈names
  | [],_,_,h,_,_=>by simp[bR]at h
  |(n,k)::r,x,k',h,hk,hn=>by
    have ih:= @pY psc r x k';have h':List.lookup x ((if (k==NameKind.free && psc.kind==.function && psc.names.lookup n==some .cell)=true then(n,NameKind.cell) else(n,k))::bR psc r)=some k':=h
    cases hx:x==n with
    |true=>
      have e:=eq_of_beq hx;subst e
      by_cases hc:(k==NameKind.free && psc.kind==.function && psc.names.lookup x==some .cell)=true
      · have hkf:k=.free:=by
          cases k<;>first |rfl |(exfalso;simp at hc)
        rw[hkf];exact SM
      · rw[R5 hc]at h';simp only[Tv,Te]at h';have e2:k=k':=R0 h';subst e2;rcases hk with hk |hk
        · exact absurd hk (hn (x,k) SM)
        · rw[hk];exact SM
    |false=>
      refine R4 _ (ih ?_ hk fun y hy=>hn y (R4 _ hy))
      by_cases hc:(k==NameKind.free && psc.kind==.function && psc.names.lookup n==some .cell)=true
      · rw[RW hc]at h';simp only[Tv,hx]at h';exact h'
      · rw[R5 hc]at h';simp only[Tv,hx]at h';exact h'
noncomputable def cT (cs:List (Str×Nat)) (σ:St):St:=cs.map fun p=>(σ[p.2]?).join
abbrev dB (X:Cx)(Nc:List Str)(scope:Scope)(cl:List (Str×Addr))(C:Addr)(s₀:Shared)(H₀:Hp)(ex:List Addr)(pn:Pnx):Cx:=
 {X with N:=Nc,s₀:=s₀,H₀:=H₀,env:=compEnvC scope cl C X.env,outer:=X.stack,ex:=ex,fn:=fun _=>false,pn:=pn,xe:=fun _ _=>False}
noncomputable def sJ (N:List Str) (psc:Scope) (x:Str) (cs:List (Str×Nat)) (scope:Scope):Bool:=
 scope.kind==.function && scope.names.lookup x==some .local && decide ((x::cs.map (·.1)).Nodup) &&
 scope.names.all (fun y=>y.2 !=.cell && (y.2 !=.local || scope.names.lookup y.1==some .local) && (y.2 !=.free || (psc.names.lookup y.1==some .cell || psc.names.lookup y.1==some .free))) &&
 cs.all (fun p=>N[p.2]? ==some p.1 && (psc.names.lookup p.1==some .cell || psc.names.lookup p.1==some .free) && ((bR psc scope.names).lookup p.1==some .cell || (bR psc scope.names).lookup p.1==some .free))
structure CompOk (N:List Str)(psc:Scope)(x:Str)(cs:List (Str×Nat))(scope:Scope):Prop where
 kind:scope.kind=.function
 own:scope.names.lookup x=some .local
 nd:(x::cs.map (·.1)).Nodup
 cell:∀y∈scope.names,y.2≠ .cell
 names:∀y∈scope.names,y.2=.local->scope.names.lookup y.1=some .local
 has:∀y∈scope.names,y.2=.free->psc.names.lookup y.1=some .cell\/psc.names.lookup y.1=some .free
 cap:∀p∈cs,N[p.2]? =some p.1/\(psc.names.lookup p.1=some .cell\/psc.names.lookup p.1=some .free)/\((bR psc scope.names).lookup p.1=some .cell\/(bR psc scope.names).lookup p.1=some .free)
theorem CompOk.of (h:sJ N psc x cs scope=true):CompOk N psc x cs scope:=by
 unfold sJ at h;simp only[R_,Bool.or_eq_true,Ve,Tt,T5,bne_iff_ne,ne_eq]at h;obtain⟨⟨⟨⟨h1,h2⟩,h3⟩,h4⟩,h5⟩:=h;refine⟨h1,h2,h3,fun y hy=>(h4 y hy).1.1,fun y hy e=>?_,fun y hy e=>?_,fun p hp=>⟨(h5 p hp).1.1,(h5 p hp).1.2,(h5 p hp).2⟩⟩
 ·rcases(h4 y hy).1.2 with z |z
  ·exact absurd e z
  ·exact z
 ·rcases(h4 y hy).2 with z |z
  ·exact absurd e z
  ·exact z
def gC (X:Cx)(ifs:List Expr)(t:TT):Prop:=
 ∀(pins:Pnx) (s:Shared) (σ:St) (H:Hp) (Q:Bool->Hp->Prop),Inv X pins σ H s->t σ H Q->
  wpAny (model X.prog X.w) X.A (forIn ifs true fun c r=>if r=true then do let ok <-isTrue c X.env (eval c X.env);pure (ForInStep.yield ok) else pure (ForInStep.yield r)) (TP X pins σ Q) X.xe s
def mR:TT:=fun _ H Q=>Q true H
theorem Kl:gC X [] mR:=fun _ _ _ H _ I h=>wpAny_tests_nil ⟨H,I,h⟩
def zA (wi:TI)(tq:TT)(te:TE)(cs:List (Str×Nat)):St->Hp->(Addr->Hp->Prop)->Prop:=fun σ H R=>wi σ H fun J H1=>∀D,H1 D=none->
  ∃W:Nat->Nat->List V->Hp->Prop,(∃m,W 0 m [] (upd H1 D (.lst [])))/\∀i m ys H2,W i m ys H2->H2 D=some (.lst ys)/\
    ((J.stop i H2 /\ R D H2) \/ (J.go i H2/\ys.length<sizeLine/\∃N:List V->Hp->Prop,(∀ys' H',N ys' H'->∃m',m'<m/\W (i + 1) m' ys' H')/\∀v H3,J.yld i H2 v H3->tq (some v::cT cs σ) H3 fun b H4=>
      if b=true then te (some v::cT cs σ) H4 fun y H5=>H5 D=some (.lst ys)/\N (ys ++ [y]) (upd H5 D (.lst (ys ++ [y]))) else N ys H4))
section
variable {prog:Program}{w:World}{A:Around}{R:Result->Shared->Prop}{s:Shared}
theorem Ft (I:Nat->Shared->Prop)
    (turn : ∀ n s, I n s -> wpAny (model prog w) A (pyNext it) (fun r s₁=>match r with
      |none=>R (.ok .next) s₁
      | some v => wpAny (model prog w) A (letOwnedTupleGo target it v) (fun _ s₁' => wpAny (model prog w) A (assign target env v) (fun _ s₂=>
          wpAny (model prog w) A (forIn ifs true fun c r => if r = true then do let ok <- isTrue c env (eval c env); pure (ForInStep.yield ok) else pure (ForInStep.yield r)) (fun ok s₃=>
            if ok = true then wpAny (model prog w) A (eval elt env) (fun x s₄=>
              wpAny (model prog w) A (call (.builtin "list.append") [acc,x]) (fun _ s₅=>∃m,m<n/\I m s₅) (fun _ _=>False) s₄) (fun _ _=>False) s₃
            else ∃m,m<n/\I m s₃) (fun _ _=>False) s₂) (fun _ _=>False) s₁') (fun _ _=>False) s₁) (fun _ _=>False) s)
    (n:Nat) (h:I n s):
    codeAny (model prog w) A (.compLoop (.ListComp elt [⟨target,iter,ifs,0⟩] scope pos) 0 it acc env) R s:=by
  refine codeAny_loop rfl I (fun n s hI=>?_) n h;show wpAny _ A ((compTurn (.ListComp elt [⟨target,iter,ifs,0⟩] scope pos) 0 it acc env).onRaise (fun x=>do noteFrame x env;theTreesLotGoes x)) _ _ s
  refine wpAny_noted ?_;rw[compTurn_list];refine R8 (wpAny_standAt (R8 (T4 (turn n s hI) (fun r s₁ h₁=>?_) fun _ _ h'=>h'.elim)))
  cases r with
  |none=>exact RZ h₁
  |some v=>
    refine R8 (T4 h₁ (fun _ s₁' h₁'=>?_) fun _ _ h'=>h'.elim);refine R8 (T4 h₁' (fun _ s₂ h₂=>R8 (T4 h₂ (fun ok s₃ h₃=>?_) fun _ _ h'=>h'.elim)) fun _ _ h'=>h'.elim)
    cases ok with
    |false=>exact RZ ⟨rfl,h₃⟩
    |true=>
      exact R8 (R8 (T4 h₃ (fun x s₄ h₄=>R8 (T4 h₄ (fun _ s₅ h₅=>RZ (RZ ⟨rfl,h₅⟩)) fun _ _ h'=>h'.elim)) fun _ _ h'=>h'.elim))
end
section
variable {X:Cx}{elt iter:Expr}{ifs:List Expr}{x:Str}{px:Pos}{scope:Scope}{pos:Pos}{wi:TI}{tq:TT}{te:TE}{cs:List (Str×Nat)}
theorem Fv (hc:X.calm=true)(hi:PI X (.Name x px) iter wi)
    (hq:∀(cl:List (Str×Addr)) (C:Addr) (s₀:Shared) (H₀:Hp) (ex:List Addr) (pn:Pnx),gC (dB X (x::cs.map (·.1)) scope cl C s₀ H₀ ex pn) ifs tq)
    (he:∀(cl:List (Str×Addr)) (C:Addr) (s₀:Shared) (H₀:Hp) (ex:List Addr) (pn:Pnx),PE (dB X (x::cs.map (·.1)) scope cl C s₀ H₀ ex pn) elt te)
    (ok:CompOk X.N X.env.scope x cs scope) {pins:Pnx} {s:Shared} {σ:St} {H:Hp} {R:Addr->Hp->Prop} (I:Inv X pins σ H s) (h:zA wi tq te cs σ H R)
    {RR:Value->Addr->Result->Shared->Prop}
    (hRR:∀(D C:Addr) (oC:Obj) (H':Hp) (s':Shared),Inv X (pins ++ [(C,oC)]) σ H' s'->(∀h':Heap,h'.get? C=some oC->∃m,h'.Ns C m)->cL X pins H' C->R D H'->RR (.ref D) C (.ok .next) s'):
    wpAny (model X.prog X.w) X.A (eval iter X.env) (fun xv s₁ => wpAny (model X.prog X.w) X.A (pyIter xv) (fun itv s₂ => wpAny (model X.prog X.w) X.A (newList []) (fun acc s₃=>
      wpAny (model X.prog X.w) X.A (newFunctionEnv scope X.env.globals (dN X.env.cells scope.names) [] X.env.qual none .none (some X.env)) (fun cenv s₄=>
        codeAny (model X.prog X.w) X.A (.compStart (.ListComp elt [⟨.Name x px,iter,ifs,0⟩] scope pos) 0 itv acc {cenv with scope:=relabel scope X.env}) (RR acc cenv.locals) s₄) X.xe s₃) X.xe s₂) X.xe s₁) X.xe s:=by
  refine aM (hi pins s σ H _ I h) fun v s1 h1=>aM h1 fun itv s2 h2=>?_;obtain⟨it,fp,tn,J,H2,e,I2,T,st2,f2,h2⟩:=h2;subst e;have hhas:∀y∈scope.names,y.2=.free->∃c,X.env.cells.lookup y.1=some c:=fun y hy hk=>I2.ok.has y.1 (ok.has y hy hk);refine wpAny_newObj_type (wpAny_newFunctionEnv ok.cell (by intro y hy;simp at hy) (fun h₁ hns₁ hsb₁=>?_) ok.kind);dsimp only at hns₁ hsb₁ ⊢;generalize hHH:s2.heap.push {cls:=.type "list",dict:=none,data:=.seq ([]:List Value).toArray}=HH at hns₁ hsb₁ ⊢;have hC:HH.objs.size=s2.heap.objs.size + 1:=by rw[<-hHH,Vn]
  have hDC:s2.heap.objs.size≠HH.objs.size:=by rw[hC];exact R9 (T_ _)
  have hCle:s2.heap.objs.size<=HH.objs.size:=by rw[hC];exact Vl _
  have below:∀b,b<s2.heap.objs.size->b≠HH.objs.size:=fun b hb=>by rw[hC];exact R9 (Nat.lt_succ_of_lt hb)
  have old:∀b o,s2.heap.get? b=some o->h₁.get? b=some o:=fun b o e=>hsb₁.extBut b o (below b (RK e)) (RL _ (hHH ▸ RL _ e));have hacc:h₁.get? s2.heap.objs.size=some {cls:=.type "list",dict:=none,data:=.seq ([]:List Value).toArray}:=hsb₁.extBut _ _ hDC (RL _ (hHH ▸ Sg _ rfl));have nD:H2 s2.heap.objs.size=none:=I2.hok.fresh (RN _);have nC:H2 HH.objs.size=none:=I2.hok.fresh hCle;obtain⟨W,⟨m0,w0⟩,turn⟩:=h2 s2.heap.objs.size nD
  -- the block's context
  have fpC:∀b∈fp,b≠HH.objs.size:=fun b hb=>by
    obtain⟨o,ho,_⟩:=T.obj 0 _ st2 b hb;exact below b (RK ho)
  have fpD:∀b∈fp,b≠s2.heap.objs.size:=fun b hb=>by
    obtain⟨o,ho,_⟩:=T.obj 0 _ st2 b hb;exact R9 (RK ho)
  have pinC:∀p∈X.pn ++ pins,p.1≠HH.objs.size:=fun p hp=>below _ (RK (I2.pin p hp).1);have clIn:∀y c,(dN X.env.cells scope.names).lookup y=some c->X.env.cells.lookup y=some c:=Ak scope.names [] hhas (fun y c e=>by cases e);have kindRel:∀y,(relabel scope X.env).names.lookup y=(bR X.env.scope scope.names).lookup y:=fun _=>rfl;have okC:(dB X (x::cs.map (·.1)) scope (dN X.env.cells scope.names) HH.objs.size s2 H2 fp (X.pn ++ pins)).Ok:=
    { mod:=I2.ok.mod
      kind:=ok.kind
      glob:=I2.ok.glob
      blt:=I2.ok.blt
      above:=hCle
      inj:=fun y z c e1 e2=>I2.ok.inj y z c (clIn y c e1) (clIn z c e2)
      has:=fun y hk=>by
        have hm:(y,NameKind.free)∈scope.names:=by
          rcases hk with hk |hk
          · exact pY (psc:=X.env.scope) (k':=.cell) hk (.inl rfl) ok.cell
          · exact pY (psc:=X.env.scope) (k':=.free) hk (.inr rfl) ok.cell
        exact wC scope.names [] y (.inl hm)
      cab:=fun y c hf _=>by cases hf
      hd:=I2.ok.hd
      frames:=I2.ok.frames
      stk:=.inl rfl
      exf:=fun b hb=>⟨fpC b hb,fun y c e z=>(f2 b hb).2.2.2.2.1 y c (clIn y c e) z⟩
      bs:=fun b o e=>I2.bs b o e
      bsz:=Sh I2.ok.bsz I2.sz
      noex:=fun b o e hb=>by
        rcases(f2 b hb).2.2.2.1 with z |z
        · exact I2.ok.noex b o e z
        · exact absurd (RJ (RK e) (Sh I2.ok.bsz z)) (Tp _)
      exfs:=fun b hb z=>by
        rcases Sy.mp (I2.stkSub b z) with q |q
        · exact(f2 b hb).2.1 q
        · exact(f2 b hb).2.2.1 q
      funs:=I2.stack
      frf:=I2.stkFree}
  have IC:Inv (dB X (x::cs.map (·.1)) scope (dN X.env.cells scope.names) HH.objs.size s2 H2 fp (X.pn ++ pins)) [] (none::cT cs σ) (upd H2 s2.heap.objs.size (.lst [])) {s2 with heap:=h₁,toks:=s2.toks + ([]:List (Str×Value)).length}:=
    { ok:=okC
      os:=rfl
      bare:=I2.bare
      base:=Un.laid old (RN _) nD
      loc:=by
        refine⟨_,hns₁,fun i y u e1 e2 _=>?_⟩
        cases i with
        |zero=>
          have e2':(none:Option V)=some u:=R0 e2;cases e2'
        |succ i=>
          have e1':(cs.map (·.1))[i]? =some y:=e1;have e2':(cT cs σ)[i]? =some (some u):=e2;rw[R7]at e1';unfold cT at e2';rw[R7]at e2'
          cases ep:cs[i]? with
          |none=>rw[ep]at e1';cases e1'
          |some p=>
            rw[ep]at e1' e2';have e1'':p.1=y:=R0 e1';have e2'':(σ[p.2]?).join=some u:=R0 e2';have e3:σ[p.2]? =some (some u):=by
              cases q:σ[p.2]? with
              |none=>rw[q]at e2'';cases e2''
              |some z=>rw[q]at e2'';exact congrArg some e2''
            subst e1'';obtain⟨hN,hkp,hkc⟩:=ok.cap p (Ua ep);obtain⟨mP,_,hl⟩:=I2.loc;obtain⟨u',ru,lk⟩:=hl p.2 p.1 u hN e3 (.inr hkp);refine⟨u',ru,.inr ⟨hkc,?_⟩⟩;rcases lk with⟨k0,_⟩ |⟨_,c,hcell,his⟩
            · exfalso
              have k0':X.env.scope.names.lookup p.1=some .local:=k0;rcases hkp with z |z<;>(rw[k0']at z;cases z)
            · have hm:(p.1,NameKind.free)∈scope.names:=by
                rcases hkc with z |z
                · exact pY z (.inl rfl) ok.cell
                · exact pY z (.inr rfl) ok.cell
              obtain⟨c',hc'⟩:=wC (cells:=X.env.cells) scope.names [] p.1 (.inl hm);have e5:c'=c:=R0 ((clIn p.1 c' hc').symm.trans hcell);exact⟨c',hc',by rw[e5];exact his.keeps old⟩
      cell:=fun y c e=>by
        obtain⟨v',q⟩:=I2.cell y c (clIn y c e);exact⟨v',q.keeps old⟩
      free:=by
        show upd H2 s2.heap.objs.size (.lst []) HH.objs.size=none;rw[aZ hDC.symm];exact nC
      freeC:=fun y c e=>by
        have hcl:c<s2.heap.objs.size:=by
          obtain⟨_,q⟩:=I2.cell y c (clIn y c e);exact q.lt
        rw[aZ (R9 hcl)];exact I2.freeC y c (clIn y c e)
      pin:=fun p hp=>by
        have hp':p∈X.pn ++ pins:=by
          rcases Uh.mp hp with z |z
          · exact z
          · cases z
        obtain⟨e1,e2,e3,e4,e5⟩:=I2.pin p hp';refine⟨old _ _ e1,?_,pinC p hp',fun z=>?_,e5⟩
        · rw[aZ (R9 (RK e1))];exact e2
        · rcases Sy.mp (I2.stkSub p.1 z) with q |q
          · exact e3 q
          · exact e4 q
      hok:=I2.hok.laid old (RN _) ⟨Ud _,[],0,.nil,hacc⟩
      len:=by simp[cT]}
  have stC:tn 0 h₁:=T.keep 0 _ _ st2 fun b _ o e=>old b o e;have frC:∀b∈fp,upd H2 s2.heap.objs.size (HO.lst []) b=none:=fun b hb=>by
    rw[aZ (fpD b hb)];exact(f2 b hb).1
  -- what stays true of the iterator's objects in the block
  have stat:∀{H':Hp},(∀b∈fp,H' b=none)->∀b∈fp,cL (dB X (x::cs.map (·.1)) scope (dN X.env.cells scope.names) HH.objs.size s2 H2 fp (X.pn ++ pins)) [] H' b:=fun {H'} hn b hb=>
    ⟨hn b hb, fpC b hb, okC.exfs b hb, .inl hb, fun y c e => (okC.exf b hb).2 y c e, fun p hp => (f2 b hb).2.2.2.2.2 p (by
      rcases Uh.mp hp with z |z
      · exact z
      · cases z)⟩
  have loop:∀s₃:Shared,s₃={s2 with heap:=h₁,toks:=s2.toks + ([]:List (Str×Value)).length}->
      codeAny (model X.prog X.w) X.A (.compLoop (.ListComp elt [⟨.Name x px,iter,ifs,0⟩] scope pos) 0 (.ref it) (.ref s2.heap.objs.size) (compEnvC scope (dN X.env.cells scope.names) HH.objs.size X.env)) (RR (.ref s2.heap.objs.size) HH.objs.size) s₃:=by
    rintro s₃ rfl;refine Ft (fun n s'=>∃(i:Nat) (v:Option V) (ys:List V) (H':Hp),Inv (dB X (x::cs.map (·.1)) scope (dN X.env.cells scope.names) HH.objs.size s2 H2 fp (X.pn ++ pins)) [] (v::cT cs σ) H' s'/\tn i s'.heap/\(∀b∈fp,H' b=none)/\W i n ys H')
      ?_ m0 ⟨0,none,[],_,IC,stC,frC,w0⟩
    rintro n s3 ⟨i,v3,ys,H3,I3,st3,fr3,w3⟩;obtain⟨hD3,tr⟩:=turn i n ys H3 w3;rcases tr with⟨stop,qn⟩ |⟨go,hsz,N,hN,step⟩
    · refine aM (T.done (dB X (x::cs.map (·.1)) scope (dN X.env.cells scope.names) HH.objs.size s2 H2 fp (X.pn ++ pins)) rfl rfl rfl hc i [] s3 _ H3 _ I3 (stat fr3) st3 stop) fun r s4 ⟨hr,I4⟩=>?_;subst hr;show RR (.ref s2.heap.objs.size) HH.objs.size (.ok .next) s4
      have IP:Inv X pins σ H3 s4:=I2.call' (ch:=fp) I4.os I4.base I4.hok I4.bare fun b hb=>⟨(f2 b hb).2.2.2.1,(f2 b hb).2.1,(f2 b hb).2.2.2.2.1,(f2 b hb).2.2.2.2.2⟩;obtain⟨m4,⟨oC,es,ep,hoC,hdC,hk1,hk2⟩,_⟩:=I4.loc;have nC3:H3 HH.objs.size=none:=I4.free;have fC:cL X pins H3 HH.objs.size:=I2.fpOk hCle nC3;refine hRR _ _ oC H3 s4 (IP.pins_of fun p hp=>?_) (fun h' e=>⟨m4,oC,es,ep,e,hdC,hk1,hk2⟩) fC qn;rcases Uh.mp hp with z |z
      · exact IP.pin p (R6 _ z)
      · have e:p=(HH.objs.size,oC):=by simpa using z
        subst e;exact ⟨hoC,nC3,fC.2.1,fC.2.2.1,fun v z=>by
          have z':oC.data=.cell v:=z;rw[hdC]at z';cases z'⟩
    · refine aM (T.item (dB X (x::cs.map (·.1)) scope (dN X.env.cells scope.names) HH.objs.size s2 H2 fp (X.pn ++ pins)) rfl rfl rfl hc i [] s3 _ H3 _ I3 (stat fr3) st3 go) fun r s4 ⟨u,hr,h4⟩=>?_;subst hr;refine aM h4 fun _ s5 ⟨y,H5,I5,r5,y5,st5,fr5⟩=>?_;have I5':=I5.pinned (stat fr5) (T.obj _ _ st5);have hloc:Loc (dB X (x::cs.map (·.1)) scope (dN X.env.cells scope.names) HH.objs.size s2 H2 fp (X.pn ++ pins)).env.scope x:=.inl (lookup_relabel_local ok.own);refine wpAny_assign_Name (zm (i:=0) I5' ok.nd rfl hloc r5 (fun s6 I6=>?_) (.inr (lookup_relabel_local ok.own)));refine aM (hq _ _ _ _ _ _ _ s6 _ H5 _ I6 (step y H5 y5)) fun b s7 ⟨H7,I7,q7⟩=>?_;have again:∀{v':Option V} {H8:Hp} {s8:Shared} {ys':List V} {m':Nat},Inv (dB X (x::cs.map (·.1)) scope (dN X.env.cells scope.names) HH.objs.size s2 H2 fp (X.pn ++ pins)) ([] ++ pQ fp s5.heap) (v'::cT cs σ) H8 s8->W (i + 1) m' ys' H8->
          ∃(i:Nat) (v:Option V) (ys:List V) (H':Hp),Inv (dB X (x::cs.map (·.1)) scope (dN X.env.cells scope.names) HH.objs.size s2 H2 fp (X.pn ++ pins)) [] (v::cT cs σ) H' s8/\tn i s8.heap/\(∀b∈fp,H' b=none)/\W i m' ys H':=fun {v' H8 s8 ys' m'} I8 w8=>by
        refine⟨i + 1,v',ys',H8,I8.unpinned,T.keep _ _ _ st5 fun b hb o e=>(I8.pin (b,o) (R6 _ (R6 _ (tK hb e)))).1,fun b hb=>?_,w8⟩;obtain⟨o,e,d⟩:=T.obj _ _ st5 b hb;exact(I8.pin (b,o) (R6 _ (R6 _ (tK hb e)))).2.1
      cases b with
      |false=>
        rw[R5 RP]at q7;rw[R5 RP];obtain⟨m',hm,w8⟩:=hN _ _ q7;exact⟨m',hm,again I7 w8⟩
      |true=>
        rw[RW rfl]at q7;rw[RW rfl];refine aM (he _ _ _ _ _ _ _ s7 _ H7 _ I7 q7) fun z s8 ⟨zv,H8,I8,r8,hD8,n8⟩=>?_;obtain⟨m',hm,w8⟩:=hN _ _ n8;refine aM (Hy (X:=dB X (x::cs.map (·.1)) scope (dN X.env.cells scope.names) HH.objs.size s2 H2 fp (X.pn ++ pins)) _ s8 _ H8 (.ref s2.heap.objs.size) [zv] (.ref s2.heap.objs.size) [z] (fun _ H9=>H9=upd H8 s2.heap.objs.size (.lst (ys ++ [zv]))) I8 rfl (.cons r8 .nil) ⟨_,ys,zv,rfl,rfl,hD8,hsz,rfl⟩) fun _ s9 ⟨_,H9,I9,_,e9⟩=>?_;subst e9;exact⟨m',hm,again I9 w8⟩
  exact codeAny_compStart_list (loop _ rfl) (T.self _ 0 _ _ _ stC (loop _ rfl))
noncomputable def PB (wi:TI) (tq:TT) (te:TE) (cs:List (Str×Nat)):TE:=fun σ H Q=>zA wi tq te cs σ H fun D H'=>Q (.ref D) H'
theorem JZ (x:Str)(cs:List (Str×Nat))(hc:X.calm=true)(hi:PI X (.Name x px) iter wi)
  (hq:∀(cl:List (Str×Addr)) (C:Addr) (s₀:Shared) (H₀:Hp) (ex:List Addr) (pn:Pnx),gC (dB X (x::cs.map (·.1)) scope cl C s₀ H₀ ex pn) ifs tq)
  (he:∀(cl:List (Str×Addr)) (C:Addr) (s₀:Shared) (H₀:Hp) (ex:List Addr) (pn:Pnx),PE (dB X (x::cs.map (·.1)) scope cl C s₀ H₀ ex pn) elt te)
  (ok:sJ X.N X.env.scope x cs scope=true:=by kernel_rfl) (hs:∀x,foldedSetIterable iter X.env x=pure x:=by intro _;rfl):
  PE X (.ListComp elt [⟨.Name x px,iter,ifs,0⟩] scope pos) (PB wi tq te cs):=by
 intro pins s σ H Q I h;have ok':=CompOk.of ok;rw[eval_ListComp];refine wpAny_comprehension_free (use:=none) rfl hs (Fp fun y hy hk=>I.ok.has y.1 (ok'.has y hy hk)) ok'.kind ok'.names ?_;refine Fv (RR:=fun acc C=>compPost (model X.prog X.w) X.A X.xe none (EP X pins σ Q) acc C) hc hi hq he ok' I h ?_;intro D C oC H' s' I' hns fC q;refine⟨_,(hns _ (I'.pin (C,oC) (R6 _ (R6 _ (by simp)))).1).choose_spec,fun h' hs'=>?_⟩;have I1:Inv X pins σ H' s':=I'.unpinned;exact⟨.ref D,H',I1.turned (t':=s'.toks) (fun b o hb e=>(hs'.2 b hb).trans e) fC.1 fC.2.1 fC.2.2.2.1 fC.2.2.2.2.1 fC.2.2.2.2.2,rfl,q⟩
end
def zT (J:It)(tq:TT)(te:TE)(cs:List (Str×Nat))(σ:St)(H1:Hp)(R:Addr->Hp->Prop):Prop:=∀D,H1 D=none->
  ∃W:Nat->Nat->List V->Hp->Prop,(∃m,W 0 m [] (upd H1 D (.lst [])))/\∀i m ys H2,W i m ys H2->H2 D=some (.lst ys)/\
    ((J.stop i H2 /\ R D H2) \/ (J.go i H2/\ys.length<sizeLine/\∃N:List V->Hp->Prop,(∀ys' H',N ys' H'->∃m',m'<m/\W (i + 1) m' ys' H')/\∀v H3,J.yld i H2 v H3->tq (some v::cT cs σ) H3 fun b H4=>
      if b=true then te (some v::cT cs σ) H4 fun y H5=>H5 D=some (.lst ys)/\N (ys ++ [y]) (upd H5 D (.lst (ys ++ [y]))) else N ys H4))
theorem Fw (n:Nat)(P:Addr->Nat->List V->Hp->Prop)
  (h0:∀D,H1 D=none->P D 0 [] (upd H1 D (.lst []))) (hl:∀D i ys H2,i<=n->P D i ys H2->H2 D=some (.lst ys)/\ys.length<sizeLine)
  (hgo:∀D i ys H2,i<n->P D i ys H2->J.go i H2) (hst:∀D ys H2,H1 D=none->P D n ys H2->J.stop n H2/\R D H2)
  (hs:∀D i v ys H2 H3,i<n->P D i ys H2->J.yld i H2 v H3->tq (some v::cT cs σ) H3 fun b H4=>if b=true then te (some v::cT cs σ) H4 fun y H5=>H5 D=some (.lst ys)/\P D (i + 1) (ys ++ [y]) (upd H5 D (.lst (ys ++ [y]))) else P D (i + 1) ys H4):
  zT J tq te cs σ H1 R:=by
 intro D hD;refine⟨fun i m ys H=>m=n - i/\i<=n/\P D i ys H,⟨n,by simp,Ud _,h0 D hD⟩,?_⟩;rintro i m ys H2 ⟨rfl,hi,p⟩;obtain⟨q2,q3⟩:=hl D i ys H2 hi p;refine⟨q2,?_⟩
 by_cases hlt:i<n
 ·exact .inr ⟨hgo D i ys H2 hlt p,q3,P D (i + 1),fun ys' H' p'=>⟨n - (i + 1),by omega,rfl,hlt,p'⟩,fun v H3 y=>hs D i v ys H2 H3 hlt p y⟩
 ·have e:i=n:=by omega
  subst e;exact .inl (hst D ys H2 hD p)
theorem mK (hD:H D=none):Same H (upd H D o):=fun b ob e=>by
 rw[aZ (j_ e hD)];exact e
theorem comp_map {J:It}{te:TE}{cs:List (Str×Nat)}{σ:St}{H1:Hp}{R:Addr->Hp->Prop}(n:Nat)(f:Nat->V)(hn:n<sizeLine)
  (hgo:∀i H2,i<n->Same H1 H2->J.go i H2) (hst:∀H2,Same H1 H2->J.stop n H2)
  (hy:∀i v H2 H3,i<n->Same H1 H2->J.yld i H2 v H3->H3=H2/\∀Q:VK,Q (f i) H2->te (some v::cT cs σ) H2 Q)
  (hd:∀D,H1 D=none->R D (upd H1 D (.lst ((List.range n).map f)))):zT J mR te cs σ H1 R:=by
 refine Fw n (fun D i ys H2=>i<=n/\H1 D=none/\ys=(List.range i).map f/\H2=upd H1 D (.lst ys)) (fun D hD=>⟨Ud _,hD,rfl,rfl⟩) ?_ ?_ ?_ ?_
 ·rintro D i ys H2 hi ⟨_,hD,e1,e2⟩;subst e1 e2;exact⟨cH,by rw[R3,Uq];omega⟩
 ·rintro D i ys H2 hi ⟨_,hD,e1,e2⟩;subst e2;exact hgo i _ hi (mK hD)
 ·rintro D ys H2 _ ⟨_,hD,e1,e2⟩;subst e2;refine⟨hst _ (mK hD),?_⟩;subst e1;exact hd D hD
 ·rintro D i v ys H2 H3 hi ⟨_,hD,e1,e2⟩ y;subst e2;obtain⟨e3,q⟩:=hy i v _ H3 hi (mK hD) y;subst e3;unfold mR;dsimp only;rw[RW rfl];refine q _ ⟨cH,hi,hD,?_,Qp⟩;rw[e1,List.range_succ,Vh];rfl
structure Noted (fs:List Addr)(z:Addr)(h h':Heap)(e:Addr)(oe:Obj)(T:Addr)(fl:Value):Prop where
 keep:∀b o,b∉fs->b≠e->b≠z->h.get? b=some o->h'.get? b=some o
 slot:∀b o,b∈fs->b≠e->b≠z->h.get? b=some o->∃sl,h'.get? b=some {o with slots:=sl}
 exc:h'.get? e=some (oe.mapFields (·.setIfInBounds 1 (.ref T)))
 new:h.objs.size<=T
 tb:∃oT ts,h'.get? T=some oT/\oT.data=.fields ts/\ts[3]? =some fl
section
variable {M:Model}{A:Around}{E:Value->Shared->Prop}{s:Shared}{base:Heap}{env:Env}{outer:List Env}{L e z:Addr}{oe:Obj}{vs:Array Value}{Q:Unit->Shared->Prop}
theorem HY (a1:A.frames=some (env::outer))(a2:s.heap.FunFrames base (env::outer))(a3:env.frame=some L)
  (a4:s.heap.get? e=some oe) (a5:oe.data=.fields vs) (a6:1<vs.size)
  (k:∀h' T,Noted (frs (env::outer)) e s.heap h' e oe T (rawInt L)->Q () {s with heap:=h'}):
  wpAny M A (do
   let a <-frameOf env
   let pl <-entryPlaceOf L hadNext
   let b <-EntryCells.newEntry head a .none (rawInt L) .none pl
   setField (.ref e) 1 b) Q E s:=by
 have ne:e∉frs (env::outer):=fun m=>by
  obtain⟨_,o,e1,e2⟩:=a2.mem m;rw[a4]at e1;cases e1;exact e2 vs a5
 refine R8 (wpAny_frameOf_fun a1 a2 a3 fun h1 S=>?_);refine R8 (wpAny_entryPlaceOf fun pl hpl=>?_);unfold EntryCells.newEntry newFields;refine R8 (wpAny_newObj_type ?_ (hpl.sizeOk5 _ _ _ _ _));have b1:h1.get? e=some oe:=(S.2.1 e ne).trans a4;have b2:=RL (h:=h1) {cls:=.type "traceback",dict:=none,data:=.fields ([head,.ref L,.none,rawInt L,.none] ++ (if pl.isEmpty then List.replicate 6 Value.none else pl)).toArray} b1
 refine Vq b2 a5 a6 (k _ h1.objs.size ?_);have n1:h1.objs.size≠e:=VD (RK b1);have frd:=Obj.isFreed_of_fields (Tf a5 (·.setIfInBounds 1 (Value.ref h1.objs.size)));refine⟨fun b o nb nbe _ hb=>?_,fun b o _ nbe _ hb=>?_,Ut _ b2 frd,VG S.1.symm,?_⟩
 ·rw[Sq _ _ (Tj nbe)];exact RL _ ((S.2.1 b nb).trans hb)
 ·obtain⟨sl,q⟩:=S.2.2 b o hb;refine⟨sl,?_⟩;rw[Sq _ _ (Tj nbe)];exact RL _ q
 ·refine⟨_,_,(Sq _ _ (Tj n1)).trans (Sg h1 rfl),rfl,?_⟩;rcases hpl with rfl |⟨_,_,_,_,_,_,_,rfl⟩<;>simp
theorem Gi (b1:s.heap.get? e=some oe)(b2:oe.data=.fields vs)(b3:vs[1]? =some (.ref T))(b4:s.heap.get? T=some oT)(b5:oT.data=.fields ts)(b6:3<ts.size)
  (k:Q () {s with heap:=s.heap.update T (Obj.mapFields (·.setIfInBounds 3 .none))}):wpAny M A (setFlight (.ref e) none) Q E s:=by
 unfold setFlight;refine R8 (wpAny_field b1 b2 b3 ?_);rw[RW (by simp)];exact Vq b4 b5 b6 k
theorem Ie (N:Noted fs z h h1 e oe T fl)(a4:h.get? e=some oe)(a5:oe.data=.fields vs):Noted fs z h (h1.update T (Obj.mapFields (·.setIfInBounds 3 .none))) e oe T .none:=by
 obtain⟨oT,ts,t1,t2,t3⟩:=N.tb;have ne:∀b o,h.get? b=some o->b≠T:=fun b o q=>R9 (RJ (RK q) N.new);refine⟨fun b o n1 n2 n3 hb=>?_,fun b o n1 n2 n3 hb=>?_,?_,N.new,?_⟩
 ·rw[Sq _ _ (Tj (ne b o hb))];exact N.keep b o n1 n2 n3 hb
 ·obtain⟨sl,q⟩:=N.slot b o n1 n2 n3 hb;exact⟨sl,by rw[Sq _ _ (Tj (ne b o hb))];exact q⟩
 ·rw[Sq _ _ (Tj (ne e oe a4))];exact N.exc
 ·have z3:3<ts.size:=(Tq.mp t3).1;exact⟨_,_,Ut _ t1 (Obj.isFreed_of_fields (Tf t2 _)),Tf t2 _,by simp[z3]⟩
theorem Ib (N:Noted fs z h s.heap e oe T fl)(a4:h.get? e=some oe)(a5:oe.data=.fields vs)(a6:1<vs.size)
  (k:∀h',Noted fs z h h' e oe T .none->Q () {s with heap:=h'}):wpAny M A (setFlight (.ref e) none) Q E s:=by
 obtain⟨oT,ts,t1,t2,t3⟩:=N.tb;refine Gi N.exc (Tf a5 _) (by simp[a6]) t1 t2 (Tq.mp t3).1 (k _ (Ie N a4 a5))
theorem H_ (a1:A.frames=some (env::outer))(a2:s.heap.FunFrames base (env::outer))(a3:env.frame=some L)
  (a4:s.heap.get? e=some oe) (a5:oe.data=.fields vs) (a6:vs[1]? =some (.ref T0)) (b1:T0≠e) (b2:s.heap.get? T0=some oT) (b3:oT.data=.fields ts) (b4:ts[3]? =some .none)
  (k:∀h' T,Noted (frs (env::outer)) T0 s.heap h' e oe T (rawInt L)->Q () {s with heap:=h'}):wpAny M A (noteFrame (.ref e) env) Q E s:=by
 have z1:=(Tq.mp a6).1;unfold noteFrame;simp only[a3];refine R8 (wpAny_field a4 a5 a6 ?_);rw[RW (by simp)];refine R8 (wpAny_field b2 b3 b4 ?_);rw[R5 (by simp[rawInt])];refine R8 (Vq b2 b3 (Tq.mp b4).1 ?_);have oth:∀b,b≠T0->(s.heap.update T0 (Obj.mapFields (·.setIfInBounds 3 Value.none))).get? b=s.heap.get? b:=fun b hb=>Sq _ _ (Tj hb);have fr:∀b o,s.heap.get? b=some o->(∀us,o.data≠ .fields us)->b≠T0:=fun b o hb n r=>by
  rw[r,b2]at hb;cases hb;exact n ts b3
 refine HY (s:={s with heap:=s.heap.update T0 (Obj.mapFields (·.setIfInBounds 3 Value.none))}) a1 (a2.of_keeps fun b o hb n=>⟨o,(oth b (fr b o hb n)).trans hb,rfl⟩) a3 ((oth e (Tj b1)).trans a4) a5 z1 fun h' T N=>k h' T ?_;exact⟨fun b o n1 n2 n3 hb=>N.keep b o n1 n2 n2 ((oth b n3).trans hb),fun b o n1 n2 n3 hb=>N.slot b o n1 n2 n2 ((oth b n3).trans hb),N.exc,by rw[<-Heap.size_after_update s.heap T0 (Obj.mapFields (·.setIfInBounds 3 Value.none))];exact N.new,N.tb⟩
end
abbrev zQ:List Value:=[.type "ValueError",.type "Exception",.type "BaseException",.type "object"]
def zP:List Value->Bool
 |.ref _::r=>zP r
 |l=>l==zQ
noncomputable def eO (K:Fgx) (C:Addr):Bool:=match K.lookup C with
  | some ⟨.type "type", _, .cls cd, sl⟩ => (match cd.mro,sl.toList with
    |.ref c::bm,[_,_,_,_,some (.builtin n),_]=>c==C && (n=="ValueError.__new__" && (!cd.hasDel && (PySem.W.tailIn K zQ bm && (PySem.W.nsOkIn K cd.ns && (cd.hasDict && zP bm)))))
    |_,_=>false)
  |_=>false
structure XCls (h:Heap)(C:Addr)(nm qn:Str)(N:Addr)(bs bm:List Value)(sn:List Str)(sub:List Value)(ab:Bool)(col:Option Bool)(dd:Option Addr)(k0 k1 k2 k3 k5:Option Value):Prop where
 obj:h.get? C=some (excClassObj nm qn C N bs bm true sn sub ab col dd k0 k1 k2 k3 k5 "ValueError.__new__")
 tail:OwnTail h zQ bm
 ns:h.Ns N (h.nsMap N)
 over:zP bm=true
noncomputable def D_ (K:Fgx) (C:Addr):Bool:=match K.lookup C with
 |some ⟨_,_,.cls cd,_⟩=>PySem.W.nsIn K cd.ns "__init__"==some none
 |_=>false
noncomputable def vL (K:Fgx) (C:Addr):Bool:=PySem.W.findIn K (.ref C) "__getattribute__"==some (some (.builtin "BaseException.__getattribute__")) &&
 (PySem.W.findIn K (.ref C) "__getattr__"==some none && PySem.W.mroIn K C (.type "BaseException")==some true)
noncomputable def xo (a C:Addr) (dx:Option Addr) (b:Bool):HO:=.ext fun h=>∃oe vs t,h.get? a=some oe/\oe.cls=.ref C/\oe.dict=dx/\oe.data=.fields vs/\vs.size=6/\vs[0]? =some (.ref t)/\(b=true->vs[1]? =some .none)
theorem QV (x:∃oe vs t,h.get? a=some oe/\oe.cls=.ref C/\oe.dict=dx/\oe.data=.fields vs/\vs.size=6/\vs[0]? =some (.ref t)/\(b=true->vs[1]? =some .none)):
  cB P w H h a (xo a C dx b):=by
 obtain⟨oe,vs,t,e,r⟩:=x;exact⟨⟨oe,vs,t,e,r⟩,⟨oe,e⟩,fun h1 h2 ⟨oe,vs,t,e,r⟩ k=>⟨oe,vs,t,k _ e,r⟩⟩
def vO (h:Heap)(a T:Addr):Prop:=∃oe vs oT ts,h.get? a=some oe/\oe.data=.fields vs/\vs[1]? =some (.ref T)/\T≠a/\h.get? T=some oT/\oT.data=.fields ts/\ts[3]? =some .none
section
variable {P:Program}{w:World}{H:Hp}{h h':Heap}{fs ch:List Addr}{z a C T:Addr}{oe:Obj}{fl:Value}{dx:Option Addr}{b:Bool}{vs:Array Value}
theorem Ia (N:Noted fs z h h' a oe T .none)(e1:h.get? a=some oe)(e2:oe.data=.fields vs)(e3:vs.size=6):vO h' a T:=by
 obtain⟨oT,ts,t1,t2,t3⟩:=N.tb;refine⟨_,_,oT,ts,N.exc,Tf e2 _,by simp[e3],fun q=>?_,t1,t2,t3⟩;have z:=RJ (RK e1) N.new;rw[q]at z;exact absurd z (Tp _)
theorem Ig (N:Noted fs z h h' a oe T fl)(x:∃vs t,oe.cls=.ref C/\oe.dict=dx/\oe.data=.fields vs/\vs.size=6/\vs[0]? =some (.ref t)):∃oe vs t,h'.get? a=some oe/\oe.cls=.ref C/\oe.dict=dx/\oe.data=.fields vs/\vs.size=6/\vs[0]? =some (.ref t)/\(false=true->vs[1]? =some .none):=by
 obtain⟨vs,t,c1,c2,c3,c4,c5⟩:=x;refine⟨_,_,t,N.exc,(Obj.cls_mapFields _ _).trans c1,?_,Tf c3 _,by simp[c4],?_,fun q=>by cases q⟩
 ·obtain⟨_,_,od,_⟩:=oe;dsimp only at c3;subst c3;exact c2
 ·rw[Array.getElem?_setIfInBounds_ne (by decide)];exact c5
theorem Qm (N:Noted fs z h h' a oe T fl)(ha:H a=some (xo a C dx b))(hz:z=a\/z∈ch):Un fs ch H (upd H a (xo a C dx false)) h h':=by
 have n1:∀c,H c=none->c≠a:=fun c n q=>by rw[q,ha]at n;cases n
 have n2:∀c,c≠a->c∉ch->c≠z:=fun c n m q=>by
  rcases hz with r |r
  ·exact n (q.trans r)
  ·exact m (q ▸ r)
 have n3:∀c u,H c=some u->(∀φ,u≠ .ext φ)->c≠a:=fun c u q m r=>by
  rw[r,ha]at q;exact m _ (R0 q).symm
 refine ⟨fun c o q n hc hx=>N.keep c o hc (n1 c n) (n2 c (n1 c n) hx) q,fun c o q n hc hx=>N.slot c o hc (n1 c n) (n2 c (n1 c n) hx) q,fun c o q n hx=>by rw[aZ (n1 c n)];exact n,fun c o q hx=>?_,
  fun c xs q=>by rw[aZ (n3 c _ q (by intro _ z;cases z))];exact q,fun c o u q=>by rw[aZ (n3 c _ q (by intro _ z;cases z))];exact q,fun c ps q=>⟨#[],by rw[aZ (n3 c _ q (by intro _ z;cases z)),q];simp⟩⟩
 by_cases ca:c=a
 ·rw[ca];exact⟨_,N.exc⟩
 ·by_cases cf:c∈fs
  ·obtain⟨sl,r⟩:=N.slot c o cf ca (n2 c ca hx) q;exact⟨_,r⟩
  ·exact⟨o,N.keep c o cf ca (n2 c ca hx) q⟩
theorem GD (ok:bG P w H h)(N:Noted fs z h h' a oe T fl)(ha:H a=some (xo a C dx b))(hz:z=a\/H z=none)(hf:∀c∈fs,H c=none)
  (x:∃vs t,oe.cls=.ref C/\oe.dict=dx/\oe.data=.fields vs/\vs.size=6/\vs[0]? =some (.ref t)):bG P w (upd H a (xo a C dx false)) h':=fun c u q=>by
 have n3:∀c u,H c=some u->(∀φ,u≠ .ext φ)->c≠a:=fun c u q m r=>by
  rw[r,ha]at q;exact m _ (R0 q).symm
 by_cases hc:c=a
 ·subst hc;rw[cH]at q;cases q;exact QV (Ig N x)
 ·rw [aZ hc] at q;have kp : ∀ d u v, H d = some u -> d ≠ a -> h.get? d = some v -> h'.get? d = some v := fun d u v q nd r => N.keep d v (fun m => by rw [hf d m] at q; cases q) nd (fun e=>by
   rcases hz with g |g
   ·exact nd (e.trans g)
   ·rw[e,g]at q;cases q) r
  refine(ok c u q).stay (fun d v hd r=>?_) (fun d r=>by rw[aZ (n3 d _ r (by intro _ z;cases z))];exact r) fun d xs r=>by rw[aZ (n3 d _ r (by intro _ z;cases z))];exact r
  rcases hd with rfl |hd
  ·exact kp d u v q hc r
  ·exact kp d _ v hd (n3 d _ hd (by intro _ z;cases z)) r
theorem Un.less (u:Un (L::fs) ch H H' h h')(n:h.get? L=none):Un fs ch H H' h h':=by
 have m:∀c o,h.get? c=some o->c≠L:=fun c o q e=>by rw[e,n]at q;cases q
 exact⟨fun c o q k hc hx=>u.keep c o q k (fun z=>(Sy.mp z).elim (m c o q) hc) hx,fun c o q k hc hx=>u.slot c o q k (R4 _ hc) hx,u.free,u.there,u.tups,u.frzs,u.tbls⟩
end
noncomputable def mV (P:Program) (w:World):cR:=fun outer H s E e s'=>∃a C dx H' T,e=.ref a/\s'.os=s.os/\AllBare s'.gens/\Un (frs outer) [] H H' s.heap s'.heap/\bG P w H' s'.heap/\H' a=some (xo a C dx false)/\H' T=none/\s.heap.objs.size<=T/\vO s'.heap a T/\E (.ref C) dx H'
theorem Qo (e:H a=some o):upd H a o=H:=by
 funext b;unfold upd
 split
 ·subst_vars;exact e.symm
 ·rfl
theorem QT (ok:bG P w H h)(e:H a=some (xo a C dx b)):
  ∃oe vs t,h.get? a=some oe/\oe.cls=.ref C/\oe.dict=dx/\oe.data=.fields vs/\vs.size=6/\vs[0]? =some (.ref t)/\(b=true->vs[1]? =some .none):=(ok a _ e).1
section
variable {X:Cx}{pins:Pnx}{σ:St}{H:Hp}{s:Shared}
noncomputable def vM (K : Fgx) (C : Addr) : Bool := vL K C && (PySem.W.hasDictIn K C && (PySem.W.findIn K (.ref C) "__class__"==some (some (.builtin "object.__class__")) &&
 (PySem.W.specialIn K (.builtin "object.__class__") "__get__"==some (some (.builtin "getset_descriptor.__get__")) && (PySem.W.takesIn K (.builtin "object.__class__")==some true && PySem.W.mroIn K C (.type "object")==some true))))
end
section
variable {X:Cx}{pins:Pnx}{σ:St}{H:Hp}{s:Shared}
structure Caught (X:Cx)(pins:Pnx)(σ:St)(H:Hp)(s:Shared)(a C:Addr)(dx:Option Addr)(T:Addr):Prop where
 inv:Inv X pins σ H s
 obj:H a=some (xo a C dx false)
 fl:vO s.heap a T
 hT:H T=none
 t1:X.s₀.heap.objs.size<=T
 t2:T≠X.env.locals
 t3:∀x c,X.env.cells.lookup x=some c->c≠T
 t4:∀p∈X.pn ++ pins,p.1≠T
theorem Fl (I:Inv X pins σ H s)(h:s.heap.objs.size<=T):X.s₀.heap.objs.size<=T/\T≠X.env.locals/\(∀x c,X.env.cells.lookup x=some c->c≠T)/\∀p∈X.pn ++ pins,p.1≠T:=by
 refine⟨Sh I.sz h,VD (RJ I.lt h),fun x c e=>?_,fun p hp=>?_⟩
 ·obtain⟨v,o,ho,_⟩:=I.cell x c e;exact R9 (RJ (RK ho) h)
 ·exact R9 (RJ (RK (I.pin p hp).1) h)
variable {a C T:Addr}{dx:Option Addr}{Q:Unit->Shared->Prop}{E:Value->Shared->Prop}{M:Model}
theorem Caught.note (c:Caught X pins σ H s a C dx T)(hs:X.stack=X.env::X.outer)(hf:X.env.frame=some X.env.locals)(k:∀s' T',Caught X pins σ H s' a C dx T'->Q () s'):
  wpAny M X.A (noteFrame (.ref a) X.env) (fun _ s2=>wpAny M X.A (setFlight (.ref a) none) Q E s2) E s:=by
 obtain ⟨oe, vs, t, e1, e2, e3, e4, e5, e6, _⟩ := QT c.inv.hok c.obj;obtain ⟨oe', vs', oT, ts, f1, f2, f3, f4, f5, f6, f7⟩ := c.fl;rw [e1] at f1;cases f1;rw [e4] at f2;cases f2;have fr := c.inv.ok.frames;have st := c.inv.stack;rw [hs] at fr st;refine H_ fr st hf e1 e4 f3 f4 f5 f6 f7 fun h' T' N => Ib (s := { s with heap := h' }) N e1 e4 (by omega) fun h2 N2 => k _ T' ?_;have hx : ∃ vs t, oe.cls = .ref C /\ oe.dict = dx /\ oe.data = .fields vs /\ vs.size = 6 /\ vs[0]? = some (.ref t) := ⟨vs, t, e2, e3, e4, e5, e6⟩;rw [<- hs] at N2;have u := Qm (ch := [T]) N2 c.obj (.inr (Ul.mpr rfl));have hk := GD c.inv.hok N2 c.obj (.inr c.hT) (fun b hb => c.inv.stkFree b hb) hx;rw [Qo c.obj] at u hk;have I2 : Inv X pins σ H { s with heap := h2 } := c.inv.call' (s' := { s with heap := h2 }) rfl u hk c.inv.bare (fun b hb=>by
  rw[Ul.mp hb];exact⟨.inr c.t1,c.t2,c.t3,c.t4⟩)
 obtain⟨z1,z2,z3,z4⟩:=Fl c.inv N2.new;exact⟨I2,c.obj,Ia N2 e1 e4 e5,c.inv.hok.fresh N2.new,z1,z2,z3,z4⟩
end
abbrev Cx.pin (X:Cx)(pins:Pnx)(E:Value->Shared->Prop):Cx:={X with pn:=X.pn ++ pins,xe:=E}
abbrev Cx.suite (X:Cx)(e:Value):Cx:={X with A:=X.A.mark (some e),calm:=false,xe:=fun _ _=>False}
end L2
namespace E3
open PySem PySem.Spec PyProof.Rows L2
inductive D where
 |non |bl (b:Bool) |int (i:Int) |str (s:Str) |tup (xs:List D) |lst (xs:List D) |ref (n:Nat)
inductive Cl where
  |lst (ds:List D) |obj (c:Str) (fs:List (Str×D)) |dct (kvs:List (L2.Key×D))
    |dcf (kvs:List (L2.Key×D))
abbrev Mm:=List Cl
inductive Slot where
 |un |val (d:D) |own (ds:List D) |exc (c:Str) (n:Int)
abbrev Env:=List Slot
mutual
def D.lf:D->Bool
 |.tup xs=>D.lfs xs
 |.lst _=>false
 |.ref _=>false
 |_=>true
def D.lfs:List D->Bool
 | []=>true
 |a::as=>D.lf a && D.lfs as
end
def KL (K:Fgx)(a:Addr)(vs:List V):Prop:=∃(o:Obj) (its:Array Value) (n:Nat),K.lookup a=some o/\o.cls=.type "list"/\o.dict=none/\o.data=.seq its n/\its.size<=sizeLine/\Vals vs its.toList
structure Pl where
 io:Nat->Addr
 n:Nat
 bd:Addr->Prop
def vR (K:Fgx)(P:Pl)(H:Hp)(a:Addr)(vs:List V):Prop:=(¬ P.bd a/\Rd H a (.lst vs))\/KL K a vs
def zW (K:Fgx)(P:Pl)(H:Hp)(a:Addr)(vs:List V):Prop:=((∀k,k<P.n->P.io k≠a)/\Rd H a (.lst vs))\/KL K a vs
mutual
def Is (K:Fgx)(P:Pl)(H:Hp):D->V->Prop
 |.non,v=>v=.non
 |.bl b,v=>v=.bl b
 |.int i,v=>v=.int i
 |.str s,v=>v=.str s
 |.tup ds,v=>∃a vs,v=.ref a/\cW K H a vs/\au K P H ds vs
 |.lst ds,v=>∃a vs,v=.ref a/\vR K P H a vs/\au K P H ds vs
 |.ref k,v=>k<P.n/\v=.ref (P.io k)
def au (K:Fgx)(P:Pl)(H:Hp):List D->List V->Prop
 | [],vs=>vs=[]
 |d::ds,vs=>∃v r,vs=v::r/\Is K P H d v/\au K P H ds r
end
def Fx (o:HO):Prop:=(∃xs,o=.tup xs)\/(∃u w,o=.frz u w)\/(∃g,o=.ext g)\/∃fs,o=.xd fs
structure Lt (P:Pl)(H:Hp)(P':Pl)(H':Hp):Prop where
 n:P.n<=P'.n
 io:∀k,k<P.n->P'.io k=P.io k
 bd:∀a,P'.bd a->P.bd a\/H a=none
 keep:∀a o,H a=some o->(Fx o\/¬ P.bd a)->H' a=some o
 sure:∀a,H' a=none->H a=none
section
variable {K:Fgx}{P P' P'':Pl}{H H' H'':Hp}
theorem Lt.refl (P:Pl)(H:Hp):Lt P H P H:=⟨RN _,fun _ _=>rfl,fun _ z=>.inl z,fun _ _ e _=>e,fun _ z=>z⟩
theorem Lt.not (l:Lt P H P' H')(e:H a=some o)(n:¬ P.bd a):¬ P'.bd a:=fun z=>(l.bd a z).elim n fun z=>by rw[e]at z;cases z
theorem Lt.trans (l:Lt P H P' H')(m:Lt P' H' P'' H''):Lt P H P'' H'' where
 n:=Sh l.n m.n
 io:=fun k h=>(m.io k (RJ h l.n)).trans (l.io k h)
 bd:=fun a z=>(m.bd a z).elim (l.bd a) fun z=>.inr (l.sure a z)
 keep:=fun a o e h=>m.keep a o (l.keep a o e h) (h.imp id fun n=>l.not e n)
 sure:=fun a z=>l.sure a (m.sure a z)
theorem Lt.rd (l:Lt P H P' H')(n:¬ P.bd a)(h:Rd H a (.lst xs)):Rd H' a (.lst xs):=by
 rcases h with h |⟨o,h⟩
 ·exact .inl (l.keep _ _ h (.inr n))
 ·exact .inr ⟨o,l.keep _ _ h (.inr n)⟩
theorem CJ (h:Rd H a o):∃o',H a=some o':=h.elim (fun h=>⟨_,h⟩) fun⟨_,h⟩=>⟨_,h⟩
theorem Lt.rda (l:Lt P H P' H')(h:vR K P H a xs):vR K P' H' a xs:=h.imp (fun⟨n,h⟩=>⟨by obtain⟨o,e⟩:=CJ h;exact l.not e n,l.rd n h⟩) id
theorem Lt.tup (l:Lt P H P' H')(h:cW K H a xs):cW K H' a xs:=by
 rcases h with(h |⟨o,h⟩) |h
 ·exact .inl (.inl (l.keep _ _ h (.inl (.inl ⟨_,rfl⟩))))
 ·exact .inl (.inr ⟨o,l.keep _ _ h (.inl (.inr (.inl ⟨_,_,rfl⟩)))⟩)
 ·exact .inr h
mutual
theorem Is.lt (l:Lt P H P' H'):∀{d:D} {v:V},Is K P H d v->Is K P' H' d v
  |.non,_,h=>h
  |.bl _,_,h=>h
  |.int _,_,h=>h
  |.str _,_,h=>h
  |.tup ds,_,h=>by
    obtain⟨a,vs,e,s,r⟩:=h;exact⟨a,vs,e,l.tup s,au.lt l r⟩
  |.lst ds,_,h=>by
    obtain⟨a,vs,e,s,r⟩:=h;exact⟨a,vs,e,l.rda s,au.lt l r⟩
  |.ref k,_,h=>⟨RJ h.1 l.n,by rw[l.io k h.1];exact h.2⟩
theorem au.lt (l:Lt P H P' H'):∀{ds:List D} {vs:List V},au K P H ds vs->au K P' H' ds vs
  | [],_,h=>h
  |_::_,_,h=>by
    obtain⟨v,r,e,p,q⟩:=h;exact⟨v,r,e,Is.lt l p,au.lt l q⟩
end
noncomputable def Pl.less (P:Pl) (B:Addr->Prop):Pl:={P with bd:=fun a=>P.bd a/\B a}
mutual
theorem Is.less:∀{d:D} {v:V},Is K P H d v->Is K (P.less B) H d v
  |.non,_,h=>h
  |.bl _,_,h=>h
  |.int _,_,h=>h
  |.str _,_,h=>h
  |.tup ds,_,h=>by
    obtain⟨a,vs,e,s,r⟩:=h;exact⟨a,vs,e,s,au.less r⟩
  |.lst ds,_,h=>by
    obtain⟨a,vs,e,s,r⟩:=h;exact⟨a,vs,e,s.imp (fun⟨n,h⟩=>⟨fun z=>n z.1,h⟩) id,au.less r⟩
  |.ref k,_,h=>h
theorem au.less:∀{ds:List D} {vs:List V},au K P H ds vs->au K (P.less B) H ds vs
  | [],_,h=>h
  |_::_,_,h=>by
    obtain⟨v,r,e,p,q⟩:=h;exact⟨v,r,e,Is.less p,au.less q⟩
end
mutual
theorem Is.free (P':Pl):∀{d:D} {v:V},d.lf=true->Is K P H d v->Is K P' H d v
  |.non,_,_,h=>h
  |.bl _,_,_,h=>h
  |.int _,_,_,h=>h
  |.str _,_,_,h=>h
  |.tup ds,_,l,h=>by
    obtain⟨a,vs,e,s,r⟩:=h;exact⟨a,vs,e,s,au.free P' (by simpa only[D.lf] using l) r⟩
  |.lst _,_,l,_=>by simp[D.lf]at l
  |.ref _,_,l,_=>by simp[D.lf]at l
theorem au.free (P':Pl):∀{ds:List D} {vs:List V},D.lfs ds=true->au K P H ds vs->au K P' H ds vs
  | [],_,_,h=>h
  |_::_,_,l,h=>by
    obtain⟨v,r,e,p,q⟩:=h;simp only[D.lfs,R_]at l;exact⟨v,r,e,Is.free P' l.1 p,au.free P' l.2 q⟩
end
theorem au.len:∀{ds:List D} {vs:List V},au K P H ds vs->vs.length=ds.length
  | [],_,h=>by rw[show _=[] from h];rfl
  |d::ds,_,h=>by
    obtain⟨v,r,e,_,q⟩:=h;subst e
    simp[au.len q]
theorem au.get:∀{ds:List D} {vs:List V} {i:Nat} {d:D},au K P H ds vs->ds[i]? =some d->∃v,vs[i]? =some v/\Is K P H d v
  | [],_,_,_,_,e=>by simp at e
  |d::ds,_,0,_,h,e=>by
    obtain⟨v,r,e',p,_⟩:=h
    simp at e
    subst e e';exact⟨v,rfl,p⟩
  |d::ds,_,i + 1,_,h,e=>by
    obtain⟨v,r,e',_,q⟩:=h;subst e'
    simpa using au.get (i:=i) q (by simpa using e)
theorem au.append:∀{ds es:List D} {vs ws:List V},au K P H ds vs->au K P H es ws->au K P H (ds ++ es) (vs ++ ws)
  | [],_,_,_,h,q=>by rw[show _=[] from h];exact q
  |d::ds,_,_,_,h,q=>by
    obtain⟨v,r,e,p,h⟩:=h;subst e;exact⟨v,r ++ _,rfl,p,au.append h q⟩
theorem au.take:∀{ds:List D} {vs:List V} (n:Nat),au K P H ds vs->au K P H (ds.take n) (vs.take n)
  |_,_,0,_=>rfl
  | [],_,n + 1,h=>by rw[show _=[] from h];rfl
  |d::ds,_,n + 1,h=>by
    obtain⟨v,r,e,p,h⟩:=h;subst e;exact⟨v,_,rfl,p,au.take n h⟩
theorem au.drop:∀{ds:List D} {vs:List V} (n:Nat),au K P H ds vs->au K P H (ds.drop n) (vs.drop n)
  |_,_,0,h=>h
  | [],_,n + 1,h=>by rw[show _=[] from h];rfl
  |d::ds,_,n + 1,h=>by
    obtain⟨v,r,e,p,h⟩:=h;subst e;exact au.drop n h
theorem au.one (h:Is K P H d v):au K P H [d] [v]:=⟨v,[],rfl,h,rfl⟩
theorem au.set:∀{ds:List D} {vs:List V} {d:D} {v:V} (n:Nat),au K P H ds vs->Is K P H d v->au K P H (ds.set n d) (vs.set n v)
  | [],_,_,_,_,h,_=>by rw[show _=[] from h];rfl
  |d::ds,_,_,_,0,h,p=>by
    obtain⟨v,r,e,_,h⟩:=h;subst e;exact⟨_,r,rfl,p,h⟩
  |d::ds,_,_,_,n + 1,h,p=>by
    obtain⟨v,r,e,q,h⟩:=h;subst e;exact⟨v,_,rfl,q,au.set n h p⟩
end
noncomputable def mW (K:Fgx) (mg:Mgx) (P:Pl) (H:Hp) (a:Addr):Cl->Prop
 |.lst ds=>∃vs,H a=some (.lst vs)/\au K P H ds vs
 |.obj c fs=>∃C dx gs,mg c=some (.ref C)/\H a=some (.ins C dx gs)/\gs.map (·.1)=fs.map (·.1)/\au K P H (fs.map (·.2)) (gs.map (·.2))
 |.dct kvs=>∃vs:List (L2.Key×V),H a=some (.dK vs)/\vs.map (·.1)=kvs.map (·.1)/\au K P H (kvs.map (·.2)) (vs.map (·.2))
 |.dcf kvs=>∃(vs:List (L2.Key×V)) (ob:Obj) (es:Array DictEntry) (ep:Nat),H a=some (.frz ob (.dK vs))/\ob.data=.dict es ep/\vs.map (·.1)=kvs.map (·.1)/\au K P H (kvs.map (·.2)) (vs.map (·.2))
structure Hk (K:Fgx)(mg:Mgx)(P:Pl)(H:Hp)(M:Mm):Prop where
 n:P.n=M.length
 cell:∀(k:Nat) c,M[k]? =some c->mW K mg P H (P.io k) c
 inj:∀j k,j<P.n->k<P.n->P.io j=P.io k->j=k
 bd:∀k,k<P.n->P.bd (P.io k)
 here:∀a,P.bd a->H a≠none
structure LtE (P:Pl)(H:Hp)(P':Pl)(H':Hp):Prop where
 n:P.n<=P'.n
 io:∀k,k<P.n->P'.io k=P.io k
 bd:∀a,P'.bd a->P.bd a\/H a=none
 bm:∀a,P.bd a->P'.bd a
 keep:∀a o,H a=some o->(Fx o\/∀k,k<P.n->P.io k≠a)->H' a=some o
 sure:∀a,H' a=none->H a=none
 nw:∀k,P.n<=k->k<P'.n->H (P'.io k)=none
section
variable {K:Fgx}{mg:Mgx}{P P' P'':Pl}{H H' H'':Hp}{M M':Mm}
theorem LtE.refl (P:Pl)(H:Hp):LtE P H P H:=⟨RN _,fun _ _=>rfl,fun _ z=>.inl z,fun _ z=>z,fun _ _ e _=>e,fun _ z=>z,fun k h1 h2=>absurd h1 (Vu.mpr h2)⟩
theorem LtE.same (s:Same H H'):LtE P H P H':=⟨RN _,fun _ _=>rfl,fun _ z=>.inl z,fun _ z=>z,fun a o e _=>s a o e,fun a z=>s.free z,fun k h1 h2=>absurd h1 (Vu.mpr h2)⟩
theorem Hk.cellAt (h:Hk K mg P H M)(hc:M[k]? =some c)(nd:∀kvs,c≠ .dcf kvs:=by intro _ z;cases z):∃o,H (P.io k)=some o/\¬ Fx o:=by
  have:=h.cell k c hc
  cases c with
  |lst ds=>
    obtain⟨vs,e,_⟩:=this;exact⟨_,e,fun z=>by rcases z with⟨_,z⟩ |⟨_,_,z⟩ |⟨_,z⟩ |⟨_,z⟩<;>cases z⟩
  |obj c fs=>
    obtain⟨C,dx,gs,_,e,_⟩:=this;exact⟨_,e,fun z=>by rcases z with⟨_,z⟩ |⟨_,_,z⟩ |⟨_,z⟩ |⟨_,z⟩<;>cases z⟩
  |dct kvs=>
    obtain⟨vs,e,_⟩:=this;exact⟨_,e,fun z=>by rcases z with⟨_,z⟩ |⟨_,_,z⟩ |⟨_,z⟩ |⟨_,z⟩<;>cases z⟩
  |dcf kvs=>exact absurd rfl (nd kvs)
theorem LtE.lt (l:LtE P H P' H')(h:Hk K mg P H M):Lt P H P' H' where
 n:=l.n
 io:=l.io
 bd:=l.bd
 sure:=l.sure
 keep:=fun a o e z=>l.keep a o e (z.imp id fun z k hk q=>z (q ▸ h.bd k hk))
theorem LtE.trans (l:LtE P H P' H')(m:LtE P' H' P'' H''):LtE P H P'' H'' where
 n:=Sh l.n m.n
 io:=fun k h=>(m.io k (RJ h l.n)).trans (l.io k h)
 bd:=fun a z=>(m.bd a z).elim (l.bd a) fun z=>.inr (l.sure a z)
 bm:=fun a z=>m.bm a (l.bm a z)
 keep:=fun a o e h=>m.keep a o (l.keep a o e h) <| h.imp id fun h k hk q=>by
  rcases SJ k P.n with z |z
  ·rw[l.io k z]at q;exact h k z q
  ·rw[<-q,l.nw k z hk]at e;cases e
 sure:=fun a z=>l.sure a (m.sure a z)
 nw:=fun k h1 h2=>by
  rcases SJ k P'.n with z |z
  ·rw[m.io k z];exact l.nw k h1 z
  ·exact l.sure _ (m.nw k z h2)
end
inductive Cp where
 |eq |ne |lt |le |gt |ge |isin |notin |same |other
mutual
def D.eq:D->D->Bool
 |.non,.non=>true
 |.bl a,.bl b=>a==b
 |.bl a,.int b=>(if a then 1 else 0)==b
 |.int a,.bl b=>a==(if b then 1 else 0)
 |.int a,.int b=>a==b
 |.str a,.str b=>a==b
 |.tup a,.tup b=>D.eqs a b
 |.lst a,.lst b=>D.eqs a b
 |.ref a,.ref b=>a==b
 |_,_=>false
def D.eqs:List D->List D->Bool
 | [],[]=>true
 |a::as,b::bs=>D.eq a b && D.eqs as bs
 |_,_=>false
end
mutual
def D.dep:D->Nat
 |.tup xs=>D.deps xs + 1
 |.lst xs=>D.deps xs + 1
 |.ref _=>101
 |_=>0
def D.deps:List D->Nat
 | []=>0
 |a::as=>max (D.dep a) (D.deps as)
end
noncomputable def D.flat:D->Bool
 |.tup _=>false
 |.lst _=>false
 |.ref _=>false
 |_=>true
noncomputable def sS (i j:Str):Bool:= !(Builtin.Str.occurrences j i 0 j.length 1).isEmpty
def cD (a b:D):Bool:=a.flat==b.flat && decide (b.dep<=50)
noncomputable def i_ (a b:D):Option Bool:=if cD a b=true/\a.dep<=50 then some (D.eq a b) else none
noncomputable def mZ (a b:D):Option Bool:=if cD a b=true/\a.dep<=50 then some (!D.eq a b) else none
noncomputable def bY (f:Int->Int->Bool) (a b:D):Option Bool:=match a with
 |.int i=>(match b with |.int j=>some (f i j) |_=>none)
 |_=>none
noncomputable def jj (a b:D):Option Bool:=match b with
 |.str j=>(match a with |.str i=>some (sS i j) |_=>none)
 |.lst xs=>if (a.flat && xs.all D.flat)=true then some (xs.any fun y=>D.eq y a) else none
 |.tup xs=>if (a.flat && xs.all D.flat)=true then some (xs.any fun y=>D.eq y a) else none
 |_=>none
noncomputable def cX (a b:D):Option Bool:=match b with
 |.str j=>(match a with |.str i=>some (!sS i j) |_=>none)
 |.lst xs=>if (a.flat && xs.all D.flat)=true then some (!xs.any fun y=>D.eq y a) else none
 |.tup xs=>if (a.flat && xs.all D.flat)=true then some (!xs.any fun y=>D.eq y a) else none
 |_=>none
noncomputable def j5 (a b:D):Option Bool:=match b with
 |.bl b=>(match a with |.bl a=>some (a==b) |_=>some false)
 |.non=>(match a with |.non=>some true |_=>some false)
 |_=>none
noncomputable def jx (a b:D):Option Bool:=match b with
 |.bl b=>(match a with |.bl a=>some (!(a==b)) |_=>some true)
 |.non=>(match a with |.non=>some false |_=>some true)
 |_=>none
noncomputable def bJ (c:Cp) (a b:D):Option Bool:=match c with
 |.eq=>i_ a b
 |.ne=>mZ a b
 |.lt=>bY (fun i j=>decide (i<j)) a b
 |.le=>bY (fun i j=>decide (i<=j)) a b
 |.gt=>bY (fun i j=>decide (j<i)) a b
 |.ge=>bY (fun i j=>decide (j<=i)) a b
 |.isin=>jj a b
 |.notin=>cX a b
 |.same=>j5 a b
 |.other=>jx a b
noncomputable def bW (K:Fgx) (P:Pl) (H:Hp):D->V->Prop
 |.lst ds,v=>∃a vs,v=.ref a/\zW K P H a vs/\au K P H ds vs
 |d,v=>Is K P H d v
section
variable {X:Cx}{pins:Pnx}{σ:L2.St}{H:Hp}{s:Shared}
theorem Pa {K:Fgx}{P:Pl}{a:Addr}{xs:List V}(h:zW K P H a xs):bf K H a xs:=h.imp (·.2) id
noncomputable def aX (K:Fgx) (P:Pl) (H:Hp):D->V->Prop
 |.lst ds,v=>∃a vs,v=.ref a/\bf K H a vs/\au K P H ds vs
 |d,v=>Is K P H d v
theorem bW.w {K:Fgx}{P:Pl}{d:D}{v:V}(h:bW K P H d v):aX K P H d v:=by
 cases d<;>first |exact h |(obtain⟨a,vs,e,r,q⟩:=h;exact⟨a,vs,e,Pa r,q⟩)
theorem Is.w {K:Fgx}{P:Pl}{d:D}{v:V}(h:Is K P H d v):aX K P H d v:=by
 cases d<;>first |exact h |(obtain⟨a,vs,e,r,q⟩:=h;exact⟨a,vs,e,r.imp (·.2) id,q⟩)
theorem sql (I:Inv X pins σ H s)(h:bf X.K H l xs):xs.length<=sizeLine/\∃its:List Value,Vals xs its/\s.heap.IsList l its.toArray:=by
 obtain⟨its,r,p,z⟩:=I.list h;exact⟨z,its,r,p.isList⟩
mutual
theorem Is.inj (I:Inv X pins σ H s):∀(d e:D) (v:V),aX X.K A H d v->aX X.K B H e v->d.dep<=100->e.dep<=100->d=e
  |.ref _,e,v,h,h',hd,he=>by simp[D.dep]at hd
  |.non,e,v,h,h',hd,he=>by
    have hv:v=.non:=h;subst hv;cases e<;>first |(simp[D.dep]at he;done) |(simp[aX,Is]at h'<;>rfl)
  |.bl b,e,v,h,h',hd,he=>by
    have hv:v=.bl b:=h;subst hv;cases e<;>first |(simp[D.dep]at he;done) |(simp[aX,Is]at h'<;>simp[h'])
  |.int b,e,v,h,h',hd,he=>by
    have hv:v=.int b:=h;subst hv;cases e<;>first |(simp[D.dep]at he;done) |(simp[aX,Is]at h'<;>simp[h'])
  |.str b,e,v,h,h',hd,he=>by
    have hv:v=.str b:=h;subst hv;cases e<;>first |(simp[D.dep]at he;done) |(simp[aX,Is]at h'<;>simp[h'])
  |.tup ds,e,v,h,h',hd,he=>by
    simp only[D.dep]at hd;simp only[aX,Is]at h;obtain⟨a,vs,rfl,t,r⟩:=h
    cases e with
    |tup es=>
      simp only[aX,Is]at h';obtain⟨b,ws,e1,t',r'⟩:=h';cases e1;have e2:=I.tuple_inj t t';subst e2;simp only[D.dep]at he;rw[au.inj I ds es vs r r' (by omega) (by omega)]
    |lst es=>
      obtain⟨b,ws,e1,t',r'⟩:=h';cases e1;obtain⟨_,its,_,o2,e2,c2,_⟩:=sql I t';obtain⟨its2,_,⟨o,e3,c3,_⟩,_⟩:=I.tuple t;rw[e2]at e3;cases e3;rw[c2]at c3;exact absurd c3 (by simp)
    |ref _=>simp[D.dep]at he
    |_=>simp[aX,Is]at h'
  |.lst ds,e,v,h,h',hd,he=>by
    simp only[D.dep]at hd;obtain⟨a,vs,rfl,t,r⟩:=h
    cases e with
    |lst es=>
      obtain⟨b,ws,e1,t',r'⟩:=h';cases e1;have e2:=I.list_inj (t) (t');subst e2;simp only[D.dep]at he;rw[au.inj I ds es vs r r' (by omega) (by omega)]
    |tup es=>
      simp only[aX,Is]at h';obtain⟨b,ws,e1,t',r'⟩:=h';cases e1;obtain⟨_,its,_,o2,e2,c2,_⟩:=sql I t;obtain⟨its2,_,⟨o,e3,c3,_⟩,_⟩:=I.tuple t';rw[e2]at e3;cases e3;rw[c2]at c3;exact absurd c3 (by simp)
    |ref _=>simp[D.dep]at he
    |_=>simp[aX,Is]at h'
theorem au.inj (I:Inv X pins σ H s):∀(ds es:List D) (vs:List V),au X.K A H ds vs->au X.K B H es vs->D.deps ds<=100->D.deps es<=100->ds=es
  | [],es,vs,h,h',hd,he=>by
    have hv:vs=[]:=h;subst hv
    cases es with
    |nil=>rfl
    |cons=>simp[au]at h'
  |d::ds,es,vs,h,h',hd,he=>by
    simp only[D.deps]at hd;obtain⟨v,r,rfl,p,q⟩:=h
    cases es with
    |nil=>simp[au]at h'
    |cons e es=>
      obtain⟨v',r',e1,p',q'⟩:=h';cases e1;simp only[D.deps]at he;rw[Is.inj I d e v p.w p'.w (by omega) (by omega),au.inj I ds es r q q' (by omega) (by omega)]
end
mutual
theorem D.eq_refl:∀d:D,D.eq d d=true
 |.non=>rfl
 |.bl b=>by simp[D.eq]
 |.int b=>by simp[D.eq]
 |.str b=>by simp[D.eq]
 |.tup ds=>by simp only[D.eq];exact D.eqs_refl ds
 |.lst ds=>by simp only[D.eq];exact D.eqs_refl ds
 |.ref n=>by simp[D.eq]
theorem D.eqs_refl:∀d:List D,D.eqs d d=true
 | []=>rfl
 |d::ds=>by simp only[D.eqs,D.eq_refl d,D.eqs_refl ds,Vx]
end
theorem D.eqs_len:∀(ds es:List D),ds.length≠es.length->D.eqs ds es=false
  | [],[],h=>absurd rfl h
  | [],_::_,_=>rfl
  |_::_,[],_=>rfl
  |d::ds,e::es,h=>by
    simp only[D.eqs,D.eqs_len ds es (by simpa using h),UW]
theorem D.eqs_all:∀(ds es:List D),ds.length=es.length->D.eqs ds es=(List.range ds.length).all fun j=>D.eq (ds.getD j .non) (es.getD j .non)
  | [],[],_=>rfl
  |d::ds,e::es,h=>by
    rw[D.eqs,D.eqs_all ds es (by simpa using h),Sw,List.range_succ_eq_map,Ub,List.all_map];rfl
mutual
theorem wL (I:Inv X pins σ H s):∀(d e:D) (v w:V) (u u':Value),aX X.K A H d v->aX X.K B H e w->RelV v u->RelV w u'->Ar.units + d.dep<cLine->d.dep<=100->e.dep<=100->SeqAt.EqAt Ar s u u' (D.eq d e)
  |.ref _,e,v,w,u,u',h1,h2,r1,r2,hu,hd,he=>by simp[D.dep]at hd
  |.non,e,v,w,u,u',h1,h2,r1,r2,hu,hd,he=>by
    have hv:v=.non:=h1;subst hv;cases r1;have hu':Ar.units<cLine:=by omega
    cases e with
    |ref _=>simp[D.dep]at he
    |non=>have hw:w=.non:=h2;subst hw;cases r2;exact Uw _
    |bl b=>have hw:w=.bl b:=h2;subst hw;cases r2;exact SeqAt.EqAt.none_bool _
    |int b=>have hw:w=.int b:=h2;subst hw;obtain⟨t,rfl⟩:=r2;exact SeqAt.EqAt.none_int _ _
    |str b=>have hw:w=.str b:=h2;subst hw;obtain⟨t,rfl⟩:=r2;exact SeqAt.EqAt.none_str _ _
    |tup es=>obtain⟨a,vs,rfl,t,_⟩:=h2;cases r2;obtain⟨its,_,p,_⟩:=I.tuple t;exact SeqAt.EqAt.none_tuple p hu'
    |lst es=>obtain⟨a,vs,rfl,t,_⟩:=h2;cases r2;obtain⟨_,its,_,p⟩:=sql I t;exact SeqAt.EqAt.none_list p hu'
  |.bl x,e,v,w,u,u',h1,h2,r1,r2,hu,hd,he=>by
    have hv:v=.bl x:=h1;subst hv;cases r1;have hu':Ar.units<cLine:=by omega
    cases e with
    |ref _=>simp[D.dep]at he
    |non=>have hw:w=.non:=h2;subst hw;cases r2;exact SeqAt.EqAt.bool_none _
    |bl b=>have hw:w=.bl b:=h2;subst hw;cases r2;exact SeqAt.EqAt.bool_bool _ _
    |int b=>have hw:w=.int b:=h2;subst hw;obtain⟨t,rfl⟩:=r2;exact SeqAt.EqAt.bool_int _ _ _
    |str b=>have hw:w=.str b:=h2;subst hw;obtain⟨t,rfl⟩:=r2;exact SeqAt.EqAt.bool_str _ _ _
    |tup es=>obtain⟨a,vs,rfl,t,_⟩:=h2;cases r2;obtain⟨its,_,p,_⟩:=I.tuple t;exact SeqAt.EqAt.bool_tuple _ p hu'
    |lst es=>obtain⟨a,vs,rfl,t,_⟩:=h2;cases r2;obtain⟨_,its,_,p⟩:=sql I t;exact SeqAt.EqAt.bool_list _ p hu'
  |.int x,e,v,w,u,u',h1,h2,r1,r2,hu,hd,he=>by
    have hv:v=.int x:=h1;subst hv;obtain⟨t0,rfl⟩:=r1;have hu':Ar.units<cLine:=by omega
    cases e with
    |ref _=>simp[D.dep]at he
    |non=>have hw:w=.non:=h2;subst hw;cases r2;exact SeqAt.EqAt.int_none _ _
    |bl b=>have hw:w=.bl b:=h2;subst hw;cases r2;exact SeqAt.EqAt.int_bool _ _ _
    |int b=>have hw:w=.int b:=h2;subst hw;obtain⟨t,rfl⟩:=r2;exact SeqAt.EqAt.int_int _ _ _ _
    |str b=>have hw:w=.str b:=h2;subst hw;obtain⟨t,rfl⟩:=r2;exact U0 _ _ _ _
    |tup es=>obtain⟨a,vs,rfl,t,_⟩:=h2;cases r2;obtain⟨its,_,p,_⟩:=I.tuple t;exact SeqAt.EqAt.int_tuple _ _ p hu'
    |lst es=>obtain⟨a,vs,rfl,t,_⟩:=h2;cases r2;obtain⟨_,its,_,p⟩:=sql I t;exact SeqAt.EqAt.int_list _ _ p hu'
  |.str x,e,v,w,u,u',h1,h2,r1,r2,hu,hd,he=>by
    have hv:v=.str x:=h1;subst hv;obtain⟨t0,rfl⟩:=r1;have hu':Ar.units<cLine:=by omega
    cases e with
    |ref _=>simp[D.dep]at he
    |non=>have hw:w=.non:=h2;subst hw;cases r2;exact SeqAt.EqAt.str_none _ _
    |bl b=>have hw:w=.bl b:=h2;subst hw;cases r2;exact SeqAt.EqAt.str_bool _ _ _
    |int b=>have hw:w=.int b:=h2;subst hw;obtain⟨t,rfl⟩:=r2;exact U3 _ _ _ _
    |str b=>have hw:w=.str b:=h2;subst hw;obtain⟨t,rfl⟩:=r2;exact SeqAt.EqAt.str_str _ _ _ _
    |tup es=>obtain⟨a,vs,rfl,t,_⟩:=h2;cases r2;obtain⟨its,_,p,_⟩:=I.tuple t;exact SeqAt.EqAt.str_tuple _ _ p hu'
    |lst es=>obtain⟨a,vs,rfl,t,_⟩:=h2;cases r2;obtain⟨_,its,_,p⟩:=sql I t;exact SeqAt.EqAt.str_list _ _ p hu'
  |.tup ds,e,v,w,u,u',h1,h2,r1,r2,hu,hd,he=>by
    have h1':=h1;have hd':=hd;simp only[D.dep]at hu hd;have hu':Ar.units<cLine:=by omega
    obtain⟨a,vs,rfl,t,q⟩:=h1;cases r1;obtain⟨its,rv,p,hz⟩:=I.tuple t
    cases e with
    |ref _=>simp[D.dep]at he
    |non=>have hw:w=.non:=h2;subst hw;cases r2;exact SeqAt.EqAt.tuple_none p hu'
    |bl b=>have hw:w=.bl b:=h2;subst hw;cases r2;exact SeqAt.EqAt.tuple_bool _ p hu'
    |int b=>have hw:w=.int b:=h2;subst hw;obtain⟨t,rfl⟩:=r2;exact SeqAt.EqAt.tuple_int _ _ p hu'
    |str b=>have hw:w=.str b:=h2;subst hw;obtain⟨t,rfl⟩:=r2;exact SeqAt.EqAt.tuple_str _ _ p hu'
    |tup es=>
      have h2':=h2;have he':=he;simp only[D.dep]at he;obtain⟨b,ws,rfl,t',q'⟩:=h2;cases r2
      by_cases hab:a=b
      · subst hab;rw[Is.inj I _ _ _ h1' h2' hd' he',D.eq_refl];exact Uw _
      · obtain⟨its',rv',p',hz'⟩:=I.tuple t';refine SeqAt.EqAt.of_refs hab ?_;have l1:its.toArray.size=ds.length:=by rw[tG, <-rv.length,q.len]
        have l2:its'.toArray.size=es.length:=by rw[tG, <-rv'.length,q'.len]
        have key:=SeqAt.RcAt.tuples (A:=Ar) (s:=s) (e:=fun j=>D.eq (ds.getD j .non) (es.getD j .non)) p p' hu' fun j j1 j2=>by
          simpa using lG I ds es vs ws its its' q q' rv rv' (Ar:=Ar.in1) (by show Ar.units + 1 + _<_;omega) (by omega) (by omega) j (by simpa using j1) (by simpa using j2)
        rw[l1,l2]at key
        by_cases hl:ds.length=es.length
        · rw[show D.eq (.tup ds) (.tup es)=D.eqs ds es from rfl,D.eqs_all ds es hl];rw[hl,VJ,Te,Vy]at key;rw[hl];exact key
        · rw[show D.eq (.tup ds) (.tup es)=D.eqs ds es from rfl,D.eqs_len ds es hl];rw[S7.mpr hl,UW]at key;exact key
    |lst es=>obtain⟨b,ws,rfl,t',_⟩:=h2;cases r2;obtain⟨_,its',_,p'⟩:=sql I t';exact SeqAt.EqAt.tuple_list p p' hu'
  |.lst ds,e,v,w,u,u',h1,h2,r1,r2,hu,hd,he=>by
    have h1':=h1;have hd':=hd;simp only[D.dep]at hu hd;have hu':Ar.units<cLine:=by omega
    obtain⟨a,vs,rfl,t,q⟩:=h1;cases r1;obtain⟨hz,its,rv,p⟩:=sql I t
    cases e with
    |ref _=>simp[D.dep]at he
    |non=>have hw:w=.non:=h2;subst hw;cases r2;exact SeqAt.EqAt.list_none p hu'
    |bl b=>have hw:w=.bl b:=h2;subst hw;cases r2;exact SeqAt.EqAt.list_bool _ p hu'
    |int b=>have hw:w=.int b:=h2;subst hw;obtain⟨t,rfl⟩:=r2;exact SeqAt.EqAt.list_int _ _ p hu'
    |str b=>have hw:w=.str b:=h2;subst hw;obtain⟨t,rfl⟩:=r2;exact SeqAt.EqAt.list_str _ _ p hu'
    |tup es=>obtain⟨b,ws,rfl,t',_⟩:=h2;cases r2;obtain⟨its',_,p',_⟩:=I.tuple t';exact SeqAt.EqAt.list_tuple p p' hu'
    |lst es=>
      have h2':=h2;have he':=he;simp only[D.dep]at he;obtain⟨b,ws,rfl,t',q'⟩:=h2;cases r2
      by_cases hab:a=b
      · subst hab;rw[Is.inj I _ _ _ h1' h2' hd' he',D.eq_refl];exact Uw _
      · obtain⟨hz',its',rv',p'⟩:=sql I t';refine SeqAt.EqAt.of_refs hab ?_;have l1:its.toArray.size=ds.length:=by rw[tG, <-rv.length,q.len]
        have l2:its'.toArray.size=es.length:=by rw[tG, <-rv'.length,q'.len]
        by_cases hl:ds.length=es.length
        · have key:=SeqAt.RcAt.lists (A:=Ar) (s:=s) (e:=fun j=>D.eq (ds.getD j .non) (es.getD j .non)) p p' (by rw[l1,l2,hl]) hu' fun j j1 j2=>by
            simpa using lG I ds es vs ws its its' q q' rv rv' (Ar:=Ar.in1) (by show Ar.units + 1 + _<_;omega) (by omega) (by omega) j (by simpa using j1) (by simpa using j2)
          rw[show D.eq (.lst ds) (.lst es)=D.eqs ds es from rfl,D.eqs_all ds es hl];rw[l1]at key;exact key
        · rw[show D.eq (.lst ds) (.lst es)=D.eqs ds es from rfl,D.eqs_len ds es hl];exact Vg p p' (by rw[l1,l2];simpa using hl) hu'
theorem lG (I:Inv X pins σ H s):∀(ds es:List D) (vs ws:List V) (its its':List Value),au X.K A H ds vs->au X.K B H es ws->Vals vs its->Vals ws its'->Ar.units + D.deps ds<cLine->D.deps ds<=100->D.deps es<=100->
    ∀(j:Nat) (h1:j<its.length) (h2:j<its'.length),SeqAt.EqAt Ar s its[j] its'[j] (D.eq (ds.getD j .non) (es.getD j .non))
  | [],es,vs,ws,its,its',h,h',r,r',hu,hd,he,j,j1,j2=>by
    have hv:vs=[]:=h;subst hv;cases r;exact absurd j1 (Uz _)
  |d::ds,[],vs,ws,its,its',h,h',r,r',hu,hd,he,j,j1,j2=>by
    have hv:ws=[]:=h';subst hv;cases r';exact absurd j2 (Uz _)
  |d::ds,e::es,vs,ws,its,its',h,h',r,r',hu,hd,he,j,j1,j2=>by
    obtain⟨v,vr,rfl,p,q⟩:=h;obtain⟨w,wr,rfl,p',q'⟩:=h';simp only[D.deps]at hu hd he
    cases r with
    |cons r1 r2=>
      cases r' with
      |cons r1' r2'=>
        cases j with
        |zero=>exact wL I d e v w _ _ p.w p'.w r1 r1' (by omega) (by omega) (by omega)
        |succ j=>exact lG I ds es vr wr _ _ q q' r2 r2' (by omega) (by omega) (by omega) j (by simpa using j1) (by simpa using j2)
end
theorem Dm {d e:D}{A B:Pl}{K:Fgx}{v w:V}(fd:d.flat=true)(fe:e.flat=true)(h1:aX K A H d v)(h2:aX K B H e w):
  (g_ v w=true/\D.eq d e=decide (v=w))\/(∃a i,v=.bl a/\w=.int i/\D.eq d e=((if a then 1 else 0)==i))\/∃a i,v=.int i/\w=.bl a/\D.eq d e=(i==(if a then 1 else 0)):=by
 cases d<;>cases e<;>simp only[D.flat,U6]at fd fe<;>simp only[aX,Is]at h1 h2<;>subst h1 h2<;>simp[g_,D.eq]
 all_goals first |rfl |(rw[S5];simp)
noncomputable def gW (K:Fgx) (neg:Bool):R2:=fun x y H Q=>∃(A B:Pl) (d e:D),aX K A H d x/\aX K B H e y/\cD d e=true/\d.dep<=50/\Q (.bl (if neg then !D.eq d e else D.eq d e)) H
theorem Ju (hu:X.A.units + 60<cLine):aV X (compareOp .Eq) (gW X.K false):=by
  intro pins s σ H x y v u Q I rx ry h;obtain⟨A,B,d,e,h1,h2,hk,hd,q⟩:=h;have q:Q (.bl (D.eq d e)) H:=q;have fin:SeqAt.RcAt X.A s v u (D.eq d e)->wpAny (model X.prog X.w) X.A (compareOp .Eq v u) (EP X pins σ Q) X.xe s:=fun r=>EqBoolInt.of_rc r ⟨.bl _,H,I,rfl,q⟩;have hu':X.A.units<cLine:=by omega
  cases fd:d.flat with
  |true=>
    simp only[cD,R_,T5,Tt]at hk;have fe:e.flat=true:=hk.1.symm.trans fd;rcases Dm fd fe h1 h2 with⟨sc,eq⟩ |⟨a,i,rfl,rfl,eq⟩ |⟨a,i,rfl,rfl,eq⟩
    · exact Jt pins s σ H x y v u Q I rx ry ⟨sc,by rw[<-eq];exact q⟩
    · cases rx;obtain⟨t,rfl⟩:=ry;exact EqBoolInt.eq_bool_int ⟨.bl _,H,I,rfl,by rw[<-eq];exact q⟩
    · cases ry;obtain⟨t,rfl⟩:=rx;exact EqBoolInt.eq_int_bool ⟨.bl _,H,I,rfl,by rw[<-eq];exact q⟩
  |false=>
    simp only[cD,R_,T5,Tt]at hk;have he:=hk.2;have fe:e.flat=false:=hk.1.symm.trans fd
    cases d with
    |tup ds=>
      obtain⟨a,vs,rfl,t,p⟩:=h1;cases rx;obtain⟨its,rv,pt,hz⟩:=I.tuple t;simp only[D.dep]at hd
      cases e with
      |tup es=>
        obtain⟨b,ws,rfl,t',p'⟩:=h2;cases ry;obtain⟨its',rv',pt',hz'⟩:=I.tuple t';have l1:its.toArray.size=ds.length:=by rw[tG, <-rv.length,p.len]
        have l2:its'.toArray.size=es.length:=by rw[tG, <-rv'.length,p'.len]
        have key:=SeqAt.RcAt.tuples (A:=X.A) (s:=s) (e:=fun j=>D.eq (ds.getD j .non) (es.getD j .non)) pt pt' hu' fun j j1 j2=>by
          simpa using lG I ds es vs ws its its' p p' rv rv' (Ar:=X.A.in1) (by show X.A.units + 1 + _<_;omega) (by omega) (by simp only[D.dep]at he;omega) j (by simpa using j1) (by simpa using j2)
        rw[l1,l2]at key;refine fin ?_
        by_cases hl:ds.length=es.length
        · rw[show D.eq (.tup ds) (.tup es)=D.eqs ds es from rfl,D.eqs_all ds es hl];rw[hl,VJ,Te,Vy]at key;rw[hl];exact key
        · rw[show D.eq (.tup ds) (.tup es)=D.eqs ds es from rfl,D.eqs_len ds es hl];rw[S7.mpr hl,UW]at key;exact key
      |lst es=>
        obtain⟨b,ws,rfl,t',p'⟩:=h2;cases ry;obtain⟨_,its',rv',e'⟩:=sql I t';exact fin (SeqAt.RcAt.tuple_list pt e' hu')
      |ref _=>simp[D.dep]at he
      |_=>cases fe
    |lst ds=>
      obtain⟨a,vs,rfl,t,p⟩:=h1;cases rx;obtain⟨hz,its,rv,pt⟩:=sql I t;simp only[D.dep]at hd
      cases e with
      |tup es=>
        obtain⟨b,ws,rfl,t',p'⟩:=h2;cases ry;obtain⟨its',rv',pt',hz'⟩:=I.tuple t';exact fin (SeqAt.RcAt.list_tuple pt pt' hu')
      |lst es=>
        obtain⟨b,ws,rfl,t',p'⟩:=h2;cases ry;obtain⟨_,its',rv',pt'⟩:=sql I t';have l1:its.toArray.size=ds.length:=by rw[tG, <-rv.length,p.len]
        have l2:its'.toArray.size=es.length:=by rw[tG, <-rv'.length,p'.len]
        refine fin ?_
        by_cases hl:ds.length=es.length
        · have key:=SeqAt.RcAt.lists (A:=X.A) (s:=s) (e:=fun j=>D.eq (ds.getD j .non) (es.getD j .non)) pt pt' (by rw[l1,l2,hl]) hu' fun j j1 j2=>by
            simpa using lG I ds es vs ws its its' p p' rv rv' (Ar:=X.A.in1) (by show X.A.units + 1 + _<_;omega) (by omega) (by simp only[D.dep]at he;omega) j (by simpa using j1) (by simpa using j2)
          rw[show D.eq (.lst ds) (.lst es)=D.eqs ds es from rfl,D.eqs_all ds es hl];rw[l1]at key;exact key
        · rw[show D.eq (.lst ds) (.lst es)=D.eqs ds es from rfl,D.eqs_len ds es hl];exact Vg pt pt' (by rw[l1,l2];simpa using hl) hu'
      |ref _=>simp[D.dep]at he
      |_=>cases fe
    |ref _=>simp[D.dep]at hd
    |_=>cases fd
theorem JH (hu:X.A.units + 60<cLine):aV X (compareOp .NotEq) (gW X.K true):=by
  intro pins s σ H x y v u Q I rx ry h;obtain⟨A,B,d,e,h1,h2,hk,hd,q⟩:=h;have q:Q (.bl (!D.eq d e)) H:=q;have fin:SeqAt.RcNeAt X.A s v u (!D.eq d e)->wpAny (model X.prog X.w) X.A (compareOp .NotEq v u) (EP X pins σ Q) X.xe s:=fun r=>EqBoolInt.of_rcne r ⟨.bl _,H,I,rfl,q⟩;have hu':X.A.units<cLine:=by omega
  cases fd:d.flat with
  |true=>
    simp only[cD,R_,T5,Tt]at hk;have fe:e.flat=true:=hk.1.symm.trans fd;rcases Dm fd fe h1 h2 with⟨sc,eq⟩ |⟨a,i,rfl,rfl,eq⟩ |⟨a,i,rfl,rfl,eq⟩
    · exact JG pins s σ H x y v u Q I rx ry ⟨sc,by rw[<-eq];exact q⟩
    · cases rx;obtain⟨t,rfl⟩:=ry;exact EqBoolInt.ne_bool_int ⟨.bl _,H,I,rfl,by rw[<-eq];exact q⟩
    · cases ry;obtain⟨t,rfl⟩:=rx;exact EqBoolInt.ne_int_bool ⟨.bl _,H,I,rfl,by rw[<-eq];exact q⟩
  |false=>
    simp only[cD,R_,T5,Tt]at hk;have he:=hk.2;have fe:e.flat=false:=hk.1.symm.trans fd
    cases d with
    |tup ds=>
      obtain⟨a,vs,rfl,t,p⟩:=h1;cases rx;obtain⟨its,rv,pt,hz⟩:=I.tuple t;simp only[D.dep]at hd
      cases e with
      |tup es=>
        obtain⟨b,ws,rfl,t',p'⟩:=h2;cases ry;obtain⟨its',rv',pt',hz'⟩:=I.tuple t';have l1:its.toArray.size=ds.length:=by rw[tG, <-rv.length,p.len]
        have l2:its'.toArray.size=es.length:=by rw[tG, <-rv'.length,p'.len]
        have key:=SeqAt.RcNeAt.tuples (A:=X.A) (s:=s) (e:=fun j=>D.eq (ds.getD j .non) (es.getD j .non)) pt pt' hu' fun j j1 j2=>by
          simpa using lG I ds es vs ws its its' p p' rv rv' (Ar:=X.A.in1) (by show X.A.units + 1 + _<_;omega) (by omega) (by simp only[D.dep]at he;omega) j (by simpa using j1) (by simpa using j2)
        rw[l1,l2]at key;refine fin ?_
        by_cases hl:ds.length=es.length
        · rw[show D.eq (.tup ds) (.tup es)=D.eqs ds es from rfl,D.eqs_all ds es hl];rw[hl,VJ,Te,Vy]at key;rw[hl];exact key
        · rw[show D.eq (.tup ds) (.tup es)=D.eqs ds es from rfl,D.eqs_len ds es hl];rw[S7.mpr hl,UW]at key;exact key
      |lst es=>
        obtain⟨b,ws,rfl,t',p'⟩:=h2;cases ry;obtain⟨_,its',rv',e'⟩:=sql I t';exact fin (SeqAt.RcNeAt.tuple_list pt e' hu')
      |ref _=>simp[D.dep]at he
      |_=>cases fe
    |lst ds=>
      obtain⟨a,vs,rfl,t,p⟩:=h1;cases rx;obtain⟨hz,its,rv,pt⟩:=sql I t;simp only[D.dep]at hd
      cases e with
      |tup es=>
        obtain⟨b,ws,rfl,t',p'⟩:=h2;cases ry;obtain⟨its',rv',pt',hz'⟩:=I.tuple t';exact fin (SeqAt.RcNeAt.list_tuple pt pt' hu')
      |lst es=>
        obtain⟨b,ws,rfl,t',p'⟩:=h2;cases ry;obtain⟨_,its',rv',pt'⟩:=sql I t';have l1:its.toArray.size=ds.length:=by rw[tG, <-rv.length,p.len]
        have l2:its'.toArray.size=es.length:=by rw[tG, <-rv'.length,p'.len]
        refine fin ?_
        by_cases hl:ds.length=es.length
        · have key:=SeqAt.RcNeAt.lists (A:=X.A) (s:=s) (e:=fun j=>D.eq (ds.getD j .non) (es.getD j .non)) pt pt' (by rw[l1,l2,hl]) hu' fun j j1 j2=>by
            simpa using lG I ds es vs ws its its' p p' rv rv' (Ar:=X.A.in1) (by show X.A.units + 1 + _<_;omega) (by omega) (by simp only[D.dep]at he;omega) j (by simpa using j1) (by simpa using j2)
          rw[show D.eq (.lst ds) (.lst es)=D.eqs ds es from rfl,D.eqs_all ds es hl];rw[l1]at key;exact key
        · rw[show D.eq (.lst ds) (.lst es)=D.eqs ds es from rfl,D.eqs_len ds es hl];exact SeqAt.RcNeAt.lists_lengths pt pt' (by rw[l1,l2];simpa using hl) hu'
      |ref _=>simp[D.dep]at he
      |_=>cases fe
    |ref _=>simp[D.dep]at hd
    |_=>cases fd
noncomputable def wH:Cp->CmpOp
 |.eq=>.Eq
 |.ne=>.NotEq
 |.lt=>.Lt
 |.le=>.LtE
 |.gt=>.Gt
 |.ge=>.GtE
 |.isin=>.In
 |.notin=>.NotIn
 |.same=>.Is
 |.other=>.IsNot
noncomputable def yE (K:Fgx):Cp->R2
 |.eq=>gW K false
 |.ne=>gW K true
 |.lt=>dO fun i j=>.bl (decide (i<j))
 |.le=>dO fun i j=>.bl (decide (i<=j))
 |.gt=>dO fun i j=>.bl (decide (j<i))
 |.ge=>dO fun i j=>.bl (decide (j<=i))
 |.isin=>fun x y H Q=>(∃i j,x=.str i/\y=.str j/\Q (.bl (!(Builtin.Str.occurrences j i 0 j.length 1).isEmpty)) H)\/tX K false x y H Q
 |.notin=>fun x y H Q=>(∃i j,x=.str i/\y=.str j/\Q (.bl (!(!(Builtin.Str.occurrences j i 0 j.length 1).isEmpty))) H)\/tX K true x y H Q
 |.same=>fun x y H Q=>(y=.non/\Q (.bl (decide (x=.non))) H)\/(∃b,y=.bl b/\Q (.bl (decide (x=.bl b))) H)
 |.other=>fun x y H Q=>(y=.non/\Q (.bl (!decide (x=.non))) H)\/(∃b,y=.bl b/\Q (.bl (!decide (x=.bl b))) H)
theorem Ao (hu:X.A.units + 60<cLine):∀c:Cp,aV X (compareOp (wH c)) (yE X.K c)
 |.eq=>Ju hu
 |.ne=>JH hu
 |.lt=>JF
 |.le=>JD
 |.gt=>Jw
 |.ge=>Jv
 |.isin=>Jy.or Jx
 |.notin=>JM.or JK
 |.same=>JB.or Jz
 |.other=>JL.or JC
theorem o_ {K:Fgx}{A:Pl}{d:D}{v:V}(f:d.flat=true)(h:Is K A H d v):fZ v=true:=by
 cases d<;>simp only[D.flat,U6]at f<;>simp only[Is]at h<;>subst h<;>rfl
theorem wM {K:Fgx}{A B:Pl}{d e:D}{v w:V}(f:d.flat=true)(g:e.flat=true)(h:Is K A H d v)(h':Is K B H e w):gO v w=D.eq d e:=by
 cases d<;>cases e<;>simp only[D.flat,U6]at f g<;>simp only[Is]at h h'<;>subst h h'<;>rfl
theorem pq {K:Fgx}{A:Pl}:∀{ds:List D} {vs:List V},ds.all D.flat=true->au K A H ds vs->vs.all fZ=true
  | [],_,_,h=>by rw[show _=[] from h];rfl
  |d::ds,_,f,h=>by
    obtain⟨v,r,rfl,p,q⟩:=h;rw[Ub,R_]at f;rw[Ub,o_ f.1 p,pq f.2 q];rfl
theorem fM {K:Fgx}{A B:Pl}{e:D}{w:V}(g:e.flat=true)(h':Is K B H e w):∀{ds:List D} {vs:List V},ds.all D.flat=true->au K A H ds vs->inV w vs=ds.any fun y=>D.eq y e
  | [],_,_,h=>by rw[show _=[] from h];rfl
  |d::ds,_,f,h=>by
    obtain⟨v,r,rfl,p,q⟩:=h;rw[Ub,R_]at f;have:=fM g h' f.2 q;unfold inV at this ⊢;rw[U8,U8,this,wM f.1 g p h']
theorem Fq {K:Fgx}{A B:Pl}{c:Cp}{d e:D}{v w:V}{b:Bool}{Q:VK}(h:bJ c d e=some b)(h1:aX K A H d v)(h2:aX K B H e w)(q:Q (.bl b) H):yE K c v w H Q:=by
  cases c
  case eq=>
    simp only[bJ,i_,mZ]at h;split at h
    · rename_i hc;cases h;exact⟨A,B,d,e,h1,h2,hc.1,hc.2,q⟩
    · cases h
  case ne=>
    simp only[bJ,i_,mZ]at h;split at h
    · rename_i hc;cases h;exact⟨A,B,d,e,h1,h2,hc.1,hc.2,q⟩
    · cases h
  case isin=>
    cases e with
    |str j=>
      cases d<;>simp only[bJ,bY,jj,cX,j5,jx,reduceCtorEq]at h
      simp only[aX,Is]at h1 h2;subst h1 h2;cases h;exact .inl ⟨_,_,rfl,rfl,q⟩
    |lst xs=>
      have h':(if (d.flat && xs.all D.flat)=true then some (xs.any fun y=>D.eq y d) else none)=some b:=by cases d<;>exact h
      split at h'
      · rename_i hc;rw[R_]at hc;cases h';obtain⟨a,vs,rfl,t,p⟩:=h2;have h1':Is K A H d v:=by cases d<;>first |exact h1 |cases hc.1
        refine .inr ⟨a,vs,rfl,.inl (t),o_ hc.1 h1',pq hc.2 p,?_⟩;rw[fM hc.1 h1' hc.2 p];exact q
      · cases h'
    |tup xs=>
      have h':(if (d.flat && xs.all D.flat)=true then some (xs.any fun y=>D.eq y d) else none)=some b:=by cases d<;>exact h
      split at h'
      · rename_i hc;rw[R_]at hc;cases h';obtain⟨a,vs,rfl,t,p⟩:=h2;have h1':Is K A H d v:=by cases d<;>first |exact h1 |cases hc.1
        refine .inr ⟨a,vs,rfl,.inr t,o_ hc.1 h1',pq hc.2 p,?_⟩;rw[fM hc.1 h1' hc.2 p];exact q
      · cases h'
    |_=>cases d<;>simp only[bJ,bY,jj,cX,j5,jx,reduceCtorEq]at h
  case notin=>
    cases e with
    |str j=>
      cases d<;>simp only[bJ,bY,jj,cX,j5,jx,reduceCtorEq]at h
      simp only[aX,Is]at h1 h2;subst h1 h2;cases h;exact .inl ⟨_,_,rfl,rfl,q⟩
    |lst xs=>
      have h':(if (d.flat && xs.all D.flat)=true then some (!xs.any fun y=>D.eq y d) else none)=some b:=by cases d<;>exact h
      split at h'
      · rename_i hc;rw[R_]at hc;cases h';obtain⟨a,vs,rfl,t,p⟩:=h2;have h1':Is K A H d v:=by cases d<;>first |exact h1 |cases hc.1
        refine .inr ⟨a,vs,rfl,.inl (t),o_ hc.1 h1',pq hc.2 p,?_⟩;rw[fM hc.1 h1' hc.2 p];exact q
      · cases h'
    |tup xs=>
      have h':(if (d.flat && xs.all D.flat)=true then some (!xs.any fun y=>D.eq y d) else none)=some b:=by cases d<;>exact h
      split at h'
      · rename_i hc;rw[R_]at hc;cases h';obtain⟨a,vs,rfl,t,p⟩:=h2;have h1':Is K A H d v:=by cases d<;>first |exact h1 |cases hc.1
        refine .inr ⟨a,vs,rfl,.inr t,o_ hc.1 h1',pq hc.2 p,?_⟩;rw[fM hc.1 h1' hc.2 p];exact q
      · cases h'
    |_=>cases d<;>simp only[bJ,bY,jj,cX,j5,jx,reduceCtorEq]at h
  case same=>
    cases d<;>cases e<;>simp only[bJ,bY,jj,cX,j5,jx,reduceCtorEq]at h<;>cases h<;>simp only[aX,Is]at h1 h2
    all_goals first
      |(subst h1 h2;first |exact .inr ⟨_,rfl,by rw[sO];exact q⟩ |exact .inl ⟨rfl,by simpa using q⟩ |exact .inr ⟨_,rfl,by simpa using q⟩)
      |(obtain⟨a,vs,rfl,_⟩:=h1;subst h2;first |exact .inl ⟨rfl,by simpa using q⟩ |exact .inr ⟨_,rfl,by simpa using q⟩)
  case other=>
    cases d<;>cases e<;>simp only[bJ,bY,jj,cX,j5,jx,reduceCtorEq]at h<;>cases h<;>simp only[aX,Is]at h1 h2
    all_goals first
      |(subst h1 h2;first |exact .inr ⟨_,rfl,by rw[sO];exact q⟩ |exact .inl ⟨rfl,by simpa using q⟩ |exact .inr ⟨_,rfl,by simpa using q⟩)
      |(obtain⟨a,vs,rfl,_⟩:=h1;subst h2;first |exact .inl ⟨rfl,by simpa using q⟩ |exact .inr ⟨_,rfl,by simpa using q⟩)
  all_goals
    cases d<;>cases e<;>simp only[bJ,bY,jj,cX,j5,jx,reduceCtorEq]at h
    simp only[aX,Is]at h1 h2;subst h1 h2;cases h;exact⟨_,_,rfl,rfl,q⟩
end
inductive Mode where
 |val |bor
def rQ (mg:Mgx)(H:Hp)(c:Str)(n:Int)(v:V):Prop:=∃a C dx,v=.ref a/\mg c=some (.ref C)/\H a=some (xo a C dx false)/\
 match dx with
 |none=>n=0
 |some d=>∃fs,H d=some (.xd fs)/\fs.lookup ("at":Str)=some (.int (n - 1))/\n≠0
theorem rQ.lt (l:Lt P H P' H')(h:rQ mg H c n v):rQ mg H' c n v:=by
  obtain⟨a,C,dx,e,m,ea,q⟩:=h;refine⟨a,C,dx,e,m,l.keep _ _ ea (.inl (.inr (.inr (.inl ⟨_,rfl⟩)))),?_⟩
  cases dx with
  |none=>exact q
  |some d=>
    obtain⟨fs,ed,el⟩:=q;exact⟨fs,l.keep _ _ ed (.inl (.inr (.inr (.inr ⟨_,rfl⟩)))),el⟩
noncomputable def zX (K:Fgx) (mg:Mgx) (P:Pl) (H:Hp) (o:Option Addr) (sv:Option V):Slot->Prop
 |.un=>True
 |.val d=>∃v,sv=some v/\Is K P H d v
 |.own ds=>∃a vs,o=some a/\sv=some (.ref a)/\H a=some (.lst vs)/\au K P H ds vs
 |.exc c n=>∃v,sv=some v/\rQ mg H c n v
structure Ok (K:Fgx)(mg:Mgx)(P0:Pl)(H0:Hp)(P:Pl)(O:List (Option Addr))(H:Hp)(M:Mm)(st:L2.St)(env:Env):Prop where
 hk:Hk K mg P H M
 base:LtE P0 H0 P H
 b0:∀a,P0.bd a->H0 a≠none
 slot:∀(i:Nat) s,env[i]? =some s->zX K mg P H (O[i]?).join (st[i]?).join s
 own:∀a,some a∈O->P.bd a/\(∀k,k<P.n->P.io k≠a)/\H0 a=none
 inj:∀(i j:Nat) a,O[i]? =some (some a)->O[j]? =some (some a)->i=j
 olen:O.length=env.length
 slen:st.length=env.length
def cg (K:Fgx)(P:Pl)(H:Hp)(m:Mode)(d:D)(v:V):Prop:=match m with
 |.val=>Is K P H d v
 |.bor=>bW K P H d v
inductive Res where
 |v (d:D) |x (c:Str) (n:Int)
abbrev O:=Option (Res×Mm)
abbrev E:=Env->Mm->O
noncomputable def bnd (o:O) (k:D->Mm->O):O:=match o with
 |some (.v d,M)=>k d M
 |some (.x c n,M)=>some (.x c n,M)
 |none=>none
theorem cM (h:bnd o k=some (r,M')):(∃d M,o=some (.v d,M)/\k d M=some (r,M'))\/∃c n,o=some (.x c n,M')/\r=.x c n:=by
 unfold bnd at h;split at h
 ·exact .inl ⟨_,_,rfl,h⟩
 ·cases h;exact .inr ⟨_,_,rfl,rfl⟩
 ·cases h
abbrev XW:=Pl->Hp->Mm->Str->Int->Prop
section
variable {K:Fgx}{mg:Mgx}{P0 P P':Pl}{H0 H H':Hp}{M M':Mm}{Os:List (Option Addr)}{st:L2.St}{env:Env}{d:D}{v:V}{m:Mode}
theorem Is.b (h:Hk K mg P H M)(i:Is K P H d v):bW K P H d v:=by
  cases d with
  |lst ds=>
    obtain⟨a,vs,e,r,q⟩:=i;exact⟨a,vs,e,r.imp (fun⟨n,r⟩=>⟨fun k hk z=>n (z ▸ h.bd k hk),r⟩) id,q⟩
  |_=>exact i
theorem cg.of (h:Hk K mg P H M)(i:Is K P H d v):cg K P H m d v:=by
 cases m with
 |val=>exact i
 |bor=>exact i.b h
theorem cg.b (h:Hk K mg P H M)(i:cg K P H m d v):bW K P H d v:=by
 cases m with
 |val=>exact Is.b h i
 |bor=>exact i
theorem LtE.nc (l:LtE P H P' H')(e:H a=some o)(n:∀k,k<P.n->P.io k≠a):∀k,k<P'.n->P'.io k≠a:=fun k hk z=>by
 rcases SJ k P.n with q |q
 ·rw[l.io k q]at z;exact n k q z
 ·rw[<-z,l.nw k q hk]at e;cases e
theorem bW.lt (l:LtE P H P' H')(h:Hk K mg P H M)(i:bW K P H d v):bW K P' H' d v:=by
  cases d with
  |lst ds=>
    obtain⟨a,vs,e,r,q⟩:=i;refine⟨a,vs,e,r.imp (fun⟨n,r⟩=>?_) id,au.lt (l.lt h) q⟩;obtain⟨o,eo⟩:=CJ r;refine⟨l.nc eo n,?_⟩;rcases r with r |⟨o',r⟩
    · exact .inl (l.keep _ _ r (.inr n))
    · exact .inr ⟨o',l.keep _ _ r (.inr n)⟩
  |_=>exact Is.lt (l.lt h) i
theorem Ok.next (k:Ok K mg P0 H0 P Os H M st env)(l:LtE P H P' H')(h:Hk K mg P' H' M'):Ok K mg P0 H0 P' Os H' M' st env where
  hk:=h
  base:=k.base.trans l
  b0:=k.b0
  slot:=fun i s e=>by
    have q:=k.slot i s e
    cases s with
    |un=>exact True.intro
    |val d=>
      obtain⟨v,e1,q⟩:=q;exact⟨v,e1,Is.lt (l.lt k.hk) q⟩
    |own ds=>
      obtain ⟨a, vs, e1, e2, e3, q⟩ := q;have ho := k.own a (by
        cases hx:Os[i]? with
        |none=>rw[hx]at e1;cases e1
        |some o=>rw[hx]at e1;cases o with
          |none=>cases e1
          |some b=>cases e1;exact Ua hx)
      exact⟨a,vs,e1,e2,l.keep _ _ e3 (.inr ho.2.1),au.lt (l.lt k.hk) q⟩
    |exc c n=>
      obtain⟨v,e1,q⟩:=q;exact⟨v,e1,q.lt (l.lt k.hk)⟩
  own:=fun a z=>by
    have ho:=k.own a z;refine⟨l.bm a ho.1,?_,ho.2.2⟩;obtain⟨o,eo⟩:∃o,H a=some o:=by
      cases e:H a with
      |none=>exact absurd e (k.hk.here a ho.1)
      |some o=>exact⟨o,rfl⟩
    exact l.nc eo ho.2.1
  inj:=k.inj
  olen:=k.olen
  slen:=k.slen
theorem Hk.same (h:Hk K mg P H M)(s:Same H H'):Hk K mg P H' M:=by
  have l:Lt P H P H':=(LtE.same s).lt h;refine⟨h.n,fun k c e=>?_,h.inj,h.bd,fun a z q=>h.here a z (s.free q)⟩;have:=h.cell k c e
  cases c with
  |lst ds=>
    obtain⟨vs,e1,q⟩:=this;exact⟨vs,s _ _ e1,au.lt l q⟩
  |obj c fs=>
    obtain⟨C,dx,gs,e1,e2,e3,q⟩:=this;exact⟨C,dx,gs,e1,s _ _ e2,e3,au.lt l q⟩
  |dct kvs=>
    obtain⟨vs,e1,e2,q⟩:=this;exact⟨vs,s _ _ e1,e2,au.lt l q⟩
  |dcf kvs=>
    obtain⟨vs,ob,es,ep,e1,eD,e2,q⟩:=this;exact⟨vs,ob,es,ep,s _ _ e1,eD,e2,au.lt l q⟩
end
noncomputable def RQ (K:Fgx) (mg:Mgx) (Wx:XW) (m:Mode) (P0:Pl) (H0:Hp) (P:Pl) (H:Hp) (M':Mm) (Q:VK):Res->Prop
 |.v d=>∀P' v H',LtE P H P' H'->Hk K mg P' H' M'->cg K P' H' m d v->Q v H'
 |.x c n=>Wx P0 H0 M' c n
theorem bV (h:PE X e t)(i:∀st H Q,t' st H Q->t st H Q):PE X e t':=fun pins s σ H Q I z=>h pins s σ H Q I (i _ _ _ z)
noncomputable def tE (K:Fgx) (mg:Mgx) (Wx:XW) (m:Mode) (f:E):TE:=fun st H Q=>∃P0 H0 P Os env M r M',Ok K mg P0 H0 P Os H M st env/\f env M=some (r,M')/\RQ K mg Wx m P0 H0 P H M' Q r
structure Fit (X:Cx)(Wx:XW):Prop where
 calm:X.calm=true
 room:X.A.units + 60<cLine
section
variable {X:Cx}{Wx:XW}{m:Mode}
def SE (X:Cx)(Wx:XW)(m:Mode)(e:Expr)(f:E):Prop:=PE X e (tE X.K X.mg Wx m f)
theorem SE.bor (h : SE X Wx .val e f) : SE X Wx m e f := bV h fun st H Q ⟨P0, H0, P, Os, env, M, r, M', k, e, q⟩ => ⟨P0,H0,P,Os,env,M,r,M',k,e,by
 cases r with
 |v d=>exact fun P' v H' l h i=>q P' v H' l h (cg.of h i)
 |x c n=>exact q⟩
theorem aW {f:E}{K:Fgx}{mg:Mgx}{P0 P:Pl}{H0 H:Hp}{Os:List (Option Addr)}{M M':Mm}{st:L2.St}{env:Env}{r:Res}{Q:VK}(k:Ok K mg P0 H0 P Os H M st env)(e:f env M=some (r,M'))
  (q:RQ K mg Wx m P0 H0 P H M' Q r):tE K mg Wx m f st H Q:=⟨P0,H0,P,Os,env,M,r,M',k,e,q⟩
noncomputable def aj (i:Nat):E:=fun env M=>match env[i]? with
 |some (.val d)=>some (.v d,M)
 |_=>none
def ao (d:D):E:=fun _ M=>some (.v d,M)
theorem Bw {α:Type}{l:List (Option α)}{i:Nat}{a:α}(h:(l[i]?).join=some a):l[i]? =some (some a):=by
  cases e:l[i]? with
  |none=>rw[e]at h;cases h
  |some o=>rw[e]at h;cases o with
    |none=>cases h
    |some b=>cases h;rfl
theorem Ds {i:Nat}{x:Str}{pos:Pos}(hN:X.N[i]? =some x)(hv:rP X.env.scope x)(hd:(x==("__debug__":Str))=false:=by x_go)(hcd:(x==("__classdict__":Str))=false:=by x_go):SE X Wx .val (.Name x pos) (aj i):=by
 refine bV (Kd hN hv hd hcd) ?_;rintro st H Q ⟨P0,H0,P,Os,env,M,r,M',k,e,q⟩;unfold aj at e;split at e
 ·rename_i d hs;cases e;obtain⟨v,e1,i1⟩:=k.slot i _ hs;exact⟨v,Bw e1,q P v H (LtE.refl P H) k.hk i1⟩
 ·cases e
theorem yW (h:PE X e (tC v))(hd:∀P H,Is X.K P H d v):SE X Wx .val e (ao d):=by
 refine bV h ?_;rintro st H Q ⟨P0,H0,P,Os,env,M,r,M',k,e,q⟩;cases e;exact q P v H (LtE.refl P H) k.hk (hd P H)
noncomputable def vw (M:Mm) (d:D):D:=match d with
  | .ref k => (match M[k]? with
    |some (.lst ds)=>.lst ds
    |_=>.ref k)
  |d=>d
theorem bW.vw {K:Fgx}{mg:Mgx}{P:Pl}{H:Hp}{M:Mm}{d:D}{v:V}(h:Hk K mg P H M)(i:bW K P H d v):aX K P H (vw M d) v:=by
  cases d with
  |ref k=>
    unfold E3.vw;dsimp only
    split
    · rename_i ds e;obtain⟨i1,i2⟩:k<P.n/\v=.ref (P.io k):=i;obtain⟨vs,e1,q⟩:=h.cell k _ e;exact⟨_,vs,i2,.inl (.inl e1),q⟩
    · exact i
  |lst ds=>exact i.w
  |_=>exact i
noncomputable def s1 (o:D->Option D) (f:E):E:=fun env M=>bnd (f env M) fun d M1=>(o (vw M1 d)).map fun z=>(.v z,M1)
noncomputable def s2 (o:D->D->Option D) (f g:E):E:=fun env M=>bnd (f env M) fun d M1=>bnd (g env M1) fun e M2=>(o (vw M2 d) (vw M2 e)).map fun z=>(.v z,M2)
def eU (K:Fgx)(r:R2)(o:D->D->Option D):Prop:=∀(P:Pl) (H:Hp) (d e z:D) (v w:V) (Q:VK),o d e=some z->aX K P H d v->aX K P H e w->(∀p,H p=none->¬ P.bd p)->(∀u H',Same H H'->Is K P H' z u->Q u H')->r v w H Q
theorem Hk.new {K:Fgx}{mg:Mgx}{P:Pl}{H:Hp}{M:Mm}(h:Hk K mg P H M):∀p,H p=none->¬ P.bd p:=fun p hp z=>h.here p z hp
theorem vI {f g:E}{o:D->D->Option D}{r:R2}{st:L2.St}{H:Hp}{Q:VK}(po:eU X.K r o)(h:tE X.K X.mg Wx m (s2 o f g) st H Q):rF r (tE X.K X.mg Wx .bor f) (tE X.K X.mg Wx .bor g) st H Q:=by
 obtain⟨P0,H0,P,Os,env,M,rr,M',k,e,q⟩:=h;unfold s2 at e;rcases cM e with⟨d,M1,e1,e⟩ |⟨c,n,e1,rfl⟩
 ·refine aW k e1 fun P1 v1 H1 l1 h1 i1=>?_;have k1:=k.next l1 h1
  rcases cM e with⟨d2,M2,e2,e⟩ |⟨c,n,e2,rfl⟩
  ·refine aW k1 e2 fun P2 v2 H2 l2 h2 i2=>?_;rw[RM]at e;obtain⟨z,ez,e⟩:=e;cases e;exact po P2 H2 _ _ z v1 v2 Q ez (bW.vw h2 (bW.lt l2 h1 i1)) (bW.vw h2 i2) h2.new fun u H' s i=>q P2 u H' (l1.trans (l2.trans (LtE.same s))) (h2.same s) (cg.of (h2.same s) i)
  ·exact aW k1 e2 q
 ·exact aW k e1 q
theorem dj (ho:aV X (binaryOp op) r)(po:eU X.K r o)(ha:SE X Wx .bor a f)(hb:SE X Wx .bor b g):SE X Wx m (.BinOp a op b pos) (s2 o f g):=
 bV (yt ho ha hb) fun _ _ _ h=>vI po h
theorem Oq (ho:aV X (compareOp op) r)(po:eU X.K r o)(ha:SE X Wx .bor a f)(hb:SE X Wx .bor b g)(hm:behindInMarks op b=false:=by rfl):SE X Wx m (.Compare a [op] [b] pos) (s2 o f g):=
 bV (JX ho ha hb hm) fun _ _ _ h=>vI po h
theorem Ot (ho:fW X r)(po:eU X.K r o)(ha:SE X Wx .bor a f)(hb:SE X Wx .bor b g)(hs:vQ b:=by exact fun _ _=>rfl):SE X Wx m (.Subscript a b pos) (s2 o f g):=
 bV (J3 ho ha hb hs) fun _ _ _ h=>vI po h
noncomputable def TQ (K:Fgx) (mg:Mgx) (Wx:XW) (P0:Pl) (H0:Hp) (P:Pl) (H:Hp) (M':Mm) (Q:Bool->Hp->Prop):Res->Prop
 |.v d=>∃b,d=.bl b/\∀P' H',LtE P H P' H'->Hk K mg P' H' M'->Q b H'
 |.x c n=>Wx P0 H0 M' c n
noncomputable def mQ (K:Fgx) (mg:Mgx) (Wx:XW) (f:E):TT:=fun st H Q=>∃P0 H0 P Os env M r M',Ok K mg P0 H0 P Os H M st env/\f env M=some (r,M')/\TQ K mg Wx P0 H0 P H M' Q r
def ST (X:Cx)(Wx:XW)(e:Expr)(f:E):Prop:=PT X e (mQ X.K X.mg Wx f)
theorem yu (h:PT X e t)(i:∀st H Q,t' st H Q->t st H Q):PT X e t':=fun pins s σ H Q I z=>h pins s σ H Q I (i _ _ _ z)
theorem iw {f:E}{K:Fgx}{mg:Mgx}{P0 P:Pl}{H0 H:Hp}{Os:List (Option Addr)}{M M':Mm}{st:L2.St}{env:Env}{r:Res}{Q:Bool->Hp->Prop}(k:Ok K mg P0 H0 P Os H M st env)(e:f env M=some (r,M'))
  (q:TQ K mg Wx P0 H0 P H M' Q r):mQ K mg Wx f st H Q:=⟨P0,H0,P,Os,env,M,r,M',k,e,q⟩
theorem Qe {f:E}{st:L2.St}{H:Hp}{Q:Bool->Hp->Prop}(h:mQ X.K X.mg Wx f st H Q):DN (tE X.K X.mg Wx .val f) st H Q:=by
  obtain⟨P0,H0,P,Os,env,M,r,M',k,e,q⟩:=h;refine aW k e ?_
  cases r with
  |v d=>
    obtain⟨b,rfl,q⟩:=q;exact fun P' v H' l h i=>⟨b,i,q P' H' l h⟩
  |x c n=>exact q
theorem Pn (ho:aV X (compareOp op) r)(po:eU X.K r o)(ha:SE X Wx .bor a f)(hb:SE X Wx .bor b g)(hm:behindInMarks op b=false:=by rfl):ST X Wx (.Compare a [op] [b] pos) (s2 o f g):=
 yu (KH ho ha hb hm) fun _ _ _ h=>vI po (Qe h)
noncomputable def dz:D->Option Bool
 |.non=>some false
 |.bl b=>some b
 |.int i=>some (i !=0)
 |.str s=>if s.length<=sizeLine then some ((s.length:Int) !=0) else none
 |.lst ds=>some (!ds.isEmpty)
 |.tup ds=>some (!ds.isEmpty)
 |.ref _=>none
def bM (f:E):E:=s1 (fun d=>(dz d).map .bl) f
noncomputable def bL (f:E):E:=fun env M=>bnd (f env M) fun d M1=>match d with
 |.bl b=>some (.v (.bl (!b)),M1)
 |_=>none
noncomputable def eE (f g:E):E:=fun env M=>bnd (f env M) fun d M1=>match d with
 |.bl b=>if b=true then g env M1 else some (.v (.bl false),M1)
 |_=>none
noncomputable def gZ (f g:E):E:=fun env M=>bnd (f env M) fun d M1=>match d with
 |.bl b=>if b=true then some (.v (.bl true),M1) else g env M1
 |_=>none
def SW (X:Cx)(Wx:XW)(e:Expr)(f:E):Prop:=PW X e (mQ X.K X.mg Wx f)
theorem K4 (h:PW X e t)(i:∀st H Q,t' st H Q->t st H Q):PW X e t':=fun wh pins s σ H Q I z=>h wh pins s σ H Q I (i _ _ _ z)
theorem gw (ha:ST X Wx a f):ST X Wx (.UnaryOp .Not a pos) (bL f):=by
 refine yu (KJ ha) ?_;rintro st H Q ⟨P0,H0,P,Os,env,M,r,M',k,e,q⟩;unfold bL at e;rcases cM e with⟨d,M1,e1,e⟩ |⟨c,n,e1,rfl⟩
 ·cases d<;>simp only[reduceCtorEq]at e
  cases e;obtain⟨b,e2,q⟩:=q;cases e2;exact iw k e1 ⟨_,rfl,q⟩
 ·exact iw k e1 q
theorem rC (ha:ST X Wx a f):SW X Wx (.BoolOp .Or [a] pos) f:=K6 ha
theorem nH (ha:ST X Wx a f)(hb:SW X Wx (.BoolOp .Or (b::rest) pos) g):SW X Wx (.BoolOp .Or (a::b::rest) pos) (gZ f g):=by
  refine K4 (K5 ha hb) ?_;rintro st H Q ⟨P0,H0,P,Os,env,M,r,M',k,e,q⟩;unfold gZ at e;rcases cM e with⟨d,M1,e1,e⟩ |⟨c,n,e1,rfl⟩
  · cases d<;>simp only[reduceCtorEq]at e
    rename_i b;refine iw k e1 ⟨b,rfl,fun P1 H1 l1 h1=>?_⟩
    cases b with
    |false=>
      rw[R5 (by decide)]at e ⊢;refine iw (k.next l1 h1) e ?_
      cases r with
      |v d=>obtain⟨b,e2,q⟩:=q;exact⟨b,e2,fun P' H' l h=>q P' H' (l1.trans l) h⟩
      |x c n=>exact q
    |true=>
      rw[RW rfl]at e ⊢;cases e;obtain⟨b,e2,q⟩:=q;cases e2;exact q P1 H1 l1 h1
  · exact iw k e1 q
theorem SW.st (h:SW X Wx e f):ST X Wx e f:=h.pt
end
section
variable {X:Cx}{Wx:XW}{m:Mode}
theorem RQ.imp {K:Fgx}{mg:Mgx}{P0 P P1:Pl}{H0 H H1:Hp}{M':Mm}{Q:VK}{r:Res}(l:LtE P H P1 H1)(q:RQ K mg Wx m P0 H0 P H M' Q r):RQ K mg Wx m P0 H0 P1 H1 M' Q r:=by
 cases r with
 |v d=>exact fun P' v H' l' h i=>q P' v H' (l.trans l') h i
 |x c n=>exact q
theorem Dr (ha:SE X Wx m a f):SE X Wx m (.BoolOp op [a] pos) f:=J9 ha
theorem yS (ha:SE X Wx .val a f)(hb:SE X Wx m (.BoolOp .And (b::rest) pos) g):SE X Wx m (.BoolOp .And (a::b::rest) pos) (eE f g):=by
  refine bV (JQ ha hb) ?_;rintro st H Q ⟨P0,H0,P,Os,env,M,r,M',k,e,q⟩;unfold eE at e;rcases cM e with⟨d,M1,e1,e⟩ |⟨c,n,e1,rfl⟩
  · cases d<;>simp only[reduceCtorEq]at e
    rename_i b;refine aW k e1 fun P1 v1 H1 l1 h1 i1=>⟨b,i1,?_⟩
    cases b with
    |true=>
      rw[RW rfl]at e ⊢;exact aW (k.next l1 h1) e (RQ.imp l1 q)
    |false=>
      rw[R5 (by decide)]at e ⊢;cases e;exact q P1 _ H1 l1 h1 (cg.of h1 (show Is _ _ _ (.bl false) _ from rfl))
  · exact aW k e1 q
theorem DP {K:Fgx}{P:Pl}{H:Hp}{d:D}{v:V}{b:Bool}(h:dz d=some b)(i:aX K P H d v):gD K v H b:=by
  cases d with
  |non=>have e:v=.non:=i;subst e;cases h;rfl
  |bl c=>have e:v=.bl c:=i;subst e;cases h;rfl
  |int c=>have e:v=.int c:=i;subst e;cases h;rfl
  |str c=>
    have e:v=.str c:=i;subst e;simp only[dz]at h;split at h
    · rename_i hl;cases h;exact⟨hl,rfl⟩
    · cases h
  |lst ds=>
    obtain⟨a,vs,rfl,r,q⟩:=i;cases h;refine .inl ⟨vs,r,?_⟩
    cases ds with
    |nil=>rw[show vs=[] from q];rfl
    |cons d ds=>obtain⟨w,r',rfl,_⟩:=q;rfl
  |tup ds=>
    obtain⟨a,vs,rfl,r,q⟩:=i;cases h;refine .inr (.inl ⟨vs,r,?_⟩)
    cases ds with
    |nil=>rw[show vs=[] from q];rfl
    |cons d ds=>obtain⟨w,r',rfl,_⟩:=q;rfl
  |ref k=>cases h
theorem gA (ha:SE X Wx .bor a f)(he:∀whole,isTrue a X.env whole=(do let v <-whole;standAt a.pos;holding [v] (truthy v)):=by exact fun _=>rfl):ST X Wx a (bM f):=by
 refine yu (KN ha he) ?_;rintro st H Q ⟨P0,H0,P,Os,env,M,r,M',k,e,q⟩;unfold bM s1 at e;rcases cM e with⟨d,M1,e1,e⟩ |⟨c,n,e1,rfl⟩
 ·rw[RM]at e;obtain⟨z,ez,e⟩:=e;cases e;rw[RM]at ez;obtain⟨b,eb,rfl⟩:=ez;obtain⟨b',e2,q⟩:=q;cases e2;exact aW k e1 fun P1 v1 H1 l1 h1 i1=>⟨b,DP eb (bW.vw h1 i1),q P1 H1 l1 h1⟩
 ·exact aW k e1 q
theorem J8 (ha:PE X a ta):PE X (.UnaryOp .Not a pos) (fun σ H Q=>ta σ H fun x H1=>∃k,gD X.K x H1 k/\Q (.bl (!k)) H1):=by
 intro pins s σ H Q I h;refine UnaryOp_ (aM (ha pins s σ H _ I h) fun v s1 ⟨x, H1, I1, r1, k, tv, q⟩ => ?_);exact not_of (aM (DQ pins s1 σ H1 x v (fun b H'=>b=k/\H'=H1) I1 r1 ⟨k,tv,rfl,rfl⟩) fun b s2 ⟨H2,I2,e1,e2⟩=>by
  subst e1 e2;exact⟨.bl (!b),H2,I2,rfl,q⟩)
def tY (f:E):E:=s1 (fun d=>(dz d).map fun b=>.bl (!b)) f
theorem Ov (ha:SE X Wx .bor a f):SE X Wx m (.UnaryOp .Not a pos) (tY f):=by
 refine bV (J8 ha) ?_;rintro st H Q ⟨P0,H0,P,Os,env,M,r,M',k,e,q⟩;unfold tY s1 at e;rcases cM e with⟨d,M1,e1,e⟩ |⟨c,n,e1,rfl⟩
 ·rw[RM]at e;obtain⟨z,ez,e⟩:=e;cases e;rw[RM]at ez;obtain⟨b,eb,rfl⟩:=ez;exact aW k e1 fun P1 v1 H1 l1 h1 i1=>⟨b,DP eb (bW.vw h1 i1),q P1 _ H1 l1 h1 (cg.of h1 (show Is _ _ _ (.bl _) _ from rfl))⟩
 ·exact aW k e1 q
inductive ResA where
 |v (ds:List D) |x (c:Str) (n:Int)
abbrev EA:=Env->Mm->Option (ResA×Mm)
def ak:EA:=fun _ M=>some (.v [],M)
noncomputable def aC (f:E) (fs:EA):EA:=fun env M=>match f env M with
  | some (.v d, M1) => (match fs env M1 with
    |some (.v ds,M2)=>some (.v (d::ds),M2)
    |some (.x c n,M2)=>some (.x c n,M2)
    |none=>none)
  |some (.x c n,M1)=>some (.x c n,M1)
  |none=>none
noncomputable def bQ (o:Option (ResA×Mm)) (k:List D->Mm->O):O:=match o with
 |some (.v ds,M)=>k ds M
 |some (.x c n,M)=>some (.x c n,M)
 |none=>none
theorem lE (h:bQ o k=some (r,M')):(∃ds M,o=some (.v ds,M)/\k ds M=some (r,M'))\/∃c n,o=some (.x c n,M')/\r=.x c n:=by
 unfold bQ at h;split at h
 ·exact .inl ⟨_,_,rfl,h⟩
 ·cases h;exact .inr ⟨_,_,rfl,rfl⟩
 ·cases h
noncomputable def bO (K:Fgx) (P:Pl) (H:Hp) (m:Mode):List D->List V->Prop
 | [],vs=>vs=[]
 |d::ds,vs=>∃v ws,vs=v::ws/\cg K P H m d v/\bO K P H m ds ws
theorem bO.iss {K:Fgx}{P:Pl}{H:Hp}:∀{ds:List D} {vs:List V},bO K P H .val ds vs->au K P H ds vs
  | [],_,h=>h
  |_::_,_,h=>by
    obtain⟨v,ws,e,p,q⟩:=h;exact⟨v,ws,e,p,bO.iss q⟩
noncomputable def AQ (K:Fgx) (mg:Mgx) (Wx:XW) (m:Mode) (P0:Pl) (H0:Hp) (P:Pl) (H:Hp) (M':Mm) (Q:List V->Hp->Prop):ResA->Prop
 |.v ds=>∀P' vs H',LtE P H P' H'->Hk K mg P' H' M'->bO K P' H' m ds vs->Q vs H'
 |.x c n=>Wx P0 H0 M' c n
noncomputable def Py (K:Fgx) (mg:Mgx) (Wx:XW) (m:Mode) (fs:EA):TA:=fun st H Q=>∃P0 H0 P Os env M r M',Ok K mg P0 H0 P Os H M st env/\fs env M=some (r,M')/\AQ K mg Wx m P0 H0 P H M' Q r
def SA (X:Cx)(Wx:XW)(m:Mode)(es:List Expr)(fs:EA):Prop:=PA X es (Py X.K X.mg Wx m fs)
theorem Cg (h:PA X es t)(w:∀σ H Q,t' σ H Q->t σ H Q):PA X es t':=fun pos pins s σ H Q I hw=>h pos pins s σ H Q I (w σ H Q hw)
theorem aN:SA X Wx m [] ak:=by
 refine Cg yr ?_;rintro st H Q ⟨P0,H0,P,Os,env,M,r,M',k,e,q⟩;cases e;exact q P [] H (LtE.refl P H) k.hk rfl
theorem aJ (ha:SE X Wx m e f)(hr:SA X Wx m es fs)(hs:starEach (e::es) X.env=(false,eval e X.env)::starEach es X.env:=by rfl):SA X Wx m (e::es) (aC f fs):=by
 refine Cg (tU ha hr hs) ?_;rintro st H Q ⟨P0,H0,P,Os,env,M,r,M',k,e,q⟩;unfold aC at e;split at e
 ·rename_i d M1 e1;refine aW k e1 fun P1 v1 H1 l1 h1 i1=>?_;split at e
  ·rename_i ds M2 e2;cases e;refine⟨P0,H0,P1,Os,env,M1,_,_,k.next l1 h1,e2,fun P2 vs H2 l2 h2 i2=>q P2 _ H2 (l1.trans l2) h2 ⟨v1,vs,rfl,?_,i2⟩⟩
   cases m with
   |val=>exact Is.lt (l2.lt h1) i1
   |bor=>exact bW.lt l2 h1 i1
  ·rename_i c n M2 e2;cases e;exact⟨P0,H0,P1,Os,env,M1,_,_,k.next l1 h1,e2,q⟩
  ·cases e
 ·rename_i c n M1 e1;cases e;exact aW k e1 q
 ·cases e
noncomputable def sN (o:List D->Option D) (fs:EA):E:=fun env M=>bQ (fs env M) fun ds M1=>(o (ds.map (vw M1))).map fun z=>(.v z,M1)
noncomputable def lu (K:Fgx) (P:Pl) (H:Hp):List D->List V->Prop
 | [],vs=>vs=[]
 |d::ds,vs=>∃v ws,vs=v::ws/\aX K P H d v/\lu K P H ds ws
theorem bO.w {K:Fgx}{mg:Mgx}{P:Pl}{H:Hp}{M:Mm}(h:Hk K mg P H M):∀{ds:List D} {vs:List V},bO K P H m ds vs->lu K P H (ds.map (vw M)) vs
  | [],_,q=>q
  |d::ds,_,q=>by
    obtain⟨v,ws,e,p,q⟩:=q;exact⟨v,ws,e,bW.vw h (p.b h),bO.w h q⟩
def fX (K:Fgx)(r:List V->Hp->VK->Prop)(o:List D->Option D):Prop:=∀(P:Pl) (H:Hp) (ds:List D) (z:D) (vs:List V) (Q:VK),o ds=some z->lu K P H ds vs->(∀p,H p=none->¬ P.bd p)->(∀u H',Same H H'->Is K P H' z u->Q u H')->r vs H Q
theorem Dp (h:∀t,PA X (e::es) t->PE X ex (zx r t))(po:fX X.K r o)(ha:SA X Wx .bor (e::es) fs):SE X Wx m ex (sN o fs):=by
 refine bV (h _ ha) ?_;rintro st H Q ⟨P0,H0,P,Os,env,M,r,M',k,e,q⟩;unfold sN at e;rcases lE e with⟨ds,M1,e1,e⟩ |⟨c,n,e1,rfl⟩
 ·rw[RM]at e;obtain⟨z,ez,e⟩:=e;cases e;exact⟨P0,H0,P,Os,env,M,_,_,k,e1,fun P1 vs H1 l1 h1 i1=>po P1 H1 _ z vs Q ez (bO.w h1 i1) h1.new fun u H' s i=>q P1 u H' (l1.trans (LtE.same s)) (h1.same s) (cg.of (h1.same s) i)⟩
 ·exact⟨P0,H0,P,Os,env,M,_,_,k,e1,q⟩
noncomputable def bx (fs:EA):E:=fun env M=>bQ (fs env M) fun ds M1=>if ds.length<=sizeLine then some (.v (.tup ds),M1) else none
theorem gn {es:List Expr}{x1:Nat}{pos:Pos}{fs:EA}(ha:SA X Wx .val es fs):SE X Wx m (.Tuple es x1 pos) (bx fs):=by
 refine bV (Kc ha) ?_;rintro st H Q ⟨P0,H0,P,Os,env,M,r,M',k,e,q⟩;unfold bx at e;rcases lE e with⟨ds,M1,e1,e⟩ |⟨c,n,e1,rfl⟩
 ·split at e
  ·rename_i hl;cases e;refine⟨P0,H0,P,Os,env,M,_,_,k,e1,fun P1 vs H1 l1 h1 i1=>⟨by rw[i1.iss.len];exact hl,fun p hp=>?_⟩⟩;have s:=mK (o:=.tup vs) hp;exact q P1 _ _ (l1.trans (LtE.same s)) (h1.same s) (cg.of (h1.same s) ⟨p,vs,rfl,.inl (.inl cH),au.lt ((LtE.same s).lt h1) i1.iss⟩)
  ·cases e
 ·exact⟨P0,H0,P,Os,env,M,_,_,k,e1,q⟩
noncomputable def NQ (K:Fgx) (mg:Mgx) (Wx:XW) (P0:Pl) (H0:Hp) (P:Pl) (H:Hp) (M':Mm) (Q:VK):Res->Prop
 |.v d=>∃ds,d=.lst ds/\∀P' a vs H',LtE P H P' H'->Hk K mg P' H' M'->H a=none->P'.bd a->(∀k,k<P'.n->P'.io k≠a)->H' a=some (.lst vs)->au K P' H' ds vs->Q (.ref a) H'
 |.x c n=>Wx P0 H0 M' c n
noncomputable def tN (K:Fgx) (mg:Mgx) (Wx:XW) (f:E):TE:=fun st H Q=>∃P0 H0 P Os env M r M',Ok K mg P0 H0 P Os H M st env/\f env M=some (r,M')/\NQ K mg Wx P0 H0 P H M' Q r
def SN (X:Cx)(Wx:XW)(e:Expr)(f:E):Prop:=PE X e (tN X.K X.mg Wx f)
def Pl.bar (P:Pl)(p:Addr):Pl:={P with bd:=fun a=>P.bd a\/a=p}
theorem sI {K:Fgx}{mg:Mgx}{P:Pl}{H:Hp}{M:Mm}{p:Addr}{vs:List V}(h:Hk K mg P H M)(hp:H p=none):LtE P H (P.bar p) (upd H p (.lst vs))/\Hk K mg (P.bar p) (upd H p (.lst vs)) M/\∀k,k<P.n->P.io k≠p:=by
  have s:=mK (o:=.lst vs) hp;have nc:∀k,k<P.n->P.io k≠p:=fun k hk z=>h.here _ (h.bd k hk) (z ▸ hp);have l:LtE P H (P.bar p) (upd H p (.lst vs)):=⟨RN _,fun _ _=>rfl,fun a z=>Or.imp (fun q=>q) (fun(q:a=p)=>by rw[q];exact hp) z,fun a z=>.inl z,fun a o e _=>s a o e,fun a z=>s.free z,fun k h1 h2=>absurd h1 (Vu.mpr h2)⟩;have lt:=l.lt h;refine⟨l,⟨h.n,fun k c e=>?_,h.inj,fun k hk=>.inl (h.bd k hk),fun a z q=>?_⟩,nc⟩
  · have:=h.cell k c e
    cases c with
    |lst ds=>
      obtain⟨vs,e1,q⟩:=this;exact⟨vs,s _ _ e1,au.lt lt q⟩
    |obj c fs=>
      obtain⟨C,dx,gs,e1,e2,e3,q⟩:=this;exact⟨C,dx,gs,e1,s _ _ e2,e3,au.lt lt q⟩
    |dct kvs=>
      obtain⟨vs,e1,e2,q⟩:=this;exact⟨vs,s _ _ e1,e2,au.lt lt q⟩
    |dcf kvs=>
      obtain⟨vs,ob,es,ep,e1,eD,e2,q⟩:=this;exact⟨vs,ob,es,ep,s _ _ e1,eD,e2,au.lt lt q⟩
  · rcases z with z |z
    · exact h.here a z (s.free q)
    · subst z;rw[cH]at q;cases q
theorem SN.se (h:SN X Wx e f)(hf:∀env M r M',f env M=some (.v r,M')->∃ds,r=.lst ds):SE X Wx .val e f:=by
  refine bV h ?_;rintro st H Q ⟨P0,H0,P,Os,env,M,r,M',k,e,q⟩;refine⟨P0,H0,P,Os,env,M,r,M',k,e,?_⟩
  cases r with
  |x c n=>exact q
  |v d=>
    obtain⟨ds,rfl⟩:=hf _ _ _ _ e;refine⟨ds,rfl,fun P' a vs H' l h ha ba nc ea is=>q (P'.less (· ≠a)) _ H' ?_ ?_ ⟨a,vs,rfl,.inl ⟨fun z=>z.2 rfl,.inl ea⟩,au.less is⟩⟩
    · exact⟨l.n,l.io,fun b z=>l.bd b z.1,fun b z=>⟨l.bm b z,fun q=>k.hk.here b z (q ▸ ha)⟩,l.keep,l.sure,l.nw⟩
    · refine⟨h.n,fun j c e=>?_,h.inj,fun j hj=>⟨h.bd j hj,nc j hj⟩,fun b z=>h.here b z.1⟩;have:=h.cell j c e
      cases c with
      |lst ds=>
        obtain⟨vs,e1,q⟩:=this;exact⟨vs,e1,au.less q⟩
      |obj c fs=>
        obtain⟨C,dx,gs,e1,e2,e3,q⟩:=this;exact⟨C,dx,gs,e1,e2,e3,au.less q⟩
      |dct kvs=>
        obtain⟨vs,e1,e2,q⟩:=this;exact⟨vs,e1,e2,au.less q⟩
      |dcf kvs=>
        obtain⟨vs,ob,es,ep,e1,eD,e2,q⟩:=this;exact⟨vs,ob,es,ep,e1,eD,e2,au.less q⟩
noncomputable def aR (fs:EA):E:=fun env M=>bQ (fs env M) fun ds M1=>if ds.length<=sizeLine then some (.v (.lst ds),M1) else none
theorem eV {es:List Expr}{pos:Pos}{fs:EA}(ha:SA X Wx .val es fs):SN X Wx (.List es pos) (aR fs):=by
 refine bV (J4 ha) ?_;rintro st H Q ⟨P0,H0,P,Os,env,M,r,M',k,e,q⟩;unfold aR at e;rcases lE e with⟨ds,M1,e1,e⟩ |⟨c,n,e1,rfl⟩
 ·split at e
  ·rename_i hl;cases e;obtain⟨ds',e',q⟩:=q;cases e';refine⟨P0,H0,P,Os,env,M,_,_,k,e1,fun P1 vs H1 l1 h1 i1=>⟨by rw[i1.iss.len];exact hl,fun p hp=>?_⟩⟩;obtain⟨l2,h2,nc⟩:=sI (vs:=vs) h1 hp;exact q (P1.bar p) p vs _ (l1.trans l2) h2 (l1.sure p hp) (.inr rfl) nc cH (au.lt (l2.lt h1) i1.iss)
  ·cases e
 ·exact⟨P0,H0,P,Os,env,M,_,_,k,e1,q⟩
theorem lst_is:∀env M r M',aR fs env M=some (.v r,M')->∃ds,r=.lst ds:=fun env M r M' e=>by
 unfold aR at e;rcases lE e with⟨ds,M1,e1,e⟩ |⟨c,n,e1,e⟩
 ·split at e
  ·cases e;exact⟨_,rfl⟩
  ·cases e
 ·cases e
end
inductive Out where
 |nx (env:Env) |bk (env:Env) |ct (env:Env) |rt (d:D) |ex (c:Str) (n:Int)
abbrev OS:=Option (Out×Mm)
abbrev S:=Env->Mm->OS
noncomputable def Post (K:Fgx) (mg:Mgx) (Wx:XW) (P0:Pl) (H0:Hp) (P:Pl) (H:Hp) (M':Mm) (D:Ends):Out->Prop
 |.nx env=>∀P' Os' H' st',Lt P H P' H'->Ok K mg P0 H0 P' Os' H' M' st' env->D.nx st' H'
 |.bk env=>∀P' Os' H' st',Lt P H P' H'->Ok K mg P0 H0 P' Os' H' M' st' env->D.bk st' H'
 |.ct env=>∀P' Os' H' st',Lt P H P' H'->Ok K mg P0 H0 P' Os' H' M' st' env->D.ct st' H'
 |.rt d=>∀P' v H',LtE P0 H0 P' H'->Hk K mg P' H' M'->Is K P' H' d v->D.rt v H'
 |.ex c n=>Wx P0 H0 M' c n
noncomputable def tS (K:Fgx) (mg:Mgx) (Wx:XW) (f:S):TS:=fun D st H=>∃P0 H0 P Os env M out M',Ok K mg P0 H0 P Os H M st env/\f env M=some (out,M')/\Post K mg Wx P0 H0 P H M' D out
def SS (X:Cx)(Wx:XW)(s:Stmt)(f:S):Prop:=PS X s (tS X.K X.mg Wx f)
def SB (X:Cx)(Wx:XW)(s:List Stmt)(f:S):Prop:=dM X s (tS X.K X.mg Wx f)
noncomputable def bC (o:O) (k:D->Mm->OS):OS:=match o with
 |some (.v d,M)=>k d M
 |some (.x c n,M)=>some (.ex c n,M)
 |none=>none
theorem gK (h:bC o k=some (r,M')):(∃d M,o=some (.v d,M)/\k d M=some (r,M'))\/∃c n,o=some (.x c n,M')/\r=.ex c n:=by
 unfold bC at h;split at h
 ·exact .inl ⟨_,_,rfl,h⟩
 ·cases h;exact .inr ⟨_,_,rfl,rfl⟩
 ·cases h
section
variable {K:Fgx}{mg:Mgx}{Wx:XW}{P0 P P' P1:Pl}{H0 H H' H1:Hp}{M M':Mm}{Os:List (Option Addr)}{st:L2.St}{env:Env}{d:D}{v:V}{i:Nat}
theorem Dt (l:List (Option α))(i j:Nat)(x:Option α)(hi:i<l.length):((l.set i x)[j]?).join=if i=j then x else(l[j]?).join:=by
 rw[Ur]
 by_cases h:i=j
 ·subst h;rw[RW rfl,RW hi,RW rfl];rfl
 ·rw[R5 h,R5 h]
theorem Ok.asg (k:Ok K mg P0 H0 P Os H M st env)(hi:i<env.length)(h:Is K P H d v):Ok K mg P0 H0 P (Os.set i none) H M (st.set i (some v)) (env.set i (.val d)) where
 hk:=k.hk
 base:=k.base
 b0:=k.b0
 slot:=fun j s e=>by
  rw[Dt _ _ _ _ (by rw[k.olen];exact hi),Dt _ _ _ _ (by rw[k.slen];exact hi)];rw[Ur]at e;split at e
  ·rename_i ij;subst ij;cases e;rw[RW rfl,RW rfl];exact⟨v,rfl,h⟩
  ·rename_i ij;rw[R5 ij,R5 ij];exact k.slot j s e
 own := fun a h => k.own a (by
  rcases Vc h with h |h
  ·exact h
  ·cases h)
 inj:=fun j l a e1 e2=>by
  rw[Ur]at e1 e2;split at e1
  ·split at e1<;>cases e1
  ·split at e2
   ·split at e2<;>cases e2
   ·exact k.inj j l a e1 e2
 olen:=by rw[Tn,Tn,k.olen]
 slen:=by rw[Tn,Tn,k.slen]
theorem sX (b : P.bd a) (e : H a = some o) (nf : ¬ Fx o) : Lt P H P (upd H a o') := ⟨RN _,fun _ _=>rfl,fun _ z=>.inl z,fun c u ec z=>by
  by_cases h:c=a
  ·subst h;rw[e]at ec;cases ec;exact(z.elim nf fun n=>n b).elim
  ·rw[aZ h];exact ec,fun c z=>by
  by_cases h:c=a
  ·subst h;rw[cH]at z;cases z
  ·rw[aZ h]at z;exact z⟩
theorem BX:¬ Fx (.lst vs):=fun z=>by rcases z with⟨_,z⟩ |⟨_,_,z⟩ |⟨_,z⟩ |⟨_,z⟩<;>cases z
theorem HF:¬ Fx (.ins C dx gs):=fun z=>by rcases z with⟨_,z⟩ |⟨_,_,z⟩ |⟨_,z⟩ |⟨_,z⟩<;>cases z
theorem mW.lt (l:Lt P H P' H')(e:∀o,H a=some o->H' a=some o)(h:mW K mg P H a c):mW K mg P' H' a c:=by
  cases c with
  |lst ds=>
    obtain⟨vs,e1,q⟩:=h;exact⟨vs,e _ e1,au.lt l q⟩
  |obj c fs=>
    obtain⟨C,dx,gs,e1,e2,e3,q⟩:=h;exact⟨C,dx,gs,e1,e _ e2,e3,au.lt l q⟩
  |dct kvs=>
    obtain⟨vs,e1,e2,q⟩:=h;exact⟨vs,e _ e1,e2,au.lt l q⟩
  |dcf kvs=>
    obtain⟨vs,ob,es,ep,e1,eD,e2,q⟩:=h;exact⟨vs,ob,es,ep,e _ e1,eD,e2,au.lt l q⟩
theorem Hk.set (h:Hk K mg P H M)(e:M[j]? =some c)(w:mW K mg P (upd H (P.io j) o') (P.io j) c')(nd:∀kvs,c≠ .dcf kvs:=by intro _ z;cases z):Lt P H P (upd H (P.io j) o')/\LtE P H P (upd H (P.io j) o')/\Hk K mg P (upd H (P.io j) o') (M.set j c'):=by
 have jl:j<P.n:=by rw[h.n];exact(RX.mp e).1
 obtain ⟨o, eo, nf⟩ := h.cellAt e nd;have l : Lt P H P (upd H (P.io j) o') := sX (h.bd j jl) eo nf;refine ⟨l, ⟨RN _,fun _ _=>rfl,fun _ z=>.inl z,fun _ z=>z,fun a u ea n=>by
  have ne:a≠P.io j:=by
   rintro rfl;rw[eo]at ea;cases ea;exact n.elim nf fun nc=>nc j jl rfl
  rw[aZ ne];exact ea,l.sure,fun k h1 h2=>absurd h1 (Vu.mpr h2)⟩,⟨by rw[Tn,h.n],fun k b ek=>?_,h.inj,h.bd,fun a z q=>h.here a z (l.sure a q)⟩⟩
 rw[Ur]at ek;split at ek
 ·rename_i jk;subst jk;rw[RW (by rw[<-h.n];exact jl)]at ek;cases ek;exact w
 ·rename_i jk;have kl:k<P.n:=by rw[h.n];exact(RX.mp ek).1
  exact(h.cell k b ek).lt l fun u eu=>by rw[aZ (fun z=>jk (h.inj j k jl kl z.symm))];exact eu
end
section
variable {X:Cx}{Wx:XW}{pos:Pos}
theorem kh (h:PS X s t)(w:∀D σ H,t' D σ H->t D σ H):PS X s t':=fun pins s σ H D I hw=>h pins s σ H D I (w D σ H hw)
theorem Cr (h:dM X s t)(w:∀D σ H,t' D σ H->t D σ H):dM X s t':=fun pins s σ H D I hw=>h pins s σ H D I (w D σ H hw)
def aA:S:=fun env M=>some (.nx env,M)
noncomputable def aq (f g:S):S:=fun env M=>match f env M with
 |some (.nx e,M1)=>g e M1
 |o=>o
theorem aL:SB X Wx [] aA:=by
 refine Cr KD ?_;rintro D st H ⟨P0,H0,P,Os,env,M,out,M',k,e,q⟩;cases e;exact q P Os H st (Lt.refl P H) k
theorem Post.lt {K:Fgx}{mg:Mgx}{P0 P P1:Pl}{H0 H H1:Hp}{M':Mm}{D:Ends}{o:Out}(l:Lt P H P1 H1)(q:Post K mg Wx P0 H0 P H M' D o):Post K mg Wx P0 H0 P1 H1 M' D o:=by
 cases o with
 |nx env=>exact fun P' Os' H' st' l' k=>q P' Os' H' st' (l.trans l') k
 |bk env=>exact fun P' Os' H' st' l' k=>q P' Os' H' st' (l.trans l') k
 |ct env=>exact fun P' Os' H' st' l' k=>q P' Os' H' st' (l.trans l') k
 |rt d=>exact q
 |ex c n=>exact q
theorem aG (h1:SS X Wx s f)(h2:SB X Wx ss g):SB X Wx (s::ss) (aq f g):=by
  refine Cr (KC h1 h2) ?_;rintro D st H ⟨P0,H0,P,Os,env,M,out,M',k,e,q⟩;unfold aq at e;split at e
  · rename_i e1 M1 ef;refine⟨P0,H0,P,Os,env,M,_,_,k,ef,fun P1 Os1 H1 st1 l1 k1=>?_⟩;exact⟨P0,H0,P1,Os1,e1,M1,_,_,k1,e,q.lt l1⟩
  · rename_i o ho
    cases ef:f env M with
    |none=>rw[ef]at e;cases e
    |some om=>
      obtain⟨o1,M1⟩:=om;rw[ef]at e;cases e;refine⟨P0,H0,P,Os,env,M,_,_,k,ef,?_⟩
      cases out with
      |nx env'=>exact(ho _ _ ef).elim
      |bk env'=>exact q
      |ct env'=>exact q
      |rt d=>exact q
      |ex c n=>exact q
noncomputable def bw (i:Nat) (f:E):S:=fun env M=>bC (f env M) fun d M1=>if i<env.length then some (.nx (env.set i (.val d)),M1) else none
theorem eX (hN:X.N.Nodup)(hi:X.N[i]? =some x)(hx:Loc X.env.scope x)(he:SE X Wx .val e f)(hs:swapsWith e (some (.Name x pos')) pos.line X.env=pure false:=by rfl)
  (hf:X.fn x=true\/X.env.scope.names.lookup x=some .local:=by first |exact .inl rfl |exact .inr rfl):SS X Wx (.Assign [.Name x pos'] e pos) (bw i f):=by
 refine kh (Kz hN hi hx he hs hf) ?_;rintro D st H ⟨P0,H0,P,Os,env,M,out,M',k,e,q⟩;unfold bw at e;rcases gK e with⟨d,M1,e1,e⟩ |⟨c,n,e1,rfl⟩
 ·split at e
  ·rename_i hl;cases e;exact⟨P0,H0,P,Os,env,M,_,_,k,e1,fun P1 v1 H1 l1 h1 i1=>q _ _ _ _ (l1.lt k.hk) ((k.next l1 h1).asg hl i1)⟩
  ·cases e
 ·exact⟨P0,H0,P,Os,env,M,_,_,k,e1,q⟩
def aK (f:E):S:=fun env M=>bC (f env M) fun d M1=>some (.rt d,M1)
theorem bF (he:SE X Wx .val e f):SS X Wx (.Return (some e) pos) (aK f):=by
 refine kh (Ky he) ?_;rintro D st H ⟨P0,H0,P,Os,env,M,out,M',k,e,q⟩;unfold aK at e;rcases gK e with⟨d,M1,e1,e⟩ |⟨c,n,e1,rfl⟩
 ·cases e;exact⟨P0,H0,P,Os,env,M,_,_,k,e1,fun P1 v1 H1 l1 h1 i1=>q P1 v1 H1 (k.base.trans l1) h1 i1⟩
 ·exact⟨P0,H0,P,Os,env,M,_,_,k,e1,q⟩
noncomputable def bT (c:E) (f g:S):S:=fun env M=>bC (c env M) fun d M1=>match d with
 |.bl b=>if b=true then f env M1 else g env M1
 |_=>none
theorem cu (hc:ST X Wx c t)(ha:SB X Wx a f)(hb:SB X Wx b g):SS X Wx (.If c a b pos) (bT t f g):=by
  refine kh (Kw hc ha hb) ?_;rintro D st H ⟨P0,H0,P,Os,env,M,out,M',k,e,q⟩;unfold bT at e;rcases gK e with⟨d,M1,e1,e⟩ |⟨c,n,e1,rfl⟩
  · cases d<;>simp only[reduceCtorEq]at e
    rename_i b;refine iw k e1 ⟨b,rfl,fun P1 H1 l1 h1=>?_⟩
    cases b with
    |true=>
      rw[RW rfl]at e ⊢;exact⟨P0,H0,P1,Os,env,M1,_,_,k.next l1 h1,e,q.lt (l1.lt k.hk)⟩
    |false=>
      rw[R5 (by decide)]at e ⊢;exact⟨P0,H0,P1,Os,env,M1,_,_,k.next l1 h1,e,q.lt (l1.lt k.hk)⟩
  · exact iw k e1 q
def Wk (K:Fgx)(P1:Pl)(H1:Hp)(J:It)(ds:List D):Prop:=∀P H,Lt P1 H1 P H->(∀k,k<ds.length->J.go k H)/\(∀k,ds.length<=k->k<=ds.length->J.stop k H)/\∀k x H',J.yld k H x H'->k<ds.length->H'=H/\∃d,ds[k]? =some d/\Is K P H d x
noncomputable def IQ (K:Fgx) (mg:Mgx) (Wx:XW) (P0:Pl) (H0:Hp) (P:Pl) (H:Hp) (M':Mm) (R:It->Hp->Prop):ResA->Prop
 |.v ds=>∀P' H' J,LtE P H P' H'->Hk K mg P' H' M'->Wk K P' H' J ds->R J H'
 |.x c n=>Wx P0 H0 M' c n
noncomputable def tI (K:Fgx) (mg:Mgx) (Wx:XW) (fs:EA):TI:=fun st H R=>∃P0 H0 P Os env M r M',Ok K mg P0 H0 P Os H M st env/\fs env M=some (r,M')/\IQ K mg Wx P0 H0 P H M' R r
def SI (X:Cx)(Wx:XW)(tg iter:Expr)(fs:EA):Prop:=PI X tg iter (tI X.K X.mg Wx fs)
theorem Ck (h:PI X tg iter t)(w:∀σ H R,t' σ H R->t σ H R):PI X tg iter t':=fun pins s σ H R I hw=>h pins s σ H R I (w σ H R hw)
noncomputable def loopS (i:Nat) (body:S):List D->Env->Mm->OS
  | [],env,M=>some (.nx env,M)
  | d :: ds, env, M => if i < env.length then (match body (env.set i (.val d)) M with
    |some (.nx e,M1)=>loopS i body ds e M1
    |some (.ct e,M1)=>loopS i body ds e M1
    |some (.bk e,M1)=>some (.nx e,M1)
    |some (.rt d,M1)=>some (.rt d,M1)
    |some (.ex c n,M1)=>some (.ex c n,M1)
    |none=>none) else none
noncomputable def fQ (i:Nat) (fs:EA) (body:S):S:=fun env M=>match fs env M with
 |some (.v ds,M1)=>loopS i body ds env M1
 |some (.x c n,M1)=>some (.ex c n,M1)
 |none=>none
theorem Hs {K:Fgx}{mg:Mgx}{P0 P1:Pl}{H0 H1:Hp}{Os:List (Option Addr)}{M M':Mm}{st:L2.St}{env:Env}{i:Nat}{b:S}{J:It}{ds:List D}{out:Out}{D:Ends}(k:Ok K mg P0 H0 P1 Os H1 M st env)(wk:Wk K P1 H1 J ds)
  (h:loopS i b ds env M=some (out,M')) (q:Post K mg Wx P0 H0 P1 H1 M' D out):
  ∃W:Nat->Nat->L2.St->Hp->Prop,(∃m,W 0 m st H1)/\∀j m σ H,W j m σ H->
   (J.stop j H/\D.nx σ H)\/(J.go j H/\∃Nn:L2.St->Hp->Prop,(∀σ' H',Nn σ' H'->∃m',m'<m/\W (j + 1) m' σ' H')/\∀x H',J.yld j H x H'->wW i x σ H' fun σ2 H2=>tS K mg Wx b {D with nx:=Nn,ct:=Nn,bk:=D.nx} σ2 H2):=by
 refine⟨fun j m σ H=>m=ds.length - j/\j<=ds.length/\∃P Os' M1 env',Lt P1 H1 P H/\Ok K mg P0 H0 P Os' H M1 σ env'/\loopS i b (ds.drop j) env' M1=some (out,M'),⟨ds.length,by simp,Ud _,P1,Os,M,env,Lt.refl _ _,k,h⟩,?_⟩;rintro j m σ H ⟨rfl,hj,P,Os',M1,env',lt,k',h'⟩;obtain⟨w1,w2,w3⟩:=wk P H lt
 by_cases hlt:j<ds.length
 ·refine .inr ⟨w1 j hlt,fun σ' H'=>∃P Os' M1 env',Lt P1 H1 P H'/\Ok K mg P0 H0 P Os' H' M1 σ' env'/\loopS i b (ds.drop (j + 1)) env' M1=some (out,M'),fun σ' H' z=>⟨ds.length - (j + 1),by omega,rfl,hlt,z⟩,fun x H' y=>?_⟩;obtain⟨e3,d,ed,iv⟩:=w3 j x H' y hlt;subst e3;have ed':ds.drop j=d::ds.drop (j + 1):=by
   rw[Uj hlt];rw[RV hlt]at ed;rw[R0 ed]
  rw[ed']at h';simp only[loopS]at h';split at h'
  ·rename_i hi;have k2:=k'.asg hi iv;split at h'
   ·rename_i e M2 eb;exact⟨P0,H0,P,_,_,M1,_,_,k2,eb,fun P' Os2 H2 st2 l2 k3=>⟨P',Os2,_,e,lt.trans l2,k3,h'⟩⟩
   ·rename_i e M2 eb;exact⟨P0,H0,P,_,_,M1,_,_,k2,eb,fun P' Os2 H2 st2 l2 k3=>⟨P',Os2,_,e,lt.trans l2,k3,h'⟩⟩
   ·rename_i e M2 eb;cases h';exact⟨P0,H0,P,_,_,M1,_,_,k2,eb,fun P' Os2 H2 st2 l2 k3=>q P' Os2 H2 st2 (lt.trans l2) k3⟩
   ·rename_i e M2 eb;cases h';exact⟨P0,H0,P,_,_,M1,_,_,k2,eb,q⟩
   ·rename_i c n M2 eb;cases h';exact⟨P0,H0,P,_,_,M1,_,_,k2,eb,q⟩
   ·cases h'
  ·cases h'
 ·have ej:j=ds.length:=by omega
  subst ej;rw[Us]at h';cases h';exact .inl ⟨w2 _ (RN _) (RN _),q P Os' H σ lt k'⟩
theorem Dy (hp:PassesOwn (model X.prog X.w) X.A X.env X.xe)(hc:X.calm=true)(hN:X.N.Nodup)(hi:X.N[i]? =some x)(hx:Loc X.env.scope x)(hI:SI X Wx (.Name x p) iter fs)(hb:SB X Wx body b)
  (hf:X.fn x=true\/X.env.scope.names.lookup x=some .local:=by first |exact .inl rfl |exact .inr rfl) (hs:∀x,foldedSetIterable iter X.env x=pure x:=by intro _;rfl):SS X Wx (.For (.Name x p) iter body [] pos) (fQ i fs b):=by
 refine kh (Kv hp hc hI (Ke hN hi hx hf) hb hs) ?_;rintro D st H ⟨P0,H0,P,Os,env,M,out,M',k,e,q⟩;unfold fQ at e;split at e
 ·rename_i ds M1 ef;exact⟨P0,H0,P,Os,env,M,_,_,k,ef,fun P1 H1 J l1 h1 wk=>Hs (k.next l1 h1) wk e (q.lt (l1.lt k.hk))⟩
 ·rename_i c n M1 ef;cases e;exact⟨P0,H0,P,Os,env,M,_,_,k,ef,q⟩
 ·cases e
noncomputable def dG (f:E):EA:=fun env M=>match f env M with
 |some (.v (.lst ds),M1)=>some (.v ds,M1)
 |some (.x c n,M1)=>some (.x c n,M1)
 |_=>none
theorem vo (h:SE X Wx .val e f):SI X Wx tg e (dG f):=by
 refine Ck (Kg h) ?_;rintro st H R ⟨P0,H0,P,Os,env,M,r,M',k,e,q⟩;unfold dG at e;split at e
 ·rename_i ds M1 ef;cases e;refine⟨P0,H0,P,Os,env,M,_,_,k,ef,fun P1 v1 H1 l1 h1 i1=>?_⟩;obtain⟨a,vs,rfl,ra,is⟩:=i1;refine⟨a,rfl,⟨vs,ra.imp (·.2) id⟩,q P1 H1 _ l1 h1 fun P2 H2 l2=>?_⟩;have ra2:=l2.rda ra;have is2:=au.lt l2 is;have sq:bf X.K H2 a vs:=ra2.imp (·.2) id;refine⟨fun j hj=>?_,fun j h1 h2=>⟨vs,sq,by rw[is2.len];exact h1⟩,fun j x H' y hj=>⟨y.1,?_⟩⟩
  ·obtain⟨v,ev,_⟩:=au.get is2 (RV hj);exact⟨vs,v,sq,ev⟩
  ·obtain⟨v,ev,iv⟩:=au.get is2 (RV hj);have:=y.2 vs sq;rw[ev]at this;cases this;exact⟨_,RV hj,iv⟩
 ·rename_i c n M1 ef;cases e;exact⟨P0,H0,P,Os,env,M,_,_,k,ef,q⟩
 ·cases e
end
abbrev G:=List D->Mm->O
noncomputable def iu (K:Fgx) (mg:Mgx) (n:Nat) (g:G):Sp:=fun vs H Q _=>vs.length=n/\∃P M ds d M',Hk K mg P H M/\au K P H ds vs/\g ds M=some (.v d,M')/\∀P' v H',LtE P H P' H'->Hk K mg P' H' M'->Is K P' H' d v->Q v H'
noncomputable def cO (o:OS):O:=match o with
 |some (.rt d,M)=>some (.v d,M)
 |some (.nx _,M)=>some (.v .non,M)
 |some (.ex c n,M)=>some (.x c n,M)
 |_=>none
noncomputable def b_ (n:Nat) (b:S):G:=fun ds M=>cO (b (ds.map .val ++ List.replicate (n - ds.length) .un) M)
theorem Pq {K:Fgx}{mg:Mgx}{P:Pl}{H:Hp}{M:Mm}{N:List Str}{ds:List D}{vs:List V}(hk:Hk K mg P H M)(hl:vs.length<=N.length)(h:au K P H ds vs):
  Ok K mg P H P (List.replicate N.length none) H M (L2.start N vs) (ds.map .val ++ List.replicate (N.length - ds.length) .un):=by
 have hd:=h.len;refine⟨hk,LtE.refl P H,hk.here,fun i s e=>?_,fun a z=>?_,fun i j a e1 _=>?_,by simp;omega,by simp[L2.start];omega⟩
 ·have e0:((List.replicate N.length (none:Option Addr))[i]?).join=none:=by
   rw[TV]
   split<;>rfl
  rw[e0]
  by_cases hi:i<ds.length
  ·rw[Tc (by simpa using hi),R7,RV hi]at e;simp only[Ug,Option.some.injEq]at e;subst e;obtain⟨v,ev,p⟩:=h.get (RV hi);refine⟨v,?_,p⟩;unfold L2.start;rw[Tc (by rw[R3];omega),R7,ev];rfl
  ·rw[S_ (by simpa using hi),TV]at e;split at e
   ·cases e;exact True.intro
   ·cases e
 ·exact absurd (List.eq_of_mem_replicate z) (by simp)
 ·rw[TV]at e1;split at e1<;>cases e1
structure FunD (K:Fgx)(x qual:Str)(st:Stmt)(f:Addr)(fd:FuncData):Prop where
 ex:∃(oc:Value) (od:Option Addr) (dV kV doc pm:Value) (an:Option Addr) (cdv ct:Value) (osl:Array (Option Value)),
  fd=PySem.W.fnOf x qual (bK st) (bA st) (aO st) dV kV doc pm an cdv ct/\K.lookup f=some ⟨oc,od,.func fd,osl⟩/\PySem.W.codeIn K cdv qual=true
 kp:PySem.W.keepIn K (.ref f)=true
theorem fH {K:Fgx}{x qual:Str}{st:Stmt}{f:Addr}{oc:Value}{od an:Option Addr}{osl:Array (Option Value)}{dV kV doc pm cdv ct:Value}(l:K.lookup f=some ⟨oc,od,.func (PySem.W.fnOf x qual (bK st) (bA st) (aO st) dV kV doc pm an cdv ct),osl⟩)
  (c:PySem.W.codeIn K cdv qual=true) (k:PySem.W.keepIn K (.ref f)=true):FunD K x qual st f (PySem.W.fnOf x qual (bK st) (bA st) (aO st) dV kV doc pm an cdv ct):=⟨⟨oc,od,dV,kV,doc,pm,an,cdv,ct,osl,rfl,l,c⟩,k⟩
section
variable {P:Program}{w:World}{K:Fgx}{mg:Mgx}{base:Heap}{k:Nat}{x qual:Str}{st:Stmt}{f:Addr}{fd:FuncData}{N ps:List Str}{b:S}
def W0:XW:=fun _ _ _ _ _=>False
abbrev nZ (P:Program)(w:World)(K:Fgx)(mg:Mgx)(base:Heap)(N:List Str)(qual:Str)(st:Stmt)(f:Addr)(cdv:Value)(A:Around)(outer:List PySem.Env)(s:Shared)(H:Hp)(E:XK):Cx:=(dX dJ P w K mg base N qual (aO st) f cdv A outer s H E).nox
theorem fG (F:FunD K x qual st f fd)(S:FnScope N ps (aO st))(hp:ps.length<=N.length)
  (hb:∀cdv A outer s H E,Room k (A.deeper (envOfC qual (aO st) s.heap.objs.size f cdv))->SB (nZ P w K mg base N qual st f cdv A outer s H E) W0 (bA st) b):FnOk P w K mg base dJ (k + 1) f fd ps (iu K mg ps.length (b_ N.length b)):=by
 obtain⟨oc,od,dV,kV,doc,pm,an,cdv,ct,osl,rfl,lk,hcd⟩:=F.ex;refine Gk lk hcd S (fun vs H Q E h=>h.1) fun A outer s H vs Q E hr h=>?_;obtain⟨hl,Pl,M,ds,d,M',hk,is,e,q⟩:=h;refine⟨_,dM.nox (hb cdv A outer s H E hr),?_⟩;unfold b_ cO at e;have st0:=Pq (N:=N) hk (by omega) is;split at e
 ·rename_i d' M2 eb;cases e;exact⟨Pl,H,Pl,_,_,M,_,_,st0,eb,fun P' v H' l h i=>q P' v H' l h i⟩
 ·rename_i env M2 eb;cases e;exact⟨Pl,H,Pl,_,_,M,_,_,st0,eb,fun P' Os' H' st' _ k'=>q P' .non H' k'.base k'.hk rfl⟩
 ·rename_i c n M2 eb;cases e
 ·cases e
def bH (P:Program)(w:World)(K:Fgx)(mg:Mgx)(base:Heap)(k:Nat)(f:Str)(n:Nat)(g:G):Prop:=
 ∃fa fd ps ds dvs sp,mg f=some (.ref fa)/\PySem.W.keepIn K (.ref fa)=true/\FnOk P w K mg base dJ k fa fd ps sp/\Binds K fd ps ds/\Vals dvs ds/\∀vs H Q E,iu K mg n g vs H Q E->sp (vs ++ dvs) H Q E
theorem Gj (F:FunD K x qual st f fd)(S:FnScope N ps (aO st))(hp:ps.length<=N.length)(hm:mg x=some (.ref f))(hd:Binds K fd ps [])
  (hb:∀cdv A outer s H E,Room k (A.deeper (envOfC qual (aO st) s.heap.objs.size f cdv))->SB (nZ P w K mg base N qual st f cdv A outer s H E) W0 (bA st) b):bH P w K mg base (k + 1) x ps.length (b_ N.length b):=
 ⟨f,fd,ps,[],[],_,hm,F.kp,fG F S hp hb,hd,.nil,fun vs H Q E h=>by rw[Ti];exact h⟩
theorem bH.mono (a:bH P w K mg base j x n g)(h:j<=k):bH P w K mg base k x n g:=by
 obtain⟨fa,fd,ps,ds,dvs,sp,h1,h2,h3,h4⟩:=a;exact⟨fa,fd,ps,ds,dvs,sp,h1,h2,h3.mono h,h4⟩
end
section
variable {X:Cx}{Wx:XW}{m:Mode}
noncomputable def eF (g:G) (fs:EA):E:=fun env M=>bQ (fs env M) fun ds M1=>match g ds M1 with
 |some (.v d,M2)=>some (.v d,M2)
 |_=>none
theorem bO.len {K:Fgx}{P:Pl}{H:Hp}:∀{ds:List D} {vs:List V},bO K P H m ds vs->vs.length=ds.length
  | [],_,h=>by rw[show _=[] from h];rfl
  |d::ds,_,h=>by
    obtain⟨v,r,e,_,q⟩:=h;subst e
    simp[bO.len q]
def mX (n:Nat)(fs:EA):Prop:=∀env M ds M',fs env M=some (.v ds,M')->ds.length=n
theorem cnt_nil:mX 0 ak:=fun env M ds M' e=>by cases e;rfl
theorem cnt_cons (h:mX n fs):mX (n + 1) (aC f fs):=fun env M ds M' e=>by
 unfold aC at e;split at e
 ·split at e
  ·rename_i ef;cases e;rw[Sw,h _ _ _ _ ef]
  ·cases e
  ·cases e
 ·cases e
 ·cases e
theorem gk {k n:Nat}{f:Str}{g:G}{e:Expr}{es:List Expr}{fs:EA}{p pos:Pos}(a:bH X.prog X.w X.K X.mg X.base k f n g)(hr:Room k X.A)(hg:Gl X f)(ha:SA X Wx .val (e::es) fs)(hn:mX n fs)(hdb:(f==("__debug__":Str))=false:=by x_go)
  (he:starEach (e::es) X.env=(false,eval e X.env)::starEach es X.env:=by rfl) (hpl:(backTo pos (starEach es X.env)).any (·.1)=false:=by rfl):SE X Wx m (.Call (.Name f p) (e::es) [] pos) (eF g fs):=by
 obtain⟨fa,fd,ps,ds,dvs,sp,hm,hk,F,hb,hv,himp⟩:=a;refine bV (JW F hr hg hm hk hb hv tV ha hdb he hpl) ?_;rintro st H Q ⟨P0,H0,P,Os,env,M,r,M',k,e,q⟩;unfold eF at e;rcases lE e with⟨ds,M1,e1,e⟩ |⟨c,n,e1,rfl⟩
 ·split at e
  ·rename_i d M2 eg;cases e;exact⟨P0,H0,P,Os,env,M,_,_,k,e1,fun P1 vs H1 l1 h1 i1=>himp _ _ _ _ ⟨by rw[i1.len];exact hn _ _ _ _ e1,P1,M1,ds,d,_,h1,i1.iss,eg,fun P2 v H2 l2 h2 i2=>q P2 v H2 (l1.trans l2) h2 (cg.of h2 i2)⟩⟩
  ·cases e
 ·exact⟨P0,H0,P,Os,env,M,_,_,k,e1,q⟩
end
def QW (i j:Int):Prop:=vN i j\/(i.natAbs.log2<10000/\j.natAbs.log2<10000)
section
variable {X:Cx}{pins:Pnx}{σ:L2.St}{H:Hp}{s:Shared}{K:Fgx}
noncomputable def Cz (K:Fgx):R2:=fun x y H Q=>∃l b xs zs,x=.ref l/\y=.ref b/\bf K H l xs/\bf K H b zs/\xs.length + zs.length<=sizeLine/\∀p,H p=none->Q (.ref p) (upd H p (.lst (xs ++ zs)))
theorem Js:aV X (binaryOp .Add) (Cz X.K):=by
 intro pins s σ H x y v u Q I rx ry h;obtain⟨l,b,xs,zs,rfl,rfl,hH,hB,hz,q⟩:=h;cases rx;cases ry;obtain⟨z,its,r,⟨cls,dd,data,sl⟩,ho,hc,n,hd⟩:=sql I hH;obtain⟨z2,its2,r2,⟨cls2,dd2,data2,sl2⟩,ho2,hc2,n2,hd2⟩:=sql I hB;simp only at hc hd hc2 hd2;subst hc hd hc2 hd2;have hl:=r.length;have hl2:=r2.length;refine concat_meets ⟨_,ho,rfl⟩ ⟨_,ho2,rfl⟩ noFill_list_add seq_list_add F.slot_list_add F.entry_list_add (F.args_list_add_2 _ _) (list_addW l b its.toArray its2.toArray n n2 dd dd2 sl sl2 (by rw[tG,tG];omega)) ⟨ho,ho2,?_⟩;have ea:its.toArray ++ its2.toArray=(its ++ its2).toArray:=by simp
 rw[ea];exact⟨.ref _,_,I.lnew (t':=s.toks) (r.append r2) (by rw[Ss];omega),rfl,q _ I.fresh⟩
theorem xX {P:Pl}{H:Hp}{ds:List D}{vs:List V}{Q:VK}(hn:∀p,H p=none->¬ P.bd p)(h:au K P H ds vs)(q:∀u H',Same H H'->Is K P H' (.lst ds) u->Q u H'):∀p,H p=none->Q (.ref p) (upd H p (.lst vs)):=fun p hp=>by
 have s:=mK (o:=.lst vs) hp;exact q _ _ s ⟨p,vs,rfl,.inl ⟨hn p hp,.inl cH⟩,au.lt ⟨RN _,fun _ _=>rfl,fun _ z=>.inl z,fun a o e _=>s a o e,fun a z=>s.free z⟩ h⟩
theorem HD {P:Pl}{H:Hp}{ds:List D}{vs:List V}{Q:VK}(h:au K P H ds vs)(q:∀u H',Same H H'->Is K P H' (.tup ds) u->Q u H'):∀p,H p=none->Q (.ref p) (upd H p (.tup vs)):=fun p hp=>by
 have s:=mK (o:=.tup vs) hp;exact q _ _ s ⟨p,vs,rfl,.inl (.inl cH),au.lt ⟨RN _,fun _ _=>rfl,fun _ z=>.inl z,fun a o e _=>s a o e,fun a z=>s.free z⟩ h⟩
noncomputable def cF:D->D->Option D
 |.int i,.int j=>some (.int (i + j))
 |.str i,.str j=>if i.length + j.length<=sizeLine then some (.str (i ++ j)) else none
 |.lst xs,.lst ys=>if xs.length + ys.length<=sizeLine then some (.lst (xs ++ ys)) else none
 |_,_=>none
noncomputable def mq (K:Fgx):R2:=fun x y H Q=>dO (fun i j=>.int (i + j)) x y H Q\/(∃i j,x=.str i/\y=.str j/\i.length + j.length<=sizeLine/\Q (.str (i ++ j)) H)\/Cz K x y H Q
theorem pO:aV X (binaryOp .Add) (mq X.K):=Jq.or (Jr.or Js)
theorem pR:eU K (mq K) cF:=fun P H d e z v w Q h h1 h2 hn q=>by
 unfold cF at h;split at h
 ·cases h;cases h1;cases h2;exact .inl ⟨_,_,rfl,rfl,q _ H (Same.refl H) rfl⟩
 ·split at h
  ·rename_i hl;cases h;cases h1;cases h2;exact .inr (.inl ⟨_,_,rfl,rfl,hl,q _ H (Same.refl H) rfl⟩)
  ·cases h
 ·split at h
  ·rename_i hl;cases h;obtain⟨a,vs,rfl,r1,s1⟩:=h1;obtain⟨b,ws,rfl,r2,s2⟩:=h2;exact .inr (.inr ⟨a,b,vs,ws,rfl,rfl,r1,r2,by rw[s1.len,s2.len];exact hl,xX hn (s1.append s2) q⟩)
  ·cases h
 ·cases h
noncomputable def oI (g:Int->Int->Option D):D->D->Option D
 |.int i,.int j=>g i j
 |_,_=>none
theorem tM (h:oI g d e=some z)(h1:aX K P H d v)(h2:aX K P H e w):∃i j,v=.int i/\w=.int j/\g i j=some z:=by
 unfold oI at h;split at h
 ·cases h1;cases h2;exact⟨_,_,rfl,rfl,h⟩
 ·cases h
def lY:=oI fun i j=>some (.int (i - j))
theorem K1:eU K (dO fun i j=>.int (i - j)) lY:=fun P H d e z v w Q h h1 h2 _ q=>by
 obtain⟨i,j,rfl,rfl,h⟩:=tM h h1 h2;cases h;exact⟨i,j,rfl,rfl,q _ H (Same.refl H) rfl⟩
noncomputable def pL:=oI fun i j=>if 0<j/\j.natAbs<1073741824 then some (.int (i / j)) else none
theorem yw:eU K (rI nP fun i j=>.int (i / j)) pL:=fun P H d e z v w Q h h1 h2 _ q=>by
 obtain⟨i,j,rfl,rfl,h⟩:=tM h h1 h2;split at h
 ·rename_i hg;cases h;exact⟨i,j,rfl,rfl,⟨hg.1,by omega⟩,q _ H (Same.refl H) rfl⟩
 ·cases h
def oMod:=oI fun i j=>if 0<j then some (.int (i % j)) else none
theorem nu:eU K (rI (fun _ j=>0<j) fun i j=>.int (i % j)) oMod:=fun P H d e z v w Q h h1 h2 _ q=>by
 obtain⟨i,j,rfl,rfl,h⟩:=tM h h1 h2;split at h
 ·rename_i hg;cases h;exact⟨i,j,rfl,rfl,hg,q _ H (Same.refl H) rfl⟩
 ·cases h
noncomputable def gR:=oI fun i j=>if 0<=j/\j.natAbs<=1000000/\i.natAbs<18446744073709551616 then some (.int (i ^ j.toNat)) else none
theorem Cw:eU K (rI lB fun i j=>.int (i ^ j.toNat)) gR:=fun P H d e z v w Q h h1 h2 _ q=>by
 obtain⟨i,j,rfl,rfl,h⟩:=tM h h1 h2;split at h
 ·rename_i hg;cases h;exact⟨i,j,rfl,rfl,by unfold lB;rw[show(2:Nat) ^ 64=18446744073709551616 from rfl];exact⟨hg.1,by omega,hg.2.2⟩,q _ H (Same.refl H) rfl⟩
 ·cases h
def aD (c:Cp)(a b:D):Option D:=(bJ c a b).map .bl
theorem Cu:eU K (yE K c) (aD c):=fun P H d e z v w Q h h1 h2 _ q=>by
 unfold aD at h;rw[RM]at h;obtain⟨b,h,rfl⟩:=h;exact Fq h h1 h2 (q _ H (Same.refl H) rfl)
noncomputable def aY:D->D->Option D
 |.lst ds,.int i=>cj ds i
 |.tup ds,.int i=>cj ds i
 |.str z,.int i=>if z.length<=sizeLine then(cj z.cps.toList i).map fun c=>.str ⟨#[c]⟩ else none
 |_,_=>none
noncomputable def yF (K:Fgx):R2:=fun x y H Q=>mz K x y H Q\/mD K x y H Q\/mC x y H Q
theorem G4:fW X (yF X.K):=G5.or (G7.or G6)
theorem z6 (h:cj ds i=some d)(q:au K P H ds vs):∃u,cj vs i=some u/\Is K P H d u:=by
 unfold cj at h ⊢;rw[q.len]
 cases e:dZ ds.length i with
 |none=>rw[e]at h;cases h
 |some j=>rw[e]at h;exact q.get h
theorem KR:eU K (yF K) aY:=fun P H d e z v w Q h h1 h2 _ q=>by
 unfold aY at h;split at h
 ·obtain⟨a,vs,rfl,r,s⟩:=h1;cases h2;obtain⟨u,e,p⟩:=z6 h s;exact .inl ⟨a,vs,_,u,rfl,rfl,r,e,q _ H (Same.refl H) p⟩
 ·obtain⟨a,vs,rfl,r,s⟩:=h1;cases h2;obtain⟨u,e,p⟩:=z6 h s;exact .inr (.inl ⟨a,vs,_,u,rfl,rfl,r,e,q _ H (Same.refl H) p⟩)
 ·split at h
  ·rename_i hl;rw[RM]at h;obtain⟨c,h,e⟩:=h;cases e;cases h1;cases h2;exact .inr (.inr ⟨_,_,c,rfl,rfl,hl,h,q _ H (Same.refl H) rfl⟩)
  ·cases h
 ·cases h
noncomputable def bB:List D->Option D
 | [.lst ds]=>some (.int ds.length)
 | [.tup ds]=>some (.int ds.length)
 | [.str z]=>if z.length<=sizeLine then some (.int z.length) else none
 |_=>none
def pX (K:Fgx):List V->Hp->VK->Prop:=fun xs H Q=>(∃p ys,xs=[.ref p]/\(bf K H p ys\/cW K H p ys)/\Q (.int ys.length) H)\/∃z,xs=[.str z]/\z.length<=sizeLine/\Q (.int z.length) H
theorem m9:cI X (.builtin "len") (pX X.K):=Fb.or Fd
theorem nq:fX K (pX K) bB:=fun P H ds z vs Q h i _ q=>by
 unfold bB at h;split at h
 ·obtain⟨v,ws,rfl,p,rfl⟩:=i;cases h;obtain⟨a,us,rfl,r,s⟩:=p;exact .inl ⟨a,us,rfl,.inl r,q _ H (Same.refl H) (by rw[s.len];rfl)⟩
 ·obtain⟨v,ws,rfl,p,rfl⟩:=i;cases h;obtain⟨a,us,rfl,r,s⟩:=p;exact .inl ⟨a,us,rfl,.inr r,q _ H (Same.refl H) (by rw[s.len];rfl)⟩
 ·split at h
  ·rename_i hl;obtain⟨v,ws,rfl,p,rfl⟩:=i;cases h;cases p;exact .inr ⟨_,rfl,hl,q _ H (Same.refl H) rfl⟩
  ·cases h
 ·cases h
noncomputable def gF:List D->Option D
 | [.int i,.int j]=>some (.int (if j<i then j else i))
 |_=>none
noncomputable def dR:List D->Option D
 | [.int i,.int j]=>some (.int (if j > i then j else i))
 |_=>none
theorem KY:fX K (fun xs H Q=>∃i j,xs=[.int i,.int j]/\Q (.int (if j<i then j else i)) H) gF:=fun P H ds z vs Q h i _ q=>by
 unfold gF at h;split at h
 ·obtain⟨v,ws,rfl,p,v',ws',rfl,p',rfl⟩:=i;cases h;cases p;cases p';exact⟨_,_,rfl,q _ H (Same.refl H) rfl⟩
 ·cases h
theorem Cv:fX K (fun xs H Q=>∃i j,xs=[.int i,.int j]/\Q (.int (if j > i then j else i)) H) dR:=fun P H ds z vs Q h i _ q=>by
 unfold dR at h;split at h
 ·obtain⟨v,ws,rfl,p,v',ws',rfl,p',rfl⟩:=i;cases h;cases p;cases p';exact⟨_,_,rfl,q _ H (Same.refl H) rfl⟩
 ·cases h
end
section
variable {X:Cx}{Wx:XW}{m:Mode}
noncomputable def rH:D->String
 |.non=>"NoneType"
 |.bl _=>"bool"
 |.int _=>"int"
 |.str _=>"str"
 |.tup _=>"tuple"
 |.lst _=>"list"
 |.ref _=>""
theorem EY:cI X (.builtin "isinstance") (fun xs H Q=>∃(x:V) (T:String) (d:D) (P:Pl) (b:Bool),xs=[x,.ty T]/\aX X.K P H d x/\rH d≠""/\PySem.W.kitOne X.K (.type (rH d)) (.type T)=some b/\Q (.bl b) H):=by
  intro pins s σ H xs us Q I r h;obtain⟨x,T,d,A,b,rfl,i,ne,e,q⟩:=h;obtain⟨u,w',rfl,rx,rT⟩:=vals2 r;cases rT;have fin:∀tk,EP X pins σ Q (.bool b) {s with toks:=tk}:=fun tk=>⟨.bl b,H,I.tok _,rfl,q⟩
  cases d with
  |non=>have hv:x=.non:=i;subst hv;exact sV I rx (TyOf.non) e fin
  |bl y=>have hv:x=.bl y:=i;subst hv;exact sV I rx (TyOf.bl y) e fin
  |int y=>have hv:x=.int y:=i;subst hv;exact sV I rx (TyOf.int y) e fin
  |str y=>have hv:x=.str y:=i;subst hv;exact sV I rx (TyOf.str y) e fin
  |ref n=>exact absurd rfl ne
  |tup ds=>
    obtain⟨a,vs,rfl,t,_⟩:=i;cases rx;obtain⟨its,_,p,_⟩:=I.tuple t;obtain⟨o,h1,h2,_⟩:=p;exact Sd VH I.kIn ⟨o,h1,h2⟩ e (fun z=>nomatch z) fin
  |lst ds=>
    obtain⟨a,vs,rfl,t,_⟩:=i;cases rx;obtain⟨_,its,_,o,h1,h2,_⟩:=sql I t;exact Sd U_ I.kIn ⟨o,h1,h2⟩ e (fun z=>nomatch z) fin
theorem QL {K:Fgx}{P:Pl}{H:Hp}{lo:Int}{n:Nat}:Wk K P H (rM lo n) ((List.range n).map fun(k:Nat)=>.int (lo + k)):=fun P' H' l=>by
 rw[R3,Uq];refine⟨fun k hk=>hk,fun k h1 _=>h1,fun k x H2 y hk=>⟨y.1,.int (lo + k),?_,y.2⟩⟩;rw[R7,List.getElem?_range hk];rfl
noncomputable def ni (fs:EA):EA:=fun env M=>match fs env M with
 |some (.v [.int j],M1)=>if -1000000000<=j/\j<=1000000000 then some (.v ((List.range j.toNat).map fun(k:Nat)=>.int (0 + k)),M1) else none
 |some (.x c n,M1)=>some (.x c n,M1)
 |_=>none
theorem O4 (hg:Gl X "range")(hm:X.mg "range"=none)(ha:SA X Wx .val [a] fs)(hs:starEach [a] X.env=[(false,eval a X.env)]:=by rfl):SI X Wx tg (.Call (.Name "range" p) [a] [] pos) (ni fs):=by
 refine Ck (Kh hg hm ha hs) ?_;rintro st H R ⟨P0,H0,P,Os,env,M,r,M',k,e,q⟩;unfold ni at e;split at e
 ·rename_i j M1 ef;split at e
  ·rename_i hj;cases e;refine⟨P0,H0,P,Os,env,M,_,_,k,ef,fun P1 vs H1 l1 h1 i1=>?_⟩;obtain⟨v,ws,rfl,p,rfl⟩:=i1;exact⟨j,by rw[show v=.int j from p],by omega,by omega,q P1 H1 _ l1 h1 QL⟩
  ·cases e
 ·rename_i c n M1 ef;cases e;exact⟨P0,H0,P,Os,env,M,_,_,k,ef,q⟩
 ·cases e
def yq:Env->Mm->Option (Option Int×Mm):=fun _ M=>some (none,M)
noncomputable def tR (f:E):Env->Mm->Option (Option Int×Mm):=fun env M=>match f env M with
 |some (.v (.int i),M1)=>some (some i,M1)
 |_=>none
noncomputable def tP (K:Fgx) (mg:Mgx) (f:Env->Mm->Option (Option Int×Mm)):TO:=fun st H Q=>∃P0 H0 P Os env M i M',Ok K mg P0 H0 P Os H M st env/\f env M=some (i,M')/\∀P' H',LtE P H P' H'->Hk K mg P' H' M'->Q i H'
def rO (X:Cx)(e:Option Expr)(f:Env->Mm->Option (Option Int×Mm)):Prop:=PO X e (tP X.K X.mg f)
theorem Cq (h:PO X e t)(w:∀σ H Q,t' σ H Q->t σ H Q):PO X e t':=fun pins s σ H Q I hw=>h pins s σ H Q I (w σ H Q hw)
theorem O_:rO X none yq:=by
 refine Cq Km ?_;rintro st H Q ⟨P0,H0,P,Os,env,M,i,M',k,e,q⟩;cases e;exact q P H (LtE.refl P H) k.hk
theorem O9 (h:SE X Wx .val e f):rO X (some e) (tR f):=by
 refine Cq (Ko h) ?_;rintro st H Q ⟨P0,H0,P,Os,env,M,i,M',k,e,q⟩;unfold tR at e;split at e
 ·rename_i j M1 ef;cases e;exact⟨P0,H0,P,Os,env,M,_,_,k,ef,fun P1 v H1 l1 h1 i1=>⟨j,i1,q P1 H1 l1 h1⟩⟩
 ·cases e
noncomputable def cN {α:Type} (xs:List α) (lo hi:Option Int):List α:=(xs.drop (HT.cJ xs.length 0 lo)).take (HT.cJ xs.length xs.length hi - HT.cJ xs.length 0 lo)
theorem FN {K:Fgx}{P:Pl}{H:Hp}{ds:List D}{vs:List V}{lo hi:Option Int}(q:au K P H ds vs):au K P H (cN ds lo hi) (dW vs lo hi):=by
 unfold cN dW;rw[q.len];exact(q.drop _).take _
noncomputable def nF (d:D) (lo hi:Option Int):Option D:=match d with
 |.lst ds=>some (.lst (cN ds lo hi))
 |.str z=>if z.length<=sizeLine then some (.str (Txt.slice z lo hi)) else none
 |_=>none
noncomputable def tZ (f:E) (l h:Env->Mm->Option (Option Int×Mm)):E:=fun env M=>bnd (f env M) fun d M1=>match l env M1 with
  | some (lo, M2) => (match h env M2 with
    |some (hi,M3)=>(nF (vw M3 d) lo hi).map fun z=>(.v z,M3)
    |none=>none)
  |none=>none
theorem Ox {e:Expr}{lo hi:Option Expr}{p2 pos:Pos}{f:E}{l h:Env->Mm->Option (Option Int×Mm)}(he:SE X Wx .bor e f)(hl:rO X lo l)(hh:rO X hi h):SE X Wx m (.Subscript e (.Slice lo hi none p2) pos) (tZ f l h):=by
 refine bV (J_ (O5.or O6) he hl hh) ?_;rintro st H Q ⟨P0,H0,P,Os,env,M,r,M',k,e,q⟩;unfold tZ at e;rcases cM e with⟨d,M1,e1,e⟩ |⟨c,n,e1,rfl⟩
 ·split at e
  ·rename_i lo' M2 el;split at e
   ·rename_i hi' M3 eh;rw[RM]at e;obtain⟨z,ez,e⟩:=e;cases e;refine aW k e1 fun P1 v1 H1 l1 h1 i1=>⟨P0,H0,P1,Os,env,M1,_,_,k.next l1 h1,el,fun P2 H2 l2 h2=>⟨P0,H0,P2,Os,env,M2,_,_,(k.next l1 h1).next l2 h2,eh,fun P3 H3 l3 h3=>?_⟩⟩
    have i3:=bW.vw h3 (bW.lt l3 h2 (bW.lt l2 h1 i1));have fin:∀u H',Same H3 H'->Is X.K P3 H' z u->Q u H':=fun u H' s i=>q P3 u H' (l1.trans (l2.trans (l3.trans (LtE.same s)))) (h3.same s) (cg.of (h3.same s) i);generalize vw M' d=d' at i3 ez;unfold nF at ez;split at ez
    ·cases ez;obtain⟨a,vs,rfl,r,s⟩:=i3;exact .inl ⟨a,vs,rfl,r,xX h3.new (FN s) fin⟩
    ·split at ez
     ·rename_i hz;cases ez;cases i3;exact .inr ⟨_,rfl,hz,fin _ _ (Same.refl _) rfl⟩
     ·cases ez
    ·cases ez
   ·cases e
  ·cases e
 ·exact aW k e1 q
noncomputable def mG (f:E):E:=fun env M=>bnd (f env M) fun d M1=>match d with
 |.lst ds=>some (.v (.ref M1.length),M1 ++ [.lst ds])
 |_=>none
theorem yV (h:SN X Wx e f):SE X Wx m e (mG f):=by
  refine bV h ?_;rintro st H Q ⟨P0,H0,P,Os,env,M,r,M',k,e,q⟩;unfold mG at e;rcases cM e with⟨d,M1,e1,e⟩ |⟨c,n,e1,rfl⟩
  · cases d<;>simp only[reduceCtorEq]at e
    rename_i ds;cases e;refine⟨P0,H0,P,Os,env,M,_,_,k,e1,ds,rfl,fun P1 a vs H1 l1 h1 ha ba nc ea is=>?_⟩;have hn:P1.n=M1.length:=h1.n
    let P2:Pl:={io:=fun j=>if j=P1.n then a else P1.io j,n:=P1.n + 1,bd:=P1.bd}
    have io : ∀ j, j < P1.n -> P2.io j = P1.io j := fun j hj => R5 (by omega);have ioN : P2.io P1.n = a := RW rfl;have l2 : Lt P1 H1 P2 H1 := ⟨Vl _, io, fun _ z => .inl z, fun _ _ e _ => e, fun _ z => z⟩;have le : LtE P H P2 H1 := ⟨Nat.le_succ_of_le l1.n,fun j hj=>(io j (RJ hj l1.n)).trans (l1.io j hj),l1.bd,l1.bm,l1.keep,l1.sure,fun j h2 h3=>by
      rcases SJ j P1.n with z |z
      · rw[io j z];exact l1.nw j h2 z
      · have:j=P1.n:=S6 (Sx h3) z;rw[this,ioN];exact ha⟩
    have hk2:Hk X.K X.mg P2 H1 (M1 ++ [.lst ds]):=by
      refine⟨by rw[Ss, <-hn];rfl,fun j c ej=>?_,fun i j hi hj e=>?_,fun j hj=>?_,h1.here⟩
      · rcases SJ j P1.n with z |z
        · rw[Tc (by rw[<-hn];exact z)]at ej;rw[io j z];exact(h1.cell j c ej).lt l2 fun _ z=>z
        · have jl:=(RX.mp ej).1;rw[Ss,T7, <-hn]at jl;have:j=P1.n:=by omega
          subst this;rw[S_ (by rw[hn];exact RN _),hn,VL]at ej;cases ej;rw[ioN];exact⟨vs,ea,au.lt l2 is⟩
      · rcases SJ i P1.n with z |z
        · rcases SJ j P1.n with y |y
          · rw[io i z,io j y]at e;exact h1.inj i j z y e
          · have:j=P1.n:=S6 (Sx hj) y;rw[io i z,this,ioN]at e;exact absurd e (nc i z)
        · have iN:i=P1.n:=S6 (Sx hi) z;rcases SJ j P1.n with y |y
          · rw[iN,ioN,io j y]at e;exact absurd e.symm (nc j y)
          · rw[iN];exact S6 y (Sx hj)
      · rcases SJ j P1.n with z |z
        · rw[io j z];exact h1.bd j z
        · have:j=P1.n:=S6 (Sx hj) z;rw[this,ioN];exact ba
    exact q P2 _ H1 le hk2 (cg.of hk2 (show Is _ _ _ (.ref _) _ from⟨by show _<P1.n + 1;rw[hn];exact T_ _,by rw[<-hn,ioN]⟩))
  · exact⟨P0,H0,P,Os,env,M,_,_,k,e1,q⟩
end
section
variable {X:Cx}{Wx:XW}{m:Mode}{pos:Pos}
noncomputable def mH (f:E):E:=fun env M=>bnd (f env M) fun d M1=>match vw M1 d with
 |.lst ds=>some (.v (.lst ds),M1)
 |.tup ds=>some (.v (.lst ds),M1)
 |_=>none
theorem Dv (hg:Gl X "list")(hm:X.mg "list"=none)(he:SE X Wx .bor e f)(hs:starEach [e] X.env=(false,eval e X.env)::starEach [] X.env:=by rfl):SN X Wx (.Call (.Name "list" p) [e] [] pos) (mH f):=by
 refine bV (Cj Fe hg hm boot_list (tU he yr hs) (by x_go) (by x_go) hs rfl) ?_;rintro st H Q ⟨P0,H0,P,Os,env,M,r,M',k,e,q⟩;unfold mH at e;rcases cM e with⟨d,M1,e1,e⟩ |⟨c,n,e1,rfl⟩
 ·refine aW k e1 ?_;have key:∀ds,r=.v (.lst ds)->M'=M1->(∀P1 v1 H1,aX X.K P1 H1 (vw M1 d) v1->∃a vs,v1=.ref a/\(bf X.K H1 a vs\/cW X.K H1 a vs)/\au X.K P1 H1 ds vs)->∀P1 v1 H1,LtE P H P1 H1->Hk X.K X.mg P1 H1 M1->cg X.K P1 H1 .bor d v1->
    ∃p ys,[v1]=[V.ref p]/\(bf X.K H1 p ys\/cW X.K H1 p ys)/\∀l,H1 l=none->Q (.ref l) (upd H1 l (.lst ys)):=by
   rintro ds rfl rfl hv P1 v1 H1 l1 h1 i1;obtain⟨ds',e',q⟩:=q;cases e';obtain⟨a,vs,rfl,sq,is⟩:=hv P1 v1 H1 (bW.vw h1 i1);refine⟨a,vs,rfl,sq,fun p hp=>?_⟩;obtain⟨l2,h2,nc⟩:=sI (vs:=vs) h1 hp;exact q (P1.bar p) p vs _ (l1.trans l2) h2 (l1.sure p hp) (.inr rfl) nc cH (au.lt (l2.lt h1) is)
  split at e
  ·rename_i ds ev;cases e;exact key ds rfl rfl fun P1 v1 H1 i=>by
    rw[ev]at i;obtain⟨a,vs,e,s,is⟩:=i;exact⟨a,vs,e,.inl s,is⟩
  ·rename_i ds ev;cases e;exact key ds rfl rfl fun P1 v1 H1 i=>by
    rw[ev]at i;obtain⟨a,vs,e,s,is⟩:=i;exact⟨a,vs,e,.inr s,is⟩
  ·cases e
 ·exact aW k e1 q
theorem Hl:∀env M r M',mH f env M=some (.v r,M')->∃ds,r=.lst ds:=fun env M r M' e=>by
 unfold mH at e;rcases cM e with⟨ds,M1,e1,e⟩ |⟨c,n,e1,e⟩
 ·split at e
  ·cases e;exact⟨_,rfl⟩
  ·cases e;exact⟨_,rfl⟩
  ·cases e
 ·cases e
end
noncomputable def q_ (K:Fgx) (g:G):Sp:=fun vs H Q E=>∀mg,iu K mg 1 g vs H Q E
theorem Gm {P:Program}{w:World}{K:Fgx}{mg:Mgx}{base:Heap}{k:Nat}{f:Addr}{fd:FuncData}{ps:List Str}{g:G}(F:FnOk P w K mg base dJ k f fd ps (iu K mg 1 g)):FnOk P w K mg base dJ k f fd ps (q_ K g):=
 ⟨fun vs H Q E h=>F.len vs H Q E (h mg),fun A outer s H args us vs Q E hr he hb hv hs=>F.run A outer s H args us vs Q E hr he hb hv (hs mg)⟩
theorem Bs {K:Fgx}{P:Pl}{H:Hp}:∀ns:List Int,au K P H (ns.map D.int) (ns.map V.int)
 | []=>rfl
 |n::ns=>⟨.int n,_,rfl,rfl,Bs ns⟩
theorem Hj {K:Fgx}{g:G}{H:Hp}{a:Addr}{ns:List Int}(hg:∃M,g [.lst (ns.map D.int)] []=some (.v (.bl true),M))(hS:bf K H a (ns.map V.int)):q_ K g [.ref a] H (fun v _=>v=.bl true) fun _ _ _=>False:=by
 intro mg;obtain⟨M,e⟩:=hg;refine⟨rfl,⟨fun _=>0,0,fun _=>False⟩,[],[.lst (ns.map D.int)],.bl true,M,⟨rfl,fun k c e=>(by cases e),fun j k h=>absurd h (Uz _),fun k h=>absurd h (Uz _),fun a z=>z.elim⟩,⟨.ref a,[],rfl,⟨a,ns.map V.int,rfl,?_,Bs ns⟩,rfl⟩,e,fun P' v H' _ _ i=>i⟩;rcases hS with h |h
 ·exact .inl ⟨fun z=>z,h⟩
 ·exact .inr h
theorem QG {l:PySem.W.OpenLaw}{k:Nat}{q:Program}{loose:List Str}{XP:(Mgx)->Heap->Prop}{YP:World->Heap->Prop}{d:DefRec}{K:Params->Fgx}{x:Str}{g:G}
  (hn:l.most=some 63) (hdf:d.params.defaults=[]) (hr:Room k callerA) (hY:∀(w:World) (h:Heap),YP w h->(K w.params).In h)
  (F:∀(w:World) (mg:Mgx) (fa:Addr) (h:Heap),(K w.params).In h->h.Ns mainGlobals mg->mg d.name=some (.ref fa)->
   ∃fd:FuncData,(∀(s:Shared) (u:Value),BindsTo s fd ⟨[u],[]⟩ [(x,u)])/\
    ∀base:Heap,(K w.params).In base->base.Ns mainGlobals mg->FnOk l.prog w (K w.params) mg base dJ k fa fd [x] (q_ (K w.params) g))
  (hg:∀ns:List Int,ns.length<=63->∃M,g [.lst (ns.map D.int)] []=some (.v (.bl true),M)):PySem.W.WalkO q loose XP YP l.row.toRowW d [] (fun f vs=>PySem.call f vs):=
 L2.QK (sp:=fun K=>q_ K g) hn (by decide) hdf hr hY F (fun K H a ns hl _ hS=>Hj (hg ns hl) hS) fun _ _ _ _ z=>z
section
variable {X:Cx}{Wx:XW}{m:Mode}{e:Expr}
theorem p8 (h:PE X e (tC (.int i))):SE X Wx m e (ao (.int i)):=(yW (d:=.int i) h fun _ _=>rfl).bor
theorem yX (h:PE X e (tC (.str z))):SE X Wx m e (ao (.str z)):=(yW (d:=.str z) h fun _ _=>rfl).bor
theorem yU (h:PE X e (tC (.bl b))):SE X Wx m e (ao (.bl b)):=(yW (d:=.bl b) h fun _ _=>rfl).bor
theorem yZ (hN:X.N[i]? =some x)(hv:X.env.scope.names.lookup x=some .local)(hd:(x==("__debug__":Str))=false:=by x_go)(hcd:(x==("__classdict__":Str))=false:=by x_go):SE X Wx m (.Name x pos) (aj i):=(Ds hN (.inl hv) hd hcd).bor
theorem SN.sem (h:SN X Wx e f)(hf:∀env M r M',f env M=some (.v r,M')->∃ds,r=.lst ds):SE X Wx m e f:=(SN.se h hf).bor
end
noncomputable def putD (f:Str) (d:D):List (Str×D)->List (Str×D)
 | []=>[(f,d)]
 |(g,x)::r=>if g=f then(g,d)::r else(g,x)::putD f d r
section
variable {K:Fgx}{mg:Mgx}{P:Pl}{H:Hp}{M:Mm}
def eY (K:Fgx)(P:Pl)(H:Hp)(fs:List (Str×D))(gs:List (Str×V)):Prop:=gs.map (·.1)=fs.map (·.1)/\au K P H (fs.map (·.2)) (gs.map (·.2))
theorem Bg:∀{fs:List (Str×D)} {gs:List (Str×V)},eY K P H fs gs->fs.lookup f=some d->∃v,gs.lookup f=some v/\Is K P H d v
  | [],_,_,e=>by cases e
  |(g,x)::fs,[],h,_=>by cases h.1
  |(g,x)::fs,(g',y)::gs,h,e=>by
    obtain⟨h1,v,r,e1,p,q⟩:=h;simp only[TY,Vj]at h1 e1;obtain⟨rfl,h1⟩:=h1;obtain⟨rfl,rfl⟩:=e1;simp only[List.lookup]at e ⊢
    cases hg:f==g' with
    |true=>rw[hg]at e;cases e;exact⟨y,rfl,p⟩
    |false=>rw[hg]at e;exact Bg ⟨h1,q⟩ e
theorem wV:∀{fs:List (Str×D)} {gs:List (Str×V)},gs.map (·.1)=fs.map (·.1)->fs.lookup f=none->gs.lookup f=none
  | [],[],_,_=>rfl
  | [],_::_,h,_=>by cases h
  |_::_,[],h,_=>by cases h
  |(g,x)::fs,(g',y)::gs,h,e=>by
    simp only[TY,Vj]at h;obtain⟨rfl,h⟩:=h;simp only[List.lookup]at e ⊢
    cases hg:f==g' with
    |true=>rw[hg]at e;cases e
    |false=>rw[hg]at e;exact wV h e
theorem Bh (i:Is K P H d v):∀{fs:List (Str×D)} {gs:List (Str×V)},eY K P H fs gs->eY K P H (putD f d fs) (aQ f v gs)
  | [],[],_=>⟨rfl,v,[],rfl,i,rfl⟩
  | [],_::_,h=>by cases h.1
  |_::_,[],h=>by cases h.1
  |(g,x)::fs,(g',y)::gs,h=>by
    obtain⟨h1,v',r,e1,p,q⟩:=h;simp only[TY,Vj]at h1 e1;obtain⟨rfl,h1⟩:=h1;obtain⟨rfl,rfl⟩:=e1;unfold putD aQ
    split
    · exact⟨by simp[h1],v,_,rfl,i,q⟩
    · obtain⟨a,b⟩:=Bh i (fs:=fs) (gs:=gs) ⟨h1,q⟩;exact⟨by simp[a],y,_,rfl,p,b⟩
theorem Gs (h:eY K P H fs gs):gs.length=fs.length:=by
 have:=congrArg List.length h.1
 simpa using this
end
structure ClsOk (K:Fgx)(mg:Mgx)(c:Str)(C:Addr):Prop where
 mg:mg c=some (.ref C)
 cl:Cls K C
section
variable {X:Cx}{Wx:XW}{m:Mode}{pos:Pos}
noncomputable def lZ (M:Mm) (c:Str) (d:D):Option (Nat×List (Str×D)):=match d with
  | .ref k => (match M[k]? with
    |some (.obj c' fs)=>if c'=c then some (k,fs) else none
    |_=>none)
  |_=>none
theorem tQ (h:lZ M c d=some (k,fs)):d=.ref k/\M[k]? =some (.obj c fs):=by
 unfold lZ at h;split at h
 ·split at h
  ·split at h
   ·rename_i e1 e2;cases h;subst e2;exact⟨rfl,e1⟩
   ·cases h
  ·cases h
 ·cases h
noncomputable def cU (c f:Str) (o:E):E:=fun env M=>bnd (o env M) fun d M1=>match lZ M1 c d with
 |some (_,fs)=>(fs.lookup f).map fun z=>(.v z,M1)
 |none=>none
theorem p7 (hc:ClsOk X.K X.mg c C)(hn:gB X.K C f)(he:SE X Wx .val e o)(hb:attributeBase e f X.env (eval e X.env)=eval e X.env:=by rfl):SE X Wx m (.Attribute e f pos) (cU c f o):=by
 refine bV (J0 he hb) ?_;rintro st H Q ⟨P0,H0,P,Os,env,M,r,M',k,e,q⟩;unfold cU at e;rcases cM e with⟨d,M1,e1,e⟩ |⟨c,n,e1,rfl⟩
 ·split at e
  ·rename_i j fs eo;rw[RM]at e;obtain⟨z,ez,e⟩:=e;cases e;obtain⟨rfl,em⟩:=tQ eo;refine aW k e1 fun P1 v1 H1 l1 h1 i1=>?_;obtain⟨jl,rfl⟩:j<P1.n/\v1=.ref (P1.io j):=i1;obtain⟨C',dx,gs,ec,eh,en,is⟩:=h1.cell j _ em;have eC:C'=C:=by
    have:=ec.symm.trans hc.mg;cases this;rfl
   subst eC;obtain⟨v,ev,iv⟩:=Bg ⟨en,is⟩ ez;exact⟨_,C',dx,gs,v,rfl,eh,hc.cl,hn,ev,q P1 v H1 l1 h1 (cg.of h1 iv)⟩
  ·cases e
 ·exact aW k e1 q
noncomputable def nA (c f:Str) (o v:E):S:=fun env M=>bC (v env M) fun y M1=>bC (o env M1) fun d M2=>match lZ M2 c d with
 |some (k,fs)=>if fs.length<1000 then some (.nx env,M2.set k (.obj c (putD f y fs))) else none
 |none=>none
theorem OD {K:Fgx}{mg:Mgx}{P:Pl}{H:Hp}{M:Mm}{j:Nat}{c f:Str}{fs:List (Str×D)}{y:D}{v:V}{C dx:Addr}{gs:List (Str×V)}(h:Hk K mg P H M)(em:M[j]? =some (.obj c fs))(ec:mg c=some (.ref C))(eh:H (P.io j)=some (.ins C dx gs))(fo:eY K P H fs gs)(iv:Is K P H y v):
  Lt P H P (upd H (P.io j) (.ins C dx (aQ f v gs)))/\LtE P H P (upd H (P.io j) (.ins C dx (aQ f v gs)))/\Hk K mg P (upd H (P.io j) (.ins C dx (aQ f v gs))) (M.set j (.obj c (putD f y fs))):=by
 have jl:j<P.n:=by rw[h.n];exact(RX.mp em).1
 have lc:Lt P H P (upd H (P.io j) (.ins C dx (aQ f v gs))):=sX (h.bd j jl) eh HF;have fp:=Bh (f:=f) iv fo;exact h.set (c':=.obj c (putD f y fs)) (o':=.ins C dx (aQ f v gs)) em ⟨C,dx,aQ f v gs,ec,cH,fp.1,au.lt lc fp.2⟩
theorem Ph {c f:Str}{C:Addr}{o e:Expr}{fo fv:E}{pos':Pos}(hc:ClsOk X.K X.mg c C)(hn:gB X.K C f)(ho:SE X Wx .val o fo)(he:SE X Wx .val e fv)(hs:swapsWith e (some (.Attribute o f pos')) pos.line X.env=pure false:=by rfl):SS X Wx (.Assign [.Attribute o f pos'] e pos) (nA c f fo fv):=by
 refine kh (Ku ho he hs) ?_;rintro D st H ⟨P0,H0,P,Os,env,M,out,M',k,e,q⟩;unfold nA at e;rcases gK e with⟨y,M1,e1,e⟩ |⟨c,n,e1,rfl⟩
 ·refine aW k e1 fun P1 v1 H1 l1 h1 i1=>?_;have k1:=k.next l1 h1
  rcases gK e with⟨d,M2,e2,e⟩ |⟨c,n,e2,rfl⟩
  ·split at e
   ·rename_i j fs eo;split at e
    ·rename_i hl;cases e;obtain⟨rfl,em⟩:=tQ eo;refine aW k1 e2 fun P2 v2 H2 l2 h2 i2=>?_;obtain⟨jl,rfl⟩:j<P2.n/\v2=.ref (P2.io j):=i2;obtain⟨C',dx,gs,ec,eh,en,is⟩:=h2.cell j _ em;have eC:C'=C:=by
      have:=ec.symm.trans hc.mg;cases this;rfl
     subst eC;obtain⟨l3,l3e,h3⟩:=OD (f:=f) h2 em ec eh ⟨en,is⟩ (Is.lt (l2.lt h1) i1);exact⟨_,C',dx,gs,rfl,eh,hc.cl,hn,by rw[Gs ⟨en,is⟩];exact hl,q _ _ _ _ ((l1.lt k.hk).trans ((l2.lt h1).trans l3)) ((k1.next l2 h2).next l3e h3)⟩
    ·cases e
   ·cases e
  ·exact aW k1 e2 q
 ·exact aW k e1 q
def bI (P:Program)(w:World)(K:Fgx)(mg:Mgx)(base:Heap)(k:Nat)(C:Addr)(m:Str)(n:Nat)(g:G):Prop:=
 ∃f fd ps,Meth K C m f/\FnOk P w K mg base dJ k f fd ps (iu K mg n g)/\Binds K fd ps []
theorem bI.mono {P:Program}{w:World}{K:Fgx}{mg:Mgx}{base:Heap}{j k:Nat}{C:Addr}{m:Str}{n:Nat}{g:G}(a:bI P w K mg base j C m n g)(h:j<=k):bI P w K mg base k C m n g:=by
 obtain⟨f,fd,ps,h1,h2,h3⟩:=a;exact⟨f,fd,ps,h1,h2.mono h,h3⟩
noncomputable def aU (c m:Str) (g:G) (o:E) (fs:EA):E:=fun env M=>bnd (o env M) fun d M1=>match lZ M1 c d with
  | some (_, gs) => if gs.lookup m = none then bQ (fs env M1) fun ds M2 => (match g (d::ds) M2 with
    |some (.v z,M3)=>some (.v z,M3)
    |_=>none) else none
  |none=>none
theorem vh (hc:ClsOk X.K X.mg c C)(a:bI X.prog X.w X.K X.mg X.base k C me (n + 1) g)(hr:Room k X.A)(ho:SE X Wx .val o fo)(ha:SA X Wx .val (e::es) fs)(hn:mX n fs)
    (hst:starEach (e::es) X.env=(false,eval e X.env)::starEach es X.env:=by rfl) (hpl:(backTo pos (starEach es X.env)).any (·.1)=false:=by rfl)
    (ht : eval (.Call (.Attribute o me apos) (e :: es) [] pos) X.env = (do
      let ov <-eval o X.env
      standAt apos.atName
      let (f,first) <-holding [ov] (getMethod ov me pl)
      callWith pos f first (backTo pos (starEach (e::es) X.env)) (backToKw pos (keywordEach [] X.env))):=by rfl):
    SE X Wx m (.Call (.Attribute o me apos) (e::es) [] pos) (aU c me g fo fs):=by
  obtain⟨f,fd,ps,hm,F,hb⟩:=a;refine bV (J6 ho hc.cl hm F hr hb .nil tV ha hst hpl ht) ?_;rintro st H Q ⟨P0,H0,P,Os,env,M,r,M',k,e,q⟩;unfold aU at e;rcases cM e with⟨d,M1,e1,e⟩ |⟨c,n,e1,rfl⟩
  · split at e
    · rename_i j gs eo;split at e
      · rename_i hl;obtain⟨rfl,em⟩:=tQ eo;refine aW k e1 fun P1 v1 H1 l1 h1 i1=>?_;have k1:=k.next l1 h1
        obtain⟨jl,rfl⟩:j<P1.n/\v1=.ref (P1.io j):=i1;obtain⟨C',dx,vs,ec,eh,en,is⟩:=h1.cell j _ em;have eC:C'=C:=by
          have:=ec.symm.trans hc.mg;cases this;rfl
        subst eC;refine⟨_,dx,vs,rfl,eh,wV en hl,?_⟩;rcases lE e with⟨ds,M2,e2,e⟩ |⟨c,n,e2,rfl⟩
        · split at e
          · rename_i z M3 eg;cases e;refine⟨P0,H0,P1,Os,env,M1,_,_,k1,e2,fun P2 us H2 l2 h2 i2=>?_⟩;dsimp only;rw[Ti];exact⟨by rw[Sw,i2.len,hn _ _ _ _ e2],P2,M2,.ref j::ds,z,_,h2,⟨_,_,rfl,⟨RJ jl l2.n,by rw[l2.io j jl]⟩,i2.iss⟩,eg,fun P3 v H3 l3 h3 i3=>q P3 v H3 (l1.trans (l2.trans l3)) h3 (cg.of h3 i3)⟩
          · cases e
        · exact⟨P0,H0,P1,Os,env,M1,_,_,k1,e2,q⟩
      · cases e
    · cases e
  · exact aW k e1 q
theorem h_ (hc:ClsOk X.K X.mg c C)(a:bI X.prog X.w X.K X.mg X.base k C me 1 g)(hr:Room k X.A)(ho:SE X Wx .val o fo)
    (ht : eval (.Call (.Attribute o me apos) [] [] pos) X.env = (do
      let ov <-eval o X.env
      standAt apos.atName
      let (f,first) <-holding [ov] (getMethod ov me pl)
      callWith pos f first (backTo pos (starEach [] X.env)) (backToKw pos (keywordEach [] X.env))):=by rfl):
    SE X Wx m (.Call (.Attribute o me apos) [] [] pos) (aU c me g fo ak):=by
  obtain⟨f,fd,ps,hm,F,hb⟩:=a;refine bV (J7 ho hc.cl hm F hr hb .nil tV ht) ?_;rintro st H Q ⟨P0,H0,P,Os,env,M,r,M',k,e,q⟩;unfold aU at e;rcases cM e with⟨d,M1,e1,e⟩ |⟨c,n,e1,rfl⟩
  · split at e
    · rename_i j gs eo;split at e
      · rename_i hl;obtain⟨rfl,em⟩:=tQ eo;refine aW k e1 fun P1 v1 H1 l1 h1 i1=>?_;obtain⟨jl,rfl⟩:j<P1.n/\v1=.ref (P1.io j):=i1;obtain⟨C',dx,vs,ec,eh,en,is⟩:=h1.cell j _ em;have eC:C'=C:=by
          have:=ec.symm.trans hc.mg;cases this;rfl
        subst eC;refine⟨_,dx,vs,rfl,eh,wV en hl,?_⟩;simp only[bQ,ak]at e;split at e
        · rename_i z M3 eg;cases e;exact⟨rfl,P1,M1,[.ref j],z,_,h1,⟨_,_,rfl,⟨jl,rfl⟩,rfl⟩,eg,fun P3 v H3 l3 h3 i3=>q P3 v H3 (l1.trans l3) h3 (cg.of h3 i3)⟩
        · cases e
      · cases e
    · cases e
  · exact aW k e1 q
end
section
variable {X:Cx}{Wx:XW}{m:Mode}{pos:Pos}
theorem Fo {K:Fgx}{mg:Mgx}{P:Pl}{H H':Hp}{M:Mm}{a:Addr}{c:Cl}(h:Hk K mg P H M)(s:Same H H')(ha:H a=none)(ea:H' a≠none)(hc:∀P',P'.n=P.n + 1->P'.io P.n=a->mW K mg P' H' a c):∃P',P'.n=P.n + 1/\P'.io P.n=a/\LtE P H P' H'/\Hk K mg P' H' (M ++ [c]):=by
 let P2:Pl:={io:=fun j=>if j=P.n then a else P.io j,n:=P.n + 1,bd:=fun b=>P.bd b\/b=a}
 have io : ∀ j, j < P.n -> P2.io j = P.io j := fun j hj => R5 (by omega);have ioN : P2.io P.n = a := RW rfl;have nc : ∀ j, j < P.n -> P.io j ≠ a := fun j hj z => h.here _ (h.bd j hj) (z ▸ ha);have l : LtE P H P2 H' := ⟨Vl _,io,fun b z=>Or.imp (fun q=>q) (fun(q:b=a)=>by rw[q];exact ha) z,fun _ z=>.inl z,fun b o e _=>s b o e,fun b z=>s.free z,fun j h2 h3=>by
  have:j=P.n:=S6 (Sx h3) h2;rw[this,ioN];exact ha⟩
 refine⟨P2,rfl,ioN,l,⟨by rw[Ss, <-h.n];rfl,fun j d ej=>?_,fun i j hi hj e=>?_,fun j hj=>?_,fun b z=>?_⟩⟩
 ·rcases SJ j P.n with z |z
  ·rw[Tc (by rw[<-h.n];exact z)]at ej;rw[io j z];exact(h.cell j d ej).lt (l.lt h) fun o eo=>s _ _ eo
  ·have jl:=(RX.mp ej).1;rw[Ss,T7, <-h.n]at jl;have:j=P.n:=by omega
   subst this;rw[S_ (by rw[h.n];exact RN _),h.n,VL]at ej;cases ej;rw[ioN];exact hc P2 rfl ioN
 ·rcases SJ i P.n with z |z
  ·rcases SJ j P.n with y |y
   ·rw[io i z,io j y]at e;exact h.inj i j z y e
   ·have:j=P.n:=S6 (Sx hj) y;rw[io i z,this,ioN]at e;exact absurd e (nc i z)
  ·have iN:i=P.n:=S6 (Sx hi) z;rcases SJ j P.n with y |y
   ·rw[iN,ioN,io j y]at e;exact absurd e.symm (nc j y)
   ·rw[iN];exact S6 y (Sx hj)
 ·rcases SJ j P.n with z |z
  ·rw[io j z];exact .inl (h.bd j z)
  ·have:j=P.n:=S6 (Sx hj) z;rw[this,ioN];exact .inr rfl
 ·rcases z with z |z
  ·exact fun q=>h.here b z (s.free q)
  ·rw[z];exact ea
def fV (P:Program)(w:World)(K:Fgx)(mg:Mgx)(base:Heap)(k:Nat)(C:Addr)(n:Nat)(g:G):Prop:=
 ∃f fd ps,Mk K C f/\FnOk P w K mg base dJ k f fd ps (iu K mg n g)/\Binds K fd ps []
noncomputable def mJ (c:Str) (g:G) (fs:EA):E:=fun env M=>bQ (fs env M) fun ds M1=>match g (.ref M1.length::ds) (M1 ++ [.obj c []]) with
 |some (.v .non,M2)=>some (.v (.ref M1.length),M2)
 |_=>none
theorem Ou {c:Str}{C:Addr}{k n:Nat}{g:G}{e:Expr}{es:List Expr}{fs:EA}{p:Pos}(hc:ClsOk X.K X.mg c C)(a:fV X.prog X.w X.K X.mg X.base k C (n + 1) g)(hr:Room (k + 1) X.A)(hg:Gl X c)(ha:SA X Wx .val (e::es) fs)(hn:mX n fs)(hdb:(c==("__debug__":Str))=false:=by x_go)
  (he:starEach (e::es) X.env=(false,eval e X.env)::starEach es X.env:=by rfl) (hpl:(backTo pos (starEach es X.env)).any (·.1)=false:=by rfl):SE X Wx m (.Call (.Name c p) (e::es) [] pos) (mJ c g fs):=by
 obtain⟨f,fd,ps,mk,F,hb⟩:=a;refine bV (J5 mk F hr hg hc.mg hb .nil tV ha hdb he hpl) ?_;rintro st H Q ⟨P0,H0,P,Os,env,M,r,M',k,e,q⟩;unfold mJ at e;rcases lE e with⟨ds,M1,e1,e⟩ |⟨c,n,e1,rfl⟩
 ·split at e
  ·rename_i M2 eg;cases e;refine⟨P0,H0,P,Os,env,M,_,_,k,e1,fun P1 vs H1 l1 h1 i1=>fun x dx hx hdx ne=>?_⟩;have s2:Same H1 (upd (upd H1 dx (.own x)) x (.ins C dx [])):=fun b o eb=>by
    rw[aZ (j_ eb hx),aZ (j_ eb hdx)];exact eb
   obtain⟨P2,n2,io2,l2,h2⟩:=Fo (c:=.obj c []) h1 s2 hx (by rw[cH];exact fun z=>nomatch z) fun P' _ _=>⟨C,dx,[],hc.mg,cH,rfl,rfl⟩
   have el:P1.n=M1.length:=h1.n;have iref:Is X.K P2 (upd (upd H1 dx (.own x)) x (.ins C dx [])) (.ref M1.length) (.ref x):=⟨by rw[n2,el];exact T_ _,by rw[<-el,io2]⟩;refine⟨by rw[Ti,Sw,i1.len,hn _ _ _ _ e1],P2,M1 ++ [.obj c []],.ref M1.length::ds,.non,_,h2,⟨_,_,rfl,iref,by rw[Ti];exact au.lt (l2.lt h1) i1.iss⟩,eg,fun P3 v H3 l3 h3 i3=>⟨i3,?_⟩⟩;refine q P3 _ H3 (l1.trans (l2.trans l3)) h3 (cg.of h3 (Is.lt (l3.lt h2) iref))
  ·cases e
 ·exact⟨P0,H0,P,Os,env,M,_,_,k,e1,q⟩
end
end E3
namespace E3
open PySem PySem.Spec PyProof.Rows L2 PySem.W
def Q0 (a:Addr)(h h':Heap):Prop:=∀b o,b≠a->h.get? b=some o->h'.get? b=some o
def Low (n:Nat)(p:Array Nat):Prop:=p.size=n/\∀x∈p.toList,x<n
section
variable {n:Nat}{lt:Nat->Nat->Option Bool}(hn:0<n)(tot:∀i j,i<n->j<n->∃b,lt i j=some b)
include hn tot
end
end E3
namespace E3
open PySem L2
section
variable {env:Env}{M M1:Mm}{f g h c:E}{d e:D}{i j:Int}{n k:Nat}{z:Str}{b:Bool}{ds es:List D}{s t:S}{x:Str}
def dw (g:S):OS->OS
 |some (.nx e,M1)=>g e M1
 |o=>o
theorem tW:aq s t env M=dw t (s env M):=rfl
theorem yO {e:Env}:dw t (some (.nx e,M))=t e M:=rfl
theorem yP:dw t (some (.rt d,M))=some (.rt d,M):=rfl
theorem yK {e:Env}:dw t (some (.bk e,M))=some (.bk e,M):=rfl
theorem yL {e:Env}:dw t (some (.ct e,M))=some (.ct e,M):=rfl
theorem yM {a:Int}:dw t (some (.ex x a,M))=some (.ex x a,M):=rfl
theorem Lh:aA env M=some (.nx env,M):=rfl
noncomputable def rJ (M:Mm):Option Slot->O
 |some (.val d)=>some (.v d,M)
 |_=>none
theorem Cy:aj k env M=rJ M env[k]? :=rfl
theorem CG:rJ M (some (.val d))=some (.v d,M):=rfl
theorem Lf:ao d env M=some (.v d,M):=rfl
def mapR (M:Mm)(o:Option D):O:=o.map fun z=>(.v z,M)
theorem NT:mapR M (some d)=some (.v d,M):=rfl
def mj (o:D->Option D)(r:O):O:=bnd r fun d M=>mapR M (o (vw M d))
theorem Ml {o:D->Option D}:mj o (some (.v d,M))=mapR M (o (vw M d)):=rfl
noncomputable def mU (o:D->D->Option D) (d:D) (r:O):O:=bnd r fun e M=>mapR M (o (vw M d) (vw M e))
noncomputable def rG (o:D->D->Option D) (k:Mm->O) (r:O):O:=bnd r fun d M=>mU o d (k M)
theorem K7 {o:D->D->Option D}:s2 o f g env M=rG o (g env) (f env M):=rfl
theorem Mp {o:D->D->Option D}{q:Mm->O}:rG o q (some (.v d,M))=mU o d (q M):=rfl
theorem yJ {o:D->D->Option D}:mU o d (some (.v e,M))=mapR M (o (vw M d) (vw M e)):=rfl
theorem Qy:vw M (.int i)=.int i:=rfl
theorem QD:vw M (.str z)=.str z:=rfl
theorem zR:vw M (.bl b)=.bl b:=rfl
theorem QB:vw M .non=.non:=rfl
theorem QF:vw M (.tup ds)=.tup ds:=rfl
theorem Qz:vw M (.lst ds)=.lst ds:=rfl
theorem DY (h:M[k]? =some (.lst ds)):vw M (.ref k)=.lst ds:=by unfold vw;simp only[h]
theorem L_:bM f env M=mj (fun d=>(dz d).map .bl) (f env M):=rfl
theorem Ly:tY f env M=mj (fun d=>(dz d).map fun b=>.bl (!b)) (f env M):=rfl
noncomputable def pK (r:O):O:=bnd r fun d M=>match d with
 |.bl b=>some (.v (.bl (!b)),M)
 |_=>none
theorem Lx:bL f env M=pK (f env M):=rfl
theorem N5:pK (some (.v (.bl b),M))=some (.v (.bl (!b)),M):=rfl
noncomputable def lV (k1 k2:Mm->O) (r:O):O:=bnd r fun d M=>match d with
 |.bl b=>if b=true then k1 M else k2 M
 |_=>none
theorem K8:eE f g env M=lV (g env) (fun M=>some (.v (.bl false),M)) (f env M):=rfl
theorem yC:gZ f g env M=lV (fun M=>some (.v (.bl true),M)) (g env) (f env M):=rfl
theorem Ny {k1 k2:Mm->O}:lV k1 k2 (some (.v (.bl b),M))=if b=true then k1 M else k2 M:=rfl
noncomputable def gM (d:D):Option (ResA×Mm)->Option (ResA×Mm)
 |some (.v ds,M2)=>some (.v (d::ds),M2)
 |some (.x c n,M2)=>some (.x c n,M2)
 |none=>none
noncomputable def wG (k:Mm->Option (ResA×Mm)):O->Option (ResA×Mm)
 |some (.v d,M1)=>gM d (k M1)
 |some (.x c n,M1)=>some (.x c n,M1)
 |none=>none
theorem Lw:ak env M=some (.v [],M):=rfl
theorem Lg {fs:EA}:aC f fs env M=wG (fs env) (f env M):=rfl
theorem Nm {q:Mm->Option (ResA×Mm)}:wG q (some (.v d,M))=gM d (q M):=rfl
theorem Nj:gM d (some (.v ds,M))=some (.v (d::ds),M):=rfl
noncomputable def nU (o:List D->Option D) (r:Option (ResA×Mm)):O:=bQ r fun ds M=>mapR M (o (ds.map (vw M)))
theorem Ls {o:List D->Option D}{fs:EA}:sN o fs env M=nU o (fs env M):=rfl
theorem NZ {o:List D->Option D}:nU o (some (.v ds,M))=mapR M (o (ds.map (vw M))):=rfl
noncomputable def fu (k:List D->Mm->O):Option (ResA×Mm)->O
 |some (.v ds,M)=>k ds M
 |some (.x c n,M)=>some (.x c n,M)
 |none=>none
theorem M6 {q:List D->Mm->O}:fu q (some (.v ds,M))=q ds M:=rfl
theorem Ma {fs:EA}:bx fs env M=fu (fun ds M1=>if ds.length<=sizeLine then some (.v (.tup ds),M1) else none) (fs env M):=rfl
theorem Lr {fs:EA}:aR fs env M=fu (fun ds M1=>if ds.length<=sizeLine then some (.v (.lst ds),M1) else none) (fs env M):=rfl
def Ag:O->O
 |some (.v d,M)=>some (.v d,M)
 |_=>none
theorem Nf:Ag (some (.v d,M))=some (.v d,M):=rfl
theorem K_ {u:G}{fs:EA}:eF u fs env M=fu (fun ds M1=>Ag (u ds M1)) (fs env M):=rfl
noncomputable def dD (k:D->Mm->O):O->O
 |some (.v d,M)=>k d M
 |some (.x c n,M)=>some (.x c n,M)
 |none=>none
theorem M8 {q:D->Mm->O}:dD q (some (.v d,M))=q d M:=rfl
noncomputable def Ai (M:Mm):D->O
 |.lst ds=>some (.v (.ref M.length),M ++ [.lst ds])
 |_=>none
theorem Ng:Ai M (.lst ds)=some (.v (.ref M.length),M ++ [.lst ds]):=rfl
theorem Ld:mG f env M=dD (fun d M1=>Ai M1 d) (f env M):=rfl
noncomputable def BL (M:Mm):D->O
 |.lst ds=>some (.v (.lst ds),M)
 |.tup ds=>some (.v (.lst ds),M)
 |_=>none
theorem NP:BL M (.lst ds)=some (.v (.lst ds),M):=rfl
theorem Ln:mH f env M=dD (fun d M1=>BL M1 (vw M1 d)) (f env M):=rfl
noncomputable def zc (d:D) (lo:Option Int):Option (Option Int×Mm)->O
 |some (hi,M3)=>mapR M3 (nF (vw M3 d) lo hi)
 |none=>none
noncomputable def Du (d:D) (k:Mm->Option (Option Int×Mm)):Option (Option Int×Mm)->O
 |some (lo,M2)=>zc d lo (k M2)
 |none=>none
theorem yD {l u:Env->Mm->Option (Option Int×Mm)}:tZ f l u env M=dD (fun d M1=>Du d (u env) (l env M1)) (f env M):=rfl
theorem Oa {lo:Option Int}{q:Mm->Option (Option Int×Mm)}:Du d q (some (lo,M))=zc d lo (q M):=rfl
theorem N_ {lo hi:Option Int}:zc d lo (some (hi,M))=mapR M (nF (vw M d) lo hi):=rfl
theorem LC:yq env M=some (none,M):=rfl
noncomputable def pP:O->Option (Option Int×Mm)
 |some (.v (.int i),M)=>some (some i,M)
 |_=>none
theorem Lz:tR f env M=pP (f env M):=rfl
theorem N6:pP (some (.v (.int i),M))=some (some i,M):=rfl
noncomputable def fD (k:D->Mm->OS):O->OS
 |some (.v d,M)=>k d M
 |some (.x c n,M)=>some (.ex c n,M)
 |none=>none
theorem M_ {q:D->Mm->OS}:fD q (some (.v d,M))=q d M:=rfl
theorem K9:bw k f env M=fD (fun d M1=>if k<env.length then some (.nx (env.set k (.val d)),M1) else none) (f env M):=rfl
theorem LQ:aK f env M=fD (fun d M1=>some (.rt d,M1)) (f env M):=rfl
noncomputable def Bo (s t:Mm->OS) (M:Mm):D->OS
 |.bl b=>if b=true then s M else t M
 |_=>none
theorem yN {q r:Mm->OS}:Bo q r M (.bl b)=if b=true then q M else r M:=rfl
theorem yx:bT c s t env M=fD (fun d M1=>Bo (s env) (t env) M1 d) (c env M):=rfl
noncomputable def forR (k:Nat) (t:S) (env:Env):Option (ResA×Mm)->OS
 |some (.v ds,M1)=>loopS k t ds env M1
 |some (.x c n,M1)=>some (.ex c n,M1)
 |none=>none
theorem Li {fs:EA}:fQ k fs t env M=forR k t env (fs env M):=rfl
theorem Nu:forR k t env (some (.v ds,M))=loopS k t ds env M:=rfl
noncomputable def pI:O->Option (ResA×Mm)
 |some (.v (.lst ds),M1)=>some (.v ds,M1)
 |some (.x c n,M1)=>some (.x c n,M1)
 |_=>none
theorem Lj:dG f env M=pI (f env M):=rfl
theorem Nv:pI (some (.v (.lst ds),M))=some (.v ds,M):=rfl
noncomputable def CK:Option (ResA×Mm)->Option (ResA×Mm)
 |some (.v [.int j],M1)=>if -1000000000<=j/\j<=1000000000 then some (.v ((List.range j.toNat).map fun(k:Nat)=>.int (0 + k)),M1) else none
 |some (.x c n,M1)=>some (.x c n,M1)
 |_=>none
theorem LR {fs:EA}:ni fs env M=CK (fs env M):=rfl
theorem N8 (h: -1000000000<=i/\i<=1000000000):CK (some (.v [.int i],M))=some (.v ((List.range i.toNat).map fun(k:Nat)=>.int (0 + k)),M):=RW h
theorem pW {m:Nat}{t:S}:b_ m t ds M=cO (t (ds.map .val ++ List.replicate (m - ds.length) .un) M):=rfl
theorem Nr:cO (some (.rt d,M))=some (.v d,M):=rfl
theorem Nq {e:Env}:cO (some (.nx e,M))=some (.v .non,M):=rfl
theorem Ih:cF (.int i) (.int j)=some (.int (i + j)):=rfl
theorem Ii:cF (.lst ds) (.lst es)=if ds.length + es.length<=sizeLine then some (.lst (ds ++ es)) else none:=rfl
theorem Jj:lY (.int i) (.int j)=some (.int (i - j)):=rfl
theorem Im:pL (.int i) (.int j)=if 0<j/\j.natAbs<1073741824 then some (.int (i / j)) else none:=rfl
theorem Jb:oMod (.int i) (.int j)=if 0<j then some (.int (i % j)) else none:=rfl
theorem Jf:gR (.int i) (.int j)=if 0<=j/\j.natAbs<=1000000/\i.natAbs<18446744073709551616 then some (.int (i ^ j.toNat)) else none:=rfl
theorem yg:aD .lt (.int i) (.int j)=some (.bl (decide (i<j))):=rfl
theorem yd:aD .le (.int i) (.int j)=some (.bl (decide (i<=j))):=rfl
theorem yc:aD .gt (.int i) (.int j)=some (.bl (decide (j<i))):=rfl
theorem xZ:aD .ge (.int i) (.int j)=some (.bl (decide (j<=i))):=rfl
theorem Ik:aD .eq (.int i) (.int j)=some (.bl (decide (i=j))):=by
 show(i_ _ _).map D.bl=_
 simp[i_,cD,D.flat,D.dep,D.eq]
 rw[S5];simp
theorem Jc:aD .ne (.int i) (.int j)=some (.bl (!decide (i=j))):=by
 show(mZ _ _).map D.bl=_
 simp[mZ,cD,D.flat,D.dep,D.eq]
 rw[S5];simp
theorem tO (h:d.dep<=50):aD .eq d d=some (.bl true):=by
 show(i_ d d).map D.bl=_;unfold i_;rw[RW ⟨by simp[cD,h],h⟩,D.eq_refl];rfl
theorem Iv:aY (.lst ds) (.int i)=cj ds i:=rfl
theorem Iz:aY (.tup ds) (.int i)=cj ds i:=rfl
theorem IK:bB [.lst ds]=some (.int ds.length):=rfl
theorem IW:bB [.tup ds]=some (.int ds.length):=rfl
theorem Ja:gF [.int i,.int j]=some (.int (if j<i then j else i)):=rfl
theorem I_:dR [.int i,.int j]=some (.int (if j > i then j else i)):=rfl
theorem Jl:dz (.lst ds)=some (!ds.isEmpty):=rfl
theorem Jk:dz (.bl b)=some b:=rfl
theorem Jh {lo hi:Option Int}:nF (.str z) lo hi=if z.length<=sizeLine then some (.str (Txt.slice z lo hi)) else none:=rfl
theorem Jg {lo hi:Option Int}:nF (.lst ds) lo hi=some (.lst (cN ds lo hi)):=rfl
end
noncomputable def Step (J:Env->Mm->Prop) (Q:OS->Prop):OS->Prop
 |some (.nx e,M)=>J e M
 |some (.ct e,M)=>J e M
 |some (.bk e,M)=>Q (some (.nx e,M))
 |some (.rt d,M)=>Q (some (.rt d,M))
 |some (.ex c n,M)=>Q (some (.ex c n,M))
 |none=>False
theorem Hr {i:Nat}{body:S}{ds:List D}{env:Env}{M:Mm}(Q:OS->Prop)(J:Nat->Env->Mm->Prop)(h0:J 0 env M)
    (hs:∀(k:Nat) d env M,ds[k]? =some d->J k env M->i<env.length/\Step (J (k + 1)) Q (body (env.set i (.val d)) M)) (hd:∀env M,J ds.length env M->Q (some (.nx env,M))):Q (loopS i body ds env M):=by
  have key:∀(m k:Nat) (env:Env) (M:Mm),m + k=ds.length->J k env M->Q (loopS i body (ds.drop k) env M):=by
    intro m
    induction m with
    |zero=>
      intro k env M hk hJ;have e:k=ds.length:=by omega
      subst e;rw[Us];exact hd env M hJ
    |succ m ih=>
      intro k env M hk hJ;have hlt:k<ds.length:=by omega
      obtain⟨hi,h1⟩:=hs k ds[k] env M (RV hlt) hJ;rw[Uj hlt];simp only[loopS,hi,T6]
      cases e:body (env.set i (.val ds[k])) M with
      |none=>rw[e]at h1;exact h1.elim
      |some o=>
        rw[e]at h1;obtain⟨o,M'⟩:=o
        cases o with
        |nx e'=>exact ih (k + 1) e' M' (by omega) h1
        |ct e'=>exact ih (k + 1) e' M' (by omega) h1
        |bk e'=>exact h1
        |rt d=>exact h1
        |ex c n=>exact h1
  have:=key ds.length 0 env M (by omega) h0
  rwa [List.drop_zero]at this
end E3
namespace E3
open PySem PySem.Spec PyProof.Rows L2
noncomputable def XN (H:Hp) (n:Int):Option Addr->Prop
 |none=>n=0
 |some d=>∃fs,H d=some (.xd fs)/\fs.lookup ("at":Str)=some (.int (n - 1))/\n≠0
noncomputable def XQ (K:Fgx) (mg:Mgx) (P:Pl) (H:Hp) (M':Mm) (Q:VK) (E:XK):Res->Prop
 |.v d=>∀P' v H',LtE P H P' H'->Hk K mg P' H' M'->Is K P' H' d v->Q v H'
 |.x c n=>∀P' H' C dx,LtE P H P' H'->Hk K mg P' H' M'->mg c=some (.ref C)->XN H' n dx->E (.ref C) dx H'
noncomputable def vp (K:Fgx) (mg:Mgx) (n:Nat) (g:G):Sp:=fun vs H Q E=>vs.length=n/\∃P M ds r M',Hk K mg P H M/\au K P H ds vs/\g ds M=some (r,M')/\XQ K mg P H M' Q E r
mutual
theorem Is.away {K:Fgx}{P:Pl}{H H':Hp}(s:∀b o,H b=some o->(∀g,o≠ .ext g)->H' b=some o):∀{d:D} {v:V},Is K P H d v->Is K P H' d v
  |.non,_,h=>h
  |.bl _,_,h=>h
  |.int _,_,h=>h
  |.str _,_,h=>h
  |.tup ds,_,h=>by
    obtain⟨a,vs,e,q,r⟩:=h;refine⟨a,vs,e,?_,au.away s r⟩;rcases q with(q |⟨o,q⟩) |q
    · exact .inl (.inl (s _ _ q fun _ z=>nomatch z))
    · exact .inl (.inr ⟨o,s _ _ q fun _ z=>nomatch z⟩)
    · exact .inr q
  |.lst ds,_,h=>by
    obtain⟨a,vs,e,q,r⟩:=h;refine⟨a,vs,e,?_,au.away s r⟩;rcases q with⟨n,q |⟨o,q⟩⟩ |q
    · exact .inl ⟨n,.inl (s _ _ q fun _ z=>nomatch z)⟩
    · exact .inl ⟨n,.inr ⟨o,s _ _ q fun _ z=>nomatch z⟩⟩
    · exact .inr q
  |.ref k,_,h=>h
theorem au.away {K:Fgx}{P:Pl}{H H':Hp}(s:∀b o,H b=some o->(∀g,o≠ .ext g)->H' b=some o):∀{ds:List D} {vs:List V},au K P H ds vs->au K P H' ds vs
  | [],_,h=>h
  |_::_,_,h=>by
    obtain⟨v,r,e,p,q⟩:=h;exact⟨v,r,e,Is.away s p,au.away s q⟩
end
theorem Hk.away {K:Fgx}{mg:Mgx}{P:Pl}{H H':Hp}{M:Mm}(h:Hk K mg P H M)(s:∀b o,H b=some o->(∀g,o≠ .ext g)->H' b=some o)(t:∀b,H' b=none->H b=none):Hk K mg P H' M:=by
  refine⟨h.n,fun k c e=>?_,h.inj,h.bd,fun a z q=>h.here a z (t a q)⟩;have:=h.cell k c e
  cases c with
  |lst ds=>
    obtain⟨vs,e1,q⟩:=this;exact⟨vs,s _ _ e1 (fun _ z=>nomatch z),au.away s q⟩
  |obj c fs=>
    obtain⟨C,dx,gs,e1,e2,e3,q⟩:=this;exact⟨C,dx,gs,e1,s _ _ e2 (fun _ z=>nomatch z),e3,au.away s q⟩
  |dct kvs=>
    obtain⟨vs,e1,e2,q⟩:=this;exact⟨vs,s _ _ e1 (fun _ z=>nomatch z),e2,au.away s q⟩
  |dcf kvs=>
    obtain⟨vs,ob,es,ep,e1,eD,e2,q⟩:=this;exact⟨vs,ob,es,ep,s _ _ e1 (fun _ z=>nomatch z),eD,e2,au.away s q⟩
structure XFit (X:Cx)(Wx:XW):Prop where
 xr:∀pins σ H s a C dx c n P0 H0 P M,Inv X pins σ H s->H a=some (xo a C dx true)->¬ P.bd a->H0 a=none->LtE P0 H0 P H->Hk X.K X.mg P H M->X.mg c=some (.ref C)->XN H n dx->Wx P0 H0 M c n->X.xe (.ref a) s
section
variable {P:Program}{w:World}{K:Fgx}{mg:Mgx}{base:Heap}{k:Nat}{x qual:Str}{st:Stmt}{f:Addr}{fd:FuncData}{N ps:List Str}{b:S}
theorem Gn (F:FnOk P w K mg base (mV P w) k f fd ps sp):FnOk P w K mg base dJ k f fd ps (fun vs H Q _=>sp vs H Q E0):=
 ⟨fun vs H Q E h=>F.len vs H Q E0 h,fun A outer s H args us vs Q E hr he hb hv hs=>Uu (F.run A outer s H args us vs Q E0 hr he hb hv hs) fun r s' z=>by
  cases r with
  |error e=>obtain⟨_,_,_,_,_,_,_,_,_,_,_,_,_,_,z⟩:=z;exact z
  |ok fl=>cases fl<;>exact z⟩
theorem wQ (F:FnOk P w K mg base (mV P w) k f fd ps (vp K mg n g)):FnOk P w K mg base dJ k f fd ps (iu K mg n g):=by
 have F0:=Gn F;refine⟨fun vs H Q E h=>F0.len vs H Q E ?_,fun A outer s H args us vs Q E hr he hb hv hs=>F0.run A outer s H args us vs Q E hr he hb hv ?_⟩
 ·obtain⟨hl,P,M,ds,d,M',hk,is,e,q⟩:=h;exact⟨hl,P,M,ds,.v d,M',hk,is,e,q⟩
 ·obtain⟨hl,P,M,ds,d,M',hk,is,e,q⟩:=hs;exact⟨hl,P,M,ds,.v d,M',hk,is,e,q⟩
def nM (P:Program)(w:World)(K:Fgx)(mg:Mgx)(base:Heap)(k:Nat)(C:Addr)(m:Str)(n:Nat)(g:G):Prop:=
 ∃f fd ps,Meth K C m f/\FnOk P w K mg base (mV P w) k f fd ps (vp K mg n g)/\Binds K fd ps []
def nJ (P:Program)(w:World)(K:Fgx)(mg:Mgx)(base:Heap)(k:Nat)(C:Addr)(n:Nat)(g:G):Prop:=
 ∃f fd ps,Mk K C f/\FnOk P w K mg base (mV P w) k f fd ps (vp K mg n g)/\Binds K fd ps []
def iB (P:Program)(w:World)(K:Fgx)(mg:Mgx)(base:Heap)(k:Nat)(f:Str)(n:Nat)(g:G):Prop:=
 ∃fa fd ps,mg f=some (.ref fa)/\PySem.W.keepIn K (.ref fa)=true/\FnOk P w K mg base (mV P w) k fa fd ps (vp K mg n g)/\Binds K fd ps []
theorem nM.quiet (a:nM P w K mg base k C m n g):bI P w K mg base k C m n g:=by
 obtain⟨f,fd,ps,h1,h2,h3⟩:=a;exact⟨f,fd,ps,h1,wQ h2,h3⟩
theorem nJ.quiet (a:nJ P w K mg base k C n g):fV P w K mg base k C n g:=by
 obtain⟨f,fd,ps,h1,h2,h3⟩:=a;exact⟨f,fd,ps,h1,wQ h2,h3⟩
theorem iB.quiet (a:iB P w K mg base k x n g):bH P w K mg base k x n g:=by
 obtain⟨fa,fd,ps,h1,h2,h3,h4⟩:=a;exact⟨fa,fd,ps,[],[],_,h1,h2,wQ h3,h4,.nil,fun vs H Q E h=>by rw[Ti];exact h⟩
theorem iB.mono (a:iB P w K mg base j x n g)(h:j<=k):iB P w K mg base k x n g:=by
 obtain⟨f,fd,ps,h1,h2,h3,h4⟩:=a;exact⟨f,fd,ps,h1,h2,h3.mono h,h4⟩
end
end E3
namespace L2
open PySem PySem.Spec PyProof.Rows
section
variable {X:Cx}{CX:cR}{k:Nat}{f C:Addr}{fd:FuncData}{ps:List Str}{sp:Sp}{x m:Str}{p pos apos:Pos}{e o:Expr}{es:List Expr}{ta:TE}{t:TA}{Ex:St->XK}
def En (CX:cR)(X:Cx)(Ex:St->XK):Prop:=∀pins σ H s e s',Inv X pins σ H s->CX X.stack H s (Ex σ) e s'->X.xe e s'
end
end L2
namespace E3
open PySem PySem.Spec PyProof.Rows L2
section
variable {X:Cx}{Wx:XW}{pos:Pos}
def SX (X:Cx)(e:Expr)(f:E):Prop:=∀Ex:L2.St->XK,En (mV X.prog X.w) X Ex->PE X e fun st H Q=>∃P0 H0 P Os env M r M',Ok X.K X.mg P0 H0 P Os H M st env/\f env M=some (r,M')/\XQ X.K X.mg P H M' Q (Ex st) r
noncomputable def QZ (K:Fgx) (mg:Mgx) (E:XK) (P0:Pl) (H0:Hp) (P:Pl) (H:Hp) (M':Mm) (D:Ends):Out->Prop
 |.ex c n=>∀P' H' C dx,LtE P H P' H'->Hk K mg P' H' M'->mg c=some (.ref C)->XN H' n dx->E (.ref C) dx H'
 |.nx env=>Post K mg W0 P0 H0 P H M' D (.nx env)
 |.bk env=>Post K mg W0 P0 H0 P H M' D (.bk env)
 |.ct env=>Post K mg W0 P0 H0 P H M' D (.ct env)
 |.rt d=>Post K mg W0 P0 H0 P H M' D (.rt d)
end
end E3
namespace L2
open PySem PySem.Spec PyProof.Rows
end L2
namespace E3
open PySem PySem.Spec PyProof.Rows L2
section
variable {X:Cx}{Wx:XW}{m:Mode}{pos:Pos}
noncomputable def pZ (f:E):S:=fun env M=>bC (f env M) fun d M1=>match d with
  | .ref j => (match M1[j]? with
    |some (.lst _)=>some (.nx env,M1.set j (.lst []))
    |_=>none)
  |_=>none
theorem Pb (ho:SE X Wx .val o f)(hbase:attributeBase o "clear" X.env (eval o X.env)=eval o X.env:=by rfl)
  (hline:(p.endLine==q.line)=true:=by rfl) (hw:swapsWith (.Call (.Attribute o "clear" p) [] [] q) none pos.line X.env=pure false:=by rfl):
  SS X Wx (.Expr (.Call (.Attribute o "clear" p) [] [] q) pos) (pZ f):=by
 refine kh (Kr (JV PySem.F.plainAttrs_list PySem.F.slot_list_clear PySem.F.type_list_clear Hz ho hbase hline) hw) ?_;rintro D st H ⟨P0,H0,P,Os,env,M,out,M',k,e,q⟩;unfold pZ at e;rcases gK e with⟨d,M1,e1,e⟩ |⟨c,n,e1,rfl⟩
 ·cases d<;>simp only[reduceCtorEq]at e
  rename_i j;split at e
  ·rename_i ds em;cases e;refine⟨P0,H0,P,Os,env,M,_,_,k,e1,fun P1 v1 H1 l1 h1 i1=>?_⟩;obtain⟨jl,rfl⟩:j<P1.n/\v1=.ref (P1.io j):=i1;obtain⟨vs,ev,_⟩:=h1.cell j _ em;refine⟨.inl ⟨rfl,vs,.inl (.inl ev)⟩,_,vs,rfl,rfl,ev,?_⟩;obtain⟨l3,l3e,h3⟩:=h1.set (c':=.lst []) (o':=.lst []) em ⟨[],cH,rfl⟩;exact q _ _ _ _ ((l1.lt k.hk).trans l3) ((k.next l1 h1).next l3e h3)
  ·cases e
 ·exact⟨P0,H0,P,Os,env,M,_,_,k,e1,q⟩
end
theorem QM {K:Fgx}{C:Addr}(h1:PySem.W.findIn K (.ref C) "__getattribute__"=some (some (.builtin "BaseException.__getattribute__")))(h2:PySem.W.findIn K (.ref C) "__getattr__"=some none)(h3:PySem.W.mroIn K C (.type "BaseException")=some true):vL K C=true:=by
 simp only[vL,h1,h2,h3,Te,Vx]
theorem QS {K:Fgx}{C:Addr}(h1:vL K C=true)(h2:PySem.W.hasDictIn K C=true)(h3:PySem.W.findIn K (.ref C) "__class__"=some (some (.builtin "object.__class__")))(h4:PySem.W.specialIn K (.builtin "object.__class__") "__get__"=some (some (.builtin "getset_descriptor.__get__")))
  (h5:PySem.W.takesIn K (.builtin "object.__class__")=some true) (h6:PySem.W.mroIn K C (.type "object")=some true):vM K C=true:=by
 simp only[vM,h1,h2,h3,h4,h5,h6,Te,Vx]
end E3
namespace E3
open PySem L2
section
variable {env:Env}{M M1 M2:Mm}{f g o v:E}{d e x:D}{i:Int}{k:Nat}{ds:List D}{s t:S}{c me fl:Str}{fs:List (Str×D)}{gg:G}{fa:EA}
theorem yh (h:M[k]? =some (.obj c fs)):lZ M c (.ref k)=some (k,fs):=by unfold lZ;simp only[h,T6]
theorem FW (h1:o env M=some (.v (.ref k),M1))(h2:M1[k]? =some (.obj c fs))(h3:fs.lookup fl=some x):cU c fl o env M=some (.v x,M1):=by
 simp only[cU,bnd,h1,yh h2,h3,Ug]
theorem Gb (h1:v env M=some (.v x,M1))(h2:o env M1=some (.v (.ref k),M2))(h3:M2[k]? =some (.obj c fs))(h4:fs.length<1000):nA c fl o v env M=some (.nx env,M2.set k (.obj c (putD fl x fs))):=by
 simp only[nA,bC,h1,h2,yh h3,h4,T6]
theorem fP (h1:o env M=some (.v (.ref k),M1))(h2:M1[k]? =some (.obj c fs))(h3:fs.lookup me=none)(h4:fa env M1=some (.v ds,M2))(h5:gg (.ref k::ds) M2=some (.v x,M3)):aU c me gg o fa env M=some (.v x,M3):=by
 simp only[aU,bnd,h1,yh h2,h3,T6,bQ,h4,h5]
theorem Ht (h4:fa env M=some (.v ds,M1))(h5:gg (.ref M1.length::ds) (M1 ++ [.obj c []])=some (.v .non,M3)):mJ c gg fa env M=some (.v (.ref M1.length),M3):=by
 simp only[mJ,bQ,h4,h5]
theorem Ey (h1:f env M=some (.v (.ref k),M1))(h2:M1[k]? =some (.lst ds0)):pZ f env M=some (.nx env,M1.set k (.lst [])):=by
 simp only[pZ,bC,h1,h2]
theorem Nt {a:Int}:cO (some (.ex c a,M))=some (.x c a,M):=rfl
end
theorem fV.mono (a:fV P w K mg base j C n g)(h:j<=k):fV P w K mg base k C n g:=by
 obtain⟨f,fd,ps,h1,h2,h3⟩:=a;exact⟨f,fd,ps,h1,h2.mono h,h3⟩
end E3
namespace E3
open PySem PySem.Spec PyProof.Rows L2
theorem za (hN:X.N[i]? =some x)(hv:rP X.env.scope x)(hd:(x==("__debug__":Str))=false:=by x_go)(hcd:(x==("__classdict__":Str))=false:=by x_go):SE X Wx m (.Name x pos) (aj i):=(Ds hN hv hd hcd).bor
noncomputable def bZ (cs:List (Str×Nat)) (env:Env):Env:=cs.map fun p=>(env[p.2]?).getD .un
noncomputable def dU (cs:List (Str×Nat)) (Os:List (Option Addr)):List (Option Addr):=cs.map fun p=>(Os[p.2]?).join
section
variable {K:Fgx}{mg:Mgx}{P0 P:Pl}{H0 H:Hp}{M:Mm}{Os:List (Option Addr)}{st:L2.St}{env:Env}{d:D}{v:V}
theorem wB {cs:List (Str×Nat)}{i:Nat}{a:Addr}(h:(dU cs Os)[i]? =some (some a)):∃p,cs[i]? =some p/\Os[p.2]? =some (some a):=by
 unfold dU at h;rw[R7,RM]at h;obtain⟨p,e,h⟩:=h;exact⟨p,e,Bw h⟩
theorem Ok.cap {cs:List (Str×Nat)}(k:Ok K mg P0 H0 P Os H M st env)(nd:(cs.map (·.2)).Nodup)(h:Is K P H d v):Ok K mg P0 H0 P (none::dU cs Os) H M (some v::cT cs st) (.val d::bZ cs env) where
  hk:=k.hk
  base:=k.base
  b0:=k.b0
  slot:=fun i s e=>by
    cases i with
    |zero=>cases e;exact⟨v,rfl,h⟩
    |succ i=>
      rw[Um]at e ⊢;rw[Um];unfold bZ at e;rw[R7,RM]at e;obtain⟨p,ep,e⟩:=e;have eo:((dU cs Os)[i]?).join=(Os[p.2]?).join:=by unfold dU;rw[R7,ep];rfl
      have es:((cT cs st)[i]?).join=(st[p.2]?).join:=by unfold cT;rw[R7,ep];rfl
      rw[eo,es]
      cases e':env[p.2]? with
      |none=>rw[e']at e;cases e;exact True.intro
      |some s'=>rw[e']at e;cases e;exact k.slot _ _ e'
  own:=fun a h=>by
    rw[Sy]at h;rcases h with h |h
    · cases h
    · obtain⟨i,hi⟩:=List.mem_iff_getElem?.mp h;obtain⟨p,_,e⟩:=wB hi;exact k.own a (Ua e)
  inj:=fun i j a e1 e2=>by
    cases i with
    |zero=>cases e1
    |succ i=>
      cases j with
      |zero=>cases e2
      |succ j=>
        rw[Um]at e1 e2;obtain⟨p,h1,h2⟩:=wB e1;obtain⟨q,h3,h4⟩:=wB e2;have e:=k.inj _ _ a h2 h4;congr 1;have hi:(cs.map (·.2))[i]? =some p.2:=by rw[R7,h1];rfl
        have hj:(cs.map (·.2))[j]? =some p.2:=by rw[R7,h3,e];rfl
        have il:=(RX.mp hi).1;exact(List.getElem?_inj il nd).mp (hi.trans hj.symm)
  olen:=by simp[dU,bZ]
  slen:=by simp[cT,bZ]
end
section
variable {X:Cx}{Wx:XW}{m:Mode}{pos:Pos}
noncomputable def cY (q e:E) (env:Env):List D->List D->Mm->Option (List D×Mm)
  | [],acc,M=>some (acc,M)
  |d::ds,acc,M=>match q (.val d::env) M with
    | some (.v (.bl true), M1) => (match e (.val d::env) M1 with
      |some (.v y,M2)=>if acc.length + 1<sizeLine then cY q e env ds (acc ++ [y]) M2 else none
      |_=>none)
    |some (.v (.bl false),M1)=>cY q e env ds acc M1
    |_=>none
noncomputable def gY (cs:List (Str×Nat)) (fs:EA) (q e:E):E:=fun env M=>match fs env M with
  | some (.v ds, M1) => (match cY q e (bZ cs env) ds [] M1 with
    |some (ys,M2)=>some (.v (.lst ys),M2)
    |none=>none)
  |some (.x c n,M1)=>some (.x c n,M1)
  |none=>none
theorem wF:∀env M r M',gY cs fs q e env M=some (.v r,M')->∃ds,r=.lst ds:=fun env M r M' h=>by
 unfold gY at h;split at h
 ·split at h
  ·cases h;exact⟨_,rfl⟩
  ·cases h
 ·cases h
 ·cases h
theorem Gx {K:Fgx}{mg:Mgx}{P1 P:Pl}{H1 H:Hp}{M:Mm}{D:Addr}{vs vs':List V}(l:LtE P1 H1 P H)(h:Hk K mg P H M)(hD:H1 D=none)(bD:P.bd D)(nc:∀k,k<P.n->P.io k≠D)(e:H D=some (.lst vs)):
  Lt P H P (upd H D (.lst vs'))/\LtE P1 H1 P (upd H D (.lst vs'))/\Hk K mg P (upd H D (.lst vs')) M:=by
 have lc:Lt P H P (upd H D (.lst vs')):=sX bD e BX;refine⟨lc,⟨l.n,l.io,l.bd,l.bm,fun c o ec n=>?_,fun c z=>l.sure c (lc.sure c z),l.nw⟩,⟨h.n,fun j c ej=>(h.cell j c ej).lt lc fun o eo=>?_,h.inj,h.bd,fun c z q=>h.here c z (lc.sure c q)⟩⟩
 ·rw[aZ (fun z=>by subst z;rw[hD]at ec;cases ec)];exact l.keep c o ec n
 ·rw[aZ (nc j (by rw[h.n];exact(RX.mp ej).1))];exact eo
noncomputable def NR (K:Fgx) (mg:Mgx) (Wx:XW) (P0:Pl) (H0:Hp) (P:Pl) (H:Hp) (M':Mm) (R:Addr->Hp->Prop):Res->Prop
 |.v d=>∃ds,d=.lst ds/\∀P' a vs H',LtE P H P' H'->Hk K mg P' H' M'->H a=none->P'.bd a->(∀k,k<P'.n->P'.io k≠a)->H' a=some (.lst vs)->au K P' H' ds vs->R a H'
 |.x c n=>Wx P0 H0 M' c n
theorem Fy {K:Fgx}{mg:Mgx}{cs:List (Str×Nat)}{fs:EA}{q e:E}{P0 P:Pl}{H0 H:Hp}{Os:List (Option Addr)}{M M':Mm}{st:L2.St}{env:Env}{r:Res}{R:Addr->Hp->Prop}(nd:(cs.map (·.2)).Nodup)
    (k:Ok K mg P0 H0 P Os H M st env) (h:gY cs fs q e env M=some (r,M')) (w:NR K mg Wx P0 H0 P H M' R r):zA (tI K mg Wx fs) (mQ K mg W0 q) (tE K mg W0 .val e) cs st H R:=by
  unfold gY at h;split at h
  · rename_i ds M1 ef;split at h
    rotate_left
    · cases h
    rename_i ys M2 ec;cases h;obtain ⟨ds', e', w⟩ := w;cases e';refine ⟨P0, H0, P, Os, env, M, _, _, k, ef, fun P1 H1 J l1 h1 wk D hD => ?_⟩;obtain ⟨l2, h2, nc⟩ := sI (vs := []) h1 hD;refine ⟨fun i m vs H2=>m=ds.length - i/\i<=ds.length/\∃P2 M3 acc,LtE P1 H1 P2 H2/\Hk K mg P2 H2 M3/\P2.bd D/\(∀k,k<P2.n->P2.io k≠D)/\H2 D=some (.lst vs)/\au K P2 H2 acc vs/\acc.length<sizeLine/\cY q e (bZ cs env) (ds.drop i) acc M3=some (ys,M'),
      ⟨ds.length,by simp,Ud _,P1.bar D,M1,[],l2,h2,.inr rfl,nc,cH,rfl,by x_go,by rw[List.drop_zero];exact ec⟩,?_⟩
    rintro i m vs H2 ⟨rfl,hi,P2,M3,acc,l3,h3,bD,nD,eD,is,hz,ec⟩;refine⟨eD,?_⟩;obtain⟨w1,w2,w3⟩:=wk P2 H2 (l3.lt h1)
    by_cases hlt:i<ds.length
    · refine .inr ⟨w1 i hlt,by rw[is.len];exact hz,fun vs' H'=>∃P2 M3 acc,LtE P1 H1 P2 H'/\Hk K mg P2 H' M3/\P2.bd D/\(∀k,k<P2.n->P2.io k≠D)/\H' D=some (.lst vs')/\au K P2 H' acc vs'/\acc.length<sizeLine/\cY q e (bZ cs env) (ds.drop (i + 1)) acc M3=some (ys,M'),
        fun vs' H' z=>⟨ds.length - (i + 1),by omega,rfl,hlt,z⟩,fun x H' y=>?_⟩
      obtain⟨e3,d,ed,iv⟩:=w3 i x H' y hlt;subst e3;have ed':ds.drop i=d::ds.drop (i + 1):=by
        rw[Uj hlt];rw[RV hlt]at ed;rw[R0 ed]
      rw[ed']at ec;have kk:=((k.next l1 h1).next l3 h3).cap (cs:=cs) nd iv
      simp only[cY]at ec;split at ec
      · rename_i M4 eq;refine iw kk eq ⟨true,rfl,fun P4 H4 l4 h4=>?_⟩;dsimp only;rw[RW rfl];split at ec
        · rename_i y' M5 ee;split at ec
          · rename_i hz';refine aW (kk.next l4 h4) ee fun P5 v5 H5 l5 h5 i5=>?_
            have l45:=l4.trans l5;have eD5:H5 D=some (.lst vs):=l45.keep D _ eD (.inr nD);have nD5:∀k,k<P5.n->P5.io k≠D:=l45.nc eD nD;obtain⟨g1,g2,g3⟩:=Gx (vs':=vs ++ [v5]) (l3.trans l45) h5 hD (l45.bm D bD) nD5 eD5;refine⟨eD5,P5,M5,acc ++ [y'],g2,g3,l45.bm D bD,nD5,cH,au.append (au.lt ((l45.lt h3).trans g1) is) (au.one (Is.lt g1 i5)),by rw[Ss];exact hz',ec⟩
          · cases ec
        · cases ec
      · rename_i M4 eq;refine iw kk eq ⟨false,rfl,fun P4 H4 l4 h4=>?_⟩;dsimp only;rw[R5 (by decide)];exact⟨P4,M4,acc,l3.trans l4,h4,l4.bm D bD,l4.nc eD nD,l4.keep D _ eD (.inr nD),au.lt (l4.lt h3) is,hz,ec⟩
      · cases ec
    · have ei:i=ds.length:=by omega
      subst ei;rw[Us]at ec;cases ec;exact .inl ⟨w2 _ (RN _) (RN _),w P2 D vs H2 (l1.trans l3) h3 (l1.sure D hD) bD nD eD is⟩
  · rename_i c n M1 ef;cases h;exact⟨P0,H0,P,Os,env,M,_,_,k,ef,w⟩
  · cases h
def SQ (X:Cx)(ifs:List Expr)(q:E):Prop:=gC X ifs (mQ X.K X.mg W0 q)
theorem zj:SQ X [] (ao (.bl true)):=fun pins s σ H Q I h=>by
 obtain⟨P0,H0,P,Os,env,M,r,M',k,e,q⟩:=h;cases e;obtain⟨b,e2,q⟩:=q;cases e2;exact Kl pins s σ H Q I (q P H (LtE.refl P H) k.hk)
section
variable {elt iter:Expr}{ifs:List Expr}{scope:Scope}{fs:EA}{q e:E}
theorem zf (x:Str)(cs:List (Str×Nat))(hc:X.calm=true)(nd:(cs.map (·.2)).Nodup)(hi:SI X Wx (.Name x px) iter fs)
  (hq:∀(cl:List (Str×Addr)) (C:Addr) (s₀:Shared) (H₀:Hp) (ex:List Addr) (pn:Pnx),SQ (dB X (x::cs.map (·.1)) scope cl C s₀ H₀ ex pn) ifs q)
  (he:∀(cl:List (Str×Addr)) (C:Addr) (s₀:Shared) (H₀:Hp) (ex:List Addr) (pn:Pnx),SE (dB X (x::cs.map (·.1)) scope cl C s₀ H₀ ex pn) W0 .val elt e)
  (ok:sJ X.N X.env.scope x cs scope=true:=by kernel_rfl) (hs:∀x,foldedSetIterable iter X.env x=pure x:=by intro _;rfl):
  SN X Wx (.ListComp elt [⟨.Name x px,iter,ifs,0⟩] scope pos) (gY cs fs q e):=by
 refine bV (JZ (tq:=mQ X.K X.mg W0 q) (te:=tE X.K X.mg W0 .val e) x cs hc hi hq he ok hs) ?_;rintro st H Q ⟨P0,H0,P,Os,env,M,r,M',k,e,w⟩;refine Fy nd k e ?_
 cases r with
 |v d=>exact w
 |x c n=>exact w
end
end
section
variable {X:Cx}{Wx:XW}{m:Mode}{pos:Pos}
inductive ResP where
 |v (ps:List (D×D)) |x (c:Str) (n:Int)
noncomputable def cV (M:Mm) (d:D):String:=match d with
  | .ref k => (match M[k]? with
    |some (.lst _)=>"list"
    |some (.dct _)=>"dict"
    |_=>"")
  |d=>rH d
noncomputable def cG (tb:String->String->Option Bool) (T:String) (f:E):E:=fun env M=>bnd (f env M) fun d M1=>if cV M1 d="" then none else(tb (cV M1 d) T).map fun b=>(.v (.bl b),M1)
theorem E_:cI X (.builtin "isinstance") (fun xs H Q=>∃(x:V) (T:String) (d:D) (P:Pl) (M:Mm) (b:Bool),xs=[x,.ty T]/\Hk X.K X.mg P H M/\bW X.K P H d x/\cV M d≠""/\PySem.W.kitOne X.K (.type (cV M d)) (.type T)=some b/\Q (.bl b) H):=by
  intro pins s σ H xs us Q I r h;obtain⟨x,T,d,P,M,b,rfl,hk,i,ne,e,q⟩:=h;have old:cV M d=rH (vw M d)->wpAny (model X.prog X.w) X.A (call (.builtin "isinstance") us) (EP X pins σ Q) X.xe s:=fun et=>by
    rw[et]at ne e;exact EY pins s σ H _ us Q I r ⟨x,T,vw M d,P,b,rfl,bW.vw hk i,ne,e,q⟩
  cases d with
  |ref k=>
    cases em:M[k]? with
    |none=>simp[cV,em]at ne
    |some c=>
      cases c with
      |lst ds=>exact old (by simp[cV,vw,em,rH])
      |obj c fs=>simp[cV,em]at ne
      |dcf kvs=>simp[cV,em]at ne
      |dct kvs=>
        obtain⟨u,w',rfl,rx,rT⟩:=vals2 r;cases rT;obtain⟨kl,rfl⟩:k<P.n/\x=.ref (P.io k):=i;cases rx;obtain⟨vs,ev,_⟩:=hk.cell k _ em;obtain⟨_,_,vs',_,o,es,ep,h1,h2,_⟩:=I.hok _ _ ev;simp only[cV,em]at e;exact Sd Va I.kIn ⟨o,h1,h2.1⟩ e (fun z=>nomatch z) fun tk=>⟨.bl b,H,I.tok _,rfl,q⟩
  |non=>exact old rfl
  |bl _=>exact old rfl
  |int _=>exact old rfl
  |str _=>exact old rfl
  |tup _=>exact old rfl
  |lst _=>exact old rfl
theorem mL (ht:∀t b,tb t T=some b->PySem.W.kitOne X.K (.type t) (.type T)=some b)(he:SE X Wx .bor e f)(hg:Gl X "isinstance")(hm:X.mg "isinstance"=none)(hg':Gl X (Str.ofString T))(hm':X.mg (Str.ofString T)=none)(hT:bootBuiltins (Str.ofString T)=some (.type T))
  (n1:Str.ofString T≠"__name__":=by x_go) (n2:(Str.ofString T==("__debug__":Str))=false:=by x_go) (hs:starEach [e,.Name (Str.ofString T) p'] X.env=(false,eval e X.env)::starEach [.Name (Str.ofString T) p'] X.env:=by rfl):
  SE X Wx m (.Call (.Name "isinstance" p) [e,.Name (Str.ofString T) p'] [] pos) (cG tb T f):=by
 have pT:PE X (.Name (Str.ofString T) p') (tC (.ty T)):=JT hg' hm' hT rfl n1 n2;refine bV (Ci E_ hg hm boot_isinstance (tU he (tU pT yr) hs) (by x_go) (by x_go) hs rfl) ?_;rintro st H Q ⟨P0,H0,P,Os,env,M,r,M',k,e,q⟩;unfold cG at e;rcases cM e with⟨d,M1,e1,e⟩ |⟨c,n,e1,rfl⟩
 ·split at e
  ·cases e
  ·rename_i hne;rw[RM]at e;obtain⟨b,eb,e⟩:=e;cases e;exact aW k e1 fun P1 v1 H1 l1 h1 i1=>⟨v1,T,d,P1,_,b,rfl,h1,i1,hne,ht _ _ eb,q P1 _ H1 l1 h1 (cg.of h1 (show Is _ _ _ (.bl b) _ from rfl))⟩
 ·exact aW k e1 q
end
section
variable {X:Cx}{Wx:XW}{m:Mode}{pos:Pos}
noncomputable def setAt (M:Mm) (d y x:D):Option Mm:=match d with
  | .ref j => (match y with
    | .int i => (match M[j]? with
      | some (.lst ds) => (match dZ ds.length i with
        |some n=>some (M.set j (.lst (ds.set n x)))
        |none=>none)
      |_=>none)
    |_=>none)
  |_=>none
theorem Oz (h:setAt M d y x=some M'):∃j i ds n,d=.ref j/\y=.int i/\M[j]? =some (.lst ds)/\dZ ds.length i=some n/\M'=M.set j (.lst (ds.set n x)):=by
 unfold setAt at h;split at h
 ·split at h
  ·split at h
   ·rename_i em;split at h
    ·rename_i en;cases h;exact⟨_,_,_,_,rfl,rfl,em,en,rfl⟩
    ·cases h
   ·cases h
  ·cases h
 ·cases h
noncomputable def g8 (f g v:E):S:=fun env M=>bC (v env M) fun x M1=>bC (f env M1) fun d M2=>bC (g env M2) fun y M3=>match setAt M3 d y x with
 |some M4=>some (.nx env,M4)
 |none=>none
theorem Dz (ho:SE X Wx .val o f)(hi:SE X Wx .val i g)(he:SE X Wx .val e v)
  (ha : ∀ v, assign (.Subscript o i pos') X.env v = (do
   let ov <-holding [v] (eval o X.env)
   let iv <-holding [v,ov] (eval i X.env)
   standAt pos'
   holding [v,ov,iv] (setItem ov iv v)
   release [v,ov,iv] []):=by intro _;rfl)
  (hs:swapsWithSole [.Subscript o i pos'] e pos.line X.env=pure false:=by rfl) (hw:swappedStores [.Subscript o i pos'] e X.env=pure none:=by rfl) (h1:(assignEach [.Subscript o i pos'] X.env).map (·.2)=[assign (.Subscript o i pos') X.env]:=by rfl):
  SS X Wx (.Assign [.Subscript o i pos'] e pos) (g8 f g v):=by
 refine kh (Kq he (Kf ho hi set_list ha) hs hw h1) ?_;rintro D st H ⟨P0,H0,P,Os,env,M,out,M',k,e,q⟩;unfold g8 at e;rcases gK e with⟨x,M1,e1,e⟩ |⟨c,n,e1,rfl⟩
 ·refine aW k e1 fun P1 v1 H1 l1 h1 i1=>?_;have k1:=k.next l1 h1
  rcases gK e with⟨d,M2,e2,e⟩ |⟨c,n,e2,rfl⟩
  ·refine aW k1 e2 fun P2 v2 H2 l2 h2 i2=>?_;have k2:=k1.next l2 h2
   rcases gK e with⟨y,M3,e3,e⟩ |⟨c,n,e3,rfl⟩
   ·refine aW k2 e3 fun P3 v3 H3 l3 h3 i3=>?_;split at e
    ·rename_i M4 ea;cases e;obtain⟨j,i,ds,n,rfl,rfl,em,en,rfl⟩:=Oz ea;cases i3;obtain⟨jl,rfl⟩:j<P2.n/\v2=.ref (P2.io j):=i2;obtain⟨vs,ev,is⟩:=h3.cell j _ em;have jl3:j<P3.n:=RJ jl l3.n;have eio:P3.io j=P2.io j:=l3.io j jl;have ix:=Is.lt ((l2.lt h1).trans (l3.lt h2)) i1;have lc:Lt P3 H3 P3 (upd H3 (P3.io j) (.lst (vs.set n v1))):=sX (h3.bd j jl3) ev BX;obtain⟨l4,l4e,h4⟩:=h3.set (c':=.lst (ds.set n x)) (o':=.lst (vs.set n v1)) em ⟨_,cH,au.set n (au.lt lc is) (Is.lt lc ix)⟩;rw[eio]at l4 l4e h4 ev;refine⟨_,vs,i,n,rfl,rfl,ev,by rw[is.len];exact en,?_⟩;exact q _ _ _ _ ((l1.lt k.hk).trans ((l2.lt h1).trans ((l3.lt h2).trans l4))) ((k2.next l3 h3).next l4e h4)
    ·cases e
   ·exact aW k2 e3 q
  ·exact aW k1 e2 q
 ·exact aW k e1 q
end
end E3
namespace E3
open PySem L2
section
variable {env:Env}{M M1 M2:Mm}{f g o v:E}{d e x:D}{i:Int}{k:Nat}{ds es:List D}{s t:S}{z:Str}{fa:EA}{b:Bool}
noncomputable def wD:Option (List D×Mm)->O
 |some (ys,M)=>some (.v (.lst ys),M)
 |none=>none
noncomputable def Al (q e:E) (env:Env):Option (ResA×Mm)->O
 |some (.v ds,M1)=>wD (cY q e env ds [] M1)
 |some (.x c n,M1)=>some (.x c n,M1)
 |none=>none
theorem Le {cs:List (Str×Nat)}{q e:E}:gY cs fa q e env M=Al q e (bZ cs env) (fa env M):=rfl
theorem Nh {q e:E}:Al q e env (some (.v ds,M))=wD (cY q e env ds [] M):=rfl
theorem Ni:wD (some (ds,M))=some (.v (.lst ds),M):=rfl
theorem Am {q e : E} (F : D -> Option D) : ∀ (ds acc : List D), (∀d∈ds,match F d with
    |some y=>q (.val d::env) M=some (.v (.bl true),M)/\e (.val d::env) M=some (.v y,M)
    |none=>q (.val d::env) M=some (.v (.bl false),M))->acc.length + ds.length<sizeLine->cY q e env ds acc M=some (acc ++ ds.filterMap F,M)
  | [],acc,_,_=>by simp[cY]
  |d::ds,acc,h,hl=>by
    have hd:=h d (by simp);have hr:∀acc',acc'.length + ds.length<sizeLine->cY q e env ds acc' M=some (acc' ++ ds.filterMap F,M):=fun acc' hl'=>Am F ds acc' (fun d' hd'=>h d' (by simp[hd'])) hl';rw[Sw]at hl
    cases hF:F d with
    |none=>
      rw[hF]at hd;simp only[cY,hd,Tw,hF];exact hr acc (by omega)
    |some y=>
      rw[hF]at hd;simp only[cY,hd.1,hd.2,Tw,hF];rw[RW (by omega),hr (acc ++ [y]) (by rw[Ss,T7];omega)]
      simp
theorem comp_map {e:E}(F:D->D)(ds:List D)(h:∀d∈ds,e (.val d::env) M=some (.v (F d),M))(hl:ds.length<sizeLine):cY (ao (.bl true)) e env ds [] M=some (ds.map F,M):=by
 rw[Am (fun d=>some (F d)) ds [] (fun d hd=>⟨rfl,h d hd⟩) (by simpa using hl),List.filterMap_eq_map'];rfl
theorem Lb:bZ [] env=[]:=rfl
theorem La {x:Str}{n:Nat}{cs:List (Str×Nat)}:bZ ((x,n)::cs) env=(env[n]?).getD .un::bZ cs env:=rfl
noncomputable def cQ (tb:String->String->Option Bool) (T:String) (M:Mm) (ty:String):O:=if ty="" then none else(tb ty T).map fun b=>(.v (.bl b),M)
noncomputable def pG (tb:String->String->Option Bool) (T:String) (r:O):O:=bnd r fun d M=>cQ tb T M (cV M d)
theorem Lk {tb:String->String->Option Bool}{T:String}:cG tb T f env M=pG tb T (f env M):=rfl
theorem Nx {tb:String->String->Option Bool}{T:String}:pG tb T (some (.v d,M))=cQ tb T M (cV M d):=rfl
theorem ty_int:cV M (.int i)="int":=rfl
theorem ty_str:cV M (.str z)="str":=rfl
theorem Qi:cV M (.bl b)="bool":=rfl
theorem Qk:cV M .non="NoneType":=rfl
theorem Ql:cV M (.tup ds)="tuple":=rfl
theorem Qj:cV M (.lst ds)="list":=rfl
theorem Qs {tb:String->String->Option Bool}{T:String}:cQ tb T M "int"=(tb "int" T).map fun b=>(.v (.bl b),M):=rfl
theorem Qv {tb:String->String->Option Bool}{T:String}:cQ tb T M "str"=(tb "str" T).map fun b=>(.v (.bl b),M):=rfl
theorem zO {tb:String->String->Option Bool}{T:String}:cQ tb T M "bool"=(tb "bool" T).map fun b=>(.v (.bl b),M):=rfl
theorem Qu {tb:String->String->Option Bool}{T:String}:cQ tb T M "NoneType"=(tb "NoneType" T).map fun b=>(.v (.bl b),M):=rfl
theorem Qw {tb:String->String->Option Bool}{T:String}:cQ tb T M "tuple"=(tb "tuple" T).map fun b=>(.v (.bl b),M):=rfl
theorem Qt {tb:String->String->Option Bool}{T:String}:cQ tb T M "list"=(tb "list" T).map fun b=>(.v (.bl b),M):=rfl
theorem Qq {tb:String->String->Option Bool}{T:String}:cQ tb T M "dict"=(tb "dict" T).map fun b=>(.v (.bl b),M):=rfl
theorem Bm {M3:Mm}{j:Nat}(h0:v env M=some (.v x,M1))(h1:f env M1=some (.v (.ref k),M2))(h2:g env M2=some (.v (.int i),M3))(h3:M3[k]? =some (.lst ds))(h4:dZ ds.length i=some j):g8 f g v env M=some (.nx env,M3.set k (.lst (ds.set j x))):=by
 simp only[g8,bC,setAt,h0,h1,h2,h3,h4]
end
end E3
namespace L2
open PySem PySem.Spec PyProof.Rows
end L2
namespace E3
open PySem PySem.Spec PyProof.Rows L2
section
variable {es:List Expr}{env:PySem.Env}{pos:Pos}
theorem eH:starEach (.Constant c k pos::es) env=(false,eval (.Constant c k pos) env)::starEach es env:=by rfl
theorem bN:starEach (.Name x pos::es) env=(false,eval (.Name x pos) env)::starEach es env:=by rfl
theorem vq:starEach (.BinOp a o b pos::es) env=(false,eval (.BinOp a o b pos) env)::starEach es env:=by rfl
theorem gq:starEach (.Call f as ks pos::es) env=(false,eval (.Call f as ks pos) env)::starEach es env:=by rfl
theorem Pj:starEach (.Attribute a x pos::es) env=(false,eval (.Attribute a x pos) env)::starEach es env:=by rfl
theorem lq:starEach (.Subscript a b pos::es) env=(false,eval (.Subscript a b pos) env)::starEach es env:=by rfl
theorem rA:starEach (.Tuple as k pos::es) env=(false,eval (.Tuple as k pos) env)::starEach es env:=by rfl
theorem Pk:starEach (.List as pos::es) env=(false,eval (.List as pos) env)::starEach es env:=by rfl
theorem DG:starEach (.ListComp a gs sc pos::es) env=(false,eval (.ListComp a gs sc pos) env)::starEach es env:=by rfl
end
end E3
namespace L2
open PySem PySem.Spec PyProof.Rows
end L2
namespace E3
open PySem PySem.Spec PyProof.Rows L2
structure XPass (X:Cx)(Wx:XW):Prop where
 xc:∀pins σ H s a C dx T c n P0 H0 P M,Caught X pins σ H s a C dx T->LtE P0 H0 P H->Hk X.K X.mg P H M->X.mg c=some (.ref C)->XN H n dx->Wx P0 H0 M c n->X.xe (.ref a) s
section
variable {K:Fgx}{P:Pl}{H:Hp}
noncomputable def lR:List D->Option (List Int)
 | []=>some []
 |.int i::ds=>(lR ds).map (i:: ·)
 |_::_=>none
theorem Bp:∀{ds:List D} {is:List Int} {vs:List V},lR ds=some is->au K P H ds vs->vs=is.map V.int
  | [],_,_,e,h=>by cases e;exact h
  |d::ds,is,vs,e,h=>by
    obtain⟨v,r,rfl,i,h⟩:=h
    cases d with
    |int n=>
      simp only[lR,RM]at e;obtain⟨is',e',rfl⟩:=e;cases i;rw[Bp e' h];rfl
    |_=>simp[lR]at e
theorem ints_map:∀(is:List Int),lR (is.map D.int)=some is
 | []=>rfl
 |i::is=>by simp[lR,ints_map is]
noncomputable def lF:List D->Option (List Bool)
 | []=>some []
 |.bl b::ds=>(lF ds).map (b:: ·)
 |_::_=>none
theorem Ac:∀{ds:List D} {bs:List Bool} {vs:List V},lF ds=some bs->au K P H ds vs->vs=bs.map V.bl
  | [],_,_,e,h=>by cases e;exact h
  |d::ds,bs,vs,e,h=>by
    obtain⟨v,r,rfl,i,h⟩:=h
    cases d with
    |bl n=>
      simp only[lF,RM]at e;obtain⟨bs',e',rfl⟩:=e;cases i;rw[Ac e' h];rfl
    |_=>simp[lF]at e
noncomputable def gH:List D->Option D
 | [.int i]=>if i.natAbs.log2<1920 then some (.str (toString i)) else none
 |_=>none
theorem KZ:fX K (fun xs H Q=>∃i,xs=[.int i]/\i.natAbs.log2<1920/\Q (.str (toString i)) H) gH:=fun P H ds z vs Q h i _ q=>by
 unfold gH at h;split at h
 ·split at h
  ·rename_i hl;obtain⟨v,ws,rfl,p,rfl⟩:=i;cases h;cases p;exact⟨_,rfl,hl,q _ H (Same.refl H) rfl⟩
  ·cases h
 ·cases h
noncomputable def fB:List D->Option D
 | [.lst ds]=>(lF ds).map fun bs=>.bl (bs.all id)
 |_=>none
theorem KQ:fX K (fun xs H Q=>∃(p:Addr) (bs:List Bool),xs=[.ref p]/\bf K H p (bs.map V.bl)/\Q (.bl (bs.all id)) H) fB:=fun P H ds z vs Q h i _ q=>by
 unfold fB at h;split at h
 ·rw[RM]at h;obtain⟨is,ei,rfl⟩:=h;obtain⟨v,ws,rfl,p,rfl⟩:=i;obtain⟨a,us,rfl,r,s⟩:=p;rw[Ac ei s]at r;exact⟨a,is,rfl,r,q _ H (Same.refl H) rfl⟩
 ·cases h
noncomputable def gJ:List D->Option D
 | [.lst ds]=>some (.tup ds)
 | [.tup ds]=>some (.tup ds)
 |_=>none
theorem K3:fX K (fun xs H Q=>∃p ys,xs=[.ref p]/\((bf K H p ys/\∀l,H l=none->Q (.ref l) (upd H l (.tup ys)))\/(cW K H p ys/\Q (.ref p) H))) gJ:=fun P H ds z vs Q h i _ q=>by
 unfold gJ at h;split at h
 ·obtain⟨v,ws,rfl,p,rfl⟩:=i;cases h;obtain⟨a,us,rfl,r,s⟩:=p;exact⟨a,us,rfl,.inl ⟨r,HD s q⟩⟩
 ·obtain⟨v,ws,rfl,p,rfl⟩:=i;cases h;obtain⟨a,us,rfl,r,s⟩:=p;exact⟨a,us,rfl,.inr ⟨r,q _ H (Same.refl H) ⟨a,us,rfl,r,s⟩⟩⟩
 ·cases h
end
def gj:S:=fun _ _=>none
theorem Pg (h:PS X s fun _ _ _=>False):SS X Wx s gj:=kh h fun D st H ⟨_,_,_,_,_,_,_,_,_,e,_⟩=>by cases e
theorem Ks:PS X s fun _ _ _=>False:=fun pins s σ H D I h=>h.elim
theorem lg:SS X Wx s gj:=Pg Ks
inductive KRows (K:Fgx)(w:World):List (Str×D)->List DictEntry->List (Key×Value)->Prop
 |nil:KRows K w [] [] []
 |cons {z:Str} {d:D} {t:Tok} {u:Value} {v:V} {hs:Int} {tb:List (Str×D)} {es:List DictEntry} {vs:List (Key×Value)}:hs=hashStr w z->RelV v u->(∀P H,Is K P H d v)->KRows K w tb es vs->KRows K w ((z,d)::tb) (⟨hs,.str z t,u⟩::es) ((.inr z,u)::vs)
def KTab (K:Fgx)(w:World)(a:Addr)(tb:List (Str×D)):Prop:=∃o es ep vs,K.lookup a=some o/\o.ExactDict/\o.data=.dict es ep/\KRows K w tb es.toList vs/\(tb.map (·.1)).Nodup/\(a==sysModules)=false
end E3
namespace L2
open PySem PySem.Spec PyProof.Rows
def QX (h:Heap)(a t:Addr)(i:Int):Prop:=∃o,h.get? a=some o/\o.cls=.type "reversed"/\o.data=.fields #[.ref t,rawInt i]
end L2
namespace E3
open PySem PySem.Spec PyProof.Rows L2
section
variable {X:Cx}{Wx:XW}{m:Mode}{pos:Pos}
theorem Br {K:Fgx}{a:Addr}{o:Obj}{its:Array Value}{n:Nat}{ds:List D}{vs:List V}(l:K.lookup a=some o)(c:o.cls=.type "tuple")(e:o.data=.seq its n)(z:its.size<=sizeLine)(r:Vals vs its.toList)(i:∀P H,au K P H ds vs):∀P H,Is K P H (.tup ds) (.ref a):=
 fun P H=>⟨a,vs,rfl,.inr ⟨o,its,n,l,c,e,z,r⟩,i P H⟩
def lA (P:Program)(w:World)(K:Fgx)(mg:Mgx)(base:Heap)(k:Nat)(C:Addr)(m:Str)(n:Nat)(g:G):Prop:=
 ∃f fd ps ds dvs sp,Meth K C m f/\FnOk P w K mg base dJ k f fd ps sp/\Binds K fd ps ds/\Vals dvs ds/\∀vs H Q E,iu K mg n g vs H Q E->sp (vs ++ dvs) H Q E
theorem lA.mono {P:Program}{w:World}{K:Fgx}{mg:Mgx}{base:Heap}{j k:Nat}{C:Addr}{m:Str}{n:Nat}{g:G}(a:lA P w K mg base j C m n g)(h:j<=k):lA P w K mg base k C m n g:=by
 obtain⟨f,fd,ps,ds,dvs,sp,h1,h2,h3⟩:=a;exact⟨f,fd,ps,ds,dvs,sp,h1,h2.mono h,h3⟩
structure OwnIs (K:Fgx)(C:Addr):Prop where
 ca:PySem.W.findIn K (.ref C) "__class__"=some (some (.builtin "object.__class__"))
 gt:PySem.W.specialIn K (.builtin "object.__class__") "__get__"=some (some (.builtin "getset_descriptor.__get__"))
 tk:PySem.W.takesIn K (.builtin "object.__class__")=some true
 mr:PySem.W.mroIn K C (.type "object")=some true
 me:PySem.W.kitOne K (.ref C) (.ref C)=some true
end
end E3
namespace E3
open PySem L2
noncomputable def dg (n:Nat):List Nat:=(Nat.toDigits 10 n).map Char.toNat
theorem Ax (h1:1<=k)(h:n<10 ^ k):(dg n).length<=k:=by
 rw[dg,R3];exact toDigits_len_pow (by decide) h1 h
noncomputable def mO (i:Int):Str:=Str.ofString (toString i)
theorem O3 (h:0<=i):(mO i).cps.toList=dg i.toNat:=by
 have:=W.KIN.signs_num i.toNat;rw[Int.toNat_of_nonneg h]at this;exact this
theorem O2 (h:i<0):(mO i).cps.toList=45::dg i.natAbs:=by
 obtain⟨m,rfl⟩:∃m,i=Int.negSucc m:=by
  cases i with
  |ofNat n=>exact absurd h (by simp)
  |negSucc m=>exact⟨m,rfl⟩
 unfold mO dg;rw[PyProof.Rows.signs_ofString];show List.map Char.toNat ("-" ++ toString (m + 1)).toList=_;rw[String.toList_append,Vh,Nat.toString_eq_ofList_toDigits]
 simp
theorem O1 (h1:1<=k)(h:i.natAbs<10 ^ k):(mO i).length<=k + 1:=by
 show(mO i).cps.size<=k + 1;rw[<-Tz]
 by_cases h0:0<=i
 ·rw[O3 h0];have:=Ax (n:=i.toNat) h1 (by rw[<-Int.natAbs_of_nonneg h0]at *;simpa using h);omega
 ·rw[O2 (by omega),Sw];have:=Ax h1 h;omega
noncomputable def cd (s:Str):List Nat:=s.cps.toList
theorem Ho (h:n<340282366920938463463374607431768211456):n.log2<1920:=by
 by_cases h0:n=0
 ·rw[h0];decide
 ·have:=(Nat.log2_lt h0 (k:=128)).mpr h;omega
section
variable {env:Env}{M M1:Mm}{f g h c:E}{d e:D}{i j:Int}{n k:Nat}{z:Str}{b:Bool}{ds es:List D}{s t:S}{x:Str}{fa:EA}{u:G}
theorem Nb {q:D->Mm->OS}:fD q (some (.x x i,M))=some (.ex x i,M):=rfl
theorem M9 {q:D->Mm->O}:dD q (some (.x x i,M))=some (.x x i,M):=rfl
theorem M7 {q:List D->Mm->O}:fu q (some (.x x i,M))=some (.x x i,M):=rfl
theorem Np {q:Mm->Option (ResA×Mm)}:wG q (some (.x x i,M))=some (.x x i,M):=rfl
theorem Nk:gM d (some (.x x i,M))=some (.x x i,M):=rfl
theorem QC (h:M[k]? =some (.lst ds)):vw M (.ref k)=.lst ds:=by unfold vw;simp only[h]
theorem Ij {y:Str}:cF (.str z) (.str y)=if z.length + y.length<=sizeLine then some (.str (z ++ y)) else none:=rfl
theorem Iw:aY (.str z) (.int i)=if z.length<=sizeLine then(cj z.cps.toList i).map fun c=>.str ⟨#[c]⟩ else none:=rfl
theorem IV:bB [.str z]=if z.length<=sizeLine then some (.int z.length) else none:=rfl
theorem Ji:gH [.int i]=if i.natAbs.log2<1920 then some (.str (toString i)) else none:=rfl
theorem Jm:gJ [.lst ds]=some (.tup ds):=rfl
theorem Io {y:Str}:aD .isin (.str z) (.str y)=some (.bl (sS z y)):=rfl
theorem Je {y:Str}:aD .notin (.str z) (.str y)=some (.bl (!sS z y)):=rfl
theorem Il {y:Str}:aD .eq (.str z) (.str y)=some (.bl (decide (z=y))):=by
 unfold aD bJ i_;rw[RW (by constructor<;>first |rfl |simp[D.dep])]
 have:(z==y)=decide (z=y):=by rw[S5];simp
 simp[D.eq,this]
theorem Jd {y:Str}:aD .ne (.str z) (.str y)=some (.bl (!decide (z=y))):=by
 unfold aD bJ mZ;rw[RW (by constructor<;>first |rfl |simp[D.dep])]
 have:(z==y)=decide (z=y):=by rw[S5];simp
 simp[D.eq,this]
theorem Ip:aD .same .non .non=some (.bl true):=rfl
theorem Ir:aD .other (.int i) .non=some (.bl true):=rfl
theorem Iu:aD .other .non .non=some (.bl false):=rfl
noncomputable def nG (k:Nat) (t:S) (ds:List D):OS->OS
 |some (.nx e,M1)=>loopS k t ds e M1
 |some (.ct e,M1)=>loopS k t ds e M1
 |some (.bk e,M1)=>some (.nx e,M1)
 |some (.rt d,M1)=>some (.rt d,M1)
 |some (.ex c n,M1)=>some (.ex c n,M1)
 |none=>none
theorem Lp:loopS k t [] env M=some (.nx env,M):=rfl
theorem Lq:loopS k t (d::ds) env M=if k<env.length then nG k t ds (t (env.set k (.val d)) M) else none:=rfl
theorem Od {e':Env}:nG k t ds (some (.nx e',M))=loopS k t ds e' M:=rfl
theorem Oc {e':Env}:nG k t ds (some (.ct e',M))=loopS k t ds e' M:=rfl
theorem Ob {e':Env}:nG k t ds (some (.bk e',M))=some (.nx e',M):=rfl
theorem Oe:nG k t ds (some (.rt d,M))=some (.rt d,M):=rfl
theorem Og:nG k t ds (some (.ex x i,M))=some (.ex x i,M):=rfl
theorem at0 {α:Type}{a:α}{xs:List α}:cj (a::xs) 0=some a:=mY (j:=0) rfl
theorem at1 {α:Type}{a b:α}{xs:List α}:cj (a::b::xs) 1=some b:=mY (j:=1) rfl
theorem at2 {α:Type}{a b c:α}{xs:List α}:cj (a::b::c::xs) 2=some c:=mY (j:=2) rfl
theorem Eo {α:Type}{a b c d:α}{xs:List α}:cj (a::b::c::d::xs) 3=some d:=mY (j:=3) rfl
theorem Bj {M:Mm}{cl:Cl}:(M ++ [cl])[M.length]? =some cl:=List.getElem?_concat_length ..
theorem s_end {M:Mm}{cl cl':Cl}:(M ++ [cl]).set M.length cl'=M ++ [cl']:=by simp
theorem w_end {M:Mm}:vw (M ++ [.lst ds]) (.ref M.length)=.lst ds:=QC Bj
theorem FP {α β:Type}(f:α->β)(xs:List α)(lo hi:Option Int):cN (xs.map f) lo hi=(cN xs lo hi).map f:=by
 unfold cN;rw[R3, <-List.map_drop, <-List.map_take]
theorem FJ {α:Type}(xs:List α){i:Int}(h:0<=i):cN xs (some i) none=xs.drop i.toNat:=by
 obtain⟨k,rfl⟩:∃k:Nat,i=k:=⟨i.toNat,by omega⟩;unfold cN;rw[HT.Om,HT.Ol];rw[List.take_of_length_le (by rw[List.length_drop];omega),Vb]
 by_cases hk:k<=xs.length
 ·rw[Nat.min_eq_left hk]
 ·rw[Nat.min_eq_right (by omega),Us,List.drop_of_length_le (by omega)]
end
end E3
namespace L2
open PySem PySem.Spec PyProof.Rows
end L2
namespace E3
open PySem PySem.Spec PyProof.Rows L2
end E3
namespace L2
open PySem PySem.Spec PyProof.Rows
end L2
namespace E3
open PySem PySem.Spec PyProof.Rows L2
end E3
namespace L2
open PySem PySem.Spec PyProof.Rows
end L2
namespace E3
open PySem PySem.Spec PyProof.Rows L2
section
variable {X:Cx}{Wx:XW}{m:Mode}{pos:Pos}
open Classical in
end
end E3
namespace E3
open PySem PySem.Spec PyProof.Rows L2
section
variable {X:Cx}{Wx:XW}{m:Mode}{pos:Pos}{K:Fgx}
theorem au.rep {P:Pl}{H:Hp}{ds:List D}{vs:List V}(h:au K P H ds vs):∀n:Nat,au K P H (List.replicate n ds).flatten (List.replicate n vs).flatten
  |0=>rfl
  |n + 1=>by
    rw[S8,S8,Tr,Tr];exact h.append (au.rep h n)
noncomputable def eG (f g:E):E:=fun env M=>bnd (f env M) fun d M1=>match d with
  |.lst ds=>bnd (g env M1) fun e M2=>match e with
    |.int i=>if i.natAbs<=100000/\ds.length<=100 then some (.v (.lst (List.replicate i.toNat ds).flatten),M2) else none
    |_=>none
  |_=>none
theorem Ow {a b:Expr}{f g:E}(hl:SN X Wx a f)(hr:SE X Wx .val b g):SE X Wx m (.BinOp a .Mult b pos) (eG f g):=by
 refine bV (yt Ce hl hr) ?_;rintro st H Q ⟨P0,H0,P,Os,env,M,r,M',k,e,q⟩;unfold eG at e;rcases cM e with⟨d,M1,e1,e⟩ |⟨c,n,e1,rfl⟩
 ·split at e
  ·rename_i ds;refine⟨P0,H0,P,Os,env,M,_,_,k,e1,ds,rfl,fun P1 a vs H1 l1 h1 ha ba nc ea is=>?_⟩;rcases cM e with⟨d2,M2,e2,e⟩ |⟨c,n,e2,rfl⟩
   ·split at e
    ·rename_i i;split at e
     ·rename_i hi;cases e;refine⟨P0,H0,P1,Os,env,M1,_,_,k.next l1 h1,e2,fun P2 v2 H2 l2 h2 i2=>?_⟩
      have ev:v2=.int i:=i2;subst ev;have e3:=l2.keep a _ ea (.inr nc);have is2:=au.lt (l2.lt h1) is;have ln:vs.length=ds.length:=is.len;refine⟨a,i,vs,rfl,rfl,e3,by omega,by omega,?_,xX h2.new (is2.rep _) fun u H' s z=>q P2 u H' (l1.trans (l2.trans (LtE.same s))) (h2.same s) (cg.of (h2.same s) z)⟩;rw[Uc,ln];have:ds.length * i.toNat<=100 * 100000:=Nat.mul_le_mul hi.2 (by omega);omega
     ·cases e
    ·cases e
   ·exact⟨P0,H0,P1,Os,env,M1,_,_,k.next l1 h1,e2,q⟩
  ·cases e
 ·exact⟨P0,H0,P,Os,env,M,_,_,k,e1,q⟩
end
section
variable {env:Env}{M:Mm}{f g:E}{d:D}{i:Int}{ds es:List D}{fa:EA}{x:Str}{k:Nat}
noncomputable def mF (k:Mm->O) (M:Mm):D->O
  | .lst ds => dD (fun e M2=>match e with
    |.int i=>if i.natAbs<=100000/\ds.length<=100 then some (.v (.lst (List.replicate i.toNat ds).flatten),M2) else none
    |_=>none) (k M)
  |_=>none
theorem LK:eG f g env M=dD (fun d M1=>mF (g env) M1 d) (f env M):=rfl
theorem N7 {q:Mm->O}(h:q M=some (.v (.int i),M))(hi:i.natAbs<=100000/\ds.length<=100):mF q M (.lst ds)=some (.v (.lst (List.replicate i.toNat ds).flatten),M):=by
 unfold mF;rw[h];exact RW hi
end
end E3
namespace L2
open PySem PySem.Spec PyProof.Rows
end L2
namespace E3
open PySem PySem.Spec PyProof.Rows L2
end E3
namespace E3
end E3
namespace E3
open PySem PySem.Spec PyProof.Rows L2
mutual
def D.nr:D->Bool
 |.tup xs=>D.nrs xs
 |.lst xs=>D.nrs xs
 |.ref _=>false
 |_=>true
def D.nrs:List D->Bool
 | []=>true
 |a::as=>D.nr a && D.nrs as
end
noncomputable def Pf:Pl:=⟨fun _=>0,0,fun _=>False⟩
section
variable {K:Fgx}{mg:Mgx}{P P':Pl}{H H':Hp}{M:Mm}
mutual
theorem Is.fre:∀{d:D} {v:V},D.nr d=true->Is K P H d v->Is K Pf H d v
 |.non,_,_,h=>h
 |.bl _,_,_,h=>h
 |.int _,_,_,h=>h
 |.str _,_,_,h=>h
 |.tup _,_,n,h=>by obtain⟨a,vs,e,s,q⟩:=h;exact⟨a,vs,e,s,au.fre n q⟩
 |.lst _,_,n,h=>by obtain⟨a,vs,e,s,q⟩:=h;exact⟨a,vs,e,s.imp (fun z=>⟨fun z=>z,z.2⟩) id,au.fre n q⟩
 |.ref _,_,n,_=>by cases n
theorem au.fre:∀{ds:List D} {vs:List V},D.nrs ds=true->au K P H ds vs->au K Pf H ds vs
  | [],_,_,h=>h
  |_::_,_,n,h=>by
    obtain⟨v,r,e,p,q⟩:=h;have n:=Vv.mp n;exact⟨v,r,e,Is.fre n.1 p,au.fre n.2 q⟩
end
mutual
theorem Is.lf_any:∀{d:D} {v:V},D.lf d=true->Is K P H d v->Is K P' H d v
 |.non,_,_,h=>h
 |.bl _,_,_,h=>h
 |.int _,_,_,h=>h
 |.str _,_,_,h=>h
 |.tup _,_,n,h=>by obtain⟨a,vs,e,s,q⟩:=h;exact⟨a,vs,e,s,au.lf_any n q⟩
 |.lst _,_,n,_=>by cases n
 |.ref _,_,n,_=>by cases n
theorem au.lf_any:∀{ds:List D} {vs:List V},D.lfs ds=true->au K P H ds vs->au K P' H ds vs
  | [],_,_,h=>h
  |_::_,_,n,h=>by
    obtain⟨v,r,e,p,q⟩:=h;have n:=Vv.mp n;exact⟨v,r,e,Is.lf_any n.1 p,au.lf_any n.2 q⟩
end
end
section
variable {X:Cx}{Wx:XW}{m:Mode}{pos:Pos}
theorem cZ (hr:Room k X.A)(h:X.A.units + 60<cLine->SB X Wx ss b):SB X Wx ss b:=h (Nat.lt_of_le_of_lt (Nat.add_le_add_left (by decide) _) hr.units)
theorem dH {e:Expr}{es:List Expr}{x:Str}{id:String}{r:List V->Hp->VK->Prop}{o:List D->Option D}{fs:EA}{p:Pos}(hc:cI X (.builtin id) r)(hg:Gl X x)(hm:X.mg x=none)(hv:bootBuiltins x=some (.builtin id))(po:fX X.K r o)(ha:SA X Wx .bor (e::es) fs)
  (hn:x≠"__name__":=by x_go) (hdb:(x==("__debug__":Str))=false:=by x_go) (he:starEach (e::es) X.env=(false,eval e X.env)::starEach es X.env:=by rfl) (hpl:(backTo pos (starEach es X.env)).any (·.1)=false:=by rfl):SE X Wx m (.Call (.Name x p) (e::es) [] pos) (sN o fs):=
 Dp (fun _ ha=>Ci hc hg hm hv ha hn hdb he hpl) po ha
theorem Dq (hc:cI X (.type T) r)(hg:Gl X x)(hm:X.mg x=none)(hv:bootBuiltins x=some (.type T))(po:fX X.K r o)(ha:SA X Wx .bor (e::es) fs)
  (hn:x≠"__name__":=by x_go) (hdb:(x==("__debug__":Str))=false:=by x_go) (he:starEach (e::es) X.env=(false,eval e X.env)::starEach es X.env:=by rfl) (hpl:(backTo pos (starEach es X.env)).any (·.1)=false:=by rfl):SE X Wx m (.Call (.Name x p) (e::es) [] pos) (sN o fs):=
 Dp (fun _ ha=>Cj hc hg hm hv ha hn hdb he hpl) po ha
end
section
variable (P:Program)(w:World)(K:Fgx)(mg:Mgx)(base:Heap)(k:Nat)(f:Addr)(N:List Str)(q:Str)(st:Stmt)(b:S)
abbrev RT:Prop:=∀(cdv:Value) (A:Around) (outer:List PySem.Env) (s:Shared) (H:Hp) (E:XK),Room k (A.deeper (envOfC q (aO st) s.heap.objs.size f cdv))->SB (nZ P w K mg base N q st f cdv A outer s H E) W0 (bA st) b
end
theorem dh (h1:sc.kind=.function:=by rfl)(h2:sc.isCoroutine=false:=by rfl)(h3:sc.isGenerator=false:=by rfl)(h4:N.Nodup:=by x_go)(h5:N.take P.length=P:=by rfl)
  (h6:∀x∈P,sc.names.lookup x=some .local\/sc.names.lookup x=some .cell:=by x_go) (h7:∀y∈sc.names,y.2≠ .free:=by x_go):FnScope N P sc:=⟨h1,h2,h3,h4,h5,h6,h7⟩
abbrev LV (st:Stmt)(x:Str):Prop:=(aO st).names.lookup x=some .local
structure DefAt (K:Fgx)(mg:Mgx)(x:Str)(st:Stmt)(ps:List Str)(f:Addr)(fd:FuncData):Prop where
 mg:mg x=some (.ref f)
 F:FunD K x x st f fd
 b:Binds K fd ps []
theorem DefAt.ok {P:Program}{w:World}{K:Fgx}{mg:Mgx}{base:Heap}{k:Nat}{x:Str}{st:Stmt}{f:Addr}{fd:FuncData}{N ps:List Str}{b:S}(D:DefAt K mg x st ps f fd)(S:FnScope N ps (aO st))(hr:RT P w K mg base k f N x st b)(hp:ps.length<=N.length:=by decide):bH P w K mg base (k + 1) x ps.length (b_ N.length b):=Gj D.F S hp D.mg D.b hr
def cA (K:Fgx)(x:Str)(st:Stmt):Prop:=∃(f:Addr) (oc kV dc pm cd ct:Value) (od an:Option Addr) (sl:Array (Option Value)),PySem.W.nsIn K mainGlobals x=some (some (.ref f))/\K.lookup f=some ⟨oc,od,.func (PySem.W.fnOf x x (bK st) (bA st) (aO st) .none kV dc pm an cd ct),sl⟩/\PySem.W.codeIn K cd x=true/\PySem.W.keepIn K (.ref f)=true
theorem cA.mk {K:Fgx}{x:Str}{st:Stmt}{f:Addr}{oc kV dc pm cd ct:Value}{od an:Option Addr}{sl:Array (Option Value)}(a:PySem.W.nsIn K mainGlobals x=some (some (.ref f)))(l:K.lookup f=some ⟨oc,od,.func (PySem.W.fnOf x x (bK st) (bA st) (aO st) .none kV dc pm an cd ct),sl⟩)(c:PySem.W.codeIn K cd x=true)(k:PySem.W.keepIn K (.ref f)=true):cA K x st:=⟨f,oc,kV,dc,pm,cd,ct,od,an,sl,a,l,c,k⟩
theorem cA.at {K:Fgx}{h:Heap}{mg:Mgx}{x:Str}{st:Stmt}{ps:List Str}(F:cA K x st)(X:K.In h)(G:h.Ns mainGlobals mg)
  (hb:∀(kV doc pm:Value) (an:Option Addr) (cdv ct:Value) (us:List Value),us.length=ps.length->bindArgs (PySem.W.fnOf x x (bK st) (bA st) (aO st) .none kV doc pm an cdv ct) ⟨us,[]⟩=pure (ps.zip us)):∃f fd,DefAt K mg x st ps f fd:=by
 obtain⟨f,oc,kV,dc,pm,cd,ct,od,an,sl,a,l,c,k⟩:=F;exact⟨f,_,PySem.W.mg_of X G a,fH l c k,(fJ (st:=st) l c k).binds hb⟩
end E3
namespace L2
open PySem PySem.Spec PyProof.Rows
abbrev TH:=Ends->Addr->Addr->Option Addr->St->Hp->Prop
def HB (X:Cx)(hs:List ExceptHandler)(t:TH):Prop:=∀(pins:Pnx) (s:Shared) (σ:St) (H:Hp) (a C:Addr) (dx:Option Addr) (T:Addr) (D:Ends),
 Caught X pins σ H s a C dx T->eO X.K C=true->X.A.handled=none->t D C a dx σ H->wpAny (model X.prog X.w) X.A (handleBy (.ref a) X.env hs) (SP X pins D) X.xe s
end L2
namespace E3
open PySem PySem.Spec PyProof.Rows L2
abbrev HE:=Str->Int->Env->Mm->OS
section
variable {X:Cx}{Wx:XW}{m:Mode}{pos:Pos}
noncomputable def tH (X:Cx) (hh:HE):TH:=fun D C a dx st H=>∃P0 H0 P Os env M c n out M',Ok X.K X.mg P0 H0 P Os H M st env/\X.mg c=some (.ref C)/\zX X.K X.mg P H none (some (.ref a)) (.exc c n)/\hh c n env M=some (out,M')/\Post X.K X.mg W0 P0 H0 P H M' D out
def vP (out:Out):Prop:=(∃e,out=.nx e)\/∃d,out=.rt d
structure SH (X:Cx)(hs:List ExceptHandler)(hh:HE):Prop where
 hb:HB X hs (tH X hh)
 ok:∀c n env M out M',hh c n env M=some (out,M')->(∃C,X.mg c=some (.ref C)/\eO X.K C=true)/\vP out
variable {suite:List Stmt}{b0:Stmt}{cn n:Str}{np hp:Pos}{c:Addr}{i:Nat}{h:S}{hs:List ExceptHandler}{r:HE}{cat:Str->Option Bool}
end
end E3
namespace L2
open PySem PySem.Spec PyProof.Rows
section
variable {X:Cx}{e:Expr}{es:List Expr}{te:TE}{t:TA}{pos:Pos}
open Builtin Builtin.Str in
open Builtin Builtin.Str in
open Builtin Builtin.Str in
end
end L2
namespace E3
open PySem PySem.Spec PyProof.Rows L2
section
variable {X:Cx}{Wx:XW}{m:Mode}
theorem Sv {P:Program}{w:World}{K:Fgx}{mg:Mgx}{base:Heap}{N:List Str}{q:Str}{st:Stmt}{f:Addr}{cdv:Value}{A:Around}{outer:List PySem.Env}{s:Shared}{H:Hp}{E:XK}{i:Nat}{x:Str}{pos:Pos}(hN:N[i]? =some x:=by rfl)(hv:LV st x:=by kernel_rfl)(hd:(x==("__debug__":Str))=false:=by x_go)(hcd:(x==("__classdict__":Str))=false:=by x_go):SE (nZ P w K mg base N q st f cdv A outer s H E) Wx m (.Name x pos) (aj i):=yZ hN hv hd hcd
theorem Lv {P:Program}{w:World}{K:Fgx}{mg:Mgx}{base:Heap}{N:List Str}{q:Str}{st:Stmt}{f:Addr}{cdv:Value}{A:Around}{outer:List PySem.Env}{s:Shared}{H:Hp}{E:XK}{x:Str}(hv:LV st x:=by kernel_rfl):Loc (nZ P w K mg base N q st f cdv A outer s H E).env.scope x:=.inl hv
theorem Ei {i:Int}{j pos}:SE X Wx m (.Constant (.int i) j pos) (ao (.int i)):=p8 J2
theorem Es {z:Str}{j pos}:SE X Wx m (.Constant (.str z) j pos) (ao (.str z)):=yX Ka
theorem Eb {b:Bool}{j pos}:SE X Wx m (.Constant (.bool b) j pos) (ao (.bl b)):=yU JR
theorem Ek {a b:Expr}{pos:Pos}{f g:E}(ha:SE X Wx .bor a f)(hb:SE X Wx .bor b g)(hs:vQ b:=by exact fun _ _=>rfl):SE X Wx m (.Subscript a b pos) (s2 aY f g):=Ot G4 KR ha hb hs
theorem Cm {a b:Expr}{op:CmpOp}{c:Cp}{pos:Pos}{f g:E}(hu:X.A.units + 60<cLine)(ha:SE X Wx .bor a f)(hb:SE X Wx .bor b g)(ho:op=wH c:=by rfl)(hm:behindInMarks op b=false:=by rfl):SE X Wx m (.Compare a [op] [b] pos) (s2 (aD c) f g):=by subst ho;exact Oq (Ao hu c) Cu ha hb hm
theorem Ct {a b:Expr}{op:CmpOp}{c:Cp}{pos:Pos}{f g:E}(hu:X.A.units + 60<cLine)(ha:SE X Wx .bor a f)(hb:SE X Wx .bor b g)(ho:op=wH c:=by rfl)(hm:behindInMarks op b=false:=by rfl):ST X Wx (.Compare a [op] [b] pos) (s2 (aD c) f g):=by subst ho;exact Pn (Ao hu c) Cu ha hb hm
end
section
variable {P:Program}{w:World}{K:Fgx}{h base:Heap}{mg:Mgx}{k:Nat}{x:Str}{st:Stmt}{N ps:List Str}{b:S}
abbrev HB (x:Str)(st:Stmt)(ps:List Str):Prop:=∀(kV doc pm:Value) (an:Option Addr) (cdv ct:Value) (us:List Value),us.length=ps.length->bindArgs (PySem.W.fnOf x x (bK st) (bA st) (aO st) .none kV doc pm an cdv ct) ⟨us,[]⟩=pure (ps.zip us)
theorem Ed {a0:Str}(h:∀{kV doc pm:Value} {an:Option Addr} {cdv ct u0:Value},bindArgs (PySem.W.fnOf x x (bK st) (bA st) (aO st) .none kV doc pm an cdv ct) ⟨[u0],[]⟩=pure [(a0,u0)]):HB x st [a0]:=fun _ _ _ _ _ _ us hl=>match us,hl with | [_],_=>h
theorem Ef {a0 a1:Str}(h:∀{kV doc pm:Value} {an:Option Addr} {cdv ct u0 u1:Value},bindArgs (PySem.W.fnOf x x (bK st) (bA st) (aO st) .none kV doc pm an cdv ct) ⟨[u0,u1],[]⟩=pure [(a0,u0),(a1,u1)]):HB x st [a0,a1]:=fun _ _ _ _ _ _ us hl=>match us,hl with | [_,_],_=>h
theorem Eh {a0 a1 a2:Str}(h:∀{kV doc pm:Value} {an:Option Addr} {cdv ct u0 u1 u2:Value},bindArgs (PySem.W.fnOf x x (bK st) (bA st) (aO st) .none kV doc pm an cdv ct) ⟨[u0,u1,u2],[]⟩=pure [(a0,u0),(a1,u1),(a2,u2)]):HB x st [a0,a1,a2]:=fun _ _ _ _ _ _ us hl=>match us,hl with | [_,_,_],_=>h
theorem Ej {a0 a1 a2 a3:Str}(h:∀{kV doc pm:Value} {an:Option Addr} {cdv ct u0 u1 u2 u3:Value},bindArgs (PySem.W.fnOf x x (bK st) (bA st) (aO st) .none kV doc pm an cdv ct) ⟨[u0,u1,u2,u3],[]⟩=pure [(a0,u0),(a1,u1),(a2,u2),(a3,u3)]):HB x st [a0,a1,a2,a3]:=fun _ _ _ _ _ _ us hl=>match us,hl with | [_,_,_,_],_=>h
theorem El {a0 a1 a2 a3 a4:Str}(h:∀{kV doc pm:Value} {an:Option Addr} {cdv ct u0 u1 u2 u3 u4:Value},bindArgs (PySem.W.fnOf x x (bK st) (bA st) (aO st) .none kV doc pm an cdv ct) ⟨[u0,u1,u2,u3,u4],[]⟩=pure [(a0,u0),(a1,u1),(a2,u2),(a3,u3),(a4,u4)]):HB x st [a0,a1,a2,a3,a4]:=fun _ _ _ _ _ _ us hl=>match us,hl with | [_,_,_,_,_],_=>h
theorem cA.ok (F:cA K x st)(X:K.In h)(G:h.Ns mainGlobals mg)(S:FnScope N ps (aO st))(hr:∀f,RT P w K mg base k f N x st b)
  (hb:HB x st ps:=by first |exact Ed rfl |exact Ef rfl |exact Eh rfl |exact Ej rfl |exact El rfl) (hp:ps.length<=N.length:=by decide):bH P w K mg base (k + 1) x ps.length (b_ N.length b):=by
 obtain⟨f,d,D⟩:=F.at X G hb;exact D.ok S (hr f) hp
theorem bH.up {j n:Nat}{g:G}(a:bH P w K mg base j x n g)(h:j<=k:=by decide):bH P w K mg base k x n g:=a.mono h
theorem iB.up {j n:Nat}{g:G}(a:iB P w K mg base j x n g)(h:j<=k:=by decide):iB P w K mg base k x n g:=a.mono h
theorem fV.up {j n:Nat}{C:Addr}{g:G}(a:fV P w K mg base j C n g)(h:j<=k:=by decide):fV P w K mg base k C n g:=a.mono h
theorem bI.up {j n:Nat}{C:Addr}{m:Str}{g:G}(a:bI P w K mg base j C m n g)(h:j<=k:=by decide):bI P w K mg base k C m n g:=a.mono h
theorem gh {K:Fgx}{t:Addr}{d m s j0 j1 j2}{a b:Str}{i:Int}(l:K.lookup t=some ⟨.type "tuple",d,.seq #[.str a j0,.str b j1,.int i j2] m,s⟩):∀P H,Is K P H (.tup [.str a,.str b,.int i]) (.ref t):=Br (vs:=[.str a,.str b,.int i]) l rfl rfl (by show 3<=sizeLine;decide) (.cons ⟨_,rfl⟩ (.cons ⟨_,rfl⟩ (.cons ⟨_,rfl⟩ .nil))) (fun _ _=>⟨_,_,rfl,rfl,⟨_,_,rfl,rfl,⟨_,_,rfl,rfl,rfl⟩⟩⟩)
end
end E3
namespace L2
open PySem PySem.Spec PyProof.Rows
noncomputable def Q5 (N:List Str) (psc:Scope) (xs:List Str) (cs:List (Str×Nat)) (scope:Scope):Bool:=
 scope.kind==.function && xs.all (fun x=>scope.names.lookup x==some .local) && decide ((xs ++ cs.map (·.1)).Nodup) &&
 scope.names.all (fun y=>y.2 !=.cell && (y.2 !=.local || scope.names.lookup y.1==some .local) && (y.2 !=.free || (psc.names.lookup y.1==some .cell || psc.names.lookup y.1==some .free))) &&
 cs.all (fun p=>N[p.2]? ==some p.1 && (psc.names.lookup p.1==some .cell || psc.names.lookup p.1==some .free) && ((bR psc scope.names).lookup p.1==some .cell || (bR psc scope.names).lookup p.1==some .free))
structure CompOkT (N:List Str)(psc:Scope)(xs:List Str)(cs:List (Str×Nat))(scope:Scope):Prop where
 kind:scope.kind=.function
 own:∀x∈xs,scope.names.lookup x=some .local
 nd:(xs ++ cs.map (·.1)).Nodup
 cell:∀y∈scope.names,y.2≠ .cell
 names:∀y∈scope.names,y.2=.local->scope.names.lookup y.1=some .local
 has:∀y∈scope.names,y.2=.free->psc.names.lookup y.1=some .cell\/psc.names.lookup y.1=some .free
 cap:∀p∈cs,N[p.2]? =some p.1/\(psc.names.lookup p.1=some .cell\/psc.names.lookup p.1=some .free)/\((bR psc scope.names).lookup p.1=some .cell\/(bR psc scope.names).lookup p.1=some .free)
end L2
namespace E3
open PySem PySem.Spec PyProof.Rows L2
section
variable {X:Cx}{Wx:XW}{m:Mode}{pos:Pos}
open Classical in
end
end E3
namespace E3
open PySem PySem.Spec PyProof.Rows L2
end E3
namespace L2
open PySem PySem.Spec PyProof.Rows
end L2
namespace E3
open PySem PySem.Spec PyProof.Rows L2
end E3
namespace L2
open PySem PySem.Spec PyProof.Rows
end L2
namespace E3
open PySem PySem.Spec PyProof.Rows L2
end E3
namespace E3
open PySem L2
end E3
namespace L2
open PySem PySem.Spec PyProof.Rows
end L2
namespace E3
open PySem PySem.Spec PyProof.Rows L2
end E3
namespace E3
open PySem PySem.Spec PyProof.Rows L2 PySem.W
section
variable {n:Nat}{lt:Nat->Nat->Option Bool}{le:Nat->Nat->Prop}
def Pm (n:Nat)(p:Array Nat):Prop:=p.Perm (List.range n).toArray
def Up (le:Nat->Nat->Prop)(p:Array Nat)(m:Nat):Prop:=∀i j,i<=j->j<m->le (p.getD i 0) (p.getD j 0)
def Dn (le:Nat->Nat->Prop)(p:Array Nat)(m:Nat):Prop:=∀i j,i<=j->j<m->le (p.getD j 0) (p.getD i 0)
variable (hn:0<n)(rf:∀i,le i i)(tr:∀i j k,le i j->le j k->le i k)(H:∀i j,i<n->j<n->∃b,lt i j=some b/\(b=true->le i j)/\(b=false->le j i))
include rf tr
include hn H
end
end E3
namespace L2
open PySem PySem.Spec PyProof.Rows
section
variable {X:Cx}
theorem nY:X.calm=true->cI X (.builtin "min") (fun xs H Q=>∃(p:Addr) (is:List Int),xs=[.ref p]/\0<is.length/\bf X.K H p (is.map V.int)/\∀m,m∈is->(∀a∈is,m<=a)->Q (.int m) H):=by
 intro hc pins s σ H xs us Q I r h;obtain⟨p,is,rfl,hne,hq,q⟩:=h;obtain⟨u,rfl,rx⟩:=vals1 r;cases rx;obtain⟨its,rv,pl,hz⟩:=I.list hq;have hi:=GJ rv;have hn:=hi.numsOf;have hlen:=rv.length;rw[R3]at hlen;obtain⟨zs,hzs⟩:=hi.allInts.items;have hl:=pl.isList;have e1:numsOf its.toArray.toList=is:=hn;rw[hzs]at hl e1;have hs:0<zs.size:=by
  have:its.toArray.size=zs.size:=by rw[hzs];simp[intItems]
  rw[tG]at this;omega
 rw[nums_intItems]at e1;refine min_intList (I.ok.hd hc) hl hs fun v h' tk hv hk=>?_;obtain⟨t,rfl⟩:=intItems_at hv;obtain⟨h1,h2⟩:=argBest_lt (numAt zs) (zs.size - 1);refine⟨.int _,H,I.kept hk,⟨t,rfl⟩,q _ ?_ fun a ha=>?_⟩
 ·rw[<-e1,numAt_eq];exact getD_mem (by rw[R3,Tz];omega)
 ·rw[<-e1]at ha;obtain⟨j,hj,rfl⟩:=mem_getD ha;rw[R3,Tz]at hj;rw[<-numAt_eq];exact h2 j (by omega)
end
end L2
namespace E3
open PySem PySem.Spec PyProof.Rows L2
noncomputable def aF:List Int->Int
 | []=>0
 | [a]=>a
 |a::b::r=>min a (aF (b::r))
theorem wz {m:Int}:∀(l:List Int),l≠ []->(∀a∈l,m<=a)->m<=aF l
  | [],z,_=>absurd rfl z
  | [c],_,g=>g c (by simp)
  |c::d::l,_,g=>by
    have h1:=g c (by simp);have h2:=wz (d::l) (by simp) fun a ha=>g a (R4 _ ha);unfold aF;omega
theorem Af:∀{is:List Int} {m:Int},m∈is->(∀a∈is,m<=a)->aF is=m
  | [],_,h,_=>by cases h
  | [a],m,h,_=>by rw[Ul]at h;exact h.symm
  |a::b::r,m,h,g=>by
    have ha:=g a (SM ..);have hb:=wz (b::r) (by simp) fun a ha=>g a (R4 _ ha);unfold aF;rcases Sy.mp h with rfl |h
    · omega
    · have:=Af h fun a ha=>g a (R4 _ ha);omega
noncomputable def gG:List D->Option D
  | [.lst ds]=>match lR ds with
    |some is=>if 0<is.length then some (.int (aF is)) else none
    |none=>none
  |_=>none
theorem pU {K:Fgx}:fX K (fun xs H Q=>∃(p:Addr) (is:List Int),xs=[.ref p]/\0<is.length/\bf K H p (is.map V.int)/\∀m,m∈is->(∀a∈is,m<=a)->Q (.int m) H) gG:=fun P H ds z vs Q h i _ q=>by
 unfold gG at h;split at h
 ·split at h
  ·rename_i is ei;split at h
   ·rename_i hl;cases h;obtain⟨v,ws,rfl,p,rfl⟩:=i;obtain⟨a,us,rfl,r,s⟩:=p;have eu:=Bp ei s;subst eu;exact⟨a,is,rfl,hl,r,fun m h1 h2=>by rw[<-Af h1 h2];exact q _ H (Same.refl H) rfl⟩
   ·cases h
  ·cases h
 ·cases h
section
variable {X:Cx}{pins:Pnx}{σ:L2.St}{H:Hp}{s:Shared}
open Classical in
end
end E3
namespace E3
open PySem PySem.Spec PyProof.Rows L2
section
variable {X:Cx}{Wx:XW}{m:Mode}{pos:Pos}{K:Fgx}
theorem Dw {a b:Expr}{f g:E}(hl:SN X Wx a f)(hr:SE X Wx .val b g):SN X Wx (.BinOp a .Mult b pos) (eG f g):=by
  refine bV (yt Ce hl hr) ?_;rintro st H Q ⟨P0,H0,P,Os,env,M,r,M',k,e,q⟩;unfold eG at e;rcases cM e with⟨d,M1,e1,e⟩ |⟨c,n,e1,rfl⟩
  · split at e
    · rename_i ds;refine⟨P0,H0,P,Os,env,M,_,_,k,e1,ds,rfl,fun P1 a vs H1 l1 h1 ha ba nc ea is=>?_⟩;rcases cM e with⟨d2,M2,e2,e⟩ |⟨c,n,e2,rfl⟩
      · split at e
        · rename_i i;split at e
          · rename_i hi;cases e;obtain⟨ds',e',q⟩:=q;cases e';refine⟨P0,H0,P1,Os,env,M1,_,_,k.next l1 h1,e2,fun P2 v2 H2 l2 h2 i2=>?_⟩
            have ev:v2=.int i:=i2;subst ev;have e3:=l2.keep a _ ea (.inr nc);have is2:=au.lt (l2.lt h1) is;have ln:vs.length=ds.length:=is.len;refine⟨a,i,vs,rfl,rfl,e3,by omega,by omega,?_,fun p hp=>?_⟩
            · rw[Uc,ln];have:ds.length * i.toNat<=100 * 100000:=Nat.mul_le_mul hi.2 (by omega);omega
            · obtain⟨l3,h3,nc3⟩:=sI (vs:=(List.replicate i.toNat vs).flatten) h2 hp;exact q (P2.bar p) p _ _ (l1.trans (l2.trans l3)) h3 ((l1.trans l2).sure p hp) (.inr rfl) nc3 cH (au.lt (l3.lt h2) (is2.rep _))
          · cases e
        · cases e
      · exact⟨P0,H0,P1,Os,env,M1,_,_,k.next l1 h1,e2,q⟩
    · cases e
  · exact⟨P0,H0,P,Os,env,M,_,_,k,e1,q⟩
end
end E3
namespace My
open PySem PySem.Spec PyProof.Rows L2 E3
noncomputable def Qd:List (Str×D):=[("+",(.tup [(.str "number"),(.str "number"),(.int 2)])),("-",(.tup [(.str "number"),(.str "number"),(.int 2)])),("*",(.tup [(.str "number"),(.str "number"),(.int 2)])),("least",(.tup [(.str "number"),(.str "number"),(.int 2)])),("most",(.tup [(.str "number"),(.str "number"),(.int 2)])),("<",(.tup [(.str "truth"),(.str "number"),(.int 2)])),("=",(.tup [(.str "truth"),(.str "number"),(.int 2)])),("not",(.tup [(.str "truth"),(.str "truth"),(.int 1)])),("and",(.tup [(.str "truth"),(.str "truth"),(.int 2)])),("or",(.tup [(.str "truth"),(.str "truth"),(.int 2)]))]
noncomputable def top (i:Nat):Stmt:=PySem.Challenge.pw_rowdam_k41_low_of_marks.main.body.getD i (.Pass ⟨0,0,0,0⟩)
noncomputable def nW:List Str:=["isinstance","bool","int","len","max","min","tuple","list","all","range","str"]
noncomputable def gP (s:Stmt) (j:Nat):Stmt:=match s with
 |.ClassDef _ _ _ body _ _ _ _ _ _ _=>body.getD j s
 |_=>s
structure Ad where
 PourStation:Addr
 DamError:Addr
 NoExpr:Addr
structure Txt (K:Fgx)(mg:Mgx)(C:Ad)(w:World):Prop where
 blt:∀b∈nW,mg b=none
 cl_PourStation:ClsOk K mg "PourStation" C.PourStation
 na_PourStation_marks:gB K C.PourStation "marks"
 xm_DamError:mg "DamError"=some (.ref C.DamError)
 xc_DamError:eO K C.DamError=true
 xm_NoExpr:mg "NoExpr"=some (.ref C.NoExpr)
 xc_NoExpr:eO K C.NoExpr=true
 xn_NoExpr:D_ K C.NoExpr=true
 xk_NoExpr:PySem.W.keepIn K (.ref C.NoExpr)=true
 xs_NoExpr:vM K C.NoExpr=true
 k_ALL_LETTERS:∃a,mg "ALL_LETTERS"=some (.ref a)/\∀P H,Is K P H (.tup [(.str "t"),(.str "v"),(.str "w")]) (.ref a)
 k_NEEDS:∃a,mg "NEEDS"=some (.ref a)/\KTab K w a Qd
 k_FIGURES:∃t,mg "FIGURES"=some (.str "0123456789" t)
 k_MOST_FIGURES:∃t,mg "MOST_FIGURES"=some (.int 20 t)
 k_MOST_VALUE:∃t,mg "MOST_VALUE"=some (.int 1000000000000000000000000000000000000000000000000000000000000 t)
 k_LAST:∃t,mg "LAST"=some (.int 1000000000000000 t)
 k_LETTERS:∃t,mg "LETTERS"=some (.str "abcdefghijklmnopqrstuvwxyz" t)
 k_COND_LETTERS:∃t,mg "COND_LETTERS"=some (.str "tv" t)
structure MetAt (K:Fgx)(C:Addr)(x q:Str)(st:Stmt)(ps:List Str)(f:Addr)(fd:FuncData):Prop where
 M:Meth K C x f
 F:FunD K x q st f fd
 b:Binds K fd ps []
structure IniAt (K:Fgx)(C:Addr)(q:Str)(st:Stmt)(ps:List Str)(f:Addr)(fd:FuncData):Prop where
 M:Mk K C f
 F:FunD K "__init__" q st f fd
 b:Binds K fd ps []
structure MetAtD (K:Fgx)(C:Addr)(x q:Str)(st:Stmt)(ps:List Str)(dd:List D)(f:Addr)(fd:FuncData):Prop where
 M:Meth K C x f
 F:FunD K x q st f fd
 b:Binds K fd ps []
 bd:∃(dv:List V) (du:List Value),Binds K fd ps du/\Vals dv du/\(∀P H,au K P H dd dv)/\dv.length=dd.length
noncomputable def wZ (t:String):Option Bool:=if t="int" then some false else if t="bool" then some true else if t="str" then some false else if t="list" then some false else if t="tuple" then some false else if t="NoneType" then some false else if t="dict" then some false else none
theorem GR {K:Fgx}:∀t b,wZ t=some b->PySem.W.kitOne K (.type t) (.type "bool")=some b:=by
 intro t b h;unfold wZ at h;split at h
 ·rename_i e;subst e;cases h;kernel_rfl
 split at h
 ·rename_i e;subst e;cases h;kernel_rfl
 split at h
 ·rename_i e;subst e;cases h;kernel_rfl
 split at h
 ·rename_i e;subst e;cases h;kernel_rfl
 split at h
 ·rename_i e;subst e;cases h;kernel_rfl
 split at h
 ·rename_i e;subst e;cases h;kernel_rfl
 split at h
 ·rename_i e;subst e;cases h;kernel_rfl
 cases h
noncomputable def w5 (t:String):Option Bool:=if t="int" then some true else if t="bool" then some true else if t="str" then some false else if t="list" then some false else if t="tuple" then some false else if t="NoneType" then some false else if t="dict" then some false else none
theorem GX {K:Fgx}:∀t b,w5 t=some b->PySem.W.kitOne K (.type t) (.type "int")=some b:=by
 intro t b h;unfold w5 at h;split at h
 ·rename_i e;subst e;cases h;kernel_rfl
 split at h
 ·rename_i e;subst e;cases h;kernel_rfl
 split at h
 ·rename_i e;subst e;cases h;kernel_rfl
 split at h
 ·rename_i e;subst e;cases h;kernel_rfl
 split at h
 ·rename_i e;subst e;cases h;kernel_rfl
 split at h
 ·rename_i e;subst e;cases h;kernel_rfl
 split at h
 ·rename_i e;subst e;cases h;kernel_rfl
 cases h
noncomputable def w6 (t:String):Option Bool:=if t="int" then some false else if t="bool" then some false else if t="str" then some false else if t="list" then some true else if t="tuple" then some false else if t="NoneType" then some false else if t="dict" then some false else none
theorem GZ {K:Fgx}:∀t b,w6 t=some b->PySem.W.kitOne K (.type t) (.type "list")=some b:=by
 intro t b h;unfold w6 at h;split at h
 ·rename_i e;subst e;cases h;kernel_rfl
 split at h
 ·rename_i e;subst e;cases h;kernel_rfl
 split at h
 ·rename_i e;subst e;cases h;kernel_rfl
 split at h
 ·rename_i e;subst e;cases h;kernel_rfl
 split at h
 ·rename_i e;subst e;cases h;kernel_rfl
 split at h
 ·rename_i e;subst e;cases h;kernel_rfl
 split at h
 ·rename_i e;subst e;cases h;kernel_rfl
 cases h
noncomputable def xg (t:String):Option Bool:=if t="int" then some false else if t="bool" then some false else if t="str" then some false else if t="list" then some false else if t="tuple" then some true else if t="NoneType" then some false else if t="dict" then some false else none
theorem G3 {K:Fgx}:∀t b,xg t=some b->PySem.W.kitOne K (.type t) (.type "tuple")=some b:=by
 intro t b h;unfold xg at h;split at h
 ·rename_i e;subst e;cases h;kernel_rfl
 split at h
 ·rename_i e;subst e;cases h;kernel_rfl
 split at h
 ·rename_i e;subst e;cases h;kernel_rfl
 split at h
 ·rename_i e;subst e;cases h;kernel_rfl
 split at h
 ·rename_i e;subst e;cases h;kernel_rfl
 split at h
 ·rename_i e;subst e;cases h;kernel_rfl
 split at h
 ·rename_i e;subst e;cases h;kernel_rfl
 cases h
noncomputable def aH (t T:String):Option Bool:=if T="bool" then wZ t else if T="int" then w5 t else if T="list" then w6 t else if T="tuple" then xg t else none
theorem Rm:aH "int" "bool"=some false:=by x_go
theorem Rn:aH "int" "int"=some true:=by x_go
theorem Ro:aH "int" "list"=some false:=by x_go
theorem Rp:aH "int" "tuple"=some false:=by x_go
theorem Ra:aH "bool" "bool"=some true:=by x_go
theorem Rb:aH "bool" "int"=some true:=by x_go
theorem Rf:aH "bool" "list"=some false:=by x_go
theorem Rg:aH "bool" "tuple"=some false:=by x_go
theorem Ru:aH "str" "bool"=some false:=by x_go
theorem Rv:aH "str" "int"=some false:=by x_go
theorem Rw:aH "str" "list"=some false:=by x_go
theorem Rx:aH "str" "tuple"=some false:=by x_go
theorem Rq:aH "list" "bool"=some false:=by x_go
theorem Rr:aH "list" "int"=some false:=by x_go
theorem xq:aH "list" "list"=some true:=by x_go
theorem Rt:aH "list" "tuple"=some false:=by x_go
theorem Ry:aH "tuple" "bool"=some false:=by x_go
theorem Rz:aH "tuple" "int"=some false:=by x_go
theorem RB:aH "tuple" "list"=some false:=by x_go
theorem Bv:aH "tuple" "tuple"=some true:=by x_go
theorem Q7:aH "NoneType" "bool"=some false:=by x_go
theorem Q8:aH "NoneType" "int"=some false:=by x_go
theorem Q9:aH "NoneType" "list"=some false:=by x_go
theorem Q_:aH "NoneType" "tuple"=some false:=by x_go
theorem Rh:aH "dict" "bool"=some false:=by x_go
theorem Ri:aH "dict" "int"=some false:=by x_go
theorem Rj:aH "dict" "list"=some false:=by x_go
theorem Rk:aH "dict" "tuple"=some false:=by x_go
theorem lU {K:Fgx}:∀t T b,aH t T=some b->PySem.W.kitOne K (.type t) (.type T)=some b:=by
 intro t T b h;unfold aH at h;split at h
 ·rename_i e;subst e;exact GR t b h
 split at h
 ·rename_i e;subst e;exact GX t b h
 split at h
 ·rename_i e;subst e;exact GZ t b h
 split at h
 ·rename_i e;subst e;exact G3 t b h
 cases h
abbrev vf:Stmt:=top 40
theorem Dj:FnScope ["thing"] ["thing"] (aO vf):=dh
noncomputable def z8:S:=(aq (aK (bx (aC (ao (.str "thing")) (aC (s2 aY (aj 0) (ao (.int 0))) (aC (s2 aY (aj 0) (ao (.int 1))) (aC (s2 aY (aj 0) (ao (.int 2))) ak)))))) aA)
def wY:G:=b_ 1 z8
abbrev kj:Stmt:=gP (top 41) 0
theorem CN:FnScope ["self","row"] ["self","row"] (aO kj):=dh
noncomputable def rR:S:=(aq (nA "PourStation" "marks" (aj 0) (mG (eG (aR (aC (ao (.int 0)) ak)) (sN bB (aC (s2 aY (aj 1) (ao (.int 2))) ak))))) aA)
def lJ:G:=b_ 2 rR
abbrev vg:Stmt:=top 56
theorem Dl:FnScope ["row"] ["row"] (aO vg):=dh
noncomputable def wj:S:=(aq (bT (s2 (aD .eq) (s2 aY (aj 0) (ao (.int 0))) (ao (.str "keep"))) (aq gj aA) aA) (aq (bT (s2 (aD .eq) (s2 aY (aj 0) (ao (.int 0))) (ao (.str "turn"))) (aq gj aA) aA) (aq (bT (s2 (aD .eq) (s2 aY (aj 0) (ao (.int 0))) (ao (.str "share"))) (aq gj aA) aA) (aq (bT (s2 (aD .eq) (s2 aY (aj 0) (ao (.int 0))) (ao (.str "pour"))) (aq (aK (mJ "PourStation" lJ (aC (aj 0) ak))) aA) aA) (aq (bT (s2 (aD .isin) (s2 aY (aj 0) (ao (.int 0))) (bx (aC (ao (.str "fixed")) (aC (ao (.str "slide")) ak)))) (aq gj aA) aA) (aq (bT (s2 (aD .eq) (s2 aY (aj 0) (ao (.int 0))) (ao (.str "gap"))) (aq gj aA) aA) (aq (bT (s2 (aD .eq) (s2 aY (aj 0) (ao (.int 0))) (ao (.str "join"))) (aq gj aA) aA) (aq gj aA))))))))
def pD:G:=b_ 1 wj
abbrev vd:Stmt:=top 58
theorem Di:FnScope ["_law_found"] ["_law_found"] (aO vd):=dh
noncomputable def z7:S:=(aq (aK (eE (cG aH "int" (aj 0)) (tY (cG aH "bool" (aj 0))))) aA)
def fL:G:=b_ 1 z7
abbrev t_:Stmt:=top 59
theorem Dd:FnScope ["_law_script","_law_k"] ["_law_script","_law_k"] (aO t_):=dh
noncomputable def vX:S:=(aq (bT (s2 (aD .lt) (aj 1) (sN bB (aC (aj 0) ak))) (aq (aK (s2 aY (aj 0) (aj 1))) aA) aA) (aq (aK (ao (.int 0))) aA))
def pA:G:=b_ 2 vX
abbrev u6:Stmt:=top 60
theorem Dg:FnScope ["_law_number","_law_mark","_law_way"] ["_law_number","_law_mark"] (aO u6):=dh
noncomputable def vZ:S:=(aq (bw 2 (s2 oMod (aj 0) (ao (.int 16)))) (aq (bT (s2 (aD .eq) (aj 2) (ao (.int 5))) (aq (aK (ao (.int 1000000000000000))) aA) aA) (aq (bT (s2 (aD .eq) (s2 oMod (aj 2) (ao (.int 4))) (ao (.int 0))) (aq (aK (s2 oMod (s2 pL (aj 0) (ao (.int 16))) (s2 cF (s2 gR (ao (.int 10)) (ao (.int 12))) (ao (.int 1))))) aA) aA) (aq (aK (sN gF (aC (s2 gR (ao (.int 10)) (ao (.int 12))) (aC (sN dR (aC (ao (.int 0)) (aC (s2 cF (s2 lY (aj 1) (ao (.int 3))) (s2 oMod (s2 pL (aj 0) (ao (.int 16))) (ao (.int 9)))) ak))) ak)))) aA))))
def pB:G:=b_ 3 vZ
abbrev u_:Stmt:=top 61
theorem Dh:FnScope ["_law_found","_law_due","_law_item"] ["_law_found","_law_due"] (aO u_):=dh
noncomputable def BJ:S:=(aq (bT (gZ (bL (bM (cG aH "tuple" (aj 2)))) (gZ (s2 (aD .ne) (sN bB (aC (aj 2) ak)) (ao (.int 2))) (bL (bM (eF fL (aC (s2 aY (aj 2) (ao (.int 1))) ak)))))) (aq (aK (ao (.bl false))) aA) aA) aA)
noncomputable def wg:S:=(aq (bT (gZ (bL (bM (cG aH "list" (aj 0)))) (s2 (aD .ne) (sN bB (aC (aj 0) ak)) (sN bB (aC (aj 1) ak)))) (aq (aK (ao (.bl false))) aA) aA) (aq (fQ 2 (dG (aj 0)) BJ) (aq (aK (s2 (aD .eq) (aj 0) (aj 1))) aA)))
def pC:G:=b_ 3 wg
abbrev u5:Stmt:=top 62
theorem Df:FnScope ["_law_found","_law_marks"] ["_law_found","_law_marks"] (aO u5):=dh
def wJ:E:=(eF fL (aC (aj 0) ak))
noncomputable def vY:S:=(aq (bT (gZ (bL (bM (cG aH "tuple" (aj 0)))) (s2 (aD .ne) (sN bB (aC (aj 0) ak)) (ao (.int 2)))) (aq (aK (ao (.bl false))) aA) aA) (aq (bT (gZ (bL (bM (cG aH "list" (s2 aY (aj 0) (ao (.int 0)))))) (bL (bM (cG aH "list" (s2 aY (aj 0) (ao (.int 1))))))) (aq (aK (ao (.bl false))) aA) aA) (aq (aK (eE (s2 (aD .eq) (s2 aY (aj 0) (ao (.int 0))) (aj 1)) (eE (s2 (aD .eq) (s2 aY (aj 0) (ao (.int 1))) (aR ak)) (sN fB (aC (gY [] (dG (s2 aY (aj 0) (ao (.int 0)))) (ao (.bl true)) wJ) ak))))) aA)))
def m_:G:=b_ 2 vY
abbrev kJ:Stmt:=gP (top 41) 1
theorem CT:FnScope ["self"] ["self"] (aO kJ):=dh
noncomputable def rY:S:=(aq (aK (sN gG (aC (cU "PourStation" "marks" (aj 0)) ak))) aA)
def dY:G:=b_ 1 rY
abbrev kI:Stmt:=gP (top 41) 6
theorem CQ:FnScope ["self","low"] ["self","low"] (aO kI):=dh
def rW:S:=(aq (aK (aR ak)) aA)
def lK:G:=b_ 2 rW
abbrev k_:Stmt:=gP (top 41) 4
theorem Dc:FnScope ["self","low"] ["self","low"] (aO k_):=dh
def Ay:E:=(eF wY (aC (aj 0) ak))
noncomputable def sG:S:=(aq (aK (s2 cF (gY [] (dG (aU "PourStation" "close_at" lK (aj 0) (aC (aj 1) ak))) (ao (.bl true)) Ay) (aR (aC (bx (aC (ao (.str "mark")) (aC (aj 1) ak))) ak)))) aA)
def lQ:G:=b_ 2 sG
abbrev kZ:Stmt:=gP (top 41) 3
theorem C_:FnScope ["self","way","mark","before","low"] ["self","way","mark"] (aO kZ):=dh
noncomputable def sE:S:=(aq (bT (s2 (aD .le) (aj 2) (s2 aY (cU "PourStation" "marks" (aj 0)) (aj 1))) (aq (aK (aR ak)) aA) aA) (aq (bw 3 (aU "PourStation" "low" dY (aj 0) ak)) (aq (g8 (cU "PourStation" "marks" (aj 0)) (aj 1) (aj 2)) (aq (bw 4 (aU "PourStation" "low" dY (aj 0) ak)) (aq (bT (s2 (aD .eq) (aj 4) (aj 3)) (aq (aK (aR ak)) aA) aA) (aq (aK (aU "PourStation" "tell_low" lQ (aj 0) (aC (aj 4) ak))) aA))))))
def lO:G:=b_ 5 sE
abbrev kY:Stmt:=gP (top 41) 2
theorem CZ:FnScope ["self","way","item"] ["self","way","item"] (aO kY):=dh
noncomputable def sy:S:=(aq (bT (s2 (aD .eq) (s2 aY (aj 2) (ao (.int 0))) (ao (.str "mark"))) (aq (aK (aU "PourStation" "take_mark" lO (aj 0) (aC (aj 1) (aC (s2 aY (aj 2) (ao (.int 1))) ak)))) aA) aA) (aq gj aA))
def lN:G:=b_ 3 sy
abbrev kE:Stmt:=gP (top 41) 7
theorem CP:FnScope ["self"] ["self"] (aO kE):=dh
def rU:S:=(aq (aK (aR ak)) aA)
def fK:G:=b_ 1 rU
abbrev kO:Stmt:=gP (top 41) 9
theorem CV:FnScope ["self"] ["self"] (aO kO):=dh
noncomputable def rZ:S:=(aq (aK (bx (aC (mH (cU "PourStation" "marks" (aj 0))) (aC (aU "PourStation" "all_kept" fK (aj 0) ak) ak)))) aA)
def gb:G:=b_ 1 rZ
abbrev kW:Stmt:=gP (top 41) 9
theorem CW:FnScope ["self"] ["self"] (aO kW):=dh
noncomputable def su:S:=(aq (aK (bx (aC (mG (mH (cU "PourStation" "marks" (aj 0)))) (aC (aU "PourStation" "all_kept" fK (aj 0) ak) ak)))) aA)
def lM:G:=b_ 1 su
abbrev fU:Stmt:=top 63
theorem Dk:FnScope ["_law_script","_law_many","_law_station","_law_marks","_law_first","_law_number","_law_way","_law_time_here","_law_before","_law_due"] ["_law_script"] (aO fU):=dh
noncomputable def tL:S:=(aq (aK (s2 (aD .eq) (aj 4) (bx (aC (eG (aR (aC (ao (.int 0)) ak)) (aj 1)) (aC (aR ak) ak))))) aA)
noncomputable def tD:S:=(aq (pZ (s2 aY (aU "PourStation" "state" lM (aj 2) ak) (ao (.int 0)))) aA)
noncomputable def tB:S:=(aq (bT (bL (bM (eF m_ (aC (aU "PourStation" "state" gb (aj 2) ak) (aC (aj 3) ak))))) (aq (aK (ao (.bl false))) aA) aA) tD)
noncomputable def tu:S:=(aq (bT (gZ (bL (bM (eF fL (aC (aU "PourStation" "low" dY (aj 2) ak) ak)))) (s2 (aD .ne) (aU "PourStation" "low" dY (aj 2) ak) (sN gG (aC (aj 3) ak)))) (aq (aK (ao (.bl false))) aA) aA) tB)
noncomputable def sZ:S:=(aq (bT (bL (bM (eF pC (aC (aU "PourStation" "take_in" lN (aj 2) (aC (aj 6) (aC (bx (aC (ao (.str "mark")) (aC (aj 7) ak))) ak))) (aC (aj 9) ak))))) (aq (aK (ao (.bl false))) aA) aA) tu)
noncomputable def sY:S:=(aq (bT (s2 (aD .gt) (sN gG (aC (aj 3) ak)) (aj 8)) (aq (bw 9 (aR (aC (bx (aC (ao (.str "mark")) (aC (sN gG (aC (aj 3) ak)) ak))) ak))) aA) aA) sZ)
def BW:S:=(aq (bw 9 (aR ak)) sY)
noncomputable def xP:S:=(aq (g8 (aj 3) (aj 6) (sN dR (aC (s2 aY (aj 3) (aj 6)) (aC (aj 7) ak)))) BW)
noncomputable def xO:S:=(aq (bw 8 (sN gG (aC (aj 3) ak))) xP)
noncomputable def xM:S:=(aq (bw 7 (eF pB (aC (s2 pL (aj 5) (aj 1)) (aC (s2 aY (aj 3) (aj 6)) ak)))) xO)
def xH:S:=(aq (bw 6 (s2 oMod (aj 5) (aj 1))) xM)
noncomputable def xW:S:=(aq (fQ 5 (dG (tZ (aj 0) (tR (ao (.int 1))) yq)) xH) tL)
noncomputable def xV:S:=(aq (bT (bL (bM (eF m_ (aC (aj 4) (aC (aj 3) ak))))) (aq (aK (ao (.bl false))) aA) aA) xW)
noncomputable def xU:S:=(aq (bw 4 (aU "PourStation" "state" gb (aj 2) ak)) xV)
noncomputable def xT:S:=(aq (bw 3 (mG (eG (aR (aC (ao (.int 0)) ak)) (aj 1)))) xU)
def wK:E:=(s2 cF (ao (.str "a")) (sN gH (aC (aj 0) ak)))
noncomputable def xR:S:=(aq (bw 2 (eF pD (aC (bx (aC (ao (.str "pour")) (aC (ao (.str "p")) (aC (sN gJ (aC (gY [] (ni (aC (aj 1) ak)) (ao (.bl true)) wK) ak)) (aC (bx ak) ak))))) ak))) xT)
noncomputable def sH:S:=(aq (bw 1 (s2 cF (ao (.int 2)) (s2 oMod (eF pA (aC (aj 0) (aC (ao (.int 0)) ak))) (ao (.int 7))))) xR)
def Bk:G:=b_ 10 sH
section
variable {P:Program}{w:World}{K:Fgx}{mg:Mgx}{C:Ad}{base:Heap}{k k0:Nat}{f:Addr}
theorem Nz (T:Txt K mg C w):RT P w K mg base k f ["thing"] "item_of" vf z8:=fun cdv A outer s H E hr=>by
 refine cZ hr fun hu=>?_;have nd:=(Dj).nd;exact aG (bF (gn (aJ Es (aJ (Ek Sv Ei) (aJ (Ek Sv Ei) (aJ (Ek Sv Ei) aN lq) lq) lq) eH))) aL
theorem Mq (T:Txt K mg C w):RT P w K mg base k f ["self","row"] "Station.__init__" kj rR:=fun cdv A outer s H E hr=>by
 refine cZ hr fun hu=>?_;have nd:=(CN).nd;have B_len:=T.blt "len" (by x_go);exact aG (Ph T.cl_PourStation T.na_PourStation_marks Sv (yV (Dw (eV (aJ Ei aN eH)) (dH m9 rfl B_len T8 nq (aJ (Ek Sv Ei) aN lq))))) aL
theorem Oh (T:Txt K mg C w)(hk0:k0 + 1=k)(a_PourStation___init__:fV P w K mg base k0 C.PourStation 2 lJ):RT P w K mg base k f ["row"] "station_of" vg wj:=fun cdv A outer s H E hr=>by
 refine cZ hr fun hu=>?_;have hr1:=hr;rw[<-hk0]at hr1;have nd:=(Dl).nd;refine aG (cu (Ct hu (Ek Sv Ei) Es) (aG lg aL) aL) ?_;refine aG (cu (Ct hu (Ek Sv Ei) Es) (aG lg aL) aL) ?_;refine aG (cu (Ct hu (Ek Sv Ei) Es) (aG lg aL) aL) ?_;refine aG (cu (Ct hu (Ek Sv Ei) Es) (aG (bF (Ou T.cl_PourStation a_PourStation___init__ hr1 rfl (aJ Sv aN bN) (cnt_cons cnt_nil))) aL) aL) ?_;refine aG (cu (Ct hu (Ek Sv Ei) (gn (aJ Es (aJ Es aN eH) eH))) (aG lg aL) aL) ?_;refine aG (cu (Ct hu (Ek Sv Ei) Es) (aG lg aL) aL) ?_;refine aG (cu (Ct hu (Ek Sv Ei) Es) (aG lg aL) aL) ?_;refine aG ?_ ?_
 ·exact lg
 exact aL
theorem MP (T:Txt K mg C w):RT P w K mg base k f ["_law_found"] "_law_whole" vd z7:=fun cdv A outer s H E hr=>by
 refine cZ hr fun hu=>?_;have nd:=(Di).nd;have B_bool:=T.blt "bool" (by x_go);have B_int:=T.blt "int" (by x_go);have B_isinstance:=T.blt "isinstance" (by x_go);exact aG (bF (yS (mL (T:="int") (fun t b h=>lU t "int" b h) Sv rfl B_isinstance rfl B_int boot_int) (Dr (Ov (mL (T:="bool") (fun t b h=>lU t "bool" b h) Sv rfl B_isinstance rfl B_bool boot_bool))))) aL
theorem MF (T:Txt K mg C w):RT P w K mg base k f ["_law_script","_law_k"] "_law_cell_at" t_ vX:=fun cdv A outer s H E hr=>by
 refine cZ hr fun hu=>?_;have nd:=(Dd).nd;have B_len:=T.blt "len" (by x_go);refine aG (cu (Ct hu Sv (dH m9 rfl B_len T8 nq (aJ Sv aN bN))) (aG (bF (Ek Sv Sv)) aL) aL) ?_;exact aG (bF Ei) aL
theorem MK (T:Txt K mg C w):RT P w K mg base k f ["_law_number","_law_mark","_law_way"] "_law_time" u6 vZ:=fun cdv A outer s H E hr=>by
 refine cZ hr fun hu=>?_;have nd:=(Dg).nd;have B_max:=T.blt "max" (by x_go);have B_min:=T.blt "min" (by x_go);obtain⟨t_LAST,m_LAST⟩:=T.k_LAST;refine aG (eX (i:=2) nd rfl Lv (dj nj nu Sv Ei)) ?_;refine aG (cu (Ct hu Sv Ei) (aG (bF (p8 (J1 (v:=(.int 1000000000000000)) rfl m_LAST ⟨t_LAST,rfl⟩))) aL) aL) ?_;refine aG (cu (Ct hu (dj nj nu Sv Ei) Ei) (aG (bF (dj nj nu (dj yp yw Sv Ei) (dj pO pR (dj Cd Cw Ei Ei) Ei))) aL) aL) ?_;exact aG (bF (dH (Fg rfl) rfl B_min boot_min KY (aJ (dj Cd Cw Ei Ei) (aJ (dH (Ah rfl) rfl B_max boot_max Cv (aJ Ei (aJ (dj pO pR (dj JN K1 Sv Ei) (dj nj nu (dj yp yw Sv Ei) Ei)) aN vq) eH)) aN gq) vq))) aL
theorem MN (T:Txt K mg C w)(a__whole:bH P w K mg base k "_law_whole" 1 fL):RT P w K mg base k f ["_law_found","_law_due","_law_item"] "_law_told" u_ wg:=fun cdv A outer s H E hr=>by
 refine cZ hr fun hu=>?_;have nd:=(Dh).nd;have B_isinstance:=T.blt "isinstance" (by x_go);have B_len:=T.blt "len" (by x_go);have B_list:=T.blt "list" (by x_go);have B_tuple:=T.blt "tuple" (by x_go);refine aG (cu (SW.st (nH (gw (gA (mL (T:="list") (fun t b h=>lU t "list" b h) Sv rfl B_isinstance rfl B_list boot_list))) (rC (Ct hu (dH m9 rfl B_len T8 nq (aJ Sv aN bN)) (dH m9 rfl B_len T8 nq (aJ Sv aN bN)))))) (aG (bF Eb) aL) aL) ?_;refine aG (Dy PassesOwn.never rfl nd rfl Lv (vo Sv) (aG (cu (SW.st (nH (gw (gA (mL (T:="tuple") (fun t b h=>lU t "tuple" b h) Sv rfl B_isinstance rfl B_tuple boot_tuple))) (nH (Ct hu (dH m9 rfl B_len T8 nq (aJ Sv aN bN)) Ei) (rC (gw (gA (gk a__whole hr rfl (aJ (Ek Sv Ei) aN lq) (cnt_cons cnt_nil)))))))) (aG (bF Eb) aL) aL) aL)) ?_;exact aG (bF (Cm hu Sv Sv)) aL
theorem MJ (T:Txt K mg C w)(a__whole:bH P w K mg base k "_law_whole" 1 fL):RT P w K mg base k f ["_law_found","_law_marks"] "_law_state" u5 vY:=fun cdv A outer s H E hr=>by
 refine cZ hr fun hu=>?_;have nd:=(Df).nd;have B_all:=T.blt "all" (by x_go);have B_isinstance:=T.blt "isinstance" (by x_go);have B_len:=T.blt "len" (by x_go);have B_list:=T.blt "list" (by x_go);have B_tuple:=T.blt "tuple" (by x_go);refine aG (cu (SW.st (nH (gw (gA (mL (T:="tuple") (fun t b h=>lU t "tuple" b h) Sv rfl B_isinstance rfl B_tuple boot_tuple))) (rC (Ct hu (dH m9 rfl B_len T8 nq (aJ Sv aN bN)) Ei)))) (aG (bF Eb) aL) aL) ?_;refine aG (cu (SW.st (nH (gw (gA (mL (T:="list") (fun t b h=>lU t "list" b h) (Ek Sv Ei) rfl B_isinstance rfl B_list boot_list))) (rC (gw (gA (mL (T:="list") (fun t b h=>lU t "list" b h) (Ek Sv Ei) rfl B_isinstance rfl B_list boot_list)))))) (aG (bF Eb) aL) aL) ?_;exact aG (bF (yS (Cm hu (Ek Sv Ei) Sv) (yS (Cm hu (Ek Sv Ei) (SN.sem (eV aN) lst_is)) (Dr (dH (Ez rfl) rfl B_all boot_all KQ (aJ (SN.sem (zf "_law_mark" [] rfl (by x_go) (vo (Ek Sv Ei)) (fun _ _ _ _ _ _=>zj) (fun _ _ _ _ _ _=>(gk a__whole hr rfl (aJ (za rfl (.inl (by kernel_rfl))) aN bN) (cnt_cons cnt_nil)))) wF) aN DG)))))) aL
theorem Mt (T:Txt K mg C w):RT P w K mg base k f ["self"] "Station.low" kJ rY:=fun cdv A outer s H E hr=>by
 refine cZ hr fun hu=>?_;have nd:=(CT).nd;have B_min:=T.blt "min" (by x_go);exact aG (bF (dH (nY rfl) rfl B_min boot_min pU (aJ (p7 T.cl_PourStation T.na_PourStation_marks Sv) aN Pj))) aL
theorem Ms (T:Txt K mg C w):RT P w K mg base k f ["self","low"] "Station.close_at" kI rW:=fun cdv A outer s H E hr=>by
 refine cZ hr fun hu=>?_;have nd:=(CQ).nd;exact aG (bF (SN.sem (eV aN) lst_is)) aL
theorem Mz (T:Txt K mg C w)(a_item_of:bH P w K mg base k "item_of" 1 wY)(a_PourStation_close_at:bI P w K mg base k C.PourStation "close_at" 2 lK):RT P w K mg base k f ["self","low"] "Station.tell_low" k_ sG:=fun cdv A outer s H E hr=>by
 refine cZ hr fun hu=>?_;have nd:=(Dc).nd;exact aG (bF (dj pO pR (SN.sem (zf "thing" [] rfl (by x_go) (vo (vh T.cl_PourStation a_PourStation_close_at hr Sv (aJ Sv aN bN) (cnt_cons cnt_nil))) (fun _ _ _ _ _ _=>zj) (fun _ _ _ _ _ _=>(gk a_item_of hr rfl (aJ (za rfl (.inl (by kernel_rfl))) aN bN) (cnt_cons cnt_nil)))) wF) (SN.sem (eV (aJ (gn (aJ Es (aJ Sv aN bN) eH)) aN rA)) lst_is))) aL
theorem Mx (T:Txt K mg C w)(a_PourStation_low:bI P w K mg base k C.PourStation "low" 1 dY)(a_PourStation_tell_low:bI P w K mg base k C.PourStation "tell_low" 2 lQ):RT P w K mg base k f ["self","way","mark","before","low"] "Station.take_mark" kZ sE:=fun cdv A outer s H E hr=>by
 refine cZ hr fun hu=>?_;have nd:=(C_).nd;refine aG (cu (Ct hu Sv (Ek (p7 T.cl_PourStation T.na_PourStation_marks Sv) Sv)) (aG (bF (SN.sem (eV aN) lst_is)) aL) aL) ?_;refine aG (eX (i:=3) nd rfl Lv (h_ T.cl_PourStation a_PourStation_low hr Sv)) ?_;refine aG (Dz (p7 T.cl_PourStation T.na_PourStation_marks Sv) Sv Sv) ?_;refine aG (eX (i:=4) nd rfl Lv (h_ T.cl_PourStation a_PourStation_low hr Sv)) ?_;refine aG (cu (Ct hu Sv Sv) (aG (bF (SN.sem (eV aN) lst_is)) aL) aL) ?_;exact aG (bF (vh T.cl_PourStation a_PourStation_tell_low hr Sv (aJ Sv aN bN) (cnt_cons cnt_nil))) aL
theorem Mw (T:Txt K mg C w)(a_PourStation_take_mark:bI P w K mg base k C.PourStation "take_mark" 3 lO):RT P w K mg base k f ["self","way","item"] "Station.take_in" kY sy:=fun cdv A outer s H E hr=>by
 refine cZ hr fun hu=>?_;have nd:=(CZ).nd;refine aG (cu (Ct hu (Ek Sv Ei) Es) (aG (bF (vh T.cl_PourStation a_PourStation_take_mark hr Sv (aJ Sv (aJ (Ek Sv Ei) aN lq) bN) (cnt_cons (cnt_cons cnt_nil)))) aL) aL) ?_;refine aG ?_ ?_
 ·exact lg
 exact aL
theorem Mr (T:Txt K mg C w):RT P w K mg base k f ["self"] "Station.all_kept" kE rU:=fun cdv A outer s H E hr=>by
 refine cZ hr fun hu=>?_;have nd:=(CP).nd;exact aG (bF (SN.sem (eV aN) lst_is)) aL
theorem Mu (T:Txt K mg C w)(a_PourStation_all_kept:bI P w K mg base k C.PourStation "all_kept" 1 fK):RT P w K mg base k f ["self"] "Station.state" kO rZ:=fun cdv A outer s H E hr=>by
 refine cZ hr fun hu=>?_;have nd:=(CV).nd;have B_list:=T.blt "list" (by x_go);exact aG (bF (gn (aJ (SN.sem (Dv rfl B_list (p7 T.cl_PourStation T.na_PourStation_marks Sv)) Hl) (aJ (h_ T.cl_PourStation a_PourStation_all_kept hr Sv) aN gq) gq))) aL
theorem Mv (T:Txt K mg C w)(a_PourStation_all_kept:bI P w K mg base k C.PourStation "all_kept" 1 fK):RT P w K mg base k f ["self"] "Station.state" kW su:=fun cdv A outer s H E hr=>by
 refine cZ hr fun hu=>?_;have nd:=(CW).nd;have B_list:=T.blt "list" (by x_go);exact aG (bF (gn (aJ (yV (Dv rfl B_list (p7 T.cl_PourStation T.na_PourStation_marks Sv))) (aJ (h_ T.cl_PourStation a_PourStation_all_kept hr Sv) aN gq) gq))) aL
theorem NK (T:Txt K mg C w)(a_station_of:bH P w K mg base k "station_of" 1 pD)(a__whole:bH P w K mg base k "_law_whole" 1 fL)(a__cell_at:bH P w K mg base k "_law_cell_at" 2 pA)(a__time:bH P w K mg base k "_law_time" 2 pB)(a__told:bH P w K mg base k "_law_told" 2 pC)(a__state:bH P w K mg base k "_law_state" 2 m_)(a_PourStation_low:bI P w K mg base k C.PourStation "low" 1 dY)(a_PourStation_take_in:bI P w K mg base k C.PourStation "take_in" 3 lN)(a_PourStation_state:bI P w K mg base k C.PourStation "state" 1 gb)(a_PourStation_state_c:bI P w K mg base k C.PourStation "state" 1 lM):RT P w K mg base k f ["_law_script","_law_many","_law_station","_law_marks","_law_first","_law_number","_law_way","_law_time_here","_law_before","_law_due"] "law" fU sH:=fun cdv A outer s H E hr=>by
 refine cZ hr fun hu=>?_;have nd:=(Dk).nd;have B_max:=T.blt "max" (by x_go);have B_min:=T.blt "min" (by x_go);have B_range:=T.blt "range" (by x_go);have B_str:=T.blt "str" (by x_go);have B_tuple:=T.blt "tuple" (by x_go);refine aG (eX (i:=1) nd rfl Lv (dj pO pR Ei (dj nj nu (gk a__cell_at hr rfl (aJ Sv (aJ Ei aN eH) bN) (cnt_cons (cnt_cons cnt_nil))) Ei))) ?_;refine aG (eX (i:=2) nd rfl Lv (gk a_station_of hr rfl (aJ (gn (aJ Es (aJ Es (aJ (Dq Fj rfl B_tuple boot_tuple K3 (aJ (SN.sem (zf "_law_k" [] rfl (by x_go) (O4 rfl B_range (aJ Sv aN bN)) (fun _ _ _ _ _ _=>zj) (fun _ _ _ _ _ _=>(dj pO pR Es (Dq Fi rfl B_str boot_str KZ (aJ (za rfl (.inl (by kernel_rfl))) aN bN))))) wF) aN DG)) (aJ (gn aN) aN rA) gq) eH) eH)) aN rA) (cnt_cons cnt_nil))) ?_;refine aG (eX (i:=3) nd rfl Lv (yV (Dw (eV (aJ Ei aN eH)) Sv))) ?_;refine aG (eX (i:=4) nd rfl Lv (h_ T.cl_PourStation a_PourStation_state hr Sv)) ?_;refine aG (cu (gw (gA (gk a__state hr rfl (aJ Sv (aJ Sv aN bN) bN) (cnt_cons (cnt_cons cnt_nil))))) (aG (bF Eb) aL) aL) ?_;refine aG (Dy PassesOwn.never rfl nd rfl Lv (vo (Ox Sv (O9 (Wx:=W0) Ei) O_)) (aG (eX (i:=6) nd rfl Lv (dj nj nu Sv Sv)) (aG (eX (i:=7) nd rfl Lv (gk a__time hr rfl (aJ (dj yp yw Sv Sv) (aJ (Ek Sv Sv) aN lq) vq) (cnt_cons (cnt_cons cnt_nil)))) (aG (eX (i:=8) nd rfl Lv (dH (nY rfl) rfl B_min boot_min pU (aJ Sv aN bN))) (aG (Dz Sv Sv (dH (Ah rfl) rfl B_max boot_max Cv (aJ (Ek Sv Sv) (aJ Sv aN bN) lq))) (aG (eX (i:=9) nd rfl Lv (SN.sem (eV aN) lst_is)) (aG (cu (Ct hu (dH (nY rfl) rfl B_min boot_min pU (aJ Sv aN bN)) Sv) (aG (eX (i:=9) nd rfl Lv (SN.sem (eV (aJ (gn (aJ Es (aJ (dH (nY rfl) rfl B_min boot_min pU (aJ Sv aN bN)) aN gq) eH)) aN rA)) lst_is)) aL) aL) (aG (cu (gw (gA (gk a__told hr rfl (aJ (vh T.cl_PourStation a_PourStation_take_in hr Sv (aJ Sv (aJ (gn (aJ Es (aJ Sv aN bN) eH)) aN rA) bN) (cnt_cons (cnt_cons cnt_nil))) (aJ Sv aN bN) gq) (cnt_cons (cnt_cons cnt_nil))))) (aG (bF Eb) aL) aL) (aG (cu (SW.st (nH (gw (gA (gk a__whole hr rfl (aJ (h_ T.cl_PourStation a_PourStation_low hr Sv) aN gq) (cnt_cons cnt_nil)))) (rC (Ct hu (h_ T.cl_PourStation a_PourStation_low hr Sv) (dH (nY rfl) rfl B_min boot_min pU (aJ Sv aN bN)))))) (aG (bF Eb) aL) aL) (aG (cu (gw (gA (gk a__state hr rfl (aJ (h_ T.cl_PourStation a_PourStation_state hr Sv) (aJ Sv aN bN) gq) (cnt_cons (cnt_cons cnt_nil))))) (aG (bF Eb) aL) aL) (aG (Pb (Ek (h_ T.cl_PourStation a_PourStation_state_c hr Sv) Ei)) aL))))))))))) ?_;exact aG (bF (Cm hu Sv (gn (aJ (Ow (eV (aJ Ei aN eH)) Sv) (aJ (SN.sem (eV aN) lst_is) aN Pk) vq)))) aL
end
noncomputable def lW:Nat:=5
def fO:G:=Bk
abbrev Qx:String:="tW yO yP yK yL yM Lh Cy CG Lf NT Ml K7 Mp yJ Qy QD zR QB QF Qz L_ Ly Lx N5 K8 yC Ny Lw Lg Nm Nj Ls NZ M6 Ma Lr Nf K_ M8 Ng Ld NP Ln yD Oa N_ LC Lz N6 M_ K9 LQ yN yx Li Nu Lj Nv LR pW Nr Nq Ih Ii Jj Im Jb Jf yg yd yc xZ Ik Jc Iv Iz IK IW Ja I_ Jl Jk Jh Jg sizeLine_eq Option.map_some Option.map_none List.getElem?_cons_zero List.getElem?_cons_succ List.set_cons_zero List.set_cons_succ List.map_cons List.map_nil List.length_cons List.length_nil List.length_map List.replicate List.cons_append List.nil_append List.append_nil reduceCtorEq if_true if_false reduceIte Bool.not_true Bool.not_false Nat.reduceSub Nat.reduceAdd Nat.reduceLeDiff Nat.reduceLT Int.reduceLT Int.reduceLE Int.reduceAdd Int.reduceSub Int.reduceMul Int.reduceNeg Int.reduceAbs Int.reduceEq Int.reducePow Int.reduceMod Int.reduceDiv Int.reduceToNat Nat.zero_le and_true true_and and_self or_true true_or Bool.false_eq_true decide_eq_true_eq decide_true decide_false Bool.not_eq_true' decide_eq_false_iff_not not_true_eq_false not_false_eq_true eq_self Le Nh Ni Lb La Option.getD_some Lk Nx ty_int ty_str Qi Qk Ql Qj Qs Qv zO Qu Qw Qt Qq Nt List.isEmpty_cons List.isEmpty_nil Bool.true_eq_false Bool.and_self Bool.and_true Bool.true_and Bool.and_false Bool.false_and Nb M9 M7 Np Nk Ij Iw IV Ji Jm Io Je Il Jd Ip Ir Iu Bool.true_or Bool.false_or Bool.or_true Bool.or_false at0 at1 at2 Eo Bj s_end w_end Lp Lq Od Oc Ob Oe Og"
local macro_rules | `(tactic| z_go)=>do
 let l <-(Qx.splitOn " ").toArray.mapM fun n=> `(Lean.Parser.Tactic.simpLemma| $(Lean.mkIdent n.toName):term)
 `(tactic| try simp only[$l,*])
noncomputable def St (is js:List Int) (R:Mm):Mm:=.obj "PourStation" [("marks",.ref 1)]::.lst (is.map .int)::.lst (js.map .int)::R
section
variable {is js:List Int}{R:Mm}
theorem xK {x:D}:List.lookup ("marks":Str) [(("marks":Str),x)]=some x:=by kernel_rfl
theorem bU:(St is js R)[0]? =some (.obj "PourStation" [("marks",.ref 1)]):=rfl
theorem rm:(St is js R)[1]? =some (.lst (is.map .int)):=rfl
theorem rz:(St is js R)[2]? =some (.lst (js.map .int)):=rfl
theorem rK:vw (St is js R) (.ref 1)=.lst (is.map .int):=DY rm
theorem vK:vw (St is js R) (.ref 2)=.lst (js.map .int):=DY rz
theorem rB {env:E3.Env}(h:env[0]? =some (.val (.ref 0))):cU "PourStation" "marks" (aj 0) env (St is js R)=some (.v (.ref 1),St is js R):=FW (by simp only[Cy,h,CG]) bU xK
theorem B_:List.lookup ("low":Str) [(("marks":Str),(.ref 1:D))]=none:=by kernel_rfl
theorem HW:List.lookup ("tell_low":Str) [(("marks":Str),(.ref 1:D))]=none:=by kernel_rfl
theorem HJ:List.lookup ("close_at":Str) [(("marks":Str),(.ref 1:D))]=none:=by kernel_rfl
theorem HS:List.lookup ("take_mark":Str) [(("marks":Str),(.ref 1:D))]=none:=by kernel_rfl
theorem HN:List.lookup ("take_in":Str) [(("marks":Str),(.ref 1:D))]=none:=by kernel_rfl
theorem BZ:List.lookup ("all_kept":Str) [(("marks":Str),(.ref 1:D))]=none:=by kernel_rfl
theorem xY:List.lookup ("state":Str) [(("marks":Str),(.ref 1:D))]=none:=by kernel_rfl
theorem wu (hn:is≠ []):gG [.lst (is.map .int)]=some (.int (aF is)):=by
 have hp:0<is.length:=List.length_pos_iff.mpr hn;simp only[gG,E3.ints_map,hp,T6]
theorem Ba (hn:is≠ []):dY [.ref 0] (St is js R)=some (.v (.int (aF is)),St is js R):=by
 have f:=rB (is:=is) (js:=js) (R:=R) (env:=[.val (.ref 0)]) rfl;have w:=rK (is:=is) (js:=js) (R:=R);unfold dY rY;generalize cU "PourStation" "marks" (aj 0)=F at f ⊢;generalize St is js R=M at f w ⊢;z_go;rw[f];z_go;rw[w,wu hn];z_go
theorem A_ {M:Mm}{d:D}:fK [d] M=some (.v (.lst []),M):=by
 unfold fK rU;z_go
theorem FT {M:Mm}{d e:D}:lK [d,e] M=some (.v (.lst []),M):=by
 unfold lK rW;z_go
theorem Bb:gb [.ref 0] (St is js R)=some (.v (.tup [.lst (is.map .int),.lst []]),St is js R):=by
 have f:=rB (is:=is) (js:=js) (R:=R) (env:=[.val (.ref 0)]) rfl;have w:=rK (is:=is) (js:=js) (R:=R);have m:aU "PourStation" "all_kept" fK (aj 0) ak [.val (.ref 0)] (St is js R)=some (.v (.lst []),St is js R):=fP (k:=0) (ds:=[]) (by z_go) bU BZ rfl A_;unfold gb rZ;generalize cU "PourStation" "marks" (aj 0)=F at f ⊢;generalize aU "PourStation" "all_kept" fK (aj 0) ak=F2 at m ⊢;generalize St is js R=M at f w m ⊢;z_go;rw[f];z_go;rw[w];z_go;rw[m];z_go
theorem Gd:lM [.ref 0] (St is js R)=some (.v (.tup [.ref (St is js R).length,.lst []]),St is js (R ++ [.lst (is.map .int)])):=by
 have f:=rB (is:=is) (js:=js) (R:=R) (env:=[.val (.ref 0)]) rfl;have w:=rK (is:=is) (js:=js) (R:=R);have m:aU "PourStation" "all_kept" fK (aj 0) ak [.val (.ref 0)] (St is js (R ++ [.lst (is.map .int)]))=some (.v (.lst []),St is js (R ++ [.lst (is.map .int)])):=fP (k:=0) (ds:=[]) (by z_go) bU BZ rfl A_;have e:St is js R ++ [.lst (is.map .int)]=St is js (R ++ [.lst (is.map .int)]):=rfl;unfold lM su;generalize cU "PourStation" "marks" (aj 0)=F at f ⊢;generalize aU "PourStation" "all_kept" fK (aj 0) ak=F2 at m ⊢;generalize St is js (R ++ [.lst (is.map .int)])=M2 at m e ⊢;generalize St is js R=M at f w e ⊢;z_go;rw[f];z_go;rw[w];z_go;rw[e,m];z_go
theorem Gf {M:Mm}{low:Int}(h:M[0]? =some (.obj "PourStation" [("marks",.ref 1)])):lQ [.ref 0,.int low] M=some (.v (.lst [.tup [.str "mark",.int low]]),M):=by
 have m:aU "PourStation" "close_at" lK (aj 0) (aC (aj 1) ak) [.val (.ref 0),.val (.int low)] M=some (.v (.lst []),M):=fP (k:=0) (ds:=[.int low]) (by z_go) h HJ (by z_go) FT;unfold lQ sG;generalize aU "PourStation" "close_at" lK (aj 0) (aC (aj 1) ak)=F at m ⊢;z_go;rw[m];z_go;rw[show cY (ao (.bl true)) Ay [] [] [] M=some ([],M) from rfl];z_go
end
section
variable {is js:List Int}{R:Mm}{w t:Int}
theorem wA:∀{l:List Int} {a:Int},a∈l->aF l<=a
  | [],_,h=>nomatch h
  | [c],a,h=>by rw[Ul.mp h];exact Int.le_refl _
  |c::d::l,a,h=>by
    unfold aF;rcases Sy.mp h with rfl |h
    · omega
    · have:=wA h;omega
noncomputable def up (is:List Int) (w t:Int):List Int:=is.set w.toNat (if t > is.getD w.toNat 0 then t else is.getD w.toNat 0)
theorem zN:(up is w t).length=is.length:=Tn
theorem DW (h1:w.toNat<is.length)(h:t<=is.getD w.toNat 0):up is w t=is:=by
 unfold up;rw[R5 (by omega)];rw[U9,RV h1,Vf];exact List.set_getElem_self h1
theorem Qn (h1:w.toNat<is.length):aF is<=aF (up is w t):=by
 refine wz _ (fun e=>?_) fun a ha=>?_
 ·have:=congrArg List.length e;rw[zN,UG]at this;omega
 ·unfold up at ha;rcases Vc ha with h |h
  ·exact wA h
  ·have m:is.getD w.toNat 0∈is:=by
    rw[U9,RV h1,Vf];exact List.getElem_mem h1
   have:=wA m;rw[h]
   split<;>omega
noncomputable def due (is:List Int) (w t:Int):List D:=if aF (up is w t) > aF is then [.tup [.str "mark",.int (aF (up is w t))]] else []
theorem Bu (h0:0<=w)(h1:w.toNat<is.length):cj (is.map D.int) w=some (.int (is.getD w.toNat 0)):=by
 obtain⟨j,rfl⟩:∃j:Nat,w=j:=⟨w.toNat,by omega⟩;refine mY ?_;rw[Vb]at h1 ⊢;rw[R7,RV h1]
 simp[List.getD,h1]
theorem pH (h0:0<=w)(h1:w.toNat<is.length):dZ (is.map D.int).length w=some w.toNat:=by
 unfold dZ;rw[R3,RW h0,RW (by omega)]
theorem vm {x:Int}{n:Nat}:(is.map D.int).set n (.int x)=(is.set n x).map D.int:=by rw[List.map_set]
theorem Ga (hn:is≠ [])(h0:0<=w)(h1:w.toNat<is.length):lO [.ref 0,.int w,.int t] (St is js R)=some (.v (.lst (due is w t)),St (up is w t) js R):=by
 have ia:=Bu h0 h1;have un:up is w t≠ []:=fun e=>by
  have:=congrArg List.length e;rw[zN,UG]at this;omega
 unfold lO sE
 by_cases h:t<=is.getD w.toNat 0
 ·have f:=rB (is:=is) (js:=js) (R:=R) (env:=[.val (.ref 0),.val (.int w),.val (.int t),.un,.un]) rfl;have wv:=rK (is:=is) (js:=js) (R:=R);have ed:due is w t=[]:=by unfold due;rw[DW h1 h,R5 (by omega)]
  rw[ed,DW h1 h];generalize cU "PourStation" "marks" (aj 0)=F at f ⊢;generalize St is js R=M at f wv ⊢;z_go;rw[f];z_go;rw[wv];z_go;rw[ia];z_go;simp only[h,Ue];z_go
 ·have f:∀x y is,cU "PourStation" "marks" (aj 0) [.val (.ref 0),.val (.int w),.val (.int t),x,y] (St is js R)=some (.v (.ref 1),St is js R):=fun x y is=>rB (is:=is) (js:=js) (R:=R) (env:=[.val (.ref 0),.val (.int w),.val (.int t),x,y]) rfl;have wv:=rK (is:=is) (js:=js) (R:=R);have eu:up is w t=is.set w.toNat t:=by unfold up;rw[RW (by omega)]
  have m:∀x y is,is≠ []->aU "PourStation" "low" dY (aj 0) ak [.val (.ref 0),.val (.int w),.val (.int t),x,y] (St is js R)=some (.v (.int (aF is)),St is js R):=fun x y is hn=>fP (k:=0) (ds:=[]) (by z_go) bU B_ rfl (Ba hn);have si:g8 (cU "PourStation" "marks" (aj 0)) (aj 1) (aj 2) [.val (.ref 0),.val (.int w),.val (.int t),.val (.int (aF is)),.un] (St is js R)=some (.nx [.val (.ref 0),.val (.int w),.val (.int t),.val (.int (aF is)),.un],St (up is w t) js R):=by
   rw[Bm (k:=1) (i:=w) (x:=.int t) (M1:=St is js R) (M2:=St is js R) (M3:=St is js R) (ds:=is.map .int) (j:=w.toNat) (by z_go) (f _ _ is) (by z_go) rm (pH h0 h1),vm,eu];rfl
  have tl:∀x y,aU "PourStation" "tell_low" lQ (aj 0) (aC (aj 4) ak) [.val (.ref 0),.val (.int w),.val (.int t),x,.val (.int y)] (St (up is w t) js R)=some (.v (.lst [.tup [.str "mark",.int y]]),St (up is w t) js R):=fun x y=>fP (k:=0) (M1:=St (up is w t) js R) (M2:=St (up is w t) js R) (ds:=[.int y]) (by z_go) bU HW (by z_go) (Gf bU);have m1:=fun x y=>m x y is hn;have m2:=fun x y=>m x y (up is w t) un;have f1:=fun x y=>f x y is;clear f m;generalize g8 (cU "PourStation" "marks" (aj 0)) (aj 1) (aj 2)=F1 at si ⊢;generalize cU "PourStation" "marks" (aj 0)=F at f1 ⊢;generalize aU "PourStation" "low" dY (aj 0) ak=F2 at m1 m2 ⊢;generalize aU "PourStation" "tell_low" lQ (aj 0) (aC (aj 4) ak)=F3 at tl ⊢;generalize St is js R=M at f1 wv m1 si ⊢;generalize St (up is w t) js R=M' at m2 si tl ⊢;z_go;rw[f1];z_go;rw[wv];z_go;rw[ia];z_go;simp only[h,Tg];z_go;rw[m1];z_go;rw[si];z_go;rw[m2];z_go;have le:=Qn (t:=t) h1;unfold due
  by_cases hb:aF (up is w t)=aF is
  ·simp only[hb,Ue];z_go;rw[R5 (by omega)]
  ·simp only[hb,Tg];z_go;rw[tl];z_go;rw[RW (by omega)]
theorem wN (hn:is≠ [])(h0:0<=w)(h1:w.toNat<is.length):lN [.ref 0,.int w,.tup [.str "mark",.int t]] (St is js R)=some (.v (.lst (due is w t)),St (up is w t) js R):=by
 have m:aU "PourStation" "take_mark" lO (aj 0) (aC (aj 1) (aC (s2 aY (aj 2) (ao (.int 1))) ak)) [.val (.ref 0),.val (.int w),.val (.tup [.str "mark",.int t])] (St is js R)=some (.v (.lst (due is w t)),St (up is w t) js R):=fP (k:=0) (M1:=St is js R) (M2:=St is js R) (ds:=[.int w,.int t]) (by z_go) bU HS (by z_go) (Ga hn h0 h1);unfold lN sy;generalize aU "PourStation" "take_mark" lO (aj 0) (aC (aj 1) (aC (s2 aY (aj 2) (ao (.int 1))) ak))=F at m ⊢;generalize St is js R=M at m ⊢;z_go;rw[m];z_go
end
variable {M:Mm}
theorem Gu {ns:List Int}{k:Int}(hk:0<=k):pA [.lst (ns.map .int),.int k] M=some (.v (.int (ns.getD k.toNat 0)),M):=by
 unfold pA vX;z_go
 by_cases h:k<(ns.length:Int)
 ·simp only[h,Ue];z_go;have e:cj (ns.map D.int) k=some (.int (ns.getD k.toNat 0)):=by
   obtain⟨j,rfl⟩:∃j:Nat,k=j:=⟨k.toNat,by omega⟩;refine mY ?_;have:j<ns.length:=by omega
   rw[R7,RV this]
   simp[List.getD,this]
  rw[e];z_go
 ·simp only[h,Tg];z_go
  simp[List.getD,List.getElem?_eq_none (show ns.length<=k.toNat by omega)]
theorem wO {i:Int}:fL [.int i] M=some (.v (.bl true),M):=by kernel_rfl
theorem Gg {n a:Int}:∃t:Int,pB [.int n,.int a] M=some (.v (.int t),M):=by
 unfold pB vZ;z_go
 by_cases h:n % 16=5
 ·simp only[h,Ue];z_go;exact⟨_,rfl⟩
 ·simp only[h,Tg];z_go
  by_cases h:n % 16 % 4=0
  ·simp only[h,Ue];z_go;exact⟨_,rfl⟩
  ·simp only[h,Tg];z_go;exact⟨_,rfl⟩
theorem Gh {is:List Int}{w t:Int}:pC [.lst (due is w t),.lst (due is w t)] M=some (.v (.bl true),M):=by
 unfold due
 split
 ·generalize aF (up is w t)=x;have ft:fL [.int x] M=some (.v (.bl true),M):=wO;unfold pC wg BJ;generalize fL=G at ft ⊢;z_go;rw[xq];z_go;rw[Bv];z_go;rw[ft];z_go;rw[R5 (by decide)];z_go;rw[tO (d:=.lst [.tup [.str "mark",.int x]]) (show 2<=50 by decide)];z_go
 ·kernel_rfl
theorem wI:∀{cs:List Int},D.deps (cs.map D.int)<=1
  | []=>by decide
  |c::cs=>by
    have:=wI (cs:=cs);show max 0 _<=1;omega
theorem Ae {α:Type}:∀l:List α,lF (l.map fun _=>D.bl true)=some (l.map fun _=>true)
 | []=>rfl
 |a::l=>by simp only[TY,lF,Ae l,Ug]
theorem n_ {is js:List Int}{d:D}(hl:is.length<=100)(hd:vw M d=.lst (is.map .int)):m_ [.tup [.lst (is.map .int),.lst []],d] M=some (.v (.bl true),M):=by
 have cm:cY (ao (.bl true)) wJ [] (is.map .int) [] M=some (is.map fun _=>.bl true,M):=by
  rw[comp_map (fun _=>.bl true) _ (fun d hd=>?_) (by rw[R3,Uc];omega),List.map_map]
  ·rfl
  ·obtain⟨i, -,rfl⟩:=List.mem_map.mp hd;unfold wJ;z_go;rw[wO];z_go
 have ds:=wI (cs:=is);have ba:fB [.lst (is.map fun _=>D.bl true)]=some (.bl true):=by
  simp only[fB,Ae,Ug]
  simp
 unfold m_ vY;z_go;rw[Bv];z_go;rw[R5 (by decide)];z_go;rw[xq];z_go
 try rw[xq]
 z_go;rw[hd,tO (by show D.deps (is.map .int) + 1<=50;omega)];z_go;rw[tO (by decide)];z_go;rw[cm];z_go;rw[ba];z_go
section
variable {is:List Int}{R:Mm}{n x m w:Int}
abbrev lH (is:List Int):D:=.tup [.lst (is.map .int),.lst []]
theorem T9 {a0 a1 a3 a4 a5 a6 a7 a8 a9:E3.Slot}:∃R',tD [a0,a1,.val (.ref 0),a3,a4,a5,a6,a7,a8,a9] (St is is R)=some (.nx [a0,a1,.val (.ref 0),a3,a4,a5,a6,a7,a8,a9],St is is R'):=by
 have sc:aU "PourStation" "state" lM (aj 2) ak [a0,a1,.val (.ref 0),a3,a4,a5,a6,a7,a8,a9] (St is is R)=some (.v (.tup [.ref (St is is R).length,.lst []]),St is is (R ++ [.lst (is.map .int)])):=fP (k:=0) (M1:=St is is R) (M2:=St is is R) (ds:=[]) (by z_go) bU xY rfl Gd;have eN:(St is is R).length=R.length + 3:=rfl;have hk:(St is is (R ++ [.lst (is.map .int)]))[R.length + 3]? =some (.lst (is.map .int)):=by
  show(R ++ [Cl.lst (is.map .int)])[R.length]? =_;rw[S_ (RN _),VL];rfl
 refine ⟨(R ++ [Cl.lst (is.map .int)]).set R.length (Cl.lst []), ?_⟩;unfold tD;rw [tW, Ey (k := R.length + 3) (M1 := St is is (R ++ [.lst (is.map .int)])) (ds0 := is.map .int) (by
  rw[eN]at sc;generalize aU "PourStation" "state" lM (aj 2) ak=F at sc ⊢;generalize St is is (R ++ [.lst (is.map .int)])=M2 at sc ⊢;z_go;rw[sc];z_go) hk]
 rfl
theorem turn {a4 a6 a7 a8 a9:E3.Slot}(hm:is.length=m.toNat)(m0:2<=m)(m1:m<=8){ds:D}:∃(is':List Int) (R':Mm) (a6' a7' a8' a9':E3.Slot),is'.length=m.toNat/\xH [.val ds,.val (.int m),.val (.ref 0),.val (.ref 2),a4,.val (.int n),a6,a7,a8,a9] (St is is R)=some (.nx [.val ds,.val (.int m),.val (.ref 0),.val (.ref 2),a4,.val (.int n),a6',a7',a8',a9'],St is' is' R'):=by
 have w0:=Int.emod_nonneg n (show m≠0 by omega);have w1:=VN n (show 0<m by omega);generalize hw:n % m=w at w0 w1;have wl:w.toNat<is.length:=by omega
 have hn:is≠ []:=fun e=>by rw[e,UG]at wl;omega
 obtain⟨t,et⟩:=Gg (M:=St is is R) (n:=n / m) (a:=is.getD w.toNat 0);have ul:=zN (is:=is) (w:=w) (t:=t);have un:up is w t≠ []:=fun e=>by rw[e,UG]at ul;omega
 obtain⟨R',e9⟩:=T9 (is:=up is w t) (R:=R) (a0:=.val ds) (a1:=.val (.int m)) (a3:=.val (.ref 2)) (a4:=a4) (a5:=.val (.int n)) (a6:=.val (.int w)) (a7:=.val (.int t)) (a8:=.val (.int (aF is))) (a9:=.val (.lst (due is w t)));refine⟨up is w t,R',.val (.int w),.val (.int t),.val (.int (aF is)),.val (.lst (due is w t)),by rw[ul,hm],?_⟩;have ia:=Bu w0 wl;have w2:=vK (is:=is) (js:=is) (R:=R);have w2':=vK (is:=is) (js:=up is w t) (R:=R);have w2'':=vK (is:=up is w t) (js:=up is w t) (R:=R);have bl:=wu hn;have bl':=wu un
 -- the law's own marks
 have si:g8 (aj 3) (aj 6) (sN dR (aC (s2 aY (aj 3) (aj 6)) (aC (aj 7) ak))) [.val ds,.val (.int m),.val (.ref 0),.val (.ref 2),a4,.val (.int n),.val (.int w),.val (.int t),.val (.int (aF is)),a9] (St is is R)=some (.nx [.val ds,.val (.int m),.val (.ref 0),.val (.ref 2),a4,.val (.int n),.val (.int w),.val (.int t),.val (.int (aF is)),a9],St is (up is w t) R):=by
  rw [Bm (k := 2) (i := w) (x := .int (if t > is.getD w.toNat 0 then t else is.getD w.toNat 0)) (M1 := St is is R) (M2 := St is is R) (M3 := St is is R) (ds := is.map .int) (j := w.toNat) (by
   generalize St is is R=M at w2 ⊢;z_go;rw[w2];z_go;rw[ia];z_go) (by z_go) (by z_go) rz (pH w0 wl),vm]
  rfl
 have ti:aU "PourStation" "take_in" lN (aj 2) (aC (aj 6) (aC (bx (aC (ao (.str "mark")) (aC (aj 7) ak))) ak)) [.val ds,.val (.int m),.val (.ref 0),.val (.ref 2),a4,.val (.int n),.val (.int w),.val (.int t),.val (.int (aF is)),.val (.lst (due is w t))] (St is (up is w t) R)=some (.v (.lst (due is w t)),St (up is w t) (up is w t) R):=fP (k:=0) (M1:=St is (up is w t) R) (M2:=St is (up is w t) R) (ds:=[.int w,.tup [.str "mark",.int t]]) (by z_go) bU HN (by z_go) (wN hn w0 wl);have lo:aU "PourStation" "low" dY (aj 2) ak [.val ds,.val (.int m),.val (.ref 0),.val (.ref 2),a4,.val (.int n),.val (.int w),.val (.int t),.val (.int (aF is)),.val (.lst (due is w t))] (St (up is w t) (up is w t) R)=some (.v (.int (aF (up is w t))),St (up is w t) (up is w t) R):=fP (k:=0) (M1:=St (up is w t) (up is w t) R) (M2:=St (up is w t) (up is w t) R) (ds:=[]) (by z_go) bU B_ rfl (Ba un);have sf:aU "PourStation" "state" gb (aj 2) ak [.val ds,.val (.int m),.val (.ref 0),.val (.ref 2),a4,.val (.int n),.val (.int w),.val (.int t),.val (.int (aF is)),.val (.lst (due is w t))] (St (up is w t) (up is w t) R)=some (.v (lH (up is w t)),St (up is w t) (up is w t) R):=fP (k:=0) (M1:=St (up is w t) (up is w t) R) (M2:=St (up is w t) (up is w t) R) (ds:=[]) (by z_go) bU xY rfl Bb;have tl:=Gh (M:=St (up is w t) (up is w t) R) (is:=is) (w:=w) (t:=t);have wh:∀i,fL [.int i] (St (up is w t) (up is w t) R)=some (.v (.bl true),St (up is w t) (up is w t) R):=fun i=>wO;have ls:=n_ (M:=St (up is w t) (up is w t) R) (is:=up is w t) (js:=up is w t) (d:=.ref 2) (by omega) w2'';generalize hM2:St (up is w t) (up is w t) R=M2 at *;have m8:tB [.val ds,.val (.int m),.val (.ref 0),.val (.ref 2),a4,.val (.int n),.val (.int w),.val (.int t),.val (.int (aF is)),.val (.lst (due is w t))] M2=some (.nx [.val ds,.val (.int m),.val (.ref 0),.val (.ref 2),a4,.val (.int n),.val (.int w),.val (.int t),.val (.int (aF is)),.val (.lst (due is w t))],St (up is w t) (up is w t) R'):=by
  unfold tB;generalize tD=n9 at e9 ⊢;generalize aU "PourStation" "state" gb (aj 2) ak=F at sf ⊢;z_go;rw[sf];z_go;rw[ls];z_go;exact e9
 have m7:tu [.val ds,.val (.int m),.val (.ref 0),.val (.ref 2),a4,.val (.int n),.val (.int w),.val (.int t),.val (.int (aF is)),.val (.lst (due is w t))] M2=some (.nx [.val ds,.val (.int m),.val (.ref 0),.val (.ref 2),a4,.val (.int n),.val (.int w),.val (.int t),.val (.int (aF is)),.val (.lst (due is w t))],St (up is w t) (up is w t) R'):=by
  unfold tu;generalize tB=n8 at m8 ⊢;generalize aU "PourStation" "low" dY (aj 2) ak=F at lo ⊢;z_go;rw[lo];z_go;rw[wh];z_go;rw[lo];z_go;rw[w2'',bl'];z_go
  try simp only[Ue]
  z_go;exact m8
 have m6:sZ [.val ds,.val (.int m),.val (.ref 0),.val (.ref 2),a4,.val (.int n),.val (.int w),.val (.int t),.val (.int (aF is)),.val (.lst (due is w t))] (St is (up is w t) R)=some (.nx [.val ds,.val (.int m),.val (.ref 0),.val (.ref 2),a4,.val (.int n),.val (.int w),.val (.int t),.val (.int (aF is)),.val (.lst (due is w t))],St (up is w t) (up is w t) R'):=by
  unfold sZ;generalize tu=n7 at m7 ⊢;generalize aU "PourStation" "take_in" lN (aj 2) (aC (aj 6) (aC (bx (aC (ao (.str "mark")) (aC (aj 7) ak))) ak))=F at ti ⊢;generalize St is (up is w t) R=M1 at ti ⊢;z_go;rw[ti];z_go;rw[tl];z_go;exact m7
 have m5:sY [.val ds,.val (.int m),.val (.ref 0),.val (.ref 2),a4,.val (.int n),.val (.int w),.val (.int t),.val (.int (aF is)),.val (.lst [])] (St is (up is w t) R)=some (.nx [.val ds,.val (.int m),.val (.ref 0),.val (.ref 2),a4,.val (.int n),.val (.int w),.val (.int t),.val (.int (aF is)),.val (.lst (due is w t))],St (up is w t) (up is w t) R'):=by
  unfold sY;generalize sZ=n6 at m6 ⊢;generalize St is (up is w t) R=M1 at w2' m6 ⊢;z_go;rw[w2',bl'];z_go
  by_cases hb:aF (up is w t) > aF is
  ·have ed:due is w t=[.tup [.str "mark",.int (aF (up is w t))]]:=RW hb;rw[ed]at m6 ⊢;simp only[hb,Ue];z_go;rw[w2',bl'];z_go;exact m6
  ·have ed:due is w t=[]:=R5 hb;rw[ed]at m6 ⊢;simp only[hb,Tg];z_go;exact m6
 unfold xH;generalize h1:xM=n1;z_go;rw[RW (by omega)];z_go;rw[hw, <-h1];unfold xM;generalize h2:xO=n2;generalize hM0:St is is R=M0 at w2 et si ⊢;z_go;rw[RW ⟨by omega,by omega⟩];z_go;rw[w2];z_go;rw[ia];z_go;rw[et];z_go;rw[<-h2];unfold xO;generalize h3:xP=n3;z_go;rw[w2,bl];z_go;rw[<-h3];unfold xP;rw[tW,si];unfold BW;generalize sY=n5 at m5 ⊢;generalize St is (up is w t) R=M1 at m5 ⊢;z_go;exact m5
end
section
variable {M:Mm}
noncomputable def zs (m:Int):List Int:=List.replicate m.toNat 0
theorem rep0 {env:E3.Env}{g:E}{m:Int}(h:g env M=some (.v (.int m),M))(h0:0<=m)(h1:m<=8):eG (aR (aC (ao (.int 0)) ak)) g env M=some (.v (.lst ((zs m).map .int)),M):=by
 rw[LK];z_go;rw[N7 (i:=m) h ⟨by omega,by simp⟩];congr 3;unfold zs
 simp
theorem FZ {fr:List D}{x0 x1 x3:D}{m:Int}(hm:(fr.length:Int)=m)(h0:0<=m)(h1:m<=8):lJ [.ref 0,.tup [x0,x1,.tup fr,x3]] [.obj "PourStation" []]=some (.v .non,[.obj "PourStation" [("marks",.ref 1)],.lst ((zs m).map .int)]):=by
 have rp := rep0 (M := [.obj "PourStation" []]) (env := [.val (.ref 0), .val (.tup [x0, x1, .tup fr, x3])]) (g := sN bB (aC (s2 aY (aj 1) (ao (.int 2))) ak)) (m := m) (by
  z_go;rw[hm]) h0 h1
 unfold lJ rR;generalize hF:mG (eG (aR (aC (ao (.int 0)) ak)) (sN bB (aC (s2 aY (aj 1) (ao (.int 2))) ak)))=F;have fc:F [.val (.ref 0),.val (.tup [x0,x1,.tup fr,x3])] [.obj "PourStation" []]=some (.v (.ref 1),[.obj "PourStation" [],.lst ((zs m).map .int)]):=by
  rw[<-hF];generalize eG (aR (aC (ao (.int 0)) ak)) (sN bB (aC (s2 aY (aj 1) (ao (.int 2))) ak))=F2 at rp ⊢;z_go;rw[rp];z_go
 rw[pW,tW];show cO (dw aA (nA "PourStation" "marks" (aj 0) F [.val (.ref 0),.val (.tup [x0,x1,.tup fr,x3])] [.obj "PourStation" []]))=_;rw[Gb (k:=0) (x:=.ref 1) (M1:=[.obj "PourStation" [],.lst ((zs m).map .int)]) (M2:=[.obj "PourStation" [],.lst ((zs m).map .int)]) (fs:=[]) fc rfl rfl (by decide)];rfl
theorem Ge {fr:List D}{m:Int}(hm:(fr.length:Int)=m)(h0:0<=m)(h1:m<=8):pD [.tup [.str "pour",.str "p",.tup fr,.tup []]] []=some (.v (.ref 0),[.obj "PourStation" [("marks",.ref 1)],.lst ((zs m).map .int)]):=by
 have mk:mJ "PourStation" lJ (aC (aj 0) ak) [.val (.tup [.str "pour",.str "p",.tup fr,.tup []])] []=some (.v (.ref 0),[.obj "PourStation" [("marks",.ref 1)],.lst ((zs m).map .int)]):=Ht (M1:=[]) (ds:=[.tup [.str "pour",.str "p",.tup fr,.tup []]]) (by z_go) (FZ hm h0 h1);have k1:(Str.ofString "pour"=Str.ofString "keep")=False:=eq_false (by x_go);have k2:(Str.ofString "pour"=Str.ofString "turn")=False:=eq_false (by x_go);have k3:(Str.ofString "pour"=Str.ofString "share")=False:=eq_false (by x_go);unfold pD wj;generalize mJ "PourStation" lJ (aC (aj 0) ak)=F at mk ⊢;z_go;simp only[k1,Tg];z_go;simp only[k2,Tg];z_go;simp only[k3,Tg];z_go;rw[mk];z_go
def frm (d:D):D:=match d with |.int i=>.str ("a" ++ mO i) |d=>d
theorem Gp {m:Int}(h1:m<=8):cY (ao (.bl true)) wK [] ((List.range m.toNat).map fun(k:Nat)=>D.int (0 + (k:Int))) [] M=some (((List.range m.toNat).map fun(k:Nat)=>D.int (0 + (k:Int))).map frm,M):=by
 refine comp_map frm _ (fun d hd => ?_) (by rw [R3, Uq, Uc]; omega);obtain ⟨k, hk, rfl⟩ := List.mem_map.mp hd;rw [UL] at hk;have hl := O1 (i := 0 + (k : Int)) (k := 2) (by decide) (by omega);unfold wK;z_go;rw [RW (Ho (by omega))];z_go;rw [RW (by
  show _ + (mO (0 + (k:Int))).length<=16777216;rw[show(Str.ofString "a").length=1 by x_go];omega)]
 z_go;rfl
theorem Q6 {a0 a2 a3 a5 a6 a7 a8 a9:E3.Slot}{m:Int}(h0:0<=m)(h1:m<=8):cO (tL [a0,.val (.int m),a2,a3,.val (lH (zs m)),a5,a6,a7,a8,a9] M)=some (.v (.bl true),M):=by
 have rp:=rep0 (M:=M) (env:=[a0,.val (.int m),a2,a3,.val (lH (zs m)),a5,a6,a7,a8,a9]) (g:=aj 1) (m:=m) (by z_go) h0 h1;have dp:=wI (cs:=zs m);unfold tL;generalize eG (aR (aC (ao (.int 0)) ak)) (aj 1)=F at rp ⊢;z_go;rw[rp];z_go;rw[show(D.tup [.lst ((zs m).map .int),.lst []])=lH (zs m) from rfl,tO (by show max (D.deps ((zs m).map .int) + 1) (max 1 0) + 1<=50;omega)];z_go
theorem Hg:∀ns:List Int,ns.length<=63->∃M,fO [.lst (ns.map D.int)] []=some (.v (.bl true),M):=by
 intro ns hl;have c0:=Gu (M:=[]) (ns:=ns) (k:=0) (by decide);generalize ns.getD (0:Int).toNat 0=v0 at c0;have e0:=Int.emod_nonneg v0 (show(7:Int)≠0 by decide);have e1:=VN v0 (show(0:Int)<7 by decide);generalize hm:2 + v0 % 7=m;have m0:2<=m:=by omega
 have m1:m<=8:=by omega
 have frl:((((List.range m.toNat).map fun(k:Nat)=>D.int (0 + (k:Int))).map frm).length:Int)=m:=by
  rw[R3,R3,Uq];omega
 have fr:=Gp (M:=[]) (m:=m) m1;generalize ((List.range m.toNat).map fun(k:Nat)=>D.int (0 + (k:Int))).map frm=frs at frl fr;have st:=Ge frl (by omega) m1;have zl:(zs m).length=m.toNat:=Vp;have sf:aU "PourStation" "state" gb (aj 2) ak [.val (.lst (ns.map .int)),.val (.int m),.val (.ref 0),.val (.ref 2),.un,.un,.un,.un,.un,.un] (St (zs m) (zs m) [])=some (.v (lH (zs m)),St (zs m) (zs m) []):=fP (k:=0) (M1:=St (zs m) (zs m) []) (M2:=St (zs m) (zs m) []) (ds:=[]) (by z_go) bU xY rfl Bb;have ls:=n_ (M:=St (zs m) (zs m) []) (is:=zs m) (js:=zs m) (d:=.ref 2) (by omega) vK;have rp:=rep0 (M:=[.obj "PourStation" [("marks",.ref 1)],.lst ((zs m).map .int)]) (env:=[.val (.lst (ns.map .int)),.val (.int m),.val (.ref 0),.un,.un,.un,.un,.un,.un,.un]) (g:=aj 1) (m:=m) (by z_go) (by omega) m1;unfold fO Bk sH;generalize h1:xR=nx1;z_go;rw[c0];z_go;rw[hm, <-h1];unfold xR;generalize h2:xT=nx2;z_go;rw[N8 (by omega)];z_go;rw[fr];z_go;rw[st];z_go;rw[<-h2];unfold xT;generalize h3:xU=nx3;generalize eG (aR (aC (ao (.int 0)) ak)) (aj 1)=F at rp ⊢;z_go;rw[rp];z_go;rw[show [Cl.obj "PourStation" [("marks",.ref 1)],.lst ((zs m).map .int),.lst ((zs m).map .int)]=St (zs m) (zs m) [] from rfl, <-h3];unfold xU;generalize h4:xV=nx4;generalize aU "PourStation" "state" gb (aj 2) ak=F2 at sf ⊢;generalize hS:St (zs m) (zs m) []=S0 at sf ls ⊢;z_go;rw[sf];z_go;rw[<-h4];unfold xV;generalize h5:xW=nx5;z_go;rw[ls];z_go;rw[<-h5, <-hS];unfold xW;generalize hS:St (zs m) (zs m) []=S0;generalize h6:tL=nx6;z_go;rw[FP,FJ _ (by decide)];generalize ns.drop (1:Int).toNat=es;rw[<-hS, <-h6];refine Hr (Q:=fun o=>∃M,cO (dw _ o)=some (.v (.bl true),M)) (fun k env N=>∃(is:List Int) (R:Mm) (s5 s6 s7 s8 s9:E3.Slot),is.length=m.toNat/\N=St is is R/\env=[.val (.lst (ns.map .int)),.val (.int m),.val (.ref 0),.val (.ref 2),.val (lH (zs m)),s5,s6,s7,s8,s9]) ⟨zs m,[],_,_,_,_,_,zl,rfl,rfl⟩ ?_ ?_
 ·rintro k d env N hd ⟨is,R,s5,s6,s7,s8,s9,hi,rfl,rfl⟩;rw[R7,RM]at hd;obtain⟨n, -,rfl⟩:=hd;refine⟨by simp,?_⟩;simp only[List.set_cons_succ,List.set_cons_zero];obtain⟨is',R',s6',s7',s8',s9',hi',e⟩:=turn (is:=is) (R:=R) (n:=n) (a4:=.val (lH (zs m))) (a6:=s6) (a7:=s7) (a8:=s8) (a9:=s9) hi m0 m1 (ds:=.lst (ns.map .int));rw[e];exact⟨is',R',_,_,_,_,_,hi',rfl,rfl⟩
 ·rintro env N ⟨is,R,s5,s6,s7,s8,s9,hi,rfl,rfl⟩;exact⟨_,Q6 (by omega) m1⟩
end
theorem Hh {l:PySem.W.OpenLaw}{w:World}{K:Fgx}{mg:Mgx}{C:Ad}{h base:Heap}{f7 f8 f9 f10 f11 f12 f13 f14 f15 f16:Addr}{d7 d8 d9 d10 d11 d12 d13 d14 d15 d16:FuncData}(X:K.In h)(G:h.Ns mainGlobals mg)(T:Txt K mg C w)
  (F0:cA K "item_of" vf)
  (F1:cA K "station_of" vg)
  (F2:cA K "_law_whole" vd)
  (F3:cA K "_law_cell_at" t_)
  (F4:cA K "_law_time" u6)
  (F5:cA K "_law_told" u_)
  (F6:cA K "_law_state" u5)
  (D7:DefAt K mg "law" fU ["_law_script"] f7 d7)
  (D8:IniAt K C.PourStation "Station.__init__" kj ["self","row"] f8 d8)
  (D9:MetAt K C.PourStation "low" "Station.low" kJ ["self"] f9 d9)
  (D10:MetAt K C.PourStation "take_in" "Station.take_in" kY ["self","way","item"] f10 d10)
  (D11:MetAt K C.PourStation "take_mark" "Station.take_mark" kZ ["self","way","mark"] f11 d11)
  (D12:MetAt K C.PourStation "tell_low" "Station.tell_low" k_ ["self","low"] f12 d12)
  (D13:MetAt K C.PourStation "close_at" "Station.close_at" kI ["self","low"] f13 d13)
  (D14:MetAt K C.PourStation "all_kept" "Station.all_kept" kE ["self"] f14 d14)
  (D15:MetAt K C.PourStation "state" "Station.state" kO ["self"] f15 d15)
  (D16:MetAt K C.PourStation "state" "Station.state" kW ["self"] f16 d16)
  :FnOk l.prog w K mg base dJ lW f7 d7 ["_law_script"] (iu K mg 1 fO):=by
 have A0:bH l.prog w K mg base 1 "item_of" 1 wY:=(F0.ok X G Dj (fun _=>Nz (k:=0) T) :);have A8:fV l.prog w K mg base 1 C.PourStation 2 lJ:=⟨_,_,_,D8.M,fG (b:=rR) D8.F CN (by decide) (Mq (k:=0) T),D8.b⟩;have A1:bH l.prog w K mg base 3 "station_of" 1 pD:=(F1.ok X G Dl (fun _=>Oh (k:=2) (k0:=1) T rfl A8.up) :);have A2:bH l.prog w K mg base 1 "_law_whole" 1 fL:=(F2.ok X G Di (fun _=>MP (k:=0) T) :);have A3:bH l.prog w K mg base 1 "_law_cell_at" 2 pA:=(F3.ok X G Dd (fun _=>MF (k:=0) T) :);have A4:bH l.prog w K mg base 1 "_law_time" 2 pB:=(F4.ok X G Dg (fun _=>MK (k:=0) T) :);have A5:bH l.prog w K mg base 2 "_law_told" 2 pC:=(F5.ok X G Dh (fun _=>MN (k:=1) T A2.up) :);have A6:bH l.prog w K mg base 2 "_law_state" 2 m_:=(F6.ok X G Df (fun _=>MJ (k:=1) T A2.up) :);have A9:bI l.prog w K mg base 1 C.PourStation "low" 1 dY:=⟨_,_,_,D9.M,fG (b:=rY) D9.F CT (by decide) (Mt (k:=0) T),D9.b⟩;have A13:bI l.prog w K mg base 1 C.PourStation "close_at" 2 lK:=⟨_,_,_,D13.M,fG (b:=rW) D13.F CQ (by decide) (Ms (k:=0) T),D13.b⟩;have A12:bI l.prog w K mg base 2 C.PourStation "tell_low" 2 lQ:=⟨_,_,_,D12.M,fG (b:=sG) D12.F Dc (by decide) (Mz (k:=1) T A0.up A13.up),D12.b⟩;have A11:bI l.prog w K mg base 3 C.PourStation "take_mark" 3 lO:=⟨_,_,_,D11.M,fG (b:=sE) D11.F C_ (by decide) (Mx (k:=2) T A9.up A12.up),D11.b⟩;have A10:bI l.prog w K mg base 4 C.PourStation "take_in" 3 lN:=⟨_,_,_,D10.M,fG (b:=sy) D10.F CZ (by decide) (Mw (k:=3) T A11.up),D10.b⟩;have A14:bI l.prog w K mg base 1 C.PourStation "all_kept" 1 fK:=⟨_,_,_,D14.M,fG (b:=rU) D14.F CP (by decide) (Mr (k:=0) T),D14.b⟩;have A15:bI l.prog w K mg base 2 C.PourStation "state" 1 gb:=⟨_,_,_,D15.M,fG (b:=rZ) D15.F CV (by decide) (Mu (k:=1) T A14.up),D15.b⟩;have A16:bI l.prog w K mg base 2 C.PourStation "state" 1 lM:=⟨_,_,_,D16.M,fG (b:=su) D16.F CW (by decide) (Mv (k:=1) T A14.up),D16.b⟩;exact fG (b:=sH) D7.F Dk (by decide) (NK (k:=4) T A1.up A2.up A3.up A4.up A5.up A6.up A9.up A10.up A15.up A16.up)
theorem all_mk {l:W.OpenLaw}{w:World}{K:W.Frag}{h:Heap}{mg:Mgx}{fa:Addr}(X:K.In h)(G:h.Ns mainGlobals mg)(hfa:mg "law"=some (.ref fa))
  (j4:W.nsIn K mainGlobals "PourStation"=some (some (.ref j6)))
  (j7:W.nsIn K mainGlobals "DamError"=some (some (.ref j8)))
  (j9:W.nsIn K mainGlobals "NoExpr"=some (some (.ref jc)))
  (jd:W.plainGet K j6 Str.empty=true) (je:W.hasDictIn K j6=true) (jf:W.plainOver K j6=true) (jg:W.findIn K (.ref j6) "__setattr__"=some (some (.builtin "object.__setattr__")))
  (jh:W.findIn K (.ref j6) "marks"=some none)
  (ji:eO K j8=true)
  (jm:eO K jc=true)
  (jo:D_ K jc=true) (jq:W.keepIn K (.ref jc)=true) (jr:vM K jc=true)
  (F0:cA K "item_of" vf)
  (F1:cA K "station_of" vg)
  (F2:cA K "_law_whole" vd)
  (F3:cA K "_law_cell_at" t_)
  (F4:cA K "_law_time" u6)
  (F5:cA K "_law_told" u_)
  (F6:cA K "_law_state" u5)
  (a7:W.nsIn K mainGlobals "law"=some (some (.ref f7))) (l7:K.lookup f7=some ⟨oc7,od7,.func (W.fnOf "law" "law" (bK fU) (bA fU) (aO fU) .none kV7 dc7 pm7 an7 cd7 ct7),sl7⟩) (c7:W.codeIn K cd7 "law"=true) (k7:W.keepIn K (.ref f7)=true)
  (a8:W.findIn K (.ref j6) "__init__"=some (some (.ref f8))) (l8:K.lookup f8=some ⟨oc8,od8,.func (W.fnOf "__init__" "Station.__init__" (bK kj) (bA kj) (aO kj) .none kV8 dc8 pm8 an8 cd8 ct8),sl8⟩) (c8:W.codeIn K cd8 "Station.__init__"=true) (k8:W.keepIn K (.ref f8)=true)
  (n8:W.isFn K (.ref f8)=true)
  (w8:W.makesIn K j6=true) (y8:W.keepIn K (.ref j6)=true)
  (a9:W.findIn K (.ref j6) "low"=some (some (.ref f9))) (l9:K.lookup f9=some ⟨oc9,od9,.func (W.fnOf "low" "Station.low" (bK kJ) (bA kJ) (aO kJ) .none kV9 dc9 pm9 an9 cd9 ct9),sl9⟩) (c9:W.codeIn K cd9 "Station.low"=true) (k9:W.keepIn K (.ref f9)=true)
  (n9:W.isFn K (.ref f9)=true)
  (a10:W.findIn K (.ref j6) "take_in"=some (some (.ref f10))) (l10:K.lookup f10=some ⟨oc10,od10,.func (W.fnOf "take_in" "Station.take_in" (bK kY) (bA kY) (aO kY) .none kV10 dc10 pm10 an10 cd10 ct10),sl10⟩) (c10:W.codeIn K cd10 "Station.take_in"=true) (k10:W.keepIn K (.ref f10)=true)
  (n10:W.isFn K (.ref f10)=true)
  (a11:W.findIn K (.ref j6) "take_mark"=some (some (.ref f11))) (l11:K.lookup f11=some ⟨oc11,od11,.func (W.fnOf "take_mark" "Station.take_mark" (bK kZ) (bA kZ) (aO kZ) .none kV11 dc11 pm11 an11 cd11 ct11),sl11⟩) (c11:W.codeIn K cd11 "Station.take_mark"=true) (k11:W.keepIn K (.ref f11)=true)
  (n11:W.isFn K (.ref f11)=true)
  (a12:W.findIn K (.ref j6) "tell_low"=some (some (.ref f12))) (l12:K.lookup f12=some ⟨oc12,od12,.func (W.fnOf "tell_low" "Station.tell_low" (bK k_) (bA k_) (aO k_) .none kV12 dc12 pm12 an12 cd12 ct12),sl12⟩) (c12:W.codeIn K cd12 "Station.tell_low"=true) (k12:W.keepIn K (.ref f12)=true)
  (n12:W.isFn K (.ref f12)=true)
  (a13:W.findIn K (.ref j6) "close_at"=some (some (.ref f13))) (l13:K.lookup f13=some ⟨oc13,od13,.func (W.fnOf "close_at" "Station.close_at" (bK kI) (bA kI) (aO kI) .none kV13 dc13 pm13 an13 cd13 ct13),sl13⟩) (c13:W.codeIn K cd13 "Station.close_at"=true) (k13:W.keepIn K (.ref f13)=true)
  (n13:W.isFn K (.ref f13)=true)
  (a14:W.findIn K (.ref j6) "all_kept"=some (some (.ref f14))) (l14:K.lookup f14=some ⟨oc14,od14,.func (W.fnOf "all_kept" "Station.all_kept" (bK kE) (bA kE) (aO kE) .none kV14 dc14 pm14 an14 cd14 ct14),sl14⟩) (c14:W.codeIn K cd14 "Station.all_kept"=true) (k14:W.keepIn K (.ref f14)=true)
  (n14:W.isFn K (.ref f14)=true)
  (a15:W.findIn K (.ref j6) "state"=some (some (.ref f15))) (l15:K.lookup f15=some ⟨oc15,od15,.func (W.fnOf "state" "Station.state" (bK kO) (bA kO) (aO kO) .none kV15 dc15 pm15 an15 cd15 ct15),sl15⟩) (c15:W.codeIn K cd15 "Station.state"=true) (k15:W.keepIn K (.ref f15)=true)
  (n15:W.isFn K (.ref f15)=true)
  (a16:W.findIn K (.ref j6) "state"=some (some (.ref f16))) (l16:K.lookup f16=some ⟨oc16,od16,.func (W.fnOf "state" "Station.state" (bK kW) (bA kW) (aO kW) .none kV16 dc16 pm16 an16 cd16 ct16),sl16⟩) (c16:W.codeIn K cd16 "Station.state"=true) (k16:W.keepIn K (.ref f16)=true)
  (n16:W.isFn K (.ref f16)=true)
  (jt:W.nsIn K mainGlobals "isinstance"=some none)
  (ju:W.nsIn K mainGlobals "bool"=some none)
  (jw:W.nsIn K mainGlobals "int"=some none)
  (jy:W.nsIn K mainGlobals "len"=some none)
  (jz:W.nsIn K mainGlobals "max"=some none)
  (jA:W.nsIn K mainGlobals "min"=some none)
  (jB:W.nsIn K mainGlobals "tuple"=some none)
  (jC:W.nsIn K mainGlobals "list"=some none)
  (jD:W.nsIn K mainGlobals "all"=some none)
  (jE:W.nsIn K mainGlobals "range"=some none)
  (jF:W.nsIn K mainGlobals "str"=some none)
  (jG:W.nsIn K mainGlobals "ALL_LETTERS"=some (some (.ref jH))) (jJ:K.lookup jH=some ⟨.type "tuple",jK,.seq #[.str "t" jL,.str "v" jM,.str "w" jN] jO,jP⟩)
  (jQ:W.nsIn K mainGlobals "NEEDS"=some (some (.ref jR)))
  (jT:K.lookup jR=some ⟨.type "dict",none,.dict #[⟨jU,.str "+" jV,.ref jW⟩,⟨jX,.str "-" jY,.ref jZ⟩,⟨qb,.str "*" qe,.ref qg⟩,⟨qj,.str "least" ql,.ref qm⟩,⟨qp,.str "most" qt,.ref qu⟩,⟨qw,.str "<" qx,.ref qy⟩,⟨qz,.str "=" qC,.ref qD⟩,⟨qF,.str "not" qG,.ref qH⟩,⟨qI,.str "and" qJ,.ref qK⟩,⟨qL,.str "or" qM,.ref qN⟩] qO, #[]⟩) (qP:(jR==sysModules)=false)
  (qQ:jU=hashStr w "+")
  (qR:K.lookup jW=some ⟨.type "tuple",qT,.seq #[.str "number" qU,.str "number" qW,.int 2 qX] qY,qZ⟩)
  (o7:jX=hashStr w "-")
  (o8:K.lookup jZ=some ⟨.type "tuple",o9,.seq #[.str "number" oh,.str "number" ou,.int 2 oA] oE,oF⟩)
  (oG:qb=hashStr w "*")
  (oH:K.lookup qg=some ⟨.type "tuple",oJ,.seq #[.str "number" oK,.str "number" oM,.int 2 oN] oO,oR⟩)
  (oU:qj=hashStr w "least")
  (oV:K.lookup qm=some ⟨.type "tuple",oW,.seq #[.str "number" oX,.str "number" oY,.int 2 oZ] iy,iz⟩)
  (iC:qp=hashStr w "most")
  (iD:K.lookup qu=some ⟨.type "tuple",iG,.seq #[.str "number" iH,.str "number" iI,.int 2 iJ] iK,iM⟩)
  (iQ:qw=hashStr w "<")
  (iR:K.lookup qy=some ⟨.type "tuple",iT,.seq #[.str "truth" iU,.str "number" iV,.int 2 iW] iY,iZ⟩)
  (u9:qz=hashStr w "=")
  (uc:K.lookup qD=some ⟨.type "tuple",ud,.seq #[.str "truth" uf,.str "number" ug,.int 2 uh] uo,uq⟩)
  (ur:qF=hashStr w "not")
  (uw:K.lookup qH=some ⟨.type "tuple",ux,.seq #[.str "truth" uy,.str "truth" uz,.int 1 uD] uE,uF⟩)
  (uG:qI=hashStr w "and")
  (uH:K.lookup qK=some ⟨.type "tuple",uI,.seq #[.str "truth" uJ,.str "truth" uK,.int 2 uL] uM,uN⟩)
  (uO:qL=hashStr w "or")
  (uP:K.lookup qN=some ⟨.type "tuple",uQ,.seq #[.str "truth" uR,.str "truth" uT,.int 2 uU] uV,uW⟩)
  (uX:W.nsIn K mainGlobals "FIGURES"=some (some (.str "0123456789" uY)))
  (uZ:W.nsIn K mainGlobals "MOST_FIGURES"=some (some (.int 20 v7)))
  (v8:W.nsIn K mainGlobals "MOST_VALUE"=some (some (.int 1000000000000000000000000000000000000000000000000000000000000 v9)))
  (vA:W.nsIn K mainGlobals "LAST"=some (some (.int 1000000000000000 vB)))
  (vC:W.nsIn K mainGlobals "LETTERS"=some (some (.str "abcdefghijklmnopqrstuvwxyz" vD)))
  (vG:W.nsIn K mainGlobals "COND_LETTERS"=some (some (.str "tv" vH)))
  :∃fd:FuncData,(∀(s:Shared) (v:Value),BindsTo s fd ⟨[v],[]⟩ [("_law_script",v)])/\∀base:Heap,K.In base->base.Ns mainGlobals mg->FnOk l.prog w K mg base dJ lW fa fd ["_law_script"] (q_ K fO):=by
 have e:=hfa.symm.trans (T3 X G a7);cases e;have T:Txt (w:=w) K mg ⟨j6,j8,jc⟩:=⟨by simp only[nW,Sy,List.not_mem_nil,or_false,forall_eq_or_imp,forall_eq];exact⟨S9 X G jt,S9 X G ju,S9 X G jw,S9 X G jy,S9 X G jz,S9 X G jA,S9 X G jB,S9 X G jC,S9 X G jD,S9 X G jE,S9 X G jF⟩,⟨T3 X G j4,jd,je,jf,jg⟩,jh,T3 X G j7,ji,T3 X G j9,jm,jo,jq,jr,⟨_,T3 X G jG,Br (vs:=[(.str "t"),(.str "v"),(.str "w")]) (its:= #[.str "t" _,.str "v" _,.str "w" _]) (o:=⟨.type "tuple",_,.seq #[.str "t" _,.str "v" _,.str "w" _] _,_⟩) jJ rfl rfl (by show 3<=sizeLine;decide) (.cons ⟨_,rfl⟩ (.cons ⟨_,rfl⟩ (.cons ⟨_,rfl⟩ (.nil)))) (fun _ _=>⟨_,_,rfl,rfl,⟨_,_,rfl,rfl,⟨_,_,rfl,rfl,rfl⟩⟩⟩)⟩,⟨_,T3 X G jQ,_,_,_,_,jT,⟨rfl,rfl,rfl⟩,rfl,.cons (v:=.ref jW) qQ rfl (gh qR) (.cons (v:=.ref jZ) o7 rfl (gh o8) (.cons (v:=.ref qg) oG rfl (gh oH) (.cons (v:=.ref qm) oU rfl (gh oV) (.cons (v:=.ref qu) iC rfl (gh iD) (.cons (v:=.ref qy) iQ rfl (gh iR) (.cons (v:=.ref qD) u9 rfl (gh uc) (.cons (v:=.ref qH) ur rfl (gh uw) (.cons (v:=.ref qK) uG rfl (gh uH) (.cons (v:=.ref qN) uO rfl (gh uP) (.nil)))))))))),by x_go,qP⟩,⟨_,T3 X G uX⟩,⟨_,T3 X G uZ⟩,⟨_,T3 X G v8⟩,⟨_,T3 X G vA⟩,⟨_,T3 X G vC⟩,⟨_,T3 X G vG⟩⟩;have D7:DefAt K mg "law" fU ["_law_script"] _ _:=⟨T3 X G a7,fH l7 c7 k7,(fJ (st:=fU) l7 c7 k7).binds (ps:=["_law_script"]) fun _ _ _ _ _ _ us hl=>match us,hl with | [_],_=>rfl⟩
 have D8:IniAt K j6 "Station.__init__" kj ["self","row"] _ _:=⟨⟨w8,a8,n8,y8⟩,fH l8 c8 k8,(fJ (st:=kj) l8 c8 k8).binds (ps:=["self","row"]) fun _ _ _ _ _ _ us hl=>match us,hl with | [_,_],_=>rfl⟩
 have D9:MetAt K j6 "low" "Station.low" kJ ["self"] _ _:=⟨⟨a9,n9,k9⟩,fH l9 c9 k9,(fJ (st:=kJ) l9 c9 k9).binds (ps:=["self"]) fun _ _ _ _ _ _ us hl=>match us,hl with | [_],_=>rfl⟩
 have D10:MetAt K j6 "take_in" "Station.take_in" kY ["self","way","item"] _ _:=⟨⟨a10,n10,k10⟩,fH l10 c10 k10,(fJ (st:=kY) l10 c10 k10).binds (ps:=["self","way","item"]) fun _ _ _ _ _ _ us hl=>match us,hl with | [_,_,_],_=>rfl⟩
 have D11:MetAt K j6 "take_mark" "Station.take_mark" kZ ["self","way","mark"] _ _:=⟨⟨a11,n11,k11⟩,fH l11 c11 k11,(fJ (st:=kZ) l11 c11 k11).binds (ps:=["self","way","mark"]) fun _ _ _ _ _ _ us hl=>match us,hl with | [_,_,_],_=>rfl⟩
 have D12:MetAt K j6 "tell_low" "Station.tell_low" k_ ["self","low"] _ _:=⟨⟨a12,n12,k12⟩,fH l12 c12 k12,(fJ (st:=k_) l12 c12 k12).binds (ps:=["self","low"]) fun _ _ _ _ _ _ us hl=>match us,hl with | [_,_],_=>rfl⟩
 have D13:MetAt K j6 "close_at" "Station.close_at" kI ["self","low"] _ _:=⟨⟨a13,n13,k13⟩,fH l13 c13 k13,(fJ (st:=kI) l13 c13 k13).binds (ps:=["self","low"]) fun _ _ _ _ _ _ us hl=>match us,hl with | [_,_],_=>rfl⟩
 have D14:MetAt K j6 "all_kept" "Station.all_kept" kE ["self"] _ _:=⟨⟨a14,n14,k14⟩,fH l14 c14 k14,(fJ (st:=kE) l14 c14 k14).binds (ps:=["self"]) fun _ _ _ _ _ _ us hl=>match us,hl with | [_],_=>rfl⟩
 have D15:MetAt K j6 "state" "Station.state" kO ["self"] _ _:=⟨⟨a15,n15,k15⟩,fH l15 c15 k15,(fJ (st:=kO) l15 c15 k15).binds (ps:=["self"]) fun _ _ _ _ _ _ us hl=>match us,hl with | [_],_=>rfl⟩
 have D16:MetAt K j6 "state" "Station.state" kW ["self"] _ _:=⟨⟨a16,n16,k16⟩,fH l16 c16 k16,(fJ (st:=kW) l16 c16 k16).binds (ps:=["self"]) fun _ _ _ _ _ _ us hl=>match us,hl with | [_],_=>rfl⟩
 refine⟨W.fnOf "law" "law" (bK fU) (bA fU) (aO fU) .none kV7 dc7 pm7 an7 cd7 ct7,fun s v=>.of_eq rfl,fun base _ _=>Gm ?_⟩;exact Hh X G T F0 F1 F2 F3 F4 F5 F6 D7 D8 D9 D10 D11 D12 D13 D14 D15 D16
end My
open PySem PySem.W PyProof.Rows
set_option maxRecDepth 100000 in
set_option maxHeartbeats 0 in
theorem PySem.Challenge.cw_rowdam_k41_low_of_marks_holds : PySem.Challenge.rw_rowdam_k41_low_of_marks.Holds := by
 w_on;refine HQ.two "special-get-raises" My.he My.hAf My.hBf My.hAt My.hBt ?_
 k_fill
 refine E3.QG (l:=PySem.Challenge.rw_rowdam_k41_low_of_marks) (k:=My.lW) (g:=My.fO) (x:="_law_script") rfl rfl ⟨rfl,by decide,by decide⟩ (fun w h Y=>by first |exact PySem.W.kIn_of Y |exact PySem.W.km_in_of Y) ?F My.Hg
 case F=>
  intro w mg fa h KX G hmg
  refine' My.all_mk KX G hmg ?j4 ?j7 ?j9 ?jd ?je ?jf ?jg ?jh ?ji ?jm ?jo ?jq ?jr ?F0 ?F1 ?F2 ?F3 ?F4 ?F5 ?F6 ?a7 ?l7 ?c7 ?k7 ?a8 ?l8 ?c8 ?k8 ?n8 ?w8 ?y8 ?a9 ?l9 ?c9 ?k9 ?n9 ?a10 ?l10 ?c10 ?k10 ?n10 ?a11 ?l11 ?c11 ?k11 ?n11 ?a12 ?l12 ?c12 ?k12 ?n12 ?a13 ?l13 ?c13 ?k13 ?n13 ?a14 ?l14 ?c14 ?k14 ?n14 ?a15 ?l15 ?c15 ?k15 ?n15 ?a16 ?l16 ?c16 ?k16 ?n16 ?jt ?ju ?jw ?jy ?jz ?jA ?jB ?jC ?jD ?jE ?jF ?jG ?jJ ?jQ ?jT ?qP ?qQ ?qR ?o7 ?o8 ?oG ?oH ?oU ?oV ?iC ?iD ?iQ ?iR ?u9 ?uc ?ur ?uw ?uG ?uH ?uO ?uP ?uX ?uZ ?v8 ?vA ?vC ?vG
  (case j4 |j7 |j9 |jd |je |jf |jg |jh=>k_is);(case ji |jm |jo=>kernel_rfl);(case jq=>k_is);(case jr=>refine E3.QS (E3.QM ?_ ?_ ?_) ?_ ?_ ?_ ?_ ?_<;>k_is);(case a7 |l7 |c7 |k7 |a8 |l8 |c8 |k8=>k_is);(case n8 |w8=>kernel_rfl);(case y8 |a9 |l9 |c9 |k9=>k_is);(case n9=>kernel_rfl);(case a10 |l10 |c10 |k10=>k_is);(case n10=>kernel_rfl);(case a11 |l11 |c11 |k11=>k_is);(case n11=>kernel_rfl);(case a12 |l12 |c12 |k12=>k_is);(case n12=>kernel_rfl);(case a13 |l13 |c13 |k13=>k_is);(case n13=>kernel_rfl);(case a14 |l14 |c14 |k14=>k_is);(case n14=>kernel_rfl);(case a15 |l15 |c15 |k15=>k_is);(case n15=>kernel_rfl);(case a16 |l16 |c16 |k16=>k_is);(case n16=>kernel_rfl);(case jt |ju |jw |jy |jz |jA |jB |jC |jD |jE |jF |jG |jJ |jQ |jT=>k_is);(case qP=>first |decide +kernel |kernel_rfl);(case qQ=>rfl);(case qR=>k_is);(case o7=>rfl);(case o8=>k_is);(case oG=>rfl);(case oH=>k_is);(case oU=>rfl);(case oV=>k_is);(case iC=>rfl);(case iD=>k_is);(case iQ=>rfl);(case iR=>k_is);(case u9=>rfl);(case uc=>k_is);(case ur=>rfl);(case uw=>k_is);(case uG=>rfl);(case uH=>k_is);(case uO=>rfl);(case uP |uX |uZ |v8 |vA |vC |vG=>k_is);all_goals (refine' E3.cA.mk ?a ?l ?c ?k;(case a=>k_is);(case l=>k_is);(case c=>k_is);(case k=>k_is))
