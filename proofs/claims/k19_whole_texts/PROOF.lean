import PyProof.Rows.All
import Wide.All
import OpenK.AllK
import Wide.FinOn
import Lean
import PyProof.EqAt
import PyProof.EqKinds
import PyProof.TupleCall
import KE.KIsAll
import KE.KMinKey
import KE.KTupSum
import KE.KxSplit
import KE.KxAffix
import KE.KIntText
import PyProof.NeKinds
import PyProof.Rows.EqBoolInt
import KE.KSortTup
import KE.KDictLaws
import KE.KNestM
import KE.KDictSum
import PyProof.Conv_int_bool
import PySem.Challenge.RW_rowdam_k19_whole_texts
noncomputable section
set_option Elab.async false
set_option linter.all false
set_option compiler.extract_closed false
set_option bootstrap.genMatcherCode false
set_option genSizeOf false
set_option maxRecDepth 100000
set_option hygiene false
local macro_rules
| `(tactic|k_go)=>`(tactic|(rintro st H Q ⟨P0,H0,P,Os,env,M,r,M',k,e,q⟩))
| `(tactic|by_in)=>`(tactic|(rintro D st H ⟨P0,H0,P,Os,env,M,out,M',k,e,q⟩))
| `(tactic|cb_eq)=>`(tactic|(rcases gU e with⟨d,M1,e1,e⟩ |⟨c,n,e1,rfl⟩))
| `(tactic|f_tup)=>`(tactic|(refine fZ hr fun hu=>?_))
| `(tactic|k_one)=>`(tactic|(exact⟨P0,H0,P,Os,env,M,_,_,k,e1,q⟩))
| `(tactic|kj_on)=>`(tactic|(refine eE k e1 fun P1 v1 H1 l1 h1 i1=>?_))
| `(tactic|l_out)=>`(tactic|(intro X hP hw hK hc i pins s Z H E I hf st hg;subst hP hw hK))
| `(tactic|o_new)=>`(tactic|(have b1:=T.blt "len" (by x_go)))
| `(tactic|sr_in)=>`(tactic|(rcases lW e with⟨d,M1,e1,e⟩ |⟨c,n,e1,rfl⟩))
| `(tactic|w_why)=>`(tactic|(intro pins s Z H x y v u Q I rx ry h))
| `(tactic|fen_go)=>`(tactic|(intro pins s Z H Q I h))
| `(tactic|k_acc1)=>`(tactic|(obtain⟨t,rfl⟩:=rx))
| `(tactic|k_obj1)=>`(tactic|(rw[xaa (by lia)];unfold pc;z_go;rw[xaZ,xah,xaa (by lia)];z_go))
| `(tactic|k_same)=>`(tactic|(obtain⟨f0,f1,f2,f3,f4,f5⟩:=hf it (by simp)))
| `(tactic|kas_ty)=>`(tactic|(refine wpAny_handleBy_cons (codeAny_handlers_test ?_) (by intro z;cases z);refine wB (X:=X.suite (.ref a)) (K2.inv.to_suite _) hg hm ?_ hdb;obtain⟨nm,qn,N,bs,bm,sn,sub,ab,col,dd,k0,k1,k2,k3,k5,Y,lk⟩:=zV K2.inv.kIn q1;obtain⟨nm',qn',N',bs',bm',sn',sub',ab',col',dd',j0,j1,j2,j3,j5,Y',lk'⟩:=zV K2.inv.kIn q;obtain⟨oe,vs,t,e1,e2,e3,e4,e5,e6,_⟩:=Dg K2.inv.hok K2.obj))
| `(tactic|kfm_eq)=>`(tactic|(rename_i c n M1 ef;cases e;exact⟨P0,H0,P,Os,env,M,_,_,k,ef,q⟩))
| `(tactic|kfm_hd)=>`(tactic|(obtain⟨v,ws,rfl,p,rfl⟩:=i))
| `(tactic|kim_at)=>`(tactic|(rename_i e;subst e;cases h))
| `(tactic|kit_at)=>`(tactic|(refine @aD _ _ _ _ _ _ ?_ ?_))
| `(tactic|kj_one)=>`(tactic|(split at e))
| `(tactic|kjx_on)=>`(tactic|(split at h))
| `(tactic|kpa_ne)=>`(tactic|(rw[xam]at e;obtain⟨z,ez,e⟩:=e;cases e))
| `(tactic|kri_at)=>`(tactic|(refine eE k1 e2 fun P2 v2 H2 l2 h2 i2=>?_))
| `(tactic|krn_ne)=>`(tactic|(have y0:=xaL (x*x+40692*x+((ws.length:Nat):Int)+1) (show(2147483629:Int)≠0 by decide);have y1:=xaK (x*x+40692*x+((ws.length:Nat):Int)+1) (show(0:Int)<2147483629 by decide);generalize ey:(x*x+40692*x+((ws.length:Nat):Int)+1)%2147483629=y at y0 y1))
| `(tactic|kt_chr)=>`(tactic|(intro pins s Z H xs us Q I r h))
| `(tactic|kt_str)=>`(tactic|(intro pins s Z H x vs v us Q I rx rv h))
| `(tactic|o_args)=>`(tactic|(rename_i ds es;obtain⟨a,vs,o1,o2,o3,o4⟩:=k.slot i _ es;refine⟨.ref a,pW o2,.inl ⟨rfl,vs,.inl (.inl o3)⟩,?_⟩))
| `(tactic|o_inst)=>`(tactic|(subst e;obtain⟨o,e,c,d⟩:=st;exact⟨o,e,fun v z=>by rw[d]at z;cases z⟩))
| `(tactic|o_norm)=>`(tactic|(exact eE k e1 q))
| `(tactic|tb_src)=>`(tactic|(intro pins s Z H D I h))
set_option hygiene true
def xaa:=@if_pos
def xab:=@PySem.wpAny_bind
def xac:=@if_neg
def xad:=@PySem.Heap.get?_push_of_some
theorem xae:type_of%@List.length_cons:=by intros;rfl
def xaf:=@List.length_append
def xag:=@Nat.le_refl
def xah:=@List.length_map
def xai:=@List.map_cons
def xaj:=@List.getElem?_eq_getElem
def xak:=@Bool.and_eq_true
def xal:=@List.size_toArray
def xam:=@Option.map_eq_some_iff
def xan:=@PySem.wpAny_pure
def xao:=@List.getElem?_eq_some_iff
def xap:=@PySem.Heap.lt_size
def xaq:=@List.append_assoc
def xar:=@Nat.lt_of_lt_of_le
def xas:=@decide_eq_false
def xat:=@List.mem_cons_of_mem
def xau:=@List.getElem?_map
def xav:=@List.mem_append
def xaw:=@List.length_take
def xax:=@List.mem_cons_self
def xay:=@PySem.sizeLine_eq
def xaz:=@List.mem_cons
def xaA:=@List.append_nil
def xaB:=@PySem.boot_len
theorem xaC:type_of%@List.length_singleton:=by intros;rfl
def xaD:=@decide_eq_true
def xaE:=@Option.some.inj
def xaF:=@Bool.false_ne_true
def xaG:=@List.mem_singleton
def xaH:=@decide_eq_true_eq
def xaI:=@List.map_append
def xaJ:=@PySem.Heap.get?_push_size
def xaK:=@Int.emod_lt_of_pos
def xaL:=@Int.emod_nonneg
def xaM:=@Nat.ne_of_lt
def xaN:=@Nat.le_trans
def xaO:=@List.length_set
def xaP:=@Bool.eq_iff_iff
def xaQ:=@List.mem_append_right
theorem xaR:type_of%@Option.map_some:=by intros;rfl
def xaS:=@List.mem_of_getElem?
theorem xaT:type_of%@List.sum_cons:=by intros;rfl
def xaU:=@List.length_drop
def xaV:=@List.mem_map
def xaW:=@List.getElem?_append_right
def xaX:=@List.all_eq_true
def xaY:=@PySem.Obj.data_mapFields
def xaZ:=@List.length_reverse
def xa0:=@PySem.Heap.get?_update_other
def xa2:=@Nat.lt_or_ge
def xa3:=@Nat.le_of_lt_succ
def xa4:=@List.map_map
def xa5:=@List.getElem?_append_left
theorem xa6:type_of%@List.length_nil:=by intros;rfl
def xa7:=@Nat.le_antisymm
def xa8:=@if_true
def xa9:=@List.getElem?_set
theorem xba:type_of%@List.find?_cons:=by intros;rfl
def xbb:=@PySem.wpAny_newObj_type
def xbc:=@PySem.wpAny_mono
def xbd:=@List.mem_of_mem_take
def xbe:=@PySem.Heap.get?_update_self
def xbf:=@Nat.lt_irrefl
def xbg:=@Array.getElem?_eq_some_iff
def xbh:=@beq_iff_eq
def xbi:=@List.drop_eq_getElem_cons
theorem xbj:type_of%@List.replicate_succ:=by intros;rfl
def xbk:=@Int.toNat_of_nonneg
def xbl:=@PySem.wpAny_truthy_bool
def xbm:=@of_decide_eq_true
theorem xbn:type_of%@List.any_cons:=by intros;rfl
def xbo:=@List.take_append_drop
def xbp:=@PySem.W.mg_none_of
theorem xbq:type_of%@List.nil_append:=by intros;rfl
def xbr:=@List.mem_of_mem_drop
def xbs:=@PySem.wpAny_field
def xbt:=@List.take_of_length_le
theorem xbu:type_of%@Int.toNat_natCast:=by intros;rfl
def xbv:=@beq_eq_false_iff_ne
def xbw:=@Ne.symm
def xbx:=@PySem.Obj.isFreed_of_fields
def xby:=@PySem.W.mg_of
def xbz:=@List.getElem_mem
def xbA:=@PyProof.Rows.boot_str
def xbB:=@PySem.F.excBase_ValueError
def xbC:=@PyProof.Rows.boot_tuple
def xbD:=@PySem.PassesOwn.never
def xbE:=@List.map_nil
theorem xbF:type_of%@List.all_cons:=by intros;rfl
def xbG:=@PySem.strLen_append
def xbH:=@Nat.lt_succ_self
def xbI:=@beq_self_eq_true
def xbJ:=@List.mem_range
def xbK:=@PySem.W.kia_one
def xbL:=@PySem.wpAny_Call_Name_kw
def xbM:=@PySem.builtinLookup_eq_fast
theorem xbN:type_of%@List.singleton_append:=by intros;rfl
def xbO:=@List.mem_of_find?_eq_some
def xbP:=@Nat.zero_le
def xbQ:=@List.mem_iff_getElem
def xbR:=@PySem.F.slot_str_join
def xbS:=@PySem.F.type_str_join
def xbT:=@PySem.wpAny_loadPart_at
def xbU:=@PySem.wpAny_holding
def xbV:=@List.getElem?_replicate
def xbW:=@List.reverse_append
theorem xbX:type_of%@List.cons_append:=by intros;rfl
def xbY:=@PySem.F.slot_str_split
def xbZ:=@PySem.F.type_str_split
def xb0:=@PySem.wpAny_of_eq
def xb1:=@PyProof.Rows.callWith_type1
theorem xb2:type_of%@Option.isSome_some:=by intros;rfl
def xb3:=@Nat.sub_self
def xb4:=@PySem.wpAny_passesOwn
def xb5:=@List.length_replicate
def xb6:=@Bool.or_eq_true
def xb7:=@List.cons.injEq
def xb8:=@Bool.and_self
theorem xb9:type_of%@List.flatten_cons:=by intros;rfl
def xca:=@List.length_range
def xcb:=@PySem.Heap.get?_none_of_le
def xcc:=@List.mem_or_eq_of_mem_set
def xcd:=@PySem.wpAny_setField
theorem xce:type_of%@List.lookup_cons:=by intros;rfl
def xcf:=@List.drop_length
def xcg:=@PySem.F.slot_list_getattribute
theorem xch:type_of%@Array.length_toList:=by intros;rfl
def xci:=@PySem.mem_of_lookup
def xcj:=@List.getElem?_range
def xck:=@PyProof.Rows.slot_tuple_getitem
def xcl:=@PySem.wpAny_getItem_str_slice
def xcm:=@PySem.wpAny_execs_nil
def xcn:=@Nat.not_lt_zero
def xco:=@PySem.typeLookup_type
theorem xcp:type_of%@Option.map_none:=by intros;rfl
theorem xcq:type_of%@Option.isSome_none:=by intros;rfl
def xcr:=@List.drop_of_length_le
def xcs:=@Bool.not_eq_true'
def xct:=@PySem.F.plainAttrs_list
def xcu:=@PySem.W.Looks.here
def xcv:=@PySem.codeAny_mono
def xcw:=@PySem.codeAny_call_builtin
def xcx:=@PySem.wpAny_isInstance
def xcy:=@Nat.pow_le_pow_right
def xcz:=@Nat.le_succ
def xcA:=@PySem.wpAny_isSubtype_exc
def xcB:=@Nat.add_le_add_left
theorem xcC:type_of%@List.foldl_cons:=by intros;rfl
def xcD:=@Nat.min_eq_left
def xcE:=@List.mem_filterMap
def xcF:=@Bool.false_eq_true
def xcG:=@Nat.lt_of_le_of_lt
def xcH:=@List.find?_eq_none
def xcI:=@List.map_set
def xcJ:=@PySem.wpAny_call
def xcK:=@PySem.isSubtype_type
def xcL:=@PySem.wpAny_callSpecial?_slot
def xcM:=@List.length_eq_zero_iff
def xcN:=@PySem.wpAny_pyIter_list
def xcO:=@PySem.Obj.cls_mapFields
def xcP:=@List.getElem?_set_self
def xcQ:=@PySem.Calls.callWith_builtin
def xcR:=@Option.map_eq_none_iff
def xcS:=@PySem.wpAny_standAt
def xcT:=@PySem.wpAny_call_entry
def xcU:=@Nat.min_eq_right
def xcV:=@Array.getElem?_toList
def xcW:=@List.set_append_right
def xcX:=@PySem.plainObj_wpAny_Assign_Attribute
def xcY:=@List.eraseIdxIfInBounds_toArray
def xcZ:=@Array.getElem?_setIfInBounds_ne
def xc1:=@List.mem_append_left
def xc2:=@List.getElem?_set_ne
def xc3:=@Nat.ne_of_gt
def xc4:=@PySem.W.callWith_K
def xc5:=@List.nodup_cons
def xc6:=@PyProof.Rows.callWith_builtin1
def xc7:=@PySem.wpAny_typeOf
def xc8:=@PySem.SeqAt.EqAt.same
def xc9:=@PySem.call_meets
def xda:=@PySem.F.slot_list_pop
def xdb:=@PySem.wpAny_specialOf
def xdc:=@PySem.post_val_or_str
def xdd:=@PyProof.Rows.slice_closes_from
def xde:=@List.find?_some
def xdf:=@List.isEmpty_reverse
def xdh:=@List.count_eq_zero_of_not_mem
def xdi:=@PySem.Heap.SameBut.update
def xdj:=@List.length_pos_iff
def xdk:=@PySem.W.looks_findIn
def xdl:=@PySem.SeqAt.EqAt.int_str
def xdm:=@PySem.SeqAt.EqAt.str_int
def xdn:=@Array.find?_toList
def xdo:=@PySem.Calls.spliced_cons
def xdp:=@PyProof.Rows.slot_tuple_getitem
def xdq:=@PySem.F.slot_list_append
def xdr:=@PySem.tupleKind_room_in1
def xds:=@List.contains_cons
def xdt:=@PySem.Paired.length
def xdu:=@PySem.Calls.Name_function_global
def xdv:=@Bool.or_false
def xdw:=@PySem.wpAny_attempt
def xdx:=@List.map_drop
def xdy:=@List.map_take
def xdz:=@List.exists_cons_of_ne_nil
def xdA:=@Option.some.injEq
def xdB:=@PySem.StrLaws.found_one
def xdC:=@PySem.PassesOwn.leaving
def xdD:=@List.take_add_one
def xdE:=@Int.emod_eq_of_lt
def xdF:=@List.count_append
def xdG:=@Nat.not_le
def xdH:=@Nat.min_le_right
def xdI:=@if_false
def xdJ:=@PySem.Txt.slice_le
def xdK:=@PySem.wpAny_comprehension_free
def xdL:=@Bool.or_true
def xdM:=@List.all_map
def xdN:=@List.mem_reverse
def xdO:=@List.not_mem_nil
def xdP:=@Option.bind_eq_some_iff
def xdQ:=@decide_eq_false_iff_not
def xdR:=@List.of_mem_zip
def xdS:=@PySem.F.slot_dict_get
def xdT:=@PySem.seqIndex_of
def xdU:=@PySem.Heap.size_push
def xdV:=@PySem.fitsIndex_both
def xdW:=@Bool.and_false
def xdX:=@Or.imp
def xdY:=@List.mem_iff_getElem?
def xdZ:=@List.drop_zero
def xd0:=@List.dropLast_eq_take
def xd1:=@Bool.and_eq_true_iff
def xd2:=@PySem.W.looks_clsIn
def xd3:=@Bool.true_and
def xd4:=@Bool.or_assoc
def xd5:=@List.takeWhile_cons
def xd6:=@List.map_congr_left
def xd7:=@Array.append_assoc
def xd8:=@Nat.le_of_lt
def xd9:=@Nat.le_of_eq
def xea:=@Nat.succ_mul
def xeb:=@Nat.lt_trans
def xec:=@Int.add_sub_cancel
def xed:=@Nat.zero_add
def xee:=@List.filter_append
def xef:=@List.any_eq_false
def xeg:=@Option.isSome_map
def xeh:=@Nat.le_succ_of_le
def xei:=@Sum.inr.inj
local macro_rules
| `(tactic|erw [$r:rwRule])=>`(tactic|(z_go;rw[$r];z_go))
| `(tactic|erw [$r:rwRule,$rs,*])=>`(tactic|(z_go;rw[$r];erw [$rs,*]))
abbrev Fgx:=PySem.W.Frag
abbrev Mgx:=PySem.Str->Option PySem.Value
abbrev Pnx:=List (PySem.Addr×PySem.Obj)
local macro_rules | `(tactic| x_go)=> `(tactic| decide +kernel)
namespace HQ
open PySem PySem.W PySem.Calls PyProof.Rows
noncomputable def Yb {α:Type} (t:BT):(BT->α)->α:= @BT.rec (fun _=>(BT->α)->α) (fun k=>k .nil) (fun v _ _ a b k=>a fun l=>b fun r=>k (.node v l r)) t
theorem Rm {α:Type}:∀(t:BT) (k:BT->α),Yb t k=k t
 |.nil,_=>rfl
 |.node _ l r,_=>(Rm l _).trans (Rm r _)
noncomputable def Rn {α:Type} (n:Nat) (k:Nat->α):α:= @Nat.rec (fun _=>α) (k 0) (fun n _=>k (Nat.succ n)) n
theorem Yc {α:Type}(n:Nat)(k:Nat->α):Rn n k=k n:=by cases n<;>rfl
def frs {α:Type}(s:SharedT)(k:SharedT->α):α:= @SharedT.rec (fun _=>α) (fun T n l g d i o=>Yb T fun T=>Rn n fun n=>Rn i fun i=>k ⟨T,n,l,g,d,i,o⟩) s
def ziY {α:Type}(s:SharedT)(k:SharedT->α):frs s k=k s:=(Rm _ _).trans ((Yc _ _).trans (Yc _ _))
abbrev qd:Code->Sem Fin:=Fast.tw11892475500146522536 Fast.tw14364793385576792824
def Vn (p:Program)(w:World):SharedT->Thread->Option (SharedT×Thread)
 |⟨T,n,l,g,d,i,o⟩,⟨c,cd,q,fs⟩=>match c with
  |.load .. |.update .. |.alloc .. |.loadIfAlive .. =>Fast.tw10156331382660048174 qd p w ⟨T,n,l,g,d,i,o⟩ ⟨c,cd,q,fs⟩
  |c=>match Fast.tw8437177126325714943 qd p w ⟨{},g,d,i,o⟩ ⟨c,cd,q,fs⟩ with
   |.go ⟨_,g,d,i,o⟩ t=>some (⟨T,n,l,g,d,i,o⟩,t)
   |.halt _ _=>none
def zgV {p:Program}{w:World}(s:SharedT)(t:Thread):Vn p w s t=stepT (denote treeTable) p w s t:=by
 obtain⟨T,n,l,g,d,i,o⟩:=s;obtain⟨c,cd,q,fs⟩:=t;rw[show denote treeTable=qd by unfold qd;rw[<-Fast.te11892475500146522536, <-Fast.te14364793385576792824]];cases c<;>(unfold Vn;dsimp only;first |rw[<-Fast.te10156331382660048174] |(unfold stepT;dsimp only;rw[<-Fast.te8437177126325714943];cases step qd p w _ _<;>rfl))
abbrev OS:=Option SharedT
def bd (p:Program)(w:World)(n:Nat)(ih:SharedT->Thread->OS)(s:SharedT)(t:Thread):OS:=
 @Bool.rec (fun _=>OS) (@Bool.rec (fun _=>OS) none (@Option.rec _ (fun _=>OS) none (fun r=> @Prod.rec _ _ (fun _=>OS) (fun s t=> @Bool.rec (fun _=>OS) (ih s t) (frs s fun s=>ih s t) (Nat.beq (n%64) 0)) r) (Vn p w s t)) (Fast.tw6613529449190102663 11 (some (.ref 6)) t)) (some s) (through t)
def go (p:Program)(w:World)(n:Nat):SharedT->Thread->OS:= @Nat.rec (fun _=>SharedT->Thread->OS) (fun _ _=>none) (bd p w) n
theorem BL {p:Program}{w:World}:∀{n:Nat} {s s':SharedT} {t:Thread},go p w n s t=some s'->topRun treeTable p w 11 (some (.ref 6)) n s.abs t=some s'.abs
 |0,_,_,_,h=>by cases h
 |n+1,s,s',t,h=>by
  rw[show go p w (n+1) s t=bd p w n (go p w n) s t from rfl]at h;unfold bd at h;rw[zgV, <-Fast.te6613529449190102663]at h;unfold topRun
  cases ht:through t with
  |true=>rw[ht]at h;cases h;rfl
  |false=>
   rw[ht]at h
   cases hk:stepOk 11 (some (.ref 6)) t with
   |false=>rw[hk]at h;cases h
   |true=>
    rw[hk]at h
    cases hs:stepT (denote treeTable) p w s t with
    |none=>rw[hs]at h;cases h
    |some r=>
     obtain⟨s₂,t₂⟩:=r;rw[hs]at h;dsimp only at h ⊢;rw[stepT_spec hs];rw[ziY]at h;exact BL (by revert h;cases Nat.beq (n%64) 0<;>exact id)
noncomputable def mkT:List Obj->Nat->BT->BT
 | [],_,t=>t
 |o::l,i,t=>mkT l (i+1) (t.ins i o)
def bS (w:World)(o:OsState):SharedT:=⟨mkT (boot_heap w.params).objs.toList 0 .nil,11,{},⟨[]⟩,boot_drawn,boot_toks,o⟩
theorem ziS (w:World)(o:OsState):(bS w o).abs=⟨boot_heap w.params,⟨[]⟩,boot_drawn,boot_toks,o⟩:=by kernel_rfl
theorem zhh (P:Params):((boot_heap P).isNs mainGlobals&&(Array.mk []:Array GenState).size==0,(boot_heap P).objs.size,(boot_heap P).nsMap mainGlobals "__annotations__")=(true,11,some (.ref 6)):=by kernel_rfl
noncomputable def lst {α:Type} (T:BT) (n:Nat):List Obj->(List Obj->α)->α:=
 @Nat.rec (fun _=>List Obj->(List Obj->α)->α) (fun a k=>k a) (fun i ih a k=> @Option.rec Obj (fun _=>α) (ih (default::a) k) (fun o=> @Obj.rec (fun _=>α) (fun c d t l=>ih (⟨c,d,t,l⟩::a) k) o) (T.get i)) n
theorem Zf {α:Type}(T:BT):∀(n:Nat) (a:List Obj) (k:List Obj->α),lst T n a k=k (T.list n++a)
 |0,_,_=>rfl
 |n+1,a,k=>by
  rw[show T.list (n+1)=T.list n++[(T.get n).getD default] by unfold BT.list;rw[List.range_succ,xaI];rfl,xaq];unfold lst;dsimp only;cases T.get n<;>exact Zf T n _ k
def WK {α:Type}(s:SharedT)(k:Shared->α):α:= @SharedT.rec (fun _=>α) (fun T n l g d i o=>lst T n [] fun a=>k ⟨⟨⟨a⟩,l⟩,g,d,i,o⟩) s
def WL {α:Type}(s:SharedT)(k:Shared->α):WK s k=k s.abs:=(Zf _ _ _ _).trans (by rw[xaA];rfl)
section
variable {p q:Program}{lo:List Str}{Xt:Shared->Bool}{α:Type}{Yf:Shared->α}{Ya:World->α}{N:Nat}{g0:Bool}{B C:Prop}
abbrev Pre (_:LeftO p q lo Xt Yf Ya N g0/\B->C):Prop:=(opening p=plainProg p.main.scope.names/\∀s,fenceModules? p s=some s)/\Nat.ble 600 N=true
abbrev See {β:Type}(p:Program)(N:Nat)(v:World->World)(f:World->Shared->β)(y:World->β):Prop:=∀w o,(go p (v w) N (bS (v w) o) (topStub p)).map (fun s=>WK s (f (v w)))=some (y (v w))
abbrev wK (v:World->World)(_:LeftO p q lo Xt Yf Ya N g0/\B->C):Prop:=
 See p N v (fun w s=>(staticsOk (importedModules p.main.body) (boot_heap w.params) s.heap&&namesBound p s.heap&&gensDone s&&laidKept (boot_heap w.params) s.heap,Yf s)) fun w=>(true,Ya w)
abbrev wL (v:World->World)(_:LeftO p q lo Xt Yf Ya N g0/\B->C):Prop:=See p N v (fun _ s=>Fast.tw4187177175401517315 q lo (importedModules p.main.body) Xt g0 s) fun _=>openGood q lo
def left {v:World->World}{H:LeftO p q lo Xt Yf Ya N g0/\B->C}(e:Pre H)(a:wK v H)(b:wL v H)(w:World):
  (openEnds treeTable p (v w) N).map (fun s=>(openSeen q lo (importedModules p.main.body) Xt g0 s,Yf s))=some (openGood q lo,Ya (v w)):=by
 obtain⟨⟨h,gs,d,k,o⟩,e1,e2⟩:=xam.mp (boot_open e.1.1 e.2 e.1.2 (v w));obtain⟨rfl,rfl,rfl,rfl⟩:h=boot_heap (v w).params/\gs=⟨[]⟩/\d=boot_drawn/\k=boot_toks:=by simpa using e2
 obtain⟨s,hs,hv⟩:=xam.mp (a w o);have hb:=b w o;rw[hs,xaR,WL, <-Fast.te4187177175401517315]at hb;rw[WL]at hv;obtain⟨l1,l3⟩:=Prod.mk.inj hv;obtain⟨z1,z2,z3⟩:_/\_/\_:=by simpa only[Prod.mk.injEq] using zhh (v w).params
 have hr:=BL hs;rw[ziS]at hr;have t:topFrom treeTable p (v w) N ⟨boot_heap (v w).params,⟨[]⟩,boot_drawn,boot_toks,o⟩=some s.abs:=by
  unfold topFrom;dsimp only;rw[z1,z2,z3,hr];dsimp only[Option.bind_some];rw[l1]
 unfold openEnds;rw[e1,Option.bind_some,t];exact congrArg some (Prod.ext (xaE hb) l3)
def two (row:String){H:LeftO p q lo Xt Yf Ya N g0/\B->C}(e:Pre H)(a:wK (·.withFollow row false) H)(b:wL (·.withFollow row false) H)(c:wK (·.withFollow row true) H)(d:wL (·.withFollow row true) H)(hB:B):C:=
 H ⟨fun w=>by
  have x:=left e a b w;have y:=left e c d w;have z:=World.withFollow_self w row;cases h:w.params.followText row<;>rw[h]at z<;>simp only[z]at x y<;>assumption,hB⟩
end
end HQ
section
local macro_rules
  | `(tactic| refine $f:term $as:term*)=>do
    let mut bs:= #[]
    let mut hit:=false
    for a in as do
      if a.raw.isOfKind ``Lean.Parser.Term.syntheticHole&&a.raw[1].getId== `hl then
        hit:=true
        bs:=bs.push (<- `((And.left ?hx)))
      else if a.raw.isOfKind ``Lean.Parser.Term.syntheticHole&&a.raw[1].getId== `hc then
        bs:=bs.push (<- `((And.right ?hx)))
      else bs:=bs.push a
    if hit then `(tactic| refine $f $bs*) else Lean.Macro.throwUnsupported
set_option maxHeartbeats 0 in
def PySem.W.Fast.tw2881206657615410310:=PySem.Challenge.pw_rowdam_k19_whole_texts
theorem PySem.W.Fast.te2881206657615410310:PySem.Challenge.pw_rowdam_k19_whole_texts=PySem.W.Fast.tw2881206657615410310:=rfl
set_option maxHeartbeats 0 in
open_top My.hdAll for PySem.Challenge.rw_rowdam_k19_whole_texts
theorem My.he:HQ.Pre My.hdAll:=⟨⟨by kernel_rfl,fun _=>by kernel_rfl⟩,by kernel_rfl⟩
theorem My.hBf:HQ.wL (·.withFollow "special-get-raises" false) My.hdAll:=fun _ _=>by kernel_rfl
theorem My.hBt:HQ.wL (·.withFollow "special-get-raises" true) My.hdAll:=fun _ _=>by kernel_rfl
theorem My.hAf:HQ.wK (·.withFollow "special-get-raises" false) My.hdAll:=fun _ _=>by kernel_rfl
theorem My.hAt:HQ.wK (·.withFollow "special-get-raises" true) My.hdAll:=fun _ _=>by kernel_rfl
end
abbrev Vsp:=PySem.Value->PySem.Shared->Prop
abbrev Lsx:=List PySem.Str
abbrev Lvx:=List PySem.Value
abbrev Lex:=List PySem.Expr
abbrev Lsa:=List (PySem.Str×PySem.Addr)
abbrev Lsn:=List (PySem.Str×Nat)
abbrev Oix:=Option Int
abbrev Lnx:=List Nat
abbrev Avx:=Array PySem.Value
abbrev Lix:=List Int
open PySem PySem.Spec PyProof.Rows
namespace L2
abbrev Key:=Sum Int Str
def DW:Key->Value->Bool
 |.inl k,v=>Value.isInt k v
 |.inr x,v=>Value.isStrOf x v
def RX (w:World):Key->Int
 |.inl k=>hashInt k
 |.inr x=>hashStr w x
def zu:∀{k:Key} {v:Value},DW k v=true->(∃i t,k=Sum.inl i/\v=Value.int i t)\/(∃x t,k=Sum.inr x/\v=Value.str x t)
 |.inl i,v,h=>by
  obtain⟨t,e⟩:=Value.isInt_shape (k:=i) (v:=v) h;exact .inl ⟨i,t,rfl,e⟩
 |.inr x,v,h=>by
  obtain⟨t,e⟩:=Value.isStrOf_shape (x:=x) (v:=v) h;exact .inr ⟨x,t,rfl,e⟩
def zdQ (i:Int)(t:Tok):DW (.inl i) (.int i t)=true:=by simp[DW,Value.isInt]
def zdI (x:Str)(t:Tok):DW (.inr x) (.str x t)=true:=by simp[DW,Value.isStrOf]
def zgW (a b:Int):decide ((Sum.inl a:Key)=Sum.inl b)=(a==b):=by
 by_cases e:a=b
 .subst e;simp
 .have h:¬ (Sum.inl a:Key)=Sum.inl b:=fun q=>e (Sum.inl.inj q);rw[xas h];exact(xbv.mpr e).symm
def zja (a b:Str):decide ((Sum.inr a:Key)=Sum.inr b)=decide (a=b):=by
 by_cases e:a=b
 .subst e;simp
 .have h:¬ (Sum.inr a:Key)=Sum.inr b:=fun q=>e (xei q);rw[xas h,xas e]
def ziV (a:Int)(b:Str):decide ((Sum.inl a:Key)=Sum.inr b)=false:=xas (fun q=>nomatch q)
def zi2 (a:Str)(b:Int):decide ((Sum.inr a:Key)=Sum.inl b)=false:=xas (fun q=>nomatch q)
def lX (prog:Program)(w:World):PySem.KeyKind prog w Key where
 is:=DW
 hash:=RX w
 inj:=fun v a b ha hb=>by
  rcases zu ha with⟨i,t,rfl,rfl⟩ |⟨x,t,rfl,rfl⟩
  .rcases zu hb with⟨j,u,rfl,e⟩ |⟨y,u,rfl,e⟩
   .injection e with e1 _;rw[e1]
   .exact nomatch e
  .rcases zu hb with⟨j,u,rfl,e⟩ |⟨y,u,rfl,e⟩
   .exact nomatch e
   .injection e with e1 _;rw[e1]
 byValue:=fun k v h=>by
  rcases zu h with⟨i,t,rfl,rfl⟩ |⟨x,t,rfl,rfl⟩<;>rfl
 pyHash:=fun hv h=>by
  rcases zu hv with⟨i,t,rfl,rfl⟩ |⟨x,t,rfl,rfl⟩
  .exact wpAny_pyHash_int h
  .exact wpAny_pyHash_str h
 eqBool:=fun hu hv h=>by
  rcases zu hu with⟨i,t,rfl,rfl⟩ |⟨x,t,rfl,rfl⟩
  .rcases zu hv with⟨j,u,rfl,rfl⟩ |⟨y,u,rfl,rfl⟩
   .rw[zgW]at h;exact wpAny_eqBool_int h
   .rw[ziV]at h;exact xdl i t y u _ _ _ _ h
  .rcases zu hv with⟨j,u,rfl,rfl⟩ |⟨y,u,rfl,rfl⟩
   .rw[zi2]at h;exact xdm x t j u _ _ _ _ h
   .rw[zja]at h;exact wpAny_eqBool_str h
 «strs» :=fun k x t v h=>by
  rcases zu h with⟨i,u,rfl,e⟩ |⟨y,u,rfl,e⟩
  .exact nomatch e
  .injection e with e1 _
   subst e1;cases v<;>rfl
def zbR (prog:Program)(w:World)(i:Int)(t:Tok):(lX prog w).is (.inl i) (.int i t)=true:=zdQ i t
def Sh (prog:Program)(w:World)(x:Str)(t:Tok):(lX prog w).is (.inr x) (.str x t)=true:=zdI x t
inductive V where
 |non |bl (b:Bool) |int (i:Int) |str (x:Str) |byt (b:Array UInt8) |flt (b:UInt64) |ref (a:Addr) |ty (n:String)
 deriving DecidableEq
noncomputable def RelV:V->Value->Prop
 |.non,u=>u=Value.none
 |.bl b,u=>u=Value.bool b
 |.int i,u=>∃t,u=Value.int i t
 |.str x,u=>∃t,u=Value.str x t
 |.byt b,u=>∃t,u=Value.bytes b t
 |.flt b,u=>∃t,u=Value.float b t
 |.ref a,u=>u=Value.ref a
 |.ty n,u=>u=Value.type n
abbrev Vals:List V->Lvx->Prop:=Paired RelV
theorem Vals.length (r:Vals xs us):xs.length=us.length:=xdt r
theorem Vals.get:∀{xs:List V} {us:Lvx} {i:Nat} {x:V},Vals xs us->xs[i]? =some x->∃u,us[i]? =some u/\RelV x u
 |_,_,_,_,.nil,e=>by simp at e
 |_,_,0,_,.cons r _,e=>by simp at e;subst e;exact⟨_,rfl,r⟩
 |_,_,i+1,x,.cons _ t,e=>by
  obtain⟨u,h1,h2⟩:=Vals.get (i:=i) (x:=x) t (by simpa using e);exact⟨u,by simpa using h1,h2⟩
theorem Vals.set (r:RelV x u):∀{xs:List V} {us:Lvx} (i:Nat),Vals xs us->Vals (xs.set i x) (us.set i u)
 |_,_,_,.nil=>.nil
 |_,_,0,.cons _ t=>.cons r t
 |_,_,i+1,.cons q t=>.cons q (Vals.set r i t)
theorem Vals.append:∀{xs ys:List V} {us ws:Lvx},Vals xs us->Vals ys ws->Vals (xs++ys) (us++ws)
 |_,_,_,_,.nil,s=>s
 |_,_,_,_,.cons r t,s=>.cons r (Vals.append t s)
theorem Vals.take:∀{xs:List V} {us:Lvx} (n:Nat),Vals xs us->Vals (xs.take n) (us.take n)
 |_,_,0,_=>.nil
 |_,_,_+1,.nil=>.nil
 |_,_,n+1,.cons r t=>.cons r (Vals.take n t)
theorem Vals.drop:∀{xs:List V} {us:Lvx} (n:Nat),Vals xs us->Vals (xs.drop n) (us.drop n)
 |_,_,0,r=>r
 |_,_,_+1,.nil=>.nil
 |_,_,n+1,.cons _ t=>Vals.drop n t
def lA:Option V->Option Value->Prop
 |some v,some u=>RelV v u
 |none,none=>True
 |_,_=>False
def KV {κ:Type}:List (κ×V)->List (κ×Value)->Prop:=Paired fun(p:κ×V) (q:κ×Value)=>p.1=q.1/\RelV p.2 q.2
def kV:Key->V
 |.inl i=>.int i
 |.inr x=>.str x
inductive HO where
 |lst (xs:List V)
 |tup (xs:List V)
 |dK (kvs:List (Key×V)) |dT (kvs:List (List Key×V))
 |set (S:Int->Bool) (n:Nat)
 |ins (C dx:Addr) (fs:List (Str×V))
 |own (x:Addr)
 |xd (fs:List (Str×V))
 |met (f x:Addr)
 |rng (lo hi:Int)
 |frz (o:Obj) (u:HO)
 |tbl (ps:Avx)
 |ext (φ:Heap->Prop)
abbrev Hp:=Addr->Option HO
def upd (H:Hp)(a:Addr)(o:HO):Hp:=fun b=>if b=a then some o else H b
def gA:upd H a o a=some o:=by unfold upd;rw[xaa rfl]
def eN (h:b≠a):upd H a o b=H b:=by unfold upd;rw[xac h]
theorem zdp:upd (upd H a o) a u=upd H a u:=by
 funext b;unfold upd;split<;>rfl
def zlr {H:Hp}{a b:Addr}{o u:HO}(h:H a=some o)(h':H b=some u)(d:o≠u):a≠b:=by
 intro e;subst e;rw[h]at h';exact d (xaE h')
def lu {H:Hp}{a b:Addr}{o:HO}(h:H a=some o)(h':H b=none):a≠b:=by
 intro e;subst e;rw[h]at h';cases h'
section
variable (P:Program)(w:World)
def gM (H:Hp)(h:Heap)(a:Addr):HO->Prop
 |.lst xs=>xs.length<=sizeLine/\∃(its:Lvx) (n:Nat),Vals xs its/\h.get? a=some {cls:=.type "list",data:=.seq its.toArray n}
 |.tup xs=>xs.length<=sizeLine/\∃its:Lvx,Vals xs its/\IsTup h a its.toArray
 |.dK kvs=>kvs.length<=sizeLine/\(a==sysModules)=false/\∃vs,KV kvs vs/\h.DictOf (lX P w) a vs
 |.dT kvs=>kvs.length<=sizeLine/\(a==sysModules)=false/\∃xs:List (List Key×Addr×Value),
  Paired (fun(p:List Key×V) (q:List Key×Addr×Value)=>p.1=q.1/\H q.2.1=some (.tup (p.1.map kV))/\RelV p.2 q.2.2) kvs xs/\
  ∃o es ep,h.get? a=some o/\o.ExactDict/\o.data=.dict es ep/\es.toList=xs.map (entryOfKey (tupleKind (lX P w)))/\(xs.map (·.1)).Nodup
 |.set S n=>h.SetOf (intKind P w) a S n
 |.ins C dx fs=>H dx=some (.own a)/\fs.length<=1000/\dx≠a/\h.get? a=some (W.instObj C dx)/\
  ∃mA,h.Ns1 dx mA/\(∀f,lA (fs.lookup f) (mA f))/\PySem.Within mA (fs.map (·.1))
 |.own _=>∃o,h.get? a=some o
 |.xd fs=>∃mA,h.Ns1 a mA/\∀f,lA (fs.lookup f) (mA f)
 |.rng lo hi=>∃t u v,h.get? a=some {cls:=.type "range",data:=.fields #[.int lo t,.int hi u,.int 1 v]}
 |.frz o u=>h.get? a=some o/\gM H h a u
 |.tbl ps=>h.get? a=some {cls:=.none,data:=.fields ps}
 |.met f x=>h.get? a=some (W.methodObj (.ref f) (.ref x))
 |.ext φ=>φ h/\(∃o,h.get? a=some o)/\∀h1 h2:Heap,φ h1->(∀o,h1.get? a=some o->h2.get? a=some o)->φ h2
def gK (H:Hp)(h:Heap):Prop:=∀a o,H a=some o->gM P w H h a o
end
section
variable {P:Program}{w:World}{H H':Hp}{h h':Heap}{a:Addr}{o:HO}
theorem gM.lt (x:gM P w H h a o):a<h.objs.size:=by
 cases o with
 |lst xs=>obtain⟨_,_,_,_,e⟩:=x;exact xap e
 |tup xs=>obtain⟨_,_,_,p⟩:=x;exact p.lt
 |dK kvs=>obtain⟨_,_,_,_,o,_,_,e,_⟩:=x;exact xap e
 |dT kvs=>obtain⟨_,_,_,_,o,_,_,e,_⟩:=x;exact xap e
 |set S n=>obtain⟨o,_,_,_,e,_⟩:=x;exact xap e
 |ins C dx fs=>obtain⟨_,_,_,e,_⟩:=x;exact xap e
 |own y=>obtain⟨_,e⟩:=x;exact xap e
 |xd fs=>obtain⟨_,⟨_,_,_,e,_⟩,_⟩:=x;exact xap e
 |rng lo hi=>obtain⟨_,_,_,e⟩:=x;exact xap e
 |frz ob u=>obtain⟨e,_⟩:=x;exact xap e
 |tbl ps=>exact xap (show h.get? a=some _ from x)
 |met f y=>exact xap (show h.get? a=some _ from x)
 |ext φ=>obtain⟨_,⟨_,e⟩,_⟩:=x;exact xap e
theorem Paired.mapP:∀{l₁:List α} {l₂:List β},Paired F l₁ l₂->(∀a b,F a b->G a b)->Paired G l₁ l₂
 |_,_,.nil,_=>.nil
 |_,_,.cons r t,f=>.cons (f _ _ r) (Paired.mapP t f)
def gM.stay (x:gM P w H h a o)(k:∀b u,(b=a\/H b=some (.own a))->h.get? b=some u->h'.get? b=some u)
  (ho:∀b,H b=some (.own a)->H' b=some (.own a)) (ht:∀b xs,H b=some (.tup xs)->H' b=some (.tup xs)):gM P w H' h' a o:=by
 induction o with
 |lst xs=>obtain⟨z,its,n,r,e⟩:=x;exact⟨z,its,n,r,k _ _ (.inl rfl) e⟩
 |tup xs=>obtain⟨z,its,r,ob,e,c⟩:=x;exact⟨z,its,r,ob,k _ _ (.inl rfl) e,c⟩
 |dK kvs=>obtain⟨z,y,vs,r,ob,es,ep,e,c⟩:=x;exact⟨z,y,vs,r,ob,es,ep,k _ _ (.inl rfl) e,c⟩
 |dT kvs=>
  obtain⟨z,y,xs,r,ob,es,ep,e,c⟩:=x;exact⟨z,y,xs,Paired.mapP r fun p q z=>⟨z.1,ht _ _ z.2.1,z.2.2⟩,ob,es,ep,k _ _ (.inl rfl) e,c⟩
 |set S n=>obtain⟨ob,es,ep,t,e,c⟩:=x;exact⟨ob,es,ep,t,k _ _ (.inl rfl) e,c⟩
 |ins C dx fs=>
  obtain⟨d,z,ne,e,mA,⟨od,es,ep,e2,c⟩,r⟩:=x;exact⟨ho _ d,z,ne,k _ _ (.inl rfl) e,mA,⟨od,es,ep,k _ _ (.inr d) e2,c⟩,r⟩
 |own y=>obtain⟨ob,e⟩:=x;exact⟨ob,k _ _ (.inl rfl) e⟩
 |xd fs=>obtain⟨mA,⟨od,es,ep,e,c⟩,r⟩:=x;exact⟨mA,⟨od,es,ep,k _ _ (.inl rfl) e,c⟩,r⟩
 |rng lo hi=>obtain⟨t,u,v,e⟩:=x;exact⟨t,u,v,k _ _ (.inl rfl) e⟩
 |frz ob u ih=>obtain⟨e,q⟩:=x;exact⟨k _ _ (.inl rfl) e,ih q⟩
 |tbl ps=>
  have e:h.get? a=some {cls:=.none,data:=.fields ps}:=x;show h'.get? a=some {cls:=.none,data:=.fields ps};exact k a _ (.inl rfl) e
 |met f y=>
  have e:h.get? a=some (W.methodObj (.ref f) (.ref y)):=x;show h'.get? a=some (W.methodObj (.ref f) (.ref y));exact k a _ (.inl rfl) e
 |ext φ=>obtain⟨p,⟨o,e⟩,st⟩:=x;exact⟨st _ _ p fun o q=>k _ _ (.inl rfl) q,⟨o,k _ _ (.inl rfl) e⟩,st⟩
theorem gK.lt (x:gK P w H h)(e:H a=some o):a<h.objs.size:=(x a o e).lt
def gK.fresh (x:gK P w H h)(e:h.objs.size<=a):H a=none:=by
 cases q:H a with
 |none=>rfl
 |some u=>exact absurd (xar (x.lt q) e) (xbf _)
def gK.kept (x:gK P w H h)(k:∀b u,h.get? b=some u->h'.get? b=some u):gK P w H h':=fun a o e=>
 (x a o e).stay (fun b u _ q=>k b u q) (fun _ q=>q) fun _ _ q=>q
def gK.laid (x:gK P w H h)(k:∀b u,h.get? b=some u->h'.get? b=some u)(hp:h.objs.size<=a)(new:gM P w (upd H a o) h' a o):gK P w (upd H a o) h':=fun b u e=>by
 have hn:=x.fresh hp
 by_cases hb:b=a
 .subst hb;rw[gA]at e;cases e;exact new
 .rw[eN hb]at e;exact(x b u e).stay (fun c v _ q=>k c v q) (fun c q=>by rw[eN (lu q hn)];exact q) fun c xs q=>by rw[eN (lu q hn)];exact q
end
def Rd (H:Hp)(a:Addr)(u:HO):Prop:=H a=some u\/∃o,H a=some (.frz o u)
def Rd.ok (r:Rd H a u)(x:gK P w H h):gM P w H h a u:=by
 rcases r with r |⟨o,r⟩
 .exact x a u r
 .obtain⟨_,q⟩:=x a _ r;exact q
def Fw:Option HO->Prop
 |some (.lst _)=>True
 |some (.dK _)=>True
 |some (.dT _)=>True
 |some (.set _ _)=>True
 |some (.ins _ _ _)=>True
 |some (.ext _)=>True
 |_=>False
section
variable {P:Program}{w:World}{H:Hp}{h h':Heap}{x e:Addr}{o':HO}
theorem gK.write (ok:gK P w H h)(mu:Fw (H x))(he:e=x\/H e=some (.own x))(k:∀b u,b≠e->h.get? b=some u->h'.get? b=some u)(heo:∃u,h'.get? e=some u)
  (new:gM P w (upd H x o') h' x o'):gK P w (upd H x o') h':=fun b u q=>by
 have nown:∀c y,H c=some (.own y)->c≠x:=fun c y r z=>by subst z;rw[r]at mu;exact mu
 have ntup:∀c xs,H c=some (.tup xs)->c≠x:=fun c xs r z=>by subst z;rw[r]at mu;exact mu
 by_cases hb:b=x
 .subst hb;rw[gA]at q;cases q;exact new
 .rw[eN hb]at q
  by_cases hbe:b=e
  .have q':H b=some (.own x):=by
    rcases he with z |z
    .exact absurd (hbe.trans z) hb
    .rw[hbe];exact z
   rw[q]at q';cases q';obtain⟨v,hv⟩:=heo;exact⟨v,by rw[hbe];exact hv⟩
  .refine(ok b u q).stay (fun c v hc r=>k c v ?_ r) (fun c r=>by rw[eN (nown c b r)];exact r) fun c xs r=>by rw[eN (ntup c xs r)];exact r
   rcases hc with rfl |hc
   .exact hbe
   .rintro rfl;rcases he with z |z
    .exact nown c b hc z
    .rw[hc]at z;cases z;exact hb rfl
end
structure Un (fs ex:List Addr)(H H':Hp)(h h':Heap):Prop where
 keep:∀b o,h.get? b=some o->H b=none->b∉fs->b∉ex->h'.get? b=some o
 slot:∀b o,h.get? b=some o->H b=none->b∈fs->b∉ex->∃sl,h'.get? b=some {o with slots:=sl}
 free:∀b o,h.get? b=some o->H b=none->b∉ex->H' b=none
 there:∀b o,h.get? b=some o->b∉ex->∃o',h'.get? b=some o'
 tups:∀b xs,H b=some (.tup xs)->H' b=some (.tup xs)
 frzs:∀b o u,H b=some (.frz o u)->H' b=some (.frz o u)
 tbls:∀b ps,H b=some (.tbl ps)->∃more,H' b=some (.tbl (ps++more))
section
variable {fs fs' ex ex':List Addr}{H H1 H2:Hp}{h h1 h2 h':Heap}{a x e:Addr}{o:HO}
def Un.any (u:Un fs ex H H1 h h1)(q:h.get? b=some ob)(n:H b=none)(hx:b∉ex):∃sl,h1.get? b=some {ob with slots:=sl}:=by
 by_cases hb:b∈fs
 .exact u.slot b ob q n hb hx
 .exact⟨ob.slots,u.keep b ob q n hb hx⟩
def Un.trans (a:Un fs ex H H1 h h1)(b:Un fs ex H1 H2 h1 h2):Un fs ex H H2 h h2 where
 keep:=fun c ob q n hc hx=>b.keep c ob (a.keep c ob q n hc hx) (a.free c ob q n hx) hc hx
 slot:=fun c ob q n hc hx=>by
  obtain⟨sl,e1⟩:=a.slot c ob q n hc hx;obtain⟨sl',e2⟩:=b.slot c _ e1 (a.free c ob q n hx) hc hx;exact⟨sl',e2⟩
 free:=fun c ob q n hx=>by
  obtain⟨o',e1⟩:=a.there c ob q hx;exact b.free c o' e1 (a.free c ob q n hx) hx
 there:=fun c ob q hx=>by
  obtain⟨o',e1⟩:=a.there c ob q hx;exact b.there c o' e1 hx
 tups:=fun c xs q=>b.tups c xs (a.tups c xs q)
 frzs:=fun c ob xs q=>b.frzs c ob xs (a.frzs c ob xs q)
 tbls:=fun c ps q=>by
  obtain⟨m1,e1⟩:=a.tbls c ps q;obtain⟨m2,e2⟩:=b.tbls c _ e1;exact⟨m1++m2,by rw[e2,xd7]⟩
def Un.kept (k:∀b u,h.get? b=some u->h'.get? b=some u):Un fs ex H H h h':=
 ⟨fun b ob q _ _ _=>k b ob q,fun b ob q _ _ _=>⟨ob.slots,k b ob q⟩,fun _ _ _ n _=>n,fun b ob q _=>⟨ob,k b ob q⟩,fun _ _ q=>q,fun _ _ _ q=>q,fun _ ps q=>⟨#[],by rw[q];simp⟩⟩
def Un.refl:Un fs ex H H h h:=Un.kept fun _ _ q=>q
def Un.laid (k:∀b u,h.get? b=some u->h'.get? b=some u)(hp:h.objs.size<=a)(hn:H a=none):Un fs ex H (upd H a o) h h' where
 keep:=fun b u q _ _ _=>k b u q
 slot:=fun b u q _ _ _=>⟨u.slots,k b u q⟩
 free:=fun b u q n _=>by rw[eN (xaM (xar (xap q) hp))];exact n
 there:=fun b u q _=>⟨u,k b u q⟩
 tups:=fun b xs q=>by rw[eN (lu q hn)];exact q
 frzs:=fun b u xs q=>by rw[eN (lu q hn)];exact q
 tbls:=fun b ps q=>⟨#[],by rw[eN (lu q hn),q];simp⟩
def Un.write (mu:Fw (H x))(he:e=x\/H e=some (.own x))(k:∀b u,b≠e->h.get? b=some u->h'.get? b=some u)(heo:∃u,h'.get? e=some u):Un fs ex H (upd H x o) h h':=by
 have hx:∀b,H b=none->b≠x:=fun b n z=>by subst z;rw[n]at mu;exact mu
 have hb:∀b,H b=none->b≠e:=fun b n z=>by
  subst z;rcases he with r |r
  .exact hx b n r
  .rw[n]at r;cases r
 have hm:∀b u,H b=some u->¬ Fw (some u)->b≠x:=fun b u q nm z=>by subst z;rw[q]at mu;exact nm mu
 refine⟨fun b u q n _ _=>k b u (hb b n) q,fun b u q n _ _=>⟨u.slots,k b u (hb b n) q⟩,fun b u q n _=>by rw[eN (hx b n)];exact n,fun b u q _=>?_,
  fun b xs q=>by rw[eN (hm b _ q fun z=>z)];exact q,fun b u xs q=>by rw[eN (hm b _ q fun z=>z)];exact q,fun b ps q=>⟨#[],by rw[eN (hm b _ q fun z=>z),q];simp⟩⟩
 by_cases hbe:b=e
 .subst hbe;exact heo
 .exact⟨u,k b u hbe q⟩
def Un.mono (u:Un fs ex H H1 h h1)(hs:∀b∈fs,b∈fs')(hx:∀b∈ex,b∈ex'):Un fs' ex' H H1 h h1:=
 ⟨fun b ob q n hb he=>u.keep b ob q n (fun z=>hb (hs b z)) fun z=>he (hx b z),fun _ _ q n _ he=>u.any q n fun z=>he (hx _ z),fun b ob q n he=>u.free b ob q n fun z=>he (hx b z),fun b ob q he=>u.there b ob q fun z=>he (hx b z),u.tups,u.frzs,u.tbls⟩
end
def Ox (h:Heap)(H:Hp):List Addr:=(List.range h.objs.size).filter fun a=>(H a).isSome
def pA (h:Heap)(H:Hp):Heap:=W.hideAll h (Ox h H)
def zds (h:Heap)(H:Hp):(pA h H).objs.size=h.objs.size:=W.hideAll_size _ _
def zel (e:h.get? b=some o)(n:H b=none):(pA h H).get? b=some o:=
 W.hideAll_get _ e fun hm=>by
  have q:(H b).isSome=true:=(List.mem_filter.mp hm).2;rw[n]at q;simp at q
def zfs (e:(pA h H).get? b=some o):h.get? b=some o/\H b=none:=by
 have e':h.get? b=some o:=W.of_hideAll (Ox h H) e;refine⟨e',?_⟩
 cases q:H b with
 |none=>rfl
 |some x=>
  have hm:b∈Ox h H:=List.mem_filter.mpr ⟨xbJ.mpr (xap e'),by simp[q]⟩;have z:(pA h H).get? b=none:=W.hideAll_none (Ox h H) hm;rw[z]at e;cases e
structure Mod (K:Fgx)(mg:Mgx)(base:Heap):Prop where
 kin:K.In base
 glob:base.Ns mainGlobals mg
 blt:∃mb,base.Ns builtinsNs mb/\∀x:Str,x≠"__name__"->mb x=bootBuiltins x
 nolimit:base.NoLimit
structure Cx where
 prog:Program
 w:World
 K:Fgx
 mg:Mgx
 base:Heap
 A:Around
 N:Lsx
 s₀:Shared
 H₀:Hp
 env:Env
 outer:List Env
 stack:List Env
 ex:List Addr
 fn:Str->Bool
 calm:Bool
 pn:Pnx
 xe:Vsp
def frs (l:List Env):List Addr:=l.filterMap (·.frame)
abbrev Cx.fs (X:Cx):List Addr:=frs X.outer
def yg (sc:Scope)(x:Str):Prop:=sc.names.lookup x=some .local\/sc.names.lookup x=some .cell\/sc.names.lookup x=some .free
def Loc (sc:Scope)(x:Str):Prop:=sc.names.lookup x=some .local\/sc.names.lookup x=some .cell
def Look (env:Env)(h:Heap)(m:Mgx)(x:Str)(u:Value):Prop:=
 (env.kindOf x=some .local/\m x=some u)\/((env.kindOf x=some .cell\/env.kindOf x=some .free)/\∃c,env.cells.lookup x=some c/\h.IsCell c (some u))
structure Cx.Ok (X:Cx):Prop where
 mod:Mod X.K X.mg X.base
 kind:X.env.scope.kind=.function
 glob:X.env.globals=mainGlobals
 blt:X.env.builtins=builtinsNs
 above:X.s₀.heap.objs.size<=X.env.locals
 inj:∀x y c,X.env.cells.lookup x=some c->X.env.cells.lookup y=some c->x=y
 has:∀x,(X.env.kindOf x=some .cell\/X.env.kindOf x=some .free)->∃c,X.env.cells.lookup x=some c
 cab:∀x c,X.fn x=true->X.env.cells.lookup x=some c->X.s₀.heap.objs.size<=c
 hd:X.calm=true->X.A.handled=none
 frames:X.A.frames=some X.stack
 stk:X.stack=X.outer\/(X.stack=X.env::X.outer/\X.env.frame=some X.env.locals)
 exf:∀b∈X.ex,b≠X.env.locals/\∀x c,X.env.cells.lookup x=some c->c≠b
 bs:∀b o,X.base.get? b=some o->X.s₀.heap.get? b=some o/\X.H₀ b=none
 bsz:X.base.objs.size<=X.s₀.heap.objs.size
 noex:∀b o,X.base.get? b=some o->b∉X.ex
 exfs:∀b∈X.ex,b∉X.fs
 funs:X.s₀.heap.FunFrames X.base X.outer
 frf:∀b∈X.fs,X.H₀ b=none
structure Inv (X:Cx)(pins:Pnx)(Z:List (Option V))(H:Hp)(s:Shared):Prop where
 ok:X.Ok
 os:s.os=X.s₀.os
 bare:AllBare s.gens
 base:Un X.fs X.ex X.H₀ H X.s₀.heap s.heap
 loc:∃m,s.heap.Ns X.env.locals m/\∀(i:Nat) (x:Str) (v:V),X.N[i]? =some x->Z[i]? =some (some v)->yg X.env.scope x->∃u,RelV v u/\Look X.env s.heap m x u
 cell:∀x c,X.env.cells.lookup x=some c->∃v,s.heap.IsCell c v
 free:H X.env.locals=none
 freeC:∀x c,X.env.cells.lookup x=some c->H c=none\/(X.fn x=false/\∃o u,H c=some (.frz o u))
 pin:∀p∈X.pn++pins,s.heap.get? p.1=some p.2/\H p.1=none/\p.1≠X.env.locals/\p.1∉X.fs/\∀v,p.2.data≠ .cell v
 hok:gK X.prog X.w H s.heap
 len:Z.length=X.N.length
section
variable {X:Cx}{pins:Pnx}{Z:List (Option V)}{H H':Hp}{s:Shared}{h':Heap}
def Cx.Ok.nofr (ok:X.Ok)(e:X.base.get? b=some o):b∉X.fs:=fun hb=>by
 have:=(ok.funs.mem hb).1;rw[e]at this;cases this
theorem Inv.bs (I:Inv X pins Z H s):∀b o,X.base.get? b=some o->s.heap.get? b=some o/\H b=none:=fun b o e=>
 ⟨I.base.keep b o (I.ok.bs b o e).1 (I.ok.bs b o e).2 (I.ok.nofr e) (I.ok.noex b o e),I.base.free b o (I.ok.bs b o e).1 (I.ok.bs b o e).2 (I.ok.noex b o e)⟩
def Inv.bk (I:Inv X pins Z H s):∀b o,X.base.get? b=some o->s.heap.get? b=some o:=fun b o e=>(I.bs b o e).1
theorem Inv.mod (I:Inv X pins Z H s):Mod X.K X.mg X.base:=I.ok.mod
def Inv.kIn (I:Inv X pins Z H s):X.K.In s.heap:=I.ok.mod.kin.keeps I.bk
def Inv.fr (I:Inv X pins Z H s):∃m,Fr X.base X.env.locals s.heap m:=
 let ⟨m,hn,_⟩:=I.loc
 ⟨m,hn,I.bk,xaN I.ok.bsz I.ok.above⟩
theorem Inv.lt (I:Inv X pins Z H s):X.env.locals<s.heap.objs.size:=let ⟨_,hn,_⟩:=I.loc;hn.lt
def Inv.sz (I:Inv X pins Z H s):X.s₀.heap.objs.size<=s.heap.objs.size:=xaN I.ok.above (xd8 I.lt)
def Inv.nofs (I:Inv X pins Z H s)(h:s.heap.objs.size<=a):a∉X.fs:=fun hb=>by
 obtain⟨_,o,ho,_⟩:=I.ok.funs.mem hb;exact absurd (xar (xap ho) (xaN I.sz h)) (xbf _)
def Inv.cne (I:Inv X pins Z H s):∀x c,X.env.cells.lookup x=some c->c≠X.env.locals:=fun x c e z=>by
 obtain⟨v,o,ho,hd⟩:=I.cell x c e;obtain⟨m,⟨o',es,ep,ho',hd',_⟩,_⟩:=I.loc;rw[z,ho']at ho;cases ho;rw[hd']at hd;cases hd
theorem Inv.funs (I:Inv X pins Z H s):s.heap.FunFrames X.base X.outer:=by
 have all:∀(l:List Env),(∀b∈frs l,b∈X.fs)->X.s₀.heap.FunFrames X.base l->s.heap.FunFrames X.base l:=by
  intro l
  induction l with
  |nil=>intro _ _;trivial
  |cons env r ih=>
   intro hs hl;obtain⟨hk,⟨L,o,hf,hn,ho,hd⟩,hr⟩:=hl;have hL:L∈X.fs:=hs L (by unfold frs;rw[List.filterMap_cons,hf];exact xax);obtain⟨sl,e⟩:=I.base.slot L o ho (I.ok.frf L hL) hL fun z=>I.ok.exfs L z hL;exact⟨hk,⟨L,_,hf,hn,e,hd⟩,ih (fun b hb=>hs b (by unfold frs;rw[List.filterMap_cons,hf];exact xat _ hb)) hr⟩
 exact all X.outer (fun _ hb=>hb) I.ok.funs
theorem Inv.stack (I:Inv X pins Z H s):s.heap.FunFrames X.base X.stack:=by
 rcases I.ok.stk with e |⟨e,hf⟩
 .rw[e];exact I.funs
 .rw[e];obtain⟨m,hn,_⟩:=I.loc;refine .cons (by rw[I.ok.kind];decide) hf hn ?_ I.funs;exact xcb (xaN I.ok.bsz I.ok.above)
def Inv.stkSub (I:Inv X pins Z H s):∀b∈frs X.stack,b∈X.env.locals::X.fs:=fun b hb=>by
 rcases I.ok.stk with e |⟨e,hf⟩
 .rw[e]at hb;exact xat _ hb
 .rw[e]at hb;unfold frs at hb;rw[List.filterMap_cons,hf]at hb;exact hb
def Inv.stkFree (I:Inv X pins Z H s):∀b∈frs X.stack,H b=none:=fun b hb=>by
 rcases xaz.mp (I.stkSub b hb) with e |hb
 .rw[e];exact I.free
 .obtain⟨_,o,ho,_⟩:=I.ok.funs.mem hb;exact I.base.free b o ho (I.ok.frf b hb) fun z=>I.ok.exfs b z hb
def Inv.step {g':Array GenState}{t':Nat}{d':Drawn}{ch:List Addr}(I:Inv X pins Z H s)
  (hch:∀b∈ch,(b∈X.ex\/X.s₀.heap.objs.size<=b)/\b≠X.env.locals/\(∀x c,X.env.cells.lookup x=some c->c≠b)/\∀p∈X.pn++pins,p.1≠b)
  (keep:∀b o,b≠X.env.locals->b∉X.fs->b∉ch->s.heap.get? b=some o->H b=none->h'.get? b=some o)
  (slot:∀b o,b≠X.env.locals->b∈X.fs->b∉ch->s.heap.get? b=some o->H b=none->∃sl,h'.get? b=some {o with slots:=sl}) (free:∀b o,b∉ch->s.heap.get? b=some o->H b=none->H' b=none)
  (there:∀b o,b∉ch->s.heap.get? b=some o->∃o',h'.get? b=some o')
  (tups:∀b xs,H b=some (.tup xs)->H' b=some (.tup xs)) (frzs:∀b o u,H b=some (.frz o u)->H' b=some (.frz o u)) (tbls:∀b ps,H b=some (.tbl ps)->∃more,H' b=some (.tbl (ps++more)))
  (ns:∀m,s.heap.Ns X.env.locals m->h'.Ns X.env.locals m) (hok:gK X.prog X.w H' h') (hg:AllBare g'):
  Inv X pins Z H' {s with heap:=h',gens:=g',drawn:=d',toks:=t'}:=by
 have neL:∀b o,X.s₀.heap.get? b=some o->b≠X.env.locals:=fun b o e=>xaM (xar (xap e) I.ok.above);have neC:∀b o,X.s₀.heap.get? b=some o->b∉X.ex->b∉ch:=fun b o e hx hb=>by
  rcases(hch b hb).1 with z |z
  .exact hx z
  .exact absurd (xar (xap e) z) (xbf _)
 have cellK:∀x c,X.env.cells.lookup x=some c->∀v,s.heap.IsCell c v->h'.IsCell c v:=fun x c e v ⟨o,ho,hd⟩=>by
  have nch:c∉ch:=fun z=>(hch c z).2.2.1 x c e rfl;rcases I.freeC x c e with fc |⟨_,o',u',fc⟩
  .by_cases hc:c∈X.fs
   .obtain⟨sl,q⟩:=slot c o (I.cne x c e) hc nch ho fc;exact⟨_,q,hd⟩
   .exact⟨o,keep c o (I.cne x c e) hc nch ho fc,hd⟩
  .obtain⟨e1,_⟩:=I.hok c _ fc;obtain⟨e2,_⟩:=hok c _ (frzs c _ _ fc);rw[ho]at e1;cases e1;exact⟨o,e2,hd⟩
 refine⟨I.ok,I.os,hg,⟨fun b o e n hb hx=>?_,fun b o e n hb hx=>?_,fun b o e n hx=>?_,fun b o e hx=>?_,fun b xs e=>tups b xs (I.base.tups b xs e),fun b o xs e=>frzs b o xs (I.base.frzs b o xs e),fun b ps e=>?_⟩,?_,fun x c e=>?_,?_,fun x c e=>?_,fun p hp=>?_,hok,I.len⟩
 .exact keep b o (neL b o e) hb (neC b o e hx) (I.base.keep b o e n hb hx) (I.base.free b o e n hx)
 .obtain⟨sl,e1⟩:=I.base.slot b o e n hb hx;obtain⟨sl',e2⟩:=slot b _ (neL b o e) hb (neC b o e hx) e1 (I.base.free b o e n hx);exact⟨sl',e2⟩
 .obtain⟨o',e1⟩:=I.base.there b o e hx;exact free b o' (neC b o e hx) e1 (I.base.free b o e n hx)
 .obtain⟨o',e1⟩:=I.base.there b o e hx;exact there b o' (neC b o e hx) e1
 .obtain⟨m1,e1⟩:=I.base.tbls b ps e;obtain⟨m2,e2⟩:=tbls b _ e1;exact⟨m1++m2,by rw[e2,xd7]⟩
 .obtain⟨m,hn,hl⟩:=I.loc;refine⟨m,ns m hn,fun i x v e1 e2 e3=>?_⟩;obtain⟨u,r,l⟩:=hl i x v e1 e2 e3;refine⟨u,r,?_⟩;rcases l with l |⟨k,c,e,z⟩
  .exact .inl l
  .exact .inr ⟨k,c,e,cellK x c e _ z⟩
 .obtain⟨v,z⟩:=I.cell x c e;exact⟨v,cellK x c e v z⟩
 .obtain⟨m,⟨o,_,_,ho,_⟩,_⟩:=I.loc;exact free _ o (fun z=>(hch _ z).2.1 rfl) ho I.free
 .obtain⟨v,o,ho,hd⟩:=I.cell x c e;rcases I.freeC x c e with fc |⟨fn,o',u',fc⟩
  .exact .inl (free c o (fun z=>(hch c z).2.2.1 x c e rfl) ho fc)
  .exact .inr ⟨fn,o',u',frzs c _ _ fc⟩
 .obtain⟨e,n,ne,nf,d⟩:=I.pin p hp;have nch:p.1∉ch:=fun z=>(hch p.1 z).2.2.2 p hp rfl;exact⟨keep p.1 p.2 ne nf nch e n,free p.1 p.2 nch e n,ne,nf,d⟩
def Inv.un {t':Nat}(I:Inv X pins Z H s)(u:Un X.fs [] H H' s.heap h')(hok:gK X.prog X.w H' h'):Inv X pins Z H' {s with heap:=h',toks:=t'}:=by
 obtain⟨m,⟨o,es,ep,ho,r⟩,_⟩:=id I.loc;obtain⟨sl,hL⟩:=u.any ho I.free (by simp);exact I.step (g':=s.gens) (d':=s.drawn) (ch:=[]) (fun _ z=>nomatch z) (fun b o _ hb _ e n=>u.keep b o e n hb (by simp)) (fun b o _ hb _ e n=>u.slot b o e n hb (by simp)) (fun b o _ e n=>u.free b o e n (by simp)) (fun b o _ e=>u.there b o e (by simp)) u.tups u.frzs u.tbls (fun m' hm=>by
  obtain⟨o',es',ep',ho',r'⟩:=hm;rw[ho]at ho';cases ho';exact⟨_,es',ep',hL,r'⟩) hok I.bare
def Inv.call {g':Array GenState}{t':Nat}{d':Drawn}{ch:List Addr}(I:Inv X pins Z H s)(u:Un (frs X.stack) ch H H' s.heap h')(hok:gK X.prog X.w H' h')(hg:AllBare g')
  (hch:∀b∈ch,(b∈X.ex\/X.s₀.heap.objs.size<=b)/\b≠X.env.locals/\(∀x c,X.env.cells.lookup x=some c->c≠b)/\∀p∈X.pn++pins,p.1≠b):
  Inv X pins Z H' {s with heap:=h',gens:=g',drawn:=d',toks:=t'}:=by
 obtain⟨m,⟨o,es,ep,ho,r⟩,_⟩:=id I.loc;obtain⟨sl,hL⟩:=u.any ho I.free fun z=>(hch _ z).2.1 rfl;exact I.step (ch:=ch) hch (fun b o hL hb hc e n=>u.keep b o e n (fun z=>(xaz.mp (I.stkSub b z)).elim hL hb) hc) (fun b o _ _ hc e n=>u.any e n hc) (fun b o hc e n=>u.free b o e n hc) (fun b o hc e=>u.there b o e hc) u.tups u.frzs u.tbls (fun m' hm=>by
  obtain⟨o',es',ep',ho',r'⟩:=hm;rw[ho]at ho';cases ho';exact⟨_,es',ep',hL,r'⟩) hok hg
def Inv.turned {t':Nat}{it:Addr}(I:Inv X pins Z H s)(k:∀b o,b≠it->s.heap.get? b=some o->h'.get? b=some o)(hn:H it=none)(hL:it≠X.env.locals)
  (h1:it∈X.ex\/X.s₀.heap.objs.size<=it) (h2:∀x c,X.env.cells.lookup x=some c->c≠it) (h3:∀p∈X.pn++pins,p.1≠it):Inv X pins Z H {s with heap:=h',toks:=t'}:=by
 have nit:∀b u,H b=some u->b≠it:=fun b u e z=>by rw[z,hn]at e;cases e
 refine I.step (g':=s.gens) (d':=s.drawn) (ch:=[it]) (fun b hb=>?_) (fun b o _ _ hc e _=>k b o (fun z=>hc (by simp[z])) e) (fun b o _ _ hc e _=>⟨o.slots,k b o (fun z=>hc (by simp[z])) e⟩) (fun _ _ _ _ n=>n)
  (fun b o hc e=>⟨o,k b o (fun z=>hc (by simp[z])) e⟩) (fun _ _ e=>e) (fun _ _ _ e=>e) (fun b ps e=>⟨#[],by rw[e];simp⟩) (fun m hm=>?_) (fun b u e=>?_) I.bare
 .have e:b=it:=by simpa using hb
  subst e;exact⟨h1,hL,h2,h3⟩
 .obtain⟨o,es,ep,ho,r⟩:=hm;exact⟨o,es,ep,k _ o (xbw hL) ho,r⟩
 .refine(I.hok b u e).stay (fun c v hc q=>k c v ?_ q) (fun _ q=>q) fun _ _ q=>q;rcases hc with z |z
  .rw[z];exact nit b u e
  .exact nit c _ z
def Inv.tok (I:Inv X pins Z H s)(t:Nat):Inv X pins Z H {s with toks:=t}:=I.un (h':=s.heap) (t':=t) Un.refl I.hok
theorem Inv.kept (I:Inv X pins Z H s)(k:∀b u,s.heap.get? b=some u->h'.get? b=some u):Inv X pins Z H {s with heap:=h',toks:=t'}:=I.un (Un.kept k) (I.hok.kept k)
theorem Inv.laid (I:Inv X pins Z H s)(k:∀b u,s.heap.get? b=some u->h'.get? b=some u)(hp:s.heap.objs.size<=a)(new:gM X.prog X.w (upd H a o) h' a o):
 Inv X pins Z (upd H a o) {s with heap:=h',toks:=t'}:=I.un (Un.laid k hp (I.hok.fresh hp)) (I.hok.laid k hp new)
theorem Inv.write (I:Inv X pins Z H s)(mu:Fw (H x))(he:e=x\/H e=some (.own x))(k:∀b u,b≠e->s.heap.get? b=some u->h'.get? b=some u)(heo:∃u,h'.get? e=some u)
 (new:gM X.prog X.w (upd H x o) h' x o):Inv X pins Z (upd H x o) {s with heap:=h',toks:=t'}:=I.un (Un.write mu he k heo) (I.hok.write mu he k heo new)
def Inv.pins_of (I:Inv X pins Z H s)(h:∀p∈pins',s.heap.get? p.1=some p.2/\H p.1=none/\p.1≠X.env.locals/\p.1∉X.fs/\∀v,p.2.data≠ .cell v):Inv X pins' Z H s:=
 ⟨I.ok,I.os,I.bare,I.base,I.loc,I.cell,I.free,I.freeC,fun p hp=>(xav.mp hp).elim (fun z=>I.pin p (xc1 _ z)) (h p),I.hok,I.len⟩
def Tg {N:Lsx}(hN:N.Nodup){i j:Nat}{x:Str}(a:N[i]? =some x)(b:N[j]? =some x):i=j:=by
 obtain⟨h1,e1⟩:=xao.mp a;obtain⟨h2,e2⟩:=xao.mp b;exact(List.getElem_inj hN).mp (e1.trans e2.symm)
def zdl {M:Model}{A:Around}{E:Vsp}{i:Nat}{x:Str}{v:V}{u:Value}{Q:Unit->Shared->Prop}(I:Inv X pins Z H s)(hN:X.N.Nodup)(hi:X.N[i]? =some x)(hx:Loc X.env.scope x)(r:RelV v u)
    (h:∀s',Inv X pins (Z.set i (some v)) H s'->(∃a,Heap.SameBut a s.heap s'.heap/\(a=X.env.locals\/X.env.cells.lookup x=some a))->Q () s') (hf:X.fn x=true\/X.env.scope.names.lookup x=some .local:=by first |exact .inl rfl |exact .inr rfl |assumption):wpAny M A (storeName X.env x u) Q E s:=by
  obtain⟨m,hn,hl⟩:=id I.loc;have hcls:(X.env.scope.kind==.class||(X.env.scope.kind==.module&&X.env.locals !=X.env.globals))=false:=by rw[I.ok.kind];rfl
  have hiZ:i<Z.length:=by rw[I.len];exact(xao.mp hi).1
  have cne:=I.cne;have tracked:∀{a:Addr} {h':Heap},(∃o,s.heap.get? a=some o/\H a=none)->Heap.SameBut a s.heap h'->gK X.prog X.w H h':=fun {a h'} ha hs b ob e=>by
    obtain⟨_,_,hfree⟩:=ha;refine(I.hok b ob e).stay (fun c w' hc q=>(hs.2 c ?_).trans q) (fun _ q=>q) fun _ _ q=>q;rintro rfl;rcases hc with rfl |hc
    . rw[hfree]at e;cases e
    . rw[hfree]at hc;cases hc
  rcases hx with hk |hk
  . refine wpAny_storeName_local hk hn (fun h' hn' hs=>?_) hcls;obtain⟨oL,_,_,hoL,_⟩:=id hn;refine h _ ⟨I.ok,I.os,I.bare,⟨fun b o e n hb hx=>?_,fun b o e n hb hx=>?_,I.base.free,fun b o e hx=>?_,I.base.tups,I.base.frzs,I.base.tbls⟩,⟨_,hn',fun j y v' e1 e2 e3=>?_⟩,fun y c e=>?_,I.free,I.freeC,fun p hp=>?_,tracked ⟨oL,hoL,I.free⟩ hs,by simpa using I.len⟩ ⟨_,hs,.inl rfl⟩
    . exact(hs.2 b (xaM (xar (xap e) I.ok.above))).trans (I.base.keep b o e n hb hx)
    . obtain⟨sl,e1⟩:=I.base.slot b o e n hb hx;exact⟨sl,(hs.2 b (xaM (xar (xap e) I.ok.above))).trans e1⟩
    . obtain⟨o',e1⟩:=I.base.there b o e hx;exact⟨o',(hs.2 b (xaM (xar (xap e) I.ok.above))).trans e1⟩
    . by_cases hj:j=i
      . subst hj;rw[hi]at e1;cases e1;rw[xcP hiZ]at e2;cases e2;exact⟨u,r,.inl ⟨hk,by simp⟩⟩
      . rw[xc2 (xbw hj)]at e2;obtain⟨u',r',q⟩:=hl j y v' e1 e2 e3;refine⟨u',r',?_⟩;rcases q with⟨k,e⟩ |⟨k,c,e,z⟩
        . refine .inl ⟨k,?_⟩;have:y≠x:=fun e=>hj (Tg hN e1 (e ▸ hi))
          simp[this,e]
        . exact .inr ⟨k,c,e,z.sameBut hs (cne y c e)⟩
    . obtain⟨w',z⟩:=I.cell y c e;exact⟨w',z.sameBut hs (cne y c e)⟩
    . obtain⟨e,n,ne,nf,d⟩:=I.pin p hp;exact⟨(hs.2 p.1 ne).trans e,n,ne,nf,d⟩
  . have hfn:X.fn x=true:=by
      rcases hf with z |z
      . exact z
      . rw[z]at hk;cases hk
    obtain⟨c,hc⟩:=I.ok.has x (.inl hk);obtain⟨w',z⟩:=I.cell x c hc;refine wpAny_storeName_cell I.ok.kind hk hc z (fun h' hc' hs=>?_);obtain⟨oc,hoc,hocd⟩:=id z;refine h {s with heap:=h'} ⟨I.ok,I.os,I.bare,⟨fun b o e n hb hx=>?_,fun b o e n hb hx=>?_,I.base.free,fun b o e hx=>?_,I.base.tups,I.base.frzs,I.base.tbls⟩,⟨m,hn.sameBut hs (xbw (cne x c hc)),fun j y v' e1 e2 e3=>?_⟩,fun y c' e=>?_,I.free,I.freeC,fun p hp=>?_,tracked ⟨oc,hoc,(I.freeC x c hc).resolve_right fun z=>by rw[z.1]at hfn;cases hfn⟩ hs,by simpa using I.len⟩ ⟨c,hs,.inr hc⟩
    . exact(hs.2 b (xaM (xar (xap e) (I.ok.cab x c hfn hc)))).trans (I.base.keep b o e n hb hx)
    . obtain⟨sl,e1⟩:=I.base.slot b o e n hb hx;exact⟨sl,(hs.2 b (xaM (xar (xap e) (I.ok.cab x c hfn hc)))).trans e1⟩
    . obtain⟨o',e1⟩:=I.base.there b o e hx;exact⟨o',(hs.2 b (xaM (xar (xap e) (I.ok.cab x c hfn hc)))).trans e1⟩
    . by_cases hj:j=i
      . subst hj;rw[hi]at e1;cases e1;rw[xcP hiZ]at e2;cases e2;exact⟨u,r,.inr ⟨.inl hk,c,hc,hc'⟩⟩
      . rw[xc2 (xbw hj)]at e2;obtain⟨u',r',q⟩:=hl j y v' e1 e2 e3;refine⟨u',r',?_⟩;rcases q with q |⟨k,c',e,z'⟩
        . exact .inl q
        . refine .inr ⟨k,c',e,z'.sameBut hs ?_⟩;rintro rfl;exact hj (Tg hN e1 (I.ok.inj _ _ _ e hc ▸ hi))
    . by_cases hcc:c'=c
      . subst hcc;exact⟨_,hc'⟩
      . obtain⟨w2,z2⟩:=I.cell y c' e;exact⟨w2,z2.sameBut hs hcc⟩
    . obtain⟨e,n,ne,nf,d⟩:=I.pin p hp;refine⟨(hs.2 p.1 ?_).trans e,n,ne,nf,d⟩;intro q;rw[q,hoc]at e;have q':oc=p.2:=xaE e;exact d w' (by rw[<-q'];exact hocd)
def Jt (I:Inv X pins Z H s)(hN:X.N.Nodup)(hi:X.N[i]? =some x)(hx:Loc X.env.scope x)(r:RelV v u)
  (h:∀s',Inv X pins (Z.set i (some v)) H s'->Q () s') (hf:X.fn x=true\/X.env.scope.names.lookup x=some .local:=by first |exact .inl rfl |exact .inr rfl |assumption):wpAny M A (storeName X.env x u) Q E s:=
 zdl I hN hi hx r (fun s' I' _=>h s' I') hf
def Inv.call' (I:Inv X pins Z H s)(ho:s'.os=s.os)(u:Un (frs X.stack) ch H H' s.heap s'.heap)(hok:gK X.prog X.w H' s'.heap)(hg:AllBare s'.gens)
  (hch:∀b∈ch,(b∈X.ex\/X.s₀.heap.objs.size<=b)/\b≠X.env.locals/\(∀x c,X.env.cells.lookup x=some c->c≠b)/\∀p∈X.pn++pins,p.1≠b):Inv X pins Z H' s':=by
 obtain⟨h',g',d',t',o'⟩:=s';have e:o'=s.os:=ho;subst e;exact I.call (g':=g') (t':=t') (d':=d') u hok hg hch
end
abbrev XK:=Value->Option Addr->Hp->Prop
abbrev St:=List (Option V)
abbrev VK:=V->Hp->Prop
abbrev TE:=St->Hp->VK->Prop
abbrev TT:=St->Hp->(Bool->Hp->Prop)->Prop
abbrev TA:=St->Hp->(List V->Hp->Prop)->Prop
structure Ends where
 nx:St->Hp->Prop
 rt:VK
 bk:St->Hp->Prop:=fun _ _=>False
 ct:St->Hp->Prop:=fun _ _=>False
abbrev TS:=Ends->St->Hp->Prop
def EP (X:Cx)(pins:Pnx)(Z:St)(Q:VK)(u:Value)(s':Shared):Prop:=∃v H',Inv X pins Z H' s'/\RelV v u/\Q v H'
def TP (X:Cx)(pins:Pnx)(Z:St)(Q:Bool->Hp->Prop)(b:Bool)(s':Shared):Prop:=∃H',Inv X pins Z H' s'/\Q b H'
def AP (X:Cx)(pins:Pnx)(Z:St)(Q:List V->Hp->Prop)(us:Lvx)(s':Shared):Prop:=∃vs H',Inv X pins Z H' s'/\Vals vs us/\Q vs H'
def SP (X:Cx)(pins:Pnx)(D:Ends)(f:Flow)(s':Shared):Prop:=
 match f with
 |.next=>∃Z' H',Inv X pins Z' H' s'/\D.nx Z' H'
 |.brk=>∃Z' H',Inv X pins Z' H' s'/\D.bk Z' H'
 |.cont=>∃Z' H',Inv X pins Z' H' s'/\D.ct Z' H'
 |.ret u=>∃v Z' H',Inv X pins Z' H' s'/\RelV v u/\D.rt v H'
def PE (X:Cx)(e:Expr)(t:TE):Prop:=
 ∀(pins:Pnx) (s:Shared) (Z:St) (H:Hp) (Q:VK),Inv X pins Z H s->t Z H Q->wpAny (model X.prog X.w) X.A (eval e X.env) (EP X pins Z Q) X.xe s
def PT (X:Cx)(e:Expr)(t:TT):Prop:=
 ∀(pins:Pnx) (s:Shared) (Z:St) (H:Hp) (Q:Bool->Hp->Prop),Inv X pins Z H s->t Z H Q->wpAny (model X.prog X.w) X.A (isTrue e X.env (eval e X.env)) (TP X pins Z Q) X.xe s
def PW (X:Cx)(e:Expr)(t:TT):Prop:=
 ∀(whole:Sem Value) (pins:Pnx) (s:Shared) (Z:St) (H:Hp) (Q:Bool->Hp->Prop),Inv X pins Z H s->t Z H Q->wpAny (model X.prog X.w) X.A (isTrue e X.env whole) (TP X pins Z Q) X.xe s
def PW.pt (h:PW X e t):PT X e t:=h _
def PA (X:Cx)(es:Lex)(t:TA):Prop:=
 ∀(pos:Pos) (pins:Pnx) (s:Shared) (Z:St) (H:Hp) (Q:List V->Hp->Prop),Inv X pins Z H s->t Z H Q->wpAny (model X.prog X.w) X.A (spliced (backTo pos (starEach es X.env))) (AP X pins Z Q) X.xe s
def PS (X:Cx)(st:Stmt)(t:TS):Prop:=
 ∀(pins:Pnx) (s:Shared) (Z:St) (H:Hp) (D:Ends),Inv X pins Z H s->t D Z H->wpAny (model X.prog X.w) X.A (exec st X.env) (SP X pins D) X.xe s
def nA (X:Cx)(st:List Stmt)(t:TS):Prop:=
 ∀(pins:Pnx) (s:Shared) (Z:St) (H:Hp) (D:Ends),Inv X pins Z H s->t D Z H->wpAny (model X.prog X.w) X.A (execs st X.env) (SP X pins D) X.xe s
def aW (h:wpAny M A t Q E s)(hQ:∀a s,Q a s->Q' a s):wpAny M A t Q' E s:=xbc h hQ fun _ _ x=>x
section
variable {X:Cx}
def CZ (i:Nat):TE:=fun Z H Q=>∃v,Z[i]? =some (some v)/\Q v H
def tC (v:V):TE:=fun _ H Q=>Q v H
def zF (hN:X.N[i]? =some x)(hv:yg X.env.scope x)(hd:(x==("__debug__":Str))=false:=by decide)(hcd:(x==("__classdict__":Str))=false:=by decide):PE X (.Name x pos) (CZ i):=by
 fen_go;obtain⟨v,e,h⟩:=h;obtain⟨m,hn,hl⟩:=I.loc;obtain⟨u,r,l⟩:=hl i x v hN e hv;have fin:EP X pins Z Q u s:=⟨v,H,I,r,h⟩;rcases l with⟨hk,hm⟩ |⟨hk,c,hc,hcell⟩
 .exact wpAny_Name (wpAny_loadName_local I.ok.kind hk hn hm fin) hd
 .rcases hk with hk |hk
  .exact wpAny_Name (wpAny_loadName_cell I.ok.kind hk hc hcell fin) hd
  .exact wpAny_Name (wpAny_loadName_free I.ok.kind hk hc hcell fin hcd) hd
def zjF {i j pos}:PE X (.Constant (.int i) j pos) (tC (.int i)):=fun _ _ _ H _ I h=>wpAny_Constant_int ⟨.int i,H,I.tok _,⟨_,rfl⟩,h⟩
def zlS {b j pos}:PE X (.Constant (.bool b) j pos) (tC (.bl b)):=fun _ _ _ H _ I h=>Constant_bool ⟨.bl b,H,I,rfl,h⟩
def zjm {x j pos}:PE X (.Constant (.str x) j pos) (tC (.str x)):=fun _ _ _ H _ I h=>Calls.Constant_str ⟨.str x,H,I.tok _,⟨_,rfl⟩,h⟩
def Gl (X:Cx)(x:Str):Prop:=X.env.kindOf x=some .globalImplicit
def wB (I:Inv X pins Z H s)(hg:Gl X x)(hm:X.mg x=some u)(h:Q u s)
  (hd:(x==("__debug__":Str))=false:=by decide):wpAny (model X.prog X.w) X.A (eval (.Name x pos) X.env) Q E s:=
 xdu I.ok.kind hg (Calls.loadGlobal_global (by rw[I.ok.glob];exact I.mod.glob.keeps I.bk) hm h) hd
def D_ (I:Inv X pins Z H s)(hg:Gl X x)(hm:X.mg x=none)(hv:bootBuiltins x=some u)(h:Q u s)
  (hn:x≠"__name__":=by decide) (hd:(x==("__debug__":Str))=false:=by decide):wpAny (model X.prog X.w) X.A (eval (.Name x pos) X.env) Q E s:=by
 obtain⟨mb,h1,h2⟩:=I.mod.blt;exact xdu I.ok.kind hg (Calls.loadGlobal_builtin (by rw[I.ok.glob];exact I.mod.glob.keeps I.bk) hm (by rw[I.ok.blt];exact h1.keeps I.bk) ((h2 x hn).trans hv) h) hd
def vf (hg:Gl X x)(hm:X.mg x=some u)(r:RelV v u)(hd:(x==("__debug__":Str))=false:=by decide):PE X (.Name x pos) (tC v):=
 fun _ _ _ H _ I h=>wB I hg hm ⟨v,H,I,r,h⟩ hd
def zf4 (hg:Gl X x)(hm:X.mg x=none)(hv:bootBuiltins x=some u)(r:RelV v u)(hn:x≠"__name__":=by decide)(hd:(x==("__debug__":Str))=false:=by decide):PE X (.Name x pos) (tC v):=
 fun _ _ _ H _ I h=>D_ I hg hm hv ⟨v,H,I,r,h⟩ hn hd
variable {a b:Expr}{ta tb:TE}{pos:Pos}
def PC (X:Cx)(op:CmpOp)(a b:Expr)(t:TE):Prop:=
 ∀(pins:Pnx) (s:Shared) (Z:St) (H:Hp) (Q:VK),Inv X pins Z H s->t Z H Q->
  wpAny (model X.prog X.w) X.A (eval a X.env) (fun v s₁=>wpAny (model X.prog X.w) X.A (eval b X.env) (fun u s₂=>wpAny (model X.prog X.w) X.A (compareOp op v u) (EP X pins Z Q) X.xe s₂) X.xe s₁) X.xe s
def tB (t:TE):TT:=fun Z H Q=>t Z H fun x H1=>∃c,x=.bl c/\Q c H1
def T7 (h:PC X op a b t)(h1:behindInMarks op b=false:=by first |exact nobehind _ (by decide) (by decide) |rfl):PT X (.Compare a [op] [b] pos) (tB t):=by
 intro pins s Z H Q I hw;refine wpAny_isTrue_Compare1 (aW (h pins s Z H _ I hw) fun v s1 h1=>aW h1 fun u s2 h2=>aW h2 fun c s3 ⟨x,H1,I1,r1,q1⟩=>?_) h1;obtain⟨d,rfl,q⟩:=q1;cases r1;exact xbl ⟨H1,I1,q⟩
variable {tA tB':TT}{rest:Lex}
def Vs (t u:TT):TT:=fun Z H Q=>t Z H fun c H1=>if c=true then u Z H1 Q else Q false H1
def tOr (t u:TT):TT:=fun Z H Q=>t Z H fun c H1=>if c=true then Q true H1 else u Z H1 Q
def VB (t:TT):TT:=fun Z H Q=>t Z H fun c H1=>Q (!c) H1
def zfx (ha:PT X a tA):PW X (.BoolOp .And [a] pos) tA:=by
 intro wh pins s Z H Q I h;refine isTrue_and (aW (ha pins s Z H Q I h) fun c s1 e=>?_)
 cases c with
 |true=>exact isTrue_and_nil e
 |false=>exact e
def zig (ha:PT X a tA):PW X (.BoolOp .Or [a] pos) tA:=by
 intro wh pins s Z H Q I h;refine isTrue_or (aW (ha pins s Z H Q I h) fun c s1 e=>?_)
 cases c with
 |false=>exact isTrue_or_nil e
 |true=>exact e
def zjC (ha:PT X a tA)(hb:PW X (.BoolOp .And (b::rest) pos) tB'):PW X (.BoolOp .And (a::b::rest) pos) (Vs tA tB'):=by
 intro wh pins s Z H Q I h;refine isTrue_and (aW (ha pins s Z H _ I h) fun c s1 ⟨H1,I1,q1⟩=>?_)
 cases c with
 |true=>exact hb wh pins s1 Z H1 Q I1 q1
 |false=>exact⟨H1,I1,q1⟩
def zkN (ha:PT X a tA)(hb:PW X (.BoolOp .Or (b::rest) pos) tB'):PW X (.BoolOp .Or (a::b::rest) pos) (tOr tA tB'):=by
 intro wh pins s Z H Q I h;refine isTrue_or (aW (ha pins s Z H _ I h) fun c s1 ⟨H1,I1,q1⟩=>?_)
 cases c with
 |true=>exact⟨H1,I1,q1⟩
 |false=>exact hb wh pins s1 Z H1 Q I1 q1
def zhZ (ha:PT X a tA):PT X (.UnaryOp .Not a pos) (VB tA):=by
 fen_go;exact isTrue_not (ha pins s Z H (fun c H1=>Q (!c) H1) I h)
def zkM (ta tb:TE):TE:=fun Z H Q=>ta Z H fun x H1=>∃c,x=.bl c/\if c=true then tb Z H1 Q else Q (.bl false) H1
def VD (ta tb:TE):TE:=fun Z H Q=>ta Z H fun x H1=>∃c,x=.bl c/\if c=true then Q (.bl true) H1 else tb Z H1 Q
def ziI {op}(h:PE X a t):PE X (.BoolOp op [a] pos) t:=fun pins s Z H Q I hw=>BoolOp_one (h pins s Z H Q I hw)
def zhL (ha:PE X a ta)(hb:PE X (.BoolOp .And (b::rest) pos) tb):PE X (.BoolOp .And (a::b::rest) pos) (zkM ta tb):=by
 fen_go;refine BoolOp_and (aW (ha pins s Z H _ I h) fun v s1 ⟨x,H1,I1,r1,q1⟩=>?_);obtain⟨c,rfl,q1⟩:=q1;cases r1;refine xbl ?_
 cases c with
 |true=>exact hb pins s1 Z H1 Q I1 q1
 |false=>exact⟨.bl false,H1,I1,rfl,q1⟩
def zlC (ha:PE X a ta)(hb:PE X (.BoolOp .Or (b::rest) pos) tb):PE X (.BoolOp .Or (a::b::rest) pos) (VD ta tb):=by
 fen_go;refine BoolOp_or (aW (ha pins s Z H _ I h) fun v s1 ⟨x,H1,I1,r1,q1⟩=>?_);obtain⟨c,rfl,q1⟩:=q1;cases r1;refine xbl ?_
 cases c with
 |false=>exact hb pins s1 Z H1 Q I1 q1
 |true=>exact⟨.bl true,H1,I1,rfl,q1⟩
def tIf (t:TT)(ta tb:TE):TE:=fun Z H Q=>t Z H fun c H1=>if c=true then ta Z H1 Q else tb Z H1 Q
def zd1 (hc:PT X c tA)(ha:PE X a ta)(hb:PE X b tb):PE X (.IfExp c a b pos) (tIf tA ta tb):=by
 fen_go;refine wpAny_IfExp (aW (hc pins s Z H _ I h) fun d s1 ⟨H1,I1,q1⟩=>?_)
 cases d with
 |true=>exact ha pins s1 Z H1 Q I1 q1
 |false=>exact hb pins s1 Z H1 Q I1 q1
end
def gn (K:Fgx)(H:Hp)(a:Addr)(xs:List V):Prop:=
 Rd H a (.lst xs)\/
  ∃(o:Obj) (its:Avx) (n:Nat),K.lookup a=some o/\o.cls=.type "list"/\o.dict=none/\o.data=.seq its n/\its.size<=sizeLine/\Vals xs its.toList
def gO (K:Fgx)(H:Hp)(a:Addr)(xs:List V):Prop:=
 Rd H a (.tup xs)\/
  ∃(o:Obj) (its:Avx) (n:Nat),K.lookup a=some o/\o.cls=.type "tuple"/\o.data=.seq its n/\its.size<=sizeLine/\Vals xs its.toList
noncomputable def Pn:Value->Option V
 |.none=>some .non
 |.bool b=>some (.bl b)
 |.int i _=>some (.int i)
 |.str x _=>some (.str x)
 |.bytes b _=>some (.byt b)
 |.float b _=>some (.flt b)
 |.ref a=>some (.ref a)
 |.type n=>some (.ty n)
 |_=>none
theorem RelV.abs (r:RelV x u):Pn u=some x:=by
 cases x with
 |non=>cases r;rfl
 |bl _=>cases r;rfl
 |int _=>obtain⟨t,rfl⟩:=r;rfl
 |str _=>obtain⟨t,rfl⟩:=r;rfl
 |byt _=>obtain⟨t,rfl⟩:=r;rfl
 |flt _=>obtain⟨t,rfl⟩:=r;rfl
 |ref _=>cases r;rfl
 |ty _=>cases r;rfl
def RelV.inj (r:RelV x u)(q:RelV y u):x=y:=xaE (r.abs.symm.trans q.abs)
theorem Vals.inj:∀{xs ys:List V} {us:Lvx},Vals xs us->Vals ys us->xs=ys
 |_,_,_,.nil,.nil=>rfl
 |_,_,_,.cons r t,.cons r' t'=>by rw[r.inj r',Vals.inj t t']
section
variable {X:Cx}{pins:Pnx}{Z:St}{H:Hp}{s:Shared}{a:Addr}{xs ys:List V}
def Inv.list (I:Inv X pins Z H s)(h:gn X.K H a xs):∃its:Lvx,Vals xs its/\PlainL s.heap a its.toArray/\xs.length<=sizeLine:=by
 rcases h with h |⟨o,its,n,hk,hc,hd,hs,hz,r⟩
 .obtain⟨z,its,n,r,e⟩:=h.ok I.hok;exact⟨its,r,⟨_,n,e,rfl,rfl,rfl⟩,z⟩
 .refine⟨its.toList,r,⟨o,n,I.kIn a o hk,hc,hd,by simpa using hs⟩,?_⟩;have e:=r.length;simp only[xch]at e;lia
def Inv.tuple (I:Inv X pins Z H s)(h:gO X.K H a xs):∃its:Lvx,Vals xs its/\IsTup s.heap a its.toArray/\xs.length<=sizeLine:=by
 rcases h with h |⟨o,its,n,hk,hc,hs,hz,r⟩
 .obtain⟨z,its,r,p⟩:=h.ok I.hok;exact⟨its,r,p,z⟩
 .refine⟨its.toList,r,⟨o,I.kIn a o hk,hc,n,by simpa using hs⟩,?_⟩;have e:=r.length;simp only[xch]at e;lia
def Inv.list_inj (I:Inv X pins Z H s)(h:gn X.K H a xs)(h':gn X.K H a ys):xs=ys:=by
 obtain⟨its,r,⟨o,n,e,_,_,d⟩,_⟩:=I.list h;obtain⟨its',r',⟨o',n',e',_,_,d'⟩,_⟩:=I.list h';rw[e]at e';cases e';rw[d]at d'
 injection d' with d1 _
 have:its=its':=by simpa using congrArg Array.toList d1
 subst this;exact r.inj r'
def Inv.tuple_inj (I:Inv X pins Z H s)(h:gO X.K H a xs)(h':gO X.K H a ys):xs=ys:=by
 obtain⟨its,r,⟨o,e,_,n,d⟩,_⟩:=I.tuple h;obtain⟨its',r',⟨o',e',_,n',d'⟩,_⟩:=I.tuple h';rw[e]at e';cases e';rw[d]at d'
 injection d' with d1 _
 have:its=its':=by simpa using congrArg Array.toList d1
 subst this;exact r.inj r'
end
abbrev Cx.wish (X:Cx)(E:Vsp):Cx:={X with xe:=E}
abbrev Cx.nox (X:Cx):Cx:=X.wish fun _ _=>False
theorem Cx.Ok.wish {X:Cx}(ok:X.Ok)(E:Vsp):(X.wish E).Ok:=
 ⟨ok.mod,ok.kind,ok.glob,ok.blt,ok.above,ok.inj,ok.has,ok.cab,ok.hd,ok.frames,ok.stk,ok.exf,ok.bs,ok.bsz,ok.noex,ok.exfs,ok.funs,ok.frf⟩
def Cx.Ok.unwish {X:Cx}{E:Vsp}(ok:(X.wish E).Ok):X.Ok:=
 ⟨ok.mod,ok.kind,ok.glob,ok.blt,ok.above,ok.inj,ok.has,ok.cab,ok.hd,ok.frames,ok.stk,ok.exf,ok.bs,ok.bsz,ok.noex,ok.exfs,ok.funs,ok.frf⟩
section
variable {X:Cx}{pins:Pnx}{Z:St}{H:Hp}{s:Shared}{E:Vsp}
theorem Inv.wish (I:Inv X pins Z H s)(E:Vsp):Inv (X.wish E) pins Z H s:=⟨I.ok.wish E,I.os,I.bare,I.base,I.loc,I.cell,I.free,I.freeC,I.pin,I.hok,I.len⟩
theorem Inv.unwish (I:Inv (X.wish E) pins Z H s):Inv X pins Z H s:=⟨I.ok.unwish,I.os,I.bare,I.base,I.loc,I.cell,I.free,I.freeC,I.pin,I.hok,I.len⟩
theorem SP.unwish (h:SP (X.wish E) pins D f s'):SP X pins D f s':=by
 cases f with
 |next=>obtain⟨Z',H',I,q⟩:=h;exact⟨Z',H',I.unwish,q⟩
 |brk=>obtain⟨Z',H',I,q⟩:=h;exact⟨Z',H',I.unwish,q⟩
 |cont=>obtain⟨Z',H',I,q⟩:=h;exact⟨Z',H',I.unwish,q⟩
 |ret u=>obtain⟨v,Z',H',I,r,q⟩:=h;exact⟨v,Z',H',I.unwish,r,q⟩
theorem nA.nox {st:List Stmt}{t:TS}(h:nA X.nox st t):nA X st t:=fun pins s Z H D I hw=>
 xbc (h pins s Z H D (I.wish _) hw) (fun _ _ q=>q.unwish) fun _ _ z=>False.elim z
end
section
variable {X:Cx}{st:Stmt}{rest:List Stmt}{t u:TS}{e:Expr}{te:TE}{pos:Pos}
def zke:TS:=fun D Z H=>D.nx Z H
def VH (t u:TS):TS:=fun D Z H=>t {D with nx:=u D} Z H
def T6:nA X [] zke:=fun _ _ Z H _ I h=>xcm ⟨Z,H,I,h⟩
def Iw (h1:PS X st t)(h2:nA X rest u):nA X (st::rest) (VH t u):=by
 tb_src;refine wpAny_execs_cons (aW (h1 pins s Z H {D with nx:=u D} I h) fun f s1 q=>?_)
 cases f with
 |next=>
  obtain⟨Z',H',I',q⟩:=q;exact h2 pins s1 Z' H' D I' q
 |ret v=>exact q
 |brk=>exact q
 |cont=>exact q
def zfn (h1:PS X st t):nA X [st] t:=by
 tb_src;refine wpAny_execs_cons (aW (h1 pins s Z H D I h) fun f s1 q=>?_)
 cases f with
 |next=>exact xcm q
 |ret v=>exact q
 |brk=>exact q
 |cont=>exact q
def Inv.quiet (I:Inv X pins Z H s):interactive X.env=false:=by simp[interactive,I.ok.kind]
def zlx (te:TE):TS:=fun D Z H=>te Z H fun _ H1=>D.nx Z H1
def Am (he:PE X e te)(hs:swapsWith e none pos.line X.env=pure false:=by rfl):PS X (.Expr e pos) (zlx te):=by
 tb_src;exact wpAny_Expr_any (aW (he pins s Z H _ I h) fun v s1 ⟨x,H1,I1,r1,q1⟩=>⟨Z,H1,I1,q1⟩) I.quiet hs
def VG (te:TE):TS:=fun D Z H=>te Z H D.rt
def zhv (he:PE X e te):PS X (.Return (some e) pos) (VG te):=by
 tb_src;exact wpAny_Return_some (aW (he pins s Z H _ I h) fun v s1 ⟨x,H1,I1,r1,q1⟩=>⟨x,Z,H1,I1,r1,q1⟩)
def Vx (c:TT)(t u:TS):TS:=fun D Z H=>c Z H fun b H1=>if b=true then t D Z H1 else u D Z H1
def zj6 (hc:PT X c tc)(ha:nA X a t)(hb:nA X b u):PS X (.If c a b pos) (Vx tc t u):=by
 tb_src;refine wpAny_If (aW (hc pins s Z H _ I h) fun d s1 ⟨H1,I1,q1⟩=>?_)
 cases d with
 |true=>exact ha pins s1 Z H1 D I1 q1
 |false=>exact hb pins s1 Z H1 D I1 q1
end
abbrev TG:=V->St->Hp->(St->Hp->Prop)->Prop
abbrev FP:=List V->St->Hp->(St->Hp->Prop)->Prop
def PG (X:Cx)(target:Expr)(t:TG):Prop:=
 ∀(pins:Pnx) (s:Shared) (Z:St) (H:Hp) (v:V) (u:Value) (Q:St->Hp->Prop),Inv X pins Z H s->RelV v u->t v Z H Q->
  wpAny (model X.prog X.w) X.A (assign target X.env u) (fun _ s'=>∃Z' H',Inv X pins Z' H' s'/\Q Z' H') X.xe s
def Fz (X:Cx)(ts:Lex)(t:FP):Prop:=
 ∀(pins:Pnx) (s:Shared) (Z:St) (H:Hp) (vs:List V) (us:Lvx) (Q:St->Hp->Prop),Inv X pins Z H s->Vals vs us->t vs Z H Q->
  wpAny (model X.prog X.w) X.A (assignInOrder ((assignEach ts X.env).map (·.2)) us) (fun _ s'=>∃Z' H',Inv X pins Z' H' s'/\Q Z' H') X.xe s
abbrev FQ:=V->V->V->Hp->(Hp->Prop)->Prop
def FN (X:Cx)(t:FQ):Prop:=
 ∀(pins:Pnx) (s:Shared) (Z:St) (H:Hp) (o i v:V) (ov iv u:Value) (Q:Hp->Prop),Inv X pins Z H s->RelV o ov->RelV i iv->RelV v u->t o i v H Q->
  wpAny (model X.prog X.w) X.A (setItem ov iv u) (fun _ s'=>∃H',Inv X pins Z H' s'/\Q H') X.xe s
section
variable {X:Cx}{pos:Pos}
def Gz (i:Nat):TG:=fun v Z H Q=>Q (Z.set i (some v)) H
def Mj (hN:X.N.Nodup)(hi:X.N[i]? =some x)(hx:Loc X.env.scope x)(hf:X.fn x=true\/X.env.scope.names.lookup x=some .local:=by first |exact .inl rfl |exact .inr rfl |assumption):PG X (.Name x pos) (Gz i):=by
 intro pins s Z H v u Q I r h;exact wpAny_assign_Name (Jt I hN hi hx r (fun s' I'=>⟨_,H,I',h⟩) hf)
def Ro:FP:=fun vs Z H Q=>vs=[]/\Q Z H
def zlg (t:TG)(u:FP):FP:=fun vs Z H Q=>∃v r,vs=v::r/\t v Z H fun Z' H'=>u r Z' H' Q
def zgM:Fz X [] Ro:=by
 intro pins s Z H vs us Q I r h;obtain⟨e,h⟩:=h;subst e;cases r;exact assignInOrder_nil ⟨Z,H,I,h⟩
def zeF (h1:PG X e t)(h2:Fz X es u)
  (hs:(assignEach (e::es) X.env).map (·.2)=assign e X.env::(assignEach es X.env).map (·.2):=by rfl):Fz X (e::es) (zlg t u):=by
 intro pins s Z H vs us Q I r h;obtain⟨v,vr,e1,h⟩:=h;subst e1
 cases r with
 |cons r rr=>
  rw[hs];refine assignInOrder_cons (aW (h1 pins s Z H _ _ _ I r h) fun _ s1 ⟨Z1,H1,I1,q1⟩=>?_);exact h2 pins s1 Z1 H1 _ _ Q I1 rr q1
def Rq (K:Fgx)(n:Nat)(t:FP):TG:=fun v Z H Q=>∃a xs,v=.ref a/\gO K H a xs/\xs.length=n/\t xs Z H Q
def zfg (hc:X.calm=true)(h:Fz X es t)
  (hn:(assignEach es X.env).length=n:=by rfl) (hst:(assignEach es X.env).findIdx? (·.1)=none:=by rfl):PG X (.Tuple es k pos) (Rq X.K n t):=by
 intro pins s Z H v u Q I r hw;obtain⟨a,xs,e1,hq,hl,hw⟩:=hw;subst e1;cases r;obtain⟨its,rv,ht,hz⟩:=I.tuple hq;refine assign_Tuple_tuple (I.ok.hd hc) ht (by simp[hn, <-hl,rv.length]) hst fun h' hx=>?_;have I1:Inv X pins Z H {s with heap:=h'}:=I.kept (t':=s.toks) fun b o e=>hx b o (xaM (xap e)) e;exact h pins _ Z H xs _ Q I1 (by simpa using rv) hw
def Rp (to ti:TE)(t:FQ):TG:=fun v Z H Q=>to Z H fun o H1=>ti Z H1 fun i H2=>t o i v H2 fun H3=>Q Z H3
def ziJ (ho:PE X o to)(hi:PE X i ti)(hs:FN X t)
  (ha:∀v,assign (.Subscript o i pos) X.env v=(do
   let ov <-holding [v] (eval o X.env)
   let iv <-holding [v,ov] (eval i X.env)
   standAt pos
   holding [v,ov,iv] (setItem ov iv v)
   release [v,ov,iv] []):=by intro _;rfl):PG X (.Subscript o i pos) (Rp to ti t):=by
 intro pins s Z H v u Q I r h;rw[ha];refine xab (xbU (aW (ho pins s Z H _ I h) fun ov s1 ⟨x,H1,I1,r1,q1⟩=>?_));refine xab (xbU (aW (hi pins s1 Z H1 _ I1 q1) fun iv s2 ⟨y,H2,I2,r2,q2⟩=>?_));refine xab (xcS (xab (xbU (aW (hs pins s2 Z H2 x y v ov iv u _ I2 r1 r2 r q2) fun _ s3 ⟨H3,I3,q3⟩=>?_))));exact wpAny_release ⟨Z,H3,I3,q3⟩
def Ju (te:TE)(g:TG):TS:=fun D Z H=>te Z H fun x H1=>g x Z H1 D.nx
def zeW (he:PE X e te)(hg:PG X tg g)(hs:swapsWithSole [tg] e pos.line X.env=pure false:=by rfl)(hw:swappedStores [tg] e X.env=pure none:=by rfl)
  (h1:(assignEach [tg] X.env).map (·.2)=[assign tg X.env]:=by rfl):PS X (.Assign [tg] e pos) (Ju te g):=by
 tb_src;refine wpAny_Assign_stores (aW (he pins s Z H _ I h) fun v s1 ⟨x,H1,I1,r1,q1⟩=>?_) hs hw;rw[h1];exact aW (hg pins s1 Z H1 x v _ I1 r1 q1) fun _ s2 q=>q
def T4 (hN:X.N.Nodup)(hi:X.N[i]? =some x)(hx:Loc X.env.scope x)(he:PE X e te)(hs:swapsWith e (some (.Name x pos')) pos.line X.env=pure false:=by rfl)(hf:X.fn x=true\/X.env.scope.names.lookup x=some .local:=by first |exact .inl rfl |exact .inr rfl |assumption):
  PS X (.Assign [.Name x pos'] e pos) (Ju te (Gz i)):=by
 tb_src;refine wpAny_Assign_Name (aW (he pins s Z H _ I h) fun v s1 ⟨y,H1,I1,r1,q1⟩=>?_) hs;exact Jt I1 hN hi hx r1 (fun s2 I2=>⟨_,H1,I2,q1⟩) hf
def zhx (c:TT)(tb:TS):TS:=fun D Z H=>∃W:Nat->St->Hp->Prop,(∃m,W m Z H)/\∀m Z H,W m Z H->
 c Z H fun b H1=>if b=true then ∃N:St->Hp->Prop,(∀Z' H',N Z' H'->∃m',m'<m/\W m' Z' H')/\tb {D with nx:=N,ct:=N,bk:=D.nx} Z H1 else D.nx Z H1
def zd4 (hp:PassesOwn (model X.prog X.w) X.A X.env X.xe)(hc:PT X c tc)(hb:nA X body tb):PS X (.While c body [] pos) (zhx tc tb):=by
 tb_src;obtain⟨W,⟨m0,w0⟩,turn⟩:=h;refine wpAny_While (codeAny_whileLoop (fun n s'=>∃Z' H',Inv X pins Z' H' s'/\W n Z' H') ?_ m0 ⟨Z,H,I,w0⟩);rintro n s1 ⟨Z1,H1,I1,w1⟩;refine xb4 hp (aW (hc pins s1 Z1 H1 _ I1 (turn n Z1 H1 w1)) fun b s2 ⟨H2,I2,q2⟩=>?_)
 cases b with
 |true=>
  obtain⟨N,hN,q2⟩:=q2;rw[xaa rfl];refine xb4 hp (aW (hb pins s2 Z1 H2 _ I2 q2) fun f s3 q3=>?_)
  cases f with
  |next=>
   obtain⟨Z3,H3,I3,n3⟩:=q3;obtain⟨m',hm,w3⟩:=hN Z3 H3 n3;exact⟨m',hm,Z3,H3,I3,w3⟩
  |cont=>
   obtain⟨Z3,H3,I3,n3⟩:=q3;obtain⟨m',hm,w3⟩:=hN Z3 H3 n3;exact⟨m',hm,Z3,H3,I3,w3⟩
  |brk=>exact q3
  |ret v=>exact q3
 |false=>
  rw[xac xaF];exact xcm ⟨Z1,H2,I2,q2⟩
end
structure It where
 go:Nat->Hp->Prop
 yld:Nat->Hp->V->Hp->Prop
 stop:Nat->Hp->Prop
def lN (X:Cx)(pins:Pnx)(H:Hp)(b:Addr):Prop:=
 H b=none/\b≠X.env.locals/\b∉X.fs/\(b∈X.ex\/X.s₀.heap.objs.size<=b)/\(∀x c,X.env.cells.lookup x=some c->c≠b)/\∀p∈X.pn++pins,p.1≠b
def Inv.fpOk (I:Inv X pins Z H s)(hb:s.heap.objs.size<=b)(hn:H' b=none):lN X pins H' b:=by
 refine⟨hn,xc3 (xar I.lt hb),I.nofs hb,.inr (xaN I.sz hb),fun x c e z=>?_,fun p hp z=>?_⟩
 .obtain⟨v,q⟩:=I.cell x c e;exact absurd (xar q.lt (by rw[z];exact hb)) (xbf _)
 .exact absurd (xar (xap (I.pin p hp).1) (by rw[z];exact hb)) (xbf _)
structure Turn (P:Program)(w:World)(K:Fgx)(tg:Expr)(J:It)(fp:List Addr)(it:Addr)(tn:Nat->Heap->Prop):Prop where
 mem:it∈fp
 obj:∀i h,tn i h->∀b∈fp,∃o,h.get? b=some o/\∀v,o.data≠ .cell v
 keep:∀i h h',tn i h->(∀b∈fp,∀o,h.get? b=some o->h'.get? b=some o)->tn i h'
 item:∀(X:Cx),X.prog=P->X.w=w->X.K=K->X.calm=true->∀(i:Nat) (pins:Pnx) (s:Shared) (Z:St) (H:Hp) (E:Vsp),Inv X pins Z H s->(∀b∈fp,lN X pins H b)->tn i s.heap->J.go i H->
  wpAny (model P w) X.A (pyNext (.ref it)) (fun r s1=>∃u,r=some u/\
   wpAny (model P w) X.A (letOwnedTupleGo tg (.ref it) u) (fun _ s2=>∃x H',Inv X pins Z H' s2/\RelV x u/\J.yld i H x H'/\tn (i+1) s2.heap/\∀b∈fp,H' b=none) E s1) E s
 done:∀(X:Cx),X.prog=P->X.w=w->X.K=K->X.calm=true->∀(i:Nat) (pins:Pnx) (s:Shared) (Z:St) (H:Hp) (E:Vsp),Inv X pins Z H s->(∀b∈fp,lN X pins H b)->tn i s.heap->J.stop i H->
  wpAny (model P w) X.A (pyNext (.ref it)) (fun r s1=>r=none/\Inv X pins Z H s1) E s
 self:∀(A:Around) (i:Nat) (s:Shared) (Q:Vsp) (E:Vsp),tn i s.heap->Q (.ref it) s->wpAny (model P w) A (pyIter (.ref it)) Q E s
abbrev TI:=St->Hp->(It->Hp->Prop)->Prop
def PIE (X:Cx)(pins:Pnx)(Z:St)(tg:Expr)(R:It->Hp->Prop)(itv:Value)(s2:Shared):Prop:=
 ∃(it:Addr) (fp:List Addr) (tn:Nat->Heap->Prop) (J:It) (H':Hp),itv=.ref it/\Inv X pins Z H' s2/\Turn X.prog X.w X.K tg J fp it tn/\tn 0 s2.heap/\(∀b∈fp,lN X pins H' b)/\R J H'
def PI (X:Cx)(tg iter:Expr)(wi:TI):Prop:=
 ∀(pins:Pnx) (s:Shared) (Z:St) (H:Hp) (R:It->Hp->Prop),Inv X pins Z H s->wi Z H R->
  wpAny (model X.prog X.w) X.A (eval iter X.env) (fun v s1=>wpAny (model X.prog X.w) X.A (pyIter v) (PIE X pins Z tg R) X.xe s1) X.xe s
def BL {M:Model}{A:Around}{E:Vsp}{s:Shared}{tg:Expr}{it:Addr}{u:Value}{o:Obj}{n:String}{vs:Avx}{Q:Unit->Shared->Prop}(ho:s.heap.get? it=some o)(hc:o.cls=.type n)(hd:o.data=.fields vs)
    (hn:["enumerate","zip","dict_itemiterator","dict_reverseitemiterator","odict_iterator","itertools.zip_longest","itertools.pairwise"].contains n=false) (hQ:Q () s):wpAny M A (letOwnedTupleGo tg (.ref it) u) Q E s:=by
  unfold letOwnedTupleGo;cases tg<;>first
    |exact xan hQ
    | (cases u<;>first
        |exact xan hQ
        | (refine xab (wpAny_load ho ?_)
           rw[hc,hd];show wpAny M A (if (["enumerate","zip","dict_itemiterator","dict_reverseitemiterator","odict_iterator","itertools.zip_longest","itertools.pairwise"].contains n&&vs[0]? ==some (rawInt _))=true then _ else _) Q E s
           rw[xac (by intro h;rw[hn,Bool.false_and]at h;cases h)];exact xan hQ))
noncomputable def Wv (K:Fgx) (a:Addr):It:=
 ⟨fun i H=>∃xs x,gn K H a xs/\xs[i]? =some x,fun i H x H'=>H'=H/\∀xs,gn K H a xs->xs[i]? =some x,fun i H=>∃xs,gn K H a xs/\xs.length<=i⟩
noncomputable def Ww (K:Fgx) (a:Addr):It:=
 ⟨fun i H=>∃xs x,gO K H a xs/\xs[i]? =some x,fun i H x H'=>H'=H/\∀xs,gO K H a xs->xs[i]? =some x,fun i H=>∃xs,gO K H a xs/\xs.length<=i⟩
noncomputable def JV (lo:Int) (n:Nat):It:=⟨fun i _=>i<n,fun i H x H'=>H'=H/\x=.int (lo+i),fun i _=>n<=i⟩
def zdD {P:Program}{w:World}{K:Fgx}{tg:Expr}(a it:Addr):Turn P w K tg (Wv K a) [it] it (fun i h=>h.IsListIter it a i) where
 mem:=by simp
 obj:=fun i h st b hb=>by
  have e:b=it:=by simpa using hb
  o_inst
 keep:=fun i h h' st k=>st.at fun o e=>k it (by simp) o e
 item:=by
  l_out;obtain⟨xs,x,hq,hx⟩:=hg;obtain⟨its,rv,p,hz⟩:=I.list hq;obtain⟨u,hu,ru⟩:=rv.get hx;k_same;refine wpAny_pyNext_list_item st p.isList (x:=u) (by simpa using hu) fun h' st' sb=>?_;have I1:Inv X pins Z H {s with heap:=h'}:=I.turned (t':=s.toks) (fun b o hb e=>(sb.2 b hb).trans e) f0 f1 f3 f4 f5;obtain⟨o,e,c,d⟩:=id st';exact⟨u,rfl,BL (s:={s with heap:=h'}) e c d (by decide) ⟨x,H,I1,ru,⟨rfl,fun ys hy=>by rw[I.list_inj hy hq];exact hx⟩,st',fun b hb=>(hf b hb).1⟩⟩
 done:=by
  l_out;obtain⟨xs,hq,hx⟩:=hg;obtain⟨its,rv,p,hz⟩:=I.list hq;k_same;have hl:=rv.length;exact wpAny_pyNext_list_end (I.ok.hd hc) st p.isList (by simp;lia) fun h' eb=>⟨rfl,I.turned (t':=s.toks) (fun b o hb e=>eb b o hb e) f0 f1 f3 f4 f5⟩
 self:=fun _ _ _ _ _ st h=>wpAny_pyIter_listiter st h
def zcn {P:Program}{w:World}{K:Fgx}{tg:Expr}(a it:Addr):Turn P w K tg (Ww K a) [it] it (fun i h=>h.IsTupleIter it a i) where
 mem:=by simp
 obj:=fun i h st b hb=>by
  have e:b=it:=by simpa using hb
  o_inst
 keep:=fun i h h' st k=>st.at fun o e=>k it (by simp) o e
 item:=by
  l_out;obtain⟨xs,x,hq,hx⟩:=hg;obtain⟨its,rv,p,hz⟩:=I.tuple hq;obtain⟨u,hu,ru⟩:=rv.get hx;k_same;refine wpAny_pyNext_tuple_item st (show s.heap.IsTuple a its.toArray from p) (x:=u) (by simpa using hu) fun h' st' sb=>?_;have I1:Inv X pins Z H {s with heap:=h'}:=I.turned (t':=s.toks) (fun b o hb e=>(sb.2 b hb).trans e) f0 f1 f3 f4 f5;obtain⟨o,e,c,d⟩:=id st';exact⟨u,rfl,BL (s:={s with heap:=h'}) e c d (by decide) ⟨x,H,I1,ru,⟨rfl,fun ys hy=>by rw[I.tuple_inj hy hq];exact hx⟩,st',fun b hb=>(hf b hb).1⟩⟩
 done:=by
  l_out;obtain⟨xs,hq,hx⟩:=hg;obtain⟨its,rv,p,hz⟩:=I.tuple hq;k_same;have hl:=rv.length;exact wpAny_pyNext_tuple_end (I.ok.hd hc) st (show s.heap.IsTuple a its.toArray from p) (by simp;lia) fun h' eb=>⟨rfl,I.turned (t':=s.toks) (fun b o hb e=>eb b o hb e) f0 f1 f3 f4 f5⟩
 self:=fun _ _ _ _ _ st h=>wpAny_pyIter_tupleiter st h
def zcw {P:Program}{w:World}{K:Fgx}{tg:Expr}(it:Addr)(lo:Int)(n:Nat):Turn P w K tg (JV lo n) [it] it (fun i h=>IsRangeIter h it (lo+(i:Nat)*1) ((n:Int)-(i:Nat)) 1) where
 mem:=by simp
 obj:=fun i h st b hb=>by
  have e:b=it:=by simpa using hb
  subst e;exact⟨_,st,fun v z=>by
   have z':Data.fields _=Data.cell v:=z;cases z'⟩
 keep:=fun i h h' st k=>k it (by simp) _ st
 item:=by
  l_out;k_same;have W:=Walks.range (prog:=X.prog) (w:=X.w) (I.ok.hd hc) it lo 1 n;refine W.item i s _ _ hg st fun v h' tk hv st' kk=>?_;obtain⟨t,rfl⟩:=hv;have I1:Inv X pins Z H {s with heap:=h',toks:=tk}:=I.turned (fun b o hb e=>kk b o (by simpa using hb) e) f0 f1 f3 f4 f5;refine⟨_,rfl,BL (s:={s with heap:=h',toks:=tk}) (n:="range_iterator") st' rfl rfl (by decide) ⟨.int (lo+i),H,I1,⟨t,?_⟩,⟨rfl,rfl⟩,st',fun b hb=>(hf b hb).1⟩⟩;rw[Int.mul_one]
 done:=by
  l_out;k_same;exact wpAny_pyNext_range_end (I.ok.hd hc) st (by have:n<=i:=hg;lia) fun h' eb=>⟨rfl,I.turned (t':=s.toks) (fun b o hb e=>eb b o hb e) f0 f1 f3 f4 f5⟩
 self:=fun _ _ _ _ _ st h=>wpAny_pyIter_rangeiter st h
section
variable {X:Cx}{tg:Expr}
def zlE (K:Fgx)(tl:TE):TI:=fun Z H R=>tl Z H fun x H1=>∃a,x=.ref a/\(∃xs,gn K H1 a xs)/\R (Wv K a) H1
def Rz (K:Fgx)(tl:TE):TI:=fun Z H R=>tl Z H fun x H1=>∃a,x=.ref a/\(∃xs,gO K H1 a xs)/\R (Ww K a) H1
def zfB {l:Expr}{tl:TE}(hl:PE X l tl):PI X tg l (zlE X.K tl):=by
 intro pins s Z H R I h;refine aW (hl pins s Z H _ I h) fun v s1 ⟨x,H1,I1,r1,q1⟩=>?_;obtain⟨a,e,⟨xs,hq⟩,q⟩:=q1;subst e;cases r1;obtain⟨its,rv,p,hz⟩:=I1.list hq;refine xcN p.isList ?_;refine⟨s1.heap.objs.size,[s1.heap.objs.size],_,_,H1,rfl,I1.kept (t':=s1.toks) fun b o e=>xad _ e,zdD a _,⟨_,xaJ _ rfl,rfl,rfl⟩,fun b hb=>?_,q⟩;have e:b=s1.heap.objs.size:=by simpa using hb
 subst e;exact I1.fpOk (xag _) (I1.hok.fresh (xag _))
def zjx {l:Expr}{tl:TE}(hl:PE X l tl):PI X tg l (Rz X.K tl):=by
 intro pins s Z H R I h;refine aW (hl pins s Z H _ I h) fun v s1 ⟨x,H1,I1,r1,q1⟩=>?_;obtain⟨a,e,⟨xs,hq⟩,q⟩:=q1;subst e;cases r1;obtain⟨its,rv,p,hz⟩:=I1.tuple hq;refine wpAny_pyIter_tuple (show s1.heap.IsTuple a its.toArray from p) ?_;refine⟨s1.heap.objs.size,[s1.heap.objs.size],_,_,H1,rfl,I1.kept (t':=s1.toks) fun b o e=>xad _ e,zcn a _,⟨_,xaJ _ rfl,rfl,rfl⟩,fun b hb=>?_,q⟩;have e:b=s1.heap.objs.size:=by simpa using hb
 subst e;exact I1.fpOk (xag _) (I1.hok.fresh (xag _))
def zdY {pins:Pnx}{Z:St}{H:Hp}{s:Shared}{R:It->Hp->Prop}{E:Vsp}{lo hi:Int}{t u v:Tok}{tk:Nat}(I:Inv X pins Z H s)(h1: -(2^62)<=lo)(h2:lo<2^62)(h3: -(2^62)<=hi)(h4:hi<2^62)
  (q:R (JV lo (hi-lo).toNat) H):wpAny (model X.prog X.w) X.A (pyIter (.ref s.heap.objs.size)) (PIE X pins Z tg R) E {s with heap:=s.heap.push {cls:=.type "range",data:=.fields #[.int lo t,.int hi u,.int 1 v]},toks:=tk}:=by
 refine wpAny_pyIter_range (IsRange.new ..) (small_one h1 h2 h3 h4) ?_;have I1:Inv X pins Z H {s with heap:=s.heap.push {cls:=.type "range",data:=.fields #[.int lo t,.int hi u,.int 1 v]},toks:=tk}:=I.kept fun b o e=>xad _ e;refine⟨(s.heap.push {cls:=.type "range",data:=.fields #[.int lo t,.int hi u,.int 1 v]}).objs.size,[(s.heap.push {cls:=.type "range",data:=.fields #[.int lo t,.int hi u,.int 1 v]}).objs.size],_,_,H,rfl,
  I1.kept (t':=tk) fun b o e=>xad _ e,zcw _ lo (hi-lo).toNat,?_,fun b hb=>?_,q⟩
 .have e1:lo+((0:Nat):Int)*1=lo:=by simp
  have e2:(((hi-lo).toNat:Nat):Int)-((0:Nat):Int)=Builtin.Range.rangeSize lo hi 1:=by rw[rangeSize_one];split<;>lia
  show IsRangeIter _ _ (lo+((0:Nat):Int)*1) ((((hi-lo).toNat:Nat):Int)-((0:Nat):Int)) 1;rw[e1,e2];exact xaJ _ rfl
 .have e:b=(s.heap.push {cls:=.type "range",data:=.fields #[.int lo t,.int hi u,.int 1 v]}).objs.size:=by simpa using hb
  subst e;exact I1.fpOk (xag _) (I1.hok.fresh (xag _))
def xg (ta:TA):TI:=fun Z H R=>ta Z H fun vs H1=>∃j:Int,vs=[.int j]/\ -(2^62)<=j/\j<2^62/\R (JV 0 j.toNat) H1
def zdo {a:Expr}{ta:TA}{p pos:Pos}(hg:Gl X "range")(hm:X.mg "range"=none)(ha:PA X [a] ta)(hs:starEach [a] X.env=[(false,eval a X.env)]:=by rfl):PI X tg (.Call (.Name "range" p) [a] [] pos) (xg ta):=by
 intro pins s Z H R I h;refine Call_ (D_ I hg hm boot_range (xb1 (aW (ha pos pins s Z H _ I h) fun us s1 ⟨vs,H1,I1,r1,q1⟩=>?_) hs rfl));obtain⟨j,e,q1,q2,q⟩:=q1;subst e
 cases r1 with
 |cons r rr=>
  cases rr;obtain⟨t,rfl⟩:=r;exact call_range_1 (zdY I1 (by lia) (by lia) q1 q2 (by simpa using q))
def Vw (wi:TI)(g:TG)(tb:TS):TS:=fun D Z H=>wi Z H fun J H1=>∃W:Nat->Nat->St->Hp->Prop,(∃m,W 0 m Z H1)/\∀i m Z H,W i m Z H->
 (J.stop i H/\D.nx Z H)\/(J.go i H/\∃N:St->Hp->Prop,(∀Z' H',N Z' H'->∃m',m'<m/\W (i+1) m' Z' H')/\∀x H',J.yld i H x H'->g x Z H' fun Z2 H2=>tb {D with nx:=N,ct:=N,bk:=D.nx} Z2 H2)
noncomputable def Iu (fp:List Addr) (h:Heap):Pnx:=fp.filterMap fun b=>(h.get? b).map fun o=>(b,o)
def Ld (hb:b∈fp)(e:h.get? b=some o):(b,o)∈Iu fp h:=xcE.mpr ⟨b,hb,by rw[e];rfl⟩
def zcT (hp:p∈Iu fp h):p.1∈fp/\h.get? p.1=some p.2:=by
 obtain⟨b,hb,e⟩:=xcE.mp hp
 cases q:h.get? b with
 |none=>rw[q]at e;cases e
 |some o=>
  rw[q]at e;have e':(b,o)=p:=xaE e;subst e';exact⟨hb,q⟩
def Inv.pinned (I:Inv X pins Z H s)(hf:∀b∈fp,lN X pins H b)(ho:∀b∈fp,∃o,s.heap.get? b=some o/\∀v,o.data≠ .cell v):Inv X (pins++Iu fp s.heap) Z H s:=
 I.pins_of fun p hp=>(xav.mp hp).elim (fun z=>I.pin p (xaQ _ z)) fun z=>by
  obtain⟨hb,e⟩:=zcT z;obtain⟨f0,f1,f2,_⟩:=hf p.1 hb;obtain⟨o,e',d⟩:=ho p.1 hb;rw[e]at e';cases e';exact⟨e,f0,f1,f2,d⟩
def Inv.unpinned (I:Inv X (pins++pl) Z H s):Inv X pins Z H s:=I.pins_of fun p hp=>I.pin p (xaQ _ (xc1 _ hp))
def ze4 (hp:PassesOwn (model X.prog X.w) X.A X.env X.xe)(hc:X.calm=true)(hi:PI X tg iter wi)(hg:PG X tg g)(hb:nA X body tb)
  (hs:∀x,foldedSetIterable iter X.env x=pure x:=by intro _;rfl):PS X (.For tg iter body [] pos) (Vw wi g tb):=by
 tb_src;refine wpAny_For (aW (hi pins s Z H _ I h) fun v s1 h1=>aW h1 fun itv s2 h2=>?_) hs;obtain⟨it,fp,tn,J,H2,e,I2,T,st2,f2,W,⟨m0,w0⟩,turn⟩:=h2;subst e
 -- what stays true of the iterator's objects through the loop
 have stat:∀{H':Hp},(∀b∈fp,H' b=none)->∀b∈fp,lN X pins H' b:=fun hn b hb=>⟨hn b hb,(f2 b hb).2⟩;refine codeAny_forLoop_any (fun n s'=>∃i Z' H',Inv X pins Z' H' s'/\tn i s'.heap/\(∀b∈fp,H' b=none)/\W i n Z' H') ?_ m0 ⟨0,Z,H2,I2,st2,fun b hb=>(f2 b hb).1,w0⟩;rintro n s3 ⟨i,Z3,H3,I3,st3,fr3,w3⟩;rcases turn i n Z3 H3 w3 with⟨stop,qn⟩ |⟨go,N,hN,step⟩
 .refine xb4 hp (aW (T.done X rfl rfl rfl hc i pins s3 Z3 H3 X.xe I3 (stat fr3) st3 stop) fun r s4 ⟨hr,I4⟩=>?_);subst hr;exact xcm ⟨Z3,H3,I4,qn⟩
 .refine xb4 hp (aW (T.item X rfl rfl rfl hc i pins s3 Z3 H3 X.xe I3 (stat fr3) st3 go) fun r s4 ⟨u,hr,h4⟩=>?_);subst hr;refine xb4 hp (aW h4 fun _ s5 ⟨x,H5,I5,r5,y5,st5,fr5⟩=>?_);have I5':=I5.pinned (stat fr5) (T.obj _ _ st5);refine xb4 hp (aW (hg _ s5 Z3 H5 x u _ I5' r5 (step x H5 y5)) fun _ s6 ⟨Z6,H6,I6,q6⟩=>?_);refine xb4 hp (aW (hb _ s6 Z6 H6 _ I6 q6) fun f s7 q7=>?_);have again:∀{Z7:St} {H7:Hp},Inv X (pins++Iu fp s5.heap) Z7 H7 s7->N Z7 H7->∃m,m<n/\∃i Z' H',Inv X pins Z' H' s7/\tn i s7.heap/\(∀b∈fp,H' b=none)/\W i m Z' H':=fun {Z7 H7} I7 n7=>by
   obtain⟨m',hm,w7⟩:=hN Z7 H7 n7;refine⟨m',hm,i+1,Z7,H7,I7.unpinned,T.keep _ _ _ st5 fun b hb o e=>(I7.pin (b,o) (xaQ _ (xaQ _ (Ld hb e)))).1,fun b hb=>?_,w7⟩;obtain⟨o,e,d⟩:=T.obj _ _ st5 b hb;exact(I7.pin (b,o) (xaQ _ (xaQ _ (Ld hb e)))).2.1
  cases f with
  |next=>obtain⟨Z7,H7,I7,n7⟩:=q7;exact again I7 n7
  |cont=>obtain⟨Z7,H7,I7,n7⟩:=q7;exact again I7 n7
  |brk=>obtain⟨Z7,H7,I7,q7⟩:=q7;exact⟨Z7,H7,I7.unpinned,q7⟩
  |ret v=>obtain⟨x7,Z7,H7,I7,r7,q7⟩:=q7;exact⟨x7,Z7,H7,I7.unpinned,r7,q7⟩
end
abbrev R2:=V->V->Hp->VK->Prop
def gj (X:Cx)(f:Value->Value->Sem Value)(r:R2):Prop:=
 ∀(pins:Pnx) (s:Shared) (Z:St) (H:Hp) (x y:V) (v u:Value) (Q:VK),Inv X pins Z H s->RelV x v->RelV y u->r x y H Q->
  wpAny (model X.prog X.w) X.A (f v u) (EP X pins Z Q) X.xe s
def JZ (X:Cx)(f:Value->Sem Value)(r:V->Hp->VK->Prop):Prop:=
 ∀(pins:Pnx) (s:Shared) (Z:St) (H:Hp) (x:V) (v:Value) (Q:VK),Inv X pins Z H s->RelV x v->r x H Q->
  wpAny (model X.prog X.w) X.A (f v) (EP X pins Z Q) X.xe s
def nP (X:Cx)(f:Value)(r:List V->Hp->VK->Prop):Prop:=
 ∀(pins:Pnx) (s:Shared) (Z:St) (H:Hp) (xs:List V) (us:Lvx) (Q:VK),Inv X pins Z H s->Vals xs us->r xs H Q->
  wpAny (model X.prog X.w) X.A (call f us) (EP X pins Z Q) X.xe s
def Pk (X:Cx)(r:V->Hp->(Bool->Hp->Prop)->Prop):Prop:=
 ∀(pins:Pnx) (s:Shared) (Z:St) (H:Hp) (x:V) (v:Value) (Q:Bool->Hp->Prop),Inv X pins Z H s->RelV x v->r x H Q->
  wpAny (model X.prog X.w) X.A (truthy v) (TP X pins Z Q) X.xe s
def Jy (r:R2)(ta tb:TE):TE:=fun Z H Q=>ta Z H fun x H1=>tb Z H1 fun y H2=>r x y H2 Q
def tUn (r:V->Hp->VK->Prop)(ta:TE):TE:=fun Z H Q=>ta Z H fun x H1=>r x H1 Q
def rI (C:Int->Int->Prop)(g:Int->Int->V):R2:=fun x y H Q=>∃i j,x=.int i/\y=.int j/\C i j/\Q (g i j) H
def t_ (g:Int->Int->V):R2:=fun x y H Q=>∃i j,x=.int i/\y=.int j/\Q (g i j) H
def rU (g:Int->V):V->Hp->VK->Prop:=fun x H Q=>∃i,x=.int i/\Q (g i) H
section
variable {X:Cx}{a b:Expr}{ta tb:TE}{pos:Pos}
def Bo (ha:PE X a ta)(hb:PE X b tb){pins:Pnx}{s:Shared}{Z:St}{H:Hp}{R:V->V->Hp->Prop}(I:Inv X pins Z H s)
  (h:ta Z H fun x H1=>tb Z H1 fun y H2=>R x y H2) {Q:Vsp} {f:Value->Value->Sem Value}
  (hf:∀v u s2 x y H2,Inv X pins Z H2 s2->RelV x v->RelV y u->R x y H2->wpAny (model X.prog X.w) X.A (f v u) Q X.xe s2):
  wpAny (model X.prog X.w) X.A (eval a X.env) (fun v s₁=>wpAny (model X.prog X.w) X.A (eval b X.env) (fun u s₂=>wpAny (model X.prog X.w) X.A (f v u) Q X.xe s₂) X.xe s₁) X.xe s:=by
 refine aW (ha pins s Z H _ I h) fun v s1 ⟨x,H1,I1,r1,q1⟩=>?_;refine aW (hb pins s1 Z H1 _ I1 q1) fun u s2 ⟨y,H2,I2,r2,q2⟩=>?_;exact hf v u s2 x y H2 I2 r1 r2 q2
def TX {op:Operator}{r:R2}(ho:gj X (binaryOp op) r)(ha:PE X a ta)(hb:PE X b tb):PE X (.BinOp a op b pos) (Jy r ta tb):=by
 fen_go;exact wpAny_BinOp (Bo ha hb I h fun v u s2 x y H2 I2 rx ry q=>ho pins s2 Z H2 x y v u Q I2 rx ry q)
def zjV (ho:JZ X (unaryOp op) r)(ha:PE X a ta):PE X (.UnaryOp op a pos) (tUn r ta):=by
 fen_go;exact UnaryOp_ (aW (ha pins s Z H _ I h) fun v s1 ⟨x,H1,I1,r1,q1⟩=>ho pins s1 Z H1 x v Q I1 r1 q1)
def Mh {f:Value->Value->Sem Value}{C:Int->Int->Prop}{g:Int->Int->Int}
  (rule:∀(i j:Int) (t u:Tok) (s:Shared) (Q:Vsp) (E:Vsp),C i j->Q (.int (g i j) s.toks) {s with toks:=s.toks+1}->wpAny (model X.prog X.w) X.A (f (.int i t) (.int j u)) Q E s):
  gj X f (rI C fun i j=>.int (g i j)):=by
 w_why;obtain⟨i,j,rfl,rfl,hc,q⟩:=h;k_acc1;obtain⟨t',rfl⟩:=ry;exact rule i j t t' s _ _ hc ⟨.int (g i j),H,I.tok _,⟨_,rfl⟩,q⟩
def Ij {f:Value->Value->Sem Value}{g:Int->Int->Int}
  (rule:∀(i j:Int) (t u:Tok) (s:Shared) (Q:Vsp) (E:Vsp),Q (.int (g i j) s.toks) {s with toks:=s.toks+1}->wpAny (model X.prog X.w) X.A (f (.int i t) (.int j u)) Q E s):
  gj X f (t_ fun i j=>.int (g i j)):=by
 w_why;obtain⟨i,j,rfl,rfl,q⟩:=h;k_acc1;obtain⟨t',rfl⟩:=ry;exact rule i j t t' s _ _ ⟨.int (g i j),H,I.tok _,⟨_,rfl⟩,q⟩
def zB {f:Value->Value->Sem Value}{g:Int->Int->Bool}
  (rule:∀(i j:Int) (t u:Tok) (s:Shared) (Q:Vsp) (E:Vsp),Q (.bool (g i j)) s->wpAny (model X.prog X.w) X.A (f (.int i t) (.int j u)) Q E s):
  gj X f (t_ fun i j=>.bl (g i j)):=by
 w_why;obtain⟨i,j,rfl,rfl,q⟩:=h;k_acc1;obtain⟨t',rfl⟩:=ry;exact rule i j t t' s _ _ ⟨.bl (g i j),H,I,rfl,q⟩
def Fo (i j:Int):Prop:=0<j/\j<1073741824
def Bf (i j:Int):Prop:=0<=j/\j<=1000000/\i.natAbs<2^64
def yN (i j:Int):Prop:=(-(2^64)<i/\i<2^64)\/(-(2^64)<j/\j<2^64)
def yN.ok (h:yN i j):IntMulOk i j:=by
 rcases h with⟨h1,h2⟩ |⟨h1,h2⟩
 .exact .of_left (intBits_le_64 h1 h2)
 .exact .of_right (intBits_le_64 h1 h2)
def ziA:gj X (binaryOp .Add) (t_ fun i j=>.int (i+j)):=Ij fun _ _ _ _ _ _ _ q=>add_int q
def tD:gj X (binaryOp .Sub) (t_ fun i j=>.int (i-j)):=Ij fun _ _ _ _ _ _ _ q=>sub_int q
def kI:gj X (binaryOp .FloorDiv) (rI Fo fun i j=>.int (i/j)):=Mh fun i j _ _ _ _ _ hc q=>by
 have h1:(0:Int)<j:=hc.1;have h2:j<1073741824:=hc.2;exact floordiv_int (by lia) (by rw[Int.fdiv_eq_ediv_of_nonneg i (by lia)];exact q) (.inl (PyProof.noPylong_small (by lia)))
def fB:gj X (binaryOp .Mod) (rI (fun _ j=>0<j) fun i j=>.int (i%j)):=Mh fun i j _ _ _ _ _ hc q=>by
 have h1:(0:Int)<j:=hc;exact mod_int' (by lia) (by rw[Int.fmod_eq_emod_of_nonneg i (by lia)];exact q)
def Al:gj X (binaryOp .Pow) (rI Bf fun i j=>.int (i^j.toNat)):=Mh fun _ _ _ _ _ _ _ hc q=>pow_int_small hc.1 hc.2.1 hc.2.2 q
def unI {f:Value->Sem Value}{g:Int->Int}
  (rule:∀(i:Int) (t:Tok) (s:Shared) (Q:Vsp) (E:Vsp),Q (.int (g i) s.toks) {s with toks:=s.toks+1}->wpAny (model X.prog X.w) X.A (f (.int i t)) Q E s):
  JZ X f (rU fun i=>.int (g i)):=by
 intro pins s Z H x v Q I rx h;obtain⟨i,rfl,q⟩:=h;k_acc1;exact rule i t s _ _ ⟨.int (g i),H,I.tok _,⟨_,rfl⟩,q⟩
def zff:JZ X (unaryOp .USub) (rU fun i=>.int (-i)):=unI fun _ _ _ _ _ q=>neg_int q
end
noncomputable def zT:V->V->Bool
 |.non,.non=>true |.non,.int _=>true |.int _,.non=>true |.non,.bl _=>true |.bl _,.non=>true |.non,.str _=>true |.str _,.non=>true
 |.int _,.int _=>true |.bl _,.bl _=>true |.str _,.str _=>true |.byt _,.byt _=>true
 |.int _,.str _=>true |.str _,.int _=>true |.bl _,.str _=>true |.str _,.bl _=>true
 |_,_=>false
def rEq:R2:=fun x y H Q=>zT x y=true/\Q (.bl (decide (x=y))) H
def rNe:R2:=fun x y H Q=>zT x y=true/\Q (.bl (!decide (x=y))) H
def Xv:decide (V.int i=V.int j)=(i==j):=by
 rw[xaP]
 simp
def Kr:decide (V.bl i=V.bl j)=(i==j):=by
 rw[xaP]
 simp
def Xw:decide (V.str i=V.str j)=(i==j):=by
 rw[xaP]
 simp
def Xu:decide (V.byt i=V.byt j)=(i.toList==j.toList):=by
 rw[xaP];cases i;cases j
 simp
section
variable {X:Cx}{a b c:Expr}{ta tb tc:TE}{pos:Pos}
def fU (I:Inv X pins Z H s)(q:Q (.bl k) H)(e:k=k'):EP X pins Z Q (.bool k') s:=by
 subst e;exact⟨.bl k,H,I,rfl,q⟩
def zkY:gj X (compareOp .Eq) rEq:=by
 w_why;obtain⟨hs,q⟩:=h
 cases x with
 |non=>
  cases rx
  cases y with
  |non=>cases ry;exact PySem.EqNone.eq_none_none (fU I q (by simp))
  |bl j=>cases ry;exact PySem.EqNone.eq_none_bool (fU I q (by simp))
  |int j=>obtain⟨t',rfl⟩:=ry;exact PySem.EqNone.eq_none_int (fU I q (by simp))
  |str j=>obtain⟨t',rfl⟩:=ry;exact PySem.EqNone.eq_none_str (fU I q (by simp))
  |_=>exact absurd (show false=true from hs) xaF
 |bl i=>
  cases rx
  cases y with
  |non=>cases ry;exact PySem.EqNone.eq_bool_none (fU I q (by simp))
  |bl j=>cases ry;exact eq_bool (fU I q Kr)
  |str j=>obtain⟨t',rfl⟩:=ry;exact PySem.EqMixed.eq_bool_str (fU I q (by simp))
  |_=>exact absurd (show false=true from hs) xaF
 |int i=>
  k_acc1
  cases y with
  |non=>cases ry;exact PySem.EqNone.eq_int_none (fU I q (by simp))
  |int j=>obtain⟨t',rfl⟩:=ry;exact eq_int (fU I q Xv)
  |str j=>obtain⟨t',rfl⟩:=ry;exact PySem.EqMixed.eq_int_str (fU I q (by simp))
  |_=>exact absurd (show false=true from hs) xaF
 |str i=>
  k_acc1
  cases y with
  |non=>cases ry;exact PySem.EqNone.eq_str_none (fU I q (by simp))
  |bl j=>cases ry;exact PySem.EqMixed.eq_str_bool (fU I q (by simp))
  |int j=>obtain⟨t',rfl⟩:=ry;exact PySem.EqMixed.eq_str_int (fU I q (by simp))
  |str j=>obtain⟨t',rfl⟩:=ry;exact eq_str (fU I q Xw)
  |_=>exact absurd (show false=true from hs) xaF
 |byt i=>
  k_acc1
  cases y with
  |byt j=>obtain⟨t',rfl⟩:=ry;exact W.eq_bytes (fU I q Xu)
  |_=>exact absurd (show false=true from hs) xaF
 |_=>cases y<;>exact absurd (show false=true from hs) xaF
def zlj:gj X (compareOp .NotEq) rNe:=by
 w_why;obtain⟨hs,q⟩:=h
 cases x with
 |non=>
  cases rx
  cases y with
  |non=>cases ry;exact PySem.EqNone.ne_none_none (fU I q (by simp))
  |bl j=>cases ry;exact PySem.EqNone.ne_none_bool (fU I q (by simp))
  |int j=>obtain⟨t',rfl⟩:=ry;exact PySem.EqNone.ne_none_int (fU I q (by simp))
  |str j=>obtain⟨t',rfl⟩:=ry;exact PySem.EqNone.ne_none_str (fU I q (by simp))
  |_=>exact absurd (show false=true from hs) xaF
 |bl i=>
  cases rx
  cases y with
  |non=>cases ry;exact PySem.EqNone.ne_bool_none (fU I q (by simp))
  |bl j=>cases ry;exact ne_bool (fU I q (congrArg not Kr))
  |str j=>obtain⟨t',rfl⟩:=ry;exact PySem.EqMixed.ne_bool_str (fU I q (by simp))
  |_=>exact absurd (show false=true from hs) xaF
 |int i=>
  k_acc1
  cases y with
  |non=>cases ry;exact PySem.EqNone.ne_int_none (fU I q (by simp))
  |int j=>obtain⟨t',rfl⟩:=ry;exact ne_int (fU I q (congrArg not Xv))
  |str j=>obtain⟨t',rfl⟩:=ry;exact PySem.EqMixed.ne_int_str (fU I q (by simp))
  |_=>exact absurd (show false=true from hs) xaF
 |str i=>
  k_acc1
  cases y with
  |non=>cases ry;exact PySem.EqNone.ne_str_none (fU I q (by simp))
  |bl j=>cases ry;exact PySem.EqMixed.ne_str_bool (fU I q (by simp))
  |int j=>obtain⟨t',rfl⟩:=ry;exact PySem.EqMixed.ne_str_int (fU I q (by simp))
  |str j=>obtain⟨t',rfl⟩:=ry;exact ne_str (fU I q (congrArg not Xw))
  |_=>exact absurd (show false=true from hs) xaF
 |byt i=>
  k_acc1
  cases y with
  |byt j=>obtain⟨t',rfl⟩:=ry;exact W.ne_bytes (fU I q (congrArg not Xu))
  |_=>exact absurd (show false=true from hs) xaF
 |_=>cases y<;>exact absurd (show false=true from hs) xaF
def zld:gj X (compareOp .Lt) (t_ fun i j=>.bl (decide (i<j))):=zB fun _ _ _ _ _ _ _ q=>lt_int q
def zly:gj X (compareOp .LtE) (t_ fun i j=>.bl (decide (i<=j))):=zB fun _ _ _ _ _ _ _ q=>le_int q
def zjZ:gj X (compareOp .Gt) (t_ fun i j=>.bl (decide (j<i))):=zB fun _ _ _ _ _ _ _ q=>gt_int q
def zkA:gj X (compareOp .GtE) (t_ fun i j=>.bl (decide (j<=i))):=zB fun _ _ _ _ _ _ _ q=>ge_int q
def zcO:gj X (compareOp .In) (fun x y H Q=>∃i j,x=.str i/\y=.str j/\Q (.bl (!(Builtin.Str.occurrences j i 0 j.length 1).isEmpty)) H):=by
 w_why;obtain⟨i,j,rfl,rfl,q⟩:=h;k_acc1;obtain⟨t',rfl⟩:=ry;exact in_str (fU I q rfl)
def zjh:gj X (compareOp .Is) (fun x y H Q=>y=.non/\Q (.bl (decide (x=.non))) H):=by
 w_why;obtain⟨rfl,q⟩:=h;cases ry;refine is_none_gen (fU I q ?_);cases x<;>first
  |(cases rx;rfl)
  |(obtain⟨t,rfl⟩:=rx;rfl)
def zfm:gj X (compareOp .IsNot) (fun x y H Q=>y=.non/\Q (.bl (!decide (x=.non))) H):=by
 w_why;obtain⟨rfl,q⟩:=h;cases ry;refine isnot_none_gen (fU I q ?_);cases x<;>first
  |(cases rx;rfl)
  |(obtain⟨t,rfl⟩:=rx;rfl)
def zbB:gj X (compareOp .NotIn) (fun x y H Q=>∃i j,x=.str i/\y=.str j/\Q (.bl (!(!(Builtin.Str.occurrences j i 0 j.length 1).isEmpty))) H):=by
 w_why;obtain⟨i,j,rfl,rfl,q⟩:=h;k_acc1;obtain⟨t',rfl⟩:=ry;exact notIn_str (fU I q rfl)
def gj.or (h:gj X f r)(h':gj X f r'):gj X f (fun x y H Q=>r x y H Q\/r' x y H Q):=by
 intro pins s Z H x y v u Q I rx ry q;rcases q with q |q
 .exact h pins s Z H x y v u Q I rx ry q
 .exact h' pins s Z H x y v u Q I rx ry q
def zgq {op:CmpOp}{r:R2}(ho:gj X (compareOp op) r)(ha:PE X a ta)(hb:PE X b tb)(hm:behindInMarks op b=false):PE X (.Compare a [op] [b] pos) (Jy r ta tb):=by
 fen_go;exact wpAny_Compare1 (Bo ha hb I h fun v u s2 x y H2 I2 rx ry q=>ho pins s2 Z H2 x y v u Q I2 rx ry q) hm
def VJ (t:TE):TT:=fun Z H Q=>t Z H fun x H'=>∃k,x=.bl k/\Q k H'
def zgx (ho:gj X (compareOp op) r)(ha:PE X a ta)(hb:PE X b tb)(hm:behindInMarks op b=false):PT X (.Compare a [op] [b] pos) (VJ (Jy r ta tb)):=by
 fen_go;refine wpAny_isTrue_Compare1 (aW (ha pins s Z H _ I h) fun v s1 ⟨x,H1,I1,r1,q1⟩=>aW (hb pins s1 Z H1 _ I1 q1) fun u s2 ⟨y,H2,I2,r2,q2⟩=>
  aW (ho pins s2 Z H2 x y v u _ I2 r1 r2 q2) fun c s3 ⟨z,H3,I3,r3,k,e,q3⟩=>?_) hm
 subst e;cases r3;exact xbl ⟨H3,I3,q3⟩
def Vv (r r':R2)(ta tb tc:TE):TE:=fun Z H Q=>ta Z H fun x H1=>tb Z H1 fun y H2=>r x y H2 fun z H3=>∃k,z=.bl k/\
 (if k=true then tc Z H3 fun w' H4=>r' y w' H4 Q else Q (.bl false) H3)
def zeg (ho:gj X (compareOp op) r)(ho':gj X (compareOp op') r')(ha:PE X a ta)(hb:PE X b tb)(hc:PE X c tc)
  (hm:lastMarks [op,op'] [b,c]=false:=by with_unfolding_all rfl):PE X (.Compare a [op,op'] [b,c] pos) (Vv r r' ta tb tc):=by
 fen_go;refine Compare_chain (aW (ha pins s Z H _ I h) fun v s1 ⟨x,H1,I1,r1,q1⟩=>chain_link (aW (hb pins s1 Z H1 _ I1 q1) fun u s2 ⟨y,H2,I2,r2,q2⟩=>
  aW (ho pins s2 Z H2 x y v u _ I2 r1 r2 q2) fun d s3 ⟨z,H3,I3,r3,k,e,q3⟩=>?_)) hm
 subst e;cases r3;refine xbl ?_
 cases k with
 |false=>exact ite_ff ⟨.bl false,H3,I3,rfl,q3⟩
 |true=>exact ite_tt (chain_last (aW (hc pins s3 Z H3 _ I3 q3) fun w' s4 ⟨z',H4,I4,r4,q4⟩=>ho' pins s4 Z H4 y z' u w' Q I4 r2 r4 q4))
def zer (ho:gj X (compareOp op) r)(ho':gj X (compareOp op') r')(ha:PE X a ta)(hb:PE X b tb)(hc:PE X c tc)
  (hm:lastMarks [op,op'] [b,c]=false:=by with_unfolding_all rfl):PT X (.Compare a [op,op'] [b,c] pos) (VJ (Vv r r' ta tb tc)):=by
 fen_go;refine isTrue_chain (aW (ha pins s Z H _ I h) fun v s1 ⟨x,H1,I1,r1,q1⟩=>test_link (aW (hb pins s1 Z H1 _ I1 q1) fun u s2 ⟨y,H2,I2,r2,q2⟩=>
  aW (ho pins s2 Z H2 x y v u _ I2 r1 r2 q2) fun d s3 ⟨z,H3,I3,r3,k,e,q3⟩=>?_)) hm
 subst e;cases r3;refine xbl ?_
 cases k with
 |false=>
  obtain⟨k',e',q'⟩:=q3;cases e';exact ite_ff ⟨H3,I3,q'⟩
 |true=>
  refine ite_tt (test_last (aW (hc pins s3 Z H3 _ I3 q3) fun w' s4 ⟨z',H4,I4,r4,q4⟩=>aW (ho' pins s4 Z H4 y z' u w' _ I4 r2 r4 q4) fun d' s5 ⟨z2,H5,I5,r5,k2,e2,q5⟩=>?_));subst e2;cases r5;exact xbl ⟨H5,I5,q5⟩
def Bk (K:Fgx)(x:V)(H:Hp)(k:Bool):Prop:=
 match x with
 |.non=>k=false
 |.bl b=>k=b
 |.int i=>k=(i !=0)
 |.str y=>y.length<=sizeLine/\k=((y.length:Int) !=0)
 |.byt y=>y.size<=sizeLine/\k=((y.size:Int) !=0)
 |.ref p=>(∃xs,gn K H p xs/\k= !xs.isEmpty)\/(∃xs,gO K H p xs/\k= !xs.isEmpty)\/∃kvs,H p=some (.dK kvs)/\k= !kvs.isEmpty
 |_=>False
theorem zck (r:KV kvs vs):(!vs.isEmpty)= !kvs.isEmpty:=by
 cases r<;>rfl
def Yw (r:Vals xs its):(!its.toArray.isEmpty)= !xs.isEmpty:=by
 cases r<;>simp
def zx:(sizeLine:Nat)<2^63:=by rw[xay];decide
def ziq:Pk X (fun x H Q=>∃k,Bk X.K x H k/\Q k H):=by
 intro pins s Z H x v Q I rx h;obtain⟨k,e,q⟩:=h;have hl:=zx;have hs:sizeLine=16777216:=xay
 cases x with
 |non=>
  cases rx;have e':k=false:=e;subst e';exact truthy_none ⟨H,I,q⟩
 |bl b=>
  cases rx;have e':k=b:=e;subst e';exact xbl ⟨H,I,q⟩
 |int i=>
  k_acc1;have e':k=(i !=0):=e;subst e';exact PySem.P.truthy_int ⟨H,I,q⟩
 |str y=>
  k_acc1;obtain⟨hy,e'⟩:y.length<=sizeLine/\k=((y.length:Int) !=0):=e;subst e';exact PySem.P.truthy_str (by lia) ⟨H,I.tok _,q⟩
 |byt y=>
  k_acc1;obtain⟨hy,e'⟩:y.size<=sizeLine/\k=((y.size:Int) !=0):=e;subst e';exact W.truthy_bytes (by lia) ⟨H,I.tok _,q⟩
 |ref p=>
  cases rx;have e':(∃xs,gn X.K H p xs/\k= !xs.isEmpty)\/(∃xs,gO X.K H p xs/\k= !xs.isEmpty)\/∃kvs,H p=some (.dK kvs)/\k= !kvs.isEmpty:=e;rcases e' with⟨xs,hx,e'⟩ |⟨xs,hx,e'⟩ |⟨kvs,hx,e'⟩
  .subst e';obtain⟨its,r,pl,hz⟩:=I.list hx;have hlen:=r.length;exact wpAny_truthy_list pl.isList (by simp only[xal];lia) ⟨H,I.tok _,by rw[Yw r];exact q⟩
  .subst e';obtain⟨its,r,pl,hz⟩:=I.tuple hx;have hlen:=r.length;exact truthy_tuple pl (by simp only[xal];lia) ⟨H,I.tok _,by rw[Yw r];exact q⟩
  .subst e';obtain⟨hz,hS,vs,r,m⟩:kvs.length<=sizeLine/\(p==sysModules)=false/\∃vs,KV kvs vs/\s.heap.DictOf (lX X.prog X.w) p vs:=I.hok p _ hx;have hlen:kvs.length=vs.length:=xdt r;exact wpAny_truthy_dict hS m (by lia) ⟨H,I.tok _,by rw[zck r];exact q⟩
 |_=>exact(show False from e).elim
def zeA (ha:PE X a ta)(he:∀whole,isTrue a X.env whole=(do let v <-whole;standAt a.pos;holding [v] (truthy v))):
  PT X a (fun Z H Q=>ta Z H fun x H'=>∃k,Bk X.K x H' k/\Q k H'):=by
 fen_go;exact isTrue_plain (aW (ha pins s Z H _ I h) fun v s1 ⟨x,H1,I1,r1,q1⟩=>ziq pins s1 Z H1 x v Q I1 r1 q1) (he _)
def zcB:gj X (binaryOp .Add) (fun x y H Q=>∃i j,x=.str i/\y=.str j/\i.length+j.length<=sizeLine/\Q (.str (i++j)) H):=by
 w_why;obtain⟨i,j,rfl,rfl,hz,q⟩:=h;k_acc1;obtain⟨t',rfl⟩:=ry;exact add_str (fun t' tk=>⟨.str (i++j),H,I.tok _,⟨_,rfl⟩,q⟩) hz
def vals1 (r:Vals [x] us):∃u,us=[u]/\RelV x u:=by
 cases r with
 |cons r1 r2=>cases r2;exact⟨_,rfl,r1⟩
def vals2 (r:Vals [x,y] us):∃u w',us=[u,w']/\RelV x u/\RelV y w':=by
 cases r with
 |cons r1 r2=>
  cases r2 with
  |cons r3 r4=>cases r4;exact⟨_,_,rfl,r1,r3⟩
def W4 (hc:X.calm=true):nP X (.builtin "min") (fun xs H Q=>∃i j,xs=[.int i,.int j]/\Q (.int (if j<i then j else i)) H):=by
 kt_chr;obtain⟨i,j,rfl,q⟩:=h;obtain⟨u,w',rfl,⟨t,rfl⟩,⟨t',rfl⟩⟩:=vals2 r;refine min_two_ints (I.ok.hd hc) fun h' tk k=>⟨_,H,I.kept k,?_,q⟩
 by_cases hj:j<i
 .rw[xaa hj,xaa hj];exact⟨_,rfl⟩
 .rw[xac hj,xac hj];exact⟨_,rfl⟩
def pG:nP X (.type "str") (fun xs H Q=>∃i,xs=[.int i]/\i.natAbs.log2<1920/\Q (.str (toString i)) H):=by
 kt_chr;obtain⟨i,rfl,hz,q⟩:=h;obtain⟨u,rfl,t,rfl⟩:=vals1 r;exact PySem.P.str_of_int hz ⟨.str _,H,I.tok _,⟨_,rfl⟩,q⟩
end
structure ObjM (h:Heap)(x dx C:Addr)(mA:Mgx):Prop where
 obj:h.get? x=some (W.instObj C dx)
 ns:h.Ns1 dx mA
 ne:dx≠x
def Zc {h:Heap}{dx:Addr}{mA:Mgx}(n:h.Ns1 dx mA):∃od,h.get? dx=some od/\∀name,W.lookIn name od=some (mA name):=by
 obtain⟨o,es,ep,ho,hd,hk,_,hm⟩:=n;refine⟨o,ho,fun name=>?_⟩;have e:=hm name;unfold nsFind findBy at e;rw[<-xdn]at e;unfold W.lookIn;rw[hd];dsimp only
 split
 .rename_i y q;rw[q]at e;exact congrArg some e
 .rename_i q;rw[q]at e;have a:es.toList.any (·.refKey)=false:=by
   rw[xef];intro y hy;obtain⟨z,t,hkey⟩:=hk y (Array.mem_toList_iff.mp hy)
   simp[DictEntry.refKey,hkey]
  have a':¬ es.toList.any (·.refKey)=true:=by rw[a];exact xaF
  rw[xac a'];exact congrArg some e
def ObjM.look (I:ObjM h x dx C mA):∃od,W.InstAt h x (W.instObj C dx) C (some od)/\∀name,W.lookIn name od=some (mA name):=
 let ⟨od,ho,hl⟩:=Zc I.ns
 ⟨od,⟨I.obj,rfl,rfl,ho⟩,hl⟩
section
variable {prog:Program}{w:World}{A:Around}{E:Vsp}{s:Shared}{K:Fgx}{x dx C f:Addr}{mA:Mgx}{name:Str}{v:Value}
def zfO (X:K.In s.heap)(I:ObjM s.heap x dx C mA)
  (hs:W.findIn K (.ref C) "__setattr__"=some (some (.builtin "object.__setattr__"))) (hp:W.plainOver K C=true) (ht:W.takerIn K C name=some none) (hh:W.hasDictIn K C=true)
  (hw:PySem.Within mA ns) (hsz:ns.length<=sizeLine)
  (h:∀h',ObjM h' x dx C (fun y=>if y=name then some v else mA y)->Heap.SameBut dx s.heap h'->Q () {s with heap:=h',toks:=s.toks+2}):
  wpAny (model prog w) A (setAttr (.ref x) name v) Q E s:=by
 obtain⟨od,J,hl⟩:=I.look;refine W.set_plain X J hs (W.osa_open (s:={s with toks:=s.toks+1}) (r:=none) X J hp ht fun b=>?_);obtain⟨cd,hc,hd'⟩:=W.any_some hh;have hx:s.heap.get? x=some ⟨.ref C,some dx,.plain, #[]⟩:=I.obj;refine xab (xan (xab (xab (wpAny_loadPart hx (xab (xcu (s:={s with toks:=s.toks+1}) (xd2 X hc) ?_))))));rw[hd'];refine xan (a:=some dx) (xab (xan (xab ?_)));refine wpAny_nsSet1 (s:={s with toks:=s.toks+1}) I.ns fun h' hn2 hs2=>?_;obtain⟨oD,esD,epD,hoD,hdD,hcD⟩:=hn2.count (PySem.Within.cons name v hw);refine xab (wpAny_lookBehind hoD (by rw[hdD];exact pastItsLine_dict (xaN hcD (by rw[xae];lia))) ?_);exact xan (h _ ⟨(hs2.2 _ (xbw I.ne)).trans I.obj,hn2,I.ne⟩ hs2)
def zdS (X:K.In s.heap)(hm:W.makesIn K C=true)
  (hi:W.findIn K (.ref C) "__init__"=some (some (.ref f))) (hf:W.typeIn K (.ref f)=some (.type "function"))
  (h:codeAny (model prog w) (A.under (.builtin "type.__call__" ⟨.ref C::vs,kw⟩)) (.call (.ref f) ⟨.ref (s.heap.objs.size+1)::vs,kw⟩) (W.InitBack (s.heap.objs.size+1) R)
   {s with heap:=(s.heap.push W.emptyDict).push (W.instObj C s.heap.objs.size)}):
  codeAny (model prog w) A (.call (.ref C) ⟨vs,kw⟩) R s:=by
 obtain⟨hh,g,d,t,os⟩:=s;exact W.make_core (W.makes_of X hm) (xdk X hi) (fun self=>W.bind_fn X self hf) (.inl rfl) h
end
noncomputable def fY (f:Str) (v:V):List (Str×V)->List (Str×V)
 | []=>[(f,v)]
 |(g,x)::r=>if g=f then(g,v)::r else(g,x)::fY f v r
theorem Zd (f g:Str)(v:V):∀fs:List (Str×V),(fY f v fs).lookup g=if g=f then some v else fs.lookup g
 | []=>by
  show List.lookup g [(f,v)]=_
  by_cases h:g=f
  .have hb:(g==f)=true:=xbh.mpr h;simp only[List.lookup,hb,xaa h]
  .have hb:(g==f)=false:=xbv.mpr h;simp only[List.lookup,hb,xac h]
 |(k,x)::r=>by
  have ih:=Zd f g v r;rw[show fY f v ((k,x)::r)=(if k=f then(k,v)::r else(k,x)::fY f v r) from rfl]
  by_cases hk:k=f
  .rw[xaa hk]
   by_cases h:g=k
   .have hb:(g==k)=true:=xbh.mpr h;simp only[List.lookup,hb,xaa (h.trans hk)]
   .have hb:(g==k)=false:=xbv.mpr h;simp only[List.lookup,hb,xac (fun e:g=f=>h (e.trans hk.symm))]
  .rw[xac hk]
   by_cases h:g=k
   .have hb:(g==k)=true:=xbh.mpr h;simp only[List.lookup,hb,xac (fun e:g=f=>hk (h.symm.trans e))]
   .have hb:(g==k)=false:=xbv.mpr h;simp only[List.lookup,hb];exact ih
theorem RZ (f:Str)(v:V):∀fs:List (Str×V),f∈(fY f v fs).map (·.1)/\∀g,g∈fs.map (·.1)->g∈(fY f v fs).map (·.1)
 | []=>⟨by simp[fY],fun g h=>by simp at h⟩
 |(k,x)::r=>by
  obtain⟨i1,i2⟩:=RZ f v r;rw[show fY f v ((k,x)::r)=(if k=f then(k,v)::r else(k,x)::fY f v r) from rfl]
  by_cases hk:k=f
  .rw[xaa hk];subst hk;exact⟨by simp,fun g h=>by simpa using h⟩
  .rw[xac hk];refine⟨?_,fun g h=>?_⟩
   .rw[xai];exact xat _ i1
   .rw[xai]at h ⊢;rcases xaz.mp h with e |e
    .exact xaz.mpr (.inl e)
    .exact xat _ (i2 g e)
theorem Y7 (f:Str)(v:V):∀fs:List (Str×V),(fY f v fs).length<=fs.length+1
 | []=>by simp[fY]
 |(k,x)::r=>by
  have ih:=Y7 f v r;rw[show fY f v ((k,x)::r)=(if k=f then(k,v)::r else(k,x)::fY f v r) from rfl]
  by_cases hk:k=f
  .rw[xaa hk,xae,xae];lia
  .rw[xac hk,xae,xae];lia
def lA.some_of (r:lA (some v) o):∃u,o=some u/\RelV v u:=by
 cases o with
 |none=>exact(show False from r).elim
 |some u=>exact⟨u,rfl,r⟩
theorem zc4 (r:RelV v u):W.handedIn u=true:=by
 cases v with
 |non=>cases (show u=Value.none from r);rfl
 |bl b=>cases (show u=Value.bool b from r);rfl
 |int i=>obtain⟨t,e⟩:=(show ∃t,u=Value.int i t from r);cases e;rfl
 |str x=>obtain⟨t,e⟩:=(show ∃t,u=Value.str x t from r);cases e;rfl
 |byt b=>obtain⟨t,e⟩:=(show ∃t,u=Value.bytes b t from r);cases e;rfl
 |flt b=>obtain⟨t,e⟩:=(show ∃t,u=Value.float b t from r);cases e;rfl
 |ref a=>cases (show u=Value.ref a from r);rfl
 |ty n=>cases (show u=Value.type n from r);rfl
section
variable {P:Program}{w:World}{H:Hp}{h:Heap}{a C dx:Addr}{fs:List (Str×V)}
def Yv (hok:gK P w H h)(e:H a=some (.ins C dx fs)):∃mA,ObjM h a dx C mA/\(∀f,lA (fs.lookup f) (mA f))/\PySem.Within mA (fs.map (·.1))/\fs.length<=1000/\H dx=some (.own a):=by
 obtain⟨d,z,ne,ob,mA,n,r,q⟩:=(show gM P w H h a (.ins C dx fs) from hok a _ e);exact⟨mA,⟨ob,n,ne⟩,r,q,z,d⟩
end
structure Cls (K:Fgx)(C:Addr):Prop where
 pg:W.plainGet K C Str.empty=true
 hd:W.hasDictIn K C=true
 po:W.plainOver K C=true
 sa:W.findIn K (.ref C) "__setattr__"=some (some (.builtin "object.__setattr__"))
def Cls.get {K:Fgx}{C:Addr}(c:Cls K C)(f:Str):W.plainGet K C f=true:=c.pg
def Bh (K:Fgx)(C:Addr)(f:Str):Prop:=W.findIn K (.ref C) f=some none
theorem Bh.taker {K:Fgx}{C:Addr}{f:Str}(n:Bh K C f):W.takerIn K C f=some none:=by
 unfold W.takerIn;rw[show W.findIn K (.ref C) f=some none from n];rfl
section
variable {X:Cx}{pins:Pnx}{Z:St}{H:Hp}{s:Shared}{a C dx:Addr}{fs:List (Str×V)}{f:Str}{A:Around}{E:Vsp}
def zcG (I:Inv X pins Z H s)(e:H a=some (.ins C dx fs))(c:Cls X.K C)(n:Bh X.K C f)(hl:fs.length<1000)(ry:RelV y u)
  (h:∀s',Inv X pins Z (upd H a (.ins C dx (fY f y fs))) s'->Q () s'):wpAny (model X.prog X.w) A (setAttr (.ref a) f u) Q E s:=by
 obtain⟨mA,O,r,wi,_,ho⟩:=Yv I.hok e;have hz:(fs.map (·.1)).length<=sizeLine:=by rw[xah,xay];lia
 refine zfO I.kIn O c.sa c.po n.taker c.hd wi hz fun h' O' sb=>h _ ?_;have hd:∃o,h'.get? dx=some o:=let ⟨o,_,_,e',_⟩:=O'.ns;⟨o,e'⟩
 refine I.write (x:=a) (e:=dx) (by rw[e];exact True.intro) (.inr ho) (fun b q hb z=>(sb.2 b hb).trans z) hd ?_;refine⟨by rw[eN O.ne];exact ho,?_,O.ne,O'.obj,_,O'.ns,fun g=>?_,fun g hg=>?_⟩
 .have:=Y7 f y fs;lia
 .show lA ((fY f y fs).lookup g) (if g=f then some u else mA g)
  rw[Zd]
  by_cases q:g=f
  .rw[xaa q,xaa q];exact ry
  .rw[xac q,xac q];exact r g
 .by_cases q:g=f
  .rw[q];exact(RZ f y fs).1
  .refine(RZ f y fs).2 g (wi g fun z=>hg ?_);show(if g=f then some u else mA g)=none
   rw[xac q];exact z
def Inv.made (I:Inv X pins Z H s):Inv X pins Z (upd (upd H s.heap.objs.size (.own (s.heap.objs.size+1))) (s.heap.objs.size+1) (.ins C s.heap.objs.size []))
  {s with heap:=(s.heap.push W.emptyDict).push (W.instObj C s.heap.objs.size)}:=by
 have e1:(s.heap.push W.emptyDict).get? s.heap.objs.size=some W.emptyDict:=xaJ s.heap rfl;have e2:((s.heap.push W.emptyDict).push (W.instObj C s.heap.objs.size)).get? (s.heap.objs.size+1)=some (W.instObj C s.heap.objs.size):=by
  have:=xaJ (s.heap.push W.emptyDict) (o:=W.instObj C s.heap.objs.size) rfl
  rwa [xdU]at this
 have e3:(s.heap.push W.emptyDict).Ns s.heap.objs.size (fun _=>none):=⟨W.emptyDict, #[],_,e1,rfl,(fun e he=>absurd he (by simp)),fun _=>rfl⟩;have I1:=I.laid (a:=s.heap.objs.size) (o:=.own (s.heap.objs.size+1)) (h':=s.heap.push W.emptyDict) (t':=s.toks) (fun b u q=>xad _ q) (xag _) ⟨_,e1⟩;refine I1.laid (a:=s.heap.objs.size+1) (o:=.ins C s.heap.objs.size []) (t':=s.toks) (fun b u q=>xad _ q) (xd9 (xdU _ _)) ?_;have ne:s.heap.objs.size≠s.heap.objs.size+1:=xaM (xbH _);refine⟨by rw[eN ne,gA],xbP _,ne,e2,fun _=>none,(Heap.Ns1.of_empty e3).at fun o q=>xad _ q,fun _=>True.intro,fun y hy=>absurd rfl hy⟩
def zgo (hb:attributeBase e f env (eval e env)=eval e env)
  (h:wpAny (model prog w) A (eval e env) (fun o s₁=>wpAny (model prog w) A (getAttr o f true) Q E s₁) E s):wpAny (model prog w) A (eval (.Attribute e f pos) env) Q E s:=
 Attribute_any_ h (by rw[arm_eval_Attribute,hb])
end
def U8 (K:Fgx)(ta tv:TE)(f:Str):TS:=fun D Z H=>tv Z H fun y H1=>ta Z H1 fun x H2=>∃a C dx fs,x=.ref a/\H2 a=some (.ins C dx fs)/\Cls K C/\Bh K C f/\fs.length<1000/\
 D.nx Z (upd H2 a (.ins C dx (fY f y fs)))
section
variable {X:Cx}{o value:Expr}{f:Str}{pos pos':Pos}{ta tv:TE}
def zhP (ha:PE X o ta)(hv:PE X value tv)(hs:swapsWith value (some (.Attribute o f pos')) pos.line X.env=pure false):PS X (.Assign [.Attribute o f pos'] value pos) (U8 X.K ta tv f):=by
 tb_src;refine xcX (aW (hv pins s Z H _ I h) fun u s1 ⟨y,H1,I1,ry,q⟩=>aW (ha pins s1 Z H1 _ I1 q) fun ov s2 ⟨x,H2,I2,rx,a,C,dx,fs,ex,ea,c,n,l,q2⟩=>?_) hs;subst ex;obtain rfl:ov=Value.ref a:=rx;exact zcG I2 ea c n l ry fun s3 I3=>⟨Z,_,I3,q2⟩
def Cr:V->V->Hp->VK->Prop:=fun x y H Q=>∃i j,x=.int i/\y=.int j/\Q (.int (i+j)) H
end
section
variable {X:Cx}{pins:Pnx}{Z:St}{H:Hp}{s:Shared}{A:Around}{E:Vsp}{Q:Vsp}{c:Value}{b:Bool}
inductive TyOf (K:Fgx)(H:Hp):V->Value->Prop where
 |non:TyOf K H .non (.type "NoneType")
 |bl (x:Bool):TyOf K H (.bl x) (.type "bool")
 |int (i:Int):TyOf K H (.int i) (.type "int")
 |str (x:Str):TyOf K H (.str x) (.type "str")
 |flt (x:UInt64):TyOf K H (.flt x) (.type "float")
 |lst {a:Addr} {xs:List V} (e:H a=some (.lst xs)):TyOf K H (.ref a) (.type "list")
 |frz {a:Addr} {o:Obj} {xs:List V} (e:H a=some (.frz o (.lst xs))):TyOf K H (.ref a) (.type "list")
 |tup {a:Addr} {xs:List V} (e:H a=some (.tup xs)):TyOf K H (.ref a) (.type "tuple")
 |dK {a:Addr} {kvs:List (Key×V)} (e:H a=some (.dK kvs)):TyOf K H (.ref a) (.type "dict")
 |dT {a:Addr} {kvs:List (List Key×V)} (e:H a=some (.dT kvs)):TyOf K H (.ref a) (.type "dict")
 |ins {a C dx:Addr} {fs:List (Str×V)} (e:H a=some (.ins C dx fs)) (cl:Cls K C) (ha:W.findIn K (.ref C) "__class__"=some (some (.builtin "object.__class__")))
  (hn:W.specialIn K (.builtin "object.__class__") "__get__"=some (some (.builtin "getset_descriptor.__get__"))) (htk:W.takesIn K (.builtin "object.__class__")=some true)
  (hm:W.mroIn K C (.type "object")=some true):TyOf K H (.ref a) (.ref C)
def K6 (I:Inv X pins Z H s)(rx:RelV x u)(ty:TyOf X.K H x t)(e:W.kitOne X.K t c=some b)(h:∀tk,Q (.bool b) {s with toks:=tk}):
  wpAny (model X.prog X.w) A (call (.builtin "isinstance") [u,c]) Q E s:=by
 cases ty with
 |non=>cases (show u=Value.none from rx);exact xbK W.kitx_none I.kIn True.intro e (fun z=>nomatch z) h
 |bl y=>cases (show u=Value.bool y from rx);exact xbK W.kitx_bool I.kIn True.intro e (fun z=>nomatch z) h
 |int i=>obtain⟨t,q⟩:=(show ∃t,u=Value.int i t from rx);cases q;exact xbK W.kitx_int I.kIn True.intro e (fun z=>nomatch z) h
 |str y=>obtain⟨t,q⟩:=(show ∃t,u=Value.str y t from rx);cases q;exact xbK W.kitx_str I.kIn True.intro e (fun z=>nomatch z) h
 |flt y=>obtain⟨t,q⟩:=(show ∃t,u=Value.float y t from rx);cases q;exact xbK W.kitx_float I.kIn True.intro e (fun z=>nomatch z) h
 | @lst a xs ea=>
  cases (show u=Value.ref a from rx);obtain⟨_,_,n,_,h1⟩:=(show gM X.prog X.w H s.heap a (.lst xs) from I.hok a _ ea);exact xbK W.kitx_list I.kIn ⟨_,h1,rfl⟩ e (fun z=>nomatch z) h
 | @frz a ob xs ea=>
  cases (show u=Value.ref a from rx);obtain⟨_,_,_,n,_,h1⟩:=(show gM X.prog X.w H s.heap a (.frz ob (.lst xs)) from I.hok a _ ea);exact xbK W.kitx_list I.kIn ⟨_,h1,rfl⟩ e (fun z=>nomatch z) h
 | @tup a xs ea=>
  cases (show u=Value.ref a from rx);obtain⟨_,_,_,p⟩:=(show gM X.prog X.w H s.heap a (.tup xs) from I.hok a _ ea);obtain⟨o,h1,h2,_⟩:=p;exact xbK W.kitx_tuple I.kIn ⟨o,h1,h2⟩ e (fun z=>nomatch z) h
 | @dK a kvs ea=>
  cases (show u=Value.ref a from rx);obtain⟨_,_,vs,_,p⟩:=(show gM X.prog X.w H s.heap a (.dK kvs) from I.hok a _ ea);obtain⟨o,es,ep,h1,h2,_⟩:=p;exact xbK W.kitx_dict I.kIn ⟨o,h1,h2.1⟩ e (fun z=>nomatch z) h
 | @dT a kvs ea=>
  cases (show u=Value.ref a from rx);obtain⟨_,_,xs,_,o,es,ep,h1,h2,_⟩:=(show gM X.prog X.w H s.heap a (.dT kvs) from I.hok a _ ea);exact xbK W.kitx_dict I.kIn ⟨o,h1,h2.1⟩ e (fun z=>nomatch z) h
 | @ins a C dx fs ea cl ha hn htk hm=>
  cases (show u=Value.ref a from rx);obtain⟨mA,O,_⟩:=Yv I.hok ea;obtain⟨od,J,_⟩:=O.look;exact xbK (W.kitx_own (cl.get _) cl.hd ha hn htk hm) I.kIn J e (fun z=>nomatch z) h
end
structure Room (k:Nat)(A:Around):Prop where
 hd:A.handled=none
 dp:A.depth+3*k+5<recursionLimit
 un:A.units+16*k+200<cLine
def Room.mono (r:Room k A)(h:j<=k):Room j A:=⟨r.hd,by have:=r.dp;lia,by have:=r.un;lia⟩
theorem Room.deeper (r:Room (k+1) A)(env:Env):Room k (A.deeper env):=
 ⟨r.hd,by have:=r.dp;show A.depth+1+3*k+5<_;lia,by have:=r.un;show A.units+3+16*k+200<_;lia⟩
def zcu {A:Around}{C:Addr}{us:Lvx}{kw:List (Str×Value)}:(A.under (.builtin "type.__call__" ⟨.ref C::us,kw⟩)).depth=A.depth+1:=by
 first |rfl |simp[Around.under,Code.weight,Code.isCreation,Code.isGuard,Code.isCaller,Code.frames,Code.isFrame,guardIds]
def zcq {A:Around}{C:Addr}{us:Lvx}{kw:List (Str×Value)}:(A.under (.builtin "type.__call__" ⟨.ref C::us,kw⟩)).units=A.units+1:=by
 first |rfl |simp[Around.under,Code.cUnits,Code.frames,Code.isFrame]
def Room.make (r:Room (k+1) A)(C:Addr)(us:Lvx)(kw:List (Str×Value)):Room k (A.under (.builtin "type.__call__" ⟨.ref C::us,kw⟩)):=
 ⟨r.hd,by have:=r.dp;rw[zcu];lia,by have:=r.un;rw[zcq];lia⟩
theorem Room.depth (r:Room k A):A.depth<recursionLimit:=by have:=r.dp;lia
theorem Room.units (r:Room k A):A.units+64<cLine:=by have:=r.un;lia
def Vz:TA:=fun _ H Q=>Q [] H
def zlZ (ta:TE)(tr:TA):TA:=fun Z H Q=>ta Z H fun x H1=>tr Z H1 fun xs H2=>Q (x::xs) H2
section
variable {X:Cx}{e:Expr}{es:Lex}{te:TE}{t:TA}{pos:Pos}
def xM:PA X [] Vz:=fun _ _ _ _ H Q I h=>Calls.spliced_nil ⟨[],H,I,.nil,h⟩
def tY (ha:PE X e te)(hr:PA X es t)(hs:starEach (e::es) X.env=(false,eval e X.env)::starEach es X.env:=by rfl):PA X (e::es) (zlZ te t):=by
 intro pos pins s Z H Q I h;rw[hs];show wpAny _ _ (spliced ((false,eval e X.env)::backTo pos (starEach es X.env))) _ _ s;refine xdo (aW (ha pins s Z H _ I h) fun u s1 ⟨x,H1,I1,r1,q1⟩=>?_);exact aW (hr pos pins s1 Z H1 _ I1 q1) fun us s2 ⟨xs,H2,I2,r2,q2⟩=>⟨x::xs,H2,I2,.cons r1 r2,q2⟩
def VL (t:TA):TE:=fun Z H Q=>t Z H fun xs H1=>xs.length<=sizeLine/\∀p,H1 p=none->Q (.ref p) (upd H1 p (.tup xs))
def Vy (t:TA):TE:=fun Z H Q=>t Z H fun xs H1=>xs.length<=sizeLine/\∀p,H1 p=none->Q (.ref p) (upd H1 p (.lst xs))
def zh5 {x1}(h:PA X es t):PE X (.Tuple es x1 pos) (VL t):=by
 intro pins s Z H Q I hq;refine wpAny_Tuple_spliced (aW (h pos pins s Z H _ I hq) fun us s1 ⟨xs,H1,I1,r,z,q⟩=>⟨by rw[<-r.length];exact z,?_⟩);have hf:H1 s1.heap.objs.size=none:=I1.hok.fresh (xag _);refine⟨.ref s1.heap.objs.size,upd H1 s1.heap.objs.size (.tup xs),I1.laid (t':=s1.toks) (fun b u e=>xad _ e) (xag _) ?_,rfl,q _ hf⟩;exact⟨z,us,r,⟨_,xaJ _ rfl,rfl,_,rfl⟩⟩
def zid (h:PA X es t):PE X (.List es pos) (Vy t):=by
 intro pins s Z H Q I hq;refine wpAny_List_spliced (aW (h pos pins s Z H _ I hq) fun us s1 ⟨xs,H1,I1,r,z,q⟩=>⟨by rw[<-r.length];exact z,?_⟩);have hf:H1 s1.heap.objs.size=none:=I1.hok.fresh (xag _);refine⟨.ref s1.heap.objs.size,upd H1 s1.heap.objs.size (.lst xs),I1.laid (t':=s1.toks) (fun b u e=>xad _ e) (xag _) ?_,rfl,q _ hf⟩;exact⟨z,us,0,r,xaJ _ rfl⟩
end
abbrev Sp:=List V->Hp->VK->XK->Prop
abbrev sJ:=List Env->Hp->Shared->XK->Vsp
structure Env0 (P:Program)(w:World)(K:Fgx)(mg:Mgx)(base:Heap)(A:Around)(outer:List Env)(s:Shared)(H:Hp):Prop where
 frames:A.frames=some outer
 mod:Mod K mg base
 bs:∀b o,base.get? b=some o->s.heap.get? b=some o/\H b=none
 bsz:base.objs.size<=s.heap.objs.size
 funs:s.heap.FunFrames base outer
 frf:∀b∈frs outer,H b=none
 hok:gK P w H s.heap
 bare:AllBare s.gens
def CE (outer:List Env)(P:Program)(w:World)(H:Hp)(s:Shared)(Q:VK)(u:Value)(s':Shared):Prop:=
 ∃v H',s'.os=s.os/\AllBare s'.gens/\Un (frs outer) [] H H' s.heap s'.heap/\gK P w H' s'.heap/\RelV v u/\Q v H'
def CR (CX:sJ)(outer:List Env)(P:Program)(w:World)(H:Hp)(s:Shared)(Q:VK)(E:XK)(r:Result)(s':Shared):Prop:=
 match r with
 |.ok (.ret u)=>CE outer P w H s Q u s'
 |.ok _=>False
 |.error e=>CX outer H s E e s'
structure FnOk (P:Program)(w:World)(K:Fgx)(mg:Mgx)(base:Heap)(CX:sJ)(k:Nat)(f:Addr)(fd:FuncData)(ps:Lsx)(sp:Sp):Prop where
 len:∀vs H Q E,sp vs H Q E->vs.length=ps.length
 run:∀(A:Around) (outer:List Env) (s:Shared) (H:Hp) (args:Args) (us:Lvx) (vs:List V) (Q:VK) (E:XK),Room k A->Env0 P w K mg base A outer s H->BindsTo s fd args (ps.zip us)->Vals vs us->sp vs H Q E->
  codeAny (model P w) A (.call (.ref f) args) (CR CX outer P w H s Q E) s
theorem FnOk.mono {P:Program}{w:World}{K:Fgx}{mg:Mgx}{base:Heap}{CX:sJ}{j k:Nat}{f:Addr}{fd:FuncData}{ps:Lsx}{sp:Sp}(F:FnOk P w K mg base CX j f fd ps sp)(h:j<=k):
 FnOk P w K mg base CX k f fd ps sp:=⟨F.len,fun A outer s H args us vs Q E hr=>F.run A outer s H args us vs Q E (hr.mono h)⟩
def Env0.make {P:Program}{w:World}{K:Fgx}{mg:Mgx}{base:Heap}{A:Around}{outer:List Env}{s:Shared}{H:Hp}(e:Env0 P w K mg base A outer s H)(C:Addr)(us:Lvx)(kw:List (Str×Value)):
 Env0 P w K mg base (A.under (.builtin "type.__call__" ⟨.ref C::us,kw⟩)) outer s H:=⟨by first |exact e.frames |(simpa [Around.under,Code.envs,Code.isFrame,pushEnvs] using e.frames),e.mod,e.bs,e.bsz,e.funs,e.frf,e.hok,e.bare⟩
section
variable {X:Cx}{pins:Pnx}{Z:St}{H:Hp}{s s':Shared}
def Inv.env0 (I:Inv X pins Z H s):Env0 X.prog X.w X.K X.mg X.base X.A X.stack s H:=
 ⟨I.ok.frames,I.ok.mod,I.bs,xaN I.ok.bsz I.sz,I.stack,I.stkFree,I.hok,I.bare⟩
def Inv.after (I:Inv X pins Z H s)(h:CE X.stack X.prog X.w H s Q u s'):EP X pins Z Q u s':=by
 obtain⟨v,H',os,bare,un,hok,r,q⟩:=h;obtain⟨hh,g,d,t,os'⟩:=s';obtain rfl:os'=s.os:=os;exact⟨v,H',I.call (h':=hh) (g':=g) (d':=d) (t':=t) (ch:=[]) un hok bare (fun b z=>absurd z (by simp)),r,q⟩
end
def zkx (sp:Sp)(dvs:List V)(E:XK)(t:TA):TE:=fun Z H Q=>t Z H fun vs H1=>sp (vs++dvs) H1 Q E
def zlJ (C:Addr)(sp:Sp)(dvs:List V)(E:XK)(t:TA):TE:=fun Z H Q=>t Z H fun vs H1=>∀x dx,H1 x=none->H1 dx=none->dx≠x->
 sp (.ref x::(vs++dvs)) (upd (upd H1 dx (.own x)) x (.ins C dx [])) (fun v H2=>v=.non/\Q (.ref x) H2) E
def Binds (K:Fgx)(fd:FuncData)(ps:Lsx)(ds:Lvx):Prop:=
 ∀(s:Shared) (us:Lvx),K.In s.heap->(us++ds).length=ps.length->BindsTo s fd ⟨us,[]⟩ (ps.zip (us++ds))
def Binds.all {K:Fgx}{fd:FuncData}{ps:Lsx}(h:∀us:Lvx,us.length=ps.length->bindArgs fd ⟨us,[]⟩=pure (ps.zip us)):Binds K fd ps []:=fun s us _ hl=>by
 rw[xaA]at hl ⊢;exact .of_eq (h us hl)
def Passes (CX:sJ)(X:Cx)(E:XK):Prop:=∀(pins:Pnx) (Z:St) (H:Hp) (s:Shared) (e:Value) (s':Shared),Inv X pins Z H s->CX X.stack H s E e s'->X.xe e s'
section
variable {X:Cx}{CX:sJ}{k:Nat}{f C:Addr}{fd:FuncData}{ps:Lsx}{sp:Sp}{dvs:List V}{ds:Lvx}{E:XK}{x:Str}{p pos:Pos}{e:Expr}{es:Lex}{t:TA}
def zjw (F:FnOk X.prog X.w X.K X.mg X.base CX k f fd ps sp)(hr:Room k X.A)(hb:Binds X.K fd ps ds)(hd:Vals dvs ds)(hx:Passes CX X E)
  (I:Inv X pins Z H s) (r:Vals vs us) (h:sp (vs++dvs) H Q E):wpAny (model X.prog X.w) X.A (call (.ref f) us) (EP X pins Z Q) X.xe s:=by
 have r2:Vals (vs++dvs) (us++ds):=r.append hd;have hl:(us++ds).length=ps.length:=by rw[<-r2.length];exact F.len _ _ _ _ h
 refine xcJ (xcv (F.run X.A X.stack s H ⟨us,[]⟩ (us++ds) (vs++dvs) Q E hr I.env0 (hb s us I.kIn hl) r2 h) fun r s' hq=>?_)
 cases r with
 |error e=>exact hx pins Z H s e s' I hq
 |ok fl=>
  cases fl with
  |ret u=>exact I.after hq
  |next=>exact False.elim hq
  |brk=>exact False.elim hq
  |cont=>exact False.elim hq
def zgC (F:FnOk X.prog X.w X.K X.mg X.base CX k f fd ps sp)(hr:Room k X.A)(hg:Gl X x)(hm:X.mg x=some (.ref f))(hk:W.keepIn X.K (.ref f)=true)(hb:Binds X.K fd ps ds)(hd:Vals dvs ds)(hx:Passes CX X E)
  (ha:PA X (e::es) t) (hdb:(x==("__debug__":Str))=false:=by decide) (he:starEach (e::es) X.env=(false,eval e X.env)::starEach es X.env:=by rfl) (hpl:(backTo pos (starEach es X.env)).any (·.1)=false:=by rfl):
  PE X (.Call (.Name x p) (e::es) [] pos) (zkx sp dvs E t):=by
 fen_go;refine xbL (wB I hg hm ?_ hdb);refine xc4 (h₀:=X.base) I.ok.mod.kin hk (aW (ha pos pins s Z H _ I h) fun us s1 ⟨vs,H1,I1,r,q⟩=>⟨I1.kIn,?_⟩) he hpl;exact zjw F hr hb hd hx I1 r q
structure Mk (K:Fgx)(C f:Addr):Prop where
 makes:W.makesIn K C=true
 init:W.findIn K (.ref C) "__init__"=some (some (.ref f))
 fn:W.isFn K (.ref f)=true
 kp:W.keepIn K (.ref C)=true
def zdZ (M:Mk X.K C f)(F:FnOk X.prog X.w X.K X.mg X.base CX k f fd ps sp)(hr:Room (k+1) X.A)(hb:Binds X.K fd ps ds)(hd:Vals dvs ds)
  (hx:Passes CX X E) (I:Inv X pins Z H s) (r:Vals vs us)
  (h:∀x dx,H x=none->H dx=none->dx≠x->sp (.ref x::(vs++dvs)) (upd (upd H dx (.own x)) x (.ins C dx [])) (fun v H2=>v=.non/\Q (.ref x) H2) E):
  wpAny (model X.prog X.w) X.A (call (.ref C) us) (EP X pins Z Q) X.xe s:=by
 have hq:=h (s.heap.objs.size+1) s.heap.objs.size (I.hok.fresh (xcz _)) (I.hok.fresh (xag _)) (xaM (xbH _));have I2:=Inv.made (C:=C) I;have r2:Vals (V.ref (s.heap.objs.size+1)::(vs++dvs)) (Value.ref (s.heap.objs.size+1)::(us++ds)):=.cons rfl (r.append hd);have hl:(Value.ref (s.heap.objs.size+1)::us++ds).length=ps.length:=by
  have e:=r2.length;rw[F.len _ _ _ _ hq]at e;exact e.symm
 refine xcJ (zdS (f:=f) I.kIn M.makes M.init (xbh.mp M.fn) (xcv (F.run _ X.stack _ _ ⟨Value.ref (s.heap.objs.size+1)::us,[]⟩ (Value.ref (s.heap.objs.size+1)::(us++ds)) _ _ E (hr.make C us [])
  (I2.env0.make C us []) (hb _ (Value.ref (s.heap.objs.size+1)::us) I2.kIn hl) r2 hq) fun r s' hq'=>?_))
 cases r with
 |error e=>exact hx pins Z _ _ e s' I2 hq'
 |ok fl=>
  cases fl with
  |ret u=>
   obtain⟨v,H',I3,rv,ev,q3⟩:=I2.after hq';subst ev;exact⟨rv,⟨V.ref (s.heap.objs.size+1),H',I3,rfl,q3⟩⟩
  |next=>exact False.elim hq'
  |brk=>exact False.elim hq'
  |cont=>exact False.elim hq'
def zgf (M:Mk X.K C f)(F:FnOk X.prog X.w X.K X.mg X.base CX k f fd ps sp)(hr:Room (k+1) X.A)(hg:Gl X x)(hm:X.mg x=some (.ref C))(hb:Binds X.K fd ps ds)(hd:Vals dvs ds)(hx:Passes CX X E)
  (ha:PA X (e::es) t) (hdb:(x==("__debug__":Str))=false:=by decide) (he:starEach (e::es) X.env=(false,eval e X.env)::starEach es X.env:=by rfl) (hpl:(backTo pos (starEach es X.env)).any (·.1)=false:=by rfl):
  PE X (.Call (.Name x p) (e::es) [] pos) (zlJ C sp dvs E t):=by
 fen_go;refine xbL (wB I hg hm ?_ hdb);refine xc4 (h₀:=X.base) I.ok.mod.kin M.kp (aW (ha pos pins s Z H _ I h) fun us s1 ⟨vs,H1,I1,r,q⟩=>⟨I1.kIn,?_⟩) he hpl;exact zdZ M F hr hb hd hx I1 r q
end
structure FnScope (N P:Lsx)(sc:Scope):Prop where
 kind:sc.kind=.function
 co:sc.isCoroutine=false
 gen:sc.isGenerator=false
 nd:N.Nodup
 pre:N.take P.length=P
 par:∀x∈P,sc.names.lookup x=some .local\/sc.names.lookup x=some .cell
 nofree:∀y∈sc.names,y.2≠ .free
theorem WW {kindOf:Str->Option NameKind}{x:Str}:∀{binds:List (Str×Value)} {m:Mgx},(∀v,(x,v)∉binds)->bindL kindOf binds m x=m x
 | [],_,_=>rfl
 |(n,v)::r,m,h=>by
  unfold bindL;rw[WW fun w hw=>h w (xat _ hw)]
  split
  .have:x≠n:=by rintro rfl;exact h v xax
   simp[this]
  .rfl
theorem WR {kindOf:Str->Option NameKind}{x:Str}:∀{binds:List (Str×Value)} {m:Mgx},(∀v,(x,v)∉binds)->bindC kindOf binds m x=m x
 | [],_,_=>rfl
 |(n,v)::r,m,h=>by
  unfold bindC;rw[WR fun w hw=>h w (xat _ hw)]
  split
  .rfl
  .have:x≠n:=by rintro rfl;exact h v xax
   simp[this]
theorem WT {kindOf:Str->Option NameKind}{x:Str}{v:Value}:∀{P:Lsx} {vs:Lvx} {i:Nat} {m:Mgx},P.Nodup->P[i]? =some x->vs[i]? =some v->kindOf x=some .local->
  bindL kindOf (P.zip vs) m x=some v
 | [],_,_,_,_,h,_,_=>by simp at h
 |_::_,[],_,_,_,_,h,_=>by simp at h
 |p::P,w::vs,0,m,nd,h1,h2,hk=>by
  simp at h1 h2;subst h1;subst h2
  show bindL kindOf ((p,w)::P.zip vs) m p=_;unfold bindL;rw[WW fun v hv=>(xc5.mp nd).1 (xdR hv).1,xaa hk]
  simp
 |p::P,w::vs,i+1,m,nd,h1,h2,hk=>by
  show bindL kindOf ((p,w)::P.zip vs) m x=_;unfold bindL;exact WT (i:=i) (xc5.mp nd).2 (by simpa using h1) (by simpa using h2) hk
theorem WQ {kindOf:Str->Option NameKind}{x:Str}{v:Value}:∀{P:Lsx} {vs:Lvx} {i:Nat} {m:Mgx},P.Nodup->P[i]? =some x->vs[i]? =some v->kindOf x≠some .local->
  bindC kindOf (P.zip vs) m x=some v
 | [],_,_,_,_,h,_,_=>by simp at h
 |_::_,[],_,_,_,_,h,_=>by simp at h
 |p::P,w::vs,0,m,nd,h1,h2,hk=>by
  simp at h1 h2;subst h1;subst h2
  show bindC kindOf ((p,w)::P.zip vs) m p=_;unfold bindC;rw[WR fun v hv=>(xc5.mp nd).1 (xdR hv).1,xac hk]
  simp
 |p::P,w::vs,i+1,m,nd,h1,h2,hk=>by
  show bindC kindOf ((p,w)::P.zip vs) m x=_;unfold bindC;exact WQ (i:=i) (xc5.mp nd).2 (by simpa using h1) (by simpa using h2) hk
def start (N:Lsx)(vs:List V):St:=vs.map some++List.replicate (N.length-vs.length) none
def lC (CX:sJ)(P:Program)(w:World)(K:Fgx)(mg:Mgx)(base:Heap)(N:Lsx)(qual:Str)(scope:Scope)(f:Addr)(cd:Value)(A:Around)(outer:List Env)(s:Shared)(H:Hp)(E:XK):Cx where
 prog:=P
 w:=w
 K:=K
 mg:=mg
 base:=base
 A:=A.deeper (envOfC qual scope s.heap.objs.size f cd)
 N:=N
 s₀:=s
 H₀:=H
 env:=envOfC qual scope s.heap.objs.size f cd
 outer:=outer
 stack:=envOfC qual scope s.heap.objs.size f cd::outer
 ex:=[]
 calm:=true
 fn:=fun _=>true
 pn:=[]
 xe:=fun e s'=>wpAny (model P w) (A.deeper (envOfC qual scope s.heap.objs.size f cd)) (leaving (envOfC qual scope s.heap.objs.size f cd) e) (fun _ s''=>CX outer H s E e s'') (fun e' s''=>CX outer H s E e' s'') s'
def Xa {sc:Scope}{n:Nat}{x:Str}(h:sc.names.lookup x=some .cell):∃c,(cellsFrom n sc.names []).lookup x=some c:=by
 have q:=W.cellsFrom_some sc.names n [] (.inl h);exact Option.isSome_iff_exists.mp q
def zdO {CX:sJ}{P:Program}{w:World}{K:Fgx}{mg:Mgx}{base:Heap}{N ps:Lsx}{qual:Str}{scope:Scope}{f:Addr}{cd:Value}{A:Around}{outer:List Env}{s s1:Shared}{H:Hp}{E:XK}{us:Lvx}{vs:List V}
  (S:FnScope N ps scope) (hd:A.handled=none) (e0:Env0 P w K mg base A outer s H) (hl:vs.length=ps.length) (r:Vals vs us)
  (x:InCallC s s.heap.objs.size (bindL (envOfC qual scope s.heap.objs.size f cd).kindOf (ps.zip us) fun _=>none) (cellsFrom (s.heap.objs.size+1) scope.names []) (bindC (envOfC qual scope s.heap.objs.size f cd).kindOf (ps.zip us) fun _=>none) s1):
  Inv (lC CX P w K mg base N qual scope f cd A outer s H E) [] (start N vs) H s1:=by
 have hpl:ps.length<=N.length:=by have:=congrArg List.length S.pre;rw[xaw]at this;lia
 obtain⟨h1,tk,rfl,hk⟩:=x.done;have noA:∀b:Addr,b∉(lC CX P w K mg base N qual scope f cd A outer s H E).ex:=fun b z=>absurd (show b∈([]:List Addr) from z) (by simp);refine⟨⟨e0.mod,S.kind,rfl,rfl,xag _,fun y z c h1 h2=>?_,fun y hy=>?_,fun y c _ h=>?_,fun _=>hd,Around.frames_deeper e0.frames,.inr ⟨rfl,rfl⟩,fun b z=>absurd z (noA b),e0.bs,e0.bsz,fun b _ _=>noA b,fun b z=>absurd z (noA b),e0.funs,e0.frf⟩,
  rfl,e0.bare,Un.kept hk,⟨_,x.toInCall.ns,fun i y v h1 h2 h3=>?_⟩,fun y c h=>⟨_,x.cell y c h⟩,e0.hok.fresh (xag _),fun y c h=>?_,fun p hp=>absurd (show p∈([]:Pnx) from hp) (by simp),e0.hok.kept hk,?_⟩
 .exact name_of_addr x.apart (xci h1) (xci h2)
 .have hy:scope.names.lookup y=some .cell\/scope.names.lookup y=some .free:=hy;rcases hy with hy |hy
  .exact Xa hy
  .exact absurd rfl (S.nofree _ (xci hy))
 .exact xd8 (x.above y c (xci h))
 .have hi:i<vs.length:=by
   unfold start at h2
   by_cases hi:i<vs.length
   .exact hi
   .rw[xaW (by simpa using hi)]at h2;rw[xbV]at h2;split at h2<;>cases h2
  have ha:vs[i]? =some v:=by
   unfold start at h2;rw[xa5 (by simpa using hi),xau]at h2
   cases e:vs[i]? with
   |none=>rw[e]at h2;cases h2
   |some a=>rw[e]at h2;cases h2;rfl
  obtain⟨u,hu,rv⟩:=r.get ha;have hp:ps[i]? =some y:=by
   rw[<-S.pre,List.getElem?_take_of_lt (by lia)];exact h1
  have ndP:ps.Nodup:=by rw[<-S.pre];exact S.nd.sublist (List.take_sublist _ _)
  refine⟨u,rv,?_⟩;rcases S.par y (xaS hp) with k |k
  .exact .inl ⟨k,WT ndP hp hu k⟩
  .obtain⟨c,e⟩:=Xa (n:=s.heap.objs.size+1) k;refine .inr ⟨.inl k,c,e,?_⟩;have q:=x.cell y c e;rw[WQ ndP hp hu (by show scope.names.lookup y≠_;rw[k];decide)]at q;exact q
 .exact .inl (e0.hok.fresh (xd8 (x.above y c (xci h))))
 .unfold start;show _=N.length;rw[xaf,xah,xb5];lia
def Rj {CX:sJ}{P:Program}{w:World}{K:Fgx}{mg:Mgx}{base:Heap}{k:Nat}{f:Addr}{name qual:Str}{params:Arguments}{body:List Stmt}{scope:Scope}{dV kV doc pm cdv ct oc:Value}{an od:Option Addr}
  {osl:Array (Option Value)} {N ps:Lsx} {sp:Sp} (lk:K.lookup f=some ⟨oc,od,.func (W.fnOf name qual params body scope dV kV doc pm an cdv ct),osl⟩) (hcd:W.codeIn K cdv qual=true) (S:FnScope N ps scope)
  (len:∀vs H Q E,sp vs H Q E->vs.length=ps.length)
  (hbody:∀(A:Around) (outer:List Env) (s:Shared) (H:Hp) (vs:List V) (Q:VK) (E:XK),Room k (A.deeper (envOfC qual scope s.heap.objs.size f cdv))->sp vs H Q E->
   ∃t,nA (lC CX P w K mg base N qual scope f cdv A outer s H E) body t/\t {nx:=fun _ H'=>Q .non H',rt:=Q} (start N vs) H):
  FnOk P w K mg base CX (k+1) f (W.fnOf name qual params body scope dV kV doc pm an cdv ct) ps sp:=by
 refine⟨len,fun A outer s H args us vs Q E hr e0 hb r hsp=>?_⟩;have hl:=len _ _ _ _ hsp;have KX:K.In s.heap:=e0.mod.kin.keeps fun b o e=>(e0.bs b o e).1;have lim:s.heap.NoLimit:=e0.mod.nolimit.keeps fun b o e=>(e0.bs b o e).1;have hkind:∀y∈ps.zip us,scope.names.lookup y.1=some .local\/(scope.names.lookup y.1=some .cell/\((cellsFrom (s.heap.objs.size+1) scope.names []).lookup y.1).isSome=true):=fun⟨n,v⟩ hy=>by
  rcases S.par n (xdR hy).1 with q |q
  .exact .inl q
  .exact .inr ⟨q,W.cellsFrom_some _ _ _ (.inl q)⟩
 refine codeAny_call_function hr.depth (KX _ _ lk) rfl S.co S.gen rfl (W.codeRec_of KX hcd) (hb _ _ _ _ ?_);refine wpAny_newFunctionEnv_cells S.kind hkind fun env he s1 x=>?_;subst he;refine⟨lim.keeps x.toInCall.keep,codeAny_func ?_⟩;obtain⟨t,ht,hq⟩:=hbody A outer s H vs Q E (hr.deeper _) hsp;have I:Inv (lC CX P w K mg base N qual scope f cdv A outer s H E) [] (start N vs) H s1:=zdO S hr.hd e0 hl r x;refine xbc (ht [] s1 (start N vs) H _ I hq) (fun fl s' hs=>?_) fun e s' hs=>hs;have fin:∀{Z':St} {H':Hp} {v:V} {u:Value},Inv (lC CX P w K mg base N qual scope f cdv A outer s H E) [] Z' H' s'->RelV v u->Q v H'->CE outer P w H s Q u s':=
  fun {Z' H' v u} J rv q=>⟨v,H',J.os,J.bare,J.base,J.hok,rv,q⟩
 cases fl with
 |ret u=>
  obtain⟨v,Z',H',J,rv,q⟩:=hs;exact fin J rv q
 |next=>
  obtain⟨Z',H',J,q⟩:=hs;exact fin (v:=V.non) (u:=Value.none) J rfl q
 |brk=>
  obtain⟨_,_,_,q⟩:=hs;exact False.elim q
 |cont=>
  obtain⟨_,_,_,q⟩:=hs;exact False.elim q
section
variable {X:Cx}{x:Str}{p pos:Pos}{e:Expr}{es:Lex}{t:TA}{id T:String}{r:List V->Hp->VK->Prop}
def Vu (r:List V->Hp->VK->Prop)(t:TA):TE:=fun Z H Q=>t Z H fun vs H1=>r vs H1 Q
def zb9 (hc:nP X (.builtin id) r)(hg:Gl X x)(hm:X.mg x=none)(hv:bootBuiltins x=some (.builtin id))(ha:PA X (e::es) t)(hn:x≠"__name__":=by decide)(hdb:(x==("__debug__":Str))=false:=by decide)
  (he:starEach (e::es) X.env=(false,eval e X.env)::starEach es X.env:=by rfl) (hpl:(backTo pos (starEach es X.env)).any (·.1)=false:=by rfl):PE X (.Call (.Name x p) (e::es) [] pos) (Vu r t):=by
 fen_go;refine xbL (D_ I hg hm hv ?_ hn hdb);exact xc6 (aW (ha pos pins s Z H _ I h) fun us s1 ⟨vs,H1,I1,r1,q1⟩=>hc pins s1 Z H1 vs us Q I1 r1 q1) he hpl
def TF (hc:nP X (.type T) r)(hg:Gl X x)(hm:X.mg x=none)(hv:bootBuiltins x=some (.type T))(ha:PA X (e::es) t)(hn:x≠"__name__":=by decide)(hdb:(x==("__debug__":Str))=false:=by decide)
  (he:starEach (e::es) X.env=(false,eval e X.env)::starEach es X.env:=by rfl) (hpl:(backTo pos (starEach es X.env)).any (·.1)=false:=by rfl):PE X (.Call (.Name x p) (e::es) [] pos) (Vu r t):=by
 fen_go;refine xbL (D_ I hg hm hv ?_ hn hdb);exact xb1 (aW (ha pos pins s Z H _ I h) fun us s1 ⟨vs,H1,I1,r1,q1⟩=>hc pins s1 Z H1 vs us Q I1 r1 q1) he hpl
end
end L2
namespace HT
open PySem PyProof.Rows
section
open PySem.SeqAt
open PySem.AutoSeq1 (wpAny_loadPart')
open PySem.MeetsSeq PySem.MeetsSeq2 PySem.MeetsSeq3
end
section
variable {prog:Program}{w:World}{A:Around}{E:Vsp}{s:Shared}
def zfA (ht:IsTup s.heap t vs.toArray)(hb:IsTup s.heap b ws.toArray)(hv:vs≠ [])
  (h1:ws=[]->Q (.ref t) s) (h2:ws≠ []->Q (.ref s.heap.objs.size) {s with heap:=s.heap.push {cls:=.type "tuple",data:=.seq (vs++ws).toArray}})
  (hsz:vs.length+ws.length<=sizeLine):wpAny (model prog w) A (binaryOp .Add (.ref t) (.ref b)) Q E s:=by
 obtain⟨⟨cls,dd,data,sl⟩,ho,hc,n,hd⟩:=id ht;obtain⟨⟨cls2,dd2,data2,sl2⟩,ho2,hc2,n2,hd2⟩:=id hb;simp only at hc hd hc2 hd2;subst hc hd hc2 hd2;have e:vs.toArray++ws.toArray=(vs++ws).toArray:=by simp
 by_cases hw:ws=[]
 .exact concat_meets ⟨_,ho,rfl⟩ ⟨_,ho2,rfl⟩ noFill_tuple_add seq_tuple_add F.slot_tuple_add F.entry_tuple_add (F.args_tuple_add_2 _ _)
   (tuple_addW1 t b vs.toArray ws.toArray n n2 dd dd2 sl sl2 (by simpa using hv) (by simp[hw])) ⟨ho,ho2,h1 hw⟩
 .refine concat_meets ⟨_,ho,rfl⟩ ⟨_,ho2,rfl⟩ noFill_tuple_add seq_tuple_add F.slot_tuple_add F.entry_tuple_add (F.args_tuple_add_2 _ _)
   (tuple_addW2 t b vs.toArray ws.toArray n n2 dd dd2 sl sl2 (by simpa using hv) (by simpa using hw) (by rw[xal,xal];exact hsz)) ⟨ho,ho2,?_⟩
  rw[e];exact h2 hw
noncomputable def fH (n d:Nat):Oix->Nat
 |none=>d
 |some v=>if v<0 then(v+(n:Int)).toNat else min v.toNat n
theorem zcf (n d:Nat):fH n d none=d:=rfl
def Mu (n d k:Nat):fH n d (some (k:Int))=min k n:=by
 show(if (k:Int)<0 then((k:Int)+(n:Int)).toNat else min (k:Int).toNat n)=min k n
 rw[xac (by lia),xbu]
def zhJ (n d:Nat)(hd:d<=n)(o:Oix):fH n d o<=n:=by
 cases o with
 |none=>exact hd
 |some v=>
  show(if v<0 then(v+(n:Int)).toNat else min v.toNat n)<=n
  by_cases hv:v<0
  .rw[xaa hv];lia
  .rw[xac hv];exact xdH _ _
def Xe (v:Int)(n d:Nat):(if v<0 then max (v+(n:Int)) 0 else min v (n:Int))=((fH n d (some v):Nat):Int):=by
 show(if v<0 then max (v+(n:Int)) 0 else min v (n:Int))=(((if v<0 then(v+(n:Int)).toNat else min v.toNat n):Nat):Int)
 by_cases hv:v<0
 .simp only[xaa hv];lia
 .simp only[xac hv];lia
def zcK (lo hi:Oix)(n:Nat):Builtin.Slice.sliceAdjust lo hi 1 (n:Int)=(((fH n 0 lo:Nat):Int),((fH n n hi:Nat):Int)):=by
 have h1:¬ ((1:Int)<0):=by lia
 unfold Builtin.Slice.sliceAdjust;simp only[h1,xdI];refine Prod.ext ?_ ?_
 .cases lo with
  |none=>rfl
  |some v=>exact Xe v n 0
 .cases hi with
  |none=>rfl
  |some v=>exact Xe v n n
def zcH (i j:Nat):Builtin.Slice.slicePlaces (i:Int) (j:Int) 1=j-i:=by
 unfold Builtin.Slice.slicePlaces;have h1:(1:Int) > 0:=by lia
 simp only[h1,xa8,Int.ediv_one]
 split<;>lia
def za4 (p:IsPart v o)(h:Q o s):wpAny (model prog w) A (Builtin.Slice.slicePartIndex v) Q E s:=by
 cases p with
 |none=>exact slicePart_none h
 |int i t=>exact slicePart_int h
def zaK {sl:Addr}{vl vu:Value}{lo hi:Oix}{n:Nat}{Q:Int×Int×Nat->Shared->Prop}(hs:s.heap.IsSliceOf sl vl vu .none)(pl:IsPart vl lo)(pu:IsPart vu hi)
  (h:Q (((fH n 0 lo:Nat):Int),1,fH n n hi-fH n 0 lo) s):wpAny (model prog w) A (Builtin.Slice.sliceApplied (.ref sl) (pure (n:Int))) Q E s:=by
 obtain⟨os,hos,hcs,hds⟩:=id hs;unfold Builtin.Slice.sliceApplied Builtin.Slice.sliceFields;refine xab (xab (xbs hos hds (x:=vl) rfl (xab (xbs hos hds (x:=vu) rfl (xab (xbs hos hds (x:=.none) rfl (xan ?_)))))));refine xab (slicePart_none ?_);show wpAny _ _ (if ((1:Int)==0)=true then _ else _) _ _ s
 rw[xac (by decide)];refine xab (za4 pl (xab (za4 pu (xab (xan ?_)))));show wpAny _ _ (match Builtin.Slice.sliceAdjust lo hi 1 (n:Int) with |(lo,hi)=>pure (lo,(1:Int),Builtin.Slice.slicePlaces lo hi 1)) _ _ s
 rw[zcK lo hi n];show wpAny _ _ (pure (((fH n 0 lo:Nat):Int),(1:Int),Builtin.Slice.slicePlaces ((fH n 0 lo:Nat):Int) ((fH n n hi:Nat):Int) 1)) _ _ s;rw[zcH];exact xan h
def zex (xs:Avx)(i k:Nat):((List.range k).filterMap fun(m:Nat)=>xs[((i:Int)+(m:Int)*1).toNat]?).toArray=((xs.toList.drop i).take k).toArray:=by
 have e:(fun(m:Nat)=>xs[((i:Int)+(m:Int)*1).toNat]?)=fun m=>xs[i+m]? :=by
  funext m;have:((i:Int)+(m:Int)*1).toNat=i+m:=by lia
  rw[this]
 rw[e];have:=pick_run xs i k;rw[List.filterMap_map]at this;have e2:((fun x=>xs[x]?) ∘ fun x=>i+x)=fun m=>xs[i+m]? :=rfl;rw[e2]at this;rw[this]
def zaz {t sl:Addr}{items:Avx}{vl vu:Value}{lo hi:Oix}{Q:Vsp}(ht:IsTup s.heap t items)(hs:s.heap.IsSliceOf sl vl vu .none)(pl:IsPart vl lo)(pu:IsPart vu hi)
  (hw:¬ (fH items.size 0 lo=0/\fH items.size items.size hi=items.size))
  (h:Q (.ref s.heap.objs.size) {s with heap:=s.heap.push {cls:=.type "tuple",data:=.seq ((items.toList.drop (fH items.size 0 lo)).take (fH items.size items.size hi-fH items.size 0 lo)).toArray}})
  (hsz:items.size<=sizeLine):wpAny (model prog w) A (getItem (.ref t) (.ref sl)) Q E s:=by
 have htake:sizeOk (.seq ((items.toList.drop (fH items.size 0 lo)).take (fH items.size items.size hi-fH items.size 0 lo)).toArray):=by
  show((items.toList.drop (fH items.size 0 lo)).take (fH items.size items.size hi-fH items.size 0 lo)).toArray.size<=sizeLine;rw[xal,xaw,xaU,xch];lia
 have hj:fH items.size items.size hi<=items.size:=zhJ _ _ (xag _) hi;obtain⟨os,hos,hcs,hds⟩:=id hs;have hTs:s.TypeIs (.ref sl) "slice":=⟨os,hos,hcs⟩;unfold getItem
 try with_reducible refine xbU ?_
 first |refine xab (xan ?_) |skip
 refine xab (wpAny_sequenceKey ht.typeIs (by decide) ?_);refine xab (xcL (name:=Str.ofString "__getitem__") ht.typeIs xck
  (xcT xck ht.typeIs entry_tuple_getitem ?_ (args_tuple_getitem _ _)))
 show wpAny _ _ (Builtin.Tuple.tupleItemsOf (.ref t) >>=_) _ _ s;refine xab (tupleItemsOf_ ht ?_);refine xab (xc7 hTs ?_);rw[xaa (by decide)];refine xab (zaK hs pl pu ?_);have hno:¬ ((((fH items.size 0 lo:Nat):Int)==0&&(1:Int)==1&&(fH items.size items.size hi-fH items.size 0 lo)==items.size)=true):=by
  intro q;rw[xak,xak]at q;have q1:((fH items.size 0 lo:Nat):Int)=0:=eq_of_beq q.1.1;have q2:fH items.size items.size hi-fH items.size 0 lo=items.size:=eq_of_beq q.2;exact hw ⟨by lia,by lia⟩
 show wpAny _ _ (if (((fH items.size 0 lo:Nat):Int)==0&&(1:Int)==1&&(fH items.size items.size hi-fH items.size 0 lo)==items.size)=true then _ else _) _ _ s
 rw[xac hno,zex]
 first
  |exact xab (m:=Builtin.Tuple.tupleExact _) (xbb (xan ⟨_,rfl,xan h⟩) htake)
  |exact xab (m:=Builtin.Tuple.tupleExact _) (xbb (xab (xan (xan ⟨_,rfl,xan h⟩))) htake)
  |exact xab (xab (m:=Builtin.Tuple.tupleExact _) (xbb (xan (xan ⟨_,rfl,xan h⟩)) htake))
  |exact xab (xab (m:=Builtin.Tuple.tupleExact _) (xbb (xan ⟨_,rfl,xan h⟩) htake))
end
end HT
namespace L2
abbrev TO:=St->Hp->(Oix->Hp->Prop)->Prop
def PO (X:Cx)(e:Option Expr)(t:TO):Prop:=
 ∀(pins:Pnx) (s:Shared) (Z:St) (H:Hp) (Q:Oix->Hp->Prop),Inv X pins Z H s->t Z H Q->
  wpAny (model X.prog X.w) X.A (evalPart e X.env) (fun u s'=>∃o H',Inv X pins Z H' s'/\IsPart u o/\Q o H') X.xe s
def zge:TO:=fun _ H Q=>Q none H
def zkI (t:TE):TO:=fun Z H Q=>t Z H fun x H1=>∃i,x=.int i/\Q (some i) H1
section
variable {X:Cx}{e:Expr}{te:TE}{lo hi:Option Expr}{tl th:TO}{pos p2:Pos}
def zfJ:PO X none zge:=by
 fen_go;rw[evalPart_none];exact xan ⟨none,H,I,.none,h⟩
def zfr (h:PE X e te):PO X (some e) (zkI te):=by
 intro pins s Z H Q I hw;rw[evalPart_some];refine aW (h pins s Z H _ I hw) fun u s1 ⟨x,H1,I1,r1,q1⟩=>?_;obtain⟨i,rfl,q⟩:=q1;obtain⟨t,rfl⟩:=r1;exact⟨some i,H1,I1,.int i t,q⟩
def zX (X:Cx)(r:V->Oix->Oix->Hp->VK->Prop):Prop:=
 ∀(pins:Pnx) (s:Shared) (Z:St) (H:Hp) (x:V) (v vl vu:Value) (lo hi:Oix) (sl:Addr) (Q:VK),Inv X pins Z H s->RelV x v->s.heap.IsSliceOf sl vl vu .none->IsPart vl lo->IsPart vu hi->r x lo hi H Q->
  ∃T id,typeLookup (.type T) "__getitem__"=pure (some (.builtin id))/\s.TypeIs v T/\wpAny (model X.prog X.w) X.A (getItem v (.ref sl)) (EP X pins Z Q) X.xe s
def zX.or (h:zX X r)(h':zX X r'):zX X (fun x lo hi H Q=>r x lo hi H Q\/r' x lo hi H Q):=by
 intro pins s Z H x v vl vu lo hi sl Q I rx hs pl pu q;rcases q with q |q
 .exact h pins s Z H x v vl vu lo hi sl Q I rx hs pl pu q
 .exact h' pins s Z H x v vl vu lo hi sl Q I rx hs pl pu q
def tSl (r:V->Oix->Oix->Hp->VK->Prop)(te:TE)(tl th:TO):TE:=fun Z H Q=>te Z H fun x H1=>tl Z H1 fun l H2=>th Z H2 fun u H3=>r x l u H3 Q
def zbY (hr:zX X r)(he:PE X e te)(hl:PO X lo tl)(hu:PO X hi th):PE X (.Subscript e (.Slice lo hi none p2) pos) (tSl r te tl th):=by
 fen_go;refine Subscript_ (aW (he pins s Z H _ I h) fun v s1 ⟨x,H1,I1,r1,q1⟩=>?_);refine wpAny_Slice (aW (hl pins s1 Z H1 _ I1 q1) fun vl s2 ⟨l,H2,I2,pl,q2⟩=>aW (hu pins s2 Z H2 _ I2 q2) fun vu s3 ⟨u,H3,I3,pu,q3⟩=>?_);rw[evalPart_none];refine xan ?_;have I4:Inv X pins Z H3 {s3 with heap:=s3.heap.push {cls:=.type "slice",data:=.fields #[vl,vu,.none]}}:=I3.kept (t':=s3.toks) fun b ob q=>xad _ q;obtain⟨T,id,hT,ht,hg⟩:=hr pins {s3 with heap:=s3.heap.push {cls:=.type "slice",data:=.fields #[vl,vu,.none]}} Z H3 x v vl vu l u s3.heap.objs.size Q I4 r1 (Heap.IsSliceOf.new ..) pl pu q3;show wpAny (model X.prog X.w) X.A (subscriptTail e (.Slice lo hi none p2) v (.ref s3.heap.objs.size)) (EP X pins Z Q) X.xe {s3 with heap:=s3.heap.push {cls:=.type "slice",data:=.fields #[vl,vu,.none]}};exact tail_any (ops:=[.ref s3.heap.objs.size,v]) ht hT hg (by with_unfolding_all rfl)
def pQ (xs:List V)(lo hi:Oix):List V:=(xs.drop (HT.fH xs.length 0 lo)).take (HT.fH xs.length xs.length hi-HT.fH xs.length 0 lo)
def Xl (xs:List V)(lo hi:Oix):(pQ xs lo hi).length<=xs.length:=by
 unfold pQ;rw[xaw,xaU];lia
def Ur (K:Fgx):V->Oix->Oix->Hp->VK->Prop:=fun x lo hi H Q=>∃a xs,x=.ref a/\gO K H a xs/\
 ¬ (HT.fH xs.length 0 lo=0/\HT.fH xs.length xs.length hi=xs.length)/\∀p,H p=none->Q (.ref p) (upd H p (.tup (pQ xs lo hi)))
def zio:zX X (Ur X.K):=by
 intro pins s Z H x v vl vu lo hi sl Q I rx hs pl pu h;obtain⟨a,xs,rfl,hx,hw,q⟩:=h;cases rx;obtain⟨its,r,ht,hz⟩:=I.tuple hx;have hlen:its.toArray.size=xs.length:=by rw[xal];exact r.length.symm
 refine⟨"tuple",_,xck.lookup,ht.typeIs,?_⟩;refine HT.zaz ht hs pl pu (by rw[hlen];exact hw) ?_ (by rw[hlen];exact hz);rw[hlen];refine⟨.ref s.heap.objs.size,_,I.laid (t':=s.toks) (o:=.tup (pQ xs lo hi)) (fun b ob q=>xad _ q) (xag _) ?_,rfl,q _ (I.hok.fresh (xag _))⟩;exact⟨xaN (Xl xs lo hi) hz,_,(r.drop (HT.fH xs.length 0 lo)).take (HT.fH xs.length xs.length hi-HT.fH xs.length 0 lo),IsTup.new _ _⟩
def zhV (K:Fgx):R2:=fun x y H Q=>∃a b xs ys,x=.ref a/\y=.ref b/\gO K H a xs/\gO K H b ys/\xs≠ []/\xs.length+ys.length<=sizeLine/\
 (ys=[]->Q (.ref a) H)/\(ys≠ []->∀p,H p=none->Q (.ref p) (upd H p (.tup (xs++ys))))
def Vals.nil_iff (r:Vals xs us):us=[] ↔ xs=[]:=by
 cases r with
 |nil=>simp
 |cons _ _=>simp
def Tz:gj X (binaryOp .Add) (zhV X.K):=by
 w_why;obtain⟨a,b,xs,ys,rfl,rfl,ha,hb,hx,hz,q1,q2⟩:=h;cases rx;cases ry;obtain⟨its,r1,p1,_⟩:=I.tuple ha;obtain⟨its2,r2,p2,_⟩:=I.tuple hb;refine HT.zfA p1 p2 (fun z=>hx (r1.nil_iff.mp z)) (fun z=>⟨.ref a,H,I,rfl,q1 (r2.nil_iff.mp z)⟩) (fun z=>?_) (by rw[<-r1.length, <-r2.length];exact hz);refine⟨.ref s.heap.objs.size,_,I.laid (t':=s.toks) (o:=.tup (xs++ys)) (fun b ob q=>xad _ q) (xag _) ?_,rfl,q2 (fun w=>z (r2.nil_iff.mpr w)) _ (I.hok.fresh (xag _))⟩;exact⟨by rw[xaf];exact hz,_,r1.append r2,IsTup.new _ _⟩
end
noncomputable def wA (n:Nat) (i:Int):Option Nat:=if 0<=i then(if i<n then some i.toNat else none) else if -(n:Int)<=i then some (i+n).toNat else none
def aV {α:Type}(xs:List α)(i:Int):Option α:=(wA xs.length i).bind fun j=>xs[j]?
def YC (h:wA n i=some j):seqIndex? i n=some j/\j<n/\ -(n:Int)<=i/\i<n:=by
 unfold wA at h
 by_cases h0:0<=i
 .rw[xaa h0]at h
  by_cases h1:i<n
  .rw[xaa h1]at h;have e:i.toNat=j:=xaE h;exact⟨by rw[xdT h0 h1,e],by lia,by lia,h1⟩
  .rw[xac h1]at h;cases h
 .rw[xac h0]at h
  by_cases h1: -(n:Int)<=i
  .rw[xaa h1]at h;have e:(i+n).toNat=j:=xaE h;exact⟨by rw[seqIndex_neg (by lia) h1,e],by lia,h1,by lia⟩
  .rw[xac h1]at h;cases h
def Pq (h:aV xs i=some v):∃j,seqIndex? i xs.length=some j/\xs[j]? =some v/\j<xs.length/\ -(xs.length:Int)<=i/\i<xs.length:=by
 unfold aV at h
 cases e:wA xs.length i with
 |none=>rw[e]at h;cases h
 |some j=>
  rw[e]at h;obtain⟨h1,h2,h3,h4⟩:=YC e;exact⟨j,h1,h,h2,h3,h4⟩
def i_ {α:Type}{xs:List α}{j:Nat}{v:α}(h:xs[j]? =some v):aV xs (j:Int)=some v:=by
 have hj:j<xs.length:=(xao.mp h).1;have e:wA xs.length (j:Int)=some j:=by
  unfold wA;rw[xaa (by lia),xaa (by lia)];simp
 unfold aV;rw[e];exact h
def Pb (b:Expr):Prop:=∀o i,subscripted b false o i=operate [o,i] (getItem o i)
def yc (X:Cx)(r:R2):Prop:=
 ∀(value slice:Expr) (pins:Pnx) (s:Shared) (Z:St) (H:Hp) (x y:V) (v u:Value) (Q:VK),Inv X pins Z H s->RelV x v->RelV y u->r x y H Q->
  subscripted slice false v u=operate [v,u] (getItem v u)->wpAny (model X.prog X.w) X.A (subscriptTail value slice v u) (EP X pins Z Q) X.xe s
def zW (X:Cx)(id:String)(r:V->List V->Hp->VK->Prop):Prop:=
 ∀(pins:Pnx) (s:Shared) (Z:St) (H:Hp) (x:V) (xs:List V) (v:Value) (us:Lvx) (Q:VK),Inv X pins Z H s->RelV x v->Vals xs us->r x xs H Q->
  wpAny (model X.prog X.w) X.A (call (.builtin id) (v::us)) (EP X pins Z Q) X.xe s
section
variable {X:Cx}{a b:Expr}{ta tb:TE}{pos:Pos}
def yc.or (h:yc X r)(h':yc X r'):yc X (fun x y H Q=>r x y H Q\/r' x y H Q):=by
 intro value slice pins s Z H x y v u Q I rx ry q hs;rcases q with q |q
 .exact h value slice pins s Z H x y v u Q I rx ry q hs
 .exact h' value slice pins s Z H x y v u Q I rx ry q hs
def zlF (hr:yc X r)(ha:PE X a ta)(hb:PE X b tb)(hs:Pb b):PE X (.Subscript a b pos) (Jy r ta tb):=by
 fen_go;exact Subscript_ (Bo ha hb I h fun v u s2 x y H2 I2 rx ry q=>hr a b pins s2 Z H2 x y v u Q I2 rx ry q (hs _ _))
def Cu (K:Fgx):R2:=fun x y H Q=>∃p xs i v,x=.ref p/\y=.int i/\gn K H p xs/\aV xs i=some v/\Q v H
def Cy (K:Fgx):R2:=fun x y H Q=>∃p xs i v,x=.ref p/\y=.int i/\gO K H p xs/\aV xs i=some v/\Q v H
def Cw:R2:=fun x y H Q=>∃z i c,x=.str z/\y=.int i/\z.length<=sizeLine/\aV z.cps.toList i=some c/\Q (.str ⟨#[c]⟩) H
def zfP:yc X (Cu X.K):=by
 intro value slice pins s Z H x y v u Q I rx ry h hs;obtain⟨p,xs,i,z,rfl,rfl,hq,he,q⟩:=h;cases rx;obtain⟨t,rfl⟩:=ry;obtain⟨its,r,pl,hz⟩:=I.list hq;obtain⟨j,h1,h2,h3,h4,h5⟩:=Pq he;obtain⟨w,ew,rw'⟩:=r.get h2;have hl:=r.length;have hn:=zx;have fin:EP X pins Z Q w s:=⟨z,H,I,rw',q⟩
 by_cases h0:0<=i
 .have hj:i.toNat=j:=by
   rw[xdT h0 h5]at h1;exact xaE h1
  exact item_listR pl.isList h0 (by lia) (by rw[hj];simpa using ew) fin hs
 .have hj:(i+(its.toArray.size:Int)).toNat=j:=by
   rw[seqIndex_neg (by lia) h4]at h1;rw[xal, <-hl];exact xaE h1
  exact subscriptTail_builtinR (x:=w) pl.isList.typeIs slot_list_getitem.lookup
   (wpAny_getItem_list_neg (Q:=fun r s'=>r=w/\EP X pins Z Q r s') pl.isList (by lia) (by rw[xal]<;>lia) (by lia) (by rw[hj];simpa using ew) ⟨rfl,fin⟩) hs
def zhO:yc X (Cy X.K):=by
 intro value slice pins s Z H x y v u Q I rx ry h hs;obtain⟨p,xs,i,z,rfl,rfl,hq,he,q⟩:=h;cases rx;obtain⟨t,rfl⟩:=ry;obtain⟨its,r,pl,hz⟩:=I.tuple hq;obtain⟨j,h1,h2,h3,h4,h5⟩:=Pq he;obtain⟨w,ew,rw'⟩:=r.get h2;have hl:=r.length;have hn:=zx;have fin:EP X pins Z Q w s:=⟨z,H,I,rw',q⟩;exact subscriptTail_builtinR (x:=w) pl.typeIs xdp.lookup
  (getItem_tuple (j:=j) (Q:=fun r s'=>r=w/\EP X pins Z Q r s') pl (by lia) (by lia) (by rw[xal, <-hl];exact h1) (by simpa using ew) ⟨rfl,fin⟩) hs
def zhu:yc X Cw:=by
 intro value slice pins s Z H x y v u Q I rx ry h hs;obtain⟨z,i,c,rfl,rfl,hz,he,q⟩:=h;k_acc1;obtain⟨t',rfl⟩:=ry;obtain⟨j,h1,h2,h3,h4,h5⟩:=Pq he;have hl:z.cps.toList.length=z.length:=by simp[Str.length]
 rw[hl]at h1 h4 h5;have hn:=zx;exact tail_any (typeIs_str s z t) slot_str_getitem.lookup (getItem_str (c:=c) (by
  have e1:decide (i< -(2^63:Int))=false:=xas (by lia);have e2:decide (i >=2^63)=false:=xas (by lia);rw[e1,e2,xdv]) (by rw[h1];simpa using h2) ⟨.str ⟨#[c]⟩,H,I.tok _,⟨_,rfl⟩,q⟩) hs
def Uk (K:Fgx):R2:=fun x y H Q=>Cu K x y H Q\/Cy K x y H Q\/Cw x y H Q
def zcJ (its:Lvx)(n j:Nat)(u:Value):Obj.mapSeq (·.setIfInBounds j u) {cls:=.type "list",data:=.seq its.toArray n}={cls:=.type "list",data:=.seq (its.set j u).toArray n}:=by
 simp[Obj.mapSeq]
theorem Inv.lst (I:Inv X pins Z H s)(h:H p=some (.lst xs)):
  ∃(its:Lvx) (n:Nat),Vals xs its/\s.heap.get? p=some {cls:=.type "list",data:=.seq its.toArray n}/\xs.length<=sizeLine:=by
 obtain⟨z,its,n,r,e⟩:=I.hok p _ h;exact⟨its,n,r,e,z⟩
def Inv.lstUpd {pins:Pnx}{Z:St}{H:Hp}{s:Shared}{p:Addr}{xs ys:List V}{its its':Lvx}{n n':Nat}{f:Obj->Obj}(I:Inv X pins Z H s)(h:H p=some (.lst xs))
  (ho:s.heap.get? p=some {cls:=.type "list",data:=.seq its.toArray n}) (hf:f {cls:=.type "list",data:=.seq its.toArray n}={cls:=.type "list",data:=.seq its'.toArray n'}) (r:Vals ys its') (hz:ys.length<=sizeLine) (t:Nat):
  Inv X pins Z (upd H p (.lst ys)) {s with heap:=s.heap.update p f,toks:=t}:=by
 have e:(s.heap.update p f).get? p=some {cls:=.type "list",data:=.seq its'.toArray n'}:=by
  rw[xbe f ho (by rw[hf]<;>rfl),hf]
 refine I.write (x:=p) (e:=p) (by rw[h];trivial) (.inl rfl) (fun b u hb q=>(xa0 _ _ (xbw hb)).trans q) ⟨_,e⟩ ?_;exact⟨hz,its',n',r,e⟩
def zkT:V->V->V->Hp->(Hp->Prop)->Prop:=fun o i v H Q=>∃p xs k j,o=.ref p/\i=.int k/\H p=some (.lst xs)/\wA xs.length k=some j/\Q (upd H p (.lst (xs.set j v)))
def set_list:FN X zkT:=by
 intro pins s Z H o i v ov iv u Q I ro ri rv h;obtain⟨p,xs,k,j,rfl,rfl,hp,hj,q⟩:=h;cases ro;obtain⟨t,rfl⟩:=ri;obtain⟨its,n,r,ho,hz⟩:=I.lst hp;obtain⟨h1,h2,h3,h4⟩:=YC hj;have hl:=r.length;have hn:=zx;have I':Inv X pins Z (upd H p (.lst (xs.set j v))) {s with heap:=s.heap.update p (Obj.mapSeq (·.setIfInBounds j u))}:=
  I.lstUpd hp ho (zcJ its n j u) (r.set rv j) (by rw[xaO];exact hz) s.toks
 by_cases h0:0<=k
 .have hk:k.toNat=j:=by
   rw[xdT h0 h4]at h1;exact xaE h1
  exact W.ki_setAt ho h0 (by lia) (by rw[xal, <-hl];exact h4) (by rw[hk];exact⟨_,I',q⟩)
 .have hk:(k+(its.toArray.size:Int)).toNat=j:=by
   rw[seqIndex_neg (by lia) h3]at h1;rw[xal, <-hl];exact xaE h1
  exact W.ki_setBack ho (by lia) (by rw[xal, <-hl];exact h3) (by lia) (by rw[hk];exact⟨_,I',q⟩)
def zbz (lo hi:Oix)(n:Nat):(sliceBounds lo hi none n).1=((HT.fH n 0 lo:Nat):Int)/\(sliceBounds lo hi none n).2.1=((HT.fH n n hi:Nat):Int)/\(sliceBounds lo hi none n).2.2=1:=by
 refine⟨?_,?_,rfl⟩
 .cases lo with
  |none=>simp[sliceBounds,HT.fH]
  |some i=>
   simp only[sliceBounds,HT.fH,Option.getD_none,show(1:Int) > 0 by decide,xa8]
   by_cases h:i<0
   .simp only[h,xa8]<;>lia
   .simp only[h,xdI]<;>lia
 .cases hi with
  |none=>simp[sliceBounds,HT.fH]
  |some i=>
   simp only[sliceBounds,HT.fH,Option.getD_none,show(1:Int) > 0 by decide,xa8]
   by_cases h:i<0
   .simp only[h,xa8]<;>lia
   .simp only[h,xdI]<;>lia
theorem zbc (its:Lvx)(lo hi:Oix):slicePick its.toArray lo hi none=((its.drop (HT.fH its.length 0 lo)).take (HT.fH its.length its.length hi-HT.fH its.length 0 lo)).toArray:=by
 obtain⟨h1,h2,h3⟩:=zbz lo hi its.toArray.size;unfold slicePick;rw[h1,h2,h3];simp only[sliceRange_one,pick_run,xal]<;>rfl
def Uo (K:Fgx):V->Oix->Oix->Hp->VK->Prop:=fun x lo hi H Q=>∃a xs,x=.ref a/\gn K H a xs/\∀p,H p=none->Q (.ref p) (upd H p (.lst (pQ xs lo hi)))
def zgp:zX X (Uo X.K):=by
 intro pins s Z H x v vl vu lo hi sl Q I rx hs pl pu h;obtain⟨a,xs,rfl,hx,q⟩:=h;cases rx;obtain⟨its,r,ht,hz⟩:=I.list hx;have hlen:=r.length;refine⟨"list",_,slot_list_getitem.lookup,ht.isList.typeIs,?_⟩;refine wpAny_getItem_list_slice ht.isList hs pl pu .none (by simp) ?_ (by rw[xal]<;>lia)
 rw[zbc, <-hlen];refine⟨.ref s.heap.objs.size,_,I.laid (t':=s.toks) (o:=.lst (pQ xs lo hi)) (fun b ob q=>xad _ q) (xag _) ?_,rfl,q _ (I.hok.fresh (xag _))⟩;exact⟨xaN (Xl xs lo hi) hz,_,0,(r.drop (HT.fH xs.length 0 lo)).take (HT.fH xs.length xs.length hi-HT.fH xs.length 0 lo),xaJ _ rfl⟩
noncomputable def yr:V->Bool
 |.non=>true
 |.bl _=>true
 |.int _=>true
 |.str _=>true
 |_=>false
noncomputable def yX:V->V->Bool
 |.non,.non=>true
 |.bl a,.bl b=>a==b
 |.bl a,.int b=>(if a then 1 else 0)==b
 |.int a,.bl b=>a==(if b then 1 else 0)
 |.int a,.int b=>a==b
 |.str a,.str b=>a==b
 |_,_=>false
def zin (ry:RelV y u)(rx:RelV x v)(fy:yr y=true)(fx:yr x=true):SeqAt.EqAt A s u v (yX y x):=by
 cases y with
 |non=>
  cases ry
  cases x with
  |non=>cases rx;exact xc8 _
  |bl b=>cases rx;exact SeqAt.EqAt.none_bool b
  |int b=>obtain⟨t,rfl⟩:=rx;exact SeqAt.EqAt.none_int b t
  |str b=>obtain⟨t,rfl⟩:=rx;exact SeqAt.EqAt.none_str b t
  |_=>exact absurd (show false=true from fx) xaF
 |bl a=>
  cases ry
  cases x with
  |non=>cases rx;exact SeqAt.EqAt.bool_none a
  |bl b=>cases rx;exact SeqAt.EqAt.bool_bool a b
  |int b=>obtain⟨t,rfl⟩:=rx;exact SeqAt.EqAt.bool_int a b t
  |str b=>obtain⟨t,rfl⟩:=rx;exact SeqAt.EqAt.bool_str a b t
  |_=>exact absurd (show false=true from fx) xaF
 |int a=>
  obtain⟨t',rfl⟩:=ry
  cases x with
  |non=>cases rx;exact SeqAt.EqAt.int_none a t'
  |bl b=>cases rx;exact SeqAt.EqAt.int_bool a t' b
  |int b=>obtain⟨t,rfl⟩:=rx;exact SeqAt.EqAt.int_int a t' b t
  |str b=>obtain⟨t,rfl⟩:=rx;exact xdl a t' b t
  |_=>exact absurd (show false=true from fx) xaF
 |str a=>
  obtain⟨t',rfl⟩:=ry
  cases x with
  |non=>cases rx;exact SeqAt.EqAt.str_none a t'
  |bl b=>cases rx;exact SeqAt.EqAt.str_bool a t' b
  |int b=>obtain⟨t,rfl⟩:=rx;exact xdm a t' b t
  |str b=>obtain⟨t,rfl⟩:=rx;exact SeqAt.EqAt.str_str a t' b t
  |_=>exact absurd (show false=true from fx) xaF
 |_=>exact absurd (show false=true from fy) xaF
def sV (x:V)(u:Value):Bool:=match u with
 |.none=>yX .non x
 |.bool b=>yX (.bl b) x
 |.int i _=>yX (.int i) x
 |.str z _=>yX (.str z) x
 |_=>false
def XS (r:RelV y u)(f:yr y=true):sV x u=yX y x:=by
 cases y with
 |non=>cases r;rfl
 |bl b=>cases r;rfl
 |int i=>obtain⟨t,rfl⟩:=r;rfl
 |str z=>obtain⟨t,rfl⟩:=r;rfl
 |_=>exact absurd (show false=true from f) xaF
theorem FW:∀{xs:List V} {us:Lvx},Vals xs us->xs.all yr=true->us.any (sV x)=xs.any fun y=>yX y x
 |_,_,.nil,_=>rfl
 |y::xs,u::us,.cons r t,f=>by
  rw[xbF,xak]at f;rw[xbn,xbn,XS r f.1,FW t f.2]
theorem HJ (rx:RelV x v)(fx:yr x=true):∀{xs:List V} {us:Lvx},Vals xs us->xs.all yr=true->∀u∈us,SeqAt.EqAt A s u v (sV x u)
 |_,_,.nil,_=>fun u hu=>by cases hu
 |y::xs,u::us,.cons r t,f=>fun u' hu=>by
  rw[xbF,xak]at f;rcases xaz.mp hu with rfl |hu
  .rw[XS r f.1];exact zin r rx f.1 fx
  .exact HJ rx fx t f.2 u' hu
def inV (x:V)(xs:List V):Bool:=xs.any fun y=>yX y x
def Ms (K:Fgx)(neg:Bool):R2:=fun x y H Q=>∃p xs,y=.ref p/\(gn K H p xs\/gO K H p xs)/\yr x=true/\xs.all yr=true/\Q (.bl (if neg then !inV x xs else inV x xs)) H
def zdz:gj X (compareOp .In) (Ms X.K false):=by
 w_why;obtain⟨p,xs,rfl,hq,fx,fs,q⟩:=h;cases ry;rcases hq with hq |hq
 .obtain⟨its,r,pl,hz⟩:=I.list hq;refine SeqAt.in_listAt (sV x) pl.isList (fun w hw=>HJ rx fx r fs w (by simpa using hw)) ⟨.bl _,H,I,rfl,?_⟩;rw[show its.toArray.any (sV x)=its.any (sV x) by simp,FW r fs];exact q
 .obtain⟨its,r,pl,hz⟩:=I.tuple hq;refine SeqAt.in_tupleAt (sV x) pl (fun w hw=>HJ rx fx r fs w (by simpa using hw)) ⟨.bl _,H,I,rfl,?_⟩;rw[show its.toArray.any (sV x)=its.any (sV x) by simp,FW r fs];exact q
def zbr:gj X (compareOp .NotIn) (Ms X.K true):=by
 w_why;obtain⟨p,xs,rfl,hq,fx,fs,q⟩:=h;cases ry;rcases hq with hq |hq
 .obtain⟨its,r,pl,hz⟩:=I.list hq;refine SeqAt.notIn_listAt (sV x) pl.isList (fun w hw=>HJ rx fx r fs w (by simpa using hw)) ⟨.bl _,H,I,rfl,?_⟩;rw[show its.toArray.any (sV x)=its.any (sV x) by simp,FW r fs];exact q
 .obtain⟨its,r,pl,hz⟩:=I.tuple hq;refine SeqAt.notIn_tupleAt (sV x) pl (fun w hw=>HJ rx fx r fs w (by simpa using hw)) ⟨.bl _,H,I,rfl,?_⟩;rw[show its.toArray.any (sV x)=its.any (sV x) by simp,FW r fs];exact q
def zbn:nP X (.builtin "len") (fun xs H Q=>∃p ys,xs=[.ref p]/\(gn X.K H p ys\/gO X.K H p ys)/\Q (.int ys.length) H):=by
 kt_chr;obtain⟨p,ys,rfl,hq,q⟩:=h;obtain⟨u,rfl,rx⟩:=vals1 r;cases rx;have hn:=zx;rcases hq with hq |hq
 .obtain⟨its,r',pl,hz⟩:=I.list hq;have hlen:=r'.length;exact Calls.call_len_list pl.isList (by simp only[xal]<;>lia) ⟨.int ys.length,H,I.tok _,⟨s.toks+1,by rw[xal,hlen]⟩,q⟩
 .obtain⟨its,r',pl,hz⟩:=I.tuple hq;have hlen:=r'.length;exact len_tuple pl (by simp only[xal]<;>lia) ⟨.int ys.length,H,I.tok _,⟨s.toks+1,by rw[xal,hlen]⟩,q⟩
def zbq:nP X (.builtin "len") (fun xs H Q=>∃z,xs=[.str z]/\z.length<=sizeLine/\Q (.int z.length) H):=by
 kt_chr;obtain⟨z,rfl,hz,q⟩:=h;obtain⟨u,rfl,t,rfl⟩:=vals1 r;have hn:=zx;exact len_str (by lia) ⟨.int z.length,H,I.tok _,⟨_,rfl⟩,q⟩
def nP.or (h:nP X f r)(h':nP X f r'):nP X f (fun xs H Q=>r xs H Q\/r' xs H Q):=by
 intro pins s Z H xs us Q I rs q;rcases q with q |q
 .exact h pins s Z H xs us Q I rs q
 .exact h' pins s Z H xs us Q I rs q
def zbt:nP X (.type "list") (fun xs H Q=>∃p ys,xs=[.ref p]/\(gn X.K H p ys\/gO X.K H p ys)/\∀l,H l=none->Q (.ref l) (upd H l (.lst ys))):=by
 kt_chr;obtain⟨p,ys,rfl,hq,q⟩:=h;obtain⟨u,rfl,rx⟩:=vals1 r;cases rx;have fin:∀(its:Lvx),Vals ys its->ys.length<=sizeLine->∀(h':Heap) (c':Nat),(∀b o',s.heap.get? b=some o'->h'.get? b=some o')->
   h'.get? s.heap.objs.size=some {cls:=.type "list",dict:=none,data:=.seq its.toArray c',slots:= #[]}->EP X pins Z Q (.ref s.heap.objs.size) {s with heap:=h'}:=fun its r' hz h' c' kp e=>
  ⟨.ref s.heap.objs.size,_,I.laid (t':=s.toks) kp (xag _) (show gM X.prog X.w _ h' _ (.lst ys) from⟨hz,its,c',r',e⟩),rfl,q _ (I.hok.fresh (xag _))⟩
 rcases hq with hq |hq
 .obtain⟨its,r',pl,hz⟩:=I.list hq;have hlen:=r'.length;obtain⟨o,ho,hc,n,hd⟩:=pl.isList;exact call_list_seq p (.inl rfl) ho hc hd (fun h' c' kp e=>fin its r' hz h' c' kp e) (by simp only[xal]<;>lia)
 .obtain⟨its,r',pl,hz⟩:=I.tuple hq;have hlen:=r'.length;obtain⟨o,ho,hc,n,hd⟩:=pl;exact call_list_seq p (.inr rfl) ho hc hd (fun h' c' kp e=>fin its r' hz h' c' kp e) (by simp only[xal]<;>lia)
def tX:nP X (.type "tuple") (fun xs H Q=>∃p ys,xs=[.ref p]/\((gn X.K H p ys/\∀l,H l=none->Q (.ref l) (upd H l (.tup ys)))\/(gO X.K H p ys/\Q (.ref p) H))):=by
 kt_chr;obtain⟨p,ys,rfl,h⟩:=h;obtain⟨u,rfl,rx⟩:=vals1 r;cases rx;rcases h with⟨hq,q⟩ |⟨hq,q⟩
 .obtain⟨its,r',pl,hz⟩:=I.list hq;have hlen:=r'.length;refine call_tuple_list pl.isList (fun h' kp=>?_) (by simp only[xal]<;>lia)
  have I1:Inv X pins Z H {s with heap:=h'}:=I.kept (t':=s.toks) kp;have I2:Inv X pins Z (upd H h'.objs.size (.tup ys)) {s with heap:=h'.push {cls:=.type "tuple",data:=.seq its.toArray}}:=
   I1.laid (t':=s.toks) (fun b o e=>xad _ e) (xag _) (show gM X.prog X.w _ _ _ (.tup ys) from⟨hz,its,r',IsTup.new _ _⟩)
  exact⟨.ref h'.objs.size,_,I2,rfl,q _ (I1.hok.fresh (xag _))⟩
 .obtain⟨its,r',pl,hz⟩:=I.tuple hq;exact call_tuple_same pl ⟨.ref p,H,I,rfl,q⟩
def Wc (K:Fgx)(T:String)(x:V)(H:Hp):Prop:=match x with
 |.str _=>T="str"
 |.int _=>T="int"
 |.ref p=>(T="list"/\∃xs,gn K H p xs)\/(T="tuple"/\∃o,K.lookup p=some o/\o.cls=.type "tuple"/\o.dict=none)\/
  (T="dict"/\((∃kvs,H p=some (.dK kvs))\/∃kvs,H p=some (.dT kvs)))\/(T="set"/\∃S n,H p=some (.set S n))
 |_=>False
def zeY (I:Inv X pins Z H s)(r:RelV x v)(ty:Wc X.K T x H):
  s.TypeIs v T/\∀a,v=.ref a->∃ob,s.heap.get? a=some ob/\ob.dict=none:=by
 cases x with
 |str z=>
  obtain⟨t,rfl⟩:=r;cases (show T="str" from ty);exact⟨typeIs_str s z t,fun _ e=>nomatch e⟩
 |int i=>
  obtain⟨t,rfl⟩:=r;cases (show T="int" from ty);exact⟨typeIs_int s i t,fun _ e=>nomatch e⟩
 |ref p=>
  cases r;rcases ty with⟨rfl,xs,hq⟩ |⟨rfl,o,hk,hc,hd⟩ |⟨rfl,hk⟩ |⟨rfl,S,n,hk⟩
  .obtain⟨its,_,pl,_⟩:=I.list hq;refine⟨pl.isList.typeIs,fun a e=>?_⟩;cases e;obtain⟨o,n,e,c,hd,_⟩:=pl;exact⟨o,e,hd⟩
  .refine⟨⟨o,I.kIn p o hk,hc⟩,fun a e=>?_⟩;cases e;exact⟨o,I.kIn _ o hk,hd⟩
  .have z:∃o,s.heap.get? p=some o/\o.ExactDict:=by
    rcases hk with⟨kvs,hk⟩ |⟨kvs,hk⟩
    .obtain⟨_,_,_,_,o,_,_,e,ex,_⟩:=I.hok p _ hk;exact⟨o,e,ex⟩
    .obtain⟨_,_,_,_,o,_,_,e,ex,_⟩:=I.hok p _ hk;exact⟨o,e,ex⟩
   obtain⟨o,e,ex⟩:=z;refine⟨⟨o,e,ex.1⟩,fun a e2=>?_⟩;cases e2;exact⟨o,e,ex.2.1⟩
  .obtain⟨o,_,_,_,e,ex,_⟩:=I.hok p _ hk;refine⟨⟨o,e,ex.1⟩,fun a e2=>?_⟩;cases e2;exact⟨o,e,ex.2.1⟩
 |_=>exact False.elim ty
def Vt (K:Fgx)(T:String)(r:V->List V->Hp->VK->Prop)(to:TE):TE:=fun Z H Q=>to Z H fun x H1=>Wc K T x H1/\r x [] H1 Q
def tBM (K:Fgx)(T:String)(r:V->List V->Hp->VK->Prop)(to:TE)(t:TA):TE:=fun Z H Q=>to Z H fun x H1=>Wc K T x H1/\t Z H1 fun xs H2=>r x xs H2 Q
variable {o e:Expr}{es:Lex}{to:TE}{t:TA}{name:Str}{apos cpos:Pos}{T id:String}{r:V->List V->Hp->VK->Prop}
def zjQ (pa:PlainAttrs T)(slot:Slot T name id)(hty:typeOf (.builtin id)=pure (.type "method_descriptor"))(hm:zW X id r)(ho:PE X o to)
  (hbase:attributeBase o name X.env (eval o X.env)=eval o X.env:=by rfl) (hline:(apos.endLine==cpos.line)=true:=by rfl):PE X (.Call (.Attribute o name apos) [] [] cpos) (Vt X.K T r to):=by
 fen_go;refine wpAny_Call_method0_late hbase hline (aW (ho pins s Z H _ I h) fun v s1 ⟨x,H1,I1,r1,ty,q1⟩=>?_);obtain⟨h1,h2⟩:=zeY I1 r1 ty;exact⟨T,id,pa,slot,hty,h1,h2,xcQ rfl (PySem.evalArgs_none (hm pins s1 Z H1 x [] v [] Q I1 r1 .nil q1))⟩
def Ej (pa:PlainAttrs T)(slot:Slot T name id)(hty:typeOf (.builtin id)=pure (.type "method_descriptor"))(hm:zW X id r)(ho:PE X o to)(ha:PA X (e::es) t)
  (hbase:attributeBase o name X.env (eval o X.env)=eval o X.env:=by rfl)
  (hfew:((backTo cpos (starEach (e::es) X.env)).all (fun x=> !x.1)&&(backToKw cpos (keywordEach [] X.env)).all (fun x=>x.1.isSome)
   && decide ((e::es).length+([]:List Keyword).length+(if ([]:List Keyword).isEmpty then 0 else 1)<30))=true:=by rfl)
  (hline:(apos.endLine==cpos.line)=true:=by rfl) (hs:starEach (e::es) X.env=(false,eval e X.env)::starEach es X.env:=by rfl) (hplain:(backTo cpos (starEach es X.env)).any (·.1)=false:=by rfl):
  PE X (.Call (.Attribute o name apos) (e::es) [] cpos) (tBM X.K T r to t):=by
 fen_go;refine wpAny_Call_method_late hbase hfew hline rfl (aW (ho pins s Z H _ I h) fun v s1 ⟨x,H1,I1,r1,ty,q1⟩=>?_);obtain⟨h1,h2⟩:=zeY I1 r1 ty;refine⟨T,id,pa,slot,hty,h1,h2,?_⟩;have hA:=ha cpos pins s1 Z H1 _ I1 q1;rw[hs]at hA ⊢;refine xcQ (by show(false||(backTo cpos (starEach es X.env)).any (·.1))=false;rw[hplain]<;>rfl) (Calls.evalArgs_plain ?_)
 exact aW hA fun us s2 ⟨vs,H2,I2,r2,q2⟩=>hm pins s2 Z H2 x vs v us Q I2 r1 r2 q2
end
def JW (X:Cx)(id:String)(r:V->List V->Hp->VK->Prop):Prop:=
 ∀(pins:Pnx) (s:Shared) (Z:St) (H:Hp) (x:V) (xs:List V) (v:Value) (us:Lvx) (Q:VK),Inv X pins Z H s->RelV x v->Vals xs us->r x xs H Q->
  wpAny (model X.prog X.w) X.A (call (.builtin id) (v::us)) (EP X pins Z Q) X.xe s
def Vals.one:∀{x:V} {us:Lvx},Vals [x] us->∃u,us=[u]/\RelV x u
 |_,_,.cons r .nil=>⟨_,rfl,r⟩
theorem Vals.zero:∀{us:Lvx},Vals [] us->us=[]
 |_,.nil=>rfl
theorem Vals.dropLast (h:Vals xs us):Vals xs.dropLast us.dropLast:=by
 induction h with
 |nil=>exact .nil
 |cons r t ih=>
  cases t with
  |nil=>exact .nil
  |cons q t'=>exact .cons r ih
theorem Vals.eraseIdx:∀{xs:List V} {us:Lvx} (i:Nat),Vals xs us->Vals (xs.eraseIdx i) (us.eraseIdx i)
 |_,_,_,.nil=>.nil
 |_,_,0,.cons _ t=>t
 |_,_,i+1,.cons r t=>.cons r (Vals.eraseIdx i t)
theorem Vals.rep (h:Vals xs us):∀k:Nat,Vals (List.replicate k xs).flatten (List.replicate k us).flatten
 |0=>.nil
 |k+1=>by
  rw[xbj,xbj,xb9,xb9];exact Vals.append h (Vals.rep h k)
theorem zco (l:List α):l.eraseIdx (l.length-1)=l.dropLast:=by
 induction l with
 |nil=>rfl
 |cons a r ih=>
  cases r with
  |nil=>rfl
  |cons b r=>
   have e:(a::b::r).length-1=((b::r).length-1)+1:=by
    have h1:(a::b::r).length=r.length+2:=rfl;have h2:(b::r).length=r.length+1:=rfl;lia
   rw[e,List.eraseIdx_cons_succ,ih]
   all_goals rfl
theorem Y5:∀(l:List α) (i:Nat),(l.eraseIdx i).length<=l.length
 | [],_=>xag _
 |_::_,0=>xcz _
 |_::r,i+1=>Nat.succ_le_succ (Y5 r i)
theorem foldl_rep (its:Lvx):∀(k:Nat) (acc:Lvx),
  List.foldl (fun x1 x2=>x1++x2) acc.toArray (List.replicate k its.toArray)=(acc++(List.replicate k its).flatten).toArray
 |0,acc=>by simp
 |k+1,acc=>by
  have e:acc.toArray++its.toArray=(acc++its).toArray:=by simp
  have e2:(acc++its)++(List.replicate k its).flatten=acc++(List.replicate (k+1) its).flatten:=by
   rw[xbj,xb9,xaq]
  rw[<-e2, <-foldl_rep its k (acc++its), <-e,xbj,xcC]
section
variable {X:Cx}{pins:Pnx}{Z:St}{H:Hp}{s:Shared}{l:Addr}{xs ys:List V}
def Inv.lset {its its':Lvx}{n:Nat}{f:Avx->Avx}{t':Nat}(I:Inv X pins Z H s)(hH:H l=some (.lst xs))
  (e:s.heap.get? l=some {cls:=.type "list",data:=.seq its.toArray n}) (hf:f its.toArray=its'.toArray) (hv:Vals ys its') (hz:ys.length<=sizeLine):
  Inv X pins Z (upd H l (.lst ys)) {s with heap:=s.heap.update l (Obj.mapSeq f),toks:=t'}:=by
 have q:=PySem.IsL.update e f;rw[hf]at q;refine I.write (x:=l) (e:=l) (by rw[hH];exact trivial) (.inl rfl) (fun b' u hb hu=>(xa0 s.heap (Obj.mapSeq f) (xbw hb)).trans hu) ⟨_,q⟩ ?_;exact⟨hz,its',_,hv,q⟩
def Inv.lnew (I:Inv X pins Z H s)(hv:Vals ys its)(hz:ys.length<=sizeLine):
  Inv X pins Z (upd H s.heap.objs.size (.lst ys)) {s with heap:=s.heap.push {cls:=.type "list",data:=.seq its.toArray},toks:=t'}:=
 I.laid (fun _ _ q=>xad _ q) (xag _) ⟨hz,its,0,hv,xaJ _ rfl⟩
theorem Inv.fresh (I:Inv X pins Z H s):H s.heap.objs.size=none:=I.hok.fresh (xag _)
def Inv.lstM (I:Inv X pins Z H s)(hH:H l=some (.lst xs)):xs.length<=sizeLine/\∃(its:Lvx) (n:Nat),Vals xs its/\xs.length=its.length/\s.heap.get? l=some {cls:=.type "list",data:=.seq its.toArray n}:=by
 obtain⟨z,its,n,r,e⟩:=I.hok l _ hH;exact⟨z,its,n,r,r.length,e⟩
def zej (h:n<=sizeLine):Builtin.List.listTooLong n=false:=by
 unfold Builtin.List.listTooLong;exact xas (by lia)
end
section
variable {X:Cx}
def zgB:V->List V->Hp->VK->Prop:=fun x vs H Q=>∃l xs y,x=.ref l/\vs=[y]/\H l=some (.lst xs)/\xs.length<sizeLine/\Q .non (upd H l (.lst (xs++[y])))
def Ss:JW X "list.append" zgB:=by
 kt_str;obtain⟨l,xs,y,rfl,rfl,hH,hz,q⟩:=h;cases rx;obtain⟨u,rfl,ru⟩:=rv.one;obtain⟨z,its,n,r,hl,e⟩:=I.lstM hH;refine xc9 xdq ⟨_,e,rfl⟩ F.entry_list_append (F.args_list_append_2 _ _) (PySem.list_append l its.toArray n u (by rw[xal];lia)) ⟨e,?_⟩;refine⟨.non,_,I.lset (its':=its++[u]) hH e (by simp) (r.append (.cons ru .nil)) ?_,rfl,q⟩;rw[xaf,xaC];lia
def Ul:V->List V->Hp->VK->Prop:=fun x vs H Q=>∃l xs y,x=.ref l/\vs=[]/\H l=some (.lst xs)/\xs[xs.length-1]? =some y/\Q y (upd H l (.lst xs.dropLast))
def zim:JW X "list.pop" Ul:=by
 kt_str;obtain⟨l,xs,y,rfl,rfl,hH,hy,q⟩:=h;cases rx;have hus:=rv.zero;subst hus;obtain⟨z,its,n,r,hl,e⟩:=I.lstM hH;obtain⟨u,hu,ru⟩:=r.get hy;have hy':its.toArray[its.toArray.size-1]? =some u:=by
  show its.toArray[its.length-1]? =some u;rw[<-xcV, <-hl];exact hu
 refine xc9 xda ⟨_,e,rfl⟩ F.entry_list_pop (F.args_list_pop_1 _) (MeetsSeq.list_pop_last l its.toArray n u hy' (by rw[xal];lia)) ⟨e,?_⟩;refine⟨y,_,I.lset (its':=its.dropLast) hH e ?_ r.dropLast ?_,ru,q⟩
 .show its.toArray.eraseIdxIfInBounds (its.toArray.size-1)=its.dropLast.toArray;rw[xal,xcY,zco]
 .rw[List.length_dropLast];lia
def zje:V->List V->Hp->VK->Prop:=fun x vs H Q=>∃l xs i k y,x=.ref l/\vs=[.int i]/\H l=some (.lst xs)/\ -(2^63)<=i/\i<2^63/\seqIndex? i xs.length=some k/\xs[k]? =some y/\Q y (upd H l (.lst (xs.eraseIdx k)))
def zed:JW X "list.pop" zje:=by
 kt_str;obtain⟨l,xs,i,k,y,rfl,rfl,hH,h1,h2,hk,hy,q⟩:=h;cases rx;obtain⟨u,rfl,ru⟩:=rv.one;obtain⟨t,rfl⟩:=ru;obtain⟨z,its,n,r,hl,e⟩:=I.lstM hH;obtain⟨w,hw,rw'⟩:=r.get hy;refine xc9 xda ⟨_,e,rfl⟩ F.entry_list_pop (F.args_list_pop_2 _ _)
  (MeetsSeq.list_pop_at l its.toArray n i t k w (xdV h1 h2) (by rw[xal, <-hl];exact hk) (by rw[<-xcV];exact hw) (by rw[xal];lia)) ⟨e,?_⟩
 refine⟨y,_,I.lset (its':=its.eraseIdx k) hH e ?_ (r.eraseIdx k) ?_,rw',q⟩
 .show its.toArray.eraseIdxIfInBounds k=(its.eraseIdx k).toArray;rw[xcY]
 .have:=Y5 xs k;lia
def Um:R2:=fun x y H Q=>∃l k xs,x=.ref l/\y=.int k/\H l=some (.lst xs)/\ -(2^63)<=k/\k<2^63/\xs.length*k.toNat<=sizeLine/\
 ∀p,H p=none->Q (.ref p) (upd H p (.lst (List.replicate k.toNat xs).flatten))
def len_rep (xs:List α)(k:Nat):(List.replicate k xs).flatten.length=k*xs.length:=by
 induction k with
 |zero=>simp
 |succ k ih=>rw[xbj,xb9,xaf,ih,xea,Nat.add_comm]
def zjM:gj X (binaryOp .Mult) Um:=by
 w_why;obtain⟨l,k,xs,rfl,rfl,hH,h1,h2,hz,q⟩:=h;cases rx;obtain⟨t,rfl⟩:=ry;obtain⟨z,its,n,r,hl,e⟩:=I.lstM hH;have hlen:its.toArray.size*k.toNat<=sizeLine:=by rw[xal, <-hl];exact hz
 have hcap:¬ its.toArray.size*k.toNat > (2^63-1)/8:=by
  have:(sizeLine:Nat)<=(2^63-1)/8:=by decide
  lia
 have hfit:¬ (!Builtin.List.listFitsIndex k)=true:=by
  rw[xdV h1 h2];exact xaF
 have hlong:¬ Builtin.List.listTooLong (its.toArray.size*k.toNat)=true:=by
  rw[zej hlen];exact xaF
 have hnew:List.foldl (fun x1 x2=>x1++x2) #[] (List.replicate (if its.toArray.isEmpty=true then 0 else k.toNat) its.toArray)=(List.replicate k.toNat its).flatten.toArray:=by
  have f0:∀m:Nat,List.foldl (fun x1 x2=>x1++x2) #[] (List.replicate m its.toArray)=(List.replicate m its).flatten.toArray:=fun m=>by
   have:=foldl_rep its m [];rw[xbq]at this;exact this
  rw[f0]
  cases its with
  |nil=>simp
  |cons a r'=>rw[xac (by simp)]
 refine wpAny_binaryOp_repeat_ref (T:="list") (U:="int") (by decide) ⟨_,e,rfl⟩ (fun s'=>typeIs_int s' k t) noFill_list_mul F.fills_int_mul F.slot_int_rmul repeat_list F.slot_int_index.lookup
  (xc9 F.slot_int_rmul (typeIs_int s k t) F.entry_int_rmul (F.args_int_rmul_2 _ _) (int___rmul___int_list k t l its.toArray n)
   ⟨e,rfl,⟨_,e,rfl⟩,xc9 F.slot_list_mul ⟨_,e,rfl⟩ F.entry_list_mul (F.args_list_mul_2 _ _) (AutoListH.list___mul___list_int_3 l its.toArray n k t hfit hcap hlong) ⟨e,?_⟩⟩)
 rw[hnew];exact⟨.ref _,_,I.lnew (t':=s.toks) (r.rep k.toNat) (by rw[len_rep,Nat.mul_comm];exact hz),rfl,q _ I.fresh⟩
end
end L2
namespace Att
open PySem PySem.W PySem.Calls PyProof.Rows
def zaX:∀(ns:Lix) (vs:Lvx),WellAll P h vs (ns.map WData.int)->IntsAre vs ns:=by
 intro ns
 induction ns with
 |nil=>
  intro vs w;rw[xbE]at w;cases w;exact .nil
 |cons n ns ih=>
  intro vs w;rw[xai]at w
  cases w with
  |cons a b=>
   cases a;exact .cons _ _ (ih _ b)
def zdH {l:OpenLaw}{n:Nat}(hn:l.most=some n){P:Params}{h:Heap}{args:List WData}{vals:Lvx}
  (hpre:l.row.toRowW.claim.pre args=true) (hwl:WellAll P h vals args):
  ∃a vs ns,vals=[Value.ref a]/\args=[WData.list (ns.map WData.int)]/\h.get? a=some {cls:=.type "list",data:=.seq vs.toArray}/\IntsAre vs ns/\ns.length<=n:=by
 have hsh:WShape.hasAll [] args [.list .int]=true:=(pre_splitW hpre).1;have hc:l.pre.holds [] {args:=args}=true:=(pre_splitW hpre).2;obtain⟨d,r,rfl,h1,h2⟩:=hasAllW_cons hsh;obtain rfl:=hasAllW_nil h2;obtain⟨xs,rfl,h3⟩:=hasW_list h1;obtain⟨ns,rfl⟩:=items_int h3;have hlen:ns.length<=n:=by
  unfold OpenLaw.pre at hc;have h4:(WTm.not (.lt (.lit (.int (n:Int))) (.len (.arg 0)))).holds [] {args:=[.list (ns.map .int)]}=true:=by
   have h4:=(holds_andW hc).1;rw[hn]at h4;exact h4
  have h5:=condW_of h4 (w_not (w_lt w_lit (w_len_list (w_arg rfl))));rw[xah]at h5;refine Nat.le_of_not_lt fun q=>?_;have q':(n:Int)<((ns.length:Nat):Int):=by lia
  first
   |(rw[xaD q']at h5;exact absurd h5 (by decide))
   |(simp at h5;lia)
 cases hwl with
 |cons w1 w2=>
  cases w2
  cases w1 with
  |list ho hall=>exact⟨_,_,ns,rfl,rfl,ho,zaX ns _ hall,hlen⟩
theorem zcN (l:OpenLaw)(args:List WData):l.row.toRowW.claim.post args (.bool true) args=true:=
 postW_of (r:=l.row.toRowW) (X:=(true==true))
  (show WShape.has [] (.bool true) .bool=true by first |rfl |decide |simp[WShape.has,WShape.arms,WShape.armsAll])
  (show(WTm.eq .res (.lit (.bool true))).value [] {args:=args,res:=some (.bool true),after:=args}=some (.bool (true==true)) from w_eq_bool (w_res rfl) w_lit) rfl
def zbK {l:OpenLaw}{n:Nat}{q:Program}{loose:Lsx}{XP:(Mgx)->Heap->Prop}{YP:World->Heap->Prop}{d:DefRec}
  (hn:l.most=some n) (hdf:d.params.defaults=[])
  (call:∀(w:World) (s₀ s₁:Shared) (mg mb:Mgx) (fa:Addr) (o:Obj) (pm cd doc:Value) (a:Addr) (vs:Lvx) (ns:Lix),
   Ground q loose [] XP w s₀ mg mb s₁.heap->YP w s₁.heap->
   s₁.heap.get? fa=some o->o.data=.func (docDef d.name d.params d.body d.scope pm cd doc)->s₁.heap.CodeRec cd d.name->mg d.name=some (.ref fa)->
   s₁.heap.get? a=some {cls:=.type "list",data:=.seq vs.toArray}->IntsAre vs ns->ns.length<=n->s₁.gens= #[]->
   codeAny (model l.prog w) callerA (.call (.ref fa) ⟨[.ref a],[]⟩) (fun r s'=>r=.ok (.ret (.bool true))/\OldK s₁.heap s'.heap/\s'.os=s₁.os/\AllBare s'.gens) s₁):
  WalkO q loose XP YP l.row.toRowW d [] (fun f vs=>PySem.call f vs):=by
 intro w s₀ s₁ mg mb G Y fa o pm cd doc dV kV ho hd hcd hD hmg hg args vals as hpre hlay hrd hwl hlo;obtain rfl:dV=.none:=Dflts.none hD hdf;obtain rfl:kV=.none:=Dflts.noKw hD;obtain⟨a,vs,ns,rfl,rfl,hobj,hints,hlen⟩:=zdH hn hpre hwl;refine enter_call (xcv (call w s₀ s₁ mg mb fa o pm cd doc a vs ns G Y ho (fd_plain hd) hcd hmg hobj hints hlen hg) fun r s' hq=>?_);obtain⟨rfl,h2,h3,h4⟩:=hq;exact⟨.inl ⟨.bool true,.bool true,[],rfl,fun _=>rfl,.bool true,zcN l _,fun _=>⟨List.Pairwise.nil,fun _ hm=>(nomatch hm)⟩⟩,h2,h3,h4⟩
end Att
namespace L2
theorem zbF:∀{vs:Lvx} {ns:Lix},IntsAre vs ns->Vals (ns.map V.int) vs
 |_,_,.nil=>.nil
 |_,_,.cons n t h=>.cons ⟨t,rfl⟩ (zbF h)
def Only (H:Hp):Prop:=∀b,H b=none\/∃o xs,H b=some (.frz o (.lst xs))
def zd2 {P:Program}{w:World}{K:Fgx}{mg mb:Mgx}{CX:sJ}{k:Nat}{fa a:Addr}{fd:FuncData}{x:Str}{sp:Sp}{s₁:Shared}{vs:Lvx}{ns:Lix}
    (KX:K.In s₁.heap) (hns:s₁.heap.Ns mainGlobals mg) (hb:s₁.heap.Ns builtinsNs mb) (hbb:∀x:Str,x≠"__name__"->mb x=bootBuiltins x) (hlim:s₁.heap.NoLimit) (hg:s₁.gens= #[])
    (ha:s₁.heap.get? a=some {cls:=.type "list",data:=.seq vs.toArray}) (hi:IntsAre vs ns) (hl:ns.length<=sizeLine) (hr:Room k callerA)
    (F:∀base:Heap,K.In base->base.Ns mainGlobals mg->FnOk P w K mg base CX k fa fd [x] sp) (hbind:∀(s:Shared) (u:Value),BindsTo s fd ⟨[u],[]⟩ [(x,u)])
    (hsp:∀H:Hp,Only H->gn K H a (ns.map V.int)->sp [.ref a] H (fun v _=>v=.bl true) fun _ _ _=>False)
    (hCX:∀H e s',CX [] H s₁ (fun _ _ _=>False) e s'->False):
    codeAny (model P w) callerA (.call (.ref fa) ⟨[.ref a],[]⟩) (fun r s'=>r=.ok (.ret (.bool true))/\OldK s₁.heap s'.heap/\s'.os=s₁.os/\AllBare s'.gens) s₁:=by
  have rv:=zbF hi;have lenV:=hi.length
  -- from an abstract heap in which nothing but the script may be tracked
  have core:∀H:Hp,Only H->gn K H a (ns.map V.int)->gK P w H s₁.heap->(∀b,H b≠none->b=a)->(H a≠none->K.lookup a=none)->
      codeAny (model P w) callerA (.call (.ref fa) ⟨[.ref a],[]⟩) (fun r s'=>r=.ok (.ret (.bool true))/\OldK s₁.heap s'.heap/\s'.os=s₁.os/\AllBare s'.gens) s₁:=by
    intro H hO hS hok hA hK;have base_of:∀{b:Addr} {o:Obj},s₁.heap.get? b=some o->H b=none->(pA s₁.heap H).get? b=some o:=fun e n=>zel e n;have noA:∀{b:Addr} {o:Obj} {es:Array DictEntry} {ep:Nat},s₁.heap.get? b=some o->o.data=.dict es ep->H b=none:=fun {b o es ep} e d=>by
      cases q:H b with
      |none=>rfl
      |some u=>
        have e':b=a:=hA b (by rw[q];simp);subst e';rw[ha]at e;cases e;have d':Data.seq vs.toArray _=Data.dict es ep:=d;cases d'
    have nsK:∀{b:Addr} {m:Mgx},s₁.heap.Ns b m->(pA s₁.heap H).Ns b m:=fun {b m} ⟨o,es,ep,e,d,r⟩=>⟨o,es,ep,base_of e (noA e d),d,r⟩;have hKb:K.In (pA s₁.heap H):=fun b o e=>base_of (KX b o e) (by
      cases q:H b with
      |none=>rfl
      |some u=>
        have e':b=a:=hA b (by rw[q];simp);subst e';rw[hK (by rw[q];simp)]at e;cases e)
    have hM:Mod K mg (pA s₁.heap H):=⟨hKb,nsK hns,⟨mb,nsK hb,hbb⟩,let ⟨mc,h1,h2⟩:=hlim;⟨mc,nsK h1,h2⟩⟩
    have e0:Env0 P w K mg (pA s₁.heap H) callerA [] s₁ H:=⟨rfl,hM,fun b o e=>zfs e,xd9 (zds _ _),trivial,fun b hb=>absurd (show b∈([]:List Addr) from hb) (by simp),hok,.of_eq hg⟩;refine xcv ((F _ hKb (nsK hns)).run callerA [] s₁ H ⟨[.ref a],[]⟩ [.ref a] [.ref a] _ _ hr e0 (hbind s₁ (.ref a)) (.cons rfl .nil) (hsp H hO hS)) fun r s' h=>?_
    cases r with
    |error e=>exact(hCX H e s' h).elim
    |ok fl=>
      cases fl with
      |next=>exact False.elim h
      |brk=>exact False.elim h
      |cont=>exact False.elim h
      |ret u=>
        obtain⟨v,H',os,bare,un,hok',r',q⟩:=h;have q':v=.bl true:=q;subst q';obtain rfl:u=Value.bool true:=r';refine⟨rfl,OldK.of_keep fun b o e=>?_,os,bare⟩
        cases q:H b with
        |none=>exact un.keep b o e q (by intro z;exact absurd (show b∈([]:List Addr) from z) (by simp)) (by simp)
        |some u=>
          rcases hO b with z |⟨ob,xs,z⟩
          . rw[q]at z;cases z
          . have z2:=un.frzs b ob _ z;obtain⟨e1,_⟩:=hok b _ z;obtain⟨e2,_⟩:=hok' b _ z2;rw[e]at e1;cases e1;exact e2
  cases hk:K.lookup a with
  |some o=>
    -- the script is one of the module's own objects
    have e:=KX a o hk;rw[ha]at e;cases e;refine core (fun _=>none) (fun _=>.inl rfl) (.inr ⟨_,vs.toArray,_,hk,rfl,rfl,rfl,by rw[xal,lenV];exact hl,by simpa using rv⟩) (fun b u z=>by have z':(none:Option HO)=some u:=z;cases z') (fun b z=>absurd rfl z) fun z=>absurd rfl z
  |none=>
    refine core (fun b=>if b=a then some (.frz {cls:=.type "list",data:=.seq vs.toArray} (.lst (ns.map V.int))) else none) (fun b=>?_) (.inl (.inr ⟨{cls:=.type "list",data:=.seq vs.toArray},xaa rfl⟩)) (fun b u z=>?_) (fun b z=>?_) fun _=>hk
    . by_cases hb:b=a
      . exact .inr ⟨_,_,xaa hb⟩
      . exact .inl (xac hb)
    . by_cases hb:b=a
      . have z':=(xaa hb).symm.trans z;cases z';subst hb;exact⟨ha,by rw[xah];exact hl,vs,_,rv,ha⟩
      . have z':=(xac hb).symm.trans z;cases z'
    . by_cases hb:b=a
      . exact hb
      . exact absurd (xac hb) z
def zgn {l:W.OpenLaw}{n k:Nat}{q:Program}{loose:Lsx}{XP:(Mgx)->Heap->Prop}{YP:World->Heap->Prop}{d:DefRec}{K:Params->Fgx}{CX:World->sJ}{sp:World->Sp}{x:Str}
  (hn:l.most=some n) (hn2:n<=sizeLine) (hdf:d.params.defaults=[]) (hr:Room k callerA)
  (hY:∀(w:World) (h:Heap),YP w h->(K w.params).In h)
  (F:∀(w:World) (mg:Mgx) (fa:Addr) (h:Heap),(K w.params).In h->h.Ns mainGlobals mg->mg d.name=some (.ref fa)->
   ∃fd:FuncData,(∀(s:Shared) (u:Value),BindsTo s fd ⟨[u],[]⟩ [(x,u)])/\
    ∀base:Heap,(K w.params).In base->base.Ns mainGlobals mg->FnOk l.prog w (K w.params) mg base (CX w) k fa fd [x] (sp w))
  (hsp:∀(w:World) (H:Hp) (a:Addr) (ns:Lix),ns.length<=n->Only H->gn (K w.params) H a (ns.map V.int)->sp w [.ref a] H (fun v _=>v=.bl true) fun _ _ _=>False)
  (hCX:∀(w:World) (H:Hp) (s:Shared) (e:Value) (s':Shared),CX w [] H s (fun _ _ _=>False) e s'->False):
  W.WalkO q loose XP YP l.row.toRowW d [] (fun f vs=>PySem.call f vs):=by
 refine Att.zbK hn hdf fun w s₀ s₁ mg mb fa o pm cd doc a vs ns G Y ho hd hcd hmg hobj hints hlen hg=>?_;have KX:=hY w _ Y;obtain⟨fd,hb,hF⟩:=F w mg fa _ KX G.T.g hmg;exact zd2 KX G.T.g G.T.b G.T.builtins G.T.nolimit hg hobj hints (xaN hlen hn2) hr hF hb (fun H hO hS=>hsp w H a ns hlen hO hS) fun H e s'=>hCX w H s₁ e s'
def zeC {l:W.OpenLaw}{n k:Nat}{q:Program}{loose:Lsx}{XP:(Mgx)->Heap->Prop}{YP:World->Heap->Prop}{d:DefRec}{K:Params->Fgx}{CX:sJ}{sp:Fgx->Sp}{x:Str}
  (hn:l.most=some n) (hn2:n<=sizeLine) (hdf:d.params.defaults=[]) (hr:Room k callerA)
  (hY:∀(w:World) (h:Heap),YP w h->(K w.params).In h)
  (F:∀(w:World) (mg:Mgx) (fa:Addr) (h:Heap),(K w.params).In h->h.Ns mainGlobals mg->mg d.name=some (.ref fa)->
   ∃fd:FuncData,(∀(s:Shared) (u:Value),BindsTo s fd ⟨[u],[]⟩ [(x,u)])/\
    ∀base:Heap,(K w.params).In base->base.Ns mainGlobals mg->FnOk l.prog w (K w.params) mg base CX k fa fd [x] (sp (K w.params)))
  (hsp:∀(K:Fgx) (H:Hp) (a:Addr) (ns:Lix),ns.length<=n->Only H->gn K H a (ns.map V.int)->sp K [.ref a] H (fun v _=>v=.bl true) fun _ _ _=>False)
  (hCX:∀(H:Hp) (s:Shared) (e:Value) (s':Shared),CX [] H s (fun _ _ _=>False) e s'->False):
  W.WalkO q loose XP YP l.row.toRowW d [] (fun f vs=>PySem.call f vs):=
 zgn (K:=K) (CX:=fun _=>CX) (sp:=fun w=>sp (K w.params)) hn hn2 hdf hr hY F (fun w H a ns h1 h2 h3=>hsp (K w.params) H a ns h1 h2 h3) fun _ H s e s'=>hCX H s e s'
noncomputable def nW (s:Stmt):Arguments:=match s with
 |.FunctionDef _ a _ _ _ _ _ _ _ _=>a
 |_=>{posonlyargs:=[],args:=[],vararg:=none,kwonlyargs:=[],kw_defaults:=[],kwarg:=none,defaults:=[]}
noncomputable def k_ (s:Stmt):List Stmt:=match s with
 |.FunctionDef _ _ b _ _ _ _ _ _ _=>b
 |_=>[]
noncomputable def b_ (s:Stmt):Scope:=match s with
 |.FunctionDef _ _ _ _ _ _ sc _ _ _=>sc
 |_=>{kind:=.function,names:=[],isGenerator:=false,isCoroutine:=false}
abbrev pF:sJ:=fun _ _ _ _ _ _=>False
abbrev E0:XK:=fun _ _ _=>False
def zjP:Passes pF X E0:=fun _ _ _ _ _ _ _ h=>h.elim
structure Fun (K:Fgx)(x qual:Str)(st:Stmt)(f:Addr)(fd:FuncData):Prop where
 ex:∃(oc:Value) (od:Option Addr) (kV doc pm:Value) (an:Option Addr) (cdv ct:Value) (osl:Array (Option Value)),
  fd=W.fnOf x qual (nW st) (k_ st) (b_ st) .none kV doc pm an cdv ct/\K.lookup f=some ⟨oc,od,.func fd,osl⟩/\W.codeIn K cdv qual=true
 kp:W.keepIn K (.ref f)=true
section
variable {K:Fgx}
def Fun.binds {x qual:Str}{st:Stmt}{f:Addr}{fd:FuncData}{ps:Lsx}(F:Fun K x qual st f fd)
  (h:∀(kV doc pm:Value) (an:Option Addr) (cdv ct:Value) (us:Lvx),us.length=ps.length->bindArgs (W.fnOf x qual (nW st) (k_ st) (b_ st) .none kV doc pm an cdv ct) ⟨us,[]⟩=pure (ps.zip us)):Binds K fd ps []:=by
 obtain⟨oc,od,kV,doc,pm,an,cdv,ct,osl,rfl,lk,hcd⟩:=F.ex;exact .all (h kV doc pm an cdv ct)
def Dt {x qual:Str}{st:Stmt}{f:Addr}{oc:Value}{od an:Option Addr}{osl:Array (Option Value)}{kV doc pm cdv ct:Value}(l:K.lookup f=some ⟨oc,od,.func (W.fnOf x qual (nW st) (k_ st) (b_ st) .none kV doc pm an cdv ct),osl⟩)
 (c:W.codeIn K cdv qual=true) (k:W.keepIn K (.ref f)=true):Fun K x qual st f (W.fnOf x qual (nW st) (k_ st) (b_ st) .none kV doc pm an cdv ct):=⟨⟨oc,od,kV,doc,pm,an,cdv,ct,osl,rfl,l,c⟩,k⟩
end
def Same (H H':Hp):Prop:=∀b o,H b=some o->H' b=some o
def Same.refl (H:Hp):Same H H:=fun _ _ h=>h
def Same.free (e:Same H H')(h:H' l=Option.none):H l=Option.none:=by
 cases q:H l with
 |none=>rfl
 |some o=>
  rw[e l o q]at h;cases h
end L2
set_option maxHeartbeats 0
namespace L2
section
variable {κ:Type}[DecidableEq κ]
noncomputable def gR (kvs:List (κ×V)) (k:κ):Option V:=(kvs.find? fun kv=>decide (kv.1=k)).map (·.2)
noncomputable def putK (kvs:List (κ×V)) (k:κ) (v:V):List (κ×V):=
 if (kvs.any fun kv=>decide (kv.1=k))=true then kvs.map (fun kv=>if kv.1=k then(kv.1,v) else kv) else kvs++[(k,v)]
def O1 {p:κ×V}{r:List (κ×V)}{k:κ}(e:p.1=k):gR (p::r) k=some p.2:=by simp[gR,xba,e]
def OJ {p:κ×V}{r:List (κ×V)}{k:κ}(e:¬ p.1=k):gR (p::r) k=gR r k:=by simp[gR,xba,e]
theorem zcb (k:κ):∀kvs:List (κ×V),(kvs.any fun kv=>decide (kv.1=k))=(gR kvs k).isSome
 | []=>rfl
 |p::r=>by
  rw[xbn]
  by_cases e:p.1=k
  .simp only[O1 e,xaD e,Bool.true_or,xb2]
  .rw[OJ e,xas e,Bool.false_or];exact zcb k r
def R6 (kvs:List (κ×V))(k:κ)(v:V):(putK kvs k v).length<=kvs.length+1:=by
 unfold putK
 split
 .rw[xah];lia
 .rw[xaf,xae,xa6];lia
theorem lA.isSome_eq (r:lA o u):o.isSome=u.isSome:=by
 cases o with
 |none=>cases u with
  |none=>rfl
  |some _=>exact(show False from r).elim
 |some _=>cases u with
  |none=>exact(show False from r).elim
  |some _=>rfl
theorem lA.getD (r:lA o u)(rd:RelV d d'):RelV (o.getD d) (u.getD d'):=by
 cases o with
 |none=>cases u with
  |none=>exact rd
  |some _=>exact(show False from r).elim
 |some _=>cases u with
  |none=>exact(show False from r).elim
  |some _=>exact r
def KV.val {kvs:List (κ×V)}{vs:List (κ×Value)}(r:KV kvs vs)(k:κ):lA (gR kvs k) (valueAt vs k):=by
 unfold KV at r
 induction r with
 |nil=>exact True.intro
 | @cons p q ps qs h t ih=>
  obtain⟨h1,h2⟩:=h
  by_cases e:p.1=k
  .have e':q.1=k:=h1.symm.trans e;have b:valueAt (q::qs) k=some q.2:=by simp[valueAt,xba,e']
   rw[O1 e,b];exact h2
  .have e':¬ q.1=k:=fun z=>e (h1.trans z);have b:valueAt (q::qs) k=valueAt qs k:=by simp[valueAt,xba,e']
   rw[OJ e,b];exact ih
theorem KV.any (r:KV kvs vs)(k:κ):(kvs.any fun kv=>decide (kv.1=k))=vs.any fun kv=>decide (kv.1=k):=by
 unfold KV at r
 induction r with
 |nil=>rfl
 |cons h t ih=>rw[xbn,xbn,ih,h.1]
def KV.repl (r:KV kvs vs)(k:κ)(ry:RelV y u):
  KV (kvs.map fun kv=>if kv.1=k then(kv.1,y) else kv) (vs.map fun kv=>if kv.1=k then(kv.1,u) else kv):=by
 unfold KV at r ⊢
 induction r with
 |nil=>exact .nil
 | @cons p q ps qs h t ih=>
  rw[xai,xai];refine .cons ?_ ih;obtain⟨h1,h2⟩:=h
  by_cases e:p.1=k
  .rw[xaa e,xaa (h1.symm.trans e)];exact⟨h1,ry⟩
  .rw[xac e,xac (fun z=>e (h1.trans z))];exact⟨h1,h2⟩
def KV.put (r:KV kvs vs)(k:κ)(ry:RelV y u):KV (putK kvs k y) (stored vs k u):=by
 unfold putK stored;rw[r.any k]
 by_cases e:(vs.any fun kv=>decide (kv.1=k))=true
 .rw[xaa e,xaa e];exact r.repl k ry
 .rw[xac e,xac e];exact Paired.snoc r ⟨rfl,ry⟩
def KV.keys {kvs:List (κ×V)}{vs:List (κ×Value)}(r:KV kvs vs):kvs.map (·.1)=vs.map (·.1):=by
 unfold KV at r
 induction r with
 |nil=>rfl
 |cons h t ih=>rw[xai,xai,ih,h.1]
theorem KV.length (r:KV kvs vs):kvs.length=vs.length:=xdt r
end
def zp (r:RelV (kV k) u):(lX P w).is k u=true:=by
 cases k with
 |inl i=>obtain⟨t,e⟩:=(show ∃t,u=Value.int i t from r);subst e;exact zbR P w i t
 |inr x=>obtain⟨t,e⟩:=(show ∃t,u=Value.str x t from r);subst e;exact Sh P w x t
theorem Yz:∀{ks:List Key} {us:Lvx},Vals (ks.map kV) us->ItemsAre (lX P w) ks us
 | [],_,r=>by rw[xbE]at r;cases r;exact .nil
 |k::ks,_,r=>by
  rw[xai]at r
  cases r with
  |cons h t=>exact .cons (zp h) (Yz t)
abbrev KT (H:Hp):List (List Key×V)->List (List Key×Addr×Value)->Prop:=Paired fun p q=>p.1=q.1/\H q.2.1=some (.tup (p.1.map kV))/\RelV p.2 q.2.2
def KT.val {H:Hp}{kvs:List (List Key×V)}{xs:List (List Key×Addr×Value)}(r:KT H kvs xs)(k:List Key):lA (gR kvs k) ((atKey xs k).map (·.2)):=by
 induction r with
 |nil=>exact True.intro
 | @cons p q ps qs h t ih=>
  obtain⟨h1,_,h2⟩:=h
  by_cases e:p.1=k
  .have e':q.1=k:=h1.symm.trans e;have b:atKey (q::qs) k=some q.2:=by simp[atKey,xba,e']
   rw[O1 e,b];exact h2
  .have e':¬ q.1=k:=fun z=>e (h1.trans z);have b:atKey (q::qs) k=atKey qs k:=by simp[atKey,xba,e']
   rw[OJ e,b];exact ih
def KT.repl (r:KT H kvs xs)(k:List Key)(ry:RelV y u):
  KT H (kvs.map fun kv=>if kv.1=k then(kv.1,y) else kv) (xs.map (putAt k u)):=by
 induction r with
 |nil=>exact .nil
 | @cons p q ps qs h t ih=>
  rw[xai,xai];refine .cons ?_ ih;obtain⟨h1,h2,h3⟩:=h;unfold putAt
  by_cases e:p.1=k
  .rw[xaa e,xaa (h1.symm.trans e)];exact⟨h1,h2,ry⟩
  .rw[xac e,xac (fun z=>e (h1.trans z))];exact⟨h1,h2,h3⟩
def KT.put (r:KT H kvs xs)(k:List Key)(hb:H b=some (.tup (k.map kV)))(ry:RelV y u):
  KT H (putK kvs k y) (storedH xs k b u):=by
 have e:(kvs.any fun kv=>decide (kv.1=k))=(atKey xs k).isSome:=by
  rw[zcb,(r.val k).isSome_eq,xeg]
 unfold putK storedH;rw[e]
 by_cases q:(atKey xs k).isSome=true
 .rw[xaa q,xaa q];exact r.repl k ry
 .rw[xac q,xac q];exact Paired.snoc r ⟨rfl,hb,ry⟩
def KT.keeps (r:KT H kvs xs)(ht:∀b ys,H b=some (.tup ys)->H' b=some (.tup ys)):KT H' kvs xs:=
 Paired.mapP r fun _ _ z=>⟨z.1,ht _ _ z.2.1,z.2.2⟩
section
variable {P:Program}{w:World}{H:Hp}{h:Heap}{a:Addr}
def zi0 (ok:gK P w H h)(e:Rd H a u):gM P w H h a u:=e.ok ok
def Ku (ok:gK P w H h)(e:Rd H a (.dK kvs)):kvs.length<=sizeLine/\(a==sysModules)=false/\∃vs,KV kvs vs/\h.DictOf (lX P w) a vs:=
 show gM P w H h a (.dK kvs) from zi0 ok e
def XH (ok:gK P w H h)(e:H a=some (.dK kvs)):kvs.length<=sizeLine/\(a==sysModules)=false/\∃vs,KV kvs vs/\h.DictOf (lX P w) a vs:=Ku ok (.inl e)
def K9 (ok:gK P w H h)(e:H a=some (.tup (ks.map kV))):(tupleKind (lX P w)).is h ks a:=by
 obtain⟨_,its,r,o,h1,h2,n,h3⟩:=(show gM P w H h a (.tup (ks.map kV)) from ok a _ e);exact⟨o,its.toArray,n,h1,h2,h3,by simpa using Yz r⟩
def Kv (ok:gK P w H h)(e:Rd H a (.dT kvs)):kvs.length<=sizeLine/\(a==sysModules)=false/\
  ∃xs,KT H kvs xs/\h.DictOfH (tupleKind (lX P w)) a xs:=by
 obtain⟨z,y,xs,r,o,es,ep,h1,h2,h3,h4,h5⟩:=(show gM P w H h a (.dT kvs) from zi0 ok e);refine⟨z,y,xs,r,o,es,ep,h1,h2,h3,h4,fun x hx=>?_,h5⟩;have all:∀{l:List (List Key×V)} {m:List (List Key×Addr×Value)},KT H l m->∀x∈m,(tupleKind (lX P w)).is h x.1 x.2.1:=by
  intro l m q
  induction q with
  |nil=>intro x hx;exact nomatch hx
  | @cons p q ps qs hq t ih=>
   intro x hx;rcases xaz.mp hx with e |hx
   .subst e;exact K9 ok (by rw[<-hq.1];exact hq.2.1)
   .exact ih x hx
 exact all r x hx
def zkU (ok:gK P w H h)(e:H a=some (.dT kvs)):kvs.length<=sizeLine/\(a==sysModules)=false/\
 ∃xs,KT H kvs xs/\h.DictOfH (tupleKind (lX P w)) a xs:=Kv ok (.inl e)
end
def nQ (H:Hp)(a:Addr)(y:V)(r:Option V):Prop:=
 (∃kvs k,Rd H a (.dK kvs)/\y=kV k/\r=gR kvs k)\/∃kvs k b,Rd H a (.dT kvs)/\y=.ref b/\H b=some (.tup (k.map kV))/\r=gR kvs k
def wJ (H:Hp)(a:Addr)(y v:V)(H':Hp):Prop:=
 (∃kvs k,H a=some (.dK kvs)/\y=kV k/\kvs.length<sizeLine/\H'=upd H a (.dK (putK kvs k v)))\/
 ∃kvs k b,H a=some (.dT kvs)/\y=.ref b/\H b=some (.tup (k.map kV))/\kvs.length<sizeLine/\H'=upd H a (.dT (putK kvs k v))
theorem nQ.k {H:Hp}{a:Addr}{kvs:List (Key×V)}{k:Key}(e:H a=some (.dK kvs)):nQ H a (kV k) (gR kvs k):=.inl ⟨kvs,k,.inl e,rfl,rfl⟩
theorem wJ.k {H:Hp}{a:Addr}{kvs:List (Key×V)}{k:Key}{v:V}(e:H a=some (.dK kvs))(hl:kvs.length<sizeLine):wJ H a (kV k) v (upd H a (.dK (putK kvs k v))):=.inl ⟨kvs,k,e,rfl,hl,rfl⟩
section
variable {X:Cx}{pins:Pnx}{Z:St}{H:Hp}{s:Shared}{a:Addr}{y v:V}{u r:Value}{o:Option V}{A:Around}{E:Vsp}
def Inv.big (I:Inv X pins Z H s):sysModules<s.heap.objs.size:=by
 have h:mainGlobals<s.heap.objs.size:=(I.mod.glob.keeps I.bk).lt;exact xeb (by decide) h
def wW {Q:Vsp}(hu:A.units+1<cLine)(I:Inv X pins Z H s)(g:nQ H a y o)(ry:RelV y u)(h:∀s',Inv X pins Z H s'->Q (.bool o.isSome) s'):
  wpAny (model X.prog X.w) A (compareOp .In u (.ref a)) Q E s:=by
 rcases g with⟨kvs,k,e,ey,l⟩ |⟨kvs,k,b,e,ey,eb,l⟩
 .subst ey;obtain⟨z,hd,vs,rel,dd⟩:=Ku I.hok e;refine wpAny_in_of (zp ry) hd dd.mapOf ?_;rw[<-(rel.val k).isSome_eq, <-l];exact h _ (I.tok _)
 .subst ey;cases (show u=Value.ref b from ry);obtain⟨z,hd,xs,rel,dd⟩:=Kv I.hok e;refine wpAny_in_heap (xdr hu) (K9 I.hok eb) hd dd ?_;have q:=(rel.val k).isSome_eq;rw[xeg]at q;rw[<-q, <-l];exact h _ (I.tok _)
def QX (I:Inv X pins Z H s)(mu:Fw (H a))(hs:Heap.SameBut a s.heap h')(he:∃q,h'.get? a=some q)(new:gM X.prog X.w (upd H a ob) h' a ob):
  Inv X pins Z (upd H a ob) {s with heap:=h',toks:=t'}:=
 I.write (x:=a) (e:=a) mu (.inl rfl) (fun b q hb z=>(hs.2 b hb).trans z) he new
def Q6 (z:kvs.length<=sizeLine)(hd:(a==sysModules)=false)(rel:KV kvs vs)(dd:h'.DictOf (lX P w) a vs):
 gM P w H' h' a (.dK kvs):=⟨z,hd,vs,rel,dd⟩
def zdy (hu:A.units+1<cLine)(I:Inv X pins Z H s)(g:wJ H a y v H')(ry:RelV y u)(rv:RelV v r)(h:∀s',Inv X pins Z H' s'->Q () s'):
  wpAny (model X.prog X.w) A (setItem (.ref a) u r) Q E s:=by
 rcases g with⟨kvs,k,e,ey,l,eH⟩ |⟨kvs,k,b,e,ey,eb,l,eH⟩
 .subst ey eH;obtain⟨z,hd,vs,rel,dd⟩:=XH I.hok e;have hz:vs.length<=sizeLine:=by rw[<-rel.length];exact z
  have hl:(putK kvs k v).length<=sizeLine:=by have:=R6 kvs k v;lia
  refine wpAny_setItem_pairs (hsz:=hz) (zp ry) dd fun h' dd' hs=>h _ ?_;have he:∃q,h'.get? a=some q:=let ⟨q,_,_,hq,_⟩:=dd';⟨q,hq⟩
  exact QX I (by rw[e];exact True.intro) hs he (Q6 hl hd (rel.put k rv) dd')
 .subst ey eH;cases (show u=Value.ref b from ry);obtain⟨z,hd,xs,rel,dd⟩:=zkU I.hok e;have hz:xs.length<=sizeLine:=by rw[<-xdt rel];exact z
  have hl:(putK kvs k v).length<=sizeLine:=by have:=R6 kvs k v;lia
  refine wpAny_setItem_heap (hsz:=hz) (xdr hu) (K9 I.hok eb) dd fun h' dd' hs=>h _ ?_;obtain⟨q,es,ep,hq,h2,h3,h4,_,h5⟩:=dd';refine QX I (by rw[e];exact True.intro) hs ⟨q,hq⟩ ⟨hl,hd,_,(rel.put k eb rv).keeps fun c ys ec=>?_,q,es,ep,hq,h2,h3,h4,h5⟩;rw[eN (zlr ec e (fun z=>nomatch z))]
  exact ec
end
def Fy (i:Expr):Prop:=∀ov iv,subscripted i false ov iv=operate [ov,iv] (getItem ov iv)
def zfE {prog:Program}{w:World}{A:Around}{E:Vsp}{s:Shared}{env:Env}{value slice:Expr}{pos:Pos}{T id:String}{Q:Vsp}
  (hl:typeLookup (.type T) "__getitem__"=pure (some (.builtin id))) (hs:Fy slice)
  (h:wpAny (model prog w) A (eval value env) (fun o s₁=>wpAny (model prog w) A (eval slice env) (fun i s₂=>s₂.TypeIs o T/\wpAny (model prog w) A (getItem o i) Q E s₂) E s₁) E s):
  wpAny (model prog w) A (eval (.Subscript value slice pos) env) Q E s:=by
 refine Subscript_ (xbc h (fun o s₁ h₁=>xbc h₁ (fun i s₂ h₂=>?_) fun _ _ x=>x) fun _ _ x=>x);obtain⟨hT,h₂⟩:=h₂;unfold subscriptTail;refine xab ?_;rw[getitemInPython_of_ne hT.not_modules];refine xab (xdb hT hl ?_);have fin:wpAny (model prog w) A (subscripted slice false o i) (fun r s₃=>wpAny (model prog w) A (letTemporaryGo value o r >>=fun _=>pure r) Q E s₃) E s₂:=by
  rw[hs o i];exact wpAny_operating (xbc h₂ (fun r s₃ h₃=>xab (wpAny_letTemporaryGo (xan h₃))) fun _ _ x=>x)
 first
  |exact xan (xab fin)
  |exact xab (xan (xab fin))
  |exact xab fin
def Jw (ty td:TE):TE:=fun Z H Q=>ty Z H fun y H1=>td Z H1 fun x H2=>∃a o,x=.ref a/\nQ H2 a y o/\Q (.bl o.isSome) H2
def zgg (ty td:TE):TE:=fun Z H Q=>ty Z H fun y H1=>td Z H1 fun x H2=>∃a o,x=.ref a/\nQ H2 a y o/\Q (.bl (!o.isSome)) H2
def zl4 (td ty tv:TE):TS:=fun D Z H=>tv Z H fun v H1=>td Z H1 fun x H2=>ty Z H2 fun y H3=>∃a H4,x=.ref a/\wJ H3 a y v H4/\D.nx Z H4
section
variable {X:Cx}{o i value:Expr}{pos pos':Pos}{td ty tv:TE}
def zgS (hu:X.A.units+1<cLine)(hi:PE X i ty)(ho:PE X o td):PC X .In i o (Jw ty td):=by
 fen_go;refine aW (hi pins s Z H _ I h) fun iv s1 ⟨y,H1,I1,ry,q1⟩=>aW (ho pins s1 Z H1 _ I1 q1) fun u s2 ⟨x,H2,I2,rx,a,ov,ex,g,q2⟩=>?_;subst ex;obtain rfl:u=Value.ref a:=rx;exact wW hu I2 g ry fun s3 I3=>⟨.bl ov.isSome,H2,I3,rfl,q2⟩
def zfR (hu:X.A.units+1<cLine)(ho:PE X o td)(hi:PE X i ty)(hv:PE X value tv)(hs:swapsWith value (some (.Subscript o i pos')) pos.line X.env=pure false):
  PS X (.Assign [.Subscript o i pos'] value pos) (zl4 td ty tv):=by
 tb_src;refine wpAny_Assign_Subscript (aW (hv pins s Z H _ I h) fun r s1 ⟨v,H1,I1,rv,q1⟩=>aW (ho pins s1 Z H1 _ I1 q1) fun u s2 ⟨x,H2,I2,rx,q2⟩=>aW (hi pins s2 Z H2 _ I2 q2) fun iv s3 ⟨y,H3,I3,ry,a,H4,ex,g,q3⟩=>?_) hs;subst ex;obtain rfl:u=Value.ref a:=rx;exact zdy hu I3 g ry rv fun s4 I4=>⟨Z,H4,I4,q3⟩
end
def XD (h:Heap)(hb:sysModules<h.objs.size):gM P w H (h.push {cls:=.type "dict",data:=.dict #[]}) h.objs.size (.dK []):=
 ⟨xbP _,xbv.mpr (xbw (xaM hb)),[],.nil,Heap.DictOf.new h⟩
def zjr:TE:=fun _ H Q=>∀p,H p=none->Q (.ref p) (upd H p (.dK []))
section
variable {X:Cx}{pos:Pos}
def zet:PE X (.Dict [] [] pos) zjr:=fun pins s Z H Q I h=>
 wpAny_Dict_empty ⟨.ref s.heap.objs.size,_,I.laid (a:=s.heap.objs.size) (o:=.dK []) (t':=s.toks) (fun _ _ q=>xad _ q) (xag _) (XD s.heap I.big),rfl,h _ (I.hok.fresh (xag _))⟩
end
def Ou:List (TE×TE)->St->Hp->(List (V×V)->Hp->Prop)->Prop
 | [],_,H,Q=>Q [] H
 |(tk,tv)::r,Z,H,Q=>tk Z H fun x H1=>tv Z H1 fun y H2=>Ou r Z H2 fun ps H3=>Q ((x,y)::ps) H3
abbrev VV:List (V×V)->List (Value×Value)->Prop:=Paired fun p q=>RelV p.1 q.1/\RelV p.2 q.2
def FJ (X:Cx)(pos:Pos)(keys:List (Option Expr))(values:Lex)(trs:List (TE×TE)):Prop:=
 ∀(pins:Pnx) (s:Shared) (Z:St) (H:Hp) (Q:List (V×V)->Hp->Prop),Inv X pins Z H s->Ou trs Z H Q->
  wpAny (model X.prog X.w) X.A (evalPairs (pairTrees keys values X.env pos)) (fun vs s'=>∃ps H',Inv X pins Z H' s'/\VV ps vs/\Q ps H') X.xe s
def zgl:FJ X pos [] [] []:=fun pins s Z H Q I h=>pairTrees_nil_walk ⟨[],H,I,.nil,h⟩
def zez (hk:PE X k tk)(hv:PE X v tv)(hr:FJ X pos ks vs trs):
  FJ X pos (some k::ks) (v::vs) ((tk,tv)::trs):=fun pins s Z H Q I h=>
 pairTrees_cons_walk (aW (hk pins s Z H _ I h) fun u s1 ⟨x,H1,I1,rx,q1⟩=>aW (hv pins s1 Z H1 _ I1 q1) fun w2 s2 ⟨y,H2,I2,ry,q2⟩=>
  aW (hr pins s2 Z H2 _ I2 q2) fun ws s3 ⟨ps,H3,I3,rel,q3⟩=>⟨(x,y)::ps,H3,I3,.cons ⟨rx,ry⟩ rel,q3⟩)
def Ak (kvs more:List (Key×V)):List (Key×V):=more.foldl (fun acc kv=>putK acc kv.1 kv.2) kvs
def KV.merge:∀{more:List (Key×V)} {rs:List (Key×Value)} {kvs:List (Key×V)} {vs:List (Key×Value)},KV more rs->KV kvs vs->KV (Ak kvs more) (merged vs rs):=by
 intro more rs kvs vs r;unfold KV at r
 induction r generalizing kvs vs with
 |nil=>intro q;exact q
 | @cons p q ps qs h t ih=>
  intro r0;have e:KV (putK kvs p.1 p.2) (stored vs q.1 q.2):=by
   have:=r0.put p.1 h.2;rw[<-h.1];exact this
  exact ih e
theorem Y6:∀(more kvs:List (Key×V)),(Ak kvs more).length<=kvs.length+more.length
 | [],kvs=>by show kvs.length<=kvs.length+0;lia
 |p::r,kvs=>by
  have h1:=Y6 r (putK kvs p.1 p.2);have h2:=R6 kvs p.1 p.2;show(Ak (putK kvs p.1 p.2) r).length<=_;rw[xae];lia
theorem W5:∀{kvs:List (Key×V)} {ws:List (Value×Value)},VV (kvs.map fun kv=>(kV kv.1,kv.2)) ws->∃rs,Carries (lX P w) ws rs/\KV kvs rs
 | [],_,r=>by rw[xbE]at r;cases r;exact⟨[],True.intro,.nil⟩
 |p::kvs,_,r=>by
  rw[xai]at r
  cases r with
  | @cons a b as bs h t=>
   obtain⟨rs,c,q⟩:=W5 (P:=P) (w:=w) t;obtain⟨b1,b2⟩:=b;exact⟨(p.1,b2)::rs,⟨zp h.1,rfl,c⟩,.cons ⟨rfl,h.2⟩ q⟩
def zlI (trs:List (TE×TE)):TE:=fun Z H Q=>∀p,H p=none->Ou trs Z (upd H p (.dK [])) fun ps H2=>H2 p=some (.dK [])/\∃kvs:List (Key×V),ps=kvs.map (fun kv=>(kV kv.1,kv.2))/\kvs.length<=15/\Q (.ref p) (upd H2 p (.dK (Ak [] kvs)))
def zgK (h:FJ X pos keys values trs)(hall:keys.all (·.isSome)=true)(hl:keys.length=values.length)(h0:keys≠ [])
  (h15:keys.length<=15):PE X (.Dict keys values pos) (zlI trs):=by
 intro pins s Z H Q I q;have hn:=I.hok.fresh (xag s.heap.objs.size);have I1:=I.laid (a:=s.heap.objs.size) (o:=.dK []) (h':=s.heap.push {cls:=.type "dict",data:=.dict #[]}) (t':=s.toks) (fun _ _ q=>xad _ q) (xag _) (XD s.heap I.big);refine wpAny_Dict_walk (knd:=lX X.prog X.w) hall hl h0 h15 (aW (h pins _ Z _ _ I1 (q _ hn)) fun ws s2 ⟨ps,H2,I2,rel,e,kvs,ep,lk,q2⟩=>?_);subst ep;obtain⟨rs,c,rk⟩:=W5 (P:=X.prog) (w:=X.w) rel;obtain⟨z,hd,vs0,r0,dd⟩:=XH I2.hok e;cases r0;refine⟨rs,c,dd,fun h' dd' hs=>⟨.ref s.heap.objs.size,_,?_,rfl,q2⟩⟩;have hz:(Ak [] kvs).length<=sizeLine:=by
  have h1:=Y6 kvs [];rw[xa6]at h1;rw[xay];lia
 have he:∃q,h'.get? s.heap.objs.size=some q:=let ⟨q,_,_,hq,_⟩:=dd';⟨q,hq⟩
 exact QX I2 (by rw[e];exact True.intro) hs he (Q6 hz hd (rk.merge .nil) dd')
structure M1 (X:Cx)(o:Expr)(m:Str)(apos:Pos)(e:Expr)(cpos:Pos):Prop where
 base:attributeBase o m X.env (eval o X.env)=eval o X.env
 few:((backTo cpos (starEach [e] X.env)).all (fun x=> !x.1)&&(backToKw cpos (keywordEach [] X.env)).all (fun x=>x.1.isSome)
  && decide (([e]:Lex).length+([]:List Keyword).length+(if ([]:List Keyword).isEmpty then 0 else 1)<30))=true
 line:(apos.endLine==cpos.line)=true
 trees:backTo cpos (starEach [e] X.env)=[(false,eval e X.env)]
structure M2 (X:Cx)(o:Expr)(m:Str)(apos:Pos)(e f:Expr)(cpos:Pos):Prop where
 base:attributeBase o m X.env (eval o X.env)=eval o X.env
 few:((backTo cpos (starEach [e,f] X.env)).all (fun x=> !x.1)&&(backToKw cpos (keywordEach [] X.env)).all (fun x=>x.1.isSome)
  && decide (([e,f]:Lex).length+([]:List Keyword).length+(if ([]:List Keyword).isEmpty then 0 else 1)<30))=true
 line:(apos.endLine==cpos.line)=true
 trees:backTo cpos (starEach [e,f] X.env)=[(false,eval e X.env),(false,eval f X.env)]
def Wu (H:Hp)(a:Addr):Prop:=(∃kvs,Rd H a (.dK kvs))\/∃kvs,Rd H a (.dT kvs)
def zjO (I:Inv X pins Z H s)(d:Wu H a):
  s.TypeIs (.ref a) "dict"/\(∀b,Value.ref a=.ref b->∃ob,s.heap.get? b=some ob/\ob.dict=none)/\(a==sysModules)=false:=by
 rcases d with⟨kvs,e⟩ |⟨kvs,e⟩
 .obtain⟨_,hd,vs,_,dd⟩:=Ku I.hok e;refine⟨dd.typeIs,fun b q=>?_,hd⟩;cases q;obtain⟨ob,_,_,h1,h2,_⟩:=dd;exact⟨ob,h1,h2.2.1⟩
 .obtain⟨_,hd,xs,_,dd⟩:=Kv I.hok e;refine⟨dd.typeIs,fun b q=>?_,hd⟩;cases q;obtain⟨ob,_,_,h1,h2,_⟩:=dd;exact⟨ob,h1,h2.2.1⟩
section
variable {X:Cx}{pins:Pnx}{Z:St}{H:Hp}{s:Shared}{a:Addr}{y d:V}{u r:Value}{o:Option V}{A:Around}{E:Vsp}
def zhl (hu:A.units+1<cLine)(I:Inv X pins Z H s)(g:nQ H a y o)(ry:RelV y u)(rd:RelV d r)(h:∀w' s',Inv X pins Z H s'->RelV (o.getD d) w'->Q w' s'):
  wpAny (model X.prog X.w) A (call (.builtin "dict.get") [.ref a,u,r]) Q E s:=by
 rcases g with⟨kvs,k,e,ey,l⟩ |⟨kvs,k,b,e,ey,eb,l⟩
 .subst ey;obtain⟨z,hd,vs,rel,dd⟩:=Ku I.hok e;refine call_meetsIn xdS dd.typeIs F.entry_dict_get (F.args_dict_get_3 _ _ _) (meets_dict_get_default (lX X.prog X.w) a (zp ry) hd r) ⟨_,dd.mapOf,h _ _ (I.tok _) ?_⟩;rw[l];exact(rel.val k).getD rd
 .subst ey;cases (show u=Value.ref b from ry);obtain⟨z,hd,xs,rel,dd⟩:=Kv I.hok e;refine call_meetsIn xdS dd.typeIs F.entry_dict_get (F.args_dict_get_3 _ _ _) (meetsH_dict_get_default (tupleKind (lX X.prog X.w)) a b hd r) ⟨xdr hu,k,xs,K9 I.hok eb,dd,h _ _ (I.tok _) ?_⟩;rw[l];exact(rel.val k).getD rd
end
def zh6 (td ty tx:TE):TE:=fun Z H Q=>td Z H fun x H1=>∃a,x=.ref a/\Wu H1 a/\ty Z H1 fun y H2=>tx Z H2 fun z H3=>∃o,nQ H3 a y o/\Q (o.getD z) H3
section
variable {X:Cx}{o e f:Expr}{apos cpos:Pos}{td ty tx:TE}
def zew (hu:X.A.units+1<cLine)(ho:PE X o td)(he:PE X e ty)(hf:PE X f tx)(m:M2 X o "get" apos e f cpos):PE X (.Call (.Attribute o "get" apos) [e,f] [] cpos) (zh6 td ty tx):=by
 fen_go;refine wpAny_Call_method m.base m.few m.line F.plainAttrs_dict xdS F.type_dict_get (aW (ho pins s Z H _ I h) fun u s1 ⟨x,H1,I1,rx,a,ex,d,q1⟩=>?_);subst ex;obtain rfl:u=Value.ref a:=rx;obtain⟨t1,t2,_⟩:=zjO I1 d;refine⟨t1,t2,?_⟩;rw[m.trees];refine xcQ rfl (Calls.evalArgs_plain (xdo (aW (he pins s1 Z H1 _ I1 q1) fun iv s2 ⟨y,H2,I2,ry,q2⟩=>
  xdo (aW (hf pins s2 Z H2 _ I2 q2) fun fv s3 ⟨z,H3,I3,rz,ov,g,q3⟩=>Calls.spliced_nil ?_))))
 exact zhl hu I3 g ry rz fun w' s4 I4 rw'=>⟨_,H3,I4,rw',q3⟩
end
end L2
namespace Att
open PySem PySem.W PySem.Calls PyProof.Rows
end Att
namespace L2
noncomputable def Its (z:Str):It:=⟨fun i _=>i<z.cps.size,fun i H x H'=>H'=H/\∃c,z.cps[i]? =some c/\x=.str ⟨#[c]⟩,fun i _=>i=z.cps.size⟩
def ziX (hQ:Q () s):wpAny M A (letOwnedTupleGo tg (.ref it) (.str x t)) Q E s:=by
 unfold letOwnedTupleGo;cases tg<;>exact xan hQ
def zb6 {P:Program}{w:World}{K:Fgx}{tg:Expr}{ty:String}{z:Str}{t:Tok}{it:Addr}
  (W:∀A:Around,A.handled=none->Walks P w A it [it] [it] z.cps.size (SignAt z) (fun i h=>h.IsStrIter it ty z t i))
  (hself:∀(A:Around) (i:Nat) (s:Shared) (Q:Vsp) (E:Vsp),s.heap.IsStrIter it ty z t i->Q (.ref it) s->wpAny (model P w) A (pyIter (.ref it)) Q E s):
  Turn P w K tg (Its z) [it] it (fun i h=>h.IsStrIter it ty z t i) where
 mem:=by simp
 obj:=fun i h st b hb=>by
  have e:b=it:=by simpa using hb
  o_inst
 keep:=fun i h h' st k=>by
  obtain⟨o,e,c,d⟩:=st;exact⟨o,k it (by simp) o e,c,d⟩
 item:=by
  l_out;k_same;refine(W X.A (I.ok.hd hc)).item i s _ _ hg st fun v h' tk hv st' kk=>?_;obtain⟨c,u,hcc,rfl⟩:=hv;have I1:Inv X pins Z H {s with heap:=h',toks:=tk}:=I.turned (fun b o hb e=>kk b o (by simpa using hb) e) f0 f1 f3 f4 f5;exact⟨_,rfl,ziX ⟨.str ⟨#[c]⟩,H,I1,⟨_,rfl⟩,⟨rfl,c,hcc,rfl⟩,st',fun b hb=>(hf b hb).1⟩⟩
 done:=by
  l_out;have hg':i=z.cps.size:=hg;subst hg';k_same;exact(W X.A (I.ok.hd hc)).done s _ _ st fun h' tk kk=>⟨rfl,I.turned (fun b o hb e=>kk b o (by simpa using hb) e) f0 f1 f3 f4 f5⟩
 self:=fun A i s Q E st q=>hself A i s Q E st q
section
variable {X:Cx}{tg:Expr}
def Ry (tl:TE):TI:=fun Z H R=>tl Z H fun x H1=>∃z,x=.str z/\R (Its z) H1
def zht {l:Expr}{tl:TE}(hl:PE X l tl):PI X tg l (Ry tl):=by
 intro pins s Z H R I h;refine aW (hl pins s Z H _ I h) fun v s1 ⟨x,H1,I1,r1,q1⟩=>?_;obtain⟨z,e,q⟩:=q1;subst e;obtain⟨t,e⟩:=r1;subst e;have fp:∀b∈ [s1.heap.objs.size],lN X pins H1 b:=fun b hb=>by
  have e:b=s1.heap.objs.size:=by simpa using hb
  subst e;exact I1.fpOk (xag _) (I1.hok.fresh (xag _))
 cases ha:z.cps.all (· <128)
 .refine wpAny_pyIter_wide ha ?_;exact⟨s1.heap.objs.size,[s1.heap.objs.size],_,_,H1,rfl,I1.kept (t':=s1.toks) fun b o e=>xad _ e,
   zb6 (ty:="str_iterator") (z:=z) (t:=t) (fun A hA=>Walks.strWide hA _ z t) (fun _ _ _ _ _ st q=>wpAny_pyIter_striter_wide st q),⟨_,xaJ _ rfl,rfl,rfl⟩,fp,q⟩
 .refine wpAny_pyIter_ascii ha ?_;exact⟨s1.heap.objs.size,[s1.heap.objs.size],_,_,H1,rfl,I1.kept (t':=s1.toks) fun b o e=>xad _ e,
   zb6 (ty:="str_ascii_iterator") (z:=z) (t:=t) (fun A hA=>Walks.strAscii hA _ z t) (fun _ _ _ _ _ st q=>wpAny_pyIter_striter_ascii st q),⟨_,xaJ _ rfl,rfl,rfl⟩,fp,q⟩
end
def za8:∀{us:Lvx},Vals (ys.map V.str) us->StrsAre us ys:=by
 induction ys with
 |nil=>intro us r;rw[xbE]at r;cases r;exact .nil
 |cons n ns ih=>
  intro us r;rw[xai]at r
  cases r with
  |cons r1 r2=>
   obtain⟨t,e⟩:=r1;subst e;exact .cons n t (ih r2)
section
variable {X:Cx}
def rJoin (K:Fgx):V->List V->Hp->VK->Prop:=fun x vs H Q=>∃z l ys,x=.str z/\vs=[.ref l]/\gn K H l (ys.map V.str)/\z.length<=16/\(ys.map (·.length)).sum+ys.length<=1048576/\Q (.str (Txt.join z ys)) H
def Cd:zW X "str.join" (rJoin X.K):=by
 kt_str;obtain⟨z,l,ys,rfl,rfl,hq,h1,h2,q⟩:=h;k_acc1;obtain⟨u,rfl,ru⟩:=rv.one;cases ru;obtain⟨its,r,pl,hz⟩:=I.list hq;exact join_listW pl.isList (by simpa using za8 r) h1 h2 fun t' k=>⟨.str _,H,I.tok _,⟨_,rfl⟩,q⟩
def Uq:V->Oix->Oix->Hp->VK->Prop:=fun x lo hi H Q=>∃z,x=.str z/\z.length<=sizeLine/\Q (.str (Txt.slice z lo hi)) H
def zhH:zX X Uq:=by
 intro pins s Z H x v vl vu lo hi sl Q I rx hs pl pu h;obtain⟨z,rfl,hz,q⟩:=h;k_acc1;refine⟨"str",_,F.slot_str_getitem.lookup,typeIs_str _ _ _,?_⟩;obtain⟨o,ho,hc,hd⟩:=hs;cases pl<;>cases pu
 .exact xcl (l:=none) (u:=none) (st:=none) ⟨o,ho,hc,hd⟩ rfl (xdc ⟨xaN (xdJ z none none) hz,fun t' k=>⟨.str _,H,I.tok _,⟨_,rfl⟩,q⟩⟩)
 .rename_i j uj;exact xcl (l:=none) (u:=some (j,uj)) (st:=none) ⟨o,ho,hc,hd⟩ rfl (xdc ⟨xaN (xdJ z none (some j)) hz,fun t' k=>⟨.str _,H,I.tok _,⟨_,rfl⟩,q⟩⟩)
 .rename_i i ui;exact xcl (l:=some (i,ui)) (u:=none) (st:=none) ⟨o,ho,hc,hd⟩ rfl (xdc ⟨xaN (xdJ z (some i) none) hz,fun t' k=>⟨.str _,H,I.tok _,⟨_,rfl⟩,q⟩⟩)
 .rename_i i ui j uj;exact xcl (l:=some (i,ui)) (u:=some (j,uj)) (st:=none) ⟨o,ho,hc,hd⟩ rfl (xdc ⟨xaN (xdJ z (some i) (some j)) hz,fun t' k=>⟨.str _,H,I.tok _,⟨_,rfl⟩,q⟩⟩)
def zih:gj X (compareOp .Is) (fun x y H Q=>∃b,y=.bl b/\Q (.bl (decide (x=.bl b))) H):=by
 w_why;obtain⟨b,rfl,q⟩:=h;cases ry
 cases x with
 |bl c=>cases rx;exact xan (fU I q (by cases b<;>cases c<;>rfl))
 |non=>cases rx;exact xan (fU I q (by simp))
 |int _=>obtain⟨t,rfl⟩:=rx;exact xan (fU I q (by simp))
 |str _=>obtain⟨t,rfl⟩:=rx;exact xan (fU I q (by simp))
 |byt _=>obtain⟨t,rfl⟩:=rx;exact xan (fU I q (by simp))
 |flt _=>obtain⟨t,rfl⟩:=rx;exact xan (fU I q (by simp))
 |ref _=>cases rx;exact xan (fU I q (by simp))
 |ty _=>cases rx;exact xan (fU I q (by simp))
def zcZ:gj X (compareOp .IsNot) (fun x y H Q=>∃b,y=.bl b/\Q (.bl (!decide (x=.bl b))) H):=by
 w_why;obtain⟨b,rfl,q⟩:=h;cases ry
 cases x with
 |bl c=>cases rx;exact xan (fU I q (by cases b<;>cases c<;>rfl))
 |non=>cases rx;exact xan (fU I q (by simp))
 |int _=>obtain⟨t,rfl⟩:=rx;exact xan (fU I q (by simp))
 |str _=>obtain⟨t,rfl⟩:=rx;exact xan (fU I q (by simp))
 |byt _=>obtain⟨t,rfl⟩:=rx;exact xan (fU I q (by simp))
 |flt _=>obtain⟨t,rfl⟩:=rx;exact xan (fU I q (by simp))
 |ref _=>cases rx;exact xan (fU I q (by simp))
 |ty _=>cases rx;exact xan (fU I q (by simp))
def range_all (bs:List Bool):(List.range bs.length).all (fun i=>(bs[i]?).getD false)=bs.all id:=by
 rw[xaP,xaX,xaX]
 constructor
 .intro h b hb;obtain⟨i,hi,e⟩:=xbQ.mp hb;have:=h i (xbJ.mpr hi);rw[xaj hi,e]at this;exact this
 .intro h i hi;have hi':=xbJ.mp hi;rw[xaj hi'];exact h _ (xbz hi')
def range_any (bs:List Bool):(List.range bs.length).any (fun i=>(bs[i]?).getD false)=bs.any id:=by
 rw[xaP,List.any_eq_true,List.any_eq_true]
 constructor
 .rintro⟨i,hi,h⟩;have hi':=xbJ.mp hi;rw[xaj hi']at h;exact⟨_,xbz hi',h⟩
 .rintro⟨b,hb,h⟩;obtain⟨i,hi,e⟩:=xbQ.mp hb;refine⟨i,xbJ.mpr hi,?_⟩;rw[xaj hi,e];exact h
def WY {bs:List Bool}{its:Lvx}(r:Vals (bs.map V.bl) its){i:Nat}{v:Value}(h:its.toArray[i]? =some v):v=.bool ((bs[i]?).getD false):=by
 have h':its[i]? =some v:=by simpa using h
 have hl:=r.length;rw[xah]at hl;have hi:i<bs.length:=by
  have:=(xao.mp h').1;lia
 have hx:(bs.map V.bl)[i]? =some (V.bl bs[i]):=by rw[xau,xaj hi];rfl
 obtain⟨u,hu,ru⟩:=r.get hx;rw[h']at hu;cases hu;rw[xaj hi];exact ru
def QB (hc:X.calm=true):nP X (.builtin "all") (fun xs H Q=>∃(p:Addr) (bs:List Bool),xs=[.ref p]/\gn X.K H p (bs.map V.bl)/\Q (.bl (bs.all id)) H):=by
 kt_chr;obtain⟨p,bs,rfl,hq,q⟩:=h;obtain⟨u,rfl,ru⟩:=vals1 r;cases ru;obtain⟨its,rv,pl,hz⟩:=I.list hq;have hp:p<s.heap.objs.size:=by obtain⟨o,ho,_⟩:=pl.isList;exact xap ho
 have hn:its.toArray.size=bs.length:=by rw[xal, <-rv.length,xah]
 refine call_all_walk (xcN pl.isList ⟨s.heap.objs.size,_,_,its.toArray.size,_,_,fun i=>(bs[i]?).getD false,rfl,Walks.list (A:=X.A.in1) (show X.A.in1.handled=none from I.ok.hd hc) _ p (xaM hp) its.toArray,
  ⟨⟨_,xaJ _ rfl,rfl,rfl⟩,pl.isList.at fun o e=>xad _ e⟩,fun i v s' Q' E' hv hQ=>?_,fun h' tk kk=>?_⟩)
 .rw[WY rv hv];exact xbl hQ
 .rw[hn,range_all];refine⟨.bl _,H,I.kept fun b o e=>kk b o ?_ (xad _ e),rfl,q⟩;intro z;have z':b=s.heap.objs.size:=by simpa using z
  exact xbf _ (z' ▸ xap e)
def W3 (hc:X.calm=true):nP X (.builtin "any") (fun xs H Q=>∃(p:Addr) (bs:List Bool),xs=[.ref p]/\gn X.K H p (bs.map V.bl)/\Q (.bl (bs.any id)) H):=by
 kt_chr;obtain⟨p,bs,rfl,hq,q⟩:=h;obtain⟨u,rfl,ru⟩:=vals1 r;cases ru;obtain⟨its,rv,pl,hz⟩:=I.list hq;have hp:p<s.heap.objs.size:=by obtain⟨o,ho,_⟩:=pl.isList;exact xap ho
 have hn:its.toArray.size=bs.length:=by rw[xal, <-rv.length,xah]
 refine call_any_walk (xcN pl.isList ⟨s.heap.objs.size,_,_,its.toArray.size,_,_,fun i=>(bs[i]?).getD false,rfl,Walks.list (A:=X.A.in1) (show X.A.in1.handled=none from I.ok.hd hc) _ p (xaM hp) its.toArray,
  ⟨⟨_,xaJ _ rfl,rfl,rfl⟩,pl.isList.at fun o e=>xad _ e⟩,fun i v s' Q' E' hv hQ=>?_,fun h' tk kk=>?_⟩)
 .rw[WY rv hv];exact xbl hQ
 .rw[hn,range_any];refine⟨.bl _,H,I.kept fun b o e=>kk b o ?_ (xad _ e),rfl,q⟩;intro z;have z':b=s.heap.objs.size:=by simpa using z
  exact xbf _ (z' ▸ xap e)
end
section
variable {X:Cx}{pins:Pnx}{Z:St}{H:Hp}{s:Shared}
noncomputable def HS (base h:Heap) (L:Addr):Pnx:=(List.range h.objs.size).filterMap fun b=>if b=L then none else if (base.get? b).isSome then none else(h.get? b).map fun o=>(b,o)
def Zk (hL:b≠L)(hb:base.get? b=none)(e:h.get? b=some o):(b,o)∈HS base h L:=by
 unfold HS;rw[xcE];refine⟨b,xbJ.mpr (xap e),?_⟩;rw[xac hL,hb,e]
 simp
def zbi (hp:p∈HS base h L):h.get? p.1=some p.2/\p.1≠L/\base.get? p.1=none:=by
 unfold HS at hp;rw[xcE]at hp;obtain⟨b,_,e⟩:=hp
 by_cases hL:b=L
 .rw[xaa hL]at e;cases e
 .rw[xac hL]at e
  cases hb:base.get? b with
  |some u=>rw[hb]at e;simp at e
  |none=>
   rw[hb]at e
   cases hh:h.get? b with
   |none=>rw[hh]at e;simp at e
   |some u=>
    rw[hh]at e
    simp at e
    subst e;exact⟨hh,hL,hb⟩
def Inv.but (I:Inv X pins Z H s)(k:∀b o,b≠X.env.locals->s.heap.get? b=some o->h'.get? b=some o)(ns:∀m,s.heap.Ns X.env.locals m->h'.Ns X.env.locals m):Inv X pins Z H {s with heap:=h',toks:=tk}:=by
 have hok:gK X.prog X.w H h':=fun a o e=>(I.hok a o e).stay (fun b u hb q=>k b u (fun z=>by
  subst z;have hn:=I.free;rcases hb with hb |hb
  .rw[<-hb]at e;rw[hn]at e;cases e
  .rw[hn]at hb;cases hb) q) (fun _ q=>q) fun _ _ q=>q
 exact I.step (g':=s.gens) (d':=s.drawn) (ch:=[]) (fun _ z=>nomatch z) (fun b o hL _ _ e _=>k b o hL e) (fun b o hL _ _ e _=>⟨o.slots,k b o hL e⟩) (fun b o _ _ n=>n) (fun b o _ e=>by
  by_cases hL:b=X.env.locals
  .subst hL;obtain⟨m,hn,_⟩:=I.loc;obtain⟨o',_,_,e',_⟩:=ns m hn;exact⟨o',e'⟩
  .exact⟨o,k b o hL e⟩) (fun _ _ q=>q) (fun _ _ _ q=>q) (fun _ ps q=>⟨#[],by simpa using q⟩) ns hok I.bare
def Inv.via (I:Inv X pins Z H s):∃m news,Fr X.base X.env.locals s.heap m/\News X.base X.env.locals s.heap news/\
  (∀b o,b≠X.env.locals->X.base.get? b=none->s.heap.get? b=some o->(b,o)∈news)/\
  ∀(h':Heap) (tk:Nat),Fr X.base X.env.locals h' m->News X.base X.env.locals h' news->(∀b o,b≠X.env.locals->s.heap.get? b=some o->h'.get? b=some o)/\Inv X pins Z H {s with heap:=h',toks:=tk}:=by
 obtain⟨m,F⟩:=I.fr;refine⟨m,HS X.base s.heap X.env.locals,F,fun p hp=>zbi hp,fun b o hL hb e=>Zk hL hb e,fun h' tk F' N'=>?_⟩;have k:∀b o,b≠X.env.locals->s.heap.get? b=some o->h'.get? b=some o:=fun b o hL e=>by
  cases hb:X.base.get? b with
  |some u=>
   have e1:=I.bk b u hb;rw[e]at e1;cases e1;exact F'.keep b o hb
  |none=>exact(N' (b,o) (Zk hL hb e)).1
 refine⟨k,I.but k fun m' hm=>?_⟩;have:m'=m:=by
  obtain⟨o,es,ep,e,d,_,f⟩:=hm;obtain⟨o',es',ep',e',d',_,f'⟩:=F.ns;rw[e]at e';cases e';rw[d]at d';cases d';funext x;rw[<-f x, <-f' x]
 subst this;exact F'.ns
end
section
variable {X:Cx}{pins:Pnx}{Z:St}{H:Hp}{s:Shared}
def Inv.butD (I:Inv X pins Z H s)(k:∀b o,b≠X.env.locals->s.heap.get? b=some o->h'.get? b=some o)(ns:∀m,s.heap.Ns X.env.locals m->h'.Ns X.env.locals m)(ha:s.heap.get? a=none)(hn:H a=none)
  (new:gM X.prog X.w (upd H a o) h' a o):Inv X pins Z (upd H a o) {s with heap:=h',toks:=tk}:=by
 have hok:gK X.prog X.w (upd H a o) h':=fun b u e=>by
  by_cases hb:b=a
  .subst hb;rw[gA]at e;cases e;exact new
  .rw[eN hb]at e;refine(I.hok b u e).stay (fun c v hc q=>k c v (fun z=>?_) q) (fun c q=>by rw[eN (lu q hn)];exact q) fun c xs q=>by rw[eN (lu q hn)];exact q
   subst z;have hf:=I.free;rcases hc with hc |hc
   .rw[<-hc]at e;rw[hf]at e;cases e
   .rw[hf]at hc;cases hc
 have neA:∀b o,s.heap.get? b=some o->b≠a:=fun b o e z=>by rw[z,ha]at e;cases e
 exact I.step (g':=s.gens) (d':=s.drawn) (ch:=[]) (fun _ z=>nomatch z) (fun b o hL _ _ e _=>k b o hL e) (fun b o hL _ _ e _=>⟨o.slots,k b o hL e⟩) (fun b o _ e n=>by rw[eN (neA b o e)];exact n) (fun b o _ e=>by
  by_cases hL:b=X.env.locals
  .subst hL;obtain⟨m,hn,_⟩:=I.loc;obtain⟨o',_,_,e',_⟩:=ns m hn;exact⟨o',e'⟩
  .exact⟨o,k b o hL e⟩) (fun b xs q=>by rw[eN (lu q hn)];exact q) (fun b u xs q=>by rw[eN (lu q hn)];exact q) (fun b ps q=>⟨#[],by rw[eN (lu q hn),q];simp⟩) ns hok I.bare
def zik {h:Heap}{a:Addr}{m m':Mgx}(h1:h.Ns a m)(h2:h.Ns a m'):m'=m:=by
 obtain⟨o,es,ep,e,d,_,f⟩:=h2;obtain⟨o',es',ep',e',d',_,f'⟩:=h1;rw[e]at e';cases e';rw[d]at d';cases d';funext x;rw[<-f x, <-f' x]
theorem gM.get (x:gM P w H h a o):∃u,h.get? a=some u:=by
 cases o with
 |lst xs=>obtain⟨_,_,_,_,e⟩:=x;exact⟨_,e⟩
 |tup xs=>obtain⟨_,_,_,u,e,_⟩:=x;exact⟨_,e⟩
 |dK kvs=>obtain⟨_,_,_,_,o,_,_,e,_⟩:=x;exact⟨_,e⟩
 |dT kvs=>obtain⟨_,_,_,_,o,_,_,e,_⟩:=x;exact⟨_,e⟩
 |set S n=>obtain⟨o,_,_,_,e,_⟩:=x;exact⟨_,e⟩
 |ins C dx fs=>obtain⟨_,_,_,e,_⟩:=x;exact⟨_,e⟩
 |own y=>exact x
 |xd fs=>obtain⟨_,⟨_,_,_,e,_⟩,_⟩:=x;exact⟨_,e⟩
 |rng lo hi=>obtain⟨_,_,_,e⟩:=x;exact⟨_,e⟩
 |frz ob u=>obtain⟨e,_⟩:=x;exact⟨_,e⟩
 |tbl ps=>exact⟨_,x⟩
 |met f y=>exact⟨_,x⟩
 |ext φ=>obtain⟨_,e,_⟩:=x;exact e
def Inv.viaD (I:Inv X pins Z H s):∃m news,Fr X.base X.env.locals s.heap m/\News X.base X.env.locals s.heap news/\
  ∀(h':Heap) (tk:Nat) (D:Addr) (ob:Obj) (o:HO),Fr X.base X.env.locals h' m->News X.base X.env.locals h' ((D,ob)::news)->(∀p∈news,p.1<D)->(∀H',h'.get? D=some ob->gM X.prog X.w H' h' D o)->H D=none/\Inv X pins Z (upd H D o) {s with heap:=h',toks:=tk}:=by
 obtain⟨m,news,F,N,all,back⟩:=I.via;refine⟨m,news,F,N,fun h' tk D ob o F' N' lt new=>?_⟩;obtain⟨eD,neL,nb⟩:=N' (D,ob) xax;have N0:News X.base X.env.locals h' news:=fun p hp=>N' p (xat _ hp);obtain⟨k,I'⟩:=back h' tk F' N0;have ha:s.heap.get? D=none:=by
  cases e:s.heap.get? D with
  |none=>rfl
  |some u=>exact absurd (lt _ (all D u neL nb e)) (xbf _)
 have hn:H D=none:=by
  cases e:H D with
  |none=>rfl
  |some u=>
   obtain⟨v,z⟩:=(I.hok D u e).get;rw[ha]at z;cases z
 exact⟨hn,I.butD k (fun m' hm=>by rw[zik F.ns hm];exact F'.ns) ha hn (new _ eD)⟩
theorem zc3:∀l:List (Str×Tok),Vals ((l.map (·.1)).map V.str) (strValues l)
 | []=>.nil
 |p::l=>.cons ⟨p.2,rfl⟩ (zc3 l)
def ze8:V->List V->Hp->VK->Prop:=fun x vs H Q=>∃z y,x=.str z/\vs=[.str y]/\(y.length==0)=false/\z.length+2<=sizeLine/\∀l,H l=none->Q (.ref l) (upd H l (.lst ((Txt.split z y).map V.str)))
def Ce:zW X "str.split" ze8:=by
 kt_str;obtain⟨z,y,rfl,rfl,h1,h2,q⟩:=h;k_acc1;obtain⟨u,rfl,t',rfl⟩:=rv.one;obtain⟨m,news,F,N,fin⟩:=I.viaD;refine W.KSpl.split1 F N h1 (fun D l h' k e1 _ F' N' lt=>?_) h2;have hl:((l.map (·.1)).map V.str).length<=sizeLine:=by
  rw[xah,e1];exact xaN (PyProof.Rows.split_le z y) h2
 obtain⟨hn,I'⟩:=fin h' k D _ (.lst ((l.map (·.1)).map V.str)) F' N' lt fun H' eD=>⟨hl,strValues l,0,zc3 l,eD⟩;rw[e1]at I';exact⟨.ref D,_,I',rfl,q D hn⟩
def zc9:V->List V->Hp->VK->Prop:=fun x vs H Q=>∃z y,x=.str z/\vs=[.str y]/\Q (.bl (Txt.startswith z y)) H
def zdh:zW X "str.startswith" zc9:=by
 kt_str;obtain⟨z,y,rfl,rfl,q⟩:=h;k_acc1;obtain⟨u,rfl,t',rfl⟩:=rv.one;exact SC.startswith ⟨.bl _,H,I,rfl,q⟩
def zdd:V->List V->Hp->VK->Prop:=fun x vs H Q=>∃z y,x=.str z/\vs=[.str y]/\z.length<=sizeLine/\Q (.str (Txt.lstripChars z y)) H
def zdE:zW X "str.lstrip" zdd:=by
 kt_str;obtain⟨z,y,rfl,rfl,hz,q⟩:=h;k_acc1;obtain⟨u,rfl,t',rfl⟩:=rv.one;exact SC.lstripChars (fun t' k=>⟨.str _,H,I.tok _,⟨_,rfl⟩,q⟩) hz
def Kh:nP X (.type "int") (fun xs H Q=>∃z n,xs=[.str z]/\intText? z=some n/\z.length<=640/\Q (.int n) H):=by
 kt_chr;obtain⟨z,n,rfl,h1,h2,q⟩:=h;obtain⟨u,rfl,t,rfl⟩:=vals1 r;exact W.KIN.call_text h1 h2 ⟨.int n,H,I.tok _,⟨_,rfl⟩,q⟩
end
section
variable {X:Cx}{pins:Pnx}{Z:St}{H:Hp}{s:Shared}{h':Heap}
def Inv.turnedL {t':Nat}{fp:List Addr}(I:Inv X pins Z H s)(k:∀b o,b∉fp->s.heap.get? b=some o->h'.get? b=some o)(hf:∀b∈fp,lN X pins H b):Inv X pins Z H {s with heap:=h',toks:=t'}:=by
 refine I.step (g':=s.gens) (d':=s.drawn) (ch:=fp) (fun b hb=>⟨(hf b hb).2.2.2.1,(hf b hb).2.1,(hf b hb).2.2.2.2.1,(hf b hb).2.2.2.2.2⟩) (fun b o _ _ hc e _=>k b o hc e) (fun b o _ _ hc e _=>⟨o.slots,k b o hc e⟩) (fun _ _ _ _ n=>n)
  (fun b o hc e=>⟨o,k b o hc e⟩) (fun _ _ e=>e) (fun _ _ _ e=>e) (fun b ps e=>⟨#[],by rw[e];simp⟩) (fun m hm=>?_) (fun b u e=>?_) I.bare
 .obtain⟨o,es,ep,ho,r⟩:=hm;exact⟨o,es,ep,k _ o (fun z=>(hf _ z).2.1 rfl) ho,r⟩
 .refine(I.hok b u e).stay (fun c v hc q=>k c v (fun z=>?_) q) (fun _ q=>q) fun _ _ q=>q;have hn:=(hf c z).1;rcases hc with y |y
  .rw[y,e]at hn;cases hn
  .rw[y]at hn;cases hn
def Inv.turnLaid {t':Nat}{fp:List Addr}{T:Addr}{o:HO}(I:Inv X pins Z H s)(k:∀b u,b∉fp->s.heap.get? b=some u->h'.get? b=some u)(hf:∀b∈fp,lN X pins H b)(hp:s.heap.objs.size<=T)(new:gM X.prog X.w (upd H T o) h' T o):
  Inv X pins Z (upd H T o) {s with heap:=h',toks:=t'}:=by
 have hn:H T=none:=I.hok.fresh hp;have neT:∀b u,s.heap.get? b=some u->b≠T:=fun b u e=>xaM (xar (xap e) hp);refine I.step (g':=s.gens) (d':=s.drawn) (ch:=fp) (fun b hb=>⟨(hf b hb).2.2.2.1,(hf b hb).2.1,(hf b hb).2.2.2.2.1,(hf b hb).2.2.2.2.2⟩) (fun b o _ _ hc e _=>k b o hc e) (fun b o _ _ hc e _=>⟨o.slots,k b o hc e⟩) (fun b u _ e n=>by rw[eN (neT b u e)];exact n)
  (fun b o hc e=>⟨o,k b o hc e⟩) (fun b xs e=>by rw[eN (lu e hn)];exact e) (fun b u xs e=>by rw[eN (lu e hn)];exact e) (fun b ps e=>⟨#[],by rw[eN (lu e hn),e];simp⟩) (fun m hm=>?_) (fun b u e=>?_) I.bare
 .obtain⟨o,es,ep,ho,r⟩:=hm;exact⟨o,es,ep,k _ o (fun z=>(hf _ z).2.1 rfl) ho,r⟩
 .by_cases hb:b=T
  .subst hb;rw[gA]at e;cases e;exact new
  .rw[eN hb]at e;refine(I.hok b u e).stay (fun c v hc q=>k c v (fun z=>?_) q) (fun c q=>by rw[eN (lu q hn)];exact q) fun c xs q=>by rw[eN (lu q hn)];exact q
   have hn':=(hf c z).1;rcases hc with y |y
   .rw[y,e]at hn';cases hn'
   .rw[y]at hn';cases hn'
end
def Fv (K:Fgx)(a:Addr):It:=
 ⟨fun i H=>∃xs x,gn K H a xs/\xs[i]? =some x,fun i H x H'=>∃p v,H p=none/\x=.ref p/\H'=upd H p (.tup [.int i,v])/\∀xs,gn K H a xs->xs[i]? =some v,fun i H=>∃xs,gn K H a xs/\xs.length=i⟩
def zcC {P:Program}{w:World}{K:Fgx}{es:Lex}{k:Nat}{pos:Pos}(a e it:Addr)(ne:e≠it):Turn P w K (.Tuple es k pos) (Fv K a) [e,it] e (fun i h=>(∃old,IsEnum h e it i old)/\h.IsListIter it a i) where
 mem:=by simp
 obj:=fun i h st b hb=>by
  obtain⟨⟨old,z⟩,o,e1,e2,e3⟩:=st;rcases xaz.mp hb with rfl |hb
  .exact⟨_,z,fun v y=>by cases y⟩
  .rw[xaG.mp hb];exact⟨o,e1,fun v y=>by rw[e3]at y;cases y⟩
 keep:=fun i h h' st k=>⟨let ⟨old,z⟩:=st.1;⟨old,k e (by simp) _ z⟩,st.2.at fun o z=>k it (by simp) o z⟩
 item:=by
  l_out;obtain⟨xs,x,hq,hx⟩:=hg;obtain⟨its,rv,pl,hz⟩:=I.list hq;have p:=pl.isList;obtain⟨u,hu,ru⟩:=rv.get hx;have nea:a≠it:=fun z=>by
   obtain⟨o,e1,e2,_⟩:=st.2;obtain⟨o',e1',e2',_⟩:=id p;rw[z,e1]at e1';cases e1';rw[e2]at e2';exact absurd e2' (by simp)
  have nee:e∉ [it,a]:=fun z=>by
   rcases xaz.mp z with z |z
   .exact ne z
   .have z:=xaG.mp z;obtain⟨⟨old,y⟩,_⟩:=st;obtain⟨o',e1',e2',_⟩:=id p;rw[<-z,y]at e1';cases e1';exact absurd e2' (by simp)
  have W:=WalksT.enumerateD (Draws.list (prog:=X.prog) (w:=X.w) (A:=X.A.in1) (I.ok.hd hc) it a nea its.toArray) e ne nee (by simp);have hi:i<its.toArray.size:=by
   have:=(xao.mp hu).1
   simpa using this
  refine W.item i s _ _ hi ⟨st.1,st.2,p⟩ fun T vals h' tk hv hT hI hm hk=>?_;obtain⟨t,y,hy,rfl⟩:=hv;have ey:y=u:=by
   have hy':its.toArray[i]? =some y:=hy;rw[show its.toArray[i]? =its[i]? by simp,hu]at hy';exact(xaE hy').symm
  subst ey;refine⟨_,rfl,W.go es k pos i T _ _ _ hm fun h2 st2 hk2=>?_⟩;have kk:∀b o,b∉ [e,it]->s.heap.get? b=some o->h2.get? b=some o:=fun b o hb z=>hk2 b o hb (hk b o hb z);have hT2:h2.IsTuple T #[.int i t,y]:=by
   obtain⟨o,e1,r⟩:=hI;exact⟨o,hk2 T o (W.apart i T _ hm) e1,r⟩
  have I2:Inv X pins Z (upd H T (.tup [.int i,x])) {s with heap:=h2,toks:=tk}:=I.turnLaid kk hf hT ⟨by show 2<=sizeLine;decide,[.int i t,y],.cons ⟨t,rfl⟩ (.cons ru .nil),hT2⟩;have nT:H T=none:=I.hok.fresh hT;refine⟨.ref T,_,I2,rfl,⟨T,x,nT,rfl,rfl,fun ys hys=>by rw[I.list_inj hys hq];exact hx⟩,⟨st2.1,st2.2.1⟩,fun b hb=>?_⟩;rw[eN (fun z=>?_)]
  .exact(hf b hb).1
  .rw[z]at hb;exact W.apart i T _ hm hb
 done:=by
  l_out;obtain⟨xs,hq,hl⟩:=hg;obtain⟨its,rv,pl,hz⟩:=I.list hq;have p:=pl.isList;have nea:a≠it:=fun z=>by
   obtain⟨o,e1,e2,_⟩:=st.2;obtain⟨o',e1',e2',_⟩:=id p;rw[z,e1]at e1';cases e1';rw[e2]at e2';exact absurd e2' (by simp)
  have nee:e∉ [it,a]:=fun z=>by
   rcases xaz.mp z with z |z
   .exact ne z
   .have z:=xaG.mp z;obtain⟨⟨old,y⟩,_⟩:=st;obtain⟨o',e1',e2',_⟩:=id p;rw[<-z,y]at e1';cases e1';exact absurd e2' (by simp)
  have W:=WalksT.enumerateD (Draws.list (prog:=X.prog) (w:=X.w) (A:=X.A.in1) (I.ok.hd hc) it a nea its.toArray) e ne nee (by simp);have hn:its.toArray.size=i:=by rw[xal, <-rv.length,hl]
  refine W.done s _ _ (by rw[hn];exact⟨st.1,st.2,p⟩) fun h' tk hk=>⟨rfl,I.turnedL hk hf⟩
 self:=fun _ i s _ _ st h=>by
  obtain⟨⟨old,y⟩,_⟩:=st;exact wpAny_pyIter_enum y h
section
variable {X:Cx}{es:Lex}{k:Nat}{tpos:Pos}
def zjt (K:Fgx)(ta:TA):TI:=fun Z H R=>ta Z H fun vs H1=>∃a xs,vs=[.ref a]/\gn K H1 a xs/\R (Fv K a) H1
def zdW {a:Expr}{ta:TA}{p pos:Pos}(hg:Gl X "enumerate")(hm:X.mg "enumerate"=none)(ha:PA X [a] ta)(hs:starEach [a] X.env=[(false,eval a X.env)]:=by rfl):PI X (.Tuple es k tpos) (.Call (.Name "enumerate" p) [a] [] pos) (zjt X.K ta):=by
 intro pins s Z H R I h;refine Call_ (D_ I hg hm boot_enumerate (xb1 (aW (ha pos pins s Z H _ I h) fun us s1 ⟨vs,H1,I1,r1,q1⟩=>?_) hs rfl));obtain⟨b,xs,e,hq,q⟩:=q1;subst e;obtain⟨u,e,ru⟩:=vals1 r1;subst e;cases ru;obtain⟨its,rv,pl,hz⟩:=I1.list hq;refine call_enumerate_list pl.isList fun h' e1 e2 _ kp=>?_;refine wpAny_pyIter_enum e1 ?_;refine⟨s1.heap.objs.size+1,[s1.heap.objs.size+1,s1.heap.objs.size],_,_,H1,rfl,I1.kept (t':=s1.toks) kp,zcC b _ _ (Nat.succ_ne_self _),⟨⟨_,e1⟩,e2⟩,fun c hc=>?_,q⟩;have hc':s1.heap.objs.size<=c:=by
  rcases xaz.mp hc with rfl |hc
  .lia
  .rw[xaG.mp hc];exact xag _
 exact I1.fpOk hc' (I1.hok.fresh hc')
end
noncomputable def textV:V->Option Str
 |.str z=>if z.length<=sizeLine then some z else none
 |.int i=>if i.natAbs.log2<1920 then some (toString i) else none
 |_=>none
abbrev TJ:=Str->St->Hp->VK->Prop
def PJ (X:Cx)(vs:Lex)(t:TJ):Prop:=∀(pins:Pnx) (s:Shared) (Z:St) (H:Hp) (out:Str) (Q:VK),Inv X pins Z H s->t out Z H Q->wpAny (model X.prog X.w) X.A (joinParts out (evalEach vs X.env)) (EP X pins Z Q) X.xe s
def RP:TJ:=fun out _ H Q=>out.length<=sizeLine/\Q (.str out) H
def zmb (te:TE)(tj:TJ):TJ:=fun out Z H Q=>te Z H fun v H1=>∃y,textV v=some y/\(out++y).length<=sizeLine/\tj (out++y) Z H1 Q
section
variable {X:Cx}{vs:Lex}{te:TE}{tj:TJ}
def TY:PJ X [] RP:=fun pins s Z H out Q I h=>joinParts_nil ⟨.str out,H,I.tok _,⟨_,rfl⟩,h.2⟩ h.1
def Ml (hv:PJ X vs tj)(hz:z.length<=sizeLine):PJ X (.Constant (.str z) k pos::vs) (fun out Z H Q=>(out++z).length<=sizeLine/\tj (out++z) Z H Q):=fun pins s Z H out Q I h=>by
 refine joinParts_cons (Calls.Constant_str ?_);exact⟨h.1,hv pins _ Z H _ Q (I.tok _) h.2⟩
def T3 (he:PE X e te)(hv:PJ X vs tj):PJ X (.FormattedValue e (-1) none pos::vs) (zmb te tj):=fun pins s Z H out Q I h=>by
 refine joinParts_cons (FormattedValue_plain (aW (he pins s Z H _ I h) fun u s1 ⟨x,H1,I1,r1,y,ey,hl,q⟩=>?_));cases x<;>simp only[textV,reduceCtorEq]at ey
 case int i=>
  split at ey
  .rename_i hd;cases ey;obtain⟨t,rfl⟩:=r1;exact formatField_int_small hd ⟨hl,hv pins _ Z H1 _ Q (I1.tok _) q⟩
  .cases ey
 case str z=>
  split at ey
  .rename_i hz;cases ey;obtain⟨t,rfl⟩:=r1;exact formatField_str (fun t' tk=>⟨hl,hv pins _ Z H1 _ Q (I1.tok _) q⟩) hz
  .cases ey
def TV (h:PJ X (v::w::vs) tj):PE X (.JoinedStr (v::w::vs) pos) (fun Z H Q=>tj Str.empty Z H Q):=fun pins s Z H Q I q=>JoinedStr_many (h pins s Z H _ Q I q)
end
theorem X_ (g:α->β->β):∀(l:List α) (b:β),(∀x∈l,∀b,f x b=pure (.yield (g x b)))->(forIn l b f:Sem β)=pure (l.foldl (fun b x=>g x b) b)
 | [],b,_=>rfl
 |x::l,b,h=>by
  rw[List.forIn_cons,h x xax b];simp only[pure_bind,xcC];exact X_ g l (g x b) fun y hy=>h y (xat _ hy)
noncomputable def yj (cells:Lsa) (cs:Lsa) (x:Str×NameKind):Lsa:=if x.2=.free then(x.1,(cells.lookup x.1).getD 0)::cs else cs
def sU (cells:Lsa)(names:List (Str×NameKind)):Lsa:=names.foldl (yj cells) []
theorem Xg (h:∀y∈scope.names,y.2=.free->∃c,env.cells.lookup y.1=some c):closureFor scope env=pure (sU env.cells scope.names):=by
 simp only[closureFor];rw[X_ (fun x cs=>yj env.cells cs x) scope.names [] (fun x hx c=>by
  obtain⟨n,kind⟩:=x
  by_cases hk:kind=.free
  .obtain⟨a,ha⟩:=h _ hx hk;subst hk;have ha':env.cells.lookup n=some a:=ha
   simp[cellOf,ha',yj]
  .have hk':(kind==NameKind.free)=false:=by simpa using hk
   simp[hk',hk,yj])]
 rfl
theorem Xf:∀(names:List (Str×NameKind)) (acc:Lsa),(∀y∈names,y.2=.free->∃c,cells.lookup y.1=some c)->
  (∀x c,acc.lookup x=some c->cells.lookup x=some c)->∀x c,(names.foldl (yj cells) acc).lookup x=some c->cells.lookup x=some c
 | [],_,_,h,x,c,e=>h x c e
 |(n,k)::r,acc,hc,h,x,c,e=>by
  rw[xcC]at e;refine Xf r _ (fun y hy=>hc y (xat _ hy)) ?_ x c e;intro y d hd;unfold yj at hd
  by_cases hk:k=.free
  .obtain⟨a,ha⟩:=hc (n,k) xax hk;have ha':cells.lookup n=some a:=ha;simp only[hk,xa8,ha',Option.getD_some,xce]at hd
   cases hyn:y==n with
   |true=>
    rw[hyn]at hd;have e2:=eq_of_beq hyn;subst e2;exact ha'.trans hd
   |false=>
    rw[hyn]at hd;exact h y d hd
  .simp only[hk,xdI]at hd;exact h y d hd
theorem QK:∀(names:List (Str×NameKind)) (acc:Lsa) (x:Str),((x,NameKind.free)∈names\/∃c,acc.lookup x=some c)->∃c,(names.foldl (yj cells) acc).lookup x=some c
 | [],acc,x,h=>by
  rcases h with h |h
  .exact absurd h (by simp)
  .exact h
 |(n,k)::r,acc,x,h=>by
  rw[xcC];refine QK r _ x ?_;have keep:(∃c,acc.lookup x=some c)->∃c,(yj cells acc (n,k)).lookup x=some c:=fun⟨c,hc⟩=>by
   unfold yj
   by_cases hk:k=.free
   .simp only[hk,xa8,xce]
    cases hxn:x==n with
    |true=>exact⟨_,rfl⟩
    |false=>exact⟨c,hc⟩
   .simp only[hk,xdI];exact⟨c,hc⟩
  rcases h with h |h
  .rcases xaz.mp h with h |h
   .cases h;refine .inr ?_;unfold yj;simp only[xa8,xce,xbI];exact⟨_,rfl⟩
   .exact .inl h
  .exact .inr (keep h)
noncomputable def pY (psc:Scope) (names:List (Str×NameKind)):List (Str×NameKind):=names.map fun(n,k)=>if (k==.free&&psc.kind==.function&&psc.names.lookup n==some .cell) then(n,.cell) else(n,k)
theorem I_ {psc:Scope}:∀{names:List (Str×NameKind)} {x:Str} {k':NameKind},(pY psc names).lookup x=some k'->(k'=.cell\/k'=.free)->(∀y∈names,y.2≠ .cell)->(x,NameKind.free)∈names
 | [],_,_,h,_,_=>by simp[pY]at h
 |(n,k)::r,x,k',h,hk,hn=>by
  have ih:= @I_ psc r x k';have h':List.lookup x ((if (k==NameKind.free&&psc.kind==.function&&psc.names.lookup n==some .cell)=true then(n,NameKind.cell) else(n,k))::pY psc r)=some k':=h
  cases hx:x==n with
  |true=>
   have e:=eq_of_beq hx;subst e
   by_cases hc:(k==NameKind.free&&psc.kind==.function&&psc.names.lookup x==some .cell)=true
   .have hkf:k=.free:=by
     cases k<;>first |rfl |(exfalso;simp at hc)
    rw[hkf];exact xax
   .rw[xac hc]at h';simp only[xce,xbI]at h';have e2:k=k':=xaE h';subst e2;rcases hk with hk |hk
    .exact absurd hk (hn (x,k) xax)
    .rw[hk];exact xax
  |false=>
   refine xat _ (ih ?_ hk fun y hy=>hn y (xat _ hy))
   by_cases hc:(k==NameKind.free&&psc.kind==.function&&psc.names.lookup n==some .cell)=true
   .rw[xaa hc]at h';simp only[xce,hx]at h';exact h'
   .rw[xac hc]at h';simp only[xce,hx]at h';exact h'
def pH (cs:Lsn)(Z:St):St:=cs.map fun p=>(Z[p.2]?).join
abbrev kZ (X:Cx)(Nc:Lsx)(scope:Scope)(cl:Lsa)(C:Addr)(s₀:Shared)(H₀:Hp)(ex:List Addr)(pn:Pnx):Cx:=
 {X with N:=Nc,s₀:=s₀,H₀:=H₀,env:=compEnvC scope cl C X.env,outer:=X.stack,ex:=ex,fn:=fun _=>false,pn:=pn,xe:=fun _ _=>False}
def Kp (N:Lsx)(psc:Scope)(xs:Lsx)(cs:Lsn)(scope:Scope):Bool:=
 scope.kind==.function&&xs.all (fun x=>scope.names.lookup x==some .local)&&decide ((xs++cs.map (·.1)).Nodup) &&
 scope.names.all (fun y=>y.2 !=.cell&&(y.2 !=.local||scope.names.lookup y.1==some .local)&&(y.2 !=.free||(psc.names.lookup y.1==some .cell||psc.names.lookup y.1==some .free))) &&
 cs.all (fun p=>N[p.2]? ==some p.1&&(psc.names.lookup p.1==some .cell||psc.names.lookup p.1==some .free)&&((pY psc scope.names).lookup p.1==some .cell||(pY psc scope.names).lookup p.1==some .free))
structure CompOkT (N:Lsx)(psc:Scope)(xs:Lsx)(cs:Lsn)(scope:Scope):Prop where
 kind:scope.kind=.function
 own:∀x∈xs,scope.names.lookup x=some .local
 nd:(xs++cs.map (·.1)).Nodup
 cell:∀y∈scope.names,y.2≠ .cell
 names:∀y∈scope.names,y.2=.local->scope.names.lookup y.1=some .local
 has:∀y∈scope.names,y.2=.free->psc.names.lookup y.1=some .cell\/psc.names.lookup y.1=some .free
 cap:∀p∈cs,N[p.2]? =some p.1/\(psc.names.lookup p.1=some .cell\/psc.names.lookup p.1=some .free)/\((pY psc scope.names).lookup p.1=some .cell\/(pY psc scope.names).lookup p.1=some .free)
def CompOkT.of {N:Lsx}{psc:Scope}{xs:Lsx}{cs:Lsn}{scope:Scope}(h:Kp N psc xs cs scope=true):CompOkT N psc xs cs scope:=by
 unfold Kp at h;simp only[xak,xb6,xaX,xbh,xaH,bne_iff_ne,ne_eq]at h;obtain⟨⟨⟨⟨h1,h2⟩,h3⟩,h4⟩,h5⟩:=h;refine⟨h1,h2,h3,fun y hy=>(h4 y hy).1.1,fun y hy e=>?_,fun y hy e=>?_,fun p hp=>⟨(h5 p hp).1.1,(h5 p hp).1.2,(h5 p hp).2⟩⟩
 .rcases(h4 y hy).1.2 with z |z
  .exact absurd e z
  .exact z
 .rcases(h4 y hy).2 with z |z
  .exact absurd e z
  .exact z
abbrev Ko (N:Lsx)(psc:Scope)(x:Str)(cs:Lsn)(scope:Scope):Bool:=Kp N psc [x] cs scope
def ug (X:Cx)(ifs:Lex)(t:TT):Prop:=
 ∀(pins:Pnx) (s:Shared) (Z:St) (H:Hp) (Q:Bool->Hp->Prop),Inv X pins Z H s->t Z H Q->
  wpAny (model X.prog X.w) X.A (forIn ifs true fun c r=>if r=true then do let ok <-isTrue c X.env (eval c X.env);pure (ForInStep.yield ok) else pure (ForInStep.yield r)) (TP X pins Z Q) X.xe s
def VP:TT:=fun _ H Q=>Q true H
def zdb:ug X [] VP:=fun _ _ _ H _ I h=>wpAny_tests_nil ⟨H,I,h⟩
def Jv (wi:TI)(tq:TT)(te:TE)(cs:Lsn):St->Hp->(Addr->Hp->Prop)->Prop:=fun Z H R=>wi Z H fun J H1=>∀D,H1 D=none->
  ∃W:Nat->Nat->List V->Hp->Prop,(∃m,W 0 m [] (upd H1 D (.lst [])))/\∀i m ys H2,W i m ys H2->H2 D=some (.lst ys)/\
    ((J.stop i H2/\R D H2)\/(J.go i H2/\ys.length<sizeLine/\∃N:List V->Hp->Prop,(∀ys' H',N ys' H'->∃m',m'<m/\W (i+1) m' ys' H')/\∀v H3,J.yld i H2 v H3->tq (some v::pH cs Z) H3 fun b H4=>
      if b=true then te (some v::pH cs Z) H4 fun y H5=>H5 D=some (.lst ys)/\N (ys++[y]) (upd H5 D (.lst (ys++[y]))) else N ys H4))
section
variable {prog:Program}{w:World}{A:Around}{R:Result->Shared->Prop}{s:Shared}
def zaq (I:Nat->Shared->Prop)
  (turn:∀n s,I n s->wpAny (model prog w) A (pyNext it) (fun r s₁=>match r with
   |none=>R (.ok .next) s₁
   |some v=>wpAny (model prog w) A (letOwnedTupleGo target it v) (fun _ s₁'=>wpAny (model prog w) A (assign target env v) (fun _ s₂=>
     wpAny (model prog w) A (forIn ifs true fun c r=>if r=true then do let ok <-isTrue c env (eval c env);pure (ForInStep.yield ok) else pure (ForInStep.yield r)) (fun ok s₃=>
      if ok=true then wpAny (model prog w) A (eval elt env) (fun x s₄=>
       wpAny (model prog w) A (call (.builtin "list.append") [acc,x]) (fun _ s₅=>∃m,m<n/\I m s₅) (fun _ _=>False) s₄) (fun _ _=>False) s₃
      else ∃m,m<n/\I m s₃) (fun _ _=>False) s₂) (fun _ _=>False) s₁') (fun _ _=>False) s₁) (fun _ _=>False) s)
  (n:Nat) (h:I n s):
  codeAny (model prog w) A (.compLoop (.ListComp elt [⟨target,iter,ifs,0⟩] scope pos) 0 it acc env) R s:=by
 refine codeAny_loop rfl I (fun n s hI=>?_) n h;show wpAny _ A ((compTurn (.ListComp elt [⟨target,iter,ifs,0⟩] scope pos) 0 it acc env).onRaise (fun x=>do noteFrame x env;theTreesLotGoes x)) _ _ s
 refine wpAny_noted ?_;rw[compTurn_list];refine xab (xcS (xab (xbc (turn n s hI) (fun r s₁ h₁=>?_) fun _ _ h'=>h'.elim)))
 cases r with
 |none=>exact xan h₁
 |some v=>
  refine xab (xbc h₁ (fun _ s₁' h₁'=>?_) fun _ _ h'=>h'.elim);refine xab (xbc h₁' (fun _ s₂ h₂=>xab (xbc h₂ (fun ok s₃ h₃=>?_) fun _ _ h'=>h'.elim)) fun _ _ h'=>h'.elim)
  cases ok with
  |false=>exact xan ⟨rfl,h₃⟩
  |true=>
   exact xab (xab (xbc h₃ (fun x s₄ h₄=>xab (xbc h₄ (fun _ s₅ h₅=>xan (xan ⟨rfl,h₅⟩)) fun _ _ h'=>h'.elim)) fun _ _ h'=>h'.elim))
end
def Wr (J:It)(tG:TG)(tq:TT)(te:TE)(n:Nat)(cs:Lsn)(Z:St)(H1:Hp)(R:Addr->Hp->Prop):Prop:=∀D,H1 D=none->
  ∃W:Nat->Nat->List V->Hp->Prop,(∃m,W 0 m [] (upd H1 D (.lst [])))/\∀i m ys H2,W i m ys H2->H2 D=some (.lst ys)/\
    ((J.stop i H2/\R D H2)\/(J.go i H2/\ys.length<sizeLine/\∃N:List V->Hp->Prop,(∀ys' H',N ys' H'->∃m',m'<m/\W (i+1) m' ys' H')/\∀v H3,J.yld i H2 v H3->∀vl:List (Option V),vl.length=n->
      tG v (vl++pH cs Z) H3 fun Z' H4=>∃vl',vl'.length=n/\Z'=vl'++pH cs Z/\tq Z' H4 fun b H5=>
      if b=true then te Z' H5 fun y H6=>H6 D=some (.lst ys)/\N (ys++[y]) (upd H6 D (.lst (ys++[y]))) else N ys H5))
def Oq (wi:TI)(tG:TG)(tq:TT)(te:TE)(n:Nat)(cs:Lsn):St->Hp->(Addr->Hp->Prop)->Prop:=fun Z H R=>wi Z H fun J H1=>Wr J tG tq te n cs Z H1 R
section
variable {X:Cx}{elt iter tg:Expr}{ifs:Lex}{xs:Lsx}{scope:Scope}{pos:Pos}{wi:TI}{tG:TG}{tq:TT}{te:TE}{cs:Lsn}
def Xj (hc:X.calm=true)(hi:PI X tg iter wi)
    (hg:∀(cl:Lsa) (C:Addr) (s₀:Shared) (H₀:Hp) (ex:List Addr) (pn:Pnx),PG (kZ X (xs++cs.map (·.1)) scope cl C s₀ H₀ ex pn) tg tG)
    (hq:∀(cl:Lsa) (C:Addr) (s₀:Shared) (H₀:Hp) (ex:List Addr) (pn:Pnx),ug (kZ X (xs++cs.map (·.1)) scope cl C s₀ H₀ ex pn) ifs tq)
    (he:∀(cl:Lsa) (C:Addr) (s₀:Shared) (H₀:Hp) (ex:List Addr) (pn:Pnx),PE (kZ X (xs++cs.map (·.1)) scope cl C s₀ H₀ ex pn) elt te)
    (ok:CompOkT X.N X.env.scope xs cs scope) {pins:Pnx} {s:Shared} {Z:St} {H:Hp} {R:Addr->Hp->Prop} (I:Inv X pins Z H s) (h:Oq wi tG tq te xs.length cs Z H R)
    {RR:Value->Addr->Result->Shared->Prop}
    (hRR:∀(D C:Addr) (oC:Obj) (H':Hp) (s':Shared),Inv X (pins++[(C,oC)]) Z H' s'->(∀h':Heap,h'.get? C=some oC->∃m,h'.Ns C m)->lN X pins H' C->R D H'->RR (.ref D) C (.ok .next) s'):
    wpAny (model X.prog X.w) X.A (eval iter X.env) (fun xv s₁=>wpAny (model X.prog X.w) X.A (pyIter xv) (fun itv s₂=>wpAny (model X.prog X.w) X.A (newList []) (fun acc s₃=>
      wpAny (model X.prog X.w) X.A (newFunctionEnv scope X.env.globals (sU X.env.cells scope.names) [] X.env.qual none .none (some X.env)) (fun cenv s₄=>
        codeAny (model X.prog X.w) X.A (.compStart (.ListComp elt [⟨tg,iter,ifs,0⟩] scope pos) 0 itv acc {cenv with scope:=relabel scope X.env}) (RR acc cenv.locals) s₄) X.xe s₃) X.xe s₂) X.xe s₁) X.xe s:=by
  refine aW (hi pins s Z H _ I h) fun v s1 h1=>aW h1 fun itv s2 h2=>?_;obtain⟨it,fp,tn,J,H2,e,I2,T,st2,f2,h2⟩:=h2;subst e;have hhas:∀y∈scope.names,y.2=.free->∃c,X.env.cells.lookup y.1=some c:=fun y hy hk=>I2.ok.has y.1 (ok.has y hy hk);refine xbb (wpAny_newFunctionEnv ok.cell (by intro y hy;simp at hy) (fun h₁ hns₁ hsb₁=>?_) ok.kind);dsimp only at hns₁ hsb₁ ⊢;generalize hHH:s2.heap.push {cls:=.type "list",dict:=none,data:=.seq ([]:Lvx).toArray}=HH at hns₁ hsb₁ ⊢;have hC:HH.objs.size=s2.heap.objs.size+1:=by rw[<-hHH,xdU]
  have hDC:s2.heap.objs.size≠HH.objs.size:=by rw[hC];exact xaM (xbH _)
  have hCle:s2.heap.objs.size<=HH.objs.size:=by rw[hC];exact xcz _
  have below:∀b,b<s2.heap.objs.size->b≠HH.objs.size:=fun b hb=>by rw[hC];exact xaM (Nat.lt_succ_of_lt hb)
  have old:∀b o,s2.heap.get? b=some o->h₁.get? b=some o:=fun b o e=>hsb₁.extBut b o (below b (xap e)) (xad _ (hHH ▸ xad _ e));have hacc:h₁.get? s2.heap.objs.size=some {cls:=.type "list",dict:=none,data:=.seq ([]:Lvx).toArray}:=hsb₁.extBut _ _ hDC (xad _ (hHH ▸ xaJ _ rfl));have nD:H2 s2.heap.objs.size=none:=I2.hok.fresh (xag _);have nC:H2 HH.objs.size=none:=I2.hok.fresh hCle;obtain⟨W,⟨m0,w0⟩,turn⟩:=h2 s2.heap.objs.size nD
  -- the block's context
  have fpC:∀b∈fp,b≠HH.objs.size:=fun b hb=>by
    obtain⟨o,ho,_⟩:=T.obj 0 _ st2 b hb;exact below b (xap ho)
  have fpD:∀b∈fp,b≠s2.heap.objs.size:=fun b hb=>by
    obtain⟨o,ho,_⟩:=T.obj 0 _ st2 b hb;exact xaM (xap ho)
  have pinC:∀p∈X.pn++pins,p.1≠HH.objs.size:=fun p hp=>below _ (xap (I2.pin p hp).1);have clIn:∀y c,(sU X.env.cells scope.names).lookup y=some c->X.env.cells.lookup y=some c:=Xf scope.names [] hhas (fun y c e=>by cases e);have kindRel:∀y,(relabel scope X.env).names.lookup y=(pY X.env.scope scope.names).lookup y:=fun _=>rfl;have okC:(kZ X (xs++cs.map (·.1)) scope (sU X.env.cells scope.names) HH.objs.size s2 H2 fp (X.pn++pins)).Ok:=
    { mod:=I2.ok.mod
      kind:=ok.kind
      glob:=I2.ok.glob
      blt:=I2.ok.blt
      above:=hCle
      inj:=fun y z c e1 e2=>I2.ok.inj y z c (clIn y c e1) (clIn z c e2)
      has:=fun y hk=>by
        have hm:(y,NameKind.free)∈scope.names:=by
          rcases hk with hk |hk
          . exact I_ (psc:=X.env.scope) (k':=.cell) hk (.inl rfl) ok.cell
          . exact I_ (psc:=X.env.scope) (k':=.free) hk (.inr rfl) ok.cell
        exact QK scope.names [] y (.inl hm)
      cab:=fun y c hf _=>by cases hf
      hd:=I2.ok.hd
      frames:=I2.ok.frames
      stk:=.inl rfl
      exf:=fun b hb=>⟨fpC b hb,fun y c e z=>(f2 b hb).2.2.2.2.1 y c (clIn y c e) z⟩
      bs:=fun b o e=>I2.bs b o e
      bsz:=xaN I2.ok.bsz I2.sz
      noex:=fun b o e hb=>by
        rcases(f2 b hb).2.2.2.1 with z |z
        . exact I2.ok.noex b o e z
        . exact absurd (xar (xap e) (xaN I2.ok.bsz z)) (xbf _)
      exfs:=fun b hb z=>by
        rcases xaz.mp (I2.stkSub b z) with q |q
        . exact(f2 b hb).2.1 q
        . exact(f2 b hb).2.2.1 q
      funs:=I2.stack
      frf:=I2.stkFree}
  have IC:Inv (kZ X (xs++cs.map (·.1)) scope (sU X.env.cells scope.names) HH.objs.size s2 H2 fp (X.pn++pins)) [] (List.replicate xs.length none++pH cs Z) (upd H2 s2.heap.objs.size (.lst [])) {s2 with heap:=h₁,toks:=s2.toks+([]:List (Str×Value)).length}:=
    { ok:=okC
      os:=rfl
      bare:=I2.bare
      base:=Un.laid old (xag _) nD
      loc:=by
        refine⟨_,hns₁,fun i y u e1 e2 _=>?_⟩;rcases xa2 i xs.length with hi |hi
        . exfalso
          rw[xa5 (by rw[xb5];exact hi),xbV,xaa hi]at e2;cases e2
        . have e1':(cs.map (·.1))[i-xs.length]? =some y:=by rw[<-xaW hi];exact e1
          have e2':(pH cs Z)[i-xs.length]? =some (some u):=by
            rw[xaW (by rw[xb5];exact hi),xb5]at e2;exact e2
          rw[xau]at e1';unfold pH at e2';rw[xau]at e2'
          cases ep:cs[i-xs.length]? with
          |none=>rw[ep]at e1';cases e1'
          |some p=>
            rw[ep]at e1' e2';have e1'':p.1=y:=xaE e1';have e2'':(Z[p.2]?).join=some u:=xaE e2';have e3:Z[p.2]? =some (some u):=by
              cases q:Z[p.2]? with
              |none=>rw[q]at e2'';cases e2''
              |some z=>rw[q]at e2'';exact congrArg some e2''
            subst e1'';obtain⟨hN,hkp,hkc⟩:=ok.cap p (xaS ep);obtain⟨mP,_,hl⟩:=I2.loc;obtain⟨u',ru,lk⟩:=hl p.2 p.1 u hN e3 (.inr hkp);refine⟨u',ru,.inr ⟨hkc,?_⟩⟩;rcases lk with⟨k0,_⟩ |⟨_,c,hcell,his⟩
            . exfalso
              have k0':X.env.scope.names.lookup p.1=some .local:=k0;rcases hkp with z |z<;>(rw[k0']at z;cases z)
            . have hm:(p.1,NameKind.free)∈scope.names:=by
                rcases hkc with z |z
                . exact I_ z (.inl rfl) ok.cell
                . exact I_ z (.inr rfl) ok.cell
              obtain⟨c',hc'⟩:=QK (cells:=X.env.cells) scope.names [] p.1 (.inl hm);have e5:c'=c:=xaE ((clIn p.1 c' hc').symm.trans hcell);exact⟨c',hc',by rw[e5];exact his.keeps old⟩
      cell:=fun y c e=>by
        obtain⟨v',q⟩:=I2.cell y c (clIn y c e);exact⟨v',q.keeps old⟩
      free:=by
        show upd H2 s2.heap.objs.size (.lst []) HH.objs.size=none;rw[eN hDC.symm];exact nC
      freeC:=fun y c e=>by
        have hcl:c<s2.heap.objs.size:=by
          obtain⟨_,q⟩:=I2.cell y c (clIn y c e);exact q.lt
        rw[eN (xaM hcl)];exact(I2.freeC y c (clIn y c e)).imp id fun z=>⟨rfl,z.2⟩
      pin:=fun p hp=>by
        have hp':p∈X.pn++pins:=by
          rcases xav.mp hp with z |z
          . exact z
          . cases z
        obtain⟨e1,e2,e3,e4,e5⟩:=I2.pin p hp';refine⟨old _ _ e1,?_,pinC p hp',fun z=>?_,e5⟩
        . rw[eN (xaM (xap e1))];exact e2
        . rcases xaz.mp (I2.stkSub p.1 z) with q |q
          . exact e3 q
          . exact e4 q
      hok:=I2.hok.laid old (xag _) ⟨xbP _,[],0,.nil,hacc⟩
      len:=by simp[pH]}
  have stC:tn 0 h₁:=T.keep 0 _ _ st2 fun b _ o e=>old b o e;have frC:∀b∈fp,upd H2 s2.heap.objs.size (HO.lst []) b=none:=fun b hb=>by
    rw[eN (fpD b hb)];exact(f2 b hb).1
  -- what stays true of the iterator's objects in the block
  have stat:∀{H':Hp},(∀b∈fp,H' b=none)->∀b∈fp,lN (kZ X (xs++cs.map (·.1)) scope (sU X.env.cells scope.names) HH.objs.size s2 H2 fp (X.pn++pins)) [] H' b:=fun {H'} hn b hb=>
    ⟨hn b hb,fpC b hb,okC.exfs b hb,.inl hb,fun y c e=>(okC.exf b hb).2 y c e,fun p hp=>(f2 b hb).2.2.2.2.2 p (by
      rcases xav.mp hp with z |z
      . exact z
      . cases z)⟩
  have loop:∀s₃:Shared,s₃={s2 with heap:=h₁,toks:=s2.toks+([]:List (Str×Value)).length}->
      codeAny (model X.prog X.w) X.A (.compLoop (.ListComp elt [⟨tg,iter,ifs,0⟩] scope pos) 0 (.ref it) (.ref s2.heap.objs.size) (compEnvC scope (sU X.env.cells scope.names) HH.objs.size X.env)) (RR (.ref s2.heap.objs.size) HH.objs.size) s₃:=by
    rintro s₃ rfl;refine zaq (fun n s'=>∃(i:Nat) (vl:List (Option V)) (ys:List V) (H':Hp),vl.length=xs.length/\Inv (kZ X (xs++cs.map (·.1)) scope (sU X.env.cells scope.names) HH.objs.size s2 H2 fp (X.pn++pins)) [] (vl++pH cs Z) H' s'/\tn i s'.heap/\(∀b∈fp,H' b=none)/\W i n ys H')
      ?_ m0 ⟨0,_,[],_,xb5,IC,stC,frC,w0⟩
    rintro n s3 ⟨i,v3,ys,H3,hv3,I3,st3,fr3,w3⟩;obtain⟨hD3,tr⟩:=turn i n ys H3 w3;rcases tr with⟨stop,qn⟩ |⟨go,hsz,N,hN,step⟩
    . refine aW (T.done (kZ X (xs++cs.map (·.1)) scope (sU X.env.cells scope.names) HH.objs.size s2 H2 fp (X.pn++pins)) rfl rfl rfl hc i [] s3 _ H3 _ I3 (stat fr3) st3 stop) fun r s4 ⟨hr,I4⟩=>?_;subst hr;show RR (.ref s2.heap.objs.size) HH.objs.size (.ok .next) s4
      have IP:Inv X pins Z H3 s4:=I2.call' (ch:=fp) I4.os I4.base I4.hok I4.bare fun b hb=>⟨(f2 b hb).2.2.2.1,(f2 b hb).2.1,(f2 b hb).2.2.2.2.1,(f2 b hb).2.2.2.2.2⟩;obtain⟨m4,⟨oC,es,ep,hoC,hdC,hk1,hk2⟩,_⟩:=I4.loc;have nC3:H3 HH.objs.size=none:=I4.free;have fC:lN X pins H3 HH.objs.size:=I2.fpOk hCle nC3;refine hRR _ _ oC H3 s4 (IP.pins_of fun p hp=>?_) (fun h' e=>⟨m4,oC,es,ep,e,hdC,hk1,hk2⟩) fC qn;rcases xav.mp hp with z |z
      . exact IP.pin p (xaQ _ z)
      . have e:p=(HH.objs.size,oC):=by simpa using z
        subst e;exact⟨hoC,nC3,fC.2.1,fC.2.2.1,fun v z=>by
          have z':oC.data=.cell v:=z;rw[hdC]at z';cases z'⟩
    . refine aW (T.item (kZ X (xs++cs.map (·.1)) scope (sU X.env.cells scope.names) HH.objs.size s2 H2 fp (X.pn++pins)) rfl rfl rfl hc i [] s3 _ H3 _ I3 (stat fr3) st3 go) fun r s4 ⟨u,hr,h4⟩=>?_;subst hr;refine aW h4 fun _ s5 ⟨y,H5,I5,r5,y5,st5,fr5⟩=>?_;have I5':=I5.pinned (stat fr5) (T.obj _ _ st5);refine aW (hg (sU X.env.cells scope.names) HH.objs.size s2 H2 fp (X.pn++pins) _ s5 _ H5 y u _ I5' r5 (step y H5 y5 v3 hv3)) fun _ s6 ⟨Z6,H6,I6,vl6,hl6,e6,q6⟩=>?_;subst e6;refine aW (hq _ _ _ _ _ _ _ s6 _ H6 _ I6 q6) fun b s7 ⟨H7,I7,q7⟩=>?_;have again:∀{v':List (Option V)} {H8:Hp} {s8:Shared} {ys':List V} {m':Nat},v'.length=xs.length->Inv (kZ X (xs++cs.map (·.1)) scope (sU X.env.cells scope.names) HH.objs.size s2 H2 fp (X.pn++pins)) ([]++Iu fp s5.heap) (v'++pH cs Z) H8 s8->W (i+1) m' ys' H8->
          ∃(i:Nat) (vl:List (Option V)) (ys:List V) (H':Hp),vl.length=xs.length/\Inv (kZ X (xs++cs.map (·.1)) scope (sU X.env.cells scope.names) HH.objs.size s2 H2 fp (X.pn++pins)) [] (vl++pH cs Z) H' s8/\tn i s8.heap/\(∀b∈fp,H' b=none)/\W i m' ys H':=fun {v' H8 s8 ys' m'} hl8 I8 w8=>by
        refine⟨i+1,v',ys',H8,hl8,I8.unpinned,T.keep _ _ _ st5 fun b hb o e=>(I8.pin (b,o) (xaQ _ (xaQ _ (Ld hb e)))).1,fun b hb=>?_,w8⟩;obtain⟨o,e,d⟩:=T.obj _ _ st5 b hb;exact(I8.pin (b,o) (xaQ _ (xaQ _ (Ld hb e)))).2.1
      cases b with
      |false=>
        rw[xac xaF]at q7;rw[xac xaF];obtain⟨m',hm,w8⟩:=hN _ _ q7;exact⟨m',hm,again hl6 I7 w8⟩
      |true=>
        rw[xaa rfl]at q7;rw[xaa rfl];refine aW (he _ _ _ _ _ _ _ s7 _ H7 _ I7 q7) fun z s8 ⟨zv,H8,I8,r8,hD8,n8⟩=>?_;obtain⟨m',hm,w8⟩:=hN _ _ n8;refine aW (Ss (X:=kZ X (xs++cs.map (·.1)) scope (sU X.env.cells scope.names) HH.objs.size s2 H2 fp (X.pn++pins)) _ s8 _ H8 (.ref s2.heap.objs.size) [zv] (.ref s2.heap.objs.size) [z] (fun _ H9=>H9=upd H8 s2.heap.objs.size (.lst (ys++[zv]))) I8 rfl (.cons r8 .nil) ⟨_,ys,zv,rfl,rfl,hD8,hsz,rfl⟩) fun _ s9 ⟨_,H9,I9,_,e9⟩=>?_;subst e9;exact⟨m',hm,again hl6 I9 w8⟩
  exact codeAny_compStart_list (loop _ rfl) (T.self _ 0 _ _ _ stC (loop _ rfl))
def zeR (wi:TI)(tG:TG)(tq:TT)(te:TE)(n:Nat)(cs:Lsn):TE:=fun Z H Q=>Oq wi tG tq te n cs Z H fun D H'=>Q (.ref D) H'
theorem zef (xs:Lsx)(cs:Lsn)(hc:X.calm=true)(hi:PI X tg iter wi)
  (hg:∀(cl:Lsa) (C:Addr) (s₀:Shared) (H₀:Hp) (ex:List Addr) (pn:Pnx),PG (kZ X (xs++cs.map (·.1)) scope cl C s₀ H₀ ex pn) tg tG)
  (hq:∀(cl:Lsa) (C:Addr) (s₀:Shared) (H₀:Hp) (ex:List Addr) (pn:Pnx),ug (kZ X (xs++cs.map (·.1)) scope cl C s₀ H₀ ex pn) ifs tq)
  (he:∀(cl:Lsa) (C:Addr) (s₀:Shared) (H₀:Hp) (ex:List Addr) (pn:Pnx),PE (kZ X (xs++cs.map (·.1)) scope cl C s₀ H₀ ex pn) elt te)
  (ok:Kp X.N X.env.scope xs cs scope=true:=by kernel_rfl) (hs:∀x,foldedSetIterable iter X.env x=pure x:=by intro _;rfl):
  PE X (.ListComp elt [⟨tg,iter,ifs,0⟩] scope pos) (zeR wi tG tq te xs.length cs):=by
 fen_go;have ok':=CompOkT.of ok;rw[eval_ListComp];refine xdK (use:=none) rfl hs (Xg fun y hy hk=>I.ok.has y.1 (ok'.has y hy hk)) ok'.kind ok'.names ?_;refine Xj (RR:=fun acc C=>compPost (model X.prog X.w) X.A X.xe none (EP X pins Z Q) acc C) hc hi hg hq he ok' I h ?_;intro D C oC H' s' I' hns fC q;refine⟨_,(hns _ (I'.pin (C,oC) (xaQ _ (xaQ _ (by simp)))).1).choose_spec,fun h' hs'=>?_⟩;have I1:Inv X pins Z H' s':=I'.unpinned;exact⟨.ref D,H',I1.turned (t':=s'.toks) (fun b o hb e=>(hs'.2 b hb).trans e) fC.1 fC.2.1 fC.2.2.2.1 fC.2.2.2.2.1 fC.2.2.2.2.2,rfl,q⟩
end
section
variable {X:Cx}{elt iter:Expr}{ifs:Lex}{x:Str}{px:Pos}{scope:Scope}{pos:Pos}{wi:TI}{tq:TT}{te:TE}{cs:Lsn}
def Xi:Oq wi (Gz 0) tq te 1 cs=Jv wi tq te cs:=by
 funext Z H R;have key:∀(v:V) (H3:Hp) (F:St->Hp->Prop),(∀vl:List (Option V),vl.length=1->Gz 0 v (vl++pH cs Z) H3 fun Z' H4=>∃vl',vl'.length=1/\Z'=vl'++pH cs Z/\F Z' H4) ↔ F (some v::pH cs Z) H3:=fun v H3 F=>
  ⟨fun h=>(h [none] rfl).choose_spec.2.2,fun h vl e=>by
   match vl,e with
   | [_],_=>exact⟨[some v],rfl,rfl,h⟩⟩
 simp only[Oq,Wr,Jv,key]
def zkE (wi:TI)(tq:TT)(te:TE)(cs:Lsn):TE:=fun Z H Q=>Jv wi tq te cs Z H fun D H'=>Q (.ref D) H'
theorem zfY (x:Str)(cs:Lsn)(hc:X.calm=true)(hi:PI X (.Name x px) iter wi)
  (hq:∀(cl:Lsa) (C:Addr) (s₀:Shared) (H₀:Hp) (ex:List Addr) (pn:Pnx),ug (kZ X (x::cs.map (·.1)) scope cl C s₀ H₀ ex pn) ifs tq)
  (he:∀(cl:Lsa) (C:Addr) (s₀:Shared) (H₀:Hp) (ex:List Addr) (pn:Pnx),PE (kZ X (x::cs.map (·.1)) scope cl C s₀ H₀ ex pn) elt te)
  (ok:Ko X.N X.env.scope x cs scope=true:=by kernel_rfl) (hs:∀x,foldedSetIterable iter X.env x=pure x:=by intro _;rfl):
  PE X (.ListComp elt [⟨.Name x px,iter,ifs,0⟩] scope pos) (zkE wi tq te cs):=by
 have ox:=lookup_relabel_local (env:=X.env) ((CompOkT.of ok).own x (by simp));have h:=zef (pos:=pos) [x] cs hc hi (fun _ _ _ _ _ _=>Mj (i:=0) (CompOkT.of ok).nd rfl (.inl ox) (.inr ox)) hq he ok hs;unfold zeR at h;rw[xaC,Xi]at h;exact h
def zki (k:Nat)(wi:TI)(tq:TT)(te:TE)(cs:Lsn):TS:=fun D Z H=>Jv wi tq te cs Z H fun l H'=>D.nx (Z.set k (some (.ref l))) H'
theorem zfl (x:Str)(cs:Lsn)(hN:X.N.Nodup)(hk:X.N[k]? =some y)(hy:Loc X.env.scope y)(hc:X.calm=true)(hi:PI X (.Name x px) iter wi)
  (hq:∀(cl:Lsa) (C:Addr) (s₀:Shared) (H₀:Hp) (ex:List Addr) (pn:Pnx),ug (kZ X (x::cs.map (·.1)) scope cl C s₀ H₀ ex pn) ifs tq)
  (he:∀(cl:Lsa) (C:Addr) (s₀:Shared) (H₀:Hp) (ex:List Addr) (pn:Pnx),PE (kZ X (x::cs.map (·.1)) scope cl C s₀ H₀ ex pn) elt te)
  (ok:Ko X.N X.env.scope x cs scope=true:=by kernel_rfl) (hs:∀x,foldedSetIterable iter X.env x=pure x:=by intro _;rfl)
  (hsw:swapsWith (.ListComp elt [⟨.Name x px,iter,ifs,0⟩] scope pos) (some (.Name y py)) spos.line X.env=pure true:=by rfl)
  (hf:X.fn y=true\/X.env.scope.names.lookup y=some .local:=by first |exact .inl rfl |exact .inr rfl |assumption):
  PS X (.Assign [.Name y py] (.ListComp elt [⟨.Name x px,iter,ifs,0⟩] scope pos) spos) (zki k wi tq te cs):=by
 tb_src;have ok':=CompOkT.of ok;have ox:=lookup_relabel_local (env:=X.env) (ok'.own x (by simp));rw[exec_Assign_Name_used _ _ _ _ hsw];refine xab (xcS (xab ?_));show wpAny _ X.A (do let _ <-comprehension (.ListComp elt [⟨.Name x px,iter,ifs,0⟩] scope pos) scope X.env _ (newList []) false (eval iter X.env) (some (assign (.Name y py) X.env))) _ _ s
 refine xab (xbc (xdK (use:=some (assign (.Name y py) X.env)) (Q:=fun _ s'=>SP X pins D .next s') rfl hs (Xg fun y hy hk=>I.ok.has y.1 (ok'.has y hy hk)) ok'.kind ok'.names
  (Xj (xs:=[x]) (RR:=fun acc C=>compPost (model X.prog X.w) X.A X.xe (some (assign (.Name y py) X.env)) (fun _ s'=>SP X pins D .next s') acc C) hc hi (fun _ _ _ _ _ _=>Mj (i:=0) ok'.nd rfl (.inl ox) (.inr ox)) hq he ok' I (by rw[xaC,Xi];exact h) ?_)) (fun _ s' hq=>xan (xan hq)) fun _ _ e=>e)
 intro l C oC H' s' I' hns fC q;show wpAny _ X.A (assign (.Name y py) X.env (.ref l)) _ _ _;refine wpAny_assign_Name (Jt (v:=.ref l) I' hN hk hy rfl (fun s'' I''=>?_) hf);refine⟨_,(hns _ (I''.pin (C,oC) (xaQ _ (xaQ _ (by simp)))).1).choose_spec,fun h' hs'=>?_⟩;have I1:Inv X pins _ H' s'':=I''.unpinned;exact⟨_,H',I1.turned (t':=s''.toks) (fun b o hb e=>(hs'.2 b hb).trans e) fC.1 fC.2.1 fC.2.2.2.1 fC.2.2.2.2.1 fC.2.2.2.2.2,q⟩
end
def zQ (hD:H D=none):Same H (upd H D o):=fun b ob e=>by
 rw[eN (lu e hD)];exact e
structure Noted (fs:List Addr)(z:Addr)(h h':Heap)(e:Addr)(oe:Obj)(T:Addr)(fl:Value):Prop where
 keep:∀b o,b∉fs->b≠e->b≠z->h.get? b=some o->h'.get? b=some o
 slot:∀b o,b∈fs->b≠e->b≠z->h.get? b=some o->∃sl,h'.get? b=some {o with slots:=sl}
 exc:h'.get? e=some (oe.mapFields (·.setIfInBounds 1 (.ref T)))
 new:h.objs.size<=T
 tb:∃oT ts,h'.get? T=some oT/\oT.data=.fields ts/\ts[3]? =some fl
section
variable {M:Model}{A:Around}{E:Vsp}{s:Shared}{base:Heap}{env:Env}{outer:List Env}{L e z:Addr}{oe:Obj}{vs:Avx}{Q:Unit->Shared->Prop}
def Z_ (a1:A.frames=some (env::outer))(a2:s.heap.FunFrames base (env::outer))(a3:env.frame=some L)
  (a4:s.heap.get? e=some oe) (a5:oe.data=.fields vs) (a6:1<vs.size)
  (k:∀h' T,Noted (frs (env::outer)) e s.heap h' e oe T (rawInt L)->Q () {s with heap:=h'}):
  wpAny M A (do
   let a <-frameOf env
   let pl <-entryPlaceOf L hadNext
   let b <-EntryCells.newEntry head a .none (rawInt L) .none pl
   setField (.ref e) 1 b) Q E s:=by
 have ne:e∉frs (env::outer):=fun m=>by
  obtain⟨_,o,e1,e2⟩:=a2.mem m;rw[a4]at e1;cases e1;exact e2 vs a5
 refine xab (wpAny_frameOf_fun a1 a2 a3 fun h1 S=>?_);refine xab (wpAny_entryPlaceOf fun pl hpl=>?_);unfold EntryCells.newEntry newFields;refine xab (xbb ?_ (hpl.sizeOk5 _ _ _ _ _));have b1:h1.get? e=some oe:=(S.2.1 e ne).trans a4;have b2:=xad (h:=h1) {cls:=.type "traceback",dict:=none,data:=.fields ([head,.ref L,.none,rawInt L,.none]++(if pl.isEmpty then List.replicate 6 Value.none else pl)).toArray} b1
 refine xcd b2 a5 a6 (k _ h1.objs.size ?_);have n1:h1.objs.size≠e:=xc3 (xap b1);have frd:=xbx (xaY a5 (·.setIfInBounds 1 (Value.ref h1.objs.size)));refine⟨fun b o nb nbe _ hb=>?_,fun b o _ nbe _ hb=>?_,xbe _ b2 frd,xd9 S.1.symm,?_⟩
 .rw[xa0 _ _ (xbw nbe)];exact xad _ ((S.2.1 b nb).trans hb)
 .obtain⟨sl,q⟩:=S.2.2 b o hb;refine⟨sl,?_⟩;rw[xa0 _ _ (xbw nbe)];exact xad _ q
 .refine⟨_,_,(xa0 _ _ (xbw n1)).trans (xaJ h1 rfl),rfl,?_⟩;rcases hpl with rfl |⟨_,_,_,_,_,_,_,rfl⟩<;>simp
def X8 (b1:s.heap.get? e=some oe)(b2:oe.data=.fields vs)(b3:vs[1]? =some (.ref T))(b4:s.heap.get? T=some oT)(b5:oT.data=.fields ts)(b6:3<ts.size)
  (k:Q () {s with heap:=s.heap.update T (Obj.mapFields (·.setIfInBounds 3 .none))}):wpAny M A (setFlight (.ref e) none) Q E s:=by
 unfold setFlight;refine xab (xbs b1 b2 b3 ?_);rw[xaa (by simp)];exact xcd b4 b5 b6 k
def zcY (N:Noted fs z h h1 e oe T fl)(a4:h.get? e=some oe)(a5:oe.data=.fields vs):Noted fs z h (h1.update T (Obj.mapFields (·.setIfInBounds 3 .none))) e oe T .none:=by
 obtain⟨oT,ts,t1,t2,t3⟩:=N.tb;have ne:∀b o,h.get? b=some o->b≠T:=fun b o q=>xaM (xar (xap q) N.new);refine⟨fun b o n1 n2 n3 hb=>?_,fun b o n1 n2 n3 hb=>?_,?_,N.new,?_⟩
 .rw[xa0 _ _ (xbw (ne b o hb))];exact N.keep b o n1 n2 n3 hb
 .obtain⟨sl,q⟩:=N.slot b o n1 n2 n3 hb;exact⟨sl,by rw[xa0 _ _ (xbw (ne b o hb))];exact q⟩
 .rw[xa0 _ _ (xbw (ne e oe a4))];exact N.exc
 .have z3:3<ts.size:=(xbg.mp t3).1;exact⟨_,_,xbe _ t1 (xbx (xaY t2 _)),xaY t2 _,by simp[z3]⟩
def zaI (N:Noted fs z h s.heap e oe T fl)(a4:h.get? e=some oe)(a5:oe.data=.fields vs)(a6:1<vs.size)
  (k:∀h',Noted fs z h h' e oe T .none->Q () {s with heap:=h'}):wpAny M A (setFlight (.ref e) none) Q E s:=by
 obtain⟨oT,ts,t1,t2,t3⟩:=N.tb;refine X8 N.exc (xaY a5 _) (by simp[a6]) t1 t2 (xbg.mp t3).1 (k _ (zcY N a4 a5))
def zbN (a1:A.frames=some (env::outer))(a2:s.heap.FunFrames base (env::outer))(a3:env.frame=some L)
  (a4:s.heap.get? e=some oe) (a5:oe.data=.fields vs) (a6:vs[1]? =some .none) (k:∀h' T,Noted (frs (env::outer)) e s.heap h' e oe T .none->Q () {s with heap:=h'}):wpAny M A (leaving env (.ref e)) Q E s:=by
 have z1:=(xbg.mp a6).1;unfold leaving noteFrame;simp only[a3];refine xab (xab (xbs a4 a5 a6 ?_));rw[xac (by decide)];exact Z_ a1 a2 a3 a4 a5 z1 fun h' T N=>zaI (s:={s with heap:=h'}) N a4 a5 z1 fun h2 N2=>k h2 T N2
def zdM (a1:A.frames=some (env::outer))(a2:s.heap.FunFrames base (env::outer))(a3:env.frame=some L)
  (a4:s.heap.get? e=some oe) (a5:oe.data=.fields vs) (a6:vs[1]? =some (.ref T0)) (b1:T0≠e) (b2:s.heap.get? T0=some oT) (b3:oT.data=.fields ts) (b4:ts[3]? =some .none)
  (k:∀h' T,Noted (frs (env::outer)) T0 s.heap h' e oe T (rawInt L)->Q () {s with heap:=h'}):wpAny M A (noteFrame (.ref e) env) Q E s:=by
 have z1:=(xbg.mp a6).1;unfold noteFrame;simp only[a3];refine xab (xbs a4 a5 a6 ?_);rw[xaa (by simp)];refine xab (xbs b2 b3 b4 ?_);rw[xac (by simp[rawInt])];refine xab (xcd b2 b3 (xbg.mp b4).1 ?_);have oth:∀b,b≠T0->(s.heap.update T0 (Obj.mapFields (·.setIfInBounds 3 Value.none))).get? b=s.heap.get? b:=fun b hb=>xa0 _ _ (xbw hb);have fr:∀b o,s.heap.get? b=some o->(∀us,o.data≠ .fields us)->b≠T0:=fun b o hb n r=>by
  rw[r,b2]at hb;cases hb;exact n ts b3
 refine Z_ (s:={s with heap:=s.heap.update T0 (Obj.mapFields (·.setIfInBounds 3 Value.none))}) a1 (a2.of_keeps fun b o hb n=>⟨o,(oth b (fr b o hb n)).trans hb,rfl⟩) a3 ((oth e (xbw b1)).trans a4) a5 z1 fun h' T N=>k h' T ?_;exact⟨fun b o n1 n2 n3 hb=>N.keep b o n1 n2 n2 ((oth b n3).trans hb),fun b o n1 n2 n3 hb=>N.slot b o n1 n2 n2 ((oth b n3).trans hb),N.exc,by rw[<-Heap.size_after_update s.heap T0 (Obj.mapFields (·.setIfInBounds 3 Value.none))];exact N.new,N.tb⟩
end
section
variable {prog:Program}{w:World}{A:Around}{E:Vsp}{h:Heap}{g:Array GenState}{d:Drawn}{t:Nat}{os:OsState}
variable {nm q:Str}{C N:Addr}{bs bm bmB:Lvx}{hdct:Bool}{sn:Lsx}{sub:Lvx}{ab:Bool}{col:Option Bool}{dd:Option Addr}{k0 k1 k2 k3 k5:Option Value}{B newId initId:String}
def zbe (F:ExcBaseFacts B newId initId bmB)(T:OwnTail h bmB bm) 
  (c1:h.get? C=some (excClassObj nm q C N bs bm hdct sn sub ab col dd k0 k1 k2 k3 k5 newId)) (c2:h.Ns N mN) (c3:mN "__init__"=some (.ref fI)) (c4:h.get? fI=some oI) (c5:oI.cls=.type "function") (c6:rest.length<=sizeLine)
  (k:∀h' e,Heap.MadeExcOf h h' e (.ref C) rest->wpAny (model prog w) A (call (.ref fI) (.ref e::rest)) (fun r s'=>r=.none/\Q (.done (.ret (.ref e))) s') E ⟨h',g,d,t,os⟩):
  wpAny (model prog w) A (Builtin.«type.__call__» ⟨.ref C::rest,[]⟩) Q E ⟨h,g,d,t,os⟩:=by
 repeat (first |with_reducible refine xbT c1 ?_ |with_reducible refine wpAny_madeBy_exc c1 ?_ |wp_step)
 refine codeAny_call_builtin_code (Code.quiet_builtin _ F.quiet) (wpAny_check_new_subT F T c1 (codeAny_exc_new_subT F T c1 ?_ c6));show wpAny _ _ _ _ _ _;have up:∀b o,h.get? b=some o->((h.push {cls:=.type "tuple",data:=.seq rest.toArray}).push
   {cls:=.ref C,data:=.fields #[.ref h.objs.size,.none,.none,.none,.bool false,.none]}).get? b=some o:=fun b o hb=>
  xad _ (xad _ hb)
 have at1:((h.push {cls:=.type "tuple",data:=.seq rest.toArray}).push
   {cls:=.ref C,data:=.fields #[.ref h.objs.size,.none,.none,.none,.bool false,.none]}).get? (h.objs.size+1)=some
   {cls:=.ref C,data:=.fields #[.ref h.objs.size,.none,.none,.none,.bool false,.none]}:=by heap_get
 have hcC:(Value.ref C::bm).contains (.ref C)=true:=by simp
 have c1':=up _ _ c1;have c4':=up _ _ c4;have T':=T.keeps up;have c2':=c2.keeps up;unfold isInstance
 repeat (first |with_reducible refine xbT at1 ?_ |(with_reducible refine xcA c1' ?_;rw[hcC]) |wp_step)
 show wpAny _ _ (typeLookup (.ref C) _) _ _ _;refine wpAny_typeLookup_tail c1' c2' T' F.mroIs F.init.lookup ?_;rw[c3];refine xbU (xab ?_);unfold bindSpecial;refine xab (xc7 (T:="function") ⟨_,c4',c5⟩ ?_);rw[xaa (by decide)];refine xan (xab (xbc (k _ (h.objs.size+1) ⟨up,xcb (xcz _),h.objs.size,at1,xcb (xag _),?_⟩) (fun r s' hr=>?_) fun _ _ x=>x))
 .exact xad _ (Heap.get?_push_at rfl rfl)
 .obtain⟨rfl,z⟩:=hr
  wp_walk
  exact z
def zd7 (F:ExcBaseFacts B newId initId bmB)(T:OwnTail h bmB bm) 
  (c1:h.get? C=some (excClassObj nm q C N bs bm hdct sn sub ab col dd k0 k1 k2 k3 k5 newId)) (c2:h.Ns N mN) (c3:mN "__init__"=some (.ref fI)) (c4:h.get? fI=some oI) (c5:oI.cls=.type "function") (c6:rest.length<=sizeLine)
  (k:∀h' e,Heap.MadeExcOf h h' e (.ref C) rest->wpAny (model prog w) (A.under (.builtin "type.__call__" ⟨.ref C::rest,[]⟩)) (call (.ref fI) (.ref e::rest)) (fun r s'=>r=.none/\Q (.ref e) s') E ⟨h',g,d,t,os⟩):
  wpAny (model prog w) A (call (.ref C) rest) Q E ⟨h,g,d,t,os⟩:=by
 have f1:=tc_lookup;have f2:=tc_bind (.ref C);have f3:(⟨h,g,d,t,os⟩:Shared).TypeIs (.ref C) "type":=⟨_,c1,rfl⟩;refine xcJ (codeAny_of_tree ?_);show wpAny _ _ (callAny (.ref C) _) _ _ _
 repeat (any_goals (first |assumption |with_reducible refine xbT c1 ?_ |wp_step))
 exact⟨rfl,codeAny_call_builtin_at (Code.quiet_builtin _ (by x_go)) entry_typeCall (wpAny_check_type_call_sub c1 (zbe F T c1 c2 c3 c4 c5 c6 fun h' e m=>k h' e m))⟩
def zcE (hh:A.handled=none)
  (k:wpAny (model prog w) A x (fun v s₁=>∃e oe vs,v=.ref e/\(∃C nm q N bs bm hdct sn sub ab col dd k0 k1 k2 k3 k5 newId,s₁.heap.get? C=some (excClassObj nm q C N bs bm hdct sn sub ab col dd k0 k1 k2 k3 k5 newId)/\bm.contains (.type "BaseException")=true/\oe.cls=.ref C)/\
   s₁.heap.get? e=some oe/\oe.data=.fields vs/\vs[1]? =some .none/\E (.ref e) s₁) E s):
  wpAny (model prog w) A (raiseStmt env (some x) none) Q E s:=by
 unfold raiseStmt;refine xab (xbc k (fun v s₁ h₁=>?_) fun _ _ x=>x);obtain⟨e,oe,vs,rfl,⟨C,nm,q,N,bs,bm,hdct,sn,sub,ab,col,dd,k0,k1,k2,k3,k5,newId,hC,hb,hc⟩,he,hd,h1,hE⟩:=h₁;have hcB:(Value.ref C::bm).contains (.type "BaseException")=true:=by rw[xds,hb,xdL]
 obtain⟨oc,od,odt,osl⟩:=oe;dsimp only at hc hd;subst hc hd;obtain⟨hp,g,d,tk,os⟩:=s₁
 repeat (first |with_reducible refine xbT he ?_ |with_reducible refine xbT hC ?_ |(with_reducible refine xcA hC ?_;rw[hcB]) |with_reducible refine xbs he rfl h1 ?_ |wp_step)
 exact wpAny_raiseNew_none hh hE
def ziE (F:ExcBaseFacts B newId initId bmB)(T:OwnTail h bmB bm) 
  (c1:h.get? C=some (excClassObj nm q C N bs bm hdct sn sub ab col dd k0 k1 k2 k3 k5 newId)) (e1:h.get? e=some oe) (e2:oe.cls=.ref C) (e3:oe.data=.fields vs) (e4:vs[0]? =some (.ref t0)) (hz:rest.length<=sizeLine)
  (k:Q .none ⟨(h.push {cls:=.type "tuple",data:=.seq rest.toArray}).update e (Obj.mapFields (·.setIfInBounds 0 (.ref h.objs.size))),g,d,t,os⟩):
  wpAny (model prog w) A (call (.builtin initId) (.ref e::rest)) Q E ⟨h,g,d,t,os⟩:=by
 refine xcJ (xcw F.init.plain F.initEntry (wpAny_check_init_subT F T c1 e1 e2 ?_));unfold Builtin.«BaseException.__init__»;dsimp only;rw[xac (by simp)];unfold newTuple Builtin.BaseException.bexcPut;have z0:0<vs.size:=(xbg.mp e4).1;have e1':=xad (h:=h) {cls:=.type "tuple",data:=.seq rest.toArray} e1;refine xab (xbb (xab (xab (xbs e1' e3 e4 (xab (xcd e1' e3 z0 ?_))))) (by show rest.toArray.size<=sizeLine;rw[xal];exact hz));exact wpAny_letGo (xan k)
def zdn 
  (c1:h.get? C=some (excClassObj nm q C N bs bm hdct sn sub ab col dd k0 k1 k2 k3 k5 newId)) (c2:h.get? c=some (excClassObj nm' q' c N' bs' bm' hdct' sn' sub' ab' col' dd' j0 j1 j2 j3 j5 newId)) (e1:h.get? e=some oe) (e2:oe.cls=.ref C)
  (hb:bm'.contains (.type "BaseException")=true) (k:Q ((Value.ref C::bm).contains (.ref c)) ⟨h,g,d,t,os⟩):wpAny (model prog w) A (excMatches (.ref e) (.ref c)) Q E ⟨h,g,d,t,os⟩:=by
 have hcB:(Value.ref c::bm').contains (.type "BaseException")=true:=by rw[xds,hb,xdL]
 have f:=tc_notTuple;unfold excMatches;generalize hr:(Value.ref C::bm).contains (.ref c)=r at k
 repeat (first |(with_reducible refine xbT e1 ?_;rw[e2]) |with_reducible refine xbT c2 ?_ |(with_reducible refine xcA c2 ?_;rw[hcB]) |(with_reducible refine xcA c1 ?_;rw[hr]) |wp_step)
 cases r<;>(wp_walk;exact k)
end
abbrev Dc:Lvx:=[.type "ValueError",.type "Exception",.type "BaseException",.type "object"]
def O2:Lvx->Bool
 |.ref _::r=>O2 r
 |l=>l==Dc
theorem zaD:∀(l:Lvx),O2 l=true->∃as:List Addr,l=as.map Value.ref++Dc
 | [],e=>⟨[],xbh.mp e⟩
 |v::r,e=>by
  cases v
  case ref c=>
   obtain⟨as,h⟩:=zaD r e;exact⟨c::as,by rw[h];rfl⟩
  all_goals exact⟨[],xbh.mp e⟩
theorem zbG (self:Value):∀as:List Addr,refuseLoop self "__setattr__" (as.map Value.ref++Dc)=pure ()
 | []=>F.store_ValueError.passes self
 |c::as=>(refuseLoop_ref self "__setattr__" c _).trans (zbG self as)
def zii (as:List Addr):(as.map Value.ref++Dc).contains (.type "object")=true:=by
 induction as with
 |nil=>decide +kernel
 |cons c as ih=>rw[xai,xbX,xds,ih,xdL]
def eU (K:Fgx)(C:Addr):Bool:=match K.lookup C with
 |some ⟨.type "type",_,.cls cd,sl⟩=>(match cd.mro,sl.toList with
  |.ref c::bm,[_,_,_,_,some (.builtin n),_]=>c==C&&(n=="ValueError.__new__"&&(!cd.hasDel&&(W.tailIn K Dc bm&&(W.nsOkIn K cd.ns&&(cd.hasDict&&O2 bm)))))
  |_,_=>false)
 |_=>false
structure XCls (h:Heap)(C:Addr)(nm qn:Str)(N:Addr)(bs bm:Lvx)(sn:Lsx)(sub:Lvx)(ab:Bool)(col:Option Bool)(dd:Option Addr)(k0 k1 k2 k3 k5:Option Value):Prop where
 obj:h.get? C=some (excClassObj nm qn C N bs bm true sn sub ab col dd k0 k1 k2 k3 k5 "ValueError.__new__")
 tail:OwnTail h Dc bm
 ns:h.Ns N (h.nsMap N)
 over:O2 bm=true
def zV {K:Fgx}{h:Heap}{C:Addr}(X:K.In h)(q:eU K C=true):∃nm qn N bs bm sn sub ab col dd k0 k1 k2 k3 k5,
  XCls h C nm qn N bs bm sn sub ab col dd k0 k1 k2 k3 k5/\K.lookup C=some (excClassObj nm qn C N bs bm true sn sub ab col dd k0 k1 k2 k3 k5 "ValueError.__new__"):=by
 unfold eU at q;split at q
 .rename_i dd cd sl ho;split at q
  .rename_i c bm k0 k1 k2 k3 n k5 hm hs;simp only[xak,xbh,xcs]at q;obtain⟨q1,q2,q3,q4,q5,q6,q7⟩:=q;obtain⟨nm,bs,mro,ns,qn,hd,sn,sub,ab,col,del⟩:=cd;obtain⟨sl⟩:=sl;dsimp only at hm hs q3 q5 q6;subst q1 q2 hm q3 q6 hs;exact⟨nm,qn,ns,bs,bm,sn,sub,ab,col,dd,k0,k1,k2,k3,k5,⟨X _ _ ho,W.tail_of_in X q4,.of_isNs (W.isNs_of_in X q5),q7⟩,ho⟩
  .cases q
 .cases q
noncomputable def Df (K:Fgx) (C f:Addr):Bool:=match K.lookup C with
 |some ⟨_,_,.cls cd,_⟩=>W.nsIn K cd.ns "__init__"==some (some (.ref f))&&W.typeIn K (.ref f)==some (.type "function")
 |_=>false
noncomputable def JN (K:Fgx) (C:Addr):Bool:=match K.lookup C with
 |some ⟨_,_,.cls cd,_⟩=>W.nsIn K cd.ns "__init__"==some none
 |_=>false
def zcm {K:Fgx}{h:Heap}{N:Addr}{mg:Mgx}{n:Str}{v:Value}(X:K.In h)(G:h.Ns N mg)(e:W.nsIn K N n=some (some v)):mg n=some v:=by
 obtain⟨o,es,ep,ho,hd,_,hf⟩:=G;unfold W.nsIn at e;kj_one
 .rename_i q;have z:=X _ _ q;rw[ho]at z;cases z;cases hd;kj_one
  .rename_i en he;cases e;rw[<-hf];unfold nsFind findBy;rw[<-xdn,he];rfl
  .split at e<;>cases e
 .cases e
noncomputable def Bc (K:Fgx) (C:Addr):Bool:=W.findIn K (.ref C) "__getattribute__"==some (some (.builtin "BaseException.__getattribute__")) &&
 (W.findIn K (.ref C) "__getattr__"==some none&&W.mroIn K C (.type "BaseException")==some true)
section
variable {prog:Program}{w:World}{A:Around}{E:Vsp}{s:Shared}{K:Fgx}{x C:Addr}{ox:Obj}{od:Option Obj}{name:Str}{tk:Tok}
def Wj {fill expr:Bool}{Q:Vsp}(X:K.In s.heap)(q:Bc K C=true)(I:W.InstAt s.heap x ox C od)
  (h:wpAny (model prog w) A.in1 (Builtin.«object.__getattribute__» ⟨[.ref x,.str name tk],[]⟩) (fun fin s'=>match fin with
   |.done (.ret v)=>wpAny (model prog w) A (handedOut v) Q E s'
   |_=>False) (fun _ _=>False) s):wpAny (model prog w) A (getAttrBy (.ref x) (.str name tk) fill expr) Q E s:=by
 simp only[Bc,xak,xbh]at q;obtain⟨g1,g2,g3⟩:=q;have M0:=I.type (M:=model prog w);have M1:=xdk (M:=model prog w) X g1;have M2:=xdk (M:=model prog w) X g2;have M3:W.Looks (model prog w) s.heap (isInstance (.ref x) (.type "BaseException")) true:=M0.andThen (W.looks_mroIn X g3);have FB:=F.excAttr_ValueError;unfold getAttrBy;refine xbU (xab (M0.here (xab (M1.here ?_))));dsimp only;rw[show(Value.builtin "BaseException.__getattribute__"==Value.builtin "object.__getattribute__")=false from by x_go,xdW,xac xaF];unfold getAttrByItsOwn;refine xab (m:=hookBefore (.ref C)) (M2.here (xab (xdw (xbU ?_))));unfold callGetattribute;rw[xac (by cases expr<;>decide +kernel)]
 unfold boundAndCalled;rw[FB.ga.bind];refine xab (xan ?_);refine xcJ (xcw FB.ga.plain F.entry_bexc_ga (@W.check_slot (model prog w) _ _ s "BaseException.__getattribute__" "BaseException" "__getattribute__" (.ref x) [.str name tk] [] _ (by x_go) (by x_go) M3 (F.args_bexc_ga _ _) ?_));refine xbc h (fun fin s' z=>?_) fun _ _ z=>z.elim;rcases fin with(v |_ |_ |_) |c<;>first |exact z |exact z.elim
def zgi {v:Value}{Q:Fin->Shared->Prop}(X:K.In s.heap)(I:W.InstAt s.heap x ox C od)(hf:W.findObj K C od name=some (.value v))(k:Q (.done (.ret v)) s):
  wpAny (model prog w) A (Builtin.«object.__getattribute__» ⟨[.ref x,.str name tk],[]⟩) Q E s:=by
 have M0:=I.type (M:=model prog w);have M1:=W.looks_find (M:=model prog w) X I hf;refine xab (xan (xab (xan (xab (M0.here (xab (M1.here ?_)))))));exact xan k
end
def sI (K:Fgx)(C:Addr)(name:Str):Bool:=
 W.findIn K (.ref C) "__setattr__"==some (some (.builtin "object.__setattr__"))&&(W.takerIn K C name==some none &&
  (Bc K C&&(W.hasDictIn K C&&W.findIn K (.ref C) name==some none)))
section
variable {prog:Program}{w:World}{A:Around}{E:Vsp}{s:Shared}{K:Fgx}{x dx C:Addr}{ox:Obj}{vs:Avx}{name:Str}{v:Value}
def zkG {expr:Bool}{mA:Mgx}{Q:Vsp}(X:K.In s.heap)(q:sI K C name=true)(a1:s.heap.get? x=some ox)(a2:ox.cls=.ref C)(a3:ox.dict=some dx)(a4:ox.data=.fields vs)(a5:s.heap.Ns1 dx mA)
  (a6:mA name=some v) (a7:W.handedIn v=true) (k:Q v {s with toks:=s.toks+1}):wpAny (model prog w) A (getAttr (.ref x) name expr) Q E s:=by
 simp only[sI,xak,xbh]at q;obtain⟨od,e1,e2⟩:=Zc a5;have J:W.InstAt s.heap x ox C (some od):=⟨a1,a2,by unfold W.notCls;rw[a4],by rw[a3];exact e1⟩;unfold getAttr;refine xab (wpAny_mkText (Wj (s:={s with toks:=s.toks+1}) X q.2.2.1 J (zgi (s:={s with toks:=s.toks+1}) X J (W.findObj_own q.2.2.2.1 q.2.2.2.2 rfl (by rw[e2,a6])) ?_)));exact W.handed_on a7 k
def zkX {Q:Unit->Shared->Prop}(X:K.In s.heap)(q0:eU K C=true)(q:sI K C name=true)(a1:s.heap.get? x=some ox)(a2:ox.cls=.ref C)(a3:ox.dict=none)(a4:ox.data=.fields vs)
  (k:∀h' tk,(∀b o,b≠x->s.heap.get? b=some o->h'.get? b=some o)->h'.get? x=some {ox with dict:=some s.heap.objs.size}->h'.Ns1 s.heap.objs.size (fun y=>if y=name then some v else none)->Q () {s with heap:=h',toks:=tk}):
  wpAny (model prog w) A (setAttr (.ref x) name v) Q E s:=by
 simp only[sI,xak,xbh]at q;obtain⟨g1,g2,_,g4,_⟩:=q;obtain⟨nm,qn,N,bs,bm,sn,sub,ab,col,dd,k0,k1,k2,k3,k5,Y,lk⟩:=zV X q0;obtain⟨as,hbm⟩:=zaD bm Y.over;have J:W.InstAt s.heap x ox C none:=⟨a1,a2,by unfold W.notCls;rw[a4],by rw[a3];trivial⟩;refine W.set_plain X J g1 ?_;have SF:=F.store_object;obtain⟨cd,hc,hd⟩:=W.any_some g4;have hcd:cd.mro=(C::as).map Value.ref++Dc:=by
  unfold W.clsIn at hc;rw[lk]at hc;cases hc;show Value.ref C::bm=_;rw[hbm];rfl
 have ne:cd.mro.isEmpty=false:=by rw[hcd];rfl
 have sub2:W.Looks (model prog w) s.heap (isInstance (.ref x) (.type "object")) true:=
  J.type.andThen (W.looks_mroIn X (by unfold W.mroIn;rw[hc,Option.bind_some,xac (by rw[ne];decide),hcd,zii]))
 refine xcw SF.slot.plain SF.entry (@W.check_slot (model prog w) _ _ {s with toks:=s.toks+1} "object.__setattr__" "object" "__setattr__" (.ref x) [.str name s.toks,v] [] _ SF.kind SF.split sub2 (SF.args (.ref x) (.str name s.toks) v) ?_);obtain⟨attr,ha,hr⟩:=xdP.mp g2;have hm:W.Looks (model prog w) s.heap (mroOf (.ref C)) cd.mro:=(xd2 X hc).andThen .now;have L3:W.Looks (model prog w) s.heap (Builtin.ObjectAttr.storeTaker? attr) none:=by
  cases attr with
  |none=>exact .now
  |some a=>
   obtain⟨b,hb,e⟩:=xam.mp hr;refine(W.looks_takesIn X hb).andThen ?_;cases b
   .exact .now
   .cases e
 rw[W.osa_eq,refuse_eq];refine xab (xab (xcu (s:={s with toks:=s.toks+1}) J.type (xab (xcu (s:={s with toks:=s.toks+1}) hm ?_))));rw[hcd,zbG];refine xan (xab (xcu (s:={s with toks:=s.toks+1}) J.type (xab (xcu (s:={s with toks:=s.toks+1}) (xdk X ha) (xab (xcu (s:={s with toks:=s.toks+1}) L3 ?_))))));obtain⟨oc,odi,oda,osl⟩:=ox;dsimp only at a2 a3 a4;subst a2 a3 a4;refine xab (xan (xab (xab (wpAny_loadPart a1 (xab (xcu (s:={s with toks:=s.toks+1}) (xd2 X hc) ?_))))));rw[hd];have hx1:(s.heap.push {cls:=.type "dict",data:=.dict #[]}).get? x=some _:=xad _ a1;have hxs:x≠s.heap.objs.size:=xaM (xap a1);refine xab (wpAny_alloc' ?_);refine xab (wpAny_update' hx1 ?_);refine xan ?_;have hgd:((s.heap.push {cls:=.type "dict",data:=.dict #[]}).update x fun o=>{cls:=o.cls,dict:=some s.heap.objs.size,data:=o.data,slots:=o.slots}).get? s.heap.objs.size=some {cls:=.type "dict",data:=.dict #[]}:=
  (Heap.get?_update_ne _ _ _ _ hxs.symm).trans (Heap.get?_push_at rfl rfl)
 have hnd:((s.heap.push {cls:=.type "dict",data:=.dict #[]}).update x fun o=>{cls:=o.cls,dict:=some s.heap.objs.size,data:=o.data,slots:=o.slots}).Ns s.heap.objs.size (fun _=>none):=
  ⟨_, #[],_,hgd,rfl,fun e he=>absurd he (by simp),fun _=>rfl⟩
 show wpAny _ _ (Builtin.ObjectAttr.storeInDict s.heap.objs.size (.str name s.toks) name v) _ _ _;unfold Builtin.ObjectAttr.storeInDict Builtin.ObjectAttr.newKeyGuard;refine xab (xan (xab (wpAny_nsSet1 (Heap.Ns1.of_empty hnd) fun h' hn' hs=>?_)));obtain⟨oD,esD,epD,hoD,hdD,hcD⟩:=hn'.count (Within.cons name v Within.nil);refine xab (wpAny_lookBehind hoD (by rw[hdD];exact pastItsLine_dict (xaN hcD (by rw[xae,xa6,xay];lia))) ?_);refine xan (k h' _ (fun b o nb hb=>?_) ?_ hn')
 .exact(hs.2 b (xaM (xap hb))).trans ((Heap.get?_update_ne _ _ _ _ nb).trans (xad _ hb))
 .exact(hs.2 x hxs).trans (xbe _ hx1 rfl)
end
noncomputable def xo (a C:Addr) (dx:Option Addr) (b:Bool):HO:=.ext fun h=>∃oe vs t,h.get? a=some oe/\oe.cls=.ref C/\oe.dict=dx/\oe.data=.fields vs/\vs.size=6/\vs[0]? =some (.ref t)/\(b=true->vs[1]? =some .none)
def JQ (x:∃oe vs t,h.get? a=some oe/\oe.cls=.ref C/\oe.dict=dx/\oe.data=.fields vs/\vs.size=6/\vs[0]? =some (.ref t)/\(b=true->vs[1]? =some .none)):
  gM P w H h a (xo a C dx b):=by
 obtain⟨oe,vs,t,e,r⟩:=x;exact⟨⟨oe,vs,t,e,r⟩,⟨oe,e⟩,fun h1 h2 ⟨oe,vs,t,e,r⟩ k=>⟨oe,vs,t,k _ e,r⟩⟩
def O7 (h:Heap)(a T:Addr):Prop:=∃oe vs oT ts,h.get? a=some oe/\oe.data=.fields vs/\vs[1]? =some (.ref T)/\T≠a/\h.get? T=some oT/\oT.data=.fields ts/\ts[3]? =some .none
section
variable {P:Program}{w:World}{H:Hp}{h h':Heap}{fs ch:List Addr}{z a C T:Addr}{oe:Obj}{fl:Value}{dx:Option Addr}{b:Bool}{vs:Avx}
def zaY (N:Noted fs z h h' a oe T .none)(e1:h.get? a=some oe)(e2:oe.data=.fields vs)(e3:vs.size=6):O7 h' a T:=by
 obtain⟨oT,ts,t1,t2,t3⟩:=N.tb;refine⟨_,_,oT,ts,N.exc,xaY e2 _,by simp[e3],fun q=>?_,t1,t2,t3⟩;have z:=xar (xap e1) N.new;rw[q]at z;exact absurd z (xbf _)
def zd8 (N:Noted fs z h h' a oe T fl)(x:∃vs t,oe.cls=.ref C/\oe.dict=dx/\oe.data=.fields vs/\vs.size=6/\vs[0]? =some (.ref t)):∃oe vs t,h'.get? a=some oe/\oe.cls=.ref C/\oe.dict=dx/\oe.data=.fields vs/\vs.size=6/\vs[0]? =some (.ref t)/\(false=true->vs[1]? =some .none):=by
 obtain⟨vs,t,c1,c2,c3,c4,c5⟩:=x;refine⟨_,_,t,N.exc,(xcO _ _).trans c1,?_,xaY c3 _,by simp[c4],?_,fun q=>by cases q⟩
 .obtain⟨_,_,od,_⟩:=oe;dsimp only at c3;subst c3;exact c2
 .rw[xcZ (by decide)];exact c5
def zcc (N:Noted fs z h h' a oe T fl)(ha:H a=some (xo a C dx b))(hz:z=a\/z∈ch):Un fs ch H (upd H a (xo a C dx false)) h h':=by
 have n1:∀c,H c=none->c≠a:=fun c n q=>by rw[q,ha]at n;cases n
 have n2:∀c,c≠a->c∉ch->c≠z:=fun c n m q=>by
  rcases hz with r |r
  .exact n (q.trans r)
  .exact m (q ▸ r)
 have n3:∀c u,H c=some u->(∀φ,u≠ .ext φ)->c≠a:=fun c u q m r=>by
  rw[r,ha]at q;exact m _ (xaE q).symm
 refine⟨fun c o q n hc hx=>N.keep c o hc (n1 c n) (n2 c (n1 c n) hx) q,fun c o q n hc hx=>N.slot c o hc (n1 c n) (n2 c (n1 c n) hx) q,fun c o q n hx=>by rw[eN (n1 c n)];exact n,fun c o q hx=>?_,
  fun c xs q=>by rw[eN (n3 c _ q (by intro _ z;cases z))];exact q,fun c o u q=>by rw[eN (n3 c _ q (by intro _ z;cases z))];exact q,fun c ps q=>⟨#[],by rw[eN (n3 c _ q (by intro _ z;cases z)),q];simp⟩⟩
 by_cases ca:c=a
 .rw[ca];exact⟨_,N.exc⟩
 .by_cases cf:c∈fs
  .obtain⟨sl,r⟩:=N.slot c o cf ca (n2 c ca hx) q;exact⟨_,r⟩
  .exact⟨o,N.keep c o cf ca (n2 c ca hx) q⟩
def Yo (ok:gK P w H h)(N:Noted fs z h h' a oe T fl)(ha:H a=some (xo a C dx b))(hz:z=a\/H z=none)(hf:∀c∈fs,H c=none)
  (x:∃vs t,oe.cls=.ref C/\oe.dict=dx/\oe.data=.fields vs/\vs.size=6/\vs[0]? =some (.ref t)):gK P w (upd H a (xo a C dx false)) h':=fun c u q=>by
 have n3:∀c u,H c=some u->(∀φ,u≠ .ext φ)->c≠a:=fun c u q m r=>by
  rw[r,ha]at q;exact m _ (xaE q).symm
 by_cases hc:c=a
 .subst hc;rw[gA]at q;cases q;exact JQ (zd8 N x)
 .rw[eN hc]at q;have kp:∀d u v,H d=some u->d≠a->h.get? d=some v->h'.get? d=some v:=fun d u v q nd r=>N.keep d v (fun m=>by rw[hf d m]at q;cases q) nd (fun e=>by
   rcases hz with g |g
   .exact nd (e.trans g)
   .rw[e,g]at q;cases q) r
  refine(ok c u q).stay (fun d v hd r=>?_) (fun d r=>by rw[eN (n3 d _ r (by intro _ z;cases z))];exact r) fun d xs r=>by rw[eN (n3 d _ r (by intro _ z;cases z))];exact r
  rcases hd with rfl |hd
  .exact kp d u v q hc r
  .exact kp d _ v hd (n3 d _ hd (by intro _ z;cases z)) r
def Un.less (u:Un (L::fs) ch H H' h h')(n:h.get? L=none):Un fs ch H H' h h':=by
 have m:∀c o,h.get? c=some o->c≠L:=fun c o q e=>by rw[e,n]at q;cases q
 exact⟨fun c o q k hc hx=>u.keep c o q k (fun z=>(xaz.mp z).elim (m c o q) hc) hx,fun c o q k hc hx=>u.slot c o q k (xat _ hc) hx,u.free,u.there,u.tups,u.frzs,u.tbls⟩
end
def ud (P:Program)(w:World):sJ:=fun outer H s E e s'=>∃a C dx H' T,e=.ref a/\s'.os=s.os/\AllBare s'.gens/\Un (frs outer) [] H H' s.heap s'.heap/\gK P w H' s'.heap/\H' a=some (xo a C dx false)/\H' T=none/\s.heap.objs.size<=T/\O7 s'.heap a T/\E (.ref C) dx H'
section
variable {pins:Pnx}{Z:St}{H:Hp}{s:Shared}
def zeo {P:Program}{w:World}{K:Fgx}{mg:Mgx}{base:Heap}{N:Lsx}{qual:Str}{scope:Scope}{f:Addr}{cd:Value}{A:Around}{outer:List PySem.Env}{E:XK}{H1:Hp}{s1:Shared}{a C:Addr}{dx:Option Addr}
  (I:Inv (lC (ud P w) P w K mg base N qual scope f cd A outer s H E) pins Z H1 s1) (ha:H1 a=some (xo a C dx true)) (hE:E (.ref C) dx (upd H1 a (xo a C dx false))):(lC (ud P w) P w K mg base N qual scope f cd A outer s H E).xe (.ref a) s1:=by
 obtain⟨oe,vs,t,e1,e2,e3,e4,e5,e6,e7⟩:=(I.hok a _ ha).1;have fr:=I.ok.frames;have st:=I.stack;refine zbN fr st rfl e1 e4 (e7 rfl) fun h' T Nn=>?_;have hL:s.heap.get? (envOfC qual scope s.heap.objs.size f cd).locals=none:=xcb I.ok.above;have u1:Un (s.heap.objs.size::frs outer) [] H H1 s.heap s1.heap:=Un.mono (fs':=s.heap.objs.size::frs outer) (ex':=[]) I.base (fun b hb=>xat _ hb) fun b hb=>hb;have u2:Un (s.heap.objs.size::frs outer) [] H1 (upd H1 a (xo a C dx false)) s1.heap h':=zcc Nn ha (.inl rfl);have hT:H1 T=none:=I.hok.fresh Nn.new;have nT:T≠a:=fun q=>by rw[q,ha]at hT;cases hT
 refine⟨a,C,dx,_,T,rfl,I.os,I.bare,(u1.trans u2).less hL,Yo I.hok Nn ha (.inl rfl) (fun c hc=>I.stkFree c hc) ⟨vs,t,e2,e3,e4,e5,e6⟩,gA,by rw[eN nT];exact hT,xaN I.sz Nn.new,zaY Nn e1 e4 e5,hE⟩
end
def gM.some_of (x:gM P w H h a o):∃u,h.get? a=some u:=by
 cases o with
 |lst xs=>obtain⟨_,_,_,_,e⟩:=x;exact⟨_,e⟩
 |tup xs=>obtain⟨_,_,_,u,e,_⟩:=x;exact⟨u,e⟩
 |dK kvs=>obtain⟨_,_,_,_,u,_,_,e,_⟩:=x;exact⟨u,e⟩
 |dT kvs=>obtain⟨_,_,_,_,u,_,_,e,_⟩:=x;exact⟨u,e⟩
 |set S n=>obtain⟨u,_,_,_,e,_⟩:=x;exact⟨u,e⟩
 |ins C dx fs=>obtain⟨_,_,_,e,_⟩:=x;exact⟨_,e⟩
 |own y=>exact x
 |xd fs=>obtain⟨_,⟨u,_,_,e,_⟩,_⟩:=x;exact⟨u,e⟩
 |rng lo hi=>obtain⟨_,_,_,e⟩:=x;exact⟨_,e⟩
 |frz ob u=>obtain⟨e,_⟩:=x;exact⟨_,e⟩
 |tbl ps=>exact⟨_,x⟩
 |met f y=>exact⟨_,x⟩
 |ext φ=>exact x.2.1
theorem zfd (e:H a=some o):upd H a o=H:=by
 funext b;unfold upd
 split
 .subst_vars;exact e.symm
 .rfl
def Dg (ok:gK P w H h)(e:H a=some (xo a C dx b)):
 ∃oe vs t,h.get? a=some oe/\oe.cls=.ref C/\oe.dict=dx/\oe.data=.fields vs/\vs.size=6/\vs[0]? =some (.ref t)/\(b=true->vs[1]? =some .none):=(ok a _ e).1
section
variable {X:Cx}{pins:Pnx}{Z:St}{H:Hp}{s:Shared}
def Inv.laidN (I:Inv X pins Z H s)(k:∀b u,s.heap.get? b=some u->h'.get? b=some u)(n:s.heap.get? a=none)(new:gM X.prog X.w (upd H a o) h' a o):
  H a=none/\Inv X pins Z (upd H a o) {s with heap:=h',toks:=t'}:=by
 have hn:H a=none:=by
  cases q:H a with
  |none=>rfl
  |some u=>
   obtain⟨v,e⟩:=(I.hok a u q).some_of;rw[n]at e;cases e
 refine⟨hn,I.un ⟨fun b u q _ _ _=>k b u q,fun b u q _ _ _=>⟨u.slots,k b u q⟩,fun b u q m _=>?_,fun b u q _=>⟨u,k b u q⟩,fun b xs q=>by rw[eN (lu q hn)];exact q,fun b u xs q=>by rw[eN (lu q hn)];exact q,
  fun b ps q=>⟨#[],by rw[eN (lu q hn),q];simp⟩⟩ fun b u q=>?_⟩
 .rw[eN (fun z=>by rw[z,n]at q;cases q)];exact m
 .by_cases hb:b=a
  .subst hb;rw[gA]at q;cases q;exact new
  .rw[eN hb]at q;exact(I.hok b u q).stay (fun c v _ r=>k c v r) (fun c r=>by rw[eN (lu r hn)];exact r) fun c xs r=>by rw[eN (lu r hn)];exact r
def VF (C:Addr)(sp:Sp)(te:TE):TE:=fun Z H Q=>te Z H fun v H1=>∀a,H1 a=none->sp [.ref a,v] (upd H1 a (xo a C none true)) (fun r H2=>r=.non/\Q (.ref a) H2) E0
def zh0 (q1:eU X.K C=true)(q2:Df X.K C f=true)(kp:W.keepIn X.K (.ref C)=true)
  (F:FnOk X.prog X.w X.K X.mg X.base pF k f fd ps sp) (hr:Room (k+1) X.A) (hg:Gl X x) (hm:X.mg x=some (.ref C)) (hb:Binds X.K fd ps []) (hps:ps.length<=100) (he:PE X e te) (hdb:(x==("__debug__":Str))=false)
  (hs:starEach [e] X.env=[(false,eval e X.env)]):PE X (.Call (.Name x p) [e] [] pos) (VF C sp te):=by
 fen_go;refine xbL (wB I hg hm ?_ hdb);refine xc4 (h₀:=X.base) I.ok.mod.kin kp (aW (tY he xM hs pos pins s Z H (fun vs H1=>∀a,H1 a=none->sp (.ref a::vs) (upd H1 a (xo a C none true)) (fun r H2=>r=.non/\Q (.ref a) H2) E0) I h) fun us s1 ⟨vs,H1,I1,r,q⟩=>⟨I1.kIn,?_⟩) hs rfl;obtain⟨nm,qn,N,bs,bm,sn,sub,ab,col,dd,k0,k1,k2,k3,k5,Y,lk⟩:=zV I1.kIn q1;unfold Df at q2;rw[lk]at q2;simp only[xak,xbh]at q2;have c3:=zcm I1.kIn Y.ns q2.1;obtain⟨oI,c4,c5⟩:∃oI,s1.heap.get? f=some oI/\oI.cls=.type "function":=by
  have z:(X.K.lookup f).map (·.cls)=some (.type "function"):=q2.2
  cases lf:X.K.lookup f with
  |none=>rw[lf]at z;cases z
  |some oI=>rw[lf]at z;exact⟨oI,I1.kIn _ _ lf,xaE z⟩
 have hl:=r.length;have ql:=F.len _ _ _ _ (q s1.heap.objs.size (I1.hok.fresh (xag _)));rw[xae]at ql;obtain⟨hh,g,d,t,os⟩:=s1;refine zd7 xbB Y.tail Y.obj Y.ns c3 c4 c5 (by show us.length<=sizeLine;rw[<-hl,xay];lia) fun h' a M=>?_;obtain⟨t0,m1,_,_⟩:=M.there;obtain⟨hn,I2⟩:=I1.laidN (a:=a) (o:=xo a C none true) (t':=t) M.keeps M.new (JQ ⟨_,_,t0,m1,rfl,rfl,rfl,rfl,rfl,fun _=>rfl⟩);have r2:Vals (V.ref a::vs) (Value.ref a::us):=.cons rfl r;have hz:(Value.ref a::us++[]).length=ps.length:=by
  rw[xaA, <-r2.length];exact F.len _ _ _ _ (q a hn)
 have bd:=hb _ (Value.ref a::us) I2.kIn hz;rw[xaA]at bd;refine xcJ (xcv (F.run _ X.stack _ _ ⟨Value.ref a::us,[]⟩ (Value.ref a::us) (V.ref a::vs) _ E0 (hr.make C us []) (I2.env0.make C us []) bd r2 (q a hn)) fun rr s' hq=>?_)
 cases rr with
 |error e=>exact False.elim hq
 |ok fl=>
  cases fl with
  |ret u=>
   obtain⟨v,H',I3,rv,ev,q3⟩:=I2.after hq;subst ev;exact⟨rv,⟨V.ref a,H',I3,rfl,q3⟩⟩
  |next=>exact False.elim hq
  |brk=>exact False.elim hq
  |cont=>exact False.elim hq
def zb4 {e:Expr}{te:TE}{pos:Pos}{W:Addr->Addr->Option Addr->Hp->Prop}(he:PE X e te)(hc:X.calm=true)
  (hx:∀pins Z H s a C dx,Inv X pins Z H s->H a=some (xo a C dx true)->W a C dx H->X.xe (.ref a) s):
  PS X (.Raise (some e) none pos) (fun _ Z H=>te Z H fun v H1=>∃a C dx,v=.ref a/\H1 a=some (xo a C dx true)/\eU X.K C=true/\W a C dx H1):=by
 tb_src;rw[arm_exec_Raise];refine xab (xcS (zcE (I.ok.hd hc) (xab (aW (he pins s Z H _ I h) fun u s1 ⟨v,H1,I1,rv,a,C,dx,ev,ea,q1,w⟩=>xab (xcS (xan ?_))))));subst ev;cases rv;obtain⟨nm,qn,N,bs,bm,sn,sub,ab,col,dd,k0,k1,k2,k3,k5,Y,lk⟩:=zV I1.kIn q1;obtain⟨oe,vs,t,e1,e2,e3,e4,e5,e6,e7⟩:=Dg I1.hok ea;exact⟨a,oe,vs,rfl,⟨C,nm,qn,N,bs,bm,_,sn,sub,ab,col,dd,k0,k1,k2,k3,k5,_,Y.obj,Y.tail.hasType xbB.hasBase,e2⟩,e1,e4,e7 rfl,hx pins Z H1 s1 a C dx I1 ea w⟩
noncomputable def Dd (K:Fgx) (D:Addr):Bool:=W.specialIn K (.ref D) "__getattribute__"==some (some (.builtin "type.__getattribute__"))&&(W.readsIn K D (.type "type") &&
 (match W.findCls K (.ref D) (.type "type") "__init__" with
  |some (.val (.builtin i))=>i=="ValueError.__init__"
  |_=>false))
def tBi (K:Fgx)(t1 t2:TE):TE:=fun Z H Q=>t1 Z H fun x H1=>t2 Z H1 fun _ H2=>∃a C,x=.ref a/\H2 a=some (xo a C none true)/\eU K C=true/\Q .non H2
def zia (q:Dd X.K D=true)(hg:Gl X x)(hm:X.mg x=some (.ref D))(h1:PE X e1 t1)(h2:PE X e2 t2)(hdb:(x==("__debug__":Str))=false)
  (s1:starEach [e1,e2] X.env=(false,eval e1 X.env)::starEach [e2] X.env) (s2:starEach [e2] X.env=[(false,eval e2 X.env)])
  (ht:eval (.Call (.Attribute (.Name x p) "__init__" ap) [e1,e2] [] pos) X.env=(do
   let ov <-eval (.Name x p) X.env
   standAt ap.atName
   let (f,first) <-holding [ov] (getMethod ov "__init__" pl)
   callWith pos f first (backTo pos (starEach [e1,e2] X.env)) (backToKw pos (keywordEach [] X.env)))):
  PE X (.Call (.Attribute (.Name x p) "__init__" ap) [e1,e2] [] pos) (tBi X.K t1 t2):=by
 fen_go;simp only[Dd,xak,xbh]at q;obtain⟨q1,q2,q3⟩:=q;have q4:W.findCls X.K (.ref D) (.type "type") "__init__"=some (.val (.builtin "ValueError.__init__")):=by
  split at q3
  .rename_i i e;rw[e,xbh.mp q3]
  .cases q3
 refine W.methodCall_KW (pl:=pl) (wB I hg hm ?_ hdb) ht;refine W.method_cls I.kIn q1 (W.cls_value I.kIn q2 q4 rfl ?_);have I0:=I.tok (s.toks+1);refine xc6 (aW (tY h1 (tY h2 xM s2) s1 pos pins _ Z H (fun vs H2=>match vs with
  | [x,_]=>∃a C,x=.ref a/\H2 a=some (xo a C none true)/\eU X.K C=true/\Q .non H2
  |_=>False) I0 h) fun us s3 ⟨vs,H3,I3,r,z⟩=>?_) s1 (by rw[s2];rfl)
 rcases vs with _ |⟨x1,_ |⟨y1,_ |⟨z1,vs⟩⟩⟩<;>first |exact z.elim |skip
 obtain⟨a,C,rfl,ea,q5,hq⟩:=z
 cases r with
 |cons r1 r2=>
  cases r2 with
  |cons r3 r4=>
   cases r4;cases r1;rename_i u1 _;obtain⟨nm,qn,N,bs,bm,sn,sub,ab,col,dd,k0,k1,k2,k3,k5,Y,lk⟩:=zV I3.kIn q5;obtain⟨oe,ws,t0,e1,e2,e3,e4,e5,e6,e7⟩:=Dg I3.hok ea;obtain⟨hh,g,d,t,os⟩:=s3;refine ziE xbB Y.tail Y.obj e1 e2 e4 e6 (by show 1<=sizeLine;rw[xay];decide) ?_;have e8:=xad (h:=hh) {cls:=.type "tuple",data:=.seq [u1].toArray} e1;have e9:=xbe (Obj.mapFields (·.setIfInBounds 0 (.ref hh.objs.size))) e8 (xbx (xaY e4 _));have I4:=I3.write (x:=a) (e:=a) (o:=xo a C none true) (t':=t) (by rw[ea];exact True.intro) (.inl rfl) (fun b u nb hb=>(xa0 _ _ (xbw nb)).trans (xad _ hb)) ⟨_,e9⟩ (JQ ⟨_,_,hh.objs.size,e9,(xcO _ _).trans e2,(by
    obtain⟨_,_,od,_⟩:=oe;dsimp only at e4;subst e4;exact e3),xaY e4 _,by simp[e5],by simp[e5],fun z=>by rw[xcZ (by decide)];exact e7 z⟩)
   rw[zfd ea]at I4;exact⟨.non,H3,I4,rfl,hq⟩
def U9 (K:Fgx)(f:Str)(ta tv:TE):TS:=fun D Z H=>tv Z H fun y H1=>ta Z H1 fun x H2=>∃a C b,x=.ref a/\H2 a=some (xo a C none b)/\eU K C=true/\sI K C f=true/\
 ∀dx,H2 dx=none->dx≠a->D.nx Z (upd (upd H2 dx (.xd [(f,y)])) a (xo a C (some dx) b))
def zfa (ha:PE X o ta)(hv:PE X value tv)(hs:swapsWith value (some (.Attribute o f pos')) pos.line X.env=pure false):PS X (.Assign [.Attribute o f pos'] value pos) (U9 X.K f ta tv):=by
 tb_src;refine xcX (aW (hv pins s Z H _ I h) fun u s1 ⟨y,H1,I1,ry,q⟩=>aW (ha pins s1 Z H1 _ I1 q) fun ov s2 ⟨x,H2,I2,rx,a,C,b,ex,ea,q1,q2,k⟩=>?_) hs;subst ex;obtain rfl:ov=Value.ref a:=rx;obtain⟨oe,vs,t,e1,e2,e3,e4,e5,e6,e7⟩:=Dg I2.hok ea;refine zkX I2.kIn q1 q2 e1 e2 e3 e4 fun h' tk kp hx hn=>?_;have hd:H2 s2.heap.objs.size=none:=I2.hok.fresh (xag _);have nd:s2.heap.objs.size≠a:=xc3 (xap e1);refine⟨Z,_,?_,k _ hd nd⟩;have ext:∀c u,H2 c=some u->(∀φ,u≠ .ext φ)->c≠a:=fun c u q m r=>by
  rw[r,ea]at q;exact m _ (xaE q).symm
 have up:∀c u,c≠a->H2 c=some u->(upd (upd H2 s2.heap.objs.size (.xd [(f,y)])) a (xo a C (some s2.heap.objs.size) b)) c=some u:=fun c u n q=>by
  rw[eN n,eN (lu q hd)];exact q
 refine I2.un ⟨fun c o q n _ _=>kp c o (fun z=>by rw[z,ea]at n;cases n) q,fun c o q n _ _=>⟨o.slots,kp c o (fun z=>by rw[z,ea]at n;cases n) q⟩,fun c o q n _=>?_,fun c o q _=>?_,
  fun c xs q=>up c _ (ext c _ q (by intro _ z;cases z)) q,fun c o xs q=>up c _ (ext c _ q (by intro _ z;cases z)) q,fun c ps q=>⟨#[],by rw[up c _ (ext c _ q (by intro _ z;cases z)) q];simp⟩⟩ fun c u q=>?_
 .rw[eN (fun z=>by rw[z,ea]at n;cases n),eN (xaM (xap q))];exact n
 .by_cases ca:c=a
  .rw[ca];exact⟨_,hx⟩
  .exact⟨o,kp c o ca q⟩
 .by_cases ca:c=a
  .subst ca;rw[gA]at q;cases q;exact JQ ⟨_,vs,t,hx,e2,rfl,e4,e5,e6,e7⟩
  .rw[eN ca]at q
   by_cases cd:c=s2.heap.objs.size
   .rw[cd,gA]at q;cases q;rw[cd];refine⟨_,hn,fun g=>?_⟩
    by_cases gf:g=f
    .subst gf;simp only[List.lookup,xbI,xa8];exact ry
    .have gb:(g==f)=false:=xbv.mpr gf;simp only[List.lookup,gb,xac gf]
     trivial
   .rw[eN cd]at q;exact(I2.hok c u q).stay (fun d v hdv r=>kp d v (by
     rcases hdv with rfl |z
     .exact ca
     .exact ext d _ z (by intro _ z;cases z)) r) (fun d r=>up d _ (ext d _ r (by intro _ z;cases z)) r) fun d xs r=>up d _ (ext d _ r (by intro _ z;cases z)) r
def VN (K:Fgx)(f:Str)(ta:TE):TE:=fun Z H Q=>ta Z H fun x H1=>∃a C dx b fs v,x=.ref a/\H1 a=some (xo a C (some dx) b)/\sI K C f=true/\H1 dx=some (.xd fs)/\fs.lookup f=some v/\Q v H1
def zjI (he:PE X e ta)(hb:attributeBase e f X.env (eval e X.env)=eval e X.env):PE X (.Attribute e f pos) (VN X.K f ta):=by
 fen_go;refine zgo hb (aW (he pins s Z H _ I h) fun u s1 ⟨x,H1,I1,rx,a,C,dx,b,fs,v,ex,ea,q1,ed,l,q⟩=>?_);subst ex;obtain rfl:u=Value.ref a:=rx;obtain⟨oe,vs,t,e1,e2,e3,e4,_⟩:=Dg I1.hok ea;obtain⟨mA,n,r⟩:=(show gM X.prog X.w H1 s1.heap dx (.xd fs) from I1.hok dx _ ed);obtain⟨u2,hu,ru⟩:=lA.some_of (v:=v) (o:=mA f) (by rw[<-l];exact r f);exact zkG I1.kIn q1 e1 e2 e3 e4 n hu (zc4 ru) ⟨v,H1,I1.tok _,ru,q⟩
def Bd (K:Fgx)(C:Addr):Bool:=Bc K C&&(W.hasDictIn K C&&(W.findIn K (.ref C) "__class__"==some (some (.builtin "object.__class__")) &&
 (W.specialIn K (.builtin "object.__class__") "__get__"==some (some (.builtin "getset_descriptor.__get__"))&&(W.takesIn K (.builtin "object.__class__")==some true&&W.mroIn K C (.type "object")==some true))))
end
section
variable {X:Cx}{pins:Pnx}{Z:St}{H:Hp}{s:Shared}
def Inv.del (I:Inv X pins Z H s)(hN:X.N.Nodup)(hi:X.N[i]? =some x)(hk:X.env.scope.names.lookup x=some .local)(hv:Z[i]? =some (some v))
  (k:∀s',Inv X pins (Z.set i none) H s'->Q () s'):wpAny M A (unbindName X.env x) Q E s:=by
 obtain⟨m,hn,hl⟩:=id I.loc;obtain⟨u,r,q⟩:=hl i x v hi hv (.inl hk);have hk':X.env.kindOf x=some .local:=hk;have hm:m x=some u:=by
  rcases q with⟨_,e⟩ |⟨z,_⟩
  .exact e
  .rw[hk']at z;rcases z with z |z<;>cases z
 have hcls:(X.env.scope.kind==.class||(X.env.scope.kind==.module&&X.env.locals !=X.env.globals))=false:=by rw[I.ok.kind];rfl
 refine wpAny_unbindName_local hk' hn hm hcls fun h' u' hn' hs=>k _ ?_;obtain⟨oL,_,_,hoL,_⟩:=id hn;have above:∀b o,X.s₀.heap.get? b=some o->b≠X.env.locals:=fun b o e=>xaM (xar (xap e) I.ok.above);refine⟨I.ok,I.os,I.bare,⟨fun b o e n hb hx=>(hs.2 b (above b o e)).trans (I.base.keep b o e n hb hx),fun b o e n hb hx=>?_,I.base.free,fun b o e hx=>?_,I.base.tups,I.base.frzs,I.base.tbls⟩,⟨_,hn',fun j y v' e1 e2 e3=>?_⟩,fun y c e=>?_,I.free,I.freeC,fun p hp=>?_,fun b ob e=>?_,by simpa using I.len⟩
 .obtain⟨sl,e1⟩:=I.base.slot b o e n hb hx;exact⟨sl,(hs.2 b (above b o e)).trans e1⟩
 .obtain⟨o',e1⟩:=I.base.there b o e hx;exact⟨o',(hs.2 b (above b o e)).trans e1⟩
 .have hj:j≠i:=by
   rintro rfl;rw[xa9]at e2;split at e2
   .split at e2<;>cases e2
   .rename_i z;exact z rfl
  rw[xc2 (xbw hj)]at e2;obtain⟨u2,r2,q2⟩:=hl j y v' e1 e2 e3;refine⟨u2,r2,?_⟩;rcases q2 with⟨k2,e⟩ |⟨k2,c,e,z⟩
  .have ne:y≠x:=fun e=>hj (Tg hN e1 (e ▸ hi));exact .inl ⟨k2,(xac ne).trans e⟩
  .exact .inr ⟨k2,c,e,z.sameBut hs (I.cne y c e)⟩
 .obtain⟨w',z⟩:=I.cell y c e;exact⟨w',z.sameBut hs (I.cne y c e)⟩
 .obtain⟨e,n,ne,nf,d⟩:=I.pin p hp;exact⟨(hs.2 p.1 ne).trans e,n,ne,nf,d⟩
 .refine(I.hok b ob e).stay (fun c w' hc q=>(hs.2 c ?_).trans q) (fun _ q=>q) fun _ _ q=>q;rintro rfl;rcases hc with rfl |hc
  .rw[I.free]at e;cases e
  .rw[I.free]at hc;cases hc
structure Caught (X:Cx)(pins:Pnx)(Z:St)(H:Hp)(s:Shared)(a C:Addr)(dx:Option Addr)(T:Addr):Prop where
 inv:Inv X pins Z H s
 obj:H a=some (xo a C dx false)
 fl:O7 s.heap a T
 hT:H T=none
 t1:X.s₀.heap.objs.size<=T
 t2:T≠X.env.locals
 t3:∀x c,X.env.cells.lookup x=some c->c≠T
 t4:∀p∈X.pn++pins,p.1≠T
def W8 (I:Inv X pins Z H s)(h:s.heap.objs.size<=T):X.s₀.heap.objs.size<=T/\T≠X.env.locals/\(∀x c,X.env.cells.lookup x=some c->c≠T)/\∀p∈X.pn++pins,p.1≠T:=by
 refine⟨xaN I.sz h,xc3 (xar I.lt h),fun x c e=>?_,fun p hp=>?_⟩
 .obtain⟨v,o,ho,_⟩:=I.cell x c e;exact xaM (xar (xap ho) h)
 .exact xaM (xar (xap (I.pin p hp).1) h)
def QD (I:Inv X pins Z H s)(h:ud X.prog X.w X.stack H s E e s'):∃a C dx H' T,e=.ref a/\Caught X pins Z H' s' a C dx T/\E (.ref C) dx H':=by
 obtain⟨a,C,dx,H',T,rfl,os,bare,un,hok,ha,hT,hz,fl,hE⟩:=h;have I2:=I.call' os un hok bare (fun b z=>nomatch z)
 obtain⟨z1,z2,z3,z4⟩:=W8 I hz;exact⟨a,C,dx,H',T,rfl,⟨I2,ha,fl,hT,z1,z2,z3,z4⟩,hE⟩
variable {a C T:Addr}{dx:Option Addr}{Q:Unit->Shared->Prop}{E:Vsp}{M:Model}
def Caught.note (c:Caught X pins Z H s a C dx T)(hs:X.stack=X.env::X.outer)(hf:X.env.frame=some X.env.locals)(k:∀s' T',Caught X pins Z H s' a C dx T'->Q () s'):
  wpAny M X.A (noteFrame (.ref a) X.env) (fun _ s2=>wpAny M X.A (setFlight (.ref a) none) Q E s2) E s:=by
 obtain⟨oe,vs,t,e1,e2,e3,e4,e5,e6,_⟩:=Dg c.inv.hok c.obj;obtain⟨oe',vs',oT,ts,f1,f2,f3,f4,f5,f6,f7⟩:=c.fl;rw[e1]at f1;cases f1;rw[e4]at f2;cases f2;have fr:=c.inv.ok.frames;have st:=c.inv.stack;rw[hs]at fr st;refine zdM fr st hf e1 e4 f3 f4 f5 f6 f7 fun h' T' N=>zaI (s:={s with heap:=h'}) N e1 e4 (by lia) fun h2 N2=>k _ T' ?_;have hx:∃vs t,oe.cls=.ref C/\oe.dict=dx/\oe.data=.fields vs/\vs.size=6/\vs[0]? =some (.ref t):=⟨vs,t,e2,e3,e4,e5,e6⟩;rw[<-hs]at N2;have u:=zcc (ch:=[T]) N2 c.obj (.inr (xaG.mpr rfl));have hk:=Yo c.inv.hok N2 c.obj (.inr c.hT) (fun b hb=>c.inv.stkFree b hb) hx;rw[zfd c.obj]at u hk;have I2:Inv X pins Z H {s with heap:=h2}:=c.inv.call' (s':={s with heap:=h2}) rfl u hk c.inv.bare (fun b hb=>by
  rw[xaG.mp hb];exact⟨.inr c.t1,c.t2,c.t3,c.t4⟩)
 obtain⟨z1,z2,z3,z4⟩:=W8 c.inv N2.new;exact⟨I2,c.obj,zaY N2 e1 e4 e5,c.inv.hok.fresh N2.new,z1,z2,z3,z4⟩
def Caught.off (c:Caught X pins Z H s a C dx T)(k:∀s',Caught X pins Z H s' a C dx T->Q () s'):wpAny M A (setFlight (.ref a) none) Q E s:=by
 obtain⟨oe,vs,oT,ts,f1,f2,f3,f4,f5,f6,f7⟩:=c.fl;have z3:3<ts.size:=(xbg.mp f7).1;refine X8 f1 f2 f3 f5 f6 z3 (k _ ?_);have kp:∀b o,b≠T->s.heap.get? b=some o->(s.heap.update T (Obj.mapFields (·.setIfInBounds 3 .none))).get? b=some o:=fun b o n e=>(xa0 _ _ (xbw n)).trans e;have I2:=c.inv.turned (t':=s.toks) kp c.hT c.t2 (.inr c.t1) c.t3 c.t4;exact⟨I2,c.obj,⟨oe,vs,_,_,kp a oe (xbw f4) f1,f2,f3,f4,xbe _ f5 (xbx (xaY f6 _)),xaY f6 _,by simp[z3]⟩,c.hT,c.t1,c.t2,c.t3,c.t4⟩
end
abbrev Cx.pin (X:Cx)(pins:Pnx)(E:Vsp):Cx:={X with pn:=X.pn++pins,xe:=E}
abbrev Cx.suite (X:Cx)(e:Value):Cx:={X with A:=X.A.mark (some e),calm:=false,xe:=fun _ _=>False}
section
variable {X:Cx}{pins ps:Pnx}{Z:St}{H:Hp}{s:Shared}{E:Vsp}{e:Value}
def Inv.to_pin (I:Inv X pins Z H s)(E:Vsp):Inv (X.pin pins E) [] Z H s:=
  ⟨⟨I.ok.mod,I.ok.kind,I.ok.glob,I.ok.blt,I.ok.above,I.ok.inj,I.ok.has,I.ok.cab,I.ok.hd,I.ok.frames,I.ok.stk,I.ok.exf,I.ok.bs,I.ok.bsz,I.ok.noex,I.ok.exfs,I.ok.funs,I.ok.frf⟩,I.os,I.bare,I.base,I.loc,I.cell,I.free,I.freeC,
    fun p hp=>I.pin p (by simpa using hp),I.hok,I.len⟩
def Inv.of_pin (I:Inv (X.pin pins E) ps Z H s):Inv X pins Z H s:=
  ⟨⟨I.ok.mod,I.ok.kind,I.ok.glob,I.ok.blt,I.ok.above,I.ok.inj,I.ok.has,I.ok.cab,I.ok.hd,I.ok.frames,I.ok.stk,I.ok.exf,I.ok.bs,I.ok.bsz,I.ok.noex,I.ok.exfs,I.ok.funs,I.ok.frf⟩,I.os,I.bare,I.base,I.loc,I.cell,I.free,I.freeC,
    fun p hp=>I.pin p (xc1 _ hp),I.hok,I.len⟩
def Inv.to_suite (I:Inv X pins Z H s)(e:Value):Inv (X.suite e) pins Z H s:=
 ⟨⟨I.ok.mod,I.ok.kind,I.ok.glob,I.ok.blt,I.ok.above,I.ok.inj,I.ok.has,I.ok.cab,(fun z=>by cases z),I.ok.frames,I.ok.stk,I.ok.exf,I.ok.bs,I.ok.bsz,I.ok.noex,I.ok.exfs,I.ok.funs,I.ok.frf⟩,I.os,I.bare,I.base,I.loc,I.cell,I.free,I.freeC,I.pin,I.hok,I.len⟩
def Inv.of_suite (I:Inv (X.suite e) pins Z H s)(hd:X.A.handled=none):Inv X pins Z H s:=
 ⟨⟨I.ok.mod,I.ok.kind,I.ok.glob,I.ok.blt,I.ok.above,I.ok.inj,I.ok.has,I.ok.cab,fun _=>hd,I.ok.frames,I.ok.stk,I.ok.exf,I.ok.bs,I.ok.bsz,I.ok.noex,I.ok.exfs,I.ok.funs,I.ok.frf⟩,I.os,I.bare,I.base,I.loc,I.cell,I.free,I.freeC,I.pin,I.hok,I.len⟩
end
noncomputable def kW (K:Fgx) (C c:Addr):Bool:=match K.lookup C with
 |some ⟨_,_,.cls cd,_⟩=>cd.mro.contains (.ref c)
 |_=>false
def zd5 {X:Cx}{CX:sJ}{k:Nat}{f:Addr}{fd:FuncData}{ps:Lsx}{sp:Sp}{dvs:List V}{ds:Lvx}{x:Str}{p pos:Pos}{e:Expr}{es:Lex}{t:TA}{Ex:St->XK}(F:FnOk X.prog X.w X.K X.mg X.base CX k f fd ps sp)(hr:Room k X.A)(hg:Gl X x)
  (hm:X.mg x=some (.ref f)) (hk:W.keepIn X.K (.ref f)=true) (hb:Binds X.K fd ps ds) (hd:Vals dvs ds) (hx:∀pins Z H s e s',Inv X pins Z H s->CX X.stack H s (Ex Z) e s'->X.xe e s') (ha:PA X (e::es) t)
  (hdb:(x==("__debug__":Str))=false) (he:starEach (e::es) X.env=(false,eval e X.env)::starEach es X.env) (hpl:(backTo pos (starEach es X.env)).any (·.1)=false):
  PE X (.Call (.Name x p) (e::es) [] pos) (fun Z H Q=>t Z H fun vs H1=>sp (vs++dvs) H1 Q (Ex Z)):=by
 fen_go;refine xbL (wB I hg hm ?_ hdb);refine xc4 (h₀:=X.base) I.ok.mod.kin hk (aW (ha pos pins s Z H _ I h) fun us s1 ⟨vs,H1,I1,r,q⟩=>⟨I1.kIn,?_⟩) he hpl;have r2:Vals (vs++dvs) (us++ds):=r.append hd;have hl:(us++ds).length=ps.length:=by rw[<-r2.length];exact F.len _ _ _ _ q
 refine xcJ (xcv (F.run X.A X.stack s1 H1 ⟨us,[]⟩ (us++ds) (vs++dvs) Q (Ex Z) hr I1.env0 (hb s1 us I1.kIn hl) r2 q) fun rr s' hq=>?_)
 cases rr with
 |error e=>exact hx pins Z H1 s1 e s' I1 hq
 |ok fl=>
  cases fl with
  |ret u=>exact I1.after hq
  |next=>exact False.elim hq
  |brk=>exact False.elim hq
  |cont=>exact False.elim hq
def ns_none_of {K:Fgx}{h:Heap}{N:Addr}{mg:Mgx}{n:Str}(X:K.In h)(G:h.Ns N mg)(e:W.nsIn K N n=some none):mg n=none:=by
 obtain⟨o,es,ep,ho,hd,_,hf⟩:=G;unfold W.nsIn at e;kj_one
 .rename_i q;have z:=X _ _ q;rw[ho]at z;cases z;cases hd;kj_one
  .cases e
  .rename_i he;rw[<-hf];unfold nsFind findBy;rw[<-xdn,he];rfl
 .cases e
section
variable {X:Cx}
def tpC (C:Addr)(Q:VK)(vs:List V)(H:Hp):Prop:=vs.length=1/\∀a,H a=none->Q (.ref a) (upd H a (xo a C none true))
def ziR (C:Addr)(te:TE):TE:=fun Z H Q=>te Z H fun v H1=>tpC C Q [v] H1
def zdR {C:Addr}{x:Str}{p pos:Pos}{e:Expr}{te:TE}(q1:eU X.K C=true)(q2:JN X.K C=true)(kp:W.keepIn X.K (.ref C)=true)(hg:Gl X x)(hm:X.mg x=some (.ref C))(he:PE X e te)(hdb:(x==("__debug__":Str))=false)
  (hs:starEach [e] X.env=[(false,eval e X.env)]):PE X (.Call (.Name x p) [e] [] pos) (ziR C te):=by
 fen_go;refine xbL (wB I hg hm ?_ hdb);refine xc4 (h₀:=X.base) I.ok.mod.kin kp (aW (tY he xM hs pos pins s Z H (tpC C Q) I h) fun us s1 ⟨vs,H1,I1,r,q⟩=>⟨I1.kIn,?_⟩) hs rfl;obtain⟨nm,qn,N,bs,bm,sn,sub,ab,col,dd,k0,k1,k2,k3,k5,Y,lk⟩:=zV I1.kIn q1;unfold JN at q2;rw[lk]at q2;simp only[xbh]at q2;have c3:=ns_none_of I1.kIn Y.ns q2;have hl:us.length=1:=by
  rw[<-r.length,q.1]
 obtain⟨hh,g,d,t,os⟩:=s1;refine wpAny_call_exc_subU xbB (by x_go) xbB Y.tail Y.obj Y.ns c3 (fun h' a M=>?_) (by show us.length<=sizeLine;rw[hl,xay];decide);obtain⟨t0,m1,_,_⟩:=M.there;obtain⟨hn,I2⟩:=I1.laidN (a:=a) (o:=xo a C none true) (t':=t) M.keeps M.new (JQ ⟨_,_,t0,m1,rfl,rfl,rfl,rfl,rfl,fun _=>rfl⟩);exact⟨V.ref a,_,I2,rfl,q.2 a hn⟩
end
end L2
namespace E3
open L2
inductive D where
 |non |bl (b:Bool) |int (i:Int) |str (s:Str) |tup (xs:List D) |lst (xs:List D) |ref (n:Nat)
structure FnT where
 st:Stmt
 x:Str
 q:Str
 pos:Pos
 fr:Lsx
 dd:Lix:=[]
inductive Cl where
 |lst (ds:List D) |obj (c:Str) (fs:List (Str×D)) |dct (kvs:List (L2.Key×D))
  |dcf (kvs:List (L2.Key×D))
  |dtc (kvs:List (List L2.Key×D)) |dtf (kvs:List (List L2.Key×D))
  |fn (i:FnT) (caps:List (Str×D)) |tbl (nm:Str) (i:FnT)
  |tpc (ds:List D)
abbrev Mm:=List Cl
inductive Slot where
 |un |val (d:D) |own (ds:List D) |exc (c:Str) (n:Int)
abbrev Env:=List Slot
mutual
def D.lf:D->Bool
 |.tup xs=>D.lfs xs
 |.lst _=>false
 |.ref _=>false
 |_=>true
def D.lfs:List D->Bool
 | []=>true
 |a::as=>D.lf a&&D.lfs as
end
def KL (K:Fgx)(a:Addr)(vs:List V):Prop:=∃(o:Obj) (its:Avx) (n:Nat),K.lookup a=some o/\o.cls=.type "list"/\o.dict=none/\o.data=.seq its n/\its.size<=sizeLine/\Vals vs its.toList
structure Pl where
 io:Nat->Addr
 n:Nat
 bd:Addr->Prop
def Bj (K:Fgx)(P:Pl)(H:Hp)(a:Addr)(vs:List V):Prop:=(¬ P.bd a/\Rd H a (.lst vs))\/KL K a vs
def Wz (K:Fgx)(P:Pl)(H:Hp)(a:Addr)(vs:List V):Prop:=((∀k,k<P.n->P.io k≠a)/\Rd H a (.lst vs))\/KL K a vs
mutual
def Is (K:Fgx)(P:Pl)(H:Hp):D->V->Prop
 |.non,v=>v=.non
 |.bl b,v=>v=.bl b
 |.int i,v=>v=.int i
 |.str s,v=>v=.str s
 |.tup ds,v=>∃a vs,v=.ref a/\gO K H a vs/\aL K P H ds vs
 |.lst ds,v=>∃a vs,v=.ref a/\Bj K P H a vs/\aL K P H ds vs
 |.ref k,v=>k<P.n/\v=.ref (P.io k)
def aL (K:Fgx)(P:Pl)(H:Hp):List D->List V->Prop
 | [],vs=>vs=[]
 |d::ds,vs=>∃v r,vs=v::r/\Is K P H d v/\aL K P H ds r
end
def Fx (o:HO):Prop:=(∃xs,o=.tup xs)\/(∃u w,o=.frz u w)\/(∃g,o=.ext g)\/∃fs,o=.xd fs
structure Lt (P:Pl)(H:Hp)(P':Pl)(H':Hp):Prop where
 n:P.n<=P'.n
 io:∀k,k<P.n->P'.io k=P.io k
 bd:∀a,P'.bd a->P.bd a\/H a=none
 keep:∀a o,H a=some o->(Fx o\/¬ P.bd a)->H' a=some o
 sure:∀a,H' a=none->H a=none
section
variable {K:Fgx}{P P' P'':Pl}{H H' H'':Hp}
def Lt.refl (P:Pl)(H:Hp):Lt P H P H:=⟨xag _,fun _ _=>rfl,fun _ z=>.inl z,fun _ _ e _=>e,fun _ z=>z⟩
theorem Lt.frz (l:Lt P H P' H'):∀b o u,H b=some (.frz o u)->H' b=some (.frz o u):=fun b o u e=>l.keep b _ e (.inl (.inr (.inl ⟨_,_,rfl⟩)))
def Lt.fz (l:Lt P H P' H'):∀b o c,H b=some (.frz o (.own c))->H' b=some (.frz o (.own c)):=fun b o c e=>l.frz b o _ e
def Lt.not (l:Lt P H P' H')(e:H a=some o)(n:¬ P.bd a):¬ P'.bd a:=fun z=>(l.bd a z).elim n fun z=>by rw[e]at z;cases z
theorem Lt.trans (l:Lt P H P' H')(m:Lt P' H' P'' H''):Lt P H P'' H'' where
 n:=xaN l.n m.n
 io:=fun k h=>(m.io k (xar h l.n)).trans (l.io k h)
 bd:=fun a z=>(m.bd a z).elim (l.bd a) fun z=>.inr (l.sure a z)
 keep:=fun a o e h=>m.keep a o (l.keep a o e h) (h.imp id fun n=>l.not e n)
 sure:=fun a z=>l.sure a (m.sure a z)
def Lt.rd (l:Lt P H P' H')(n:¬ P.bd a)(h:Rd H a (.lst xs)):Rd H' a (.lst xs):=by
 rcases h with h |⟨o,h⟩
 .exact .inl (l.keep _ _ h (.inr n))
 .exact .inr ⟨o,l.keep _ _ h (.inr n)⟩
def zc8 (h:Rd H a o):∃o',H a=some o':=h.elim (fun h=>⟨_,h⟩) fun⟨_,h⟩=>⟨_,h⟩
def Lt.rda (l:Lt P H P' H')(h:Bj K P H a xs):Bj K P' H' a xs:=h.imp (fun⟨n,h⟩=>⟨by obtain⟨o,e⟩:=zc8 h;exact l.not e n,l.rd n h⟩) id
def Lt.tup (l:Lt P H P' H')(h:gO K H a xs):gO K H' a xs:=by
 rcases h with(h |⟨o,h⟩) |h
 .exact .inl (.inl (l.keep _ _ h (.inl (.inl ⟨_,rfl⟩))))
 .exact .inl (.inr ⟨o,l.keep _ _ h (.inl (.inr (.inl ⟨_,_,rfl⟩)))⟩)
 .exact .inr h
mutual
theorem Is.mv (n:P.n<=P'.n)(io:∀k,k<P.n->P'.io k=P.io k)(t:∀a vs,gO K H a vs->gO K H' a vs)(r:∀a vs,Bj K P H a vs->Bj K P' H' a vs):∀{d:D} {v:V},Is K P H d v->Is K P' H' d v
 |.non,_,h=>h
 |.bl _,_,h=>h
 |.int _,_,h=>h
 |.str _,_,h=>h
 |.tup ds,_,h=>by
  obtain⟨a,vs,e,s,q⟩:=h;exact⟨a,vs,e,t _ _ s,aL.mv n io t r q⟩
 |.lst ds,_,h=>by
  obtain⟨a,vs,e,s,q⟩:=h;exact⟨a,vs,e,r _ _ s,aL.mv n io t r q⟩
 |.ref k,_,h=>⟨xar h.1 n,by rw[io k h.1];exact h.2⟩
theorem aL.mv (n:P.n<=P'.n)(io:∀k,k<P.n->P'.io k=P.io k)(t:∀a vs,gO K H a vs->gO K H' a vs)(r:∀a vs,Bj K P H a vs->Bj K P' H' a vs):∀{ds:List D} {vs:List V},aL K P H ds vs->aL K P' H' ds vs
 | [],_,h=>h
 |_::_,_,h=>by
  obtain⟨v,w,e,p,q⟩:=h;exact⟨v,w,e,Is.mv n io t r p,aL.mv n io t r q⟩
end
def Is.lt (l:Lt P H P' H'){d:D}{v:V}(h:Is K P H d v):Is K P' H' d v:=Is.mv l.n l.io (fun _ _=>l.tup) (fun _ _=>l.rda) h
def aL.lt (l:Lt P H P' H'){ds:List D}{vs:List V}(h:aL K P H ds vs):aL K P' H' ds vs:=aL.mv l.n l.io (fun _ _=>l.tup) (fun _ _=>l.rda) h
def aL.rd (s:∀b xs,Rd H b (.tup xs)->Rd H' b (.tup xs))(t:∀b xs,Rd H b (.lst xs)->Rd H' b (.lst xs)){ds:List D}{vs:List V}(h:aL K P H ds vs):aL K P H' ds vs:=
 aL.mv (xag _) (fun _ _=>rfl) (fun _ _=>xdX (s _ _) id) (fun _ _=>xdX (fun z=>⟨z.1,t _ _ z.2⟩) id) h
def Pl.less (P:Pl)(B:Addr->Prop):Pl:={P with bd:=fun a=>P.bd a/\B a}
theorem Is.less (h:Is K P H d v):Is K (P.less B) H d v:=Is.mv (P:=P) (P':=P.less B) (xag _) (fun _ _=>rfl) (fun _ _ z=>z) (fun _ _ s=>s.imp (fun⟨n,h⟩=>⟨fun z=>n z.1,h⟩) id) h
theorem aL.less (h:aL K P H ds vs):aL K (P.less B) H ds vs:=aL.mv (P:=P) (P':=P.less B) (xag _) (fun _ _=>rfl) (fun _ _ z=>z) (fun _ _ s=>s.imp (fun⟨n,h⟩=>⟨fun z=>n z.1,h⟩) id) h
mutual
theorem Is.free (P':Pl):∀{d:D} {v:V},d.lf=true->Is K P H d v->Is K P' H d v
 |.non,_,_,h=>h
 |.bl _,_,_,h=>h
 |.int _,_,_,h=>h
 |.str _,_,_,h=>h
 |.tup ds,_,l,h=>by
  obtain⟨a,vs,e,s,r⟩:=h;exact⟨a,vs,e,s,aL.free P' (by simpa only[D.lf] using l) r⟩
 |.lst _,_,l,_=>by simp[D.lf]at l
 |.ref _,_,l,_=>by simp[D.lf]at l
theorem aL.free (P':Pl):∀{ds:List D} {vs:List V},D.lfs ds=true->aL K P H ds vs->aL K P' H ds vs
 | [],_,_,h=>h
 |_::_,_,l,h=>by
  obtain⟨v,r,e,p,q⟩:=h;simp only[D.lfs,xak]at l;exact⟨v,r,e,Is.free P' l.1 p,aL.free P' l.2 q⟩
end
theorem aL.len:∀{ds:List D} {vs:List V},aL K P H ds vs->vs.length=ds.length
 | [],_,h=>by rw[show _=[] from h];rfl
 |d::ds,_,h=>by
  obtain⟨v,r,e,_,q⟩:=h;subst e
  simp[aL.len q]
theorem aL.get:∀{ds:List D} {vs:List V} {i:Nat} {d:D},aL K P H ds vs->ds[i]? =some d->∃v,vs[i]? =some v/\Is K P H d v
 | [],_,_,_,_,e=>by simp at e
 |d::ds,_,0,_,h,e=>by
  obtain⟨v,r,e',p,_⟩:=h
  simp at e
  subst e e';exact⟨v,rfl,p⟩
 |d::ds,_,i+1,_,h,e=>by
  obtain⟨v,r,e',_,q⟩:=h;subst e'
  simpa using aL.get (i:=i) q (by simpa using e)
theorem aL.append:∀{ds es:List D} {vs ws:List V},aL K P H ds vs->aL K P H es ws->aL K P H (ds++es) (vs++ws)
 | [],_,_,_,h,q=>by rw[show _=[] from h];exact q
 |d::ds,_,_,_,h,q=>by
  obtain⟨v,r,e,p,h⟩:=h;subst e;exact⟨v,r++_,rfl,p,aL.append h q⟩
theorem aL.take:∀{ds:List D} {vs:List V} (n:Nat),aL K P H ds vs->aL K P H (ds.take n) (vs.take n)
 |_,_,0,_=>rfl
 | [],_,n+1,h=>by rw[show _=[] from h];rfl
 |d::ds,_,n+1,h=>by
  obtain⟨v,r,e,p,h⟩:=h;subst e;exact⟨v,_,rfl,p,aL.take n h⟩
theorem aL.drop:∀{ds:List D} {vs:List V} (n:Nat),aL K P H ds vs->aL K P H (ds.drop n) (vs.drop n)
 |_,_,0,h=>h
 | [],_,n+1,h=>by rw[show _=[] from h];rfl
 |d::ds,_,n+1,h=>by
  obtain⟨v,r,e,p,h⟩:=h;subst e;exact aL.drop n h
def aL.one (h:Is K P H d v):aL K P H [d] [v]:=⟨v,[],rfl,h,rfl⟩
theorem aL.set:∀{ds:List D} {vs:List V} {d:D} {v:V} (n:Nat),aL K P H ds vs->Is K P H d v->aL K P H (ds.set n d) (vs.set n v)
 | [],_,_,_,_,h,_=>by rw[show _=[] from h];rfl
 |d::ds,_,_,_,0,h,p=>by
  obtain⟨v,r,e,_,h⟩:=h;subst e;exact⟨_,r,rfl,p,h⟩
 |d::ds,_,_,_,n+1,h,p=>by
  obtain⟨v,r,e,q,h⟩:=h;subst e;exact⟨v,_,rfl,q,aL.set n h p⟩
end
def Fq (H:Hp):Lsa->List V->Prop
 | [],vs=>vs=[]
 |p::r,vs=>∃v ws u o,vs=v::ws/\RelV v u/\H p.2=some (.frz o (.own p.2))/\o.data=.cell (some u)/\Fq H r ws
theorem Fq.up {H H':Hp}(s:∀b o u,H b=some (.frz o (.own u))->H' b=some (.frz o (.own u))):∀{cl:Lsa} {vs:List V},Fq H cl vs->Fq H' cl vs
 | [],_,h=>h
 |_::_,_,h=>by
  obtain⟨v,ws,u,o,e,r,q,d,h⟩:=h;exact⟨v,ws,u,o,e,r,s _ _ _ q,d,h.up s⟩
def wI (H:Hp)(c:Addr)(q:Str):Prop:=∃(o:Obj) (fs:Avx) (t:Tok),H c=some (.frz o (.own c))/\o.data=.fields fs/\fs[1]? =some (.str q t)
def wI.up {H H':Hp}{c:Addr}{q:Str}(s:∀b o u,H b=some (.frz o (.own u))->H' b=some (.frz o (.own u)))(h:wI H c q):wI H' c q:=by
 obtain⟨o,fs,t,e,r⟩:=h;exact⟨o,fs,t,s _ _ _ e,r⟩
def yP (H:Hp)(dd:Lix)(dV:Value):Prop:=(dd=[]/\dV=.none)\/(dd≠ []/\∃(td:Addr) (o:Obj) (its:Avx) (n:Nat),dV=.ref td/\H td=some (.frz o (.own td))/\o.data=.seq its n/\Vals (dd.map V.int) its.toList)
def yP.up {H H':Hp}{dd:Lix}{dV:Value}(s:∀b o u,H b=some (.frz o (.own u))->H' b=some (.frz o (.own u)))(h:yP H dd dV):yP H' dd dV:=
 h.imp id fun⟨e,td,o,its,n,e1,e2,r⟩=>⟨e,td,o,its,n,e1,s _ _ _ e2,r⟩
def fnO (mg:Mgx)(i:FnT)(cl:Lsa)(dV doc ctv:Value)(c:Addr):Obj:={cls:=.type "function",data:=.func (W.fnX i.x i.q (nW i.st) (k_ i.st) (b_ i.st) cl dV .none doc ((mg "__name__").getD .none) none (.ref c) ctv)}
def Ft (K:Fgx)(mg:Mgx)(P:Pl)(H:Hp)(a:Addr)(i:FnT)(caps:List (Str×D)):Prop:=
 ∃(cl:Lsa) (dV doc ctv:Value) (c:Addr) (vs:List V),H a=some (.frz (fnO mg i cl dV doc ctv c) (.own a))/\(wI H c i.q/\yP H i.dd dV)/\(cl.map (·.1)=caps.map (·.1)/\caps.map (·.1)=i.fr)/\aL K P H (caps.map (·.2)) vs/\Fq H cl vs/\∀x y a,cl.lookup x=some a->cl.lookup y=some a->x=y
theorem Ft.up {K:Fgx}{mg:Mgx}{P P':Pl}{H H':Hp}{a:Addr}{i:FnT}{caps:List (Str×D)}(h:Ft K mg P H a i caps)(s:∀b o u,H b=some (.frz o (.own u))->H' b=some (.frz o (.own u)))(q:∀ds vs,aL K P H ds vs->aL K P' H' ds vs):Ft K mg P' H' a i caps:=by
 obtain⟨cl,dV,doc,ctv,c,vs,e1,e2,e3,e4,e5,e6⟩:=h;exact⟨cl,dV,doc,ctv,c,vs,s _ _ _ e1,⟨e2.1.up s,e2.2.up s⟩,e3,q _ _ e4,e5.up s,e6⟩
def TbC (K:Fgx)(H:Hp)(a:Addr)(nm:Str)(i:FnT):Prop:=
 ∃(c:Addr) (ps:Avx),W.tabIn K nm=some (c,a)/\H a=some (.tbl ps)/\(ps= #[]\/∃c',ps= #[rawInt i.pos.line,rawInt i.pos.col,.ref c']/\wI H c' i.q)
def xZ (K:Fgx)(mg:Mgx)(P:Pl)(H:Hp)(a:Addr):Cl->Prop
 |.lst ds=>∃vs,H a=some (.lst vs)/\aL K P H ds vs
 |.obj c fs=>∃C dx gs,mg c=some (.ref C)/\H a=some (.ins C dx gs)/\gs.map (·.1)=fs.map (·.1)/\aL K P H (fs.map (·.2)) (gs.map (·.2))
 |.dct kvs=>∃vs:List (L2.Key×V),H a=some (.dK vs)/\vs.map (·.1)=kvs.map (·.1)/\aL K P H (kvs.map (·.2)) (vs.map (·.2))
 |.dcf kvs=>∃(vs:List (L2.Key×V)) (ob:Obj) (es:Array DictEntry) (ep:Nat),H a=some (.frz ob (.dK vs))/\ob.data=.dict es ep/\vs.map (·.1)=kvs.map (·.1)/\aL K P H (kvs.map (·.2)) (vs.map (·.2))
 |.dtc kvs=>∃vs:List (List L2.Key×V),H a=some (.dT vs)/\vs.map (·.1)=kvs.map (·.1)/\aL K P H (kvs.map (·.2)) (vs.map (·.2))
 |.dtf kvs=>∃(vs:List (List L2.Key×V)) (ob:Obj) (es:Array DictEntry) (ep:Nat),H a=some (.frz ob (.dT vs))/\ob.data=.dict es ep/\vs.map (·.1)=kvs.map (·.1)/\aL K P H (kvs.map (·.2)) (vs.map (·.2))
 |.fn i caps=>Ft K mg P H a i caps
 |.tbl nm i=>TbC K H a nm i
 |.tpc ds=>∃vs,H a=some (.tup vs)/\aL K P H ds vs
noncomputable def Cl.fix:Cl->Bool
 |.dcf _=>true
 |.dtf _=>true
 |.fn _ _=>true
 |.tpc _=>true
 |_=>false
theorem xZ.up {K:Fgx}{mg:Mgx}{P P':Pl}{H H':Hp}{a:Addr}{c:Cl}(h:xZ K mg P H a c)(e:∀o,H a=some o->(∀g,o≠ .ext g)->H' a=some o)(s:∀b o u,H b=some (.frz o (.own u))->H' b=some (.frz o (.own u)))(q:∀ds vs,aL K P H ds vs->aL K P' H' ds vs):xZ K mg P' H' a c:=by
 cases c with
 |lst ds=>
  obtain⟨vs,e1,r⟩:=h;exact⟨vs,e _ e1 (fun _ z=>nomatch z),q _ _ r⟩
 |obj c fs=>
  obtain⟨C,dx,gs,e1,e2,e3,r⟩:=h;exact⟨C,dx,gs,e1,e _ e2 (fun _ z=>nomatch z),e3,q _ _ r⟩
 |dct kvs=>
  obtain⟨vs,e1,e2,r⟩:=h;exact⟨vs,e _ e1 (fun _ z=>nomatch z),e2,q _ _ r⟩
 |dtc kvs=>
  obtain⟨vs,e1,e2,r⟩:=h;exact⟨vs,e _ e1 (fun _ z=>nomatch z),e2,q _ _ r⟩
 |dcf kvs=>
  obtain⟨vs,ob,es,ep,e1,eD,e2,r⟩:=h;exact⟨vs,ob,es,ep,e _ e1 (fun _ z=>nomatch z),eD,e2,q _ _ r⟩
 |dtf kvs=>
  obtain⟨vs,ob,es,ep,e1,eD,e2,r⟩:=h;exact⟨vs,ob,es,ep,e _ e1 (fun _ z=>nomatch z),eD,e2,q _ _ r⟩
 |fn i caps=>exact Ft.up h s q
 |tbl nm i=>
  obtain⟨c,ps,e1,e2,e3⟩:=h;exact⟨c,ps,e1,e _ e2 (fun _ z=>nomatch z),e3.imp id fun⟨c',z,r⟩=>⟨c',z,r.up s⟩⟩
 |tpc ds=>
  obtain⟨vs,e1,r⟩:=h;exact⟨vs,e _ e1 (fun _ z=>nomatch z),q _ _ r⟩
structure Hk (K:Fgx)(mg:Mgx)(P:Pl)(H:Hp)(M:Mm):Prop where
 n:P.n=M.length
 cell:∀(k:Nat) c,M[k]? =some c->xZ K mg P H (P.io k) c
 inj:∀j k,j<P.n->k<P.n->P.io j=P.io k->j=k
 bd:∀k,k<P.n->P.bd (P.io k)
 here:∀a,P.bd a->H a≠none
structure LtE (P:Pl)(H:Hp)(P':Pl)(H':Hp):Prop where
 n:P.n<=P'.n
 io:∀k,k<P.n->P'.io k=P.io k
 bd:∀a,P'.bd a->P.bd a\/H a=none
 bm:∀a,P.bd a->P'.bd a
 keep:∀a o,H a=some o->(Fx o\/∀k,k<P.n->P.io k≠a)->H' a=some o
 sure:∀a,H' a=none->H a=none
 nw:∀k,P.n<=k->k<P'.n->H (P'.io k)=none
section
variable {K:Fgx}{mg:Mgx}{P P' P'':Pl}{H H' H'':Hp}{M:Mm}
def LtE.refl (P:Pl)(H:Hp):LtE P H P H:=⟨xag _,fun _ _=>rfl,fun _ z=>.inl z,fun _ z=>z,fun _ _ e _=>e,fun _ z=>z,fun k h1 h2=>absurd h1 (xdG.mpr h2)⟩
def LtE.same (s:Same H H'):LtE P H P H':=⟨xag _,fun _ _=>rfl,fun _ z=>.inl z,fun _ z=>z,fun a o e _=>s a o e,fun a z=>s.free z,fun k h1 h2=>absurd h1 (xdG.mpr h2)⟩
def Hk.cellAt (h:Hk K mg P H M)(hc:M[k]? =some c)(nd:c.fix=false:=by rfl):∃o,H (P.io k)=some o/\¬ Fx o:=by
 have:=h.cell k c hc
 cases c with
 |lst ds=>
  obtain⟨vs,e,_⟩:=this;exact⟨_,e,fun z=>by rcases z with⟨_,z⟩ |⟨_,_,z⟩ |⟨_,z⟩ |⟨_,z⟩<;>cases z⟩
 |obj c fs=>
  obtain⟨C,dx,gs,_,e,_⟩:=this;exact⟨_,e,fun z=>by rcases z with⟨_,z⟩ |⟨_,_,z⟩ |⟨_,z⟩ |⟨_,z⟩<;>cases z⟩
 |dct kvs=>
  obtain⟨vs,e,_⟩:=this;exact⟨_,e,fun z=>by rcases z with⟨_,z⟩ |⟨_,_,z⟩ |⟨_,z⟩ |⟨_,z⟩<;>cases z⟩
 |dtc kvs=>
  obtain⟨vs,e,_⟩:=this;exact⟨_,e,fun z=>by rcases z with⟨_,z⟩ |⟨_,_,z⟩ |⟨_,z⟩ |⟨_,z⟩<;>cases z⟩
 |dcf kvs=>cases nd
 |dtf kvs=>cases nd
 |fn i caps=>cases nd
 |tpc ds=>cases nd
 |tbl nm i=>
  obtain⟨c,ps,_,e,_⟩:=this;exact⟨_,e,fun z=>by rcases z with⟨_,z⟩ |⟨_,_,z⟩ |⟨_,z⟩ |⟨_,z⟩<;>cases z⟩
def LtE.lt (l:LtE P H P' H')(h:Hk K mg P H M):Lt P H P' H' where
 n:=l.n
 io:=l.io
 bd:=l.bd
 sure:=l.sure
 keep:=fun a o e z=>l.keep a o e (z.imp id fun z k hk q=>z (q ▸ h.bd k hk))
theorem LtE.trans (l:LtE P H P' H')(m:LtE P' H' P'' H''):LtE P H P'' H'' where
 n:=xaN l.n m.n
 io:=fun k h=>(m.io k (xar h l.n)).trans (l.io k h)
 bd:=fun a z=>(m.bd a z).elim (l.bd a) fun z=>.inr (l.sure a z)
 bm:=fun a z=>m.bm a (l.bm a z)
 keep:=fun a o e h=>m.keep a o (l.keep a o e h) <| h.imp id fun h k hk q=>by
  rcases xa2 k P.n with z |z
  .rw[l.io k z]at q;exact h k z q
  .rw[<-q,l.nw k z hk]at e;cases e
 sure:=fun a z=>l.sure a (m.sure a z)
 nw:=fun k h1 h2=>by
  rcases xa2 k P'.n with z |z
  .rw[m.io k z];exact l.nw k h1 z
  .exact l.sure _ (m.nw k z h2)
end
inductive Cp where
 |eq |ne |lt |le |gt |ge |isin |notin |same |other
mutual
def D.eq:D->D->Bool
 |.non,.non=>true
 |.bl a,.bl b=>a==b
 |.bl a,.int b=>(if a then 1 else 0)==b
 |.int a,.bl b=>a==(if b then 1 else 0)
 |.int a,.int b=>a==b
 |.str a,.str b=>a==b
 |.tup a,.tup b=>D.eqs a b
 |.lst a,.lst b=>D.eqs a b
 |.ref a,.ref b=>a==b
 |_,_=>false
def D.eqs:List D->List D->Bool
 | [],[]=>true
 |a::as,b::bs=>D.eq a b&&D.eqs as bs
 |_,_=>false
end
mutual
def D.dep:D->Nat
 |.tup xs=>D.deps xs+1
 |.lst xs=>D.deps xs+1
 |.ref _=>101
 |_=>0
def D.deps:List D->Nat
 | []=>0
 |a::as=>max (D.dep a) (D.deps as)
end
def D.flat:D->Bool
 |.tup _=>false
 |.lst _=>false
 |.ref _=>false
 |_=>true
noncomputable def wz (i j:Str):Bool:= !(Builtin.Str.occurrences j i 0 j.length 1).isEmpty
def lQ (a b:D):Bool:=a.flat==b.flat&&decide (b.dep<=50)
def yV (a b:D):Option Bool:=if lQ a b=true/\a.dep<=50 then some (D.eq a b) else none
def wQ (a b:D):Option Bool:=if lQ a b=true/\a.dep<=50 then some (!D.eq a b) else none
noncomputable def lO (f:Int->Int->Bool) (a b:D):Option Bool:=match a with
 |.int i=>(match b with |.int j=>some (f i j) |_=>none)
 |_=>none
def wO (a b:D):Option Bool:=match b with
 |.str j=>(match a with |.str i=>some (wz i j) |_=>none)
 |.lst xs=>if (a.flat&&xs.all D.flat)=true then some (xs.any fun y=>D.eq y a) else none
 |.tup xs=>if (a.flat&&xs.all D.flat)=true then some (xs.any fun y=>D.eq y a) else none
 |_=>none
def pP (a b:D):Option Bool:=match b with
 |.str j=>(match a with |.str i=>some (!wz i j) |_=>none)
 |.lst xs=>if (a.flat&&xs.all D.flat)=true then some (!xs.any fun y=>D.eq y a) else none
 |.tup xs=>if (a.flat&&xs.all D.flat)=true then some (!xs.any fun y=>D.eq y a) else none
 |_=>none
noncomputable def z8 (a b:D):Option Bool:=match b with
 |.bl b=>(match a with |.bl a=>some (a==b) |_=>some false)
 |.non=>(match a with |.non=>some true |_=>some false)
 |_=>none
noncomputable def z7 (a b:D):Option Bool:=match b with
 |.bl b=>(match a with |.bl a=>some (!(a==b)) |_=>some true)
 |.non=>(match a with |.non=>some false |_=>some true)
 |_=>none
def gh (c:Cp)(a b:D):Option Bool:=match c with
 |.eq=>yV a b
 |.ne=>wQ a b
 |.lt=>lO (fun i j=>decide (i<j)) a b
 |.le=>lO (fun i j=>decide (i<=j)) a b
 |.gt=>lO (fun i j=>decide (j<i)) a b
 |.ge=>lO (fun i j=>decide (j<=i)) a b
 |.isin=>wO a b
 |.notin=>pP a b
 |.same=>z8 a b
 |.other=>z7 a b
def iB (K:Fgx)(P:Pl)(H:Hp):D->V->Prop
 |.lst ds,v=>∃a vs,v=.ref a/\Wz K P H a vs/\aL K P H ds vs
 |d,v=>Is K P H d v
section
variable {X:Cx}{pins:Pnx}{Z:L2.St}{H:Hp}{s:Shared}
def zkq {K:Fgx}{P:Pl}{a:Addr}{xs:List V}(h:Wz K P H a xs):gn K H a xs:=h.imp (·.2) id
def gC (K:Fgx)(P:Pl)(H:Hp):D->V->Prop
 |.lst ds,v=>∃a vs,v=.ref a/\gn K H a vs/\aL K P H ds vs
 |d,v=>Is K P H d v
def iB.w {K:Fgx}{P:Pl}{d:D}{v:V}(h:iB K P H d v):gC K P H d v:=by
 cases d<;>first |exact h |(obtain⟨a,vs,e,r,q⟩:=h;exact⟨a,vs,e,zkq r,q⟩)
def Is.w {K:Fgx}{P:Pl}{d:D}{v:V}(h:Is K P H d v):gC K P H d v:=by
 cases d<;>first |exact h |(obtain⟨a,vs,e,r,q⟩:=h;exact⟨a,vs,e,r.imp (·.2) id,q⟩)
def sql (I:Inv X pins Z H s)(h:gn X.K H l xs):xs.length<=sizeLine/\∃its:Lvx,Vals xs its/\s.heap.IsList l its.toArray:=by
 obtain⟨its,r,p,z⟩:=I.list h;exact⟨z,its,r,p.isList⟩
mutual
theorem Is.inj (I:Inv X pins Z H s):∀(d e:D) (v:V),gC X.K A H d v->gC X.K B H e v->d.dep<=100->e.dep<=100->d=e
 |.ref _,e,v,h,h',hd,he=>by simp[D.dep]at hd
 |.non,e,v,h,h',hd,he=>by
  have hv:v=.non:=h;subst hv;cases e<;>first |(simp[D.dep]at he;done) |(simp[gC,Is]at h'<;>rfl)
 |.bl b,e,v,h,h',hd,he=>by
  have hv:v=.bl b:=h;subst hv;cases e<;>first |(simp[D.dep]at he;done) |(simp[gC,Is]at h'<;>simp[h'])
 |.int b,e,v,h,h',hd,he=>by
  have hv:v=.int b:=h;subst hv;cases e<;>first |(simp[D.dep]at he;done) |(simp[gC,Is]at h'<;>simp[h'])
 |.str b,e,v,h,h',hd,he=>by
  have hv:v=.str b:=h;subst hv;cases e<;>first |(simp[D.dep]at he;done) |(simp[gC,Is]at h'<;>simp[h'])
 |.tup ds,e,v,h,h',hd,he=>by
  simp only[D.dep]at hd;simp only[gC,Is]at h;obtain⟨a,vs,rfl,t,r⟩:=h
  cases e with
  |tup es=>
   simp only[gC,Is]at h';obtain⟨b,ws,e1,t',r'⟩:=h';cases e1;have e2:=I.tuple_inj t t';subst e2;simp only[D.dep]at he;rw[aL.inj I ds es vs r r' (by lia) (by lia)]
  |lst es=>
   obtain⟨b,ws,e1,t',r'⟩:=h';cases e1;obtain⟨_,its,_,o2,e2,c2,_⟩:=sql I t';obtain⟨its2,_,⟨o,e3,c3,_⟩,_⟩:=I.tuple t;rw[e2]at e3;cases e3;rw[c2]at c3;exact absurd c3 (by simp)
  |ref _=>simp[D.dep]at he
  |_=>simp[gC,Is]at h'
 |.lst ds,e,v,h,h',hd,he=>by
  simp only[D.dep]at hd;obtain⟨a,vs,rfl,t,r⟩:=h
  cases e with
  |lst es=>
   obtain⟨b,ws,e1,t',r'⟩:=h';cases e1;have e2:=I.list_inj (t) (t');subst e2;simp only[D.dep]at he;rw[aL.inj I ds es vs r r' (by lia) (by lia)]
  |tup es=>
   simp only[gC,Is]at h';obtain⟨b,ws,e1,t',r'⟩:=h';cases e1;obtain⟨_,its,_,o2,e2,c2,_⟩:=sql I t;obtain⟨its2,_,⟨o,e3,c3,_⟩,_⟩:=I.tuple t';rw[e2]at e3;cases e3;rw[c2]at c3;exact absurd c3 (by simp)
  |ref _=>simp[D.dep]at he
  |_=>simp[gC,Is]at h'
theorem aL.inj (I:Inv X pins Z H s):∀(ds es:List D) (vs:List V),aL X.K A H ds vs->aL X.K B H es vs->D.deps ds<=100->D.deps es<=100->ds=es
 | [],es,vs,h,h',hd,he=>by
  have hv:vs=[]:=h;subst hv
  cases es with
  |nil=>rfl
  |cons=>simp[aL]at h'
 |d::ds,es,vs,h,h',hd,he=>by
  simp only[D.deps]at hd;obtain⟨v,r,rfl,p,q⟩:=h
  cases es with
  |nil=>simp[aL]at h'
  |cons e es=>
   obtain⟨v',r',e1,p',q'⟩:=h';cases e1;simp only[D.deps]at he;rw[Is.inj I d e v p.w p'.w (by lia) (by lia),aL.inj I ds es r q q' (by lia) (by lia)]
end
mutual
theorem D.eq_refl:∀d:D,D.eq d d=true
 |.non=>rfl
 |.bl b=>by simp[D.eq]
 |.int b=>by simp[D.eq]
 |.str b=>by simp[D.eq]
 |.tup ds=>by simp only[D.eq];exact D.eqs_refl ds
 |.lst ds=>by simp only[D.eq];exact D.eqs_refl ds
 |.ref n=>by simp[D.eq]
theorem D.eqs_refl:∀d:List D,D.eqs d d=true
 | []=>rfl
 |d::ds=>by simp only[D.eqs,D.eq_refl d,D.eqs_refl ds,xb8]
end
theorem D.eqs_len:∀(ds es:List D),ds.length≠es.length->D.eqs ds es=false
 | [],[],h=>absurd rfl h
 | [],_::_,_=>rfl
 |_::_,[],_=>rfl
 |d::ds,e::es,h=>by
  simp only[D.eqs,D.eqs_len ds es (by simpa using h),xdW]
theorem D.eqs_all:∀(ds es:List D),ds.length=es.length->D.eqs ds es=(List.range ds.length).all fun j=>D.eq (ds.getD j .non) (es.getD j .non)
 | [],[],_=>rfl
 |d::ds,e::es,h=>by
  rw[D.eqs,D.eqs_all ds es (by simpa using h),xae,List.range_succ_eq_map,xbF,xdM];rfl
def zdC {Ar:Around}{s:Shared}{a b:Addr}{its its':Lvx}{ds es:List D}(l1:its.toArray.size=ds.length)(l2:its'.toArray.size=es.length)(p:s.heap.IsTuple a its.toArray)(p':s.heap.IsTuple b its'.toArray)(hu:Ar.units<cLine)
  (ea:∀(j:Nat) (j1:j<its.toArray.size) (j2:j<its'.toArray.size),SeqAt.EqAt Ar.in1 s its.toArray[j] its'.toArray[j] (D.eq (ds.getD j .non) (es.getD j .non))):
  SeqAt.RcAt Ar s (.ref a) (.ref b) (D.eq (.tup ds) (.tup es))/\SeqAt.RcNeAt Ar s (.ref a) (.ref b) (!D.eq (.tup ds) (.tup es)):=by
 have key:=SeqAt.RcAt.tuples (A:=Ar) (s:=s) (e:=fun j=>D.eq (ds.getD j .non) (es.getD j .non)) p p' hu ea;have kn:=SeqAt.RcNeAt.tuples (A:=Ar) (s:=s) (e:=fun j=>D.eq (ds.getD j .non) (es.getD j .non)) p p' hu ea;rw[l1,l2]at key kn;rw[show D.eq (.tup ds) (.tup es)=D.eqs ds es from rfl]
 by_cases hl:ds.length=es.length
 .rw[D.eqs_all ds es hl];rw[hl,Nat.min_self,xbI,Bool.and_true]at key kn;rw[hl];exact⟨key,kn⟩
 .rw[D.eqs_len ds es hl];rw[xbv.mpr hl,xdW]at key kn;exact⟨key,kn⟩
def zdJ {Ar:Around}{s:Shared}{a b:Addr}{its its':Lvx}{ds es:List D}(l1:its.toArray.size=ds.length)(l2:its'.toArray.size=es.length)(p:s.heap.IsList a its.toArray)(p':s.heap.IsList b its'.toArray)(hu:Ar.units<cLine)
  (ea:∀(j:Nat) (j1:j<its.toArray.size) (j2:j<its'.toArray.size),SeqAt.EqAt Ar.in1 s its.toArray[j] its'.toArray[j] (D.eq (ds.getD j .non) (es.getD j .non))):
  SeqAt.RcAt Ar s (.ref a) (.ref b) (D.eq (.lst ds) (.lst es))/\SeqAt.RcNeAt Ar s (.ref a) (.ref b) (!D.eq (.lst ds) (.lst es)):=by
 rw[show D.eq (.lst ds) (.lst es)=D.eqs ds es from rfl]
 by_cases hl:ds.length=es.length
 .have key:=SeqAt.RcAt.lists (A:=Ar) (s:=s) (e:=fun j=>D.eq (ds.getD j .non) (es.getD j .non)) p p' (by rw[l1,l2,hl]) hu ea;have kn:=SeqAt.RcNeAt.lists (A:=Ar) (s:=s) (e:=fun j=>D.eq (ds.getD j .non) (es.getD j .non)) p p' (by rw[l1,l2,hl]) hu ea;rw[D.eqs_all ds es hl];rw[l1]at key kn;exact⟨key,kn⟩
 .rw[D.eqs_len ds es hl];exact⟨SeqAt.RcAt.lists_lengths p p' (by rw[l1,l2];simpa using hl) hu,SeqAt.RcNeAt.lists_lengths p p' (by rw[l1,l2];simpa using hl) hu⟩
mutual
theorem Rf (I:Inv X pins Z H s):∀(d e:D) (v w:V) (u u':Value),gC X.K A H d v->gC X.K B H e w->RelV v u->RelV w u'->Ar.units+d.dep<cLine->d.dep<=100->e.dep<=100->SeqAt.EqAt Ar s u u' (D.eq d e)
 |.ref _,e,v,w,u,u',h1,h2,r1,r2,hu,hd,he=>by simp[D.dep]at hd
 |.non,e,v,w,u,u',h1,h2,r1,r2,hu,hd,he=>by
  have hv:v=.non:=h1;subst hv;cases r1;have hu':Ar.units<cLine:=by lia
  cases e with
  |ref _=>simp[D.dep]at he
  |non=>have hw:w=.non:=h2;subst hw;cases r2;exact xc8 _
  |bl b=>have hw:w=.bl b:=h2;subst hw;cases r2;exact SeqAt.EqAt.none_bool _
  |int b=>have hw:w=.int b:=h2;subst hw;obtain⟨t,rfl⟩:=r2;exact SeqAt.EqAt.none_int _ _
  |str b=>have hw:w=.str b:=h2;subst hw;obtain⟨t,rfl⟩:=r2;exact SeqAt.EqAt.none_str _ _
  |tup es=>obtain⟨a,vs,rfl,t,_⟩:=h2;cases r2;obtain⟨its,_,p,_⟩:=I.tuple t;exact SeqAt.EqAt.none_tuple p hu'
  |lst es=>obtain⟨a,vs,rfl,t,_⟩:=h2;cases r2;obtain⟨_,its,_,p⟩:=sql I t;exact SeqAt.EqAt.none_list p hu'
 |.bl x,e,v,w,u,u',h1,h2,r1,r2,hu,hd,he=>by
  have hv:v=.bl x:=h1;subst hv;cases r1;have hu':Ar.units<cLine:=by lia
  cases e with
  |ref _=>simp[D.dep]at he
  |non=>have hw:w=.non:=h2;subst hw;cases r2;exact SeqAt.EqAt.bool_none _
  |bl b=>have hw:w=.bl b:=h2;subst hw;cases r2;exact SeqAt.EqAt.bool_bool _ _
  |int b=>have hw:w=.int b:=h2;subst hw;obtain⟨t,rfl⟩:=r2;exact SeqAt.EqAt.bool_int _ _ _
  |str b=>have hw:w=.str b:=h2;subst hw;obtain⟨t,rfl⟩:=r2;exact SeqAt.EqAt.bool_str _ _ _
  |tup es=>obtain⟨a,vs,rfl,t,_⟩:=h2;cases r2;obtain⟨its,_,p,_⟩:=I.tuple t;exact SeqAt.EqAt.bool_tuple _ p hu'
  |lst es=>obtain⟨a,vs,rfl,t,_⟩:=h2;cases r2;obtain⟨_,its,_,p⟩:=sql I t;exact SeqAt.EqAt.bool_list _ p hu'
 |.int x,e,v,w,u,u',h1,h2,r1,r2,hu,hd,he=>by
  have hv:v=.int x:=h1;subst hv;obtain⟨t0,rfl⟩:=r1;have hu':Ar.units<cLine:=by lia
  cases e with
  |ref _=>simp[D.dep]at he
  |non=>have hw:w=.non:=h2;subst hw;cases r2;exact SeqAt.EqAt.int_none _ _
  |bl b=>have hw:w=.bl b:=h2;subst hw;cases r2;exact SeqAt.EqAt.int_bool _ _ _
  |int b=>have hw:w=.int b:=h2;subst hw;obtain⟨t,rfl⟩:=r2;exact SeqAt.EqAt.int_int _ _ _ _
  |str b=>have hw:w=.str b:=h2;subst hw;obtain⟨t,rfl⟩:=r2;exact xdl _ _ _ _
  |tup es=>obtain⟨a,vs,rfl,t,_⟩:=h2;cases r2;obtain⟨its,_,p,_⟩:=I.tuple t;exact SeqAt.EqAt.int_tuple _ _ p hu'
  |lst es=>obtain⟨a,vs,rfl,t,_⟩:=h2;cases r2;obtain⟨_,its,_,p⟩:=sql I t;exact SeqAt.EqAt.int_list _ _ p hu'
 |.str x,e,v,w,u,u',h1,h2,r1,r2,hu,hd,he=>by
  have hv:v=.str x:=h1;subst hv;obtain⟨t0,rfl⟩:=r1;have hu':Ar.units<cLine:=by lia
  cases e with
  |ref _=>simp[D.dep]at he
  |non=>have hw:w=.non:=h2;subst hw;cases r2;exact SeqAt.EqAt.str_none _ _
  |bl b=>have hw:w=.bl b:=h2;subst hw;cases r2;exact SeqAt.EqAt.str_bool _ _ _
  |int b=>have hw:w=.int b:=h2;subst hw;obtain⟨t,rfl⟩:=r2;exact xdm _ _ _ _
  |str b=>have hw:w=.str b:=h2;subst hw;obtain⟨t,rfl⟩:=r2;exact SeqAt.EqAt.str_str _ _ _ _
  |tup es=>obtain⟨a,vs,rfl,t,_⟩:=h2;cases r2;obtain⟨its,_,p,_⟩:=I.tuple t;exact SeqAt.EqAt.str_tuple _ _ p hu'
  |lst es=>obtain⟨a,vs,rfl,t,_⟩:=h2;cases r2;obtain⟨_,its,_,p⟩:=sql I t;exact SeqAt.EqAt.str_list _ _ p hu'
 |.tup ds,e,v,w,u,u',h1,h2,r1,r2,hu,hd,he=>by
  have h1':=h1;have hd':=hd;simp only[D.dep]at hu hd;have hu':Ar.units<cLine:=by lia
  obtain⟨a,vs,rfl,t,q⟩:=h1;cases r1;obtain⟨its,rv,p,hz⟩:=I.tuple t
  cases e with
  |ref _=>simp[D.dep]at he
  |non=>have hw:w=.non:=h2;subst hw;cases r2;exact SeqAt.EqAt.tuple_none p hu'
  |bl b=>have hw:w=.bl b:=h2;subst hw;cases r2;exact SeqAt.EqAt.tuple_bool _ p hu'
  |int b=>have hw:w=.int b:=h2;subst hw;obtain⟨t,rfl⟩:=r2;exact SeqAt.EqAt.tuple_int _ _ p hu'
  |str b=>have hw:w=.str b:=h2;subst hw;obtain⟨t,rfl⟩:=r2;exact SeqAt.EqAt.tuple_str _ _ p hu'
  |tup es=>
   have h2':=h2;have he':=he;simp only[D.dep]at he;obtain⟨b,ws,rfl,t',q'⟩:=h2;cases r2
   by_cases hab:a=b
   .subst hab;rw[Is.inj I _ _ _ h1' h2' hd' he',D.eq_refl];exact xc8 _
   .obtain⟨its',rv',p',hz'⟩:=I.tuple t';refine SeqAt.EqAt.of_refs hab ?_;exact(zdC (by rw[xal, <-rv.length,q.len]) (by rw[xal, <-rv'.length,q'.len]) p p' hu' fun j j1 j2=>by simpa using Gv I ds es vs ws its its' q q' rv rv' (Ar:=Ar.in1) (by show Ar.units+1+_<_;lia) (by lia) (by lia) j (by simpa using j1) (by simpa using j2)).1
  |lst es=>obtain⟨b,ws,rfl,t',_⟩:=h2;cases r2;obtain⟨_,its',_,p'⟩:=sql I t';exact SeqAt.EqAt.tuple_list p p' hu'
 |.lst ds,e,v,w,u,u',h1,h2,r1,r2,hu,hd,he=>by
  have h1':=h1;have hd':=hd;simp only[D.dep]at hu hd;have hu':Ar.units<cLine:=by lia
  obtain⟨a,vs,rfl,t,q⟩:=h1;cases r1;obtain⟨hz,its,rv,p⟩:=sql I t
  cases e with
  |ref _=>simp[D.dep]at he
  |non=>have hw:w=.non:=h2;subst hw;cases r2;exact SeqAt.EqAt.list_none p hu'
  |bl b=>have hw:w=.bl b:=h2;subst hw;cases r2;exact SeqAt.EqAt.list_bool _ p hu'
  |int b=>have hw:w=.int b:=h2;subst hw;obtain⟨t,rfl⟩:=r2;exact SeqAt.EqAt.list_int _ _ p hu'
  |str b=>have hw:w=.str b:=h2;subst hw;obtain⟨t,rfl⟩:=r2;exact SeqAt.EqAt.list_str _ _ p hu'
  |tup es=>obtain⟨b,ws,rfl,t',_⟩:=h2;cases r2;obtain⟨its',_,p',_⟩:=I.tuple t';exact SeqAt.EqAt.list_tuple p p' hu'
  |lst es=>
   have h2':=h2;have he':=he;simp only[D.dep]at he;obtain⟨b,ws,rfl,t',q'⟩:=h2;cases r2
   by_cases hab:a=b
   .subst hab;rw[Is.inj I _ _ _ h1' h2' hd' he',D.eq_refl];exact xc8 _
   .obtain⟨hz',its',rv',p'⟩:=sql I t';refine SeqAt.EqAt.of_refs hab ?_;exact(zdJ (by rw[xal, <-rv.length,q.len]) (by rw[xal, <-rv'.length,q'.len]) p p' hu' fun j j1 j2=>by simpa using Gv I ds es vs ws its its' q q' rv rv' (Ar:=Ar.in1) (by show Ar.units+1+_<_;lia) (by lia) (by lia) j (by simpa using j1) (by simpa using j2)).1
theorem Gv (I:Inv X pins Z H s):∀(ds es:List D) (vs ws:List V) (its its':Lvx),aL X.K A H ds vs->aL X.K B H es ws->Vals vs its->Vals ws its'->Ar.units+D.deps ds<cLine->D.deps ds<=100->D.deps es<=100->
  ∀(j:Nat) (h1:j<its.length) (h2:j<its'.length),SeqAt.EqAt Ar s its[j] its'[j] (D.eq (ds.getD j .non) (es.getD j .non))
 | [],es,vs,ws,its,its',h,h',r,r',hu,hd,he,j,j1,j2=>by
  have hv:vs=[]:=h;subst hv;cases r;exact absurd j1 (xcn _)
 |d::ds,[],vs,ws,its,its',h,h',r,r',hu,hd,he,j,j1,j2=>by
  have hv:ws=[]:=h';subst hv;cases r';exact absurd j2 (xcn _)
 |d::ds,e::es,vs,ws,its,its',h,h',r,r',hu,hd,he,j,j1,j2=>by
  obtain⟨v,vr,rfl,p,q⟩:=h;obtain⟨w,wr,rfl,p',q'⟩:=h';simp only[D.deps]at hu hd he
  cases r with
  |cons r1 r2=>
   cases r' with
   |cons r1' r2'=>
    cases j with
    |zero=>exact Rf I d e v w _ _ p.w p'.w r1 r1' (by lia) (by lia) (by lia)
    |succ j=>exact Gv I ds es vr wr _ _ q q' r2 r2' (by lia) (by lia) (by lia) j (by simpa using j1) (by simpa using j2)
end
def zbC {d e:D}{A B:Pl}{K:Fgx}{v w:V}(fd:d.flat=true)(fe:e.flat=true)(h1:gC K A H d v)(h2:gC K B H e w):
  (zT v w=true/\D.eq d e=decide (v=w))\/(∃a i,v=.bl a/\w=.int i/\D.eq d e=((if a then 1 else 0)==i))\/∃a i,v=.int i/\w=.bl a/\D.eq d e=(i==(if a then 1 else 0)):=by
 cases d<;>cases e<;>simp only[D.flat,xcF]at fd fe<;>simp only[gC,Is]at h1 h2<;>subst h1 h2<;>simp[zT,D.eq]
 all_goals first |rfl |(rw[xaP];simp)
def zJ (K:Fgx)(neg:Bool):R2:=fun x y H Q=>∃(A B:Pl) (d e:D),gC K A H d x/\gC K B H e y/\lQ d e=true/\d.dep<=50/\Q (.bl (if neg then !D.eq d e else D.eq d e)) H
def zdF (I:Inv X pins Z H s){A B:Pl}{d e:D}{x y:V}{v u:Value}(hu:X.A.units+60<cLine)(h1:gC X.K A H d x)(h2:gC X.K B H e y)(rx:RelV x v)(ry:RelV y u)(fd:d.flat=false)(fe:e.flat=false)(hd:d.dep<=50)(he:e.dep<=50):
  SeqAt.RcAt X.A s v u (D.eq d e)/\SeqAt.RcNeAt X.A s v u (!D.eq d e):=by
 have hu':X.A.units<cLine:=by lia
 cases d with
 |tup ds=>
  obtain⟨a,vs,rfl,t,p⟩:=h1;cases rx;obtain⟨its,rv,pt,hz⟩:=I.tuple t;simp only[D.dep]at hd
  cases e with
  |tup es=>
   obtain⟨b,ws,rfl,t',p'⟩:=h2;cases ry;obtain⟨its',rv',pt',hz'⟩:=I.tuple t';exact zdC (by rw[xal, <-rv.length,p.len]) (by rw[xal, <-rv'.length,p'.len]) pt pt' hu' fun j j1 j2=>by simpa using Gv I ds es vs ws its its' p p' rv rv' (Ar:=X.A.in1) (by show X.A.units+1+_<_;lia) (by lia) (by simp only[D.dep]at he;lia) j (by simpa using j1) (by simpa using j2)
  |lst es=>
   obtain⟨b,ws,rfl,t',p'⟩:=h2;cases ry;obtain⟨_,its',rv',e'⟩:=sql I t';exact⟨SeqAt.RcAt.tuple_list pt e' hu',SeqAt.RcNeAt.tuple_list pt e' hu'⟩
  |ref _=>simp[D.dep]at he
  |_=>cases fe
 |lst ds=>
  obtain⟨a,vs,rfl,t,p⟩:=h1;cases rx;obtain⟨hz,its,rv,pt⟩:=sql I t;simp only[D.dep]at hd
  cases e with
  |tup es=>
   obtain⟨b,ws,rfl,t',p'⟩:=h2;cases ry;obtain⟨its',rv',pt',hz'⟩:=I.tuple t';exact⟨SeqAt.RcAt.list_tuple pt pt' hu',SeqAt.RcNeAt.list_tuple pt pt' hu'⟩
  |lst es=>
   obtain⟨b,ws,rfl,t',p'⟩:=h2;cases ry;obtain⟨_,its',rv',pt'⟩:=sql I t';exact zdJ (by rw[xal, <-rv.length,p.len]) (by rw[xal, <-rv'.length,p'.len]) pt pt' hu' fun j j1 j2=>by simpa using Gv I ds es vs ws its its' p p' rv rv' (Ar:=X.A.in1) (by show X.A.units+1+_<_;lia) (by lia) (by simp only[D.dep]at he;lia) j (by simpa using j1) (by simpa using j2)
  |ref _=>simp[D.dep]at he
  |_=>cases fe
 |ref _=>simp[D.dep]at hd
 |_=>cases fd
def zjl (hu:X.A.units+60<cLine):gj X (compareOp .Eq) (zJ X.K false):=by
 w_why;obtain⟨A,B,d,e,h1,h2,hk,hd,q⟩:=h;have q:Q (.bl (D.eq d e)) H:=q;simp only[lQ,xak,xaH,xbh]at hk
 cases fd:d.flat with
 |true=>
  rcases zbC fd (hk.1.symm.trans fd) h1 h2 with⟨sc,eq⟩ |⟨a,i,rfl,rfl,eq⟩ |⟨a,i,rfl,rfl,eq⟩
  .exact zkY pins s Z H x y v u Q I rx ry ⟨sc,by rw[<-eq];exact q⟩
  .cases rx;obtain⟨t,rfl⟩:=ry;exact EqBoolInt.eq_bool_int ⟨.bl _,H,I,rfl,by rw[<-eq];exact q⟩
  .cases ry;k_acc1;exact EqBoolInt.eq_int_bool ⟨.bl _,H,I,rfl,by rw[<-eq];exact q⟩
 |false=>exact EqBoolInt.of_rc (zdF I hu h1 h2 rx ry fd (hk.1.symm.trans fd) hd hk.2).1 ⟨.bl _,H,I,rfl,q⟩
def zjD (hu:X.A.units+60<cLine):gj X (compareOp .NotEq) (zJ X.K true):=by
 w_why;obtain⟨A,B,d,e,h1,h2,hk,hd,q⟩:=h;have q:Q (.bl (!D.eq d e)) H:=q;simp only[lQ,xak,xaH,xbh]at hk
 cases fd:d.flat with
 |true=>
  rcases zbC fd (hk.1.symm.trans fd) h1 h2 with⟨sc,eq⟩ |⟨a,i,rfl,rfl,eq⟩ |⟨a,i,rfl,rfl,eq⟩
  .exact zlj pins s Z H x y v u Q I rx ry ⟨sc,by rw[<-eq];exact q⟩
  .cases rx;obtain⟨t,rfl⟩:=ry;exact EqBoolInt.ne_bool_int ⟨.bl _,H,I,rfl,by rw[<-eq];exact q⟩
  .cases ry;k_acc1;exact EqBoolInt.ne_int_bool ⟨.bl _,H,I,rfl,by rw[<-eq];exact q⟩
 |false=>exact EqBoolInt.of_rcne (zdF I hu h1 h2 rx ry fd (hk.1.symm.trans fd) hd hk.2).2 ⟨.bl _,H,I,rfl,q⟩
def wU:Cp->CmpOp
 |.eq=>.Eq
 |.ne=>.NotEq
 |.lt=>.Lt
 |.le=>.LtE
 |.gt=>.Gt
 |.ge=>.GtE
 |.isin=>.In
 |.notin=>.NotIn
 |.same=>.Is
 |.other=>.IsNot
def IV (K:Fgx):Cp->R2
 |.eq=>zJ K false
 |.ne=>zJ K true
 |.lt=>t_ fun i j=>.bl (decide (i<j))
 |.le=>t_ fun i j=>.bl (decide (i<=j))
 |.gt=>t_ fun i j=>.bl (decide (j<i))
 |.ge=>t_ fun i j=>.bl (decide (j<=i))
 |.isin=>fun x y H Q=>(∃i j,x=.str i/\y=.str j/\Q (.bl (!(Builtin.Str.occurrences j i 0 j.length 1).isEmpty)) H)\/Ms K false x y H Q
 |.notin=>fun x y H Q=>(∃i j,x=.str i/\y=.str j/\Q (.bl (!(!(Builtin.Str.occurrences j i 0 j.length 1).isEmpty))) H)\/Ms K true x y H Q
 |.same=>fun x y H Q=>(y=.non/\Q (.bl (decide (x=.non))) H)\/(∃b,y=.bl b/\Q (.bl (decide (x=.bl b))) H)
 |.other=>fun x y H Q=>(y=.non/\Q (.bl (!decide (x=.non))) H)\/(∃b,y=.bl b/\Q (.bl (!decide (x=.bl b))) H)
def wV (hu:X.A.units+60<cLine):∀c:Cp,gj X (compareOp (wU c)) (IV X.K c)
 |.eq=>zjl hu
 |.ne=>zjD hu
 |.lt=>zld
 |.le=>zly
 |.gt=>zjZ
 |.ge=>zkA
 |.isin=>zcO.or zdz
 |.notin=>zbB.or zbr
 |.same=>zjh.or zih
 |.other=>zfm.or zcZ
theorem Gw {K:Fgx}{A:Pl}{d:D}{v:V}(f:d.flat=true)(h:Is K A H d v):yr v=true:=by
 cases d<;>simp only[D.flat,xcF]at f<;>simp only[Is]at h<;>subst h<;>rfl
theorem Rg {K:Fgx}{A B:Pl}{d e:D}{v w:V}(f:d.flat=true)(g:e.flat=true)(h:Is K A H d v)(h':Is K B H e w):yX v w=D.eq d e:=by
 cases d<;>cases e<;>simp only[D.flat,xcF]at f g<;>simp only[Is]at h h'<;>subst h h'<;>rfl
theorem Gx {K:Fgx}{A:Pl}:∀{ds:List D} {vs:List V},ds.all D.flat=true->aL K A H ds vs->vs.all yr=true
 | [],_,_,h=>by rw[show _=[] from h];rfl
 |d::ds,_,f,h=>by
  obtain⟨v,r,rfl,p,q⟩:=h;rw[xbF,xak]at f;rw[xbF,Gw f.1 p,Gx f.2 q];rfl
theorem xq {K:Fgx}{A B:Pl}{e:D}{w:V}(g:e.flat=true)(h':Is K B H e w):∀{ds:List D} {vs:List V},ds.all D.flat=true->aL K A H ds vs->inV w vs=ds.any fun y=>D.eq y e
 | [],_,_,h=>by rw[show _=[] from h];rfl
 |d::ds,_,f,h=>by
  obtain⟨v,r,rfl,p,q⟩:=h;rw[xbF,xak]at f;have:=xq g h' f.2 q;unfold inV at this ⊢;rw[xbn,xbn,this,Rg f.1 g p h']
def Km {K:Fgx}{A B:Pl}{c:Cp}{d e:D}{v w:V}{b:Bool}{Q:VK}(h:gh c d e=some b)(h1:gC K A H d v)(h2:gC K B H e w)(q:Q (.bl b) H):IV K c v w H Q:=by
 cases c
 case eq=>
  simp only[gh,yV,wQ]at h;kjx_on
  .rename_i hc;cases h;exact⟨A,B,d,e,h1,h2,hc.1,hc.2,q⟩
  .cases h
 case ne=>
  simp only[gh,yV,wQ]at h;kjx_on
  .rename_i hc;cases h;exact⟨A,B,d,e,h1,h2,hc.1,hc.2,q⟩
  .cases h
 case isin=>
  cases e with
  |str j=>
   cases d<;>simp only[gh,lO,wO,pP,z8,z7,reduceCtorEq]at h
   simp only[gC,Is]at h1 h2;subst h1 h2;cases h;exact .inl ⟨_,_,rfl,rfl,q⟩
  |lst xs=>
   have h':(if (d.flat&&xs.all D.flat)=true then some (xs.any fun y=>D.eq y d) else none)=some b:=by cases d<;>exact h
   split at h'
   .rename_i hc;rw[xak]at hc;cases h';obtain⟨a,vs,rfl,t,p⟩:=h2;have h1':Is K A H d v:=by cases d<;>first |exact h1 |cases hc.1
    refine .inr ⟨a,vs,rfl,.inl (t),Gw hc.1 h1',Gx hc.2 p,?_⟩;rw[xq hc.1 h1' hc.2 p];exact q
   .cases h'
  |tup xs=>
   have h':(if (d.flat&&xs.all D.flat)=true then some (xs.any fun y=>D.eq y d) else none)=some b:=by cases d<;>exact h
   split at h'
   .rename_i hc;rw[xak]at hc;cases h';obtain⟨a,vs,rfl,t,p⟩:=h2;have h1':Is K A H d v:=by cases d<;>first |exact h1 |cases hc.1
    refine .inr ⟨a,vs,rfl,.inr t,Gw hc.1 h1',Gx hc.2 p,?_⟩;rw[xq hc.1 h1' hc.2 p];exact q
   .cases h'
  |_=>cases d<;>simp only[gh,lO,wO,pP,z8,z7,reduceCtorEq]at h
 case notin=>
  cases e with
  |str j=>
   cases d<;>simp only[gh,lO,wO,pP,z8,z7,reduceCtorEq]at h
   simp only[gC,Is]at h1 h2;subst h1 h2;cases h;exact .inl ⟨_,_,rfl,rfl,q⟩
  |lst xs=>
   have h':(if (d.flat&&xs.all D.flat)=true then some (!xs.any fun y=>D.eq y d) else none)=some b:=by cases d<;>exact h
   split at h'
   .rename_i hc;rw[xak]at hc;cases h';obtain⟨a,vs,rfl,t,p⟩:=h2;have h1':Is K A H d v:=by cases d<;>first |exact h1 |cases hc.1
    refine .inr ⟨a,vs,rfl,.inl (t),Gw hc.1 h1',Gx hc.2 p,?_⟩;rw[xq hc.1 h1' hc.2 p];exact q
   .cases h'
  |tup xs=>
   have h':(if (d.flat&&xs.all D.flat)=true then some (!xs.any fun y=>D.eq y d) else none)=some b:=by cases d<;>exact h
   split at h'
   .rename_i hc;rw[xak]at hc;cases h';obtain⟨a,vs,rfl,t,p⟩:=h2;have h1':Is K A H d v:=by cases d<;>first |exact h1 |cases hc.1
    refine .inr ⟨a,vs,rfl,.inr t,Gw hc.1 h1',Gx hc.2 p,?_⟩;rw[xq hc.1 h1' hc.2 p];exact q
   .cases h'
  |_=>cases d<;>simp only[gh,lO,wO,pP,z8,z7,reduceCtorEq]at h
 case same=>
  cases d<;>cases e<;>simp only[gh,lO,wO,pP,z8,z7,reduceCtorEq]at h<;>cases h<;>simp only[gC,Is]at h1 h2
  all_goals first
   |(subst h1 h2;first |exact .inr ⟨_,rfl,by rw[Kr];exact q⟩ |exact .inl ⟨rfl,by simpa using q⟩ |exact .inr ⟨_,rfl,by simpa using q⟩)
   |(obtain⟨a,vs,rfl,_⟩:=h1;subst h2;first |exact .inl ⟨rfl,by simpa using q⟩ |exact .inr ⟨_,rfl,by simpa using q⟩)
 case other=>
  cases d<;>cases e<;>simp only[gh,lO,wO,pP,z8,z7,reduceCtorEq]at h<;>cases h<;>simp only[gC,Is]at h1 h2
  all_goals first
   |(subst h1 h2;first |exact .inr ⟨_,rfl,by rw[Kr];exact q⟩ |exact .inl ⟨rfl,by simpa using q⟩ |exact .inr ⟨_,rfl,by simpa using q⟩)
   |(obtain⟨a,vs,rfl,_⟩:=h1;subst h2;first |exact .inl ⟨rfl,by simpa using q⟩ |exact .inr ⟨_,rfl,by simpa using q⟩)
 all_goals
  cases d<;>cases e<;>simp only[gh,lO,wO,pP,z8,z7,reduceCtorEq]at h
  simp only[gC,Is]at h1 h2;subst h1 h2;cases h;exact⟨_,_,rfl,rfl,q⟩
end
inductive Mode where
 |val |bor
def J0 (mg:Mgx)(H:Hp)(c:Str)(n:Int)(v:V):Prop:=∃a C dx,v=.ref a/\mg c=some (.ref C)/\H a=some (xo a C dx false)/\
 match dx with
 |none=>n=0
 |some d=>∃fs,H d=some (.xd fs)/\fs.lookup ("at":Str)=some (.int (n-1))/\n≠0
def J0.lt (l:Lt P H P' H')(h:J0 mg H c n v):J0 mg H' c n v:=by
 obtain⟨a,C,dx,e,m,ea,q⟩:=h;refine⟨a,C,dx,e,m,l.keep _ _ ea (.inl (.inr (.inr (.inl ⟨_,rfl⟩)))),?_⟩
 cases dx with
 |none=>exact q
 |some d=>
  obtain⟨fs,ed,el⟩:=q;exact⟨fs,l.keep _ _ ed (.inl (.inr (.inr (.inr ⟨_,rfl⟩)))),el⟩
def Pj (K:Fgx)(mg:Mgx)(P:Pl)(H:Hp)(o:Option Addr)(sv:Option V):Slot->Prop
 |.un=>True
 |.val d=>∃v,sv=some v/\Is K P H d v
 |.own ds=>∃a vs,o=some a/\sv=some (.ref a)/\H a=some (.lst vs)/\aL K P H ds vs
 |.exc c n=>∃v,sv=some v/\J0 mg H c n v
structure Ok (K:Fgx)(mg:Mgx)(P0:Pl)(H0:Hp)(P:Pl)(O:List (Option Addr))(H:Hp)(M:Mm)(st:L2.St)(env:Env):Prop where
 hk:Hk K mg P H M
 base:LtE P0 H0 P H
 b0:∀a,P0.bd a->H0 a≠none
 slot:∀(i:Nat) s,env[i]? =some s->Pj K mg P H (O[i]?).join (st[i]?).join s
 own:∀a,some a∈O->P.bd a/\(∀k,k<P.n->P.io k≠a)/\H0 a=none
 inj:∀(i j:Nat) a,O[i]? =some (some a)->O[j]? =some (some a)->i=j
 olen:O.length=env.length
 slen:st.length=env.length
def gW (K:Fgx)(P:Pl)(H:Hp)(m:Mode)(d:D)(v:V):Prop:=match m with
 |.val=>Is K P H d v
 |.bor=>iB K P H d v
inductive Res where
 |v (d:D) |x (c:Str) (n:Int)
abbrev O:=Option (Res×Mm)
abbrev E:=Env->Mm->O
def bnd (o:O)(k:D->Mm->O):O:=match o with
 |some (.v d,M)=>k d M
 |some (.x c n,M)=>some (.x c n,M)
 |none=>none
def gU (h:bnd o k=some (r,M')):(∃d M,o=some (.v d,M)/\k d M=some (r,M'))\/∃c n,o=some (.x c n,M')/\r=.x c n:=by
 unfold bnd at h;kjx_on
 .exact .inl ⟨_,_,rfl,h⟩
 .cases h;exact .inr ⟨_,_,rfl,rfl⟩
 .cases h
abbrev XW:=Pl->Hp->Mm->Str->Int->Prop
section
variable {K:Fgx}{mg:Mgx}{P0 P P':Pl}{H0 H H':Hp}{M M':Mm}{Os:List (Option Addr)}{st:L2.St}{env:Env}{d:D}{v:V}{m:Mode}
def Is.b (h:Hk K mg P H M)(i:Is K P H d v):iB K P H d v:=by
 cases d with
 |lst ds=>
  obtain⟨a,vs,e,r,q⟩:=i;exact⟨a,vs,e,r.imp (fun⟨n,r⟩=>⟨fun k hk z=>n (z ▸ h.bd k hk),r⟩) id,q⟩
 |_=>exact i
def gW.of (h:Hk K mg P H M)(i:Is K P H d v):gW K P H m d v:=by
 cases m with
 |val=>exact i
 |bor=>exact i.b h
theorem gW.b (h:Hk K mg P H M)(i:gW K P H m d v):iB K P H d v:=by
 cases m with
 |val=>exact Is.b h i
 |bor=>exact i
def LtE.nc (l:LtE P H P' H')(e:H a=some o)(n:∀k,k<P.n->P.io k≠a):∀k,k<P'.n->P'.io k≠a:=fun k hk z=>by
 rcases xa2 k P.n with q |q
 .rw[l.io k q]at z;exact n k q z
 .rw[<-z,l.nw k q hk]at e;cases e
theorem iB.lt (l:LtE P H P' H')(h:Hk K mg P H M)(i:iB K P H d v):iB K P' H' d v:=by
 cases d with
 |lst ds=>
  obtain⟨a,vs,e,r,q⟩:=i;refine⟨a,vs,e,r.imp (fun⟨n,r⟩=>?_) id,aL.lt (l.lt h) q⟩;obtain⟨o,eo⟩:=zc8 r;refine⟨l.nc eo n,?_⟩;rcases r with r |⟨o',r⟩
  .exact .inl (l.keep _ _ r (.inr n))
  .exact .inr ⟨o',l.keep _ _ r (.inr n)⟩
 |_=>exact Is.lt (l.lt h) i
def Ok.next (k:Ok K mg P0 H0 P Os H M st env)(l:LtE P H P' H')(h:Hk K mg P' H' M'):Ok K mg P0 H0 P' Os H' M' st env where
 hk:=h
 base:=k.base.trans l
 b0:=k.b0
 slot:=fun i s e=>by
  have q:=k.slot i s e
  cases s with
  |un=>exact True.intro
  |val d=>
   obtain⟨v,e1,q⟩:=q;exact⟨v,e1,Is.lt (l.lt k.hk) q⟩
  |own ds=>
   obtain⟨a,vs,e1,e2,e3,q⟩:=q;have ho:=k.own a (by
    cases hx:Os[i]? with
    |none=>rw[hx]at e1;cases e1
    |some o=>rw[hx]at e1;cases o with
     |none=>cases e1
     |some b=>cases e1;exact xaS hx)
   exact⟨a,vs,e1,e2,l.keep _ _ e3 (.inr ho.2.1),aL.lt (l.lt k.hk) q⟩
  |exc c n=>
   obtain⟨v,e1,q⟩:=q;exact⟨v,e1,q.lt (l.lt k.hk)⟩
 own:=fun a z=>by
  have ho:=k.own a z;refine⟨l.bm a ho.1,?_,ho.2.2⟩;obtain⟨o,eo⟩:∃o,H a=some o:=by
   cases e:H a with
   |none=>exact absurd e (k.hk.here a ho.1)
   |some o=>exact⟨o,rfl⟩
  exact l.nc eo ho.2.1
 inj:=k.inj
 olen:=k.olen
 slen:=k.slen
theorem Hk.same (h:Hk K mg P H M)(s:Same H H'):Hk K mg P H' M:=by
 have l:Lt P H P H':=(LtE.same s).lt h;refine⟨h.n,fun k c e=>?_,h.inj,h.bd,fun a z q=>h.here a z (s.free q)⟩;exact(h.cell k c e).up (fun _ e _=>s _ _ e) l.fz fun _ _ q=>aL.lt l q
end
def RQ (K:Fgx)(mg:Mgx)(Wx:XW)(m:Mode)(P0:Pl)(H0:Hp)(P:Pl)(H:Hp)(M':Mm)(Q:VK):Res->Prop
 |.v d=>∀P' v H',LtE P H P' H'->Hk K mg P' H' M'->gW K P' H' m d v->Q v H'
 |.x c n=>Wx P0 H0 M' c n
def gJ (h:PE X e t)(i:∀st H Q,t' st H Q->t st H Q):PE X e t':=fun pins s Z H Q I z=>h pins s Z H Q I (i _ _ _ z)
def tE (K:Fgx)(mg:Mgx)(Wx:XW)(m:Mode)(f:E):TE:=fun st H Q=>∃P0 H0 P Os env M r M',Ok K mg P0 H0 P Os H M st env/\f env M=some (r,M')/\RQ K mg Wx m P0 H0 P H M' Q r
section
variable {X:Cx}{Wx:XW}{m:Mode}
def SE (X:Cx)(Wx:XW)(m:Mode)(e:Expr)(f:E):Prop:=PE X e (tE X.K X.mg Wx m f)
def SE.bor (h:SE X Wx .val e f):SE X Wx m e f:=gJ h fun st H Q ⟨P0,H0,P,Os,env,M,r,M',k,e,q⟩=>⟨P0,H0,P,Os,env,M,r,M',k,e,by
 cases r with
 |v d=>exact fun P' v H' l h i=>q P' v H' l h (gW.of h i)
 |x c n=>exact q⟩
def eE {f:E}{K:Fgx}{mg:Mgx}{P0 P:Pl}{H0 H:Hp}{Os:List (Option Addr)}{M M':Mm}{st:L2.St}{env:Env}{r:Res}{Q:VK}(k:Ok K mg P0 H0 P Os H M st env)(e:f env M=some (r,M'))
 (q:RQ K mg Wx m P0 H0 P H M' Q r):tE K mg Wx m f st H Q:=⟨P0,H0,P,Os,env,M,r,M',k,e,q⟩
def ak (i:Nat):E:=fun env M=>match env[i]? with
 |some (.val d)=>some (.v d,M)
 |_=>none
def tU (i:Nat):E:=fun env M=>match env[i]? with
 |some (.val d)=>some (.v d,M)
 |some (.own ds)=>some (.v (.lst ds),M)
 |_=>none
def aj (d:D):E:=fun _ M=>some (.v d,M)
theorem pW {α:Type}{l:List (Option α)}{i:Nat}{a:α}(h:(l[i]?).join=some a):l[i]? =some (some a):=by
 cases e:l[i]? with
 |none=>rw[e]at h;cases h
 |some o=>rw[e]at h;cases o with
  |none=>cases h
  |some b=>cases h;rfl
def ze0 {i:Nat}{x:Str}{pos:Pos}(hN:X.N[i]? =some x)(hv:yg X.env.scope x)(hd:(x==("__debug__":Str))=false:=by x_go)(hcd:(x==("__classdict__":Str))=false:=by x_go):SE X Wx .val (.Name x pos) (ak i):=by
 refine gJ (zF hN hv hd hcd) ?_;k_go;unfold ak at e;kj_one
 .rename_i d hs;cases e;obtain⟨v,e1,i1⟩:=k.slot i _ hs;exact⟨v,pW e1,q P v H (LtE.refl P H) k.hk i1⟩
 .cases e
def zgy {i:Nat}{x:Str}{pos:Pos}(hN:X.N[i]? =some x)(hv:yg X.env.scope x)(hd:(x==("__debug__":Str))=false:=by x_go)(hcd:(x==("__classdict__":Str))=false:=by x_go):SE X Wx .bor (.Name x pos) (tU i):=by
 refine gJ (zF hN hv hd hcd) ?_;k_go;unfold tU at e;kj_one
 .rename_i d hs;cases e;obtain⟨v,e1,i1⟩:=k.slot i _ hs;exact⟨v,pW e1,q P v H (LtE.refl P H) k.hk (gW.of k.hk i1)⟩
 .rename_i ds hs;cases e;obtain⟨a,vs,e1,e2,e3,i1⟩:=k.slot i _ hs;exact⟨.ref a,pW e2,q P _ H (LtE.refl P H) k.hk ⟨a,vs,rfl,.inl ⟨(k.own a (xaS (pW e1))).2.1,.inl e3⟩,i1⟩⟩
 .cases e
def Oc (h:PE X e (tC v))(hd:∀P H,Is X.K P H d v):SE X Wx .val e (aj d):=by
 refine gJ h ?_;k_go;cases e;exact q P v H (LtE.refl P H) k.hk (hd P H)
def vw (M:Mm)(d:D):D:=match d with
 |.ref k=>(match M[k]? with
  |some (.lst ds)=>.lst ds
  |_=>.ref k)
 |d=>d
theorem iB.vw {K:Fgx}{mg:Mgx}{P:Pl}{H:Hp}{M:Mm}{d:D}{v:V}(h:Hk K mg P H M)(i:iB K P H d v):gC K P H (vw M d) v:=by
 cases d with
 |ref k=>
  unfold E3.vw;dsimp only
  split
  .rename_i ds e;obtain⟨i1,i2⟩:k<P.n/\v=.ref (P.io k):=i;obtain⟨vs,e1,q⟩:=h.cell k _ e;exact⟨_,vs,i2,.inl (.inl e1),q⟩
  .exact i
 |lst ds=>exact i.w
 |_=>exact i
def s1 (o:D->Option D)(f:E):E:=fun env M=>bnd (f env M) fun d M1=>(o (vw M1 d)).map fun z=>(.v z,M1)
def s2 (o:D->D->Option D)(f g:E):E:=fun env M=>bnd (f env M) fun d M1=>bnd (g env M1) fun e M2=>(o (vw M2 d) (vw M2 e)).map fun z=>(.v z,M2)
def tW (K:Fgx)(r:R2)(o:D->D->Option D):Prop:=∀(P:Pl) (H:Hp) (d e z:D) (v w:V) (Q:VK),o d e=some z->gC K P H d v->gC K P H e w->(∀p,H p=none->¬ P.bd p)->(∀u H',Same H H'->Is K P H' z u->Q u H')->r v w H Q
def Pg (K:Fgx)(r:V->Hp->VK->Prop)(o:D->Option D):Prop:=∀(P:Pl) (H:Hp) (d z:D) (v:V) (Q:VK),o d=some z->gC K P H d v->(∀p,H p=none->¬ P.bd p)->(∀u H',Same H H'->Is K P H' z u->Q u H')->r v H Q
def Hk.new {K:Fgx}{mg:Mgx}{P:Pl}{H:Hp}{M:Mm}(h:Hk K mg P H M):∀p,H p=none->¬ P.bd p:=fun p hp z=>h.here p z hp
def Om {f g:E}{o:D->D->Option D}{r:R2}{st:L2.St}{H:Hp}{Q:VK}(po:tW X.K r o)(h:tE X.K X.mg Wx m (s2 o f g) st H Q):Jy r (tE X.K X.mg Wx .bor f) (tE X.K X.mg Wx .bor g) st H Q:=by
 obtain⟨P0,H0,P,Os,env,M,rr,M',k,e,q⟩:=h;unfold s2 at e;cb_eq
 .kj_on;have k1:=k.next l1 h1
  rcases gU e with⟨d2,M2,e2,e⟩ |⟨c,n,e2,rfl⟩
  .kri_at;kpa_ne;exact po P2 H2 _ _ z v1 v2 Q ez (iB.vw h2 (iB.lt l2 h1 i1)) (iB.vw h2 i2) h2.new fun u H' s i=>q P2 u H' (l1.trans (l2.trans (LtE.same s))) (h2.same s) (gW.of (h2.same s) i)
  .exact eE k1 e2 q
 .o_norm
def zlv {f:E}{o:D->Option D}{r:V->Hp->VK->Prop}{st:L2.St}{H:Hp}{Q:VK}(po:Pg X.K r o)(h:tE X.K X.mg Wx m (s1 o f) st H Q):tUn r (tE X.K X.mg Wx .bor f) st H Q:=by
 obtain⟨P0,H0,P,Os,env,M,rr,M',k,e,q⟩:=h;unfold s1 at e;cb_eq
 .kj_on;kpa_ne;exact po P1 H1 _ z v1 Q ez (iB.vw h1 i1) h1.new fun u H' s i=>q P1 u H' (l1.trans (LtE.same s)) (h1.same s) (gW.of (h1.same s) i)
 .o_norm
def aJ {a b:Expr}{op:Operator}{pos:Pos}{f g:E}{o:D->D->Option D}{r:R2}(ho:gj X (binaryOp op) r)(po:tW X.K r o)(ha:SE X Wx .bor a f)(hb:SE X Wx .bor b g):SE X Wx m (.BinOp a op b pos) (s2 o f g):=
 gJ (TX ho ha hb) fun _ _ _ h=>Om po h
def Ew (ho:gj X (compareOp op) r)(po:tW X.K r o)(ha:SE X Wx .bor a f)(hb:SE X Wx .bor b g)(hm:behindInMarks op b=false:=by rfl):SE X Wx m (.Compare a [op] [b] pos) (s2 o f g):=
 gJ (zgq ho ha hb hm) fun _ _ _ h=>Om po h
def Va {a b:Expr}{pos:Pos}{f g:E}{o:D->D->Option D}{r:R2}(ho:yc X r)(po:tW X.K r o)(ha:SE X Wx .bor a f)(hb:SE X Wx .bor b g)(hs:Pb b:=by exact fun _ _=>rfl):SE X Wx m (.Subscript a b pos) (s2 o f g):=
 gJ (zlF ho ha hb hs) fun _ _ _ h=>Om po h
def TQ (K:Fgx)(mg:Mgx)(Wx:XW)(P0:Pl)(H0:Hp)(P:Pl)(H:Hp)(M':Mm)(Q:Bool->Hp->Prop):Res->Prop
 |.v d=>∃b,d=.bl b/\∀P' H',LtE P H P' H'->Hk K mg P' H' M'->Q b H'
 |.x c n=>Wx P0 H0 M' c n
def Ba (K:Fgx)(mg:Mgx)(Wx:XW)(f:E):TT:=fun st H Q=>∃P0 H0 P Os env M r M',Ok K mg P0 H0 P Os H M st env/\f env M=some (r,M')/\TQ K mg Wx P0 H0 P H M' Q r
def ST (X:Cx)(Wx:XW)(e:Expr)(f:E):Prop:=PT X e (Ba X.K X.mg Wx f)
def Cj (h:PT X e t)(i:∀st H Q,t' st H Q->t st H Q):PT X e t':=fun pins s Z H Q I z=>h pins s Z H Q I (i _ _ _ z)
def rm {f:E}{K:Fgx}{mg:Mgx}{P0 P:Pl}{H0 H:Hp}{Os:List (Option Addr)}{M M':Mm}{st:L2.St}{env:Env}{r:Res}{Q:Bool->Hp->Prop}(k:Ok K mg P0 H0 P Os H M st env)(e:f env M=some (r,M'))
 (q:TQ K mg Wx P0 H0 P H M' Q r):Ba K mg Wx f st H Q:=⟨P0,H0,P,Os,env,M,r,M',k,e,q⟩
def JD {f:E}{st:L2.St}{H:Hp}{Q:Bool->Hp->Prop}(h:Ba X.K X.mg Wx f st H Q):VJ (tE X.K X.mg Wx .val f) st H Q:=by
 obtain⟨P0,H0,P,Os,env,M,r,M',k,e,q⟩:=h;refine eE k e ?_
 cases r with
 |v d=>
  obtain⟨b,rfl,q⟩:=q;exact fun P' v H' l h i=>⟨b,i,q P' H' l h⟩
 |x c n=>exact q
def ziU (ho:gj X (compareOp op) r)(po:tW X.K r o)(ha:SE X Wx .bor a f)(hb:SE X Wx .bor b g)(hm:behindInMarks op b=false:=by rfl):ST X Wx (.Compare a [op] [b] pos) (s2 o f g):=
 Cj (zgx ho ha hb hm) fun _ _ _ h=>Om po (JD h)
def vp:D->Option Bool
 |.non=>some false
 |.bl b=>some b
 |.int i=>some (i !=0)
 |.str s=>if s.length<=sizeLine then some ((s.length:Int) !=0) else none
 |.lst ds=>some (!ds.isEmpty)
 |.tup ds=>some (!ds.isEmpty)
 |.ref _=>none
def gF (f:E):E:=s1 (fun d=>(vp d).map .bl) f
def kh (f:E):E:=fun env M=>bnd (f env M) fun d M1=>match d with
 |.bl b=>some (.v (.bl (!b)),M1)
 |_=>none
def fG (f g:E):E:=fun env M=>bnd (f env M) fun d M1=>match d with
 |.bl b=>if b=true then g env M1 else some (.v (.bl false),M1)
 |_=>none
def lG (f g:E):E:=fun env M=>bnd (f env M) fun d M1=>match d with
 |.bl b=>if b=true then some (.v (.bl true),M1) else g env M1
 |_=>none
def zN (c f g:E):E:=fun env M=>bnd (c env M) fun d M1=>match d with
 |.bl b=>if b=true then f env M1 else g env M1
 |_=>none
def SW (X:Cx)(Wx:XW)(e:Expr)(f:E):Prop:=PW X e (Ba X.K X.mg Wx f)
def zfj (h:PW X e t)(i:∀st H Q,t' st H Q->t st H Q):PW X e t':=fun wh pins s Z H Q I z=>h wh pins s Z H Q I (i _ _ _ z)
def wD (ha:ST X Wx a f):ST X Wx (.UnaryOp .Not a pos) (kh f):=by
 refine Cj (zhZ ha) ?_;k_go;unfold kh at e;cb_eq
 .cases d<;>simp only[reduceCtorEq]at e
  cases e;obtain⟨b,e2,q⟩:=q;cases e2;exact rm k e1 ⟨_,rfl,q⟩
 .exact rm k e1 q
def wF (ha:ST X Wx a f):SW X Wx (.BoolOp .And [a] pos) f:=zfx ha
def sG (ha:ST X Wx a f):SW X Wx (.BoolOp .Or [a] pos) f:=zig ha
def sE (ha:ST X Wx a f)(hb:SW X Wx (.BoolOp .And (b::rest) pos) g):SW X Wx (.BoolOp .And (a::b::rest) pos) (fG f g):=by
 refine zfj (zjC ha hb) ?_;k_go;unfold fG at e;cb_eq
 .cases d<;>simp only[reduceCtorEq]at e
  rename_i b;refine rm k e1 ⟨b,rfl,fun P1 H1 l1 h1=>?_⟩
  cases b with
  |true=>
   rw[xaa rfl]at e ⊢;refine rm (k.next l1 h1) e ?_
   cases r with
   |v d=>obtain⟨b,e2,q⟩:=q;exact⟨b,e2,fun P' H' l h=>q P' H' (l1.trans l) h⟩
   |x c n=>exact q
  |false=>
   rw[xac (by decide)]at e ⊢;cases e;obtain⟨b,e2,q⟩:=q;cases e2;exact q P1 H1 l1 h1
 .exact rm k e1 q
def pN (ha:ST X Wx a f)(hb:SW X Wx (.BoolOp .Or (b::rest) pos) g):SW X Wx (.BoolOp .Or (a::b::rest) pos) (lG f g):=by
 refine zfj (zkN ha hb) ?_;k_go;unfold lG at e;cb_eq
 .cases d<;>simp only[reduceCtorEq]at e
  rename_i b;refine rm k e1 ⟨b,rfl,fun P1 H1 l1 h1=>?_⟩
  cases b with
  |false=>
   rw[xac (by decide)]at e ⊢;refine rm (k.next l1 h1) e ?_
   cases r with
   |v d=>obtain⟨b,e2,q⟩:=q;exact⟨b,e2,fun P' H' l h=>q P' H' (l1.trans l) h⟩
   |x c n=>exact q
  |true=>
   rw[xaa rfl]at e ⊢;cases e;obtain⟨b,e2,q⟩:=q;cases e2;exact q P1 H1 l1 h1
 .exact rm k e1 q
def SW.st (h:SW X Wx e f):ST X Wx e f:=h.pt
end
section
variable {X:Cx}{Wx:XW}{m:Mode}
def RQ.imp {K:Fgx}{mg:Mgx}{P0 P P1:Pl}{H0 H H1:Hp}{M':Mm}{Q:VK}{r:Res}(l:LtE P H P1 H1)(q:RQ K mg Wx m P0 H0 P H M' Q r):RQ K mg Wx m P0 H0 P1 H1 M' Q r:=by
 cases r with
 |v d=>exact fun P' v H' l' h i=>q P' v H' (l.trans l') h i
 |x c n=>exact q
def xR (ha:SE X Wx m a f):SE X Wx m (.BoolOp op [a] pos) f:=ziI ha
def Az (ha:SE X Wx .val a f)(hb:SE X Wx m (.BoolOp .And (b::rest) pos) g):SE X Wx m (.BoolOp .And (a::b::rest) pos) (fG f g):=by
 refine gJ (zhL ha hb) ?_;k_go;unfold fG at e;cb_eq
 .cases d<;>simp only[reduceCtorEq]at e
  rename_i b;refine eE k e1 fun P1 v1 H1 l1 h1 i1=>⟨b,i1,?_⟩
  cases b with
  |true=>
   rw[xaa rfl]at e ⊢;exact eE (k.next l1 h1) e (RQ.imp l1 q)
  |false=>
   rw[xac (by decide)]at e ⊢;cases e;exact q P1 _ H1 l1 h1 (gW.of h1 (show Is _ _ _ (.bl false) _ from rfl))
 .o_norm
def Og (ha:SE X Wx .val a f)(hb:SE X Wx m (.BoolOp .Or (b::rest) pos) g):SE X Wx m (.BoolOp .Or (a::b::rest) pos) (lG f g):=by
 refine gJ (zlC ha hb) ?_;k_go;unfold lG at e;cb_eq
 .cases d<;>simp only[reduceCtorEq]at e
  rename_i b;refine eE k e1 fun P1 v1 H1 l1 h1 i1=>⟨b,i1,?_⟩
  cases b with
  |false=>
   rw[xac (by decide)]at e ⊢;exact eE (k.next l1 h1) e (RQ.imp l1 q)
  |true=>
   rw[xaa rfl]at e ⊢;cases e;exact q P1 _ H1 l1 h1 (gW.of h1 (show Is _ _ _ (.bl true) _ from rfl))
 .o_norm
def zg4 (hc:ST X Wx c t)(ha:SE X Wx m a f)(hb:SE X Wx m b g):SE X Wx m (.IfExp c a b pos) (zN t f g):=by
 refine gJ (zd1 hc ha hb) ?_;k_go;unfold zN at e;cb_eq
 .cases d<;>simp only[reduceCtorEq]at e
  rename_i b;refine rm k e1 ⟨b,rfl,fun P1 H1 l1 h1=>?_⟩
  cases b with
  |true=>
   rw[xaa rfl]at e ⊢;exact eE (k.next l1 h1) e (RQ.imp l1 q)
  |false=>
   rw[xac (by decide)]at e ⊢;exact eE (k.next l1 h1) e (RQ.imp l1 q)
 .exact rm k e1 q
def zkj {K:Fgx}{P:Pl}{H:Hp}{d:D}{v:V}{b:Bool}(h:vp d=some b)(i:gC K P H d v):Bk K v H b:=by
 cases d with
 |non=>have e:v=.non:=i;subst e;cases h;rfl
 |bl c=>have e:v=.bl c:=i;subst e;cases h;rfl
 |int c=>have e:v=.int c:=i;subst e;cases h;rfl
 |str c=>
  have e:v=.str c:=i;subst e;simp only[vp]at h;kjx_on
  .rename_i hl;cases h;exact⟨hl,rfl⟩
  .cases h
 |lst ds=>
  obtain⟨a,vs,rfl,r,q⟩:=i;cases h;refine .inl ⟨vs,r,?_⟩
  cases ds with
  |nil=>rw[show vs=[] from q];rfl
  |cons d ds=>obtain⟨w,r',rfl,_⟩:=q;rfl
 |tup ds=>
  obtain⟨a,vs,rfl,r,q⟩:=i;cases h;refine .inr (.inl ⟨vs,r,?_⟩)
  cases ds with
  |nil=>rw[show vs=[] from q];rfl
  |cons d ds=>obtain⟨w,r',rfl,_⟩:=q;rfl
 |ref k=>cases h
def sy (ha:SE X Wx .bor a f)(he:∀whole,isTrue a X.env whole=(do let v <-whole;standAt a.pos;holding [v] (truthy v)):=by exact fun _=>rfl):ST X Wx a (gF f):=by
 refine Cj (zeA ha he) ?_;k_go;unfold gF s1 at e;cb_eq
 .kpa_ne;rw[xam]at ez;obtain⟨b,eb,rfl⟩:=ez;obtain⟨b',e2,q⟩:=q;cases e2;exact eE k e1 fun P1 v1 H1 l1 h1 i1=>⟨b,zkj eb (iB.vw h1 i1),q P1 H1 l1 h1⟩
 .o_norm
inductive ResA where
 |v (ds:List D) |x (c:Str) (n:Int)
abbrev EA:=Env->Mm->Option (ResA×Mm)
def aq:EA:=fun _ M=>some (.v [],M)
def au (f:E)(fs:EA):EA:=fun env M=>match f env M with
 |some (.v d,M1)=>(match fs env M1 with
  |some (.v ds,M2)=>some (.v (d::ds),M2)
  |some (.x c n,M2)=>some (.x c n,M2)
  |none=>none)
 |some (.x c n,M1)=>some (.x c n,M1)
 |none=>none
def nR (o:Option (ResA×Mm))(k:List D->Mm->O):O:=match o with
 |some (.v ds,M)=>k ds M
 |some (.x c n,M)=>some (.x c n,M)
 |none=>none
def zZ (h:nR o k=some (r,M')):(∃ds M,o=some (.v ds,M)/\k ds M=some (r,M'))\/∃c n,o=some (.x c n,M')/\r=.x c n:=by
 unfold nR at h;kjx_on
 .exact .inl ⟨_,_,rfl,h⟩
 .cases h;exact .inr ⟨_,_,rfl,rfl⟩
 .cases h
def kE (K:Fgx)(P:Pl)(H:Hp)(m:Mode):List D->List V->Prop
 | [],vs=>vs=[]
 |d::ds,vs=>∃v ws,vs=v::ws/\gW K P H m d v/\kE K P H m ds ws
theorem kE.iss {K:Fgx}{P:Pl}{H:Hp}:∀{ds:List D} {vs:List V},kE K P H .val ds vs->aL K P H ds vs
 | [],_,h=>h
 |_::_,_,h=>by
  obtain⟨v,ws,e,p,q⟩:=h;exact⟨v,ws,e,p,kE.iss q⟩
def AQ (K:Fgx)(mg:Mgx)(Wx:XW)(m:Mode)(P0:Pl)(H0:Hp)(P:Pl)(H:Hp)(M':Mm)(Q:List V->Hp->Prop):ResA->Prop
 |.v ds=>∀P' vs H',LtE P H P' H'->Hk K mg P' H' M'->kE K P' H' m ds vs->Q vs H'
 |.x c n=>Wx P0 H0 M' c n
def tAs (K:Fgx)(mg:Mgx)(Wx:XW)(m:Mode)(fs:EA):TA:=fun st H Q=>∃P0 H0 P Os env M r M',Ok K mg P0 H0 P Os H M st env/\fs env M=some (r,M')/\AQ K mg Wx m P0 H0 P H M' Q r
def SA (X:Cx)(Wx:XW)(m:Mode)(es:Lex)(fs:EA):Prop:=PA X es (tAs X.K X.mg Wx m fs)
def zeT (h:PA X es t)(w:∀Z H Q,t' Z H Q->t Z H Q):PA X es t':=fun pos pins s Z H Q I hw=>h pos pins s Z H Q I (w Z H Q hw)
theorem aG:SA X Wx m [] aq:=by
 refine zeT xM ?_;k_go;cases e;exact q P [] H (LtE.refl P H) k.hk rfl
def aA {e:Expr}{es:Lex}{f:E}{fs:EA}(ha:SE X Wx m e f)(hr:SA X Wx m es fs)(hs:starEach (e::es) X.env=(false,eval e X.env)::starEach es X.env:=by rfl):SA X Wx m (e::es) (au f fs):=by
 refine zeT (tY ha hr hs) ?_;k_go;unfold au at e;kj_one
 .rename_i d M1 e1;kj_on;kj_one
  .rename_i ds M2 e2;cases e;refine⟨P0,H0,P1,Os,env,M1,_,_,k.next l1 h1,e2,fun P2 vs H2 l2 h2 i2=>q P2 _ H2 (l1.trans l2) h2 ⟨v1,vs,rfl,?_,i2⟩⟩
   cases m with
   |val=>exact Is.lt (l2.lt h1) i1
   |bor=>exact iB.lt l2 h1 i1
  .rename_i c n M2 e2;cases e;exact⟨P0,H0,P1,Os,env,M1,_,_,k.next l1 h1,e2,q⟩
  .cases e
 .rename_i c n M1 e1;cases e;o_norm
 .cases e
def sN (o:List D->Option D)(fs:EA):E:=fun env M=>nR (fs env M) fun ds M1=>(o (ds.map (vw M1))).map fun z=>(.v z,M1)
def yM (K:Fgx)(P:Pl)(H:Hp):List D->List V->Prop
 | [],vs=>vs=[]
 |d::ds,vs=>∃v ws,vs=v::ws/\gC K P H d v/\yM K P H ds ws
theorem kE.w {K:Fgx}{mg:Mgx}{P:Pl}{H:Hp}{M:Mm}(h:Hk K mg P H M):∀{ds:List D} {vs:List V},kE K P H m ds vs->yM K P H (ds.map (vw M)) vs
 | [],_,q=>q
 |d::ds,_,q=>by
  obtain⟨v,ws,e,p,q⟩:=q;exact⟨v,ws,e,iB.vw h (p.b h),kE.w h q⟩
def yd (K:Fgx)(r:List V->Hp->VK->Prop)(o:List D->Option D):Prop:=∀(P:Pl) (H:Hp) (ds:List D) (z:D) (vs:List V) (Q:VK),o ds=some z->yM K P H ds vs->(∀p,H p=none->¬ P.bd p)->(∀u H',Same H H'->Is K P H' z u->Q u H')->r vs H Q
def zhN (h:∀t,PA X (e::es) t->PE X ex (Vu r t))(po:yd X.K r o)(ha:SA X Wx .bor (e::es) fs):SE X Wx m ex (sN o fs):=by
 refine gJ (h _ ha) ?_;k_go;unfold sN at e;rcases zZ e with⟨ds,M1,e1,e⟩ |⟨c,n,e1,rfl⟩
 .kpa_ne;exact⟨P0,H0,P,Os,env,M,_,_,k,e1,fun P1 vs H1 l1 h1 i1=>po P1 H1 _ z vs Q ez (kE.w h1 i1) h1.new fun u H' s i=>q P1 u H' (l1.trans (LtE.same s)) (h1.same s) (gW.of (h1.same s) i)⟩
 .k_one
def aU (fs:EA):E:=fun env M=>nR (fs env M) fun ds M1=>if ds.length<=sizeLine then some (.v (.tup ds),M1) else none
def fV {es:Lex}{x1:Nat}{pos:Pos}{fs:EA}(ha:SA X Wx .val es fs):SE X Wx m (.Tuple es x1 pos) (aU fs):=by
 refine gJ (zh5 ha) ?_;k_go;unfold aU at e;rcases zZ e with⟨ds,M1,e1,e⟩ |⟨c,n,e1,rfl⟩
 .kj_one
  .rename_i hl;cases e;refine⟨P0,H0,P,Os,env,M,_,_,k,e1,fun P1 vs H1 l1 h1 i1=>⟨by rw[i1.iss.len];exact hl,fun p hp=>?_⟩⟩;have s:=zQ (o:=.tup vs) hp;exact q P1 _ _ (l1.trans (LtE.same s)) (h1.same s) (gW.of (h1.same s) ⟨p,vs,rfl,.inl (.inl gA),aL.lt ((LtE.same s).lt h1) i1.iss⟩)
  .cases e
 .k_one
def NQ (K:Fgx)(mg:Mgx)(Wx:XW)(P0:Pl)(H0:Hp)(P:Pl)(H:Hp)(M':Mm)(Q:VK):Res->Prop
 |.v d=>∃ds,d=.lst ds/\∀P' a vs H',LtE P H P' H'->Hk K mg P' H' M'->H a=none->P'.bd a->(∀k,k<P'.n->P'.io k≠a)->H' a=some (.lst vs)->aL K P' H' ds vs->Q (.ref a) H'
 |.x c n=>Wx P0 H0 M' c n
def tN (K:Fgx)(mg:Mgx)(Wx:XW)(f:E):TE:=fun st H Q=>∃P0 H0 P Os env M r M',Ok K mg P0 H0 P Os H M st env/\f env M=some (r,M')/\NQ K mg Wx P0 H0 P H M' Q r
def SN (X:Cx)(Wx:XW)(e:Expr)(f:E):Prop:=PE X e (tN X.K X.mg Wx f)
def Pl.bar (P:Pl)(p:Addr):Pl:={P with bd:=fun a=>P.bd a\/a=p}
def Gh {K:Fgx}{mg:Mgx}{P:Pl}{H:Hp}{M:Mm}{p:Addr}{vs:List V}(h:Hk K mg P H M)(hp:H p=none):LtE P H (P.bar p) (upd H p (.lst vs))/\Hk K mg (P.bar p) (upd H p (.lst vs)) M/\∀k,k<P.n->P.io k≠p:=by
 have s:=zQ (o:=.lst vs) hp;have nc:∀k,k<P.n->P.io k≠p:=fun k hk z=>h.here _ (h.bd k hk) (z ▸ hp);have l:LtE P H (P.bar p) (upd H p (.lst vs)):=⟨xag _,fun _ _=>rfl,fun a z=>xdX (fun q=>q) (fun(q:a=p)=>by rw[q];exact hp) z,fun a z=>.inl z,fun a o e _=>s a o e,fun a z=>s.free z,fun k h1 h2=>absurd h1 (xdG.mpr h2)⟩;have lt:=l.lt h;refine⟨l,⟨h.n,fun k c e=>?_,h.inj,fun k hk=>.inl (h.bd k hk),fun a z q=>?_⟩,nc⟩
 .exact(h.cell k c e).up (fun _ e _=>s _ _ e) lt.fz fun _ _ q=>aL.lt lt q
 .rcases z with z |z
  .exact h.here a z (s.free q)
  .subst z;rw[gA]at q;cases q
def SN.se (h:SN X Wx e f)(hf:∀env M r M',f env M=some (.v r,M')->∃ds,r=.lst ds):SE X Wx .val e f:=by
 refine gJ h ?_;k_go;refine⟨P0,H0,P,Os,env,M,r,M',k,e,?_⟩
 cases r with
 |x c n=>exact q
 |v d=>
  obtain⟨ds,rfl⟩:=hf _ _ _ _ e;refine⟨ds,rfl,fun P' a vs H' l h ha ba nc ea is=>q (P'.less (· ≠a)) _ H' ?_ ?_ ⟨a,vs,rfl,.inl ⟨fun z=>z.2 rfl,.inl ea⟩,aL.less is⟩⟩
  .exact⟨l.n,l.io,fun b z=>l.bd b z.1,fun b z=>⟨l.bm b z,fun q=>k.hk.here b z (q ▸ ha)⟩,l.keep,l.sure,l.nw⟩
  .refine⟨h.n,fun j c e=>?_,h.inj,fun j hj=>⟨h.bd j hj,nc j hj⟩,fun b z=>h.here b z.1⟩;exact(h.cell j c e).up (fun _ z _=>z) (fun _ _ _ z=>z) fun _ _ q=>aL.less q
def aX (fs:EA):E:=fun env M=>nR (fs env M) fun ds M1=>if ds.length<=sizeLine then some (.v (.lst ds),M1) else none
def gk {es:Lex}{pos:Pos}{fs:EA}(ha:SA X Wx .val es fs):SN X Wx (.List es pos) (aX fs):=by
 refine gJ (zid ha) ?_;k_go;unfold aX at e;rcases zZ e with⟨ds,M1,e1,e⟩ |⟨c,n,e1,rfl⟩
 .kj_one
  .rename_i hl;cases e;obtain⟨ds',e',q⟩:=q;cases e';refine⟨P0,H0,P,Os,env,M,_,_,k,e1,fun P1 vs H1 l1 h1 i1=>⟨by rw[i1.iss.len];exact hl,fun p hp=>?_⟩⟩;obtain⟨l2,h2,nc⟩:=Gh (vs:=vs) h1 hp;exact q (P1.bar p) p vs _ (l1.trans l2) h2 (l1.sure p hp) (.inr rfl) nc gA (aL.lt (l2.lt h1) i1.iss)
  .cases e
 .k_one
def lst_is:∀env M r M',aX fs env M=some (.v r,M')->∃ds,r=.lst ds:=fun env M r M' e=>by
 unfold aX at e;rcases zZ e with⟨ds,M1,e1,e⟩ |⟨c,n,e1,e⟩
 .kj_one
  .cases e;exact⟨_,rfl⟩
  .cases e
 .cases e
end
inductive Out where
 |nx (env:Env) |bk (env:Env) |ct (env:Env) |rt (d:D) |ex (c:Str) (n:Int)
abbrev OS:=Option (Out×Mm)
abbrev S:=Env->Mm->OS
def Post (K:Fgx)(mg:Mgx)(Wx:XW)(P0:Pl)(H0:Hp)(P:Pl)(H:Hp)(M':Mm)(D:Ends):Out->Prop
 |.nx env=>∀P' Os' H' st',Lt P H P' H'->Ok K mg P0 H0 P' Os' H' M' st' env->D.nx st' H'
 |.bk env=>∀P' Os' H' st',Lt P H P' H'->Ok K mg P0 H0 P' Os' H' M' st' env->D.bk st' H'
 |.ct env=>∀P' Os' H' st',Lt P H P' H'->Ok K mg P0 H0 P' Os' H' M' st' env->D.ct st' H'
 |.rt d=>∀P' v H',LtE P0 H0 P' H'->Hk K mg P' H' M'->Is K P' H' d v->D.rt v H'
 |.ex c n=>Wx P0 H0 M' c n
def tS (K:Fgx)(mg:Mgx)(Wx:XW)(f:S):TS:=fun D st H=>∃P0 H0 P Os env M out M',Ok K mg P0 H0 P Os H M st env/\f env M=some (out,M')/\Post K mg Wx P0 H0 P H M' D out
def SS (X:Cx)(Wx:XW)(s:Stmt)(f:S):Prop:=PS X s (tS X.K X.mg Wx f)
def SB (X:Cx)(Wx:XW)(s:List Stmt)(f:S):Prop:=nA X s (tS X.K X.mg Wx f)
def fK (o:O)(k:D->Mm->OS):OS:=match o with
 |some (.v d,M)=>k d M
 |some (.x c n,M)=>some (.ex c n,M)
 |none=>none
def lW (h:fK o k=some (r,M')):(∃d M,o=some (.v d,M)/\k d M=some (r,M'))\/∃c n,o=some (.x c n,M')/\r=.ex c n:=by
 unfold fK at h;kjx_on
 .exact .inl ⟨_,_,rfl,h⟩
 .cases h;exact .inr ⟨_,_,rfl,rfl⟩
 .cases h
section
variable {K:Fgx}{mg:Mgx}{P0 P P':Pl}{H0 H H':Hp}{M M':Mm}{Os:List (Option Addr)}{st:L2.St}{env:Env}{d:D}{v:V}{i:Nat}
def CN (l:List (Option α))(i j:Nat)(x:Option α)(hi:i<l.length):((l.set i x)[j]?).join=if i=j then x else(l[j]?).join:=by
 rw[xa9]
 by_cases h:i=j
 .subst h;rw[xaa rfl,xaa hi,xaa rfl];rfl
 .rw[xac h,xac h]
def Ok.asg (k:Ok K mg P0 H0 P Os H M st env)(hi:i<env.length)(h:Is K P H d v):Ok K mg P0 H0 P (Os.set i none) H M (st.set i (some v)) (env.set i (.val d)) where
 hk:=k.hk
 base:=k.base
 b0:=k.b0
 slot:=fun j s e=>by
  rw[CN _ _ _ _ (by rw[k.olen];exact hi),CN _ _ _ _ (by rw[k.slen];exact hi)];rw[xa9]at e;kj_one
  .rename_i ij;subst ij;cases e;rw[xaa rfl,xaa rfl];exact⟨v,rfl,h⟩
  .rename_i ij;rw[xac ij,xac ij];exact k.slot j s e
 own:=fun a h=>k.own a (by
  rcases xcc h with h |h
  .exact h
  .cases h)
 inj:=fun j l a e1 e2=>by
  rw[xa9]at e1 e2;split at e1
  .split at e1<;>cases e1
  .split at e2
   .split at e2<;>cases e2
   .exact k.inj j l a e1 e2
 olen:=by rw[xaO,xaO,k.olen]
 slen:=by rw[xaO,xaO,k.slen]
theorem Ok.here (k:Ok K mg P0 H0 P Os H M st env)(h:some a∈Os):H a≠none:=k.hk.here a (k.own a h).1
def Ok.mine (k0:Ok K mg P0 H0 P Os H M st env)(l:LtE P H P' H')(hk:Hk K mg P' H' M')(hi:i<env.length)(ha:H a=none)(ba:P'.bd a)(nc:∀j,j<P'.n->P'.io j≠a)(e:H' a=some (.lst vs))(h:aL K P' H' ds vs):
  Ok K mg P0 H0 P' (Os.set i (some a)) H' M' (st.set i (some (.ref a))) (env.set i (.own ds)):=by
 have k:=k0.next l hk
 have nO:∀j,Os[j]? ≠some (some a):=fun j z=>k0.here (xaS z) ha;exact {
  hk:=k.hk
  base:=k.base
  b0:=k.b0
  slot:=fun j s e'=>by
   rw[CN _ _ _ _ (by rw[k.olen];exact hi),CN _ _ _ _ (by rw[k.slen];exact hi)];rw[xa9]at e';split at e'
   .rename_i ij;subst ij;cases e';rw[xaa rfl,xaa rfl];exact⟨a,vs,rfl,rfl,e,h⟩
   .rename_i ij;rw[xac ij,xac ij];exact k.slot j s e'
  own:=fun b hb=>by
   rcases xcc hb with hb |hb
   .exact k.own b hb
   .cases hb;exact⟨ba,nc,k0.base.sure a ha⟩
  inj:=fun j l b e1 e2=>by
   rw[xa9]at e1 e2;split at e1
   .split at e1
    .cases e1;split at e2
     .rename_i z1 _ z2;exact z1.symm.trans z2
     .exact absurd e2 (nO l)
    .cases e1
   .split at e2
    .split at e2
     .cases e2;exact absurd e1 (nO j)
     .cases e2
    .exact k.inj j l b e1 e2
  olen:=by rw[xaO,xaO,k.olen]
  slen:=by rw[xaO,xaO,k.slen]}
def Ah (b:P.bd a)(e:H a=some o)(nf:¬ Fx o):Lt P H P (upd H a o'):=⟨xag _,fun _ _=>rfl,fun _ z=>.inl z,fun c u ec z=>by
 by_cases h:c=a
 .subst h;rw[e]at ec;cases ec;exact(z.elim nf fun n=>n b).elim
 .rw[eN h];exact ec,fun c z=>by
 by_cases h:c=a
 .subst h;rw[gA]at z;cases z
 .rw[eN h]at z;exact z⟩
def Tf:¬ Fx (.lst vs):=fun z=>by rcases z with⟨_,z⟩ |⟨_,_,z⟩ |⟨_,z⟩ |⟨_,z⟩<;>cases z
def zhG:¬ Fx (.ins C dx gs):=fun z=>by rcases z with⟨_,z⟩ |⟨_,_,z⟩ |⟨_,z⟩ |⟨_,z⟩<;>cases z
theorem xZ.lt (l:Lt P H P' H')(e:∀o,H a=some o->H' a=some o)(h:xZ K mg P H a c):xZ K mg P' H' a c:=by
 exact h.up (fun _ z _=>e _ z) l.fz fun _ _ q=>aL.lt l q
def Ok.chg (k:Ok K mg P0 H0 P Os H M st env)(hi:env[i]? =some (.own ds))(ho:Os[i]? =some (some a))(e:H a=some (.lst vs))(h:aL K P H ds' vs'):
    Lt P H P (upd H a (.lst vs'))/\Ok K mg P0 H0 P Os (upd H a (.lst vs')) M st (env.set i (.own ds')):=by
  obtain⟨b1,b2,b3⟩:=k.own a (xaS ho);have l:Lt P H P (upd H a (.lst vs')):=Ah b1 e Tf;have ilt:i<env.length:=(xao.mp hi).1;refine⟨l,?_⟩;exact {
    hk:=⟨k.hk.n,fun j c ej=>(k.hk.cell j c ej).lt l fun o eo=>by rw[eN (b2 j (by rw[k.hk.n];exact(xao.mp ej).1))];exact eo,k.hk.inj,k.hk.bd,fun c z q=>k.hk.here c z (l.sure c q)⟩
    base:=⟨k.base.n,k.base.io,k.base.bd,k.base.bm,fun c o ec n=>by
      have:=k.base.keep c o ec n;rw[eN (fun z=>by subst z;rw[b3]at ec;cases ec)];exact this,fun c z=>k.base.sure c (l.sure c z),k.base.nw⟩
    b0:=k.b0
    slot:=fun j s ej=>by
      rw[xa9]at ej;split at ej
      . rename_i ij;subst ij;cases ej;obtain⟨a',vs0,e1,e2,e3,q⟩:=k.slot i _ hi;rw[ho]at e1;cases e1;exact⟨a,vs',by rw[ho];rfl,e2,gA,aL.lt l h⟩
      . rename_i ij;have q:=k.slot j s ej
        cases s with
        |un=>exact True.intro
        |val d=>obtain⟨v,e1,q⟩:=q;exact⟨v,e1,Is.lt l q⟩
        |own es=>
          obtain⟨a',ws,e1,e2,e3,q⟩:=q;refine⟨a',ws,e1,e2,?_,aL.lt l q⟩;rw[eN (fun z=>ij (k.inj i j a ho (by rw[<-z];exact pW e1)))];exact e3
        |exc c n=>obtain⟨v,e1,q⟩:=q;exact⟨v,e1,q.lt l⟩
    own:=k.own
    inj:=k.inj
    olen:=by rw[xaO,k.olen]
    slen:=by rw[xaO,k.slen]}
theorem Hk.set (h:Hk K mg P H M)(e:M[j]? =some c)(w:xZ K mg P (upd H (P.io j) o') (P.io j) c')(nd:c.fix=false:=by rfl):Lt P H P (upd H (P.io j) o')/\LtE P H P (upd H (P.io j) o')/\Hk K mg P (upd H (P.io j) o') (M.set j c'):=by
 have jl:j<P.n:=by rw[h.n];exact(xao.mp e).1
 obtain⟨o,eo,nf⟩:=h.cellAt e nd;have l:Lt P H P (upd H (P.io j) o'):=Ah (h.bd j jl) eo nf;refine⟨l,⟨xag _,fun _ _=>rfl,fun _ z=>.inl z,fun _ z=>z,fun a u ea n=>by
  have ne:a≠P.io j:=by
   rintro rfl;rw[eo]at ea;cases ea;exact n.elim nf fun nc=>nc j jl rfl
  rw[eN ne];exact ea,l.sure,fun k h1 h2=>absurd h1 (xdG.mpr h2)⟩,⟨by rw[xaO,h.n],fun k b ek=>?_,h.inj,h.bd,fun a z q=>h.here a z (l.sure a q)⟩⟩
 rw[xa9]at ek;split at ek
 .rename_i jk;subst jk;rw[xaa (by rw[<-h.n];exact jl)]at ek;cases ek;exact w
 .rename_i jk;have kl:k<P.n:=by rw[h.n];exact(xao.mp ek).1
  exact(h.cell k b ek).lt l fun u eu=>by rw[eN (fun z=>jk (h.inj j k jl kl z.symm))];exact eu
def Ok.frz (k:Ok K mg P0 H0 P Os H M st env)(hi:env[i]? =some (.own ds)):∃P' Os',Lt P H P' H/\Ok K mg P0 H0 P' Os' H M st (env.set i (.val (.lst ds))):=by
 obtain⟨a,vs,e1,e2,e3,q⟩:=k.slot i _ hi;have ho:=pW e1;obtain⟨b1,b2,b3⟩:=k.own a (xaS ho);have ilt:i<env.length:=(xao.mp hi).1;have nO:∀b,some b∈Os.set i none->some b∈Os/\b≠a:=fun b z=>by
  obtain⟨j,hj⟩:=xdY.mp z;rw[xa9]at hj;split at hj
  .split at hj<;>cases hj
  .rename_i ij;exact⟨xaS hj,fun z=>by subst z;exact ij (k.inj i j b ho hj)⟩
 have l:Lt P H (P.less (· ≠a)) H:=⟨xag _,fun _ _=>rfl,fun c z=>.inl z.1,fun _ _ e _=>e,fun _ z=>z⟩;refine⟨P.less (· ≠a),Os.set i none,l,{
  hk:=⟨k.hk.n,fun j c ej=>(k.hk.cell j c ej).lt l fun _ z=>z,k.hk.inj,fun j hj=>⟨k.hk.bd j hj,b2 j hj⟩,fun c z=>k.hk.here c z.1⟩
  base:=⟨k.base.n,k.base.io,fun c z=>k.base.bd c z.1,fun c z=>⟨k.base.bm c z,fun q=>k.b0 c z (q ▸ b3)⟩,k.base.keep,k.base.sure,k.base.nw⟩
  b0:=k.b0
  slot:=fun j s ej=>?_
  own:=fun c z=>?_
  inj:=fun j l b z1 z2=>?_
  olen:=by rw[xaO,xaO,k.olen]
  slen:=by rw[xaO,k.slen]}⟩
 .rw[CN _ _ _ _ (by rw[k.olen];exact ilt)];rw[xa9]at ej;split at ej
  .rename_i ij;subst ij;cases ej;exact⟨.ref a,e2,a,vs,rfl,.inl ⟨fun z=>z.2 rfl,.inl e3⟩,aL.less q⟩
  .rename_i ij;rw[xac ij];have q:=k.slot j s ej
   cases s with
   |un=>exact True.intro
   |val d=>obtain⟨v,e1,q⟩:=q;exact⟨v,e1,Is.less q⟩
   |own es=>obtain⟨a',ws,e1,e2,e3,q⟩:=q;exact⟨a',ws,e1,e2,e3,aL.less q⟩
   |exc c n=>obtain⟨v,e1,q⟩:=q;exact⟨v,e1,q.lt l⟩
 .obtain⟨z1,z2⟩:=nO c z;obtain⟨c1,c2,c3⟩:=k.own c z1;exact⟨⟨c1,z2⟩,c2,c3⟩
 .rw[xa9]at z1 z2;split at z1
  .split at z1<;>cases z1
  .split at z2
   .split at z2<;>cases z2
   .exact k.inj j l b z1 z2
end
section
variable {X:Cx}{Wx:XW}{pos:Pos}
def nj (h:PS X s t)(w:∀D Z H,t' D Z H->t D Z H):PS X s t':=fun pins s Z H D I hw=>h pins s Z H D I (w D Z H hw)
def T5 (h:nA X s t)(w:∀D Z H,t' D Z H->t D Z H):nA X s t':=fun pins s Z H D I hw=>h pins s Z H D I (w D Z H hw)
def aC:S:=fun env M=>some (.nx env,M)
def ao (f g:S):S:=fun env M=>match f env M with
 |some (.nx e,M1)=>g e M1
 |o=>o
def aK:SB X Wx [] aC:=by
 refine T5 T6 ?_;by_in;cases e;exact q P Os H st (Lt.refl P H) k
def Post.lt {K:Fgx}{mg:Mgx}{P0 P P1:Pl}{H0 H H1:Hp}{M':Mm}{D:Ends}{o:Out}(l:Lt P H P1 H1)(q:Post K mg Wx P0 H0 P H M' D o):Post K mg Wx P0 H0 P1 H1 M' D o:=by
 cases o with
 |nx env=>exact fun P' Os' H' st' l' k=>q P' Os' H' st' (l.trans l') k
 |bk env=>exact fun P' Os' H' st' l' k=>q P' Os' H' st' (l.trans l') k
 |ct env=>exact fun P' Os' H' st' l' k=>q P' Os' H' st' (l.trans l') k
 |rt d=>exact q
 |ex c n=>exact q
def aD {s:Stmt}{ss:List Stmt}{f g:S}(h1:SS X Wx s f)(h2:SB X Wx ss g):SB X Wx (s::ss) (ao f g):=by
 refine T5 (Iw h1 h2) ?_;by_in;unfold ao at e;kj_one
 .rename_i e1 M1 ef;refine⟨P0,H0,P,Os,env,M,_,_,k,ef,fun P1 Os1 H1 st1 l1 k1=>?_⟩;exact⟨P0,H0,P1,Os1,e1,M1,_,_,k1,e,q.lt l1⟩
 .rename_i o ho
  cases ef:f env M with
  |none=>rw[ef]at e;cases e
  |some om=>
   obtain⟨o1,M1⟩:=om;rw[ef]at e;cases e;refine⟨P0,H0,P,Os,env,M,_,_,k,ef,?_⟩
   cases out with
   |nx env'=>exact(ho _ _ ef).elim
   |bk env'=>exact q
   |ct env'=>exact q
   |rt d=>exact q
   |ex c n=>exact q
def aH (i:Nat)(f:E):S:=fun env M=>fK (f env M) fun d M1=>if i<env.length then some (.nx (env.set i (.val d)),M1) else none
def dj {i:Nat}{x:Str}{e:Expr}{f:E}{pos':Pos}(hN:X.N.Nodup)(hi:X.N[i]? =some x)(hx:Loc X.env.scope x)(he:SE X Wx .val e f)(hs:swapsWith e (some (.Name x pos')) pos.line X.env=pure false:=by rfl)
  (hf:X.fn x=true\/X.env.scope.names.lookup x=some .local:=by first |exact .inl rfl |exact .inr rfl):SS X Wx (.Assign [.Name x pos'] e pos) (aH i f):=by
 refine nj (T4 hN hi hx he hs hf) ?_;by_in;unfold aH at e;sr_in
 .kj_one
  .rename_i hl;cases e;exact⟨P0,H0,P,Os,env,M,_,_,k,e1,fun P1 v1 H1 l1 h1 i1=>q _ _ _ _ (l1.lt k.hk) ((k.next l1 h1).asg hl i1)⟩
  .cases e
 .k_one
def uc (i:Nat)(f:E):S:=fun env M=>fK (f env M) fun d M1=>match d with
 |.lst ds=>if i<env.length then some (.nx (env.set i (.own ds)),M1) else none
 |_=>none
def xX (hN:X.N.Nodup)(hi:X.N[i]? =some x)(hx:Loc X.env.scope x)(he:SN X Wx e f)(hs:swapsWith e (some (.Name x pos')) pos.line X.env=pure false:=by rfl)
  (hf:X.fn x=true\/X.env.scope.names.lookup x=some .local:=by first |exact .inl rfl |exact .inr rfl):SS X Wx (.Assign [.Name x pos'] e pos) (uc i f):=by
 refine nj (T4 hN hi hx he hs hf) ?_;by_in;unfold uc at e;sr_in
 .cases d<;>simp only[reduceCtorEq]at e
  rename_i ds;kj_one
  .rename_i hl;cases e;exact⟨P0,H0,P,Os,env,M,_,_,k,e1,ds,rfl,fun P1 a vs H1 l1 h1 ha ba nc ea is=>q _ _ _ _ (l1.lt k.hk) (k.mine l1 h1 hl ha ba nc ea is)⟩
  .cases e
 .k_one
def aM (f:E):S:=fun env M=>fK (f env M) fun d M1=>some (.rt d,M1)
def eG (he:SE X Wx .val e f):SS X Wx (.Return (some e) pos) (aM f):=by
 refine nj (zhv he) ?_;by_in;unfold aM at e;sr_in
 .cases e;exact⟨P0,H0,P,Os,env,M,_,_,k,e1,fun P1 v1 H1 l1 h1 i1=>q P1 v1 H1 (k.base.trans l1) h1 i1⟩
 .k_one
def yC (f:E):S:=fun env M=>fK (f env M) fun _ M1=>some (.nx env,M1)
def Vk (he:SE X Wx .bor e f)(hs:swapsWith e none pos.line X.env=pure false:=by rfl):SS X Wx (.Expr e pos) (yC f):=by
 refine nj (Am he hs) ?_;by_in;unfold yC at e;sr_in
 .cases e;exact⟨P0,H0,P,Os,env,M,_,_,k,e1,fun P1 v1 H1 l1 h1 i1=>q _ _ _ _ (l1.lt k.hk) (k.next l1 h1)⟩
 .k_one
def eV (c:E)(f g:S):S:=fun env M=>fK (c env M) fun d M1=>match d with
 |.bl b=>if b=true then f env M1 else g env M1
 |_=>none
def eY (hc:ST X Wx c t)(ha:SB X Wx a f)(hb:SB X Wx b g):SS X Wx (.If c a b pos) (eV t f g):=by
 refine nj (zj6 hc ha hb) ?_;by_in;unfold eV at e;sr_in
 .cases d<;>simp only[reduceCtorEq]at e
  rename_i b;refine rm k e1 ⟨b,rfl,fun P1 H1 l1 h1=>?_⟩
  cases b with
  |true=>
   rw[xaa rfl]at e ⊢;exact⟨P0,H0,P1,Os,env,M1,_,_,k.next l1 h1,e,q.lt (l1.lt k.hk)⟩
  |false=>
   rw[xac (by decide)]at e ⊢;exact⟨P0,H0,P1,Os,env,M1,_,_,k.next l1 h1,e,q.lt (l1.lt k.hk)⟩
 .exact rm k e1 q
def lV (i:Nat):S:=fun env M=>match env[i]? with
 |some (.own ds)=>some (.nx (env.set i (.val (.lst ds))),M)
 |_=>none
def zR (h:SB X Wx ss g):SB X Wx ss (ao (lV i) g):=by
 refine T5 h ?_;by_in;unfold ao lV at e;kj_one
 .rename_i e1 M1 ef;split at ef
  .rename_i ds es;cases ef;obtain⟨P1,Os1,l1,k1⟩:=k.frz es;exact⟨P0,H0,P1,Os1,_,_,_,_,k1,e,q.lt l1⟩
  .cases ef
 .rename_i ho;kj_one
  .rename_i es;exact(ho _ _ (by rw[es])).elim
  .cases e
def gw (i:Nat)(f:E):S:=fun env M=>match env[i]? with
 |some (.own ds)=>fK (f env M) fun d M1=>if ds.length<sizeLine then some (.nx (env.set i (.own (ds++[d]))),M1) else none
 |_=>none
def pL (hN:X.N[i]? =some x)(hv:yg X.env.scope x)(he:SE X Wx .val e f)(hd:(x==("__debug__":Str))=false:=by x_go)(hcd:(x==("__classdict__":Str))=false:=by x_go)
  (hfew:((backTo q (starEach [e] X.env)).all (fun x=> !x.1)&&(backToKw q (keywordEach [] X.env)).all (fun x=>x.1.isSome)&&decide ([e].length+([]:List Keyword).length+(if ([]:List Keyword).isEmpty then 0 else 1)<30))=true:=by rfl)
  (hline:(p.endLine==q.line)=true:=by rfl) (hs:starEach [e] X.env=(false,eval e X.env)::starEach [] X.env:=by rfl) (hw:swapsWith (.Call (.Attribute (.Name x p0) "append" p) [e] [] q) none pos.line X.env=pure false:=by rfl):
  SS X Wx (.Expr (.Call (.Attribute (.Name x p0) "append" p) [e] [] q) pos) (gw i f):=by
 refine nj (Am (Ej xct xdq F.type_list_append Ss (zF hN hv hd hcd) (tY he xM hs) rfl hfew hline hs rfl) hw) ?_;by_in;unfold gw at e;kj_one
 .o_args;sr_in
  .kj_one
   .rename_i hz;cases e;kj_on;have k1:=k.next l1 h1
    obtain⟨a',vs',o1',o2',o3',o4'⟩:=k1.slot i _ es;have ea:a'=a:=by
     have z:=o2'.symm.trans o2;cases z;rfl
    subst ea;refine⟨a',vs',v1,rfl,rfl,o3',by rw[o4'.len];exact hz,?_⟩;obtain⟨l2,k2⟩:=k1.chg es (pW o1') o3' (aL.append o4' (aL.one i1));exact q _ _ _ _ ((l1.lt k.hk).trans l2) k2
   .cases e
  .o_norm
 .cases e
def Wk (K:Fgx)(P1:Pl)(H1:Hp)(J:It)(ds:List D):Prop:=∀P H,Lt P1 H1 P H->(∀k,k<ds.length->J.go k H)/\(∀k,ds.length<=k->k<=ds.length->J.stop k H)/\∀k x H',J.yld k H x H'->k<ds.length->H'=H/\∃d,ds[k]? =some d/\Is K P H d x
def IQ (K:Fgx)(mg:Mgx)(Wx:XW)(P0:Pl)(H0:Hp)(P:Pl)(H:Hp)(M':Mm)(R:It->Hp->Prop):ResA->Prop
 |.v ds=>∀P' H' J,LtE P H P' H'->Hk K mg P' H' M'->Wk K P' H' J ds->R J H'
 |.x c n=>Wx P0 H0 M' c n
def tI (K:Fgx)(mg:Mgx)(Wx:XW)(fs:EA):TI:=fun st H R=>∃P0 H0 P Os env M r M',Ok K mg P0 H0 P Os H M st env/\fs env M=some (r,M')/\IQ K mg Wx P0 H0 P H M' R r
def SI (X:Cx)(Wx:XW)(tg iter:Expr)(fs:EA):Prop:=PI X tg iter (tI X.K X.mg Wx fs)
def Ir (h:PI X tg iter t)(w:∀Z H R,t' Z H R->t Z H R):PI X tg iter t':=fun pins s Z H R I hw=>h pins s Z H R I (w Z H R hw)
def loopS (i:Nat)(body:S):List D->Env->Mm->OS
 | [],env,M=>some (.nx env,M)
 |d::ds,env,M=>if i<env.length then(match body (env.set i (.val d)) M with
  |some (.nx e,M1)=>loopS i body ds e M1
  |some (.ct e,M1)=>loopS i body ds e M1
  |some (.bk e,M1)=>some (.nx e,M1)
  |some (.rt d,M1)=>some (.rt d,M1)
  |some (.ex c n,M1)=>some (.ex c n,M1)
  |none=>none) else none
def n6 (i:Nat)(fs:EA)(body:S):S:=fun env M=>match fs env M with
 |some (.v ds,M1)=>loopS i body ds env M1
 |some (.x c n,M1)=>some (.ex c n,M1)
 |none=>none
def zdr {K:Fgx}{mg:Mgx}{P0 P1:Pl}{H0 H1:Hp}{Os:List (Option Addr)}{M M':Mm}{st:L2.St}{env:Env}{i:Nat}{b:S}{J:It}{ds:List D}{out:Out}{D:Ends}(k:Ok K mg P0 H0 P1 Os H1 M st env)(wk:Wk K P1 H1 J ds)
  (h:loopS i b ds env M=some (out,M')) (q:Post K mg Wx P0 H0 P1 H1 M' D out):
  ∃W:Nat->Nat->L2.St->Hp->Prop,(∃m,W 0 m st H1)/\∀j m Z H,W j m Z H->
   (J.stop j H/\D.nx Z H)\/(J.go j H/\∃Nn:L2.St->Hp->Prop,(∀Z' H',Nn Z' H'->∃m',m'<m/\W (j+1) m' Z' H')/\∀x H',J.yld j H x H'->Gz i x Z H' fun Z2 H2=>tS K mg Wx b {D with nx:=Nn,ct:=Nn,bk:=D.nx} Z2 H2):=by
 refine⟨fun j m Z H=>m=ds.length-j/\j<=ds.length/\∃P Os' M1 env',Lt P1 H1 P H/\Ok K mg P0 H0 P Os' H M1 Z env'/\loopS i b (ds.drop j) env' M1=some (out,M'),⟨ds.length,by simp,xbP _,P1,Os,M,env,Lt.refl _ _,k,h⟩,?_⟩;rintro j m Z H ⟨rfl,hj,P,Os',M1,env',lt,k',h'⟩;obtain⟨w1,w2,w3⟩:=wk P H lt
 by_cases hlt:j<ds.length
 .refine .inr ⟨w1 j hlt,fun Z' H'=>∃P Os' M1 env',Lt P1 H1 P H'/\Ok K mg P0 H0 P Os' H' M1 Z' env'/\loopS i b (ds.drop (j+1)) env' M1=some (out,M'),fun Z' H' z=>⟨ds.length-(j+1),by lia,rfl,hlt,z⟩,fun x H' y=>?_⟩;obtain⟨e3,d,ed,iv⟩:=w3 j x H' y hlt;subst e3;have ed':ds.drop j=d::ds.drop (j+1):=by
   rw[xbi hlt];rw[xaj hlt]at ed;rw[xaE ed]
  rw[ed']at h';simp only[loopS]at h';split at h'
  .rename_i hi;have k2:=k'.asg hi iv;split at h'
   .rename_i e M2 eb;exact⟨P0,H0,P,_,_,M1,_,_,k2,eb,fun P' Os2 H2 st2 l2 k3=>⟨P',Os2,_,e,lt.trans l2,k3,h'⟩⟩
   .rename_i e M2 eb;exact⟨P0,H0,P,_,_,M1,_,_,k2,eb,fun P' Os2 H2 st2 l2 k3=>⟨P',Os2,_,e,lt.trans l2,k3,h'⟩⟩
   .rename_i e M2 eb;cases h';exact⟨P0,H0,P,_,_,M1,_,_,k2,eb,fun P' Os2 H2 st2 l2 k3=>q P' Os2 H2 st2 (lt.trans l2) k3⟩
   .rename_i e M2 eb;cases h';exact⟨P0,H0,P,_,_,M1,_,_,k2,eb,q⟩
   .rename_i c n M2 eb;cases h';exact⟨P0,H0,P,_,_,M1,_,_,k2,eb,q⟩
   .cases h'
  .cases h'
 .have ej:j=ds.length:=by lia
  subst ej;rw[xcf]at h';cases h';exact .inl ⟨w2 _ (xag _) (xag _),q P Os' H Z lt k'⟩
def CV (hp:PassesOwn (model X.prog X.w) X.A X.env X.xe)(hc:X.calm=true)(hN:X.N.Nodup)(hi:X.N[i]? =some x)(hx:Loc X.env.scope x)(hI:SI X Wx (.Name x p) iter fs)(hb:SB X Wx body b)
  (hf:X.fn x=true\/X.env.scope.names.lookup x=some .local:=by first |exact .inl rfl |exact .inr rfl) (hs:∀x,foldedSetIterable iter X.env x=pure x:=by intro _;rfl):SS X Wx (.For (.Name x p) iter body [] pos) (n6 i fs b):=by
 refine nj (ze4 hp hc hI (Mj hN hi hx hf) hb hs) ?_;by_in;unfold n6 at e;kj_one
 .rename_i ds M1 ef;exact⟨P0,H0,P,Os,env,M,_,_,k,ef,fun P1 H1 J l1 h1 wk=>zdr (k.next l1 h1) wk e (q.lt (l1.lt k.hk))⟩
 .kfm_eq
 .cases e
def ni (f:E):EA:=fun env M=>match f env M with
 |some (.v (.lst ds),M1)=>some (.v ds,M1)
 |some (.x c n,M1)=>some (.x c n,M1)
 |_=>none
def CP (h:SE X Wx .val e f):SI X Wx tg e (ni f):=by
 refine Ir (zfB h) ?_;rintro st H R ⟨P0,H0,P,Os,env,M,r,M',k,e,q⟩;unfold ni at e;kj_one
 .rename_i ds M1 ef;cases e;refine⟨P0,H0,P,Os,env,M,_,_,k,ef,fun P1 v1 H1 l1 h1 i1=>?_⟩;obtain⟨a,vs,rfl,ra,is⟩:=i1;refine⟨a,rfl,⟨vs,ra.imp (·.2) id⟩,q P1 H1 _ l1 h1 fun P2 H2 l2=>?_⟩;have ra2:=l2.rda ra;have is2:=aL.lt l2 is;have sq:gn X.K H2 a vs:=ra2.imp (·.2) id;refine⟨fun j hj=>?_,fun j h1 h2=>⟨vs,sq,by rw[is2.len];exact h1⟩,fun j x H' y hj=>⟨y.1,?_⟩⟩
  .obtain⟨v,ev,_⟩:=aL.get is2 (xaj hj);exact⟨vs,v,sq,ev⟩
  .obtain⟨v,ev,iv⟩:=aL.get is2 (xaj hj);have:=y.2 vs sq;rw[ev]at this;cases this;exact⟨_,xaj hj,iv⟩
 .kfm_eq
 .cases e
end
abbrev G:=List D->Mm->O
def CT (K:Fgx)(mg:Mgx)(n:Nat)(g:G):Sp:=fun vs H Q _=>vs.length=n/\∃P M ds d M',Hk K mg P H M/\aL K P H ds vs/\g ds M=some (.v d,M')/\∀P' v H',LtE P H P' H'->Hk K mg P' H' M'->Is K P' H' d v->Q v H'
def lD (o:OS):O:=match o with
 |some (.rt d,M)=>some (.v d,M)
 |some (.nx _,M)=>some (.v .non,M)
 |some (.ex c n,M)=>some (.x c n,M)
 |_=>none
def fJ (n:Nat)(b:S):G:=fun ds M=>lD (b (ds.map .val++List.replicate (n-ds.length) .un) M)
def zb7 {K:Fgx}{mg:Mgx}{P:Pl}{H:Hp}{M:Mm}{N:Lsx}{ds:List D}{vs:List V}(hk:Hk K mg P H M)(hl:vs.length<=N.length)(h:aL K P H ds vs):
  Ok K mg P H P (List.replicate N.length none) H M (L2.start N vs) (ds.map .val++List.replicate (N.length-ds.length) .un):=by
 have hd:=h.len;refine⟨hk,LtE.refl P H,hk.here,fun i s e=>?_,fun a z=>?_,fun i j a e1 _=>?_,by simp;lia,by simp[L2.start];lia⟩
 .have e0:((List.replicate N.length (none:Option Addr))[i]?).join=none:=by
   rw[xbV]
   split<;>rfl
  rw[e0]
  by_cases hi:i<ds.length
  .rw[xa5 (by simpa using hi),xau,xaj hi]at e;simp only[xaR,xdA]at e;subst e;obtain⟨v,ev,p⟩:=h.get (xaj hi);refine⟨v,?_,p⟩;unfold L2.start;rw[xa5 (by rw[xah];lia),xau,ev];rfl
  .rw[xaW (by simpa using hi),xbV]at e;kj_one
   .cases e;exact True.intro
   .cases e
 .exact absurd (List.eq_of_mem_replicate z) (by simp)
 .rw[xbV]at e1;split at e1<;>cases e1
structure FunD (K:Fgx)(x qual:Str)(st:Stmt)(f:Addr)(fd:FuncData):Prop where
 ex:∃(oc:Value) (od:Option Addr) (dV kV doc pm:Value) (an:Option Addr) (cdv ct:Value) (osl:Array (Option Value)),
  fd=W.fnOf x qual (nW st) (k_ st) (b_ st) dV kV doc pm an cdv ct/\K.lookup f=some ⟨oc,od,.func fd,osl⟩/\W.codeIn K cdv qual=true
 kp:W.keepIn K (.ref f)=true
def Ds {K:Fgx}{x qual:Str}{st:Stmt}{f:Addr}{oc:Value}{od an:Option Addr}{osl:Array (Option Value)}{dV kV doc pm cdv ct:Value}(l:K.lookup f=some ⟨oc,od,.func (W.fnOf x qual (nW st) (k_ st) (b_ st) dV kV doc pm an cdv ct),osl⟩)
 (c:W.codeIn K cdv qual=true) (k:W.keepIn K (.ref f)=true):FunD K x qual st f (W.fnOf x qual (nW st) (k_ st) (b_ st) dV kV doc pm an cdv ct):=⟨⟨oc,od,dV,kV,doc,pm,an,cdv,ct,osl,rfl,l,c⟩,k⟩
section
variable {P:Program}{w:World}{K:Fgx}{mg:Mgx}{base:Heap}{k:Nat}{x qual:Str}{st:Stmt}{f:Addr}{fd:FuncData}{N ps:Lsx}{b:S}
def W0:XW:=fun _ _ _ _ _=>False
abbrev Gp (P:Program)(w:World)(K:Fgx)(mg:Mgx)(base:Heap)(N:Lsx)(qual:Str)(st:Stmt)(f:Addr)(cdv:Value)(A:Around)(outer:List PySem.Env)(s:Shared)(H:Hp)(E:XK):Cx:=(lC pF P w K mg base N qual (b_ st) f cdv A outer s H E).nox
def KQ (F:FunD K x qual st f fd)(S:FnScope N ps (b_ st))(hp:ps.length<=N.length)
  (hb:∀cdv A outer s H E,Room k (A.deeper (envOfC qual (b_ st) s.heap.objs.size f cdv))->SB (Gp P w K mg base N qual st f cdv A outer s H E) W0 (k_ st) b):FnOk P w K mg base pF (k+1) f fd ps (CT K mg ps.length (fJ N.length b)):=by
 obtain⟨oc,od,dV,kV,doc,pm,an,cdv,ct,osl,rfl,lk,hcd⟩:=F.ex;refine Rj lk hcd S (fun vs H Q E h=>h.1) fun A outer s H vs Q E hr h=>?_;obtain⟨hl,Pl,M,ds,d,M',hk,is,e,q⟩:=h;refine⟨_,nA.nox (hb cdv A outer s H E hr),?_⟩;unfold fJ lD at e;have st0:=zb7 (N:=N) hk (by lia) is;kj_one
 .rename_i d' M2 eb;cases e;exact⟨Pl,H,Pl,_,_,M,_,_,st0,eb,fun P' v H' l h i=>q P' v H' l h i⟩
 .rename_i env M2 eb;cases e;exact⟨Pl,H,Pl,_,_,M,_,_,st0,eb,fun P' Os' H' st' _ k'=>q P' .non H' k'.base k'.hk rfl⟩
 .rename_i c n M2 eb;cases e
 .cases e
def aR (P:Program)(w:World)(K:Fgx)(mg:Mgx)(base:Heap)(k:Nat)(f:Str)(n:Nat)(g:G):Prop:=
 ∃fa fd ps ds dvs sp,mg f=some (.ref fa)/\W.keepIn K (.ref fa)=true/\FnOk P w K mg base pF k fa fd ps sp/\Binds K fd ps ds/\Vals dvs ds/\∀vs H Q E,CT K mg n g vs H Q E->sp (vs++dvs) H Q E
def zlV (F:FunD K x qual st f fd)(S:FnScope N ps (b_ st))(hp:ps.length<=N.length)(hm:mg x=some (.ref f))(hd:Binds K fd ps [])
  (hb:∀cdv A outer s H E,Room k (A.deeper (envOfC qual (b_ st) s.heap.objs.size f cdv))->SB (Gp P w K mg base N qual st f cdv A outer s H E) W0 (k_ st) b):aR P w K mg base (k+1) x ps.length (fJ N.length b):=
 ⟨f,fd,ps,[],[],_,hm,F.kp,KQ F S hp hb,hd,.nil,fun vs H Q E h=>by rw[xaA];exact h⟩
theorem aR.mono (a:aR P w K mg base j x n g)(h:j<=k):aR P w K mg base k x n g:=by
 obtain⟨fa,fd,ps,ds,dvs,sp,h1,h2,h3,h4⟩:=a;exact⟨fa,fd,ps,ds,dvs,sp,h1,h2,h3.mono h,h4⟩
end
section
variable {X:Cx}{Wx:XW}{m:Mode}
def eX (g:G)(fs:EA):E:=fun env M=>nR (fs env M) fun ds M1=>match g ds M1 with
 |some (.v d,M2)=>some (.v d,M2)
 |_=>none
theorem kE.len {K:Fgx}{P:Pl}{H:Hp}:∀{ds:List D} {vs:List V},kE K P H m ds vs->vs.length=ds.length
 | [],_,h=>by rw[show _=[] from h];rfl
 |d::ds,_,h=>by
  obtain⟨v,r,e,_,q⟩:=h;subst e
  simp[kE.len q]
def yO (n:Nat)(fs:EA):Prop:=∀env M ds M',fs env M=some (.v ds,M')->ds.length=n
theorem cnt_nil:yO 0 aq:=fun env M ds M' e=>by cases e;rfl
def cnt_cons (h:yO n fs):yO (n+1) (au f fs):=fun env M ds M' e=>by
 unfold au at e;kj_one
 .kj_one
  .rename_i ef;cases e;rw[xae,h _ _ _ _ ef]
  .cases e
  .cases e
 .cases e
 .cases e
def fu {k n:Nat}{f:Str}{g:G}{e:Expr}{es:Lex}{fs:EA}{p pos:Pos}(a:aR X.prog X.w X.K X.mg X.base k f n g)(hr:Room k X.A)(hg:Gl X f)(ha:SA X Wx .val (e::es) fs)(hn:yO n fs)(hdb:(f==("__debug__":Str))=false:=by x_go)
  (he:starEach (e::es) X.env=(false,eval e X.env)::starEach es X.env:=by rfl) (hpl:(backTo pos (starEach es X.env)).any (·.1)=false:=by rfl):SE X Wx m (.Call (.Name f p) (e::es) [] pos) (eX g fs):=by
 obtain⟨fa,fd,ps,ds,dvs,sp,hm,hk,F,hb,hv,himp⟩:=a;refine gJ (zgC F hr hg hm hk hb hv zjP ha hdb he hpl) ?_;k_go;unfold eX at e;rcases zZ e with⟨ds,M1,e1,e⟩ |⟨c,n,e1,rfl⟩
 .kj_one
  .rename_i d M2 eg;cases e;exact⟨P0,H0,P,Os,env,M,_,_,k,e1,fun P1 vs H1 l1 h1 i1=>himp _ _ _ _ ⟨by rw[i1.len];exact hn _ _ _ _ e1,P1,M1,ds,d,_,h1,i1.iss,eg,fun P2 v H2 l2 h2 i2=>q P2 v H2 (l1.trans l2) h2 (gW.of h2 i2)⟩⟩
  .cases e
 .k_one
end
def Fp (i j:Int):Prop:=yN i j\/(i.natAbs.log2<10000/\j.natAbs.log2<10000)
def WX (h:i.natAbs.log2<10000):Builtin.Int.intBits i<=10001:=by
 unfold Builtin.Int.intBits
 split<;>lia
theorem Fp.ok (h:Fp i j):IntMulOk i j:=by
 rcases h with h |⟨h1,h2⟩
 .exact h.ok
 .exact mulOk_of_bits (WX h1) (WX h2) (by decide)
def nG:gj X (binaryOp .Mult) (rI Fp fun i j=>.int (i*j)):=Mh fun _ _ _ _ _ _ _ hc q=>mul_int q hc.ok
section
variable {X:Cx}{H:Hp}{K:Fgx}
def zi1 (K:Fgx):R2:=fun x y H Q=>∃l b xs zs,x=.ref l/\y=.ref b/\gn K H l xs/\gn K H b zs/\xs.length+zs.length<=sizeLine/\∀p,H p=none->Q (.ref p) (upd H p (.lst (xs++zs)))
def zdx:gj X (binaryOp .Add) (zi1 X.K):=by
 w_why;obtain⟨l,b,xs,zs,rfl,rfl,hH,hB,hz,q⟩:=h;cases rx;cases ry;obtain⟨z,its,r,⟨cls,dd,data,sl⟩,ho,hc,n,hd⟩:=sql I hH;obtain⟨z2,its2,r2,⟨cls2,dd2,data2,sl2⟩,ho2,hc2,n2,hd2⟩:=sql I hB;simp only at hc hd hc2 hd2;subst hc hd hc2 hd2;have hl:=r.length;have hl2:=r2.length;refine concat_meets ⟨_,ho,rfl⟩ ⟨_,ho2,rfl⟩ noFill_list_add seq_list_add F.slot_list_add F.entry_list_add (F.args_list_add_2 _ _) (list_addW l b its.toArray its2.toArray n n2 dd dd2 sl sl2 (by rw[xal,xal];lia)) ⟨ho,ho2,?_⟩;have ea:its.toArray++its2.toArray=(its++its2).toArray:=by simp
 rw[ea];exact⟨.ref _,_,I.lnew (t':=s.toks) (r.append r2) (by rw[xaf];lia),rfl,q _ I.fresh⟩
def Tc {P:Pl}{H:Hp}{ds:List D}{vs:List V}{Q:VK}(hn:∀p,H p=none->¬ P.bd p)(h:aL K P H ds vs)(q:∀u H',Same H H'->Is K P H' (.lst ds) u->Q u H'):∀p,H p=none->Q (.ref p) (upd H p (.lst vs)):=fun p hp=>by
 have s:=zQ (o:=.lst vs) hp;exact q _ _ s ⟨p,vs,rfl,.inl ⟨hn p hp,.inl gA⟩,aL.lt ⟨xag _,fun _ _=>rfl,fun _ z=>.inl z,fun a o e _=>s a o e,fun a z=>s.free z⟩ h⟩
def Td {P:Pl}{H:Hp}{ds:List D}{vs:List V}{Q:VK}(h:aL K P H ds vs)(q:∀u H',Same H H'->Is K P H' (.tup ds) u->Q u H'):∀p,H p=none->Q (.ref p) (upd H p (.tup vs)):=fun p hp=>by
 have s:=zQ (o:=.tup vs) hp;exact q _ _ s ⟨p,vs,rfl,.inl (.inl gA),aL.lt ⟨xag _,fun _ _=>rfl,fun _ z=>.inl z,fun a o e _=>s a o e,fun a z=>s.free z⟩ h⟩
def aN:D->D->Option D
 |.int i,.int j=>some (.int (i+j))
 |.str i,.str j=>if i.length+j.length<=sizeLine then some (.str (i++j)) else none
 |.lst xs,.lst ys=>if xs.length+ys.length<=sizeLine then some (.lst (xs++ys)) else none
 |_,_=>none
def Cr (K:Fgx):R2:=fun x y H Q=>t_ (fun i j=>.int (i+j)) x y H Q\/(∃i j,x=.str i/\y=.str j/\i.length+j.length<=sizeLine/\Q (.str (i++j)) H)\/zi1 K x y H Q
def eZ:gj X (binaryOp .Add) (Cr X.K):=ziA.or (zcB.or zdx)
def fj:tW K (Cr K) aN:=fun P H d e z v w Q h h1 h2 hn q=>by
 unfold aN at h;kjx_on
 .cases h;cases h1;cases h2;exact .inl ⟨_,_,rfl,rfl,q _ H (Same.refl H) rfl⟩
 .kjx_on
  .rename_i hl;cases h;cases h1;cases h2;exact .inr (.inl ⟨_,_,rfl,rfl,hl,q _ H (Same.refl H) rfl⟩)
  .cases h
 .kjx_on
  .rename_i hl;cases h;obtain⟨a,vs,rfl,r1,s1⟩:=h1;obtain⟨b,ws,rfl,r2,s2⟩:=h2;exact .inr (.inr ⟨a,b,vs,ws,rfl,rfl,r1,r2,by rw[s1.len,s2.len];exact hl,Tc hn (s1.append s2) q⟩)
  .cases h
 .cases h
noncomputable def oI (g:Int->Int->Option D):D->D->Option D
 |.int i,.int j=>g i j
 |_,_=>none
def Ih (h:oI g d e=some z)(h1:gC K P H d v)(h2:gC K P H e w):∃i j,v=.int i/\w=.int j/\g i j=some z:=by
 unfold oI at h;kjx_on
 .cases h1;cases h2;exact⟨_,_,rfl,rfl,h⟩
 .cases h
def gZ:=oI fun i j=>some (.int (i-j))
def tL:tW K (t_ fun i j=>.int (i-j)) gZ:=fun P H d e z v w Q h h1 h2 _ q=>by
 obtain⟨i,j,rfl,rfl,h⟩:=Ih h h1 h2;cases h;exact⟨i,j,rfl,rfl,q _ H (Same.refl H) rfl⟩
def fP:=oI fun i j=>if i.natAbs<18446744073709551616\/j.natAbs<18446744073709551616\/(i.natAbs.log2<10000/\j.natAbs.log2<10000) then some (.int (i*j)) else none
def nH:tW K (rI Fp fun i j=>.int (i*j)) fP:=fun P H d e z v w Q h h1 h2 _ q=>by
 obtain⟨i,j,rfl,rfl,h⟩:=Ih h h1 h2;kjx_on
 .rename_i hg;cases h;exact⟨i,j,rfl,rfl,by unfold Fp yN;rw[show(2:Int)^64=18446744073709551616 from rfl];exact hg.elim (fun z=>.inl (.inl ⟨by lia,by lia⟩)) (fun z=>z.elim (fun z=>.inl (.inr ⟨by lia,by lia⟩)) .inr),q _ H (Same.refl H) rfl⟩
 .cases h
def j_:=oI fun i j=>if 0<j/\j.natAbs<1073741824 then some (.int (i/j)) else none
def kJ:tW K (rI Fo fun i j=>.int (i/j)) j_:=fun P H d e z v w Q h h1 h2 _ q=>by
 obtain⟨i,j,rfl,rfl,h⟩:=Ih h h1 h2;kjx_on
 .rename_i hg;cases h;exact⟨i,j,rfl,rfl,⟨hg.1,by lia⟩,q _ H (Same.refl H) rfl⟩
 .cases h
def oMod:=oI fun i j=>if 0<j then some (.int (i%j)) else none
def fD:tW K (rI (fun _ j=>0<j) fun i j=>.int (i%j)) oMod:=fun P H d e z v w Q h h1 h2 _ q=>by
 obtain⟨i,j,rfl,rfl,h⟩:=Ih h h1 h2;kjx_on
 .rename_i hg;cases h;exact⟨i,j,rfl,rfl,hg,q _ H (Same.refl H) rfl⟩
 .cases h
def nZ:=oI fun i j=>if 0<=j/\j.natAbs<=1000000/\i.natAbs<18446744073709551616 then some (.int (i^j.toNat)) else none
def Ao:tW K (rI Bf fun i j=>.int (i^j.toNat)) nZ:=fun P H d e z v w Q h h1 h2 _ q=>by
 obtain⟨i,j,rfl,rfl,h⟩:=Ih h h1 h2;kjx_on
 .rename_i hg;cases h;exact⟨i,j,rfl,rfl,by unfold Bf;rw[show(2:Nat)^64=18446744073709551616 from rfl];exact⟨hg.1,by lia,hg.2.2⟩,q _ H (Same.refl H) rfl⟩
 .cases h
def aF (c:Cp)(a b:D):Option D:=(gh c a b).map .bl
def Ck:tW K (IV K c) (aF c):=fun P H d e z v w Q h h1 h2 _ q=>by
 unfold aF at h;rw[xam]at h;obtain⟨b,h,rfl⟩:=h;exact Km h h1 h2 (q _ H (Same.refl H) rfl)
def aO:D->D->Option D
 |.lst ds,.int i=>aV ds i
 |.tup ds,.int i=>aV ds i
 |.str z,.int i=>if z.length<=sizeLine then(aV z.cps.toList i).map fun c=>.str ⟨#[c]⟩ else none
 |_,_=>none
def Uk (K:Fgx):R2:=fun x y H Q=>Cu K x y H Q\/Cy K x y H Q\/Cw x y H Q
def RN:yc X (Uk X.K):=zfP.or (zhO.or zhu)
def WM (h:aV ds i=some d)(q:aL K P H ds vs):∃u,aV vs i=some u/\Is K P H d u:=by
 unfold aV at h ⊢;rw[q.len]
 cases e:wA ds.length i with
 |none=>rw[e]at h;cases h
 |some j=>rw[e]at h;exact q.get h
def T_:tW K (Uk K) aO:=fun P H d e z v w Q h h1 h2 _ q=>by
 unfold aO at h;kjx_on
 .obtain⟨a,vs,rfl,r,s⟩:=h1;cases h2;obtain⟨u,e,p⟩:=WM h s;exact .inl ⟨a,vs,_,u,rfl,rfl,r,e,q _ H (Same.refl H) p⟩
 .obtain⟨a,vs,rfl,r,s⟩:=h1;cases h2;obtain⟨u,e,p⟩:=WM h s;exact .inr (.inl ⟨a,vs,_,u,rfl,rfl,r,e,q _ H (Same.refl H) p⟩)
 .kjx_on
  .rename_i hl;rw[xam]at h;obtain⟨c,h,e⟩:=h;cases e;cases h1;cases h2;exact .inr (.inr ⟨_,_,c,rfl,rfl,hl,h,q _ H (Same.refl H) rfl⟩)
  .cases h
 .cases h
def eO:List D->Option D
 | [.lst ds]=>some (.int ds.length)
 | [.tup ds]=>some (.int ds.length)
 | [.str z]=>if z.length<=sizeLine then some (.int z.length) else none
 |_=>none
def IW (K:Fgx):List V->Hp->VK->Prop:=fun xs H Q=>(∃p ys,xs=[.ref p]/\(gn K H p ys\/gO K H p ys)/\Q (.int ys.length) H)\/∃z,xs=[.str z]/\z.length<=sizeLine/\Q (.int z.length) H
def h_:nP X (.builtin "len") (IW X.K):=zbn.or zbq
def iu:yd K (IW K) eO:=fun P H ds z vs Q h i _ q=>by
 unfold eO at h;kjx_on
 .kfm_hd;cases h;obtain⟨a,us,rfl,r,s⟩:=p;exact .inl ⟨a,us,rfl,.inl r,q _ H (Same.refl H) (by rw[s.len];rfl)⟩
 .kfm_hd;cases h;obtain⟨a,us,rfl,r,s⟩:=p;exact .inl ⟨a,us,rfl,.inr r,q _ H (Same.refl H) (by rw[s.len];rfl)⟩
 .kjx_on
  .rename_i hl;kfm_hd;cases h;cases p;exact .inr ⟨_,rfl,hl,q _ H (Same.refl H) rfl⟩
  .cases h
 .cases h
noncomputable def wN:List D->Option D
 | [.int i,.int j]=>some (.int (if j<i then j else i))
 |_=>none
def zeO:yd K (fun xs H Q=>∃i j,xs=[.int i,.int j]/\Q (.int (if j<i then j else i)) H) wN:=fun P H ds z vs Q h i _ q=>by
 unfold wN at h;kjx_on
 .obtain⟨v,ws,rfl,p,v',ws',rfl,p',rfl⟩:=i;cases h;cases p;cases p';exact⟨_,_,rfl,q _ H (Same.refl H) rfl⟩
 .cases h
end
section
variable {X:Cx}{Wx:XW}{m:Mode}
def JG:D->String
 |.non=>"NoneType"
 |.bl _=>"bool"
 |.int _=>"int"
 |.str _=>"str"
 |.tup _=>"tuple"
 |.lst _=>"list"
 |.ref _=>""
def zdf:nP X (.builtin "isinstance") (fun xs H Q=>∃(x:V) (T:String) (d:D) (P:Pl) (b:Bool),xs=[x,.ty T]/\gC X.K P H d x/\JG d≠""/\W.kitOne X.K (.type (JG d)) (.type T)=some b/\Q (.bl b) H):=by
 kt_chr;obtain⟨x,T,d,A,b,rfl,i,ne,e,q⟩:=h;obtain⟨u,w',rfl,rx,rT⟩:=vals2 r;cases rT;have fin:∀tk,EP X pins Z Q (.bool b) {s with toks:=tk}:=fun tk=>⟨.bl b,H,I.tok _,rfl,q⟩
 cases d with
 |non=>have hv:x=.non:=i;subst hv;exact K6 I rx (TyOf.non) e fin
 |bl y=>have hv:x=.bl y:=i;subst hv;exact K6 I rx (TyOf.bl y) e fin
 |int y=>have hv:x=.int y:=i;subst hv;exact K6 I rx (TyOf.int y) e fin
 |str y=>have hv:x=.str y:=i;subst hv;exact K6 I rx (TyOf.str y) e fin
 |ref n=>exact absurd rfl ne
 |tup ds=>
  obtain⟨a,vs,rfl,t,_⟩:=i;cases rx;obtain⟨its,_,p,_⟩:=I.tuple t;obtain⟨o,h1,h2,_⟩:=p;exact xbK W.kitx_tuple I.kIn ⟨o,h1,h2⟩ e (fun z=>nomatch z) fin
 |lst ds=>
  obtain⟨a,vs,rfl,t,_⟩:=i;cases rx;obtain⟨_,its,_,o,h1,h2,_⟩:=sql I t;exact xbK W.kitx_list I.kIn ⟨o,h1,h2⟩ e (fun z=>nomatch z) fin
theorem zeB {K:Fgx}{P:Pl}{H:Hp}{lo:Int}{n:Nat}:Wk K P H (JV lo n) ((List.range n).map fun(k:Nat)=>.int (lo+k)):=fun P' H' l=>by
 rw[xah,xca];refine⟨fun k hk=>hk,fun k h1 _=>h1,fun k x H2 y hk=>⟨y.1,.int (lo+k),?_,y.2⟩⟩;rw[xau,xcj hk];rfl
def xg (fs:EA):EA:=fun env M=>match fs env M with
 |some (.v [.int j],M1)=>if -1000000000<=j/\j<=1000000000 then some (.v ((List.range j.toNat).map fun(k:Nat)=>.int (0+k)),M1) else none
 |some (.x c n,M1)=>some (.x c n,M1)
 |_=>none
def Ey (hg:Gl X "range")(hm:X.mg "range"=none)(ha:SA X Wx .val [a] fs)(hs:starEach [a] X.env=[(false,eval a X.env)]:=by rfl):SI X Wx tg (.Call (.Name "range" p) [a] [] pos) (xg fs):=by
 refine Ir (zdo hg hm ha hs) ?_;rintro st H R ⟨P0,H0,P,Os,env,M,r,M',k,e,q⟩;unfold xg at e;kj_one
 .rename_i j M1 ef;kj_one
  .rename_i hj;cases e;refine⟨P0,H0,P,Os,env,M,_,_,k,ef,fun P1 vs H1 l1 h1 i1=>?_⟩;obtain⟨v,ws,rfl,p,rfl⟩:=i1;exact⟨j,by rw[show v=.int j from p],by lia,by lia,q P1 H1 _ l1 h1 zeB⟩
  .cases e
 .kfm_eq
 .cases e
def lY:Env->Mm->Option (Oix×Mm):=fun _ M=>some (none,M)
def g8 (f:E):Env->Mm->Option (Oix×Mm):=fun env M=>match f env M with
 |some (.v (.int i),M1)=>some (some i,M1)
 |_=>none
def tP (K:Fgx)(mg:Mgx)(f:Env->Mm->Option (Oix×Mm)):TO:=fun st H Q=>∃P0 H0 P Os env M i M',Ok K mg P0 H0 P Os H M st env/\f env M=some (i,M')/\∀P' H',LtE P H P' H'->Hk K mg P' H' M'->Q i H'
def Dl (X:Cx)(e:Option Expr)(f:Env->Mm->Option (Oix×Mm)):Prop:=PO X e (tP X.K X.mg f)
def ze9 (h:PO X e t)(w:∀Z H Q,t' Z H Q->t Z H Q):PO X e t':=fun pins s Z H Q I hw=>h pins s Z H Q I (w Z H Q hw)
def nJ:Dl X none lY:=by
 refine ze9 zfJ ?_;rintro st H Q ⟨P0,H0,P,Os,env,M,i,M',k,e,q⟩;cases e;exact q P H (LtE.refl P H) k.hk
def jx (h:SE X Wx .val e f):Dl X (some e) (g8 f):=by
 refine ze9 (zfr h) ?_;rintro st H Q ⟨P0,H0,P,Os,env,M,i,M',k,e,q⟩;unfold g8 at e;kj_one
 .rename_i j M1 ef;cases e;exact⟨P0,H0,P,Os,env,M,_,_,k,ef,fun P1 v H1 l1 h1 i1=>⟨j,i1,q P1 H1 l1 h1⟩⟩
 .cases e
def fW {α:Type}(xs:List α)(lo hi:Oix):List α:=(xs.drop (HT.fH xs.length 0 lo)).take (HT.fH xs.length xs.length hi-HT.fH xs.length 0 lo)
def Xn {K:Fgx}{P:Pl}{H:Hp}{ds:List D}{vs:List V}{lo hi:Oix}(q:aL K P H ds vs):aL K P H (fW ds lo hi) (pQ vs lo hi):=by
 unfold fW pQ;rw[q.len];exact(q.drop _).take _
def Ez (d:D)(lo hi:Oix):Option D:=match d with
 |.lst ds=>some (.lst (fW ds lo hi))
 |.str z=>if z.length<=sizeLine then some (.str (Txt.slice z lo hi)) else none
 |_=>none
def kO (f:E)(l h:Env->Mm->Option (Oix×Mm)):E:=fun env M=>bnd (f env M) fun d M1=>match l env M1 with
 |some (lo,M2)=>(match h env M2 with
  |some (hi,M3)=>(Ez (vw M3 d) lo hi).map fun z=>(.v z,M3)
  |none=>none)
 |none=>none
def lK {e:Expr}{lo hi:Option Expr}{p2 pos:Pos}{f:E}{l h:Env->Mm->Option (Oix×Mm)}(he:SE X Wx .bor e f)(hl:Dl X lo l)(hh:Dl X hi h):SE X Wx m (.Subscript e (.Slice lo hi none p2) pos) (kO f l h):=by
 refine gJ (zbY (zgp.or zhH) he hl hh) ?_;k_go;unfold kO at e;cb_eq
 .kj_one
  .rename_i lo' M2 el;kj_one
   .rename_i hi' M3 eh;kpa_ne;refine eE k e1 fun P1 v1 H1 l1 h1 i1=>⟨P0,H0,P1,Os,env,M1,_,_,k.next l1 h1,el,fun P2 H2 l2 h2=>⟨P0,H0,P2,Os,env,M2,_,_,(k.next l1 h1).next l2 h2,eh,fun P3 H3 l3 h3=>?_⟩⟩
    have i3:=iB.vw h3 (iB.lt l3 h2 (iB.lt l2 h1 i1));have fin:∀u H',Same H3 H'->Is X.K P3 H' z u->Q u H':=fun u H' s i=>q P3 u H' (l1.trans (l2.trans (l3.trans (LtE.same s)))) (h3.same s) (gW.of (h3.same s) i);generalize vw M' d=d' at i3 ez;unfold Ez at ez;split at ez
    .cases ez;obtain⟨a,vs,rfl,r,s⟩:=i3;exact .inl ⟨a,vs,rfl,r,Tc h3.new (Xn s) fin⟩
    .split at ez
     .rename_i hz;cases ez;cases i3;exact .inr ⟨_,rfl,hz,fin _ _ (Same.refl _) rfl⟩
     .cases ez
    .cases ez
   .cases e
  .cases e
 .o_norm
def vg (f:E):E:=fun env M=>bnd (f env M) fun d M1=>match d with
 |.lst ds=>some (.v (.ref M1.length),M1++[.lst ds])
 |_=>none
def yF (h:SN X Wx e f):SE X Wx m e (vg f):=by
 refine gJ h ?_;k_go;unfold vg at e;cb_eq
 .cases d<;>simp only[reduceCtorEq]at e
  rename_i ds;cases e;refine⟨P0,H0,P,Os,env,M,_,_,k,e1,ds,rfl,fun P1 a vs H1 l1 h1 ha ba nc ea is=>?_⟩;have hn:P1.n=M1.length:=h1.n
  let P2:Pl:={io:=fun j=>if j=P1.n then a else P1.io j,n:=P1.n+1,bd:=P1.bd}
  have io:∀j,j<P1.n->P2.io j=P1.io j:=fun j hj=>xac (by lia);have ioN:P2.io P1.n=a:=xaa rfl;have l2:Lt P1 H1 P2 H1:=⟨xcz _,io,fun _ z=>.inl z,fun _ _ e _=>e,fun _ z=>z⟩;have le:LtE P H P2 H1:=⟨xeh l1.n,fun j hj=>(io j (xar hj l1.n)).trans (l1.io j hj),l1.bd,l1.bm,l1.keep,l1.sure,fun j h2 h3=>by
   rcases xa2 j P1.n with z |z
   .rw[io j z];exact l1.nw j h2 z
   .have:j=P1.n:=xa7 (xa3 h3) z;rw[this,ioN];exact ha⟩
  have hk2:Hk X.K X.mg P2 H1 (M1++[.lst ds]):=by
   refine⟨by rw[xaf, <-hn];rfl,fun j c ej=>?_,fun i j hi hj e=>?_,fun j hj=>?_,h1.here⟩
   .rcases xa2 j P1.n with z |z
    .rw[xa5 (by rw[<-hn];exact z)]at ej;rw[io j z];exact(h1.cell j c ej).lt l2 fun _ z=>z
    .have jl:=(xao.mp ej).1;rw[xaf,xaC, <-hn]at jl;have:j=P1.n:=by lia
     subst this;rw[xaW (by rw[hn];exact xag _),hn,xb3]at ej;cases ej;rw[ioN];exact⟨vs,ea,aL.lt l2 is⟩
   .rcases xa2 i P1.n with z |z
    .rcases xa2 j P1.n with y |y
     .rw[io i z,io j y]at e;exact h1.inj i j z y e
     .have:j=P1.n:=xa7 (xa3 hj) y;rw[io i z,this,ioN]at e;exact absurd e (nc i z)
    .have iN:i=P1.n:=xa7 (xa3 hi) z;rcases xa2 j P1.n with y |y
     .rw[iN,ioN,io j y]at e;exact absurd e.symm (nc j y)
     .rw[iN];exact xa7 y (xa3 hj)
   .rcases xa2 j P1.n with z |z
    .rw[io j z];exact h1.bd j z
    .have:j=P1.n:=xa7 (xa3 hj) z;rw[this,ioN];exact ba
  exact q P2 _ H1 le hk2 (gW.of hk2 (show Is _ _ _ (.ref _) _ from⟨by show _<P1.n+1;rw[hn];exact xbH _,by rw[<-hn,ioN]⟩))
 .k_one
def Aq (f g:E):S:=fun env M=>fK (f env M) fun d M1=>match d with
 |.ref j=>(match M1[j]? with
  |some (.lst _)=>fK (g env M1) fun y M2=>(match M2[j]? with
   |some (.lst ds)=>if ds.length<sizeLine then some (.nx env,M2.set j (.lst (ds++[y]))) else none
   |_=>none)
  |_=>none)
 |_=>none
def Jq (ho:SE X Wx .val o f)(he:SE X Wx .val e g)(hbase:attributeBase o "append" X.env (eval o X.env)=eval o X.env:=by rfl)
  (hfew:((backTo q (starEach [e] X.env)).all (fun x=> !x.1)&&(backToKw q (keywordEach [] X.env)).all (fun x=>x.1.isSome)&&decide ([e].length+([]:List Keyword).length+(if ([]:List Keyword).isEmpty then 0 else 1)<30))=true:=by rfl)
  (hline:(p.endLine==q.line)=true:=by rfl) (hs:starEach [e] X.env=(false,eval e X.env)::starEach [] X.env:=by rfl) (hw:swapsWith (.Call (.Attribute o "append" p) [e] [] q) none pos.line X.env=pure false:=by rfl):
  SS X Wx (.Expr (.Call (.Attribute o "append" p) [e] [] q) pos) (Aq f g):=by
 refine nj (Am (Ej xct xdq F.type_list_append Ss ho (tY he xM hs) hbase hfew hline hs rfl) hw) ?_;by_in;unfold Aq at e;sr_in
 .cases d<;>simp only[reduceCtorEq]at e
  rename_i j;kj_one
  rotate_left
  .cases e
  rename_i ds0 em0;refine⟨P0,H0,P,Os,env,M,_,_,k,e1,fun P1 v1 H1 l1 h1 i1=>?_⟩;have k1:=k.next l1 h1
  obtain⟨jl,rfl⟩:j<P1.n/\v1=.ref (P1.io j):=i1;obtain⟨vs0,ev0,_⟩:=h1.cell j _ em0;refine⟨.inl ⟨rfl,vs0,.inl (.inl ev0)⟩,?_⟩;rcases lW e with⟨y,M2,e2,e⟩ |⟨c,n,e2,rfl⟩
  .kj_one
   .rename_i ds em;kj_one
    .rename_i hz;cases e;kri_at;obtain⟨vs,ev,is⟩:=h2.cell j _ em;rw[l2.io j jl]at ev;have i3:=Is.lt (Lt.refl P2 H2) i2;refine⟨P1.io j,vs,v2,rfl,rfl,ev,by rw[is.len];exact hz,?_⟩;have eio:P2.io j=P1.io j:=l2.io j jl;have jl2:j<P2.n:=xar jl l2.n;obtain⟨o0,eo0,nf0⟩:=h2.cellAt em;have lc:Lt P2 H2 P2 (upd H2 (P2.io j) (.lst (vs++[v2]))):=Ah (h2.bd j jl2) eo0 nf0;obtain⟨l3,l3e,h3⟩:=h2.set (c':=.lst (ds++[y])) (o':=.lst (vs++[v2])) em ⟨vs++[v2],gA,aL.append (aL.lt lc is) (aL.one (Is.lt lc i2))⟩;rw[eio]at l3 l3e h3;exact q _ _ _ _ ((l1.lt k.hk).trans ((l2.lt h1).trans l3)) ((k1.next l2 h2).next l3e h3)
    .cases e
   .cases e
  .exact eE k1 e2 q
 .k_one
end
section
variable {X:Cx}{Wx:XW}{m:Mode}{pos:Pos}
noncomputable def xJ:D->Option D
 |.int i=>some (.int (-i))
 |_=>none
def zeH {K:Fgx}:Pg K (rU fun i=>.int (-i)) xJ:=fun P H d z v Q h i _ q=>by
 unfold xJ at h;kjx_on
 .cases h;cases i;exact⟨_,rfl,q _ H (Same.refl H) rfl⟩
 .cases h
def ziw (ho:JZ X (unaryOp op) r)(po:Pg X.K r o)(ha:SE X Wx .bor a f):SE X Wx m (.UnaryOp op a pos) (s1 o f):=
 gJ (zjV ho ha) fun _ _ _ h=>zlv po h
def lU (c c':Cp)(f g h:E):E:=fun env M=>bnd (f env M) fun x M1=>bnd (g env M1) fun y M2=>match gh c (vw M2 x) (vw M2 y) with
 |some true=>bnd (h env M2) fun z M3=>(gh c' (vw M3 y) (vw M3 z)).map fun b=>(.v (.bl b),M3)
 |some false=>some (.v (.bl false),M2)
 |none=>none
def Xc {c c':Cp}{f g h:E}{st:L2.St}{H:Hp}{Q:VK}(w:tE X.K X.mg Wx m (lU c c' f g h) st H Q):Vv (IV X.K c) (IV X.K c') (tE X.K X.mg Wx .bor f) (tE X.K X.mg Wx .bor g) (tE X.K X.mg Wx .bor h) st H Q:=by
 obtain⟨P0,H0,P,Os,env,M,rr,M',k,e,q⟩:=w;unfold lU at e;rcases gU e with⟨x,M1,e1,e⟩ |⟨c,n,e1,rfl⟩
 .kj_on;have k1:=k.next l1 h1
  rcases gU e with⟨y,M2,e2,e⟩ |⟨c,n,e2,rfl⟩
  .kri_at;have k2:=k1.next l2 h2
   have w1:=iB.vw h2 (iB.lt l2 h1 i1);have w2:=iB.vw h2 i2;kj_one
   .rename_i ec;refine Km ec w1 w2 ⟨true,rfl,?_⟩;rw[xaa rfl];rcases gU e with⟨z,M3,e3,e⟩ |⟨c,n,e3,rfl⟩
    .refine eE k2 e3 fun P3 v3 H3 l3 h3 i3=>?_;rw[xam]at e;obtain⟨b,eb,e⟩:=e;cases e;exact Km eb (iB.vw h3 (iB.lt l3 h2 i2)) (iB.vw h3 i3) (q P3 _ H3 (l1.trans (l2.trans l3)) h3 (gW.of h3 (show Is _ _ _ (.bl b) _ from rfl)))
    .exact eE k2 e3 q
   .rename_i ec;cases e;refine Km ec w1 w2 ⟨false,rfl,?_⟩;rw[xac (by decide)];exact q P2 _ H2 (l1.trans l2) h2 (gW.of h2 (show Is _ _ _ (.bl false) _ from rfl))
   .cases e
  .exact eE k1 e2 q
 .o_norm
def zg2 (hu:X.A.units+60<cLine)(ha:SE X Wx .bor a f)(hb:SE X Wx .bor b g)(hc:SE X Wx .bor c h)(hm:lastMarks [wU c1,wU c2] [b,c]=false:=by with_unfolding_all rfl):SE X Wx m (.Compare a [wU c1,wU c2] [b,c] pos) (lU c1 c2 f g h):=
 gJ (zeg (wV hu c1) (wV hu c2) ha hb hc hm) fun _ _ _ w=>Xc w
def zeK (hu:X.A.units+60<cLine)(ha:SE X Wx .bor a f)(hb:SE X Wx .bor b g)(hc:SE X Wx .bor c h)(hm:lastMarks [wU c1,wU c2] [b,c]=false:=by with_unfolding_all rfl):ST X Wx (.Compare a [wU c1,wU c2] [b,c] pos) (lU c1 c2 f g h):=
 Cj (zer (wV hu c1) (wV hu c2) ha hb hc hm) fun _ _ _ w=>Xc (JD w)
def Av (f:E):E:=fun env M=>bnd (f env M) fun d M1=>match vw M1 d with
 |.lst ds=>some (.v (.lst ds),M1)
 |.tup ds=>some (.v (.lst ds),M1)
 |_=>none
def Vh (hg:Gl X "list")(hm:X.mg "list"=none)(he:SE X Wx .bor e f)(hs:starEach [e] X.env=(false,eval e X.env)::starEach [] X.env:=by rfl):SN X Wx (.Call (.Name "list" p) [e] [] pos) (Av f):=by
 refine gJ (TF zbt hg hm boot_list (tY he xM hs) (by x_go) (by x_go) hs rfl) ?_;k_go;unfold Av at e;cb_eq
 .refine eE k e1 ?_;have key:∀ds,r=.v (.lst ds)->M'=M1->(∀P1 v1 H1,gC X.K P1 H1 (vw M1 d) v1->∃a vs,v1=.ref a/\(gn X.K H1 a vs\/gO X.K H1 a vs)/\aL X.K P1 H1 ds vs)->∀P1 v1 H1,LtE P H P1 H1->Hk X.K X.mg P1 H1 M1->gW X.K P1 H1 .bor d v1->
    ∃p ys,[v1]=[V.ref p]/\(gn X.K H1 p ys\/gO X.K H1 p ys)/\∀l,H1 l=none->Q (.ref l) (upd H1 l (.lst ys)):=by
   rintro ds rfl rfl hv P1 v1 H1 l1 h1 i1;obtain⟨ds',e',q⟩:=q;cases e';obtain⟨a,vs,rfl,sq,is⟩:=hv P1 v1 H1 (iB.vw h1 i1);refine⟨a,vs,rfl,sq,fun p hp=>?_⟩;obtain⟨l2,h2,nc⟩:=Gh (vs:=vs) h1 hp;exact q (P1.bar p) p vs _ (l1.trans l2) h2 (l1.sure p hp) (.inr rfl) nc gA (aL.lt (l2.lt h1) is)
  kj_one
  .rename_i ds ev;cases e;exact key ds rfl rfl fun P1 v1 H1 i=>by
    rw[ev]at i;obtain⟨a,vs,e,s,is⟩:=i;exact⟨a,vs,e,.inl s,is⟩
  .rename_i ds ev;cases e;exact key ds rfl rfl fun P1 v1 H1 i=>by
    rw[ev]at i;obtain⟨a,vs,e,s,is⟩:=i;exact⟨a,vs,e,.inr s,is⟩
  .cases e
 .o_norm
def Y9:∀env M r M',Av f env M=some (.v r,M')->∃ds,r=.lst ds:=fun env M r M' e=>by
 unfold Av at e;rcases gU e with⟨ds,M1,e1,e⟩ |⟨c,n,e1,e⟩
 .kj_one
  .cases e;exact⟨_,rfl⟩
  .cases e;exact⟨_,rfl⟩
  .cases e
 .cases e
end
def Jp (K:Fgx)(g:G):Sp:=fun vs H Q E=>∀mg,CT K mg 1 g vs H Q E
def zhq {P:Program}{w:World}{K:Fgx}{mg:Mgx}{base:Heap}{k:Nat}{f:Addr}{fd:FuncData}{ps:Lsx}{g:G}(F:FnOk P w K mg base pF k f fd ps (CT K mg 1 g)):FnOk P w K mg base pF k f fd ps (Jp K g):=
 ⟨fun vs H Q E h=>F.len vs H Q E (h mg),fun A outer s H args us vs Q E hr he hb hv hs=>F.run A outer s H args us vs Q E hr he hb hv (hs mg)⟩
theorem Yy {K:Fgx}{P:Pl}{H:Hp}:∀ns:Lix,aL K P H (ns.map D.int) (ns.map V.int)
 | []=>rfl
 |n::ns=>⟨.int n,_,rfl,rfl,Yy ns⟩
def zh7 {K:Fgx}{g:G}{H:Hp}{a:Addr}{ns:Lix}(hg:∃M,g [.lst (ns.map D.int)] []=some (.v (.bl true),M))(hS:gn K H a (ns.map V.int)):Jp K g [.ref a] H (fun v _=>v=.bl true) fun _ _ _=>False:=by
 intro mg;obtain⟨M,e⟩:=hg;refine⟨rfl,⟨fun _=>0,0,fun _=>False⟩,[],[.lst (ns.map D.int)],.bl true,M,⟨rfl,fun k c e=>(by cases e),fun j k h=>absurd h (xcn _),fun k h=>absurd h (xcn _),fun a z=>z.elim⟩,⟨.ref a,[],rfl,⟨a,ns.map V.int,rfl,?_,Yy ns⟩,rfl⟩,e,fun P' v H' _ _ i=>i⟩;rcases hS with h |h
 .exact .inl ⟨fun z=>z,h⟩
 .exact .inr h
def zgr {l:W.OpenLaw}{k:Nat}{q:Program}{loose:Lsx}{XP:(Mgx)->Heap->Prop}{YP:World->Heap->Prop}{d:DefRec}{K:Params->Fgx}{x:Str}{g:G}
  (hn:l.most=some 63) (hdf:d.params.defaults=[]) (hr:Room k callerA) (hY:∀(w:World) (h:Heap),YP w h->(K w.params).In h)
  (F:∀(w:World) (mg:Mgx) (fa:Addr) (h:Heap),(K w.params).In h->h.Ns mainGlobals mg->mg d.name=some (.ref fa)->
   ∃fd:FuncData,(∀(s:Shared) (u:Value),BindsTo s fd ⟨[u],[]⟩ [(x,u)])/\
    ∀base:Heap,(K w.params).In base->base.Ns mainGlobals mg->FnOk l.prog w (K w.params) mg base pF k fa fd [x] (Jp (K w.params) g))
  (hg:∀ns:Lix,ns.length<=63->∃M,g [.lst (ns.map D.int)] []=some (.v (.bl true),M)):W.WalkO q loose XP YP l.row.toRowW d [] (fun f vs=>PySem.call f vs):=
 L2.zeC (sp:=fun K=>Jp K g) hn (by decide) hdf hr hY F (fun K H a ns hl _ hS=>zh7 (hg ns hl) hS) fun _ _ _ _ z=>z
section
variable {X:Cx}{Wx:XW}{m:Mode}{e:Expr}
def q_ (h:PE X e (tC (.int i))):SE X Wx m e (aj (.int i)):=(Oc (d:=.int i) h fun _ _=>rfl).bor
def vm (h:PE X e (tC (.str z))):SE X Wx m e (aj (.str z)):=(Oc (d:=.str z) h fun _ _=>rfl).bor
def U_ (h:PE X e (tC (.bl b))):SE X Wx m e (aj (.bl b)):=(Oc (d:=.bl b) h fun _ _=>rfl).bor
def CK (hN:X.N[i]? =some x)(hv:X.env.scope.names.lookup x=some .local)(hd:(x==("__debug__":Str))=false:=by x_go)(hcd:(x==("__classdict__":Str))=false:=by x_go):SE X Wx m (.Name x pos) (ak i):=(ze0 hN (.inl hv) hd hcd).bor
def xT (hN:X.N[i]? =some x)(hv:X.env.scope.names.lookup x=some .local)(hd:(x==("__debug__":Str))=false:=by x_go)(hcd:(x==("__classdict__":Str))=false:=by x_go):SE X Wx .bor (.Name x pos) (tU i):=zgy hN (.inl hv) hd hcd
def SN.sem {f:E}(h:SN X Wx e f)(hf:∀env M r M',f env M=some (.v r,M')->∃ds,r=.lst ds):SE X Wx m e f:=(SN.se h hf).bor
end
noncomputable def putD (f:Str) (d:D):List (Str×D)->List (Str×D)
 | []=>[(f,d)]
 |(g,x)::r=>if g=f then(g,d)::r else(g,x)::putD f d r
section
variable {K:Fgx}{P:Pl}{H:Hp}
def yQ (K:Fgx)(P:Pl)(H:Hp)(fs:List (Str×D))(gs:List (Str×V)):Prop:=gs.map (·.1)=fs.map (·.1)/\aL K P H (fs.map (·.2)) (gs.map (·.2))
theorem Ye (i:Is K P H d v):∀{fs:List (Str×D)} {gs:List (Str×V)},yQ K P H fs gs->yQ K P H (putD f d fs) (fY f v gs)
 | [],[],_=>⟨rfl,v,[],rfl,i,rfl⟩
 | [],_::_,h=>by cases h.1
 |_::_,[],h=>by cases h.1
 |(g,x)::fs,(g',y)::gs,h=>by
  obtain⟨h1,v',r,e1,p,q⟩:=h;simp only[xai,xb7]at h1 e1;obtain⟨rfl,h1⟩:=h1;obtain⟨rfl,rfl⟩:=e1;unfold putD fY
  split
  .exact⟨by simp[h1],v,_,rfl,i,q⟩
  .obtain⟨a,b⟩:=Ye i (fs:=fs) (gs:=gs) ⟨h1,q⟩;exact⟨by simp[a],y,_,rfl,p,b⟩
def zjL (h:yQ K P H fs gs):gs.length=fs.length:=by
 have:=congrArg List.length h.1
 simpa using this
end
structure ClsOk (K:Fgx)(mg:Mgx)(c:Str)(C:Addr):Prop where
 mg:mg c=some (.ref C)
 cl:Cls K C
section
variable {X:Cx}{Wx:XW}{pos:Pos}
def Ii (M:Mm)(c:Str)(d:D):Option (Nat×List (Str×D)):=match d with
 |.ref k=>(match M[k]? with
  |some (.obj c' fs)=>if c'=c then some (k,fs) else none
  |_=>none)
 |_=>none
def zcR (h:Ii M c d=some (k,fs)):d=.ref k/\M[k]? =some (.obj c fs):=by
 unfold Ii at h;kjx_on
 .kjx_on
  .kjx_on
   .rename_i e1 e2;cases h;subst e2;exact⟨rfl,e1⟩
   .cases h
  .cases h
 .cases h
def Ep (c f:Str)(o v:E):S:=fun env M=>fK (v env M) fun y M1=>fK (o env M1) fun d M2=>match Ii M2 c d with
 |some (k,fs)=>if fs.length<1000 then some (.nx env,M2.set k (.obj c (putD f y fs))) else none
 |none=>none
def zfy {K:Fgx}{mg:Mgx}{P:Pl}{H:Hp}{M:Mm}{j:Nat}{c f:Str}{fs:List (Str×D)}{y:D}{v:V}{C dx:Addr}{gs:List (Str×V)}(h:Hk K mg P H M)(em:M[j]? =some (.obj c fs))(ec:mg c=some (.ref C))(eh:H (P.io j)=some (.ins C dx gs))(fo:yQ K P H fs gs)(iv:Is K P H y v):
  Lt P H P (upd H (P.io j) (.ins C dx (fY f v gs)))/\LtE P H P (upd H (P.io j) (.ins C dx (fY f v gs)))/\Hk K mg P (upd H (P.io j) (.ins C dx (fY f v gs))) (M.set j (.obj c (putD f y fs))):=by
 have jl:j<P.n:=by rw[h.n];exact(xao.mp em).1
 have lc:Lt P H P (upd H (P.io j) (.ins C dx (fY f v gs))):=Ah (h.bd j jl) eh zhG;have fp:=Ye (f:=f) iv fo;exact h.set (c':=.obj c (putD f y fs)) (o':=.ins C dx (fY f v gs)) em ⟨C,dx,fY f v gs,ec,gA,fp.1,aL.lt lc fp.2⟩
def zc6 {c f:Str}{C:Addr}{o e:Expr}{fo fv:E}{pos':Pos}(hc:ClsOk X.K X.mg c C)(hn:Bh X.K C f)(ho:SE X Wx .val o fo)(he:SE X Wx .val e fv)(hs:swapsWith e (some (.Attribute o f pos')) pos.line X.env=pure false:=by rfl):SS X Wx (.Assign [.Attribute o f pos'] e pos) (Ep c f fo fv):=by
 refine nj (zhP ho he hs) ?_;by_in;unfold Ep at e;rcases lW e with⟨y,M1,e1,e⟩ |⟨c,n,e1,rfl⟩
 .kj_on;have k1:=k.next l1 h1
  rcases lW e with⟨d,M2,e2,e⟩ |⟨c,n,e2,rfl⟩
  .kj_one
   .rename_i j fs eo;kj_one
    .rename_i hl;cases e;obtain⟨rfl,em⟩:=zcR eo;kri_at;obtain⟨jl,rfl⟩:j<P2.n/\v2=.ref (P2.io j):=i2;obtain⟨C',dx,gs,ec,eh,en,is⟩:=h2.cell j _ em;have eC:C'=C:=by
      have:=ec.symm.trans hc.mg;cases this;rfl
     subst eC;obtain⟨l3,l3e,h3⟩:=zfy (f:=f) h2 em ec eh ⟨en,is⟩ (Is.lt (l2.lt h1) i1);exact⟨_,C',dx,gs,rfl,eh,hc.cl,hn,by rw[zjL ⟨en,is⟩];exact hl,q _ _ _ _ ((l1.lt k.hk).trans ((l2.lt h1).trans l3)) ((k1.next l2 h2).next l3e h3)⟩
    .cases e
   .cases e
  .exact eE k1 e2 q
 .o_norm
end
section
variable {X:Cx}{Wx:XW}{m:Mode}{pos:Pos}
def zeE {K:Fgx}{mg:Mgx}{P:Pl}{H H':Hp}{M:Mm}{a:Addr}{c:Cl}(h:Hk K mg P H M)(s:Same H H')(ha:H a=none)(ea:H' a≠none)(hc:∀P',P'.n=P.n+1->P'.io P.n=a->LtE P H P' H'->xZ K mg P' H' a c):∃P',P'.n=P.n+1/\P'.io P.n=a/\LtE P H P' H'/\Hk K mg P' H' (M++[c]):=by
 let P2:Pl:={io:=fun j=>if j=P.n then a else P.io j,n:=P.n+1,bd:=fun b=>P.bd b\/b=a}
 have io:∀j,j<P.n->P2.io j=P.io j:=fun j hj=>xac (by lia);have ioN:P2.io P.n=a:=xaa rfl;have nc:∀j,j<P.n->P.io j≠a:=fun j hj z=>h.here _ (h.bd j hj) (z ▸ ha);have l:LtE P H P2 H':=⟨xcz _,io,fun b z=>xdX (fun q=>q) (fun(q:b=a)=>by rw[q];exact ha) z,fun _ z=>.inl z,fun b o e _=>s b o e,fun b z=>s.free z,fun j h2 h3=>by
  have:j=P.n:=xa7 (xa3 h3) h2;rw[this,ioN];exact ha⟩
 refine⟨P2,rfl,ioN,l,⟨by rw[xaf, <-h.n];rfl,fun j d ej=>?_,fun i j hi hj e=>?_,fun j hj=>?_,fun b z=>?_⟩⟩
 .rcases xa2 j P.n with z |z
  .rw[xa5 (by rw[<-h.n];exact z)]at ej;rw[io j z];exact(h.cell j d ej).lt (l.lt h) fun o eo=>s _ _ eo
  .have jl:=(xao.mp ej).1;rw[xaf,xaC, <-h.n]at jl;have:j=P.n:=by lia
   subst this;rw[xaW (by rw[h.n];exact xag _),h.n,xb3]at ej;cases ej;rw[ioN];exact hc P2 rfl ioN l
 .rcases xa2 i P.n with z |z
  .rcases xa2 j P.n with y |y
   .rw[io i z,io j y]at e;exact h.inj i j z y e
   .have:j=P.n:=xa7 (xa3 hj) y;rw[io i z,this,ioN]at e;exact absurd e (nc i z)
  .have iN:i=P.n:=xa7 (xa3 hi) z;rcases xa2 j P.n with y |y
   .rw[iN,ioN,io j y]at e;exact absurd e.symm (nc j y)
   .rw[iN];exact xa7 y (xa3 hj)
 .rcases xa2 j P.n with z |z
  .rw[io j z];exact .inl (h.bd j z)
  .have:j=P.n:=xa7 (xa3 hj) z;rw[this,ioN];exact .inr rfl
 .rcases z with z |z
  .exact fun q=>h.here b z (s.free q)
  .rw[z];exact ea
def wH (P:Program)(w:World)(K:Fgx)(mg:Mgx)(base:Heap)(k:Nat)(C:Addr)(n:Nat)(g:G):Prop:=
 ∃f fd ps,Mk K C f/\FnOk P w K mg base pF k f fd ps (CT K mg n g)/\Binds K fd ps []
def Eo (c:Str)(g:G)(fs:EA):E:=fun env M=>nR (fs env M) fun ds M1=>match g (.ref M1.length::ds) (M1++[.obj c []]) with
 |some (.v .non,M2)=>some (.v (.ref M1.length),M2)
 |_=>none
def zde {c:Str}{C:Addr}{k n:Nat}{g:G}{e:Expr}{es:Lex}{fs:EA}{p:Pos}(hc:ClsOk X.K X.mg c C)(a:wH X.prog X.w X.K X.mg X.base k C (n+1) g)(hr:Room (k+1) X.A)(hg:Gl X c)(ha:SA X Wx .val (e::es) fs)(hn:yO n fs)(hdb:(c==("__debug__":Str))=false:=by x_go)
  (he:starEach (e::es) X.env=(false,eval e X.env)::starEach es X.env:=by rfl) (hpl:(backTo pos (starEach es X.env)).any (·.1)=false:=by rfl):SE X Wx m (.Call (.Name c p) (e::es) [] pos) (Eo c g fs):=by
 obtain⟨f,fd,ps,mk,F,hb⟩:=a;refine gJ (zgf mk F hr hg hc.mg hb .nil zjP ha hdb he hpl) ?_;k_go;unfold Eo at e;rcases zZ e with⟨ds,M1,e1,e⟩ |⟨c,n,e1,rfl⟩
 .kj_one
  .rename_i M2 eg;cases e;refine⟨P0,H0,P,Os,env,M,_,_,k,e1,fun P1 vs H1 l1 h1 i1=>fun x dx hx hdx ne=>?_⟩;have s2:Same H1 (upd (upd H1 dx (.own x)) x (.ins C dx [])):=fun b o eb=>by
    rw[eN (lu eb hx),eN (lu eb hdx)];exact eb
   obtain⟨P2,n2,io2,l2,h2⟩:=zeE (c:=.obj c []) h1 s2 hx (by rw[gA];exact fun z=>nomatch z) fun P' _ _ _=>⟨C,dx,[],hc.mg,gA,rfl,rfl⟩
   have el:P1.n=M1.length:=h1.n;have iref:Is X.K P2 (upd (upd H1 dx (.own x)) x (.ins C dx [])) (.ref M1.length) (.ref x):=⟨by rw[n2,el];exact xbH _,by rw[<-el,io2]⟩;refine⟨by rw[xaA,xae,i1.len,hn _ _ _ _ e1],P2,M1++[.obj c []],.ref M1.length::ds,.non,_,h2,⟨_,_,rfl,iref,by rw[xaA];exact aL.lt (l2.lt h1) i1.iss⟩,eg,fun P3 v H3 l3 h3 i3=>⟨i3,?_⟩⟩;refine q P3 _ H3 (l1.trans (l2.trans l3)) h3 (gW.of h3 (Is.lt (l3.lt h2) iref))
  .cases e
 .k_one
end
end E3
namespace E3
open L2 PySem.W
section
variable {n:Nat}{lt:Nat->Nat->Option Bool}(hn:0<n)(tot:∀i j,i<n->j<n->∃b,lt i j=some b)
include hn tot
end
end E3
namespace E3
open PySem L2
section
variable {env:Env}{M M1:Mm}{f g c:E}{d e:D}{i j:Int}{n k:Nat}{z:Str}{b:Bool}{ds es:List D}{s t:S}{x:Str}
def zU (g:S):OS->OS
 |some (.nx e,M1)=>g e M1
 |o=>o
theorem IK:ao s t env M=zU t (s env M):=rfl
theorem Uz {e:Env}:zU t (some (.nx e,M))=t e M:=rfl
theorem UG:zU t (some (.rt d,M))=some (.rt d,M):=rfl
theorem Uu {a:Int}:zU t (some (.ex x a,M))=some (.ex x a,M):=rfl
theorem zlq:aC env M=some (.nx env,M):=rfl
def JL (M:Mm):Option Slot->O
 |some (.val d)=>some (.v d,M)
 |_=>none
def JK (M:Mm):Option Slot->O
 |some (.val d)=>some (.v d,M)
 |some (.own ds)=>some (.v (.lst ds),M)
 |_=>none
theorem Uh:ak k env M=JL M env[k]? :=rfl
theorem Ui:tU k env M=JK M env[k]? :=rfl
theorem UJ:JL M (some (.val d))=some (.v d,M):=rfl
theorem UL:JK M (some (.own ds))=some (.v (.lst ds),M):=rfl
theorem zkB:aj d env M=some (.v d,M):=rfl
def mapR (M:Mm)(o:Option D):O:=o.map fun z=>(.v z,M)
theorem zlY:mapR M (some d)=some (.v d,M):=rfl
def Cg (o:D->Option D)(r:O):O:=bnd r fun d M=>mapR M (o (vw M d))
theorem q_1 {o:D->Option D}:s1 o f env M=Cg o (f env M):=rfl
theorem r_1 {o:D->Option D}:Cg o (some (.v d,M))=mapR M (o (vw M d)):=rfl
def C_ (o:D->D->Option D)(d:D)(r:O):O:=bnd r fun e M=>mapR M (o (vw M d) (vw M e))
def JF (o:D->D->Option D)(k:Mm->O)(r:O):O:=bnd r fun d M=>C_ o d (k M)
theorem q_2 {o:D->D->Option D}:s2 o f g env M=JF o (g env) (f env M):=rfl
theorem r_2 {o:D->D->Option D}{q:Mm->O}:JF o q (some (.v d,M))=C_ o d (q M):=rfl
theorem Us {o:D->D->Option D}:C_ o d (some (.v e,M))=mapR M (o (vw M d) (vw M e)):=rfl
theorem zhR:vw M (.int i)=.int i:=rfl
theorem zl5:vw M (.str z)=.str z:=rfl
theorem Wg:vw M (.bl b)=.bl b:=rfl
theorem zkv:vw M (.tup ds)=.tup ds:=rfl
theorem zg7:vw M (.lst ds)=.lst ds:=rfl
theorem zjY:gF f env M=Cg (fun d=>(vp d).map .bl) (f env M):=rfl
def Ie (r:O):O:=bnd r fun d M=>match d with
 |.bl b=>some (.v (.bl (!b)),M)
 |_=>none
theorem zlM:kh f env M=Ie (f env M):=rfl
theorem zlH:Ie (some (.v (.bl b),M))=some (.v (.bl (!b)),M):=rfl
def zm (k1 k2:Mm->O)(r:O):O:=bnd r fun d M=>match d with
 |.bl b=>if b=true then k1 M else k2 M
 |_=>none
theorem zk2:fG f g env M=zm (g env) (fun M=>some (.v (.bl false),M)) (f env M):=rfl
theorem Ud:lG f g env M=zm (fun M=>some (.v (.bl true),M)) (g env) (f env M):=rfl
theorem zky:zN c f g env M=zm (f env) (g env) (c env M):=rfl
theorem zk1 {k1 k2:Mm->O}:zm k1 k2 (some (.v (.bl b),M))=if b=true then k1 M else k2 M:=rfl
def Bq (d:D):Option (ResA×Mm)->Option (ResA×Mm)
 |some (.v ds,M2)=>some (.v (d::ds),M2)
 |some (.x c n,M2)=>some (.x c n,M2)
 |none=>none
def Xk (k:Mm->Option (ResA×Mm)):O->Option (ResA×Mm)
 |some (.v d,M1)=>Bq d (k M1)
 |some (.x c n,M1)=>some (.x c n,M1)
 |none=>none
theorem zma:aq env M=some (.v [],M):=rfl
theorem zif {fs:EA}:au f fs env M=Xk (fs env) (f env M):=rfl
theorem zie {q:Mm->Option (ResA×Mm)}:Xk q (some (.v d,M))=Bq d (q M):=rfl
theorem zib:Bq d (some (.v ds,M))=some (.v (d::ds),M):=rfl
def yS (o:List D->Option D)(r:Option (ResA×Mm)):O:=nR r fun ds M=>mapR M (o (ds.map (vw M)))
theorem q_n {o:List D->Option D}{fs:EA}:sN o fs env M=yS o (fs env M):=rfl
theorem r_n {o:List D->Option D}:yS o (some (.v ds,M))=mapR M (o (ds.map (vw M))):=rfl
def yR (k:List D->Mm->O):Option (ResA×Mm)->O
 |some (.v ds,M)=>k ds M
 |some (.x c n,M)=>some (.x c n,M)
 |none=>none
theorem ziP {q:List D->Mm->O}:yR q (some (.v ds,M))=q ds M:=rfl
theorem zjT {fs:EA}:aU fs env M=yR (fun ds M1=>if ds.length<=sizeLine then some (.v (.tup ds),M1) else none) (fs env M):=rfl
theorem zlc {fs:EA}:aX fs env M=yR (fun ds M1=>if ds.length<=sizeLine then some (.v (.lst ds),M1) else none) (fs env M):=rfl
def W2:O->O
 |some (.v d,M)=>some (.v d,M)
 |_=>none
theorem zgb:W2 (some (.v d,M))=some (.v d,M):=rfl
theorem zhe {u:G}{fs:EA}:eX u fs env M=yR (fun ds M1=>W2 (u ds M1)) (fs env M):=rfl
def mz (k:D->Mm->O):O->O
 |some (.v d,M)=>k d M
 |some (.x c n,M)=>some (.x c n,M)
 |none=>none
theorem Ut {q:D->Mm->O}:mz q (some (.v d,M))=q d M:=rfl
def W_ (M:Mm):D->O
 |.lst ds=>some (.v (.ref M.length),M++[.lst ds])
 |_=>none
theorem zfM:W_ M (.lst ds)=some (.v (.ref M.length),M++[.lst ds]):=rfl
theorem zi3:vg f env M=mz (fun d M1=>W_ M1 d) (f env M):=rfl
def R7 (M:Mm):D->O
 |.lst ds=>some (.v (.lst ds),M)
 |.tup ds=>some (.v (.lst ds),M)
 |_=>none
theorem zgF:R7 M (.lst ds)=some (.v (.lst ds),M):=rfl
theorem zhy:Av f env M=mz (fun d M1=>R7 M1 (vw M1 d)) (f env M):=rfl
def Ve (d:D)(lo:Oix):Option (Oix×Mm)->O
 |some (hi,M3)=>mapR M3 (Ez (vw M3 d) lo hi)
 |none=>none
def slL (d:D)(k:Mm->Option (Oix×Mm)):Option (Oix×Mm)->O
 |some (lo,M2)=>Ve d lo (k M2)
 |none=>none
theorem Ug {l u:Env->Mm->Option (Oix×Mm)}:kO f l u env M=mz (fun d M1=>slL d (u env) (l env M1)) (f env M):=rfl
theorem zkz {lo:Oix}{q:Mm->Option (Oix×Mm)}:slL d q (some (lo,M))=Ve d lo (q M):=rfl
theorem zlU {lo hi:Oix}:Ve d lo (some (hi,M))=mapR M (Ez (vw M d) lo hi):=rfl
theorem zka:lY env M=some (none,M):=rfl
def Ik:O->Option (Oix×Mm)
 |some (.v (.int i),M)=>some (some i,M)
 |_=>none
theorem zlW:g8 f env M=Ik (f env M):=rfl
theorem zj8:Ik (some (.v (.int i),M))=some (some i,M):=rfl
def j4 (k:D->Mm->OS):O->OS
 |some (.v d,M)=>k d M
 |some (.x c n,M)=>some (.ex c n,M)
 |none=>none
theorem zg3 {q:D->Mm->OS}:j4 q (some (.v d,M))=q d M:=rfl
theorem zhr:aH k f env M=j4 (fun d M1=>if k<env.length then some (.nx (env.set k (.val d)),M1) else none) (f env M):=rfl
def Zn (k:Nat)(env:Env)(M:Mm):D->OS
 |.lst ds=>if k<env.length then some (.nx (env.set k (.own ds)),M) else none
 |_=>none
theorem zhK:Zn k env M (.lst ds)=if k<env.length then some (.nx (env.set k (.own ds)),M) else none:=rfl
theorem zjz:uc k f env M=j4 (fun d M1=>Zn k env M1 d) (f env M):=rfl
theorem zlK:aM f env M=j4 (fun d M1=>some (.rt d,M1)) (f env M):=rfl
theorem zhS:yC f env M=j4 (fun _ M1=>some (.nx env,M1)) (f env M):=rfl
def Yp (s t:Mm->OS)(M:Mm):D->OS
 |.bl b=>if b=true then s M else t M
 |_=>none
theorem Uv {q r:Mm->OS}:Yp q r M (.bl b)=if b=true then q M else r M:=rfl
theorem Ub:eV c s t env M=j4 (fun d M1=>Yp (s env) (t env) M1 d) (c env M):=rfl
def Gy (k:Nat)(env:Env)(M:Mm):Option Slot->OS
 |some (.own ds)=>some (.nx (env.set k (.val (.lst ds))),M)
 |_=>none
theorem zl9:lV k env M=Gy k env M env[k]? :=rfl
theorem zkt:Gy k env M (some (.own ds))=some (.nx (env.set k (.val (.lst ds))),M):=rfl
def Ga (k:Nat)(env:Env)(o:O):Option Slot->OS
 |some (.own ds)=>j4 (fun d M1=>if ds.length<sizeLine then some (.nx (env.set k (.own (ds++[d]))),M1) else none) o
 |_=>none
theorem zkp:gw k f env M=Ga k env (f env M) env[k]? :=rfl
theorem zlD {o:O}:Ga k env o (some (.own ds))=j4 (fun d M1=>if ds.length<sizeLine then some (.nx (env.set k (.own (ds++[d]))),M1) else none) o:=rfl
def forR (k:Nat)(t:S)(env:Env):Option (ResA×Mm)->OS
 |some (.v ds,M1)=>loopS k t ds env M1
 |some (.x c n,M1)=>some (.ex c n,M1)
 |none=>none
theorem zk7 {fs:EA}:n6 k fs t env M=forR k t env (fs env M):=rfl
theorem zj9:forR k t env (some (.v ds,M))=loopS k t ds env M:=rfl
def HF:O->Option (ResA×Mm)
 |some (.v (.lst ds),M1)=>some (.v ds,M1)
 |some (.x c n,M1)=>some (.x c n,M1)
 |_=>none
theorem zgP:ni f env M=HF (f env M):=rfl
theorem ziM:HF (some (.v (.lst ds),M))=some (.v ds,M):=rfl
def zi6:Option (ResA×Mm)->Option (ResA×Mm)
 |some (.v [.int j],M1)=>if -1000000000<=j/\j<=1000000000 then some (.v ((List.range j.toNat).map fun(k:Nat)=>.int (0+k)),M1) else none
 |some (.x c n,M1)=>some (.x c n,M1)
 |_=>none
theorem zjN {fs:EA}:xg fs env M=zi6 (fs env M):=rfl
def Cz (h: -1000000000<=i/\i<=1000000000):zi6 (some (.v [.int i],M))=some (.v ((List.range i.toNat).map fun(k:Nat)=>.int (0+k)),M):=xaa h
theorem Ua {m:Nat}{t:S}:fJ m t ds M=lD (t (ds.map .val++List.replicate (m-ds.length) .un) M):=rfl
theorem zjB:lD (some (.rt d,M))=some (.v d,M):=rfl
theorem zhQ {e:Env}:lD (some (.nx e,M))=some (.v .non,M):=rfl
theorem zg5:aN (.int i) (.int j)=some (.int (i+j)):=rfl
theorem zhw:aN (.lst ds) (.lst es)=if ds.length+es.length<=sizeLine then some (.lst (ds++es)) else none:=rfl
theorem zlT:gZ (.int i) (.int j)=some (.int (i-j)):=rfl
theorem zlz:fP (.int i) (.int j)=if i.natAbs<18446744073709551616\/j.natAbs<18446744073709551616\/(i.natAbs.log2<10000/\j.natAbs.log2<10000) then some (.int (i*j)) else none:=rfl
theorem zhC:j_ (.int i) (.int j)=if 0<j/\j.natAbs<1073741824 then some (.int (i/j)) else none:=rfl
theorem zlR:oMod (.int i) (.int j)=if 0<j then some (.int (i%j)) else none:=rfl
theorem zko:nZ (.int i) (.int j)=if 0<=j/\j.natAbs<=1000000/\i.natAbs<18446744073709551616 then some (.int (i^j.toNat)) else none:=rfl
theorem zkR:xJ (.int i)=some (.int (-i)):=rfl
theorem Tw:aF .lt (.int i) (.int j)=some (.bl (decide (i<j))):=rfl
theorem Tv:aF .le (.int i) (.int j)=some (.bl (decide (i<=j))):=rfl
theorem Tt:aF .gt (.int i) (.int j)=some (.bl (decide (j<i))):=rfl
theorem Tr:aF .ge (.int i) (.int j)=some (.bl (decide (j<=i))):=rfl
def zj4:aF .eq (.int i) (.int j)=some (.bl (decide (i=j))):=by
 show(yV _ _).map D.bl=_
 simp[yV,lQ,D.flat,D.dep,D.eq]
 rw[xaP];simp
def zkO:aF .ne (.int i) (.int j)=some (.bl (!decide (i=j))):=by
 show(wQ _ _).map D.bl=_
 simp[wQ,lQ,D.flat,D.dep,D.eq]
 rw[xaP];simp
theorem Mf (h:D.deps ds<=49):aF .eq (.lst ds) (.lst [])=some (.bl ds.isEmpty):=by
 show(yV _ _).map D.bl=_;unfold yV;rw[xaa ⟨by simp[lQ,D.flat,D.dep,D.deps],by show D.deps ds+1<=50;lia⟩];cases ds<;>rfl
theorem ziB (h:D.deps ds<=49):aF .ne (.lst ds) (.lst [])=some (.bl (!ds.isEmpty)):=by
 show(wQ _ _).map D.bl=_;unfold wQ;rw[xaa ⟨by simp[lQ,D.flat,D.dep,D.deps],by show D.deps ds+1<=50;lia⟩];cases ds<;>rfl
theorem Mg (h:d.dep<=50):aF .ne d d=some (.bl false):=by
 show(wQ d d).map D.bl=_;unfold wQ;rw[xaa ⟨by simp[lQ,h],h⟩,D.eq_refl];rfl
theorem zj1:aO (.lst ds) (.int i)=aV ds i:=rfl
theorem zkh:aO (.tup ds) (.int i)=aV ds i:=rfl
theorem zhB:eO [.lst ds]=some (.int ds.length):=rfl
theorem zg1:eO [.tup ds]=some (.int ds.length):=rfl
theorem zkL:wN [.int i,.int j]=some (.int (if j<i then j else i)):=rfl
theorem zij:vp (.lst ds)=some (!ds.isEmpty):=rfl
theorem zgZ:vp (.bl b)=some b:=rfl
theorem zlh {lo hi:Oix}:Ez (.str z) lo hi=if z.length<=sizeLine then some (.str (Txt.slice z lo hi)) else none:=rfl
theorem zjS {lo hi:Oix}:Ez (.lst ds) lo hi=some (.lst (fW ds lo hi)):=rfl
end
def Step (J:Env->Mm->Prop)(Q:OS->Prop):OS->Prop
 |some (.nx e,M)=>J e M
 |some (.ct e,M)=>J e M
 |some (.bk e,M)=>Q (some (.nx e,M))
 |some (.rt d,M)=>Q (some (.rt d,M))
 |some (.ex c n,M)=>Q (some (.ex c n,M))
 |none=>False
def Hz {i:Nat}{body:S}{ds:List D}{env:Env}{M:Mm}(Q:OS->Prop)(J:Nat->Env->Mm->Prop)(h0:J 0 env M)
  (hs:∀(k:Nat) d env M,ds[k]? =some d->J k env M->i<env.length/\Step (J (k+1)) Q (body (env.set i (.val d)) M)) (hd:∀env M,J ds.length env M->Q (some (.nx env,M))):Q (loopS i body ds env M):=by
 have key:∀(m k:Nat) (env:Env) (M:Mm),m+k=ds.length->J k env M->Q (loopS i body (ds.drop k) env M):=by
  intro m
  induction m with
  |zero=>
   intro k env M hk hJ;have e:k=ds.length:=by lia
   subst e;rw[xcf];exact hd env M hJ
  |succ m ih=>
   intro k env M hk hJ;have hlt:k<ds.length:=by lia
   obtain⟨hi,h1⟩:=hs k ds[k] env M (xaj hlt) hJ;rw[xbi hlt];simp only[loopS,hi,xa8]
   cases e:body (env.set i (.val ds[k])) M with
   |none=>rw[e]at h1;exact h1.elim
   |some o=>
    rw[e]at h1;obtain⟨o,M'⟩:=o
    cases o with
    |nx e'=>exact ih (k+1) e' M' (by lia) h1
    |ct e'=>exact ih (k+1) e' M' (by lia) h1
    |bk e'=>exact h1
    |rt d=>exact h1
    |ex c n=>exact h1
 have:=key ds.length 0 env M (by lia) h0
 rwa [xdZ]at this
end E3
namespace E3
open L2
def XN (H:Hp)(n:Int):Option Addr->Prop
 |none=>n=0
 |some d=>∃fs,H d=some (.xd fs)/\fs.lookup ("at":Str)=some (.int (n-1))/\n≠0
def XQ (K:Fgx)(mg:Mgx)(P:Pl)(H:Hp)(M':Mm)(Q:VK)(E:XK):Res->Prop
 |.v d=>∀P' v H',LtE P H P' H'->Hk K mg P' H' M'->Is K P' H' d v->Q v H'
 |.x c n=>∀P' H' C dx,LtE P H P' H'->Hk K mg P' H' M'->mg c=some (.ref C)->XN H' n dx->E (.ref C) dx H'
def Vi (K:Fgx)(mg:Mgx)(n:Nat)(g:G):Sp:=fun vs H Q E=>vs.length=n/\∃P M ds r M',Hk K mg P H M/\aL K P H ds vs/\g ds M=some (r,M')/\XQ K mg P H M' Q E r
def aL.away {K:Fgx}{P:Pl}{H H':Hp}(s:∀b o,H b=some o->(∀g,o≠ .ext g)->H' b=some o){ds:List D}{vs:List V}(h:aL K P H ds vs):aL K P H' ds vs:=
 aL.rd (fun _ _=>xdX (fun q=>s _ _ q fun _ z=>nomatch z) fun⟨o,q⟩=>⟨o,s _ _ q fun _ z=>nomatch z⟩) (fun _ _=>xdX (fun q=>s _ _ q fun _ z=>nomatch z) fun⟨o,q⟩=>⟨o,s _ _ q fun _ z=>nomatch z⟩) h
theorem Hk.away {K:Fgx}{mg:Mgx}{P:Pl}{H H':Hp}{M:Mm}(h:Hk K mg P H M)(s:∀b o,H b=some o->(∀g,o≠ .ext g)->H' b=some o)(t:∀b,H' b=none->H b=none):Hk K mg P H' M:=by
 refine⟨h.n,fun k c e=>?_,h.inj,h.bd,fun a z q=>h.here a z (t a q)⟩;exact(h.cell k c e).up (fun o e n=>s _ _ e n) (fun b o u e=>s b _ e fun _ z=>nomatch z) fun _ _ q=>aL.away s q
structure XFit (X:Cx)(Wx:XW):Prop where
 xr:∀pins Z H s a C dx c n P0 H0 P M,Inv X pins Z H s->H a=some (xo a C dx true)->¬ P.bd a->H0 a=none->LtE P0 H0 P H->Hk X.K X.mg P H M->X.mg c=some (.ref C)->XN H n dx->Wx P0 H0 M c n->X.xe (.ref a) s
section
variable {X:Cx}{Wx:XW}{pos:Pos}
def zO (c:Str)(f:E):S:=fun env M=>fK (f env M) fun _ M1=>some (.ex c 0,M1)
def Vl (F:XFit X Wx)(hc:X.calm=true)(m:X.mg c=some (.ref C))(q1:eU X.K C=true)(q2:JN X.K C=true)(kp:W.keepIn X.K (.ref C)=true)(hg:Gl X c)(he:SE X Wx .val e f)(hdb:(c==("__debug__":Str))=false:=by x_go)
  (hs:starEach [e] X.env=[(false,eval e X.env)]:=by rfl):SS X Wx (.Raise (some (.Call (.Name c p) [e] [] q)) none pos) (zO c f):=by
 refine nj (zb4 (W:=fun a C' dx H=>dx=none/\C'=C/\∃P0 H0 P M,¬ P.bd a/\H0 a=none/\LtE P0 H0 P H/\Hk X.K X.mg P H M/\Wx P0 H0 M c 0) (zdR q1 q2 kp hg m he hdb hs) hc fun pins Z H s a C' dx I ea ⟨e1,e2,P0,H0,P,M,b,n,l,h,w⟩=>?_) ?_
 .subst e1 e2;exact F.xr pins Z H s a _ none c 0 P0 H0 P M I ea b n l h m rfl w
 .by_in;unfold zO at e;sr_in
  .cases e;refine⟨P0,H0,P,Os,env,M,_,_,k,e1,fun P1 v H1 l1 h1 i1=>⟨rfl,fun a ha=>⟨a,C,none,rfl,gA,q1,rfl,rfl,P0,H0,P1,_,h1.new a ha,?_,?_,?_,q⟩⟩⟩
   .exact k.base.sure a (l1.sure a ha)
   .exact k.base.trans (l1.trans (LtE.same (zQ ha)))
   .exact h1.same (zQ ha)
  .k_one
abbrev yq (P:Program)(w:World)(K:Fgx)(mg:Mgx)(base:Heap)(N:Lsx)(qual:Str)(st:Stmt)(f:Addr)(cdv:Value)(A:Around)(outer:List PySem.Env)(s:Shared)(H:Hp)(E:XK):Cx:=lC (ud P w) P w K mg base N qual (b_ st) f cdv A outer s H E
end
section
variable {P:Program}{w:World}{K:Fgx}{mg:Mgx}{base:Heap}{k:Nat}{x:Str}{f:Addr}{fd:FuncData}{ps:Lsx}
def zcr (F:FnOk P w K mg base (ud P w) k f fd ps sp):FnOk P w K mg base pF k f fd ps (fun vs H Q _=>sp vs H Q E0):=
 ⟨fun vs H Q E h=>F.len vs H Q E0 h,fun A outer s H args us vs Q E hr he hb hv hs=>xcv (F.run A outer s H args us vs Q E0 hr he hb hv hs) fun r s' z=>by
  cases r with
  |error e=>obtain⟨_,_,_,_,_,_,_,_,_,_,_,_,_,_,z⟩:=z;exact z
  |ok fl=>cases fl<;>exact z⟩
def zcD (F:FnOk P w K mg base (ud P w) k f fd ps (Vi K mg n g)):FnOk P w K mg base pF k f fd ps (CT K mg n g):=by
 have F0:=zcr F;refine⟨fun vs H Q E h=>F0.len vs H Q E ?_,fun A outer s H args us vs Q E hr he hb hv hs=>F0.run A outer s H args us vs Q E hr he hb hv ?_⟩
 .obtain⟨hl,P,M,ds,d,M',hk,is,e,q⟩:=h;exact⟨hl,P,M,ds,.v d,M',hk,is,e,q⟩
 .obtain⟨hl,P,M,ds,d,M',hk,is,e,q⟩:=hs;exact⟨hl,P,M,ds,.v d,M',hk,is,e,q⟩
def nM (P:Program)(w:World)(K:Fgx)(mg:Mgx)(base:Heap)(k:Nat)(f:Str)(n:Nat)(g:G):Prop:=
 ∃fa fd ps,mg f=some (.ref fa)/\W.keepIn K (.ref fa)=true/\FnOk P w K mg base (ud P w) k fa fd ps (Vi K mg n g)/\Binds K fd ps []
def nM.quiet (a:nM P w K mg base k x n g):aR P w K mg base k x n g:=by
 obtain⟨fa,fd,ps,h1,h2,h3,h4⟩:=a;exact⟨fa,fd,ps,[],[],_,h1,h2,zcD h3,h4,.nil,fun vs H Q E h=>by rw[xaA];exact h⟩
theorem nM.mono (a:nM P w K mg base j x n g)(h:j<=k):nM P w K mg base k x n g:=by
 obtain⟨f,fd,ps,h1,h2,h3,h4⟩:=a;exact⟨f,fd,ps,h1,h2,h3.mono h,h4⟩
end
end E3
namespace L2
section
variable {e:Expr}
def Pa (CX:sJ)(X:Cx)(Ex:St->XK):Prop:=∀pins Z H s e s',Inv X pins Z H s->CX X.stack H s (Ex Z) e s'->X.xe e s'
end
end L2
namespace E3
open L2
section
variable {X:Cx}{pos:Pos}
def SX (X:Cx)(e:Expr)(f:E):Prop:=∀Ex:L2.St->XK,Pa (ud X.prog X.w) X Ex->PE X e fun st H Q=>∃P0 H0 P Os env M r M',Ok X.K X.mg P0 H0 P Os H M st env/\f env M=some (r,M')/\XQ X.K X.mg P H M' Q (Ex st) r
def XQ.lt {K:Fgx}{mg:Mgx}{P P1:Pl}{H H1:Hp}{M':Mm}{Q:VK}{E:XK}{r:Res}(l:LtE P H P1 H1)(q:XQ K mg P H M' Q E r):XQ K mg P1 H1 M' Q E r:=by
 cases r with
 |v d=>exact fun P' v H' l' h i=>q P' v H' (l.trans l') h i
 |x c n=>exact fun P' H' C dx l' h m xn=>q P' H' C dx (l.trans l') h m xn
def zK (g:G)(fs:EA):E:=fun env M=>match fs env M with
 |some (.v ds,M1)=>g ds M1
 |_=>none
def Fd (a:nM X.prog X.w X.K X.mg X.base k f n g)(hr:Room k X.A)(hg:Gl X f)(ha:SA X W0 .val (e::es) fs)(hn:yO n fs)(hdb:(f==("__debug__":Str))=false:=by x_go)
  (he:starEach (e::es) X.env=(false,eval e X.env)::starEach es X.env:=by rfl) (hpl:(backTo pos (starEach es X.env)).any (·.1)=false:=by rfl):SX X (.Call (.Name f p) (e::es) [] pos) (zK g fs):=by
 obtain⟨fa,fd,ps,hm,hk,F,hb⟩:=a;intro Ex hx;refine gJ (zd5 F hr hg hm hk hb .nil hx ha hdb he hpl) ?_;k_go;unfold zK at e;kj_one
 .rename_i ds M1 e1;exact⟨P0,H0,P,Os,env,M,_,_,k,e1,fun P1 vs H1 l1 h1 i1=>by
   dsimp only;rw[xaA];exact⟨by rw[i1.len];exact hn _ _ _ _ e1,P1,M1,ds,r,_,h1,i1.iss,e,q.lt l1⟩⟩
 .cases e
def zkJ (K:Fgx)(mg:Mgx)(E:XK)(P0:Pl)(H0:Hp)(P:Pl)(H:Hp)(M':Mm)(D:Ends):Out->Prop
 |.ex c n=>∀P' H' C dx,LtE P H P' H'->Hk K mg P' H' M'->mg c=some (.ref C)->XN H' n dx->E (.ref C) dx H'
 |.nx env=>Post K mg W0 P0 H0 P H M' D (.nx env)
 |.bk env=>Post K mg W0 P0 H0 P H M' D (.bk env)
 |.ct env=>Post K mg W0 P0 H0 P H M' D (.ct env)
 |.rt d=>Post K mg W0 P0 H0 P H M' D (.rt d)
def Oo (K:Fgx)(mg:Mgx)(Ex:L2.St->XK)(b:S):TS:=fun D st H=>∃P0 H0 P Os env M out M',Ok K mg P0 H0 P Os H M st env/\b env M=some (out,M')/\zkJ K mg (Ex st) P0 H0 P H M' D out
def Ph (X:Cx)(s:Stmt)(b:S):Prop:=∀Ex:L2.St->XK,Pa (ud X.prog X.w) X Ex->PS X s (Oo X.K X.mg Ex b)
def BX (X:Cx)(ss:List Stmt)(b:S):Prop:=∀Ex:L2.St->XK,Pa (ud X.prog X.w) X Ex->nA X ss (Oo X.K X.mg Ex b)
def Qz (h:Ph X s b):BX X [s] b:=fun Ex hx=>zfn (h Ex hx)
def zdg (h:SX X e f)(hs:swapsWith e none pos.line X.env=pure false:=by rfl):Ph X (.Expr e pos) (yC f):=by
 intro Ex hx;refine nj (Am (h Ex hx) hs) ?_;by_in;unfold yC at e;sr_in
 .cases e;exact⟨P0,H0,P,Os,env,M,_,_,k,e1,fun P1 v H1 l1 h1 i1=>q _ _ _ _ (l1.lt k.hk) (k.next l1 h1)⟩
 .k_one
def zjH (hN:X.N.Nodup)(hi:X.N[i]? =some x)(hx:Loc X.env.scope x)(h:SX X e f)(hs:swapsWith e (some (.Name x pos')) pos.line X.env=pure false:=by rfl)
  (hf:X.fn x=true\/X.env.scope.names.lookup x=some .local:=by first |exact .inl rfl |exact .inr rfl):Ph X (.Assign [.Name x pos'] e pos) (aH i f):=by
 intro Ex hX;refine nj (T4 hN hi hx (h Ex hX) hs hf) ?_;by_in;unfold aH at e;sr_in
 .kj_one
  .rename_i hl;cases e;exact⟨P0,H0,P,Os,env,M,_,_,k,e1,fun P1 v1 H1 l1 h1 i1=>q _ _ _ _ (l1.lt k.hk) ((k.next l1 h1).asg hl i1)⟩
  .cases e
 .k_one
end
end E3
namespace L2
end L2
namespace E3
open L2
section
variable {K:Fgx}{mg:Mgx}{P0 P:Pl}{H0 H:Hp}{M:Mm}{Os:List (Option Addr)}{st:L2.St}{env:Env}{i:Nat}
def Ok.put (k:Ok K mg P0 H0 P Os H M st env)(hi:i<env.length)(h:Pj K mg P H none sv s):Ok K mg P0 H0 P (Os.set i none) H M (st.set i sv) (env.set i s) where
 hk:=k.hk
 base:=k.base
 b0:=k.b0
 slot:=fun j s e=>by
  rw[CN _ _ _ _ (by rw[k.olen];exact hi),CN _ _ _ _ (by rw[k.slen];exact hi)];rw[xa9]at e;kj_one
  .rename_i ij;subst ij;cases e;rw[xaa rfl,xaa rfl];exact h
  .rename_i ij;rw[xac ij,xac ij];exact k.slot j s e
 own:=fun a h=>k.own a (by
  rcases xcc h with h |h
  .exact h
  .cases h)
 inj:=fun j l a e1 e2=>by
  rw[xa9]at e1 e2;split at e1
  .split at e1<;>cases e1
  .split at e2
   .split at e2<;>cases e2
   .exact k.inj j l a e1 e2
 olen:=by rw[xaO,xaO,k.olen]
 slen:=by rw[xaO,xaO,k.slen]
end
section
variable {X:Cx}{Wx:XW}
def Hl (f:E):EA:=fun env M=>match f env M with
 |some (.v (.tup ds),M1)=>some (.v ds,M1)
 |some (.x c n,M1)=>some (.x c n,M1)
 |_=>none
def zjs (h:SE X Wx .val e f):SI X Wx tg e (Hl f):=by
 refine Ir (zjx h) ?_;rintro st H R ⟨P0,H0,P,Os,env,M,r,M',k,e,q⟩;unfold Hl at e;kj_one
 .rename_i ds M1 ef;cases e;refine⟨P0,H0,P,Os,env,M,_,_,k,ef,fun P1 v1 H1 l1 h1 i1=>?_⟩;obtain⟨a,vs,rfl,ra,is⟩:=i1;refine⟨a,rfl,⟨vs,ra⟩,q P1 H1 _ l1 h1 fun P2 H2 l2=>?_⟩;have sq:gO X.K H2 a vs:=l2.tup ra;have is2:=aL.lt l2 is;refine⟨fun j hj=>?_,fun j h1 h2=>⟨vs,sq,by rw[is2.len];exact h1⟩,fun j x H' y hj=>⟨y.1,?_⟩⟩
  .obtain⟨v,ev,_⟩:=aL.get is2 (xaj hj);exact⟨vs,v,sq,ev⟩
  .obtain⟨v,ev,iv⟩:=aL.get is2 (xaj hj);have:=y.2 vs sq;rw[ev]at this;cases this;exact⟨_,xaj hj,iv⟩
 .kfm_eq
 .cases e
end
def JM {K:Fgx}{C:Addr}(h1:W.findIn K (.ref C) "__getattribute__"=some (some (.builtin "BaseException.__getattribute__")))(h2:W.findIn K (.ref C) "__getattr__"=some none)(h3:W.mroIn K C (.type "BaseException")=some true):Bc K C=true:=by
 simp only[Bc,h1,h2,h3,xbI,xb8]
def Wl {K:Fgx}{C:Addr}(h1:Bc K C=true)(h2:W.hasDictIn K C=true)(h3:W.findIn K (.ref C) "__class__"=some (some (.builtin "object.__class__")))(h4:W.specialIn K (.builtin "object.__class__") "__get__"=some (some (.builtin "getset_descriptor.__get__")))
  (h5:W.takesIn K (.builtin "object.__class__")=some true) (h6:W.mroIn K C (.type "object")=some true):Bd K C=true:=by
 simp only[Bd,h1,h2,h3,h4,h5,h6,xbI,xb8]
end E3
namespace E3
open PySem L2
section
variable {env:Env}{M M1 M2:Mm}{f o v:E}{x:D}{k:Nat}{ds:List D}{c fl:Str}{fs:List (Str×D)}{gg:G}{fa:EA}
def zh9 (h:M[k]? =some (.obj c fs)):Ii M c (.ref k)=some (k,fs):=by unfold Ii;simp only[h,xa8]
def X5 (h1:v env M=some (.v x,M1))(h2:o env M1=some (.v (.ref k),M2))(h3:M2[k]? =some (.obj c fs))(h4:fs.length<1000):Ep c fl o v env M=some (.nx env,M2.set k (.obj c (putD fl x fs))):=by
 simp only[Ep,fK,h1,h2,zh9 h3,h4,xa8]
def Zj (h4:fa env M=some (.v ds,M1))(h5:gg (.ref M1.length::ds) (M1++[.obj c []])=some (.v .non,M3)):Eo c gg fa env M=some (.v (.ref M1.length),M3):=by
 simp only[Eo,nR,h4,h5]
theorem zjj {a:Int}:lD (some (.ex c a,M))=some (.x c a,M):=rfl
def tpR:O->Option (ResA×Mm)
 |some (.v (.tup ds),M1)=>some (.v ds,M1)
 |some (.x c n,M1)=>some (.x c n,M1)
 |_=>none
theorem zkQ:Hl f env M=tpR (f env M):=rfl
theorem zkC:tpR (some (.v (.tup ds),M))=some (.v ds,M):=rfl
end
theorem wH.mono {P:Program}{w:World}{K:Fgx}{mg:Mgx}{base:Heap}{j k:Nat}{C:Addr}{n:Nat}{g:G}(a:wH P w K mg base j C n g)(h:j<=k):wH P w K mg base k C n g:=by
 obtain⟨f,fd,ps,h1,h2,h3⟩:=a;exact⟨f,fd,ps,h1,h2.mono h,h3⟩
end E3
namespace E3
open L2
def lM (hN:X.N[i]? =some x)(hv:yg X.env.scope x)(hd:(x==("__debug__":Str))=false:=by x_go)(hcd:(x==("__classdict__":Str))=false:=by x_go):SE X Wx m (.Name x pos) (ak i):=(ze0 hN hv hd hcd).bor
def m_ (cs:Lsn)(env:Env):Env:=cs.map fun p=>(env[p.2]?).getD .un
noncomputable def ur (cs:Lsn) (Os:List (Option Addr)):List (Option Addr):=cs.map fun p=>(Os[p.2]?).join
section
variable {K:Fgx}{mg:Mgx}{P0 P:Pl}{H0 H:Hp}{M:Mm}{Os:List (Option Addr)}{st:L2.St}{env:Env}{d:D}{v:V}
def QC {cs:Lsn}{i:Nat}{a:Addr}(h:(ur cs Os)[i]? =some (some a)):∃p,cs[i]? =some p/\Os[p.2]? =some (some a):=by
 unfold ur at h;rw[xau,xam]at h;obtain⟨p,e,h⟩:=h;exact⟨p,e,pW h⟩
def Ok.cap {cs:Lsn}(k:Ok K mg P0 H0 P Os H M st env)(nd:(cs.map (·.2)).Nodup)(h:Is K P H d v):Ok K mg P0 H0 P (none::ur cs Os) H M (some v::pH cs st) (.val d::m_ cs env) where
 hk:=k.hk
 base:=k.base
 b0:=k.b0
 slot:=fun i s e=>by
  cases i with
  |zero=>cases e;exact⟨v,rfl,h⟩
  |succ i=>
   rw[List.getElem?_cons_succ]at e ⊢;rw[List.getElem?_cons_succ];unfold m_ at e;rw[xau,xam]at e;obtain⟨p,ep,e⟩:=e;have eo:((ur cs Os)[i]?).join=(Os[p.2]?).join:=by unfold ur;rw[xau,ep];rfl
   have es:((pH cs st)[i]?).join=(st[p.2]?).join:=by unfold pH;rw[xau,ep];rfl
   rw[eo,es]
   cases e':env[p.2]? with
   |none=>rw[e']at e;cases e;exact True.intro
   |some s'=>rw[e']at e;cases e;exact k.slot _ _ e'
 own:=fun a h=>by
  rw[xaz]at h;rcases h with h |h
  .cases h
  .obtain⟨i,hi⟩:=xdY.mp h;obtain⟨p,_,e⟩:=QC hi;exact k.own a (xaS e)
 inj:=fun i j a e1 e2=>by
  cases i with
  |zero=>cases e1
  |succ i=>
   cases j with
   |zero=>cases e2
   |succ j=>
    rw[List.getElem?_cons_succ]at e1 e2;obtain⟨p,h1,h2⟩:=QC e1;obtain⟨q,h3,h4⟩:=QC e2;have e:=k.inj _ _ a h2 h4;congr 1;have hi:(cs.map (·.2))[i]? =some p.2:=by rw[xau,h1];rfl
    have hj:(cs.map (·.2))[j]? =some p.2:=by rw[xau,h3,e];rfl
    have il:=(xao.mp hi).1;exact(List.getElem?_inj il nd).mp (hi.trans hj.symm)
 olen:=by simp[ur,m_]
 slen:=by simp[pH,m_]
end
section
variable {X:Cx}{Wx:XW}{pos:Pos}
def rD (q e:E)(env:Env):List D->List D->Mm->Option (List D×Mm)
 | [],acc,M=>some (acc,M)
 |d::ds,acc,M=>match q (.val d::env) M with
  |some (.v (.bl true),M1)=>(match e (.val d::env) M1 with
   |some (.v y,M2)=>if acc.length+1<sizeLine then rD q e env ds (acc++[y]) M2 else none
   |_=>none)
  |some (.v (.bl false),M1)=>rD q e env ds acc M1
  |_=>none
def pB (cs:Lsn)(fs:EA)(q e:E):E:=fun env M=>match fs env M with
 |some (.v ds,M1)=>(match rD q e (m_ cs env) ds [] M1 with
  |some (ys,M2)=>some (.v (.lst ys),M2)
  |none=>none)
 |some (.x c n,M1)=>some (.x c n,M1)
 |none=>none
def yW:∀env M r M',pB cs fs q e env M=some (.v r,M')->∃ds,r=.lst ds:=fun env M r M' h=>by
 unfold pB at h;kjx_on
 .kjx_on
  .cases h;exact⟨_,rfl⟩
  .cases h
 .cases h
 .cases h
def zfL {K:Fgx}{mg:Mgx}{P1 P:Pl}{H1 H:Hp}{M:Mm}{D:Addr}{vs vs':List V}(l:LtE P1 H1 P H)(h:Hk K mg P H M)(hD:H1 D=none)(bD:P.bd D)(nc:∀k,k<P.n->P.io k≠D)(e:H D=some (.lst vs)):
  Lt P H P (upd H D (.lst vs'))/\LtE P1 H1 P (upd H D (.lst vs'))/\Hk K mg P (upd H D (.lst vs')) M:=by
 have lc:Lt P H P (upd H D (.lst vs')):=Ah bD e Tf;refine⟨lc,⟨l.n,l.io,l.bd,l.bm,fun c o ec n=>?_,fun c z=>l.sure c (lc.sure c z),l.nw⟩,⟨h.n,fun j c ej=>(h.cell j c ej).lt lc fun o eo=>?_,h.inj,h.bd,fun c z q=>h.here c z (lc.sure c q)⟩⟩
 .rw[eN (fun z=>by subst z;rw[hD]at ec;cases ec)];exact l.keep c o ec n
 .rw[eN (nc j (by rw[h.n];exact(xao.mp ej).1))];exact eo
def NR (K:Fgx)(mg:Mgx)(Wx:XW)(P0:Pl)(H0:Hp)(P:Pl)(H:Hp)(M':Mm)(R:Addr->Hp->Prop):Res->Prop
 |.v d=>∃ds,d=.lst ds/\∀P' a vs H',LtE P H P' H'->Hk K mg P' H' M'->H a=none->P'.bd a->(∀k,k<P'.n->P'.io k≠a)->H' a=some (.lst vs)->aL K P' H' ds vs->R a H'
 |.x c n=>Wx P0 H0 M' c n
def QS {K:Fgx}{mg:Mgx}{cs:Lsn}{fs:EA}{q e:E}{P0 P:Pl}{H0 H:Hp}{Os:List (Option Addr)}{M M':Mm}{st:L2.St}{env:Env}{r:Res}{R:Addr->Hp->Prop}(nd:(cs.map (·.2)).Nodup)
    (k:Ok K mg P0 H0 P Os H M st env) (h:pB cs fs q e env M=some (r,M')) (w:NR K mg Wx P0 H0 P H M' R r):Jv (tI K mg Wx fs) (Ba K mg W0 q) (tE K mg W0 .val e) cs st H R:=by
  unfold pB at h;kjx_on
  . rename_i ds M1 ef;kjx_on
    rotate_left
    . cases h
    rename_i ys M2 ec;cases h;obtain⟨ds',e',w⟩:=w;cases e';refine⟨P0,H0,P,Os,env,M,_,_,k,ef,fun P1 H1 J l1 h1 wk D hD=>?_⟩;obtain⟨l2,h2,nc⟩:=Gh (vs:=[]) h1 hD;refine⟨fun i m vs H2=>m=ds.length-i/\i<=ds.length/\∃P2 M3 acc,LtE P1 H1 P2 H2/\Hk K mg P2 H2 M3/\P2.bd D/\(∀k,k<P2.n->P2.io k≠D)/\H2 D=some (.lst vs)/\aL K P2 H2 acc vs/\acc.length<sizeLine/\rD q e (m_ cs env) (ds.drop i) acc M3=some (ys,M'),
      ⟨ds.length,by simp,xbP _,P1.bar D,M1,[],l2,h2,.inr rfl,nc,gA,rfl,by x_go,by rw[xdZ];exact ec⟩,?_⟩
    rintro i m vs H2 ⟨rfl,hi,P2,M3,acc,l3,h3,bD,nD,eD,is,hz,ec⟩;refine⟨eD,?_⟩;obtain⟨w1,w2,w3⟩:=wk P2 H2 (l3.lt h1)
    by_cases hlt:i<ds.length
    . refine .inr ⟨w1 i hlt,by rw[is.len];exact hz,fun vs' H'=>∃P2 M3 acc,LtE P1 H1 P2 H'/\Hk K mg P2 H' M3/\P2.bd D/\(∀k,k<P2.n->P2.io k≠D)/\H' D=some (.lst vs')/\aL K P2 H' acc vs'/\acc.length<sizeLine/\rD q e (m_ cs env) (ds.drop (i+1)) acc M3=some (ys,M'),
        fun vs' H' z=>⟨ds.length-(i+1),Nat.sub_lt_sub_left hlt (xbH i),rfl,hlt,z⟩,fun x H' y=>?_⟩
      obtain⟨e3,d,ed,iv⟩:=w3 i x H' y hlt;subst e3;have ed':ds.drop i=d::ds.drop (i+1):=by
        rw[xbi hlt];rw[xaj hlt]at ed;rw[xaE ed]
      rw[ed']at ec;have kk:=((k.next l1 h1).next l3 h3).cap (cs:=cs) nd iv
      simp only[rD]at ec;split at ec
      . rename_i M4 eq;refine rm kk eq ⟨true,rfl,fun P4 H4 l4 h4=>?_⟩;dsimp only;rw[xaa rfl];split at ec
        . rename_i y' M5 ee;split at ec
          . rename_i hz';refine eE (kk.next l4 h4) ee fun P5 v5 H5 l5 h5 i5=>?_
            have l45:=l4.trans l5;have eD5:H5 D=some (.lst vs):=l45.keep D _ eD (.inr nD);have nD5:∀k,k<P5.n->P5.io k≠D:=l45.nc eD nD;obtain⟨g1,g2,g3⟩:=zfL (vs':=vs++[v5]) (l3.trans l45) h5 hD (l45.bm D bD) nD5 eD5;refine⟨eD5,P5,M5,acc++[y'],g2,g3,l45.bm D bD,nD5,gA,aL.append (aL.lt ((l45.lt h3).trans g1) is) (aL.one (Is.lt g1 i5)),by rw[xaf];exact hz',ec⟩
          . cases ec
        . cases ec
      . rename_i M4 eq;refine rm kk eq ⟨false,rfl,fun P4 H4 l4 h4=>?_⟩;dsimp only;rw[xac (by decide)];exact⟨P4,M4,acc,l3.trans l4,h4,l4.bm D bD,l4.nc eD nD,l4.keep D _ eD (.inr nD),aL.lt (l4.lt h3) is,hz,ec⟩
      . cases ec
    . have ei:i=ds.length:=by lia
      subst ei;rw[xcf]at ec;cases ec;exact .inl ⟨w2 _ (xag _) (xag _),w P2 D vs H2 (l1.trans l3) h3 (l1.sure D hD) bD nD eD is⟩
  . rename_i c n M1 ef;cases h;exact⟨P0,H0,P,Os,env,M,_,_,k,ef,w⟩
  . cases h
def SQ (X:Cx)(ifs:Lex)(q:E):Prop:=ug X ifs (Ba X.K X.mg W0 q)
def xW:SQ X [] (aj (.bl true)):=fun pins s Z H Q I h=>by
 obtain⟨P0,H0,P,Os,env,M,r,M',k,e,q⟩:=h;cases e;obtain⟨b,e2,q⟩:=q;cases e2;exact zdb pins s Z H Q I (q P H (LtE.refl P H) k.hk)
section
variable {elt iter:Expr}{ifs:Lex}{scope:Scope}{fs:EA}{q e:E}
theorem A_ (x:Str)(cs:Lsn)(hc:X.calm=true)(nd:(cs.map (·.2)).Nodup)(hi:SI X Wx (.Name x px) iter fs)
  (hq:∀(cl:Lsa) (C:Addr) (s₀:Shared) (H₀:Hp) (ex:List Addr) (pn:Pnx),SQ (kZ X (x::cs.map (·.1)) scope cl C s₀ H₀ ex pn) ifs q)
  (he:∀(cl:Lsa) (C:Addr) (s₀:Shared) (H₀:Hp) (ex:List Addr) (pn:Pnx),SE (kZ X (x::cs.map (·.1)) scope cl C s₀ H₀ ex pn) W0 .val elt e)
  (ok:Ko X.N X.env.scope x cs scope=true:=by kernel_rfl) (hs:∀x,foldedSetIterable iter X.env x=pure x:=by intro _;rfl):
  SN X Wx (.ListComp elt [⟨.Name x px,iter,ifs,0⟩] scope pos) (pB cs fs q e):=by
 refine gJ (zfY (tq:=Ba X.K X.mg W0 q) (te:=tE X.K X.mg W0 .val e) x cs hc hi hq he ok hs) ?_;rintro st H Q ⟨P0,H0,P,Os,env,M,r,M',k,e,w⟩;refine QS nd k e ?_
 cases r with
 |v d=>exact w
 |x c n=>exact w
def zfX {K:Fgx}{mg:Mgx}{P P':Pl}{H H':Hp}{M M':Mm}{a:Addr}{vs:List V}{ds:List D}(k:Hk K mg P H M)(l:LtE P H P' H')(h:Hk K mg P' H' M')(ha:H a=none)(nc:∀j,j<P'.n->P'.io j≠a)(ea:H' a=some (.lst vs))(is:aL K P' H' ds vs):
  LtE P H (P'.less (· ≠a)) H'/\Hk K mg (P'.less (· ≠a)) H' M'/\Is K (P'.less (· ≠a)) H' (.lst ds) (.ref a):=by
 have l2:Lt P' H' (P'.less (· ≠a)) H':=⟨xag _,fun _ _=>rfl,fun c z=>.inl z.1,fun _ _ e _=>e,fun _ z=>z⟩;exact⟨⟨l.n,l.io,fun b z=>l.bd b z.1,fun b z=>⟨l.bm b z,fun q=>k.here b z (q ▸ ha)⟩,l.keep,l.sure,l.nw⟩,
  ⟨h.n,fun j c e=>(h.cell j c e).lt l2 fun _ z=>z,h.inj,fun j hj=>⟨h.bd j hj,nc j hj⟩,fun b z=>h.here b z.1⟩,
  a,vs,rfl,.inl ⟨fun z=>z.2 rfl,.inl ea⟩,aL.less is⟩
theorem Vj (x:Str)(cs:Lsn)(hN:X.N.Nodup)(hk:X.N[i]? =some y)(hy:Loc X.env.scope y)(hc:X.calm=true)(nd:(cs.map (·.2)).Nodup)(hi:SI X Wx (.Name x px) iter fs)
  (hq:∀(cl:Lsa) (C:Addr) (s₀:Shared) (H₀:Hp) (ex:List Addr) (pn:Pnx),SQ (kZ X (x::cs.map (·.1)) scope cl C s₀ H₀ ex pn) ifs q)
  (he:∀(cl:Lsa) (C:Addr) (s₀:Shared) (H₀:Hp) (ex:List Addr) (pn:Pnx),SE (kZ X (x::cs.map (·.1)) scope cl C s₀ H₀ ex pn) W0 .val elt e)
  (ok:Ko X.N X.env.scope x cs scope=true:=by kernel_rfl) (hs:∀x,foldedSetIterable iter X.env x=pure x:=by intro _;rfl)
  (hsw:swapsWith (.ListComp elt [⟨.Name x px,iter,ifs,0⟩] scope pos) (some (.Name y py)) spos.line X.env=pure true:=by rfl)
  (hf:X.fn y=true\/X.env.scope.names.lookup y=some .local:=by first |exact .inl rfl |exact .inr rfl):
  SS X Wx (.Assign [.Name y py] (.ListComp elt [⟨.Name x px,iter,ifs,0⟩] scope pos) spos) (aH i (pB cs fs q e)):=by
 refine nj (zfl (tq:=Ba X.K X.mg W0 q) (te:=tE X.K X.mg W0 .val e) x cs hN hk hy hc hi hq he ok hs hsw hf) ?_;rintro D st H ⟨P0,H0,P,Os,env,M,out,M',k,ee,w⟩;unfold aH at ee;rcases lW ee with⟨d,M1,e1,ee⟩ |⟨c,n,e1,rfl⟩
 .obtain⟨ds,rfl⟩:=yW _ _ _ _ e1;split at ee
  .rename_i hl;cases ee;refine QS nd k e1 ⟨ds,rfl,fun P1 a vs H1 l1 h1 ha ba nc ea is=>?_⟩;obtain⟨l2,h2,i2⟩:=zfX k.hk l1 h1 ha nc ea is;exact w _ _ _ _ (l2.lt k.hk) ((k.next l2 h2).asg hl i2)
  .cases ee
 .exact QS nd k e1 w
end
end
theorem aL.erase {K:Fgx}{P:Pl}{H:Hp}:∀{ds:List D} {vs:List V} (n:Nat),aL K P H ds vs->aL K P H (ds.eraseIdx n) (vs.eraseIdx n)
 | [],_,_,h=>by rw[show _=[] from h];rfl
 |d::ds,_,0,h=>by
  obtain⟨v,r,e,p,h⟩:=h;subst e;exact h
 |d::ds,_,n+1,h=>by
  obtain⟨v,r,e,p,h⟩:=h;subst e;exact⟨v,_,rfl,p,aL.erase n h⟩
section
variable {X:Cx}{Wx:XW}{m:Mode}{pos:Pos}
noncomputable def zG (i:Int) (ds:List D):Option (D×List D):=if i.natAbs<9223372036854775808 then(match seqIndex? i ds.length with
 |some k=>(ds[k]?).map fun z=>(z,ds.eraseIdx k)
 |none=>none) else none
def vh (f:E):E:=fun env M=>bnd (f env M) fun d M1=>match d with
 |.ref j=>(match M1[j]? with
  |some (.lst ds)=>(match ds[ds.length-1]? with
   |some z=>some (.v z,M1.set j (.lst ds.dropLast))
   |none=>none)
  |_=>none)
 |_=>none
theorem aL.dropLast {K:Fgx}{P:Pl}{H:Hp}{ds:List D}{vs:List V}(h:aL K P H ds vs):aL K P H ds.dropLast vs.dropLast:=by
 rw[xd0,xd0,h.len];exact h.take _
def Vb (ho:SE X Wx .val o f)(hbase:attributeBase o "pop" X.env (eval o X.env)=eval o X.env:=by rfl)(hline:(p.endLine==pos.line)=true:=by rfl):
  SE X Wx m (.Call (.Attribute o "pop" p) [] [] pos) (vh f):=by
 refine gJ (zjQ xct xda F.type_list_pop zim ho hbase hline) ?_;k_go;unfold vh at e;cb_eq
 .cases d<;>simp only[reduceCtorEq]at e
  rename_i j;kj_one
  rotate_left
  .cases e
  rename_i ds em;kj_one
  rotate_left
  .cases e
  rename_i z ez;cases e;kj_on;obtain⟨jl,rfl⟩:j<P1.n/\v1=.ref (P1.io j):=i1;obtain⟨vs,ev,is⟩:=h1.cell j _ em;obtain⟨v,evt,iv⟩:=is.get ez;have lc:Lt P1 H1 P1 (upd H1 (P1.io j) (.lst vs.dropLast)):=Ah (h1.bd j jl) ev Tf;obtain⟨l3,l3e,h3⟩:=h1.set (c':=.lst ds.dropLast) (o':=.lst vs.dropLast) em ⟨_,gA,(aL.lt lc is).dropLast⟩;refine⟨.inl ⟨rfl,vs,.inl (.inl ev)⟩,P1.io j,vs,v,rfl,rfl,ev,by rw[is.len];exact evt,?_⟩;exact q P1 v _ (l1.trans l3e) h3 (gW.of h3 (Is.lt l3 iv))
 .o_norm
end
def toKey:D->Option Key
 |.int i=>some (.inl i)
 |.str z=>some (.inr z)
 |_=>none
def gH (kvs:List (Key×D))(k:Key):Option D:=(kvs.find? fun kv=>decide (kv.1=k)).map (·.2)
def nq (kvs:List (Key×D))(k:Key)(v:D):List (Key×D):=
 if (kvs.any fun kv=>decide (kv.1=k))=true then kvs.map (fun kv=>if kv.1=k then(kv.1,v) else kv) else kvs++[(k,v)]
section
variable {K:Fgx}{P:Pl}{H:Hp}
def lB (K:Fgx)(P:Pl)(H:Hp)(kvs:List (Key×D))(vs:List (Key×V)):Prop:=vs.map (·.1)=kvs.map (·.1)/\aL K P H (kvs.map (·.2)) (vs.map (·.2))
def key_is (h:toKey d=some k)(i:Is K P H d v):v=kV k:=by
 unfold toKey at h;kjx_on
 .cases h;cases i;rfl
 .cases h;cases i;rfl
 .cases h
def Jz:lB K P H (p::kvs) (q::vs) ↔ q.1=p.1/\Is K P H p.2 q.2/\lB K P H kvs vs:=by
 constructor
 .rintro⟨h1,v,r,e1,i,q⟩;simp only[xai,xb7]at h1 e1;obtain⟨rfl,rfl⟩:=e1;exact⟨h1.1,i,h1.2,q⟩
 .rintro⟨h1,i,h2,q⟩;exact⟨by simp[h1,h2],_,_,rfl,i,q⟩
theorem V9:∀{kvs:List (Key×D)} {vs:List (Key×V)},lB K P H kvs vs->match gH kvs k with
  |some d=>∃v,gR vs k=some v/\Is K P H d v
  |none=>gR vs k=none
 | [],[],_=>rfl
 | [],_::_,h=>by cases h.1
 |_::_,[],h=>by cases h.1
 |p::kvs,q::vs,h=>by
  obtain⟨h1,i,h2⟩:=Jz.mp h
  by_cases e:p.1=k
  .have e':q.1=k:=h1.trans e;have a:gH (p::kvs) k=some p.2:=by simp[gH,xba,e]
   rw[a];exact⟨q.2,O1 e',i⟩
  .have e':¬ q.1=k:=fun z=>e (h1.symm.trans z);have a:gH (p::kvs) k=gH kvs k:=by simp[gH,xba,e]
   rw[a,OJ e'];exact V9 h2
theorem tb_any:∀{kvs:List (Key×D)} {vs:List (Key×V)},vs.map (·.1)=kvs.map (·.1)->(vs.any fun kv=>decide (kv.1=k))=(kvs.any fun kv=>decide (kv.1=k))
 | [],[],_=>rfl
 | [],_::_,h=>by cases h
 |_::_,[],h=>by cases h
 |p::kvs,q::vs,h=>by
  simp only[xai,xb7]at h;rw[xbn,xbn,h.1,tb_any h.2]
theorem zeS (i:Is K P H d v):∀{kvs:List (Key×D)} {vs:List (Key×V)},lB K P H kvs vs->lB K P H (kvs.map fun kv=>if kv.1=k then(kv.1,d) else kv) (vs.map fun kv=>if kv.1=k then(kv.1,v) else kv)
 | [],[],h=>h
 | [],_::_,h=>by cases h.1
 |_::_,[],h=>by cases h.1
 |p::kvs,q::vs,h=>by
  obtain⟨h1,i1,h2⟩:=Jz.mp h;rw[xai,xai];refine Jz.mpr ⟨?_,?_,zeS i h2⟩
  .split<;>split<;>exact h1
  .rw[h1]
   split
   .exact i
   .exact i1
def zeU (i:Is K P H d v)(h:lB K P H kvs vs):lB K P H (nq kvs k d) (putK vs k v):=by
 unfold nq putK;rw[tb_any h.1]
 split
 .exact zeS i h
 .refine⟨by rw[xaI,xaI,h.1];rfl,?_⟩;rw[xaI,xaI];exact aL.append h.2 (aL.one i)
def ziZ (h:lB K P H kvs vs):vs.length=kvs.length:=by
 have:=congrArg List.length h.1
 simpa using this
def L_:¬ Fx (.dK vs):=fun z=>by rcases z with⟨_,z⟩ |⟨_,_,z⟩ |⟨_,z⟩ |⟨_,z⟩<;>cases z
end
section
variable {X:Cx}{Wx:XW}{m:Mode}{pos:Pos}
def Br (M:Mm)(d:D):Option (Nat×List (Key×D)):=match d with
 |.ref k=>(match M[k]? with
  |some (.dct kvs)=>some (k,kvs)
  |_=>none)
 |_=>none
def Xr (h:Br M d=some (k,kvs)):d=.ref k/\M[k]? =some (.dct kvs):=by
 unfold Br at h;kjx_on
 .kjx_on
  .cases h;rename_i e;exact⟨rfl,e⟩
  .cases h
 .cases h
def dk (M:Mm)(d y:D):Option (Nat×List (Key×D)×Key):=match Br M d with
 |some p=>(toKey y).map fun k=>(p.1,p.2,k)
 |none=>none
def Q5 (h:dk M d y=some (j,kvs,k)):d=.ref j/\M[j]? =some (.dct kvs)/\toKey y=some k:=by
 unfold dk at h;kjx_on
 .rename_i p ep;rw[xam]at h;obtain⟨k',ek,h⟩:=h;cases h;obtain⟨h1,h2⟩:=Xr (k:=p.1) (kvs:=p.2) ep;exact⟨h1,h2,ek⟩
 .cases h
def tO (b:Bool)(g f:E):E:=fun env M=>bnd (g env M) fun y M1=>bnd (f env M1) fun d M2=>match dk M2 d y with
 |some (_,kvs,k)=>some (.v (.bl (if b then(gH kvs k).isSome else !(gH kvs k).isSome)),M2)
 |none=>none
def ziy {b:Bool}{f g:E}{st:L2.St}{H:Hp}{Q:VK}(w:tE X.K X.mg Wx m (tO b g f) st H Q):(if b then Jw (tE X.K X.mg Wx .val g) (tE X.K X.mg Wx .val f) st H Q else zgg (tE X.K X.mg Wx .val g) (tE X.K X.mg Wx .val f) st H Q):=by
 obtain⟨P0,H0,P,Os,env,M,r,M',k,e,q⟩:=w;have key:tE X.K X.mg Wx .val g st H fun y H1=>tE X.K X.mg Wx .val f st H1 fun x H2=>∃a o,x=.ref a/\nQ H2 a y o/\Q (.bl (if b then o.isSome else !o.isSome)) H2:=by
  unfold tO at e;rcases gU e with⟨y,M1,e1,e⟩ |⟨c,n,e1,rfl⟩
  .kj_on;have k1:=k.next l1 h1
   rcases gU e with⟨d,M2,e2,e⟩ |⟨c,n,e2,rfl⟩
   .kri_at;kj_one
    .rename_i j kvs key ed;cases e;obtain⟨rfl,em,ek⟩:=Q5 ed;obtain⟨jl,rfl⟩:j<P2.n/\v2=.ref (P2.io j):=i2;obtain⟨vs,ev,en,is⟩:=h2.cell j _ em;have g:=V9 (k:=key) (kvs:=kvs) (vs:=vs) ⟨en,is⟩;have eo:(gR vs key).isSome=(gH kvs key).isSome:=by
      cases hd:gH kvs key with
      |none=>rw[hd]at g;have g':gR vs key=none:=g;rw[g'];rfl
      |some d=>rw[hd]at g;obtain⟨v,gv,_⟩:=g;rw[gv];rfl
     refine⟨_,gR vs key,rfl,by rw[key_is ek i1];exact nQ.k ev,?_⟩;rw[eo];exact q P2 _ H2 (l1.trans l2) h2 (gW.of h2 (show Is _ _ _ (.bl _) _ from rfl))
    .cases e
   .exact eE k1 e2 q
  .o_norm
 cases b with
 |true=>exact key
 |false=>exact key
def ze5 (hu:X.A.units+60<cLine)(hi:SE X Wx .val i g)(ho:SE X Wx .val o f)(hm:behindInMarks .In o=false:=by rfl):ST X Wx (.Compare i [.In] [o] pos) (tO true g f):=
 Cj (T7 (zgS (xcG (xcB (by decide) _) hu) hi ho) hm) fun _ _ _ w=>ziy (b:=true) (JD w)
def En (f g v:E):S:=fun env M=>fK (v env M) fun x M1=>fK (f env M1) fun d M2=>fK (g env M2) fun y M3=>match dk M3 d y with
 |some (j,kvs,k)=>if kvs.length<sizeLine then some (.nx env,M3.set j (.dct (nq kvs k x))) else none
 |none=>none
def zcQ (hu:X.A.units+60<cLine)(ho:SE X Wx .val o f)(hi:SE X Wx .val i g)(he:SE X Wx .val e v)(hs:swapsWith e (some (.Subscript o i pos')) pos.line X.env=pure false:=by rfl):
  SS X Wx (.Assign [.Subscript o i pos'] e pos) (En f g v):=by
 refine nj (zfR (xcG (xcB (by decide) _) hu) ho hi he hs) ?_;by_in;unfold En at e;rcases lW e with⟨x,M1,e1,e⟩ |⟨c,n,e1,rfl⟩
 .kj_on;have k1:=k.next l1 h1
  rcases lW e with⟨d,M2,e2,e⟩ |⟨c,n,e2,rfl⟩
  .kri_at;have k2:=k1.next l2 h2
   rcases lW e with⟨y,M3,e3,e⟩ |⟨c,n,e3,rfl⟩
   .refine eE k2 e3 fun P3 v3 H3 l3 h3 i3=>?_;kj_one
    .rename_i j kvs key ed;kj_one
     .rename_i hl;cases e;obtain⟨rfl,em,ek⟩:=Q5 ed;obtain⟨jl,rfl⟩:j<P2.n/\v2=.ref (P2.io j):=i2;obtain⟨vs,ev,en,is⟩:=h3.cell j _ em;have jl3:j<P3.n:=xar jl l3.n;have eio:P3.io j=P2.io j:=l3.io j jl;have ix:=Is.lt ((l2.lt h1).trans (l3.lt h2)) i1;have lc:Lt P3 H3 P3 (upd H3 (P3.io j) (.dK (putK vs key v1))):=Ah (h3.bd j jl3) ev L_;have tp:=zeU (k:=key) ix ⟨en,is⟩;obtain⟨l4,l4e,h4⟩:=h3.set (c':=.dct (nq kvs key x)) (o':=.dK (putK vs key v1)) em ⟨_,gA,tp.1,aL.lt lc tp.2⟩;rw[eio]at l4 l4e h4 ev;refine⟨_,_,rfl,by rw[key_is ek i3];exact wJ.k ev (by rw[ziZ ⟨en,is⟩];exact hl),?_⟩;exact q _ _ _ _ ((l1.lt k.hk).trans ((l2.lt h1).trans ((l3.lt h2).trans l4))) ((k2.next l3 h3).next l4e h4)
     .cases e
    .cases e
   .exact eE k2 e3 q
  .exact eE k1 e2 q
 .o_norm
inductive ResP where
 |v (ps:List (D×D)) |x (c:Str) (n:Int)
abbrev Di:=Env->Mm->Option (ResP×Mm)
def lR:Di:=fun _ M=>some (.v [],M)
def tK (f g:E)(ps:Di):Di:=fun env M=>match f env M with
 |some (.v x,M1)=>(match g env M1 with
  |some (.v y,M2)=>(match ps env M2 with
   |some (.v r,M3)=>some (.v ((x,y)::r),M3)
   |some (.x c n,M3)=>some (.x c n,M3)
   |none=>none)
  |some (.x c n,M2)=>some (.x c n,M2)
  |none=>none)
 |some (.x c n,M1)=>some (.x c n,M1)
 |none=>none
def AllP (K:Fgx)(P:Pl)(H:Hp):List (D×D)->List (V×V)->Prop
 | [],vs=>vs=[]
 |p::ps,vs=>∃v r,vs=v::r/\Is K P H p.1 v.1/\Is K P H p.2 v.2/\AllP K P H ps r
def PQ (K:Fgx)(mg:Mgx)(Wx:XW)(P0:Pl)(H0:Hp)(P:Pl)(H:Hp)(M':Mm)(Q:List (V×V)->Hp->Prop):ResP->Prop
 |.v ds=>∀P' vs H',LtE P H P' H'->Hk K mg P' H' M'->AllP K P' H' ds vs->Q vs H'
 |.x c n=>Wx P0 H0 M' c n
def JX (X:Cx)(Wx:XW)(cpos:Pos)(keys:List (Option Expr))(values:Lex)(ps:Di):Prop:=∃trs,FJ X cpos keys values trs/\∀P0 H0 P Os st H M env r M' Q,Ok X.K X.mg P0 H0 P Os H M st env->ps env M=some (r,M')->PQ X.K X.mg Wx P0 H0 P H M' Q r->Ou trs st H Q
def zc7:JX X Wx cpos [] [] lR:=⟨[],zgl,fun P0 H0 P Os st H M env r M' Q k e q=>by
 cases e;exact q P [] H (LtE.refl P H) k.hk rfl⟩
def Oi (ha:SE X Wx .val a f)(hb:SE X Wx .val b g)(hr:JX X Wx cpos ks vs ps):JX X Wx cpos (some a::ks) (b::vs) (tK f g ps):=by
 obtain⟨trs,h1,h2⟩:=hr;refine⟨_,zez ha hb h1,fun P0 H0 P Os st H M env r M' Q k e q=>?_⟩;unfold tK at e;kj_one
 .rename_i x M1 e1;refine eE k e1 fun P1 v1 H1 l1 hk1 i1=>?_;have k1:=k.next l1 hk1
  kj_one
  .rename_i y M2 e2;refine eE k1 e2 fun P2 v2 H2 l2 hk2 i2=>?_;have k2:=k1.next l2 hk2
   kj_one
   .rename_i rr M3 e3;cases e;exact h2 _ _ _ _ _ _ _ _ _ _ _ k2 e3 fun P3 us H3 l3 hk3 al=>q P3 _ H3 (l1.trans (l2.trans l3)) hk3 ⟨(v1,v2),us,rfl,Is.lt ((l2.lt hk1).trans (l3.lt hk2)) i1,Is.lt (l3.lt hk2) i2,al⟩
   .rename_i c n M3 e3;cases e;exact h2 _ _ _ _ _ _ _ _ _ _ _ k2 e3 q
   .cases e
  .rename_i c n M2 e2;cases e;exact eE k1 e2 q
  .cases e
 .rename_i c n M1 e1;cases e;o_norm
 .cases e
def keysOf:List (D×D)->Option (List (Key×D))
 | []=>some []
 |p::ps=>match toKey p.1,keysOf ps with
  |some k,some r=>some ((k,p.2)::r)
  |_,_=>none
def Ed (kvs more:List (Key×D)):List (Key×D):=more.foldl (fun acc kv=>nq acc kv.1 kv.2) kvs
def lF (ps:Di):E:=fun env M=>match ps env M with
 |some (.v ds,M1)=>(match keysOf ds with
  |some kvs=>if kvs.length<=15 then some (.v (.ref M1.length),M1++[.dct (Ed [] kvs)]) else none
  |none=>none)
 |some (.x c n,M1)=>some (.x c n,M1)
 |none=>none
theorem YQ {K:Fgx}{P:Pl}{H:Hp}:∀{ds:List (D×D)} {kvs:List (Key×D)} {vs:List (V×V)},keysOf ds=some kvs->AllP K P H ds vs->∃us:List (Key×V),vs=us.map (fun kv=>(kV kv.1,kv.2))/\us.length=kvs.length/\lB K P H kvs us
 | [],kvs,vs,e,h=>by
  cases e;exact⟨[],h,rfl,rfl,rfl⟩
 |p::ps,kvs,vs,e,h=>by
  obtain⟨v,r,rfl,i1,i2,h⟩:=h;simp only[keysOf]at e;kj_one
  .rename_i k r' ek er;cases e;obtain⟨us,e1,e2,e3⟩:=YQ er h;refine⟨(k,v.2)::us,?_,by simp[e2],Jz.mpr ⟨rfl,i2,e3⟩⟩;rw[xai, <-e1, <-key_is ek i1]
  .cases e
theorem Zm {K:Fgx}{P:Pl}{H:Hp}:∀{more:List (Key×D)} {us:List (Key×V)} {kvs:List (Key×D)} {vs:List (Key×V)},lB K P H more us->lB K P H kvs vs->lB K P H (Ed kvs more) (Ak vs us)
 | [],[],_,_,_,q=>q
 | [],_::_,_,_,h,_=>by cases h.1
 |_::_,[],_,_,h,_=>by cases h.1
 |p::more,u::us,kvs,vs,h,q=>by
  obtain⟨h1,i,h2⟩:=Jz.mp h;show lB K P H (Ed (nq kvs p.1 p.2) more) (Ak (putK vs u.1 u.2) us);rw[h1];exact Zm h2 (zeU i q)
def Qx {K:Fgx}{mg:Mgx}{P:Pl}{H:Hp}{M:Mm}{p:Addr}{o:HO}(h:Hk K mg P H M)(hp:H p=none):LtE P H (P.bar p) (upd H p o)/\Hk K mg (P.bar p) (upd H p o) M/\∀k,k<P.n->P.io k≠p:=by
 have s:=zQ (o:=o) hp;have nc:∀k,k<P.n->P.io k≠p:=fun k hk z=>h.here _ (h.bd k hk) (z ▸ hp);have l:LtE P H (P.bar p) (upd H p o):=⟨xag _,fun _ _=>rfl,fun a z=>xdX (fun q=>q) (fun(q:a=p)=>by rw[q];exact hp) z,fun a z=>.inl z,fun a o e _=>s a o e,fun a z=>s.free z,fun k h1 h2=>absurd h1 (xdG.mpr h2)⟩;refine⟨l,⟨h.n,fun k c e=>(h.cell k c e).lt (l.lt h) fun u eu=>s _ _ eu,h.inj,fun k hk=>.inl (h.bd k hk),fun a z q=>?_⟩,nc⟩;rcases z with z |z
 .exact h.here a z (s.free q)
 .subst z;rw[gA]at q;cases q
def QJ {K:Fgx}{mg:Mgx}{P0 P:Pl}{H0 H:Hp}{M:Mm}{a:Addr}{o o':HO}{c:Cl}(l:LtE P0 H0 P H)(h:Hk K mg P H M)(ha:H0 a=none)(ba:P.bd a)(nc:∀k,k<P.n->P.io k≠a)(ea:H a=some o)(nf:¬ Fx o)(hc:∀P',Lt P H P' (upd H a o')->xZ K mg P' (upd H a o') a c):
  ∃P',LtE P0 H0 P' (upd H a o')/\Hk K mg P' (upd H a o') (M++[c])/\Is K P' (upd H a o') (.ref M.length) (.ref a):=by
 have hn:P.n=M.length:=h.n
 let P2:Pl:={io:=fun j=>if j=P.n then a else P.io j,n:=P.n+1,bd:=P.bd}
 have io:∀j,j<P.n->P2.io j=P.io j:=fun j hj=>xac (by lia);have ioN:P2.io P.n=a:=xaa rfl;have lc:Lt P H P (upd H a o'):=Ah ba ea nf;have l2:Lt P H P2 (upd H a o'):=⟨xcz _,io,fun _ z=>.inl z,lc.keep,lc.sure⟩;refine⟨P2,⟨xeh l.n,fun j hj=>(io j (xar hj l.n)).trans (l.io j hj),l.bd,l.bm,fun b u e z=>?_,fun b z=>l.sure b (lc.sure b z),fun j h2 h3=>?_⟩,⟨by rw[xaf, <-hn];rfl,fun j d ej=>?_,fun i j hi hj e=>?_,fun j hj=>?_,fun b z q=>h.here b z (lc.sure b q)⟩,?_⟩
 .rw[eN (fun z=>by subst z;rw[ha]at e;cases e)];exact l.keep b u e z
 .rcases xa2 j P.n with z |z
  .rw[io j z];exact l.nw j h2 z
  .have:j=P.n:=xa7 (xa3 h3) z;rw[this,ioN];exact ha
 .rcases xa2 j P.n with z |z
  .rw[xa5 (by rw[<-hn];exact z)]at ej;rw[io j z];exact(h.cell j d ej).lt l2 fun u eu=>by rw[eN (nc j z)];exact eu
  .have jl:=(xao.mp ej).1;rw[xaf,xaC, <-hn]at jl;have:j=P.n:=by lia
   subst this;rw[xaW (by rw[hn];exact xag _),hn,xb3]at ej;cases ej;rw[ioN];exact hc P2 l2
 .rcases xa2 i P.n with z |z
  .rcases xa2 j P.n with y |y
   .rw[io i z,io j y]at e;exact h.inj i j z y e
   .have:j=P.n:=xa7 (xa3 hj) y;rw[io i z,this,ioN]at e;exact absurd e (nc i z)
  .have iN:i=P.n:=xa7 (xa3 hi) z;rcases xa2 j P.n with y |y
   .rw[iN,ioN,io j y]at e;exact absurd e.symm (nc j y)
   .rw[iN];exact xa7 y (xa3 hj)
 .rcases xa2 j P.n with z |z
  .rw[io j z];exact h.bd j z
  .have:j=P.n:=xa7 (xa3 hj) z;rw[this,ioN];exact ba
 .exact⟨by show _<P.n+1;rw[hn];exact xbH _,by rw[<-hn,ioN]⟩
def zc0:SE X Wx m (.Dict [] [] pos) (lF lR):=by
 refine gJ zet ?_;k_go;cases e;intro p hp;obtain⟨l1,h1,nc⟩:=Qx (o:=.dK []) k.hk hp;obtain⟨P2,l2,h2,i2⟩:=QJ (o':=.dK []) (c:=.dct []) l1 h1 hp (.inr rfl) nc gA L_ fun P' _=>⟨[],gA,rfl,rfl⟩;rw[zdp]at l2 h2 i2;exact q P2 _ _ l2 h2 (gW.of h2 i2)
def zeI {keys:List (Option Expr)}{values:Lex}{ps:Di}(h:JX X Wx pos keys values ps)(hall:keys.all (·.isSome)=true:=by rfl)(hl:keys.length=values.length:=by rfl)(h0:keys≠ []:=by exact fun z=>nomatch z)(h15:keys.length<=15:=by decide):SE X Wx m (.Dict keys values pos) (lF ps):=by
 obtain⟨trs,hp,ht⟩:=h;refine gJ (zgK hp hall hl h0 h15) ?_;k_go;intro p hp;obtain⟨l1,h1,nc⟩:=Qx (o:=.dK []) k.hk hp;have k1:=k.next l1 h1
 unfold lF at e;kj_one
 .rename_i ds M1 e1;kj_one
  rotate_left
  .cases e
  rename_i kvs ek;kj_one
  rotate_left
  .cases e
  rename_i h15';cases e;refine ht _ _ _ _ _ _ _ _ _ _ _ k1 e1 fun P2 vs H2 l2 h2 al=>?_;have ep:H2 p=some (.dK []):=l2.keep p _ gA (.inr nc);have nc2:=l2.nc gA nc;obtain⟨us,e3,e4,tb⟩:=YQ ek al;refine⟨ep,us,e3,by rw[e4];exact h15',?_⟩;obtain⟨P3,l3,h3,i3⟩:=QJ (o':=.dK (Ak [] us)) (c:=.dct (Ed [] kvs)) (l1.trans l2) h2 hp (l2.bm p (.inr rfl)) nc2 ep L_ fun P' l'=>by
   have tm:=Zm (kvs:=[]) (vs:=[]) tb ⟨rfl,rfl⟩;exact⟨_,gA,tm.1,aL.lt l' tm.2⟩
  exact q P3 _ _ l3 h3 (gW.of h3 i3)
 .rename_i c n M1 e1;cases e;exact ht _ _ _ _ _ _ _ _ _ _ _ k1 e1 q
 .cases e
def pD (M:Mm)(d:D):String:=match d with
 |.ref k=>(match M[k]? with
  |some (.lst _)=>"list"
  |some (.dct _)=>"dict"
  |_=>"")
 |d=>JG d
def xQ (tb:String->String->Option Bool)(T:String)(f:E):E:=fun env M=>bnd (f env M) fun d M1=>if pD M1 d="" then none else(tb (pD M1 d) T).map fun b=>(.v (.bl b),M1)
theorem zdA:nP X (.builtin "isinstance") (fun xs H Q=>∃(x:V) (T:String) (d:D) (P:Pl) (M:Mm) (b:Bool),xs=[x,.ty T]/\Hk X.K X.mg P H M/\iB X.K P H d x/\pD M d≠""/\W.kitOne X.K (.type (pD M d)) (.type T)=some b/\Q (.bl b) H):=by
 kt_chr;obtain⟨x,T,d,P,M,b,rfl,hk,i,ne,e,q⟩:=h;have old:pD M d=JG (vw M d)->wpAny (model X.prog X.w) X.A (call (.builtin "isinstance") us) (EP X pins Z Q) X.xe s:=fun et=>by
  rw[et]at ne e;exact zdf pins s Z H _ us Q I r ⟨x,T,vw M d,P,b,rfl,iB.vw hk i,ne,e,q⟩
 cases d with
 |ref k=>
  cases em:M[k]? with
  |none=>simp[pD,em]at ne
  |some c=>
   cases c with
   |lst ds=>exact old (by simp[pD,vw,em,JG])
   |obj c fs=>simp[pD,em]at ne
   |dcf kvs=>simp[pD,em]at ne
   |dtf kvs=>simp[pD,em]at ne
   |fn i caps=>simp[pD,em]at ne
   |tpc ds=>simp[pD,em]at ne
   |tbl nm i=>simp[pD,em]at ne
   |dct kvs=>
    obtain⟨u,w',rfl,rx,rT⟩:=vals2 r;cases rT;obtain⟨kl,rfl⟩:k<P.n/\x=.ref (P.io k):=i;cases rx;obtain⟨vs,ev,_⟩:=hk.cell k _ em;obtain⟨_,_,vs',_,o,es,ep,h1,h2,_⟩:=I.hok _ _ ev;simp only[pD,em]at e;exact xbK W.kitx_dict I.kIn ⟨o,h1,h2.1⟩ e (fun z=>nomatch z) fun tk=>⟨.bl b,H,I.tok _,rfl,q⟩
   |dtc kvs=>simp[pD,em]at ne
 |non=>exact old rfl
 |bl _=>exact old rfl
 |int _=>exact old rfl
 |str _=>exact old rfl
 |tup _=>exact old rfl
 |lst _=>exact old rfl
def zdk (ht:∀t b,tb t T=some b->W.kitOne X.K (.type t) (.type T)=some b)(he:SE X Wx .bor e f)(hg:Gl X "isinstance")(hm:X.mg "isinstance"=none)(hg':Gl X (Str.ofString T))(hm':X.mg (Str.ofString T)=none)(hT:bootBuiltins (Str.ofString T)=some (.type T))
  (n1:Str.ofString T≠"__name__":=by x_go) (n2:(Str.ofString T==("__debug__":Str))=false:=by x_go) (hs:starEach [e,.Name (Str.ofString T) p'] X.env=(false,eval e X.env)::starEach [.Name (Str.ofString T) p'] X.env:=by rfl):
  SE X Wx m (.Call (.Name "isinstance" p) [e,.Name (Str.ofString T) p'] [] pos) (xQ tb T f):=by
 have pT:PE X (.Name (Str.ofString T) p') (tC (.ty T)):=zf4 hg' hm' hT rfl n1 n2;refine gJ (zb9 zdA hg hm boot_isinstance (tY he (tY pT xM) hs) (by x_go) (by x_go) hs rfl) ?_;k_go;unfold xQ at e;cb_eq
 .kj_one
  .cases e
  .rename_i hne;rw[xam]at e;obtain⟨b,eb,e⟩:=e;cases e;exact eE k e1 fun P1 v1 H1 l1 h1 i1=>⟨v1,T,d,P1,_,b,rfl,h1,i1,hne,ht _ _ eb,q P1 _ H1 l1 h1 (gW.of h1 (show Is _ _ _ (.bl b) _ from rfl))⟩
 .o_norm
end
section
variable {X:Cx}{Wx:XW}{m:Mode}{pos:Pos}
noncomputable def JB:D->Option Str
 |.str z=>if z.length<=sizeLine then some z else none
 |.int i=>if i.natAbs.log2<1920 then some (toString i) else none
 |_=>none
abbrev EJ:=Str->Env->Mm->O
def pU:EJ:=fun out _ M=>if out.length<=sizeLine then some (.v (.str out),M) else none
def pR (z:Str)(ps:EJ):EJ:=fun out env M=>if (out++z).length<=sizeLine then ps (out++z) env M else none
def u_ (f:E)(ps:EJ):EJ:=fun out env M=>bnd (f env M) fun d M1=>match JB d with
 |some y=>if (out++y).length<=sizeLine then ps (out++y) env M1 else none
 |none=>none
def tJ (K:Fgx)(mg:Mgx)(Wx:XW)(ps:EJ):TJ:=fun out st H Q=>tE K mg Wx .val (ps out) st H Q
def SJ (X:Cx)(Wx:XW)(vs:Lex)(ps:EJ):Prop:=PJ X vs (tJ X.K X.mg Wx ps)
def Mp (h:PJ X vs t)(w:∀out Z H Q,t' out Z H Q->t out Z H Q):PJ X vs t':=fun pins s Z H out Q I hw=>h pins s Z H out Q I (w out Z H Q hw)
def ze6:SJ X Wx [] pU:=by
 refine Mp TY ?_;rintro out st H Q ⟨P0,H0,P,Os,env,M,r,M',k,e,q⟩;unfold pU at e;kj_one
 .rename_i hl;cases e;exact⟨hl,q P _ H (LtE.refl P H) k.hk rfl⟩
 .cases e
def ze3 (h:SJ X Wx vs ps)(hz:z.length<=sizeLine:=by x_go):SJ X Wx (.Constant (.str z) n pos::vs) (pR z ps):=by
 refine Mp (Ml h hz) ?_;rintro out st H Q ⟨P0,H0,P,Os,env,M,r,M',k,e,q⟩;unfold pR at e;kj_one
 .rename_i hl;exact⟨hl,P0,H0,P,Os,env,M,r,M',k,e,q⟩
 .cases e
def zgH {K:Fgx}{P:Pl}{H:Hp}{d:D}{v:V}{y:Str}(h:JB d=some y)(i:Is K P H d v):textV v=some y:=by
 unfold JB at h;kjx_on
 .cases i;exact h
 .cases i;exact h
 .cases h
def zg6 (he:SE X Wx .val e f)(h:SJ X Wx vs ps):SJ X Wx (.FormattedValue e (-1) none pos::vs) (u_ f ps):=by
 refine Mp (T3 he h) ?_;rintro out st H Q ⟨P0,H0,P,Os,env,M,r,M',k,e,q⟩;unfold u_ at e;cb_eq
 .kj_one
  .rename_i y ey;kj_one
   .rename_i hl;exact eE k e1 fun P1 v1 H1 l1 h1 i1=>⟨y,zgH ey i1,hl,P0,H0,P1,Os,env,M1,r,M',k.next l1 h1,e,RQ.imp l1 q⟩
   .cases e
  .cases e
 .o_norm
def pZ (ps:EJ):E:=ps Str.empty
def zeN (h:SJ X Wx (v::w::vs) ps):SE X Wx m (.JoinedStr (v::w::vs) pos) (pZ ps):=by
 have h':SE X Wx .val (.JoinedStr (v::w::vs) pos) (pZ ps):=gJ (TV h) fun st H Q z=>z;exact h'.bor
def zA (c:E)(b:S):Nat->Env->Mm->OS
 |0,_,_=>none
 |n+1,env,M=>match c env M with
  |some (.v (.bl true),M1)=>(match b env M1 with
   |some (.nx e,M2)=>zA c b n e M2
   |some (.ct e,M2)=>zA c b n e M2
   |some (.bk e,M2)=>some (.nx e,M2)
   |some (.rt d,M2)=>some (.rt d,M2)
   |some (.ex x k,M2)=>some (.ex x k,M2)
   |none=>none)
  |some (.v (.bl false),M1)=>some (.nx env,M1)
  |some (.x x k,M1)=>some (.ex x k,M1)
  |_=>none
def yE (n:Nat)(c:E)(b:S):S:=fun env M=>zA c b n env M
def Ol (n:Nat)(hp:PassesOwn (model X.prog X.w) X.A X.env X.xe)(hc:ST X Wx c t)(hb:SB X Wx body b):SS X Wx (.While c body [] pos) (yE n t b):=by
 refine nj (zd4 hp hc hb) ?_;by_in;refine⟨fun m Z H1=>∃P1 Os1 M1 env1,Lt P H P1 H1/\Ok X.K X.mg P0 H0 P1 Os1 H1 M1 Z env1/\zA t b m env1 M1=some (out,M'),⟨n,P,Os,M,env,Lt.refl _ _,k,e⟩,?_⟩;rintro m Z H1 ⟨P1,Os1,M1,env1,lt,k1,e1⟩
 cases m with
 |zero=>cases e1
 |succ m=>
  simp only[zA]at e1;split at e1
  .rename_i M2 ec;refine rm k1 ec ⟨true,rfl,fun P2 H2 l2 h2=>?_⟩;dsimp only;rw[xaa rfl];have k2:=k1.next l2 h2
   have lt2:=lt.trans (l2.lt k1.hk);refine⟨fun Z' H'=>∃P1 Os1 M1 env1,Lt P H P1 H'/\Ok X.K X.mg P0 H0 P1 Os1 H' M1 Z' env1/\zA t b m env1 M1=some (out,M'),fun Z' H' z=>⟨m,xbH m,z⟩,?_⟩;split at e1
   .rename_i e' M3 eb;exact⟨P0,H0,P2,Os1,env1,M2,_,_,k2,eb,fun P' Os2 H2 st2 l2 k3=>⟨P',Os2,_,e',lt2.trans l2,k3,e1⟩⟩
   .rename_i e' M3 eb;exact⟨P0,H0,P2,Os1,env1,M2,_,_,k2,eb,fun P' Os2 H2 st2 l2 k3=>⟨P',Os2,_,e',lt2.trans l2,k3,e1⟩⟩
   .rename_i e' M3 eb;cases e1;exact⟨P0,H0,P2,Os1,env1,M2,_,_,k2,eb,fun P' Os2 H2 st2 l2 k3=>q P' Os2 H2 st2 (lt2.trans l2) k3⟩
   .rename_i d M3 eb;cases e1;exact⟨P0,H0,P2,Os1,env1,M2,_,_,k2,eb,q⟩
   .rename_i x k' M3 eb;cases e1;exact⟨P0,H0,P2,Os1,env1,M2,_,_,k2,eb,q⟩
   .cases e1
  .rename_i M2 ec;cases e1;refine rm k1 ec ⟨false,rfl,fun P2 H2 l2 h2=>?_⟩;dsimp only;rw[xac (by decide)];exact q P2 Os1 H2 Z (lt.trans (l2.lt k1.hk)) (k1.next l2 h2)
  .rename_i x k' M2 ec;cases e1;exact rm k1 ec q
  .cases e1
def nu:Lnx->List D->Env->Option Env
 | [],[],env=>some env
 |i::is,d::ds,env=>if i<env.length then nu is ds (env.set i (.val d)) else none
 |_,_,_=>none
def SG (X:Cx)(ts:Lex)(is:Lnx):Prop:=∃t,Fz X ts t/\∀P0 H0 P Os st H M env env' ds vs Q,Ok X.K X.mg P0 H0 P Os H M st env->aL X.K P H ds vs->nu is ds env=some env'->(∀Os' st',Ok X.K X.mg P0 H0 P Os' H M st' env'->Q st' H)->t vs st H Q
def Jl:SG X [] []:=⟨_,zgM,fun P0 H0 P Os st H M env env' ds vs Q k is e q=>by
 cases ds with
 |nil=>cases e;exact⟨is,q _ _ k⟩
 |cons d ds=>cases e⟩
def yG (hN:X.N.Nodup)(hi:X.N[i]? =some x)(hx:Loc X.env.scope x)(hr:SG X ts is)(hf:X.fn x=true\/X.env.scope.names.lookup x=some .local:=by first |exact .inl rfl |exact .inr rfl)
  (hs:(assignEach (.Name x p::ts) X.env).map (·.2)=assign (.Name x p) X.env::(assignEach ts X.env).map (·.2):=by rfl):SG X (.Name x p::ts) (i::is):=by
 obtain⟨t,h1,h2⟩:=hr;refine⟨_,zeF (Mj hN hi hx hf) h1 hs,fun P0 H0 P Os st H M env env' ds vs Q k is e q=>?_⟩
 cases ds with
 |nil=>cases e
 |cons d ds=>
  obtain⟨v,r,rfl,iv,is⟩:=is;simp only[nu]at e;kj_one
  .rename_i hl;exact⟨v,r,rfl,h2 _ _ _ _ _ _ _ _ _ _ _ _ (k.asg hl iv) is e q⟩
  .cases e
def tR (is:Lnx)(f:E):S:=fun env M=>fK (f env M) fun d M1=>match d with
 |.tup ds=>if ds.length=is.length then(nu is ds env).map fun e=>(.nx e,M1) else none
 |_=>none
def Oj (hc:X.calm=true)(hg:SG X ts is)(he:SE X Wx .val e f)(hn:(assignEach ts X.env).length=is.length:=by rfl)(hst:(assignEach ts X.env).findIdx? (·.1)=none:=by rfl)
  (hs:swapsWithSole [.Tuple ts n p] e pos.line X.env=pure false:=by rfl) (hw:swappedStores [.Tuple ts n p] e X.env=pure none:=by rfl) (h1:(assignEach [.Tuple ts n p] X.env).map (·.2)=[assign (.Tuple ts n p) X.env]:=by rfl):
  SS X Wx (.Assign [.Tuple ts n p] e pos) (tR is f):=by
 obtain⟨t,hp,ht⟩:=hg;refine nj (zeW he (zfg (n:=is.length) hc hp hn hst) hs hw h1) ?_;by_in;unfold tR at e;sr_in
 .cases d<;>simp only[reduceCtorEq]at e
  rename_i ds;kj_one
  .rename_i hl;rw[xam]at e;obtain⟨env',ee,e⟩:=e;cases e;kj_on;obtain⟨a,vs,rfl,sq,is'⟩:=i1;exact⟨a,vs,rfl,sq,by rw[is'.len];exact hl,ht _ _ _ _ _ _ _ _ _ _ _ _ (k.next l1 h1) is' ee fun Os' st' k'=>q _ _ _ _ (l1.lt k.hk) k'⟩
  .cases e
 .o_norm
end
end E3
namespace E3
open PySem L2
section
variable {env:Env}{M M1 M2:Mm}{f g v:E}{d e x:D}{i:Int}{k:Nat}{ds:List D}{fa:EA}{b:Bool}
def QM:Option (List D×Mm)->O
 |some (ys,M)=>some (.v (.lst ys),M)
 |none=>none
def Xh (q e:E)(env:Env):Option (ResA×Mm)->O
 |some (.v ds,M1)=>QM (rD q e env ds [] M1)
 |some (.x c n,M1)=>some (.x c n,M1)
 |none=>none
theorem zi5 {cs:Lsn}{q e:E}:pB cs fa q e env M=Xh q e (m_ cs env) (fa env M):=rfl
theorem zjq {q e:E}:Xh q e env (some (.v ds,M))=QM (rD q e env ds [] M):=rfl
theorem zgA:QM (some (ds,M))=some (.v (.lst ds),M):=rfl
theorem ziW:m_ [] env=[]:=rfl
theorem zhW {x:Str}{n:Nat}{cs:Lsn}:m_ ((x,n)::cs) env=(env[n]?).getD .un::m_ cs env:=rfl
def zj (tb:String->String->Option Bool)(T:String)(M:Mm)(ty:String):O:=if ty="" then none else(tb ty T).map fun b=>(.v (.bl b),M)
def Hs (tb:String->String->Option Bool)(T:String)(r:O):O:=bnd r fun d M=>zj tb T M (pD M d)
theorem zla {tb:String->String->Option Bool}{T:String}:xQ tb T f env M=Hs tb T (f env M):=rfl
theorem zlf {tb:String->String->Option Bool}{T:String}:Hs tb T (some (.v d,M))=zj tb T M (pD M d):=rfl
theorem ty_int:pD M (.int i)="int":=rfl
theorem zhA:pD M (.lst ds)="list":=rfl
theorem zk9 {tb:String->String->Option Bool}{T:String}:zj tb T M "int"=(tb "int" T).map fun b=>(.v (.bl b),M):=rfl
theorem zjX {tb:String->String->Option Bool}{T:String}:zj tb T M "list"=(tb "list" T).map fun b=>(.v (.bl b),M):=rfl
def zjb {kvs:List (Key×D)}(h:M[k]? =some (.dct kvs)):Br M (.ref k)=some (k,kvs):=by unfold Br;simp only[h]
def Q0 {kvs:List (Key×D)}{key:Key}(h:M[k]? =some (.dct kvs))(h4:toKey e=some key):dk M (.ref k) e=some (k,kvs,key):=by simp only[dk,zjb h,h4,xaR]
def Xp {M3:Mm}{kvs:List (Key×D)}{key:Key}(h0:v env M=some (.v x,M1))(h1:f env M1=some (.v (.ref k),M2))(h2:g env M2=some (.v e,M3))(h3:M3[k]? =some (.dct kvs))(h4:toKey e=some key)(h5:kvs.length<sizeLine):En f g v env M=some (.nx env,M3.set k (.dct (nq kvs key x))):=by
 simp only[En,fK,h0,h1,h2,Q0 h3 h4,h5,xa8]
def wW {kvs:List (Key×D)}{key:Key}{y:Bool}(h1:g env M=some (.v e,M1))(h2:f env M1=some (.v (.ref k),M2))(h3:M2[k]? =some (.dct kvs))(h4:toKey e=some key):tO y g f env M=some (.v (.bl (if y then(gH kvs key).isSome else !(gH kvs key).isSome)),M2):=by
 simp only[tO,bnd,h1,h2,Q0 h3 h4]
def O6 {c:E}{b:S}(Q:OS->Prop)(J:Nat->Env->Mm->Prop){n:Nat}(h0:∃m,m<n/\J m env M)
  (hs:∀m env M,J m env M->∃y M1,c env M=some (.v (.bl y),M1)/\if y=true then Step (fun e M=>∃m',m'<m/\J m' e M) Q (b env M1) else Q (some (.nx env,M1))):Q (yE n c b env M):=by
 have key:∀(n m:Nat) (env:Env) (M:Mm),m<n->J m env M->Q (zA c b n env M):=by
  intro n
  induction n with
  |zero=>intro m env M h;exact absurd h (xcn _)
  |succ n ih=>
   intro m env M hm hJ;obtain⟨y,M1,h1,h2⟩:=hs m env M hJ
   cases y with
   |false=>simp only[zA,h1];exact h2
   |true=>
    simp only[zA,h1];rw[xaa rfl]at h2
    cases eb:b env M1 with
    |none=>rw[eb]at h2;exact h2.elim
    |some o=>
     rw[eb]at h2;obtain⟨o,M'⟩:=o
     cases o with
     |nx e'=>obtain⟨m',h3,h4⟩:=h2;exact ih m' e' M' (by lia) h4
     |ct e'=>obtain⟨m',h3,h4⟩:=h2;exact ih m' e' M' (by lia) h4
     |bk e'=>exact h2
     |rt d=>exact h2
     |ex c n=>exact h2
 obtain⟨m,h1,h2⟩:=h0;exact key n m env M h1 h2
def JH (is:Lnx)(env:Env)(M:Mm):D->OS
 |.tup ds=>if ds.length=is.length then(nu is ds env).map fun e=>(.nx e,M) else none
 |_=>none
theorem zln {is:Lnx}:tR is f env M=j4 (fun d M1=>JH is env M1 d) (f env M):=rfl
theorem zk5 {is:Lnx}:JH is env M (.tup ds)=if ds.length=is.length then(nu is ds env).map fun e=>(.nx e,M) else none:=rfl
theorem zgh:nu [] [] env=some env:=rfl
theorem zgt {n:Nat}{is:Lnx}:nu (n::is) (d::ds) env=if n<env.length then nu is ds (env.set n (.val d)) else none:=rfl
end
end E3
namespace L2
def zgI {X:Cx}{body suite:List Stmt}{b0:Stmt}{cn:Str}{np hp pos:Pos}{c:Addr}{tb:Ends->TS}{th:TS}
  (hs:X.stack=X.env::X.outer) (hf:X.env.frame=some X.env.locals) (hc:X.calm=true) (hg:Gl X cn) (hm:X.mg cn=some (.ref c)) (q:eU X.K c=true) (hdb:(cn==("__debug__":Str))=false)
  (hb:∀(pins:Pnx) (D:Ends),nA (X.pin pins fun e s'=>∃Z' H' a C dx T,e=.ref a/\Caught X pins Z' H' s' a C dx T/\eU X.K C=true/\kW X.K C c=true/\
   th {D with bk:=fun _ _=>False,ct:=fun _ _=>False} Z' H') body (tb D))
  (hh:∀e,nA (X.suite e) (b0::suite) th):
  PS X (.Try body [.ExceptHandler (some (.Name cn np)) none (b0::suite) hp] [] [] pos) (fun D Z H=>tb D D Z H):=by
 tb_src;refine wpAny_Try_except (xbc (hb pins D [] s Z H D (I.to_pin _) h) (fun f s1 z=>?_) fun e s1 z=>?_)
 .cases f with
  |next=>obtain⟨Z',H',J,q⟩:=z;exact xcm ⟨Z',H',J.of_pin,q⟩
  |brk=>obtain⟨Z',H',J,q⟩:=z;exact⟨Z',H',J.of_pin,q⟩
  |cont=>obtain⟨Z',H',J,q⟩:=z;exact⟨Z',H',J.of_pin,q⟩
  |ret u=>obtain⟨v,Z',H',J,r,q⟩:=z;exact⟨v,Z',H',J.of_pin,r,q⟩
 .obtain⟨Z',H',a,C,dx,T,rfl,K1,q1,q2,z⟩:=z;refine K1.note hs hf fun s2 T2 K2=>?_;have hd:=I.ok.hd hc;kas_ty;have hit:(Value.ref C::bm).contains (.ref c)=true:=by
   unfold kW at q2;rw[lk]at q2;exact q2
  obtain⟨hh2,g,d,tk,os⟩:=s2;refine zdn Y.obj Y'.obj e1 e2 (Y'.tail.hasType xbB.hasBase) ?_;rw[hit];refine codeAny_handlers_suite (K2.off fun s3 K3=>?_);refine xbc (hh (.ref a) pins s3 _ H' _ (K3.inv.to_suite _) z) (fun f s5 y=>?_) fun _ _ y=>False.elim y
  cases f with
  |next=>
   obtain⟨Z5,H5,I5,y⟩:=y;exact⟨Z5,H5,I5.of_suite hd,y⟩
  |brk=>obtain⟨_,_,_,y⟩:=y;exact False.elim y
  |cont=>obtain⟨_,_,_,y⟩:=y;exact False.elim y
  |ret u=>
   obtain⟨v,Z5,H5,I5,rv,y⟩:=y;exact⟨v,Z5,H5,I5.of_suite hd,rv,y⟩
end L2
namespace E3
open L2
section
variable {X:Cx}{Wx:XW}{pos:Pos}
def Aw (cat:Str->Bool)(b h:S):S:=fun env M=>match b env M with
 |some (.ex c _,M1)=>if cat c=true then(match h env M1 with
  |some (.nx env',M2)=>some (.nx env',M2)
  |some (.rt d,M2)=>some (.rt d,M2)
  |_=>none) else none
 |o=>o
def zda 
  (hs:X.stack=X.env::X.outer) (hf:X.env.frame=some X.env.locals) (hc:X.calm=true) (hg:Gl X cn) (hm:X.mg cn=some (.ref c)) (q:eU X.K c=true)
  (hcat:∀c',cat c'=true->∃C,X.mg c'=some (.ref C)/\eU X.K C=true/\kW X.K C c=true) (hb:∀pins E,BX (X.pin pins E) body b) (hh:∀e,SB (X.suite e) W0 (b0::suite) h) (hdb:(cn==("__debug__":Str))=false:=by x_go):
  SS X Wx (.Try body [.ExceptHandler (some (.Name cn np)) none (b0::suite) hp] [] [] pos) (Aw cat b h):=by
 let Ex:Ends->L2.St->XK:=fun D Z Cv dx H'=>∀a C,Cv=.ref C->H' a=some (xo a C dx false)->eU X.K C=true/\kW X.K C c=true/\tS X.K X.mg W0 h {D with bk:=fun _ _=>False,ct:=fun _ _=>False} Z H'
 refine nj (zgI (tb:=fun D=>Oo X.K X.mg (Ex D) b) (th:=tS X.K X.mg W0 h) hs hf hc hg hm q hdb (fun pins D=>hb pins _ (Ex D) fun pins' Z H s e s' I z=>?_) hh) ?_
 .obtain⟨a,C,dx,H',T,rfl,K1,hE⟩:=QD (X:=X) I.of_pin z;obtain⟨z1,z2,z3⟩:=hE a C rfl K1.obj;exact⟨Z,H',a,C,dx,T,rfl,K1,z1,z2,z3⟩
 .by_in;unfold Aw at e;kj_one
  .rename_i c' n' M1 e1;kj_one
   .rename_i hct;obtain⟨C,hmC,x1,x2⟩:=hcat c' hct;refine⟨P0,H0,P,Os,env,M,_,_,k,e1,fun P1 H1 C1 dx l1 h1 m1 xn a C2 eC ea=>?_⟩;cases eC;cases hmC.symm.trans m1;have k1:=k.next l1 h1
    refine⟨x1,x2,?_⟩;kj_one
    .rename_i env' M2 e2;cases e;exact⟨P0,H0,P1,_,_,M1,_,_,k1,e2,fun P2 Os2 H2 st2 l2 k2=>q P2 _ H2 _ ((l1.lt k.hk).trans l2) k2⟩
    .rename_i d M2 e2;cases e;exact⟨P0,H0,P1,_,_,M1,_,_,k1,e2,q⟩
    .cases e
   .cases e
  .rename_i o hne;refine⟨P0,H0,P,Os,env,M,_,_,k,e,?_⟩
   cases out with
   |ex c n=>exact absurd e (hne c n M')
   |nx env=>exact q
   |bk env=>exact q
   |ct env=>exact q
   |rt d=>exact q
end
section
variable {env:Env}{M M1 M2:Mm}{s t:S}{d:D}{c:Str}{cat:Str->Bool}{a:Int}
def JT (h1:s env M=some (.ex c a,M1))(h2:cat c=true)(h4:t env M1=some (.rt d,M2)):Aw cat s t env M=some (.rt d,M2):=by
 simp only[Aw,h1,h2,xa8,h4]
def JR (h1:s env M=some (.nx env',M1)):Aw cat s t env M=some (.nx env',M1):=by
 simp only[Aw,h1]
end
section
variable {es:Lex}{env:PySem.Env}{pos:Pos}
theorem aQ:starEach (.Constant c k pos::es) env=(false,eval (.Constant c k pos) env)::starEach es env:=by rfl
theorem aP:starEach (.Name x pos::es) env=(false,eval (.Name x pos) env)::starEach es env:=by rfl
theorem gB:starEach (.BinOp a o b pos::es) env=(false,eval (.BinOp a o b pos) env)::starEach es env:=by rfl
theorem za6:starEach (.UnaryOp o a pos::es) env=(false,eval (.UnaryOp o a pos) env)::starEach es env:=by rfl
theorem gQ:starEach (.Call f as ks pos::es) env=(false,eval (.Call f as ks pos) env)::starEach es env:=by rfl
theorem zaE:starEach (.Attribute a x pos::es) env=(false,eval (.Attribute a x pos) env)::starEach es env:=by rfl
theorem fL:starEach (.Subscript a b pos::es) env=(false,eval (.Subscript a b pos) env)::starEach es env:=by rfl
theorem pC:starEach (.Tuple as k pos::es) env=(false,eval (.Tuple as k pos) env)::starEach es env:=by rfl
theorem CW:starEach (.ListComp a gs sc pos::es) env=(false,eval (.ListComp a gs sc pos) env)::starEach es env:=by rfl
end
end E3
namespace L2
def zcy {P:Program}{w:World}{K:Fgx}{mg:Mgx}{base:Heap}{N:Lsx}{qual:Str}{scope:Scope}{f:Addr}{cd:Value}{A:Around}{outer:List PySem.Env}{E:XK}{s:Shared}{H H1:Hp}{s1:Shared}{pins:Pnx}{Z:St}{a C T:Addr}{dx:Option Addr}
  (c:Caught (lC (ud P w) P w K mg base N qual scope f cd A outer s H E) pins Z H1 s1 a C dx T) (hE:E (.ref C) dx H1):(lC (ud P w) P w K mg base N qual scope f cd A outer s H E).xe (.ref a) s1:=by
 show wpAny _ _ (leaving _ _) _ _ _;unfold leaving;refine xab (Caught.note c rfl rfl fun s' T' c'=>?_);have I:=c'.inv;have hL:s.heap.get? (envOfC qual scope s.heap.objs.size f cd).locals=none:=xcb I.ok.above;have u1:Un (s.heap.objs.size::frs outer) [] H H1 s.heap s'.heap:=Un.mono (fs':=s.heap.objs.size::frs outer) (ex':=[]) I.base (fun b hb=>xat _ hb) fun b hb=>hb;exact⟨a,C,dx,H1,T',rfl,I.os,I.bare,u1.less hL,I.hok,c'.obj,c'.hT,c'.t1,c'.fl,hE⟩
end L2
namespace E3
open L2
structure XPass (X:Cx)(Wx:XW):Prop where
 xc:∀pins Z H s a C dx T c n P0 H0 P M,Caught X pins Z H s a C dx T->LtE P0 H0 P H->Hk X.K X.mg P H M->X.mg c=some (.ref C)->XN H n dx->Wx P0 H0 M c n->X.xe (.ref a) s
section
variable {X:Cx}{Wx:XW}{m:Mode}
def SX.se (F:XPass X Wx)(h:SX X e f):SE X Wx m e f:=by
 have h':SE X Wx .val e f:=by
  let Ex:L2.St->XK:=fun Z Cv dx H'=>∀pins s' a C T,Cv=.ref C->Caught X pins Z H' s' a C dx T->X.xe (.ref a) s'
  refine gJ (h Ex fun pins Z H s e s' I z=>?_) ?_
  .obtain⟨a,C,dx,H',T,rfl,K1,hE⟩:=QD I z;exact hE pins s' a C T rfl K1
  .k_go;refine⟨P0,H0,P,Os,env,M,r,M',k,e,?_⟩
   cases r with
   |v d=>exact q
   |x c n=>
    intro P' H' C dx l hk hm xn pins s' a C' T eC ca;cases eC;exact F.xc pins st H' s' a C dx T c n P0 H0 P' M' ca (k.base.trans l) hk hm xn q
 exact h'.bor
end
section
variable {P:Program}{w:World}{K:Fgx}{mg:Mgx}{base:Heap}{k:Nat}{x qual:Str}{st:Stmt}{f:Addr}{fd:FuncData}{N ps:Lsx}{b:S}
def zgk (F:FunD K x qual st f fd)(S:FnScope N ps (b_ st))(hp:ps.length<=N.length)
  (hb:∀cdv A outer s H E Wx,Room k (A.deeper (envOfC qual (b_ st) s.heap.objs.size f cdv))->XFit (yq P w K mg base N qual st f cdv A outer s H E) Wx->XPass (yq P w K mg base N qual st f cdv A outer s H E) Wx->SB (yq P w K mg base N qual st f cdv A outer s H E) Wx (k_ st) b):FnOk P w K mg base (ud P w) (k+1) f fd ps (Vi K mg ps.length (fJ N.length b)):=by
 obtain⟨oc,od,dV,kV,doc,pm,an,cdv,ct,osl,rfl,lk,hcd⟩:=F.ex;refine Rj lk hcd S (fun vs H Q E h=>h.1) fun A outer s H vs Q E hr h=>?_;obtain⟨hl,Pl,M,ds,r,M',hk,is,e,q⟩:=h;have XF:XFit (yq P w K mg base N qual st f cdv A outer s H E) (fun P0 H0 M1 c n=>P0=Pl/\H0=H/\M1=M'/\r=.x c n):=⟨fun pins Z H1 s1 a C dx c n P0 H0 P1 M1 I ea nb n0 l h m xn ⟨e1,e2,e3,e4⟩=>by
  subst e1 e2 e3 e4;have sure:∀b,upd H1 a (xo a C dx false) b=none->H1 b=none:=fun b z=>by
   by_cases hb:b=a
   .subst hb;rw[gA]at z;cases z
   .rw[eN hb]at z;exact z
  have l1:LtE P0 H0 P1 (upd H1 a (xo a C dx false)):=⟨l.n,l.io,l.bd,l.bm,fun b o eb nb=>by
   rw[eN (fun z=>by rw[z,n0]at eb;cases eb)];exact l.keep b o eb nb,fun b z=>l.sure b (sure b z),l.nw⟩
  have h1:=h.away (H':=upd H1 a (xo a C dx false)) (fun b o eb nx=>by
   rw[eN (fun z=>by rw[z,ea]at eb;cases eb;exact nx _ rfl)];exact eb) sure
  refine zeo I ea (q P1 _ C dx l1 h1 m ?_)
  cases dx with
  |none=>exact xn
  |some d=>
   obtain⟨fs,ed,el⟩:=xn;exact⟨fs,by rw[eN (fun z=>by rw[z,ea]at ed;cases ed)];exact ed,el⟩⟩
 have XP:XPass (yq P w K mg base N qual st f cdv A outer s H E) (fun P0 H0 M1 c n=>P0=Pl/\H0=H/\M1=M'/\r=.x c n):=⟨fun pins Z H1 s1 a C dx T c n P0 H0 P1 M1 ca l h m xn ⟨e1,e2,e3,e4⟩=>by
  subst e1 e2 e3 e4;exact zcy ca (q P1 _ C dx l h m xn)⟩
 refine⟨_,hb cdv A outer s H E _ hr XF XP,?_⟩;unfold fJ lD at e;have st0:=zb7 (N:=N) hk (by lia) is;kj_one
 .rename_i d' M2 eb;cases e;exact⟨Pl,H,Pl,_,_,M,_,_,st0,eb,fun P' v H' l h i=>q P' v H' l h i⟩
 .rename_i env M2 eb;cases e;exact⟨Pl,H,Pl,_,_,M,_,_,st0,eb,fun P' Os' H' st' _ k'=>q P' .non H' k'.base k'.hk rfl⟩
 .rename_i c n M2 eb;cases e;exact⟨Pl,H,Pl,_,_,M,_,_,st0,eb,⟨rfl,rfl,rfl,rfl⟩⟩
 .cases e
end
section
variable {K:Fgx}{P:Pl}{H:Hp}
noncomputable def yh:List D->Option (List Bool)
 | []=>some []
 |.bl b::ds=>(yh ds).map (b:: ·)
 |_::_=>none
theorem Qy:∀{ds:List D} {bs:List Bool} {vs:List V},yh ds=some bs->aL K P H ds vs->vs=bs.map V.bl
 | [],_,_,e,h=>by cases e;exact h
 |d::ds,bs,vs,e,h=>by
  obtain⟨v,r,rfl,i,h⟩:=h
  cases d with
  |bl n=>
   simp only[yh,xam]at e;obtain⟨bs',e',rfl⟩:=e;cases i;rw[Qy e' h];rfl
  |_=>simp[yh]at e
theorem Dp:∀(bs:List Bool),yh (bs.map D.bl)=some bs
 | []=>rfl
 |b::bs=>by simp[yh,Dp bs]
noncomputable def yJ:List D->Option (Lsx)
 | []=>some []
 |.str z::ds=>(yJ ds).map (z:: ·)
 |_::_=>none
theorem Vo:∀{ds:List D} {zs:Lsx} {vs:List V},yJ ds=some zs->aL K P H ds vs->vs=zs.map V.str
 | [],_,_,e,h=>by cases e;exact h
 |d::ds,zs,vs,e,h=>by
  obtain⟨v,r,rfl,i,h⟩:=h
  cases d with
  |str n=>
   simp only[yJ,xam]at e;obtain⟨zs',e',rfl⟩:=e;cases i;rw[Vo e' h];rfl
  |_=>simp[yJ]at e
theorem strs_map:∀(zs:Lsx),yJ (zs.map D.str)=some zs
 | []=>rfl
 |b::bs=>by simp[yJ,strs_map bs]
noncomputable def gq:List D->Option D
 | [.int i]=>if i.natAbs.log2<1920 then some (.str (toString i)) else none
 |_=>none
def pK:yd K (fun xs H Q=>∃i,xs=[.int i]/\i.natAbs.log2<1920/\Q (.str (toString i)) H) gq:=fun P H ds z vs Q h i _ q=>by
 unfold gq at h;kjx_on
 .kjx_on
  .rename_i hl;kfm_hd;cases h;cases p;exact⟨_,rfl,hl,q _ H (Same.refl H) rfl⟩
  .cases h
 .cases h
noncomputable def sS:List D->Option D
 | [.str z]=>if z.length<=640 then(intText? z).map .int else none
 |_=>none
def Mr:yd K (fun xs H Q=>∃z n,xs=[.str z]/\intText? z=some n/\z.length<=640/\Q (.int n) H) sS:=fun P H ds z vs Q h i _ q=>by
 unfold sS at h;kjx_on
 .kjx_on
  .rename_i hl;rw[xam]at h;obtain⟨n,en,rfl⟩:=h;kfm_hd;cases p;exact⟨_,n,rfl,en,hl,q _ H (Same.refl H) rfl⟩
  .cases h
 .cases h
def wM:List D->Option D
 | [.lst ds]=>(yh ds).map fun bs=>.bl (bs.any id)
 |_=>none
def zfh:yd K (fun xs H Q=>∃(p:Addr) (bs:List Bool),xs=[.ref p]/\gn K H p (bs.map V.bl)/\Q (.bl (bs.any id)) H) wM:=fun P H ds z vs Q h i _ q=>by
 unfold wM at h;kjx_on
 .rw[xam]at h;obtain⟨is,ei,rfl⟩:=h;kfm_hd;obtain⟨a,us,rfl,r,s⟩:=p;rw[Qy ei s]at r;exact⟨a,is,rfl,r,q _ H (Same.refl H) rfl⟩
 .cases h
def uh:List D->Option D
 | [.lst ds]=>(yh ds).map fun bs=>.bl (bs.all id)
 |_=>none
def T9:yd K (fun xs H Q=>∃(p:Addr) (bs:List Bool),xs=[.ref p]/\gn K H p (bs.map V.bl)/\Q (.bl (bs.all id)) H) uh:=fun P H ds z vs Q h i _ q=>by
 unfold uh at h;kjx_on
 .rw[xam]at h;obtain⟨is,ei,rfl⟩:=h;kfm_hd;obtain⟨a,us,rfl,r,s⟩:=p;rw[Qy ei s]at r;exact⟨a,is,rfl,r,q _ H (Same.refl H) rfl⟩
 .cases h
def gP:List D->Option D
 | [.lst ds]=>some (.tup ds)
 | [.tup ds]=>some (.tup ds)
 |_=>none
def tZ:yd K (fun xs H Q=>∃p ys,xs=[.ref p]/\((gn K H p ys/\∀l,H l=none->Q (.ref l) (upd H l (.tup ys)))\/(gO K H p ys/\Q (.ref p) H))) gP:=fun P H ds z vs Q h i _ q=>by
 unfold gP at h;kjx_on
 .kfm_hd;cases h;obtain⟨a,us,rfl,r,s⟩:=p;exact⟨a,us,rfl,.inl ⟨r,Td s q⟩⟩
 .kfm_hd;cases h;obtain⟨a,us,rfl,r,s⟩:=p;exact⟨a,us,rfl,.inr ⟨r,q _ H (Same.refl H) ⟨a,us,rfl,r,s⟩⟩⟩
 .cases h
end
section
variable {X:Cx}{Wx:XW}{m:Mode}{pos:Pos}
def Dj (K:Fgx)(r:V->List V->Hp->VK->Prop)(o:Str->List D->Option D):Prop:=∀(P:Pl) (H:Hp) (y:Str) (ds:List D) (z:D) (vs:List V) (Q:VK),o y ds=some z->yM K P H ds vs->(∀p,H p=none->¬ P.bd p)->(∀u H',Same H H'->Is K P H' z u->Q u H')->r (.str y) vs H Q
def lZ (o:Str->List D->Option D)(f:E)(fs:EA):E:=fun env M=>bnd (f env M) fun d M1=>match d with
 |.str y=>nR (fs env M1) fun ds M2=>(o y (ds.map (vw M2))).map fun z=>(.v z,M2)
 |_=>none
def su {a e:Expr}{es:Lex}{name:Str}{id:String}{r:V->List V->Hp->VK->Prop}{o:Str->List D->Option D}{f:E}{fs:EA}{p:Pos}(slot:PySem.Slot "str" name id)(hty:typeOf (.builtin id)=pure (.type "method_descriptor"))(hm:zW X id r)(po:Dj X.K r o)(ha:SE X Wx .val a f)(hs:SA X Wx .bor (e::es) fs)
  (hbase:attributeBase a name X.env (eval a X.env)=eval a X.env:=by rfl)
  (hfew:((backTo pos (starEach (e::es) X.env)).all (fun x=> !x.1)&&(backToKw pos (keywordEach [] X.env)).all (fun x=>x.1.isSome)&&decide ((e::es).length+([]:List Keyword).length+(if ([]:List Keyword).isEmpty then 0 else 1)<30))=true:=by rfl)
  (hline:(p.endLine==pos.line)=true:=by rfl) (hst:starEach (e::es) X.env=(false,eval e X.env)::starEach es X.env:=by rfl) (hplain:(backTo pos (starEach es X.env)).any (·.1)=false:=by rfl):
  SE X Wx m (.Call (.Attribute a name p) (e::es) [] pos) (lZ o f fs):=by
 refine gJ (Ej F.plainAttrs_str slot hty hm ha hs hbase hfew hline hst hplain) ?_;k_go;unfold lZ at e;cb_eq
 .cases d<;>simp only[reduceCtorEq]at e
  rename_i y;kj_on;have k1:=k.next l1 h1
  cases i1;refine⟨rfl,?_⟩;rcases zZ e with⟨ds,M2,e2,e⟩ |⟨c,n,e2,rfl⟩
  .kpa_ne;exact⟨P0,H0,P1,Os,env,M1,_,_,k1,e2,fun P2 vs H2 l2 h2 i2=>po P2 H2 y _ z vs Q ez (kE.w h2 i2) h2.new fun u H' s i=>q P2 u H' (l1.trans (l2.trans (LtE.same s))) (h2.same s) (gW.of (h2.same s) i)⟩
  .exact⟨P0,H0,P1,Os,env,M1,_,_,k1,e2,q⟩
 .o_norm
def pO (z:Str):List D->Option D
 | [.lst ds]=>match yJ ds with
  |some ys=>if z.length<=16/\(ys.map (·.length)).sum+ys.length<=1048576 then some (.str (Txt.join z ys)) else none
  |none=>none
 |_=>none
def Cq {K:Fgx}:Dj K (rJoin K) pO:=fun P H y ds z vs Q h i _ q=>by
 unfold pO at h;kjx_on
 .kjx_on
  .rename_i ys ey;kjx_on
   .rename_i hl;cases h;kfm_hd;obtain⟨a,us,rfl,r,s⟩:=p;rw[Vo ey s]at r;exact⟨y,a,ys,rfl,rfl,r,hl.1,hl.2,q _ H (Same.refl H) rfl⟩
   .cases h
  .cases h
 .cases h
noncomputable def Ov (z:Str):List D->Option D
 | [.str y]=>some (.bl (Txt.startswith z y))
 |_=>none
def zdm {K:Fgx}:Dj K zc9 Ov:=fun P H y ds z vs Q h i _ q=>by
 unfold Ov at h;kjx_on
 .cases h;kfm_hd;cases p;exact⟨_,_,rfl,rfl,q _ H (Same.refl H) rfl⟩
 .cases h
noncomputable def Ot (z:Str):List D->Option D
 | [.str y]=>if z.length<=sizeLine then some (.str (Txt.lstripChars z y)) else none
 |_=>none
def zdi {K:Fgx}:Dj K zdd Ot:=fun P H y ds z vs Q h i _ q=>by
 unfold Ot at h;kjx_on
 .kjx_on
  .rename_i hl;cases h;kfm_hd;cases p;exact⟨_,_,rfl,rfl,hl,q _ H (Same.refl H) rfl⟩
  .cases h
 .cases h
def zL (f g h:E):E:=fun env M=>bnd (f env M) fun d M1=>match Br M1 d with
 |some _=>bnd (g env M1) fun y M2=>bnd (h env M2) fun x M3=>(match dk M3 d y with
  |some (_,kvs,k)=>some (.v ((gH kvs k).getD x),M3)
  |none=>none)
 |none=>none
def Od {o e e':Expr}{f g h:E}{p:Pos}(hu:X.A.units+60<cLine)(ho:SE X Wx .val o f)(he:SE X Wx .val e g)(he':SE X Wx .val e' h)(hm:L2.M2 X o "get" p e e' pos:=by exact⟨rfl,rfl,rfl,rfl⟩):SE X Wx m (.Call (.Attribute o "get" p) [e,e'] [] pos) (zL f g h):=by
 refine gJ (zew (xcG (xcB (by decide) _) hu) ho he he' hm) ?_;rintro st H Q ⟨P0,H0,P,Os,env,M,r,M',k,ee,q⟩;unfold zL at ee;rcases gU ee with⟨d,N1,e1,ea⟩ |⟨c,n,e1,rfl⟩
 .kj_on;have k1:=k.next l1 h1
  split at ea
  .rename_i pr ed;obtain⟨j,kvs0⟩:=pr;obtain⟨rfl,em0⟩:=Xr ed;obtain⟨jl,rfl⟩:j<P1.n/\v1=.ref (P1.io j):=i1;obtain⟨vs0,ev0,_,_⟩:=h1.cell j _ em0;refine⟨_,rfl,.inl ⟨vs0,.inl ev0⟩,?_⟩;rcases gU ea with⟨y,N2,e2,eb⟩ |⟨c,n,e2,rfl⟩
   .kri_at;have k2:=k1.next l2 h2
    rcases gU eb with⟨x,N3,e3,ec⟩ |⟨c,n,e3,rfl⟩
    .refine eE k2 e3 fun P3 v3 H3 l3 h3 i3=>?_;split at ec
     .rename_i j' kvs key ek;cases ec;obtain⟨ej,em,et⟩:=Q5 ek;cases ej;obtain⟨vs,ev,en,is⟩:=h3.cell j _ em;have g:=V9 (k:=key) (kvs:=kvs) (vs:=vs) ⟨en,is⟩;rw[l3.io j (xar jl l2.n),l2.io j jl]at ev;have i2':=Is.lt (l3.lt h2) i2;refine⟨gR vs key,by rw[key_is et i2'];exact nQ.k ev,?_⟩
      cases hd:gH kvs key with
      |none=>
       rw[hd]at g q;have g':gR vs key=none:=g;rw[g'];exact q P3 _ H3 (l1.trans (l2.trans l3)) h3 (gW.of h3 i3)
      |some z=>
       rw[hd]at g q;obtain⟨v,gv,iv⟩:=g;rw[gv];exact q P3 _ H3 (l1.trans (l2.trans l3)) h3 (gW.of h3 iv)
     .cases ec
    .exact eE k2 e3 q
   .exact eE k1 e2 q
  .cases ea
 .o_norm
end
noncomputable def lH (tb:List (Str×D)) (z:Str):Option D:=(tb.find? fun p=>decide (p.1=z)).map (·.2)
inductive KRows (K:Fgx)(w:World):List (Str×D)->List DictEntry->List (Key×Value)->Prop
 |nil:KRows K w [] [] []
 |cons {z:Str} {d:D} {t:Tok} {u:Value} {v:V} {hs:Int} {tb:List (Str×D)} {es:List DictEntry} {vs:List (Key×Value)}:hs=hashStr w z->RelV v u->(∀P H,Is K P H d v)->KRows K w tb es vs->KRows K w ((z,d)::tb) (⟨hs,.str z t,u⟩::es) ((.inr z,u)::vs)
def KTab (K:Fgx)(w:World)(a:Addr)(tb:List (Str×D)):Prop:=∃o es ep vs,K.lookup a=some o/\o.ExactDict/\o.data=.dict es ep/\KRows K w tb es.toList vs/\(tb.map (·.1)).Nodup/\(a==sysModules)=false
section
variable {K:Fgx}{w:World}{prog:Program}
theorem YW:∀{tb:List (Str×D)} {es:List DictEntry} {vs:List (Key×Value)},KRows K w tb es vs->(∀e∈es,∃k,(lX prog w).is k e.key=true/\e.hash=(lX prog w).hash k)/\Pairs (lX prog w) es vs/\vs.map (·.1)=tb.map fun p=>(.inr p.1:Key)
 |_,_,_,.nil=>⟨fun e h=>(by cases h),.nil,rfl⟩
 |_,_,_,.cons (z:=z) (t:=t) h1 h2 h3 r=>by
  obtain⟨a,b,c⟩:=YW r;refine⟨fun e he=>?_,.cons (Sh prog w z t) rfl b,by rw[xai,xai,c]⟩;rw[xaz]at he;rcases he with rfl |he
  .exact⟨.inr z,Sh prog w z t,h1⟩
  .exact a e he
theorem R0:∀{tb:List (Str×D)} {es:List DictEntry} {vs:List (Key×Value)},KRows K w tb es vs->match lH tb z with
  |some d=>∃u v,valueAt vs (.inr z:Key)=some u/\RelV v u/\∀P H,Is K P H d v
  |none=>valueAt vs (.inr z:Key)=none
 |_,_,_,.nil=>rfl
 |_,_,_,.cons (z:=y) (d:=d) (u:=u) (v:=v) (tb:=tb) (vs:=vs) h1 h2 h3 r=>by
  by_cases e:y=z
  .subst e;have a:lH ((y,d)::tb) y=some d:=by simp[lH,xba]
   have b:valueAt ((.inr y,u)::vs) (.inr y:Key)=some u:=by simp[valueAt,xba]
   rw[a];exact⟨u,v,b,h2,h3⟩
  .have a:lH ((y,d)::tb) z=lH tb z:=by simp[lH,xba,e]
   have b:valueAt ((.inr y,u)::vs) (.inr z:Key)=valueAt vs (.inr z):=by simp[valueAt,xba,e]
   rw[a,b];exact R0 r
def KTab.dict (t:KTab K w a tb)(X:K.In h):∃es vs,KRows K w tb es vs/\h.DictOf (lX prog w) a vs/\(a==sysModules)=false:=by
 obtain⟨o,es,ep,vs,l,x,d,r,nd,ns⟩:=t;obtain⟨r1,r2,r3⟩:=YW (prog:=prog) r;refine⟨es.toList,vs,r,⟨o,es,ep,X a o l,x,d,fun e he=>r1 e (by simpa using he),r2,?_⟩,ns⟩;rw[r3];have:(tb.map fun p=>(Sum.inr p.1:Key))=(tb.map (·.1)).map Sum.inr:=by rw[xa4];rfl
 rw[this];exact List.pairwise_map.mpr (List.Pairwise.imp (fun h q=>h (xei q)) nd)
end
section
variable {X:Cx}{Wx:XW}{m:Mode}{pos:Pos}
def tQ (b:Bool)(tb:List (Str×D))(f:E):E:=fun env M=>bnd (f env M) fun d M1=>match d with
 |.str z=>some (.v (.bl (if b then(lH tb z).isSome else !(lH tb z).isSome)),M1)
 |_=>none
def CG (tb:List (Str×D))(f:E):E:=fun env M=>bnd (f env M) fun d M1=>match d with
 |.str z=>(lH tb z).map fun y=>(.v y,M1)
 |_=>none
theorem YX {z:Str}{K:Fgx}{w:World}{tb:List (Str×D)}{es:List DictEntry}{vs:List (Key×Value)}(r:KRows K w tb es vs):(valueAt vs (.inr z:Key)).isSome=(lH tb z).isSome:=by
 have g:=R0 (z:=z) r
 cases h:lH tb z with
 |none=>rw[h]at g;have g':valueAt vs (.inr z:Key)=none:=g;rw[g'];rfl
 |some d=>rw[h]at g;obtain⟨u,v,e,_⟩:=g;rw[e];rfl
def ziC {i:Expr}{ty:TE}{nm:Str}{p:Pos}{a:Addr}{tb:List (Str×D)}(hi:PE X i ty)(hg:Gl X nm)(hm:X.mg nm=some (.ref a))(t:KTab X.K X.w a tb)(hdb:(nm==("__debug__":Str))=false):
  PC X .In i (.Name nm p) (fun Z H Q=>ty Z H fun y H1=>∃z,y=.str z/\Q (.bl (lH tb z).isSome) H1):=by
 fen_go;refine aW (hi pins s Z H _ I h) fun iv s1 ⟨y,H1,I1,ry,z,ey,q⟩=>wB I1 hg hm ?_ hdb;subst ey;obtain⟨es,vs,r,dd,ns⟩:=t.dict (prog:=X.prog) I1.kIn;refine wpAny_in_of (k:=(.inr z:Key)) (zp (k:=.inr z) ry) ns dd.mapOf ?_;rw[YX r];exact⟨.bl _,H1,I1.tok _,rfl,q⟩
def zcU {i:Expr}{ty:TE}{nm:Str}{p:Pos}{a:Addr}{tb:List (Str×D)}(hi:PE X i ty)(hg:Gl X nm)(hm:X.mg nm=some (.ref a))(t:KTab X.K X.w a tb)(hdb:(nm==("__debug__":Str))=false):
  PC X .NotIn i (.Name nm p) (fun Z H Q=>ty Z H fun y H1=>∃z,y=.str z/\Q (.bl (!(lH tb z).isSome)) H1):=by
 fen_go;refine aW (hi pins s Z H _ I h) fun iv s1 ⟨y,H1,I1,ry,z,ey,q⟩=>wB I1 hg hm ?_ hdb;subst ey;obtain⟨es,vs,r,dd,ns⟩:=t.dict (prog:=X.prog) I1.kIn;refine wpAny_notIn_of (k:=(.inr z:Key)) (zp (k:=.inr z) ry) ns dd.mapOf ?_;rw[YX r];exact⟨.bl _,H1,I1.tok _,rfl,q⟩
def YT {b:Bool}{tb:List (Str×D)}{f:E}{st:L2.St}{H:Hp}{Q:VK}(w:tE X.K X.mg Wx m (tQ b tb f) st H Q):tE X.K X.mg Wx .val f st H fun y H1=>∃z,y=.str z/\Q (.bl (if b then(lH tb z).isSome else !(lH tb z).isSome)) H1:=by
 obtain⟨P0,H0,P,Os,env,M,r,M',k,e,q⟩:=w;unfold tQ at e;rcases gU e with⟨d,N1,e1,e⟩ |⟨c,n,e1,rfl⟩
 .cases d<;>simp only[reduceCtorEq]at e
  rename_i z;cases e;exact eE k e1 fun P1 v1 H1 l1 h1 i1=>⟨z,i1,q P1 _ H1 l1 h1 (gW.of h1 (show Is _ _ _ (.bl _) _ from rfl))⟩
 .o_norm
def zgO (hi:SE X Wx .val i f)(hg:Gl X nm)(hm:X.mg nm=some (.ref a))(t:KTab X.K X.w a tb)(hdb:(nm==("__debug__":Str))=false:=by x_go)(hb:behindInMarks .In (.Name nm p)=false:=by rfl):ST X Wx (.Compare i [.In] [.Name nm p] pos) (tQ true tb f):=
 Cj (T7 (ziC hi hg hm t hdb) hb) fun _ _ _ w=>YT (b:=true) (JD w)
def Oe (hi:SE X Wx .val i f)(hg:Gl X nm)(hm:X.mg nm=some (.ref a))(t:KTab X.K X.w a tb)(hdb:(nm==("__debug__":Str))=false:=by x_go)(hs:Fy i:=by exact fun _ _=>rfl):SE X Wx m (.Subscript (.Name nm p) i pos) (CG tb f):=by
 have h':PE X (.Subscript (.Name nm p) i pos) (fun Z H Q=>tE X.K X.mg Wx .val f Z H fun y H1=>∃z d,y=.str z/\lH tb z=some d/\∀v,(∀P H,Is X.K P H d v)->Q v H1):=by
  fen_go;refine zfE F.slot_dict_getitem.lookup hs (wB I hg hm ?_ hdb);refine aW (hi pins s Z H _ I h) fun iv s2 ⟨y,H2,I2,ry,z,d,ey,ed,q2⟩=>?_;subst ey;obtain⟨es,vs,r,dd,ns⟩:=t.dict (prog:=X.prog) I2.kIn;have g:=R0 (z:=z) r;rw[ed]at g;obtain⟨u,v,e1,e2,e3⟩:=g;exact⟨dd.typeIs,wpAny_getItem_of (k:=(.inr z:Key)) (zp (k:=.inr z) ry) dd.mapOf e1 ⟨v,H2,I2.tok _,e2,q2 v e3⟩⟩
 refine gJ h' ?_;k_go;unfold CG at e;rcases gU e with⟨d,N1,e1,e⟩ |⟨c,n,e1,rfl⟩
 .cases d<;>simp only[reduceCtorEq]at e
  rename_i z;rw[xam]at e;obtain⟨y,ey,e⟩:=e;cases e;exact eE k e1 fun P1 v1 H1 l1 h1 i1=>⟨z,y,i1,ey,fun v iv=>q P1 v H1 l1 h1 (gW.of h1 (iv P1 H1))⟩
 .o_norm
end
section
variable {X:Cx}{Wx:XW}
def Ho (f:E):EA:=fun env M=>match f env M with
 |some (.v (.str z),M1)=>some (.v (z.cps.toList.map fun c=>.str ⟨#[c]⟩),M1)
 |some (.x c n,M1)=>some (.x c n,M1)
 |_=>none
def ziu (h:SE X Wx .val e f):SI X Wx tg e (Ho f):=by
 refine Ir (zht h) ?_;rintro st H R ⟨P0,H0,P,Os,env,M,r,M',k,e,q⟩;unfold Ho at e;kj_one
 .rename_i z M1 ef;cases e;refine⟨P0,H0,P,Os,env,M,_,_,k,ef,fun P1 v1 H1 l1 h1 i1=>⟨z,i1,q P1 H1 _ l1 h1 fun P2 H2 l2=>?_⟩⟩;have hl:(z.cps.toList.map fun c=>(D.str ⟨#[c]⟩)).length=z.cps.size:=by simp
  rw[hl];refine⟨fun j hj=>hj,fun j h1 h2=>xa7 h2 h1,fun j x H' y hj=>⟨y.1,?_⟩⟩;obtain⟨c,ec,rfl⟩:=y.2;refine⟨.str ⟨#[c]⟩,?_,rfl⟩;rw[xau,xcV,ec];rfl
 .kfm_eq
 .cases e
end
end E3
namespace L2
theorem zb0:Manifest.owners.lookup (String.ofList ['d','e','s','r','e','v','e','r'].reverse)=some Manifest.sig_reversed:=by kernel_rfl
theorem zfz:Slot "reversed" "__init__" "object.__init__":=
 .of (owner:="object") (n:="__init__") (by rw[xco,xbM];kernel_rfl) (by x_go) (by x_go) (by x_go)
  (by first |exact .inl (by x_go) |exact .inr (by x_go)) (by rw[xcK];kernel_rfl)
theorem Ja:Slot "reversed" "__next__" "reversed.__next__":=
 .of (owner:="reversed") (n:="__next__") (by rw[xco,xbM];kernel_rfl) (by x_go) (by x_go) (by x_go)
  (by first |exact .inl (by x_go) |exact .inr (by x_go)) (by rw[xcK];kernel_rfl)
theorem zdu:Slot "reversed" "__iter__" "reversed.__iter__":=
 .of (owner:="reversed") (n:="__iter__") (by rw[xco,xbM];kernel_rfl) (by x_go) (by x_go) (by x_go)
  (by first |exact .inl (by x_go) |exact .inr (by x_go)) (by rw[xcK];kernel_rfl)
theorem zax:entryFor table "reversed.__next__"=some Builtin.«reversed.__next__» :=entryFor_of_tree (by kernel_rfl)
theorem zaH (a:Value):argsOk "reversed.__next__" ⟨[a],[]⟩:=by
 unfold argsOk;rw[signature?_of (id:="reversed.__next__") (n:=['_','_','t','x','e','n','_','_']) (o:=['d','e','s','r','e','v','e','r']) (by kernel_rfl) zb0];kernel_rfl
theorem zbh:entryFor table "reversed.__iter__"=some Builtin.«dict_keyiterator.__iter__» :=
 entryFor_alias (id':="dict_keyiterator.__iter__") (by kernel_rfl) (by first |rfl |decide +kernel |(unfold String.splitOn;simp +decide [String.splitOnAux])) (by x_go) (by kernel_rfl)
theorem zbD (a:Value):argsOk "reversed.__iter__" ⟨[a],[]⟩:=by
 unfold argsOk;rw[signature?_of (id:="reversed.__iter__") (n:=['_','_','r','e','t','i','_','_']) (o:=['d','e','s','r','e','v','e','r']) (by kernel_rfl) zb0];kernel_rfl
def zcS:TypeCalled "reversed" "reversed.__new__" "object.__init__":=
 ⟨by x_go,by x_go,⟨_,_,F.mro_reversed⟩,F.made_reversed,F.plain_reversed_new,F.sub_reversed_self,zfz⟩
theorem zfo:typeLookup (.type "tuple") "__reversed__"=pure none:=by rw[xco,xbM];kernel_rfl
theorem zfq:isSubtype (.type "tuple") (.type "dict")=pure false:=by rw[xcK];kernel_rfl
noncomputable def rvT (a:Addr) (i:Int):Obj:={cls:=.type "reversed",data:=.fields #[.ref a,rawInt i]}
def uf (h:Heap)(a t:Addr)(i:Int):Prop:=∃o,h.get? a=some o/\o.cls=.type "reversed"/\o.data=.fields #[.ref t,rawInt i]
def uf.typeIs {s:Shared}{a l:Addr}{i:Int}(x:uf s.heap a l i):s.TypeIs (.ref a) "reversed":=let ⟨o,ho,hc,_⟩:=x;⟨o,ho,hc⟩
def uf.at (x:uf h a l i)(e:∀o,h.get? a=some o->h'.get? a=some o):uf h' a l i:=let ⟨o,ho,r⟩:=x;⟨o,e _ ho,r⟩
theorem zil (t:Addr)(items:Avx):Meets (Builtin.«reversed.__new__» ⟨[.type "reversed",.ref t],[]⟩) (fun _ R s=>IsTup s.heap t items/\(items.size:Int)<2^63/\
  R (.ok (.ret (.ref s.heap.objs.size))) {s with heap:=s.heap.push (rvT t ((items.size:Int)-1)),toks:=s.toks+1+1}):=
 .of_wp fun prog w A R s ⟨ht,hf,h⟩=>by
  unfold Builtin.«reversed.__new__»;refine xab (xb0 (newClass_reversed _) ?_)
  try dsimp only
  refine xab (xb0 (a:=()) (by first |rfl |kernel_rfl) ?_)
  refine xab (xb0 (a:=()) (by first |rfl |kernel_rfl) ?_)
  try dsimp only
  refine xab (xdb ht.typeIs zfo ?_)
  try dsimp only
  refine xab ?_;show wpAny _ _ (do
   if <-isInstance (.ref t) (.type "dict") then return false
   match <-specialOf (.ref t) "__getitem__" with
   |none=>return false
   |some (.builtin id)=>
    if ["tuple.__getitem__","str.__getitem__","bytes.__getitem__","bytearray.__getitem__","memoryview.__getitem__","numpy.ndarray.__getitem__","sqlite3.Row.__getitem__"].contains id then return true
    if id=="sqlite3.Blob.__getitem__" then return false
    unsupported "reversed.__new__:is-it-a-sequence"
   |some _=>return true:Sem Bool) _ _ s
  refine xab (xcx ht.typeIs zfq ?_);rw[xac (by decide)];refine xab (xdb ht.typeIs xdp.lookup ?_)
  try dsimp only
  rw[xaa (by x_go)];refine xan ?_;rw[xac (by decide)];refine xab (len_tuple ht hf ?_);refine xab (m:=asInt? _) (xb0 (a:=some (items.size:Int)) (by first |rfl |kernel_rfl) ?_)
  try dsimp only
  unfold Builtin.SmallTypes.newRecord
  try dsimp only
  refine xab (xbb ?_ (by size_fits));exact xan ⟨_,rfl,h⟩
section
variable {prog:Program}{w:World}{A:Around}{E:Vsp}{s:Shared}
def zep (ht:IsTup s.heap t items)(hf:(items.size:Int)<2^63)
  (h:Q (.ref s.heap.objs.size) {s with heap:=s.heap.push (rvT t ((items.size:Int)-1)),toks:=s.toks+1+1}):wpAny (model prog w) A (call (.type "reversed") [.ref t]) Q E s:=
 callType_new zcS (by decide) (F.typeCall_reversed_1 _) (F.newCall_reversed_1 _) (fun obj=>F.args_object_init_2 obj _) F.entry_reversed_new (zil t items) ⟨ht,hf,⟨_,xaJ _ rfl,rfl⟩,h⟩
def YB {it l:Addr}{i:Int}{Q:Vsp}(hit:uf s.heap it l i)(h:Q (.ref it) s):wpAny (model prog w) A (pyIter (.ref it)) Q E s:=by
 refine wpAny_pyIter_slot hit.typeIs zdu (xcT zdu hit.typeIs zbh ?_ (zbD _));show wpAny _ _ (ret (.ref it)) _ _ s;exact xan ⟨_,rfl,"reversed",_,hit.typeIs,Ja.lookup,h⟩
def zeq {it l:Addr}{i:Nat}{items:Avx}{x:Value}{Q:Option Value->Shared->Prop}(hit:uf s.heap it l (i:Int))(hl:IsTup s.heap l items)(hx:items[i]? =some x)(hf:(items.size:Int)<2^63)
  (hQ:∀h',uf h' it l ((i:Int)-1)->Heap.SameBut it s.heap h'->Q (some x) {s with heap:=h',toks:=s.toks+1}):wpAny (model prog w) A (pyNext (.ref it)) Q E s:=by
 obtain⟨o,ho,hc,hd⟩:=id hit;have hi:i<items.size:=by
  rcases xa2 i items.size with z |z
  .exact z
  .rw[Array.getElem?_eq_none z]at hx;cases hx
 unfold pyNext;refine xab (xdw (xcL (name:=Str.ofString "__next__") hit.typeIs Ja
  (xcT Ja hit.typeIs zax ?_ (zaH _))))
 unfold Builtin.«reversed.__next__»;refine xab (xb0 (a:=(Value.ref it,[])) rfl ?_)
 try dsimp only
 refine xab (xbs ho hd (x:=.ref l) rfl ?_);refine xab (xbs ho hd (x:=rawInt (i:Int)) rfl ?_);show wpAny _ _ (if (i:Int)<0 then _ else _) _ _ s
 rw[xac (by lia)];refine xab (xdb hl.typeIs xdp.lookup ?_);rw[xac (by simp)];refine xab (wpAny_mkInt ?_);refine xab (xdw (getItem_tuple (k:=(i:Int)) (j:=i) (s:={s with toks:=s.toks+1}) hl (by lia) (by lia) ?_ hx ?_))
 .exact xdT (by lia) (by lia)
 show wpAny _ _ (field (Value.ref it) 1 >>=_) _ _ _;refine xab (xbs (s:={s with toks:=s.toks+1}) ho hd (x:=rawInt (i:Int)) rfl ?_);show wpAny _ _ (setField (Value.ref it) 1 (rawInt ((i:Int)-1)) >>=_) _ _ _;refine xab (xcd (s:={s with toks:=s.toks+1}) ho hd (by simp) ?_);refine xan ⟨x,rfl,xan (hQ _ ?_ (xdi ..))⟩;exact⟨_,xbe _ ho (xbx (xaY hd _)),(xcO ..).trans hc,by
  rw[xaY hd];simp⟩
def zfV {it l:Addr}{Q:Option Value->Shared->Prop}(hh:A.handled=none)(hit:uf s.heap it l (-1))
  (hQ:∀h',Heap.ExtBut it s.heap h'->Q none {s with heap:=h'}):wpAny (model prog w) A (pyNext (.ref it)) Q E s:=by
 obtain⟨o,ho,hc,hd⟩:=id hit;unfold pyNext;refine xab (xdw (xcL (name:=Str.ofString "__next__") hit.typeIs Ja
  (xcT Ja hit.typeIs zax ?_ (zaH _))))
 unfold Builtin.«reversed.__next__»;refine xab (xb0 (a:=(Value.ref it,[])) rfl ?_)
 try dsimp only
 refine xab (xbs ho hd (x:=.ref l) rfl ?_);refine xab (xbs ho hd (x:=rawInt (-1)) rfl ?_);show wpAny _ _ (if (-1:Int)<0 then _ else _) _ _ s
 rw[xaa (by decide)];refine xab (wpAny_rule ?_);refine xab ?_;show wpAny _ _ (setField (.ref it) 1 (rawInt (-1)) >>=fun _=>setField (.ref it) 0 .none) _ _ s;refine xab (xcd ho hd (by simp) ?_);refine xcd (xbe _ ho (xbx (xaY hd _))) (xaY hd _) (by simp) ?_;refine xab ?_;show wpAny _ _ (newExc (.type "StopIteration") [] >>=_) _ _ _;refine xab ?_;simp only[newExc,newTuple];refine xab (xbb ?_ (by size_fits));refine xab (m:=firstArgMember _ _) (xb0 (a:=Value.none) (by first |rfl |(simp only[firstArgMember];rfl)) ?_)
 refine xbb ?_ (by size_fits);simp only[raiseNew];refine xab (wpAny_handled ?_)
 first |rw[show A.in1.handled=none from hh] |rw[hh]
 refine xab (xan (wpAny_throw ?_));refine xab (xcx (T:="StopIteration") (b:=true) ⟨_,xaJ _ rfl,rfl⟩ isSubtype_stop ?_);exact xan (hQ _ ((((xdi _ _ _).extBut).trans ((xdi _ _ _).extBut)).push _ |>.push _))
end
noncomputable def Wy (K:Fgx) (a:Addr) (n:Nat):It:=
 ⟨fun i H=>i<n/\∃xs,gO K H a xs/\xs.length=n,fun i H x H'=>H'=H/\∀xs,gO K H a xs->xs[n-1-i]? =some x,fun i _=>i=n⟩
def zdU {P:Program}{w:World}{K:Fgx}{tg:Expr}(a it:Addr)(n:Nat):Turn P w K tg (Wy K a n) [it] it (fun i h=>uf h it a ((n:Int)-1-(i:Int))) where
 mem:=by simp
 obj:=fun i h st b hb=>by
  have e:b=it:=by simpa using hb
  o_inst
 keep:=fun i h h' st k=>st.at fun o e=>k it (by simp) o e
 item:=by
  l_out;obtain⟨hi,xs,hq,hlen⟩:=hg;obtain⟨its,rv,p,hz⟩:=I.tuple hq;have hx:xs[n-1-i]? =some (xs[n-1-i]'(by lia)):=xaj (by lia);obtain⟨u,hu,ru⟩:=rv.get hx;k_same;have e:(n:Int)-1-(i:Int)=((n-1-i:Nat):Int):=by lia
  have st0:uf s.heap it a ((n-1-i:Nat):Int):=by rw[<-e];exact st
  have hn:=zx;have hl:=rv.length;refine zeq st0 p (x:=u) (by simpa using hu) (by simp only[xal];lia) fun h' st' sb=>?_;have e2:((n-1-i:Nat):Int)-1=(n:Int)-1-((i+1:Nat):Int):=by lia
  rw[e2]at st';have I1:Inv X pins Z H {s with heap:=h',toks:=s.toks+1}:=I.turned (t':=s.toks+1) (fun b o hb e=>(sb.2 b hb).trans e) f0 f1 f3 f4 f5;obtain⟨o,eo,c,d⟩:=id st';exact⟨u,rfl,BL (s:={s with heap:=h',toks:=s.toks+1}) eo c d (by decide) ⟨_,H,I1,ru,⟨rfl,fun ys hy=>by rw[I.tuple_inj hy hq];exact hx⟩,st',fun b hb=>(hf b hb).1⟩⟩
 done:=by
  l_out;have hg':i=n:=hg;subst hg';k_same;have e:(i:Int)-1-(i:Int)= -1:=by lia
  have st0:uf s.heap it a (-1):=by rw[<-e];exact st
  exact zfV (I.ok.hd hc) st0 fun h' eb=>⟨rfl,I.turned (t':=s.toks) (fun b o hb e=>eb b o hb e) f0 f1 f3 f4 f5⟩
 self:=fun _ _ _ _ _ st h=>YB st h
section
variable {X:Cx}{tg:Expr}
def zj7 (K:Fgx)(ta:TA):TI:=fun Z H R=>ta Z H fun vs H1=>∃a xs,vs=[.ref a]/\gO K H1 a xs/\R (Wy K a xs.length) H1
def ziD (hg:Gl X "reversed")(hm:X.mg "reversed"=none)(ha:PA X [a] ta)(hs:starEach [a] X.env=[(false,eval a X.env)]:=by rfl):PI X tg (.Call (.Name "reversed" p) [a] [] pos) (zj7 X.K ta):=by
 intro pins s Z H R I h;refine Call_ (D_ I hg hm boot_reversed (xb1 (aW (ha pos pins s Z H _ I h) fun us s1 ⟨vs,H1,I1,r1,q1⟩=>?_) hs rfl));obtain⟨b,xs,e,hq,q⟩:=q1;subst e;obtain⟨u,e,ru⟩:=vals1 r1;subst e;cases ru;obtain⟨its,rv,pl,hz⟩:=I1.tuple hq;have hlen:its.toArray.size=xs.length:=by rw[xal];exact rv.length.symm
 have hn:=zx;refine zep pl (by rw[hlen];lia) ?_;rw[hlen];refine YB (l:=b) (i:=(xs.length:Int)-1) ⟨_,xaJ _ rfl,rfl,rfl⟩ ?_;refine⟨s1.heap.objs.size,[s1.heap.objs.size],_,_,H1,rfl,I1.kept (t':=s1.toks+1+1) fun b o e=>xad _ e,zdU b _ xs.length,?_,fun c hc=>?_,q⟩
 .have e:(xs.length:Int)-1-((0:Nat):Int)=(xs.length:Int)-1:=by lia
  show uf _ _ b ((xs.length:Int)-1-((0:Nat):Int));rw[e];exact⟨_,xaJ _ rfl,rfl,rfl⟩
 .have e:c=s1.heap.objs.size:=by simpa using hc
  subst e;exact I1.fpOk (xag _) (I1.hok.fresh (xag _))
end
end L2
namespace E3
open L2
section
variable {X:Cx}{Wx:XW}{m:Mode}{pos:Pos}
def nY:D->D->Option D
 |.lst xs,.lst ys=>if xs.length+ys.length<=sizeLine then some (.lst (xs++ys)) else none
 |_,_=>none
def zen {K:Fgx}{P:Pl}{H:Hp}{d e z:D}{v w:V}(h:nY d e=some z)(h1:gC K P H d v)(h2:gC K P H e w):∃ds a b vs ws,z=.lst ds/\v=.ref a/\w=.ref b/\gn K H a vs/\gn K H b ws/\vs.length+ws.length<=sizeLine/\aL K P H ds (vs++ws):=by
 unfold nY at h;kjx_on
 .kjx_on
  .rename_i hl;cases h;obtain⟨a,vs,rfl,r1,s1⟩:=h1;obtain⟨b,ws,rfl,r2,s2⟩:=h2;exact⟨_,a,b,vs,ws,rfl,rfl,rfl,r1,r2,by rw[s1.len,s2.len];exact hl,s1.append s2⟩
  .cases h
 .cases h
def E_ {a b:Expr}{f g:E}(ha:SE X Wx .bor a f)(hb:SE X Wx .bor b g):SN X Wx (.BinOp a .Add b pos) (s2 nY f g):=by
 refine gJ (TX zdx ha hb) ?_;k_go;unfold s2 at e;cb_eq
 .kj_on;have k1:=k.next l1 h1
  rcases gU e with⟨d2,M2,e2,e⟩ |⟨c,n,e2,rfl⟩
  .kri_at;kpa_ne;obtain⟨ds',e',q⟩:=q;obtain⟨ds,a,b,vs,ws,ed,ea,eb,r1,r2,hl,is⟩:=zen ez (iB.vw h2 (iB.lt l2 h1 i1)) (iB.vw h2 i2);cases ed.symm.trans e';refine⟨a,b,vs,ws,ea,eb,r1,r2,hl,fun p hp=>?_⟩;obtain⟨l3,h3,nc⟩:=Gh (vs:=vs++ws) h2 hp;exact q (P2.bar p) p (vs++ws) _ (l1.trans (l2.trans l3)) h3 (l1.sure p (l2.sure p hp)) (.inr rfl) nc gA (aL.lt (l3.lt h2) is)
  .exact eE k1 e2 q
 .o_norm
def xu (f:E)(ps:EJ):EJ:=fun out env M=>bnd (f env M) fun d M1=>match d with
 |.str z=>if (reprText z).length<=sizeLine/\(out++reprText z).length<=sizeLine then ps (out++reprText z) env M1 else none
 |_=>none
def ziG (he:PE X e te)(hv:PJ X vs tj):PJ X (.FormattedValue e 114 none pos::vs) (fun out Z H Q=>te Z H fun v H1=>∃z,v=.str z/\(reprText z).length<=sizeLine/\(out++reprText z).length<=sizeLine/\tj (out++reprText z) Z H1 Q):=fun pins s Z H out Q I h=>by
 refine joinParts_cons (wpAny_FormattedValue_repr (aW (he pins s Z H _ I h) fun u s1 ⟨x,H1,I1,r1,z,ez,hz,hl,q⟩=>?_));subst ez;obtain⟨t,rfl⟩:=r1;refine pyReprObj_str ?_ hz;exact formatField_str (fun t' tk=>⟨hl,hv pins _ Z H1 _ Q (I1.tok _) q⟩) hz
def zjE (he:SE X Wx .val e f)(h:SJ X Wx vs ps):SJ X Wx (.FormattedValue e 114 none pos::vs) (xu f ps):=by
 refine Mp (ziG he h) ?_;rintro out st H Q ⟨P0,H0,P,Os,env,M,r,M',k,e,q⟩;unfold xu at e;cb_eq
 .cases d<;>simp only[reduceCtorEq]at e
  rename_i z;kj_one
  .rename_i hl;exact eE k e1 fun P1 v1 H1 l1 h1 i1=>⟨z,i1,hl.1,hl.2,P0,H0,P1,Os,env,M1,r,M',k.next l1 h1,e,RQ.imp l1 q⟩
  .cases e
 .o_norm
def zjc (hg:Gl X nm)(hm:X.mg nm=some (.ref a))(hd:∀P H,Is X.K P H d (.ref a))(hdb:(nm==("__debug__":Str))=false:=by x_go):SE X Wx m (.Name nm p) (aj d):=
 (Oc (vf hg hm (v:=.ref a) rfl hdb) hd).bor
def RD {K:Fgx}{a:Addr}{o:Obj}{its:Avx}{n:Nat}{ds:List D}{vs:List V}(l:K.lookup a=some o)(c:o.cls=.type "tuple")(e:o.data=.seq its n)(z:its.size<=sizeLine)(r:Vals vs its.toList)(i:∀P H,aL K P H ds vs):∀P H,Is K P H (.tup ds) (.ref a):=
 fun P H=>⟨a,vs,rfl,.inr ⟨o,its,n,l,c,e,z,r⟩,i P H⟩
def zc (fs:EA):EA:=fun env M=>match fs env M with
 |some (.v [.tup ds],M1)=>some (.v ds.reverse,M1)
 |some (.x c n,M1)=>some (.x c n,M1)
 |_=>none
def zh8 (hg:Gl X "reversed")(hm:X.mg "reversed"=none)(ha:SA X Wx .val [a] fs)(hs:starEach [a] X.env=[(false,eval a X.env)]:=by rfl):SI X Wx tg (.Call (.Name "reversed" p) [a] [] pos) (zc fs):=by
 refine Ir (ziD hg hm ha hs) ?_;rintro st H R ⟨P0,H0,P,Os,env,M,r,M',k,e,q⟩;unfold zc at e;kj_one
 .rename_i ds M1 ef;cases e;refine⟨P0,H0,P,Os,env,M,_,_,k,ef,fun P1 vs H1 l1 h1 i1=>?_⟩;obtain⟨v,ws,rfl,i1,rfl⟩:=i1;obtain⟨a,us,rfl,ra,is⟩:=i1;refine⟨a,us,rfl,ra,q P1 H1 _ l1 h1 fun P2 H2 l2=>?_⟩;have ra2:=l2.tup ra;have is2:=aL.lt l2 is;have hn:us.length=ds.length:=is2.len;rw[xaZ];refine⟨fun j hj=>⟨by lia,us,ra2,rfl⟩,fun j h1 h2=>by show j=us.length;lia,fun j x H' y hj=>⟨y.1,?_⟩⟩;have hj':ds.length-1-j<ds.length:=by lia
  obtain⟨v,ev,iv⟩:=aL.get is2 (xaj hj');have:=y.2 us ra2;rw[hn,ev]at this;cases this;exact⟨_,by rw[List.getElem?_reverse hj,xaj hj'],iv⟩
 .kfm_eq
 .cases e
end
end E3
namespace E3
open PySem L2
noncomputable def dg (n:Nat):Lnx:=(Nat.toDigits 10 n).map Char.toNat
def Dr (n:Nat):NumText.AllDigits (dg n):=fun c hc=>by
 obtain⟨d,hd,rfl⟩:=xaV.mp hc;have h:=Nat.isDigit_of_mem_toDigits (by decide) (by decide) hd;simp only[Char.isDigit,xak,xaH]at h;exact⟨h.1,h.2⟩
def Ks (n:Nat):dg n≠ []:=fun e=>Nat.toDigits_ne_nil (List.map_eq_nil_iff.mp e)
def Gs (h1:1<=k)(h:n<10^k):(dg n).length<=k:=by
 rw[dg,xah];exact toDigits_len_pow (by decide) h1 h
def zf0:dg 0=[48]:=by x_go
def Xz (n:Nat)(h:n≠0):∃c r,dg n=c::r/\49<=c:=by
 induction n using Nat.strongRecOn with
 |ind n ih=>
  unfold dg;rw[Nat.toDigits_eq_if (by decide)]
  by_cases hn:n<10
  .rw[xaa hn];exact⟨(Nat.digitChar n).toNat,[],rfl,(show ∀n<10,n≠0->49<=(Nat.digitChar n).toNat by decide) n hn h⟩
  .rw[xac hn];obtain⟨c,r,e,hc⟩:=ih (n/10) (by lia) (by lia);unfold dg at e;exact⟨c,r++_,by rw[xaI,e];rfl,hc⟩
noncomputable def eF (i:Int):Str:=Str.ofString (toString i)
def yI (h:0<=i):(eF i).cps.toList=dg i.toNat:=by
 have:=W.KIN.signs_num i.toNat;rw[xbk h]at this;exact this
def zc5 (h:i<0):(eF i).cps.toList=45::dg i.natAbs:=by
 obtain⟨m,rfl⟩:∃m,i=Int.negSucc m:=by
  cases i with
  |ofNat n=>exact absurd h (by simp)
  |negSucc m=>exact⟨m,rfl⟩
 unfold eF dg;rw[PyProof.Rows.signs_ofString];show List.map Char.toNat ("-"++toString (m+1)).toList=_;rw[String.toList_append,xaI,Nat.toString_eq_ofList_toDigits]
 simp
def Vc (h1:1<=k)(h:i.natAbs<10^k):(eF i).length<=k+1:=by
 show(eF i).cps.size<=k+1;rw[<-xch]
 by_cases h0:0<=i
 .rw[yI h0];have:=Gs (n:=i.toNat) h1 (by rw[<-Int.natAbs_of_nonneg h0]at *;simpa using h);lia
 .rw[zc5 (by lia),xae];have:=Gs h1 h;lia
def RB (h:i.natAbs<10^600):intText? (eF i)=some i:=by
 have hl:=Vc (by decide) h
 by_cases h0:0<=i
 .rw[intText_digits (by rw[yI h0];exact Dr _) (by rw[yI h0];exact Ks _) (by lia),yI h0];have:=W.KIN.val_back i.toNat;unfold dg;rw[this,xbk h0]
 .rw[intText_neg (zc5 (by lia)) (Dr _) (Ks _) (by lia)];have:=W.KIN.val_back i.natAbs;unfold dg;rw[this];congr 1;lia
noncomputable def jn (c:Nat):List (Lnx)->Lnx
 | []=>[]
 | [p]=>p
 |p::q::r=>p++c::jn c (q::r)
theorem Xm:∀{p q r s:Lnx},c∉p->c∉q->p++c::r=q++c::s->p=q/\r=s
 | [],[],_,_,_,_,h=>⟨rfl,by simpa using h⟩
 | [],d::q,_,_,_,hq,h=>by
  simp only[xbq,xbX,xb7]at h;exact absurd (h.1 ▸ xax) hq
 |d::p,[],_,_,hp,_,h=>by
  simp only[xbq,xbX,xb7]at h;exact absurd (h.1 ▸ xax) hp
 |d::p,e::q,r,s,hp,hq,h=>by
  simp only[xbX,xb7]at h;obtain⟨a,b⟩:=Xm (fun z=>hp (xat _ z)) (fun z=>hq (xat _ z)) h.2;exact⟨by rw[h.1,a],b⟩
theorem YG:∀{ps qs:List (Lnx)},ps≠ []->qs≠ []->(∀p∈ps,c∉p)->(∀q∈qs,c∉q)->jn c ps=jn c qs->ps=qs
 | [],_,h,_,_,_,_=>absurd rfl h
 |_,[],_,h,_,_,_=>absurd rfl h
 | [p],[q],_,_,_,_,h=>by simp only[jn]at h;rw[h]
 | [p],q::q'::r,_,_,hp,_,h=>by
  simp only[jn]at h;exact absurd (h ▸ (by simp:c∈q++c::jn c (q'::r))) (hp p xax)
 |p::p'::r,[q],_,_,_,hq,h=>by
  simp only[jn]at h;exact absurd (h ▸ (by simp:c∈p++c::jn c (p'::r))) (hq q xax)
 |p::p'::r,q::q'::s,_,_,hp,hq,h=>by
  simp only[jn]at h;obtain⟨a,b⟩:=Xm (hp p xax) (hq q xax) h;have:=YG (by simp) (by simp) (fun x hx=>hp x (xat _ hx)) (fun x hx=>hq x (xat _ hx)) b;rw[a,this]
noncomputable def cd (s:Str):Lnx:=s.cps.toList
def QG (h:cd a=cd b):a=b:=by
 obtain⟨x⟩:=a;obtain⟨y⟩:=b;have:x=y:=Array.toList_inj.mp h;rw[this]
def wR (a b:Str):cd (a++b)=cd a++cd b:=by
 unfold cd;rw[Str.cps_append,Array.toList_append]
theorem Vd (c:Nat):∀ps:Lsx,cd (Str.join ⟨#[c]⟩ ps)=jn c (ps.map cd)
 | []=>rfl
 | [p]=>rfl
 |p::q::r=>by
  show cd (p++(⟨#[c]⟩:Str)++Str.join ⟨#[c]⟩ (q::r))=_;rw[wR,wR,Vd c (q::r)]
  simp[jn,cd]
def Oh (hn:ps≠ [])(hf:∀p∈ps,c∉cd p)(hx:cd x=jn c (ps.map cd)):Txt.split x ⟨#[c]⟩=ps:=by
 have h1:=StrLaws.join_split x ⟨#[c]⟩;have h2:cd x=jn c ((Txt.split x ⟨#[c]⟩).map cd):=by rw[<-Vd,h1]
 have h3:(Txt.split x ⟨#[c]⟩)≠ []:=fun e=>by
  have:=PyProof.Rows.split_pos x ⟨#[c]⟩;rw[e]at this
  simp at this
 have h4:=YG (c:=c) (ps:=(Txt.split x ⟨#[c]⟩).map cd) (qs:=ps.map cd) (by simpa using h3) (by simpa using hn)
  (fun p hp=>by obtain⟨q,hq,rfl⟩:=xaV.mp hp;exact StrLaws.split_free x c q hq) (fun p hp=>by obtain⟨q,hq,rfl⟩:=xaV.mp hp;exact hf q hq) (h2.symm.trans hx)
 exact(List.map_inj_right (fun _ _=>QG)).mp h4
def zeD (h:cd x=c::r):cd (Txt.slice x (some 1) none)=r:=by
 have hl:(cd x).length=r.length+1:=by rw[h];rfl
 have:=xdd (x:=x) (i:=1) ⟨by decide,by show(1:Int)<=((cd x).length:Int);lia⟩;have e:=eq_of_beq this;rw[e];show List.take (((cd x).length:Int)-1).toNat (List.drop (1:Int).toNat (cd x))=r;rw[h]
 simp
def zcM (h:cd x=c::r):Txt.startswith x (Str.ofString "-")=decide (c=45):=by
 have hl:x.length=r.length+1:=by
  show x.cps.size=_;rw[<-xch];show(cd x).length=_;rw[h];rfl
 have e1:(Str.ofString "-").cps= #[45]:=by x_go
 have e2:(Str.ofString "-").length=1:=by x_go
 unfold Txt.startswith Builtin.Str.subAt;rw[e1,e2,hl];have e3:x.cps=(c::r).toArray:=by
  rw[<-h];simp[cd]
 rw[e3,xaD (by lia),xd3];have e4:((c::r).toArray).extract 0 (0+1)= #[c]:=by simp
 rw[e4];rw[xaP]
 simp
def DR (hz:z=⟨#[c]⟩)(ps:Lsx):cd (Txt.join z ps)=jn c (ps.map cd):=by
 subst hz;show cd (Builtin.Str.glued _ _)=_;rw[StrLaws.glued_eq_join,Vd]
def gY (x:Str):x.length=(cd x).length:=by
 show x.cps.size=x.cps.toList.length
 simp
def zgY {i:Int}(h:i.natAbs<2^1900):i.natAbs.log2<1920:=by
 by_cases h0:i.natAbs=0
 .rw[h0];decide
 .have:=(Nat.log2_lt h0).mpr h;lia
def QF:x=y ↔ cd x=cd y:=⟨fun h=>by rw[h],QG⟩
def Bt:(x=Str.ofString "")=(cd x=[]):=propext (QF.trans (by rw[show cd (Str.ofString "")=[] by x_go]))
def eq_0:(x=Str.ofString "0")=(cd x=[48]):=propext (QF.trans (by rw[show cd (Str.ofString "0")=[48] by x_go]))
def X3:(x=Str.ofString "-0")=(cd x=[45,48]):=propext (QF.trans (by rw[show cd (Str.ofString "-0")=[45,48] by x_go]))
theorem W9 (c:Nat):cd ⟨#[c]⟩=[c]:=rfl
noncomputable def pI (c:Nat):Bool:=decide (48<=c)&&decide (c<=57)
def Yq (c:Nat):wz ⟨#[c]⟩ (Str.ofString "0123456789")=pI c:=by
 by_cases h:c<58
 .exact(show ∀c<58,wz ⟨#[c]⟩ (Str.ofString "0123456789")=pI c by x_go) c h
 .unfold wz pI;rw[xdB,xaP];simp only[xaH,xak];exact⟨fun m=>absurd ((show ∀x∈(Str.ofString "0123456789").cps.toList,x<58 by x_go) c m) h,fun m=>absurd (Nat.lt_succ_of_le m.2) h⟩
def pq (cs:Lnx):Bool:= !decide (cs=[])&&cs.all pI&&(decide (cs=[48]) || !decide (cs.head? =some 48))
def zfK (cs:Lnx):((cs.map fun c=> !pI c).any id)= !cs.all pI:=by
 induction cs with
 |nil=>rfl
 |cons c r ih=>simp only[xai,xbn,xbF,ih,id,Bool.not_and]
noncomputable def sW (cs:Lnx):Lnx:=if cs.head? =some 45 then cs.tail else cs
def good (cs:Lnx):Bool:= !decide (cs=[45,48])&&pq (sW cs)
noncomputable def O3 (cs:Lnx):Int:=if cs.head? =some 45 then -((NumText.digitsVal cs.tail:Nat):Int) else((NumText.digitsVal cs:Nat):Int)
def zkc (x:Str):Txt.startswith x (Str.ofString "-")=decide ((cd x).head? =some 45):=by
 cases h:cd x with
 |nil=>
  have:x=Str.ofString "":=by rw[Bt];exact h
  rw[this]
  decide +kernel
 |cons c r=>
  rw[zcM h]
  simp
def zkb (h:cs.all pI=true):NumText.AllDigits cs:=fun c hc=>by
 have:=xaX.mp h c hc;unfold pI at this
 simpa using this
def KN (h:pq cs=true):cs≠ []/\NumText.AllDigits cs/\(cs=[48]\/cs.head? ≠some 48):=by
 unfold pq at h;simp only[xak,xb6,xcs,xaH,xdQ]at h;exact⟨h.1.1,zkb h.1.2,h.2⟩
def zes (h:pq (sW (cd x))=true)(hl:x.length<=600):intText? x=some (O3 (cd x)):=by
 obtain⟨h1,h2,h3⟩:=KN h;unfold sW at h1 h2;unfold O3
 by_cases hh:(cd x).head? =some 45
 .rw[xaa hh]at h1 h2 ⊢;obtain⟨r,e⟩:∃r,cd x=45::r:=by
   cases hc:cd x with
   |nil=>rw[hc]at hh;cases hh
   |cons c r=>rw[hc]at hh;simp at hh;exact⟨r,by rw[hh]⟩
  rw[e,List.tail_cons]at h1 h2 ⊢;exact intText_neg e h2 h1 (by lia)
 .rw[xac hh]at h1 h2 ⊢;exact intText_digits h2 h1 (by lia)
def zjk (x:Str):(Txt.lstripChars x (Str.ofString "-")).length=x.length-((cd x).takeWhile fun c=>decide (c=45)).length:=by
 have hg:(fun c=>((Str.ofString "-").cps.contains c:Bool))=fun c=>decide (c=45):=by
  funext c;rw[show(Str.ofString "-").cps= #[45] by x_go]
  simp
 have hlo:stripLo (Str.ofString "-").cps.contains true x=((cd x).takeWhile fun c=>decide (c=45)).length:=by
  unfold stripLo;rw[xaa rfl];show((cd x).takeWhile fun c=>((Str.ofString "-").cps.contains c:Bool)).length=_;rw[hg]
 have hle:=PyProof.Rows.takeWhile_len_le (fun c=>decide (c=45)) (cd x);unfold Txt.lstripChars Txt.stripBy
 split
 .rename_i h;unfold stripSame at h;rw[xak,xbh,hlo]at h;lia
 .unfold stripped;rw[hlo];show(x.cps.extract _ (stripHi _ false x _)).size=_;unfold stripHi;rw[xac (by decide),Array.size_extract];show min x.cps.size x.cps.size-_=x.cps.size-_;lia
def zfN (h:good (cd x)=true):(Txt.lstripChars x (Str.ofString "-")).length=(sW (cd x)).length:=by
 unfold good at h;rw[xak]at h;obtain⟨h1,h2,h3⟩:=KN h.2;rw[zjk,gY];have no:∀cs:Lnx,NumText.AllDigits cs->(cs.takeWhile fun c=>decide (c=45))=[]:=fun cs hd=>by
  cases cs with
  |nil=>rfl
  |cons c r=>
   have:=hd c xax;rw[xd5,xac (by simp;lia)]
 unfold sW at h1 h2 ⊢
 by_cases hh:(cd x).head? =some 45
 .rw[xaa hh]at h1 h2 ⊢;obtain⟨r,e⟩:∃r,cd x=45::r:=by
   cases hc:cd x with
   |nil=>rw[hc]at hh;cases hh
   |cons c r=>rw[hc]at hh;simp at hh;exact⟨r,by rw[hh]⟩
  rw[e,List.tail_cons]at h1 h2 ⊢;rw[xd5,xaa (by simp),no _ h2]
  simp
 .rw[xac hh]at h1 h2 ⊢;rw[no _ h2]
  simp
def R9 (h:n<340282366920938463463374607431768211456):n.log2<1920:=by
 by_cases h0:n=0
 .rw[h0];decide
 .have:=(Nat.log2_lt h0 (k:=128)).mpr h;lia
section
variable {env:Env}{M M1:Mm}{f g c:E}{d e:D}{i j:Int}{n k:Nat}{z:Str}{b:Bool}{ds es:List D}{t:S}{x:Str}{fa:EA}{u:G}
theorem zfS {q:D->Mm->OS}:j4 q (some (.x x i,M))=some (.ex x i,M):=rfl
def R_ (q:List D->O):Option Cl->O
 |some (.lst ds)=>q ds
 |_=>none
theorem zk0 {q:List D->O}:R_ q (some (.lst ds))=q ds:=rfl
def zH (M:Mm)(k:Nat)(ds:List D):Option D->O
 |some z=>some (.v z,M.set k (.lst ds.dropLast))
 |none=>none
theorem zjn:zH M k ds (some d)=some (.v d,M.set k (.lst ds.dropLast)):=rfl
def Iv (M:Mm):D->O
 |.ref k=>R_ (fun ds=>zH M k ds ds[ds.length-1]?) M[k]?
 |_=>none
theorem zhd:Iv M (.ref k)=R_ (fun ds=>zH M k ds ds[ds.length-1]?) M[k]? :=rfl
theorem zkV:vh f env M=mz (fun d M1=>Iv M1 d) (f env M):=rfl
def HD (q:List D->OS):Option Cl->OS
 |some (.lst ds)=>q ds
 |_=>none
theorem zkw {q:List D->OS}:HD q (some (.lst ds))=q ds:=rfl
def FZ (env:Env)(g:Mm->O)(M:Mm):D->OS
 |.ref k=>HD (fun _=>j4 (fun y M2=>HD (fun ds=>if ds.length<sizeLine then some (.nx env,M2.set k (.lst (ds++[y]))) else none) M2[k]?) (g M)) M[k]?
 |_=>none
theorem zg0 {q:Mm->O}:FZ env q M (.ref k)=HD (fun _=>j4 (fun y M2=>HD (fun ds=>if ds.length<sizeLine then some (.nx env,M2.set k (.lst (ds++[y]))) else none) M2[k]?) (q M)) M[k]? :=rfl
theorem zi8:Aq f g env M=j4 (fun d M1=>FZ env (g env) M1 d) (f env M):=rfl
def zic (h:M[k]? =some (.lst ds)):vw M (.ref k)=.lst ds:=by unfold vw;simp only[h]
def Gd (q:List D->Mm->O):Option (ResA×Mm)->O
 |some (.v ds,M)=>q ds M
 |_=>none
theorem zh1 {q:List D->Mm->O}:Gd q (some (.v ds,M))=q ds M:=rfl
theorem zfU:zK u fa env M=Gd (fun ds M1=>u ds M1) (fa env M):=rfl
theorem Ue:zO x f env M=j4 (fun _ M1=>some (.ex x 0,M1)) (f env M):=rfl
def Ht (b:Bool)(tb:List (Str×D))(M:Mm):D->O
 |.str z=>some (.v (.bl (if b then(lH tb z).isSome else !(lH tb z).isSome)),M)
 |_=>none
theorem zlb {tb:List (Str×D)}:Ht b tb M (.str z)=some (.v (.bl (if b then(lH tb z).isSome else !(lH tb z).isSome)),M):=rfl
theorem zlO {tb:List (Str×D)}:tQ b tb f env M=mz (fun d M1=>Ht b tb M1 d) (f env M):=rfl
def YS (tb:List (Str×D))(M:Mm):D->O
 |.str z=>(lH tb z).map fun y=>(.v y,M)
 |_=>none
theorem zg8 {tb:List (Str×D)}:YS tb M (.str z)=(lH tb z).map fun y=>(.v y,M):=rfl
theorem zjd {tb:List (Str×D)}:CG tb f env M=mz (fun d M1=>YS tb M1 d) (f env M):=rfl
def txR:O->Option (ResA×Mm)
 |some (.v (.str z),M1)=>some (.v (z.cps.toList.map fun c=>.str ⟨#[c]⟩),M1)
 |some (.x c n,M1)=>some (.x c n,M1)
 |_=>none
theorem zlN:Ho f env M=txR (f env M):=rfl
theorem zkK:txR (some (.v (.str z),M))=some (.v (z.cps.toList.map fun c=>.str ⟨#[c]⟩),M):=rfl
def Jb:Option (ResA×Mm)->Option (ResA×Mm)
 |some (.v [.tup ds],M1)=>some (.v ds.reverse,M1)
 |some (.x c n,M1)=>some (.x c n,M1)
 |_=>none
theorem zhn:zc fa env M=Jb (fa env M):=rfl
theorem zhc:Jb (some (.v [.tup ds],M))=some (.v ds.reverse,M):=rfl
def Zq (o:Str->List D->Option D)(q:Mm->Option (ResA×Mm))(M:Mm):D->O
 |.str y=>yS (o y) (q M)
 |_=>none
theorem Uy {o:Str->List D->Option D}{q:Mm->Option (ResA×Mm)}:Zq o q M (.str z)=yS (o z) (q M):=rfl
theorem Uc {o:Str->List D->Option D}:lZ o f fa env M=mz (fun d M1=>Zq o (fa env) M1 d) (f env M):=rfl
theorem V8 {y:Str}:Ov z [.str y]=some (.bl (Txt.startswith z y)):=rfl
theorem V4 {y:Str}:Ot z [.str y]=if z.length<=sizeLine then some (.str (Txt.lstripChars z y)) else none:=rfl
theorem zh3 {ps:EJ}:pZ ps env M=ps Str.empty env M:=rfl
theorem zeZ {out:Str}:pU out env M=if out.length<=sizeLine then some (.v (.str out),M) else none:=rfl
theorem zfe {ps:EJ}{out:Str}:pR z ps out env M=if (out++z).length<=sizeLine then ps (out++z) env M else none:=rfl
def YL (ps:EJ)(out:Str)(env:Env)(M:Mm):Option Str->O
 |some y=>if (out++y).length<=sizeLine then ps (out++y) env M else none
 |none=>none
theorem Ux {ps:EJ}{out y:Str}:YL ps out env M (some y)=if (out++y).length<=sizeLine then ps (out++y) env M else none:=rfl
theorem zhf {ps:EJ}{out:Str}:u_ f ps out env M=mz (fun d M1=>YL ps out env M1 (JB d)) (f env M):=rfl
theorem zkP:JB (.str z)=if z.length<=sizeLine then some z else none:=rfl
def YK (ps:EJ)(out:Str)(env:Env)(M:Mm):D->O
 |.str z=>if (reprText z).length<=sizeLine/\(out++reprText z).length<=sizeLine then ps (out++reprText z) env M else none
 |_=>none
theorem Uw {ps:EJ}{out:Str}:YK ps out env M (.str z)=if (reprText z).length<=sizeLine/\(out++reprText z).length<=sizeLine then ps (out++reprText z) env M else none:=rfl
theorem ziK {ps:EJ}{out:Str}:xu f ps out env M=mz (fun d M1=>YK ps out env M1 d) (f env M):=rfl
theorem zk3:nY (.lst ds) (.lst es)=if ds.length+es.length<=sizeLine then some (.lst (ds++es)) else none:=rfl
theorem zhU {y:Str}:aN (.str z) (.str y)=if z.length+y.length<=sizeLine then some (.str (z++y)) else none:=rfl
theorem zlu:aO (.str z) (.int i)=if z.length<=sizeLine then(aV z.cps.toList i).map fun c=>.str ⟨#[c]⟩ else none:=rfl
theorem zhF:eO [.str z]=if z.length<=sizeLine then some (.int z.length) else none:=rfl
theorem zku:gq [.int i]=if i.natAbs.log2<1920 then some (.str (toString i)) else none:=rfl
theorem zks:sS [.str z]=if z.length<=640 then(intText? z).map .int else none:=rfl
theorem zl2:wM [.lst ds]=(yh ds).map fun bs=>.bl (bs.any id):=rfl
theorem zju:gP [.lst ds]=some (.tup ds):=rfl
theorem zlQ {y:Str}:aF .isin (.str z) (.str y)=some (.bl (wz z y)):=rfl
theorem zhg {y:Str}:aF .notin (.str z) (.str y)=some (.bl (!wz z y)):=rfl
def zlA {y:Str}:aF .eq (.str z) (.str y)=some (.bl (decide (z=y))):=by
 unfold aF gh yV;rw[xaa (by constructor<;>first |rfl |simp[D.dep])]
 have:(z==y)=decide (z=y):=by rw[xaP];simp
 simp[D.eq,this]
def zl7 {y:Str}:aF .ne (.str z) (.str y)=some (.bl (!decide (z=y))):=by
 unfold aF gh wQ;rw[xaa (by constructor<;>first |rfl |simp[D.dep])]
 have:(z==y)=decide (z=y):=by rw[xaP];simp
 simp[D.eq,this]
theorem vq {α:Type}{e:E}(A B:α->D):∀(as:List α) (acc:List D),(∀a∈as,e (.val (A a)::env) M=some (.v (B a),M))->acc.length+as.length<sizeLine->rD (aj (.bl true)) e env (as.map A) acc M=some (acc++as.map B,M)
 | [],acc,_,_=>by simp[rD]
 |a::as,acc,h,hl=>by
  rw[xae]at hl;have hr:=vq A B as (acc++[B a]) (fun a' ha'=>h a' (by simp[ha'])) (by rw[xaf,xaC];lia);rw[xai];unfold rD;rw[show aj (.bl true) (.val (A a)::env) M=some (.v (.bl true),M) from rfl];dsimp only;rw[h a xax];dsimp only;rw[xaa (by lia),hr]
  simp
def Vm (k:Nat)(t:S)(ds:List D):OS->OS
 |some (.nx e,M1)=>loopS k t ds e M1
 |some (.ct e,M1)=>loopS k t ds e M1
 |some (.bk e,M1)=>some (.nx e,M1)
 |some (.rt d,M1)=>some (.rt d,M1)
 |some (.ex c n,M1)=>some (.ex c n,M1)
 |none=>none
theorem zdG:loopS k t (d::ds) env M=if k<env.length then Vm k t ds (t (env.set k (.val d)) M) else none:=rfl
theorem zji {e':Env}:Vm k t ds (some (.nx e',M))=loopS k t ds e' M:=rfl
theorem at0 {α:Type}{a:α}{xs:List α}:aV (a::xs) 0=some a:=i_ (j:=0) rfl
theorem at1 {α:Type}{a b:α}{xs:List α}:aV (a::b::xs) 1=some b:=i_ (j:=1) rfl
theorem at2 {α:Type}{a b c:α}{xs:List α}:aV (a::b::c::xs) 2=some c:=i_ (j:=2) rfl
theorem Ge {α:Type}{a b c d:α}{xs:List α}:aV (a::b::c::d::xs) 3=some d:=i_ (j:=3) rfl
def KY {M:Mm}{cl:Cl}:(M++[cl])[M.length]? =some cl:=List.getElem?_concat_length ..
def s_end {M:Mm}{cl cl':Cl}:(M++[cl]).set M.length cl'=M++[cl']:=by simp
def w_end {M:Mm}:vw (M++[.lst ds]) (.ref M.length)=.lst ds:=zic KY
def yp {α β:Type}(f:α->β)(xs:List α)(lo hi:Oix):fW (xs.map f) lo hi=(fW xs lo hi).map f:=by
 unfold fW;rw[xah, <-xdx, <-xdy]
def Dq {α:Type}(xs:List α){i:Int}(h:0<=i):fW xs (some i) none=xs.drop i.toNat:=by
 obtain⟨k,rfl⟩:∃k:Nat,i=k:=⟨i.toNat,by lia⟩;unfold fW;rw[HT.zcf,HT.Mu];rw[xbt (by rw[xaU];lia),xbu]
 by_cases hk:k<=xs.length
 .rw[xcD hk]
 .rw[xcU (by lia),xcf,xcr (by lia)]
def Gm {α:Type}(xs:List α){i:Int}(h:0<=i):fW xs none (some i)=xs.take i.toNat:=by
 obtain⟨k,rfl⟩:∃k:Nat,i=k:=⟨i.toNat,by lia⟩;unfold fW;rw[HT.zcf,HT.Mu,xdZ,Nat.sub_zero,xbu]
 by_cases hk:k<=xs.length
 .rw[xcD hk]
 .rw[xcU (by lia),List.take_length,xbt (by lia)]
def Gk {α:Type}(xs:List α){i j:Int}(h:0<=i)(h':0<=j):fW xs (some i) (some j)=(xs.drop i.toNat).take (j.toNat-i.toNat):=by
 obtain⟨k,rfl⟩:∃k:Nat,i=k:=⟨i.toNat,by lia⟩;obtain⟨l,rfl⟩:∃k:Nat,j=k:=⟨j.toNat,by lia⟩;unfold fW;rw[HT.Mu,HT.Mu,xbu,xbu]
 by_cases hk:k<=xs.length
 .rw[xcD hk]
  by_cases hl:l<=xs.length
  .rw[xcD hl]
  .rw[xcU (by lia),xbt (by rw[xaU];lia),xbt (by rw[xaU];lia)]
 .rw[show min k xs.length=xs.length from xcU (by lia),xcf,xcr (by lia),List.take_nil,List.take_nil]
end
end E3
namespace L2
end L2
namespace E3
open L2
end E3
namespace L2
end L2
namespace E3
open L2
end E3
namespace L2
end L2
namespace E3
open L2
section
variable {f g h:E}{env:Env}{M M1 M2 M3:Mm}{k:Nat}{kvs kvs':List (Key×D)}
def Kq (h1:f env M=some (.v (.ref k),M1))(h2:g env M1=some (.v e,M2))(h3:h env M2=some (.v x,M3))(e1:M1[k]? =some (.dct kvs'))(e3:M3[k]? =some (.dct kvs))(h4:toKey e=some key):zL f g h env M=some (.v ((gH kvs key).getD x),M3):=by
 simp only[zL,bnd,h1,h2,h3,Br,e1,Q0 e3 h4]
theorem Xo:lF lR env M=some (.v (.ref M.length),M++[.dct []]):=rfl
end
section
variable {X:Cx}{Wx:XW}{pos:Pos}
def yw (is:Lnx)(body:S):Nat->List D->Env->Mm->OS
 |_,[],env,M=>some (.nx env,M)
 |n,d::ds,env,M=>match nu is [.int n,d] env with
  |some env1=>(match body env1 M with
   |some (.nx e,M1)=>yw is body (n+1) ds e M1
   |some (.ct e,M1)=>yw is body (n+1) ds e M1
   |some (.bk e,M1)=>some (.nx e,M1)
   |some (.rt d,M1)=>some (.rt d,M1)
   |some (.ex c n,M1)=>some (.ex c n,M1)
   |none=>none)
  |none=>none
def Jc (is:Lnx)(fs:EA)(body:S):S:=fun env M=>match fs env M with
 |some (.v [.lst ds],M1)=>yw is body 0 ds env M1
 |some (.x c n,M1)=>some (.ex c n,M1)
 |_=>none
def zfW (hp:PassesOwn (model X.prog X.w) X.A X.env X.xe)(hc:X.calm=true)(hG:SG X ts is)(hg:Gl X "enumerate")(hm:X.mg "enumerate"=none)(ha:SA X Wx .val [a] fs)(hb:SB X Wx body b)
    (h2:is.length=2:=by rfl) (hn:(assignEach ts X.env).length=2:=by rfl) (hst:(assignEach ts X.env).findIdx? (·.1)=none:=by rfl) (hs:starEach [a] X.env=[(false,eval a X.env)]:=by rfl)
    (hfs:∀x,foldedSetIterable (.Call (.Name "enumerate" p) [a] [] q) X.env x=pure x:=by intro _;rfl):
    SS X Wx (.For (.Tuple ts n tp) (.Call (.Name "enumerate" p) [a] [] q) body [] pos) (Jc is fs b):=by
  obtain⟨t,hpg,ht⟩:=hG;refine nj (ze4 hp hc (zdW hg hm ha hs) (zfg (n:=2) hc hpg hn hst) hb hfs) ?_;by_in;unfold Jc at e;kj_one
  . rename_i ds M1 ef;refine⟨P0,H0,P,Os,env,M,_,_,k,ef,fun P1 vs H1 l1 h1 i1=>?_⟩;obtain⟨v,ws,rfl,i1,rfl⟩:=i1;obtain⟨a,us,rfl,ra,is1⟩:=i1;refine⟨a,us,rfl,ra.imp (·.2) id,?_⟩;have k1:=k.next l1 h1
    have q1:=q.lt (l1.lt k.hk);refine⟨fun j m Z H=>m=ds.length-j/\j<=ds.length/\∃P Os' M2 env',Lt P1 H1 P H/\Ok X.K X.mg P0 H0 P Os' H M2 Z env'/\yw is b j (ds.drop j) env' M2=some (out,M'),⟨ds.length,by simp,xbP _,P1,Os,M1,env,Lt.refl _ _,k1,e⟩,?_⟩;rintro j m Z H2 ⟨rfl,hj,P2,Os',M2,env',lt,k',h'⟩;have ra2:=lt.rda ra;have is2:=aL.lt lt is1;have sq:gn X.K H2 a us:=ra2.imp (·.2) id
    by_cases hlt:j<ds.length
    . obtain⟨w,ew,iw⟩:=aL.get is2 (xaj hlt);refine .inr ⟨⟨us,w,sq,ew⟩,fun Z' H'=>∃P Os' M2 env',Lt P1 H1 P H'/\Ok X.K X.mg P0 H0 P Os' H' M2 Z' env'/\yw is b (j+1) (ds.drop (j+1)) env' M2=some (out,M'),fun Z' H' z=>⟨ds.length-(j+1),by lia,rfl,hlt,z⟩,fun x H3 y=>?_⟩;obtain⟨pp,v,hpp,rfl,rfl,hv⟩:=y;have hv':=hv us sq;rw[ew]at hv';cases hv';rw[xbi hlt]at h';simp only[yw]at h';have sm:Same H2 (upd H2 pp (.tup [.int j,w])):=zQ hpp;have l3:LtE P2 H2 P2 (upd H2 pp (.tup [.int j,w])):=LtE.same sm;have h3:=k'.hk.same sm;have k3:=k'.next l3 h3
      have lt3:=lt.trans (l3.lt k'.hk);split at h'
      . rename_i env1 ee;have isx:aL X.K P2 (upd H2 pp (.tup [.int j,w])) [.int j,ds[j]] [.int j,w]:=⟨V.int j,[w],rfl,rfl,w,[],rfl,Is.lt (l3.lt k'.hk) iw,rfl⟩;refine⟨pp,[.int j,w],rfl,.inl (.inl gA),rfl,ht _ _ _ _ _ _ _ _ _ _ _ _ k3 isx ee fun Os2 st2 k4=>?_⟩;split at h'
        . rename_i e4 M4 eb;exact⟨P0,H0,P2,_,_,M2,_,_,k4,eb,fun P' Os2 H2 st2 l2 k5=>⟨P',Os2,_,e4,lt3.trans l2,k5,h'⟩⟩
        . rename_i e4 M4 eb;exact⟨P0,H0,P2,_,_,M2,_,_,k4,eb,fun P' Os2 H2 st2 l2 k5=>⟨P',Os2,_,e4,lt3.trans l2,k5,h'⟩⟩
        . rename_i e4 M4 eb;cases h';exact⟨P0,H0,P2,_,_,M2,_,_,k4,eb,fun P' Os2 H2 st2 l2 k5=>q1 P' Os2 H2 st2 (lt3.trans l2) k5⟩
        . rename_i d4 M4 eb;cases h';exact⟨P0,H0,P2,_,_,M2,_,_,k4,eb,q1⟩
        . rename_i c4 n4 M4 eb;cases h';exact⟨P0,H0,P2,_,_,M2,_,_,k4,eb,q1⟩
        . cases h'
      . cases h'
    . have ej:j=ds.length:=by lia
      subst ej;rw[xcf]at h';cases h';exact .inl ⟨⟨us,sq,is2.len⟩,q1 P2 Os' H2 Z lt k'⟩
  . kfm_eq
  . cases e
def zdv (hi:SE X Wx .val i f)(hg:Gl X nm)(hm:X.mg nm=some (.ref a))(t:KTab X.K X.w a tb)(hdb:(nm==("__debug__":Str))=false:=by x_go)(hb:behindInMarks .NotIn (.Name nm p)=false:=by rfl):ST X Wx (.Compare i [.NotIn] [.Name nm p] pos) (tQ false tb f):=
 Cj (T7 (zcU hi hg hm t hdb) hb) fun _ _ _ w=>YT (b:=false) (JD w)
end
theorem RM {K:Fgx}{P:Pl}{H:Hp}:∀l:Lsx,aL K P H (l.map .str) (l.map V.str)
 | []=>rfl
 |b::bs=>⟨V.str b,bs.map V.str,rfl,rfl,RM bs⟩
def tV (z:Str):List D->Option D
 | [.str y]=>if (y.length==0)=false/\z.length+2<=sizeLine then some (.lst ((Txt.split z y).map .str)) else none
 |_=>none
def El {K:Fgx}:Dj K ze8 tV:=fun P H y ds z vs Q h i nb q=>by
 unfold tV at h;kjx_on
 .kjx_on
  .rename_i hl;cases h;kfm_hd;cases p;exact⟨_,_,rfl,rfl,hl.1,hl.2,fun l hl'=>q _ _ (zQ hl') ⟨l,_,rfl,.inl ⟨nb l hl',.inl gA⟩,RM _⟩⟩
  .cases h
 .cases h
theorem V7:tV z [.str y]=if (y.length==0)=false/\z.length+2<=sizeLine then some (.lst ((Txt.split z y).map .str)) else none:=rfl
def zgN (K:Fgx):Sp:=fun vs H Q _=>∃a C n,vs=[.ref a,.int n]/\n.natAbs<1000000000000000000/\H a=some (xo a C none true)/\eU K C=true/\sI K C "at"=true/\
 ∀dx,H dx=none->dx≠a->Q .non (upd (upd H dx (.xd [("at",.int n)])) a (xo a C (some dx) true))
noncomputable def zf (sc:Scope) (dn:Str) (ap cp:Pos) (z y:Str):Bool:=(ap.endLine==cp.line)&&(decide (sc.names.lookup dn=some .globalImplicit) && !(dn==("__debug__":Str)))&&decide (sc.names.lookup ("self":Str)=some .local)&&decide (sc.names.lookup ("at":Str)=some .local)&&decide (z.length<=100)&&decide (y.length<=100)
def BR (sc:Scope)(dn:Str)(b:List Stmt):Prop:=∃p1 ap p3 p4 cp p5 p6 p7 p8 p9 q1 q2 q3 q4 z y vs,b=[.Expr (.Call (.Attribute (.Name dn p1) "__init__" ap) [.Name "self" p3,.JoinedStr vs p4] [] cp) p5,.Assign [.Attribute (.Name "self" p6) "at" p7] (.Name "at" p8) p9]/\zf sc dn ap cp z y=true/\
 (vs=[.Constant (.str z) q1 q2,.FormattedValue (.Name "at" q3) (-1) none q4]\/∃q5 q6,vs=[.Constant (.str z) q1 q2,.FormattedValue (.Name "at" q3) (-1) none q4,.Constant (.str y) q5 q6])
def Hq {sc:Scope}{dn z:Str}{p1 ap p3 p4 cp p5 p6 p7 p8 p9 q2 q3 q4:Pos}{q1:_}(h:zf sc dn ap cp z Str.empty=true):BR sc dn [.Expr (.Call (.Attribute (.Name dn p1) "__init__" ap) [.Name "self" p3,.JoinedStr [.Constant (.str z) q1 q2,.FormattedValue (.Name "at" q3) (-1) none q4] p4] [] cp) p5,.Assign [.Attribute (.Name "self" p6) "at" p7] (.Name "at" p8) p9]:=
 ⟨p1,ap,p3,p4,cp,p5,p6,p7,p8,p9,q1,q2,q3,q4,z,_,_,rfl,h,.inl rfl⟩
def Hr {sc:Scope}{dn z y:Str}{p1 ap p3 p4 cp p5 p6 p7 p8 p9 q2 q3 q4 q6:Pos}{q1 q5:_}(h:zf sc dn ap cp z y=true):BR sc dn [.Expr (.Call (.Attribute (.Name dn p1) "__init__" ap) [.Name "self" p3,.JoinedStr [.Constant (.str z) q1 q2,.FormattedValue (.Name "at" q3) (-1) none q4,.Constant (.str y) q5 q6] p4] [] cp) p5,.Assign [.Attribute (.Name "self" p6) "at" p7] (.Name "at" p8) p9]:=
 ⟨p1,ap,p3,p4,cp,p5,p6,p7,p8,p9,q1,q2,q3,q4,z,_,_,rfl,h,.inr ⟨_,_,rfl⟩⟩
def FunD.ok {P:Program}{w:World}{K:Fgx}{mg:Mgx}{base:Heap}{x qual:Str}{st:Stmt}{f:Addr}{fd:FuncData}{N ps:Lsx}{k:Nat}{sp:Sp}(F:FunD K x qual st f fd)(S:FnScope N ps (b_ st))(len:∀vs H Q E,sp vs H Q E->vs.length=ps.length)
  (hbody:∀(cdv:Value) (A:Around) (outer:List PySem.Env) (s:Shared) (H:Hp) (vs:List V) (Q:VK) (E:XK),Room k (A.deeper (envOfC qual (b_ st) s.heap.objs.size f cdv))->sp vs H Q E->
   ∃t,nA (lC pF P w K mg base N qual (b_ st) f cdv A outer s H E).nox (k_ st) t/\t {nx:=fun _ H'=>Q .non H',rt:=Q} (start N vs) H):FnOk P w K mg base pF (k+1) f fd ps sp:=by
 obtain⟨oc,od,dV,kV,doc,pm,an,cdv,ct,osl,rfl,lk,hcd⟩:=F.ex;refine Rj lk hcd S len fun A outer s H vs Q E hr hsp=>?_;obtain⟨t,h,q⟩:=hbody cdv A outer s H vs Q E hr hsp;exact⟨t,h.nox,q⟩
theorem Yt (hb:attributeBase o name env (eval o env)=eval o env)(hline:(ap.endLine==pos.line)=true)
  (hform:methodCallForm ([e1,e2].length+([]:List Keyword).length) (backTo pos (starEach [e1,e2] env)) (backToKw pos (keywordEach [] env))=true):
  eval (.Call (.Attribute o name ap) [e1,e2] [] pos) env=(do
   let ov <-eval o env
   standAt ap.atName
   let (f,first) <-holding [ov] (getMethod ov name (do return (<-importBound o env).getD true))
   callWith pos f first (backTo pos (starEach [e1,e2] env)) (backToKw pos (keywordEach [] env))):=by
 have hpos:methodCallPos true o env ap pos=pure pos:=by unfold methodCallPos;simp[hline]
 rw[arm_eval_Call,hb];unfold methodCall;rw[hform,hpos];rfl
theorem Gb (a b:Str):(a++b).length=a.length+b.length:=by
 show(a.cps++b.cps).size=_;rw[Array.size_append];rfl
def zfF (hn:n.natAbs<1000000000000000000):textV (.int n)=some (eF n)/\(eF n).length<=19:=by
 refine⟨?_,Vc (k:=18) (by decide) (by simpa using hn)⟩;show(if n.natAbs.log2<1920 then some (eF n) else none)=_
 rw[xaa (zgY (xar hn (by x_go)))]
def Ys {P:Program}{w:World}{K:Fgx}{mg:Mgx}{base:Heap}{k:Nat}{x qual dn:Str}{st:Stmt}{f Dm:Addr}{fd:FuncData}(F:FunD K x qual st f fd)(S:FnScope ["self","at"] ["self","at"] (b_ st))(hm:mg dn=some (.ref Dm))(q:Dd K Dm=true)
  (hc:BR (b_ st) dn (k_ st)):FnOk P w K mg base pF (k+1) f fd ["self","at"] (zgN K):=by
 refine F.ok S (fun vs H Q E h=>by obtain⟨a,C,n,rfl,_⟩:=h;rfl) (fun cdv A outer s H vs Q E hr h=>?_);obtain⟨a,C,n,rfl,hn,ea,q1,q2,kk⟩:=h;obtain⟨ht,hlen⟩:=zfF hn;obtain⟨p1,ap,p3,p4,cp,p5,p6,p7,p8,p9,q1',q2',q3',q4',z,y,us,eb,hcc,hv⟩:=hc
 .simp only[zf,xak,xaH,xcs]at hcc;obtain⟨⟨⟨⟨⟨g0,g1,g2⟩,g3⟩,g4⟩,z1⟩,z2⟩:=hcc;rw[eb];generalize hX:(lC pF P w K mg base ["self","at"] qual (b_ st) f cdv A outer s H E).nox=X;have e1:X.N=[("self":Str),("at":Str)]:=by rw[<-hX];rfl
  have e2:X.env.scope=b_ st:=by rw[<-hX];rfl
  have e3:X.mg=mg:=by rw[<-hX];rfl
  have e4:X.K=K:=by rw[<-hX];rfl
  have pv0:∀p,PE X (.Name "self" p) (CZ 0):=fun p=>zF (by rw[e1];rfl) (by rw[e2];exact .inl g3) (by x_go) (by x_go);have pv1:∀p,PE X (.Name "at" p) (CZ 1):=fun p=>zF (by rw[e1];rfl) (by rw[e2];exact .inl g4) (by x_go) (by x_go);have gl:Gl X dn:=by show X.env.scope.names.lookup _=_;rw[e2];exact g1
  rcases hv with rfl |⟨q5,q6,rfl⟩
  .refine⟨_,Iw (Am (zia (by rw[e4];exact q) gl (by rw[e3];exact hm) (pv0 _) (TV (Ml (T3 (pv1 _) TY) (by rw[xay];lia))) g2 rfl rfl (Yt rfl g0 rfl))) (Iw (zfa (pv0 _) (pv1 _) rfl) T6),?_⟩;have l1:(Str.empty++z).length<=100:=by rw[Gb];show 0+_<=_;lia
   have l2:(Str.empty++z++eF n).length<=119:=by rw[Gb];lia
   refine⟨.ref a,rfl,by rw[xay];lia,.int n,rfl,eF n,ht,by rw[xay];lia,by rw[xay];lia,a,C,rfl,ea,by rw[e4];exact q1,?_⟩;exact⟨.int n,rfl,.ref a,rfl,a,C,true,rfl,ea,by rw[e4];exact q1,by rw[e4];exact q2,fun dx hd nd=>kk dx hd nd⟩
  .refine⟨_,Iw (Am (zia (by rw[e4];exact q) gl (by rw[e3];exact hm) (pv0 _) (TV (Ml (T3 (pv1 _) (Ml TY (by rw[xay];lia))) (by rw[xay];lia))) g2 rfl rfl (Yt rfl g0 rfl))) (Iw (zfa (pv0 _) (pv1 _) rfl) T6),?_⟩;have l1:(Str.empty++z).length<=100:=by rw[Gb];show 0+_<=_;lia
   have l2:(Str.empty++z++eF n).length<=119:=by rw[Gb];lia
   have l3:(Str.empty++z++eF n++y).length<=219:=by rw[Gb];lia
   refine⟨.ref a,rfl,by rw[xay];lia,.int n,rfl,eF n,ht,by rw[xay];lia,by rw[xay];lia,by rw[xay];lia,a,C,rfl,ea,by rw[e4];exact q1,?_⟩;exact⟨.int n,rfl,.ref a,rfl,a,C,true,rfl,ea,by rw[e4];exact q1,by rw[e4];exact q2,fun dx hd nd=>kk dx hd nd⟩
section
variable {X:Cx}{Wx:XW}{pos:Pos}
def Jf (c:Str)(f:E):S:=fun env M=>fK (f env M) fun d M1=>match d with
 |.int n=>if n.natAbs<1000000000000000000/\0<=n then some (.ex c (n+1),M1) else none   -- the number and one more:nought tells that there is none
 |_=>none
def zbu (F:XFit X Wx)(hc:X.calm=true)(m:X.mg c=some (.ref C))(q1:eU X.K C=true)(q2:Df X.K C fI=true)(q3:sI X.K C "at"=true)(kp:W.keepIn X.K (.ref C)=true)
  (FO:FnOk X.prog X.w X.K X.mg X.base pF k fI fd ["self","at"] (zgN X.K)) (hr:Room (k+1) X.A) (hb:Binds X.K fd ["self","at"] []) (hg:Gl X c) (he:SE X Wx .val e f) (hdb:(c==("__debug__":Str))=false:=by x_go)
  (hs:starEach [e] X.env=[(false,eval e X.env)]:=by rfl):SS X Wx (.Raise (some (.Call (.Name c p) [e] [] q)) none pos) (Jf c f):=by
 refine nj (zb4 (W:=fun a C' dx H=>C'=C/\∃n P0 H0 P M,XN H n dx/\¬ P.bd a/\H0 a=none/\LtE P0 H0 P H/\Hk X.K X.mg P H M/\Wx P0 H0 M c n) (zh0 q1 q2 kp FO hr hg m hb (by decide) he hdb hs) hc fun pins Z H s a C' dx I ea ⟨e2,n,P0,H0,P,M,xn,b,nn,l,h,w⟩=>?_) ?_
 .subst e2;exact F.xr pins Z H s a _ dx c n P0 H0 P M I ea b nn l h m xn w
 .by_in;unfold Jf at e;sr_in
  .kj_one
   .rename_i n;kj_one
    .rename_i hn;cases e;refine⟨P0,H0,P,Os,env,M,_,_,k,e1,fun P1 v H1 l1 h1 i1=>fun a ha=>?_⟩;have ev:v=.int n:=i1;subst ev;refine⟨a,C,n,rfl,hn.1,gA,q1,q3,fun dx hd nd=>⟨rfl,a,C,some dx,rfl,gA,q1,rfl,n+1,P0,H0,P1,_,⟨[("at",.int n)],by rw[eN nd,gA],by rw[xec];rfl,by lia⟩,h1.new a ha,?_,?_,?_,q⟩⟩
     .exact k.base.sure a (l1.sure a ha)
     .have sm:Same H1 (upd (upd (upd H1 a (xo a C none true)) dx (.xd [("at",.int n)])) a (xo a C (some dx) true)):=fun b o eb=>by
       have n1:b≠a:=lu eb ha;rw[eN nd]at hd;rw[eN n1,eN (lu eb hd),eN n1];exact eb
      exact k.base.trans (l1.trans (LtE.same sm))
     .have sm:Same H1 (upd (upd (upd H1 a (xo a C none true)) dx (.xd [("at",.int n)])) a (xo a C (some dx) true)):=fun b o eb=>by
       have n1:b≠a:=lu eb ha;rw[eN nd]at hd;rw[eN n1,eN (lu eb hd),eN n1];exact eb
      exact h1.same sm
    .cases e
   .cases e
  .k_one
def xP (own:Str->Bool)(i:Nat):E:=fun env M=>match env[i]? with
 |some (.exc c n)=>if own c=true/\n≠0 then some (.v (.int (n-1)),M) else none
 |_=>none
def zeP (hN:X.N[i]? =some x)(hv:yg X.env.scope x)(hx:∀c C,own c=true->X.mg c=some (.ref C)->sI X.K C "at"=true)(hd:(x==("__debug__":Str))=false:=by x_go)(hcd:(x==("__classdict__":Str))=false:=by x_go)
  (hb:attributeBase (.Name x p) "at" X.env (eval (.Name x p) X.env)=eval (.Name x p) X.env:=by rfl):SE X Wx m (.Attribute (.Name x p) "at" pos) (xP own i):=by
 refine gJ (zjI (zF hN hv hd hcd) hb) ?_;k_go;unfold xP at e;kj_one
 .rename_i c n es;kj_one
  .rename_i hn;cases e;obtain⟨v,sv,a,C,dx,rfl,mc,ea,qd⟩:=k.slot i _ es
   cases dx with
   |none=>exact absurd qd hn.2
   |some d=>
    obtain⟨fs,ed,el,_⟩:=qd;exact⟨_,pW sv,a,C,d,false,fs,.int (n-1),rfl,ea,hx c C hn.1 mc,ed,el,q P _ H (LtE.same (Same.refl H)) k.hk (gW.of k.hk (show Is _ _ _ (.int _) _ from rfl))⟩
  .cases e
 .cases e
end
def ze2 {K:Fgx}{C:Addr}{name:Str}(h1:W.findIn K (.ref C) "__setattr__"=some (some (.builtin "object.__setattr__")))(h2:W.takerIn K C name=some none)(h3:Bc K C=true)(h4:W.hasDictIn K C=true)(h5:W.findIn K (.ref C) name=some none):sI K C name=true:=by
 simp only[sI,h1,h2,h3,h4,h5,xbI,xb8]
def zi9 {K:Fgx}{C:Addr}(h1:W.specialIn K (.ref C) "__getattribute__"=some (some (.builtin "type.__getattribute__")))(h2:W.readsIn K C (.type "type")=true)(h3:W.findCls K (.ref C) (.type "type") "__init__"=some (.val (.builtin "ValueError.__init__"))):Dd K C=true:=by
 simp only[Dd,h1,h2,h3,xbI,xb8]
section
variable {X:Cx}{Wx:XW}{m:Mode}{pos:Pos}{K:Fgx}
noncomputable def Ef:D->D->Option D
 |.tup xs,.tup ys=>if xs.isEmpty=false/\xs.length+ys.length<=sizeLine then some (.tup (xs++ys)) else none
 |_,_=>none
def T8:tW K (zhV K) Ef:=fun P H d e z v w Q h h1 h2 hn q=>by
 unfold Ef at h;kjx_on
 .rename_i xs ys;kjx_on
  .rename_i hl;cases h;obtain⟨a,vs,rfl,r1,s1⟩:=h1;obtain⟨b,ws,rfl,r2,s2⟩:=h2;have n1:vs≠ []:=fun z=>by
    have:=s1.len;rw[z]at this;have h0:=hl.1
    cases xs with
    |nil=>cases h0
    |cons _ _=>cases this
   refine⟨a,b,vs,ws,rfl,rfl,r1,r2,n1,by rw[s1.len,s2.len];exact hl.2,fun z=>?_,fun _=>Td (s1.append s2) q⟩;have e2:=s2.len;rw[z]at e2;have:ys=[]:=xcM.mp e2.symm;subst this;rw[xaA]at q;exact q _ H (Same.refl H) ⟨a,vs,rfl,r1,s1⟩
  .cases h
 .cases h
def EY (d:D)(lo hi:Oix):Option D:=match d with
 |.tup ds=>if HT.fH ds.length 0 lo=0/\HT.fH ds.length ds.length hi=ds.length then none else some (.tup (fW ds lo hi))
 |_=>none
def zP (f:E)(l h:Env->Mm->Option (Oix×Mm)):E:=fun env M=>bnd (f env M) fun d M1=>match l env M1 with
 |some (lo,M2)=>(match h env M2 with
  |some (hi,M3)=>(EY d lo hi).map fun z=>(.v z,M3)
  |none=>none)
 |none=>none
def ziF {e:Expr}{lo hi:Option Expr}{p2:Pos}{f:E}{l h:Env->Mm->Option (Oix×Mm)}(he:SE X Wx .val e f)(hl:Dl X lo l)(hh:Dl X hi h):SE X Wx m (.Subscript e (.Slice lo hi none p2) pos) (zP f l h):=by
 refine gJ (zbY zio he hl hh) ?_;k_go;unfold zP at e;cb_eq
 .kj_one
  .rename_i lo' M2 el;kj_one
   .rename_i hi' M3 eh;kpa_ne;refine⟨P0,H0,P,Os,env,M,_,_,k,e1,fun P1 v1 H1 l1 h1 i1=>⟨P0,H0,P1,Os,env,M1,_,_,k.next l1 h1,el,fun P2 H2 l2 h2=>⟨P0,H0,P2,Os,env,M2,_,_,(k.next l1 h1).next l2 h2,eh,fun P3 H3 l3 h3=>?_⟩⟩⟩
    have i3:=Is.lt (l3.lt h2) (Is.lt (l2.lt h1) i1);have fin:∀u H',Same H3 H'->Is X.K P3 H' z u->Q u H':=fun u H' s i=>q P3 u H' (l1.trans (l2.trans (l3.trans (LtE.same s)))) (h3.same s) (gW.of (h3.same s) i);unfold EY at ez;split at ez
    .split at ez
     .cases ez
     .rename_i hw;cases ez;obtain⟨a,vs,rfl,r,s⟩:=i3;exact⟨a,vs,rfl,r,by rw[s.len];exact hw,Td (Xn s) fin⟩
    .cases ez
   .cases e
  .cases e
 .k_one
theorem aL.rep {P:Pl}{H:Hp}{ds:List D}{vs:List V}(h:aL K P H ds vs):∀n:Nat,aL K P H (List.replicate n ds).flatten (List.replicate n vs).flatten
 |0=>rfl
 |n+1=>by
  rw[xbj,xbj,xb9,xb9];exact h.append (aL.rep h n)
def Mv (f g:E):E:=fun env M=>bnd (f env M) fun d M1=>match d with
 |.lst ds=>bnd (g env M1) fun e M2=>match e with
  |.int i=>if i.natAbs<=100000/\ds.length<=100 then some (.v (.lst (List.replicate i.toNat ds).flatten),M2) else none
  |_=>none
 |_=>none
def zfH {a b:Expr}{f g:E}(hl:SN X Wx a f)(hr:SE X Wx .val b g):SE X Wx m (.BinOp a .Mult b pos) (Mv f g):=by
 refine gJ (TX zjM hl hr) ?_;k_go;unfold Mv at e;cb_eq
 .kj_one
  .rename_i ds;refine⟨P0,H0,P,Os,env,M,_,_,k,e1,ds,rfl,fun P1 a vs H1 l1 h1 ha ba nc ea is=>?_⟩;rcases gU e with⟨d2,M2,e2,e⟩ |⟨c,n,e2,rfl⟩
   .kj_one
    .rename_i i;kj_one
     .rename_i hi;cases e;refine⟨P0,H0,P1,Os,env,M1,_,_,k.next l1 h1,e2,fun P2 v2 H2 l2 h2 i2=>?_⟩
      have ev:v2=.int i:=i2;subst ev;have e3:=l2.keep a _ ea (.inr nc);have is2:=aL.lt (l2.lt h1) is;have ln:vs.length=ds.length:=is.len;refine⟨a,i,vs,rfl,rfl,e3,by lia,by lia,?_,Tc h2.new (is2.rep _) fun u H' s z=>q P2 u H' (l1.trans (l2.trans (LtE.same s))) (h2.same s) (gW.of (h2.same s) z)⟩;rw[xay,ln];have:ds.length*i.toNat<=100*100000:=Nat.mul_le_mul hi.2 (by lia);lia
     .cases e
    .cases e
   .exact⟨P0,H0,P1,Os,env,M1,_,_,k.next l1 h1,e2,q⟩
  .cases e
 .k_one
end
section
variable {env:Env}{M:Mm}{f:E}{d:D}{ds es:List D}{x:Str}{k:Nat}
theorem zjy:Ef (.tup ds) (.tup es)=if ds.isEmpty=false/\ds.length+es.length<=sizeLine then some (.tup (ds++es)) else none:=rfl
def CQ (d:D)(lo:Oix):Option (Oix×Mm)->O
 |some (hi,M3)=>mapR M3 (EY d lo hi)
 |none=>none
def Jm (d:D)(k:Mm->Option (Oix×Mm)):Option (Oix×Mm)->O
 |some (lo,M2)=>CQ d lo (k M2)
 |none=>none
theorem zli {l u:Env->Mm->Option (Oix×Mm)}:zP f l u env M=mz (fun d M1=>Jm d (u env) (l env M1)) (f env M):=rfl
theorem zjo {lo:Oix}{q:Mm->Option (Oix×Mm)}:Jm d q (some (lo,M))=CQ d lo (q M):=rfl
theorem ziN {lo hi:Oix}:CQ d lo (some (hi,M))=mapR M (EY d lo hi):=rfl
def zi4 (x:Str)(M:Mm):D->OS
 |.int n=>if n.natAbs<1000000000000000000/\0<=n then some (.ex x (n+1),M) else none
 |_=>none
theorem zeu:Jf x f env M=j4 (fun d M1=>zi4 x M1 d) (f env M):=rfl
def zb8 {n:Nat}(h:n<1000000):zi4 x M (.int n)=some (.ex x ((n:Int)+1),M):=xaa ⟨by lia,by lia⟩
def Gf (own:Str->Bool)(M:Mm):Option Slot->O
 |some (.exc c n)=>if own c=true/\n≠0 then some (.v (.int (n-1)),M) else none
 |_=>none
theorem zkH {own:Str->Bool}:xP own k env M=Gf own M env[k]? :=rfl
def zhY {own:Str->Bool}{n:Nat}(h:own x=true):Gf own M (some (.exc x ((n:Int)+1)))=some (.v (.int n),M):=by
 show(if own x=true/\((n:Int)+1)≠0 then some (Res.v (.int (((n:Int)+1)-1)),M) else none)=_
 rw[xaa ⟨h,by lia⟩,xec]
theorem zlp:uh [.lst ds]=(yh ds).map fun bs=>.bl (bs.all id):=rfl
theorem zhX:gP [.tup ds]=some (.tup ds):=rfl
end
end E3
namespace L2
end L2
namespace E3
open L2
end E3
namespace E3
end E3
namespace E3
open L2
mutual
def D.nr:D->Bool
 |.tup xs=>D.nrs xs
 |.lst xs=>D.nrs xs
 |.ref _=>false
 |_=>true
def D.nrs:List D->Bool
 | []=>true
 |a::as=>D.nr a&&D.nrs as
end
noncomputable def Pf:Pl:=⟨fun _=>0,0,fun _=>False⟩
section
variable {K:Fgx}{P:Pl}{H:Hp}
mutual
theorem Is.fre:∀{d:D} {v:V},D.nr d=true->Is K P H d v->Is K Pf H d v
 |.non,_,_,h=>h
 |.bl _,_,_,h=>h
 |.int _,_,_,h=>h
 |.str _,_,_,h=>h
 |.tup _,_,n,h=>by obtain⟨a,vs,e,s,q⟩:=h;exact⟨a,vs,e,s,aL.fre n q⟩
 |.lst _,_,n,h=>by obtain⟨a,vs,e,s,q⟩:=h;exact⟨a,vs,e,s.imp (fun z=>⟨fun z=>z,z.2⟩) id,aL.fre n q⟩
 |.ref _,_,n,_=>by cases n
theorem aL.fre:∀{ds:List D} {vs:List V},D.nrs ds=true->aL K P H ds vs->aL K Pf H ds vs
 | [],_,_,h=>h
 |_::_,_,n,h=>by
  obtain⟨v,r,e,p,q⟩:=h;have n:=xd1.mp n;exact⟨v,r,e,Is.fre n.1 p,aL.fre n.2 q⟩
end
mutual
theorem Is.lf_any:∀{d:D} {v:V},D.lf d=true->Is K P H d v->Is K P' H d v
 |.non,_,_,h=>h
 |.bl _,_,_,h=>h
 |.int _,_,_,h=>h
 |.str _,_,_,h=>h
 |.tup _,_,n,h=>by obtain⟨a,vs,e,s,q⟩:=h;exact⟨a,vs,e,s,aL.lf_any n q⟩
 |.lst _,_,n,_=>by cases n
 |.ref _,_,n,_=>by cases n
theorem aL.lf_any:∀{ds:List D} {vs:List V},D.lfs ds=true->aL K P H ds vs->aL K P' H ds vs
 | [],_,_,h=>h
 |_::_,_,n,h=>by
  obtain⟨v,r,e,p,q⟩:=h;have n:=xd1.mp n;exact⟨v,r,e,Is.lf_any n.1 p,aL.lf_any n.2 q⟩
end
end
section
variable {X:Cx}
def zeJ (K:Fgx):V->List V->Hp->VK->Prop:=fun x vs H Q=>∃z l ys,x=.str z/\vs=[.ref l]/\gO K H l (ys.map V.str)/\z.length<=16/\(ys.map (·.length)).sum+ys.length<=1048576/\Q (.str (Txt.join z ys)) H
def zei:zW X "str.join" (zeJ X.K):=by
 kt_str;obtain⟨z,l,ys,rfl,rfl,hq,h1,h2,q⟩:=h;k_acc1;obtain⟨u,rfl,ru⟩:=rv.one;cases ru;obtain⟨its,r,pl,hz⟩:=I.tuple hq;exact join_tupleW (by exact pl) (by simpa using za8 r) h1 h2 fun t' k=>⟨.str _,H,I.tok _,⟨_,rfl⟩,q⟩
def Jx (z:Str):List D->Option D
 | [.tup ds]=>match yJ ds with
  |some ys=>if z.length<=16/\(ys.map (·.length)).sum+ys.length<=1048576 then some (.str (Txt.join z ys)) else none
  |none=>none
 |_=>none
def zea {K:Fgx}:Dj K (zeJ K) Jx:=fun P H y ds z vs Q h i _ q=>by
 unfold Jx at h;kjx_on
 .kjx_on
  .rename_i ys ey;kjx_on
   .rename_i hl;cases h;kfm_hd;obtain⟨a,us,rfl,r,s⟩:=p;rw[Vo ey s]at r;exact⟨y,a,ys,rfl,rfl,r,hl.1,hl.2,q _ H (Same.refl H) rfl⟩
   .cases h
  .cases h
 .cases h
end
section
variable {X:Cx}{Wx:XW}{m:Mode}{pos:Pos}
def fZ {k:Nat}{ss:List Stmt}{b:S}(hr:Room k X.A)(h:X.A.units+60<cLine->SB X Wx ss b):SB X Wx ss b:=h (xcG (xcB (by decide) _) hr.units)
def gG {e:Expr}{es:Lex}{x:Str}{id:String}{r:List V->Hp->VK->Prop}{o:List D->Option D}{fs:EA}{p:Pos}(hc:nP X (.builtin id) r)(hg:Gl X x)(hm:X.mg x=none)(hv:bootBuiltins x=some (.builtin id))(po:yd X.K r o)(ha:SA X Wx .bor (e::es) fs)
  (hn:x≠"__name__":=by x_go) (hdb:(x==("__debug__":Str))=false:=by x_go) (he:starEach (e::es) X.env=(false,eval e X.env)::starEach es X.env:=by rfl) (hpl:(backTo pos (starEach es X.env)).any (·.1)=false:=by rfl):SE X Wx m (.Call (.Name x p) (e::es) [] pos) (sN o fs):=
 zhN (fun _ ha=>zb9 hc hg hm hv ha hn hdb he hpl) po ha
def gV (hc:nP X (.type T) r)(hg:Gl X x)(hm:X.mg x=none)(hv:bootBuiltins x=some (.type T))(po:yd X.K r o)(ha:SA X Wx .bor (e::es) fs)
  (hn:x≠"__name__":=by x_go) (hdb:(x==("__debug__":Str))=false:=by x_go) (he:starEach (e::es) X.env=(false,eval e X.env)::starEach es X.env:=by rfl) (hpl:(backTo pos (starEach es X.env)).any (·.1)=false:=by rfl):SE X Wx m (.Call (.Name x p) (e::es) [] pos) (sN o fs):=
 zhN (fun _ ha=>TF hc hg hm hv ha hn hdb he hpl) po ha
end
section
variable (P:Program)(w:World)(K:Fgx)(mg:Mgx)(base:Heap)(k:Nat)(f:Addr)(N:Lsx)(q:Str)(st:Stmt)(b:S)
abbrev RT:Prop:=∀(cdv:Value) (A:Around) (outer:List PySem.Env) (s:Shared) (H:Hp) (E:XK),Room k (A.deeper (envOfC q (b_ st) s.heap.objs.size f cdv))->SB (Gp P w K mg base N q st f cdv A outer s H E) W0 (k_ st) b
abbrev Dk:Prop:=∀(cdv:Value) (A:Around) (outer:List PySem.Env) (s:Shared) (H:Hp) (E:XK) (Wx:XW),Room k (A.deeper (envOfC q (b_ st) s.heap.objs.size f cdv))->XFit (yq P w K mg base N q st f cdv A outer s H E) Wx->XPass (yq P w K mg base N q st f cdv A outer s H E) Wx->SB (yq P w K mg base N q st f cdv A outer s H E) Wx (k_ st) b
end
def f9 (h1:sc.kind=.function:=by rfl)(h2:sc.isCoroutine=false:=by rfl)(h3:sc.isGenerator=false:=by rfl)(h4:N.Nodup:=by x_go)(h5:N.take P.length=P:=by rfl)
 (h6:∀x∈P,sc.names.lookup x=some .local\/sc.names.lookup x=some .cell:=by x_go) (h7:∀y∈sc.names,y.2≠ .free:=by x_go):FnScope N P sc:=⟨h1,h2,h3,h4,h5,h6,h7⟩
abbrev LV (st:Stmt)(x:Str):Prop:=(b_ st).names.lookup x=some .local
structure DefAt (K:Fgx)(mg:Mgx)(x:Str)(st:Stmt)(ps:Lsx)(f:Addr)(fd:FuncData):Prop where
 mg:mg x=some (.ref f)
 F:FunD K x x st f fd
 b:Binds K fd ps []
def DefAt.ok {P:Program}{w:World}{K:Fgx}{mg:Mgx}{base:Heap}{k:Nat}{x:Str}{st:Stmt}{f:Addr}{fd:FuncData}{N ps:Lsx}{b:S}(D:DefAt K mg x st ps f fd)(S:FnScope N ps (b_ st))(hr:RT P w K mg base k f N x st b)(hp:ps.length<=N.length:=by decide):aR P w K mg base (k+1) x ps.length (fJ N.length b):=zlV D.F S hp D.mg D.b hr
def aY (K:Fgx)(x:Str)(st:Stmt):Prop:=∃(f:Addr) (oc kV dc pm cd ct:Value) (od an:Option Addr) (sl:Array (Option Value)),W.nsIn K mainGlobals x=some (some (.ref f))/\K.lookup f=some ⟨oc,od,.func (W.fnOf x x (nW st) (k_ st) (b_ st) .none kV dc pm an cd ct),sl⟩/\W.codeIn K cd x=true/\W.keepIn K (.ref f)=true
def aY.mk {K:Fgx}{x:Str}{st:Stmt}{f:Addr}{oc kV dc pm cd ct:Value}{od an:Option Addr}{sl:Array (Option Value)}(a:W.nsIn K mainGlobals x=some (some (.ref f)))(l:K.lookup f=some ⟨oc,od,.func (W.fnOf x x (nW st) (k_ st) (b_ st) .none kV dc pm an cd ct),sl⟩)(c:W.codeIn K cd x=true)(k:W.keepIn K (.ref f)=true):aY K x st:=⟨f,oc,kV,dc,pm,cd,ct,od,an,sl,a,l,c,k⟩
def aY.at {K:Fgx}{h:Heap}{mg:Mgx}{x:Str}{st:Stmt}{ps:Lsx}(F:aY K x st)(X:K.In h)(G:h.Ns mainGlobals mg)
  (hb:∀(kV doc pm:Value) (an:Option Addr) (cdv ct:Value) (us:Lvx),us.length=ps.length->bindArgs (W.fnOf x x (nW st) (k_ st) (b_ st) .none kV doc pm an cdv ct) ⟨us,[]⟩=pure (ps.zip us)):∃f fd,DefAt K mg x st ps f fd:=by
 obtain⟨f,oc,kV,dc,pm,cd,ct,od,an,sl,a,l,c,k⟩:=F;exact⟨f,_,xby X G a,Ds l c k,(Dt (st:=st) l c k).binds hb⟩
end E3
namespace L2
abbrev TH:=Ends->Addr->Addr->Option Addr->St->Hp->Prop
def HB (X:Cx)(hs:List ExceptHandler)(t:TH):Prop:=∀(pins:Pnx) (s:Shared) (Z:St) (H:Hp) (a C:Addr) (dx:Option Addr) (T:Addr) (D:Ends),
 Caught X pins Z H s a C dx T->eU X.K C=true->X.A.handled=none->t D C a dx Z H->wpAny (model X.prog X.w) X.A (handleBy (.ref a) X.env hs) (SP X pins D) X.xe s
section
variable {X:Cx}{suite:List Stmt}{b0:Stmt}{cn n:Str}{np hp:Pos}{c:Addr}{i:Nat}{th:TS}{t:TH}{hs:List ExceptHandler}
def zho:HB X [] fun _ _ _ _ _ _=>False:=fun _ _ _ _ _ _ _ _ _ _ _ _ z=>z.elim
def zgs {pins:Pnx}{s:Shared}{Z:St}{H:Hp}{a C:Addr}{dx:Option Addr}{T:Addr}{name:Option Str}{body:List Stmt}{Q:Flow->Shared->Prop}(hg:Gl X cn)(hm:X.mg cn=some (.ref c))(q:eU X.K c=true)(hdb:(cn==("__debug__":Str))=false)
  (K2:Caught X pins Z H s a C dx T) (q1:eU X.K C=true)
  (h1:kW X.K C c=true->codeAny (model X.prog X.w) (X.A.mark (some (.ref a))) (.handlers (.ref a) [.ExceptHandler none name body hp] X.env) (fun r s₂=>match r with
     |.ok f=>(match name with
      |none=>Q f s₂
      |some n=>wpAny (model X.prog X.w) X.A (do bindName X.env n .none;unbindBehindTheSuite X.env n hp) (fun _ s₃=>Q f s₃) X.xe s₂)
     |.error x=>cameBackBy (model X.prog X.w) X.A X.env X.xe x s₂) s)
  (h2:kW X.K C c=false->wpAny (model X.prog X.w) X.A (handleBy (.ref a) X.env hs) Q X.xe s):
  wpAny (model X.prog X.w) X.A (handleBy (.ref a) X.env (.ExceptHandler (some (.Name cn np)) name body hp::hs)) Q X.xe s:=by
 kas_ty;have hit:kW X.K C c=(Value.ref C::bm).contains (.ref c):=by
  unfold kW;rw[lk]
 rw[hit]at h1 h2;obtain⟨hh2,g,d,tk,os⟩:=s;refine zdn Y.obj Y'.obj e1 e2 (Y'.tail.hasType xbB.hasBase) ?_
 cases hb:(Value.ref C::bm).contains (.ref c) with
 |true=>exact h1 hb
 |false=>exact h2 hb
def zee (hN:X.N.Nodup)(hi:X.N[i]? =some n)(hl:X.env.scope.names.lookup n=some .local)(hg:Gl X cn)(hm:X.mg cn=some (.ref c))(q:eU X.K c=true)(hdb:(cn==("__debug__":Str))=false)(hh:∀e,nA (X.suite e) (b0::suite) th)(hr:HB X hs t):
  HB X (.ExceptHandler (some (.Name cn np)) (some n) (b0::suite) hp::hs) fun D C a dx Z H=>(kW X.K C c=true->th {D with nx:=fun Z H=>∃v,Z[i]? =some (some v)/\D.nx (Z.set i none) H,bk:=fun _ _=>False,ct:=fun _ _=>False} (Z.set i (some (.ref a))) H)/\(kW X.K C c=false->t D C a dx Z H):=by
 intro pins s Z H a C dx T D K2 q1 hd z;refine zgs hg hm q hdb K2 q1 (fun h=>?_) fun h=>hr pins s Z H a C dx T D K2 q1 hd (z.2 h);refine codeAny_handlers_suite_as (K2.off fun s3 K3=>?_);refine Jt (X:=X.suite (.ref a)) (v:=.ref a) (K3.inv.to_suite _) hN hi (.inl hl) rfl (fun s4 I4=>?_) (.inr hl);refine xbc (hh (.ref a) pins s4 _ H _ I4 (z.1 h)) (fun f s5 y=>?_) fun _ _ y=>False.elim y;have off:∀{Z5:St} {H5:Hp} {s5:Shared} {Q:Unit->Shared->Prop},Inv (X.suite (.ref a)) pins Z5 H5 s5->(∀s7,Inv X pins (Z5.set i none) H5 s7->Q () s7)->wpAny (model X.prog X.w) X.A (do bindName X.env n .none;unbindBehindTheSuite X.env n hp) Q X.xe s5:=fun I5 k=>by
  have I5':=I5.of_suite hd;refine xab (wpAny_bindName (Jt (v:=.non) I5' hN hi (.inl hl) rfl (fun s6 I6=>?_) (.inr hl)));unfold unbindBehindTheSuite;refine wpAny_onRaise (I6.del (v:=.non) hN hi hl ?_ fun s7 I7=>?_)
  .rw[xcP];rw[I5'.len];exact(xao.mp hi).1
  .rw[List.set_set]at I7;exact k s7 I7
 cases f with
 |next=>
  obtain⟨Z5,H5,I5,v,ev,y⟩:=y;exact off I5 fun s7 I7=>⟨_,H5,I7,y⟩
 |brk=>obtain⟨_,_,_,y⟩:=y;exact False.elim y
 |cont=>obtain⟨_,_,_,y⟩:=y;exact False.elim y
 |ret u=>
  obtain⟨v,Z5,H5,I5,rv,y⟩:=y;exact off I5 fun s7 I7=>⟨v,_,H5,I7,rv,y⟩
def zf6 {body:List Stmt}{h0:ExceptHandler}{pos:Pos}{tb:Ends->TS}(hs':X.stack=X.env::X.outer)(hf:X.env.frame=some X.env.locals)(hc:X.calm=true)
  (hb:∀(pins:Pnx) (D:Ends),nA (X.pin pins fun e s'=>∃Z' H' a C dx T,e=.ref a/\Caught X pins Z' H' s' a C dx T/\eU X.K C=true/\t D C a dx Z' H') body (tb D))
  (hh:HB X (h0::hs) t):PS X (.Try body (h0::hs) [] [] pos) (fun D Z H=>tb D D Z H):=by
 tb_src;refine wpAny_Try_except (xbc (hb pins D [] s Z H D (I.to_pin _) h) (fun f s1 z=>?_) fun e s1 z=>?_)
 .cases f with
  |next=>obtain⟨Z',H',J,q⟩:=z;exact xcm ⟨Z',H',J.of_pin,q⟩
  |brk=>obtain⟨Z',H',J,q⟩:=z;exact⟨Z',H',J.of_pin,q⟩
  |cont=>obtain⟨Z',H',J,q⟩:=z;exact⟨Z',H',J.of_pin,q⟩
  |ret u=>obtain⟨v,Z',H',J,r,q⟩:=z;exact⟨v,Z',H',J.of_pin,r,q⟩
 .obtain⟨Z',H',a,C,dx,T,rfl,K1,q1,z⟩:=z;exact K1.note hs' hf fun s2 T2 K2=>hh pins s2 Z' H' a C dx T2 D K2 q1 (I.ok.hd hc) z
end
end L2
namespace E3
open L2
abbrev HE:=Str->Int->Env->Mm->OS
def BP:HE:=fun _ _ _ _=>none
def xK (i:Nat)(o:OS):OS:=match o with
 |some (.nx e,M)=>(match e[i]? with
  |some (.exc _ _)=>some (.nx (e.set i .un),M)
  |_=>none)
 |some (.rt d,M)=>some (.rt d,M)
 |_=>none
def za (i:Nat)(cat:Str->Option Bool)(h:S)(r:HE):HE:=fun c n env M=>match cat c with
 |some true=>if i<env.length then xK i (h (env.set i (.exc c n)) M) else none
 |some false=>r c n env M
 |none=>none
def CJ (b:S)(hh:HE):S:=fun env M=>match b env M with
 |some (.ex c n,M1)=>hh c n env M1
 |o=>o
def Bg (X:Cx)(c:Addr)(cat:Str->Option Bool):Prop:=∀c' b,cat c'=some b->∃C,X.mg c'=some (.ref C)/\eU X.K C=true/\kW X.K C c=b
section
variable {X:Cx}{Wx:XW}{pos:Pos}
def tH (X:Cx)(hh:HE):TH:=fun D C a dx st H=>∃P0 H0 P Os env M c n out M',Ok X.K X.mg P0 H0 P Os H M st env/\X.mg c=some (.ref C)/\Pj X.K X.mg P H none (some (.ref a)) (.exc c n)/\hh c n env M=some (out,M')/\Post X.K X.mg W0 P0 H0 P H M' D out
def O9 (out:Out):Prop:=(∃e,out=.nx e)\/∃d,out=.rt d
structure SH (X:Cx)(hs:List ExceptHandler)(hh:HE):Prop where
 hb:HB X hs (tH X hh)
 ok:∀c n env M out M',hh c n env M=some (out,M')->(∃C,X.mg c=some (.ref C)/\eU X.K C=true)/\O9 out
def Yn {hs:List ExceptHandler}{t t':TH}(h:HB X hs t)(w:∀D C a dx Z H,t' D C a dx Z H->t D C a dx Z H):HB X hs t':=fun pins s Z H a C dx T D k q hd z=>h pins s Z H a C dx T D k q hd (w _ _ _ _ _ _ z)
def zhs:SH X [] BP:=⟨Yn zho (fun D C a dx Z H ⟨_,_,_,_,_,_,_,_,_,_,_,_,_,e,_⟩=>by cases e),fun _ _ _ _ _ _ e=>by cases e⟩
variable {suite:List Stmt}{b0:Stmt}{cn n:Str}{np hp:Pos}{c:Addr}{i:Nat}{h:S}{hs:List ExceptHandler}{r:HE}{cat:Str->Option Bool}
def ziH {c':Str}{b:Bool}(hcat:Bg X c cat)(e:cat c'=some b):∃C,X.mg c'=some (.ref C)/\eU X.K C=true:=let ⟨C,m,x,_⟩:=hcat c' b e;⟨C,m,x⟩
def W7 {c':Str}{C:Addr}{b:Bool}(hcat:Bg X c cat)(e:cat c'=some b)(hm:X.mg c'=some (.ref C)):kW X.K C c=b:=by
 obtain⟨C',m',_,s⟩:=hcat c' b e;cases hm.symm.trans m';exact s
def zgU (hN:X.N.Nodup)(hi:X.N[i]? =some n)(hl:X.env.scope.names.lookup n=some .local)(hg:Gl X cn)(hm:X.mg cn=some (.ref c))(q:eU X.K c=true)(hcat:Bg X c cat)(hh:∀e,SB (X.suite e) W0 (b0::suite) h)(hr:SH X hs r)(hdb:(cn==("__debug__":Str))=false:=by x_go):
    SH X (.ExceptHandler (some (.Name cn np)) (some n) (b0::suite) hp::hs) (za i cat h r):=by
  refine⟨Yn (zee (th:=tS X.K X.mg W0 h) hN hi hl hg hm q hdb hh hr.hb) ?_,fun c' n' env M out M' e=>?_⟩
  rotate_left
  . unfold za at e;kj_one
    . rename_i ec;refine⟨ziH hcat ec,?_⟩;kj_one
      . unfold xK at e;kj_one
        . kj_one
          . cases e;exact .inl ⟨_,rfl⟩
          . cases e
        . cases e;exact .inr ⟨_,rfl⟩
        . cases e
      . cases e
    . exact hr.ok _ _ _ _ _ _ e
    . cases e
  rintro D C a dx st H ⟨P0,H0,P,Os,env,M,c',n',out,M',k,m1,so,e,q⟩;unfold za at e;kj_one
  . rename_i ec;refine⟨fun _=>?_,fun z=>by rw[W7 hcat ec m1]at z;cases z⟩;kj_one
    . rename_i hil;have k1:=k.put (s:=.exc c' n') (sv:=some (.ref a)) hil so;unfold xK at e;kj_one
      . rename_i env' M2 e2;kj_one
        . rename_i c3 n3 ex;cases e;refine⟨P0,H0,P,_,_,M,_,_,k1,e2,fun P2 Os2 H2 st2 l2 k2=>?_⟩;obtain⟨v,ev,_⟩:=k2.slot i _ ex;exact⟨v,pW ev,q P2 _ H2 _ l2 (k2.put (s:=.un) (sv:=none) (xao.mp ex).1 True.intro)⟩
        . cases e
      . rename_i d M2 e2;cases e;exact⟨P0,H0,P,_,_,M,_,_,k1,e2,q⟩
      . cases e
    . cases e
  . rename_i ec;exact⟨fun z=>(by rw[W7 hcat ec m1]at z;cases z),fun _=>⟨P0,H0,P,Os,env,M,c',n',out,M',k,m1,so,e,q⟩⟩
  . cases e
def zf7 {body:List Stmt}{h0:ExceptHandler}{b:S}{hh:HE}  (hs':X.stack=X.env::X.outer)(hf:X.env.frame=some X.env.locals)(hc:X.calm=true)
  (hb:∀pins E,BX (X.pin pins E) body b) (hH:SH X (h0::hs) hh):SS X Wx (.Try body (h0::hs) [] [] pos) (CJ b hh):=by
 let Ex:Ends->L2.St->XK:=fun D Z Cv dx H'=>∀a C,Cv=.ref C->H' a=some (xo a C dx false)->eU X.K C=true/\tH X hh D C a dx Z H'
 refine nj (zf6 (tb:=fun D=>Oo X.K X.mg (Ex D) b) (t:=tH X hh) hs' hf hc (fun pins D=>hb pins _ (Ex D) fun pins' Z H s e s' I z=>?_) hH.hb) ?_
 .obtain⟨a,C,dx,H',T,rfl,K1,hE⟩:=QD (X:=X) I.of_pin z;obtain⟨z1,z3⟩:=hE a C rfl K1.obj;exact⟨Z,H',a,C,dx,T,rfl,K1,z1,z3⟩
 .by_in;unfold CJ at e;kj_one
  .rename_i c' n' M1 e1;obtain⟨⟨C,hmC,x1⟩,ho⟩:=hH.ok _ _ _ _ _ _ e;refine⟨P0,H0,P,Os,env,M,_,_,k,e1,fun P1 H1 C1 dx l1 h1 m1 xn a C2 eC ea=>?_⟩;cases eC;cases hmC.symm.trans m1;refine⟨x1,P0,H0,P1,Os,env,M1,c',n',out,M',k.next l1 h1,m1,⟨_,rfl,a,C,dx,rfl,m1,ea,xn⟩,e,?_⟩
   rcases ho with⟨_,rfl⟩ |⟨_,rfl⟩
   .exact fun P2 Os2 H2 st2 l2 k2=>q P2 Os2 H2 st2 ((l1.lt k.hk).trans l2) k2
   .exact q
  .rename_i o hne;refine⟨P0,H0,P,Os,env,M,_,_,k,e,?_⟩
   cases out with
   |ex c n=>exact absurd e (hne c n M')
   |nx env=>exact q
   |bk env=>exact q
   |ct env=>exact q
   |rt d=>exact q
end
end E3
namespace L2
section
open Builtin Builtin.Str in
open Builtin Builtin.Str in
open Builtin Builtin.Str in
end
end L2
namespace E3
open L2
section
variable {X:Cx}{Wx:XW}{pos:Pos}
variable {e:Expr}{es:Lex}{f:E}{fs:EA}
def zce {a:Expr}{p:Pos}(ha:SE X Wx .val a f)(hs:SA X Wx .bor (e::es) fs)(hbase:attributeBase a "split" X.env (eval a X.env)=eval a X.env:=by rfl)
  (hfew:((backTo pos (starEach (e::es) X.env)).all (fun x=> !x.1)&&(backToKw pos (keywordEach [] X.env)).all (fun x=>x.1.isSome)&&decide ((e::es).length+([]:List Keyword).length+(if ([]:List Keyword).isEmpty then 0 else 1)<30))=true:=by rfl)
  (hline:(p.endLine==pos.line)=true:=by rfl) (hst:starEach (e::es) X.env=(false,eval e X.env)::starEach es X.env:=by rfl) (hplain:(backTo pos (starEach es X.env)).any (·.1)=false:=by rfl):
  SN X Wx (.Call (.Attribute a "split" p) (e::es) [] pos) (lZ tV f fs):=by
 refine gJ (Ej F.plainAttrs_str xbY xbZ Ce ha hs hbase hfew hline hst hplain) ?_;k_go;unfold lZ at e;cb_eq
 .cases d<;>simp only[reduceCtorEq]at e
  rename_i y;kj_on;have k1:=k.next l1 h1
  cases i1;refine⟨rfl,?_⟩;rcases zZ e with⟨ds,M2,e2,e⟩ |⟨c,n,e2,rfl⟩
  .kpa_ne;unfold tV at ez;split at ez
   .rename_i y2 hds;split at ez
    .rename_i hl;cases ez;obtain⟨ds',e',q⟩:=q;cases e';refine⟨P0,H0,P1,Os,env,M1,_,_,k1,e2,fun P2 vs H2 l2 h2 i2=>?_⟩;have aw:=kE.w h2 i2;rw[hds]at aw;obtain⟨v,ws,rfl,p,rfl⟩:=aw;cases p;refine⟨_,_,rfl,rfl,hl.1,hl.2,fun l hl'=>?_⟩;obtain⟨l3,h3,nc⟩:=Gh (vs:=(Txt.split y y2).map V.str) h2 hl';exact q (P2.bar l) l _ _ (l1.trans (l2.trans l3)) h3 (l1.sure l (l2.sure l hl')) (.inr rfl) nc gA (RM _)
    .cases ez
   .cases ez
  .exact⟨P0,H0,P1,Os,env,M1,_,_,k1,e2,q⟩
 .o_norm
end
section
variable {X:Cx}{Wx:XW}{m:Mode}
theorem Sv {P:Program}{w:World}{K:Fgx}{mg:Mgx}{base:Heap}{N:Lsx}{q:Str}{st:Stmt}{f:Addr}{cdv:Value}{A:Around}{outer:List PySem.Env}{s:Shared}{H:Hp}{E:XK}{i:Nat}{x:Str}{pos:Pos}(hN:N[i]? =some x:=by rfl)(hv:LV st x:=by kernel_rfl)(hd:(x==("__debug__":Str))=false:=by x_go)(hcd:(x==("__classdict__":Str))=false:=by x_go):SE (Gp P w K mg base N q st f cdv A outer s H E) Wx m (.Name x pos) (ak i):=CK hN hv hd hcd
theorem Lv {P:Program}{w:World}{K:Fgx}{mg:Mgx}{base:Heap}{N:Lsx}{q:Str}{st:Stmt}{f:Addr}{cdv:Value}{A:Around}{outer:List PySem.Env}{s:Shared}{H:Hp}{E:XK}{x:Str}(hv:LV st x:=by kernel_rfl):Loc (Gp P w K mg base N q st f cdv A outer s H E).env.scope x:=.inl hv
theorem Sw {P:Program}{w:World}{K:Fgx}{mg:Mgx}{base:Heap}{N:Lsx}{q:Str}{st:Stmt}{f:Addr}{cdv:Value}{A:Around}{outer:List PySem.Env}{s:Shared}{H:Hp}{E:XK}{i:Nat}{x:Str}{pos:Pos}(hN:N[i]? =some x:=by rfl)(hv:LV st x:=by kernel_rfl)(hd:(x==("__debug__":Str))=false:=by x_go)(hcd:(x==("__classdict__":Str))=false:=by x_go):SE (yq P w K mg base N q st f cdv A outer s H E) Wx m (.Name x pos) (ak i):=CK hN hv hd hcd
theorem Lw {P:Program}{w:World}{K:Fgx}{mg:Mgx}{base:Heap}{N:Lsx}{q:Str}{st:Stmt}{f:Addr}{cdv:Value}{A:Around}{outer:List PySem.Env}{s:Shared}{H:Hp}{E:XK}{x:Str}(hv:LV st x:=by kernel_rfl):Loc (yq P w K mg base N q st f cdv A outer s H E).env.scope x:=.inl hv
theorem Su {i:Nat}{x:Str}{pos:Pos}(hN:X.N[i]? =some x:=by rfl)(hv:X.env.scope.names.lookup x=some .local:=by kernel_rfl)(hd:(x==("__debug__":Str))=false:=by x_go)(hcd:(x==("__classdict__":Str))=false:=by x_go):SE X Wx m (.Name x pos) (ak i):=CK hN hv hd hcd
theorem Lu {a b:Prop}(h:a:=by kernel_rfl):a\/b:=.inl h
def Ei {i:Int}{j pos}:SE X Wx m (.Constant (.int i) j pos) (aj (.int i)):=q_ zjF
def Es {z:Str}{j pos}:SE X Wx m (.Constant (.str z) j pos) (aj (.str z)):=vm zjm
def Eb {b:Bool}{j pos}:SE X Wx m (.Constant (.bool b) j pos) (aj (.bl b)):=U_ zlS
def Ek {a b:Expr}{pos:Pos}{f g:E}(ha:SE X Wx .bor a f)(hb:SE X Wx .bor b g)(hs:Pb b:=by exact fun _ _=>rfl):SE X Wx m (.Subscript a b pos) (s2 aO f g):=Va RN T_ ha hb hs
def Cm {a b:Expr}{op:CmpOp}{c:Cp}{pos:Pos}{f g:E}(hu:X.A.units+60<cLine)(ha:SE X Wx .bor a f)(hb:SE X Wx .bor b g)(ho:op=wU c:=by rfl)(hm:behindInMarks op b=false:=by rfl):SE X Wx m (.Compare a [op] [b] pos) (s2 (aF c) f g):=by subst ho;exact Ew (wV hu c) Ck ha hb hm
def Ct {a b:Expr}{op:CmpOp}{c:Cp}{pos:Pos}{f g:E}(hu:X.A.units+60<cLine)(ha:SE X Wx .bor a f)(hb:SE X Wx .bor b g)(ho:op=wU c:=by rfl)(hm:behindInMarks op b=false:=by rfl):ST X Wx (.Compare a [op] [b] pos) (s2 (aF c) f g):=by subst ho;exact ziU (wV hu c) Ck ha hb hm
end
section
variable {P:Program}{w:World}{K:Fgx}{h base:Heap}{mg:Mgx}{k:Nat}{x:Str}{st:Stmt}{N ps:Lsx}{b:S}
abbrev HB (x:Str)(st:Stmt)(ps:Lsx):Prop:=∀(kV doc pm:Value) (an:Option Addr) (cdv ct:Value) (us:Lvx),us.length=ps.length->bindArgs (W.fnOf x x (nW st) (k_ st) (b_ st) .none kV doc pm an cdv ct) ⟨us,[]⟩=pure (ps.zip us)
def Ws {a0:Str}(h:∀{kV doc pm:Value} {an:Option Addr} {cdv ct u0:Value},bindArgs (W.fnOf x x (nW st) (k_ st) (b_ st) .none kV doc pm an cdv ct) ⟨[u0],[]⟩=pure [(a0,u0)]):HB x st [a0]:=fun _ _ _ _ _ _ us hl=>match us,hl with | [_],_=>h
def Wt {a0 a1:Str}(h:∀{kV doc pm:Value} {an:Option Addr} {cdv ct u0 u1:Value},bindArgs (W.fnOf x x (nW st) (k_ st) (b_ st) .none kV doc pm an cdv ct) ⟨[u0,u1],[]⟩=pure [(a0,u0),(a1,u1)]):HB x st [a0,a1]:=fun _ _ _ _ _ _ us hl=>match us,hl with | [_,_],_=>h
def O8 {a0 a1 a2:Str}(h:∀{kV doc pm:Value} {an:Option Addr} {cdv ct u0 u1 u2:Value},bindArgs (W.fnOf x x (nW st) (k_ st) (b_ st) .none kV doc pm an cdv ct) ⟨[u0,u1,u2],[]⟩=pure [(a0,u0),(a1,u1),(a2,u2)]):HB x st [a0,a1,a2]:=fun _ _ _ _ _ _ us hl=>match us,hl with | [_,_,_],_=>h
theorem aY.ok (F:aY K x st)(X:K.In h)(G:h.Ns mainGlobals mg)(S:FnScope N ps (b_ st))(hr:∀f,RT P w K mg base k f N x st b)
  (hb:HB x st ps:=by first |exact Ws rfl |exact Wt rfl |exact O8 rfl |exact HB4 rfl |exact HB5 rfl) (hp:ps.length<=N.length:=by decide):aR P w K mg base (k+1) x ps.length (fJ N.length b):=by
 obtain⟨f,d,D⟩:=F.at X G hb;exact D.ok S (hr f) hp
def aY.okX (F:aY K x st)(X:K.In h)(G:h.Ns mainGlobals mg)(S:FnScope N ps (b_ st))(hr:∀f,Dk P w K mg base k f N x st b)
  (hb:HB x st ps:=by first |exact Ws rfl |exact Wt rfl |exact O8 rfl |exact HB4 rfl |exact HB5 rfl) (hp:ps.length<=N.length:=by decide):nM P w K mg base (k+1) x ps.length (fJ N.length b):=by
 obtain⟨f,d,D⟩:=F.at X G hb;exact⟨_,_,_,D.mg,D.F.kp,zgk D.F S hp (hr f),D.b⟩
def aR.up {j n:Nat}{g:G}(a:aR P w K mg base j x n g)(h:j<=k:=by decide):aR P w K mg base k x n g:=a.mono h
def nM.up {j n:Nat}{g:G}(a:nM P w K mg base j x n g)(h:j<=k:=by decide):nM P w K mg base k x n g:=a.mono h
def wH.up {j n:Nat}{C:Addr}{g:G}(a:wH P w K mg base j C n g)(h:j<=k:=by decide):wH P w K mg base k C n g:=a.mono h
def yu {K:Fgx}{t:Addr}{d m s j0 j1 j2}{a b:Str}{i:Int}(l:K.lookup t=some ⟨.type "tuple",d,.seq #[.str a j0,.str b j1,.int i j2] m,s⟩):∀P H,Is K P H (.tup [.str a,.str b,.int i]) (.ref t):=RD (vs:=[.str a,.str b,.int i]) l rfl rfl (by show 3<=sizeLine;decide) (.cons ⟨_,rfl⟩ (.cons ⟨_,rfl⟩ (.cons ⟨_,rfl⟩ .nil))) (fun _ _=>⟨_,_,rfl,rfl,⟨_,_,rfl,rfl,⟨_,_,rfl,rfl,rfl⟩⟩⟩)
end
end E3
namespace L2
end L2
namespace E3
open L2
end E3
namespace L2
theorem Vp:isSubtype (.type "AttributeError") (.type "AttributeError")=pure true:=by rw[xcK];kernel_rfl
def zcp {α:Type}{M:Model}{A:Around}{E:Vsp}{s:Shared}{o:Value}{nm msg:Str}{Q:α->Shared->Prop}(hh:A.handled=none)(hm:msg.length<=sizeLine)
  (hq:∀h' tk e,(∀b u,s.heap.get? b=some u->h'.get? b=some u)->(∃u,h'.get? e=some u/\u.cls=.type "AttributeError")->s.heap.objs.size<=h'.objs.size->E (.ref e) {s with heap:=h',toks:=tk}):
  wpAny M A (raiseAttrError o nm msg:Sem α) Q E s:=by
 obtain⟨h,g,d,t,os⟩:=s;unfold raiseAttrError newExc newTuple;refine xab (wpAny_mkStr (xab ?_) hm);refine xab (xbb ?_ (by size_fits));refine xab (m:=firstArgMember _ _) (xb0 (a:=Value.none) (by rfl) ?_);refine xbb ?_ (by size_fits);have e0:∀x,ownMembersOf (.type "AttributeError") [x]=ownMembersOf (.type "AttributeError") [.none]:=fun x=>rfl;dsimp only;rw[e0];generalize hp1:h.push _=h1;have hsz:h.objs.size<=h1.objs.size:=by rw[<-hp1];simp
 have hk1:∀b u,h.get? b=some u->h1.get? b=some u:=fun b u hb=>by rw[<-hp1];exact xad _ hb
 refine xab (wpAny_mkText (xab ?_));unfold noteAttr lacksNameAndObj;dsimp only;have he:=xaJ h1 (o:={cls:=.type "AttributeError",data:=.fields (#[.ref h.objs.size,.none,.none,.none,.bool false,.none]++ownMembersOf (.type "AttributeError") [.none])}) rfl;refine xab (xab (xcx (T:="AttributeError") ⟨_,he,rfl⟩ Vp ?_));simp only[Bool.not_true,xcF,xdI];refine xab (wpAny_load he ?_);refine xb0 (a:=true) (by rfl) ?_;rw[xaa rfl];refine xab (wpAny_rule (xab (xc7 (T:="AttributeError") ⟨_,he,rfl⟩ ?_)));dsimp only;unfold layMembers;refine xab (wpAny_load he ?_);dsimp only;refine wpAny_update he ?_;unfold raiseNew;refine xab (wpAny_handled ?_);rw[hh];refine xab (xan (wpAny_throw ?_));refine hq _ _ _ (fun b u hb=>?_) ⟨_,xbe _ he (xbx (xaY rfl _)),xcO _ _⟩ ?_
 .have hb1:=hk1 b u hb;rw[xa0 _ _ (xc3 (xap hb1))];exact xad _ hb1
 .simp
  lia
theorem zbo:typeLookup (.type "list") "keys"=pure none:=by rw[xco,xbM];kernel_rfl
theorem zaS:typeLookup (.type "list") "__getattr__"=pure none:=by rw[xco,xbM];kernel_rfl
section
variable {prog:Program}{w:World}{A:Around}{E:Vsp}{h:Heap}{g:Array GenState}{d:Drawn}{t:Nat}{os:OsState}{a:Addr}{items:Avx}{n:Nat}{sl:Array (Option Value)}
def Wo (h:Heap)(g:Array GenState)(d:Drawn)(os:OsState)(E:Vsp):Prop:=
 ∀h' tk e,(∀b u,h.get? b=some u->h'.get? b=some u)->(∃u,h'.get? e=some u/\u.cls=.type "AttributeError")->h.objs.size<=h'.objs.size->E (.ref e) ⟨h',g,d,tk,os⟩
def zcF {tk:Tok}{Q:Fin->Shared->Prop}(hh:A.handled=none)(hx:h.get? a=some {cls:=.type "list",data:=.seq items n,slots:=sl})(hq:Wo h g d os E):
  wpAny (model prog w) A (Builtin.«object.__getattribute__» ⟨[.ref a,.str "keys" tk],[]⟩) Q E ⟨h,g,d,t,os⟩:=by
 have hT:(⟨h,g,d,t,os⟩:Shared).TypeIs (.ref a) "list":=⟨_,hx,rfl⟩;have f4:=zbo
 repeat (any_goals (first |assumption |wp_step))
 exact zcp hh (by x_go) hq
def zcW {tk:Tok}{R:Result->Shared->Prop}(hh:A.handled=none)(hx:h.get? a=some {cls:=.type "list",data:=.seq items n,slots:=sl})(hq:Wo h g d os fun e s=>R (.error e) s):
  codeAny (model prog w) A (.call (.builtin "list.__getattribute__") ⟨[.ref a,.str "keys" tk],[]⟩) R ⟨h,g,d,t,os⟩:=
 xcw xcg.plain F.entry_list_ga (xcg.check _ _ _ _ _ _ _ _ (show(⟨h,g,d,t,os⟩:Shared).TypeIs (.ref a) "list" from⟨_,hx,rfl⟩) (F.args_list_getattribute_2 _ _) (zcF hh hx hq))
def zfp {Q:Option Value->Shared->Prop}(hh:A.handled=none)(hx:h.get? a=some {cls:=.type "list",data:=.seq items n,slots:=sl})
  (hq:∀h' tk,(∀b u,h.get? b=some u->h'.get? b=some u)->h.objs.size<=h'.objs.size->Q none ⟨h',g,d,tk,os⟩):wpAny (model prog w) A (getAttr? (.ref a) "keys") Q E ⟨h,g,d,t,os⟩:=by
 have hT:(⟨h,g,d,t,os⟩:Shared).TypeIs (.ref a) "list":=⟨_,hx,rfl⟩;have f2:=xcg.lookup;have f3:=xcg.bind (.ref a);unfold getAttr? getAttrBy? getAttrBy getAttrByItsOwn callGetattribute boundAndCalled
 repeat (any_goals (first |assumption |wp_step))
 refine zcW hh hx fun h' tk e hk hu hs=>?_;obtain⟨u,hu,hc⟩:=hu;dsimp only;unfold getattributeRaised;refine xab (xcx (T:="AttributeError") ⟨u,hu,hc⟩ Vp ?_);rw[xaa rfl];unfold hookBehind;rw[xac (by decide)];refine xab (xb0 zaS ?_);unfold hookOrError attributeErrorLeaves;dsimp only;rw[xaa (show(!false)=true from rfl)];refine xab (wpAny_throw ?_);refine xab (xcx (T:="AttributeError") ⟨u,hu,hc⟩ Vp ?_);rw[xaa rfl];exact xan (hq h' tk hk hs)
end
theorem XR:entryFor table "dict.update.loop"=some Builtin.«dict.update.loop» :=entryFor_of_fast (by kernel_rfl)
def Mq:plainId "dict.update.loop"=true:=by x_go
section
variable {prog:Program}{w:World}{A:Around}{K:Type}[DecidableEq K]{knd:KeyKind prog w K}{R:Result->Shared->Prop}{d it l:Addr}{items:Avx}{n:Nat}{sl:Array (Option Value)}
def O_ (knd:KeyKind prog w K)(h:Heap)(x:Value)(kv:K×Value):Prop:=∃t key,x=.ref t/\IsTup h t #[key,kv.2]/\knd.is kv.1 key=true
def zd3 (hh:A.handled=none):∀(m i:Nat) (more:List (K×Value)) (kvs:List (K×Value)) (s:Shared),m+i=items.size->d≠it->d≠l->it≠l->more.length=m->kvs.length+m<=sizeLine->
  s.heap.get? l=some {cls:=.type "list",data:=.seq items n,slots:=sl}->s.heap.IsListIter it l i->s.heap.DictOf knd d kvs->
  (∀j kv,more[j]? =some kv->∃x,items[i+j]? =some x/\O_ knd s.heap x kv/\x≠ .ref d/\x≠ .ref it)->
  (∀h' tk,h'.DictOf knd d (merged kvs more)->(∀b u,b≠d->b≠it->s.heap.get? b=some u->h'.get? b=some u)->R (.ok (.ret .none)) {s with heap:=h',toks:=tk})->
  codeAny (model prog w) A (.builtin "dict.update.loop" ⟨[.ref d,.ref it,rawInt i,.none],[]⟩) R s:=by
 intro m
 induction m with
 |zero=>
  intro i more kvs s hm hdi hdl hil hml hsz hl hit hd hp hR;obtain rfl:more=[]:=xcM.mp hml;refine codeAny_builtin XR ?_;rw[Around.under_plainId Mq _];show wpAny _ A.in1 (pyNext (.ref it) >>=_) _ _ s;refine xab (wpAny_pyNext_list_end hh hit ⟨_,hl,rfl,n,rfl⟩ (by simp;lia) fun h' he=>?_);show wpAny _ _ (Builtin.Dict.addKeywords d [] >>=_) _ _ _;refine xab (xan (xan ?_));exact hR h' s.toks (hd.extBut he hdi) fun b u _ hb hu=>he b u hb hu
 |succ m ih=>
  intro i more kvs s hm hdi hdl hil hml hsz hl hit hd hp hR;obtain⟨kv,more,rfl⟩:∃kv r,more=kv::r:=by cases more with
   |nil=>cases hml
   |cons kv r=>exact⟨kv,r,rfl⟩
  obtain⟨x,hx,⟨tt,key,rfl,ht,hk⟩,hxd,hxi⟩:=hp 0 kv rfl;refine codeAny_builtin XR ?_;rw[Around.under_plainId Mq _];show wpAny _ A.in1 (pyNext (.ref it) >>=_) _ _ s;refine xab (wpAny_pyNext_list_item hit ⟨_,hl,rfl,n,rfl⟩ (by simpa using hx) fun h1 hit1 hs1=>?_);dsimp only;refine xab (xbU ?_);refine xab ?_;refine wpAny_tryCatch ?_;unfold Builtin.Dict.pairItems;obtain⟨ot,hot,hct,nt,hdt⟩:=ht;have hne:tt≠it:=fun e=>hxi (by rw[e]);have hned:tt≠d:=fun e=>hxd (by rw[e]);have hot1:h1.get? tt=some ot:=(hs1.2 tt hne).trans hot;refine xab (xc7 (s:={s with heap:=h1}) ⟨ot,hot1,hct⟩ ?_);rw[xaa (by decide)];refine xab (wpAny_seqItems hot1 hdt (xan ?_));show wpAny _ _ (holding [key,kv.2] (dictSet d key kv.2)) _ _ _;have hst:=stored_length_le kvs kv.1 kv.2;refine xbU (wpAny_dictSet_pairs (s:={s with heap:=h1}) hk (hd.sameBut hs1 hdi) (fun h2 hd2 hs2=>?_) (by lia));show wpAny _ _ (again (Code.builtin "dict.update.loop" {pos:=[Value.ref d,Value.ref it,rawInt ((i:Int)+1),Value.none]})) _ _ _;have hk2:∀b u,b≠d->b≠it->s.heap.get? b=some u->h2.get? b=some u:=fun b u b1 b2 hu=>(hs2.2 b b1).trans ((hs1.2 b b2).trans hu);rw[show((i:Int)+1)=((i+1:Nat):Int) by lia];refine xan ⟨plainId_quiet Mq _,ih (i+1) more (stored kvs kv.1 kv.2) {s with heap:=h2,toks:=s.toks+1} (by lia) hdi hdl hil (by simpa using hml) (by lia) (hk2 l _ hdl.symm hil.symm hl) ?_ hd2 (fun j kv' hj=>?_) (fun h' tk hd' hb=>hR h' tk hd' fun b u b1 b2 hu=>hb b u b1 b2 (hk2 b u b1 b2 hu))⟩
  .obtain⟨oi,hoi,r⟩:=hit1;exact⟨oi,(hs2.2 it hdi.symm).trans hoi,r⟩
  .obtain⟨x,hx',⟨t',k',rfl,⟨o',ho',q'⟩,hk'⟩,a1,a2⟩:=hp (j+1) kv' hj;refine⟨_,by rw[<-hx'];congr 1;lia,⟨t',k',rfl,⟨o',hk2 t' o' (fun e=>a1 (by rw[e])) (fun e=>a2 (by rw[e])) ho',q'⟩,hk'⟩,a1,a2⟩
end
section
variable {prog:Program}{w:World}{K:Type}[DecidableEq K]{knd:KeyKind prog w K}{A:Around}{E:Vsp}{s:Shared}{l:Addr}{items:Avx}{n:Nat}{sl:Array (Option Value)}
def zcA {more:List (K×Value)}{Q:Vsp}(hh:A.handled=none)(hl:s.heap.get? l=some {cls:=.type "list",data:=.seq items n,slots:=sl})(hn:items.size=more.length)(hsz:more.length<=sizeLine)
  (hp:∀(j:Nat) kv,more[j]? =some kv->∃x,items[j]? =some x/\O_ knd s.heap x kv)
  (h:∀h' tk a,s.heap.objs.size<=a->h'.DictOf knd a (merged [] more)->(∀b u,s.heap.get? b=some u->h'.get? b=some u)->Q (.ref a) {s with heap:=h',toks:=tk}):
  wpAny (model prog w) A (call (.type "dict") [.ref l]) Q E s:=by
 refine callType_codes (Q₁:=fun obj s₁=>obj=.ref s.heap.objs.size/\s₁={s with heap:=s.heap.push {cls:=.type "dict",data:=.dict #[]}}) F.kt_called_dict (F.kt_typeCall_dict_1 _) F.entry_dict_init (kt_code_dict_new _ ⟨rfl,rfl⟩) ?_;rintro obj s₁ ⟨rfl,rfl⟩;have hnew:(s.heap.push {cls:=.type "dict",data:=.dict #[]}).DictOf knd s.heap.objs.size []:=Heap.DictOf.new s.heap;have hl1:(s.heap.push {cls:=.type "dict",data:=.dict #[]}).get? l=some {cls:=.type "list",data:=.seq items n,slots:=sl}:=xad _ hl;have hdl:s.heap.objs.size≠l:=fun e=>absurd (xap hl) (by rw[e];exact xbf _);refine⟨hnew.typeIs,F.args_dict_init_2 _ _,?_⟩;unfold Builtin.«dict.__init__»;refine xab ?_;unfold Builtin.Dict.selfAndRest;refine xab (wpAny_notOrdered_dict hnew.typeIs ?_);show wpAny _ _ (pure (s.heap.objs.size,[Value.ref l])) _ _ _;refine xan ?_;show wpAny _ _ (Builtin.Dict.updateFrom "dict.__init__" s.heap.objs.size (.ref l) [] .none) _ _ _;unfold Builtin.Dict.updateFrom;refine xab (xc7 (T:="list") ⟨_,hl1,rfl⟩ ?_);rw[xaa (by decide)];refine xab (zfp (A:=A.in1.in1) hh hl1 fun h2 tk hk hs=>?_);rw[xaa (show Option.isNone (none:Option Value)=true from rfl)];refine xab (wpAny_rule ?_);have hl2:=hk _ _ hl1;have hd2:h2.DictOf knd s.heap.objs.size []:=hnew.extBut (b:=l) (fun a o _ q=>hk a o q) hdl;have hdlt:s.heap.objs.size<h2.objs.size:=by
  have:(s.heap.push {cls:=.type "dict",data:=.dict #[]}).objs.size=s.heap.objs.size+1:=by simp
  lia
 refine xab (xcN (s:=⟨h2,_,_,tk,_⟩) ⟨_,hl2,rfl,n,rfl⟩ ?_);dsimp only;have hit:(h2.push {cls:=.type "list_iterator",data:=.fields #[.ref l,.int 0 0]}).IsListIter h2.objs.size l 0:=⟨_,xaJ _ rfl,rfl,rfl⟩;have hil:h2.objs.size≠l:=fun e=>absurd (xap hl2) (by rw[e];exact xbf _);have hk3:∀b u,s.heap.get? b=some u->(h2.push {cls:=.type "list_iterator",data:=.fields #[.ref l,.int 0 0]}).get? b=some u:=fun b u hb=>xad _ (hk b u (xad _ hb));refine xab (xan (xan ⟨plainId_quiet Mq _,?_⟩));refine zd3 (A:=A.in1) (knd:=knd) (n:=n) hh more.length 0 more [] _ (by lia) (xaM hdlt) hdl hil rfl (by simpa using hsz) (xad _ hl2) hit ?_ (fun j kv hj=>?_) fun h' tk' hd' hb=>?_
 .exact hd2.extBut (b:=l) (fun a o _ q=>xad _ q) hdl
 .obtain⟨x,hx,t,key,rfl,⟨o,ho,r⟩,hkk⟩:=hp j kv hj;have ol:=xap ho;refine⟨_,by rw[xed];exact hx,⟨t,key,rfl,⟨o,hk3 t o ho,r⟩,hkk⟩,fun e=>?_,fun e=>?_⟩
  .cases e;exact absurd ol (xbf _)
  .cases e;exact absurd (xeb ol hdlt) (xbf _)
 .refine⟨rfl,h h' tk' _ (xag _) hd' fun b u hu=>?_⟩;have bl:=xap hu;exact hb b u (xaM bl) (xaM (xeb bl hdlt)) (hk3 b u hu)
end
section
variable {X:Cx}{pins:Pnx}{Z:St}{H:Hp}{s:Shared}
theorem pairs_at (I:Inv X pins Z H s):∀{ys:List V} {kvs:List (Key×V)} {its:Lvx},Paired (fun(y:V) (kv:Key×V)=>∃t,y=.ref t/\gO X.K H t [kV kv.1,kv.2]) ys kvs->Vals ys its->
  ∃more:List (Key×Value),KV kvs more/\its.length=more.length/\∀(j:Nat) kv,more[j]? =some kv->∃x,its[j]? =some x/\O_ (lX X.prog X.w) s.heap x kv
 |_,_,_,.nil,.nil=>⟨[],.nil,rfl,fun j kv h=>by simp at h⟩
 |_,_,_,.cons ⟨t,e,sq⟩ r,.cons rv rs=>by
  obtain⟨more,k1,k2,k3⟩:=pairs_at I r rs;subst e;cases rv;obtain⟨its',r',pl,_⟩:=I.tuple sq;obtain⟨u,w',rfl,ru,rw'⟩:=vals2 r';refine⟨(_,w')::more,.cons ⟨rfl,rw'⟩ k1,by simp[k2],fun j kv h=>?_⟩
  cases j with
  |zero=>cases h;exact⟨_,rfl,t,u,rfl,pl,zp ru⟩
  |succ j=>exact k3 j kv h
def zcL (hc:X.calm=true):nP X (.type "dict") (fun xs H Q=>∃p ys kvs,xs=[.ref p]/\gn X.K H p ys/\Paired (fun(y:V) (kv:Key×V)=>∃t,y=.ref t/\gO X.K H t [kV kv.1,kv.2]) ys kvs/\(kvs.map (·.1)).Nodup/\∀q,H q=none->Q (.ref q) (upd H q (.dK kvs))):=by
 kt_chr;obtain⟨p,ys,kvs,rfl,sq,pr,nd,q⟩:=h;obtain⟨u,rfl,ru⟩:=vals1 r;cases ru;obtain⟨its,rv,pl,hz⟩:=I.list sq;obtain⟨more,k1,k2,k3⟩:=pairs_at I pr rv;obtain⟨⟨cl,dc,dt,sl⟩,n,ho,h1,h2,h3⟩:=pl;dsimp only at h1 h2 h3;subst h1 h2 h3;have hn:(more.map (·.1)).Nodup:=by rw[<-k1.keys];exact nd
 have hml:more.length<=sizeLine:=by have:=rv.length;lia
 refine zcA (knd:=lX X.prog X.w) (I.ok.hd hc) ho (by simpa using k2) hml (fun j kv hj=>by simpa using k3 j kv hj) fun h' tk a ha hd hk=>?_;rw[merged_nil_of_nodup more hn]at hd;have hb:(a==sysModules)=false:=xbv.mpr (xbw (xaM (xar I.big ha)));exact⟨.ref a,_,I.laid (a:=a) (o:=.dK kvs) (t':=tk) hk ha (Q6 (by rw[k1.length];exact hml) hb k1 hd),rfl,q a (I.hok.fresh ha)⟩
end
end L2
namespace E3
open L2
section
variable {X:Cx}{Wx:XW}{m:Mode}{pos:Pos}
def pairD:D->Option (Key×D)
 |.tup [k,v]=>(toKey k).map fun key=>(key,v)
 |_=>none
def Ci:List D->Option (List (Key×D))
 | []=>some []
 |d::ds=>match pairD d,Ci ds with
  |some p,some ps=>some (p::ps)
  |_,_=>none
def zd9 {K:Fgx}{P:Pl}{H:Hp}{d:D}{k:Key}{v:V}(h:toKey d=some k)(i:Is K P H d v):v=kV k:=by
 cases d<;>simp only[toKey,reduceCtorEq,xdA]at h<;>subst h<;>exact i
theorem zb1 {K:Fgx}{P:Pl}{H:Hp}:∀{ds:List D} {vs:List V} {kvs:List (Key×D)},Ci ds=some kvs->aL K P H ds vs->
  ∃ws:List (Key×V),Paired (fun(y:V) (kv:Key×V)=>∃t,y=.ref t/\gO K H t [kV kv.1,kv.2]) vs ws/\ws.map (·.1)=kvs.map (·.1)/\aL K P H (kvs.map (·.2)) (ws.map (·.2))
 | [],vs,kvs,h,i=>by
  cases h;obtain rfl:vs=[]:=i;exact⟨[],.nil,rfl,rfl⟩
 |d::ds,vs,kvs,h,i=>by
  obtain⟨v,r,rfl,i1,i2⟩:=i;unfold Ci at h;kjx_on
  .rename_i p ps e1 e2;cases h;obtain⟨ws,w1,w2,w3⟩:=zb1 e2 i2;unfold pairD at e1;split at e1
   .rename_i k x;obtain⟨key,ek,rfl⟩:=xam.mp e1;obtain⟨a,us,rfl,sq,is⟩:=i1;obtain⟨u1,r1,rfl,j1,us2,r2,rfl,j2,rfl⟩:=is;have:=zd9 ek j1;subst this;exact⟨(key,us2)::ws,.cons ⟨a,rfl,sq⟩ w1,by simp[w2],us2,_,rfl,j2,w3⟩
   .cases e1
  .cases h
def Bs (M:Mm):D->O
 |.lst ds=>(match Ci ds with
  |some kvs=>if (kvs.map (·.1)).Nodup then some (.v (.ref M.length),M++[.dct kvs]) else none
  |none=>none)
 |_=>none
def zM (f:E):E:=fun env M=>bnd (f env M) fun d M1=>Bs M1 (vw M1 d)
def zhb {e:Expr}{f:E}{p:Pos}(hc:X.calm=true)(hg:Gl X "dict")(hm:X.mg "dict"=none)(he:SE X Wx .bor e f)(hs:starEach [e] X.env=(false,eval e X.env)::starEach [] X.env:=by rfl):SE X Wx m (.Call (.Name "dict" p) [e] [] pos) (zM f):=by
 refine gJ (TF (zcL hc) hg hm boot_dict (tY he xM hs) (by x_go) (by x_go) hs rfl) ?_;rintro st H Q ⟨P0,H0,P,Os,env,M,r,M',k,ee,q⟩;unfold zM at ee;rcases gU ee with⟨d,N1,e1,ea⟩ |⟨c,n,e1,rfl⟩
 .kj_on;have iw:=iB.vw h1 i1;unfold Bs at ea;split at ea
  .rename_i ds ev;rw[ev]at iw;split at ea
   .rename_i kvs ek;split at ea
    .rename_i nd;cases ea;obtain⟨a,vs,rfl,sq,is⟩:=iw;obtain⟨ws,w1,w2,w3⟩:=zb1 ek is;refine⟨a,vs,ws,rfl,sq,w1,by rw[w2];exact nd,fun p hp=>?_⟩;obtain⟨l2,h2,nc⟩:=Qx (o:=.dK ws) h1 hp;obtain⟨P3,l3,h3,i3⟩:=QJ (o':=.dK ws) (c:=.dct kvs) (l1.trans l2) h2 (l1.sure p hp) (.inr rfl) nc gA L_ fun P' l'=>⟨ws,gA,w2,aL.lt ((l2.lt h1).trans l') w3⟩;rw[zdp]at l3 h3 i3;exact q P3 _ _ l3 h3 (gW.of h3 i3)
    .cases ea
   .cases ea
  .cases ea
 .o_norm
end
end E3
namespace L2
end L2
namespace E3
open L2
end E3
namespace E3
open PySem L2
section
variable {env:Env}{M M1:Mm}{f:E}{ds:List D}{kvs:List (Key×D)}
def QW (h1:f env M=some (.v (.lst ds),M1))(h2:Ci ds=some kvs)(h3:(kvs.map (·.1)).Nodup):zM f env M=some (.v (.ref M1.length),M1++[.dct kvs]):=by
 show bnd (f env M) _=_;simp only[bnd,h1,zg7,Bs,h2,xaa h3]
end
end E3
namespace L2
end L2
namespace E3
open L2
end E3
namespace E3
open L2 PySem.W
section
variable {n:Nat}{lt:Nat->Nat->Option Bool}{le:Nat->Nat->Prop}
variable (hn:0<n)(rf:∀i,le i i)(tr:∀i j k,le i j->le j k->le i k)(H:∀i j,i<n->j<n->∃b,lt i j=some b/\(b=true->le i j)/\(b=false->le j i))
include rf tr
include hn H
end
end E3
namespace L2
end L2
namespace E3
open L2
section
def XP (X:Cx)(D:Ends)(f:Flow)(s':Shared):Prop:=match f with
 |.ret u=>∃v H',s'.os=X.s₀.os/\AllBare s'.gens/\Un X.fs [] X.H₀ H' X.s₀.heap s'.heap/\gK X.prog X.w H' s'.heap/\RelV v u/\D.rt v H'
 |.brk=>∃Z' H',D.bk Z' H'
 |.cont=>∃Z' H',D.ct Z' H'
 |.next=>False
end
def sU (caps:Lsn)(env:PySem.Env):Lsa:=caps.map fun p=>(p.1,(env.cells.lookup p.1).getD 0)
end E3
namespace L2
end L2
namespace E3
open L2
end E3
namespace L2
end L2
namespace E3
open L2
mutual
def D.plain:D->Bool
 |.ref _=>false
 |.tup ds=>D.plains ds
 |.lst ds=>D.plains ds
 |_=>true
def D.plains:List D->Bool
 | []=>true
 |d::ds=>D.plain d&&D.plains ds
end
section
variable {K:Fgx}{P:Pl}{H:Hp}{io:Nat->Addr}
mutual
theorem zdT:∀{d:D} {v:V},D.plain d=true->Is K P H d v->Is K ⟨io,0,fun _=>False⟩ H d v
 |.non,_,_,h |.bl _,_,_,h |.int _,_,_,h |.str _,_,_,h=>h
 |.ref _,_,p,_=>by simp[D.plain]at p
 |.tup ds,_,p,⟨a,vs,e,t,q⟩=>⟨a,vs,e,t,RL (by simpa [D.plain] using p) q⟩
 |.lst ds,_,p,⟨a,vs,e,t,q⟩=>⟨a,vs,e,t.imp (fun z=>⟨fun y=>y,z.2⟩) id,RL (by simpa [D.plain] using p) q⟩
theorem RL:∀{ds:List D} {vs:List V},D.plains ds=true->aL K P H ds vs->aL K ⟨io,0,fun _=>False⟩ H ds vs
 | [],_,_,h=>h
 |d::ds,_,p,⟨v,r,e,h,t⟩=>by
  simp only[D.plains,xak]at p;exact⟨v,r,e,zdT p.1 h,RL p.2 t⟩
end
end
end E3
namespace TS
open PySem PyProof.Rows PySem.W
variable {α:Type}
abbrev Rk:=Keyed->Nat
def Cmp (prog:Program)(w:World)(A:Around)(R:Shared->Prop)(κ:SortKind)(a₀:Array Keyed)(rk:Rk):Prop:=
 ∀x y,x∈a₀->y∈a₀->∀s,R s->wpAny (model prog w) A (keyLt' κ x.1 y.1) (fun c s'=>R s'/\c=decide (rk x<rk y)) (fun _ _=>False) s
variable {prog:Program}{w:World}{A:Around}{R:Shared->Prop}{κ:SortKind}{a₀:Array Keyed}{rk:Rk}
section
variable (C:Cmp prog w A R κ a₀ rk)
include C
end
end TS
namespace E3
open L2 PySem.W
noncomputable def lo:D->D->Prop
 |.int i,.int j=>i<j
 |.str a,.str b=>a.cps.toList<b.cps.toList
 |_,_=>False
noncomputable def fl:D->Bool
 |.int _=>true
 |.str _=>true
 |_=>false
end E3
namespace L2
end L2
namespace E3
open L2 PySem.W
end E3
namespace L2
end L2
namespace E3
open L2
end E3
namespace L2
end L2
namespace E3
open L2
end E3
namespace L2
end L2
namespace E3
open L2
end E3
namespace L2
end L2
namespace E3
open L2
end E3
namespace L2
section
def txt (es:Array (Int×Value)):Lsx:=es.toList.map fun e=>strOf e.2
end
end L2
namespace L2
open E3
end L2
namespace E3
open L2 PySem.W
end E3
namespace E3
open L2
section
variable {X:Cx}{Wx:XW}{pos:Pos}
def zfv (l:Lvx)(x:Int)(y:Value)(h0:0<=x)(h1:x.toNat<=l.length):
  (fun xs:Avx=>have k:=if x<0 then(x+(xs.size:Int)).toNat else min x.toNat xs.size;(xs.extract 0 k).push y++xs.extract k) l.toArray=(l.take x.toNat++y::l.drop x.toNat).toArray:=by
 show(l.toArray.extract 0 (if x<0 then(x+(l.toArray.size:Int)).toNat else min x.toNat l.toArray.size)).push y++l.toArray.extract (if x<0 then(x+(l.toArray.size:Int)).toNat else min x.toNat l.toArray.size)=_
 rw[xac (by lia),xal,xcD h1];apply Array.toList_inj.mp
 simp
 exact xbt (by simp)
def Uj:V->List V->Hp->VK->Prop:=fun x vs H Q=>∃l xs i y,x=.ref l/\vs=[.int i,y]/\H l=some (.lst xs)/\0<=i/\i.toNat<=xs.length/\xs.length<1048576/\Q .non (upd H l (.lst (xs.take i.toNat++y::xs.drop i.toNat)))
def ziQ:JW X "list.insert" Uj:=by
 kt_str;obtain⟨l,xs,i,y,rfl,rfl,hH,h0,h1,h2,q⟩:=h;cases rx
 cases rv with
 |cons ri rv=>
 obtain⟨u,rfl,ru⟩:=Vals.one rv;obtain⟨t,rfl⟩:=ri;obtain⟨z,its,n,r,hl,e⟩:=I.lstM hH;have hz:its.length<=sizeLine:=by rw[xay];lia
 refine xc9 F.slot_list_insert ⟨_,e,rfl⟩ F.entry_list_insert (F.args_list_insert_3 _ _ _)
  (PySem.AutoSeq1.list_insert_list_int_val_1 l its.toArray n i t u (by rw[xdV (by lia) (by lia)];decide) (by rw[xal];exact hz)) ⟨e,?_⟩
 refine⟨.non,_,I.lset (its':=its.take i.toNat++u::its.drop i.toNat) hH e (zfv its i u h0 (by lia)) ((r.take _).append (.cons ru (r.drop _))) ?_,rfl,q⟩;rw[xaf,xae,xaw,xaU,xay];lia
def yD (i:Nat)(g v:E):S:=fun env M=>fK (v env M) fun x M1=>match env[i]? with
 |some (.own ds)=>fK (g env M1) fun y M2=>(match y with
  |.int n=>(match wA ds.length n with
   |some t=>some (.nx (env.set i (.own (ds.set t x))),M2)
   |none=>none)
  |_=>none)
 |_=>none
def Fb {i:Nat}{x:Str}{ix e:Expr}{g v:E}{p0 pos':Pos}(hN:X.N[i]? =some x)(hv:yg X.env.scope x)(hi:SE X Wx .val ix g)(he:SE X Wx .val e v)(hd:(x==("__debug__":Str))=false:=by x_go)(hcd:(x==("__classdict__":Str))=false:=by x_go)
    (ha:∀v,assign (.Subscript (.Name x p0) ix pos') X.env v=(do
      let ov <-holding [v] (eval (.Name x p0) X.env)
      let iv <-holding [v,ov] (eval ix X.env)
      standAt pos'
      holding [v,ov,iv] (setItem ov iv v)
      release [v,ov,iv] []):=by intro _;rfl)
    (hs:swapsWithSole [.Subscript (.Name x p0) ix pos'] e pos.line X.env=pure false:=by rfl) (hw:swappedStores [.Subscript (.Name x p0) ix pos'] e X.env=pure none:=by rfl) (h1:(assignEach [.Subscript (.Name x p0) ix pos'] X.env).map (·.2)=[assign (.Subscript (.Name x p0) ix pos') X.env]:=by rfl):
    SS X Wx (.Assign [.Subscript (.Name x p0) ix pos'] e pos) (yD i g v):=by
  refine nj (zeW he (ziJ (zF hN hv hd hcd) hi set_list ha) hs hw h1) ?_;rintro D st H ⟨P0,H0,P,Os,env,M,out,M',k,ee,q⟩;unfold yD at ee;rcases lW ee with⟨x,M1,e1,ea⟩ |⟨c,n,e1,rfl⟩
  . kj_on;have k1:=k.next l1 h1
    split at ea
    . rename_i ds es;obtain⟨a,vs,o1,o2,o3,o4⟩:=k1.slot i _ es;refine⟨.ref a,pW o2,?_⟩;rcases lW ea with⟨y,M2,e2,eb⟩ |⟨c,n,e2,rfl⟩
      . split at eb
        . rename_i n;split at eb
          . rename_i t et;cases eb;kri_at;have k2:=k1.next l2 h2
            cases i2;obtain⟨a',vs',o1',o2',o3',o4'⟩:=k2.slot i _ es;have ea:a'=a:=by
              have z:=o2'.symm.trans o2;cases z;rfl
            subst ea;obtain⟨l3,k3⟩:=k2.chg es (pW o1') o3' (aL.set t o4' (Is.lt (l2.lt h1) i1));refine⟨a',vs',n,t,rfl,rfl,o3',by rw[o4'.len];exact et,?_⟩;exact q _ _ _ _ ((l1.lt k.hk).trans ((l2.lt h1).trans l3)) k3
          . cases eb
        . cases eb
      . exact eE k1 e2 q
    . cases ea
  . o_norm
def Jd (i:Nat)(g h:E):S:=fun env M=>match env[i]? with
 |some (.own ds)=>fK (g env M) fun y M1=>fK (h env M1) fun z M2=>(match y with
  |.int n=>if 0<=n/\n.toNat<=ds.length/\ds.length<1048576 then some (.nx (env.set i (.own (ds.take n.toNat++z::ds.drop n.toNat))),M2) else none
  |_=>none)
 |_=>none
def zft {i:Nat}{x:Str}{e e':Expr}{g h:E}{p0 p q:Pos}(hN:X.N[i]? =some x)(hv:yg X.env.scope x)(he:SE X Wx .val e g)(he':SE X Wx .val e' h)(hd:(x==("__debug__":Str))=false:=by x_go)(hcd:(x==("__classdict__":Str))=false:=by x_go)
    (hfew:((backTo q (starEach [e,e'] X.env)).all (fun x=> !x.1)&&(backToKw q (keywordEach [] X.env)).all (fun x=>x.1.isSome)&&decide ([e,e'].length+([]:List Keyword).length+(if ([]:List Keyword).isEmpty then 0 else 1)<30))=true:=by rfl)
    (hline:(p.endLine==q.line)=true:=by rfl) (hs:starEach [e,e'] X.env=(false,eval e X.env)::starEach [e'] X.env:=by rfl) (hs':starEach [e'] X.env=(false,eval e' X.env)::starEach [] X.env:=by rfl) (hw:swapsWith (.Call (.Attribute (.Name x p0) "insert" p) [e,e'] [] q) none pos.line X.env=pure false:=by rfl):
    SS X Wx (.Expr (.Call (.Attribute (.Name x p0) "insert" p) [e,e'] [] q) pos) (Jd i g h):=by
  refine nj (Am (Ej xct F.slot_list_insert F.type_list_insert ziQ (zF hN hv hd hcd) (tY he (tY he' xM hs') hs) rfl hfew hline hs (by rw[hs'];rfl)) hw) ?_;rintro D st H ⟨P0,H0,P,Os,env,M,out,M',k,ee,q⟩;unfold Jd at ee;split at ee
  . o_args;rcases lW ee with⟨y,M1,e1,ea⟩ |⟨c,n,e1,rfl⟩
    . kj_on;have k1:=k.next l1 h1
      rcases lW ea with⟨z,M2,e2,eb⟩ |⟨c,n,e2,rfl⟩
      . split at eb
        . rename_i n;split at eb
          . rename_i hz;cases eb;kri_at;have k2:=k1.next l2 h2
            cases i1;obtain⟨a',vs',o1',o2',o3',o4'⟩:=k2.slot i _ es;have ea:a'=a:=by
              have z:=o2'.symm.trans o2;cases z;rfl
            subst ea;obtain⟨l3,k3⟩:=k2.chg es (pW o1') o3' (aL.append (o4'.take n.toNat) (aL.append (aL.one i2) (o4'.drop n.toNat)));refine⟨a',vs',n,v2,rfl,rfl,o3',hz.1,by rw[o4'.len];exact hz.2.1,by rw[o4'.len];exact hz.2.2,?_⟩;exact q _ _ _ _ ((l1.lt k.hk).trans ((l2.lt h1).trans l3)) k3
          . cases eb
        . cases eb
      . exact eE k1 e2 q
    . o_norm
  . cases ee
def Je (i:Nat)(g:E):S:=fun env M=>match env[i]? with
 |some (.own ds)=>fK (g env M) fun y M1=>(match y with
  |.int n=>(match zG n ds with
   |some (_,es)=>some (.nx (env.set i (.own es)),M1)
   |none=>none)
  |_=>none)
 |_=>none
def zfI {i:Nat}{x:Str}{e:Expr}{g:E}{p0 p q:Pos}(hN:X.N[i]? =some x)(hv:yg X.env.scope x)(he:SE X Wx .val e g)(hd:(x==("__debug__":Str))=false:=by x_go)(hcd:(x==("__classdict__":Str))=false:=by x_go)
    (hfew:((backTo q (starEach [e] X.env)).all (fun x=> !x.1)&&(backToKw q (keywordEach [] X.env)).all (fun x=>x.1.isSome)&&decide ([e].length+([]:List Keyword).length+(if ([]:List Keyword).isEmpty then 0 else 1)<30))=true:=by rfl)
    (hline:(p.endLine==q.line)=true:=by rfl) (hs:starEach [e] X.env=(false,eval e X.env)::starEach [] X.env:=by rfl) (hw:swapsWith (.Call (.Attribute (.Name x p0) "pop" p) [e] [] q) none pos.line X.env=pure false:=by rfl):
    SS X Wx (.Expr (.Call (.Attribute (.Name x p0) "pop" p) [e] [] q) pos) (Je i g):=by
  refine nj (Am (Ej xct xda F.type_list_pop zed (zF hN hv hd hcd) (tY he xM hs) rfl hfew hline hs rfl) hw) ?_;rintro D st H ⟨P0,H0,P,Os,env,M,out,M',k,ee,q⟩;unfold Je at ee;split at ee
  . o_args;rcases lW ee with⟨y,M1,e1,ea⟩ |⟨c,n,e1,rfl⟩
    . split at ea
      . rename_i n;split at ea
        . rename_i z es' ep;cases ea;kj_on;have k1:=k.next l1 h1
          cases i1;unfold zG at ep;split at ep
          rotate_left
          . cases ep
          rename_i hb;split at ep
          rotate_left
          . cases ep
          rename_i t et;rw[xam]at ep;obtain⟨z',ez,ep⟩:=ep;cases ep;obtain⟨a',vs',o1',o2',o3',o4'⟩:=k1.slot i _ es;have ea:a'=a:=by
            have z:=o2'.symm.trans o2;cases z;rfl
          subst ea;obtain⟨v,evt,iv⟩:=o4'.get ez;obtain⟨l3,k3⟩:=k1.chg es (pW o1') o3' (aL.erase t o4');refine⟨a',vs',n,t,v,rfl,rfl,o3',by lia,by lia,by rw[o4'.len];exact et,evt,?_⟩;exact q _ _ _ _ ((l1.lt k.hk).trans l3) k3
        . cases ea
      . cases ea
    . o_norm
  . cases ee
end
end E3
namespace My
open L2 E3
abbrev N0l:List PySem.Str:=["_law_k","_law_number","_law_above","_law_sizes","_law_digits_here","_law_letters","_law_name_here","_law_froms_here","_law_wide","_law_fold","_law_kind","_law_rest","_law_many"]
abbrev N1l:List PySem.Str:=["_law_script","_law_by_digits","_law_lines","_law_xs","_law_many","_law_k","_law_found","_law_works","_law_at","_law_ahead","_law_above"]
abbrev N2l:List PySem.Str:=["_law_k","_law_xs","_law_above","_law_name_here","_law_pick","_law_froms_here","_law_fold","_law_wide","_law_width","_law_words"]
abbrev N3l:List PySem.Str:=["_law_lines","_law_x","_law_y","_law_found","_law_at","_law_other","_law_way","_law_words","_law_some"]
abbrev N4l:List PySem.Str:=["_law_number","_law_most","_law_words","_law_pending","_law_room","_law_kind","_law_code","_law_word"]
abbrev N5l:List PySem.Str:=["_law_number","_law_most","_law_words","_law_pending","_law_room","_law_x","_law_pick","_law_kind"]
abbrev N6l:List PySem.Str:=["self","words"]
abbrev N7l:List PySem.Str:=["_law_number","_law_letters","_law_most","_law_words","_law_need","_law_code","_law_word"]
abbrev N8l:List PySem.Str:=["_law_cells_here","_law_by_digits","_law_rows_here","_law_above","_law_k","_law_row_here"]
abbrev N9l:List PySem.Str:=["_law_number","_law_letters","_law_most","_law_words","_law_need","_law_x","_law_pick"]
abbrev N10l:List PySem.Str:=["_law_works","_law_lines","_law_above","_law_k","_law_words","_law_froms_here"]
abbrev N11l:List PySem.Str:=["_law_script"]
abbrev N12l:List PySem.Str:=["words","letters"]
abbrev N13l:List PySem.Str:=["self","at"]
noncomputable def Fi:List (Str×D):=[("+",(.tup [(.str "number"),(.str "number"),(.int 2)])),("-",(.tup [(.str "number"),(.str "number"),(.int 2)])),("*",(.tup [(.str "number"),(.str "number"),(.int 2)])),("least",(.tup [(.str "number"),(.str "number"),(.int 2)])),("most",(.tup [(.str "number"),(.str "number"),(.int 2)])),("<",(.tup [(.str "truth"),(.str "number"),(.int 2)])),("=",(.tup [(.str "truth"),(.str "number"),(.int 2)])),("not",(.tup [(.str "truth"),(.str "truth"),(.int 1)])),("and",(.tup [(.str "truth"),(.str "truth"),(.int 2)])),("or",(.tup [(.str "truth"),(.str "truth"),(.int 2)]))]
noncomputable def Fg:List (Str×D):=[("in",(.int 0)),("keep",(.int 1)),("turn",(.int 1)),("share",(.int 1)),("pour",(.int 8)),("fixed",(.int 1)),("slide",(.int 1)),("gap",(.int 1)),("join",(.int 2)),("out",(.int 1))]
noncomputable def top (i:Nat):Stmt:=PySem.Challenge.pw_rowdam_k19_whole_texts.main.body.getD i (.Pass ⟨0,0,0,0⟩)
noncomputable def Gi:Lsx:=["any","len","range","reversed","all","int","tuple","enumerate","str","min","list","isinstance","dict","bool"]
noncomputable def K5 (s:Stmt) (j:Nat):Stmt:=match s with
 |.ClassDef _ _ _ body _ _ _ _ _ _ _=>body.getD j s
 |_=>s
structure Ad where
 Cond:Addr
 Expr:Addr
 DamError:Addr
 NoExpr:Addr
 NoName:Addr
 NoText:Addr
abbrev Et:Stmt:=K5 (top 3) 0
def za1:FnScope N13l N13l (b_ Et):=⟨rfl,rfl,rfl,by x_go,rfl,by x_go,by x_go⟩
abbrev Er:Stmt:=K5 (top 4) 0
def za2:FnScope N13l N13l (b_ Er):=⟨rfl,rfl,rfl,by x_go,rfl,by x_go,by x_go⟩
structure Txt (K:Fgx)(mg:Mgx)(C:Ad)(w:World):Prop where
 blt:∀b∈Gi,mg b=none
 cl_Cond:ClsOk K mg "Cond" C.Cond
 cl_Expr:ClsOk K mg "Expr" C.Expr
 na_Expr_parts:Bh K C.Expr "parts"
 na_Cond_parts:Bh K C.Cond "parts"
 xm_DamError:mg "DamError"=some (.ref C.DamError)
 xc_DamError:eU K C.DamError=true
 xm_NoExpr:mg "NoExpr"=some (.ref C.NoExpr)
 xc_NoExpr:eU K C.NoExpr=true
 xm_NoName:mg "NoName"=some (.ref C.NoName)
 xc_NoName:eU K C.NoName=true
 xm_NoText:mg "NoText"=some (.ref C.NoText)
 xc_NoText:eU K C.NoText=true
 xn_NoExpr:JN K C.NoExpr=true
 xk_NoExpr:W.keepIn K (.ref C.NoExpr)=true
 xs_NoExpr:Bd K C.NoExpr=true
 xk_NoName:W.keepIn K (.ref C.NoName)=true
 xs_NoName:Bd K C.NoName=true
 xk_NoText:W.keepIn K (.ref C.NoText)=true
 xs_NoText:Bd K C.NoText=true
 qk_NoExpr_NoExpr:kW K C.NoExpr C.NoExpr=true
 qk_NoName_NoName:kW K C.NoName C.NoName=true
 qk_NoText_NoText:kW K C.NoText C.NoText=true
 qn_NoExpr_NoName:kW K C.NoExpr C.NoName=false
 qn_NoExpr_NoText:kW K C.NoExpr C.NoText=false
 qn_NoName_NoText:kW K C.NoName C.NoText=false
 qn_NoText_NoName:kW K C.NoText C.NoName=false
 xb_DamError:Dd K C.DamError=true
 xa_NoName:sI K C.NoName "at"=true
 o_NoName:∃f fd,Df K C.NoName f=true/\FunD K "__init__" "NoName.__init__" Er f fd/\Binds K fd N13l []
 xa_NoText:sI K C.NoText "at"=true
 o_NoText:∃f fd,Df K C.NoText f=true/\FunD K "__init__" "NoText.__init__" Et f fd/\Binds K fd N13l []
 k_ALL_LETTERS:∃a,mg "ALL_LETTERS"=some (.ref a)/\∀P H,Is K P H (.tup [(.str "t"),(.str "v"),(.str "w")]) (.ref a)
 k_FOLDS:∃a,mg "FOLDS"=some (.ref a)/\∀P H,Is K P H (.tup [(.str "sum"),(.str "count"),(.str "most"),(.str "least")]) (.ref a)
 k_NEEDS:∃a,mg "NEEDS"=some (.ref a)/\KTab K w a Fi
 k_FROMS:∃a,mg "FROMS"=some (.ref a)/\KTab K w a Fg
 k_FIGURES:∃t,mg "FIGURES"=some (.str "0123456789" t)
 k_MOST_FIGURES:∃t,mg "MOST_FIGURES"=some (.int 20 t)
 k_LETTERS:∃t,mg "LETTERS"=some (.str "abcdefghijklmnopqrstuvwxyz" t)
 k_COND_LETTERS:∃t,mg "COND_LETTERS"=some (.str "tv" t)
 k_MOST_SIGNS:∃t,mg "MOST_SIGNS"=some (.int 12 t)
 k_MOST_SHARES:∃t,mg "MOST_SHARES"=some (.int 8 t)
 k_MOST_SPREAD:∃t,mg "MOST_SPREAD"=some (.int 8 t)
 k_MOST_SPAN:∃t,mg "MOST_SPAN"=some (.int 1000000000000 t)
structure IniAt (K:Fgx)(C:Addr)(q:Str)(st:Stmt)(ps:Lsx)(f:Addr)(fd:FuncData):Prop where
 M:Mk K C f
 F:FunD K "__init__" q st f fd
 b:Binds K fd ps []
noncomputable def Mi (c:Str):Bool:=if c="NoName" then true else if c="NoText" then true else false
def zbl {K:Fgx}{mg:Mgx}{C:Ad}{w:World}(T:Txt K mg C w):∀c D,Mi c=true->mg c=some (.ref D)->sI K D "at"=true:=by
 intro c D h m;unfold Mi at h;kjx_on
 .rename_i e;subst e;cases (T.xm_NoName).symm.trans m;exact T.xa_NoName
 kjx_on
 .rename_i e;subst e;cases (T.xm_NoText).symm.trans m;exact T.xa_NoText
 cases h
noncomputable def Kl (c:Str):Bool:=if c="NoExpr" then true else false
def W6 {K:Fgx}{mg:Mgx}{C:Ad}{w:World}(T:Txt K mg C w):∀c,Kl c=true->∃D,mg c=some (.ref D)/\eU K D=true/\kW K D C.NoExpr=true:=by
 intro c h;unfold Kl at h;kjx_on
 .rename_i e;subst e;exact⟨_,T.xm_NoExpr,T.xc_NoExpr,T.qk_NoExpr_NoExpr⟩
 cases h
noncomputable def Gj (c:Str):Option Bool:=if c="NoExpr" then some false else if c="NoName" then some true else if c="NoText" then some false else none
def zbj {K:Fgx}{mg:Mgx}{C:Ad}{w:World}(T:Txt K mg C w):∀c b,Gj c=some b->∃D,mg c=some (.ref D)/\eU K D=true/\kW K D C.NoName=b:=by
 intro c b h;unfold Gj at h;kjx_on
 .kim_at;exact⟨_,T.xm_NoExpr,T.xc_NoExpr,T.qn_NoExpr_NoName⟩
 kjx_on
 .kim_at;exact⟨_,T.xm_NoName,T.xc_NoName,T.qk_NoName_NoName⟩
 kjx_on
 .kim_at;exact⟨_,T.xm_NoText,T.xc_NoText,T.qn_NoText_NoName⟩
 cases h
noncomputable def Bp (c:Str):Option Bool:=if c="NoExpr" then some false else if c="NoName" then some false else if c="NoText" then some true else none
def zbd {K:Fgx}{mg:Mgx}{C:Ad}{w:World}(T:Txt K mg C w):∀c b,Bp c=some b->∃D,mg c=some (.ref D)/\eU K D=true/\kW K D C.NoText=b:=by
 intro c b h;unfold Bp at h;kjx_on
 .kim_at;exact⟨_,T.xm_NoExpr,T.xc_NoExpr,T.qn_NoExpr_NoText⟩
 kjx_on
 .kim_at;exact⟨_,T.xm_NoName,T.xc_NoName,T.qn_NoName_NoText⟩
 kjx_on
 .kim_at;exact⟨_,T.xm_NoText,T.xc_NoText,T.qk_NoText_NoText⟩
 cases h
noncomputable def RG (t:String):Option Bool:=if t="int" then some false else if t="bool" then some true else if t="str" then some false else if t="list" then some false else if t="tuple" then some false else if t="NoneType" then some false else if t="dict" then some false else none
theorem zbV {K:Fgx}:∀t b,RG t=some b->W.kitOne K (.type t) (.type "bool")=some b:=by
 intro t b h;unfold RG at h;kjx_on
 .kim_at;kernel_rfl
 kjx_on
 .kim_at;kernel_rfl
 kjx_on
 .kim_at;kernel_rfl
 kjx_on
 .kim_at;kernel_rfl
 kjx_on
 .kim_at;kernel_rfl
 kjx_on
 .kim_at;kernel_rfl
 kjx_on
 .kim_at;kernel_rfl
 cases h
noncomputable def RJ (t:String):Option Bool:=if t="int" then some false else if t="bool" then some false else if t="str" then some false else if t="list" then some true else if t="tuple" then some false else if t="NoneType" then some false else if t="dict" then some false else none
theorem zbM {K:Fgx}:∀t b,RJ t=some b->W.kitOne K (.type t) (.type "list")=some b:=by
 intro t b h;unfold RJ at h;kjx_on
 .kim_at;kernel_rfl
 kjx_on
 .kim_at;kernel_rfl
 kjx_on
 .kim_at;kernel_rfl
 kjx_on
 .kim_at;kernel_rfl
 kjx_on
 .kim_at;kernel_rfl
 kjx_on
 .kim_at;kernel_rfl
 kjx_on
 .kim_at;kernel_rfl
 cases h
def u5 (t T:String):Option Bool:=if T="bool" then RG t else if T="list" then RJ t else none
def zcs:u5 "int" "bool"=some false:=by x_go
def zbO:u5 "list" "list"=some true:=by x_go
def Yx {K:Fgx}:∀t T b,u5 t T=some b->W.kitOne K (.type t) (.type T)=some b:=by
 intro t T b h;unfold u5 at h;kjx_on
 .rename_i e;subst e;exact zbV t b h
 kjx_on
 .rename_i e;subst e;exact zbM t b h
 cases h
abbrev Nq:Stmt:=top 9
def zat:FnScope ["text"] ["text"] (b_ Nq):=f9
def Q8:E:=(s2 (aF .notin) (ak 0) (aj (.str "0123456789")))
def Qh:S:=(ao (eV (lG (s2 (aF .eq) (ak 0) (aj (.str ""))) (gF (sN wM (au (pB [] (Ho (ak 0)) (aj (.bl true)) Q8) aq)))) (ao (aM (aj (.bl false))) aC) aC) (ao (aM (lG (s2 (aF .eq) (ak 0) (aj (.str "0"))) (s2 (aF .ne) (s2 aO (ak 0) (aj (.int 0))) (aj (.str "0"))))) aC))
def Bv:G:=fJ 1 Qh
abbrev NK:Stmt:=top 10
def zaa:FnScope ["text","figures"] ["text"] (b_ NK):=f9
def Qo:S:=(ao (aH 1 (zN (gF (lZ Ov (ak 0) (au (aj (.str "-")) aq))) (kO (ak 0) (g8 (aj (.int 1))) lY) (ak 0))) (ao (aM (fG (s2 (aF .ne) (ak 0) (aj (.str "-0"))) (eX Bv (au (ak 1) aq)))) aC))
def Hf:G:=fJ 2 Qo
abbrev Nk:Stmt:=top 11
def zaL:FnScope ["text"] ["text"] (b_ Nk):=f9
def Qf:S:=(ao (aM (fG (s2 (aF .le) (sN eO (au (ak 0) aq)) (aj (.int 20))) (eX Bv (au (ak 0) aq)))) aC)
def G4:G:=fJ 1 Qf
abbrev Nv:Stmt:=top 12
def zaA:FnScope ["text"] ["text"] (b_ Nv):=f9
def Ql:S:=(ao (aM (fG (eX Hf (au (ak 0) aq)) (s2 (aF .le) (sN eO (au (lZ Ot (ak 0) (au (aj (.str "-")) aq)) aq)) (aj (.int 20))))) aC)
def G8:G:=fJ 1 Ql
abbrev Nt:Stmt:=top 18
def za9:FnScope ["word","letters"] ["word","letters"] (b_ Nt):=f9
def Qj:S:=(ao (aM (lG (eX G8 (au (ak 0) aq)) (fG (s2 (aF .isin) (ak 0) (aj (.tup [(.str "t"),(.str "v"),(.str "w")]))) (s2 (aF .isin) (ak 0) (ak 1))))) aC)
def G6:G:=fJ 2 Qj
abbrev Ob:Stmt:=top 19
def zam:FnScope ["word","kinds","needed","place"] ["word","kinds"] (b_ Ob):=f9
def R3:S:=(ao (eV (lG (kh (gF (ak 1))) (s2 (aF .ne) (vh (ak 1)) (s2 aO (ak 2) (aj (.int 1))))) (ao (zO "NoExpr" (pZ (u_ (ak 0) (pR " needs other words behind it" pU)))) aC) aC) aC)
def Qw:S:=(ao (aH 2 (CG Fi (ak 0))) (ao (n6 3 (xg (au (s2 aO (ak 2) (aj (.int 2))) aq)) R3) aC))
def DQ:G:=fJ 4 Qw
abbrev Ng:Stmt:=top 20
def zak:FnScope ["words","letters","wanted","kinds","word"] ["words","letters","wanted"] (b_ Ng):=f9
def Ag:S:=(ao (eV (tQ true Fi (ak 4)) (ao (yC (zK DQ (au (ak 4) (au (ak 3) aq)))) (ao (Aq (ak 3) (s2 aO (CG Fi (ak 4)) (aj (.int 0)))) aC)) (ao (eV (gF (eX G6 (au (ak 4) (au (ak 1) aq)))) (ao (Aq (ak 3) (aj (.str "number"))) aC) (ao (zO "NoExpr" (pZ (xu (ak 4) (pR " may not stand here" pU)))) aC)) aC)) aC)
def Qc:S:=(ao (aH 3 (vg (aX aq))) (ao (n6 4 (zc (au (ak 0) aq)) Ag) (ao (eV (s2 (aF .ne) (ak 3) (aX (au (ak 2) aq))) (ao (zO "NoExpr" (aj (.str "too many words, or too few"))) aC) aC) aC)))
def Ab:G:=fJ 5 Qc
abbrev Ay:Stmt:=K5 (top 21) 0
def zai:FnScope N6l N6l (b_ Ay):=f9
def J2:S:=(ao (Ep "Expr" "parts" (ak 0) (sN gP (au (ak 1) aq))) aC)
def GD:G:=fJ 2 J2
abbrev N6:Stmt:=top 23
def zaC:FnScope N12l N12l (b_ N6):=f9
def Kg:S:=(ao (yC (zK Ab (au (ak 0) (au (ak 1) (au (aj (.str "number")) aq))))) (ao (aM (Eo "Expr" GD (au (ak 0) aq))) aC))
def BJ:G:=fJ 2 Kg
abbrev Ax:Stmt:=K5 (top 22) 0
def zac:FnScope N6l N6l (b_ Ax):=f9
def J1:S:=(ao (Ep "Cond" "parts" (ak 0) (sN gP (au (ak 1) aq))) aC)
def GC:G:=fJ 2 J1
abbrev N5:Stmt:=top 24
def zaG:FnScope ["words"] ["words"] (b_ N5):=f9
def Kf:S:=(ao (yC (zK Ab (au (ak 0) (au (aj (.str "tv")) (au (aj (.str "truth")) aq))))) (ao (aM (Eo "Cond" GC (au (ak 0) aq))) aC))
def Bx:G:=fJ 1 Kf
abbrev Nu:Stmt:=top 32
def za7:FnScope ["text"] ["text"] (b_ Nu):=f9
def Q9:E:=(lG (s2 (aF .isin) (ak 0) (aj (.str "abcdefghijklmnopqrstuvwxyz"))) (s2 (aF .isin) (ak 0) (aj (.str "0123456789"))))
def Qk:S:=(ao (eV (lG (kh (lU .le .le (aj (.int 1)) (sN eO (au (ak 0) aq)) (aj (.int 12)))) (s2 (aF .notin) (s2 aO (ak 0) (aj (.int 0))) (aj (.str "abcdefghijklmnopqrstuvwxyz")))) (ao (aM (aj (.bl false))) aC) aC) (ao (aM (sN uh (au (pB [] (Ho (ak 0)) (aj (.bl true)) Q9) aq))) aC))
def G7:G:=fJ 1 Qk
abbrev Nm:Stmt:=top 33
def zab:FnScope ["text","least","most"] ["text","least","most"] (b_ Nm):=f9
def Qg:S:=(ao (aM (fG (eX G4 (au (ak 0) aq)) (lU .le .le (ak 1) (sN sS (au (ak 0) aq)) (ak 2)))) aC)
def wu:G:=fJ 3 Qg
abbrev Np:Stmt:=top 34
def zbb:FnScope N12l N12l (b_ Np):=f9
def Wn:S:=(yC (zK BJ (au (ak 0) (au (ak 1) aq))))
def Ym:S:=(ao (aM (aj (.bl false))) aC)
def Kc:S:=(ao (Aw Kl Wn Ym) (ao (aM (aj (.bl true))) aC))
def Ac:G:=fJ 2 Kc
abbrev Nj:Stmt:=top 35
def za5:FnScope ["words"] ["words"] (b_ Nj):=f9
def Wm:S:=(yC (zK Bx (au (ak 0) aq)))
def Yl:S:=(ao (aM (aj (.bl false))) aC)
def Ka:S:=(ao (Aw Kl Wm Yl) (ao (aM (aj (.bl true))) aC))
def DN:G:=fJ 1 Ka
abbrev Nz:Stmt:=top 36
def zaf:FnScope ["rest"] ["rest"] (b_ Nz):=f9
def Qn:S:=(ao (eV (lG (s2 (aF .ne) (sN eO (au (ak 0) aq)) (aj (.int 2))) (kh (gF (eX wu (au (s2 aO (ak 0) (aj (.int 1))) (au (aj (.int 1)) (au (aj (.int 8)) aq))))))) (ao (aM (aj (.bl false))) aC) aC) (ao (aM (eX wu (au (s2 aO (ak 0) (aj (.int 0))) (au (aj (.int 0)) (au (s2 gZ (sN sS (au (s2 aO (ak 0) (aj (.int 1))) aq)) (aj (.int 1))) aq))))) aC))
def G_:G:=fJ 1 Qn
abbrev NZ:Stmt:=top 37
def zad:FnScope ["rest"] ["rest"] (b_ NZ):=f9
def Qq:S:=(ao (aM (fG (s2 (aF .eq) (sN eO (au (ak 0) aq)) (aj (.int 2))) (fG (eX wu (au (s2 aO (ak 0) (aj (.int 0))) (au (aj (.int 1)) (au (aj (.int 1000000000000)) aq)))) (s2 (aF .isin) (s2 aO (ak 0) (aj (.int 1))) (aj (.tup [(.str "sum"),(.str "count"),(.str "most"),(.str "least")])))))) aC)
def Bw:G:=fJ 1 Qq
abbrev NP:Stmt:=top 38
def zag:FnScope ["rest","width"] ["rest"] (b_ NP):=f9
def Qp:S:=(ao (eV (lG (s2 (aF .ne) (sN eO (au (ak 0) aq)) (aj (.int 3))) (kh (gF (eX Bw (au (aU (au (s2 aO (ak 0) (aj (.int 0))) (au (s2 aO (ak 0) (aj (.int 2))) aq))) aq))))) (ao (aM (aj (.bl false))) aC) aC) (ao (aH 1 (sN sS (au (s2 aO (ak 0) (aj (.int 0))) aq))) (ao (aM (fG (eX wu (au (s2 aO (ak 0) (aj (.int 1))) (au (aj (.int 1)) (au (ak 1) aq)))) (s2 (aF .le) (ak 1) (s2 fP (aj (.int 8)) (sN sS (au (s2 aO (ak 0) (aj (.int 1))) aq)))))) aC)))
def Hg:G:=fJ 2 Qp
abbrev Nr:Stmt:=top 39
def zaj:FnScope ["rest"] ["rest"] (b_ Nr):=f9
def Qi:S:=(ao (eV (lG (s2 (aF .lt) (sN eO (au (ak 0) aq)) (aj (.int 1))) (kh (gF (eX wu (au (s2 aO (ak 0) (aj (.int 0))) (au (aj (.int 0)) (au (aj (.int 1000000000000)) aq))))))) (ao (aM (aj (.bl false))) aC) aC) (ao (aM (eX Ac (au (zP (ak 0) (g8 (aj (.int 1))) lY) (au (aj (.str "tvw")) aq)))) aC))
def G5:G:=fJ 1 Qi
abbrev Nx:Stmt:=top 40
def zav:FnScope ["word","rest"] ["word","rest"] (b_ Nx):=f9
def Qm:S:=(ao (eV (s2 (aF .eq) (ak 0) (aj (.str "keep"))) (ao (aM (eX DN (au (ak 1) aq))) aC) aC) (ao (eV (s2 (aF .eq) (ak 0) (aj (.str "turn"))) (ao (aM (eX Ac (au (ak 1) (au (aj (.str "tv")) aq)))) aC) aC) (ao (eV (s2 (aF .eq) (ak 0) (aj (.str "share"))) (ao (aM (eX G_ (au (ak 1) aq))) aC) aC) (ao (eV (s2 (aF .eq) (ak 0) (aj (.str "slide"))) (ao (aM (eX Hg (au (ak 1) aq))) aC) aC) (ao (eV (s2 (aF .isin) (ak 0) (aU (au (aj (.str "fixed")) (au (aj (.str "gap")) aq)))) (ao (aM (eX Bw (au (ak 1) aq))) aC) aC) (ao (eV (s2 (aF .eq) (ak 0) (aj (.str "join"))) (ao (aM (eX G5 (au (ak 1) aq))) aC) aC) (ao (aM (s2 (aF .eq) (ak 1) (aU aq))) aC)))))))
def G9:G:=fJ 2 Qm
abbrev N8:Stmt:=top 41
def zbm:FnScope ["words","behind"] ["words"] (b_ N8):=f9
def Qt:S:=(ao (aH 1 (s2 aN (aj (.int 2)) (CG Fg (s2 aO (ak 0) (aj (.int 0)))))) (ao (aM (aU (au (s2 aO (ak 0) (aj (.int 0))) (au (s2 aO (ak 0) (aj (.int 1))) (au (sN gP (au (kO (ak 0) (g8 (aj (.int 2))) (g8 (ak 1))) aq)) (au (sN gP (au (kO (ak 0) (g8 (ak 1)) lY) aq)) aq)))))) aC))
def BK:G:=fJ 2 Qt
abbrev Nh:Stmt:=top 42
def zah:FnScope ["row"] ["row"] (b_ Nh):=f9
def Qd:S:=(ao (eV (s2 (aF .eq) (s2 aO (ak 0) (aj (.int 0))) (aj (.str "pour"))) (ao (aM (s2 (aF .ge) (sN eO (au (s2 aO (ak 0) (aj (.int 2))) aq)) (aj (.int 2)))) aC) aC) (ao (aM (s2 (aF .eq) (sN eO (au (s2 aO (ak 0) (aj (.int 2))) aq)) (CG Fg (s2 aO (ak 0) (aj (.int 0)))))) aC))
def GX:G:=fJ 1 Qd
abbrev Ny:Stmt:=top 43
def zbx:FnScope ["words","row"] ["words"] (b_ Ny):=f9
def KH:E:=(eX G7 (au (ak 0) aq))
def Kd:S:=(ao (eV (lG (s2 (aF .lt) (sN eO (au (ak 0) aq)) (aj (.int 2))) (tQ false Fg (s2 aO (ak 0) (aj (.int 0))))) (ao (aM (aj (.bl false))) aC) aC) (ao (aH 1 (eX BK (au (ak 0) aq))) (ao (eV (lG (kh (gF (eX GX (au (ak 1) aq)))) (kh (gF (sN uh (au (pB [] (Hl (s2 Ef (aU (au (s2 aO (ak 1) (aj (.int 1))) aq)) (s2 aO (ak 1) (aj (.int 2))))) (aj (.bl true)) KH) aq))))) (ao (aM (aj (.bl false))) aC) aC) (ao (aM (eX G9 (au (s2 aO (ak 1) (aj (.int 0))) (au (s2 aO (ak 1) (aj (.int 3))) aq)))) aC))))
def DP:G:=fJ 2 Kd
abbrev Ni:Stmt:=top 44
def zae:FnScope ["row","words_above"] ["row","words_above"] (b_ Ni):=f9
def KC:E:=(s2 (aF .ne) (zL (ak 1) (ak 0) (aj (.str "out"))) (aj (.str "out")))
def Qe:S:=(ao (eV (tO true (s2 aO (ak 0) (aj (.int 1))) (ak 1)) (ao (aM (aj (.bl false))) aC) aC) (ao (aM (sN uh (au (pB [("words_above",1)] (Hl (s2 aO (ak 0) (aj (.int 2)))) (aj (.bl true)) KC) aq))) aC))
def GZ:G:=fJ 2 Qe
abbrev N7:Stmt:=top 45
def zaw:FnScope ["text","works","words_above","at","line","words","row"] ["text"] (b_ N7):=f9
def B_:S:=(ao (aH 5 (lZ tV (ak 4) (au (aj (.str " ")) aq))) (ao (eV (kh (gF (eX DP (au (ak 5) aq)))) (ao (Jf "NoText" (ak 3)) aC) aC) (ao (aH 6 (eX BK (au (ak 5) aq))) (ao (eV (kh (gF (eX GZ (au (ak 6) (au (ak 2) aq))))) (ao (Jf "NoName" (ak 3)) aC) aC) (ao (En (ak 2) (s2 aO (ak 6) (aj (.int 1))) (s2 aO (ak 6) (aj (.int 0)))) (ao (gw 1 (ak 6)) aC))))))
def Qs:S:=(ao (uc 1 (aX aq)) (ao (aH 2 (lF lR)) (ao (Jc [3,4] (au (lZ tV (ak 0) (au (aj (.str "\n")) aq)) aq) B_) (ao (lV 1) (ao (aM (ak 1)) aC)))))
def Ae:G:=fJ 7 Qs
abbrev N_:Stmt:=top 46
def zaJ:FnScope ["row"] ["row"] (b_ N_):=f9
def Qu:S:=(ao (aM (lZ Jx (aj (.str " ")) (au (s2 Ef (s2 Ef (aU (au (s2 aO (ak 0) (aj (.int 0))) (au (s2 aO (ak 0) (aj (.int 1))) aq))) (s2 aO (ak 0) (aj (.int 2)))) (s2 aO (ak 0) (aj (.int 3)))) aq))) aC)
def Hh:G:=fJ 1 Qu
abbrev Oa:Stmt:=top 47
def zal:FnScope ["works"] ["works"] (b_ Oa):=f9
def XM:E:=(eX Hh (au (ak 0) aq))
def Qv:S:=(ao (aM (lZ pO (aj (.str "\n")) (au (pB [] (ni (ak 0)) (aj (.bl true)) XM) aq))) aC)
def Hi:G:=fJ 1 Qv
abbrev Mw:Stmt:=top 49
def zaP:FnScope ["_law_script","_law_k"] ["_law_script","_law_k"] (b_ Mw):=f9
def Pr:S:=(ao (eV (s2 (aF .lt) (ak 1) (sN eO (au (ak 0) aq))) (ao (aM (s2 aO (ak 0) (ak 1))) aC) aC) (ao (aM (aj (.int 0))) aC))
def wX:G:=fJ 2 Pr
abbrev MJ:Stmt:=top 51
def zbv:FnScope ["_law_number","_law_many","_law_found","_law_x","_law_k"] ["_law_number","_law_many"] (b_ MJ):=f9
def K_:S:=(ao (aH 3 (s2 oMod (s2 aN (s2 aN (s2 aN (s2 fP (ak 3) (ak 3)) (s2 fP (aj (.int 40692)) (ak 3))) (s2 fP (aj (.int 2)) (ak 4))) (aj (.int 1))) (aj (.int 2147483629)))) (ao (gw 2 (s2 j_ (ak 3) (aj (.int 3)))) aC))
def Pz:S:=(ao (uc 2 (aX aq)) (ao (aH 3 (s2 oMod (ak 0) (aj (.int 2147483629)))) (ao (n6 4 (xg (au (ak 1) aq)) K_) (ao (lV 2) (ao (aM (ak 2)) aC)))))
def wY:G:=fJ 5 Pz
abbrev Mx:Stmt:=top 50
def zbH:FnScope ["_law_script","_law_first"] N11l (b_ Mx):=f9
def J3:S:=(ao (aH 1 (eX wX (au (ak 0) (au (aj (.int 0)) aq)))) (ao (eV (s2 (aF .eq) (s2 oMod (ak 1) (aj (.int 8))) (aj (.int 1))) (ao (aM (eX wY (au (s2 j_ (ak 1) (aj (.int 8))) (au (s2 aN (aj (.int 1)) (s2 oMod (s2 j_ (ak 1) (aj (.int 8))) (aj (.int 30)))) aq)))) aC) aC) (ao (aM (s2 aN (aX (au (s2 j_ (ak 1) (aj (.int 8))) aq)) (kO (ak 0) (g8 (aj (.int 1))) (g8 (aj (.int 12)))))) aC)))
def Du:G:=fJ 2 J3
abbrev MN:Stmt:=top 52
def zcj:FnScope ["_law_x","_law_letters","_law_number"] ["_law_x","_law_letters"] (b_ MN):=f9
def ZF:S:=(ao (aM (sN gq (au (ak 2) aq))) aC)
def Lf:S:=(ao (eV (fG (s2 (aF .eq) (s2 oMod (s2 j_ (ak 0) (aj (.int 2))) (aj (.int 2))) (aj (.int 1))) (s2 (aF .gt) (ak 2) (aj (.int 0)))) (ao (aM (s2 aN (aj (.str "-")) (sN gq (au (ak 2) aq)))) aC) aC) ZF)
def ZD:S:=(ao (aH 2 (s2 oMod (s2 fP (s2 fP (s2 fP (ak 0) (aj (.int 1000003))) (aj (.int 104729))) (aj (.int 7919))) (s2 aO (aX (au (aj (.int 10)) (au (aj (.int 100)) (au (s2 nZ (aj (.int 10)) (aj (.int 6))) (au (s2 nZ (aj (.int 10)) (aj (.int 12))) (au (s2 nZ (aj (.int 10)) (aj (.int 20))) aq)))))) (s2 oMod (s2 j_ (ak 0) (aj (.int 9))) (aj (.int 5)))))) Lf)
def J5:S:=(ao (eV (fG (s2 (aF .gt) (s2 oMod (ak 0) (aj (.int 3))) (aj (.int 0))) (s2 (aF .ne) (ak 1) (aj (.str "")))) (ao (aM (s2 aO (ak 1) (s2 oMod (s2 j_ (ak 0) (aj (.int 3))) (sN eO (au (ak 1) aq))))) aC) aC) ZD)
def yZ:G:=fJ 3 J5
abbrev Jh:Stmt:=top 53
def zb2:FnScope N9l ["_law_number","_law_letters","_law_most"] (b_ Jh):=f9
theorem zan:LV Jh "_law_words":=by kernel_rfl
def V1:E:=(s2 (aF .gt) (ak 4) (aj (.int 0)))
def DX:S:=(ao (aH 5 (s2 oMod (s2 aN (s2 aN (s2 aN (s2 fP (ak 5) (ak 5)) (s2 fP (aj (.int 40692)) (ak 5))) (sN eO (au (tU 3) aq))) (aj (.int 1))) (aj (.int 2147483629)))) (ao (aH 6 (s2 j_ (ak 5) (aj (.int 7)))) (ao (eV (fG (s2 (aF .eq) (s2 oMod (ak 6) (aj (.int 2))) (aj (.int 1))) (s2 (aF .le) (s2 aN (s2 aN (sN eO (au (tU 3) aq)) (ak 4)) (aj (.int 2))) (ak 2))) (ao (gw 3 (s2 aO (aX (au (aj (.str "+")) (au (aj (.str "-")) (au (aj (.str "*")) (au (aj (.str "least")) (au (aj (.str "most")) aq)))))) (s2 oMod (s2 j_ (ak 6) (aj (.int 2))) (aj (.int 5))))) (ao (aH 4 (s2 aN (ak 4) (aj (.int 1)))) aC)) (ao (gw 3 (eX yZ (au (s2 j_ (ak 6) (aj (.int 2))) (au (ak 1) aq)))) (ao (aH 4 (s2 gZ (ak 4) (aj (.int 1)))) aC))) aC)))
def PB:S:=(ao (uc 3 (aX aq)) (ao (aH 4 (aj (.int 1))) (ao (aH 5 (s2 oMod (ak 0) (aj (.int 2147483629)))) (ao (yE 1000 V1 DX) (ao (lV 3) (ao (aM (ak 3)) aC))))))
def Dv:G:=fJ 7 PB
abbrev Jg:Stmt:=top 54
def zbW:FnScope N5l ["_law_number","_law_most"] (b_ Jg):=f9
theorem za0:LV Jg "_law_words":=by kernel_rfl
def Zw:S:=(ao (lV 2) (ao (aM (ak 2)) aC))
def Ai:S:=(ao (eV (fG (s2 (aF .eq) (ak 7) (aj (.str "cond"))) (fG (s2 (aF .ge) (ak 4) (aj (.int 4))) (s2 (aF .eq) (s2 oMod (ak 6) (aj (.int 4))) (aj (.int 1))))) (ao (gw 2 (s2 aO (aX (au (aj (.str "and")) (au (aj (.str "or")) aq))) (s2 oMod (s2 j_ (ak 6) (aj (.int 4))) (aj (.int 2))))) (ao (aH 3 (vg (s2 nY (ak 3) (aX (au (aj (.str "cond")) (au (aj (.str "cond")) aq)))))) (ao (aH 4 (s2 gZ (ak 4) (aj (.int 4)))) aC))) (ao (eV (fG (s2 (aF .eq) (ak 7) (aj (.str "cond"))) (fG (s2 (aF .ge) (ak 4) (aj (.int 1))) (s2 (aF .eq) (s2 oMod (ak 6) (aj (.int 4))) (aj (.int 2))))) (ao (gw 2 (aj (.str "not"))) (ao (Aq (ak 3) (aj (.str "cond"))) (ao (aH 4 (s2 gZ (ak 4) (aj (.int 1)))) aC))) (ao (eV (s2 (aF .eq) (ak 7) (aj (.str "cond"))) (ao (gw 2 (s2 aO (aX (au (aj (.str "<")) (au (aj (.str "=")) aq))) (s2 oMod (s2 j_ (ak 6) (aj (.int 4))) (aj (.int 2))))) (ao (aH 3 (vg (s2 nY (ak 3) (aX (au (aj (.str "expr")) (au (aj (.str "expr")) aq)))))) aC)) (ao (eV (fG (s2 (aF .ge) (ak 4) (aj (.int 2))) (s2 (aF .eq) (s2 oMod (ak 6) (aj (.int 3))) (aj (.int 1)))) (ao (gw 2 (s2 aO (aX (au (aj (.str "+")) (au (aj (.str "-")) (au (aj (.str "*")) (au (aj (.str "least")) (au (aj (.str "most")) aq)))))) (s2 oMod (s2 j_ (ak 6) (aj (.int 3))) (aj (.int 5))))) (ao (aH 3 (vg (s2 nY (ak 3) (aX (au (aj (.str "expr")) (au (aj (.str "expr")) aq)))))) (ao (aH 4 (s2 gZ (ak 4) (aj (.int 2)))) aC))) (ao (gw 2 (eX yZ (au (s2 j_ (ak 6) (aj (.int 3))) (au (aj (.str "tv")) aq)))) aC)) aC)) aC)) aC)) aC)
def Ec:S:=(ao (aH 7 (vh (ak 3))) Ai)
def Zi:S:=(ao (aH 6 (s2 j_ (ak 5) (aj (.int 7)))) Ec)
def VR:E:=(s2 (aF .ne) (ak 3) (aX aq))
def Hu:S:=(ao (aH 5 (s2 oMod (s2 aN (s2 aN (s2 aN (s2 fP (ak 5) (ak 5)) (s2 fP (aj (.int 40692)) (ak 5))) (sN eO (au (tU 2) aq))) (aj (.int 1))) (aj (.int 2147483629)))) Zi)
def Zv:S:=(ao (yE 1000 VR Hu) Zw)
def Zu:S:=(ao (aH 5 (s2 oMod (ak 0) (aj (.int 2147483629)))) Zv)
def Zt:S:=(ao (aH 4 (s2 gZ (ak 1) (aj (.int 3)))) Zu)
def Zr:S:=(ao (aH 3 (vg (aX (au (aj (.str "cond")) aq)))) Zt)
def Pu:S:=(ao (uc 2 (aX aq)) Zr)
def GF:G:=fJ 8 Pu
abbrev M8:Stmt:=top 55
def zcd:FnScope ["_law_x","_law_k","_law_word","_law_at"] ["_law_x","_law_k"] (b_ M8):=f9
def Ky:E:=(s2 aO (aj (.str "abcdefghijklmnopqrstuvwxyz")) (s2 oMod (s2 j_ (ak 1) (s2 aN (aj (.int 3)) (s2 fP (aj (.int 7)) (ak 0)))) (aj (.int 26))))
def PN:S:=(ao (aH 2 (lZ pO (aj (.str "")) (au (pB [("_law_x",0)] (xg (au (s2 aN (aj (.int 1)) (s2 oMod (ak 0) (aj (.int 10)))) aq)) (aj (.bl true)) Ky) aq))) (ao (aH 3 (s2 aN (aj (.int 1)) (s2 oMod (s2 j_ (ak 0) (aj (.int 11))) (sN eO (au (ak 2) aq))))) (ao (aM (s2 aN (s2 aN (kO (ak 2) lY (g8 (ak 3))) (sN gq (au (ak 1) aq))) (kO (ak 2) (g8 (ak 3)) lY))) aC)))
def GQ:G:=fJ 4 PN
abbrev M_:Stmt:=top 56
def zc2:FnScope N2l ["_law_k","_law_xs","_law_above"] (b_ M_):=f9
def Sx:S:=(ao (aM (aU (au (aj (.str "out")) (au (ak 3) (au (aU (au (s2 aO (ak 5) (aj (.int 0))) aq)) (au (aU aq) aq)))))) aC)
def Lj:S:=(ao (eV (s2 (aF .eq) (ak 4) (aj (.int 9))) (ao (aH 9 (eX Dv (au (s2 aO (ak 1) (aj (.int 6))) (au (aj (.str "tvw")) (au (s2 aN (aj (.int 1)) (s2 oMod (s2 aO (ak 1) (aj (.int 7))) (aj (.int 31)))) aq))))) (ao (aM (aU (au (aj (.str "join")) (au (ak 3) (au (aU (au (s2 aO (ak 5) (aj (.int 0))) (au (s2 aO (ak 5) (aj (.int 1))) aq))) (au (sN gP (au (s2 aN (aX (au (sN gq (au (s2 gZ (ak 7) (aj (.int 1))) aq)) aq)) (ak 9)) aq)) aq)))))) aC)) aC) Sx)
def Li:S:=(ao (eV (s2 (aF .eq) (ak 4) (aj (.int 8))) (ao (aM (aU (au (aj (.str "gap")) (au (ak 3) (au (aU (au (s2 aO (ak 5) (aj (.int 0))) aq)) (au (aU (au (sN gq (au (ak 7) aq)) (au (ak 6) aq))) aq)))))) aC) aC) Lj)
def Lh:S:=(ao (eV (s2 (aF .eq) (ak 4) (aj (.int 7))) (ao (aH 8 (sN wN (au (s2 nZ (aj (.int 10)) (aj (.int 12))) (au (s2 aN (ak 7) (s2 oMod (s2 fP (s2 fP (s2 aO (ak 1) (aj (.int 7))) (aj (.int 48271))) (aj (.int 7919))) (s2 aN (s2 fP (aj (.int 7)) (ak 7)) (aj (.int 1))))) aq)))) (ao (aM (aU (au (aj (.str "slide")) (au (ak 3) (au (aU (au (s2 aO (ak 5) (aj (.int 0))) aq)) (au (aU (au (sN gq (au (ak 8) aq)) (au (sN gq (au (ak 7) aq)) (au (ak 6) aq)))) aq)))))) aC)) aC) Li)
def Lg:S:=(ao (eV (s2 (aF .eq) (ak 4) (aj (.int 6))) (ao (aM (aU (au (aj (.str "fixed")) (au (ak 3) (au (aU (au (s2 aO (ak 5) (aj (.int 0))) aq)) (au (aU (au (sN gq (au (ak 7) aq)) (au (ak 6) aq))) aq)))))) aC) aC) Lh)
def Ls:S:=(ao (eV (lG (s2 (aF .eq) (ak 4) (aj (.int 4))) (s2 (aF .eq) (ak 4) (aj (.int 5)))) (ao (aM (aU (au (aj (.str "pour")) (au (ak 3) (au (sN gP (au (kO (ak 5) lY (g8 (s2 aN (aj (.int 2)) (s2 oMod (s2 aO (ak 1) (aj (.int 4))) (aj (.int 7)))))) aq)) (au (aU aq) aq)))))) aC) aC) Lg)
def Lr:S:=(ao (eV (s2 (aF .eq) (ak 4) (aj (.int 3))) (ao (aM (aU (au (aj (.str "share")) (au (ak 3) (au (aU (au (s2 aO (ak 5) (aj (.int 0))) aq)) (au (aU (au (sN gq (au (s2 oMod (s2 aO (ak 1) (aj (.int 5))) (s2 aN (aj (.int 1)) (s2 oMod (s2 aO (ak 1) (aj (.int 4))) (aj (.int 8))))) aq)) (au (sN gq (au (s2 aN (aj (.int 1)) (s2 oMod (s2 aO (ak 1) (aj (.int 4))) (aj (.int 8)))) aq)) aq))) aq)))))) aC) aC) Ls)
def Lq:S:=(ao (eV (s2 (aF .eq) (ak 4) (aj (.int 2))) (ao (aM (aU (au (aj (.str "turn")) (au (ak 3) (au (aU (au (s2 aO (ak 5) (aj (.int 0))) aq)) (au (sN gP (au (eX Dv (au (s2 aO (ak 1) (aj (.int 6))) (au (aj (.str "tv")) (au (s2 aN (aj (.int 1)) (s2 oMod (s2 aO (ak 1) (aj (.int 7))) (aj (.int 33)))) aq)))) aq)) aq)))))) aC) aC) Lr)
def Lp:S:=(ao (eV (s2 (aF .eq) (ak 4) (aj (.int 1))) (ao (aM (aU (au (aj (.str "keep")) (au (ak 3) (au (aU (au (s2 aO (ak 5) (aj (.int 0))) aq)) (au (sN gP (au (eX GF (au (s2 aO (ak 1) (aj (.int 6))) (au (s2 aN (aj (.int 3)) (s2 oMod (s2 aO (ak 1) (aj (.int 7))) (aj (.int 31)))) aq))) aq)) aq)))))) aC) aC) Lq)
def ZK:S:=(ao (aH 7 (s2 aN (aj (.int 1)) (s2 oMod (s2 fP (s2 fP (s2 aO (ak 1) (aj (.int 5))) (aj (.int 48271))) (aj (.int 7919))) (s2 aO (aX (au (aj (.int 9)) (au (s2 nZ (aj (.int 10)) (aj (.int 6))) (au (s2 nZ (aj (.int 10)) (aj (.int 12))) aq)))) (s2 oMod (s2 aO (ak 1) (aj (.int 6))) (aj (.int 3))))))) Lp)
def Sy:S:=(ao (aH 6 (s2 aO (aX (au (aj (.str "sum")) (au (aj (.str "count")) (au (aj (.str "most")) (au (aj (.str "least")) aq))))) (s2 oMod (s2 aO (ak 1) (aj (.int 4))) (aj (.int 4))))) ZK)
def Kz:E:=(s2 aO (ak 1) (s2 oMod (ak 0) (sN eO (au (ak 1) aq))))
def ZJ:S:=(ao (aH 5 (pB [("_law_above",2)] (ni (kO (ak 1) (g8 (aj (.int 2))) (g8 (aj (.int 10))))) (aj (.bl true)) Kz)) Sy)
def Lk:S:=(ao (eV (lG (s2 (aF .eq) (ak 2) (aX aq)) (s2 (aF .eq) (ak 4) (aj (.int 0)))) (ao (aM (aU (au (aj (.str "in")) (au (ak 3) (au (aU aq) (au (aU aq) aq)))))) aC) aC) ZJ)
def ZG:S:=(ao (aH 4 (s2 oMod (s2 aO (ak 1) (aj (.int 1))) (aj (.int 11)))) Lk)
def P_:S:=(ao (aH 3 (eX GQ (au (s2 aO (ak 1) (aj (.int 0))) (au (ak 0) aq)))) ZG)
def Dz:G:=fJ 10 P_
abbrev MF:Stmt:=top 57
def zba:FnScope ["_law_number","_law_sizes","_law_found","_law_size"] ["_law_number","_law_sizes"] (b_ MF):=f9
def BZ:S:=(ao (gw 2 (s2 oMod (ak 0) (ak 3))) (ao (aH 0 (s2 j_ (ak 0) (ak 3))) aC))
def Py:S:=(ao (uc 2 (aX aq)) (ao (n6 3 (ni (ak 1)) BZ) (ao (lV 2) (ao (aM (aU (au (ak 2) (au (ak 0) aq)))) aC))))
def GK:G:=fJ 4 Py
abbrev MP:Stmt:=top 58
def zas:FnScope ["_law_number","_law_letters"] ["_law_number","_law_letters"] (b_ MP):=f9
def J6:S:=(ao (eV (s2 (aF .lt) (s2 oMod (ak 0) (aj (.int 5))) (sN eO (au (ak 1) aq))) (ao (aM (aU (au (s2 aO (ak 1) (s2 oMod (ak 0) (aj (.int 5)))) (au (s2 j_ (ak 0) (aj (.int 5))) aq)))) aC) aC) (ao (aM (aU (au (sN gq (au (s2 gZ (s2 oMod (s2 j_ (ak 0) (aj (.int 5))) (aj (.int 2001))) (aj (.int 1000))) aq)) (au (s2 j_ (ak 0) (aj (.int 10005))) aq)))) aC))
def z_:G:=fJ 2 J6
abbrev Ji:Stmt:=top 59
def zau:FnScope N7l ["_law_number","_law_letters","_law_most"] (b_ Ji):=f9
theorem zao:LV Ji "_law_words":=by kernel_rfl
def V2:E:=(s2 (aF .gt) (ak 4) (aj (.int 0)))
def DY:S:=(ao (aH 5 (s2 oMod (ak 0) (aj (.int 10)))) (ao (aH 0 (s2 j_ (ak 0) (aj (.int 10)))) (ao (eV (fG (s2 (aF .lt) (ak 5) (aj (.int 5))) (s2 (aF .le) (s2 aN (s2 aN (sN eO (au (tU 3) aq)) (ak 4)) (aj (.int 2))) (ak 2))) (ao (gw 3 (s2 aO (aX (au (aj (.str "+")) (au (aj (.str "-")) (au (aj (.str "*")) (au (aj (.str "least")) (au (aj (.str "most")) aq)))))) (ak 5))) (ao (aH 4 (s2 aN (ak 4) (aj (.int 1)))) aC)) (ao (tR [6,0] (eX z_ (au (ak 0) (au (ak 1) aq)))) (ao (gw 3 (ak 6)) (ao (aH 4 (s2 gZ (ak 4) (aj (.int 1)))) aC)))) aC)))
def PK:S:=(ao (uc 3 (aX aq)) (ao (aH 4 (aj (.int 1))) (ao (yE 1000 V2 DY) (ao (lV 3) (ao (aM (ak 3)) aC)))))
def Dw:G:=fJ 7 PK
abbrev Mz:Stmt:=top 60
def zar:FnScope N4l ["_law_number","_law_most"] (b_ Mz):=f9
def ZC:S:=(ao (lV 2) (ao (aM (ak 2)) aC))
def Aj:S:=(ao (eV (fG (s2 (aF .eq) (ak 5) (aj (.str "cond"))) (fG (s2 (aF .ge) (ak 4) (aj (.int 4))) (s2 (aF .lt) (ak 6) (aj (.int 2))))) (ao (gw 2 (s2 aO (aX (au (aj (.str "and")) (au (aj (.str "or")) aq))) (ak 6))) (ao (aH 3 (vg (s2 nY (ak 3) (aX (au (aj (.str "cond")) (au (aj (.str "cond")) aq)))))) (ao (aH 4 (s2 gZ (ak 4) (aj (.int 4)))) aC))) (ao (eV (fG (s2 (aF .eq) (ak 5) (aj (.str "cond"))) (fG (s2 (aF .ge) (ak 4) (aj (.int 1))) (s2 (aF .lt) (ak 6) (aj (.int 4))))) (ao (gw 2 (aj (.str "not"))) (ao (Aq (ak 3) (aj (.str "cond"))) (ao (aH 4 (s2 gZ (ak 4) (aj (.int 1)))) aC))) (ao (eV (s2 (aF .eq) (ak 5) (aj (.str "cond"))) (ao (gw 2 (s2 aO (aX (au (aj (.str "<")) (au (aj (.str "=")) aq))) (s2 oMod (ak 6) (aj (.int 2))))) (ao (aH 3 (vg (s2 nY (ak 3) (aX (au (aj (.str "expr")) (au (aj (.str "expr")) aq)))))) aC)) (ao (eV (fG (s2 (aF .ge) (ak 4) (aj (.int 2))) (s2 (aF .lt) (ak 6) (aj (.int 5)))) (ao (gw 2 (s2 aO (aX (au (aj (.str "+")) (au (aj (.str "-")) (au (aj (.str "*")) (au (aj (.str "least")) (au (aj (.str "most")) aq)))))) (ak 6))) (ao (aH 3 (vg (s2 nY (ak 3) (aX (au (aj (.str "expr")) (au (aj (.str "expr")) aq)))))) (ao (aH 4 (s2 gZ (ak 4) (aj (.int 2)))) aC))) (ao (tR [7,0] (eX z_ (au (ak 0) (au (aj (.str "tv")) aq)))) (ao (gw 2 (ak 7)) aC))) aC)) aC)) aC)) aC)
def Sg:S:=(ao (aH 0 (s2 j_ (ak 0) (aj (.int 10)))) Aj)
def Sd:S:=(ao (aH 6 (s2 oMod (ak 0) (aj (.int 10)))) Sg)
def V0:E:=(s2 (aF .ne) (ak 3) (aX aq))
def BW:S:=(ao (aH 5 (vh (ak 3))) Sd)
def Zz:S:=(ao (yE 1000 V0 BW) ZC)
def Zy:S:=(ao (aH 4 (s2 gZ (ak 1) (aj (.int 3)))) Zz)
def Zx:S:=(ao (aH 3 (vg (aX (au (aj (.str "cond")) aq)))) Zy)
def Px:S:=(ao (uc 2 (aX aq)) Zx)
def GJ:G:=fJ 8 Px
abbrev Jj:Stmt:=top 61
def zaB:FnScope N0l ["_law_k","_law_number","_law_above"] (b_ Jj):=f9
def ZM:S:=(ao (aM (aU (au (ak 10) (au (ak 6) (au (sN gP (au (kO (ak 7) lY (g8 (ak 12))) aq)) (au (ak 11) aq)))))) aC)
def SM:S:=(ao (aH 12 (zL (lF (tK (aj (.str "pour")) (s2 aN (aj (.int 2)) (s2 oMod (s2 aO (ak 4) (aj (.int 5))) (aj (.int 7)))) (tK (aj (.str "join")) (aj (.int 2)) lR))) (ak 10) (aj (.int 1)))) ZM)
def LQ:S:=(ao (eV (s2 (aF .eq) (ak 10) (aj (.str "join"))) (ao (aH 11 (sN gP (au (s2 aN (aX (au (sN gq (au (s2 gZ (ak 8) (aj (.int 1))) aq)) aq)) (eX Dw (au (ak 1) (au (aj (.str "tvw")) (au (s2 aN (aj (.int 1)) (s2 oMod (s2 aO (ak 4) (aj (.int 3))) (aj (.int 31)))) aq))))) aq))) aC) aC) SM)
def LK:S:=(ao (eV (s2 (aF .eq) (ak 10) (aj (.str "slide"))) (ao (aH 11 (aU (au (sN gq (au (sN wN (au (s2 nZ (aj (.int 10)) (aj (.int 12))) (au (s2 aN (ak 8) (s2 oMod (ak 1) (s2 aN (s2 fP (aj (.int 7)) (ak 8)) (aj (.int 1))))) aq))) aq)) (au (sN gq (au (ak 8) aq)) (au (ak 9) aq))))) aC) aC) LQ)
def LC:S:=(ao (eV (lG (s2 (aF .eq) (ak 10) (aj (.str "fixed"))) (s2 (aF .eq) (ak 10) (aj (.str "gap")))) (ao (aH 11 (aU (au (sN gq (au (ak 8) aq)) (au (ak 9) aq)))) aC) aC) LK)
def Lz:S:=(ao (eV (s2 (aF .eq) (ak 10) (aj (.str "share"))) (ao (aH 11 (aU (au (sN gq (au (s2 oMod (s2 aO (ak 4) (aj (.int 4))) (s2 aN (aj (.int 1)) (s2 aO (ak 4) (aj (.int 5))))) aq)) (au (sN gq (au (s2 aN (aj (.int 1)) (s2 aO (ak 4) (aj (.int 5)))) aq)) aq)))) aC) aC) LC)
def Ly:S:=(ao (eV (s2 (aF .eq) (ak 10) (aj (.str "turn"))) (ao (aH 11 (sN gP (au (eX Dw (au (ak 1) (au (aj (.str "tv")) (au (s2 aN (aj (.int 1)) (s2 oMod (s2 aO (ak 4) (aj (.int 3))) (aj (.int 33)))) aq)))) aq))) aC) aC) Lz)
def Lx:S:=(ao (eV (s2 (aF .eq) (ak 10) (aj (.str "keep"))) (ao (aH 11 (sN gP (au (eX GJ (au (ak 1) (au (s2 aN (aj (.int 3)) (s2 oMod (s2 aO (ak 4) (aj (.int 3))) (aj (.int 31)))) aq))) aq))) aC) aC) Ly)
def S6:S:=(ao (aH 11 (aU aq)) Lx)
def ZV:S:=(ao (aH 10 (s2 aO (aX (au (aj (.str "keep")) (au (aj (.str "turn")) (au (aj (.str "share")) (au (aj (.str "pour")) (au (aj (.str "pour")) (au (aj (.str "fixed")) (au (aj (.str "slide")) (au (aj (.str "gap")) (au (aj (.str "join")) (au (aj (.str "out")) aq))))))))))) (s2 gZ (s2 aO (ak 4) (aj (.int 0))) (aj (.int 1))))) S6)
def ZS:S:=(ao (aH 9 (s2 aO (aX (au (aj (.str "sum")) (au (aj (.str "count")) (au (aj (.str "most")) (au (aj (.str "least")) aq))))) (s2 aO (ak 4) (aj (.int 6))))) ZV)
def S5:S:=(ao (aH 8 (s2 aN (aj (.int 1)) (s2 aO (ak 4) (aj (.int 4))))) ZS)
def Q7:E:=(s2 aO (ak 1) (s2 oMod (ak 0) (sN eO (au (ak 1) aq))))
def ZR:S:=(ao (aH 7 (pB [("_law_above",2)] (ni (kO (ak 4) (g8 (aj (.int 7))) lY)) (aj (.bl true)) Q7)) S5)
def HN:S:=(ao (eV (lG (s2 (aF .eq) (ak 2) (aX aq)) (s2 (aF .eq) (s2 aO (ak 4) (aj (.int 0))) (aj (.int 0)))) (ao (aM (aU (au (aj (.str "in")) (au (ak 6) (au (aU aq) (au (aU aq) aq)))))) aC) aC) ZR)
def ZQ:S:=(ao (aH 6 (s2 aN (s2 aN (s2 aO (ak 5) (s2 aO (ak 4) (aj (.int 1)))) (kO (kO (ak 5) (g8 (s2 aO (ak 4) (aj (.int 2)))) lY) lY (g8 (aj (.int 1))))) (sN gq (au (ak 0) aq)))) HN)
def ZP:S:=(ao (aH 5 (aj (.str "abcdefghijklmnopqrstuvwxyz"))) ZQ)
def ZL:S:=(ao (tR [4,1] (eX GK (au (ak 1) (au (ak 3) aq)))) ZP)
def J8:S:=(ao (aH 3 (s2 aN (aX (au (aj (.int 11)) (au (aj (.int 26)) (au (aj (.int 27)) (au (aj (.int 40)) (au (s2 nZ (aj (.int 10)) (aj (.int 6))) (au (aj (.int 8)) (au (aj (.int 4)) aq)))))))) (Mv (aX (au (aj (.int 64)) aq)) (aj (.int 8))))) ZL)
def DG:G:=fJ 13 J8
abbrev Nb:Stmt:=top 62
def zbZ:FnScope N8l ["_law_cells_here","_law_by_digits"] (b_ Nb):=f9
def Hw:S:=(ao (eV (gF (ak 1)) (ao (aH 5 (eX DG (au (ak 4) (au (s2 aO (ak 0) (ak 4)) (au (ak 3) aq))))) aC) (ao (aH 5 (eX Dz (au (ak 4) (au (eX wY (au (s2 aN (s2 aO (ak 0) (ak 4)) (s2 fP (aj (.int 31)) (ak 4))) (au (aj (.int 11)) aq))) (au (ak 3) aq))))) aC)) (ao (gw 2 (ak 5)) (ao (eV (s2 (aF .ne) (s2 aO (ak 5) (aj (.int 0))) (aj (.str "out"))) (ao (Aq (ak 3) (s2 aO (ak 5) (aj (.int 1)))) aC) aC) aC)))
def Qa:S:=(ao (uc 2 (aX aq)) (ao (aH 3 (vg (aX aq))) (ao (n6 4 (xg (au (sN eO (au (ak 0) aq)) aq)) Hw) (ao (lV 2) (ao (aM (ak 2)) aC)))))
def GR:G:=fJ 6 Qa
abbrev M6:Stmt:=top 63
def zch:FnScope ["_law_row_here"] ["_law_row_here"] (b_ M6):=f9
def PL:S:=(ao (aM (lZ pO (aj (.str " ")) (au (s2 aN (s2 aN (aX (au (s2 aO (ak 0) (aj (.int 0))) (au (s2 aO (ak 0) (aj (.int 1))) aq))) (Av (s2 aO (ak 0) (aj (.int 2))))) (Av (s2 aO (ak 0) (aj (.int 3))))) aq))) aC)
def GP:G:=fJ 1 PL
abbrev Nf:Stmt:=top 64
def zaW:FnScope ["_law_line_here","_law_x","_law_way","_law_at"] ["_law_line_here","_law_x","_law_way"] (b_ Nf):=f9
def J9:S:=(ao (aH 3 (s2 aO (aX (au (s2 oMod (ak 1) (s2 aN (sN eO (au (ak 0) aq)) (aj (.int 1)))) (au (s2 oMod (ak 1) (s2 aN (sN eO (au (ak 0) aq)) (aj (.int 1)))) (au (sN eO (au (ak 0) aq)) (au (aj (.int 0)) aq))))) (s2 oMod (s2 j_ (ak 1) (aj (.int 943))) (aj (.int 4))))) (ao (eV (s2 (aF .eq) (ak 2) (aj (.int 3))) (ao (aM (s2 aN (kO (ak 0) lY (g8 (ak 3))) (kO (ak 0) (g8 (s2 aN (ak 3) (aj (.int 1)))) lY))) aC) aC) (ao (aM (s2 aN (s2 aN (kO (ak 0) lY (g8 (ak 3))) (s2 aO (aj (.str " ab in ot vw 0189-+<=Z.")) (s2 oMod (s2 j_ (ak 1) (aj (.int 41))) (aj (.int 23))))) (kO (ak 0) (g8 (ak 3)) lY))) aC)))
def DK:G:=fJ 4 J9
abbrev Eu:Stmt:=top 65
def zaO:FnScope N3l ["_law_lines","_law_x","_law_y"] (b_ Eu):=f9
theorem Wd:LV Eu "_law_found":=by kernel_rfl
theorem OD:LV Eu "_law_words":=by kernel_rfl
def zY:S:=(ao (uc 3 (Av (ak 0))) (ao (aH 4 (s2 oMod (ak 1) (sN eO (au (tU 3) aq)))) (ao (aH 5 (s2 oMod (ak 2) (sN eO (au (tU 3) aq)))) (ao (aH 6 (s2 oMod (s2 j_ (ak 1) (aj (.int 41))) (aj (.int 7)))) (ao (eV (s2 (aF .eq) (ak 6) (aj (.int 0))) (ao (yD 3 (ak 4) (s2 aO (ak 0) (ak 5))) (ao (yD 3 (ak 5) (s2 aO (ak 0) (ak 4))) aC)) (ao (eV (s2 (aF .eq) (ak 6) (aj (.int 1))) (ao (Jd 3 (ak 5) (s2 aO (ak 0) (ak 4))) aC) (ao (eV (fG (s2 (aF .eq) (ak 6) (aj (.int 2))) (s2 (aF .gt) (sN eO (au (tU 3) aq)) (aj (.int 1)))) (ao (Je 3 (ak 4)) aC) (ao (eV (s2 (aF .eq) (ak 6) (aj (.int 5))) (ao (uc 7 (lZ tV (s2 aO (ak 0) (ak 4)) (au (aj (.str " ")) aq))) (ao (aH 8 (lZ tV (s2 aO (ak 0) (ak 5)) (au (aj (.str " ")) aq))) (ao (yD 7 (s2 oMod (s2 j_ (ak 2) (aj (.int 41))) (sN eO (au (tU 7) aq))) (s2 aO (ak 8) (s2 oMod (s2 j_ (ak 2) (aj (.int 1681))) (sN eO (au (ak 8) aq))))) (ao (yD 3 (ak 4) (lZ pO (aj (.str " ")) (au (tU 7) aq))) aC)))) (ao (eV (s2 (aF .eq) (ak 6) (aj (.int 6))) (ao (uc 7 (lZ tV (s2 aO (ak 0) (ak 4)) (au (aj (.str " ")) aq))) (ao (yD 3 (ak 4) (lZ pO (aj (.str " ")) (au (s2 aN (s2 aN (kO (tU 7) lY (g8 (aj (.int 2)))) (kO (lZ tV (s2 aO (ak 0) (ak 5)) (au (aj (.str " ")) aq)) (g8 (aj (.int 1))) (g8 (aj (.int 2))))) (kO (tU 7) (g8 (aj (.int 3))) lY)) aq))) aC)) (ao (yD 3 (ak 4) (eX DK (au (s2 aO (ak 0) (ak 4)) (au (ak 2) (au (ak 6) aq))))) aC)) aC)) aC)) aC)) aC)) (ao (lV 3) (ao (aM (ak 3)) aC)))))))
def yt:G:=fJ 9 zY
abbrev Jk:Stmt:=top 66
def zbX:FnScope ["_law_lines","_law_found","_law_works","e"] ["_law_lines"] (b_ Jk):=f9
theorem zbw:LV Jk "e":=by kernel_rfl
def Dh:S:=(aH 2 (zK Ae (au (lZ pO (aj (.str "\n")) (au (ak 0) aq)) aq)))
def Hj:S:=(ao (aH 1 (aU (au (aj (.str "text")) (au (xP Mi 3) aq)))) aC)
def K4:S:=(ao (aH 1 (aU (au (aj (.str "name")) (au (xP Mi 3) aq)))) aC)
def J_:S:=(ao (aH 1 (aU (au (aj (.str "read")) (au (s1 xJ (aj (.int 1))) aq)))) (ao (aH 2 (aX aq)) (ao (CJ Dh (za 3 Bp Hj (za 3 Gj K4 BP))) (ao (aM (aU (au (ak 1) (au (ak 2) aq)))) aC))))
def sX:G:=fJ 4 J_
abbrev MK:Stmt:=top 67
def zbJ:FnScope ["_law_words","_law_many"] ["_law_words"] (b_ MK):=f9
def J4:S:=(ao (eV (s2 (aF .eq) (s2 aO (ak 0) (aj (.int 0))) (aj (.str "pour"))) (ao (aM (kO (ak 0) (g8 (aj (.int 2))) lY)) aC) aC) (ao (aH 1 (zL (lF (tK (aj (.str "in")) (aj (.int 0)) (tK (aj (.str "join")) (aj (.int 2)) lR))) (s2 aO (ak 0) (aj (.int 0))) (aj (.int 1)))) (ao (aM (kO (ak 0) (g8 (aj (.int 2))) (g8 (s2 aN (aj (.int 2)) (ak 1))))) aC)))
def z9:G:=fJ 2 J4
abbrev M7:Stmt:=top 68
def zaF:FnScope ["_law_words","_law_above"] ["_law_words","_law_above"] (b_ M7):=f9
def Kw:E:=(s2 (aF .eq) (zL (ak 1) (ak 0) (aj (.str "out"))) (aj (.str "out")))
def J7:S:=(ao (eV (tO true (s2 aO (ak 0) (aj (.int 1))) (ak 1)) (ao (aM (aj (.bl true))) aC) aC) (ao (aM (sN wM (au (pB [("_law_above",1)] (ni (eX z9 (au (ak 0) aq))) (aj (.bl true)) Kw) aq))) aC))
def Aa:G:=fJ 2 J7
abbrev M9:Stmt:=top 69
def zci:FnScope N10l ["_law_works","_law_lines"] (b_ M9):=f9
def Hv:S:=(ao (aH 4 (lZ tV (s2 aO (ak 1) (ak 3)) (au (aj (.str " ")) aq))) (ao (aH 5 (eX z9 (au (ak 4) aq))) (ao (eV (s2 (aF .ne) (s2 aO (ak 0) (ak 3)) (aU (au (s2 aO (ak 4) (aj (.int 0))) (au (s2 aO (ak 4) (aj (.int 1))) (au (sN gP (au (ak 5) aq)) (au (sN gP (au (kO (ak 4) (g8 (s2 aN (aj (.int 2)) (sN eO (au (ak 5) aq)))) lY) aq)) aq)))))) (ao (aM (aj (.bl false))) aC) aC) (ao (eV (gF (eX Aa (au (ak 4) (au (ak 2) aq)))) (ao (aM (aj (.bl false))) aC) aC) (ao (En (ak 2) (s2 aO (ak 4) (aj (.int 1))) (s2 aO (ak 4) (aj (.int 0)))) aC)))))
def PX:S:=(ao (eV (lG (kh (gF (xQ u5 "list" (ak 0)))) (lG (s2 (aF .ne) (sN eO (au (ak 0) aq)) (sN eO (au (ak 1) aq))) (s2 (aF .ne) (eX Hi (au (ak 0) aq)) (lZ pO (aj (.str "\n")) (au (ak 1) aq))))) (ao (aM (aj (.bl false))) aC) aC) (ao (aH 2 (lF lR)) (ao (n6 3 (xg (au (sN eO (au (ak 0) aq)) aq)) Hv) (ao (aM (aj (.bl true))) aC))))
def Dy:G:=fJ 6 PX
abbrev wC:Stmt:=top 70
def zfk:FnScope N1l N11l (b_ wC):=f9
def Z0:S:=(ao (aM (lG (s2 (aF .eq) (s2 aO (ak 6) (aj (.int 0))) (aj (.str "text"))) (eX Aa (au (lZ tV (s2 aO (ak 2) (ak 8)) (au (aj (.str " ")) aq)) (au (ak 10) aq))))) aC)
def KJ:E:=(aU (au (s2 aO (ak 0) (aj (.int 1))) (au (s2 aO (ak 0) (aj (.int 0))) aq)))
def S8:S:=(ao (aH 10 (zM (pB [] (ni (s2 aO (ak 9) (aj (.int 1)))) (aj (.bl true)) KJ))) Z0)
def S7:S:=(ao (eV (lG (s2 (aF .ne) (s2 aO (eX sX (au (kO (ak 2) lY (g8 (s2 aN (ak 8) (aj (.int 1))))) aq)) (aj (.int 0))) (ak 6)) (s2 (aF .ne) (s2 aO (eX sX (au (s2 aN (kO (ak 2) lY (g8 (s2 aN (ak 8) (aj (.int 1))))) (aX (au (aj (.str "")) (au (aj (.str "in")) aq)))) aq)) (aj (.int 0))) (ak 6))) (ao (aM (aj (.bl false))) aC) aC) S8)
def ZX:S:=(ao (eV (fG (s2 (aF .gt) (ak 8) (aj (.int 0))) (lG (s2 (aF .ne) (s2 aO (ak 9) (aj (.int 0))) (aU (au (aj (.str "read")) (au (s1 xJ (aj (.int 1))) aq)))) (kh (gF (eX Dy (au (s2 aO (ak 9) (aj (.int 1))) (au (kO (ak 2) lY (g8 (ak 8))) aq))))))) (ao (aM (aj (.bl false))) aC) aC) S7)
def S_:S:=(ao (aH 9 (eX sX (au (kO (ak 2) lY (g8 (ak 8))) aq))) ZX)
def Z6:S:=(ao (eV (lG (s2 (aF .eq) (ak 4) (aj (.int 0))) (lG (gF (xQ u5 "bool" (ak 8))) (kh (lU .le .lt (aj (.int 0)) (ak 8) (sN eO (au (ak 2) aq)))))) (ao (aM (aj (.bl false))) aC) aC) S_)
def Z5:S:=(ao (aH 8 (s2 aO (ak 6) (aj (.int 1)))) Z6)
def S9:S:=(ao (eV (s2 (aF .eq) (s2 aO (ak 6) (aj (.int 0))) (aj (.str "read"))) (ao (aM (eX Dy (au (ak 7) (au (ak 2) aq)))) aC) aC) Z5)
def LR:S:=(ao (tR [6,7] (eX sX (au (ak 2) aq))) S9)
def Hx:S:=(ao (aH 2 (eX yt (au (ak 2) (au (s2 aO (ak 3) (s2 aN (aj (.int 1)) (s2 fP (aj (.int 2)) (ak 5)))) (au (s2 aO (ak 3) (s2 aN (aj (.int 2)) (s2 fP (aj (.int 2)) (ak 5)))) aq))))) aC)
def Z4:S:=(ao (n6 5 (xg (au (ak 4) aq)) Hx) LR)
def Z2:S:=(ao (aH 4 (s2 oMod (s2 aO (ak 3) (aj (.int 0))) (aj (.int 4)))) Z4)
def Z1:S:=(ao (aH 3 (eX wY (au (s2 aN (s2 aN (eX wX (au (ak 0) (au (aj (.int 12)) aq))) (s2 fP (aj (.int 31)) (eX wX (au (ak 0) (au (aj (.int 1)) aq))))) (eX wX (au (ak 0) (au (aj (.int 0)) aq)))) (au (aj (.int 8)) aq)))) Z2)
def Q_:E:=(eX GP (au (ak 0) aq))
def ZW:S:=(ao (aH 2 (pB [] (ni (eX GR (au (eX Du (au (ak 0) aq)) (au (ak 1) aq)))) (aj (.bl true)) Q_)) Z1)
def Ke:S:=(ao (aH 1 (s2 (aF .eq) (s2 oMod (s2 j_ (eX wX (au (ak 0) (au (aj (.int 0)) aq))) (aj (.int 8))) (aj (.int 2))) (aj (.int 1)))) ZW)
def Yg:G:=fJ 11 Ke
def kj {f:E}:yO 1 (au f aq):=cnt_cons cnt_nil
def kY {f g:E}:yO 2 (au f (au g aq)):=cnt_cons (cnt_cons cnt_nil)
def sO {f g h:E}:yO 3 (au f (au g (au h aq))):=cnt_cons (cnt_cons (cnt_cons cnt_nil))
section
variable {P:Program}{w:World}{K:Fgx}{mg:Mgx}{C:Ad}{base:Heap}{k k0:Nat}{f:Addr}
theorem zbA (T:Txt K mg C w):RT P w K mg base k f ["text"] "is_figures" Nq Qh:=fun cdv A outer s H E hr=>by
 f_tup;have nd:=(zat).nd;have b0:=T.blt "any" (by x_go);obtain⟨t0,m0⟩:=T.k_FIGURES;refine aD (eY (SW.st (pN (Ct hu Sv Es) (sG (sy (gG (W3 rfl) rfl b0 boot_any zfh (aA (SN.sem (A_ "sign" [] rfl (by x_go) (ziu Sv) (fun _ _ _ _ _ _=>xW) (fun _ _ _ _ _ _=>(Ew (wV (X:=kZ _ _ _ _ _ _ _ _ _) hu .notin) Ck (lM rfl (.inl (by kernel_rfl))) (vm (vf (v:=(.str "0123456789")) rfl m0 ⟨t0,rfl⟩))))) yW) aG CW)))))) (aD (eG Eb) aK) aK) ?_;exact aD (eG (Og (Cm hu Sv Es) (xR (Cm hu (Ek Sv Ei) Es)))) aK
def zap (T:Txt K mg C w)(a0:aR P w K mg base k "is_figures" 1 Bv):RT P w K mg base k f ["text","figures"] "is_signed_figures" NK Qo:=fun cdv A outer s H E hr=>by
 f_tup;have nd:=(zaa).nd;refine aD (dj (i:=1) nd rfl Lv (zg4 (sy (su F.slot_str_startswith F.type_str_startswith zdh zdm Sv (aA Es aG aQ))) (lK Sv (jx (Wx:=W0) Ei) nJ) Sv)) ?_;exact aD (eG (Az (Cm hu Sv Es) (xR (fu a0 hr rfl (aA Sv aG aP) kj)))) aK
def zcz (T:Txt K mg C w)(a0:aR P w K mg base k "is_figures" 1 Bv):RT P w K mg base k f ["text"] "is_count" Nk Qf:=fun cdv A outer s H E hr=>by
 f_tup;have nd:=(zaL).nd;o_new;obtain⟨t1,m1⟩:=T.k_MOST_FIGURES;exact aD (eG (Az (Cm hu (gG h_ rfl b1 xaB iu (aA Sv aG aP)) (q_ (vf (v:=(.int 20)) rfl m1 ⟨t1,rfl⟩))) (xR (fu a0 hr rfl (aA Sv aG aP) kj)))) aK
def zbU (T:Txt K mg C w)(a0:aR P w K mg base k "is_signed_figures" 1 Hf):RT P w K mg base k f ["text"] "is_number" Nv Ql:=fun cdv A outer s H E hr=>by
 f_tup;have nd:=(zaA).nd;o_new;obtain⟨t1,m1⟩:=T.k_MOST_FIGURES;exact aD (eG (Az (fu a0 hr rfl (aA Sv aG aP) kj) (xR (Cm hu (gG h_ rfl b1 xaB iu (aA (su F.slot_str_lstrip F.type_str_lstrip zdE zdi Sv (aA Es aG aQ)) aG gQ)) (q_ (vf (v:=(.int 20)) rfl m1 ⟨t1,rfl⟩)))))) aK
def zcX (T:Txt K mg C w)(a0:aR P w K mg base k "is_number" 1 G8):RT P w K mg base k f ["word","letters"] "is_leaf" Nt Qj:=fun cdv A outer s H E hr=>by
 f_tup;have nd:=(za9).nd;obtain⟨t2,m2⟩:=T.k_ALL_LETTERS;exact aD (eG (Og (fu a0 hr rfl (aA Sv aG aP) kj) (xR (Az (Cm hu Sv (zjc rfl m2.1 m2.2)) (xR (Cm hu Sv Sv)))))) aK
def zbf (T:Txt K mg C w):Dk P w K mg base k f ["word","kinds","needed","place"] "take_needed" Ob Qw:=fun cdv A outer s H E Wx hr XF XP=>by
 f_tup;have nd:=(zam).nd;have b2:=T.blt "range" (by x_go);obtain⟨t3,m3⟩:=T.k_NEEDS;refine aD (dj (i:=2) nd rfl Lw (Oe Sw rfl m3.1 m3.2)) ?_;exact aD (CV xdC rfl nd rfl Lw (Ey rfl b2 (aA (Ek Sw Ei) aG fL)) (aD (eY (SW.st (pN (wD (sy Sw)) (sG (Ct hu (Vb Sw) (Ek Sw Ei))))) (aD (Vl XF rfl T.xm_NoExpr T.xc_NoExpr T.xn_NoExpr T.xk_NoExpr rfl (zeN (zg6 Sw (ze3 ze6)))) aK) aK) aK)) aK
def zbg (T:Txt K mg C w)(a0:aR P w K mg base k "is_leaf" 2 G6)(x1:nM P w K mg base k "take_needed" 2 DQ):Dk P w K mg base k f ["words","letters","wanted","kinds","word"] "check_words" Ng Qc:=fun cdv A outer s H E Wx hr XF XP=>by
 f_tup;have nd:=(zak).nd;have b3:=T.blt "reversed" (by x_go);obtain⟨t3,m3⟩:=T.k_NEEDS;refine aD (dj (i:=3) nd rfl Lw (yF (gk aG))) ?_;refine aD (CV xdC rfl nd rfl Lw (zh8 rfl b3 (aA Sw aG aP)) (aD (eY (zgO Sw rfl m3.1 m3.2) (aD (Vk (SX.se XP (Fd x1 hr rfl (aA Sw (aA Sw aG aP) aP) kY))) (aD (Jq Sw (Ek (Oe Sw rfl m3.1 m3.2) Ei)) aK)) (aD (eY (sy (fu a0 hr rfl (aA Sw (aA Sw aG aP) aP) kY)) (aD (Jq Sw Es) aK) (aD (Vl XF rfl T.xm_NoExpr T.xc_NoExpr T.xn_NoExpr T.xk_NoExpr rfl (zeN (zjE Sw (ze3 ze6)))) aK)) aK)) aK)) ?_;exact aD (eY (Ct hu Sw (SN.sem (gk (aA Sw aG aP)) lst_is)) (aD (Vl XF rfl T.xm_NoExpr T.xc_NoExpr T.xn_NoExpr T.xk_NoExpr rfl Es) aK) aK) aK
def zaN (T:Txt K mg C w):RT P w K mg base k f N6l "Expr.__init__" Ay J2:=fun cdv A outer s H E hr=>by
 f_tup;have nd:=(zai).nd;have b4:=T.blt "tuple" (by x_go);exact aD (zc6 T.cl_Expr T.na_Expr_parts Sv (gV tX rfl b4 xbC tZ (aA Sv aG aP))) aK
def zbQ (T:Txt K mg C w)(hk0:k0+1=k)(a0:wH P w K mg base k0 C.Expr 2 GD)(x1:nM P w K mg base k "check_words" 3 Ab):Dk P w K mg base k f N12l "read_expr" N6 Kg:=fun cdv A outer s H E Wx hr XF XP=>by
 f_tup;have hr1:=hr;rw[<-hk0]at hr1;have nd:=(zaC).nd;refine aD (Vk (SX.se XP (Fd x1 hr rfl (aA Sw (aA Sw (aA Es aG aQ) aP) aP) sO))) ?_;exact aD (eG (zde T.cl_Expr a0 hr1 rfl (aA Sw aG aP) kj)) aK
def zaQ (T:Txt K mg C w):RT P w K mg base k f N6l "Cond.__init__" Ax J1:=fun cdv A outer s H E hr=>by
 f_tup;have nd:=(zac).nd;have b4:=T.blt "tuple" (by x_go);exact aD (zc6 T.cl_Cond T.na_Cond_parts Sv (gV tX rfl b4 xbC tZ (aA Sv aG aP))) aK
def zbS (T:Txt K mg C w)(hk0:k0+1=k)(a0:wH P w K mg base k0 C.Cond 2 GC)(x1:nM P w K mg base k "check_words" 3 Ab):Dk P w K mg base k f ["words"] "read_cond" N5 Kf:=fun cdv A outer s H E Wx hr XF XP=>by
 f_tup;have hr1:=hr;rw[<-hk0]at hr1;have nd:=(zaG).nd;obtain⟨t4,m4⟩:=T.k_COND_LETTERS;refine aD (Vk (SX.se XP (Fd x1 hr rfl (aA Sw (aA (vm (vf (v:=(.str "tv")) rfl m4 ⟨t4,rfl⟩)) (aA Es aG aQ) aP) aP) sO))) ?_;exact aD (eG (zde T.cl_Cond a0 hr1 rfl (aA Sw aG aP) kj)) aK
theorem zcV (T:Txt K mg C w):RT P w K mg base k f ["text"] "is_name" Nu Qk:=fun cdv A outer s H E hr=>by
 f_tup;have nd:=(za7).nd;have b5:=T.blt "all" (by x_go);o_new;obtain⟨t0,m0⟩:=T.k_FIGURES;obtain⟨t5,m5⟩:=T.k_LETTERS;obtain⟨t6,m6⟩:=T.k_MOST_SIGNS;refine aD (eY (SW.st (pN (wD (zeK (c1:=.le) (c2:=.le) hu Ei (gG h_ rfl b1 xaB iu (aA Sv aG aP)) (q_ (vf (v:=(.int 12)) rfl m6 ⟨t6,rfl⟩)))) (sG (Ct hu (Ek Sv Ei) (vm (vf (v:=(.str "abcdefghijklmnopqrstuvwxyz")) rfl m5 ⟨t5,rfl⟩)))))) (aD (eG Eb) aK) aK) ?_;exact aD (eG (gG (QB rfl) rfl b5 boot_all T9 (aA (SN.sem (A_ "sign" [] rfl (by x_go) (ziu Sv) (fun _ _ _ _ _ _=>xW) (fun _ _ _ _ _ _=>(Og (Ew (wV (X:=kZ _ _ _ _ _ _ _ _ _) hu .isin) Ck (lM rfl (.inl (by kernel_rfl))) (vm (vf (v:=(.str "abcdefghijklmnopqrstuvwxyz")) rfl m5 ⟨t5,rfl⟩))) (xR (Ew (wV (X:=kZ _ _ _ _ _ _ _ _ _) hu .isin) Ck (lM rfl (.inl (by kernel_rfl))) (vm (vf (v:=(.str "0123456789")) rfl m0 ⟨t0,rfl⟩))))))) yW) aG CW))) aK
def zay (T:Txt K mg C w)(a0:aR P w K mg base k "is_count" 1 G4):RT P w K mg base k f ["text","least","most"] "is_count_within" Nm Qg:=fun cdv A outer s H E hr=>by
 f_tup;have nd:=(zab).nd;have b6:=T.blt "int" (by x_go);exact aD (eG (Az (fu a0 hr rfl (aA Sv aG aP) kj) (xR (zg2 (c1:=.le) (c2:=.le) hu Sv (gV Kh rfl b6 boot_int Mr (aA Sv aG aP)) Sv)))) aK
def zdN (T:Txt K mg C w)(x0:nM P w K mg base k "read_expr" 2 BJ):RT P w K mg base k f N12l "is_expr" Np Kc:=fun cdv A outer s H E hr=>by
 f_tup;have nd:=(zbb).nd;refine aD (zda rfl rfl rfl rfl T.xm_NoExpr T.xc_NoExpr (fun c h=>W6 T c h) (fun pins E'=>(Qz (zdg (Fd x0 hr rfl (aA Su (aA Su aG aP) aP) kY)))) (fun e'=>(aD (eG Eb) aK))) ?_;exact aD (eG Eb) aK
def zdL (T:Txt K mg C w)(x0:nM P w K mg base k "read_cond" 1 Bx):RT P w K mg base k f ["words"] "is_cond" Nj Ka:=fun cdv A outer s H E hr=>by
 f_tup;have nd:=(za5).nd;refine aD (zda rfl rfl rfl rfl T.xm_NoExpr T.xc_NoExpr (fun c h=>W6 T c h) (fun pins E'=>(Qz (zdg (Fd x0 hr rfl (aA Su aG aP) kj)))) (fun e'=>(aD (eG Eb) aK))) ?_;exact aD (eG Eb) aK
def zaV (T:Txt K mg C w)(a0:aR P w K mg base k "is_count_within" 3 wu):RT P w K mg base k f ["rest"] "is_share_rest" Nz Qn:=fun cdv A outer s H E hr=>by
 f_tup;have nd:=(zaf).nd;have b6:=T.blt "int" (by x_go);o_new;obtain⟨t7,m7⟩:=T.k_MOST_SHARES;refine aD (eY (SW.st (pN (Ct hu (gG h_ rfl b1 xaB iu (aA Sv aG aP)) Ei) (sG (wD (sy (fu a0 hr rfl (aA (Ek Sv Ei) (aA Ei (aA (q_ (vf (v:=(.int 8)) rfl m7 ⟨t7,rfl⟩)) aG aP) aQ) fL) sO)))))) (aD (eG Eb) aK) aK) ?_;exact aD (eG (fu a0 hr rfl (aA (Ek Sv Ei) (aA Ei (aA (aJ tD tL (gV Kh rfl b6 boot_int Mr (aA (Ek Sv Ei) aG fL)) Ei) aG gB) aQ) fL) sO)) aK
def zaT (T:Txt K mg C w)(a0:aR P w K mg base k "is_count_within" 3 wu):RT P w K mg base k f ["rest"] "is_width_rest" NZ Qq:=fun cdv A outer s H E hr=>by
 f_tup;have nd:=(zad).nd;o_new;obtain⟨t8,m8⟩:=T.k_FOLDS;obtain⟨t9,m9⟩:=T.k_MOST_SPAN;exact aD (eG (Az (Cm hu (gG h_ rfl b1 xaB iu (aA Sv aG aP)) Ei) (Az (fu a0 hr rfl (aA (Ek Sv Ei) (aA Ei (aA (q_ (vf (v:=(.int 1000000000000)) rfl m9 ⟨t9,rfl⟩)) aG aP) aQ) fL) sO) (xR (Cm hu (Ek Sv Ei) (zjc rfl m8.1 m8.2)))))) aK
def zaU (T:Txt K mg C w)(a0:aR P w K mg base k "is_count_within" 3 wu)(a1:aR P w K mg base k "is_width_rest" 1 Bw):RT P w K mg base k f ["rest","width"] "is_slide_rest" NP Qp:=fun cdv A outer s H E hr=>by
 f_tup;have nd:=(zag).nd;have b6:=T.blt "int" (by x_go);o_new;obtain⟨t10,m10⟩:=T.k_MOST_SPREAD;refine aD (eY (SW.st (pN (Ct hu (gG h_ rfl b1 xaB iu (aA Sv aG aP)) Ei) (sG (wD (sy (fu a1 hr rfl (aA (fV (aA (Ek Sv Ei) (aA (Ek Sv Ei) aG fL) fL)) aG pC) kj)))))) (aD (eG Eb) aK) aK) ?_;refine aD (dj (i:=1) nd rfl Lv (gV Kh rfl b6 boot_int Mr (aA (Ek Sv Ei) aG fL))) ?_;exact aD (eG (Az (fu a0 hr rfl (aA (Ek Sv Ei) (aA Ei (aA Sv aG aP) aQ) fL) sO) (xR (Cm hu Sv (aJ nG nH (q_ (vf (v:=(.int 8)) rfl m10 ⟨t10,rfl⟩)) (gV Kh rfl b6 boot_int Mr (aA (Ek Sv Ei) aG fL))))))) aK
def za3 (T:Txt K mg C w)(a0:aR P w K mg base k "is_count_within" 3 wu)(a1:aR P w K mg base k "is_expr" 2 Ac):RT P w K mg base k f ["rest"] "is_join_rest" Nr Qi:=fun cdv A outer s H E hr=>by
 f_tup;have nd:=(zaj).nd;o_new;obtain⟨t9,m9⟩:=T.k_MOST_SPAN;refine aD (eY (SW.st (pN (Ct hu (gG h_ rfl b1 xaB iu (aA Sv aG aP)) Ei) (sG (wD (sy (fu a0 hr rfl (aA (Ek Sv Ei) (aA Ei (aA (q_ (vf (v:=(.int 1000000000000)) rfl m9 ⟨t9,rfl⟩)) aG aP) aQ) fL) sO)))))) (aD (eG Eb) aK) aK) ?_;exact aD (eG (fu a1 hr rfl (aA (ziF Sv (jx (Wx:=W0) Ei) nJ) (aA Es aG aQ) fL) kY)) aK
def zbE (T:Txt K mg C w)(a0:aR P w K mg base k "is_expr" 2 Ac)(a1:aR P w K mg base k "is_cond" 1 DN)(a2:aR P w K mg base k "is_share_rest" 1 G_)(a3:aR P w K mg base k "is_width_rest" 1 Bw)(a4:aR P w K mg base k "is_slide_rest" 1 Hg)(a5:aR P w K mg base k "is_join_rest" 1 G5):RT P w K mg base k f ["word","rest"] "is_rest_of" Nx Qm:=fun cdv A outer s H E hr=>by
 f_tup;have nd:=(zav).nd;refine aD (eY (Ct hu Sv Es) (aD (eG (fu a1 hr rfl (aA Sv aG aP) kj)) aK) aK) ?_;refine aD (eY (Ct hu Sv Es) (aD (eG (fu a0 hr rfl (aA Sv (aA Es aG aQ) aP) kY)) aK) aK) ?_;refine aD (eY (Ct hu Sv Es) (aD (eG (fu a2 hr rfl (aA Sv aG aP) kj)) aK) aK) ?_;refine aD (eY (Ct hu Sv Es) (aD (eG (fu a4 hr rfl (aA Sv aG aP) kj)) aK) aK) ?_;refine aD (eY (Ct hu Sv (fV (aA Es (aA Es aG aQ) aQ))) (aD (eG (fu a3 hr rfl (aA Sv aG aP) kj)) aK) aK) ?_;refine aD (eY (Ct hu Sv Es) (aD (eG (fu a5 hr rfl (aA Sv aG aP) kj)) aK) aK) ?_;exact aD (eG (Cm hu Sv (fV aG))) aK
def zey (T:Txt K mg C w):RT P w K mg base k f ["words","behind"] "row_of" N8 Qt:=fun cdv A outer s H E hr=>by
 f_tup;have nd:=(zbm).nd;have b4:=T.blt "tuple" (by x_go);obtain⟨t11,m11⟩:=T.k_FROMS;refine aD (dj (i:=1) nd rfl Lv (aJ eZ fj Ei (Oe (Ek Sv Ei) rfl m11.1 m11.2))) ?_;exact aD (eG (fV (aA (Ek Sv Ei) (aA (Ek Sv Ei) (aA (gV tX rfl b4 xbC tZ (aA (lK Sv (jx (Wx:=W0) Ei) (jx (Wx:=W0) Sv)) aG fL)) (aA (gV tX rfl b4 xbC tZ (aA (lK Sv (jx (Wx:=W0) Sv) nJ) aG fL)) aG gQ) gQ) fL) fL))) aK
def zaM (T:Txt K mg C w):RT P w K mg base k f ["row"] "has_its_froms" Nh Qd:=fun cdv A outer s H E hr=>by
 f_tup;have nd:=(zah).nd;o_new;obtain⟨t11,m11⟩:=T.k_FROMS;refine aD (eY (Ct hu (Ek Sv Ei) Es) (aD (eG (Cm hu (gG h_ rfl b1 xaB iu (aA (Ek Sv Ei) aG fL)) Ei)) aK) aK) ?_;exact aD (eG (Cm hu (gG h_ rfl b1 xaB iu (aA (Ek Sv Ei) aG fL)) (Oe (Ek Sv Ei) rfl m11.1 m11.2))) aK
theorem zd0 (T:Txt K mg C w)(a0:aR P w K mg base k "is_name" 1 G7)(a1:aR P w K mg base k "is_rest_of" 2 G9)(a2:aR P w K mg base k "row_of" 1 BK)(a3:aR P w K mg base k "has_its_froms" 1 GX):RT P w K mg base k f ["words","row"] "is_row" Ny Kd:=fun cdv A outer s H E hr=>by
 f_tup;have nd:=(zbx).nd;have b5:=T.blt "all" (by x_go);o_new;obtain⟨t11,m11⟩:=T.k_FROMS;refine aD (eY (SW.st (pN (Ct hu (gG h_ rfl b1 xaB iu (aA Sv aG aP)) Ei) (sG (zdv (Ek Sv Ei) rfl m11.1 m11.2)))) (aD (eG Eb) aK) aK) ?_;refine aD (dj (i:=1) nd rfl Lv (fu a2 hr rfl (aA Sv aG aP) kj)) ?_;refine aD (eY (SW.st (pN (wD (sy (fu a3 hr rfl (aA Sv aG aP) kj))) (sG (wD (sy (gG (QB rfl) rfl b5 boot_all T9 (aA (SN.sem (A_ "name" [] rfl (by x_go) (zjs (aJ Tz T8 (fV (aA (Ek Sv Ei) aG fL)) (Ek Sv Ei))) (fun _ _ _ _ _ _=>xW) (fun _ _ _ _ _ _=>(fu a0 hr rfl (aA (lM rfl (.inl (by kernel_rfl))) aG aP) kj))) yW) aG CW))))))) (aD (eG Eb) aK) aK) ?_;exact aD (eG (fu a1 hr rfl (aA (Ek Sv Ei) (aA (Ek Sv Ei) aG fL) fL) kY)) aK
theorem zaZ (T:Txt K mg C w):RT P w K mg base k f ["row","words_above"] "has_its_names" Ni Qe:=fun cdv A outer s H E hr=>by
 f_tup;have nd:=(zae).nd;have b5:=T.blt "all" (by x_go);refine aD (eY (ze5 hu (Ek Sv Ei) (lM rfl (.inr Lu))) (aD (eG Eb) aK) aK) ?_;exact aD (eG (gG (QB rfl) rfl b5 boot_all T9 (aA (SN.sem (A_ "name" [("words_above",1)] rfl (by x_go) (zjs (Ek Sv Ei)) (fun _ _ _ _ _ _=>xW) (fun _ _ _ _ _ _=>(Ew (wV (X:=kZ _ _ _ _ _ _ _ _ _) hu .ne) Ck (Od hu (lM rfl (.inr (.inl (by kernel_rfl)))) (lM rfl (.inl (by kernel_rfl))) Es) Es))) yW) aG CW))) aK
def zby (T:Txt K mg C w)(hR:2<=k)(a0:aR P w K mg base k "row_of" 1 BK)(a1:aR P w K mg base k "is_row" 1 DP)(a2:aR P w K mg base k "has_its_names" 2 GZ):Dk P w K mg base k f ["text","works","words_above","at","line","words","row"] "read_works" N7 Qs:=fun cdv A outer s H E Wx hr XF XP=>by
 f_tup;have nd:=(zaw).nd;have b7:=T.blt "enumerate" (by x_go);obtain⟨fI_NoName,fdI_NoName,xi_NoName,FI_NoName,bI_NoName⟩:=T.o_NoName;have FO_NoName:=Ys (P:=P) (w:=w) (mg:=mg) (base:=base) (k:=0) FI_NoName za2 T.xm_DamError T.xb_DamError (by first |exact Hq (by x_go) |exact Hr (by x_go))
 obtain⟨fI_NoText,fdI_NoText,xi_NoText,FI_NoText,bI_NoText⟩:=T.o_NoText;have FO_NoText:=Ys (P:=P) (w:=w) (mg:=mg) (base:=base) (k:=0) FI_NoText za1 T.xm_DamError T.xb_DamError (by first |exact Hq (by x_go) |exact Hr (by x_go))
 refine aD (xX (i:=1) nd rfl Lw (gk aG)) ?_;refine aD (dj (i:=2) nd rfl Lw zc0) ?_;refine aD (zfW xdC rfl (yG (i:=3) nd rfl Lw (yG (i:=4) nd rfl Lw Jl)) rfl b7 (aA (su xbY xbZ Ce El Sw (aA Es aG aQ)) aG gQ) (aD (dj (i:=5) nd rfl Lw (su xbY xbZ Ce El Sw (aA Es aG aQ))) (aD (eY (wD (sy (fu a1 hr rfl (aA Sw aG aP) kj))) (aD (zbu XF rfl T.xm_NoText T.xc_NoText xi_NoText T.xa_NoText T.xk_NoText FO_NoText (hr.mono hR) bI_NoText rfl Sw) aK) aK) (aD (dj (i:=6) nd rfl Lw (fu a0 hr rfl (aA Sw aG aP) kj)) (aD (eY (wD (sy (fu a2 hr rfl (aA Sw (aA Sw aG aP) aP) kY))) (aD (zbu XF rfl T.xm_NoName T.xc_NoName xi_NoName T.xa_NoName T.xk_NoName FO_NoName (hr.mono hR) bI_NoName rfl Sw) aK) aK) (aD (zcQ hu Sw (Ek Sw Ei) (Ek Sw Ei)) (aD (pL rfl Lu Sw) aK))))))) ?_;refine zR ?_;exact aD (eG Sw) aK
def zbT (T:Txt K mg C w):RT P w K mg base k f ["row"] "shown_row" N_ Qu:=fun cdv A outer s H E hr=>by
 f_tup;have nd:=(zaJ).nd;exact aD (eG (su xbR xbS zei zea Es (aA (aJ Tz T8 (aJ Tz T8 (fV (aA (Ek Sv Ei) (aA (Ek Sv Ei) aG fL) fL)) (Ek Sv Ei)) (Ek Sv Ei)) aG gB))) aK
theorem zbk (T:Txt K mg C w)(a0:aR P w K mg base k "shown_row" 1 Hh):RT P w K mg base k f ["works"] "shown_works" Oa Qv:=fun cdv A outer s H E hr=>by
 f_tup;have nd:=(zal).nd;exact aD (eG (su xbR xbS Cd Cq Es (aA (SN.sem (A_ "row" [] rfl (by x_go) (CP Sv) (fun _ _ _ _ _ _=>xW) (fun _ _ _ _ _ _=>(fu a0 hr rfl (aA (lM rfl (.inl (by kernel_rfl))) aG aP) kj))) yW) aG CW))) aK
def zct (T:Txt K mg C w):RT P w K mg base k f ["_law_script","_law_k"] "_law_cell_at" Mw Pr:=fun cdv A outer s H E hr=>by
 f_tup;have nd:=(zaP).nd;o_new;refine aD (eY (Ct hu Sv (gG h_ rfl b1 xaB iu (aA Sv aG aP))) (aD (eG (Ek Sv Sv)) aK) aK) ?_;exact aD (eG Ei) aK
def zeb (T:Txt K mg C w):RT P w K mg base k f ["_law_number","_law_many","_law_found","_law_x","_law_k"] "_law_drawn" MJ Pz:=fun cdv A outer s H E hr=>by
 f_tup;have nd:=(zbv).nd;have b2:=T.blt "range" (by x_go);refine aD (xX (i:=2) nd rfl Lv (gk aG)) ?_;refine aD (dj (i:=3) nd rfl Lv (aJ fB fD Sv Ei)) ?_;refine aD (CV xbD rfl nd rfl Lv (Ey rfl b2 (aA Sv aG aP)) (aD (dj (i:=3) nd rfl Lv (aJ fB fD (aJ eZ fj (aJ eZ fj (aJ eZ fj (aJ nG nH Sv Sv) (aJ nG nH Ei Sv)) (aJ nG nH Ei Sv)) Ei) Ei)) (aD (pL rfl Lu (aJ kI kJ Sv Ei)) aK))) ?_;refine zR ?_;exact aD (eG Sv) aK
def zem (T:Txt K mg C w)(a0:aR P w K mg base k "_law_cell_at" 2 wX)(a1:aR P w K mg base k "_law_drawn" 2 wY):RT P w K mg base k f ["_law_script","_law_first"] "_law_cells" Mx J3:=fun cdv A outer s H E hr=>by
 f_tup;have nd:=(zbH).nd;refine aD (dj (i:=1) nd rfl Lv (fu a0 hr rfl (aA Sv (aA Ei aG aQ) aP) kY)) ?_;refine aD (eY (Ct hu (aJ fB fD Sv Ei) Ei) (aD (eG (fu a1 hr rfl (aA (aJ kI kJ Sv Ei) (aA (aJ eZ fj Ei (aJ fB fD (aJ kI kJ Sv Ei) Ei)) aG gB) gB) kY)) aK) aK) ?_;exact aD (eG (aJ eZ fj (SN.sem (gk (aA (aJ kI kJ Sv Ei) aG gB)) lst_is) (lK Sv (jx (Wx:=W0) Ei) (jx (Wx:=W0) Ei)))) aK
def zgd (T:Txt K mg C w):RT P w K mg base k f ["_law_x","_law_letters","_law_number"] "_law_leaf" MN J5:=fun cdv A outer s H E hr=>by
 f_tup;have nd:=(zcj).nd;o_new;have b8:=T.blt "str" (by x_go);refine aD (eY (SW.st (sE (Ct hu (aJ fB fD Sv Ei) Ei) (wF (Ct hu Sv Es)))) (aD (eG (Ek Sv (aJ fB fD (aJ kI kJ Sv Ei) (gG h_ rfl b1 xaB iu (aA Sv aG aP))))) aK) aK) ?_;refine aD (dj (i:=2) nd rfl Lv (aJ fB fD (aJ nG nH (aJ nG nH (aJ nG nH Sv Ei) Ei) Ei) (Ek (SN.sem (gk (aA Ei (aA Ei (aA (aJ Al Ao Ei Ei) (aA (aJ Al Ao Ei Ei) (aA (aJ Al Ao Ei Ei) aG gB) gB) gB) aQ) aQ)) lst_is) (aJ fB fD (aJ kI kJ Sv Ei) Ei)))) ?_;refine aD (eY (SW.st (sE (Ct hu (aJ fB fD (aJ kI kJ Sv Ei) Ei) Ei) (wF (Ct hu Sv Ei)))) (aD (eG (aJ eZ fj Es (gV pG rfl b8 xbA pK (aA Sv aG aP)))) aK) aK) ?_;exact aD (eG (gV pG rfl b8 xbA pK (aA Sv aG aP))) aK
def zfZ (T:Txt K mg C w)(a0:aR P w K mg base k "_law_leaf" 2 yZ):RT P w K mg base k f N9l "_law_expr" Jh PB:=fun cdv A outer s H E hr=>by
 f_tup;have nd:=(zb2).nd;o_new;refine aD (xX (i:=3) nd rfl Lv (gk aG)) ?_;refine aD (dj (i:=4) nd rfl Lv Ei) ?_;refine aD (dj (i:=5) nd rfl Lv (aJ fB fD Sv Ei)) ?_;refine aD (Ol 1000 xbD (Ct hu Sv Ei) (aD (dj (i:=5) nd rfl Lv (aJ fB fD (aJ eZ fj (aJ eZ fj (aJ eZ fj (aJ nG nH Sv Sv) (aJ nG nH Ei Sv)) (gG h_ rfl b1 xaB iu (aA (xT rfl (zan)) aG aP))) Ei) Ei)) (aD (dj (i:=6) nd rfl Lv (aJ kI kJ Sv Ei)) (aD (eY (SW.st (sE (Ct hu (aJ fB fD Sv Ei) Ei) (wF (Ct hu (aJ eZ fj (aJ eZ fj (gG h_ rfl b1 xaB iu (aA (xT rfl (zan)) aG aP)) Sv) Ei) Sv)))) (aD (pL rfl Lu (Ek (SN.sem (gk (aA Es (aA Es (aA Es (aA Es (aA Es aG aQ) aQ) aQ) aQ) aQ)) lst_is) (aJ fB fD (aJ kI kJ Sv Ei) Ei))) (aD (dj (i:=4) nd rfl Lv (aJ eZ fj Sv Ei)) aK)) (aD (pL rfl Lu (fu a0 hr rfl (aA (aJ kI kJ Sv Ei) (aA Sv aG aP) gB) kY)) (aD (dj (i:=4) nd rfl Lv (aJ tD tL Sv Ei)) aK))) aK)))) ?_;refine zR ?_;exact aD (eG Sv) aK
def zfQ (T:Txt K mg C w)(a0:aR P w K mg base k "_law_leaf" 2 yZ):RT P w K mg base k f N5l "_law_cond" Jg Pu:=fun cdv A outer s H E hr=>by
 f_tup;have nd:=(zbW).nd;o_new;refine aD (xX (i:=2) nd rfl Lv (gk aG)) ?_;refine aD (dj (i:=3) nd rfl Lv (yF (gk (aA Es aG aQ)))) ?_;refine aD (dj (i:=4) nd rfl Lv (aJ tD tL Sv Ei)) ?_;refine aD (dj (i:=5) nd rfl Lv (aJ fB fD Sv Ei)) ?_;refine aD (Ol 1000 xbD (Ct hu Sv (SN.sem (gk aG) lst_is)) (aD (dj (i:=5) nd rfl Lv (aJ fB fD (aJ eZ fj (aJ eZ fj (aJ eZ fj (aJ nG nH Sv Sv) (aJ nG nH Ei Sv)) (gG h_ rfl b1 xaB iu (aA (xT rfl (za0)) aG aP))) Ei) Ei)) (aD (dj (i:=6) nd rfl Lv (aJ kI kJ Sv Ei)) (aD (dj (i:=7) nd rfl Lv (Vb Sv)) (aD (eY (SW.st (sE (Ct hu Sv Es) (sE (Ct hu Sv Ei) (wF (Ct hu (aJ fB fD Sv Ei) Ei))))) (aD (pL rfl Lu (Ek (SN.sem (gk (aA Es (aA Es aG aQ) aQ)) lst_is) (aJ fB fD (aJ kI kJ Sv Ei) Ei))) (aD (dj (i:=3) nd rfl Lv (yF (E_ Sv (SN.sem (gk (aA Es (aA Es aG aQ) aQ)) lst_is)))) (aD (dj (i:=4) nd rfl Lv (aJ tD tL Sv Ei)) aK))) (aD (eY (SW.st (sE (Ct hu Sv Es) (sE (Ct hu Sv Ei) (wF (Ct hu (aJ fB fD Sv Ei) Ei))))) (aD (pL rfl Lu Es) (aD (Jq Sv Es) (aD (dj (i:=4) nd rfl Lv (aJ tD tL Sv Ei)) aK))) (aD (eY (Ct hu Sv Es) (aD (pL rfl Lu (Ek (SN.sem (gk (aA Es (aA Es aG aQ) aQ)) lst_is) (aJ fB fD (aJ kI kJ Sv Ei) Ei))) (aD (dj (i:=3) nd rfl Lv (yF (E_ Sv (SN.sem (gk (aA Es (aA Es aG aQ) aQ)) lst_is)))) aK)) (aD (eY (SW.st (sE (Ct hu Sv Ei) (wF (Ct hu (aJ fB fD Sv Ei) Ei)))) (aD (pL rfl Lu (Ek (SN.sem (gk (aA Es (aA Es (aA Es (aA Es (aA Es aG aQ) aQ) aQ) aQ) aQ)) lst_is) (aJ fB fD (aJ kI kJ Sv Ei) Ei))) (aD (dj (i:=3) nd rfl Lv (yF (E_ Sv (SN.sem (gk (aA Es (aA Es aG aQ) aQ)) lst_is)))) (aD (dj (i:=4) nd rfl Lv (aJ tD tL Sv Ei)) aK))) (aD (pL rfl Lu (fu a0 hr rfl (aA (aJ kI kJ Sv Ei) (aA Es aG aQ) gB) kY)) aK)) aK)) aK)) aK)) aK))))) ?_;refine zR ?_;exact aD (eG Sv) aK
theorem zgz (T:Txt K mg C w):RT P w K mg base k f ["_law_x","_law_k","_law_word","_law_at"] "_law_name" M8 PN:=fun cdv A outer s H E hr=>by
 f_tup;have nd:=(zcd).nd;o_new;have b2:=T.blt "range" (by x_go);have b8:=T.blt "str" (by x_go);refine aD (dj (i:=2) nd rfl Lv (su xbR xbS Cd Cq Es (aA (SN.sem (A_ "_law_j" [("_law_x",0)] rfl (by x_go) (Ey rfl b2 (aA (aJ eZ fj Ei (aJ fB fD (lM rfl (.inr Lu)) Ei)) aG gB)) (fun _ _ _ _ _ _=>xW) (fun _ _ _ _ _ _=>(Ek Es (aJ fB fD (aJ kI kJ (lM rfl (.inr (.inl (by kernel_rfl)))) (aJ eZ fj Ei (aJ nG nH Ei (lM rfl (.inl (by kernel_rfl)))))) Ei)))) yW) aG CW))) ?_;refine aD (dj (i:=3) nd rfl Lv (aJ eZ fj Ei (aJ fB fD (aJ kI kJ (lM rfl (.inr Lu)) Ei) (gG h_ rfl b1 xaB iu (aA Sv aG aP))))) ?_;exact aD (eG (aJ eZ fj (aJ eZ fj (lK Sv nJ (jx (Wx:=W0) Sv)) (gV pG rfl b8 xbA pK (aA Sv aG aP))) (lK Sv (jx (Wx:=W0) Sv) nJ))) aK
theorem ziO (T:Txt K mg C w)(a0:aR P w K mg base k "_law_expr" 3 Dv)(a1:aR P w K mg base k "_law_cond" 2 GF)(a2:aR P w K mg base k "_law_name" 2 GQ):RT P w K mg base k f N2l "_law_row" M_ P_:=fun cdv A outer s H E hr=>by
 f_tup;have nd:=(zc2).nd;o_new;have b9:=T.blt "min" (by x_go);have b8:=T.blt "str" (by x_go);have b4:=T.blt "tuple" (by x_go);refine aD (dj (i:=3) nd rfl Lv (fu a2 hr rfl (aA (Ek Sv Ei) (aA Sv aG aP) fL) kY)) ?_;refine aD (dj (i:=4) nd rfl Lv (aJ fB fD (Ek Sv Ei) Ei)) ?_;refine aD (eY (SW.st (pN (Ct hu (lM rfl (.inr Lu)) (SN.sem (gk aG) lst_is)) (sG (Ct hu Sv Ei)))) (aD (eG (fV (aA Es (aA Sv (aA (fV aG) (aA (fV aG) aG pC) pC) aP) aQ))) aK) aK) ?_;refine aD (Vj "_law_x" [("_law_above",2)] (i:=5) nd rfl Lv rfl (by x_go) (CP (lK Sv (jx (Wx:=W0) Ei) (jx (Wx:=W0) Ei))) (fun _ _ _ _ _ _=>xW) (fun _ _ _ _ _ _=>(Ek (lM rfl (.inr (.inl (by kernel_rfl)))) (aJ fB fD (lM rfl (.inl (by kernel_rfl))) (gG h_ rfl b1 xaB iu (aA (lM rfl (.inr (.inl (by kernel_rfl)))) aG aP)))))) ?_;refine aD (dj (i:=6) nd rfl Lv (Ek (SN.sem (gk (aA Es (aA Es (aA Es (aA Es aG aQ) aQ) aQ) aQ)) lst_is) (aJ fB fD (Ek Sv Ei) Ei))) ?_;refine aD (dj (i:=7) nd rfl Lv (aJ eZ fj Ei (aJ fB fD (aJ nG nH (aJ nG nH (Ek Sv Ei) Ei) Ei) (Ek (SN.sem (gk (aA Ei (aA (aJ Al Ao Ei Ei) (aA (aJ Al Ao Ei Ei) aG gB) gB) aQ)) lst_is) (aJ fB fD (Ek Sv Ei) Ei))))) ?_;refine aD (eY (Ct hu Sv Ei) (aD (eG (fV (aA Es (aA Sv (aA (fV (aA (Ek Sv Ei) aG fL)) (aA (gV tX rfl b4 xbC tZ (aA (fu a1 hr rfl (aA (Ek Sv Ei) (aA (aJ eZ fj Ei (aJ fB fD (Ek Sv Ei) Ei)) aG gB) fL) kY) aG gQ)) aG gQ) pC) aP) aQ))) aK) aK) ?_;refine aD (eY (Ct hu Sv Ei) (aD (eG (fV (aA Es (aA Sv (aA (fV (aA (Ek Sv Ei) aG fL)) (aA (gV tX rfl b4 xbC tZ (aA (fu a0 hr rfl (aA (Ek Sv Ei) (aA Es (aA (aJ eZ fj Ei (aJ fB fD (Ek Sv Ei) Ei)) aG gB) aQ) fL) sO) aG gQ)) aG gQ) pC) aP) aQ))) aK) aK) ?_;refine aD (eY (Ct hu Sv Ei) (aD (eG (fV (aA Es (aA Sv (aA (fV (aA (Ek Sv Ei) aG fL)) (aA (fV (aA (gV pG rfl b8 xbA pK (aA (aJ fB fD (Ek Sv Ei) (aJ eZ fj Ei (aJ fB fD (Ek Sv Ei) Ei))) aG gB)) (aA (gV pG rfl b8 xbA pK (aA (aJ eZ fj Ei (aJ fB fD (Ek Sv Ei) Ei)) aG gB)) aG gQ) gQ)) aG pC) pC) aP) aQ))) aK) aK) ?_;refine aD (eY (SW.st (pN (Ct hu Sv Ei) (sG (Ct hu Sv Ei)))) (aD (eG (fV (aA Es (aA Sv (aA (gV tX rfl b4 xbC tZ (aA (lK Sv nJ (jx (Wx:=W0) (aJ eZ fj Ei (aJ fB fD (Ek Sv Ei) Ei)))) aG fL)) (aA (fV aG) aG pC) gQ) aP) aQ))) aK) aK) ?_;refine aD (eY (Ct hu Sv Ei) (aD (eG (fV (aA Es (aA Sv (aA (fV (aA (Ek Sv Ei) aG fL)) (aA (fV (aA (gV pG rfl b8 xbA pK (aA Sv aG aP)) (aA Sv aG aP) gQ)) aG pC) pC) aP) aQ))) aK) aK) ?_;refine aD (eY (Ct hu Sv Ei) (aD (dj (i:=8) nd rfl Lv (gG (W4 rfl) rfl b9 boot_min zeO (aA (aJ Al Ao Ei Ei) (aA (aJ eZ fj Sv (aJ fB fD (aJ nG nH (aJ nG nH (Ek Sv Ei) Ei) Ei) (aJ eZ fj (aJ nG nH Ei Sv) Ei))) aG gB) gB))) (aD (eG (fV (aA Es (aA Sv (aA (fV (aA (Ek Sv Ei) aG fL)) (aA (fV (aA (gV pG rfl b8 xbA pK (aA Sv aG aP)) (aA (gV pG rfl b8 xbA pK (aA Sv aG aP)) (aA Sv aG aP) gQ) gQ)) aG pC) pC) aP) aQ))) aK)) aK) ?_;refine aD (eY (Ct hu Sv Ei) (aD (eG (fV (aA Es (aA Sv (aA (fV (aA (Ek Sv Ei) aG fL)) (aA (fV (aA (gV pG rfl b8 xbA pK (aA Sv aG aP)) (aA Sv aG aP) gQ)) aG pC) pC) aP) aQ))) aK) aK) ?_;refine aD (eY (Ct hu Sv Ei) (aD (dj (i:=9) nd rfl Lv (fu a0 hr rfl (aA (Ek Sv Ei) (aA Es (aA (aJ eZ fj Ei (aJ fB fD (Ek Sv Ei) Ei)) aG gB) aQ) fL) sO)) (aD (eG (fV (aA Es (aA Sv (aA (fV (aA (Ek Sv Ei) (aA (Ek Sv Ei) aG fL) fL)) (aA (gV tX rfl b4 xbC tZ (aA (aJ eZ fj (SN.sem (gk (aA (gV pG rfl b8 xbA pK (aA (aJ tD tL Sv Ei) aG gB)) aG gQ)) lst_is) Sv) aG gB)) aG gQ) pC) aP) aQ))) aK)) aK) ?_;exact aD (eG (fV (aA Es (aA Sv (aA (fV (aA (Ek Sv Ei) aG fL)) (aA (fV aG) aG pC) pC) aP) aQ))) aK
def zdK (T:Txt K mg C w):RT P w K mg base k f ["_law_number","_law_sizes","_law_found","_law_size"] "_law_digits" MF Py:=fun cdv A outer s H E hr=>by
 f_tup;have nd:=(zba).nd;refine aD (xX (i:=2) nd rfl Lv (gk aG)) ?_;refine aD (CV xbD rfl nd rfl Lv (CP Sv) (aD (pL rfl Lu (aJ fB fD Sv Sv)) (aD (dj (i:=0) nd rfl Lv (aJ kI kJ Sv Sv)) aK))) ?_;refine zR ?_;exact aD (eG (fV (aA Sv (aA Sv aG aP) aP))) aK
def zbI (T:Txt K mg C w):RT P w K mg base k f ["_law_number","_law_letters"] "_law_leaf_from" MP J6:=fun cdv A outer s H E hr=>by
 f_tup;have nd:=(zas).nd;o_new;have b8:=T.blt "str" (by x_go);refine aD (eY (Ct hu (aJ fB fD Sv Ei) (gG h_ rfl b1 xaB iu (aA Sv aG aP))) (aD (eG (fV (aA (Ek Sv (aJ fB fD Sv Ei)) (aA (aJ kI kJ Sv Ei) aG gB) fL))) aK) aK) ?_;exact aD (eG (fV (aA (gV pG rfl b8 xbA pK (aA (aJ tD tL (aJ fB fD (aJ kI kJ Sv Ei) Ei) Ei) aG gB)) (aA (aJ kI kJ Sv Ei) aG gB) gQ))) aK
def zbp (T:Txt K mg C w)(a0:aR P w K mg base k "_law_leaf_from" 2 z_):RT P w K mg base k f N7l "_law_expr_from" Ji PK:=fun cdv A outer s H E hr=>by
 f_tup;have nd:=(zau).nd;o_new;refine aD (xX (i:=3) nd rfl Lv (gk aG)) ?_;refine aD (dj (i:=4) nd rfl Lv Ei) ?_;refine aD (Ol 1000 xbD (Ct hu Sv Ei) (aD (dj (i:=5) nd rfl Lv (aJ fB fD Sv Ei)) (aD (dj (i:=0) nd rfl Lv (aJ kI kJ Sv Ei)) (aD (eY (SW.st (sE (Ct hu Sv Ei) (wF (Ct hu (aJ eZ fj (aJ eZ fj (gG h_ rfl b1 xaB iu (aA (xT rfl (zao)) aG aP)) Sv) Ei) Sv)))) (aD (pL rfl Lu (Ek (SN.sem (gk (aA Es (aA Es (aA Es (aA Es (aA Es aG aQ) aQ) aQ) aQ) aQ)) lst_is) Sv)) (aD (dj (i:=4) nd rfl Lv (aJ eZ fj Sv Ei)) aK)) (aD (Oj rfl (yG (i:=6) nd rfl Lv (yG (i:=0) nd rfl Lv Jl)) (fu a0 hr rfl (aA Sv (aA Sv aG aP) aP) kY)) (aD (pL rfl Lu Sv) (aD (dj (i:=4) nd rfl Lv (aJ tD tL Sv Ei)) aK)))) aK)))) ?_;refine zR ?_;exact aD (eG Sv) aK
def zbs (T:Txt K mg C w)(a0:aR P w K mg base k "_law_leaf_from" 2 z_):RT P w K mg base k f N4l "_law_cond_from" Mz Px:=fun cdv A outer s H E hr=>by
 f_tup;have nd:=(zar).nd;refine aD (xX (i:=2) nd rfl Lv (gk aG)) ?_;refine aD (dj (i:=3) nd rfl Lv (yF (gk (aA Es aG aQ)))) ?_;refine aD (dj (i:=4) nd rfl Lv (aJ tD tL Sv Ei)) ?_;refine aD (Ol 1000 xbD (Ct hu Sv (SN.sem (gk aG) lst_is)) (aD (dj (i:=5) nd rfl Lv (Vb Sv)) (aD (dj (i:=6) nd rfl Lv (aJ fB fD Sv Ei)) (aD (dj (i:=0) nd rfl Lv (aJ kI kJ Sv Ei)) (aD (eY (SW.st (sE (Ct hu Sv Es) (sE (Ct hu Sv Ei) (wF (Ct hu Sv Ei))))) (aD (pL rfl Lu (Ek (SN.sem (gk (aA Es (aA Es aG aQ) aQ)) lst_is) Sv)) (aD (dj (i:=3) nd rfl Lv (yF (E_ Sv (SN.sem (gk (aA Es (aA Es aG aQ) aQ)) lst_is)))) (aD (dj (i:=4) nd rfl Lv (aJ tD tL Sv Ei)) aK))) (aD (eY (SW.st (sE (Ct hu Sv Es) (sE (Ct hu Sv Ei) (wF (Ct hu Sv Ei))))) (aD (pL rfl Lu Es) (aD (Jq Sv Es) (aD (dj (i:=4) nd rfl Lv (aJ tD tL Sv Ei)) aK))) (aD (eY (Ct hu Sv Es) (aD (pL rfl Lu (Ek (SN.sem (gk (aA Es (aA Es aG aQ) aQ)) lst_is) (aJ fB fD Sv Ei))) (aD (dj (i:=3) nd rfl Lv (yF (E_ Sv (SN.sem (gk (aA Es (aA Es aG aQ) aQ)) lst_is)))) aK)) (aD (eY (SW.st (sE (Ct hu Sv Ei) (wF (Ct hu Sv Ei)))) (aD (pL rfl Lu (Ek (SN.sem (gk (aA Es (aA Es (aA Es (aA Es (aA Es aG aQ) aQ) aQ) aQ) aQ)) lst_is) Sv)) (aD (dj (i:=3) nd rfl Lv (yF (E_ Sv (SN.sem (gk (aA Es (aA Es aG aQ) aQ)) lst_is)))) (aD (dj (i:=4) nd rfl Lv (aJ tD tL Sv Ei)) aK))) (aD (Oj rfl (yG (i:=7) nd rfl Lv (yG (i:=0) nd rfl Lv Jl)) (fu a0 hr rfl (aA Sv (aA Es aG aQ) aP) kY)) (aD (pL rfl Lu Sv) aK))) aK)) aK)) aK)) aK))))) ?_;refine zR ?_;exact aD (eG Sv) aK
theorem zbP (T:Txt K mg C w)(a0:aR P w K mg base k "_law_digits" 2 GK)(a1:aR P w K mg base k "_law_expr_from" 3 Dw)(a2:aR P w K mg base k "_law_cond_from" 2 GJ):RT P w K mg base k f N0l "_law_row_from" Jj J8:=fun cdv A outer s H E hr=>by
 refine @fZ _ _ _ _ _ hr fun hu=>?_;have nd:=(zaB).nd;o_new;have b9:=T.blt "min" (by x_go);have b8:=T.blt "str" (by x_go);have b4:=T.blt "tuple" (by x_go);kit_at
 .exact(dj (i:=3) nd rfl Lv (aJ eZ fj (SN.sem (gk (aA Ei (aA Ei (aA Ei (aA Ei (aA (aJ Al Ao Ei Ei) (aA Ei (aA Ei aG aQ) aQ) gB) aQ) aQ) aQ) aQ)) lst_is) (zfH (gk (aA Ei aG aQ)) Ei)))
 kit_at
 .exact(Oj rfl (yG (i:=4) nd rfl Lv (yG (i:=1) nd rfl Lv Jl)) (fu a0 hr rfl (aA Sv (aA Sv aG aP) aP) kY))
 kit_at
 .exact(dj (i:=5) nd rfl Lv Es)
 kit_at
 .exact(dj (i:=6) nd rfl Lv (aJ eZ fj (aJ eZ fj (Ek Sv (Ek Sv Ei)) (lK (lK Sv (jx (Wx:=W0) (Ek Sv Ei)) nJ) nJ (jx (Wx:=W0) Ei))) (gV pG rfl b8 xbA pK (aA Sv aG aP))))
 kit_at
 .exact(eY (SW.st (pN (Ct hu (lM rfl (.inr Lu)) (SN.sem (gk aG) lst_is)) (sG (Ct hu (Ek Sv Ei) Ei)))) (aD (eG (fV (aA Es (aA Sv (aA (fV aG) (aA (fV aG) aG pC) pC) aP) aQ))) aK) aK)
 kit_at
 .exact(Vj "_law_digit" [("_law_above",2)] (i:=7) nd rfl Lv rfl (by x_go) (CP (lK Sv (jx (Wx:=W0) Ei) nJ)) (fun _ _ _ _ _ _=>xW) (fun _ _ _ _ _ _=>(Ek (lM rfl (.inr (.inl (by kernel_rfl)))) (aJ fB fD (lM rfl (.inl (by kernel_rfl))) (gG h_ rfl b1 xaB iu (aA (lM rfl (.inr (.inl (by kernel_rfl)))) aG aP))))))
 kit_at
 .exact(dj (i:=8) nd rfl Lv (aJ eZ fj Ei (Ek Sv Ei)))
 kit_at
 .exact(dj (i:=9) nd rfl Lv (Ek (SN.sem (gk (aA Es (aA Es (aA Es (aA Es aG aQ) aQ) aQ) aQ)) lst_is) (Ek Sv Ei)))
 kit_at
 .refine @dj _ _ _ 10 _ _ _ _ nd rfl Lv ?_ (by first |rfl |exact .inl rfl |exact .inr rfl |exact fun _ _=>rfl |exact fun _=>rfl |exact⟨rfl,rfl,rfl,rfl⟩ |decide +kernel |kernel_rfl) (by first |rfl |exact .inl rfl |exact .inr rfl |exact fun _ _=>rfl |exact fun _=>rfl |exact⟨rfl,rfl,rfl,rfl⟩ |decide +kernel |kernel_rfl)
  .refine @Va _ _ _ _ _ _ _ _ _ _ RN T_ ?_ ?_ (by first |rfl |exact .inl rfl |exact .inr rfl |exact fun _ _=>rfl |exact fun _=>rfl |exact⟨rfl,rfl,rfl,rfl⟩ |decide +kernel |kernel_rfl)
   .refine @SN.sem _ _ _ _ _ ?_ lst_is
    .refine @gk _ _ _ _ _ ?_
     .refine @aA _ _ _ _ _ _ _ Es ?_ aQ
      .refine @aA _ _ _ _ _ _ _ Es ?_ aQ
       .refine @aA _ _ _ _ _ _ _ Es ?_ aQ
        .refine @aA _ _ _ _ _ _ _ Es ?_ aQ
         .refine @aA _ _ _ _ _ _ _ Es ?_ aQ
          .refine @aA _ _ _ _ _ _ _ Es ?_ aQ
           .refine @aA _ _ _ _ _ _ _ Es ?_ aQ
            .refine @aA _ _ _ _ _ _ _ Es ?_ aQ
             .refine @aA _ _ _ _ _ _ _ Es ?_ aQ
              .refine @aA _ _ _ _ _ _ _ Es aG aQ
   .refine @aJ _ _ _ _ _ _ _ _ _ _ _ tD tL ?_ Ei
    .refine @Va _ _ _ _ _ _ _ _ _ _ RN T_ Sv Ei (by first |rfl |exact .inl rfl |exact .inr rfl |exact fun _ _=>rfl |exact fun _=>rfl |exact⟨rfl,rfl,rfl,rfl⟩ |decide +kernel |kernel_rfl)
 kit_at
 .exact(dj (i:=11) nd rfl Lv (fV aG))
 kit_at
 .exact(eY (Ct hu Sv Es) (aD (dj (i:=11) nd rfl Lv (gV tX rfl b4 xbC tZ (aA (fu a2 hr rfl (aA Sv (aA (aJ eZ fj Ei (aJ fB fD (Ek Sv Ei) Ei)) aG gB) aP) kY) aG gQ))) aK) aK)
 kit_at
 .exact(eY (Ct hu Sv Es) (aD (dj (i:=11) nd rfl Lv (gV tX rfl b4 xbC tZ (aA (fu a1 hr rfl (aA Sv (aA Es (aA (aJ eZ fj Ei (aJ fB fD (Ek Sv Ei) Ei)) aG gB) aQ) aP) sO) aG gQ))) aK) aK)
 kit_at
 .exact(eY (Ct hu Sv Es) (aD (dj (i:=11) nd rfl Lv (fV (aA (gV pG rfl b8 xbA pK (aA (aJ fB fD (Ek Sv Ei) (aJ eZ fj Ei (Ek Sv Ei))) aG gB)) (aA (gV pG rfl b8 xbA pK (aA (aJ eZ fj Ei (Ek Sv Ei)) aG gB)) aG gQ) gQ))) aK) aK)
 kit_at
 .exact(eY (SW.st (pN (Ct hu Sv Es) (sG (Ct hu Sv Es)))) (aD (dj (i:=11) nd rfl Lv (fV (aA (gV pG rfl b8 xbA pK (aA Sv aG aP)) (aA Sv aG aP) gQ))) aK) aK)
 kit_at
 .exact(eY (Ct hu Sv Es) (aD (dj (i:=11) nd rfl Lv (fV (aA (gV pG rfl b8 xbA pK (aA (gG (W4 rfl) rfl b9 boot_min zeO (aA (aJ Al Ao Ei Ei) (aA (aJ eZ fj Sv (aJ fB fD Sv (aJ eZ fj (aJ nG nH Ei Sv) Ei))) aG gB) gB)) aG gQ)) (aA (gV pG rfl b8 xbA pK (aA Sv aG aP)) (aA Sv aG aP) gQ) gQ))) aK) aK)
 kit_at
 .exact(eY (Ct hu Sv Es) (aD (dj (i:=11) nd rfl Lv (gV tX rfl b4 xbC tZ (aA (aJ eZ fj (SN.sem (gk (aA (gV pG rfl b8 xbA pK (aA (aJ tD tL Sv Ei) aG gB)) aG gQ)) lst_is) (fu a1 hr rfl (aA Sv (aA Es (aA (aJ eZ fj Ei (aJ fB fD (Ek Sv Ei) Ei)) aG gB) aQ) aP) sO)) aG gB))) aK) aK)
 kit_at
 .refine @dj _ _ _ 12 _ _ _ _ nd rfl Lv ?_ (by first |rfl |exact .inl rfl |exact .inr rfl |exact fun _ _=>rfl |exact fun _=>rfl |exact⟨rfl,rfl,rfl,rfl⟩ |decide +kernel |kernel_rfl) (by first |rfl |exact .inl rfl |exact .inr rfl |exact fun _ _=>rfl |exact fun _=>rfl |exact⟨rfl,rfl,rfl,rfl⟩ |decide +kernel |kernel_rfl)
  .refine @Od _ _ _ _ _ _ _ _ _ _ _ hu ?_ Sv Ei (by first |rfl |exact .inl rfl |exact .inr rfl |exact fun _ _=>rfl |exact fun _=>rfl |exact⟨rfl,rfl,rfl,rfl⟩ |decide +kernel |kernel_rfl)
   .refine @zeI _ _ _ _ _ _ _ ?_ (by first |rfl |exact .inl rfl |exact .inr rfl |exact fun _ _=>rfl |exact fun _=>rfl |exact⟨rfl,rfl,rfl,rfl⟩ |decide +kernel |kernel_rfl) (by first |rfl |exact .inl rfl |exact .inr rfl |exact fun _ _=>rfl |exact fun _=>rfl |exact⟨rfl,rfl,rfl,rfl⟩ |decide +kernel |kernel_rfl) (by first |rfl |exact .inl rfl |exact .inr rfl |exact fun _ _=>rfl |exact fun _=>rfl |exact⟨rfl,rfl,rfl,rfl⟩ |decide +kernel |kernel_rfl) (by first |rfl |exact .inl rfl |exact .inr rfl |exact fun _ _=>rfl |exact fun _=>rfl |exact⟨rfl,rfl,rfl,rfl⟩ |decide +kernel |kernel_rfl)
    .exact(Oi Es (aJ eZ fj Ei (aJ fB fD (Ek Sv Ei) Ei)) (Oi Es Ei zc7))
 kit_at
 .exact(eG (fV (aA Sv (aA Sv (aA (gV tX rfl b4 xbC tZ (aA (lK Sv nJ (jx (Wx:=W0) Sv)) aG fL)) (aA Sv aG aP) gQ) aP) aP)))
 exact aK
def zgL (T:Txt K mg C w)(a0:aR P w K mg base k "_law_drawn" 2 wY)(a1:aR P w K mg base k "_law_row" 3 Dz)(a2:aR P w K mg base k "_law_row_from" 3 DG):RT P w K mg base k f N8l "_law_rows" Nb Qa:=fun cdv A outer s H E hr=>by
 f_tup;have nd:=(zbZ).nd;o_new;have b2:=T.blt "range" (by x_go);refine aD (xX (i:=2) nd rfl Lv (gk aG)) ?_;refine aD (dj (i:=3) nd rfl Lv (yF (gk aG))) ?_;refine aD (CV xbD rfl nd rfl Lv (Ey rfl b2 (aA (gG h_ rfl b1 xaB iu (aA Sv aG aP)) aG gQ)) (aD (eY (sy Sv) (aD (dj (i:=5) nd rfl Lv (fu a2 hr rfl (aA Sv (aA (Ek Sv Sv) (aA Sv aG aP) fL) aP) sO)) aK) (aD (dj (i:=5) nd rfl Lv (fu a1 hr rfl (aA Sv (aA (fu a0 hr rfl (aA (aJ eZ fj (Ek Sv Sv) (aJ nG nH Ei Sv)) (aA Ei aG aQ) gB) kY) (aA Sv aG aP) gQ) aP) sO)) aK)) (aD (pL rfl Lu Sv) (aD (eY (Ct hu (Ek Sv Ei) Es) (aD (Jq Sv (Ek Sv Ei)) aK) aK) aK)))) ?_;refine zR ?_;exact aD (eG Sv) aK
def zfw (T:Txt K mg C w):RT P w K mg base k f ["_law_row_here"] "_law_line" M6 PL:=fun cdv A outer s H E hr=>by
 f_tup;have nd:=(zch).nd;have b10:=T.blt "list" (by x_go);exact aD (eG (su xbR xbS Cd Cq Es (aA (aJ eZ fj (aJ eZ fj (SN.sem (gk (aA (Ek Sv Ei) (aA (Ek Sv Ei) aG fL) fL)) lst_is) (SN.sem (Vh rfl b10 (Ek Sv Ei)) Y9)) (SN.sem (Vh rfl b10 (Ek Sv Ei)) Y9)) aG gB))) aK
def zcx (T:Txt K mg C w):RT P w K mg base k f ["_law_line_here","_law_x","_law_way","_law_at"] "_law_sign_in" Nf J9:=fun cdv A outer s H E hr=>by
 f_tup;have nd:=(zaW).nd;o_new;refine aD (dj (i:=3) nd rfl Lv (Ek (SN.sem (gk (aA (aJ fB fD Sv (aJ eZ fj (gG h_ rfl b1 xaB iu (aA Sv aG aP)) Ei)) (aA (aJ fB fD Sv (aJ eZ fj (gG h_ rfl b1 xaB iu (aA Sv aG aP)) Ei)) (aA (gG h_ rfl b1 xaB iu (aA Sv aG aP)) (aA Ei aG aQ) gQ) gB) gB)) lst_is) (aJ fB fD (aJ kI kJ Sv Ei) Ei))) ?_;refine aD (eY (Ct hu Sv Ei) (aD (eG (aJ eZ fj (lK Sv nJ (jx (Wx:=W0) Sv)) (lK Sv (jx (Wx:=W0) (aJ eZ fj Sv Ei)) nJ))) aK) aK) ?_;exact aD (eG (aJ eZ fj (aJ eZ fj (lK Sv nJ (jx (Wx:=W0) Sv)) (Ek Es (aJ fB fD (aJ kI kJ Sv Ei) Ei))) (lK Sv (jx (Wx:=W0) Sv) nJ))) aK
def zcI (T:Txt K mg C w)(a0:aR P w K mg base k "_law_sign_in" 3 DK):RT P w K mg base k f N3l "_law_changed" Eu zY:=fun cdv A outer s H E hr=>by
 f_tup;have nd:=(zaO).nd;o_new;have b10:=T.blt "list" (by x_go);refine aD (xX (i:=3) nd rfl Lv (Vh rfl b10 Sv)) ?_;refine aD (dj (i:=4) nd rfl Lv (aJ fB fD Sv (gG h_ rfl b1 xaB iu (aA (xT rfl (Wd)) aG aP)))) ?_;refine aD (dj (i:=5) nd rfl Lv (aJ fB fD Sv (gG h_ rfl b1 xaB iu (aA (xT rfl (Wd)) aG aP)))) ?_;refine aD (dj (i:=6) nd rfl Lv (aJ fB fD (aJ kI kJ Sv Ei) Ei)) ?_;refine aD (eY (Ct hu Sv Ei) (aD (Fb rfl Lu Sv (Ek Sv Sv)) (aD (Fb rfl Lu Sv (Ek Sv Sv)) aK)) (aD (eY (Ct hu Sv Ei) (aD (zft rfl Lu Sv (Ek Sv Sv)) aK) (aD (eY (SW.st (sE (Ct hu Sv Ei) (wF (Ct hu (gG h_ rfl b1 xaB iu (aA (xT rfl (Wd)) aG aP)) Ei)))) (aD (zfI rfl Lu Sv) aK) (aD (eY (Ct hu Sv Ei) (aD (xX (i:=7) nd rfl Lv (zce (Ek Sv Sv) (aA Es aG aQ))) (aD (dj (i:=8) nd rfl Lv (su xbY xbZ Ce El (Ek Sv Sv) (aA Es aG aQ))) (aD (Fb rfl Lu (aJ fB fD (aJ kI kJ Sv Ei) (gG h_ rfl b1 xaB iu (aA (xT rfl (OD)) aG aP))) (Ek Sv (aJ fB fD (aJ kI kJ Sv Ei) (gG h_ rfl b1 xaB iu (aA Sv aG aP))))) (aD (Fb rfl Lu Sv (su xbR xbS Cd Cq Es (aA (xT rfl (OD)) aG aP))) aK)))) (aD (eY (Ct hu Sv Ei) (aD (xX (i:=7) nd rfl Lv (zce (Ek Sv Sv) (aA Es aG aQ))) (aD (Fb rfl Lu Sv (su xbR xbS Cd Cq Es (aA (aJ eZ fj (aJ eZ fj (lK (xT rfl (OD)) nJ (jx (Wx:=W0) Ei)) (lK (su xbY xbZ Ce El (Ek Sv Sv) (aA Es aG aQ)) (jx (Wx:=W0) Ei) (jx (Wx:=W0) Ei))) (lK (xT rfl (OD)) (jx (Wx:=W0) Ei) nJ)) aG gB))) aK)) (aD (Fb rfl Lu Sv (fu a0 hr rfl (aA (Ek Sv Sv) (aA Sv (aA Sv aG aP) aP) fL) sO)) aK)) aK)) aK)) aK)) aK)) ?_;refine zR ?_;exact aD (eG Sv) aK
def zgD (T:Txt K mg C w)(x0:nM P w K mg base k "read_works" 1 Ae):RT P w K mg base k f ["_law_lines","_law_found","_law_works","e"] "_law_told" Jk J_:=fun cdv A outer s H E hr=>by
 f_tup;have nd:=(zbX).nd;refine aD (dj (i:=1) nd rfl Lu (fV (aA Es (aA (ziw zff zeH Ei) aG za6) aQ))) ?_;refine aD (dj (i:=2) nd rfl Lu (SN.sem (gk aG) lst_is)) ?_;refine aD (zf7 rfl rfl rfl (fun pins E'=>(Qz (zjH (i:=2) nd rfl Lu (Fd x0 hr rfl (aA (su xbR xbS Cd Cq Es (aA Su aG aP)) aG gQ) kj)))) (zgU (i:=3) nd rfl zbw rfl T.xm_NoText T.xc_NoText (zbd T) (fun e'=>(aD (dj (i:=1) nd rfl Lu (fV (aA Es (aA (zeP rfl Lu (fun c C h m=>zbl T c C h m)) aG zaE) aQ))) aK)) (zgU (i:=3) nd rfl zbw rfl T.xm_NoName T.xc_NoName (zbj T) (fun e'=>(aD (dj (i:=1) nd rfl Lu (fV (aA Es (aA (zeP rfl Lu (fun c C h m=>zbl T c C h m)) aG zaE) aQ))) aK)) zhs))) ?_;exact aD (eG (fV (aA Su (aA Su aG aP) aP))) aK
def zek (T:Txt K mg C w):RT P w K mg base k f ["_law_words","_law_many"] "_law_froms" MK J4:=fun cdv A outer s H E hr=>by
 f_tup;have nd:=(zbJ).nd;refine aD (eY (Ct hu (Ek Sv Ei) Es) (aD (eG (lK Sv (jx (Wx:=W0) Ei) nJ)) aK) aK) ?_;refine aD (dj (i:=1) nd rfl Lv (Od hu (zeI (Oi Es Ei (Oi Es Ei zc7))) (Ek Sv Ei) Ei)) ?_;exact aD (eG (lK Sv (jx (Wx:=W0) Ei) (jx (Wx:=W0) (aJ eZ fj Ei Sv)))) aK
theorem zbL (T:Txt K mg C w)(a0:aR P w K mg base k "_law_froms" 1 z9):RT P w K mg base k f ["_law_words","_law_above"] "_law_misnamed" M7 J7:=fun cdv A outer s H E hr=>by
 f_tup;have nd:=(zaF).nd;have b0:=T.blt "any" (by x_go);refine aD (eY (ze5 hu (Ek Sv Ei) (lM rfl (.inr Lu))) (aD (eG Eb) aK) aK) ?_;exact aD (eG (gG (W3 rfl) rfl b0 boot_any zfh (aA (SN.sem (A_ "_law_name_here" [("_law_above",1)] rfl (by x_go) (CP (fu a0 hr rfl (aA Sv aG aP) kj)) (fun _ _ _ _ _ _=>xW) (fun _ _ _ _ _ _=>(Ew (wV (X:=kZ _ _ _ _ _ _ _ _ _) hu .eq) Ck (Od hu (lM rfl (.inr (.inl (by kernel_rfl)))) (lM rfl (.inl (by kernel_rfl))) Es) Es))) yW) aG CW))) aK
def zf5 (T:Txt K mg C w)(a0:aR P w K mg base k "shown_works" 1 Hi)(a1:aR P w K mg base k "_law_froms" 1 z9)(a2:aR P w K mg base k "_law_misnamed" 2 Aa):RT P w K mg base k f N10l "_law_read" M9 PX:=fun cdv A outer s H E hr=>by
 f_tup;have nd:=(zci).nd;have b11:=T.blt "isinstance" (by x_go);o_new;have b10:=T.blt "list" (by x_go);have b2:=T.blt "range" (by x_go);have b4:=T.blt "tuple" (by x_go);refine aD (eY (SW.st (pN (wD (sy (zdk (T:="list") (fun t b h=>Yx t "list" b h) Sv rfl b11 rfl b10 boot_list))) (pN (Ct hu (gG h_ rfl b1 xaB iu (aA Sv aG aP)) (gG h_ rfl b1 xaB iu (aA Sv aG aP))) (sG (Ct hu (fu a0 hr rfl (aA Sv aG aP) kj) (su xbR xbS Cd Cq Es (aA Sv aG aP))))))) (aD (eG Eb) aK) aK) ?_;refine aD (dj (i:=2) nd rfl Lv zc0) ?_;refine aD (CV xbD rfl nd rfl Lv (Ey rfl b2 (aA (gG h_ rfl b1 xaB iu (aA Sv aG aP)) aG gQ)) (aD (dj (i:=4) nd rfl Lv (su xbY xbZ Ce El (Ek Sv Sv) (aA Es aG aQ))) (aD (dj (i:=5) nd rfl Lv (fu a1 hr rfl (aA Sv aG aP) kj)) (aD (eY (Ct hu (Ek Sv Sv) (fV (aA (Ek Sv Ei) (aA (Ek Sv Ei) (aA (gV tX rfl b4 xbC tZ (aA Sv aG aP)) (aA (gV tX rfl b4 xbC tZ (aA (lK Sv (jx (Wx:=W0) (aJ eZ fj Ei (gG h_ rfl b1 xaB iu (aA Sv aG aP)))) nJ) aG fL)) aG gQ) gQ) fL) fL))) (aD (eG Eb) aK) aK) (aD (eY (sy (fu a2 hr rfl (aA Sv (aA Sv aG aP) aP) kY)) (aD (eG Eb) aK) aK) (aD (zcQ hu Sv (Ek Sv Ei) (Ek Sv Ei)) aK)))))) ?_;exact aD (eG Eb) aK
theorem zj0 (T:Txt K mg C w)(a0:aR P w K mg base k "_law_cell_at" 2 wX)(a1:aR P w K mg base k "_law_cells" 1 Du)(a2:aR P w K mg base k "_law_drawn" 2 wY)(a3:aR P w K mg base k "_law_rows" 2 GR)(a4:aR P w K mg base k "_law_line" 1 GP)(a5:aR P w K mg base k "_law_changed" 3 yt)(a6:aR P w K mg base k "_law_told" 1 sX)(a7:aR P w K mg base k "_law_misnamed" 2 Aa)(a8:aR P w K mg base k "_law_read" 2 Dy):RT P w K mg base k f N1l "law" wC Ke:=fun cdv A outer s H E hr=>by
 f_tup;have nd:=(zfk).nd;have b12:=T.blt "bool" (by x_go);have b13:=T.blt "dict" (by x_go);have b11:=T.blt "isinstance" (by x_go);o_new;have b2:=T.blt "range" (by x_go);refine aD (dj (i:=1) nd rfl Lv (Cm hu (aJ fB fD (aJ kI kJ (fu a0 hr rfl (aA Sv (aA Ei aG aQ) aP) kY) Ei) Ei) Ei)) ?_;refine aD (Vj "_law_row_here" [] (i:=2) nd rfl Lv rfl (by x_go) (CP (fu a3 hr rfl (aA (fu a1 hr rfl (aA Sv aG aP) kj) (aA Sv aG aP) gQ) kY)) (fun _ _ _ _ _ _=>xW) (fun _ _ _ _ _ _=>(fu a4 hr rfl (aA (lM rfl (.inl (by kernel_rfl))) aG aP) kj))) ?_;refine aD (dj (i:=3) nd rfl Lv (fu a2 hr rfl (aA (aJ eZ fj (aJ eZ fj (fu a0 hr rfl (aA Sv (aA Ei aG aQ) aP) kY) (aJ nG nH Ei (fu a0 hr rfl (aA Sv (aA Ei aG aQ) aP) kY))) (fu a0 hr rfl (aA Sv (aA Ei aG aQ) aP) kY)) (aA Ei aG aQ) gB) kY)) ?_;refine aD (dj (i:=4) nd rfl Lv (aJ fB fD (Ek Sv Ei) Ei)) ?_;refine aD (CV xbD rfl nd rfl Lv (Ey rfl b2 (aA Sv aG aP)) (aD (dj (i:=2) nd rfl Lv (fu a5 hr rfl (aA Sv (aA (Ek Sv (aJ eZ fj Ei (aJ nG nH Ei Sv))) (aA (Ek Sv (aJ eZ fj Ei (aJ nG nH Ei Sv))) aG fL) fL) aP) sO)) aK)) ?_;refine aD (Oj rfl (yG (i:=6) nd rfl Lv (yG (i:=7) nd rfl Lv Jl)) (fu a6 hr rfl (aA Sv aG aP) kj)) ?_;refine aD (eY (Ct hu (Ek Sv Ei) Es) (aD (eG (fu a8 hr rfl (aA Sv (aA Sv aG aP) aP) kY)) aK) aK) ?_;refine aD (dj (i:=8) nd rfl Lv (Ek Sv Ei)) ?_;refine aD (eY (SW.st (pN (Ct hu Sv Ei) (pN (sy (zdk (T:="bool") (fun t b h=>Yx t "bool" b h) Sv rfl b11 rfl b12 boot_bool)) (sG (wD (zeK (c1:=.le) (c2:=.lt) hu Ei Sv (gG h_ rfl b1 xaB iu (aA Sv aG aP)))))))) (aD (eG Eb) aK) aK) ?_;refine aD (dj (i:=9) nd rfl Lv (fu a6 hr rfl (aA (lK Sv nJ (jx (Wx:=W0) Sv)) aG fL) kj)) ?_;refine aD (eY (SW.st (sE (Ct hu Sv Ei) (wF (SW.st (pN (Ct hu (Ek Sv Ei) (fV (aA Es (aA (ziw zff zeH Ei) aG za6) aQ))) (sG (wD (sy (fu a8 hr rfl (aA (Ek Sv Ei) (aA (lK Sv nJ (jx (Wx:=W0) Sv)) aG fL) fL) kY))))))))) (aD (eG Eb) aK) aK) ?_;refine aD (eY (SW.st (pN (Ct hu (Ek (fu a6 hr rfl (aA (lK Sv nJ (jx (Wx:=W0) (aJ eZ fj Sv Ei))) aG fL) kj) Ei) Sv) (sG (Ct hu (Ek (fu a6 hr rfl (aA (aJ eZ fj (lK Sv nJ (jx (Wx:=W0) (aJ eZ fj Sv Ei))) (SN.sem (gk (aA Es (aA Es aG aQ) aQ)) lst_is)) aG gB) kj) Ei) Sv)))) (aD (eG Eb) aK) aK) ?_;refine aD (dj (i:=10) nd rfl Lv (zhb rfl rfl b13 (SN.sem (A_ "_law_row_here" [] rfl (by x_go) (CP (Ek Sv Ei)) (fun _ _ _ _ _ _=>xW) (fun _ _ _ _ _ _=>(fV (aA (Ek (lM rfl (.inl (by kernel_rfl))) Ei) (aA (Ek (lM rfl (.inl (by kernel_rfl))) Ei) aG fL) fL)))) yW))) ?_;exact aD (eG (Og (Cm hu (Ek Sv Ei) Es) (xR (fu a7 hr rfl (aA (su xbY xbZ Ce El (Ek Sv Sv) (aA Es aG aQ)) (aA Sv aG aP) gQ) kY)))) aK
end
noncomputable def Ca:Nat:=13
def xG:G:=Yg
abbrev wNs:String:="IK Uz UG Uu zlq Uh Ui UJ UL zkB zlY q_1 r_1 q_2 r_2 Us zhR zl5 Wg zkv zg7 zjY zlM zlH zk2 Ud zky zk1 zma zif zie zib q_n r_n ziP zjT zlc zgb zhe Ut zfM zi3 zgF zhy Ug zkz zlU zka zlW zj8 zg3 zhr zhK zjz zlK zhS Uv Ub zl9 zkt zkp zlD zk7 zj9 zgP ziM zjN Ua zjB zhQ zg5 zhw zlT zhC zlR zko zkR Tw Tv Tt Tr zj4 zkO zj1 zkh zhB zg1 zkL zij zgZ zlh zjS sizeLine_eq Option.map_some Option.map_none List.getElem?_cons_zero List.getElem?_cons_succ List.set_cons_zero List.set_cons_succ List.map_cons List.map_nil List.length_cons List.length_nil List.length_map List.replicate List.cons_append List.nil_append List.append_nil reduceCtorEq if_true if_false reduceIte Bool.not_true Bool.not_false Nat.reduceSub Nat.reduceAdd Nat.reduceLeDiff Nat.reduceLT Int.reduceLT Int.reduceLE Int.reduceAdd Int.reduceSub Int.reduceMul Int.reduceNeg Int.reduceAbs Int.reduceEq Int.reducePow Int.reduceMod Int.reduceDiv Int.reduceToNat Nat.zero_le and_true true_and and_self or_true true_or Bool.false_eq_true decide_eq_true_eq decide_true decide_false Bool.not_eq_true' decide_eq_false_iff_not not_true_eq_false not_false_eq_true eq_self zi5 zjq zgA ziW zhW Option.getD_some zla zlf ty_int zhA zk9 zjX zln zk5 zgh zgt zkQ zkC zjj zlz List.isEmpty_cons List.isEmpty_nil Bool.true_eq_false Bool.and_self Bool.and_true Bool.true_and Bool.and_false Bool.false_and zfS zk0 zhd zkV zkw zg0 zi8 zh1 zfU zlb zlO zg8 zjd zlN zkK zhn zhc Uy Uc V8 zk3 zhU zlu zhF zku zks zl2 zju zlQ zhg zlA zl7 V4 Bool.true_or Bool.false_or Bool.or_true Bool.or_false at0 at1 at2 Ge KY s_end w_end zdG zji zjy zli zjo ziN zeu zkH zlp zhX"
local macro_rules | `(tactic| z_go)=>do
 let l <-(wNs.splitOn " ").toArray.mapM fun n=> `(Lean.Parser.Tactic.simpLemma| $(Lean.mkIdent n.toName):term)
 `(tactic| try simp only[$l,*])
variable {M:Mm}
def zlm (c:Nat):Q8 [.val (.str ⟨#[c]⟩)] M=some (.v (.bl (!pI c)),M):=by
 unfold Q8;z_go;rw[Yq]
def Rr (x:Str)(hx:x.length<=100000):Bv [.str x] M=some (.v (.bl (pq (cd x))),M):=by
 unfold Bv Qh;z_go;rw[show x.cps.toList=cd x from rfl];simp only[Bt,eq_0];have hl:(cd x).length<=100000:=by rw[<-gY];exact hx
 by_cases h:cd x=[]
 .simp only[h];z_go;rfl
 .simp only[h];rw[vq (fun c=>D.str ⟨#[c]⟩) (fun c=>D.bl (!pI c)) (cd x) [] (fun c _=>zlm c) (by rw[xay];simp;lia)];z_go;rw[show((cd x).map fun c=>D.bl (!pI c))=((cd x).map fun c=> !pI c).map D.bl by rw[xa4];rfl,Dp];z_go;simp only[zfK];obtain⟨c,r,e⟩:=xdz h;unfold pq;cases hd:(cd x).all pI
  .z_go
  .z_go;rw[xaa (show x.length<=16777216 by lia),show x.cps.toList=cd x from rfl];simp only[h,eq_0];rw[e,show aV (c::r) 0=some c by simp[aV,wA]]
   by_cases h0:(c::r)=[48]
   .simp only[h0];z_go
   .simp only[h0];z_go;simp only[eq_0,W9,List.head?_cons,xdA,xb7];z_go
def zl6 (x:Str)(hx:x.length<=10000):Hf [.str x] M=some (.v (.bl (good (cd x))),M):=by
 unfold Hf Qo;z_go;rw[zkc];have hl:=gY x
 by_cases h:(cd x).head? =some 45
 .obtain⟨r,e⟩:∃r,cd x=45::r:=by
   cases hc:cd x with
   |nil=>rw[hc]at h;cases h
   |cons c r=>rw[hc]at h;simp at h;exact⟨r,by rw[h]⟩
  have hs:=zeD e;have hr:(Txt.slice x (some 1) none).length<=10000:=by
   rw[gY,hs];rw[e]at hl
   simp at hl
   lia
  simp only[h];erw [xaa (show x.length<=16777216 by lia)];simp only[X3,Rr _ (show(Txt.slice x (some 1) none).length<=100000 by lia),hs];unfold good sW;rw[xaa h];simp only[e,List.tail_cons]
  by_cases h2:45::r=[45,48]
  .simp only[h2];z_go
  .simp only[h2];z_go
 .simp only[h];z_go;simp only[X3,Rr _ (show x.length<=100000 by lia)];unfold good sW;rw[xac h]
  by_cases h2:cd x=[45,48]
  .simp only[h2];z_go
  .simp only[h2];z_go
def u6 (x:Str):Bool:=good (cd x)&&decide ((sW (cd x)).length<=20)
def g_num (x:Str)(hx:x.length<=10000):G8 [.str x] M=some (.v (.bl (u6 x)),M):=by
 unfold G8 Ql u6;z_go;simp only[zl6 x hx];erw [xaa (show x.length<=16777216 by lia)];cases hg:good (cd x)
 .z_go
 .have hl:=zfN hg;have:=PyProof.Rows.len_lstripChars x "-";z_go;rw[xaa (by lia),hl];z_go;congr 4;rw[xaP];simp only[xaH];lia
noncomputable def tvw (x:Str):Bool:=decide (x="t")||decide (x="v")||decide (x="w")
def lf (x L:Str):Bool:=u6 x||(tvw x&&wz x L)
def zls {x:Str}:aF .isin (.str x) (.tup [.str "t",.str "v",.str "w"])=some (.bl (tvw x)):=by
 have q:∀y:Str,D.eq (.str y) (.str x)=decide (x=y):=fun y=>by
  simp only[D.eq];rw[xaP]
  simp
  exact eq_comm
 unfold aF gh wO tvw;simp only[D.flat,xbF,List.all_nil,xb8,xa8,xbn,List.any_nil,xdv,q,xaR];rw[xd4]
def Yh (x L:Str)(hx:x.length<=10000):G6 [.str x,.str L] M=some (.v (.bl (lf x L)),M):=by
 unfold G6 Qj lf;z_go;simp only[g_num x hx];cases u6 x
 .z_go;rw[zls];cases tvw x
  .z_go
  .z_go
 .z_go
theorem zk8 {x z c:Str}{env:E3.Env}{k:Nat}(he:env[k]? =some (.val (.str x)))(hx:x.length<=100000)(hz:z.length<=1000):zO c (pZ (u_ (ak k) (pR z pU))) env M=some (.ex c 0,M):=by
 rw[Ue,zh3,zhf,Uh,he,UJ,Ut,zkP,xay,xaa (show x.length<=16777216 by lia),Ux,xay];have e:(Str.empty++x).length=x.length:=by rw[xbG,show Str.empty.length=0 from rfl];lia
 rw[xaa (by lia),zfe,xay,xaa (by rw[xbG];lia),zeZ,xay,xaa (by rw[xbG];lia)];rfl
theorem zk4 {x z c:Str}{env:E3.Env}{k:Nat}(he:env[k]? =some (.val (.str x)))(hx:(reprText x).length<=100000)(hz:z.length<=1000):zO c (pZ (xu (ak k) (pR z pU))) env M=some (.ex c 0,M):=by
 rw[Ue,zh3,ziK,Uh,he,UJ,Ut];have e:(Str.empty++reprText x).length=(reprText x).length:=by rw[xbG,show Str.empty.length=0 from rfl];lia
 rw[Uw,xay,xaa ⟨by lia,by lia⟩,zfe,xay,xaa (by rw[xbG];lia),zeZ,xay,xaa (by rw[xbG];lia)];rfl
def sm (x:Str):Prop:=x.length<=9000/\∀c∈cd x,c<4294967296
def sm.rp {x:Str}(h:sm x):(reprText x).length<=100000:=by
 have:=StrLaws.reprText_len x (fun c hc=>h.2 c hc);have:=h.1;lia
noncomputable def NT:List (Str×(Str×Str×Nat)):=[("+","number","number",2),("-","number","number",2),("*","number","number",2),("least","number","number",2),("most","number","number",2),("<","truth","number",2),("=","truth","number",2),("not","truth","truth",1),("and","truth","truth",2),("or","truth","truth",2)]
def nF (x:Str):Option (Str×Str×Nat):=(NT.find? fun p=>decide (p.1=x)).map (·.2)
noncomputable def sZ (q:Str×Str×Nat):D:=.tup [.str q.1,.str q.2.1,.int q.2.2]
theorem zhp:Fi=NT.map fun p=>(p.1,sZ p.2):=rfl
theorem Ea {x:Str}:lH Fi x=(nF x).map sZ:=by
 rw[zhp];unfold lH nF;rw[List.find?_map];show Option.map _ (Option.map _ (NT.find? fun p=>decide (p.1=x)))=_;cases NT.find? fun p=>decide (p.1=x)<;>rfl
def Z7 {x:Str}{q:Str×Str×Nat}(h:nF x=some q):(x,q)∈NT:=by
 unfold nF at h;rw[xam]at h;obtain⟨p,hp,rfl⟩:=h;have h1:=xde hp;have h2:=xbO hp;rw[<-xbm h1];exact h2
def zhD:NT.all (fun p=>(decide (p.2.2.2=1)||decide (p.2.2.2=2))&&(!u6 p.1&&(!tvw p.1&&decide (p.1.length<=5))))=true:=by x_go
def zjA {x:Str}{q:Str×Str×Nat}(h:nF x=some q):(q.2.2=1\/q.2.2=2)/\u6 x=false/\tvw x=false/\x.length<=5:=by
 have:=xaX.mp zhD _ (Z7 h);simp only[xak,xb6,xaH,xcs]at this;exact this
def zgu {x:Str}(h:u6 x=true\/tvw x=true):nF x=none:=by
 cases hn:nF x with
 |none=>rfl
 |some d=>
  obtain⟨_,h1,h2,_⟩:=zjA hn;rw[h1,h2]at h;rcases h with h |h<;>cases h
def La {x L:Str}(h:lf x L=true):nF x=none:=by
 unfold lf at h;rw[xb6,xak]at h;exact zgu (h.imp id (·.1))
noncomputable def sH (a:Str):Nat->Lsx->Option (Lsx)
 |0,ks=>some ks
 |_+1,[]=>none
 |n+1,b::ks=>if b=a then sH a n ks else none
def stepK (L x:Str)(ks:Lsx):Option (Lsx):=match nF x with
 |some q=>(sH q.2.1 q.2.2 ks).map (q.1:: ·)
 |none=>if lf x L=true then some ("number"::ks) else none
def runK (L:Str):Lsx->Lsx->Option (Lsx)
 | [],ks=>some ks
 |x::xs,ks=>(stepK L x ks).bind (runK L xs)
theorem U6 {L:Str}:∀{xs ys ks:Lsx},runK L (xs++ys) ks=(runK L xs ks).bind (runK L ys)
 | [],_,_=>rfl
 |x::xs,ys,ks=>by
  rw[xbX,runK,runK]
  cases stepK L x ks with
  |none=>rfl
  |some k=>exact U6
abbrev kc (ks:Lsx):E3.Cl:=.lst (ks.map D.str).reverse
def Iz {k:Nat}{d:D}{ds:List D}:zH M k (d::ds).reverse (d::ds).reverse[(d::ds).reverse.length-1]? =some (.v d,M.set k (.lst ds.reverse)):=by
 have e1:(d::ds).reverse[(d::ds).reverse.length-1]? =some d:=by simp
 have e2:(d::ds).reverse.dropLast=ds.reverse:=by simp
 rw[e1,zjn,e2]
theorem V_ {x:Str}{q:Str×Str×Nat}{i:Int}{ks:Lsx}(hl:x.length<=5):R3 [.val (.str x),.val (.ref M.length),.val (sZ q),.val (.int i)] (M++[kc ks])=match ks with
  | []=>some (.ex "NoExpr" 0,M++[kc []])
  |b::ks=>if b=q.2.1 then some (.nx [.val (.str x),.val (.ref M.length),.val (sZ q),.val (.int i)],M++[kc ks]) else some (.ex "NoExpr" 0,M++[kc ks]):=by
 have mg:∀N:Mm,zO "NoExpr" (pZ (u_ (ak 0) (pR " needs other words behind it" pU))) [.val (.str x),.val (.ref M.length),.val (sZ q),.val (.int i)] N=some (.ex "NoExpr" 0,N):=fun N=>zk8 (M:=N) (k:=0) rfl (show x.length<=100000 by lia) (by x_go);unfold R3 kc sZ;unfold sZ at mg
 cases ks with
 |nil=>
  erw [show([]:List D).reverse=[] from rfl];rw[mg];rfl
 |cons b ks=>
  erw [xdf,Iz]
  by_cases h:b=q.2.1
  .simp only[h];z_go
  .simp only[h];z_go;rw[mg];rfl
def zl3 {x:Str}{q:Str×Str×Nat}(h:nF x=some q)(ks:Lsx):(∃ks',sH q.2.1 q.2.2 ks=some ks'/\DQ [.str x,.ref M.length] (M++[kc ks])=some (.v .non,M++[kc ks']))\/(sH q.2.1 q.2.2 ks=none/\∃ks',DQ [.str x,.ref M.length] (M++[kc ks])=some (.x "NoExpr" 0,M++[kc ks'])):=by
 obtain⟨hn,_,_,hl⟩:=zjA h;unfold DQ Qw;z_go;rw[Ea,h];z_go;have i2:∀N:Mm,mapR N (aO (sZ q) (.int 2))=some (.v (.int q.2.2),N):=fun N=>by
  unfold sZ;z_go
 have w0:∀N:Mm,vw N (sZ q)=sZ q:=fun N=>rfl;simp only[w0,i2];z_go;rcases hn with hn |hn
 .rw[hn,Cz (by lia),show((List.range ((1:Nat):Int).toNat).map fun(k:Nat)=>D.int (0+k))=[.int 0] from rfl];z_go;rw[V_ hl]
  cases ks with
  |nil=>exact .inr ⟨rfl,[],rfl⟩
  |cons b ks=>
   dsimp only;unfold sH
   by_cases hb:b=q.2.1
   .rw[xaa hb,xaa hb];exact .inl ⟨ks,rfl,rfl⟩
   .rw[xac hb,xac hb];exact .inr ⟨rfl,ks,rfl⟩
 .rw[hn,Cz (by lia),show((List.range ((2:Nat):Int).toNat).map fun(k:Nat)=>D.int (0+k))=[.int 0,.int 1] from rfl];z_go;rw[V_ hl]
  cases ks with
  |nil=>exact .inr ⟨rfl,[],rfl⟩
  |cons b ks=>
   dsimp only;unfold sH
   by_cases hb:b=q.2.1
   .rw[xaa hb,xaa hb];z_go;rw[V_ hl]
    cases ks with
    |nil=>exact .inr ⟨rfl,[],rfl⟩
    |cons b ks=>
     dsimp only;unfold sH
     by_cases hb:b=q.2.1
     .rw[xaa hb,xaa hb];exact .inl ⟨ks,rfl,rfl⟩
     .rw[xac hb,xac hb];exact .inr ⟨rfl,ks,rfl⟩
   .rw[xac hb,xac hb];exact .inr ⟨rfl,ks,rfl⟩
def YM {ks:Lsx}{y:Str}:(ks.map D.str).reverse++[D.str y]=((y::ks).map D.str).reverse:=by rw[xai,List.reverse_cons]
def zgE {d0:D}{x L wt:Str}{ks:Lsx}(hx:sm x)(hk:ks.length<1000):(∃ks',stepK L x ks=some ks'/\Ag [.val d0,.val (.str L),.val (.str wt),.val (.ref M.length),.val (.str x)] (M++[kc ks])=some (.nx [.val d0,.val (.str L),.val (.str wt),.val (.ref M.length),.val (.str x)],M++[kc ks']))\/(stepK L x ks=none/\∃ks',Ag [.val d0,.val (.str L),.val (.str wt),.val (.ref M.length),.val (.str x)] (M++[kc ks])=some (.ex "NoExpr" 0,M++[kc ks'])):=by
 have mg:=zk4 (M:=M++[kc ks]) (c:="NoExpr") (z:=" may not stand here") (k:=4) (env:=[.val d0,.val (.str L),.val (.str wt),.val (.ref M.length),.val (.str x)]) rfl hx.rp (by x_go);unfold Ag stepK
 cases hn:nF x with
 |some q=>
  have i0:∀N:Mm,mapR N (aO (sZ q) (.int 0))=some (.v (.str q.1),N):=fun N=>by
   unfold sZ;z_go
  have w0:∀N:Mm,vw N (sZ q)=sZ q:=fun N=>rfl;dsimp only;rcases zl3 (M:=M) hn ks with⟨ks',e1,e2⟩ |⟨e1,ks',e2⟩
  .have hk':ks'.length<=ks.length:=by
    have:∀(n:Nat) (ks ks':Lsx),sH q.2.1 n ks=some ks'->ks'.length<=ks.length:=fun n=>by
     induction n with
     |zero=>intro ks ks' h;cases h;exact xag _
     |succ n ih=>
      intro ks ks' h
      cases ks with
      |nil=>cases h
      |cons b ks=>
       unfold sH at h;kjx_on
       .have:=ih ks ks' h;rw[xae];lia
       .cases h
    exact this _ _ _ e1
   refine .inl ⟨q.1::ks',by rw[e1];rfl,?_⟩;z_go;rw[Ea,hn];simp only[xaR,xb2];erw [e2];rw[Ea,hn];z_go;simp only[w0,i0];unfold kc;z_go;rw[xaZ,xah,xaa (by lia),YM];z_go
  .refine .inr ⟨by rw[e1];rfl,ks',?_⟩;z_go;rw[Ea,hn];simp only[xaR,xb2];z_go;rw[e2];rfl
 |none=>
  dsimp only;cases hf:lf x L
  .refine .inr ⟨rfl,ks,?_⟩;z_go;rw[Ea,hn];simp only[xcp,xcq];z_go;rw[Yh x L (by have:=hx.1;lia),hf];z_go;rw[mg];rfl
  .refine .inl ⟨"number"::ks,rfl,?_⟩;z_go;rw[Ea,hn];simp only[xcp,xcq];z_go;rw[Yh x L (by have:=hx.1;lia),hf];unfold kc;z_go;rw[xaZ,xah,xaa (by lia),YM];z_go
def zcP {L x:Str}{ks ks':Lsx}(h:stepK L x ks=some ks'):ks'.length<=ks.length+1:=by
 have tk:∀(a:Str) (n:Nat) (ks ks':Lsx),sH a n ks=some ks'->ks'.length<=ks.length:=fun a n=>by
  induction n with
  |zero=>intro ks ks' h;cases h;exact xag _
  |succ n ih=>
   intro ks ks' h
   cases ks with
   |nil=>cases h
   |cons b ks=>
    unfold sH at h;kjx_on
    .have:=ih ks ks' h;rw[xae];lia
    .cases h
 unfold stepK at h;kjx_on
 .rw[xam]at h;obtain⟨k1,h1,rfl⟩:=h;have:=tk _ _ _ _ h1;rw[xae];lia
 .kjx_on
  .cases h;rw[xae];lia
  .cases h
theorem zb5 {L:Str}:∀{xs ks ks':Lsx},runK L xs ks=some ks'->ks'.length<=ks.length+xs.length
 | [],_,_,h=>by cases h;exact Nat.le_add_right _ _
 |x::xs,ks,ks',h=>by
  unfold runK at h;rw[xdP]at h;obtain⟨k1,h1,h2⟩:=h;have:=zcP h1;have:=zb5 h2;rw[xae];lia
theorem Jr:∀ys:Lsx,D.deps (ys.map D.str)=0
 | []=>by simp[D.deps]
 |y::ys=>by simp[D.deps,D.dep,Jr ys]
theorem zfc:∀(as bs:Lsx),D.eqs (as.map D.str) (bs.map D.str)=decide (as=bs)
 | [],[]=>by simp[D.eqs]
 | [],b::bs=>by simp[D.eqs]
 |a::as,[]=>by simp[D.eqs]
 |a::as,b::bs=>by
  simp only[xai,D.eqs,D.eq,zfc as bs];rw[xaP]
  simp
def zjf {as bs:Lsx}:aF .ne (.lst (as.map D.str)) (.lst (bs.map D.str))=some (.bl (!decide (as=bs))):=by
 unfold aF gh wQ;rw[xaa ⟨by simp[lQ,D.flat,D.dep,Jr],by simp[D.dep,Jr]⟩];simp only[D.eq,zfc,xaR]
def zkZ {ks:Lsx}{wt:Str}:aF .ne (.lst (ks.map D.str).reverse) (.lst [.str wt])=some (.bl (!decide (ks=[wt]))):=by
 rw[<-List.map_reverse,show [D.str wt]=[wt].map D.str from rfl,zjf];have:(ks.reverse=[wt])=(ks=[wt]):=propext ⟨fun h=>by rw[<-List.reverse_reverse ks,h];rfl,fun h=>by rw[h];rfl⟩;simp only[this]
def Gu (xs:Lix):Prop:=∀x∈xs,0<=x/\x<715827877
def Bu {n:Int}{m:Nat}(hm:m<=1000):∃xs:Lix,xs.length=m/\Gu xs/\∀M:Mm,wY [.int n,.int m] M=some (.v (.lst (xs.map .int)),M):=by
 let P:E3.OS->Mm->Lix->Prop:=fun o M xs=>∃s3 s4,o=some (.nx [.val (.int n),.val (.int m),.own (xs.map .int),s3,s4],M)
 have key:∃xs:Lix,xs.length=m/\Gu xs/\∀M:Mm,P (loopS 4 K_ ((List.range m).map fun(k:Nat)=>D.int (0+k)) [.val (.int n),.val (.int m),.own [],.val (.int (n%2147483629)),.un] M) M xs:=by
  -- the numbers by themselves
  let st:Int×Lix->Nat->Int×Lix:=fun p k=>let x:=(p.1*p.1+40692*p.1+2*(0+(k:Int))+1)%2147483629;(x,p.2++[x/3])
  let at_:Nat->Int×Lix:=fun k=>(List.range k).foldl st (n%2147483629,[])
  have hst:∀k,at_ (k+1)=st (at_ k) k:=fun k=>by simp only[at_,List.range_succ,List.foldl_append,xcC,List.foldl_nil]
  have hb:∀k,0<=(at_ k).1/\(at_ k).1<2147483629/\(at_ k).2.length=k/\Gu (at_ k).2:=fun k=>by
   induction k with
   |zero=>exact⟨xaL _ (by decide),xaK _ (by decide),rfl,fun x hx=>by cases hx⟩
   |succ k ih=>
    rw[hst];refine⟨xaL _ (by decide),xaK _ (by decide),by simp only[st,xaf,ih.2.2.1,xaC],fun x hx=>?_⟩;simp only[st,xav,xaG]at hx;rcases hx with hx |hx
    .exact ih.2.2.2 x hx
    .have h1:=xaL ((at_ k).1*(at_ k).1+40692*(at_ k).1+2*(0+(k:Int))+1) (show(2147483629:Int)≠0 by decide);have h2:=xaK ((at_ k).1*(at_ k).1+40692*(at_ k).1+2*(0+(k:Int))+1) (show(0:Int)<2147483629 by decide);subst hx;lia
  refine⟨(at_ m).2,(hb m).2.2.1,(hb m).2.2.2,fun M=>?_⟩;refine Hz (fun o=>P o M (at_ m).2) (fun k env M'=>M'=M/\∃s4,env=[.val (.int n),.val (.int m),.own ((at_ k).2.map .int),.val (.int (at_ k).1),s4]) ⟨rfl,.un,rfl⟩ ?_ ?_
  .rintro k d env M' hd ⟨rfl,s4,rfl⟩;have hk:k<m:=by
    have:=(xao.mp hd).1
    simpa using this
   rw[xau,xcj hk,xaR]at hd;cases hd;refine⟨by show 4<5;decide,?_⟩;have hx:=hb k;have hq:=hb (k+1);rw[hst]at hq;show Step _ _ (K_ [.val (.int n),.val (.int m),.own ((at_ k).2.map .int),.val (.int (at_ k).1),.val (.int (0+k))] M');generalize e1:(at_ k).1=x at *;generalize e2:(at_ k).2=xs at *;unfold K_;erw [xaa (.inl (by lia))];rw[xaa (show xs.length<16777216 by lia)];refine⟨rfl,.val (.int (0+k)),?_⟩;rw[hst];simp only[st,e1,e2,xaI,xai,xbE]
  .rintro env M' ⟨rfl,s4,rfl⟩;rw[xah,xca];exact⟨_,_,rfl⟩
 obtain⟨xs,h1,h2,h3⟩:=key;refine⟨xs,h1,h2,fun M=>?_⟩;obtain⟨s3,s4,h3⟩:=h3 M;unfold wY Pz;z_go;rw[Cz (by lia),xbu];erw [h3]
def zit {x y:Str}(hx:x.length<=4000)(hy:y.length<=4000)(h1:∀c∈cd x,c<4294967296)(h2:∀c∈cd y,c<4294967296):sm (x++y):=by
 refine⟨by rw[xbG];lia,fun c hc=>?_⟩;rw[wR,xav]at hc;exact hc.elim (h1 c) (h2 c)
def QZ {i:Int}(h0:0<=i)(h1:i<1000000000000000000000):(eF i).length<=22/\∀c∈cd (eF i),c<4294967296:=by
 refine⟨Vc (k:=21) (by decide) (by rw[show(10:Nat)^21=1000000000000000000000 by decide];lia),fun c hc=>?_⟩;unfold cd at hc;rw[yI h0]at hc;have:=Dr i.toNat c hc;lia
def Rh {n:Nat}:pq (dg n)=true:=by
 have hall:(dg n).all pI=true:=xaX.mpr fun c hc=>by
  have:=Dr n c hc;unfold pI;rw[xaD this.1,xaD this.2];rfl
 unfold pq;rw[hall,xas (Ks n)]
 by_cases h0:n=0
 .subst h0;rw[zf0];rfl
 .obtain⟨c,r,e,hc⟩:=Xz n h0;rw[e,List.head?_cons,xas (show ¬ (some c=some 48) from fun z=>by have:=xaE z;lia)]
  simp
def Xx {n:Int}(h0:0<=n)(h1:n<100000000000000000000):(dg n.toNat).length<=20:=Gs (by decide) (by rw[show(10:Nat)^20=100000000000000000000 by decide];lia)
def Xy {n:Nat}:(dg n).head? ≠some 45:=fun h=>by
 cases e:dg n with
 |nil=>exact Ks n e
 |cons c r=>
  rw[e]at h;have:=Dr n c (by rw[e];exact xax)
  simp at h
  lia
theorem zf2 {n:Int}(h0:0<=n)(h1:n<100000000000000000000):u6 (eF n)=true:=by
 have e:cd (eF n)=dg n.toNat:=yI h0;have ef:sW (dg n.toNat)=dg n.toNat:=by unfold sW;rw[xac Xy]
 unfold u6 good;rw[e,ef,Rh,xaD (Xx h0 h1),xas (fun z=>Xy (n:=n.toNat) (by rw[z];rfl))];rfl
theorem zfu {n:Int}(h0:0<n)(h1:n<100000000000000000000):u6 (Str.ofString "-"++eF n)=true:=by
 have e:cd (Str.ofString "-"++eF n)=45::dg n.toNat:=by
  rw[wR,show cd "-"=[45] by x_go,show cd (eF n)=dg n.toNat from yI (by lia)];rfl
 have ef:sW (45::dg n.toNat)=dg n.toNat:=by unfold sW;rw[xaa (show(45::dg n.toNat).head? =some 45 from rfl)];rfl
 unfold u6 good;rw[e,ef,Rh,xaD (Xx (by lia) h1),xas (fun z=>by
  have z2:dg n.toNat=[48]:=by simpa using z
  obtain⟨c,r,e2,hc⟩:=Xz n.toNat (by lia);rw[e2]at z2
  simp at z2
  lia)]
 rfl
def LG (L:Str):Prop:=L.length<=10/\∀c∈cd L,c=116\/c=118\/c=119
theorem zhi {c:Nat}{L:Str}:wz ⟨#[c]⟩ L=decide (c∈cd L):=by
 unfold wz;rw[xdB];rfl
def Y8 {c:Nat}{L:Str}(hL:LG L)(hc:c∈cd L):lf ⟨#[c]⟩ L=true:=by
 unfold lf;rw[zhi,xaD hc];have:tvw ⟨#[c]⟩=true:=by
  rcases hL.2 c hc with rfl |rfl |rfl<;>decide +kernel
 rw[this]
 simp
def zeM {c:Nat}(h:c<4294967296):sm ⟨#[c]⟩:=⟨by show 1<=9000;decide,fun d hd=>by rw[W9,xaG]at hd;rw[hd];exact h⟩
theorem Y0 {x:Int}{L:Str}(hL:LG L):∃w,lf w L=true/\sm w/\∀M:Mm,yZ [.int x,.str L] M=some (.v (.str w),M):=by
 have hll:=hL.1
 by_cases h:0<x%3/\L≠Str.ofString ""
 .have hp:0<L.length:=by
   rcases Nat.eq_zero_or_pos L.length with z |z
   .exfalso
    apply h.2;rw[Bt];exact xcM.mp (by rw[<-gY];exact z)
   .exact z
  have p0:=xaL (x/3) (show(L.length:Int)≠0 by lia);have p1:=xaK (x/3) (show(0:Int)<(L.length:Int) by lia);have hl:=gY L;have hx:=xaj (show((x/3)%(L.length:Int)).toNat<(cd L).length by lia);generalize (cd L)[((x/3)%(L.length:Int)).toNat]=c at hx;have hc:=xaS hx;have ha:=i_ hx;rw[xbk p0]at ha;refine⟨⟨#[c]⟩,Y8 hL hc,zeM (by rcases hL.2 c hc with z |z |z<;>lia),fun M=>?_⟩
  have hL6:L.length<=16777216:=by clear p0 p1 hx h ha hl;lia
  unfold yZ J5;z_go;simp only[h.1,h.2];erw [xaa hL6,xaa (show(0:Int)<(L.length:Int) from Int.ofNat_lt.mpr hp)];rw[xaa hL6,show L.cps.toList=cd L from rfl,ha];z_go
 .have hm:∃q:Int,0<q/\q<=100000000000000000000/\aV [D.int 10,.int 100,.int 1000000,.int 1000000000000,.int 100000000000000000000] (x/9%5)=some (.int q):=by
   have:x/9%5=0\/x/9%5=1\/x/9%5=2\/x/9%5=3\/x/9%5=4:=by lia
   rcases this with e |e |e |e |e<;>rw[e]
   .exact⟨_,by decide,by decide,at0⟩
   .exact⟨_,by decide,by decide,at1⟩
   .exact⟨_,by decide,by decide,at2⟩
   .exact⟨_,by decide,by decide,Ge⟩
   .exact⟨_,by decide,by decide,i_ (j:=4) rfl⟩
  obtain⟨q,q0,q1,eq⟩:=hm;have n0:=xaL (x*1000003*104729*7919) (show q≠0 by lia);have n1:=xaK (x*1000003*104729*7919) q0;generalize en:(x*1000003*104729*7919)%q=n at n0 n1;obtain⟨wl,ws⟩:=QZ (i:=n) n0 (by lia);have lg:n.natAbs.log2<1920:=R9 (by lia);have go:∀M:Mm,yZ [.int x,.str L] M=lD (Lf [.val (.int x),.val (.str L),.val (.int n)] M):=fun M=>by
   unfold yZ J5;z_go;have st:(if 0<x%3 then some (Res.v (D.bl (!decide (L=Str.ofString ""))),M) else some (Res.v (D.bl false),M))=some (Res.v (D.bl false),M):=by
    by_cases z:0<x%3
    .have z2:L=Str.ofString "":=Classical.byContradiction fun z2=>h ⟨z,z2⟩;rw[xaa z,xaD z2];rfl
    .rw[xac z]
   rw[st];z_go;unfold ZD;erw [eq];rw[xaa q0,en];z_go
  simp only[go]
  by_cases h2:x/2%2=1/\0<n
  .refine⟨Str.ofString "-"++eF n,?_,zit (by x_go) (by lia) (fun c hc=>by revert c;decide +kernel) ws,fun M=>?_⟩
   .unfold lf;rw[zfu h2.2 (by lia)];rfl
   .unfold Lf;z_go;simp only[h2.1,h2.2];erw [xaa lg];rw[show(Str.ofString "-").length=1 by x_go,xaa (show 1+(Str.ofString (toString n)).length<=16777216 from by have:(Str.ofString (toString n)).length<=22:=wl;lia)];rfl
  .refine⟨eF n,?_,⟨by lia,ws⟩,fun M=>?_⟩
   .unfold lf;rw[zf2 n0 (by lia)];rfl
   .unfold Lf;z_go;have st:(if x/2%2=1 then some (Res.v (D.bl (decide (0<n))),M) else some (Res.v (D.bl false),M))=some (Res.v (D.bl false),M):=by
     by_cases z:x/2%2=1
     .rw[xaa z,xas (fun z2=>h2 ⟨z,z2⟩)]
     .rw[xac z]
    rw[st];unfold ZF;erw [xaa lg];rfl
def NW (L x:Str):Prop:=(nF x=some (Str.ofString "number",Str.ofString "number",2)\/(nF x=none/\lf x L=true))/\sm x
noncomputable def nums (n:Nat):Lsx:=List.replicate n "number"
def Vg {x:Str}(h:(decide (x.length<=9000)&&(cd x).all fun c=>decide (c<4294967296))=true):sm x:=by
 rw[xak,xaH,xaX]at h;exact⟨h.1,fun c hc=>xbm (h.2 c hc)⟩
def Ri {L:Str}{k:Int}:∃x:Str,NW L x/\nF x=some (Str.ofString "number",Str.ofString "number",2)/\aV [D.str "+",.str "-",.str "*",.str "least",.str "most"] (k%5)=some (.str x):=by
 have mk:∀x:Str,nF x=some (Str.ofString "number",Str.ofString "number",2)->(decide (x.length<=9000)&&(cd x).all fun c=>decide (c<4294967296))=true->NW L x/\nF x=some (Str.ofString "number",Str.ofString "number",2):=fun x h s=>⟨⟨.inl h,Vg s⟩,h⟩;have:k%5=0\/k%5=1\/k%5=2\/k%5=3\/k%5=4:=by lia
 rcases this with e |e |e |e |e<;>rw[e]
 .obtain⟨a,b⟩:=mk "+" (by x_go) (by x_go);exact⟨_,a,b,at0⟩
 .obtain⟨a,b⟩:=mk "-" (by x_go) (by x_go);exact⟨_,a,b,at1⟩
 .obtain⟨a,b⟩:=mk "*" (by x_go) (by x_go);exact⟨_,a,b,at2⟩
 .obtain⟨a,b⟩:=mk "least" (by x_go) (by x_go);exact⟨_,a,b,Ge⟩
 .obtain⟨a,b⟩:=mk "most" (by x_go) (by x_go);exact⟨_,a,b,i_ (j:=4) rfl⟩
def zjp {L x:Str}{n:Nat}(h:nF x=some (Str.ofString "number",Str.ofString "number",2))(hn:1<=n):stepK L x (nums (n+1))=some (nums n):=by
 obtain⟨m,rfl⟩:∃m,n=m+1:=⟨n-1,by lia⟩;unfold stepK;rw[h];unfold nums;simp only[xbj,sH,xa8,xaR]
def zhM {L x:Str}{n:Nat}(h:lf x L=true)(hn:1<=n):stepK L x (nums (n-1))=some (nums n):=by
 obtain⟨m,rfl⟩:∃m,n=m+1:=⟨n-1,by lia⟩;unfold stepK;rw[La h];dsimp only;rw[xaa h];unfold nums;rw[Nat.add_sub_cancel,xbj]
def Yj {L:Str}{num:Int}{most:Nat}(hL:LG L)(hm:1<=most/\most<=45):∃ws:Lsx,runK L ws.reverse []=some [Str.ofString "number"]/\(∀w∈ws,NW L w)/\1<=ws.length/\ws.length<=most/\Dv [.int num,.str L,.int most] M=some (.v (.lst (ws.map D.str)),M):=by
 have lp:∃ws:Lsx,∃s5 s6,runK L ws.reverse []=some [Str.ofString "number"]/\(∀w∈ws,NW L w)/\1<=ws.length/\ws.length<=most/\yE 1000 V1 DX [.val (.int num),.val (.str L),.val (.int most),.own [],.val (.int 1),.val (.int (num%2147483629)),.un] M=some (.nx [.val (.int num),.val (.str L),.val (.int most),.own (ws.map D.str),.val (.int 0),s5,s6],M):=by
  refine O6 (Q:=fun o=>∃ws:Lsx,∃s5 s6,runK L ws.reverse []=some [Str.ofString "number"]/\(∀w∈ws,NW L w)/\1<=ws.length/\ws.length<=most/\o=some (.nx [.val (.int num),.val (.str L),.val (.int most),.own (ws.map D.str),.val (.int 0),s5,s6],M)) (fun m env N=>N=M/\∃(ws:Lsx) (need:Nat) (x:Int) (s6:E3.Slot),env=[.val (.int num),.val (.str L),.val (.int most),.own (ws.map D.str),.val (.int need),.val (.int x),s6]/\m=most-ws.length/\ws.length+need<=most/\runK L ws.reverse (nums need)=some [Str.ofString "number"]/\(∀w∈ws,NW L w)/\0<=x/\x<2147483629) ⟨most,by lia,rfl,[],1,_,.un,rfl,rfl,by simpa using hm.1,rfl,(fun w hw=>by cases hw),xaL _ (by decide),xaK _ (by decide)⟩ ?_;rintro m env N ⟨rfl,ws,need,x,s6,rfl,rfl,hb,hr,hw,x0,x1⟩;refine⟨decide (0<(need:Int)),N,?_,?_⟩
  .unfold V1;z_go
  .by_cases hn:0<(need:Int)
   .rw[xaD hn,xaa rfl];krn_ne
    replace ey:id (_=_):=ey
    obtain⟨op,nwo,ndo,eo⟩:=Ri (L:=L) (k:=y/7/2);obtain⟨w,lw,sw,ew⟩:=Y0 (x:=y/7/2) hL;have hx64:x.natAbs<18446744073709551616:=by lia
    by_cases c:y/7%2=1/\((ws.length:Nat):Int)+(need:Int)+2<=(most:Int)
    .have e:DX [.val (.int num),.val (.str L),.val (.int most),.own (ws.map D.str),.val (.int need),.val (.int x),s6] N=some (.nx [.val (.int num),.val (.str L),.val (.int most),.own ((ws++[op]).map D.str),.val (.int ((need+1:Nat):Int)),.val (.int y),.val (.int (y/7))],N):=by
      unfold DX;erw [xaa (.inl hx64),show _=y from ey];simp only[c.1,c.2];erw [eo,xaa (by lia)];rw[xaI];rfl
     rw[e];refine⟨most-(ws++[op]).length,by rw[xaf,xaC];lia,rfl,ws++[op],need+1,y,_,rfl,rfl,by rw[xaf,xaC];lia,?_,fun u hu=>?_,y0,y1⟩
     .rw[xbW,show [op].reverse=[op] from rfl,xbN];show(stepK L op (nums (need+1))).bind (runK L ws.reverse)=_;rw[zjp ndo (by lia)];exact hr
     .rw[xav,xaG]at hu;rcases hu with hu |rfl
      .exact hw u hu
      .exact nwo
    .have e:DX [.val (.int num),.val (.str L),.val (.int most),.own (ws.map D.str),.val (.int need),.val (.int x),s6] N=some (.nx [.val (.int num),.val (.str L),.val (.int most),.own ((ws++[w]).map D.str),.val (.int ((need-1:Nat):Int)),.val (.int y),.val (.int (y/7))],N):=by
      have st:(if y/7%2=1 then some (Res.v (D.bl (decide (((ws.length:Nat):Int)+(need:Int)+2<=(most:Int)))),N) else some (Res.v (D.bl false),N))=some (Res.v (D.bl false),N):=by
       by_cases z:y/7%2=1
       .rw[xaa z,xas (fun z2=>c ⟨z,z2⟩)]
       .rw[xac z]
      unfold DX;erw [xaa (.inl hx64),show _=y from ey,st,ew,xaa (by lia)];rw[xaI,show(need:Int)-1=((need-1:Nat):Int) by lia];rfl
     rw[e];refine⟨most-(ws++[w]).length,by rw[xaf,xaC];lia,rfl,ws++[w],need-1,y,_,rfl,rfl,by rw[xaf,xaC];lia,?_,fun u hu=>?_,y0,y1⟩
     .rw[xbW,show [w].reverse=[w] from rfl,xbN];show(stepK L w (nums (need-1))).bind (runK L ws.reverse)=_;rw[zhM lw (by lia)];exact hr
     .rw[xav,xaG]at hu;rcases hu with hu |rfl
      .exact hw u hu
      .exact⟨.inr ⟨La lw,lw⟩,sw⟩
   .rw[xas hn,xac (by decide)];have hz:need=0:=by lia
    subst hz;refine⟨ws,_,_,hr,hw,?_,by lia,rfl⟩
    cases ws with
    |nil=>cases hr
    |cons a b=>simp
 obtain⟨ws,s5,s6,h1,h2,h3,h4,lp⟩:=lp;refine⟨ws,h1,h2,h3,h4,?_⟩;unfold Dv PB;erw [lp]
def zl8 {a b:Str}(h:decide (a=b)=false):(a=b)=False:=eq_false (of_decide_eq_false h)
def ziv:nF "not"=some (Str.ofString "truth",Str.ofString "truth",1):=by x_go
noncomputable def xO (p:Bool):D:=.str (if p then "cond" else "expr")
noncomputable def yx (p:Bool):Str:=if p then "truth" else "number"
def pc (pd:List Bool):E3.Cl:=.lst (pd.map xO).reverse
noncomputable def pw (pd:List Bool):Nat:=(pd.map fun p=>if p then 3 else 1).sum
def Oz {a b:Str}{k:Int}:∃x:Str,(x=a\/x=b)/\aV [D.str a,.str b] (k%2)=some (.str x):=by
 have:k%2=0\/k%2=1:=by lia
 rcases this with e |e<;>rw[e]
 .exact⟨a,.inl rfl,at0⟩
 .exact⟨b,.inr rfl,at1⟩
def zhT {L x:Str}{ks:Lsx}(h:x="and"\/x="or"):stepK L x ((("truth":Str)::("truth":Str)::ks):Lsx)=some (("truth":Str)::ks):=by
 have:nF x=some (Str.ofString "truth",Str.ofString "truth",2):=by rcases h with rfl |rfl<;>decide +kernel
 unfold stepK;rw[this];simp only[sH,xa8,xaR]
def zjR {L:Str}{ks:Lsx}:stepK L "not" (("truth":Str)::ks)=some (("truth":Str)::ks):=by
 unfold stepK;rw[ziv];simp only[sH,xa8,xaR]
def zgQ {L x:Str}{ks:Lsx}(h:x="<"\/x="="):stepK L x (("number":Str)::("number":Str)::ks)=some (("truth":Str)::ks):=by
 have:nF x=some (Str.ofString "truth",Str.ofString "number",2):=by rcases h with rfl |rfl<;>decide +kernel
 unfold stepK;rw[this];simp only[sH,xa8,xaR]
def zjv {L x:Str}{ks:Lsx}(h:nF x=some (Str.ofString "number",Str.ofString "number",2)):stepK L x (("number":Str)::("number":Str)::ks)=some (("number":Str)::ks):=by
 unfold stepK;rw[h];simp only[sH,xa8,xaR]
def Js {L x:Str}{ks:Lsx}(h:lf x L=true):stepK L x ks=some (("number":Str)::ks):=by
 unfold stepK;rw[La h];dsimp only;rw[xaa h]
def wg:(Str.ofString "expr"=Str.ofString "cond")=False:=zl8 (by x_go)
def Im {ds:List D}:ds.reverse++[D.str "cond",.str "cond"]=(xO true::xO true::ds).reverse:=by simp[xO]
def zE {ds:List D}:ds.reverse++[D.str "expr",.str "expr"]=(xO false::xO false::ds).reverse:=by simp[xO]
def Il {ds:List D}:ds.reverse++[D.str "cond"]=(xO true::ds).reverse:=by simp[xO]
def yL {ws:Lsx}{w:Str}:ws.map D.str++[D.str w]=(ws++[w]).map D.str:=by simp
theorem Ip {pd:List Bool}:pc (true::pd)=.lst (D.str "cond"::pd.map xO).reverse:=rfl
theorem Io {pd:List Bool}:pc (false::pd)=.lst (D.str "expr"::pd.map xO).reverse:=rfl
def zfG {num most x:Int}{ws:Lsx}{p:Bool}{pd:List Bool}{room:Nat}{s6 s7:E3.Slot}(hw:ws.length<=100)(hp:pd.length<=100)(x0:0<=x)(x1:x<2147483629):∃(y:Int) (w:Str) (pd':List Bool) (room':Nat) (t6 t7:E3.Slot) (E:Mm),Hu [.val (.int num),.val (.int most),.own (ws.map D.str),.val (.ref M.length),.val (.int room),.val (.int x),s6,s7] (M++[pc (p::pd)])=some (.nx [.val (.int num),.val (.int most),.own ((ws++[w]).map D.str),.val (.ref (M++E).length),.val (.int room'),.val (.int y),t6,t7],M++E++[pc pd'])/\0<=y/\y<2147483629/\sm w/\stepK "tv" w (pd'.map yx)=some (yx p::pd.map yx)/\pw pd'+room'+1=pw (p::pd)+room:=by
 krn_ne;have hx64:x.natAbs<18446744073709551616:=by lia
 have go:∀N:Mm,Hu [.val (.int num),.val (.int most),.own (ws.map D.str),.val (.ref M.length),.val (.int room),.val (.int x),s6,s7] N=Ec [.val (.int num),.val (.int most),.own (ws.map D.str),.val (.ref M.length),.val (.int room),.val (.int y),.val (.int (y/7)),s7] N:=fun N=>by
  unfold Hu;erw [xaa (.inl hx64)];rw[ey];unfold Zi;z_go
 rw[go];generalize y/7=z;have wl:(ws.map D.str).length<16777216:=by rw[xah];lia
 have smw:∀w:Str,(decide (w.length<=9000)&&(cd w).all fun c=>decide (c<4294967296))=true->sm w:=fun w h=>Vg h
 cases p with
 |true=>
  have go2:Ec [.val (.int num),.val (.int most),.own (ws.map D.str),.val (.ref M.length),.val (.int room),.val (.int y),.val (.int z),s7] (M++[pc (true::pd)])=Ai [.val (.int num),.val (.int most),.own (ws.map D.str),.val (.ref M.length),.val (.int room),.val (.int y),.val (.int z),.val (.str "cond")] (M++[pc pd]):=by
   rw[Ip];unfold Ec;erw [Iz];rfl
  rw[go2]
  by_cases c1:(4:Int)<=room/\z%4=1
  .obtain⟨w,hw2,ew⟩:=Oz (a:="and") (b:="or") (k:=z/4);refine⟨y,w,true::true::pd,room-4,.val (.int z),.val (.str "cond"),[pc pd],?_,y0,y1,?_,?_,?_⟩
   .unfold Ai;z_go;simp only[c1.1,c1.2];erw [ew];k_obj1;rw[Im,yL,show(room:Int)-4=((room-4:Nat):Int) by lia]
    try rfl
   .rcases hw2 with rfl |rfl<;>exact smw _ (by x_go)
   .exact zhT hw2
   .simp only[pw,xai,xaT,xa8];lia
  .have s1:(if (4:Int)<=(room:Int) then some (Res.v (D.bl (decide (z%4=1))),M++[pc pd]) else some (Res.v (D.bl false),M++[pc pd]))=some (Res.v (D.bl false),M++[pc pd]):=by
    by_cases q:(4:Int)<=room
    .rw[xaa q,xas (fun q2=>c1 ⟨q,q2⟩)]
    .rw[xac q]
   by_cases c2:(1:Int)<=room/\z%4=2
   .refine⟨y,"not",true::pd,room-1,.val (.int z),.val (.str "cond"),[],?_,y0,y1,smw _ (by x_go),zjR,?_⟩
    .unfold Ai;erw [s1];simp only[c2.1,c2.2];z_go;k_obj1;rw[Il,yL,show(room:Int)-1=((room-1:Nat):Int) by lia]
     try rfl
    .simp only[pw,xai,xaT,xa8];lia
   .have s2:(if (1:Int)<=(room:Int) then some (Res.v (D.bl (decide (z%4=2))),M++[pc pd]) else some (Res.v (D.bl false),M++[pc pd]))=some (Res.v (D.bl false),M++[pc pd]):=by
     by_cases q:(1:Int)<=room
     .rw[xaa q,xas (fun q2=>c2 ⟨q,q2⟩)]
     .rw[xac q]
    obtain⟨w,hw2,ew⟩:=Oz (a:="<") (b:="=") (k:=z/4);refine⟨y,w,false::false::pd,room,.val (.int z),.val (.str "cond"),[pc pd],?_,y0,y1,?_,?_,?_⟩
    .unfold Ai;erw [s1,s2,ew];k_obj1;rw[zE,yL]
     try rfl
    .rcases hw2 with rfl |rfl<;>exact smw _ (by x_go)
    .exact zgQ hw2
    .simp only[pw,xai,xaT,xa8]
     simp
     lia
 |false=>
  have go2:Ec [.val (.int num),.val (.int most),.own (ws.map D.str),.val (.ref M.length),.val (.int room),.val (.int y),.val (.int z),s7] (M++[pc (false::pd)])=Ai [.val (.int num),.val (.int most),.own (ws.map D.str),.val (.ref M.length),.val (.int room),.val (.int y),.val (.int z),.val (.str "expr")] (M++[pc pd]):=by
   rw[Io];unfold Ec;erw [Iz];rfl
  rw[go2]
  by_cases c1:(2:Int)<=room/\z%3=1
  .obtain⟨w,nw,nd,ew⟩:=Ri (L:="tv") (k:=z/3);refine⟨y,w,false::false::pd,room-2,.val (.int z),.val (.str "expr"),[pc pd],?_,y0,y1,nw.2,zjv nd,?_⟩
   .unfold Ai;z_go;simp only[wg];z_go;simp only[wg];z_go;simp only[wg];z_go;simp only[c1.1,c1.2];erw [ew];k_obj1;rw[zE,yL,show(room:Int)-2=((room-2:Nat):Int) by lia]
    try rfl
   .simp only[pw,xai,xaT]
    simp
    lia
  .have s1:(if (2:Int)<=(room:Int) then some (Res.v (D.bl (decide (z%3=1))),M++[pc pd]) else some (Res.v (D.bl false),M++[pc pd]))=some (Res.v (D.bl false),M++[pc pd]):=by
    by_cases q:(2:Int)<=room
    .rw[xaa q,xas (fun q2=>c1 ⟨q,q2⟩)]
    .rw[xac q]
   obtain⟨w,lw,sw,ew⟩:=Y0 (x:=z/3) (L:="tv") ⟨by x_go,fun c hc=>by revert c;decide +kernel⟩;refine⟨y,w,pd,room,.val (.int z),.val (.str "expr"),[],?_,y0,y1,sw,Js lw,?_⟩
   .unfold Ai;z_go;simp only[wg];z_go;simp only[wg];z_go;simp only[wg];erw [s1,ew];rw[xaa (by lia),yL];z_go
   .simp only[pw,xai,xaT]
    simp
    lia
def zlw {num:Int}{most:Nat}(hm:3<=most/\most<=40):∃(ws:Lsx) (E:Mm),runK "tv" ws.reverse []=some [Str.ofString "truth"]/\(∀w∈ws,sm w)/\1<=ws.length/\ws.length<=most/\GF [.int num,.int most] M=some (.v (.lst (ws.map D.str)),M++E):=by
 have lp:∃(ws:Lsx) (E:Mm) (s3 s4 s5 s6 s7:E3.Slot),runK "tv" ws.reverse []=some [Str.ofString "truth"]/\(∀w∈ws,sm w)/\1<=ws.length/\ws.length<=most/\yE 1000 VR Hu [.val (.int num),.val (.int most),.own [],.val (.ref M.length),.val (.int ((most-3:Nat):Int)),.val (.int (num%2147483629)),.un,.un] (M++[pc [true]])=some (.nx [.val (.int num),.val (.int most),.own (ws.map D.str),s3,s4,s5,s6,s7],M++E):=by
  refine O6 (Q:=fun o=>∃(ws:Lsx) (E:Mm) (s3 s4 s5 s6 s7:E3.Slot),runK "tv" ws.reverse []=some [Str.ofString "truth"]/\(∀w∈ws,sm w)/\1<=ws.length/\ws.length<=most/\o=some (.nx [.val (.int num),.val (.int most),.own (ws.map D.str),s3,s4,s5,s6,s7],M++E)) (fun m env N=>∃(ws:Lsx) (E:Mm) (pd:List Bool) (room:Nat) (x:Int) (s6 s7:E3.Slot),env=[.val (.int num),.val (.int most),.own (ws.map D.str),.val (.ref (M++E).length),.val (.int room),.val (.int x),s6,s7]/\N=M++E++[pc pd]/\m=pw pd+room/\ws.length+pw pd+room=most/\runK "tv" ws.reverse (pd.map yx)=some [Str.ofString "truth"]/\(∀w∈ws,sm w)/\0<=x/\x<2147483629) ⟨pw [true]+(most-3),by simp only[pw,xai,xbE,xaT,List.sum_nil,xa8];lia,[],[],[true],most-3,_,.un,.un,by rw[xaA];rfl,by rw[xaA],rfl,by simp only[pw,xai,xbE,xaT,List.sum_nil,xa8,xa6];lia,rfl,(fun w hw=>by cases hw),xaL _ (by decide),xaK _ (by decide)⟩ ?_;rintro m env N ⟨ws,E,pd,room,x,s6,s7,rfl,rfl,rfl,hb,hr,hw,x0,x1⟩;have hlp:pd.length<=pw pd:=by
   clear hr hb
   induction pd with
   |nil=>exact xag _
   |cons p pd ih=>
    simp only[pw,xai,xaT,xae]at *;cases p<;>simp<;>lia
  refine⟨!pd.isEmpty,M++E++[pc pd],?_,?_⟩
  .unfold VR pc;z_go;rw[ziB]
   .z_go;rw[xdf,List.isEmpty_map]
   .have:∀ds:List D,(∀d∈ds,d.dep=0)->D.deps ds=0:=fun ds=>by
     induction ds with
     |nil=>intro _;rfl
     |cons d ds ih=>intro h;simp only[D.deps,h d xax,ih (fun e he=>h e (xat _ he))];rfl
    rw[this _ (fun d hd=>by
     rw[xdN,xaV]at hd;obtain⟨p,_,rfl⟩:=hd;rfl)]
    lia
  .cases pd with
   |nil=>
    rw[xac (by simp)];refine⟨ws,E++[pc []],_,_,_,_,_,hr,hw,?_,by lia,by rw[xaq]⟩
    cases ws with
    |nil=>cases hr
    |cons a b=>simp
   |cons p pd=>
    rw[xaa (by simp)];obtain⟨y,w,pd',room',t6,t7,E2,e,y0,y1,sw,st,hpw⟩:=zfG (M:=M++E) (num:=num) (most:=most) (s6:=s6) (s7:=s7) (ws:=ws) (p:=p) (pd:=pd) (room:=room) (by lia) (by rw[xae]at hlp;lia) x0 x1;rw[e];refine⟨pw pd'+room',by lia,ws++[w],E++E2,pd',room',y,t6,t7,by rw[xaq],by rw[xaq M E E2],rfl,by rw[xaf,xaC];lia,?_,fun u hu=>?_,y0,y1⟩
    .rw[xbW,show [w].reverse=[w] from rfl,xbN];show(stepK "tv" w (pd'.map yx)).bind (runK "tv" ws.reverse)=_;rw[st];exact hr
    .rw[xav,xaG]at hu;rcases hu with hu |rfl
     .exact hw u hu
     .exact sw
 obtain⟨ws,E,s3,s4,s5,s6,s7,h1,h2,h3,h4,lp⟩:=lp;refine⟨ws,E,h1,h2,h3,h4,?_⟩;have e0:M++[Cl.lst [.str "cond"]]=M++[pc [true]]:=rfl;unfold GF Pu;z_go;unfold Zr;z_go;unfold Zt;z_go;unfold Zu;z_go;unfold Zv;rw[IK,e0,show(most:Int)-3=((most-3:Nat):Int) by lia,lp];unfold Zw;z_go
def Wq (M:Mm)(d0:D)(L wt:Str)(ws:Lsx)(o:E3.OS):Prop:=(∃ks s4,o=some (.nx [.val d0,.val (.str L),.val (.str wt),.val (.ref M.length),s4],M++[kc ks])/\runK L ws.reverse []=some ks)\/(runK L ws.reverse []=none/\∃ks,o=some (.ex "NoExpr" 0,M++[kc ks]))
theorem take_snoc {ws:Lsx}{k:Nat}{x:Str}(h:ws[k]? =some x):ws.take (k+1)=ws.take k++[x]:=by
 rw[xdD,h];rfl
def zgc {d0:D}{L wt:Str}{ws:Lsx}(hs:∀x∈ws,sm x)(hl:ws.length<=900):Wq M d0 L wt ws (loopS 4 Ag (ws.map D.str).reverse [.val d0,.val (.str L),.val (.str wt),.val (.ref M.length),.un] (M++[kc []])):=by
 refine Hz (Wq M _ L wt ws) (fun k env N=>∃ks s4,env=[.val d0,.val (.str L),.val (.str wt),.val (.ref M.length),s4]/\N=M++[kc ks]/\runK L (ws.reverse.take k) []=some ks) ⟨[],.un,rfl,rfl,by rw[List.take_zero];rfl⟩ ?_ ?_
 .rintro k d env N hd ⟨ks,s4,rfl,rfl,hk⟩;rw[<-List.map_reverse,xau,xam]at hd;obtain⟨x,hx,rfl⟩:=hd;refine⟨by show 4<5;decide,?_⟩;have hlen:=zb5 hk;have hkl:(ws.reverse.take k).length<=ws.length:=by rw[xaw,xaZ];exact xdH _ _
  rw[xa6]at hlen;show Step _ _ (Ag [.val d0,.val (.str L),.val (.str wt),.val (.ref M.length),.val (.str x)] (M++[kc ks]));rcases zgE (M:=M) (d0:=d0) (L:=L) (wt:=wt) (ks:=ks) (hs x (by have:=xaS hx;simpa using this)) (by lia) with⟨ks',e1,e2⟩ |⟨e1,ks',e2⟩
  .rw[e2];refine⟨ks',_,rfl,rfl,?_⟩;rw[take_snoc hx,U6,hk];show(stepK L x ks).bind _=_;rw[e1];rfl
  .rw[e2];refine .inr ⟨?_,ks',rfl⟩;have:ws.reverse=ws.reverse.take k++x::ws.reverse.drop (k+1):=by
    have hlt:=(xao.mp hx).1;have hxe:=(xao.mp hx).2;rw[<-hxe, <-xbi hlt,xbo]
   rw[this,U6,hk];show(stepK L x ks).bind _=_;rw[e1];rfl
 .rintro env N ⟨ks,s4,rfl,rfl,hk⟩;rw[xaZ,xah, <-xaZ,List.take_length]at hk;exact .inl ⟨ks,s4,rfl,hk⟩
def Xd {L wt:Str}{ws:Lsx}(hs:∀x∈ws,sm x)(hl:ws.length<=900):(runK L ws.reverse []=some [wt]/\Ab [.tup (ws.map D.str),.str L,.str wt] M=some (.v .non,M++[kc [wt]]))\/(runK L ws.reverse []≠some [wt]/\∃ks,Ab [.tup (ws.map D.str),.str L,.str wt] M=some (.x "NoExpr" 0,M++[kc ks])):=by
 have lp:=zgc (M:=M) (d0:=.tup (ws.map D.str)) (L:=L) (wt:=wt) hs hl;unfold Ab Qc;z_go;have e0:loopS 4 Ag (ws.map D.str).reverse [.val (.tup (ws.map D.str)),.val (.str L),.val (.str wt),.val (.ref M.length),.un] (M++[.lst []])=loopS 4 Ag (ws.map D.str).reverse [.val (.tup (ws.map D.str)),.val (.str L),.val (.str wt),.val (.ref M.length),.un] (M++[kc []]):=rfl;rw[e0];rcases lp with⟨ks,s4,e,hk⟩ |⟨hk,ks,e⟩
 .rw[e];unfold kc;z_go;rw[zkZ]
  by_cases h:ks=[wt]
  .subst h;refine .inl ⟨hk,?_⟩;z_go
  .refine .inr ⟨fun z=>h (by rw[hk]at z;exact xaE z),ks,?_⟩;simp only[h];erw [Ue]
 .rw[e];refine .inr ⟨by rw[hk];exact nofun,ks,rfl⟩
def wj (L wt:Str)(ws:Lsx):Bool:=decide (runK L ws.reverse []=some [wt])
def zkS {ws:Lsx}:GD [.ref M.length,.tup (ws.map D.str)] (M++[.obj "Expr" []])=some (.v .non,M++[.obj "Expr" [("parts",.tup (ws.map D.str))]]):=by
 unfold GD J2;z_go;rw[X5 (k:=M.length) (fs:=[]) (M1:=M++[.obj "Expr" []]) (M2:=M++[.obj "Expr" []]) (x:=.tup (ws.map D.str)) ?_ ?_ KY (by decide),s_end]
 .rfl
 .z_go
 .z_go
def zhm {ws:Lsx}:GC [.ref M.length,.tup (ws.map D.str)] (M++[.obj "Cond" []])=some (.v .non,M++[.obj "Cond" [("parts",.tup (ws.map D.str))]]):=by
 unfold GC J1;z_go;rw[X5 (k:=M.length) (fs:=[]) (M1:=M++[.obj "Cond" []]) (M2:=M++[.obj "Cond" []]) (x:=.tup (ws.map D.str)) ?_ ?_ KY (by decide),s_end]
 .rfl
 .z_go
 .z_go
def G3 {L:Str}{ws:Lsx}(hs:∀x∈ws,sm x)(hl:ws.length<=900):∃E,Ac [.tup (ws.map D.str),.str L] M=some (.v (.bl (wj L "number" ws)),M++E):=by
 rcases Xd (M:=M) (L:=L) (wt:="number") hs hl with⟨z,e⟩ |⟨z,ks,e⟩
 .refine⟨[kc ["number"]]++[.obj "Expr" [("parts",.tup (ws.map D.str))]],?_⟩;have e1:BJ [.tup (ws.map D.str),.str L] M=some (.v (.ref (M++[kc ["number"]]).length),M++[kc ["number"]]++[.obj "Expr" [("parts",.tup (ws.map D.str))]]):=by
   unfold BJ Kg;erw [e];rw[Zj (ds:=[.tup (ws.map D.str)]) (M1:=M++[kc ["number"]]) (by z_go) zkS];rfl
  unfold Ac Kc wj;rw[show decide (runK L ws.reverse []=some [Str.ofString "number"])=true from xaD z];z_go;rw[JR (M1:=M++[kc ["number"]]++[.obj "Expr" [("parts",.tup (ws.map D.str))]]) (env':=[.val (.tup (ws.map D.str)),.val (.str L)])]
  .z_go;rw[xaq];rfl
  .unfold Wn;erw [e1]
 .refine⟨[kc ks],?_⟩;have e1:BJ [.tup (ws.map D.str),.str L] M=some (.x "NoExpr" 0,M++[kc ks]):=by
   unfold BJ Kg;z_go;rw[e];rfl
  unfold Ac Kc wj;rw[show decide (runK L ws.reverse []=some [Str.ofString "number"])=false from xas z];z_go;rw[JT (c:="NoExpr") (a:=0) (M1:=M++[kc ks]) (d:=.bl false) (M2:=M++[kc ks]) ?_ (by x_go) ?_]
  .z_go
  .unfold Wn;erw [e1]
  .unfold Ym;z_go
def Rv {ws:Lsx}(hs:∀x∈ws,sm x)(hl:ws.length<=900):∃E,DN [.tup (ws.map D.str)] M=some (.v (.bl (wj "tv" "truth" ws)),M++E):=by
 rcases Xd (M:=M) (L:="tv") (wt:="truth") hs hl with⟨z,e⟩ |⟨z,ks,e⟩
 .refine⟨[kc ["truth"]]++[.obj "Cond" [("parts",.tup (ws.map D.str))]],?_⟩;have e1:Bx [.tup (ws.map D.str)] M=some (.v (.ref (M++[kc ["truth"]]).length),M++[kc ["truth"]]++[.obj "Cond" [("parts",.tup (ws.map D.str))]]):=by
   unfold Bx Kf;erw [e];rw[Zj (ds:=[.tup (ws.map D.str)]) (M1:=M++[kc ["truth"]]) (by z_go) zhm];rfl
  unfold DN Ka wj;rw[show decide (runK "tv" ws.reverse []=some [Str.ofString "truth"])=true from xaD z];z_go;rw[JR (M1:=M++[kc ["truth"]]++[.obj "Cond" [("parts",.tup (ws.map D.str))]]) (env':=[.val (.tup (ws.map D.str))])]
  .z_go;rw[xaq];rfl
  .unfold Wm;erw [e1]
 .refine⟨[kc ks],?_⟩;have e1:Bx [.tup (ws.map D.str)] M=some (.x "NoExpr" 0,M++[kc ks]):=by
   unfold Bx Kf;z_go;rw[e];rfl
  unfold DN Ka wj;rw[show decide (runK "tv" ws.reverse []=some [Str.ofString "truth"])=false from xas z];z_go;rw[JT (c:="NoExpr") (a:=0) (M1:=M++[kc ks]) (d:=.bl false) (M2:=M++[kc ks]) ?_ (by x_go) ?_]
  .z_go
  .unfold Wm;erw [e1]
  .unfold Yl;z_go
def Xb {i j k:Int}{f g h:E}{env:E3.Env}(hf:f env M=some (.v (.int i),M))(hg:g env M=some (.v (.int j),M))(hh:h env M=some (.v (.int k),M)):lU .le .le f g h env M=some (.v (.bl (decide (i<=j)&&decide (j<=k))),M):=by
 unfold lU;simp only[bnd,hf,hg,hh,vw,gh,lO]
 by_cases h1:i<=j
 .simp only[h1,decide_true,xd3,xaR]
 .simp only[h1,decide_false,Bool.false_and]
def o_ (x:Str):Bool:=decide (x.length<=20)&&pq (cd x)
def vl (x:Str):Int:=O3 (cd x)
def QL {x:Str}(h:o_ x=true):intText? x=some (vl x)/\0<=vl x/\x.length<=20:=by
 unfold o_ at h;rw[xak,xaH]at h;obtain⟨h1,h2⟩:=h;obtain⟨n0,ad,_⟩:=KN h2;have hd:(cd x).head? ≠some 45:=fun z=>by
  cases hc:cd x with
  |nil=>exact n0 hc
  |cons c r=>
   rw[hc]at z ad;cases z;have:=ad 45 (xax ..);revert this
   decide
 refine⟨zes (by unfold sW;rw[xac hd];exact h2) (by lia),?_,h1⟩;unfold vl O3;rw[xac hd];lia
def zlP (x:Str)(hx:x.length<=10000):G4 [.str x] M=some (.v (.bl (o_ x)),M):=by
 unfold G4 Qf o_;erw [xaa (show x.length<=16777216 by lia)]
 by_cases h:x.length<=20
 .rw[xaa (show(x.length:Int)<=20 by lia)];z_go;rw[Rr x (by lia)];simp only[h];z_go
 .rw[xac (show ¬ (x.length:Int)<=20 by lia)];simp only[h];z_go
def nU (x:Str)(a b:Int):Bool:=o_ x&&(decide (a<=vl x)&&decide (vl x<=b))
def wZ (x:Str)(a b:Int)(hx:x.length<=10000):wu [.str x,.int a,.int b] M=some (.v (.bl (nU x a b)),M):=by
 unfold wu Qg nU;erw [zlP x hx];cases h:o_ x
 .z_go
 .obtain⟨h1,h2,h3⟩:=QL h;z_go;rw[Xb (i:=a) (j:=vl x) (k:=b)]
  .z_go
  .z_go
  .z_go;rw[xaa (show x.length<=640 by lia),h1];z_go
  .z_go
noncomputable def pX (c:Nat):Bool:=decide (97<=c)&&decide (c<=122)
def Yr (c:Nat):wz ⟨#[c]⟩ (Str.ofString "abcdefghijklmnopqrstuvwxyz")=pX c:=by
 unfold wz pX;rw[xdB,show(Str.ofString "abcdefghijklmnopqrstuvwxyz").cps.toList=(List.range 26).map (· + 97) by x_go,xaP];simp only[xaV,xbJ,xak,xaH];exact⟨fun⟨a,h,e⟩=>by lia,fun h=>⟨c-97,by lia,by lia⟩⟩
def xH (c:Nat):Bool:=pX c||pI c
def lJ (x:Str):Bool:=match cd x with
 | []=>false
 |c::r=>decide (r.length<12)&&(pX c&&(c::r).all xH)
def V6 (c:Nat):Q9 [.val (.str ⟨#[c]⟩)] M=some (.v (.bl (xH c)),M):=by
 unfold Q9 xH;z_go;rw[Yr];cases pX c
 .z_go;rw[Yq]
 .z_go
def Rx (x:Str)(hx:x.length<=10000):G7 [.str x] M=some (.v (.bl (lJ x)),M):=by
 unfold G7 Qk lJ;have hl:=gY x;have c1:lU .le .le (aj (.int 1)) (sN eO (au (ak 0) aq)) (aj (.int 12)) [.val (.str x)] M=some (.v (.bl (decide ((1:Int)<=x.length)&&decide ((x.length:Int)<=12))),M):=by
  refine Xb (by z_go) ?_ (by z_go);erw [xaa (show x.length<=16777216 by lia)]
 z_go;rw[c1]
 cases hc:cd x with
 |nil=>
  rw[hc]at hl;rw[show decide ((1:Int)<=x.length)=false from xas (by rw[hl];decide)];z_go
 |cons c r=>
  rw[hc,xae]at hl;rw[show decide ((1:Int)<=x.length)=true from xaD (by lia)]
  by_cases h:r.length<12
  .rw[show decide ((x.length:Int)<=12)=true from xaD (by lia)];z_go;rw[xaa (show x.length<=16777216 by lia),show x.cps.toList=cd x from rfl,hc];z_go;rw[Yr];simp only[h];cases pX c
   .z_go
   .z_go;rw[show x.cps.toList=cd x from rfl,hc,vq (fun c=>D.str ⟨#[c]⟩) (fun c=>D.bl (xH c)) (c::r) [] (fun c _=>V6 c) (by rw[xay];simp;lia)];z_go;rw[show(D.bl (xH c)::r.map fun c=>D.bl (xH c))=((c::r).map xH).map D.bl by rw[xa4];rfl,Dp];z_go;rw[show xH c::List.map xH r=(c::r).map xH from rfl,xdM];rfl
  .rw[show decide ((x.length:Int)<=12)=false from xas (by lia)];simp only[h];z_go
def il {n:Nat}{k:Int}(b:Bool)(h:(n:Int)=k ↔ b=true):decide ((n:Int)=k)=b:=by
 cases b
 .exact xas fun z=>by cases h.mp z
 .exact xaD (h.mpr rfl)
def xU:Lsx->Bool
 | [a,b]=>nU b 1 8&&nU a 0 (vl b-1)
 |_=>false
noncomputable def fX (x:Str):Bool:=decide (x="sum")||decide (x="count")||decide (x="most")||decide (x="least")
def n_:Lsx->Bool
 | [a,f]=>nU a 1 1000000000000&&fX f
 |_=>false
def xV:Lsx->Bool
 | [a,b,f]=>n_ [a,f]&&(nU b 1 (vl a)&&decide (vl a<=8*vl b))
 |_=>false
def K7:Lsx->Bool
 |a::r=>nU a 0 1000000000000&&wj "tvw" "number" r
 |_=>false
def QV {x:Str}{a b:Int}(h:nU x a b=true):intText? x=some (vl x)/\0<=vl x/\x.length<=20:=by
 unfold nU at h;rw[xak]at h;exact QL h.1
def zl1 (ws:Lsx)(hs:∀x∈ws,sm x)(hl:ws.length<=900):G_ [.tup (ws.map D.str)] M=some (.v (.bl (xU ws)),M):=by
 unfold G_ Qn
 match ws,hs,hl with
 | [],_,_=>rfl
 | [a],_,_=>rfl
 |a::b::c::r,_,_=>
  unfold xU;erw [xaa (by lia)]
 | [a,b],hs,_=>
  have ha:=hs a (by simp);have hb:=hs b (by simp);unfold xU;erw [xac (fun z=>z rfl)];rw[wZ b 1 8 (by have:=hb.1;lia)];cases h:nU b 1 8
  .z_go
  .obtain⟨h1,h2,h3⟩:=QV h;z_go;rw[xaa (show b.length<=640 by lia),h1];erw [wZ a 0 _ (by have:=ha.1;lia)]
def zjU {x:Str}:aF .isin (.str x) (.tup [.str "sum",.str "count",.str "most",.str "least"])=some (.bl (fX x)):=by
 have q:∀y:Str,D.eq (.str y) (.str x)=decide (x=y):=fun y=>by
  simp only[D.eq];rw[xaP]
  simp
  exact eq_comm
 unfold aF gh wO fX;simp only[D.flat,xbF,List.all_nil,xb8,xa8,xbn,List.any_nil,xdv,q,xaR];rw[xd4,xd4]
def Yi (ws:Lsx)(hs:∀x∈ws,sm x)(hl:ws.length<=900):Bw [.tup (ws.map D.str)] M=some (.v (.bl (n_ ws)),M):=by
 unfold Bw Qq
 match ws,hs,hl with
 | [],_,_=>rfl
 | [a],_,_=>rfl
 |a::b::c::r,_,_=>
  unfold n_;erw [xac (by lia)]
 | [a,b],hs,_=>
  have ha:=hs a (by simp);have hb:=hs b (by simp);unfold n_;z_go;rw[xaa (show((2:Nat):Int)=2 from rfl)];rw[wZ a 1 _ (by have:=ha.1;lia)];cases h:nU a 1 1000000000000
  .z_go
  .erw [zjU]
def zl0 (ws:Lsx)(hs:∀x∈ws,sm x)(hl:ws.length<=900):Hg [.tup (ws.map D.str)] M=some (.v (.bl (xV ws)),M):=by
 unfold Hg Qp
 match ws,hs,hl with
 | [],_,_=>rfl
 | [a],_,_=>rfl
 | [a,b],_,_=>rfl
 |a::b::c::d::r,_,_=>
  unfold xV;erw [xaa (by lia)]
 | [a,b,f],hs,_=>
  have ha:=hs a (by simp);have hb:=hs b (by simp);have hf:=hs f (by simp);unfold xV;z_go;rw[xac (fun z=>z rfl),show [D.str a,D.str f]=[a,f].map D.str from rfl,Yi [a,f] (fun x hx=>by simp at hx;rcases hx with rfl |rfl<;>assumption) (by simp)]
  cases h:n_ [a,f]
  .z_go
  .have h0:nU a 1 1000000000000=true:=by
    unfold n_ at h;rw[xak]at h;exact h.1
   obtain⟨h1,h2,h3⟩:=QV h0;z_go;rw[xaa (show a.length<=640 by lia),h1];z_go;rw[wZ b 1 _ (by have:=hb.1;lia)];cases h':nU b 1 (vl a)
   .z_go
   .obtain⟨k1,k2,k3⟩:=QV h';z_go;rw[xaa (show b.length<=640 by lia),k1];z_go
def Rw (ws:Lsx)(hs:∀x∈ws,sm x)(hl:ws.length<=900):∃E,G5 [.tup (ws.map D.str)] M=some (.v (.bl (K7 ws)),M++E):=by
 match ws,hs,hl with
 | [],_,_=>exact⟨[],by rw[xaA];rfl⟩
 |a::r,hs,hl=>
  have ha:=hs a (by simp);rw[xae]at hl;unfold G5 Qi K7;z_go;rw[xac (by lia),wZ a 0 _ (by have:=ha.1;lia)];cases h:nU a 0 1000000000000
  .refine⟨[],?_⟩;z_go
  .obtain⟨E,e⟩:=G3 (M:=M) (L:="tvw") (ws:=r) (fun x hx=>hs x (by simp[hx])) (by lia);refine⟨E,?_⟩;have es:EY (.tup (D.str a::r.map D.str)) (some 1) none=some (.tup (r.map D.str)):=by
    unfold EY;dsimp only;rw[Dq _ (by decide)];rw[xac (fun z=>by have:=z.1;revert this;unfold HT.fH;simp)];rfl
   erw [es,e]
def fO (w:Str)(ws:Lsx):Bool:=
 if w="keep" then wj "tv" "truth" ws else if w="turn" then wj "tv" "number" ws else if w="share" then xU ws else if w="slide" then xV ws
 else if w="fixed"\/w="gap" then n_ ws else if w="join" then K7 ws else ws.isEmpty
def zhI {x:Str}:aF .isin (.str x) (.tup [.str "fixed",.str "gap"])=some (.bl (decide (x="fixed"\/x="gap"))):=by
 have q:∀y:Str,D.eq (.str y) (.str x)=decide (x=y):=fun y=>by
  simp only[D.eq];rw[xaP]
  simp
  exact eq_comm
 unfold aF gh wO;simp only[D.flat,xbF,List.all_nil,xb8,xa8,xbn,List.any_nil,xdv,q,xaR];congr 2;rw[xaP]
 simp
theorem zg9 {ws:Lsx}:aF .eq (.tup (ws.map D.str)) (.tup [])=some (.bl ws.isEmpty):=by
 unfold aF gh yV;rw[xaa ⟨by simp[lQ,D.flat,D.dep,D.deps],by simp[D.dep,Jr]⟩];cases ws<;>rfl
def zkd (w:Str)(ws:Lsx)(hs:∀x∈ws,sm x)(hl:ws.length<=900):∃E,G9 [.str w,.tup (ws.map D.str)] M=some (.v (.bl (fO w ws)),M++E):=by
 unfold G9 Qm fO
 by_cases h1:w="keep"
 .obtain⟨E,e⟩:=Rv (M:=M) hs hl;refine⟨E,?_⟩;simp only[h1];erw [e]
 by_cases h2:w="turn"
 .obtain⟨E,e⟩:=G3 (M:=M) (L:="tv") hs hl;refine⟨E,?_⟩;rw[xac h1,xaa h2];erw [xac h1];rw[xaa h2,e];z_go
 by_cases h3:w="share"
 .refine⟨[],?_⟩;rw[xac h1,xac h2,xaa h3];erw [xac h1,xac h2];rw[xaa h3,zl1 ws hs hl];z_go
 by_cases h4:w="slide"
 .refine⟨[],?_⟩;rw[xac h1,xac h2,xac h3,xaa h4];erw [xac h1,xac h2,xac h3];rw[xaa h4,zl0 ws hs hl];z_go
 by_cases h5:w="fixed"\/w="gap"
 .refine⟨[],?_⟩;rw[xac h1,xac h2,xac h3,xac h4,xaa h5];erw [xac h1,xac h2,xac h3,xac h4,zhI];rw[xaa h5,Yi ws hs hl];z_go
 rw[xac h1,xac h2,xac h3,xac h4,xac h5];erw [xac h1,xac h2,xac h3,xac h4,zhI,xac h5]
 by_cases h6:w="join"
 .obtain⟨E,e⟩:=Rw (M:=M) ws hs hl;refine⟨E,?_⟩;rw[xaa h6,xaa h6,e];z_go
 .refine⟨[],?_⟩;rw[xac h6,xac h6];erw [zg9]
noncomputable def FT:Lsn:=[("in",0),("keep",1),("turn",1),("share",1),("pour",8),("fixed",1),("slide",1),("gap",1),("join",2),("out",1)]
def frm (x:Str):Option Nat:=(FT.find? fun p=>decide (p.1=x)).map (·.2)
theorem Lb {x:Str}:lH Fg x=(frm x).map (fun(n:Nat)=>D.int (n:Int)):=by
 rw[show Fg=FT.map fun p=>(p.1,D.int (p.2:Int)) from rfl];unfold lH frm;rw[List.find?_map];show Option.map _ (Option.map _ (FT.find? fun p=>decide (p.1=x)))=_;cases FT.find? fun p=>decide (p.1=x)<;>rfl
def zix {x:Str}{n:Nat}(h:frm x=some n):n<=8:=by
 unfold frm at h;rw[xam]at h;obtain⟨p,hp,rfl⟩:=h;have:=xbO hp;revert this;generalize p=q;revert q;unfold FT
 simp
noncomputable def tM (w nm:Str) (fr rs:Lsx):D:=.tup [.str w,.str nm,.tup (fr.map D.str),.tup (rs.map D.str)]
def g_row {w nm:Str}{r:Lsx}{f:Nat}(h:frm w=some f):BK [.lst ((w::nm::r).map D.str)] M=some (.v (tM w nm (r.take f) (r.drop f)),M):=by
 have c1:fW ((w::nm::r).map D.str) (some 2) (some (2+(f:Int)))=(r.take f).map D.str:=by
  rw[Gk _ (by decide) (by lia), <-xdx, <-xdy];congr 1;show List.take ((2+(f:Int)).toNat-2) r=_;congr 1;lia
 have c2:fW ((w::nm::r).map D.str) (some (2+(f:Int))) none=(r.drop f).map D.str:=by
  rw[Dq _ (by lia), <-xdx];congr 1;rw[show(2+(f:Int)).toNat=f+2 by lia];rfl
 unfold BK Qt tM;rw[xai,xai]at c1 c2;z_go;rw[Lb,h];erw [c1,c2]
noncomputable def Af (w:Str) (f n:Nat):Bool:=if w="pour" then decide (2<=n) else decide (n=f)
def Rt {w nm:Str}{fr rs:Lsx}{f:Nat}(h:frm w=some f):GX [tM w nm fr rs] M=some (.v (.bl (Af w f fr.length)),M):=by
 unfold GX Qd tM Af
 by_cases hp:w="pour"
 .rw[xaa hp];erw [xaa hp];congr 4;rw[xaP];simp only[xaH];lia
 .rw[xac hp];erw [xac hp];rw[Lb,h];z_go;congr 4;rw[xaP];simp only[xaH];lia
def lE:Lsx->Bool
 |w::nm::r=>match frm w with
  |some f=>Af w f (r.take f).length&&((nm::r.take f).all lJ&&fO w (r.drop f))
  |none=>false
 |_=>false
def zlG (x:Str)(hx:x.length<=10000):KH [.val (.str x)] M=some (.v (.bl (lJ x)),M):=by
 unfold KH;erw [Rx x hx]
def zlo (ws:Lsx)(hs:∀x∈ws,sm x)(hl:ws.length<=900):∃E,DP [.lst (ws.map D.str)] M=some (.v (.bl (lE ws)),M++E):=by
 match ws,hs,hl with
 | [],_,_=>exact⟨[],by rw[xaA];rfl⟩
 | [a],_,_=>exact⟨[],by rw[xaA];rfl⟩
 |w::nm::r,hs,hl=>
  rw[xae,xae]at hl;unfold lE;dsimp only
  cases hf:frm w with
  |none=>
   refine⟨[],?_⟩;unfold DP Kd;z_go;rw[xac (by lia),Lb,hf];z_go;simp only[xcq];z_go
  |some f=>
   dsimp only;have g1:=g_row (M:=M) (nm:=nm) (r:=r) hf;have g2:=Rt (M:=M) (nm:=nm) (fr:=r.take f) (rs:=r.drop f) hf;rw[xai,xai]at g1;have cm:rD (aj (.bl true)) KH [] (((nm::r.take f)).map D.str) [] M=some ([]++(nm::r.take f).map fun x=>D.bl (lJ x),M):=by
    refine vq D.str (fun x=>D.bl (lJ x)) (nm::r.take f) [] (fun x hx=>zlG x ?_) ?_
    .have:x∈w::nm::r:=by
      rcases xaz.mp hx with rfl |hx
      .simp
      .simp[xbd hx]
     have:=(hs x this).1;lia
    .rw[xay]
     simp
     lia
   obtain⟨E,e⟩:=zkd (M:=M) w (r.drop f) (fun x hx=>hs x (by simp[xbr hx])) (by rw[xaU];lia);unfold DP Kd;z_go;rw[xac (by lia),Lb,hf];z_go;simp only[xb2];erw [g1];rw[g2];cases Af w f (r.take f).length
   .refine⟨[],?_⟩;z_go
   .z_go;unfold tM;erw [xaa (by rw[xaw];lia)];rw[xai]at cm;rw[cm];z_go;rw[show(D.bl (lJ nm)::(r.take f).map fun x=>D.bl (lJ x))=((nm::r.take f).map lJ).map D.bl by rw[xa4];rfl,Dp];z_go;rw[show lJ nm::List.map lJ (r.take f)=(nm::r.take f).map lJ from rfl,xdM];rw[show(id ∘ lJ)=lJ from rfl];cases (nm::r.take f).all lJ
    .refine⟨[],?_⟩;z_go
    .refine⟨E,?_⟩;erw [e]
def fQ (t:List (Str×Str)):List (Key×D):=t.map fun p=>(.inr p.1,.str p.2)
noncomputable def lq (t:List (Str×Str)) (k:Str):Option Str:=(t.find? fun p=>decide (p.1=k)).map (·.2)
def Yu {a b:Str}:decide ((Sum.inr a:Key)=Sum.inr b)=decide (a=b):=by simp
theorem Fj {k:Str}:∀t:List (Str×Str),gH (fQ t) (.inr k)=(lq t k).map .str
 | []=>rfl
 |p::t=>by
  have ih:=Fj (k:=k) t;unfold gH fQ lq at *;rw[xai,xba,xba,Yu];cases decide (p.1=k)
  .exact ih
  .rfl
theorem zeG {k v:Str}{t:List (Str×Str)}(h:lq t k=none):nq (fQ t) (.inr k) (.str v)=fQ (t++[(k,v)]):=by
 have e1:((fQ t).any fun kv=>decide (kv.1=Sum.inr k))=false:=by
  unfold lq at h;rw[xcR,xcH]at h;unfold fQ;rw[List.any_map,xef];intro p hp;show ¬ decide (Sum.inr p.1=Sum.inr k)=true;rw[Yu];exact h p hp
 unfold nq;rw[e1,xac (by decide)];unfold fQ;rw[xaI];rfl
def gD (t:List (Str×Str))(nm:Str)(fr:Lsx):Bool:=(lq t nm).isNone&&fr.all fun x=> !decide ((lq t x).getD "out"="out")
def V3 {t:List (Str×Str)}{j:Nat}{N:Mm}(x:Str)(hN:N[j]? =some (.dct (fQ t))):KC [.val (.str x),.val (.ref j)] N=some (.v (.bl (!decide ((lq t x).getD "out"="out"))),N):=by
 unfold KC;z_go;rw[Kq (k:=j) (kvs:=fQ t) (kvs':=fQ t) (e:=.str x) (x:=.str "out") (key:=.inr x) (M1:=N) (M2:=N) (M3:=N) (by z_go) (by z_go) (by z_go) hN hN rfl,Fj]
 cases lq t x with
 |none=>
  simp only[xcp,Option.getD_none];z_go
 |some y=>
  z_go
theorem Ru {t:List (Str×Str)}{j:Nat}{N:Mm}{w nm:Str}{fr rs:Lsx}(hN:N[j]? =some (.dct (fQ t)))(hl:fr.length<=900):GZ [tM w nm fr rs,.ref j] N=some (.v (.bl (gD t nm fr)),N):=by
 have cm:rD (aj (.bl true)) KC [.val (.ref j)] (fr.map D.str) [] N=some ([]++fr.map fun x=>D.bl (!decide ((lq t x).getD "out"="out")),N):=
  vq D.str (fun x=>D.bl (!decide ((lq t x).getD "out"="out"))) fr [] (fun x _=>V3 x hN) (by rw[xay];simp;lia)
 unfold GZ Qe gD tM;z_go;rw[wW (k:=j) (kvs:=fQ t) (e:=.str nm) (key:=.inr nm) (M1:=N) (M2:=N) (by z_go) (by z_go) hN rfl,Fj]
 cases lq t nm with
 |some y=>
  simp only[xaR,xb2,Option.isNone_some];z_go
 |none=>
  simp only[xcp,xcq,Option.isNone_none];erw [cm];rw[show(fr.map fun x=>D.bl (!decide ((lq t x).getD "out"="out")))=(fr.map fun x=> !decide ((lq t x).getD "out"="out")).map D.bl by rw[xa4];rfl,Dp];z_go;rw[xdM];rfl
structure RW where
 w:Str
 nm:Str
 fr:Lsx
 rs:Lsx
def RW.D (r:RW):E3.D:=tM r.w r.nm r.fr r.rs
def fM (ws:Lsx):Option RW:=match ws with
 |w::nm::r=>if lE (w::nm::r)=true then some ⟨w,nm,r.take ((frm w).getD 0),r.drop ((frm w).getD 0)⟩ else none
 |_=>none
theorem U3 {ws:Lsx}(h:lE ws=false):fM ws=none:=by
 unfold fM
 split
 .rw[h,xac (by decide)]
 .rfl
theorem U4 {ws:Lsx}(h:lE ws=true):∃w nm r f,ws=w::nm::r/\frm w=some f/\fM ws=some ⟨w,nm,r.take f,r.drop f⟩:=by
 match ws,h with
 | [],h=>cases h
 | [_],h=>cases h
 |w::nm::r,h=>
  cases hf:frm w with
  |none=>
   unfold lE at h;dsimp only at h;rw[hf]at h;cases h
  |some f=>
   refine⟨w,nm,r,f,rfl,hf,?_⟩;show(if lE (w::nm::r)=true then some (RW.mk w nm (r.take ((frm w).getD 0)) (r.drop ((frm w).getD 0))) else none)=_
   rw[xaa h,hf];rfl
def g_:List (Lsx)->Nat->List (Str×Str)->List RW->List RW ⊕ (Str×Nat)
 | [],_,_,acc=>.inl acc
 |ws::rest,n,t,acc=>match fM ws with
  |none=>.inr ("NoText",n)
  |some r=>if gD t r.nm r.fr=true then g_ rest (n+1) (t++[(r.nm,r.w)]) (acc++[r]) else .inr ("NoName",n)
def Ln (l:Str)(ws:Lsx):Prop:=Txt.split l " "=ws/\l.length<=1000000/\(∀x∈ws,sm x)/\ws.length<=900
theorem zgJ {z l:Str}{ws:Lsx}{acc:List RW}{t:List (Str×Str)}{E:Mm}{n:Nat}{s5 s6:E3.Slot}(hL:Ln l ws)(hn:n<1000)(ha:acc.length<1000)(ht:t.length<1000):∃E',
  B_ [.val (.str z),.own (acc.map RW.D),.val (.ref M.length),.val (.int n),.val (.str l),s5,s6] (M++[.dct (fQ t)]++E)=match fM ws with
  |none=>some (.ex "NoText" ((n:Int)+1),M++[.dct (fQ t)]++E')
  |some r=>if gD t r.nm r.fr=true then some (.nx [.val (.str z),.own ((acc++[r]).map RW.D),.val (.ref M.length),.val (.int n),.val (.str l),.val (.lst (ws.map D.str)),.val r.D],M++[.dct (fQ (t++[(r.nm,r.w)]))]++E') else some (.ex "NoName" ((n:Int)+1),M++[.dct (fQ t)]++E'):=by
 obtain⟨h1,h2,h3,h4⟩:=hL;obtain⟨E2,e2⟩:=zlo (M:=M++[.dct (fQ t)]++E) ws h3 h4;have hN:∀E:Mm,(M++[Cl.dct (fQ t)]++E)[M.length]? =some (.dct (fQ t)):=fun E=>by
  rw[xaq,xaW (xag _),xb3];rfl
 refine⟨E++E2,?_⟩;unfold B_;z_go;rw[V7,h1,xaa ⟨by x_go,by rw[xay];lia⟩];z_go;rw[e2,xaq (M++[Cl.dct (fQ t)])];cases hb:lE ws
 .rw[U3 hb];erw [zb8 (by lia)]
 .obtain⟨w,nm,r,f,rfl,hf,hp⟩:=U4 hb;have g1:=g_row (M:=M++[.dct (fQ t)]++(E++E2)) (nm:=nm) (r:=r) hf;rw[xae,xae]at h4;have g2:=Ru (w:=w) (nm:=nm) (fr:=r.take f) (rs:=r.drop f) (hN (E++E2)) (by rw[xaw];lia);rw[hp];z_go;rw[xai,xai]at g1;rw[g1];z_go;rw[g2];cases hb2:gD t nm (r.take f)
  .erw [zb8 (by lia)]
  .have hg:lq t nm=none:=by
    unfold gD at hb2;rw[xak]at hb2;exact Option.isNone_iff_eq_none.mp hb2.1
   z_go;rw[Xp (k:=M.length) (kvs:=fQ t) (e:=.str nm) (x:=.str w) (key:=.inr nm) (M1:=M++[.dct (fQ t)]++(E++E2)) (M2:=M++[.dct (fQ t)]++(E++E2)) (M3:=M++[.dct (fQ t)]++(E++E2)) (by unfold tM;z_go) (by z_go) (by unfold tM;z_go) (hN _) rfl (by unfold fQ;rw[xah,xay];lia),zeG hg];erw [xaa (show acc.length<16777216 by lia)];rw[xaI,xaq M,xaq M,xcW _ _ (xag _),xb3];rfl
def WD (M:Mm)(z:Str)(q:List RW ⊕ (Str×Nat))(o:E3.OS):Prop:=match q with
 |.inl rows=>∃E s3 s4 s5 s6,o=some (.nx [.val (.str z),.own (rows.map RW.D),.val (.ref M.length),s3,s4,s5,s6],M++E)
 |.inr (c,n)=>∃E,o=some (.ex c ((n:Int)+1),M++E)
theorem zdw {z:Str}:∀(ls:List (Str×Lsx)) (n:Nat) (t:List (Str×Str)) (acc:List RW) (E:Mm) (s3 s4 s5 s6:E3.Slot),(∀p∈ls,Ln p.1 p.2)->n+ls.length<=1000->acc.length+ls.length<=1000->t.length+ls.length<=1000->
  WD M z (g_ (ls.map (·.2)) n t acc) (yw [3,4] B_ n (ls.map fun p=>D.str p.1) [.val (.str z),.own (acc.map RW.D),.val (.ref M.length),s3,s4,s5,s6] (M++[.dct (fQ t)]++E))
 | [],n,t,acc,E,s3,s4,s5,s6,_,_,_,_=>⟨[.dct (fQ t)]++E,s3,s4,s5,s6,by rw[<-xaq];rfl⟩
 |p::ls,n,t,acc,E,s3,s4,s5,s6,h,hn,ha,ht=>by
  rw[xae]at hn ha ht;obtain⟨E',e⟩:=zgJ (M:=M) (z:=z) (acc:=acc) (t:=t) (E:=E) (n:=n) (s5:=s5) (s6:=s6) (h p (xax ..)) (by lia) (by lia) (by lia);rw[xai,xai,yw];rw[show nu [3,4] [D.int (n:Int),.str p.1] [.val (.str z),.own (acc.map RW.D),.val (.ref M.length),s3,s4,s5,s6]=some [.val (.str z),.own (acc.map RW.D),.val (.ref M.length),.val (.int n),.val (.str p.1),s5,s6] from rfl];dsimp only;rw[e];unfold g_
  cases hp:fM p.2 with
  |none=>exact⟨[.dct (fQ t)]++E',by rw[<-xaq]⟩
  |some r=>
   dsimp only
   by_cases hb:gD t r.nm r.fr=true
   .rw[xaa hb,xaa hb];exact zdw ls (n+1) _ _ _ _ _ _ _ (fun q hq=>h q (xat _ hq)) (by lia) (by rw[xaf];simp;lia) (by rw[xaf];simp;lia)
   .rw[xac hb,xac hb];exact⟨[.dct (fQ t)]++E',by rw[<-xaq]⟩
def Em (M E:Mm):List RW ⊕ (Str×Nat)->Option (Res×Mm)
 |.inl rows=>some (.v (.lst (rows.map RW.D)),M++E)
 |.inr (c,n)=>some (.x c ((n:Int)+1),M++E)
theorem zj3 {z:Str}{ls:List (Str×Lsx)}(hz:Txt.split z "\n"=ls.map (·.1))(hl:z.length<=10000000)(h:∀p∈ls,Ln p.1 p.2)(hn:ls.length<=900):∃E,Ae [.str z] M=Em M E (g_ (ls.map (·.2)) 0 [] []):=by
 have lp:=zdw (M:=M) (z:=z) ls 0 [] [] [] .un .un .un .un h (by lia) (by rw[xa6];lia) (by rw[xa6];lia);rw[xaA]at lp;have en:Jc [3,4] (au (lZ tV (ak 0) (au (aj (.str "\n")) aq)) aq) B_ [.val (.str z),.own [],.val (.ref M.length),.un,.un,.un,.un] (M++[.dct []])=yw [3,4] B_ 0 (ls.map fun p=>D.str p.1) [.val (.str z),.own [],.val (.ref M.length),.un,.un,.un,.un] (M++[.dct []]):=by
  unfold Jc;z_go;rw[V7,hz,xaa ⟨by x_go,by rw[xay];lia⟩];z_go;rw[xa4];rfl
 unfold Ae Qs;erw [Xo];rw[en];revert lp;show WD M z _ (yw [3,4] B_ 0 (ls.map fun p=>D.str p.1) [.val (.str z),.own [],.val (.ref M.length),.un,.un,.un,.un] (M++[.dct []]))->_
 cases g_ (ls.map (·.2)) 0 [] [] with
 |inl rows=>
  rintro⟨E,s3,s4,s5,s6,e⟩;refine⟨E,?_⟩;rw[e];z_go;rfl
 |inr p=>
  obtain⟨c,n⟩:=p;rintro⟨E,e⟩;refine⟨E,?_⟩;rw[e];rfl
def jL {z:Str}{ws:Lsx}(hz:z.length<=16)(h:(ws.map (·.length)).sum+ws.length<=1048576):pO z [.lst (ws.map D.str)]=some (.str (Txt.join z ws)):=by
 unfold pO;simp only[E3.strs_map];rw[xaa ⟨hz,h⟩]
noncomputable def RW.ws (r:RW):Lsx:=r.w::r.nm::(r.fr++r.rs)
theorem Y_ {ds:List D}:R7 M (.tup ds)=some (.v (.lst ds),M):=rfl
def zgT {r:RW}(h:(r.ws.map (·.length)).sum+r.ws.length<=1048576)(h1:r.ws.length<=900):GP [r.D] M=some (.v (.str (Txt.join " " r.ws)),M):=by
 have hj:=jL (z:=Str.ofString " ") (by x_go) h;unfold RW.ws at h1 hj ⊢;rw[xae,xae,xaf]at h1;unfold GP PL RW.D tM;erw [Y_,xaa (by lia),Y_,xaa (by lia)];rw[show(D.str r.w::D.str r.nm::(r.fr.map D.str++r.rs.map D.str))=(r.w::r.nm::(r.fr++r.rs)).map D.str by simp,hj];z_go
def RW.sh (r:RW):Prop:=(r.ws.map (·.length)).sum+r.ws.length<=20000/\r.ws.length<=900
def txt (rs:List RW):Str:=Txt.join "\n" (rs.map fun r=>Txt.join " " r.ws)
def zgX {r:RW}:r.D.dep<=3:=by
 unfold RW.D tM;simp only[D.dep,D.deps,Jr];lia
theorem RV {c B:Nat}:∀(ps:List (Lnx)),(∀p∈ps,p.length<=B)->(jn c ps).length<=ps.length*(B+1)
 | [],_=>by simp[jn]
 | [p],h=>by have:=h p (by simp);simp[jn];lia
 |p::q::r,h=>by
  have:=RV (c:=c) (q::r) fun x hx=>h x (xat _ hx);have hp:=h p (by simp);rw[jn,xaf,xae,xae,xea];lia
theorem K8 {c d:Nat}:∀(ps:List (Lnx)),d∈jn c ps->d=c\/∃p∈ps,d∈p
 | [],h=>by cases h
 | [p],h=>.inr ⟨p,by simp,h⟩
 |p::q::r,h=>by
  rw[jn,xav,xaz]at h;rcases h with h |rfl |h
  .exact .inr ⟨p,by simp,h⟩
  .exact .inl rfl
  .rcases K8 (q::r) h with h |⟨x,hx,h⟩
   .exact .inl h
   .exact .inr ⟨x,xat _ hx,h⟩
def yU:Str.ofString " "=⟨#[32]⟩:=by x_go
def Z8:Str.ofString "\n"=⟨#[10]⟩:=by x_go
def zeL {ws:Lsx}{B:Nat}(h:∀x∈ws,x.length<=B):(ws.map (·.length)).sum<=ws.length*B:=by
 induction ws with
 |nil=>simp
 |cons w ws ih=>
  have:=h w (by simp);have:=ih fun x hx=>h x (xat _ hx);rw[xai,xaT,xae,xea];lia
def wd (x:Str):Prop:=x.length<=22/\∀c∈cd x,c<4294967296/\c≠10/\c≠32
theorem zkk {ws:Lsx}(h:∀x∈ws,wd x)(hn:ws≠ [])(hl:ws.length<=48):Ln (Txt.join " " ws) ws/\10∉cd (Txt.join " " ws)/\(Txt.join " " ws).length<=1104:=by
 have hj:=DR yU ws;have hb:(Txt.join " " ws).length<=1104:=by
  rw[gY,hj];refine xaN (RV (B:=22) _ fun p hp=>?_) ?_
  .obtain⟨z,hz,rfl⟩:=xaV.mp hp;rw[<-gY];exact(h z hz).1
  .rw[xah];lia
 refine⟨⟨?_,by lia,fun x hx=>⟨by have:=(h x hx).1;lia,fun c hc=>((h x hx).2 c hc).1⟩,by lia⟩,?_,hb⟩
 .rw[yU];refine Oh hn (fun y hy z=>((h y hy).2 32 z).2.2 rfl) ?_;rw[<-yU,hj]
 .rw[hj];intro z;rcases K8 _ z with z |⟨p,hp,z⟩
  .exact absurd z (by decide)
  .obtain⟨y,hy,rfl⟩:=xaV.mp hp;exact((h y hy).2 10 z).2.1 rfl
def RW.wf (r:RW):Prop:=(∀x∈r.ws,wd x)/\r.ws.length<=48
noncomputable def jj (r:RW):Str×Str:=(r.nm,r.w)
def RWS (rs:List RW):Prop:=∀(as:List RW) (r:RW) (bs:List RW),rs=as++r::bs->fM r.ws=some r/\gD (as.map jj) r.nm r.fr=true
theorem ziT:∀(bs as:List RW) (n:Nat),RWS (as++bs)->g_ (bs.map RW.ws) n (as.map jj) as=.inl (as++bs)
 | [],as,n,_=>by rw[xaA];rfl
 |r::bs,as,n,h=>by
  obtain⟨h1,h2⟩:=h as r bs rfl;rw[xai,g_,h1];dsimp only;rw[xaa h2,show as.map jj++[(r.nm,r.w)]=(as++[r]).map jj by rw[xaI];rfl];rw[ziT bs (as++[r]) (n+1) (by rw[xaq];exact h),xaq];rfl
def zgm {rs:List RW}(h:RWS rs):g_ (rs.map RW.ws) 0 [] []=.inl rs:=ziT rs [] 0 h
def RWS.add {rs:List RW}{r:RW}(h:RWS rs)(h1:fM r.ws=some r)(h2:gD (rs.map jj) r.nm r.fr=true):RWS (rs++[r]):=fun as q bs e=>by
 rcases List.eq_nil_or_concat bs with rfl |⟨cs,x,rfl⟩
 .obtain⟨e1,e2⟩:=List.append_inj' e rfl;cases e2;rw[<-e1];exact⟨h1,h2⟩
 .rw[List.concat_eq_append, <-xbX, <-xaq]at e;obtain⟨e,_⟩:=List.append_inj' e rfl;exact h as q cs e
def sY {n:Int}(h0:0<=n)(h1:n<10000000000000):n.natAbs.log2<1920:=R9 (by lia)
theorem strs_map:∀l:Lsx,yJ (l.map .str)=some l
 | []=>rfl
 |a::l=>by simp only[xai,yJ,strs_map l];rfl
def Zg:∀c∈cd "abcdefghijklmnopqrstuvwxyz",pX c=true:=by x_go
theorem zaR:∀cs:Lnx,Str.join "" (cs.map fun c=>(⟨#[c]⟩:Str))=(⟨cs.toArray⟩:Str)
 | []=>rfl
 | [c]=>rfl
 |c::d::r=>by
  have ih:=zaR (d::r);have e0:(Str.ofString "").cps= #[]:=by x_go
  show(⟨#[c]⟩:Str)++Str.ofString ""++Str.join "" ((d::r).map fun c=>(⟨#[c]⟩:Str))=_;rw[ih];have e:((⟨#[c]⟩:Str)++Str.ofString ""++(⟨(d::r).toArray⟩:Str)).cps=(c::d::r).toArray:=by
   rw[Str.cps_append,Str.cps_append,e0]
   simp
  exact congrArg Str.mk e
def zcv (cs:Lnx):Txt.join "" (cs.map fun c=>(⟨#[c]⟩:Str))=(⟨cs.toArray⟩:Str):=by
 show Builtin.Str.glued "" _=_;rw[StrLaws.glued_eq_join];exact zaR cs
def zc1 (cs:Lnx):((cs.map fun c=>(⟨#[c]⟩:Str)).map (·.length)).sum=cs.length:=by
 induction cs with
 |nil=>rfl
 |cons c r ih=>simp only[xai,xaT,ih,xae];rw[show(⟨#[c]⟩:Str).length=1 from rfl];lia
theorem Jo {x:Str}{j:Int}(h:0<=j/\j<=x.length):cd (Txt.slice x none (some j))=(cd x).take j.toNat:=by
 have:=PyProof.Rows.slice_closes_to (x:=x) (j:=j) ⟨h.1,by show j<=((cd x).length:Int);rw[<-gY];exact h.2⟩;rw[eq_of_beq this];show List.take (j-0).toNat (List.drop (0:Int).toNat (cd x))=_;rw[Int.sub_zero];rfl
def Vf {x:Str}{j:Int}(h:0<=j/\j<=x.length):cd (Txt.slice x (some j) none)=(cd x).drop j.toNat:=by
 have:=xdd (x:=x) (i:=j) ⟨h.1,by show j<=((cd x).length:Int);rw[<-gY];exact h.2⟩;rw[eq_of_beq this];show List.take (((cd x).length:Int)-j).toNat (List.drop j.toNat (cd x))=_;rw[xbt];rw[xaU];lia
def Ra {i x:Int}(i0:0<=i)(i1:i<=10):∃c:Nat,pX c=true/\∀M:Mm,Ky [.val (.int i),.val (.int x)] M=some (.v (.str ⟨#[c]⟩),M):=by
 have p0:=xaL (x/(3+7*i)) (show(26:Int)≠0 by decide);have p1:=xaK (x/(3+7*i)) (show(0:Int)<26 by decide);generalize ep:x/(3+7*i)%26=y at p0 p1;have hl:(cd "abcdefghijklmnopqrstuvwxyz").length=26:=by x_go
 have hx:=xaj (show y.toNat<(cd "abcdefghijklmnopqrstuvwxyz").length by lia);have ha:=i_ hx;rw[xbk p0]at ha;refine⟨(cd "abcdefghijklmnopqrstuvwxyz")[y.toNat]'(by lia),Zg _ (xbz _),fun M=>?_⟩;unfold Ky;erw [xaa ⟨by lia,by lia⟩];rw[ep,xaa (by x_go),show(Str.ofString "abcdefghijklmnopqrstuvwxyz").cps.toList=cd "abcdefghijklmnopqrstuvwxyz" from rfl,ha];z_go
theorem zgG {x k:Int}(hk:0<=k/\k<=1000):∃(nm:Str) (as bs:Lnx),cd nm=as++cd (eF k)++bs/\as≠ []/\as.length+bs.length<=10/\(∀c∈as++bs,pX c=true)/\∀M:Mm,GQ [.int x,.int k] M=some (.v (.str nm),M):=by
 have m0:=xaL x (show(10:Int)≠0 by decide);have m1:=xaK x (show(0:Int)<10 by decide);have hF:∃F:Nat->Nat,(∀i,i<=10->pX (F i)=true)/\∀(M:Mm) (i:Nat),i<=10->Ky [.val (.int (0+i)),.val (.int x)] M=some (.v (.str ⟨#[F i]⟩),M):=by
  refine⟨fun i=>if h:i<=10 then(Ra (i:=(0:Int)+i) (x:=x) (by lia) (by lia)).choose else 0,fun i hi=>?_,fun M i hi=>?_⟩
  .simp only[hi,dif_pos];exact(Ra (i:=(0:Int)+i) (x:=x) (by lia) (by lia)).choose_spec.1
  .simp only[hi,dif_pos];exact(Ra (i:=(0:Int)+i) (x:=x) (by lia) (by lia)).choose_spec.2 M
 obtain⟨F,hLt,hF⟩:=hF;have hn:(1+x%10).toNat<=10:=by lia
 generalize hw:(⟨((List.range (1+x%10).toNat).map F).toArray⟩:Str)=word;have hwl:word.length=(1+x%10).toNat:=by rw[<-hw];show(((List.range (1+x%10).toNat).map F).toArray).size=_;simp
 have q0:=xaL (x/11) (show(word.length:Int)≠0 by lia);have q1:=xaK (x/11) (show(0:Int)<(word.length:Int) by lia);have P:0<=1+x/11%(word.length:Int)/\1+x/11%(word.length:Int)<=(word.length:Int):=⟨by clear m0 m1 hk hn hwl;lia,by clear m0 m1 hk hn hwl;lia⟩;have B:1<=word.length/\word.length<=10:=⟨by clear q0 q1 P;lia,by clear q0 q1 P;lia⟩;clear m0 m1;have B6:word.length<=16777216:=xaN B.2 (by decide);have l1:(Txt.slice word none (some (1+x/11%(word.length:Int)))).length<=10:=by
  rw[gY,Jo P,xaw, <-gY];exact xaN (xdH _ _) B.2
 have l2:(Txt.slice word (some (1+x/11%(word.length:Int))) none).length<=10:=by
  rw[gY,Vf P,xaU, <-gY];exact xaN (Nat.sub_le _ _) B.2
 obtain⟨wl,_⟩:=QZ (i:=k) hk.1 (by lia);have hcw:∀c∈cd word,pX c=true:=fun c hc=>by
  rw[<-hw]at hc;obtain⟨i,hi,rfl⟩:=xaV.mp (show c∈(List.range (1+x%10).toNat).map F by simpa [cd] using hc);exact hLt i (by rw[xbJ]at hi;lia)
 have hlw:(cd word).length=(1+x%10).toNat:=by rw[<-gY];exact hwl
 refine⟨Txt.slice word none (some (1+x/11%(word.length:Int)))++eF k++Txt.slice word (some (1+x/11%(word.length:Int))) none,(cd word).take (1+x/11%(word.length:Int)).toNat,(cd word).drop (1+x/11%(word.length:Int)).toNat,?_,?_,?_,?_,fun M=>?_⟩
 .rw[wR,wR,Jo P,Vf P]
 .intro z;have:=congrArg List.length z;rw[xaw,xa6]at this;lia
 .rw[xaw,xaU];lia
 .rw[xbo];exact hcw
 unfold GQ PN;erw [Cz (by lia),vq (fun(i:Nat)=>D.int (0+i)) (fun(i:Nat)=>D.str ⟨#[F i]⟩) (List.range (1+x%10).toNat) [] (fun i hi=>hF M i (by rw[xbJ]at hi;lia)) (by rw[xay,xca];simp;lia)];have hj:pO "" [.lst ((List.range (1+x%10).toNat).map fun(i:Nat)=>D.str ⟨#[F i]⟩)]=some (.str word):=by
  rw[show((List.range (1+x%10).toNat).map fun(i:Nat)=>D.str ⟨#[F i]⟩)=(((List.range (1+x%10).toNat).map F).map fun c=>(⟨#[c]⟩:Str)).map .str by rw[xa4,xa4];rfl];simp only[pO,strs_map,zc1,zcv,xah,xca];rw[xaa ⟨by x_go,by lia⟩,hw]
 rw[hj];erw [xaa B6,xaa (show(0:Int)<(word.length:Int) from Int.ofNat_lt.mpr B.1),xaa B6,xaa (sY hk.1 (by lia))];have wl':(Str.ofString (toString k)).length<=22:=wl;rw[xaa (by lia)];erw [xaa B6,xaa (by rw[xbG];lia)];rfl
def zeV {k:Int}(h0:0<=k):∀c∈cd (eF k),48<=c/\c<=57:=fun c hc=>by
 unfold cd at hc;rw[yI h0]at hc;exact Dr k.toNat c hc
def Zh {c:Nat}(h:pX c=true):97<=c/\c<=122:=by
 unfold pX at h
 simpa using h
def Z9 {nm:Str}{as bs:Lnx}{k:Int}(e:cd nm=as++cd (eF k)++bs)(ha:as≠ [])(hl:as.length+bs.length<=10)(hc:∀c∈as++bs,pX c=true)(h0:0<=k)(h1:k<100):lJ nm=true/\wd nm/\(cd nm).filter (fun c=>decide (c<=57))=cd (eF k):=by
 have hd:=zeV h0;have hs:(cd (eF k)).length<=2:=by
  unfold cd;rw[yI h0];exact Gs (k:=2) (by decide) (by rw[show(10:Nat)^2=100 by decide];lia)
 have hm:∀c∈cd nm,pX c=true\/(48<=c/\c<=57):=fun c h=>by
  rw[e,xav,xav]at h;rcases h with(h |h) |h
  .exact .inl (hc c (xav.mpr (.inl h)))
  .exact .inr (hd c h)
  .exact .inl (hc c (xav.mpr (.inr h)))
 have hn:(cd nm).length<=12:=by rw[e,xaf,xaf];lia
 refine⟨?_,⟨by rw[gY];lia,fun c h=>?_⟩,?_⟩
 .obtain⟨a,as,rfl⟩:=xdz ha;have ea:cd nm=a::(as++cd (eF k)++bs):=by rw[e];rfl
  unfold lJ;rw[ea]at hn hm ⊢;rw[xae]at hn;simp only[xak,xaH];refine⟨by lia,hc a (by simp),xaX.mpr fun c h=>?_⟩;unfold xH;rcases hm c h with z |z
  .rw[z,Bool.true_or]
  .rw[show pI c=true by unfold pI;simp;lia,xdL]
 .rcases hm c h with z |z
  .have:=Zh z;lia
  .lia
 .have hf:∀l:Lnx,(∀c∈l,pX c=true)->l.filter (fun c=>decide (c<=57))=[]:=fun l h=>by
   rw[List.filter_eq_nil_iff];intro c hc';have:=Zh (h c hc')
   simp
   lia
  rw[e,xee,xee,hf as fun c h=>hc c (xav.mpr (.inl h)),hf bs fun c h=>hc c (xav.mpr (.inr h)),xaA,xbq,List.filter_eq_self];intro c h;have:=hd c h
  simp
  lia
def zeX {i j:Nat}(hi:i<1000)(hj:j<1000)(h:cd (eF (i:Int))=cd (eF (j:Int))):i=j:=by
 have e:eF (i:Int)=eF (j:Int):=by
  generalize eF (i:Int)=x at h;generalize eF (j:Int)=y at h;obtain⟨⟨x⟩⟩:=x;obtain⟨⟨y⟩⟩:=y;exact congrArg (fun l=>(⟨⟨l⟩⟩:Str)) h
 have b:∀n:Nat,n<1000->((n:Int).natAbs<10^600):=fun n hn=>xar (show(n:Int).natAbs<10^3 by rw[Int.natAbs_natCast];exact hn) (xcy (by decide) (by decide));have h1:=RB (b i hi);rw[e,RB (b j hj)]at h1;have:=xaE h1;lia
def zis:LG "tv":=⟨by x_go,fun c hc=>by revert c;decide +kernel⟩
def ze1:LG "tvw":=⟨by x_go,fun c hc=>by revert c;decide +kernel⟩
def yH {a:Int}(h0:0<=a)(h1:a<=1000000000000):o_ (eF a)=true/\vl (eF a)=a/\wd (eF a):=by
 have hl:(dg a.toNat).length<=13:=Gs (by decide) (by rw[show(10:Nat)^13=10000000000000 by decide];lia);have e:cd (eF a)=dg a.toNat:=yI h0;have hl2:(eF a).length<=13:=by rw[gY,e];exact hl
 have c:o_ (eF a)=true:=by
  unfold o_;rw[xaD (show(eF a).length<=20 by lia),e,Rh];rfl
 refine⟨c,?_,by lia,fun x hx=>?_⟩
 .have h:=(QL c).1;rw[RB (xar (show a.natAbs<10^13 by rw[show(10:Nat)^13=10000000000000 by decide];lia) (xcy (by decide) (by decide)))]at h;exact(xaE h).symm
 .have:=zeV h0 x hx;lia
theorem Gn {a lo hi:Int}(h0:0<=a)(h1:a<=1000000000000)(h2:lo<=a)(h3:a<=hi):nU (eF a) lo hi=true:=by
 obtain⟨c,v,_⟩:=yH h0 h1;unfold nU;rw[c,v,xaD h2,xaD h3];rfl
def O4 (x:Str):Bool:=decide (x.length<=22)&&(cd x).all fun c=>decide (c<4294967296)&&(!decide (c=10) && !decide (c=32))
def O5 {x:Str}(h:O4 x=true):wd x:=by
 unfold O4 at h;rw[xak,xaH,xaX]at h;refine⟨h.1,fun c hc=>?_⟩;have:=h.2 c hc;simp only[xak,xaH,xcs,xdQ]at this;exact this
def zle:NT.all (fun p=>O4 p.1)=true:=by x_go
def zlk:FT.all (fun p=>O4 p.1)=true:=by x_go
def zh2 {x:Str}{n:Nat}(h:frm x=some n):wd x:=by
 unfold frm at h;rw[xam]at h;obtain⟨p,hp,rfl⟩:=h;have h1:=xde hp;rw[<-xbm h1];exact O5 (xaX.mp zlk _ (xbO hp))
def zkg {x L:Str}(h:lf x L=true):wd x:=by
 unfold lf at h;rw[xb6,xak]at h;rcases h with h |⟨h,_⟩
 .unfold u6 at h;rw[xak,xaH]at h;obtain⟨g,hl⟩:=h;unfold good at g;rw[xak]at g;obtain⟨_,ad,_⟩:=KN g.2;have hd:∀c∈sW (cd x),48<=c/\c<=57:=ad;unfold sW at hl hd;split at hd
  .rename_i h45;rw[xaa h45]at hl
   cases e:cd x with
   |nil=>rw[e]at h45;cases h45
   |cons c r=>
    rw[e]at h45 hl hd;cases h45;rw[List.tail_cons]at hl hd;refine⟨by rw[gY,e,xae];lia,fun c hc=>?_⟩;rw[e,xaz]at hc;rcases hc with rfl |hc
    .lia
    .have:=hd c hc;lia
  .rename_i h45;rw[xac h45]at hl;exact⟨by rw[gY];lia,fun c hc=>by have:=hd c hc;lia⟩
 .unfold tvw at h;simp only[xb6,xaH]at h;rcases h with(rfl |rfl) |rfl<;>exact O5 (by x_go)
theorem zeQ {L:Str}:∀{ws ks:Lsx} {k:Lsx},runK L ws ks=some k->∀x∈ws,wd x
 | [],_,_,_,x,hx=>by cases hx
 |y::ws,ks,k,h,x,hx=>by
  rw[runK]at h
  cases hs:stepK L y ks with
  |none=>rw[hs]at h;cases h
  |some k2=>
   rw[hs]at h;rcases xaz.mp hx with rfl |hx
   .unfold stepK at hs;split at hs
    .rename_i q hq;exact O5 (xaX.mp zle _ (Z7 hq))
    .split at hs
     .rename_i hl;exact zkg hl
     .cases hs
   .exact zeQ h x hx
def U7 {L:Str}{ws k:Lsx}(h:runK L ws.reverse []=some k):∀x∈ws,wd x:=fun x hx=>zeQ h x (xdN.mpr hx)
variable {M:Mm}
structure RK (ab:Lsx)(r:RW):Prop where
 fm:frm r.w=some r.fr.length\/(r.w="pour"/\2<=r.fr.length/\r.fr.length<=8/\r.rs=[])
 fr:∀f∈r.fr,f∈ab
 re:fO r.w r.rs=true
 wd:∀x∈r.rs,wd x
 le:r.rs.length<=36
def Wh {a b:Str}(ha:wd a)(hb:wd b):∀x∈ [a,b],wd x:=fun x hx=>by
 rcases xaz.mp hx with rfl |hx
 .exact ha
 .rw[xaG]at hx;rw[hx];exact hb
def wd3 {a b c:Str}(ha:wd a)(hb:wd b)(hc:wd c):∀x∈ [a,b,c],wd x:=fun x hx=>by
 rcases xaz.mp hx with rfl |hx
 .exact ha
 .exact Wh hb hc x hx
def tu {f:Str}{ab:Lsx}(h:f∈ab):∀g∈ [f],g∈ab:=fun g hg=>by rw[xaG]at hg;rw[hg];exact h
def Wa {f g:Str}{ab:Lsx}(h:f∈ab)(h':g∈ab):∀x∈ [f,g],x∈ab:=fun x hx=>by
 rcases xaz.mp hx with rfl |hx
 .exact h
 .exact tu h' x hx
def Ma {p:Str->Prop}:∀x∈([]:Lsx),p x:=fun x hx=>by cases hx
def X7 {x:Str}(h:fX x=true):wd x:=by
 unfold fX at h;simp only[xb6,xaH]at h;rcases h with((rfl |rfl) |rfl) |rfl<;>exact O5 (by x_go)
section
variable {ab:Lsx}{nm f g fold:Str}{ws:Lsx}{a b:Int}
def zjg:RK ab ⟨"in",nm,[],[]⟩:=⟨.inl (by x_go:frm "in"=some 0),Ma,(by x_go:fO "in" []=true),Ma,xbP _⟩
def zfb (h:f∈ab):RK ab ⟨"out",nm,[f],[]⟩:=⟨.inl (by x_go:frm "out"=some 1),tu h,(by x_go:fO "out" []=true),Ma,xbP _⟩
def zjW {ws:Lsx}:fO "keep" ws=wj "tv" "truth" ws:=by unfold fO;rw[xaa rfl]
def zkm {ws:Lsx}:fO "turn" ws=wj "tv" "number" ws:=by unfold fO;rw[xac (by x_go),xaa rfl]
def zkr {ws:Lsx}:fO "share" ws=xU ws:=by unfold fO;rw[xac (by x_go),xac (by x_go),xaa rfl]
def zkW {ws:Lsx}:fO "slide" ws=xV ws:=by unfold fO;rw[xac (by x_go),xac (by x_go),xac (by x_go),xaa rfl]
def zkF {w:Str}{ws:Lsx}(h:w="fixed"\/w="gap"):fO w ws=n_ ws:=by
 unfold fO;rcases h with rfl |rfl<;>rw[xac (by x_go),xac (by x_go),xac (by x_go),xac (by x_go),xaa (by x_go)]
def zll {ws:Lsx}:fO "join" ws=K7 ws:=by unfold fO;rw[xac (by x_go),xac (by x_go),xac (by x_go),xac (by x_go),xac (by x_go),xaa rfl]
def zkn:fO "pour" []=true:=by x_go
def zdP (h:f∈ab)(hr:runK "tv" ws.reverse []=some [Str.ofString "truth"])(hl:ws.length<=35):RK ab ⟨"keep",nm,[f],ws⟩:=⟨.inl (by x_go:frm "keep"=some 1),tu h,by show fO "keep" ws=true;rw[zjW];exact xaD hr,U7 hr,by show ws.length<=36;lia⟩
def zdq (h:f∈ab)(hr:runK "tv" ws.reverse []=some [Str.ofString "number"])(hl:ws.length<=35):RK ab ⟨"turn",nm,[f],ws⟩:=⟨.inl (by x_go:frm "turn"=some 1),tu h,by show fO "turn" ws=true;rw[zkm];exact xaD hr,U7 hr,by show ws.length<=36;lia⟩
theorem zcg (h:f∈ab)(h0:0<=a)(h1:a<b)(h2:b<=8):RK ab ⟨"share",nm,[f],[eF a,eF b]⟩:=by
 refine⟨.inl (by x_go:frm "share"=some 1),tu h,?_,Wh (yH h0 (by lia)).2.2 (yH (by lia) (by lia)).2.2,by show 2<=36;decide⟩;show fO "share" [eF a,eF b]=true;rw[zkr];show(nU (eF b) 1 8&&nU (eF a) 0 (vl (eF b)-1))=true;rw[Gn (by lia) (by lia) (by lia) h2,(yH (a:=b) (by lia) (by lia)).2.1,Gn h0 (by lia) h0 (by lia)];rfl
theorem ze7 (h0:1<=a)(h1:a<=1000000000000)(hf:fX fold=true):n_ [eF a,fold]=true:=by
 show(nU (eF a) 1 1000000000000&&fX fold)=true;rw[Gn (by lia) h1 h0 h1,hf];rfl
def U0 {w:Str}(hw:w="fixed"\/w="gap")(h:f∈ab)(h0:1<=a)(h1:a<=1000000000000)(hf:fX fold=true):RK ab ⟨w,nm,[f],[eF a,fold]⟩:=by
 refine⟨.inl ?_,tu h,?_,Wh (yH (by lia) h1).2.2 (X7 hf),by show 2<=36;decide⟩
 .rcases hw with rfl |rfl
  .exact(by x_go:frm "fixed"=some 1)
  .exact(by x_go:frm "gap"=some 1)
 .show fO w [eF a,fold]=true;rw[zkF hw];exact ze7 h0 h1 hf
theorem zb3 (h:f∈ab)(h0:1<=b)(h1:b<=a)(h2:a<=8*b)(h3:a<=1000000000000)(hf:fX fold=true):RK ab ⟨"slide",nm,[f],[eF a,eF b,fold]⟩:=by
 refine⟨.inl (by x_go:frm "slide"=some 1),tu h,?_,wd3 (yH (by lia) h3).2.2 (yH (by lia) (by lia)).2.2 (X7 hf),by show 3<=36;decide⟩;show fO "slide" [eF a,eF b,fold]=true;rw[zkW];show(n_ [eF a,fold]&&(nU (eF b) 1 (vl (eF a))&&decide (vl (eF a)<=8*vl (eF b))))=true;rw[ze7 (by lia) h3 hf,(yH (a:=a) (by lia) h3).2.1,(yH (a:=b) (by lia) (by lia)).2.1,Gn (by lia) (by lia) h0 h1,xaD h2];rfl
def zdc (h:f∈ab)(h':g∈ab)(h0:0<=a)(h1:a<=1000000000000)(hr:runK "tvw" ws.reverse []=some [Str.ofString "number"])(hl:ws.length<=35):RK ab ⟨"join",nm,[f,g],eF a::ws⟩:=by
 refine⟨.inl (by x_go:frm "join"=some 2),Wa h h',?_,fun x hx=>?_,by show ws.length+1<=36;lia⟩
 .show fO "join" (eF a::ws)=true;rw[zll];show(nU (eF a) 0 1000000000000&&wj "tvw" "number" ws)=true;rw[Gn h0 h1 h0 h1];exact xaD hr
 .rcases xaz.mp hx with rfl |hx
  .exact(yH h0 h1).2.2
  .exact U7 hr x hx
def zdj {fs:Lsx}(h:∀f∈fs,f∈ab)(h1:2<=fs.length)(h2:fs.length<=8):RK ab ⟨"pour",nm,fs,[]⟩:=⟨.inr ⟨rfl,h1,h2,rfl⟩,h,zkn,Ma,xbP _⟩
end
variable {M:Mm}
def RR (ab:Lsx)(nm:Str)(M:Mm)(o:E3.OS):Prop:=∃r E,RK ab r/\r.nm=nm/\o=some (.rt (RW.D r),M++E)
def RR.no {ab:Lsx}{nm:Str}{o:E3.OS}{r:RW}(h:RK ab r)(e:o=some (.rt (RW.D r),M))(hn:r.nm=nm):RR ab nm M o:=⟨r,[],h,hn,by rw[xaA];exact e⟩
section
variable {k pick wide:Int}{xs:List D}{j:Nat}{nm fold f0 f1:Str}{fr ab:Lsx}{s8 s9:E3.Slot}{x6 x7:Int}
theorem Tq (h0:f0∈ab):RR ab nm M (Sx [.val (.int k),.val (.lst xs),.val (.ref j),.val (.str nm),.val (.int pick),.val (.lst ((f0::f1::fr).map .str)),.val (.str fold),.val (.int wide),s8,s9] M):=by
 refine RR.no (r:=⟨"out",nm,[f0],[]⟩) (zfb h0) ?_ rfl;unfold Sx;z_go;rfl
def Tp (hF:fX fold=true)(h0:f0∈ab)(h1:f1∈ab)(w0:1<=wide)(w1:wide<=1000000000000)(e6:aV xs 6=some (.int x6))(e7:aV xs 7=some (.int x7)):RR ab nm M (Lj [.val (.int k),.val (.lst xs),.val (.ref j),.val (.str nm),.val (.int pick),.val (.lst ((f0::f1::fr).map .str)),.val (.str fold),.val (.int wide),s8,s9] M):=by
 by_cases h:pick=9
 .obtain⟨ws,hr,_,_,wl,e⟩:=Yj (M:=M) (L:="tvw") (num:=x6) (most:=(1+x7%31).toNat) ze1 (by lia);rw[show(((1+x7%31).toNat:Nat):Int)=1+x7%31 by lia]at e;refine RR.no (r:=⟨"join",nm,[f0,f1],eF (wide-1)::ws⟩) (zdc h0 h1 (by lia) (by lia) hr (by lia)) ?_ rfl;unfold Lj;z_go;simp only[h];erw [e6,e7,e,xaa (sY (by lia) (by lia)),xaa (by lia)];rfl
 .unfold Lj;z_go;simp only[h];z_go;exact Tq h0
def Tn (hF:fX fold=true)(h0:f0∈ab)(h1:f1∈ab)(w0:1<=wide)(w1:wide<=1000000000000)(e6:aV xs 6=some (.int x6))(e7:aV xs 7=some (.int x7)):RR ab nm M (Li [.val (.int k),.val (.lst xs),.val (.ref j),.val (.str nm),.val (.int pick),.val (.lst ((f0::f1::fr).map .str)),.val (.str fold),.val (.int wide),s8,s9] M):=by
 by_cases h:pick=8
 .refine RR.no (r:=⟨"gap",nm,[f0],[eF wide,fold]⟩) (U0 (.inr rfl) h0 w0 w1 hF) ?_ rfl;unfold Li;z_go;simp only[h];erw [xaa (sY (by lia) (by lia))];rfl
 .unfold Li;z_go;simp only[h];z_go;exact Tp hF h0 h1 w0 w1 e6 e7
def Tj (hF:fX fold=true)(h0:f0∈ab)(h1:f1∈ab)(w0:1<=wide)(w1:wide<=1000000000000)(e6:aV xs 6=some (.int x6))(e7:aV xs 7=some (.int x7))(p7:0<=x7/\x7<715827877):RR ab nm M (Lh [.val (.int k),.val (.lst xs),.val (.ref j),.val (.str nm),.val (.int pick),.val (.lst ((f0::f1::fr).map .str)),.val (.str fold),.val (.int wide),s8,s9] M):=by
 by_cases h:pick=7
 .have m0:=xaL (x7*48271*7919) (show(7*wide+1)≠0 by lia);have m1:=xaK (x7*48271*7919) (show 0<7*wide+1 by lia);generalize em:x7*48271*7919%(7*wide+1)=q at m0 m1;have hq:∃a:Int,(if wide+q<1000000000000 then wide+q else 1000000000000)=a/\wide<=a/\a<=8*wide/\a<=1000000000000:=by
   split
   .exact⟨_,rfl,by lia,by lia,by lia⟩
   .exact⟨_,rfl,by lia,by lia,by lia⟩
  obtain⟨a,ea,a0,a1,a2⟩:=hq;refine RR.no (r:=⟨"slide",nm,[f0],[eF a,eF wide,fold]⟩) (zb3 h0 w0 a0 a1 a2 hF) ?_ rfl;unfold Lh;z_go;simp only[h];erw [e7];rw[xaa (by lia),em];z_go;rw[ea,xaa (sY (by lia) (by lia))];erw [xaa (sY (by lia) (by lia))];rfl
 .unfold Lh;z_go;simp only[h];z_go;exact Tn hF h0 h1 w0 w1 e6 e7
end
variable {M:Mm}
section
variable {k pick wide:Int}{xs:List D}{j:Nat}{nm fold f0 f1:Str}{fr ab:Lsx}{s8 s9:E3.Slot}{x4 x5 x6 x7:Int}
def Ti (hF:fX fold=true)(h0:f0∈ab)(h1:f1∈ab)(w0:1<=wide)(w1:wide<=1000000000000)(e6:aV xs 6=some (.int x6))(e7:aV xs 7=some (.int x7))(p7:0<=x7/\x7<715827877):RR ab nm M (Lg [.val (.int k),.val (.lst xs),.val (.ref j),.val (.str nm),.val (.int pick),.val (.lst ((f0::f1::fr).map .str)),.val (.str fold),.val (.int wide),s8,s9] M):=by
 by_cases h:pick=6
 .refine RR.no (r:=⟨"fixed",nm,[f0],[eF wide,fold]⟩) (U0 (.inl rfl) h0 w0 w1 hF) ?_ rfl;unfold Lg;z_go;simp only[h];erw [xaa (sY (by lia) (by lia))];rfl
 .unfold Lg;z_go;simp only[h];z_go;exact Tj hF h0 h1 w0 w1 e6 e7 p7
def nr9 (hF:fX fold=true)(hf:∀f∈f0::f1::fr,f∈ab)(hl:fr.length=6)(w0:1<=wide)(w1:wide<=1000000000000)(e4:aV xs 4=some (.int x4))(e6:aV xs 6=some (.int x6))(e7:aV xs 7=some (.int x7))(p4:0<=x4/\x4<715827877)(p7:0<=x7/\x7<715827877):RR ab nm M (Ls [.val (.int k),.val (.lst xs),.val (.ref j),.val (.str nm),.val (.int pick),.val (.lst ((f0::f1::fr).map .str)),.val (.str fold),.val (.int wide),s8,s9] M):=by
 by_cases h:pick=4\/pick=5
 .have hb:2+x4%7=(((2+x4%7).toNat:Nat):Int):=by lia
  have hlen:((f0::f1::fr).take (2+x4%7).toNat).length=(2+x4%7).toNat:=by rw[xaw,xae,xae,hl];lia
  refine RR.no (r:=⟨"pour",nm,(f0::f1::fr).take (2+x4%7).toNat,[]⟩) (zdj (fun f hm=>hf f (xbd hm)) (by rw[hlen];lia) (by rw[hlen];lia)) ?_ rfl;have t:(if pick=4 then some (Res.v (D.bl true),M) else some (Res.v (D.bl (decide (pick=5))),M))=some (Res.v (D.bl true),M):=by
   rcases h with h |h
   .rw[xaa h]
   .rw[h];rfl
  unfold Ls;generalize hG:(f0::f1::fr)=G at *;erw [t,e4];rw[yp,Gm _ (by lia)];z_go;rfl
 .have t:(if pick=4 then some (Res.v (D.bl true),M) else some (Res.v (D.bl (decide (pick=5))),M))=some (Res.v (D.bl false),M):=by
   rw[xac (fun z=>h (.inl z)),xas (fun z=>h (.inr z))]
  unfold Ls;erw [t];exact Ti hF (hf f0 (by simp)) (hf f1 (by simp)) w0 w1 e6 e7 p7
def nr8 (hF:fX fold=true)(hf:∀f∈f0::f1::fr,f∈ab)(hl:fr.length=6)(w0:1<=wide)(w1:wide<=1000000000000)(e4:aV xs 4=some (.int x4))(e5:aV xs 5=some (.int x5))(e6:aV xs 6=some (.int x6))(e7:aV xs 7=some (.int x7))(p4:0<=x4/\x4<715827877)(p7:0<=x7/\x7<715827877):RR ab nm M (Lr [.val (.int k),.val (.lst xs),.val (.ref j),.val (.str nm),.val (.int pick),.val (.lst ((f0::f1::fr).map .str)),.val (.str fold),.val (.int wide),s8,s9] M):=by
 by_cases h:pick=3
 .have m0:=xaL x5 (show 1+x4%8≠0 by lia);have m1:=xaK x5 (show 0<1+x4%8 by lia);refine RR.no (r:=⟨"share",nm,[f0],[eF (x5%(1+x4%8)),eF (1+x4%8)]⟩) (zcg (hf f0 (by simp)) m0 m1 (by lia)) ?_ rfl;unfold Lr;z_go;simp only[h];erw [e5,e4,xaa (by lia),xaa (sY m0 (by lia)),e4,xaa (sY (by lia) (by lia))];rfl
 .unfold Lr;z_go;simp only[h];z_go;exact nr9 hF hf hl w0 w1 e4 e6 e7 p4 p7
def nr7 (hF:fX fold=true)(hf:∀f∈f0::f1::fr,f∈ab)(hl:fr.length=6)(w0:1<=wide)(w1:wide<=1000000000000)(e4:aV xs 4=some (.int x4))(e5:aV xs 5=some (.int x5))(e6:aV xs 6=some (.int x6))(e7:aV xs 7=some (.int x7))(p4:0<=x4/\x4<715827877)(p7:0<=x7/\x7<715827877):RR ab nm M (Lq [.val (.int k),.val (.lst xs),.val (.ref j),.val (.str nm),.val (.int pick),.val (.lst ((f0::f1::fr).map .str)),.val (.str fold),.val (.int wide),s8,s9] M):=by
 by_cases h:pick=2
 .obtain⟨ws,hr,_,_,wl,e⟩:=Yj (M:=M) (L:="tv") (num:=x6) (most:=(1+x7%33).toNat) zis (by lia);rw[show(((1+x7%33).toNat:Nat):Int)=1+x7%33 by lia]at e;refine RR.no (r:=⟨"turn",nm,[f0],ws⟩) (zdq (hf f0 (by simp)) hr (by lia)) ?_ rfl;unfold Lq;z_go;simp only[h];erw [e6,e7,e];rfl
 .unfold Lq;z_go;simp only[h];z_go;exact nr8 hF hf hl w0 w1 e4 e5 e6 e7 p4 p7
def nr6 (hF:fX fold=true)(hf:∀f∈f0::f1::fr,f∈ab)(hl:fr.length=6)(w0:1<=wide)(w1:wide<=1000000000000)(e4:aV xs 4=some (.int x4))(e5:aV xs 5=some (.int x5))(e6:aV xs 6=some (.int x6))(e7:aV xs 7=some (.int x7))(p4:0<=x4/\x4<715827877)(p7:0<=x7/\x7<715827877):RR ab nm M (Lp [.val (.int k),.val (.lst xs),.val (.ref j),.val (.str nm),.val (.int pick),.val (.lst ((f0::f1::fr).map .str)),.val (.str fold),.val (.int wide),s8,s9] M):=by
 by_cases h:pick=1
 .obtain⟨ws,E,hr,_,_,wl,e⟩:=zlw (M:=M) (num:=x6) (most:=(3+x7%31).toNat) (by lia);rw[show(((3+x7%31).toNat:Nat):Int)=3+x7%31 by lia]at e;refine⟨⟨"keep",nm,[f0],ws⟩,E,zdP (hf f0 (by simp)) hr (by lia),rfl,?_⟩;unfold Lp;z_go;simp only[h];erw [e6,e7,e];rfl
 .unfold Lp;z_go;simp only[h];z_go;exact nr7 hF hf hl w0 w1 e4 e5 e6 e7 p4 p7
end
variable {M:Mm}
def zkD {k:Int}{a b c:D}:aV [a,b,c] (k%3)=some a\/aV [a,b,c] (k%3)=some b\/aV [a,b,c] (k%3)=some c:=by
 have:k%3=0\/k%3=1\/k%3=2:=by lia
 rcases this with e |e |e<;>rw[e]
 .exact .inl at0
 .exact .inr (.inl at1)
 .exact .inr (.inr at2)
def zjG {k:Int}:∃x:Str,fX x=true/\aV [D.str "sum",.str "count",.str "most",.str "least"] (k%4)=some (.str x):=by
 have:k%4=0\/k%4=1\/k%4=2\/k%4=3:=by lia
 rcases this with e |e |e |e<;>rw[e]
 .exact⟨_,by x_go,at0⟩
 .exact⟨_,by x_go,at1⟩
 .exact⟨_,by x_go,at2⟩
 .exact⟨_,by x_go,Ge⟩
section
variable {k pick:Int}{xs:List D}{j:Nat}{nm f0 f1:Str}{fr ab:Lsx}{s6 s7 s8 s9:E3.Slot}{x4 x5 x6 x7:Int}
def nr4 (hf:∀f∈f0::f1::fr,f∈ab)(hl:fr.length=6)(e4:aV xs 4=some (.int x4))(e5:aV xs 5=some (.int x5))(e6:aV xs 6=some (.int x6))(e7:aV xs 7=some (.int x7))(p4:0<=x4/\x4<715827877)(p7:0<=x7/\x7<715827877):RR ab nm M (Sy [.val (.int k),.val (.lst xs),.val (.ref j),.val (.str nm),.val (.int pick),.val (.lst ((f0::f1::fr).map .str)),s6,s7,s8,s9] M):=by
 obtain⟨fold,hF,ef⟩:=zjG (k:=x4);have hq:∃q:Int,0<q/\q<=1000000000000/\aV [D.int 9,.int 1000000,.int 1000000000000] (x6%3)=some (.int q):=by
  rcases zkD (k:=x6) (a:=D.int 9) (b:=.int 1000000) (c:=.int 1000000000000) with e |e |e
  .exact⟨_,by decide,by decide,e⟩
  .exact⟨_,by decide,by decide,e⟩
  .exact⟨_,by decide,by decide,e⟩
 obtain⟨q,q0,q1,eq⟩:=hq;have m0:=xaL (x5*48271*7919) (show q≠0 by lia);have m1:=xaK (x5*48271*7919) q0;unfold Sy;erw [e4];rw[ef];unfold ZK;erw [e5,e6,eq,xaa q0];exact nr6 hF hf hl (by lia) (by lia) e4 e5 e6 e7 p4 p7
def Rb {x:Int}(hj:M[j]? =some (.lst (ab.map .str)))(hn:ab≠ [])(hlen:ab.length<=1000):∃f∈ab,Kz [.val (.int x),.val (.ref j)] M=some (.v (.str f),M):=by
 have hp:0<ab.length:=xdj.mpr hn;have p0:=xaL x (show(ab.length:Int)≠0 by lia);have p1:=xaK x (show(0:Int)<(ab.length:Int) by lia);have hx:(ab.map D.str)[(x%(ab.length:Int)).toNat]? =some (.str (ab[(x%(ab.length:Int)).toNat]'(by lia))):=by rw[xau,xaj (by lia)];rfl
 refine⟨_,xbz (show(x%(ab.length:Int)).toNat<ab.length by lia),?_⟩;have ha:=i_ hx;rw[xbk p0]at ha;unfold Kz;have hv:vw M (.ref j)=.lst (ab.map .str):=by simp only[vw,hj]
 z_go;simp only[hv];erw [xaa (by lia)];simp only[hv];erw [ha]
theorem Gq:∀l:Lsx,D.deps (l.map .str)=0
 | []=>rfl
 |a::l=>by simp only[xai,D.deps,Gq l];rfl
def nr2 (hj:M[j]? =some (.lst (ab.map .str)))(hab:ab.length<=1000){ns:Lix}(hns:ns.length=11)(hd:Gu ns):RR ab nm M (Lk [.val (.int k),.val (.lst (ns.map .int)),.val (.ref j),.val (.str nm),.val (.int pick),.un,.un,.un,.un,.un] M):=by
 have hv:vw M (.ref j)=.lst (ab.map .str):=by simp only[vw,hj]
 have ix:∀i:Nat,i<11->∃x,aV (ns.map D.int) (i:Int)=some (.int x)/\0<=x/\x<715827877:=fun i hi=>by
  have hx:(ns.map D.int)[i]? =some (.int (ns[i]'(by lia))):=by rw[xau,xaj (by lia)];rfl
  exact⟨_,i_ hx,hd _ (xbz (by lia))⟩
 by_cases h:ab=[]\/pick=0
 .refine RR.no (r:=⟨"in",nm,[],[]⟩) zjg ?_ rfl;unfold Lk;z_go;rw[hv,Mf (by rw[Gq];decide)];z_go;have t:(if (ab.map D.str).isEmpty=true then some (Res.v (D.bl true),M) else some (Res.v (D.bl (decide (pick=0))),M))=some (Res.v (D.bl true),M):=by
   rcases h with h |h
   .rw[h];rfl
   .rw[h];simp
  rw[t];z_go;rfl
 .have hn:ab≠ []:=fun z=>h (.inl z);obtain⟨x4,e4,p4⟩:=ix 4 (by decide);obtain⟨x5,e5,p5⟩:=ix 5 (by decide);obtain⟨x6,e6,p6⟩:=ix 6 (by decide);obtain⟨x7,e7,p7⟩:=ix 7 (by decide);have t:(if (ab.map D.str).isEmpty=true then some (Res.v (D.bl true),M) else some (Res.v (D.bl (decide (pick=0))),M))=some (Res.v (D.bl false),M):=by
   rw[xac (by simpa using hn),xas (fun z=>h (.inr z))]
  have hF:∃F:Int->Str,∀x,F x∈ab/\Kz [.val (.int x),.val (.ref j)] M=some (.v (.str (F x)),M):=⟨fun x=>(Rb (x:=x) hj hn hab).choose,fun x=>(Rb (x:=x) hj hn hab).choose_spec⟩;obtain⟨F,hF⟩:=hF;have hcl:((ns.drop 2).take 8).length=8:=by rw[xaw,xaU];lia
  have hG:∃f0 f1 fr,((ns.drop 2).take 8).map F=f0::f1::fr/\fr.length=6:=by
   generalize (ns.drop 2).take 8=l at hcl
   match l,hcl with
   |a::b::r,hc=>exact⟨_,_,_,rfl,by simpa using hc⟩
  obtain⟨f0,f1,fr,hG,hl⟩:=hG;have hf:∀f∈f0::f1::fr,f∈ab:=fun f hm=>by
   rw[<-hG,xaV]at hm;obtain⟨x,_,rfl⟩:=hm;exact(hF x).1
  unfold Lk;z_go;rw[hv,Mf (by rw[Gq];decide)];erw [t];unfold ZJ;z_go;rw[yp,Gk _ (by decide) (by decide),show((10:Int).toNat-(2:Int).toNat)=8 by decide,show(2:Int).toNat=2 by decide];rw[vq (fun x:Int=>D.int x) (fun x=>D.str (F x)) ((ns.drop 2).take 8) [] (fun x _=>(hF x).2) (by rw[xay,hcl];decide)];z_go;rw[show((ns.drop 2).take 8).map (fun x=>D.str (F x))=(f0::f1::fr).map D.str by rw[<-hG,xa4];rfl];exact nr4 hf hl e4 e5 e6 e7 p4 p7
end
variable {M:Mm}
def zjK {k:Nat}{j:Nat}{ab:Lsx}{ns:Lix}(hk:k<100)(hj:M[j]? =some (.lst (ab.map .str)))(hab:ab.length<=1000)(hns:ns.length=11)(hd:Gu ns):∃r E,RK ab r/\(lJ r.nm=true/\wd r.nm/\(cd r.nm).filter (fun c=>decide (c<=57))=cd (eF k))/\Dz [.int k,.lst (ns.map .int),.ref j] M=some (.v (RW.D r),M++E):=by
 have ix:∀i:Nat,i<11->∃x,aV (ns.map D.int) (i:Int)=some (.int x):=fun i hi=>by
  have hx:(ns.map D.int)[i]? =some (.int (ns[i]'(by lia))):=by rw[xau,xaj (by lia)];rfl
  exact⟨_,i_ hx⟩
 obtain⟨x0,e0⟩:=ix 0 (by decide);obtain⟨x1,e1⟩:=ix 1 (by decide);have e0':aV (ns.map D.int) 0=some (.int x0):=e0;have e1':aV (ns.map D.int) 1=some (.int x1):=e1;obtain⟨nm,as,bs,c1,c2,c3,c4,en⟩:=zgG (x:=x0) (k:=k) (by lia);have hN:=Z9 c1 c2 c3 c4 (by lia) (by lia);obtain⟨r,E,hr,rfl,e⟩:=nr2 (M:=M) (k:=k) (nm:=nm) (pick:=x1%11) hj hab hns hd;refine⟨r,E,hr,hN,?_⟩;unfold Dz P_;erw [e0',en];unfold ZG;erw [e1',e]
structure GS (rs:List RW)(ab:Lsx):Prop where
 ws:RWS rs
 wf:∀r∈rs,r.wf
 nm:∀r∈rs,lJ r.nm=true/\wd r.nm
 dg:∀i (h:i<rs.length),(cd rs[i].nm).filter (fun c=>decide (c<=57))=cd (eF (i:Int))
 ab:∀f∈ab,∃r∈rs,r.nm=f/\r.w≠"out"
def GS.nil:GS [] []:=⟨(fun as r bs e=>by cases as<;>cases e),(fun r h=>by cases h),(fun r h=>by cases h),(fun i h=>absurd h (xcn _)),(fun r h=>by cases h)⟩
theorem GS.uni {rs:List RW}{ab:Lsx}(h:GS rs ab)(hl:rs.length<100){q q':RW}(hq:q∈rs)(hq':q'∈rs)(e:q.nm=q'.nm):q=q':=by
 obtain⟨i,hi,rfl⟩:=xbQ.mp hq;obtain⟨j,hj,rfl⟩:=xbQ.mp hq';have:=h.dg i hi;rw[e,h.dg j hj]at this;have:=zeX (by lia) (by lia) this;subst this;rfl
def GS.fr {rs:List RW}{ab:Lsx}(h:GS rs ab)(hl:rs.length<100){f:Str}(hf:f∈ab):decide ((lq (rs.map jj) f).getD "out"="out")=false:=by
 obtain⟨q,hq,rfl,ho⟩:=h.ab f hf;unfold lq
 cases hF:(rs.map jj).find? fun p=>decide (p.1=q.nm) with
 |none=>
  rw[xcH]at hF;exact absurd (xaD rfl) (hF (jj q) (xaV.mpr ⟨q,hq,rfl⟩))
 |some p=>
  have h0:=xde hF;have h1:p.1=q.nm:=xbm h0;obtain⟨q',hq',rfl⟩:=xaV.mp (xbO hF);have e:=h.uni hl hq' hq h1;subst e;exact xas ho
theorem GS.nms {rs:List RW}{ab:Lsx}(h:GS rs ab)(hl:rs.length<100){r:RW}(hr:RK ab r)(hd:(cd r.nm).filter (fun c=>decide (c<=57))=cd (eF (rs.length:Int))):gD (rs.map jj) r.nm r.fr=true:=by
 unfold gD;have h1:lq (rs.map jj) r.nm=none:=by
  unfold lq;rw[xcR,xcH];intro p hp hz;obtain⟨q,hq,rfl⟩:=xaV.mp hp;obtain⟨i,hi,rfl⟩:=xbQ.mp hq;have e:rs[i].nm=r.nm:=xbm hz;have:=h.dg i hi;rw[e,hd]at this;have:=zeX (by lia) (by lia) this;lia
 rw[h1];show(true&&_)=true;rw[xd3,xaX];intro f hf;rw[h.fr hl (hr.fr f hf)];rfl
def RK.row {ab:Lsx}{r:RW}(hr:RK ab r)(hn:lJ r.nm=true)(ha:∀f∈r.fr,lJ f=true):fM r.ws=some r/\∃n,frm r.w=some n/\r.fr.length<=8:=by
 have hna:(r.nm::r.fr).all lJ=true:=xaX.mpr fun x hx=>by
  rcases xaz.mp hx with rfl |hx
  .exact hn
  .exact ha x hx
 have go:∀n,frm r.w=some n->(r.fr++r.rs).take n=r.fr->(r.fr++r.rs).drop n=r.rs->Af r.w n r.fr.length=true->fM r.ws=some r:=fun n h1 h2 h3 h4=>by
  have hB:lE (r.w::r.nm::(r.fr++r.rs))=true:=by
   unfold lE;dsimp only;rw[h1];dsimp only;rw[h2,h3,h4,hna,hr.re];rfl
  unfold RW.ws fM;dsimp only;rw[xaa hB,h1,Option.getD_some,h2,h3]
 rcases hr.fm with h |⟨h1,h2,h3,h4⟩
 .refine⟨go _ h List.take_left List.drop_left ?_,_,h,zix h⟩;unfold Af
  split
  .rename_i hp;rw[hp,show frm "pour"=some 8 by x_go]at h;have:=xaE h;exact xaD (by lia)
  .exact xaD rfl
 .have hf:frm r.w=some 8:=by rw[h1];decide +kernel
  refine⟨go 8 hf ?_ ?_ ?_,_,hf,h3⟩
  .rw[h4,xaA,xbt h3]
  .rw[h4,xaA,xcr h3]
  .unfold Af;rw[xaa h1];exact xaD h2
theorem GS.add {rs:List RW}{ab:Lsx}(h:GS rs ab)(hl:rs.length<100){r:RW}(hr:RK ab r)(hn:lJ r.nm=true/\wd r.nm/\(cd r.nm).filter (fun c=>decide (c<=57))=cd (eF (rs.length:Int))):GS (rs++[r]) (if r.w="out" then ab else ab++[r.nm]):=by
 have hab:∀f∈ab,lJ f=true/\wd f:=fun f hf=>by
  obtain⟨q,hq,rfl,_⟩:=h.ab f hf;exact h.nm q hq
 obtain⟨h1,n,h2,h3⟩:=hr.row hn.1 fun f hf=>(hab f (hr.fr f hf)).1;have old:∀f∈ab,∃q∈rs++[r],q.nm=f/\q.w≠"out":=fun f hf=>by
  obtain⟨q,hq,e⟩:=h.ab f hf;exact⟨q,xav.mpr (.inl hq),e⟩
 refine⟨h.ws.add h1 (h.nms hl hr hn.2.2),fun q hq=>?_,fun q hq=>?_,fun i hi=>?_,fun f hf=>?_⟩
 .rcases xav.mp hq with hq |hq
  .exact h.wf q hq
  .rw[xaG]at hq;subst hq;have hle:=hr.le;refine⟨fun x hx=>?_,by unfold RW.ws;rw[xae,xae,xaf];lia⟩;unfold RW.ws at hx;rcases xaz.mp hx with rfl |hx
   .exact zh2 h2
   .rcases xaz.mp hx with rfl |hx
    .exact hn.2.1
    .rcases xav.mp hx with hx |hx
     .exact(hab x (hr.fr x hx)).2
     .exact hr.wd x hx
 .rcases xav.mp hq with hq |hq
  .exact h.nm q hq
  .rw[xaG]at hq;subst hq;exact⟨hn.1,hn.2.1⟩
 .rw[xaf,xaC]at hi
  by_cases z:i<rs.length
  .rw[List.getElem_append_left z];exact h.dg i z
  .have e:i=rs.length:=by lia
   subst e;rw[List.getElem_append_right (xag _)]
   simpa using hn.2.2
 .split at hf
  .exact old f hf
  .rename_i ho;rcases xav.mp hf with hf |hf
   .exact old f hf
   .rw[xaG]at hf;exact⟨r,xav.mpr (.inr (xaG.mpr rfl)),hf.symm,ho⟩
def zk6:∀n:Fin 2001,(u6 (Str.ofString (toString ((n.val:Int)-1000)))&&(decide ((Str.ofString (toString ((n.val:Int)-1000))).length<=22)&&(cd (Str.ofString (toString ((n.val:Int)-1000)))).all fun c=>decide (c<4294967296)))=true:=by x_go
def Y4 {x:Int}{L:Str}(hL:LG L)(h5:L.length<=5):∃w y,lf w L=true/\sm w/\∀M:Mm,z_ [.int x,.str L] M=some (.v (.tup [.str w,.int y]),M):=by
 have hL6:L.length<=16777216:=by lia
 have p0:=xaL x (show(5:Int)≠0 by decide)
 by_cases h:x%5<(L.length:Int)
 .have hl:=gY L;have hx:=xaj (show(x%5).toNat<(cd L).length by lia);generalize (cd L)[(x%5).toNat]=c at hx;have hc:=xaS hx;have ha:=i_ hx;rw[xbk p0]at ha;refine⟨⟨#[c]⟩,x/5,Y8 hL hc,zeM (by rcases hL.2 c hc with z |z |z<;>lia),fun M=>?_⟩
  unfold z_ J6;erw [xaa hL6,xaa h];rw[xaa hL6,show L.cps.toList=cd L from rfl,ha];z_go
 .have hn:∃n:Fin 2001,x/5%2001-1000=(n.val:Int)-1000:=⟨⟨(x/5%2001).toNat,by lia⟩,by show _=(((x/5%2001).toNat:Nat):Int)-1000;lia⟩;obtain⟨n,en⟩:=hn;have k:=zk6 n;rw[<-en,xak,xak,xaH,xaX]at k;refine⟨Str.ofString (toString (x/5%2001-1000)),x/10005,by unfold lf;rw[k.1];rfl,⟨by lia,fun c hc=>xbm (k.2.2 c hc)⟩,fun M=>?_⟩;unfold z_ J6;erw [xaa hL6,xac h,xaa (R9 (by lia))]
def X6 {L:Str}{c:Int}(h0:0<=c)(h1:c<5):∃x:Str,NW L x/\nF x=some (Str.ofString "number",Str.ofString "number",2)/\aV [D.str "+",.str "-",.str "*",.str "least",.str "most"] c=some (.str x):=by
 have:=Ri (L:=L) (k:=c)
 rwa [xdE h0 h1]at this
def Yk {L:Str}{num:Int}{most:Nat}(hL:LG L)(h5:L.length<=5)(hm:1<=most/\most<=45):∃ws:Lsx,runK L ws.reverse []=some [Str.ofString "number"]/\(∀w∈ws,NW L w)/\1<=ws.length/\ws.length<=most/\Dw [.int num,.str L,.int most] M=some (.v (.lst (ws.map D.str)),M):=by
 have lp:∃ws:Lsx,∃s0 s5 s6,runK L ws.reverse []=some [Str.ofString "number"]/\(∀w∈ws,NW L w)/\1<=ws.length/\ws.length<=most/\yE 1000 V2 DY [.val (.int num),.val (.str L),.val (.int most),.own [],.val (.int 1),.un,.un] M=some (.nx [s0,.val (.str L),.val (.int most),.own (ws.map D.str),.val (.int 0),s5,s6],M):=by
  refine O6 (Q:=fun o=>∃ws:Lsx,∃s0 s5 s6,runK L ws.reverse []=some [Str.ofString "number"]/\(∀w∈ws,NW L w)/\1<=ws.length/\ws.length<=most/\o=some (.nx [s0,.val (.str L),.val (.int most),.own (ws.map D.str),.val (.int 0),s5,s6],M)) (fun m env N=>N=M/\∃(ws:Lsx) (need:Nat) (x:Int) (s5 s6:E3.Slot),env=[.val (.int x),.val (.str L),.val (.int most),.own (ws.map D.str),.val (.int need),s5,s6]/\m=most-ws.length/\ws.length+need<=most/\runK L ws.reverse (nums need)=some [Str.ofString "number"]/\(∀w∈ws,NW L w)) ⟨most,by lia,rfl,[],1,_,.un,.un,rfl,rfl,by simpa using hm.1,rfl,(fun w hw=>by cases hw)⟩ ?_;rintro m env N ⟨rfl,ws,need,x,s5,s6,rfl,rfl,hb,hr,hw⟩;refine⟨decide (0<(need:Int)),N,?_,?_⟩
  .unfold V2;z_go
  .by_cases hn:0<(need:Int)
   .rw[xaD hn,xaa rfl];have y0:=xaL x (show(10:Int)≠0 by decide);obtain⟨w,z,lw,sw,ew⟩:=Y4 (x:=x/10) hL h5
    by_cases c:x%10<5/\((ws.length:Nat):Int)+(need:Int)+2<=(most:Int)
    .obtain⟨op,nwo,ndo,eo⟩:=X6 (L:=L) y0 c.1;have e:DY [.val (.int x),.val (.str L),.val (.int most),.own (ws.map D.str),.val (.int need),s5,s6] N=some (.nx [.val (.int (x/10)),.val (.str L),.val (.int most),.own ((ws++[op]).map D.str),.val (.int ((need+1:Nat):Int)),.val (.int (x%10)),s6],N):=by
      unfold DY;z_go;simp only[c.1,c.2];erw [eo,xaa (by lia)];rw[xaI];rfl
     rw[e];refine⟨most-(ws++[op]).length,by rw[xaf,xaC];lia,rfl,ws++[op],need+1,_,_,_,rfl,rfl,by rw[xaf,xaC];lia,?_,fun u hu=>?_⟩
     .rw[xbW,show [op].reverse=[op] from rfl,xbN];show(stepK L op (nums (need+1))).bind (runK L ws.reverse)=_;rw[zjp ndo (by lia)];exact hr
     .rw[xav,xaG]at hu;rcases hu with hu |rfl
      .exact hw u hu
      .exact nwo
    .have e:DY [.val (.int x),.val (.str L),.val (.int most),.own (ws.map D.str),.val (.int need),s5,s6] N=some (.nx [.val (.int z),.val (.str L),.val (.int most),.own ((ws++[w]).map D.str),.val (.int ((need-1:Nat):Int)),.val (.int (x%10)),.val (.str w)],N):=by
      have st:(if x%10<5 then some (Res.v (D.bl (decide (((ws.length:Nat):Int)+(need:Int)+2<=(most:Int)))),N) else some (Res.v (D.bl false),N))=some (Res.v (D.bl false),N):=by
       by_cases z:x%10<5
       .rw[xaa z,xas (fun z2=>c ⟨z,z2⟩)]
       .rw[xac z]
      unfold DY;erw [st,ew,xaa (by lia)];rw[xaI,show(need:Int)-1=((need-1:Nat):Int) by lia];rfl
     rw[e];refine⟨most-(ws++[w]).length,by rw[xaf,xaC];lia,rfl,ws++[w],need-1,_,_,_,rfl,rfl,by rw[xaf,xaC];lia,?_,fun u hu=>?_⟩
     .rw[xbW,show [w].reverse=[w] from rfl,xbN];show(stepK L w (nums (need-1))).bind (runK L ws.reverse)=_;rw[zhM lw (by lia)];exact hr
     .rw[xav,xaG]at hu;rcases hu with hu |rfl
      .exact hw u hu
      .exact⟨.inr ⟨La lw,lw⟩,sw⟩
   .rw[xas hn,xac (by decide)];have hz:need=0:=by lia
    subst hz;refine⟨ws,_,_,_,hr,hw,?_,by lia,rfl⟩
    cases ws with
    |nil=>cases hr
    |cons a b=>simp
 obtain⟨ws,s0,s5,s6,h1,h2,h3,h4,lp⟩:=lp;refine⟨ws,h1,h2,h3,h4,?_⟩;unfold Dw PK;erw [lp]
variable {M:Mm}
def zj2 {a b:Str}{c:Int}(h0:0<=c)(h1:c<2):∃x:Str,(x=a\/x=b)/\aV [D.str a,.str b] c=some (.str x):=by
 have:=Oz (a:=a) (b:=b) (k:=c)
 rwa [xdE h0 h1]at this
def zlB:LG "tv":=⟨by x_go,fun c hc=>by revert c;decide +kernel⟩
def zf8 {most x:Int}{ws:Lsx}{p:Bool}{pd:List Bool}{room:Nat}{s5 s6 s7:E3.Slot}(hw:ws.length<=100)(hp:pd.length<=100):∃(y:Int) (w:Str) (pd':List Bool) (room':Nat) (t5 t6 t7:E3.Slot) (E:Mm),BW [.val (.int x),.val (.int most),.own (ws.map D.str),.val (.ref M.length),.val (.int room),s5,s6,s7] (M++[pc (p::pd)])=some (.nx [.val (.int y),.val (.int most),.own ((ws++[w]).map D.str),.val (.ref (M++E).length),.val (.int room'),t5,t6,t7],M++E++[pc pd'])/\sm w/\stepK "tv" w (pd'.map yx)=some (yx p::pd.map yx)/\pw pd'+room'+1=pw (p::pd)+room:=by
 have y0:=xaL x (show(10:Int)≠0 by decide);have wl:(ws.map D.str).length<16777216:=by rw[xah];lia
 have smw:∀w:Str,(decide (w.length<=9000)&&(cd w).all fun c=>decide (c<4294967296))=true->sm w:=fun w h=>Vg h
 cases p with
 |true=>
  have go2:BW [.val (.int x),.val (.int most),.own (ws.map D.str),.val (.ref M.length),.val (.int room),s5,s6,s7] (M++[pc (true::pd)])=Aj [.val (.int (x/10)),.val (.int most),.own (ws.map D.str),.val (.ref M.length),.val (.int room),.val (.str "cond"),.val (.int (x%10)),s7] (M++[pc pd]):=by
   rw[Ip];unfold BW;erw [Iz];unfold Sd;z_go;unfold Sg;z_go;rfl
  rw[go2];generalize x%10=z at y0
  by_cases c1:(4:Int)<=room/\z<2
  .obtain⟨w,hw2,ew⟩:=zj2 (a:="and") (b:="or") y0 c1.2;refine⟨x/10,w,true::true::pd,room-4,.val (.str "cond"),.val (.int z),s7,[pc pd],?_,?_,?_,?_⟩
   .unfold Aj;z_go;simp only[c1.1,c1.2];erw [ew];k_obj1;rw[Im,yL,show(room:Int)-4=((room-4:Nat):Int) by lia]
    try rfl
   .rcases hw2 with rfl |rfl<;>exact smw _ (by x_go)
   .exact zhT hw2
   .simp only[pw,xai,xaT,xa8];lia
  .have s1:(if (4:Int)<=(room:Int) then some (Res.v (D.bl (decide (z<2))),M++[pc pd]) else some (Res.v (D.bl false),M++[pc pd]))=some (Res.v (D.bl false),M++[pc pd]):=by
    by_cases q:(4:Int)<=room
    .rw[xaa q,xas (fun q2=>c1 ⟨q,q2⟩)]
    .rw[xac q]
   by_cases c2:(1:Int)<=room/\z<4
   .refine⟨x/10,"not",true::pd,room-1,.val (.str "cond"),.val (.int z),s7,[],?_,smw _ (by x_go),zjR,?_⟩
    .unfold Aj;erw [s1];simp only[c2.1,c2.2];z_go;k_obj1;rw[Il,yL,show(room:Int)-1=((room-1:Nat):Int) by lia]
     try rfl
    .simp only[pw,xai,xaT,xa8];lia
   .have s2:(if (1:Int)<=(room:Int) then some (Res.v (D.bl (decide (z<4))),M++[pc pd]) else some (Res.v (D.bl false),M++[pc pd]))=some (Res.v (D.bl false),M++[pc pd]):=by
     by_cases q:(1:Int)<=room
     .rw[xaa q,xas (fun q2=>c2 ⟨q,q2⟩)]
     .rw[xac q]
    obtain⟨w,hw2,ew⟩:=Oz (a:="<") (b:="=") (k:=z);refine⟨x/10,w,false::false::pd,room,.val (.str "cond"),.val (.int z),s7,[pc pd],?_,?_,?_,?_⟩
    .unfold Aj;erw [s1,s2,ew];k_obj1;rw[zE,yL]
     try rfl
    .rcases hw2 with rfl |rfl<;>exact smw _ (by x_go)
    .exact zgQ hw2
    .simp only[pw,xai,xaT,xa8]
     simp
     lia
 |false=>
  have go2:BW [.val (.int x),.val (.int most),.own (ws.map D.str),.val (.ref M.length),.val (.int room),s5,s6,s7] (M++[pc (false::pd)])=Aj [.val (.int (x/10)),.val (.int most),.own (ws.map D.str),.val (.ref M.length),.val (.int room),.val (.str "expr"),.val (.int (x%10)),s7] (M++[pc pd]):=by
   rw[Io];unfold BW;erw [Iz];unfold Sd;z_go;unfold Sg;z_go;rfl
  rw[go2];generalize x%10=z at y0
  by_cases c1:(2:Int)<=room/\z<5
  .obtain⟨w,nw,nd,ew⟩:=X6 (L:="tv") y0 c1.2;refine⟨x/10,w,false::false::pd,room-2,.val (.str "expr"),.val (.int z),s7,[pc pd],?_,nw.2,zjv nd,?_⟩
   .unfold Aj;z_go;simp only[wg];z_go;simp only[wg];z_go;simp only[wg];z_go;simp only[c1.1,c1.2];erw [ew];k_obj1;rw[zE,yL,show(room:Int)-2=((room-2:Nat):Int) by lia]
    try rfl
   .simp only[pw,xai,xaT]
    simp
    lia
  .have s1:(if (2:Int)<=(room:Int) then some (Res.v (D.bl (decide (z<5))),M++[pc pd]) else some (Res.v (D.bl false),M++[pc pd]))=some (Res.v (D.bl false),M++[pc pd]):=by
    by_cases q:(2:Int)<=room
    .rw[xaa q,xas (fun q2=>c1 ⟨q,q2⟩)]
    .rw[xac q]
   obtain⟨w,y,lw,sw,ew⟩:=Y4 (x:=x/10) (L:="tv") zlB (by x_go);refine⟨y,w,pd,room,.val (.str "expr"),.val (.int z),.val (.str w),[],?_,sw,Js lw,?_⟩
   .unfold Aj;z_go;simp only[wg];z_go;simp only[wg];z_go;simp only[wg];erw [s1,ew];rw[xaa (by lia),yL];z_go
   .simp only[pw,xai,xaT]
    simp
    lia
def zkf {num:Int}{most:Nat}(hm:3<=most/\most<=40):∃(ws:Lsx) (E:Mm),runK "tv" ws.reverse []=some [Str.ofString "truth"]/\(∀w∈ws,sm w)/\1<=ws.length/\ws.length<=most/\GJ [.int num,.int most] M=some (.v (.lst (ws.map D.str)),M++E):=by
 have lp:∃(ws:Lsx) (E:Mm) (s0 s3 s4 s5 s6 s7:E3.Slot),runK "tv" ws.reverse []=some [Str.ofString "truth"]/\(∀w∈ws,sm w)/\1<=ws.length/\ws.length<=most/\yE 1000 V0 BW [.val (.int num),.val (.int most),.own [],.val (.ref M.length),.val (.int ((most-3:Nat):Int)),.un,.un,.un] (M++[pc [true]])=some (.nx [s0,.val (.int most),.own (ws.map D.str),s3,s4,s5,s6,s7],M++E):=by
  refine O6 (Q:=fun o=>∃(ws:Lsx) (E:Mm) (s0 s3 s4 s5 s6 s7:E3.Slot),runK "tv" ws.reverse []=some [Str.ofString "truth"]/\(∀w∈ws,sm w)/\1<=ws.length/\ws.length<=most/\o=some (.nx [s0,.val (.int most),.own (ws.map D.str),s3,s4,s5,s6,s7],M++E)) (fun m env N=>∃(ws:Lsx) (E:Mm) (pd:List Bool) (room:Nat) (x:Int) (s5 s6 s7:E3.Slot),env=[.val (.int x),.val (.int most),.own (ws.map D.str),.val (.ref (M++E).length),.val (.int room),s5,s6,s7]/\N=M++E++[pc pd]/\m=pw pd+room/\ws.length+pw pd+room=most/\runK "tv" ws.reverse (pd.map yx)=some [Str.ofString "truth"]/\(∀w∈ws,sm w)) ⟨pw [true]+(most-3),by simp only[pw,xai,xbE,xaT,List.sum_nil,xa8];lia,[],[],[true],most-3,_,.un,.un,.un,by rw[xaA];rfl,by rw[xaA],rfl,by simp only[pw,xai,xbE,xaT,List.sum_nil,xa8,xa6];lia,rfl,(fun w hw=>by cases hw)⟩ ?_;rintro m env N ⟨ws,E,pd,room,x,s5,s6,s7,rfl,rfl,rfl,hb,hr,hw⟩;have hlp:pd.length<=pw pd:=by
   clear hr hb
   induction pd with
   |nil=>exact xag _
   |cons p pd ih=>
    simp only[pw,xai,xaT,xae]at *;cases p<;>simp<;>lia
  refine⟨!pd.isEmpty,M++E++[pc pd],?_,?_⟩
  .unfold V0 pc;z_go;rw[ziB]
   .z_go;rw[xdf,List.isEmpty_map]
   .have:∀ds:List D,(∀d∈ds,d.dep=0)->D.deps ds=0:=fun ds=>by
     induction ds with
     |nil=>intro _;rfl
     |cons d ds ih=>intro h;simp only[D.deps,h d xax,ih (fun e he=>h e (xat _ he))];rfl
    rw[this _ (fun d hd=>by
     rw[xdN,xaV]at hd;obtain⟨p,_,rfl⟩:=hd;rfl)]
    lia
  .cases pd with
   |nil=>
    rw[xac (by simp)];refine⟨ws,E++[pc []],_,_,_,_,_,_,hr,hw,?_,by lia,by rw[xaq]⟩
    cases ws with
    |nil=>cases hr
    |cons a b=>simp
   |cons p pd=>
    rw[xaa (by simp)];obtain⟨y,w,pd',room',t5,t6,t7,E2,e,sw,st,hpw⟩:=zf8 (M:=M++E) (most:=most) (x:=x) (s5:=s5) (s6:=s6) (s7:=s7) (ws:=ws) (p:=p) (pd:=pd) (room:=room) (by lia) (by rw[xae]at hlp;lia);rw[e];refine⟨pw pd'+room',by lia,ws++[w],E++E2,pd',room',y,t5,t6,t7,by rw[xaq],by rw[xaq M E E2],rfl,by rw[xaf,xaC];lia,?_,fun u hu=>?_⟩
    .rw[xbW,show [w].reverse=[w] from rfl,xbN];show(stepK "tv" w (pd'.map yx)).bind (runK "tv" ws.reverse)=_;rw[st];exact hr
    .rw[xav,xaG]at hu;rcases hu with hu |rfl
     .exact hw u hu
     .exact sw
 obtain⟨ws,E,s0,s3,s4,s5,s6,s7,h1,h2,h3,h4,lp⟩:=lp;refine⟨ws,E,h1,h2,h3,h4,?_⟩;have e0:M++[Cl.lst [.str "cond"]]=M++[pc [true]]:=rfl;unfold GJ Px;z_go;unfold Zx;z_go;unfold Zy;z_go;unfold Zz;rw[IK,e0,show(most:Int)-3=((most-3:Nat):Int) by lia,lp];unfold ZC;z_go
variable {M:Mm}
def Xq {a b:Str}{f g:E}{x y:D}{env:E3.Env}(hab:a≠b)(h1:f env M=some (.v x,M))(h2:g env M=some (.v y,M)):lF (tK (aj (.str a)) f (tK (aj (.str b)) g lR)) env M=some (.v (.ref M.length),M++[.dct [(.inr a,x),(.inr b,y)]]):=by
 have n:((Sum.inr a:Key)=Sum.inr b)=False:=eq_false fun h=>hab (by cases h;rfl);simp only[lF,tK,lR,aj,h1,h2,keysOf,toKey,Ed,nq,Option.bind,Option.map,List.foldl,List.any,List.length,xbq]
 simp[n,Ed,nq]
theorem zhz {a b k:Str}{x y z:D}:(gH [(.inr a,x),(.inr b,y)] (.inr k)).getD z=if k=a then x else if k=b then y else z:=by
 unfold gH;have e:∀c:Str,decide ((Sum.inr c:Key)=Sum.inr k)=decide (k=c):=fun c=>by
  by_cases h:k=c
  .subst h;simp
  .rw[xas h,xas];intro z;cases z;exact h rfl
 simp only[List.find?,e]
 by_cases h:k=a
 .rw[xaD h,xaa h];rfl
 .rw[xas h,xac h];dsimp only
  by_cases h':k=b
  .rw[xaD h',xaa h'];rfl
  .rw[xas h',xac h'];rfl
def RR.up {ab:Lsx}{nm:Str}{o:E3.OS}{E:Mm}(h:RR ab nm (M++E) o):RR ab nm M o:=by
 obtain⟨r,E',h1,h2,h3⟩:=h;exact⟨r,E++E',h1,h2,by rw[h3,xaq]⟩
variable {M:Mm}
noncomputable def pJ (kd:Str) (d5:Int):Int:=if kd="pour" then 2+d5%7 else if kd="join" then 2 else 1
section
variable {k num wide d3 d4 d5:Int}{xs:List D}{j:Nat}{nm fold f0 f1 kd:Str}{fr ab rs:Lsx}{s3 s5 s12:E3.Slot}
theorem vd (h1:kd≠"pour")(h2:kd≠"join"):(f0::f1::fr).take (pJ kd d5).toNat=[f0]:=by
 unfold pJ;rw[xac h1,xac h2];rfl
theorem Sq:(f0::f1::fr).take (pJ "join" d5).toNat=[f0,f1]:=by
 unfold pJ;rw[xac (by x_go),xaa rfl];rfl
theorem Ib (hR:RK ab ⟨kd,nm,(f0::f1::fr).take (pJ kd d5).toNat,rs⟩)(e5:aV xs 5=some (.int d5)):RR ab nm M (SM [.val (.int k),.val (.int num),.val (.ref j),s3,.val (.lst xs),s5,.val (.str nm),.val (.lst ((f0::f1::fr).map .str)),.val (.int wide),.val (.str fold),.val (.str kd),.val (.tup (rs.map .str)),s12] M):=by
 have m0:0<=pJ kd d5:=by
  unfold pJ
  split
  .lia
  .split<;>decide
 have e:zL (lF (tK (aj (.str "pour")) (s2 aN (aj (.int 2)) (s2 oMod (s2 aO (ak 4) (aj (.int 5))) (aj (.int 7)))) (tK (aj (.str "join")) (aj (.int 2)) lR))) (ak 10) (aj (.int 1)) [.val (.int k),.val (.int num),.val (.ref j),s3,.val (.lst xs),s5,.val (.str nm),.val (.lst ((f0::f1::fr).map .str)),.val (.int wide),.val (.str fold),.val (.str kd),.val (.tup (rs.map .str)),s12] M=some (.v (.int (pJ kd d5)),M++[.dct [(.inr "pour",.int (2+d5%7)),(.inr "join",.int 2)]]):=by
  have hg:(M++[Cl.dct [(.inr "pour",.int (2+d5%7)),(.inr "join",.int 2)]])[M.length]? =some (Cl.dct [(.inr "pour",.int (2+d5%7)),(.inr "join",.int 2)]):=by simp
  have q:=Kq (f:=lF (tK (aj (.str "pour")) (s2 aN (aj (.int 2)) (s2 oMod (s2 aO (ak 4) (aj (.int 5))) (aj (.int 7)))) (tK (aj (.str "join")) (aj (.int 2)) lR))) (g:=ak 10) (h:=aj (.int 1)) (env:=[.val (.int k),.val (.int num),.val (.ref j),s3,.val (.lst xs),s5,.val (.str nm),.val (.lst ((f0::f1::fr).map .str)),.val (.int wide),.val (.str fold),.val (.str kd),.val (.tup (rs.map .str)),s12]) (M:=M) (Xq (x:=.int (2+d5%7)) (y:=.int 2) (by x_go) (by z_go;rw[e5];z_go) rfl) (e:=.str kd) rfl (x:=.int 1) rfl hg hg (key:=.inr kd) rfl;rw[q,zhz];unfold pJ
  split
  .rfl
  .split<;>rfl
 refine⟨_,[.dct [(.inr "pour",.int (2+d5%7)),(.inr "join",.int 2)]],hR,rfl,?_⟩;generalize hG:(f0::f1::fr)=G at *;unfold SM;rw[IK,zhr,e];z_go;unfold ZM;z_go;rw[yp,Gm _ m0];z_go;rfl
def Ia (hR:kd≠"join"->RK ab ⟨kd,nm,(f0::f1::fr).take (pJ kd d5).toNat,rs⟩)(hf:∀f∈f0::f1::fr,f∈ab)(w0:1<=wide)(w1:wide<=1000000)(e3:aV xs 3=some (.int d3))(e5:aV xs 5=some (.int d5)):RR ab nm M (LQ [.val (.int k),.val (.int num),.val (.ref j),s3,.val (.lst xs),s5,.val (.str nm),.val (.lst ((f0::f1::fr).map .str)),.val (.int wide),.val (.str fold),.val (.str kd),.val (.tup (rs.map .str)),s12] M):=by
 by_cases h:kd="join"
 .subst h;obtain⟨ws,hr,_,_,wl,e⟩:=Yk (M:=M) (L:="tvw") (num:=num) (most:=(1+d3%31).toNat) ze1 (by x_go) (by lia);rw[show(((1+d3%31).toNat:Nat):Int)=1+d3%31 by lia]at e;unfold LQ;erw [xaa (sY (by lia) (by lia)),e3,e,xaa (by lia)];exact Ib (rs:=eF (wide-1)::ws) (by rw[Sq];exact zdc (hf f0 (by simp)) (hf f1 (by simp)) (by lia) (by lia) hr (by lia)) e5
 .unfold LQ;z_go;simp only[h];z_go;exact Ib (hR h) e5
def H_ (hR:kd≠"slide"->kd≠"join"->RK ab ⟨kd,nm,(f0::f1::fr).take (pJ kd d5).toNat,rs⟩)(hF:fX fold=true)(hf:∀f∈f0::f1::fr,f∈ab)(w0:1<=wide)(w1:wide<=1000000)(e3:aV xs 3=some (.int d3))(e5:aV xs 5=some (.int d5)):RR ab nm M (LK [.val (.int k),.val (.int num),.val (.ref j),s3,.val (.lst xs),s5,.val (.str nm),.val (.lst ((f0::f1::fr).map .str)),.val (.int wide),.val (.str fold),.val (.str kd),.val (.tup (rs.map .str)),s12] M):=by
 by_cases h:kd="slide"
 .subst h;have m0:=xaL num (show(7*wide+1)≠0 by lia);have m1:=xaK num (show 0<7*wide+1 by lia);generalize em:num%(7*wide+1)=q at m0 m1;have hq:∃a:Int,(if wide+q<1000000000000 then wide+q else 1000000000000)=a/\wide<=a/\a<=8*wide/\a<=1000000000000:=by
   split
   .exact⟨_,rfl,by lia,by lia,by lia⟩
   .exact⟨_,rfl,by lia,by lia,by lia⟩
  obtain⟨a,ea,a0,a1,a2⟩:=hq;unfold LK;z_go;rw[xaa (by lia),em];z_go;rw[ea,xaa (sY (by lia) (by lia))];erw [xaa (sY (by lia) (by lia))];exact Ia (rs:=[eF a,eF wide,fold]) (fun _=>by rw[vd (by x_go) (by x_go)];exact zb3 (hf f0 (by simp)) w0 a0 a1 a2 hF) hf w0 w1 e3 e5
 .unfold LK;z_go;simp only[h];z_go;exact Ia (hR h) hf w0 w1 e3 e5
def HY (hR:kd≠"fixed"->kd≠"gap"->kd≠"slide"->kd≠"join"->RK ab ⟨kd,nm,(f0::f1::fr).take (pJ kd d5).toNat,rs⟩)(hF:fX fold=true)(hf:∀f∈f0::f1::fr,f∈ab)(w0:1<=wide)(w1:wide<=1000000)(e3:aV xs 3=some (.int d3))(e5:aV xs 5=some (.int d5)):RR ab nm M (LC [.val (.int k),.val (.int num),.val (.ref j),s3,.val (.lst xs),s5,.val (.str nm),.val (.lst ((f0::f1::fr).map .str)),.val (.int wide),.val (.str fold),.val (.str kd),.val (.tup (rs.map .str)),s12] M):=by
 by_cases h:kd="fixed"\/kd="gap"
 .have t:(if kd=Str.ofString "fixed" then some (Res.v (D.bl true),M) else some (Res.v (D.bl (decide (kd=Str.ofString "gap"))),M))=some (Res.v (D.bl true),M):=by
   rcases h with h |h
   .rw[xaa h]
   .rw[xaD h];split<;>rfl
  have n1:kd≠"pour":=by rcases h with rfl |rfl<;>decide +kernel
  have n2:kd≠"join":=by rcases h with rfl |rfl<;>decide +kernel
  unfold LC;erw [t,xaa (sY (by lia) (by lia))];exact H_ (rs:=[eF wide,fold]) (fun _ _=>by rw[vd n1 n2];exact U0 h (hf f0 (by simp)) w0 (by lia) hF) hF hf w0 w1 e3 e5
 .have t:(if kd=Str.ofString "fixed" then some (Res.v (D.bl true),M) else some (Res.v (D.bl (decide (kd=Str.ofString "gap"))),M))=some (Res.v (D.bl false),M):=by
   rw[xac (fun z=>h (.inl z)),xas (fun z=>h (.inr z))]
  unfold LC;erw [t];exact H_ (hR (fun z=>h (.inl z)) (fun z=>h (.inr z))) hF hf w0 w1 e3 e5
def HX (hR:kd≠"share"->kd≠"fixed"->kd≠"gap"->kd≠"slide"->kd≠"join"->RK ab ⟨kd,nm,(f0::f1::fr).take (pJ kd d5).toNat,rs⟩)(hF:fX fold=true)(hf:∀f∈f0::f1::fr,f∈ab)(w0:1<=wide)(w1:wide<=1000000)(e3:aV xs 3=some (.int d3))(e4:aV xs 4=some (.int d4))(e5:aV xs 5=some (.int d5))(p5:0<=d5/\d5<8):RR ab nm M (Lz [.val (.int k),.val (.int num),.val (.ref j),s3,.val (.lst xs),s5,.val (.str nm),.val (.lst ((f0::f1::fr).map .str)),.val (.int wide),.val (.str fold),.val (.str kd),.val (.tup (rs.map .str)),s12] M):=by
 by_cases h:kd="share"
 .subst h;have m0:=xaL d4 (show(1+d5)≠0 by lia);have m1:=xaK d4 (show 0<1+d5 by lia);unfold Lz;erw [e4,e5];rw[xaa (by lia)];generalize d4%(1+d5)=q at m0 m1;erw [xaa (sY (by lia) (by lia))]
  try rw[e5]
  erw [xaa (sY (by lia) (by lia))];exact HY (rs:=[eF q,eF (1+d5)]) (fun _ _ _ _=>by rw[vd (by x_go) (by x_go)];exact zcg (hf f0 (by simp)) m0 m1 (by lia)) hF hf w0 w1 e3 e5
 .unfold Lz;z_go;simp only[h];z_go;exact HY (hR h) hF hf w0 w1 e3 e5
def HW (hR:kd≠"turn"->kd≠"share"->kd≠"fixed"->kd≠"gap"->kd≠"slide"->kd≠"join"->RK ab ⟨kd,nm,(f0::f1::fr).take (pJ kd d5).toNat,rs⟩)(hF:fX fold=true)(hf:∀f∈f0::f1::fr,f∈ab)(w0:1<=wide)(w1:wide<=1000000)(e3:aV xs 3=some (.int d3))(e4:aV xs 4=some (.int d4))(e5:aV xs 5=some (.int d5))(p5:0<=d5/\d5<8):RR ab nm M (Ly [.val (.int k),.val (.int num),.val (.ref j),s3,.val (.lst xs),s5,.val (.str nm),.val (.lst ((f0::f1::fr).map .str)),.val (.int wide),.val (.str fold),.val (.str kd),.val (.tup (rs.map .str)),s12] M):=by
 by_cases h:kd="turn"
 .subst h;obtain⟨ws,hr,_,_,wl,e⟩:=Yk (M:=M) (L:="tv") (num:=num) (most:=(1+d3%33).toNat) zis (by x_go) (by lia);rw[show(((1+d3%33).toNat:Nat):Int)=1+d3%33 by lia]at e;unfold Ly;erw [e3,e];exact HX (rs:=ws) (fun _ _ _ _ _=>by rw[vd (by x_go) (by x_go)];exact zdq (hf f0 (by simp)) hr (by lia)) hF hf w0 w1 e3 e4 e5 p5
 .unfold Ly;z_go;simp only[h];z_go;exact HX (hR h) hF hf w0 w1 e3 e4 e5 p5
def Te (hR:kd≠"keep"->kd≠"turn"->kd≠"share"->kd≠"fixed"->kd≠"gap"->kd≠"slide"->kd≠"join"->RK ab ⟨kd,nm,(f0::f1::fr).take (pJ kd d5).toNat,rs⟩)(hF:fX fold=true)(hf:∀f∈f0::f1::fr,f∈ab)(w0:1<=wide)(w1:wide<=1000000)(e3:aV xs 3=some (.int d3))(e4:aV xs 4=some (.int d4))(e5:aV xs 5=some (.int d5))(p5:0<=d5/\d5<8):RR ab nm M (Lx [.val (.int k),.val (.int num),.val (.ref j),s3,.val (.lst xs),s5,.val (.str nm),.val (.lst ((f0::f1::fr).map .str)),.val (.int wide),.val (.str fold),.val (.str kd),.val (.tup (rs.map .str)),s12] M):=by
 by_cases h:kd="keep"
 .subst h;obtain⟨ws,E,hr,_,_,wl,e⟩:=zkf (M:=M) (num:=num) (most:=(3+d3%31).toNat) (by lia);rw[show(((3+d3%31).toNat:Nat):Int)=3+d3%31 by lia]at e;unfold Lx;erw [e3,e];exact RR.up (HW (rs:=ws) (fun _ _ _ _ _ _=>by rw[vd (by x_go) (by x_go)];exact zdP (hf f0 (by simp)) hr (by lia)) hF hf w0 w1 e3 e4 e5 p5)
 .unfold Lx;z_go;simp only[h];z_go;exact HW (hR h) hF hf w0 w1 e3 e4 e5 p5
end
variable {M:Mm}
theorem XC {A:E3.Slot}:∀(ss:Lix) (num:Int) (fs:Lix) (s3:E3.Slot),(∀s∈ss,0<s/\s<=1000000)->fs.length+ss.length<=100->∃(gs:Lix) (y:Int) (s3':E3.Slot),(gs.length=ss.length/\∀(i:Nat) (s:Int),ss[i]? =some s->∃g,gs[i]? =some g/\0<=g/\g<s)/\loopS 3 BZ (ss.map .int) [.val (.int num),A,.own (fs.map .int),s3] M=some (.nx [.val (.int y),A,.own ((fs++gs).map .int),s3'],M)
 | [],num,fs,s3,_,_=>⟨[],num,s3,⟨rfl,fun i s h=>by simp at h⟩,by rw[xaA];rfl⟩
 |s::ss,num,fs,s3,h,hl=>by
  obtain⟨s0,s1⟩:=h s xax;rw[xae]at hl;obtain⟨gs,y,s3',⟨g1,g2⟩,e⟩:=XC ss (num/s) (fs++[num%s]) (.val (.int s)) (fun x hx=>h x (xat _ hx)) (by rw[xaf,xaC];lia);refine⟨num%s::gs,y,s3',⟨by rw[xae,xae,g1],fun i x hx=>?_⟩,?_⟩
  .cases i with
   |zero=>
    rw[List.getElem?_cons_zero]at hx;cases hx;exact⟨_,rfl,xaL _ (by lia),xaK _ s0⟩
   |succ i=>exact g2 i x hx
  .have t:BZ [.val (.int num),A,.own (fs.map .int),.val (.int s)] M=some (.nx [.val (.int (num/s)),A,.own ((fs++[num%s]).map .int),.val (.int s)],M):=by
    unfold BZ;erw [xaa (by lia),xaa (by lia),xaa (by lia)];rw[xaI];rfl
   rw[xai,zdG,xaa (by show 3<4;decide)];show Vm 3 BZ _ (BZ [.val (.int num),A,.own (fs.map .int),.val (.int s)] M)=_;rw[t,zji,e,xaq];rfl
def zha {ss:Lix}{num:Int}(h:∀s∈ss,0<s/\s<=1000000)(hl:ss.length<=100):∃(gs:Lix) (y:Int),(gs.length=ss.length/\∀(i:Nat) (s:Int),ss[i]? =some s->∃g,gs[i]? =some g/\0<=g/\g<s)/\GK [.int num,.lst (ss.map .int)] M=some (.v (.tup [.lst (gs.map .int),.int y]),M):=by
 obtain⟨gs,y,s3',g,e⟩:=XC (M:=M) (A:=.val (.lst (ss.map .int))) ss num [] .un h (by rw[xa6];lia);refine⟨gs,y,g,?_⟩;have e':loopS 3 BZ (ss.map .int) [.val (.int num),.val (.lst (ss.map .int)),.own [],.un] M=some (.nx [.val (.int y),.val (.lst (ss.map .int)),.own (gs.map .int),s3'],M):=e;unfold GK Py;erw [e']
variable {M:Mm}
def KD (kd:Str):Prop:=kd="keep"\/kd="turn"\/kd="share"\/kd="pour"\/kd="fixed"\/kd="slide"\/kd="gap"\/kd="join"\/kd="out"
def zhE {c:Int}(h0:0<=c)(h1:c<10):∃kd,KD kd/\aV [D.str "keep",.str "turn",.str "share",.str "pour",.str "pour",.str "fixed",.str "slide",.str "gap",.str "join",.str "out"] c=some (.str kd):=by
 obtain⟨n,rfl⟩:∃n:Nat,c=n:=⟨c.toNat,by lia⟩;have hn:n<10:=by lia
 unfold KD
 match n,hn with
 |0,_=>exact⟨_,.inl rfl,i_ (j:=0) rfl⟩
 |1,_=>exact⟨_,.inr (.inl rfl),i_ (j:=1) rfl⟩
 |2,_=>exact⟨_,.inr (.inr (.inl rfl)),i_ (j:=2) rfl⟩
 |3,_=>exact⟨_,.inr (.inr (.inr (.inl rfl))),i_ (j:=3) rfl⟩
 |4,_=>exact⟨_,.inr (.inr (.inr (.inl rfl))),i_ (j:=4) rfl⟩
 |5,_=>exact⟨_,.inr (.inr (.inr (.inr (.inl rfl)))),i_ (j:=5) rfl⟩
 |6,_=>exact⟨_,.inr (.inr (.inr (.inr (.inr (.inl rfl))))),i_ (j:=6) rfl⟩
 |7,_=>exact⟨_,.inr (.inr (.inr (.inr (.inr (.inr (.inl rfl)))))),i_ (j:=7) rfl⟩
 |8,_=>exact⟨_,.inr (.inr (.inr (.inr (.inr (.inr (.inr (.inl rfl))))))),i_ (j:=8) rfl⟩
 |9,_=>exact⟨_,.inr (.inr (.inr (.inr (.inr (.inr (.inr (.inr rfl))))))),i_ (j:=9) rfl⟩
section
variable {k num wide d0 d3 d4 d5 d6:Int}{xs:List D}{j:Nat}{nm fold f0 f1 kd:Str}{fr ab:Lsx}{s3 s5 s8 s9 s10 s11 s12:E3.Slot}
def nf9 (hk:KD kd)(hl:fr.length=6)(hF:fX fold=true)(hf:∀f∈f0::f1::fr,f∈ab)(w0:1<=wide)(w1:wide<=1000000)(e3:aV xs 3=some (.int d3))(e4:aV xs 4=some (.int d4))(e5:aV xs 5=some (.int d5))(p5:0<=d5/\d5<8):RR ab nm M (S6 [.val (.int k),.val (.int num),.val (.ref j),s3,.val (.lst xs),s5,.val (.str nm),.val (.lst ((f0::f1::fr).map .str)),.val (.int wide),.val (.str fold),.val (.str kd),s11,s12] M):=by
 unfold S6;z_go;refine Te (rs:=[]) (fun a b c d e f g=>?_) hF hf w0 w1 e3 e4 e5 p5;have:kd="pour"\/kd="out":=by
  rcases hk with h |h |h |h |h |h |h |h |h
  .exact absurd h a
  .exact absurd h b
  .exact absurd h c
  .exact .inl h
  .exact absurd h d
  .exact absurd h f
  .exact absurd h e
  .exact absurd h g
  .exact .inr h
 rcases this with rfl |rfl
 .have hm:pJ "pour" d5=2+d5%7:=by unfold pJ;rw[xaa rfl]
  have hlen:((f0::f1::fr).take (pJ "pour" d5).toNat).length=(2+d5%7).toNat:=by rw[hm,xaw,xae,xae,hl];lia
  exact zdj (fun f hm=>hf f (xbd hm)) (by rw[hlen];lia) (by rw[hlen];lia)
 .rw[vd (by x_go) (by x_go)];exact zfb (hf f0 (by simp))
def nf6 (hl:fr.length=6)(hf:∀f∈f0::f1::fr,f∈ab)(e0:aV xs 0=some (.int d0))(e3:aV xs 3=some (.int d3))(e4:aV xs 4=some (.int d4))(e5:aV xs 5=some (.int d5))(e6:aV xs 6=some (.int d6))(p0:1<=d0/\d0<11)(p4:0<=d4/\d4<1000000)(p5:0<=d5/\d5<8)(p6:0<=d6/\d6<4):RR ab nm M (S5 [.val (.int k),.val (.int num),.val (.ref j),s3,.val (.lst xs),s5,.val (.str nm),.val (.lst ((f0::f1::fr).map .str)),s8,s9,s10,s11,s12] M):=by
 obtain⟨fold,hF,ef⟩:=zjG (k:=d6);rw[xdE p6.1 p6.2]at ef;obtain⟨kd,hk,ek⟩:=zhE (c:=d0-1) (by lia) (by lia);unfold S5;erw [e4];unfold ZS;erw [e6,ef];unfold ZV;erw [e0,ek];exact nf9 hk hl hF hf (by lia) (by lia) e3 e4 e5 p5
end
variable {M:Mm}
section
variable {k num d0 d3 d4 d5 d6:Int}{j:Nat}{nm:Str}{ab:Lsx}{ds:Lix}{s3 s5 s7 s8 s9 s10 s11 s12:E3.Slot}
def XJ {x:Int}(hj:M[j]? =some (.lst (ab.map .str)))(hn:ab≠ [])(hlen:ab.length<=1000):∃f∈ab,Q7 [.val (.int x),.val (.ref j)] M=some (.v (.str f),M):=Rb hj hn hlen
def nf4 (hj:M[j]? =some (.lst (ab.map .str)))(hab:ab.length<=1000)(hds:ds.length=15)(e0:aV (ds.map D.int) 0=some (.int d0))(e3:aV (ds.map D.int) 3=some (.int d3))(e4:aV (ds.map D.int) 4=some (.int d4))(e5:aV (ds.map D.int) 5=some (.int d5))(e6:aV (ds.map D.int) 6=some (.int d6))(p0:0<=d0/\d0<11)(p4:0<=d4/\d4<1000000)(p5:0<=d5/\d5<8)(p6:0<=d6/\d6<4):RR ab nm M (HN [.val (.int k),.val (.int num),.val (.ref j),s3,.val (.lst (ds.map .int)),s5,.val (.str nm),s7,s8,s9,s10,s11,s12] M):=by
 have hv:vw M (.ref j)=.lst (ab.map .str):=by simp only[vw,hj]
 by_cases h:ab=[]\/d0=0
 .refine RR.no (r:=⟨"in",nm,[],[]⟩) zjg ?_ rfl;unfold HN;z_go;rw[hv,Mf (by rw[Gq];decide)];erw [e0];have t:(if (ab.map D.str).isEmpty=true then some (Res.v (D.bl true),M) else some (Res.v (D.bl (decide (d0=0))),M))=some (Res.v (D.bl true),M):=by
   rcases h with h |h
   .rw[h];rfl
   .rw[h];simp
  rw[t];z_go;rfl
 .have hn:ab≠ []:=fun z=>h (.inl z);have z0:d0≠0:=fun z=>h (.inr z);have t:(if (ab.map D.str).isEmpty=true then some (Res.v (D.bl true),M) else some (Res.v (D.bl (decide (d0=0))),M))=some (Res.v (D.bl false),M):=by
   rw[xac (by simpa using hn),xas z0]
  have hF:∃F:Int->Str,∀x,F x∈ab/\Q7 [.val (.int x),.val (.ref j)] M=some (.v (.str (F x)),M):=⟨fun x=>(XJ (x:=x) hj hn hab).choose,fun x=>(XJ (x:=x) hj hn hab).choose_spec⟩;obtain⟨F,hF⟩:=hF;have hcl:(ds.drop 7).length=8:=by rw[xaU];lia
  have hG:∃f0 f1 fr,(ds.drop 7).map F=f0::f1::fr/\fr.length=6:=by
   generalize ds.drop 7=l at hcl
   match l,hcl with
   |a::b::r,hc=>exact⟨_,_,_,rfl,by simpa using hc⟩
  obtain⟨f0,f1,fr,hG,hl⟩:=hG;have hf:∀f∈f0::f1::fr,f∈ab:=fun f hm=>by
   rw[<-hG,xaV]at hm;obtain⟨x,_,rfl⟩:=hm;exact(hF x).1
  unfold HN;z_go;rw[hv,Mf (by rw[Gq];decide)];erw [e0,t];unfold ZR;z_go;rw[yp,Dq _ (by decide),show(7:Int).toNat=7 by decide];rw[vq (fun x:Int=>D.int x) (fun x=>D.str (F x)) (ds.drop 7) [] (fun x _=>(hF x).2) (by rw[xay,hcl];decide)];z_go;rw[show(ds.drop 7).map (fun x=>D.str (F x))=(f0::f1::fr).map D.str by rw[<-hG,xa4];rfl];exact nf6 hl hf e0 e3 e4 e5 e6 (by lia) p4 p5 p6
end
variable {M:Mm}
def ziL:∀d:Fin 27,(decide ((Txt.slice (Txt.slice "abcdefghijklmnopqrstuvwxyz" (some (d.val:Int)) none) none (some 1)).length<=1)&&(decide ((Txt.slice "abcdefghijklmnopqrstuvwxyz" (some (d.val:Int)) none).length<=26)&&(cd (Txt.slice (Txt.slice "abcdefghijklmnopqrstuvwxyz" (some (d.val:Int)) none) none (some 1))).all pX))=true:=by x_go
theorem zgw {k:Nat}{j:Nat}{ab:Lsx}{num:Int}(hk:k<100)(hj:M[j]? =some (.lst (ab.map .str)))(hab:ab.length<=1000):∃r E,RK ab r/\(lJ r.nm=true/\wd r.nm/\(cd r.nm).filter (fun c=>decide (c<=57))=cd (eF k))/\DG [.int k,.int num,.ref j] M=some (.v (RW.D r),M++E):=by
 obtain⟨ds,y,⟨hl,hg⟩,ed⟩:=zha (M:=M) (ss:=[11,26,27,40,1000000,8,4,64,64,64,64,64,64,64,64]) (num:=num) (by decide) (by decide);have ix:∀(i:Nat) (s:Int),([11,26,27,40,1000000,8,4,64,64,64,64,64,64,64,64]:Lix)[i]? =some s->∃g,aV (ds.map D.int) (i:Int)=some (.int g)/\0<=g/\g<s:=fun i s h=>by
  obtain⟨g,g1,g2⟩:=hg i s h;exact⟨g,i_ (by rw[xau,g1];rfl),g2⟩
 obtain⟨d0,e0,p0⟩:=ix 0 _ rfl;obtain⟨d1,e1,p1⟩:=ix 1 _ rfl;obtain⟨d2,e2,p2⟩:=ix 2 _ rfl;obtain⟨d3,e3,p3⟩:=ix 3 _ rfl;obtain⟨d4,e4,p4⟩:=ix 4 _ rfl;obtain⟨d5,e5,p5⟩:=ix 5 _ rfl;obtain⟨d6,e6,p6⟩:=ix 6 _ rfl;have e1':aV (ds.map D.int) 1=some (.int d1):=e1;have e2':aV (ds.map D.int) 2=some (.int d2):=e2;have hl26:(cd "abcdefghijklmnopqrstuvwxyz").length=26:=by x_go
 have hx:=xaj (show d1.toNat<(cd "abcdefghijklmnopqrstuvwxyz").length by lia);have hlt:=Zg _ (xbz (show d1.toNat<(cd "abcdefghijklmnopqrstuvwxyz").length by lia));generalize (cd "abcdefghijklmnopqrstuvwxyz")[d1.toNat]'(by lia)=c at hx hlt;have ha:=i_ hx;rw[xbk p1.1]at ha;have so:=ziL ⟨d2.toNat,by lia⟩;have z2:((d2.toNat:Nat):Int)=d2:=xbk p2.1;simp only[z2]at so;generalize hsl:Txt.slice (Txt.slice "abcdefghijklmnopqrstuvwxyz" (some d2) none) none (some 1)=w2 at so;rw[xak,xak,xaH,xaH,xaX]at so;obtain⟨wl,_⟩:=QZ (i:=(k:Int)) (by lia) (by lia);have hN:=Z9 (nm:=(⟨#[c]⟩++w2)++eF k) (as:=c::cd w2) (bs:=[]) (k:=(k:Int)) (by rw[wR,wR,xaA];rfl) (by simp) (by rw[xae,xa6, <-gY];lia) (fun x hx=>by
  rw[xaA]at hx;rcases xaz.mp hx with rfl |hx
  .exact hlt
  .exact so.2.2 x hx) (by lia) (by lia)
 obtain⟨r,E,hr,rfl',e⟩:=nf4 (M:=M) (k:=k) (num:=y) (nm:=(⟨#[c]⟩++w2)++eF k) (s3:=.val (.lst (([11,26,27,40,1000000,8,4,64,64,64,64,64,64,64,64]:Lix).map .int))) (s5:=.val (.str "abcdefghijklmnopqrstuvwxyz")) (s7:=.un) (s8:=.un) (s9:=.un) (s10:=.un) (s11:=.un) (s12:=.un) hj hab hl e0 e3 e4 e5 e6 p0 p4 p5 p6;refine⟨r,E,hr,by rw[rfl'];exact hN,?_⟩;simp only[xai,xbE]at ed e;have er:∀env,Mv (aX (au (aj (.int 64)) aq)) (aj (.int 8)) env M=some (.v (.lst [.int 64,.int 64,.int 64,.int 64,.int 64,.int 64,.int 64,.int 64]),M):=fun _=>rfl;unfold DG J8;erw [er];unfold ZL;erw [ed];unfold ZP;z_go;unfold ZQ;erw [e1'];rw[xaa (by x_go),show(Str.ofString "abcdefghijklmnopqrstuvwxyz").cps.toList=cd "abcdefghijklmnopqrstuvwxyz" from rfl,ha];erw [e2',xaa (by x_go),xaa (xaN so.2.1 (by decide))];rw[hsl,xaa (show(⟨#[c]⟩:Str).length+w2.length<=16777216 from by show 1+w2.length<=16777216;lia)];erw [xaa (sY (by lia) (by lia))];have wl':(Str.ofString (toString (k:Int))).length<=22:=wl;rw[xaa (by rw[xbG];show 1+w2.length+_<=_;lia)];z_go;show lD (HN _ M)=_;rw[show Str.ofString (toString (k:Int))=eF k from rfl,e];rfl
variable {M:Mm}
def zf3 {cs:Lix}{b:Bool}(hc:cs.length<=60):∃rs E ab,GS rs ab/\rs.length=cs.length/\GR [.lst (cs.map .int),.bl b] M=some (.v (.lst (rs.map RW.D)),M++E):=by
 have lp:∃rs E ab s3 s4,GS rs ab/\rs.length=cs.length/\loopS 4 Hw ((List.range cs.length).map fun(k:Nat)=>D.int (0+k)) [.val (.lst (cs.map .int)),.val (.bl b),.own [],.val (.ref M.length),.un,.un] (M++[.lst []])=some (.nx [.val (.lst (cs.map .int)),.val (.bl b),.own (rs.map RW.D),.val (.ref M.length),s3,s4],M++E):=by
  refine Hz (fun o=>∃rs E ab s3 s4,GS rs ab/\rs.length=cs.length/\o=some (.nx [.val (.lst (cs.map .int)),.val (.bl b),.own (rs.map RW.D),.val (.ref M.length),s3,s4],M++E))
   (fun k env N=>∃(rs:List RW) (ab:Lsx) (E:Mm) (s3 s4:E3.Slot),GS rs ab/\rs.length=k/\ab.length<=k/\N=M++[.lst (ab.map .str)]++E/\env=[.val (.lst (cs.map .int)),.val (.bl b),.own (rs.map RW.D),.val (.ref M.length),s3,s4])
   ⟨[],[],[],.un,.un,GS.nil,rfl,xag _,(by rw[xaA];rfl),rfl⟩ ?_ ?_
  .rintro k d env N hd ⟨rs,ab,E,s3,s4,hrs,hlen,hab,rfl,rfl⟩;have hk:k<cs.length:=by
    have:=(xao.mp hd).1
    simpa using this
   rw[xau,xcj hk,xaR]at hd;cases hd;refine⟨by show 4<6;decide,?_⟩;have hx:(cs.map D.int)[k]? =some (.int (cs[k]'hk)):=by rw[xau,xaj hk];rfl
   have ha:=i_ hx;have hj:(M++[Cl.lst (ab.map .str)]++E)[M.length]? =some (.lst (ab.map .str)):=by
    rw[xa5 (by simp),xaW (xag _)]
    simp
   have hrow:∃r E2,RK ab r/\(lJ r.nm=true/\wd r.nm/\(cd r.nm).filter (fun c=>decide (c<=57))=cd (eF k))/\eV (gF (ak 1)) (ao (aH 5 (eX DG (au (ak 4) (au (s2 aO (ak 0) (ak 4)) (au (ak 3) aq))))) aC) (ao (aH 5 (eX Dz (au (ak 4) (au (eX wY (au (s2 aN (s2 aO (ak 0) (ak 4)) (s2 fP (aj (.int 31)) (ak 4))) (au (aj (.int 11)) aq))) (au (ak 3) aq))))) aC) [.val (.lst (cs.map .int)),.val (.bl b),.own (rs.map RW.D),.val (.ref M.length),.val (.int k),s4] (M++[.lst (ab.map .str)]++E)=some (.nx [.val (.lst (cs.map .int)),.val (.bl b),.own (rs.map RW.D),.val (.ref M.length),.val (.int k),.val (RW.D r)],M++[.lst (ab.map .str)]++E++E2):=by
    cases b with
    |true=>
     obtain⟨r,E2,hr,hnm,er⟩:=zgw (M:=M++[.lst (ab.map .str)]++E) (k:=k) (j:=M.length) (ab:=ab) (num:=cs[k]'hk) (by lia) hj (by lia);refine⟨r,E2,hr,hnm,?_⟩;generalize hN:M++[Cl.lst (ab.map .str)]++E=N at *;erw [ha,er]
    |false=>
     obtain⟨ns,n1,n2,n3⟩:=Bu (n:=cs[k]+31*(k:Int)) (m:=11) (by decide);obtain⟨r,E2,hr,hnm,er⟩:=zjK (M:=M++[.lst (ab.map .str)]++E) (k:=k) (j:=M.length) (ab:=ab) (ns:=ns) (by lia) hj (by lia) n1 n2;have n3':=n3 (M++[.lst (ab.map .str)]++E);rw[show((11:Nat):Int)=11 from rfl]at n3';refine⟨r,E2,hr,hnm,?_⟩;generalize hN:M++[Cl.lst (ab.map .str)]++E=N at *;erw [ha,n3',er]
   obtain⟨r,E2,hr,hnm,er⟩:=hrow;show Step _ _ (Hw [.val (.lst (cs.map .int)),.val (.bl b),.own (rs.map RW.D),.val (.ref M.length),.val (.int (0+k)),s4] _);have z:(0:Int)+(k:Int)=k:=by lia
   rw[z];have go:Hw [.val (.lst (cs.map .int)),.val (.bl b),.own (rs.map RW.D),.val (.ref M.length),.val (.int k),s4] (M++[.lst (ab.map .str)]++E)=some (.nx [.val (.lst (cs.map .int)),.val (.bl b),.own ((rs++[r]).map RW.D),.val (.ref M.length),.val (.int k),.val (RW.D r)],M++[.lst ((if r.w="out" then ab else ab++[r.nm]).map .str)]++(E++E2)):=by
    unfold Hw;generalize hN:M++[Cl.lst (ab.map .str)]++E=N at *;rw[IK,er];z_go;rw[xaa (by lia)];unfold RW.D tM;z_go;have hj2:(N++E2)[M.length]? =some (.lst (ab.map .str)):=by
     rw[xa5 (by rw[<-hN];simp)];exact hj
    by_cases ho:r.w=Str.ofString "out"
    .rw[xac (fun z=>z ho)];z_go;rw[xaa ho, <-hN]
     simp
    .rw[xaa ho,hj2];erw [xaa (by lia)];rw[xac ho, <-hN];have hs:(M++[Cl.lst (ab.map .str)]++E++E2).set M.length (.lst (ab.map .str++[.str r.nm]))=M++[Cl.lst ((ab++[r.nm]).map .str)]++(E++E2):=by
      rw[xaq,xaq,xcW _ _ (xag _),xb3]
      simp
     rw[hs]
     simp
   rw[go];refine⟨rs++[r],_,_,_,_,hrs.add (by lia) hr (by rw[hlen];exact hnm),by rw[xaf,xaC,hlen],?_,rfl,rfl⟩
   split
   .lia
   .rw[xaf,xaC];lia
  .rintro env N ⟨rs,ab,E,s3,s4,hrs,hlen,hab,rfl,rfl⟩;rw[xah,xca]at hlen;exact⟨rs,[.lst (ab.map .str)]++E,ab,s3,s4,hrs,hlen,by rw[xaq]⟩
 obtain⟨rs,E,ab,s3,s4,h1,h2,lp⟩:=lp;refine⟨rs,E,ab,h1,h2,?_⟩;unfold GR Qa;z_go;rw[Cz (by lia),xbu];erw [lp]
def KR {ns:Lix}{k:Int}{M:Mm}(hk:0<=k):wX [.lst (ns.map .int),.int k] M=some (.v (.int (ns.getD k.toNat 0)),M):=by
 unfold wX Pr;z_go
 by_cases h:k<(ns.length:Int)
 .rw[xaa h];z_go;have e:aV (ns.map D.int) k=some (.int (ns.getD k.toNat 0)):=by
   obtain⟨j,rfl⟩:∃j:Nat,k=j:=⟨k.toNat,by lia⟩;refine i_ ?_;have:j<ns.length:=by lia
   rw[xau,xaj this]
   simp[List.getD,this]
  rw[e];z_go
 .rw[xac h];z_go
  simp[List.getD,List.getElem?_eq_none (show ns.length<=k.toNat by lia)]
def zdV {ns:Lix}(hn:ns.length<=63):∃cs:Lix,1<=cs.length/\cs.length<=41/\∀M:Mm,Du [.lst (ns.map .int)] M=some (.v (.lst (cs.map .int)),M):=by
 generalize hc:ns.getD 0 0=c;have gc:∀M:Mm,wX [.lst (ns.map .int),.int 0] M=some (.v (.int c),M):=fun M=>by rw[KR (by decide), <-hc];rfl
 by_cases h:c%8=1
 .obtain⟨xs,h1,h2,h3⟩:=Bu (n:=c/8) (m:=(1+c/8%30).toNat) (by lia);refine⟨xs,by lia,by lia,fun M=>?_⟩;have e:=h3 M;rw[show(((1+c/8%30).toNat:Nat):Int)=1+c/8%30 by lia]at e;unfold Du J3;erw [gc];simp only[h];erw [e]
 .refine⟨(c/8)::(ns.drop 1).take 11,by simp,by rw[xae,xaw];lia,fun M=>?_⟩;unfold Du J3;erw [gc];simp only[h];z_go;rw[yp,Gk _ (by decide) (by decide),show((12:Int).toNat-(1:Int).toNat)=11 by decide,show(1:Int).toNat=1 by decide];erw [xaa (by rw[xaw];lia)]
def zdX (x:Str)(c:Nat):Txt.split x ⟨#[c]⟩≠ []/\(∀p∈Txt.split x ⟨#[c]⟩,c∉cd p)/\cd x=jn c ((Txt.split x ⟨#[c]⟩).map cd):=by
 have key:∀l:Lnx,∃ps:Lsx,ps≠ []/\(∀p∈ps,c∉cd p)/\l=jn c (ps.map cd):=fun l=>by
  induction l with
  |nil=>exact⟨[⟨#[]⟩],by simp,fun p hp=>by rw[xaG]at hp;rw[hp];exact xdO,rfl⟩
  |cons d l ih=>
   obtain⟨ps,h1,h2,h3⟩:=ih
   cases ps with
   |nil=>exact absurd rfl h1
   |cons p ps=>
    by_cases hd:d=c
    .subst hd;refine⟨⟨#[]⟩::p::ps,by simp,fun q hq=>?_,?_⟩
     .rcases xaz.mp hq with rfl |hq
      .exact xdO
      .exact h2 q hq
     .rw[h3];rfl
    .refine⟨⟨(d::cd p).toArray⟩::ps,by simp,fun q hq=>?_,?_⟩
     .rcases xaz.mp hq with rfl |hq
      .show c∉d::cd p;exact fun z=>(xaz.mp z).elim (fun z=>hd z.symm) (h2 p xax)
      .exact h2 q (xat _ hq)
     .rw[h3];cases ps<;>rfl
 obtain⟨ps,h1,h2,h3⟩:=key (cd x);rw[Oh h1 h2 h3];exact⟨h1,h2,h3⟩
theorem YF {c d:Nat}:∀(ps:List (Lnx)) (p:Lnx),p∈ps->d∈p->d∈jn c ps
 | [q],p,hp,hd=>by rw[xaG]at hp;subst hp;exact hd
 |q::r::ps,p,hp,hd=>by
  show d∈q++c::jn c (r::ps);rcases xaz.mp hp with rfl |hp
  .exact xav.mpr (.inl hd)
  .exact xav.mpr (.inr (xat _ (YF (r::ps) p hp hd)))
theorem YH {c:Nat}:∀(ps:List (Lnx)) (p:Lnx),p∈ps->p.length<=(jn c ps).length
 | [q],p,hp=>by rw[xaG]at hp;subst hp;exact xag _
 |q::r::ps,p,hp=>by
  show p.length<=(q++c::jn c (r::ps)).length;rw[xaf,xae];rcases xaz.mp hp with rfl |hp
  .lia
  .have:=YH (c:=c) (r::ps) p hp;lia
theorem YD {c:Nat}:∀(ps:List (Lnx)),ps≠ []->(∀p∈ps,c∉p)->(jn c ps).count c+1=ps.length
 | [],h,_=>absurd rfl h
 | [q],_,h=>by
  show q.count c+1=1;rw[xdh (h q xax)]
 |q::r::ps,_,h=>by
  have ih:=YD (c:=c) (r::ps) (by simp) fun p hp=>h p (xat _ hp);show(q++c::jn c (r::ps)).count c+1=_;rw[xdF,List.count_cons_self,xdh (h q xax),xae, <-ih];lia
def LL (B C:Nat)(l:Str):Prop:=l.length<=B/\(∀c∈cd l,c<4294967296/\c≠10)/\(cd l).count 32<=C
noncomputable def aZ (l:Str):Lsx:=Txt.split l " "
def Bb (l:Str):aZ l≠ []/\(∀p∈aZ l,32∉cd p)/\cd l=jn 32 ((aZ l).map cd):=by
 unfold aZ;rw[yU];exact zdX l 32
def wG (l:Str):(aZ l).length=(cd l).count 32+1:=by
 obtain⟨h1,h2,h3⟩:=Bb l;have:=YD (c:=32) ((aZ l).map cd) (by simpa using h1) (fun p hp=>by
  obtain⟨q,hq,rfl⟩:=xaV.mp hp;exact h2 q hq)
 rw[<-h3,xah]at this;lia
def Fl {l w:Str}(h:w∈aZ l):w.length<=l.length/\∀c∈cd w,c∈cd l:=by
 obtain⟨h1,h2,h3⟩:=Bb l;have hm:cd w∈(aZ l).map cd:=xaV.mpr ⟨w,h,rfl⟩;refine⟨?_,fun c hc=>?_⟩
 .rw[gY,gY,h3];exact YH _ _ hm
 .rw[h3];exact YF _ _ hm hc
def LL.ln {l:Str}(h:LL 9000 800 l):Ln l (aZ l):=by
 obtain⟨h1,h2,h3⟩:=h;refine⟨rfl,by lia,fun x hx=>?_,by rw[wG];lia⟩;obtain⟨a,b⟩:=Fl hx;exact⟨by lia,fun c hc=>(h2 c (b c hc)).1⟩
def zec (l:Str):Txt.join " " (aZ l)=l:=QG (by rw[DR yU, <-(Bb l).2.2])
def Wi {ws:Lsx}(hn:ws≠ [])(h:∀w∈ws,32∉cd w):aZ (Txt.join " " ws)=ws:=by
 have e:=DR yU ws;unfold aZ;generalize Txt.join " " ws=l at e ⊢;rw[yU];exact Oh hn h e
def U5 {ws:Lsx}{r:RW}(h:fM ws=some r):r.ws=ws:=by
 cases hb:lE ws with
 |false=>rw[U3 hb]at h;cases h
 |true=>
  obtain⟨w,nm,q,f,rfl,_,e⟩:=U4 hb;rw[e]at h;cases h;show w::nm::(q.take f++q.drop f)=_;rw[xbo]
theorem Ig (acc:List RW)(r:RW):acc.map jj++[(r.nm,r.w)]=(acc++[r]).map jj:=by
 rw[xaI];rfl
theorem zfi:∀(as bs:List (Lsx)) (n:Nat) (acc rows:List RW),g_ as n (acc.map jj) acc=.inl rows->g_ (as++bs) n (acc.map jj) acc=g_ bs (n+as.length) (rows.map jj) rows
 | [],bs,n,acc,rows,h=>by cases h;rfl
 |a::as,bs,n,acc,rows,h=>by
  rw[xbX,g_];rw[g_]at h
  cases hp:fM a with
  |none=>rw[hp]at h;cases h
  |some r=>
   rw[hp]at h;dsimp only at h ⊢;kjx_on
   .rename_i hm;rw[xaa hm];rw[Ig]at h ⊢;rw[zfi as bs (n+1) (acc++[r]) rows h,xae,show n+1+as.length=n+(as.length+1) by lia]
   .cases h
theorem UW:∀(ws:List (Lsx)) (n:Nat) (acc:List RW) (c:Str) (m:Nat),g_ ws n (acc.map jj) acc=.inr (c,m)->∃as w bs rows,ws=as++w::bs/\m=n+as.length/\g_ as n (acc.map jj) acc=.inl rows/\((c="NoText"/\fM w=none)\/(c="NoName"/\∃r,fM w=some r/\gD (rows.map jj) r.nm r.fr=false))
 | [],n,acc,c,m,h=>by cases h
 |a::as,n,acc,c,m,h=>by
  rw[g_]at h
  cases hp:fM a with
  |none=>
   rw[hp]at h;cases h;exact⟨[],a,as,acc,rfl,rfl,rfl,.inl ⟨rfl,hp⟩⟩
  |some r=>
   rw[hp]at h;dsimp only at h;kjx_on
   .rename_i hm;rw[Ig]at h;obtain⟨xs,w,bs,rows,e1,e2,e3,e4⟩:=UW as (n+1) (acc++[r]) c m h;refine⟨a::xs,w,bs,rows,by rw[e1];rfl,by rw[xae];lia,?_,e4⟩;rw[g_,hp];dsimp only;rw[xaa hm,Ig];exact e3
   .rename_i hm;cases h;exact⟨[],a,as,acc,rfl,rfl,rfl,.inr ⟨rfl,r,hp,by simpa using hm⟩⟩
def zlL {as bs:List (Lsx)}{w:Lsx}{n:Nat}{acc rows:List RW}{c:Str}(h:g_ as n (acc.map jj) acc=.inl rows)(hc:(c="NoText"/\fM w=none)\/(c="NoName"/\∃r,fM w=some r/\gD (rows.map jj) r.nm r.fr=false)):g_ (as++w::bs) n (acc.map jj) acc=.inr (c,n+as.length):=by
 rw[zfi as (w::bs) n acc rows h,g_];rcases hc with⟨rfl,hp⟩ |⟨rfl,r,hp,hm⟩
 .rw[hp]
 .rw[hp];dsimp only;rw[xac (by rw[hm];decide)]
theorem Mt:∀(ws:List (Lsx)) (n:Nat) (acc rows:List RW),g_ ws n (acc.map jj) acc=.inl rows->∃rs,rows=acc++rs/\rs.map RW.ws=ws/\∀(as:List RW) (r:RW) (bs:List RW),rs=as++r::bs->fM r.ws=some r/\gD ((acc++as).map jj) r.nm r.fr=true
 | [],n,acc,rows,h=>by
  cases h;exact⟨[],(xaA _).symm,rfl,fun as r bs e=>by cases as<;>cases e⟩
 |a::ws,n,acc,rows,h=>by
  rw[g_]at h
  cases hp:fM a with
  |none=>rw[hp]at h;cases h
  |some r=>
   rw[hp]at h;dsimp only at h;kjx_on
   .rename_i hm;rw[Ig]at h;obtain⟨rs,e1,e2,e3⟩:=Mt ws (n+1) (acc++[r]) rows h;refine⟨r::rs,by rw[e1,xaq];rfl,by rw[xai,e2,U5 hp],fun as q bs e=>?_⟩
    cases as with
    |nil=>
     cases e;exact⟨by rw[U5 hp];exact hp,by rw[xaA];exact hm⟩
    |cons b as=>
     cases e;have:=e3 as q bs rfl;rw[xaq]at this;exact this
   .cases h
def LL.put {B C i c:Nat}{l q:Str}(h:LL B C l)(h1:c<4294967296)(h2:c≠10)(e:cd q=(cd l).take i++c::(cd l).drop i):LL (B+1) (C+1) q:=by
 obtain⟨a,b,d⟩:=h;have hs:(cd l).take i++(cd l).drop i=cd l:=xbo i (cd l);refine⟨?_,fun x hx=>?_,?_⟩
 .have hl:=congrArg List.length hs;rw[xaf]at hl;rw[gY,e,xaf,xae];rw[gY]at a;lia
 .rw[e,xav,xaz]at hx;rcases hx with hx |rfl |hx
  .exact b x (xbd hx)
  .exact⟨h1,h2⟩
  .exact b x (xbr hx)
 .have hl:=congrArg (List.count 32) hs;rw[xdF]at hl;rw[e,xdF,List.count_cons]
  split<;>lia
def LL.cut {B C i j:Nat}{l q:Str}(h:LL B C l)(hij:i<=j)(e:cd q=(cd l).take i++(cd l).drop j):LL B C q:=by
 obtain⟨a,b,d⟩:=h;have hs:((cd l).take i++(cd l).drop j).Sublist (cd l):=by
  have h1:((cd l).drop j).Sublist ((cd l).drop i):=by
   obtain⟨k,rfl⟩:∃k,j=i+k:=⟨j-i,by lia⟩;rw[<-List.drop_drop];exact List.drop_sublist _ _
  have h2:=(List.Sublist.refl ((cd l).take i)).append h1
  rwa [xbo]at h2
 rw[<-e]at hs;refine⟨?_,fun x hx=>b x (hs.subset hx),?_⟩
 .have:=hs.length_le;rw[gY]at a ⊢;lia
 .have:=hs.count_le 32;lia
def LL.up {B C B' C':Nat}{l:Str}(h:LL B C l)(hb:B<=B')(hc:C<=C'):LL B' C' l:=⟨xaN h.1 hb,h.2.1,xaN h.2.2 hc⟩
theorem YJ {c:Nat}:∀(ps:List (Lnx)),ps≠ []->(jn c ps).length+1=(ps.map List.length).sum+ps.length
 | [],h=>absurd rfl h
 | [q],_=>by
  show q.length+1=(q.length+0)+1;lia
 |q::r::ps,_=>by
  have ih:=YJ (c:=c) (r::ps) (by simp);show(q++c::jn c (r::ps)).length+1=(q.length+((r::ps).map List.length).sum)+((r::ps).length+1);rw[xaf,xae];lia
def sz (ws:Lsx):Nat:=((ws.map cd).map List.length).sum
def Vq (a b:Lsx):sz (a++b)=sz a+sz b:=by
 unfold sz;rw[xaI,xaI,List.sum_append]
def Fe (l:Str):l.length+1=sz (aZ l)+(aZ l).length:=by
 obtain⟨h1,_,h3⟩:=Bb l;have:=YJ (c:=32) ((aZ l).map cd) (by simpa using h1);rw[<-h3, <-gY,xah]at this;exact this
theorem LL.ws {B C:Nat}{ws:Lsx}(hn:ws≠ [])(h:∀w∈ws,∀c∈cd w,c<4294967296/\c≠10/\c≠32)(hs:sz ws+ws.length<=B+1)(hc:ws.length<=C+1):LL B C (Txt.join " " ws):=by
 have e:=Wi hn (fun w hw z=>(h w hw 32 z).2.2 rfl);have s:=Fe (Txt.join " " ws);have l:=wG (Txt.join " " ws);rw[e]at s l;refine⟨by lia,fun c hc=>?_,by lia⟩;rw[DR yU]at hc;rcases K8 _ hc with rfl |⟨p,hp,z⟩
 .decide
 .obtain⟨w,hw,rfl⟩:=xaV.mp hp;exact⟨(h w hw c z).1,(h w hw c z).2.1⟩
def LL.wd {B C:Nat}{l w:Str}(h:LL B C l)(hw:w∈aZ l):∀c∈cd w,c<4294967296/\c≠10/\c≠32:=fun c hc=>⟨(h.2.1 c ((Fl hw).2 c hc)).1,(h.2.1 c ((Fl hw).2 c hc)).2,fun z=>(Bb l).2.1 w hw (z ▸ hc)⟩
theorem QT {x:Str}{j:Int}(h:0<=j):cd (Txt.slice x (some j) none)=(cd x).drop j.toNat:=by
 by_cases hj:j<=x.length
 .exact Vf ⟨h,hj⟩
 .rw[slice_from_beyond (by lia),xcr (by rw[<-gY];lia)];rfl
def zfD {n a k:Int}(ha:0<=a/\a<=n):∃j:Int,0<=j/\j<=n/\aV [D.int a,.int a,.int n,.int 0] (k%4)=some (.int j):=by
 have:k%4=0\/k%4=1\/k%4=2\/k%4=3:=by lia
 rcases this with e |e |e |e<;>rw[e]
 .exact⟨a,ha.1,ha.2,at0⟩
 .exact⟨a,ha.1,ha.2,at1⟩
 .exact⟨n,by lia,Int.le_refl _,at2⟩
 .exact⟨0,by lia,by lia,Ge⟩
def zlX {k:Int}:∃c:Nat,c<4294967296/\c≠10/\aV (cd " ab in ot vw 0189-+<=Z.") (k%23)=some c:=by
 have h:(cd " ab in ot vw 0189-+<=Z.").length=23/\∀c∈cd " ab in ot vw 0189-+<=Z.",c<4294967296/\c≠10:=by x_go
 generalize cd " ab in ot vw 0189-+<=Z."=l at h;have hx:=xaj (show(k%23).toNat<l.length by lia);have ha:=i_ hx;rw[xbk (by lia)]at ha;have hc:=h.2 _ (xaS hx);exact⟨_,hc.1,hc.2,ha⟩
def zf1 {B C:Nat}{l:Str}{x w:Int}(h:LL B C l)(hB:B<=9000):∃q,LL (B+1) (C+1) q/\∀M:Mm,DK [.str l,.int x,.int w] M=some (.v (.str q),M):=by
 have h1:=h.1;have hl:l.length<=16777216:=by lia
 have hm:0<(l.length:Int)+1:=by lia
 have p0:=xaL x (show(l.length:Int)+1≠0 by lia);have p1:=xaK x (show 0<(l.length:Int)+1 by lia);obtain⟨a,a0,a1,ea⟩:=zfD (n:=(l.length:Int)) (k:=x/943) ⟨p0,by lia⟩;have t1:(Txt.slice l none (some a)).length<=9000:=by
  rw[gY,Jo ⟨a0,a1⟩,xaw, <-gY];lia
 have t2:∀j:Int,0<=j->(Txt.slice l (some j) none).length<=9000:=fun j hj=>by
  rw[gY,QT hj,xaU, <-gY];lia
 by_cases hw:w=3
 .refine⟨Txt.slice l none (some a)++Txt.slice l (some (a+1)) none,(h.cut (i:=a.toNat) (j:=(a+1).toNat) (by lia) (by rw[wR,Jo ⟨a0,a1⟩,QT (by lia)])).up (by lia) (by lia),fun M=>?_⟩;have:=t2 (a+1) (by lia);unfold DK J9;erw [xaa hl,xaa hm,xaa hl,xaa hm,xaa hl,ea];simp only[hw];erw [xaa hl,xaa hl,xaa (by lia)]
 .obtain⟨c,c1,c2,ec⟩:=zlX (k:=x/41);refine⟨Txt.slice l none (some a)++⟨#[c]⟩++Txt.slice l (some a) none,h.put (i:=a.toNat) c1 c2 (by rw[wR,wR,Jo ⟨a0,a1⟩,QT a0,xaq];rfl),fun M=>?_⟩;have:=t2 a a0;have e1:(⟨#[c]⟩:Str).length=1:=rfl;unfold DK J9;erw [xaa hl,xaa hm,xaa hl,xaa hm,xaa hl,ea];simp only[hw];erw [xaa hl];rw[xaa (by x_go),show(Str.ofString " ab in ot vw 0189-+<=Z.").cps.toList=cd " ab in ot vw 0189-+<=Z." from rfl,ec];erw [xaa (by lia),xaa hl,xaa (by rw[xbG];lia)]
section
variable {M M1 M2:Mm}{i n:Nat}{g v:E}{env:E3.Env}{ds:List D}{x:D}
def Eh (h0:v env M=some (.v x,M1))(he:env[i]? =some (.own ds))(h1:g env M1=some (.v (.int n),M2))(hn:n<ds.length):yD i g v env M=some (.nx (env.set i (.own (ds.set n x))),M2):=by
 have e:wA ds.length (n:Int)=some n:=by unfold wA;simp[hn]
 simp only[yD,fK,h0,he,h1,e]
theorem zh4 (he:env[i]? =some (.own ds))(h1:g env M=some (.v (.int n),M1))(h2:v env M1=some (.v x,M2))(hn:n<=ds.length)(hl:ds.length<=100):Jd i g v env M=some (.nx (env.set i (.own (ds.take n++x::ds.drop n))),M2):=by
 simp only[Jd,fK,h1,he,h2];rw[xaa ⟨by lia,by lia,by lia⟩];rfl
def zjJ (he:env[i]? =some (.own ds))(h1:g env M=some (.v (.int n),M1))(hn:n<ds.length)(hl:ds.length<=100):Je i g env M=some (.nx (env.set i (.own (ds.eraseIdx n))),M1):=by
 have e:zG (n:Int) ds=some (ds[n],ds.eraseIdx n):=by
  unfold zG;rw[xaa (by lia),show seqIndex? (n:Int) ds.length=some n by simp[seqIndex?,hn,show ¬ (n:Int)<0 by lia]]
  simp[hn]
 simp only[Je,fK,he,h1,e]
end
def Bl {ls:Lsx}{a:Nat}(h:a<ls.length):aV (ls.map D.str) (a:Int)=some (.str ls[a]):=i_ (by rw[xau,xaj h];rfl)
def Le {n:Nat}(h:0<n)(x:Int):∃a:Nat,a<n/\x%(n:Int)=a:=by
 have p0:=xaL x (show(n:Int)≠0 by lia);have p1:=xaK x (show 0<(n:Int) by lia);exact⟨(x%(n:Int)).toNat,by lia,by lia⟩
def Dn {P:Str->Prop}{ls:Lsx}{i:Nat}{q:Str}(h:∀l∈ls,P l)(hq:P q):∀l∈ls.set i q,P l:=fun l hl=>(xcc hl).elim (h l) fun e=>e ▸ hq
theorem vo {l:Str}(h:l.length<=9000):tV l [.str " "]=some (.lst ((aZ l).map .str)):=by
 rw[V7,xaa ⟨by x_go,by rw[xay];lia⟩];rfl
theorem yK (ws:Lsx):(ws.map (·.length)).sum=sz ws:=by
 unfold sz;rw[xa4];rfl
theorem Vr:∀(ws:Lsx) (i:Nat) (w:Str),sz (ws.set i w)<=sz ws+w.length
 | [],i,w=>xbP _
 |a::ws,0,w=>by
  show sz (w::ws)<=_;rw[<-yK, <-yK,xai,xai,xaT,xaT];lia
 |a::ws,i+1,w=>by
  have:=Vr ws i w;rw[<-yK, <-yK]at *;rw[List.set_cons_succ,xai,xai,xaT,xaT];lia
theorem zgR:∀(ws:Lsx) (i:Nat),sz (ws.drop i)<=sz ws
 |ws,0=>xag _
 | [],i+1=>xag _
 |a::ws,i+1=>by
  have:=zgR ws i;rw[<-yK, <-yK]at *;rw[List.drop_succ_cons,xai,xaT];lia
def LL.w5 {B C i:Nat}{l m w:Str}(h:LL B C l)(hm:LL B C m)(hw:w∈aZ m):LL (B+B+1) (C+2) (Txt.join " " ((aZ l).set i w)):=by
 have s1:=Fe l;have s2:=Vr (aZ l) i w;have s3:=wG l;have s4:=(Fl hw).1;refine LL.ws (fun e=>?_) (Dn (fun u hu=>h.wd hu) (hm.wd hw)) ?_ ?_
 .have:=congrArg List.length e;rw[xaO,s3]at this;cases this
 .rw[xaO];have:=h.1;have:=hm.1;lia
 .rw[xaO];have:=h.2.2;lia
def LL.w6 {B C:Nat}{l m:Str}(h:LL B C l)(hm:LL B C m):LL (B+B+1) (C+2) (Txt.join " " ((aZ l).take 2++((aZ m).drop 1).take 1++(aZ l).drop 3)):=by
 have s1:=Fe l;have s3:=wG l;have s5:=Vq ((aZ l).take 2) ((aZ l).drop 2);rw[xbo]at s5;have s6:sz ((aZ l).drop 3)<=sz ((aZ l).drop 2):=by
  have:=zgR ((aZ l).drop 2) 1;rw[List.drop_drop]at this;exact this
 have s7:sz (((aZ m).drop 1).take 1)<=B/\∀w∈((aZ m).drop 1).take 1,w∈aZ m:=by
  refine⟨?_,fun w hw=>xbr (xbd hw)⟩
  cases e:(aZ m).drop 1 with
  |nil=>exact xbP _
  |cons w r=>
   have:=(Fl (l:=m) (w:=w) (xbr (i:=1) (by rw[e];exact xax))).1;have:=hm.1;rw[<-yK];show w.length+0<=B;lia
 refine LL.ws (fun e=>?_) (fun w hw=>?_) ?_ ?_
 .have:=congrArg List.length e;rw[xaf,xaf,xaw,xa6]at this;lia
 .rw[xav,xav]at hw;rcases hw with(hw |hw) |hw
  .exact h.wd (xbd hw)
  .exact hm.wd (s7.2 w hw)
  .exact h.wd (xbr hw)
 .rw[Vq,Vq,xaf,xaf,xaw,xaw,xaU,xaU];have:=h.1;lia
 .rw[xaf,xaf,xaw,xaw,xaU,xaU];have:=h.2.2;lia
theorem X4 {α β:Type}(f:α->β):∀(l:List α) (i:Nat),(l.map f).eraseIdx i=(l.eraseIdx i).map f
 | [],_=>rfl
 |_::_,0=>rfl
 |a::l,i+1=>congrArg (f a:: ·) (X4 f l i)
def zcl {B C:Nat}{ls:Lsx}{x y:Int}(h0:ls≠ [])(hn:ls.length<=60)(hl:∀l∈ls,LL B C l)(hB:B<=4499)(hC:C<=700):∃ls':Lsx,ls'≠ []/\ls'.length<=ls.length+1/\(∀l∈ls',LL (B+B+1) (C+2) l)/\∀M:Mm,yt [.lst (ls.map .str),.int x,.int y] M=some (.v (.lst (ls'.map .str)),M):=by
 have hp:0<ls.length:=xdj.mpr h0;have hp':0<(ls.length:Int):=by lia
 obtain⟨a,ha,ea⟩:=Le hp x;obtain⟨o,ho,eo⟩:=Le hp y;have la:=Bl ha;have lo:=Bl ho;have hla:=hl ls[a] (xbz ha);have hlo:=hl ls[o] (xbz ho);generalize ls[a]=l at la hla;generalize ls[o]=m at lo hlo;have up:∀l,LL B C l->LL (B+B+1) (C+2) l:=fun l h=>h.up (by lia) (by lia);have ups:∀l∈ls,LL (B+B+1) (C+2) l:=fun l h=>up l (hl l h);have ne:∀i q,ls.set i q≠ []:=fun i q e=>h0 (by simpa using e);have l9:=hla.1;have m9:=hlo.1
 by_cases z0:x/41%7=0
 .refine⟨(ls.set a m).set o l,by simpa using h0,by simp,Dn (Dn ups (up _ hlo)) (up _ hla),fun M=>?_⟩;unfold yt zY;erw [xaa hp',xaa hp'];simp only[z0,ea,eo];erw [Eh (x:=.str m) (n:=a) (ds:=ls.map D.str) (M1:=M) (M2:=M) (by z_go;rw[lo];z_go) rfl (by z_go) (by rw[xah];exact ha),Eh (x:=.str l) (n:=o) (ds:=(ls.map D.str).set a (.str m)) (M1:=M) (M2:=M) (by z_go;rw[la];z_go) rfl (by z_go) (by rw[xaO,xah];exact ho)];rw[xcI,xcI]
 by_cases z1:x/41%7=1
 .refine⟨ls.take o++l::ls.drop o,by simp,by simp;lia,fun q hq=>?_,fun M=>?_⟩
  .rw[xav,xaz]at hq;rcases hq with hq |rfl |hq
   .exact ups q (xbd hq)
   .exact up _ hla
   .exact ups q (xbr hq)
  unfold yt zY;erw [xaa hp',xaa hp'];simp only[z0,z1,ea,eo];erw [zh4 (x:=.str l) (n:=o) (ds:=ls.map D.str) (M1:=M) (M2:=M) rfl (by z_go) (by z_go;rw[la];z_go) (by rw[xah];lia) (by rw[xah];lia)];rw[xaI,xai,xdy,xdx]
 by_cases z2:x/41%7=2/\1<(ls.length:Int)
 .refine⟨ls.eraseIdx a,fun e=>?_,by have:=List.length_eraseIdx_le ls a;lia,fun q hq=>ups q (List.mem_of_mem_eraseIdx hq),fun M=>?_⟩
  .have:=congrArg List.length e;rw[List.length_eraseIdx_of_lt ha,xa6]at this;lia
  unfold yt zY;erw [xaa hp',xaa hp'];simp only[z0,z1,z2.1,z2.2,ea,eo];erw [zjJ (n:=a) (ds:=ls.map D.str) (M1:=M) rfl (by z_go) (by rw[xah];exact ha) (by rw[xah];lia)];rw[X4]
 have c2:∀M:Mm,(if x/41%7=2 then some (Res.v (D.bl (decide (1<(ls.length:Int)))),M) else some (Res.v (D.bl false),M))=some (Res.v (D.bl false),M):=fun M=>by
  by_cases q:x/41%7=2
  .rw[xaa q,xas (fun q2=>z2 ⟨q,q2⟩)]
  .rw[xac q]
 by_cases z5:x/41%7=5
 .obtain⟨i,hi,ei⟩:=Le (n:=(aZ l).length) (by rw[wG];lia) (y/41);obtain⟨k,hk,ek⟩:=Le (n:=(aZ m).length) (by rw[wG];lia) (y/1681);have aw:=Bl hk;have hw:=xbz hk;generalize (aZ m)[k]=w at aw hw;have h5:=LL.w5 (i:=i) hla hlo hw;have hj:=jL (z:=Str.ofString " ") (ws:=(aZ l).set i w) (by x_go) (by
   have s1:=Fe l;have s2:=Vr (aZ l) i w;have s4:=(Fl hw).1;rw[yK,xaO];lia)
  refine⟨ls.set a (Txt.join " " ((aZ l).set i w)),ne _ _,by simp,Dn ups h5,fun M=>?_⟩;unfold yt zY;erw [xaa hp',xaa hp'];rw[c2];simp only[z0,z1,z5,ea,eo];erw [la,vo (by lia),lo,vo (by lia),Eh (x:=.str w) (n:=i) (ds:=(aZ l).map D.str) (M1:=M) (M2:=M) (by z_go;rw[xaa (by lia)];z_go;rw[ek,aw];z_go) rfl (by z_go;rw[xaa (by lia)];z_go;rw[ei]) (by rw[xah];exact hi)];rw[<-xcI];rw[Eh (x:=.str (Txt.join " " ((aZ l).set i w))) (n:=a) (ds:=ls.map D.str) (M1:=M) (M2:=M) (by z_go;rw[hj];z_go) rfl (by z_go) (by rw[xah];exact ha)];z_go;rw[xcI]
 by_cases z6:x/41%7=6
 .have h6:=LL.w6 hla hlo;have hj:=jL (z:=Str.ofString " ") (ws:=(aZ l).take 2++((aZ m).drop 1).take 1++(aZ l).drop 3) (by x_go) (by
   rw[yK];have s1:=Fe (Txt.join " " ((aZ l).take 2++((aZ m).drop 1).take 1++(aZ l).drop 3));have s2:=h6.1;rw[Wi (fun e=>by
    have:=congrArg List.length e;have:=wG l;rw[xaf,xaf,xaw,xa6]at *;lia) (fun w hw=>by
    rw[xav,xav]at hw;rcases hw with(hw |hw) |hw
    .exact(Bb l).2.1 w (xbd hw)
    .exact(Bb m).2.1 w (xbr (xbd hw))
    .exact(Bb l).2.1 w (xbr hw))]at s1
   lia)
  refine⟨ls.set a (Txt.join " " ((aZ l).take 2++((aZ m).drop 1).take 1++(aZ l).drop 3)),ne _ _,by simp,Dn ups h6,fun M=>?_⟩;have e1:fW ((aZ l).map D.str) none (some 2)=((aZ l).take 2).map .str:=by rw[yp,Gm _ (by decide)];rfl
  have e2:fW ((aZ m).map D.str) (some 1) (some 2)=(((aZ m).drop 1).take 1).map .str:=by rw[yp,Gk _ (by decide) (by decide)];rfl
  have e3:fW ((aZ l).map D.str) (some 3) none=((aZ l).drop 3).map .str:=by rw[yp,Dq _ (by decide)];rfl
  have w1:=wG l;have w2:=hla.2.2;unfold yt zY;erw [xaa hp',xaa hp'];rw[c2];simp only[z0,z1,z5,z6,ea,eo];erw [la,vo (by lia)];rw[Eh (x:=.str (Txt.join " " ((aZ l).take 2++((aZ m).drop 1).take 1++(aZ l).drop 3))) (n:=a) (ds:=ls.map D.str) (M1:=M) (M2:=M) (by
   erw [lo,vo (by lia)];rw[e1,e2,xaa (by simp only[xah,xaw];lia)];z_go;rw[e3,xaa (by simp only[xah,xaf,xaw,xaU];lia)];z_go;rw[<-xaI, <-xaI,hj];z_go) rfl (by z_go) (by rw[xah];exact ha)]
  z_go;rw[xcI]
 .obtain⟨q,hq,eq⟩:=zf1 (x:=y) (w:=x/41%7) hla (by lia);refine⟨ls.set a q,ne _ _,by simp,Dn ups (hq.up (by lia) (by lia)),fun M=>?_⟩;unfold yt zY;erw [xaa hp',xaa hp'];rw[c2];simp only[z0,z1,ea,eo];erw [xac z5,xac z6,Eh (x:=.str q) (n:=a) (ds:=ls.map D.str) (M1:=M) (M2:=M) (by z_go;rw[la];z_go;rw[eq];z_go) rfl (by z_go) (by rw[xah];exact ha)];rw[xcI]
structure Lns (L:Lsx):Prop where
 ne:L≠ []
 len:L.length<=60
 ll:∀l∈L,LL 9000 800 l
noncomputable def tx (L:Lsx):Str:=Txt.join "\n" L
def Wb {L:Lsx}(h:Lns L):Txt.split (tx L) (Str.ofString "\n")=L/\(tx L).length<=10000000/\(L.map (·.length)).sum+L.length<=1048576:=by
 have hj:=DR Z8 L;have hl:=h.len;refine⟨?_,?_,?_⟩
 .unfold tx;generalize Txt.join "\n" L=T at hj;rw[Z8];exact Oh h.ne (fun y hy z=>((h.ll y hy).2.1 10 z).2 rfl) hj
 .unfold tx;rw[gY,hj];refine xaN (RV (B:=9000) _ fun p hp=>?_) ?_
  .obtain⟨z,hz,rfl⟩:=xaV.mp hp;rw[<-gY];exact(h.ll z hz).1
  .rw[xah];lia
 .have:=zeL (ws:=L) (B:=9000) fun x hx=>(h.ll x hx).1;lia
def xY {L:Lsx}(h:Lns L):pO "\n" [.lst (L.map .str)]=some (.str (tx L)):=jL (by x_go) (Wb h).2.2
theorem ziz {M:Mm}{L:Lsx}(h:Lns L):∃E,Ae [.str (tx L)] M=Em M E (g_ (L.map aZ) 0 [] []):=by
 obtain⟨t1,t2,_⟩:=Wb h;have hl:=h.len;obtain⟨E,e⟩:=zj3 (M:=M) (z:=tx L) (ls:=L.map fun y=>(y,aZ y)) (by rw[t1,xa4];exact(List.map_id' L).symm) t2 (fun p hp=>by
  obtain⟨y,hy,rfl⟩:=xaV.mp hp;exact(h.ll y hy).ln) (by rw[xah];lia)
 refine⟨E,?_⟩;rw[e,xa4];rfl
def Ow (M E:Mm):List RW ⊕ (Str×Nat)->Option (Res×Mm)
 |.inl rows=>some (.v (.tup [.tup [.str "read",.int (-1)],.lst (rows.map RW.D)]),M++E)
 |.inr (c,n)=>some (.v (.tup [.tup [.str (if c="NoText" then "text" else "name"),.int n],.lst []]),M++E)
theorem zgj {M E:Mm}{L:Lsx}{T:Str}{rows:List RW}(hj:pO "\n" [.lst (L.map .str)]=some (.str T))(hr:Ae [.str T] M=Em M E (.inl rows)):sX [.lst (L.map .str)] M=Ow M E (.inl rows):=by
 have hy:∀s1 s2 s3:E3.Slot,Dh [.val (.lst (L.map .str)),s1,s2,s3] M=some (.nx [.val (.lst (L.map .str)),s1,.val (.lst (rows.map RW.D)),s3],M++E):=fun s1 s2 s3=>by
  unfold Dh;erw [hj];rw[hr];unfold Em;z_go
 have e:∀hs,CJ Dh hs [.val (.lst (L.map .str)),.val (.tup [.str "read",.int (-1)]),.val (.lst []),.un] M=some (.nx [.val (.lst (L.map .str)),.val (.tup [.str "read",.int (-1)]),.val (.lst (rows.map RW.D)),.un],M++E):=fun hs=>by
  unfold CJ;rw[hy]
 unfold sX J_;erw [e];rfl
theorem zga {M E:Mm}{L:Lsx}{T c:Str}{m:Nat}(hj:pO "\n" [.lst (L.map .str)]=some (.str T))(hr:Ae [.str T] M=Em M E (.inr (c,m)))(hc:c="NoText"\/c="NoName"):sX [.lst (L.map .str)] M=Ow M E (.inr (c,m)):=by
 have hy:∀s1 s2 s3:E3.Slot,Dh [.val (.lst (L.map .str)),s1,s2,s3] M=some (.ex c ((m:Int)+1),M++E):=fun s1 s2 s3=>by
  unfold Dh;erw [hj];rw[hr];unfold Em;z_go
 have e:CJ Dh (za 3 Bp Hj (za 3 Gj K4 BP)) [.val (.lst (L.map .str)),.val (.tup [.str "read",.int (-1)]),.val (.lst []),.un] M=some (.nx [.val (.lst (L.map .str)),.val (.tup [.str (if c="NoText" then "text" else "name"),.int m]),.val (.lst []),.un],M++E):=by
  unfold CJ;rw[hy];show za 3 Bp Hj _ _ _ _ _=_;unfold za;rcases hc with rfl |rfl
  .rw[show Bp "NoText"=some true by x_go];dsimp only;rw[xaa (by show 3<4;decide)];show xK 3 (Hj [.val (.lst (L.map .str)),.val (.tup [.str "read",.int (-1)]),.val (.lst []),.exc "NoText" ((m:Int)+1)] (M++E))=_;unfold Hj;erw [zhY (by x_go)];rfl
  .rw[show Bp "NoName"=some false by x_go];dsimp only;rw[show Gj "NoName"=some true by x_go];dsimp only;rw[xaa (by show 3<4;decide)];show xK 3 (K4 [.val (.lst (L.map .str)),.val (.tup [.str "read",.int (-1)]),.val (.lst []),.exc "NoName" ((m:Int)+1)] (M++E))=_;unfold K4;erw [zhY (by x_go)];rw[xac (by x_go)];rfl
 unfold sX J_;erw [e];rfl
def JC {M:Mm}{L K:Lsx}(h:Lns K)(hj:pO "\n" [.lst (L.map .str)]=some (.str (tx K))):∃E,sX [.lst (L.map .str)] M=Ow M E (g_ (K.map aZ) 0 [] []):=by
 obtain⟨E,e⟩:=ziz (M:=M) h;refine⟨E,?_⟩
 cases hr:g_ (K.map aZ) 0 [] [] with
 |inl rows=>rw[hr]at e;exact zgj hj e
 |inr p=>
  obtain⟨c,m⟩:=p;rw[hr]at e;refine zga hj e ?_;obtain⟨_,_,_,_,_,_,_,z⟩:=UW _ 0 [] c m hr;exact z.elim (fun z=>.inl z.1) (fun z=>.inr z.1)
variable {M:Mm}
def zlt {w:Str}{f:Nat}(h:frm w=some f):w="pour"\/(f:Int)=if w="in" then 0 else if w="join" then 2 else 1:=by
 unfold frm at h;rw[xam]at h;obtain⟨p,hp,rfl⟩:=h;have h1:=xde hp;rw[<-xbm h1];have k:(FT.all fun p=>decide (p.1="pour"\/(p.2:Int)=if p.1="in" then 0 else if p.1="join" then 2 else 1))=true:=by x_go
 exact xbm (xaX.mp k _ (xbO hp))
def zhj {r:RW}(h:fM r.ws=some r):(r.w="pour"/\r.rs=[])\/(r.w≠"pour"/\(r.fr.length:Int)=if r.w="in" then 0 else if r.w="join" then 2 else 1):=by
 cases hb:lE r.ws with
 |false=>rw[U3 hb]at h;cases h
 |true=>
  obtain⟨w,nm,q,f,e1,hf,e⟩:=U4 hb;rw[e]at h;rw[e1]at hb;have h:=(xaE h).symm;subst h;unfold lE at hb;dsimp only at hb ⊢;rw[hf]at hb;dsimp only at hb;rw[xak,xak]at hb
  by_cases hp:w="pour"
  .refine .inl ⟨hp,?_⟩;have:=hb.2.2;subst hp;unfold fO at this;rw[xac (by x_go),xac (by x_go),xac (by x_go),xac (by x_go),xac (by x_go),xac (by x_go)]at this;exact List.isEmpty_iff.mp this
  .refine .inr ⟨hp,?_⟩;have h2:=hb.1;unfold Af at h2;rw[xac hp]at h2;rw[xbm h2];exact(zlt hf).resolve_left hp
def Yd {r:RW}(h:fM r.ws=some r):∃E,z9 [.lst (r.ws.map .str)] M=some (.v (.lst (r.fr.map .str)),M++E):=by
 have ew:r.ws.map D.str=.str r.w::.str r.nm::(r.fr++r.rs).map D.str:=rfl;rcases zhj h with⟨hw,hr⟩ |⟨hw,hr⟩
 .refine⟨[],?_⟩;rw[xaA];have c:fW (r.ws.map D.str) (some 2) none=r.fr.map .str:=by
   rw[Dq _ (by decide),ew,hr,xaA];rfl
  rw[ew]at c ⊢;unfold z9 J4;erw [xaa hw];rw[c]
 .have c:fW (r.ws.map D.str) (some 2) (some (2+(r.fr.length:Int)))=r.fr.map .str:=by
   rw[Gk _ (by decide) (by lia),ew];show(List.map D.str (r.fr++r.rs)).take ((2+(r.fr.length:Int)).toNat-2)=_;rw[show(2+(r.fr.length:Int)).toNat-2=r.fr.length by lia,xaI,List.take_left' (by rw[xah])]
  have hg:(M++[Cl.dct [(.inr "in",.int 0),(.inr "join",.int 2)]])[M.length]? =some (Cl.dct [(.inr "in",.int 0),(.inr "join",.int 2)]):=by simp
  have q:=Kq (f:=lF (tK (aj (.str "in")) (aj (.int 0)) (tK (aj (.str "join")) (aj (.int 2)) lR))) (g:=s2 aO (ak 0) (aj (.int 0))) (h:=aj (.int 1)) (env:=[.val (.lst (.str r.w::.str r.nm::(r.fr++r.rs).map D.str)),.un]) (M:=M) (Xq (x:=.int 0) (y:=.int 2) (by x_go) rfl rfl) (e:=.str r.w) (by z_go) (x:=.int 1) rfl hg hg (key:=.inr r.w) rfl;rw[zhz,show(if r.w=Str.ofString "in" then D.int 0 else if r.w=Str.ofString "join" then D.int 2 else .int 1)=.int (r.fr.length:Int) by rw[hr];split;exact rfl;split<;>rfl]at q
  refine⟨[.dct [(.inr "in",.int 0),(.inr "join",.int 2)]],?_⟩;rw[ew]at c ⊢;unfold z9 J4;erw [xac hw,q];rw[c]
def V5 {t:List (Str×Str)}{j:Nat}{N:Mm}(x:Str)(hN:N[j]? =some (.dct (fQ t))):Kw [.val (.str x),.val (.ref j)] N=some (.v (.bl (decide ((lq t x).getD "out"="out"))),N):=by
 unfold Kw;z_go;rw[Kq (k:=j) (kvs:=fQ t) (kvs':=fQ t) (e:=.str x) (x:=.str "out") (key:=.inr x) (M1:=N) (M2:=N) (M3:=N) (by z_go) (by z_go) (by z_go) hN hN rfl,Fj]
 cases lq t x with
 |none=>
  simp only[xcp,Option.getD_none];z_go
 |some y=>
  z_go
def KZ {N E:Mm}{j:Nat}{c:E3.Cl}(h:N[j]? =some c):(N++E)[j]? =some c:=by
 rw[xa5 (xao.mp h).1,h]
def Zo {r:RW}{t:List (Str×Str)}{j:Nat}{N:Mm}(h:fM r.ws=some r)(hl:r.ws.length<=900)(hN:N[j]? =some (.dct (fQ t))):∃E,Aa [.lst (r.ws.map .str),.ref j] N=some (.v (.bl (!gD t r.nm r.fr)),N++E):=by
 obtain⟨E,e⟩:=Yd (M:=N) h;have ew:r.ws.map D.str=.str r.w::.str r.nm::(r.fr++r.rs).map D.str:=rfl;have hf:r.fr.length<=900:=by
  unfold RW.ws at hl;rw[xae,xae,xaf]at hl;lia
 have cm:rD (aj (.bl true)) Kw [.val (.ref j)] (r.fr.map D.str) [] (N++E)=some ([]++r.fr.map fun x=>D.bl (decide ((lq t x).getD "out"="out")),N++E):=
  vq D.str (fun x=>D.bl (decide ((lq t x).getD "out"="out"))) r.fr [] (fun x _=>V5 x (KZ hN)) (by rw[xay];simp;lia)
 rw[ew]at e ⊢;unfold gD
 cases hg:lq t r.nm with
 |some y=>
  refine⟨[],?_⟩;unfold Aa J7;z_go;rw[wW (k:=j) (kvs:=fQ t) (e:=.str r.nm) (key:=.inr r.nm) (M1:=N) (M2:=N) (by z_go) (by z_go) hN rfl,Fj,hg];simp only[xaR,xb2,Option.isNone_some];z_go
 |none=>
  refine⟨E,?_⟩;unfold Aa J7;z_go;rw[wW (k:=j) (kvs:=fQ t) (e:=.str r.nm) (key:=.inr r.nm) (M1:=N) (M2:=N) (by z_go) (by z_go) hN rfl,Fj,hg];simp only[xcp,xcq,Option.isNone_none];erw [e,cm];rw[show(r.fr.map fun x=>D.bl (decide ((lq t x).getD "out"="out")))=(r.fr.map fun x=>decide ((lq t x).getD "out"="out")).map D.bl by rw[xa4];rfl,Dp];z_go;rw[List.any_map,List.all_eq_not_any_not]
  simp
variable {M:Mm}
theorem Wf {M:Mm}{r:RW}:vw M (RW.D r)=RW.D r:=rfl
local macro_rules | `(tactic| z_go)=>do
 let l <-((wNs++" Wf").splitOn " ").toArray.mapM fun n=> `(Lean.Parser.Tactic.simpLemma| $(Lean.mkIdent n.toName):term)
 `(tactic| try simp only[$l,*])
def jT {ws:Lsx}(h:(ws.map (·.length)).sum+ws.length<=1048576):Jx " " [.tup (ws.map D.str)]=some (.str (Txt.join " " ws)):=by
 unfold Jx;simp only[E3.strs_map];rw[xaa ⟨by x_go,h⟩]
def zhk {r:RW}(h:r.sh):Hh [r.D] M=some (.v (.str (Txt.join " " r.ws)),M):=by
 have h1:=h.2;have hj:=jT (ws:=r.ws) (by have:=h.1;lia);unfold RW.ws at h1 hj ⊢;rw[xae,xae,xaf]at h1;unfold Hh Qu RW.D tM;erw [xaa (by lia),xaa (by lia)];rw[show(D.str r.w::D.str r.nm::(r.fr.map D.str++r.rs.map D.str))=(r.w::r.nm::(r.fr++r.rs)).map D.str by simp,hj];z_go
def zd6 {rs:List RW}(h:∀r∈rs,r.sh)(hn:rs.length<=900)(hl:((rs.map fun r=>Txt.join " " r.ws).map (·.length)).sum+rs.length<=1048576):Hi [.lst (rs.map RW.D)] M=some (.v (.str (txt rs)),M):=by
 unfold Hi Qv;z_go;rw[vq RW.D (fun r=>D.str (Txt.join " " r.ws)) rs [] (fun r hr=>?_) (by rw[xay];simp;lia)]
 .z_go;rw[show(rs.map fun r=>D.str (Txt.join " " r.ws))=(rs.map fun r=>Txt.join " " r.ws).map D.str by rw[xa4];rfl,jL (by x_go) (by rw[xah];exact hl)];z_go;rfl
 .unfold XM;erw [zhk (h r hr)]
theorem Gg {N E:Mm}{c:E3.Cl}:(N++[c]++E)[N.length]? =some c:=by
 rw[xaq,xaW (xag _),xb3];rfl
theorem zj5 {N E:Mm}{a c:E3.Cl}:(N++[a]++E).set N.length c=N++[c]++E:=by
 rw[xaq,xcW _ _ (xag _),xb3,xaq];rfl
def zdB {N E:Mm}{k:Nat}{L:Lsx}{rs:List RW}{l:Str}{r:RW}{t:List (Str×Str)}{s4 s5:E3.Slot}(hl:L[k]? =some l)(hr:rs[k]? =some r)(hw:aZ l=r.ws)(hp:fM r.ws=some r)(hm:gD t r.nm r.fr=true)(hll:l.length<=9000)(hwl:r.ws.length<=900)(ht:t.length<=900):∃E',Hv [.val (.lst (rs.map RW.D)),.val (.lst (L.map .str)),.val (.ref N.length),.val (.int k),s4,s5] (N++[.dct (fQ t)]++E)=some (.nx [.val (.lst (rs.map RW.D)),.val (.lst (L.map .str)),.val (.ref N.length),.val (.int k),.val (.lst (r.ws.map .str)),.val (.lst (r.fr.map .str))],N++[.dct (fQ (t++[(r.nm,r.w)]))]++E'):=by
 obtain⟨E1,f1⟩:=Yd (M:=N++[.dct (fQ t)]++E) hp;obtain⟨E2,m1⟩:=Zo (N:=N++[.dct (fQ t)]++E++E1) (j:=N.length) hp hwl (KZ Gg);rw[hm]at m1;have ew:r.ws.map D.str=.str r.w::.str r.nm::(r.fr++r.rs).map D.str:=rfl;have c2:fW (r.ws.map D.str) (some (2+(r.fr.length:Int))) none=r.rs.map .str:=by
  rw[Dq _ (by lia),ew,show(2+(r.fr.length:Int)).toNat=r.fr.length+2 by lia];show(List.map D.str (r.fr++r.rs)).drop r.fr.length=_;rw[xaI,List.drop_left' (by rw[xah])]
 have cmp:aF .ne (RW.D r) (.tup [.str r.w,.str r.nm,.tup (r.fr.map .str),.tup (r.rs.map .str)])=some (.bl false):=Mg (d:=RW.D r) (xaN zgX (by decide));have hg:lq t r.nm=none:=by
  unfold gD at hm;rw[xak]at hm
  simpa using hm.1
 have l1:aV (L.map D.str) (k:Int)=some (.str l):=i_ (by rw[xau,hl];rfl);have l2:aV (rs.map RW.D) (k:Int)=some r.D:=i_ (by rw[xau,hr];rfl);refine⟨E++E1++E2,?_⟩;have hs:=vo hll;rw[hw]at hs;rw[ew]at f1 m1 c2 hs ⊢;unfold Hv;erw [l1,hs,f1,l2];rw[c2,cmp];erw [m1];rw[Xp (k:=N.length) (kvs:=fQ t) (e:=.str r.nm) (x:=.str r.w) (key:=.inr r.nm) (M1:=N++[.dct (fQ t)]++E++E1++E2) (M2:=N++[.dct (fQ t)]++E++E1++E2) (M3:=N++[.dct (fQ t)]++E++E1++E2) (by z_go) (by z_go) (by z_go) (KZ (KZ Gg)) rfl (by unfold fQ;rw[xah,xay];lia),zeG hg];rw[xaq,xaq _ E,zj5,xaq E];z_go
def zf9 {rs:List RW}{L:Lsx}(h:rs.map RW.ws=L.map aZ):(rs.map fun r=>Txt.join " " r.ws)=L:=by
 have:(rs.map RW.ws).map (Txt.join " ")=L:=by
  rw[h,xa4]
  conv=>rhs;rw[<-List.map_id L]
  exact xd6 fun l _=>zec l
 rw[xa4]at this;exact this
def Ze {N:Mm}{L:Lsx}{rows:List RW}(h:Lns L)(hr:g_ (L.map aZ) 0 [] []=.inl rows):∃E,Dy [.lst (rows.map RW.D),.lst (L.map .str)] N=some (.v (.bl true),N++E):=by
 obtain⟨rs,e0,e1,e2⟩:=Mt (L.map aZ) 0 [] rows hr;rw[xbq]at e0;subst e0;have hlen:rows.length=L.length:=by have:=congrArg List.length e1;simpa using this
 have hl60:=h.len;have hw:∀(k:Nat) (r:RW),rows[k]? =some r->∃l,L[k]? =some l/\aZ l=r.ws:=fun k r hk=>by
  have e:=congrArg (·[k]?) e1;simp only[xau,hk,xaR]at e
  cases hL:L[k]? with
  |none=>rw[hL]at e;cases e
  |some l=>rw[hL]at e;exact⟨l,rfl,(xaE e).symm⟩
 have hb:∀l∈L,(aZ l).length<=801/\sz (aZ l)+(aZ l).length<=9001:=fun l hl=>by
  have a:=h.ll l hl;have b:=Fe l;have c:=wG l;have a1:=a.1;have a2:=a.2.2;exact⟨by lia,by lia⟩
 have hsh:∀r∈rows,r.sh:=fun r hr=>by
  have:r.ws∈L.map aZ:=by rw[<-e1];exact xaV.mpr ⟨r,hr,rfl⟩
  obtain⟨l,hl,el⟩:=xaV.mp this;have:=hb l hl;unfold RW.sh;rw[yK, <-el];exact⟨by lia,by lia⟩
 have et:=zf9 e1;have s1:=zd6 (M:=N) hsh (by lia) (by rw[et,hlen];exact(Wb h).2.2);have s2:txt rows=tx L:=by unfold txt tx;rw[et]
 have lp:∃E s3 s4 s5,loopS 3 Hv ((List.range rows.length).map fun(k:Nat)=>D.int (0+k)) [.val (.lst (rows.map RW.D)),.val (.lst (L.map .str)),.val (.ref N.length),.un,.un,.un] (N++[.dct []])=some (.nx [.val (.lst (rows.map RW.D)),.val (.lst (L.map .str)),.val (.ref N.length),s3,s4,s5],N++E):=by
  refine Hz (fun o=>∃E s3 s4 s5,o=some (.nx [.val (.lst (rows.map RW.D)),.val (.lst (L.map .str)),.val (.ref N.length),s3,s4,s5],N++E))
   (fun k env N'=>∃(E:Mm) (s3 s4 s5:E3.Slot),N'=N++[.dct (fQ ((rows.take k).map jj))]++E/\env=[.val (.lst (rows.map RW.D)),.val (.lst (L.map .str)),.val (.ref N.length),s3,s4,s5])
   ⟨[],.un,.un,.un,(by rw[xaA];rfl),rfl⟩ ?_ ?_
  .rintro k d env N' hd ⟨E,s3,s4,s5,rfl,rfl⟩;have hk:k<rows.length:=by
    have:=(xao.mp hd).1
    simpa using this
   rw[xau,xcj hk]at hd;cases hd;obtain⟨l,l1,l2⟩:=hw k rows[k] (xaj hk);have hlL:l∈L:=xaS l1;have es:rows=rows.take k++rows[k]::rows.drop (k+1):=by rw[<-xbi hk,xbo]
   obtain⟨p1,p2⟩:=e2 _ _ _ es;rw[xbq]at p2;obtain⟨E',q⟩:=zdB (N:=N) (E:=E) (s4:=s4) (s5:=s5) l1 (xaj hk) l2 p1 p2 (h.ll l hlL).1 (by rw[<-l2];have:=hb l hlL;lia) (by rw[xah,xaw];lia);refine⟨by simp,?_⟩;show E3.Step _ _ (Hv [.val (.lst (rows.map RW.D)),.val (.lst (L.map .str)),.val (.ref N.length),.val (.int (0+(k:Int))),s4,s5] _);rw[Int.zero_add,q];refine⟨E',_,_,_,?_,rfl⟩;rw[Ig,xdD,xaj hk];rfl
  .rintro env N' ⟨E,s3,s4,s5,rfl,rfl⟩;exact⟨_,s3,s4,s5,by rw[xaq]⟩
 obtain⟨E,s3,s4,s5,lp⟩:=lp;refine⟨E,?_⟩;unfold Dy PX;erw [zbO,hlen,s1,xY h,s2,Xo];rw[Cz (by lia),xbu];erw [lp]
variable {M:Mm}
theorem Lns.take {L:Lsx}(h:Lns L){m:Nat}(hm:0<m):Lns (L.take m):=by
 refine⟨fun e=>?_,by rw[xaw];have:=h.len;lia,fun l hl=>h.ll l (xbd hl)⟩;have:=congrArg List.length e;have:=xdj.mpr h.ne;rw[xaw,xa6]at *;lia
def Za {x:Str}(h:(decide (x.length<=9000)&&decide ((cd x).count 32<=800)&&(cd x).all fun c=>decide (c<4294967296/\c≠10))=true):LL 9000 800 x:=by
 rw[xak,xak,xaH,xaH,xaX]at h;exact⟨h.1.1,fun c hc=>xbm (h.2 c hc),h.1.2⟩
def Hy:LL 9000 800 "":=Za (by x_go)
def R8:LL 9000 800 "in":=Za (by x_go)
def Lns.two {L:Lsx}(h:Lns L)(hl:L.length<=55):Lns (L++[Str.ofString "",Str.ofString "in"]):=by
 refine⟨by simp,by simp;lia,fun l hq=>?_⟩;rw[xav]at hq;rcases hq with hq |hq
 .exact h.ll l hq
 .rcases xaz.mp hq with rfl |hq
  .exact Hy
  .rw[xaG]at hq;subst hq;exact R8
def zeh {L:Lsx}{m:Nat}{rows:List RW}(h:Lns L)(hr:g_ ((L.take m).map aZ) 0 [] []=.inl rows):∃d N,sX [.lst ((L.take m).map .str)] M=some (.v (.tup [d,.lst (rows.map RW.D)]),N)/\(0<m->d=.tup [.str "read",.int (-1)]):=by
 by_cases hm:0<m
 .obtain⟨E,e⟩:=JC (M:=M) (h.take hm) (xY (h.take hm));rw[hr]at e;exact⟨_,_,e,fun _=>rfl⟩
 .have hm:m=0:=by lia
  subst hm;rw[List.take_zero]at hr ⊢;cases hr;have hj:pO "\n" [.lst (([]:Lsx).map .str)]=some (.str (tx [Str.ofString ""])):=by
   rw[jL (by x_go) (by decide)];exact congrArg (fun x=>some (D.str x)) (show Txt.join "\n" []=tx [Str.ofString ""] by x_go)
  obtain⟨E,e⟩:=JC (M:=M) (K:=[Str.ofString ""]) ⟨by simp,by simp,fun l hl=>by rw[xaG]at hl;subst hl;exact Hy⟩ hj;have hw:∃x,aZ ""=[x]:=by
   have:=wG "";rw[show(cd "").count 32+1=1 by x_go]at this;exact List.length_eq_one_iff.mp this
  obtain⟨x,hw⟩:=hw;rw[xai,xbE,hw]at e;exact⟨_,_,e,fun z=>absurd z (by decide)⟩
theorem zca:∀rows:List RW,Ci (rows.map fun r=>D.tup [.str r.nm,.str r.w])=some (fQ (rows.map jj))
 | []=>rfl
 |r::rows=>by
  have ih:=zca rows;rw[xai];simp only[Ci,ih,toKey];rfl
def zfT {ws:List (Lsx)}{rows:List RW}(h:g_ ws 0 [] []=.inl rows):((fQ (rows.map jj)).map (·.1)).Nodup:=by
 obtain⟨rs,e0,_,e2⟩:=Mt ws 0 [] rows h;rw[xbq]at e0;subst e0;have:(fQ (rows.map jj)).map (·.1)=rows.map fun r=>(Sum.inr r.nm:Key):=by
  unfold fQ;rw[xa4,xa4];rfl
 rw[this];unfold List.Nodup;rw[List.pairwise_iff_getElem];intro i j hi hj hij e;rw[xah]at hi hj;rw[List.getElem_map,List.getElem_map]at e;have es:rows=rows.take j++rows[j]::rows.drop (j+1):=by rw[<-xbi hj,xbo]
 have p:=(e2 _ _ _ es).2;unfold gD at p;rw[xak,xbq]at p;have p1:lq ((rows.take j).map jj) rows[j].nm=none:=by simpa using p.1
 unfold lq at p1;rw[xcR,xcH]at p1;have hmem:rows[i]∈rows.take j:=by
  rw[xbQ];exact⟨i,by rw[xaw];lia,by rw[List.getElem_take]⟩
 have:=p1 (jj rows[i]) (xaV.mpr ⟨_,hmem,rfl⟩);apply this;exact xaD (xei e)
def Flt (rows:List RW)(l c:Str):Prop:=(c="NoText"/\fM (aZ l)=none)\/(c="NoName"/\∃r,fM (aZ l)=some r/\gD (rows.map jj) r.nm r.fr=false)
noncomputable def tg (c:Str):Str:=if c="NoText" then "text" else "name"
def zkl {N:Mm}{m:Nat}{L:Lsx}{rows:List RW}{c l:Str}{d:D}{s0 s1 s3 s4 s5 s7:E3.Slot}(h:Lns L)(hr:g_ ((L.take m).map aZ) 0 [] []=.inl rows)(hl:L[m]? =some l)(hc:Flt rows l c):∃N',lD (S8 [s0,s1,.val (.lst (L.map .str)),s3,s4,s5,.val (.tup [.str (tg c),.int m]),s7,.val (.int m),.val (.tup [d,.lst (rows.map RW.D)]),.un] N)=some (.v (.bl true),N'):=by
 have hlen:rows.length<=60:=by
  obtain⟨rs,e0,e1,_⟩:=Mt _ 0 [] rows hr;have:=congrArg List.length e1;rw[xbq]at e0;subst e0;simp only[xah,xaw]at this;have:=h.len;lia
 have hlL:=h.ll l (xaS hl);have cm:rD (aj (.bl true)) KJ [] (rows.map RW.D) [] N=some ([]++rows.map fun r=>D.tup [.str r.nm,.str r.w],N):=by
  refine vq RW.D (fun r=>D.tup [.str r.nm,.str r.w]) rows [] (fun r _=>?_) (by rw[xay];simp;lia);unfold RW.D tM KJ;z_go
 have cc:pB [] (ni (s2 aO (ak 9) (aj (.int 1)))) (aj (.bl true)) KJ [s0,s1,.val (.lst (L.map .str)),s3,s4,s5,.val (.tup [.str (tg c),.int m]),s7,.val (.int m),.val (.tup [d,.lst (rows.map RW.D)]),.un] N=some (.v (.lst (rows.map fun r=>D.tup [.str r.nm,.str r.w])),N):=by
  erw [cm]
 have dd:=QW cc (zca rows) (zfT hr);have l1:aV (L.map D.str) (m:Int)=some (.str l):=i_ (by rw[xau,hl];rfl);unfold S8;erw [dd];unfold Z0;z_go;unfold tg;rcases hc with⟨rfl,_⟩ |⟨rfl,r,hp,hm⟩
 .rw[xaa rfl];z_go;exact⟨_,rfl⟩
 .have hw:=U5 hp;rw[<-hw]at hp;have hs:=vo hlL.1;rw[<-hw]at hs;obtain⟨E,e⟩:=Zo (N:=N++[.dct (fQ (rows.map jj))]) (j:=N.length) (t:=rows.map jj) hp (by rw[hw,wG];have:=hlL.2.2;lia) (by simp);rw[hm]at e;rw[xac (by x_go)];erw [xac (by x_go),l1,hs,e];exact⟨_,rfl⟩
def YZ {N:Mm}{m:Nat}{L:Lsx}{rows:List RW}{c l:Str}{d:D}{s0 s1 s3 s4 s5 s7:E3.Slot}(h:Lns L)(h50:L.length<=50)(hr:g_ ((L.take m).map aZ) 0 [] []=.inl rows)(hl:L[m]? =some l)(hc:Flt rows l c):∃N',lD (S7 [s0,s1,.val (.lst (L.map .str)),s3,s4,s5,.val (.tup [.str (tg c),.int m]),s7,.val (.int m),.val (.tup [d,.lst (rows.map RW.D)]),.un] N)=some (.v (.bl true),N'):=by
 have hmL:m<L.length:=(xao.mp hl).1;have et:L.take (m+1)=L.take m++[l]:=by rw[xdD,hl];rfl
 have ht:=h.take (m:=m+1) (by lia);have lm:((L.take m).map aZ).length=m:=by rw[xah,xaw];lia
 have r0:∀bs:List (Lsx),g_ ((L.take m).map aZ++aZ l::bs) 0 [] []=.inr (c,m):=fun bs=>by
  have:=zlL (acc:=[]) (n:=0) (bs:=bs) hr hc;rw[lm,xed]at this;exact this
 have ht2:=ht.two (by rw[xaw];lia);obtain⟨E1,e1⟩:=JC (M:=N) ht (xY ht);rw[show(L.take (m+1)).map aZ=(L.take m).map aZ++aZ l::[] by rw[et,xaI];rfl,r0]at e1;have e1:sX [.lst ((L.take (m+1)).map .str)] N=some (.v (.tup [.tup [.str (tg c),.int m],.lst []]),N++E1):=e1;obtain⟨E2,e2⟩:=JC (M:=N++E1) ht2 (xY ht2);rw[show(L.take (m+1)++[Str.ofString "",Str.ofString "in"]).map aZ=(L.take m).map aZ++aZ l::[aZ "",aZ "in"] by rw[et,xaq,xaI];rfl,r0,xaI]at e2;have e2:sX [.lst ((L.take (m+1)).map .str++[.str "",.str "in"])] (N++E1)=some (.v (.tup [.tup [.str (tg c),.int m],.lst []]),N++E1++E2):=e2;have c1:fW (L.map D.str) none (some ((m:Int)+1))=(L.take (m+1)).map .str:=by rw[yp,Gm _ (by lia),show((m:Int)+1).toNat=m+1 by lia]
 have dp:(D.tup [.str (tg c),.int m]).dep<=50:=by simp only[D.dep,D.deps];decide
 unfold S7;z_go;rw[c1,e1];erw [Mg dp];rw[c1,xaa (by rw[xah,xaw];lia)];erw [e2,Mg dp];exact zkl h hr hl hc
def R5 {N:Mm}{m:Nat}{L:Lsx}{rows:List RW}{c l:Str}{s0 s1 s3 s4 s5 s7:E3.Slot}(h:Lns L)(h50:L.length<=50)(hr:g_ ((L.take m).map aZ) 0 [] []=.inl rows)(hl:L[m]? =some l)(hc:Flt rows l c):∃N',lD (S_ [s0,s1,.val (.lst (L.map .str)),s3,s4,s5,.val (.tup [.str (tg c),.int m]),s7,.val (.int m),.un,.un] N)=some (.v (.bl true),N'):=by
 obtain⟨d,N2,q1,q3⟩:=zeh (M:=N) h hr;have c0:fW (L.map D.str) none (some (m:Int))=(L.take m).map .str:=by rw[yp,Gm _ (by lia),xbu]
 unfold S_;z_go;rw[c0,q1];z_go;unfold ZX
 by_cases hm:0<m
 .have hd:=q3 hm;subst hd;obtain⟨E,e⟩:=Ze (N:=N2) (h.take hm) hr;erw [xaa (show(0:Int)<(m:Int) by lia),Mg (by simp only[D.dep,D.deps];decide)];rw[c0,e];z_go;exact YZ h h50 hr hl hc
 .erw [xac (show ¬ (0:Int)<(m:Int) by lia)];exact YZ h h50 hr hl hc
theorem zi7 {i j k:Int}{f g h:E}{env:E3.Env}{M:Mm}(hf:f env M=some (.v (.int i),M))(hg:g env M=some (.v (.int j),M))(hh:h env M=some (.v (.int k),M))(h0:i<=j)(h1:j<k):lU .le .lt f g h env M=some (.v (.bl true),M):=by
 unfold lU;simp only[bnd,hf,hg,hh,zhR,show gh .le (.int i) (.int j)=some (decide (i<=j)) from rfl,show gh .lt (.int j) (.int k)=some (decide (j<k)) from rfl,xaD h0,xaD h1];rfl
def R4 {N:Mm}{L:Lsx}{mn:Int}{s0 s1 s3 s5:E3.Slot}(h:Lns L)(h50:L.length<=50)(hm:mn=0->∃rows,g_ (L.map aZ) 0 [] []=.inl rows):∃N',lD (LR [s0,s1,.val (.lst (L.map .str)),s3,.val (.int mn),s5,.un,.un,.un,.un,.un] N)=some (.v (.bl true),N'):=by
 obtain⟨E,e⟩:=JC (M:=N) h (xY h)
 cases hr:g_ (L.map aZ) 0 [] [] with
 |inl rows=>
  rw[hr]at e;unfold Ow at e;obtain⟨E2,q⟩:=Ze (N:=N++E) h hr;unfold LR;erw [e];unfold S9;erw [q];exact⟨_,rfl⟩
 |inr p=>
  obtain⟨c,m⟩:=p;rw[hr]at e;have hm0:mn≠0:=fun z=>by
   obtain⟨rows,hq⟩:=hm z;rw[hr]at hq;cases hq
  have e:sX [.lst (L.map .str)] N=some (.v (.tup [.tup [.str (tg c),.int m],.lst []]),N++E):=e;obtain⟨as,w,bs,rows,e1,e2,e3,e4⟩:=UW _ 0 [] c m hr;rw[xed]at e2;have hA:(L.take m).map aZ=as:=by rw[xdy,e1,e2,List.take_left' rfl]
  have hl:∃l,L[m]? =some l/\aZ l=w:=by
   have z:=congrArg (·[m]?) e1;simp only[xau,e2,xaW (xag _),xb3,List.getElem?_cons_zero]at z;rw[<-e2]at z
   cases hL:L[m]? with
   |none=>rw[hL]at z;cases z
   |some l=>rw[hL]at z;exact⟨l,rfl,xaE z⟩
  obtain⟨l,hl,rfl⟩:=hl;have hmL:m<L.length:=(xao.mp hl).1;have ht:tg c≠"read":=by
   unfold tg
   split<;>decide +kernel
  unfold LR;erw [e];unfold S9;erw [xac ht];unfold Z5;z_go;unfold Z6;erw [xac hm0,zcs,zi7 (i:=0) (j:=m) (k:=L.length) (by z_go) (by z_go) (by z_go) (by lia) (by lia)];exact R5 h h50 (by rw[hA];exact e3) hl e4
def Bm {xs:Lix}{i:Int}(h0:0<=i)(h1:i<xs.length):∃x:Int,aV (xs.map D.int) i=some (.int x):=by
 obtain⟨k,rfl⟩:∃k:Nat,i=k:=⟨i.toNat,by lia⟩;exact⟨xs[k]'(by lia),i_ (by rw[xau,xaj (by lia)];rfl)⟩
def zfC {L0:Lsx}{xs:Lix}{mn:Int}{N:Mm}{s0 s1 s4:E3.Slot}(h0:L0≠ [])(hl:L0.length<=41)(hL:∀l∈L0,LL 1104 47 l)(hx:xs.length=8)(hm:0<=mn/\mn<4):∃L s5,Lns L/\L.length<=50/\(mn=0->L=L0)/\loopS 5 Hx ((List.range mn.toNat).map fun(k:Nat)=>D.int (0+k)) [s0,s1,.val (.lst (L0.map .str)),.val (.lst (xs.map .int)),s4,.un,.un,.un,.un,.un,.un] N=some (.nx [s0,s1,.val (.lst (L.map .str)),.val (.lst (xs.map .int)),s4,s5,.un,.un,.un,.un,.un],N):=by
 refine Hz (fun o=>∃L s5,Lns L/\L.length<=50/\(mn=0->L=L0)/\o=some (.nx [s0,s1,.val (.lst (L.map .str)),.val (.lst (xs.map .int)),s4,s5,.un,.un,.un,.un,.un],N))
  (fun k env N'=>∃(L:Lsx) (s5:E3.Slot),L≠ []/\L.length<=41+k/\(∀l∈L,LL (1105*2^k-1) (47+2*k) l)/\(k=0->L=L0)/\N'=N/\env=[s0,s1,.val (.lst (L.map .str)),.val (.lst (xs.map .int)),s4,s5,.un,.un,.un,.un,.un])
  ⟨L0,.un,h0,hl,hL,fun _=>rfl,rfl,rfl⟩ ?_ ?_
 .rintro k d env N' hd ⟨L,s5,q0,q1,q2,q3,rfl,rfl⟩;have hk:k<mn.toNat:=by
   have:=(xao.mp hd).1
   simpa using this
  rw[xau,xcj hk]at hd;cases hd;have p1:2^k<=4:=xcy (n:=2) (j:=2) (by decide) (by lia);have p0:0<2^k:=Nat.pow_pos (by decide);obtain⟨a,ea⟩:=Bm (xs:=xs) (i:=1+2*(0+(k:Int))) (by lia) (by lia);obtain⟨b,eb⟩:=Bm (xs:=xs) (i:=2+2*(0+(k:Int))) (by lia) (by lia);obtain⟨L',r0,r1,r2,r3⟩:=zcl (x:=a) (y:=b) q0 (by lia) q2 (by lia) (by lia);refine⟨by simp,?_⟩;have go:Hx [s0,s1,.val (.lst (L.map .str)),.val (.lst (xs.map .int)),s4,.val (.int (0+(k:Int))),.un,.un,.un,.un,.un] N'=some (.nx [s0,s1,.val (.lst (L'.map .str)),.val (.lst (xs.map .int)),s4,.val (.int (0+(k:Int))),.un,.un,.un,.un,.un],N'):=by
   unfold Hx;erw [ea,eb,r3]
  show E3.Step _ _ (Hx [s0,s1,.val (.lst (L.map .str)),.val (.lst (xs.map .int)),s4,.val (.int (0+(k:Int))),.un,.un,.un,.un,.un] N');rw[go];refine⟨L',_,r0,by lia,fun l hl=>(r2 l hl).up ?_ (by lia),fun z=>absurd z (by lia),rfl,rfl⟩;rw[Nat.pow_succ];lia
 .rintro env N' ⟨L,s5,q0,q1,q2,q3,rfl,rfl⟩;rw[xah,xca]at q1 q2 q3;have p1:2^mn.toNat<=8:=xcy (n:=2) (j:=3) (by decide) (by lia);exact⟨L,s5,⟨q0,by lia,fun l hl=>(q2 l hl).up (by lia) (by lia)⟩,by lia,fun z=>q3 (by lia),rfl⟩
def Zb {r:RW}(h:r.wf):LL 1104 47 (Txt.join " " r.ws)/\aZ (Txt.join " " r.ws)=r.ws:=by
 have hn:r.ws≠ []:=by unfold RW.ws;simp
 have ew:=Wi hn (fun w hw z=>((h.1 w hw).2 32 z).2.2 rfl);have hl:=wG (Txt.join " " r.ws);rw[ew]at hl;refine⟨⟨(zkk h.1 hn h.2).2.2,fun c hc=>?_,by have:=h.2;lia⟩,ew⟩;rw[DR yU]at hc;rcases K8 _ hc with rfl |⟨p,hp,z⟩
 .decide
 .obtain⟨w,hw,rfl⟩:=xaV.mp hp;exact⟨((h.1 w hw).2 c z).1,((h.1 w hw).2 c z).2.1⟩
def zgv:∀ns:Lix,ns.length<=63->∃M,xG [.lst (ns.map D.int)] []=some (.v (.bl true),M):=by
 intro ns hl;have c0:=fun N=>KR (M:=N) (ns:=ns) (k:=0) (by decide);have c1:=fun N=>KR (M:=N) (ns:=ns) (k:=1) (by decide);have c12:=fun N=>KR (M:=N) (ns:=ns) (k:=12) (by decide);obtain⟨cs,k1,k2,kc⟩:=zdV hl;generalize ns.getD (0:Int).toNat 0=v0 at c0;generalize ns.getD (1:Int).toNat 0=v1 at c1;generalize ns.getD (12:Int).toNat 0=v12 at c12;obtain⟨rs,E,ab,G,gl,ge⟩:=zf3 (M:=[]) (b:=decide (v0/8%2=1)) (cs:=cs) (by lia);obtain⟨xs,x1,_,xd⟩:=Bu (n:=v12+31*v1+v0) (m:=8) (by decide);have xd:∀M:Mm,wY [.int (v12+31*v1+v0),.int 8] M=some (.v (.lst (xs.map .int)),M):=xd;obtain⟨x0,e0⟩:=Bm (xs:=xs) (i:=0) (by decide) (by lia);have m0:=xaL x0 (show(4:Int)≠0 by decide);have m1:=xaK x0 (show(0:Int)<4 by decide);have cm:rD (aj (.bl true)) Q_ [] (rs.map RW.D) [] E=some ([]++rs.map fun r=>D.str (Txt.join " " r.ws),E):=by
  refine vq RW.D (fun r=>D.str (Txt.join " " r.ws)) rs [] (fun r hr=>?_) (by rw[xay];simp;lia);have hw:=G.wf r hr;have hs:=zeL (B:=22) fun x hx=>(hw.1 x hx).1;have hw2:=hw.2;unfold Q_;erw [zgT (by lia) (by lia)]
 have em:(rs.map fun r=>D.str (Txt.join " " r.ws))=(rs.map fun r=>Txt.join " " r.ws).map D.str:=by rw[xa4];rfl
 rw[em,xbq]at cm;have hL0:g_ ((rs.map fun r=>Txt.join " " r.ws).map aZ) 0 [] []=.inl rs:=by
  rw[show(rs.map fun r=>Txt.join " " r.ws).map aZ=rs.map RW.ws by rw[xa4];exact xd6 fun r hr=>(Zb (G.wf r hr)).2];exact zgm G.ws
 have hLL:∀l∈(rs.map fun r=>Txt.join " " r.ws),LL 1104 47 l:=fun l hl=>by
  obtain⟨r,hr,rfl⟩:=xaV.mp hl;exact(Zb (G.wf r hr)).1
 have hLe:(rs.map fun r=>Txt.join " " r.ws).length<=41:=by rw[xah];lia
 have hLn:(rs.map fun r=>Txt.join " " r.ws)≠ []:=fun e=>by
  have:=congrArg List.length e;rw[xah,xa6]at this;lia
 generalize (rs.map fun r=>Txt.join " " r.ws)=L0 at *;obtain⟨L,s5,hL,h50,hz,lp⟩:=zfC (N:=E) (xs:=xs) (mn:=x0%4) (s0:=.val (.lst (ns.map .int))) (s1:=.val (.bl (decide (v0/8%2=1)))) (s4:=.val (.int (x0%4))) hLn hLe hLL x1 ⟨m0,m1⟩;unfold xG Yg Ke;erw [c0];unfold ZW;erw [kc,ge,cm];unfold Z1;erw [c12,c1,c0,xd];unfold Z2;erw [e0];unfold Z4;erw [Cz (by lia),lp];exact R4 hL h50 fun z=>⟨rs,by rw[hz z];exact hL0⟩
def zir {l:W.OpenLaw}{w:World}{K:Fgx}{mg:Mgx}{C:Ad}{h base:Heap}{f46 f47 f48:Addr}{d46 d47 d48:FuncData}(X:K.In h)(G:h.Ns mainGlobals mg)(T:Txt K mg C w)
  (F0:aY K "is_figures" Nq)
  (F1:aY K "is_signed_figures" NK)
  (F2:aY K "is_count" Nk)
  (F3:aY K "is_number" Nv)
  (F4:aY K "is_leaf" Nt)
  (F5:aY K "take_needed" Ob)
  (F6:aY K "check_words" Ng)
  (F7:aY K "read_expr" N6)
  (F8:aY K "read_cond" N5)
  (F9:aY K "is_name" Nu)
  (F10:aY K "is_count_within" Nm)
  (F11:aY K "is_expr" Np)
  (F12:aY K "is_cond" Nj)
  (F13:aY K "is_share_rest" Nz)
  (F14:aY K "is_width_rest" NZ)
  (F15:aY K "is_slide_rest" NP)
  (F16:aY K "is_join_rest" Nr)
  (F17:aY K "is_rest_of" Nx)
  (F18:aY K "row_of" N8)
  (F19:aY K "has_its_froms" Nh)
  (F20:aY K "is_row" Ny)
  (F21:aY K "has_its_names" Ni)
  (F22:aY K "read_works" N7)
  (F23:aY K "shown_row" N_)
  (F24:aY K "shown_works" Oa)
  (F25:aY K "_law_cell_at" Mw)
  (F26:aY K "_law_cells" Mx)
  (F27:aY K "_law_drawn" MJ)
  (F28:aY K "_law_leaf" MN)
  (F29:aY K "_law_expr" Jh)
  (F30:aY K "_law_cond" Jg)
  (F31:aY K "_law_name" M8)
  (F32:aY K "_law_row" M_)
  (F33:aY K "_law_digits" MF)
  (F34:aY K "_law_leaf_from" MP)
  (F35:aY K "_law_expr_from" Ji)
  (F36:aY K "_law_cond_from" Mz)
  (F37:aY K "_law_row_from" Jj)
  (F38:aY K "_law_rows" Nb)
  (F39:aY K "_law_line" M6)
  (F40:aY K "_law_sign_in" Nf)
  (F41:aY K "_law_changed" Eu)
  (F42:aY K "_law_told" Jk)
  (F43:aY K "_law_froms" MK)
  (F44:aY K "_law_misnamed" M7)
  (F45:aY K "_law_read" M9)
  (D46:DefAt K mg "law" wC N11l f46 d46)
  (D47:IniAt K C.Expr "Expr.__init__" Ay N6l f47 d47)
  (D48:IniAt K C.Cond "Cond.__init__" Ax N6l f48 d48)
  :FnOk l.prog w K mg base pF Ca f46 d46 N11l (CT K mg 1 xG):=by
 have A0:aR l.prog w K mg base 1 "is_figures" 1 Bv:=(F0.ok X G zat (fun _=>zbA (k:=0) T) :);have A1:aR l.prog w K mg base 2 "is_signed_figures" 1 Hf:=(F1.ok X G zaa (fun _=>zap (k:=1) T A0.up) :);have A2:aR l.prog w K mg base 2 "is_count" 1 G4:=(F2.ok X G zaL (fun _=>zcz (k:=1) T A0.up) :);have A3:aR l.prog w K mg base 3 "is_number" 1 G8:=(F3.ok X G zaA (fun _=>zbU (k:=2) T A1.up) :);have A4:aR l.prog w K mg base 4 "is_leaf" 2 G6:=(F4.ok X G za9 (fun _=>zcX (k:=3) T A3.up) :);have B5:nM l.prog w K mg base 1 "take_needed" 2 DQ:=(F5.okX X G zam (fun _=>zbf (k:=0) T) :);have A5:=B5.quiet;have B6:nM l.prog w K mg base 5 "check_words" 3 Ab:=(F6.okX X G zak (fun _=>zbg (k:=4) T A4.up B5.up) :);have A6:=B6.quiet;have A47:wH l.prog w K mg base 1 C.Expr 2 GD:=⟨_,_,_,D47.M,KQ (b:=J2) D47.F zai (by decide) (zaN (k:=0) T),D47.b⟩;have B7:nM l.prog w K mg base 6 "read_expr" 2 BJ:=(F7.okX X G zaC (fun _=>zbQ (k:=5) (k0:=4) T rfl A47.up B6.up) :);have A7:=B7.quiet;have A48:wH l.prog w K mg base 1 C.Cond 2 GC:=⟨_,_,_,D48.M,KQ (b:=J1) D48.F zac (by decide) (zaQ (k:=0) T),D48.b⟩;have B8:nM l.prog w K mg base 6 "read_cond" 1 Bx:=(F8.okX X G zaG (fun _=>zbS (k:=5) (k0:=4) T rfl A48.up B6.up) :);have A8:=B8.quiet;have A9:aR l.prog w K mg base 1 "is_name" 1 G7:=(F9.ok X G za7 (fun _=>zcV (k:=0) T) :);have A10:aR l.prog w K mg base 3 "is_count_within" 3 wu:=(F10.ok X G zab (fun _=>zay (k:=2) T A2.up) :);have A11:aR l.prog w K mg base 7 "is_expr" 2 Ac:=(F11.ok X G zbb (fun _=>zdN (k:=6) T B7.up) :);have A12:aR l.prog w K mg base 7 "is_cond" 1 DN:=(F12.ok X G za5 (fun _=>zdL (k:=6) T B8.up) :);have A13:aR l.prog w K mg base 4 "is_share_rest" 1 G_:=(F13.ok X G zaf (fun _=>zaV (k:=3) T A10.up) :);have A14:aR l.prog w K mg base 4 "is_width_rest" 1 Bw:=(F14.ok X G zad (fun _=>zaT (k:=3) T A10.up) :);have A15:aR l.prog w K mg base 5 "is_slide_rest" 1 Hg:=(F15.ok X G zag (fun _=>zaU (k:=4) T A10.up A14.up) :);have A16:aR l.prog w K mg base 8 "is_join_rest" 1 G5:=(F16.ok X G zaj (fun _=>za3 (k:=7) T A10.up A11.up) :);have A17:aR l.prog w K mg base 9 "is_rest_of" 2 G9:=(F17.ok X G zav (fun _=>zbE (k:=8) T A11.up A12.up A13.up A14.up A15.up A16.up) :);have A18:aR l.prog w K mg base 1 "row_of" 1 BK:=(F18.ok X G zbm (fun _=>zey (k:=0) T) :);have A19:aR l.prog w K mg base 1 "has_its_froms" 1 GX:=(F19.ok X G zah (fun _=>zaM (k:=0) T) :);have A20:aR l.prog w K mg base 10 "is_row" 1 DP:=(F20.ok X G zbx (fun _=>zd0 (k:=9) T A9.up A17.up A18.up A19.up) :);have A21:aR l.prog w K mg base 1 "has_its_names" 2 GZ:=(F21.ok X G zae (fun _=>zaZ (k:=0) T) :);have B22:nM l.prog w K mg base 11 "read_works" 1 Ae:=(F22.okX X G zaw (fun _=>zby (k:=10) T (by decide) A18.up A20.up A21.up) :);have A22:=B22.quiet;have A23:aR l.prog w K mg base 1 "shown_row" 1 Hh:=(F23.ok X G zaJ (fun _=>zbT (k:=0) T) :);have A24:aR l.prog w K mg base 2 "shown_works" 1 Hi:=(F24.ok X G zal (fun _=>zbk (k:=1) T A23.up) :);have A25:aR l.prog w K mg base 1 "_law_cell_at" 2 wX:=(F25.ok X G zaP (fun _=>zct (k:=0) T) :);have A27:aR l.prog w K mg base 1 "_law_drawn" 2 wY:=(F27.ok X G zbv (fun _=>zeb (k:=0) T) :);have A26:aR l.prog w K mg base 2 "_law_cells" 1 Du:=(F26.ok X G zbH (fun _=>zem (k:=1) T A25.up A27.up) :);have A28:aR l.prog w K mg base 1 "_law_leaf" 2 yZ:=(F28.ok X G zcj (fun _=>zgd (k:=0) T) :);have A29:aR l.prog w K mg base 2 "_law_expr" 3 Dv:=(F29.ok X G zb2 (fun _=>zfZ (k:=1) T A28.up) :);have A30:aR l.prog w K mg base 2 "_law_cond" 2 GF:=(F30.ok X G zbW (fun _=>zfQ (k:=1) T A28.up) :);have A31:aR l.prog w K mg base 1 "_law_name" 2 GQ:=(F31.ok X G zcd (fun _=>zgz (k:=0) T) :);have A32:aR l.prog w K mg base 3 "_law_row" 3 Dz:=(F32.ok X G zc2 (fun _=>ziO (k:=2) T A29.up A30.up A31.up) :);have A33:aR l.prog w K mg base 1 "_law_digits" 2 GK:=(F33.ok X G zba (fun _=>zdK (k:=0) T) :);have A34:aR l.prog w K mg base 1 "_law_leaf_from" 2 z_:=(F34.ok X G zas (fun _=>zbI (k:=0) T) :);have A35:aR l.prog w K mg base 2 "_law_expr_from" 3 Dw:=(F35.ok X G zau (fun _=>zbp (k:=1) T A34.up) :);have A36:aR l.prog w K mg base 2 "_law_cond_from" 2 GJ:=(F36.ok X G zar (fun _=>zbs (k:=1) T A34.up) :);have A37:aR l.prog w K mg base 3 "_law_row_from" 3 DG:=by
  refine @aY.ok l.prog w K h base mg 2 "_law_row_from" Jj N0l ["_law_k","_law_number","_law_above"] J8 F37 X G zaB ?_ ?_ ?_
  .intro f;refine @zbP l.prog w K mg C base 2 f T ?_ ?_ ?_
   .exact A33.up
   .exact A35.up
   .exact A36.up
  .exact O8 rfl
  .decide
 have A38:aR l.prog w K mg base 4 "_law_rows" 2 GR:=(F38.ok X G zbZ (fun _=>zgL (k:=3) T A27.up A32.up A37.up) :);have A39:aR l.prog w K mg base 1 "_law_line" 1 GP:=(F39.ok X G zch (fun _=>zfw (k:=0) T) :);have A40:aR l.prog w K mg base 1 "_law_sign_in" 3 DK:=(F40.ok X G zaW (fun _=>zcx (k:=0) T) :);have A41:aR l.prog w K mg base 2 "_law_changed" 3 yt:=(F41.ok X G zaO (fun _=>zcI (k:=1) T A40.up) :);have A42:aR l.prog w K mg base 12 "_law_told" 1 sX:=(F42.ok X G zbX (fun _=>zgD (k:=11) T B22.up) :);have A43:aR l.prog w K mg base 1 "_law_froms" 1 z9:=(F43.ok X G zbJ (fun _=>zek (k:=0) T) :);have A44:aR l.prog w K mg base 2 "_law_misnamed" 2 Aa:=(F44.ok X G zaF (fun _=>zbL (k:=1) T A43.up) :);have A45:aR l.prog w K mg base 3 "_law_read" 2 Dy:=(F45.ok X G zci (fun _=>zf5 (k:=2) T A24.up A43.up A44.up) :);refine @KQ l.prog w K mg base 12 "law" "law" wC f46 d46 N1l N11l Ke ?_ ?_ ?_ ?_
 .exact D46.F
 .exact zfk
 .decide
 .exact @zj0 l.prog w K mg C base 12 f46 T A25.up A26.up A27.up A38.up A39.up A41.up A42.up A44.up A45.up
def all_mk {l:W.OpenLaw}{w:World}{K:W.Frag}{h:Heap}{mg:Mgx}{fa:Addr}(X:K.In h)(G:h.Ns mainGlobals mg)(hfa:mg "law"=some (.ref fa))
  (j6:W.nsIn K mainGlobals "Cond"=some (some (.ref j7)))
  (j8:W.nsIn K mainGlobals "Expr"=some (some (.ref j9)))
  (jc:W.nsIn K mainGlobals "DamError"=some (some (.ref jd)))
  (je:W.nsIn K mainGlobals "NoExpr"=some (some (.ref jf)))
  (jg:W.nsIn K mainGlobals "NoName"=some (some (.ref jh)))
  (ji:W.nsIn K mainGlobals "NoText"=some (some (.ref jm)))
  (jo:W.plainGet K j7 Str.empty=true) (jq:W.hasDictIn K j7=true) (jr:W.plainOver K j7=true) (jt:W.findIn K (.ref j7) "__setattr__"=some (some (.builtin "object.__setattr__")))
  (ju:W.plainGet K j9 Str.empty=true) (jw:W.hasDictIn K j9=true) (jy:W.plainOver K j9=true) (jz:W.findIn K (.ref j9) "__setattr__"=some (some (.builtin "object.__setattr__")))
  (jA:W.findIn K (.ref j9) "parts"=some none)
  (jB:W.findIn K (.ref j7) "parts"=some none)
  (jC:eU K jd=true)
  (jD:eU K jf=true)
  (jE:eU K jh=true)
  (jF:eU K jm=true)
  (jG:Dd K jd=true)
  (jH:W.findIn K (.ref jh) "__init__"=some (some (.ref jJ))) (jK:K.lookup jJ=some ⟨jM,jN,.func (W.fnOf "__init__" "NoName.__init__" (nW Er) (k_ Er) (b_ Er) .none jO jP jQ jR jU jV),jW⟩) (jX:W.codeIn K jU "NoName.__init__"=true) (jY:W.keepIn K (.ref jJ)=true)
  (jZ:Df K jh jJ=true) (qb:W.keepIn K (.ref jh)=true) (qe:sI K jh "at"=true) (qg:Bd K jh=true)
  (qj:W.findIn K (.ref jm) "__init__"=some (some (.ref ql))) (qm:K.lookup ql=some ⟨qp,qt,.func (W.fnOf "__init__" "NoText.__init__" (nW Et) (k_ Et) (b_ Et) .none qu qw qx qy qz qC),qD⟩) (qF:W.codeIn K qz "NoText.__init__"=true) (qG:W.keepIn K (.ref ql)=true)
  (qH:Df K jm ql=true) (qI:W.keepIn K (.ref jm)=true) (qJ:sI K jm "at"=true) (qK:Bd K jm=true)
  (qL:JN K jf=true) (qM:W.keepIn K (.ref jf)=true) (qN:Bd K jf=true)
  (qO:kW K jf jf=true)
  (qP:kW K jh jh=true)
  (qQ:kW K jm jm=true)
  (qR:kW K jf jh=false)
  (qT:kW K jf jm=false)
  (qU:kW K jh jm=false)
  (qW:kW K jm jh=false)
  (F0:aY K "is_figures" Nq)
  (F1:aY K "is_signed_figures" NK)
  (F2:aY K "is_count" Nk)
  (F3:aY K "is_number" Nv)
  (F4:aY K "is_leaf" Nt)
  (F5:aY K "take_needed" Ob)
  (F6:aY K "check_words" Ng)
  (F7:aY K "read_expr" N6)
  (F8:aY K "read_cond" N5)
  (F9:aY K "is_name" Nu)
  (F10:aY K "is_count_within" Nm)
  (F11:aY K "is_expr" Np)
  (F12:aY K "is_cond" Nj)
  (F13:aY K "is_share_rest" Nz)
  (F14:aY K "is_width_rest" NZ)
  (F15:aY K "is_slide_rest" NP)
  (F16:aY K "is_join_rest" Nr)
  (F17:aY K "is_rest_of" Nx)
  (F18:aY K "row_of" N8)
  (F19:aY K "has_its_froms" Nh)
  (F20:aY K "is_row" Ny)
  (F21:aY K "has_its_names" Ni)
  (F22:aY K "read_works" N7)
  (F23:aY K "shown_row" N_)
  (F24:aY K "shown_works" Oa)
  (F25:aY K "_law_cell_at" Mw)
  (F26:aY K "_law_cells" Mx)
  (F27:aY K "_law_drawn" MJ)
  (F28:aY K "_law_leaf" MN)
  (F29:aY K "_law_expr" Jh)
  (F30:aY K "_law_cond" Jg)
  (F31:aY K "_law_name" M8)
  (F32:aY K "_law_row" M_)
  (F33:aY K "_law_digits" MF)
  (F34:aY K "_law_leaf_from" MP)
  (F35:aY K "_law_expr_from" Ji)
  (F36:aY K "_law_cond_from" Mz)
  (F37:aY K "_law_row_from" Jj)
  (F38:aY K "_law_rows" Nb)
  (F39:aY K "_law_line" M6)
  (F40:aY K "_law_sign_in" Nf)
  (F41:aY K "_law_changed" Eu)
  (F42:aY K "_law_told" Jk)
  (F43:aY K "_law_froms" MK)
  (F44:aY K "_law_misnamed" M7)
  (F45:aY K "_law_read" M9)
  (a46:W.nsIn K mainGlobals "law"=some (some (.ref f46))) (l46:K.lookup f46=some ⟨oc46,od46,.func (W.fnOf "law" "law" (nW wC) (k_ wC) (b_ wC) .none kV46 dc46 pm46 an46 cd46 ct46),sl46⟩) (c46:W.codeIn K cd46 "law"=true) (k46:W.keepIn K (.ref f46)=true)
  (a47:W.findIn K (.ref j9) "__init__"=some (some (.ref f47))) (l47:K.lookup f47=some ⟨oc47,od47,.func (W.fnOf "__init__" "Expr.__init__" (nW Ay) (k_ Ay) (b_ Ay) .none kV47 dc47 pm47 an47 cd47 ct47),sl47⟩) (c47:W.codeIn K cd47 "Expr.__init__"=true) (k47:W.keepIn K (.ref f47)=true)
  (n47:W.isFn K (.ref f47)=true)
  (w47:W.makesIn K j9=true) (y47:W.keepIn K (.ref j9)=true)
  (a48:W.findIn K (.ref j7) "__init__"=some (some (.ref f48))) (l48:K.lookup f48=some ⟨oc48,od48,.func (W.fnOf "__init__" "Cond.__init__" (nW Ax) (k_ Ax) (b_ Ax) .none kV48 dc48 pm48 an48 cd48 ct48),sl48⟩) (c48:W.codeIn K cd48 "Cond.__init__"=true) (k48:W.keepIn K (.ref f48)=true)
  (n48:W.isFn K (.ref f48)=true)
  (w48:W.makesIn K j7=true) (y48:W.keepIn K (.ref j7)=true)
  (qX:W.nsIn K mainGlobals "any"=some none)
  (qY:W.nsIn K mainGlobals "len"=some none)
  (qZ:W.nsIn K mainGlobals "range"=some none)
  (o7:W.nsIn K mainGlobals "reversed"=some none)
  (o8:W.nsIn K mainGlobals "all"=some none)
  (o9:W.nsIn K mainGlobals "int"=some none)
  (oh:W.nsIn K mainGlobals "tuple"=some none)
  (ou:W.nsIn K mainGlobals "enumerate"=some none)
  (oA:W.nsIn K mainGlobals "str"=some none)
  (oE:W.nsIn K mainGlobals "min"=some none)
  (oF:W.nsIn K mainGlobals "list"=some none)
  (oG:W.nsIn K mainGlobals "isinstance"=some none)
  (oH:W.nsIn K mainGlobals "dict"=some none)
  (oJ:W.nsIn K mainGlobals "bool"=some none)
  (oK:W.nsIn K mainGlobals "ALL_LETTERS"=some (some (.ref oM))) (oN:K.lookup oM=some ⟨.type "tuple",oO,.seq #[.str "t" oR,.str "v" oU,.str "w" oV] oW,oX⟩)
  (oY:W.nsIn K mainGlobals "FOLDS"=some (some (.ref oZ))) (iy:K.lookup oZ=some ⟨.type "tuple",iz,.seq #[.str "sum" iC,.str "count" iD,.str "most" iG,.str "least" iH] iI,iJ⟩)
  (iK:W.nsIn K mainGlobals "NEEDS"=some (some (.ref iM)))
  (iQ:K.lookup iM=some ⟨.type "dict",none,.dict #[⟨iR,.str "+" iT,.ref iU⟩,⟨iV,.str "-" iW,.ref iY⟩,⟨iZ,.str "*" u9,.ref uo⟩,⟨uq,.str "least" uw,.ref ux⟩,⟨uy,.str "most" uz,.ref uD⟩,⟨uE,.str "<" uF,.ref uG⟩,⟨uH,.str "=" uI,.ref uJ⟩,⟨uK,.str "not" uL,.ref uM⟩,⟨uN,.str "and" uO,.ref uP⟩,⟨uQ,.str "or" uR,.ref uT⟩] uU, #[]⟩) (uV:(iM==sysModules)=false)
  (uW:iR=hashStr w "+")
  (uX:K.lookup iU=some ⟨.type "tuple",uY,.seq #[.str "number" uZ,.str "number" v7,.int 2 v8] v9,vA⟩)
  (vB:iV=hashStr w "-")
  (vC:K.lookup iY=some ⟨.type "tuple",vD,.seq #[.str "number" vG,.str "number" vH,.int 2 vI] vJ,vK⟩)
  (vL:iZ=hashStr w "*")
  (vM:K.lookup uo=some ⟨.type "tuple",vN,.seq #[.str "number" vO,.str "number" vP,.int 2 vQ] vR,vU⟩)
  (vV:uq=hashStr w "least")
  (vW:K.lookup ux=some ⟨.type "tuple",vX,.seq #[.str "number" vY,.str "number" vZ,.int 2 rA] rB,rC⟩)
  (rE:uy=hashStr w "most")
  (rF:K.lookup uD=some ⟨.type "tuple",rG,.seq #[.str "number" rH,.str "number" rJ,.int 2 rK] rM,rN⟩)
  (rO:uE=hashStr w "<")
  (rP:K.lookup uG=some ⟨.type "tuple",rQ,.seq #[.str "truth" rR,.str "number" rW,.int 2 rY] rZ,c7⟩)
  (cg:uH=hashStr w "=")
  (cj:K.lookup uJ=some ⟨.type "tuple",cu,.seq #[.str "truth" cA,.str "number" cB,.int 2 cC] cD,cF⟩)
  (cG:uK=hashStr w "not")
  (cH:K.lookup uM=some ⟨.type "tuple",cI,.seq #[.str "truth" cJ,.str "truth" cL,.int 1 cM] cN,cO⟩)
  (cP:uN=hashStr w "and")
  (cQ:K.lookup uP=some ⟨.type "tuple",cR,.seq #[.str "truth" cT,.str "truth" cU,.int 2 cV] cW,cX⟩)
  (cY:uQ=hashStr w "or")
  (cZ:K.lookup uT=some ⟨.type "tuple",bf,.seq #[.str "truth" bw,.str "truth" bx,.int 2 bA] bB,bC⟩)
  (bF:W.nsIn K mainGlobals "FROMS"=some (some (.ref bG)))
  (bH:K.lookup bG=some ⟨.type "dict",none,.dict #[⟨bI,.str "in" bJ,.int 0 bK⟩,⟨bL,.str "keep" bM,.int 1 bN⟩,⟨bO,.str "turn" bQ,.int 1 bR⟩,⟨bT,.str "share" bU,.int 1 bV⟩,⟨bW,.str "pour" bY,.int 8 bZ⟩,⟨d7,.str "fixed" d8,.int 1 d9⟩,⟨dh,.str "slide" dw,.int 1 dz⟩,⟨dB,.str "gap" dD,.int 1 dF⟩,⟨dG,.str "join" dH,.int 2 dI⟩,⟨dJ,.str "out" dM,.int 1 dN⟩] dO, #[]⟩) (dR:(bG==sysModules)=false)
  (dU:bI=hashStr w "in")
  (dW:bL=hashStr w "keep")
  (dX:bO=hashStr w "turn")
  (dY:bT=hashStr w "share")
  (dZ:bW=hashStr w "pour")
  (m7:d7=hashStr w "fixed")
  (m8:dh=hashStr w "slide")
  (mj:dB=hashStr w "gap")
  (mq:dG=hashStr w "join")
  (mC:dJ=hashStr w "out")
  (mD:W.nsIn K mainGlobals "FIGURES"=some (some (.str "0123456789" mF)))
  (mG:W.nsIn K mainGlobals "MOST_FIGURES"=some (some (.int 20 mH)))
  (mJ:W.nsIn K mainGlobals "LETTERS"=some (some (.str "abcdefghijklmnopqrstuvwxyz" mK)))
  (mL:W.nsIn K mainGlobals "COND_LETTERS"=some (some (.str "tv" mO)))
  (mQ:W.nsIn K mainGlobals "MOST_SIGNS"=some (some (.int 12 mR)))
  (mU:W.nsIn K mainGlobals "MOST_SHARES"=some (some (.int 8 mV)))
  (mW:W.nsIn K mainGlobals "MOST_SPREAD"=some (some (.int 8 mX)))
  (mY:W.nsIn K mainGlobals "MOST_SPAN"=some (some (.int 1000000000000 mZ)))
  :∃fd:FuncData,(∀(s:Shared) (v:Value),BindsTo s fd ⟨[v],[]⟩ [("_law_script",v)])/\∀base:Heap,K.In base->base.Ns mainGlobals mg->FnOk l.prog w K mg base pF Ca fa fd N11l (Jp K xG):=by
 have e:=hfa.symm.trans (xby X G a46);cases e;have T:Txt (w:=w) K mg ⟨j7,j9,jd,jf,jh,jm⟩:=⟨by simp only[Gi,xaz,xdO,or_false,forall_eq_or_imp,forall_eq];exact⟨xbp X G qX,xbp X G qY,xbp X G qZ,xbp X G o7,xbp X G o8,xbp X G o9,xbp X G oh,xbp X G ou,xbp X G oA,xbp X G oE,xbp X G oF,xbp X G oG,xbp X G oH,xbp X G oJ⟩,⟨xby X G j6,jo,jq,jr,jt⟩,⟨xby X G j8,ju,jw,jy,jz⟩,jA,jB,xby X G jc,jC,xby X G je,jD,xby X G jg,jE,xby X G ji,jF,qL,qM,qN,qb,qg,qI,qK,qO,qP,qQ,qR,qT,qU,qW,jG,qe,⟨_,_,jZ,Ds jK jX jY,(Dt (st:=Er) jK jX jY).binds (ps:=N13l) fun _ _ _ _ _ _ us hl=>match us,hl with | [_,_],_=>rfl⟩,qJ,⟨_,_,qH,Ds qm qF qG,(Dt (st:=Et) qm qF qG).binds (ps:=N13l) fun _ _ _ _ _ _ us hl=>match us,hl with | [_,_],_=>rfl⟩,⟨_,xby X G oK,RD (vs:=[(.str "t"),(.str "v"),(.str "w")]) (its:= #[.str "t" _,.str "v" _,.str "w" _]) (o:=⟨.type "tuple",_,.seq #[.str "t" _,.str "v" _,.str "w" _] _,_⟩) oN rfl rfl (by show 3<=sizeLine;decide) (.cons ⟨_,rfl⟩ (.cons ⟨_,rfl⟩ (.cons ⟨_,rfl⟩ (.nil)))) (fun _ _=>⟨_,_,rfl,rfl,⟨_,_,rfl,rfl,⟨_,_,rfl,rfl,rfl⟩⟩⟩)⟩,⟨_,xby X G oY,RD (vs:=[(.str "sum"),(.str "count"),(.str "most"),(.str "least")]) (its:= #[.str "sum" _,.str "count" _,.str "most" _,.str "least" _]) (o:=⟨.type "tuple",_,.seq #[.str "sum" _,.str "count" _,.str "most" _,.str "least" _] _,_⟩) iy rfl rfl (by show 4<=sizeLine;decide) (.cons ⟨_,rfl⟩ (.cons ⟨_,rfl⟩ (.cons ⟨_,rfl⟩ (.cons ⟨_,rfl⟩ (.nil))))) (fun _ _=>⟨_,_,rfl,rfl,⟨_,_,rfl,rfl,⟨_,_,rfl,rfl,⟨_,_,rfl,rfl,rfl⟩⟩⟩⟩)⟩,⟨_,xby X G iK,_,_,_,_,iQ,⟨rfl,rfl,rfl⟩,rfl,.cons (v:=.ref iU) uW rfl (yu uX) (.cons (v:=.ref iY) vB rfl (yu vC) (.cons (v:=.ref uo) vL rfl (yu vM) (.cons (v:=.ref ux) vV rfl (yu vW) (.cons (v:=.ref uD) rE rfl (yu rF) (.cons (v:=.ref uG) rO rfl (yu rP) (.cons (v:=.ref uJ) cg rfl (yu cj) (.cons (v:=.ref uM) cG rfl (yu cH) (.cons (v:=.ref uP) cP rfl (yu cQ) (.cons (v:=.ref uT) cY rfl (yu cZ) (.nil)))))))))),by x_go,uV⟩,⟨_,xby X G bF,_,_,_,_,bH,⟨rfl,rfl,rfl⟩,rfl,.cons (v:=(.int 0)) dU ⟨_,rfl⟩ (fun _ _=>rfl) (.cons (v:=(.int 1)) dW ⟨_,rfl⟩ (fun _ _=>rfl) (.cons (v:=(.int 1)) dX ⟨_,rfl⟩ (fun _ _=>rfl) (.cons (v:=(.int 1)) dY ⟨_,rfl⟩ (fun _ _=>rfl) (.cons (v:=(.int 8)) dZ ⟨_,rfl⟩ (fun _ _=>rfl) (.cons (v:=(.int 1)) m7 ⟨_,rfl⟩ (fun _ _=>rfl) (.cons (v:=(.int 1)) m8 ⟨_,rfl⟩ (fun _ _=>rfl) (.cons (v:=(.int 1)) mj ⟨_,rfl⟩ (fun _ _=>rfl) (.cons (v:=(.int 2)) mq ⟨_,rfl⟩ (fun _ _=>rfl) (.cons (v:=(.int 1)) mC ⟨_,rfl⟩ (fun _ _=>rfl) (.nil)))))))))),by x_go,dR⟩,⟨_,xby X G mD⟩,⟨_,xby X G mG⟩,⟨_,xby X G mJ⟩,⟨_,xby X G mL⟩,⟨_,xby X G mQ⟩,⟨_,xby X G mU⟩,⟨_,xby X G mW⟩,⟨_,xby X G mY⟩⟩
 have D46:DefAt K mg "law" wC N11l _ _:=⟨xby X G a46,Ds l46 c46 k46,(Dt (st:=wC) l46 c46 k46).binds (ps:=N11l) fun _ _ _ _ _ _ us hl=>match us,hl with | [_],_=>rfl⟩
 have D47:IniAt K j9 "Expr.__init__" Ay N6l _ _:=⟨⟨w47,a47,n47,y47⟩,Ds l47 c47 k47,(Dt (st:=Ay) l47 c47 k47).binds (ps:=N6l) fun _ _ _ _ _ _ us hl=>match us,hl with | [_,_],_=>rfl⟩
 have D48:IniAt K j7 "Cond.__init__" Ax N6l _ _:=⟨⟨w48,a48,n48,y48⟩,Ds l48 c48 k48,(Dt (st:=Ax) l48 c48 k48).binds (ps:=N6l) fun _ _ _ _ _ _ us hl=>match us,hl with | [_,_],_=>rfl⟩
 refine⟨W.fnOf "law" "law" (nW wC) (k_ wC) (b_ wC) .none kV46 dc46 pm46 an46 cd46 ct46,fun s v=>.of_eq rfl,fun base _ _=>zhq ?_⟩;exact zir X G T F0 F1 F2 F3 F4 F5 F6 F7 F8 F9 F10 F11 F12 F13 F14 F15 F16 F17 F18 F19 F20 F21 F22 F23 F24 F25 F26 F27 F28 F29 F30 F31 F32 F33 F34 F35 F36 F37 F38 F39 F40 F41 F42 F43 F44 F45 D46 D47 D48
end My
open PySem PySem.W PyProof.Rows
set_option maxRecDepth 100000 in
set_option maxHeartbeats 0 in
theorem PySem.Challenge.cw_rowdam_k19_whole_texts_holds : PySem.Challenge.rw_rowdam_k19_whole_texts.Holds := by
 w_on;refine HQ.two "special-get-raises" My.he My.hAf My.hBf My.hAt My.hBt ?_
 k_fill
 refine E3.zgr (l:=PySem.Challenge.rw_rowdam_k19_whole_texts) (k:=My.Ca) (g:=My.xG) (x:="_law_script") rfl rfl ⟨rfl,by decide,by decide⟩ (fun w h Y=>by first |exact PySem.W.kIn_of Y |exact PySem.W.km_in_of Y) ?F My.zgv
 case F=>
  intro w mg fa h KX G hmg
  refine' My.all_mk KX G hmg ?j6 ?j8 ?jc ?je ?jg ?ji ?jo ?jq ?jr ?jt ?ju ?jw ?jy ?jz ?jA ?jB ?jC ?jD ?jE ?jF ?jG ?jH ?jK ?jX ?jY ?jZ ?qb ?qe ?qg ?qj ?qm ?qF ?qG ?qH ?qI ?qJ ?qK ?qL ?qM ?qN ?qO ?qP ?qQ ?qR ?qT ?qU ?qW ?F0 ?F1 ?F2 ?F3 ?F4 ?F5 ?F6 ?F7 ?F8 ?F9 ?F10 ?F11 ?F12 ?F13 ?F14 ?F15 ?F16 ?F17 ?F18 ?F19 ?F20 ?F21 ?F22 ?F23 ?F24 ?F25 ?F26 ?F27 ?F28 ?F29 ?F30 ?F31 ?F32 ?F33 ?F34 ?F35 ?F36 ?F37 ?F38 ?F39 ?F40 ?F41 ?F42 ?F43 ?F44 ?F45 ?a46 ?l46 ?c46 ?k46 ?a47 ?l47 ?c47 ?k47 ?n47 ?w47 ?y47 ?a48 ?l48 ?c48 ?k48 ?n48 ?w48 ?y48 ?qX ?qY ?qZ ?o7 ?o8 ?o9 ?oh ?ou ?oA ?oE ?oF ?oG ?oH ?oJ ?oK ?oN ?oY ?iy ?iK ?iQ ?uV ?uW ?uX ?vB ?vC ?vL ?vM ?vV ?vW ?rE ?rF ?rO ?rP ?cg ?cj ?cG ?cH ?cP ?cQ ?cY ?cZ ?bF ?bH ?dR ?dU ?dW ?dX ?dY ?dZ ?m7 ?m8 ?mj ?mq ?mC ?mD ?mG ?mJ ?mL ?mQ ?mU ?mW ?mY
  (case j6 |j8 |jc |je |jg |ji |jo |jq |jr |jt |ju |jw |jy |jz |jA |jB=>k_is);(case jC |jD |jE |jF=>kernel_rfl);(case jG=>refine E3.zi9 ?_ ?_ ?_<;>k_is);(case jH |jK |jX |jY=>k_is);(case jZ=>kernel_rfl);(case qb=>k_is);(case qe=>refine E3.ze2 ?_ ?_ (E3.JM ?_ ?_ ?_) ?_ ?_<;>k_is);(case qg=>refine E3.Wl (E3.JM ?_ ?_ ?_) ?_ ?_ ?_ ?_ ?_<;>k_is);(case qj |qm |qF |qG=>k_is);(case qH=>kernel_rfl);(case qI=>k_is);(case qJ=>refine E3.ze2 ?_ ?_ (E3.JM ?_ ?_ ?_) ?_ ?_<;>k_is);(case qK=>refine E3.Wl (E3.JM ?_ ?_ ?_) ?_ ?_ ?_ ?_ ?_<;>k_is);(case qL=>kernel_rfl);(case qM=>k_is);(case qN=>refine E3.Wl (E3.JM ?_ ?_ ?_) ?_ ?_ ?_ ?_ ?_<;>k_is);(case qO |qP |qQ |qR |qT |qU |qW=>kernel_rfl);(case a46 |l46 |c46 |k46 |a47 |l47 |c47 |k47=>k_is);(case n47 |w47=>kernel_rfl);(case y47 |a48 |l48 |c48 |k48=>k_is);(case n48 |w48=>kernel_rfl);(case y48 |qX |qY |qZ |o7 |o8 |o9 |oh |ou |oA |oE |oF |oG |oH |oJ |oK |oN |oY |iy |iK |iQ=>k_is);(case uV=>first |decide +kernel |kernel_rfl);(case uW=>rfl);(case uX=>k_is);(case vB=>rfl);(case vC=>k_is);(case vL=>rfl);(case vM=>k_is);(case vV=>rfl);(case vW=>k_is);(case rE=>rfl);(case rF=>k_is);(case rO=>rfl);(case rP=>k_is);(case cg=>rfl);(case cj=>k_is);(case cG=>rfl);(case cH=>k_is);(case cP=>rfl);(case cQ=>k_is);(case cY=>rfl);(case cZ |bF |bH=>k_is);(case dR=>first |decide +kernel |kernel_rfl);(case dU |dW |dX |dY |dZ |m7 |m8 |mj |mq |mC=>rfl);(case mD |mG |mJ |mL |mQ |mU |mW |mY=>k_is);all_goals (refine' E3.aY.mk ?a ?l ?c ?k;(case a=>k_is);(case l=>k_is);(case c=>k_is);(case k=>k_is))
